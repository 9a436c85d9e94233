import PyProof.Rows.All
import Wide.All
import OpenK.AllK
import Wide.FinOn
import Lean
import PyProof.EqAt
import PyProof.EqKinds
import PyProof.TupleCall
import PySem.Challenge.RW_wheelrow_k01_whole_told
set_option Elab.async false
set_option linter.all false
set_option maxRecDepth 100000
namespace L2
open PySem PySem.Spec PyProof.Rows

/-- a key: an int or a str -/
abbrev Key := Sum Int Str
def keyIs : Key → Value → Bool
  | .inl k, v => Value.isInt k v
  | .inr x, v => Value.isStrOf x v
def keyH (w : World) : Key → Int
  | .inl k => hashInt k
  | .inr x => hashStr w x
theorem keyIs_shape : ∀ {k : Key} {v : Value}, keyIs k v = true → (∃ i t, k = Sum.inl i ∧ v = Value.int i t) ∨ (∃ x t, k = Sum.inr x ∧ v = Value.str x t)
  | .inl i, v, h => by
    obtain ⟨t, e⟩ := Value.isInt_shape (k := i) (v := v) h
    exact .inl ⟨i, t, rfl, e⟩
  | .inr x, v, h => by
    obtain ⟨t, e⟩ := Value.isStrOf_shape (x := x) (v := v) h
    exact .inr ⟨x, t, rfl, e⟩
theorem key_ll (a b : Int) : decide ((Sum.inl a : Key) = Sum.inl b) = (a == b) := by
  by_cases e : a = b
  · subst e; simp
  · have h : ¬ (Sum.inl a : Key) = Sum.inl b := fun q => e (Sum.inl.inj q)
    rw [decide_eq_false h]
    exact (beq_eq_false_iff_ne.mpr e).symm
theorem key_rr (a b : Str) : decide ((Sum.inr a : Key) = Sum.inr b) = decide (a = b) := by
  by_cases e : a = b
  · subst e; simp
  · have h : ¬ (Sum.inr a : Key) = Sum.inr b := fun q => e (Sum.inr.inj q)
    rw [decide_eq_false h, decide_eq_false e]
theorem key_lr (a : Int) (b : Str) : decide ((Sum.inl a : Key) = Sum.inr b) = false := decide_eq_false (fun q => nomatch q)
theorem key_rl (a : Str) (b : Int) : decide ((Sum.inr a : Key) = Sum.inl b) = false := decide_eq_false (fun q => nomatch q)

def mixKind (prog : Program) (w : World) : PySem.KeyKind prog w Key where
  is := keyIs
  hash := keyH w
  inj := fun v a b ha hb => by
    rcases keyIs_shape ha with ⟨i, t, rfl, rfl⟩ | ⟨x, t, rfl, rfl⟩
    · rcases keyIs_shape hb with ⟨j, u, rfl, e⟩ | ⟨y, u, rfl, e⟩
      · injection e with e1 _; rw [e1]
      · exact nomatch e
    · rcases keyIs_shape hb with ⟨j, u, rfl, e⟩ | ⟨y, u, rfl, e⟩
      · exact nomatch e
      · injection e with e1 _; rw [e1]
  byValue := fun k v h => by
    rcases keyIs_shape h with ⟨i, t, rfl, rfl⟩ | ⟨x, t, rfl, rfl⟩ <;> rfl
  pyHash := fun hv h => by
    rcases keyIs_shape hv with ⟨i, t, rfl, rfl⟩ | ⟨x, t, rfl, rfl⟩
    · exact wpAny_pyHash_int h
    · exact wpAny_pyHash_str h
  eqBool := fun hu hv h => by
    rcases keyIs_shape hu with ⟨i, t, rfl, rfl⟩ | ⟨x, t, rfl, rfl⟩
    · rcases keyIs_shape hv with ⟨j, u, rfl, rfl⟩ | ⟨y, u, rfl, rfl⟩
      · rw [key_ll] at h; exact wpAny_eqBool_int h
      · rw [key_lr] at h; exact SeqAt.EqAt.int_str i t y u _ _ _ _ h
    · rcases keyIs_shape hv with ⟨j, u, rfl, rfl⟩ | ⟨y, u, rfl, rfl⟩
      · rw [key_rl] at h; exact SeqAt.EqAt.str_int x t j u _ _ _ _ h
      · rw [key_rr] at h; exact wpAny_eqBool_str h
  «strs» := fun k x t v h => by
    rcases keyIs_shape h with ⟨i, u, rfl, e⟩ | ⟨y, u, rfl, e⟩
    · exact nomatch e
    · injection e with e1 _
      subst e1
      cases v <;> rfl

end L2

namespace L2
open PySem PySem.Spec PyProof.Rows

/-- a value, without the heap -/
inductive V where
  | non | bl (b : Bool) | int (i : Int) | str (x : Str) | byt (b : Array UInt8) | flt (b : UInt64) | ref (a : Addr) | ty (n : String)
  deriving DecidableEq

def RelV : V → Value → Prop
  | .non, u => u = Value.none
  | .bl b, u => u = Value.bool b
  | .int i, u => ∃ t, u = Value.int i t
  | .str x, u => ∃ t, u = Value.str x t
  | .byt b, u => ∃ t, u = Value.bytes b t
  | .flt b, u => ∃ t, u = Value.float b t
  | .ref a, u => u = Value.ref a
  | .ty n, u => u = Value.type n

abbrev Vals : List V → List Value → Prop := Paired RelV
theorem Vals.length {xs : List V} {us : List Value} (r : Vals xs us) : xs.length = us.length := Paired.length r
theorem Vals.get : ∀ {xs : List V} {us : List Value} {i : Nat} {x : V}, Vals xs us → xs[i]? = some x → ∃ u, us[i]? = some u ∧ RelV x u
  | _, _, _, _, .nil, e => by simp at e
  | _, _, 0, _, .cons r _, e => by simp at e; subst e; exact ⟨_, rfl, r⟩
  | _, _, i + 1, x, .cons _ t, e => by
    obtain ⟨u, h1, h2⟩ := Vals.get (i := i) (x := x) t (by simpa using e)
    exact ⟨u, by simpa using h1, h2⟩
theorem Vals.set {x : V} {u : Value} (r : RelV x u) : ∀ {xs : List V} {us : List Value} (i : Nat), Vals xs us → Vals (xs.set i x) (us.set i u)
  | _, _, _, .nil => .nil
  | _, _, 0, .cons _ t => .cons r t
  | _, _, i + 1, .cons q t => .cons q (Vals.set r i t)
theorem Vals.append : ∀ {xs ys : List V} {us ws : List Value}, Vals xs us → Vals ys ws → Vals (xs ++ ys) (us ++ ws)
  | _, _, _, _, .nil, s => s
  | _, _, _, _, .cons r t, s => .cons r (Vals.append t s)
theorem Vals.take : ∀ {xs : List V} {us : List Value} (n : Nat), Vals xs us → Vals (xs.take n) (us.take n)
  | _, _, 0, _ => .nil
  | _, _, _ + 1, .nil => .nil
  | _, _, n + 1, .cons r t => .cons r (Vals.take n t)
theorem Vals.drop : ∀ {xs : List V} {us : List Value} (n : Nat), Vals xs us → Vals (xs.drop n) (us.drop n)
  | _, _, 0, r => r
  | _, _, _ + 1, .nil => .nil
  | _, _, n + 1, .cons _ t => Vals.drop n t
theorem Vals.none_of : ∀ {xs : List V} {us : List Value} {i : Nat}, Vals xs us → xs[i]? = none → us[i]? = none := fun {xs us i} r e => by
  have h1 := r.length
  have h2 : xs.length ≤ i := List.getElem?_eq_none_iff.mp e
  exact List.getElem?_eq_none_iff.mpr (by omega)

def RelO : Option V → Option Value → Prop
  | some v, some u => RelV v u
  | none, none => True
  | _, _ => False
def KV {κ : Type} : List (κ × V) → List (κ × Value) → Prop := Paired fun (p : κ × V) (q : κ × Value) => p.1 = q.1 ∧ RelV p.2 q.2

/-- a key of a dict (00_mix): an int or a text -/
def kV : Key → V
  | .inl i => .int i
  | .inr x => .str x

/-- what stands at a tracked address -/
inductive HO where
  /-- a list -/
  | lst (xs : List V)
  /-- a tuple (never changes) -/
  | tup (xs : List V)
  /-- a dict whose keys are ints and texts; one whose keys are tuples of ints and texts (the empty one is both) -/
  | dK (kvs : List (Key × V)) | dT (kvs : List (List Key × V))
  /-- a set of ints: its members, its size -/
  | set (S : Int → Bool) (n : Nat)
  /-- an instance of the class at C, its dict at dx, its attributes -/
  | ins (C dx : Addr) (fs : List (Str × V))
  /-- the dict of the instance at x -/
  | own (x : Addr)
  /-- the dict of an exception -/
  | xd (fs : List (Str × V))
  /-- a bound method, f of x -/
  | met (f x : Addr)
  /-- a range object lo, lo + 1, .. below hi -/
  | rng (lo hi : Int)
  /-- a thing that is known to the object (the script; a dict while a loop walks it): read, never written while it is so -/
  | frz (o : Obj) (u : HO)
  /-- a code object's table -/
  | tbl (ps : Array Value)
  /-- any other thing, by what is true of its one object (a def of one's own: SetO a S n := HO.ext fun h => ..) -/
  | ext (φ : Heap → Prop)

abbrev Hp := Addr → Option HO
def upd (H : Hp) (a : Addr) (o : HO) : Hp := fun b => if b = a then some o else H b
theorem upd_same {H : Hp} {a : Addr} {o : HO} : upd H a o a = some o := by unfold upd; rw [if_pos rfl]
theorem upd_ne {H : Hp} {a b : Addr} {o : HO} (h : b ≠ a) : upd H a o b = H b := by unfold upd; rw [if_neg h]
theorem ne_of_none {H : Hp} {a b : Addr} {o : HO} (h : H a = some o) (h' : H b = none) : a ≠ b := by
  intro e; subst e; rw [h] at h'; cases h'

section
variable (P : Program) (w : World)
def ObjOk (H : Hp) (h : Heap) (a : Addr) : HO → Prop
  | .lst xs => xs.length ≤ sizeLine ∧ ∃ (its : List Value) (n : Nat), Vals xs its ∧ h.get? a = some { cls := .type "list", data := .seq its.toArray n }
  | .tup xs => xs.length ≤ sizeLine ∧ ∃ its : List Value, Vals xs its ∧ IsTup h a its.toArray
  | .dK kvs => kvs.length ≤ sizeLine ∧ (a == sysModules) = false ∧ ∃ vs, KV kvs vs ∧ h.DictOf (mixKind P w) a vs
  | .dT kvs => kvs.length ≤ sizeLine ∧ (a == sysModules) = false ∧ ∃ xs : List (List Key × Addr × Value),
      Paired (fun (p : List Key × V) (q : List Key × Addr × Value) => p.1 = q.1 ∧ H q.2.1 = some (.tup (p.1.map kV)) ∧ RelV p.2 q.2.2) kvs xs ∧
      ∃ o es ep, h.get? a = some o ∧ o.ExactDict ∧ o.data = .dict es ep ∧ es.toList = xs.map (entryOfKey (tupleKind (mixKind P w))) ∧ (xs.map (·.1)).Nodup
  | .set S n => h.SetOf (intKind P w) a S n
  | .ins C dx fs => H dx = some (.own a) ∧ fs.length ≤ 1000 ∧ dx ≠ a ∧ h.get? a = some (PySem.W.instObj C dx) ∧
      ∃ mA, h.Ns1 dx mA ∧ (∀ f, RelO (fs.lookup f) (mA f)) ∧ PySem.Within mA (fs.map (·.1))
  | .own _ => ∃ o, h.get? a = some o
  | .xd fs => ∃ mA, h.Ns1 a mA ∧ ∀ f, RelO (fs.lookup f) (mA f)
  | .rng lo hi => ∃ t u v, h.get? a = some { cls := .type "range", data := .fields #[.int lo t, .int hi u, .int 1 v] }
  | .frz o u => h.get? a = some o ∧ ObjOk H h a u
  | .tbl ps => h.get? a = some { cls := .none, data := .fields ps }
  | .met f x => h.get? a = some (PySem.W.methodObj (.ref f) (.ref x))
  | .ext φ => φ h ∧ (∃ o, h.get? a = some o) ∧ ∀ h1 h2 : Heap, φ h1 → (∀ o, h1.get? a = some o → h2.get? a = some o) → φ h2
/-- the abstract heap is held -/
def HOk (H : Hp) (h : Heap) : Prop := ∀ a o, H a = some o → ObjOk P w H h a o
end

section
variable {P : Program} {w : World} {H H' : Hp} {h h' : Heap} {a : Addr} {o : HO}
theorem ObjOk.lt (x : ObjOk P w H h a o) : a < h.objs.size := by
  cases o with
  | lst xs => obtain ⟨_, _, _, _, e⟩ := x; exact Heap.lt_size e
  | tup xs => obtain ⟨_, _, _, p⟩ := x; exact p.lt
  | dK kvs => obtain ⟨_, _, _, _, o, _, _, e, _⟩ := x; exact Heap.lt_size e
  | dT kvs => obtain ⟨_, _, _, _, o, _, _, e, _⟩ := x; exact Heap.lt_size e
  | set S n => obtain ⟨o, _, _, _, e, _⟩ := x; exact Heap.lt_size e
  | ins C dx fs => obtain ⟨_, _, _, e, _⟩ := x; exact Heap.lt_size e
  | own y => obtain ⟨_, e⟩ := x; exact Heap.lt_size e
  | xd fs => obtain ⟨_, ⟨_, _, _, e, _⟩, _⟩ := x; exact Heap.lt_size e
  | rng lo hi => obtain ⟨_, _, _, e⟩ := x; exact Heap.lt_size e
  | frz ob u => obtain ⟨e, _⟩ := x; exact Heap.lt_size e
  | tbl ps => exact Heap.lt_size (show h.get? a = some _ from x)
  | met f y => exact Heap.lt_size (show h.get? a = some _ from x)
  | ext φ => obtain ⟨_, ⟨_, e⟩, _⟩ := x; exact Heap.lt_size e
theorem Paired.mapP {α β : Type} {F G : α → β → Prop} : ∀ {l₁ : List α} {l₂ : List β}, Paired F l₁ l₂ → (∀ a b, F a b → G a b) → Paired G l₁ l₂
  | _, _, .nil, _ => .nil
  | _, _, .cons r t, f => .cons (f _ _ r) (Paired.mapP t f)
/-- what an object's description leans on: its own object, its own dict, the tuples -/
theorem ObjOk.stay (x : ObjOk P w H h a o) (k : ∀ b u, (b = a ∨ H b = some (.own a)) → h.get? b = some u → h'.get? b = some u)
    (ho : ∀ b, H b = some (.own a) → H' b = some (.own a)) (ht : ∀ b xs, H b = some (.tup xs) → H' b = some (.tup xs)) : ObjOk P w H' h' a o := by
  induction o with
  | lst xs => obtain ⟨z, its, n, r, e⟩ := x; exact ⟨z, its, n, r, k _ _ (.inl rfl) e⟩
  | tup xs => obtain ⟨z, its, r, ob, e, c⟩ := x; exact ⟨z, its, r, ob, k _ _ (.inl rfl) e, c⟩
  | dK kvs => obtain ⟨z, y, vs, r, ob, es, ep, e, c⟩ := x; exact ⟨z, y, vs, r, ob, es, ep, k _ _ (.inl rfl) e, c⟩
  | dT kvs =>
    obtain ⟨z, y, xs, r, ob, es, ep, e, c⟩ := x
    exact ⟨z, y, xs, Paired.mapP r fun p q z => ⟨z.1, ht _ _ z.2.1, z.2.2⟩, ob, es, ep, k _ _ (.inl rfl) e, c⟩
  | set S n => obtain ⟨ob, es, ep, t, e, c⟩ := x; exact ⟨ob, es, ep, t, k _ _ (.inl rfl) e, c⟩
  | ins C dx fs =>
    obtain ⟨d, z, ne, e, mA, ⟨od, es, ep, e2, c⟩, r⟩ := x
    exact ⟨ho _ d, z, ne, k _ _ (.inl rfl) e, mA, ⟨od, es, ep, k _ _ (.inr d) e2, c⟩, r⟩
  | own y => obtain ⟨ob, e⟩ := x; exact ⟨ob, k _ _ (.inl rfl) e⟩
  | xd fs => obtain ⟨mA, ⟨od, es, ep, e, c⟩, r⟩ := x; exact ⟨mA, ⟨od, es, ep, k _ _ (.inl rfl) e, c⟩, r⟩
  | rng lo hi => obtain ⟨t, u, v, e⟩ := x; exact ⟨t, u, v, k _ _ (.inl rfl) e⟩
  | frz ob u ih => obtain ⟨e, q⟩ := x; exact ⟨k _ _ (.inl rfl) e, ih q⟩
  | tbl ps =>
    have e : h.get? a = some { cls := .none, data := .fields ps } := x
    show h'.get? a = some { cls := .none, data := .fields ps }
    exact k a _ (.inl rfl) e
  | met f y =>
    have e : h.get? a = some (PySem.W.methodObj (.ref f) (.ref y)) := x
    show h'.get? a = some (PySem.W.methodObj (.ref f) (.ref y))
    exact k a _ (.inl rfl) e
  | ext φ => obtain ⟨p, ⟨o, e⟩, st⟩ := x; exact ⟨st _ _ p fun o q => k _ _ (.inl rfl) q, ⟨o, k _ _ (.inl rfl) e⟩, st⟩
theorem HOk.lt (x : HOk P w H h) (e : H a = some o) : a < h.objs.size := (x a o e).lt
theorem HOk.fresh (x : HOk P w H h) (e : h.objs.size ≤ a) : H a = none := by
  cases q : H a with
  | none => rfl
  | some u => exact absurd (Nat.lt_of_lt_of_le (x.lt q) e) (Nat.lt_irrefl _)
/-- every object of the heap is kept -/
theorem HOk.kept (x : HOk P w H h) (k : ∀ b u, h.get? b = some u → h'.get? b = some u) : HOk P w H h' := fun a o e =>
  (x a o e).stay (fun b u _ q => k b u q) (fun _ q => q) fun _ _ q => q
/-- a new object is laid and tracked -/
theorem HOk.laid (x : HOk P w H h) (k : ∀ b u, h.get? b = some u → h'.get? b = some u) (hp : h.objs.size ≤ a) (new : ObjOk P w (upd H a o) h' a o) : HOk P w (upd H a o) h' := fun b u e => by
  have hn := x.fresh hp
  by_cases hb : b = a
  · subst hb; rw [upd_same] at e; cases e; exact new
  · rw [upd_ne hb] at e
    exact (x b u e).stay (fun c v _ q => k c v q) (fun c q => by rw [upd_ne (ne_of_none q hn)]; exact q) fun c xs q => by rw [upd_ne (ne_of_none q hn)]; exact q
end

/-- what may be read as u: it is u, or a known u -/
def Rd (H : Hp) (a : Addr) (u : HO) : Prop := H a = some u ∨ ∃ o, H a = some (.frz o u)
theorem Rd.of {H : Hp} {a : Addr} {u : HO} (h : H a = some u) : Rd H a u := .inl h
theorem Rd.ok {P : Program} {w : World} {H : Hp} {h : Heap} {a : Addr} {u : HO} (r : Rd H a u) (x : HOk P w H h) : ObjOk P w H h a u := by
  rcases r with r | ⟨o, r⟩
  · exact x a u r
  · obtain ⟨_, q⟩ := x a _ r
    exact q
/-- what may be written -/
def Mut : Option HO → Prop
  | some (.lst _) => True
  | some (.dK _) => True
  | some (.dT _) => True
  | some (.set _ _) => True
  | some (.ins _ _ _) => True
  | some (.ext _) => True
  | _ => False
section
variable {P : Program} {w : World} {H : Hp} {h h' : Heap} {x e : Addr} {o' : HO}
/-- the object at e is changed: x itself, or the dict of the instance x -/
theorem HOk.write (ok : HOk P w H h) (mu : Mut (H x)) (he : e = x ∨ H e = some (.own x)) (k : ∀ b u, b ≠ e → h.get? b = some u → h'.get? b = some u) (heo : ∃ u, h'.get? e = some u)
    (new : ObjOk P w (upd H x o') h' x o') : HOk P w (upd H x o') h' := fun b u q => by
  have nown : ∀ c y, H c = some (.own y) → c ≠ x := fun c y r z => by subst z; rw [r] at mu; exact mu
  have ntup : ∀ c xs, H c = some (.tup xs) → c ≠ x := fun c xs r z => by subst z; rw [r] at mu; exact mu
  by_cases hb : b = x
  · subst hb; rw [upd_same] at q; cases q; exact new
  · rw [upd_ne hb] at q
    by_cases hbe : b = e
    · have q' : H b = some (.own x) := by
        rcases he with z | z
        · exact absurd (hbe.trans z) hb
        · rw [hbe]; exact z
      rw [q] at q'; cases q'
      obtain ⟨v, hv⟩ := heo
      exact ⟨v, by rw [hbe]; exact hv⟩
    · refine (ok b u q).stay (fun c v hc r => k c v ?_ r) (fun c r => by rw [upd_ne (nown c b r)]; exact r) fun c xs r => by rw [upd_ne (ntup c xs r)]; exact r
      rcases hc with rfl | hc
      · exact hbe
      · rintro rfl
        rcases he with z | z
        · exact nown c b hc z
        · rw [hc] at z; cases z; exact hb rfl
end

structure Un (fs ex : List Addr) (H H' : Hp) (h h' : Heap) : Prop where
  keep : ∀ b o, h.get? b = some o → H b = none → b ∉ fs → b ∉ ex → h'.get? b = some o
  slot : ∀ b o, h.get? b = some o → H b = none → b ∈ fs → b ∉ ex → ∃ sl, h'.get? b = some { o with slots := sl }
  free : ∀ b o, h.get? b = some o → H b = none → b ∉ ex → H' b = none
  there : ∀ b o, h.get? b = some o → b ∉ ex → ∃ o', h'.get? b = some o'
  tups : ∀ b xs, H b = some (.tup xs) → H' b = some (.tup xs)
  frzs : ∀ b o u, H b = some (.frz o u) → H' b = some (.frz o u)
  tbls : ∀ b ps, H b = some (.tbl ps) → ∃ more, H' b = some (.tbl (ps ++ more))
section
variable {fs fs' ex ex' : List Addr} {H H1 H2 : Hp} {h h1 h2 h' : Heap} {a x e : Addr} {o : HO}
theorem Un.any (u : Un fs ex H H1 h h1) {b : Addr} {ob : Obj} (q : h.get? b = some ob) (n : H b = none) (hx : b ∉ ex) : ∃ sl, h1.get? b = some { ob with slots := sl } := by
  by_cases hb : b ∈ fs
  · exact u.slot b ob q n hb hx
  · exact ⟨ob.slots, u.keep b ob q n hb hx⟩
theorem Un.trans (a : Un fs ex H H1 h h1) (b : Un fs ex H1 H2 h1 h2) : Un fs ex H H2 h h2 where
  keep := fun c ob q n hc hx => b.keep c ob (a.keep c ob q n hc hx) (a.free c ob q n hx) hc hx
  slot := fun c ob q n hc hx => by
    obtain ⟨sl, e1⟩ := a.slot c ob q n hc hx
    obtain ⟨sl', e2⟩ := b.slot c _ e1 (a.free c ob q n hx) hc hx
    exact ⟨sl', e2⟩
  free := fun c ob q n hx => by
    obtain ⟨o', e1⟩ := a.there c ob q hx
    exact b.free c o' e1 (a.free c ob q n hx) hx
  there := fun c ob q hx => by
    obtain ⟨o', e1⟩ := a.there c ob q hx
    exact b.there c o' e1 hx
  tups := fun c xs q => b.tups c xs (a.tups c xs q)
  frzs := fun c ob xs q => b.frzs c ob xs (a.frzs c ob xs q)
  tbls := fun c ps q => by
    obtain ⟨m1, e1⟩ := a.tbls c ps q
    obtain ⟨m2, e2⟩ := b.tbls c _ e1
    exact ⟨m1 ++ m2, by rw [e2, Array.append_assoc]⟩
theorem Un.kept (k : ∀ b u, h.get? b = some u → h'.get? b = some u) : Un fs ex H H h h' :=
  ⟨fun b ob q _ _ _ => k b ob q, fun b ob q _ _ _ => ⟨ob.slots, k b ob q⟩, fun _ _ _ n _ => n, fun b ob q _ => ⟨ob, k b ob q⟩, fun _ _ q => q, fun _ _ _ q => q, fun _ ps q => ⟨#[], by rw [q]; simp⟩⟩
theorem Un.refl : Un fs ex H H h h := Un.kept fun _ _ q => q
theorem Un.laid (k : ∀ b u, h.get? b = some u → h'.get? b = some u) (hp : h.objs.size ≤ a) (hn : H a = none) : Un fs ex H (upd H a o) h h' where
  keep := fun b u q _ _ _ => k b u q
  slot := fun b u q _ _ _ => ⟨u.slots, k b u q⟩
  free := fun b u q n _ => by rw [upd_ne (Nat.ne_of_lt (Nat.lt_of_lt_of_le (Heap.lt_size q) hp))]; exact n
  there := fun b u q _ => ⟨u, k b u q⟩
  tups := fun b xs q => by rw [upd_ne (ne_of_none q hn)]; exact q
  frzs := fun b u xs q => by rw [upd_ne (ne_of_none q hn)]; exact q
  tbls := fun b ps q => ⟨#[], by rw [upd_ne (ne_of_none q hn), q]; simp⟩
theorem Un.write (mu : Mut (H x)) (he : e = x ∨ H e = some (.own x)) (k : ∀ b u, b ≠ e → h.get? b = some u → h'.get? b = some u) (heo : ∃ u, h'.get? e = some u) : Un fs ex H (upd H x o) h h' := by
  have hx : ∀ b, H b = none → b ≠ x := fun b n z => by subst z; rw [n] at mu; exact mu
  have hb : ∀ b, H b = none → b ≠ e := fun b n z => by
    subst z
    rcases he with r | r
    · exact hx b n r
    · rw [n] at r; cases r
  have hm : ∀ b u, H b = some u → ¬ Mut (some u) → b ≠ x := fun b u q nm z => by subst z; rw [q] at mu; exact nm mu
  refine ⟨fun b u q n _ _ => k b u (hb b n) q, fun b u q n _ _ => ⟨u.slots, k b u (hb b n) q⟩, fun b u q n _ => by rw [upd_ne (hx b n)]; exact n, fun b u q _ => ?_,
    fun b xs q => by rw [upd_ne (hm b _ q fun z => z)]; exact q, fun b u xs q => by rw [upd_ne (hm b _ q fun z => z)]; exact q, fun b ps q => ⟨#[], by rw [upd_ne (hm b _ q fun z => z), q]; simp⟩⟩
  by_cases hbe : b = e
  · subst hbe; exact heo
  · exact ⟨u, k b u hbe q⟩
theorem Un.mono (u : Un fs ex H H1 h h1) (hs : ∀ b ∈ fs, b ∈ fs') (hx : ∀ b ∈ ex, b ∈ ex') : Un fs' ex' H H1 h h1 :=
  ⟨fun b ob q n hb he => u.keep b ob q n (fun z => hb (hs b z)) fun z => he (hx b z), fun _ _ q n _ he => u.any q n fun z => he (hx _ z), fun b ob q n he => u.free b ob q n fun z => he (hx b z), fun b ob q he => u.there b ob q fun z => he (hx b z), u.tups, u.frzs, u.tbls⟩
end

def trk (h : Heap) (H : Hp) : List Addr := (List.range h.objs.size).filter fun a => (H a).isSome
def hidT (h : Heap) (H : Hp) : Heap := PySem.W.hideAll h (trk h H)
theorem hidT_size (h : Heap) (H : Hp) : (hidT h H).objs.size = h.objs.size := PySem.W.hideAll_size _ _
theorem hidT_get {h : Heap} {H : Hp} {b : Addr} {o : Obj} (e : h.get? b = some o) (n : H b = none) : (hidT h H).get? b = some o :=
  PySem.W.hideAll_get _ e fun hm => by
    have q : (H b).isSome = true := (List.mem_filter.mp hm).2
    rw [n] at q; simp at q
theorem of_hidT {h : Heap} {H : Hp} {b : Addr} {o : Obj} (e : (hidT h H).get? b = some o) : h.get? b = some o ∧ H b = none := by
  have e' : h.get? b = some o := PySem.W.of_hideAll (trk h H) e
  refine ⟨e', ?_⟩
  cases q : H b with
  | none => rfl
  | some x =>
    have hm : b ∈ trk h H := List.mem_filter.mpr ⟨List.mem_range.mpr (Heap.lt_size e'), by simp [q]⟩
    have z : (hidT h H).get? b = none := PySem.W.hideAll_none (trk h H) hm
    rw [z] at e; cases e

def allNews (g h : Heap) (L : Addr) : List (Addr × Obj) := (List.range h.objs.size).filterMap fun a => if a = L ∨ (g.get? a).isSome = true then none else (h.get? a).map fun o => (a, o)
def rest (g h : Heap) (L d : Addr) : List (Addr × Obj) := (allNews g h L).filter fun p => decide (p.1 ≠ d)
end L2

namespace L2
open PySem PySem.Spec PyProof.Rows

/-- the module's facts, over the base: the heap at the law's entry without what is tracked there -/
structure Mod (K : PySem.W.Frag) (mg : Str → Option Value) (base : Heap) : Prop where
  kin : K.In base
  glob : base.Ns mainGlobals mg
  blt : ∃ mb, base.Ns builtinsNs mb ∧ ∀ x : Str, x ≠ "__name__" → mb x = bootBuiltins x
  nolimit : base.NoLimit

/-- the context: a def's body (or a comprehension's block) running. base: fixed through the whole law; s₀, H₀: the entry; outer: the frames whose slots others may change (a def's callers); stack: all frames that run;
   ex: iterators that were made ahead of the entry and are walked here (a comprehension's); fn: the names whose cells were made at the entry (a def: all; a comprehension's block: its own); calm: not within an except suite; pn: pins that every state bears; xe: what is wanted of an exception that leaves the code -/
structure Cx where
  prog : Program
  w : World
  K : PySem.W.Frag
  mg : Str → Option Value
  base : Heap
  A : Around
  N : List Str
  s₀ : Shared
  H₀ : Hp
  env : Env
  outer : List Env
  stack : List Env
  ex : List Addr
  fn : Str → Bool
  calm : Bool
  pn : List (Addr × Obj)
  xe : Value → Shared → Prop
/-- the callers' frames -/
def frs (l : List Env) : List Addr := l.filterMap (·.frame)
abbrev Cx.fs (X : Cx) : List Addr := frs X.outer

def Vis (sc : Scope) (x : Str) : Prop := sc.names.lookup x = some .local ∨ sc.names.lookup x = some .cell ∨ sc.names.lookup x = some .free
def Loc (sc : Scope) (x : Str) : Prop := sc.names.lookup x = some .local ∨ sc.names.lookup x = some .cell
def Look (env : Env) (h : Heap) (m : Str → Option Value) (x : Str) (u : Value) : Prop :=
  (env.kindOf x = some .local ∧ m x = some u) ∨ ((env.kindOf x = some .cell ∨ env.kindOf x = some .free) ∧ ∃ c, env.cells.lookup x = some c ∧ h.IsCell c (some u))

structure Cx.Ok (X : Cx) : Prop where
  mod : Mod X.K X.mg X.base
  kind : X.env.scope.kind = .function
  glob : X.env.globals = mainGlobals
  blt : X.env.builtins = builtinsNs
  above : X.s₀.heap.objs.size ≤ X.env.locals
  inj : ∀ x y c, X.env.cells.lookup x = some c → X.env.cells.lookup y = some c → x = y
  has : ∀ x, (X.env.kindOf x = some .cell ∨ X.env.kindOf x = some .free) → ∃ c, X.env.cells.lookup x = some c
  cab : ∀ x c, X.fn x = true → X.env.cells.lookup x = some c → X.s₀.heap.objs.size ≤ c
  hd : X.calm = true → X.A.handled = none
  frames : X.A.frames = some X.stack
  stk : X.stack = X.outer ∨ (X.stack = X.env :: X.outer ∧ X.env.frame = some X.env.locals)
  exf : ∀ b ∈ X.ex, b ≠ X.env.locals ∧ ∀ x c, X.env.cells.lookup x = some c → c ≠ b
  bs : ∀ b o, X.base.get? b = some o → X.s₀.heap.get? b = some o ∧ X.H₀ b = none
  bsz : X.base.objs.size ≤ X.s₀.heap.objs.size
  noex : ∀ b o, X.base.get? b = some o → b ∉ X.ex
  exfs : ∀ b ∈ X.ex, b ∉ X.fs
  funs : X.s₀.heap.FunFrames X.base X.outer
  frf : ∀ b ∈ X.fs, X.H₀ b = none

structure Inv (X : Cx) (pins : List (Addr × Obj)) (σ : List (Option V)) (H : Hp) (s : Shared) : Prop where
  ok : X.Ok
  os : s.os = X.s₀.os
  bare : AllBare s.gens
  base : Un X.fs X.ex X.H₀ H X.s₀.heap s.heap
  loc : ∃ m, s.heap.Ns X.env.locals m ∧ ∀ (i : Nat) (x : Str) (v : V), X.N[i]? = some x → σ[i]? = some (some v) → Vis X.env.scope x → ∃ u, RelV v u ∧ Look X.env s.heap m x u
  cell : ∀ x c, X.env.cells.lookup x = some c → ∃ v, s.heap.IsCell c v
  free : H X.env.locals = none
  freeC : ∀ x c, X.env.cells.lookup x = some c → H c = none
  pin : ∀ p ∈ X.pn ++ pins, s.heap.get? p.1 = some p.2 ∧ H p.1 = none ∧ p.1 ≠ X.env.locals ∧ p.1 ∉ X.fs ∧ ∀ v, p.2.data ≠ .cell v
  hok : HOk X.prog X.w H s.heap
  len : σ.length = X.N.length

section
variable {X : Cx} {pins : List (Addr × Obj)} {σ : List (Option V)} {H H' : Hp} {s : Shared} {h' : Heap}

theorem Cx.Ok.nofr (ok : X.Ok) {b : Addr} {o : Obj} (e : X.base.get? b = some o) : b ∉ X.fs := fun hb => by
  have := (ok.funs.mem hb).1
  rw [e] at this; cases this
theorem Inv.bs (I : Inv X pins σ H s) : ∀ b o, X.base.get? b = some o → s.heap.get? b = some o ∧ H b = none := fun b o e =>
  ⟨I.base.keep b o (I.ok.bs b o e).1 (I.ok.bs b o e).2 (I.ok.nofr e) (I.ok.noex b o e), I.base.free b o (I.ok.bs b o e).1 (I.ok.bs b o e).2 (I.ok.noex b o e)⟩
theorem Inv.bk (I : Inv X pins σ H s) : ∀ b o, X.base.get? b = some o → s.heap.get? b = some o := fun b o e => (I.bs b o e).1
theorem Inv.mod (I : Inv X pins σ H s) : Mod X.K X.mg X.base := I.ok.mod
theorem Inv.kIn (I : Inv X pins σ H s) : X.K.In s.heap := I.ok.mod.kin.keeps I.bk
theorem Inv.nolimit (I : Inv X pins σ H s) : s.heap.NoLimit := I.ok.mod.nolimit.keeps I.bk
theorem Inv.lt (I : Inv X pins σ H s) : X.env.locals < s.heap.objs.size := let ⟨_, hn, _⟩ := I.loc; hn.lt
theorem Inv.sz (I : Inv X pins σ H s) : X.s₀.heap.objs.size ≤ s.heap.objs.size := Nat.le_trans I.ok.above (Nat.le_of_lt I.lt)
theorem Inv.nofs (I : Inv X pins σ H s) {a : Addr} (h : s.heap.objs.size ≤ a) : a ∉ X.fs := fun hb => by
  obtain ⟨_, o, ho, _⟩ := I.ok.funs.mem hb
  exact absurd (Nat.lt_of_lt_of_le (Heap.lt_size ho) (Nat.le_trans I.sz h)) (Nat.lt_irrefl _)
theorem Inv.cne (I : Inv X pins σ H s) : ∀ x c, X.env.cells.lookup x = some c → c ≠ X.env.locals := fun x c e z => by
  obtain ⟨v, o, ho, hd⟩ := I.cell x c e
  obtain ⟨m, ⟨o', es, ep, ho', hd', _⟩, _⟩ := I.loc
  rw [z, ho'] at ho; cases ho; rw [hd'] at hd; cases hd
theorem Inv.funs (I : Inv X pins σ H s) : s.heap.FunFrames X.base X.outer := by
  have all : ∀ (l : List Env), (∀ b ∈ frs l, b ∈ X.fs) → X.s₀.heap.FunFrames X.base l → s.heap.FunFrames X.base l := by
    intro l
    induction l with
    | nil => intro _ _; trivial
    | cons env r ih =>
      intro hs hl
      obtain ⟨hk, ⟨L, o, hf, hn, ho, hd⟩, hr⟩ := hl
      have hL : L ∈ X.fs := hs L (by unfold frs; rw [List.filterMap_cons, hf]; exact List.mem_cons_self)
      obtain ⟨sl, e⟩ := I.base.slot L o ho (I.ok.frf L hL) hL fun z => I.ok.exfs L z hL
      exact ⟨hk, ⟨L, _, hf, hn, e, hd⟩, ih (fun b hb => hs b (by unfold frs; rw [List.filterMap_cons, hf]; exact List.mem_cons_of_mem _ hb)) hr⟩
  exact all X.outer (fun _ hb => hb) I.ok.funs

/-- the frames that run, for a call -/
theorem Inv.stack (I : Inv X pins σ H s) : s.heap.FunFrames X.base X.stack := by
  rcases I.ok.stk with e | ⟨e, hf⟩
  · rw [e]; exact I.funs
  · rw [e]
    obtain ⟨m, hn, _⟩ := I.loc
    refine .cons (by rw [I.ok.kind]; decide) hf hn ?_ I.funs
    exact Heap.get?_none_of_le (Nat.le_trans I.ok.bsz I.ok.above)
theorem Inv.stkSub (I : Inv X pins σ H s) : ∀ b ∈ frs X.stack, b ∈ X.env.locals :: X.fs := fun b hb => by
  rcases I.ok.stk with e | ⟨e, hf⟩
  · rw [e] at hb; exact List.mem_cons_of_mem _ hb
  · rw [e] at hb
    unfold frs at hb
    rw [List.filterMap_cons, hf] at hb
    exact hb
theorem Inv.stkFree (I : Inv X pins σ H s) : ∀ b ∈ frs X.stack, H b = none := fun b hb => by
  rcases List.mem_cons.mp (I.stkSub b hb) with e | hb
  · rw [e]; exact I.free
  · obtain ⟨_, o, ho, _⟩ := I.ok.funs.mem hb
    exact I.base.free b o ho (I.ok.frf b hb) fun z => I.ok.exfs b z hb

/-- THE STEP: the untracked objects but the frame and the records at ch are kept (the callers' frames up to slots), the frame's map is kept, the new abstract heap is held -/
theorem Inv.step {g' : Array GenState} {t' : Nat} {d' : Drawn} {ch : List Addr} (I : Inv X pins σ H s)
    (hch : ∀ b ∈ ch, (b ∈ X.ex ∨ X.s₀.heap.objs.size ≤ b) ∧ b ≠ X.env.locals ∧ (∀ x c, X.env.cells.lookup x = some c → c ≠ b) ∧ ∀ p ∈ X.pn ++ pins, p.1 ≠ b)
    (keep : ∀ b o, b ≠ X.env.locals → b ∉ X.fs → b ∉ ch → s.heap.get? b = some o → H b = none → h'.get? b = some o)
    (slot : ∀ b o, b ≠ X.env.locals → b ∈ X.fs → b ∉ ch → s.heap.get? b = some o → H b = none → ∃ sl, h'.get? b = some { o with slots := sl }) (free : ∀ b o, b ∉ ch → s.heap.get? b = some o → H b = none → H' b = none)
    (there : ∀ b o, b ∉ ch → s.heap.get? b = some o → ∃ o', h'.get? b = some o')
    (tups : ∀ b xs, H b = some (.tup xs) → H' b = some (.tup xs)) (frzs : ∀ b o u, H b = some (.frz o u) → H' b = some (.frz o u)) (tbls : ∀ b ps, H b = some (.tbl ps) → ∃ more, H' b = some (.tbl (ps ++ more)))
    (ns : ∀ m, s.heap.Ns X.env.locals m → h'.Ns X.env.locals m) (hok : HOk X.prog X.w H' h') (hg : AllBare g') :
    Inv X pins σ H' { s with heap := h', gens := g', drawn := d', toks := t' } := by
  have neL : ∀ b o, X.s₀.heap.get? b = some o → b ≠ X.env.locals := fun b o e => Nat.ne_of_lt (Nat.lt_of_lt_of_le (Heap.lt_size e) I.ok.above)
  have neC : ∀ b o, X.s₀.heap.get? b = some o → b ∉ X.ex → b ∉ ch := fun b o e hx hb => by
    rcases (hch b hb).1 with z | z
    · exact hx z
    · exact absurd (Nat.lt_of_lt_of_le (Heap.lt_size e) z) (Nat.lt_irrefl _)
  have cellK : ∀ x c, X.env.cells.lookup x = some c → ∀ v, s.heap.IsCell c v → h'.IsCell c v := fun x c e v ⟨o, ho, hd⟩ => by
    have nch : c ∉ ch := fun z => (hch c z).2.2.1 x c e rfl
    by_cases hc : c ∈ X.fs
    · obtain ⟨sl, q⟩ := slot c o (I.cne x c e) hc nch ho (I.freeC x c e)
      exact ⟨_, q, hd⟩
    · exact ⟨o, keep c o (I.cne x c e) hc nch ho (I.freeC x c e), hd⟩
  refine ⟨I.ok, I.os, hg, ⟨fun b o e n hb hx => ?_, fun b o e n hb hx => ?_, fun b o e n hx => ?_, fun b o e hx => ?_, fun b xs e => tups b xs (I.base.tups b xs e), fun b o xs e => frzs b o xs (I.base.frzs b o xs e), fun b ps e => ?_⟩, ?_, fun x c e => ?_, ?_, fun x c e => ?_, fun p hp => ?_, hok, I.len⟩
  · exact keep b o (neL b o e) hb (neC b o e hx) (I.base.keep b o e n hb hx) (I.base.free b o e n hx)
  · obtain ⟨sl, e1⟩ := I.base.slot b o e n hb hx
    obtain ⟨sl', e2⟩ := slot b _ (neL b o e) hb (neC b o e hx) e1 (I.base.free b o e n hx)
    exact ⟨sl', e2⟩
  · obtain ⟨o', e1⟩ := I.base.there b o e hx
    exact free b o' (neC b o e hx) e1 (I.base.free b o e n hx)
  · obtain ⟨o', e1⟩ := I.base.there b o e hx
    exact there b o' (neC b o e hx) e1
  · obtain ⟨m1, e1⟩ := I.base.tbls b ps e
    obtain ⟨m2, e2⟩ := tbls b _ e1
    exact ⟨m1 ++ m2, by rw [e2, Array.append_assoc]⟩
  · obtain ⟨m, hn, hl⟩ := I.loc
    refine ⟨m, ns m hn, fun i x v e1 e2 e3 => ?_⟩
    obtain ⟨u, r, l⟩ := hl i x v e1 e2 e3
    refine ⟨u, r, ?_⟩
    rcases l with l | ⟨k, c, e, z⟩
    · exact .inl l
    · exact .inr ⟨k, c, e, cellK x c e _ z⟩
  · obtain ⟨v, z⟩ := I.cell x c e
    exact ⟨v, cellK x c e v z⟩
  · obtain ⟨m, ⟨o, _, _, ho, _⟩, _⟩ := I.loc
    exact free _ o (fun z => (hch _ z).2.1 rfl) ho I.free
  · obtain ⟨v, o, ho, hd⟩ := I.cell x c e
    exact free c o (fun z => (hch c z).2.2.1 x c e rfl) ho (I.freeC x c e)
  · obtain ⟨e, n, ne, nf, d⟩ := I.pin p hp
    have nch : p.1 ∉ ch := fun z => (hch p.1 z).2.2.2 p hp rfl
    exact ⟨keep p.1 p.2 ne nf nch e n, free p.1 p.2 nch e n, ne, nf, d⟩
/-- .. where the frame's own object is kept too -/
theorem Inv.un {t' : Nat} (I : Inv X pins σ H s) (u : Un X.fs [] H H' s.heap h') (hok : HOk X.prog X.w H' h') : Inv X pins σ H' { s with heap := h', toks := t' } := by
  obtain ⟨m, ⟨o, es, ep, ho, r⟩, _⟩ := id I.loc
  obtain ⟨sl, hL⟩ := u.any ho I.free (by simp)
  exact I.step (g' := s.gens) (d' := s.drawn) (ch := []) (fun _ z => nomatch z) (fun b o _ hb _ e n => u.keep b o e n hb (by simp)) (fun b o _ hb _ e n => u.slot b o e n hb (by simp)) (fun b o _ e n => u.free b o e n (by simp)) (fun b o _ e => u.there b o e (by simp)) u.tups u.frzs u.tbls (fun m' hm => by
    obtain ⟨o', es', ep', ho', r'⟩ := hm
    rw [ho] at ho'; cases ho'
    exact ⟨_, es', ep', hL, r'⟩) hok I.bare
/-- behind a call (or a comprehension's block): the slots of this frame may have changed too, the records at ch may have turned -/
theorem Inv.call {g' : Array GenState} {t' : Nat} {d' : Drawn} {ch : List Addr} (I : Inv X pins σ H s) (u : Un (frs X.stack) ch H H' s.heap h') (hok : HOk X.prog X.w H' h') (hg : AllBare g')
    (hch : ∀ b ∈ ch, (b ∈ X.ex ∨ X.s₀.heap.objs.size ≤ b) ∧ b ≠ X.env.locals ∧ (∀ x c, X.env.cells.lookup x = some c → c ≠ b) ∧ ∀ p ∈ X.pn ++ pins, p.1 ≠ b) :
    Inv X pins σ H' { s with heap := h', gens := g', drawn := d', toks := t' } := by
  obtain ⟨m, ⟨o, es, ep, ho, r⟩, _⟩ := id I.loc
  obtain ⟨sl, hL⟩ := u.any ho I.free fun z => (hch _ z).2.1 rfl
  exact I.step (ch := ch) hch (fun b o hL hb hc e n => u.keep b o e n (fun z => (List.mem_cons.mp (I.stkSub b z)).elim hL hb) hc) (fun b o _ _ hc e n => u.any e n hc) (fun b o hc e n => u.free b o e n hc) (fun b o hc e => u.there b o e hc) u.tups u.frzs u.tbls (fun m' hm => by
    obtain ⟨o', es', ep', ho', r'⟩ := hm
    rw [ho] at ho'; cases ho'
    exact ⟨_, es', ep', hL, r'⟩) hok hg
/-- an untracked record of ours (an iterator) has turned -/
theorem Inv.turned {t' : Nat} {it : Addr} (I : Inv X pins σ H s) (k : ∀ b o, b ≠ it → s.heap.get? b = some o → h'.get? b = some o) (hn : H it = none) (hL : it ≠ X.env.locals)
    (h1 : it ∈ X.ex ∨ X.s₀.heap.objs.size ≤ it) (h2 : ∀ x c, X.env.cells.lookup x = some c → c ≠ it) (h3 : ∀ p ∈ X.pn ++ pins, p.1 ≠ it) : Inv X pins σ H { s with heap := h', toks := t' } := by
  have nit : ∀ b u, H b = some u → b ≠ it := fun b u e z => by rw [z, hn] at e; cases e
  refine I.step (g' := s.gens) (d' := s.drawn) (ch := [it]) (fun b hb => ?_) (fun b o _ _ hc e _ => k b o (fun z => hc (by simp [z])) e) (fun b o _ _ hc e _ => ⟨o.slots, k b o (fun z => hc (by simp [z])) e⟩) (fun _ _ _ _ n => n)
    (fun b o hc e => ⟨o, k b o (fun z => hc (by simp [z])) e⟩) (fun _ _ e => e) (fun _ _ _ e => e) (fun b ps e => ⟨#[], by rw [e]; simp⟩) (fun m hm => ?_) (fun b u e => ?_) I.bare
  · have e : b = it := by simpa using hb
    subst e
    exact ⟨h1, hL, h2, h3⟩
  · obtain ⟨o, es, ep, ho, r⟩ := hm
    exact ⟨o, es, ep, k _ o (Ne.symm hL) ho, r⟩
  · refine (I.hok b u e).stay (fun c v hc q => k c v ?_ q) (fun _ q => q) fun _ _ q => q
    rcases hc with z | z
    · rw [z]; exact nit b u e
    · exact nit c _ z
theorem Inv.tok (I : Inv X pins σ H s) (t : Nat) : Inv X pins σ H { s with toks := t } := I.un (h' := s.heap) (t' := t) Un.refl I.hok
/-- all objects kept -/
theorem Inv.kept {t' : Nat} (I : Inv X pins σ H s) (k : ∀ b u, s.heap.get? b = some u → h'.get? b = some u) : Inv X pins σ H { s with heap := h', toks := t' } := I.un (Un.kept k) (I.hok.kept k)
/-- a new object laid and tracked -/
theorem Inv.laid {a : Addr} {o : HO} {t' : Nat} (I : Inv X pins σ H s) (k : ∀ b u, s.heap.get? b = some u → h'.get? b = some u) (hp : s.heap.objs.size ≤ a) (new : ObjOk X.prog X.w (upd H a o) h' a o) :
    Inv X pins σ (upd H a o) { s with heap := h', toks := t' } := I.un (Un.laid k hp (I.hok.fresh hp)) (I.hok.laid k hp new)
/-- an object written -/
theorem Inv.write {x e : Addr} {o : HO} {t' : Nat} (I : Inv X pins σ H s) (mu : Mut (H x)) (he : e = x ∨ H e = some (.own x)) (k : ∀ b u, b ≠ e → s.heap.get? b = some u → h'.get? b = some u) (heo : ∃ u, h'.get? e = some u)
    (new : ObjOk X.prog X.w (upd H x o) h' x o) : Inv X pins σ (upd H x o) { s with heap := h', toks := t' } := I.un (Un.write mu he k heo) (I.hok.write mu he k heo new)
/-- forgetting slots, pins -/
theorem Inv.weak {σ' : List (Option V)} (I : Inv X pins σ H s) (hl : σ'.length = σ.length) (w : ∀ (i : Nat) v, σ'[i]? = some (some v) → σ[i]? = some (some v)) : Inv X pins σ' H s :=
  ⟨I.ok, I.os, I.bare, I.base, let ⟨m, hn, hl'⟩ := I.loc; ⟨m, hn, fun i x v e1 e2 e3 => hl' i x v e1 (w i v e2) e3⟩, I.cell, I.free, I.freeC, I.pin, I.hok, hl.trans I.len⟩
theorem Inv.pins_of {pins' : List (Addr × Obj)} (I : Inv X pins σ H s) (h : ∀ p ∈ pins', s.heap.get? p.1 = some p.2 ∧ H p.1 = none ∧ p.1 ≠ X.env.locals ∧ p.1 ∉ X.fs ∧ ∀ v, p.2.data ≠ .cell v) : Inv X pins' σ H s :=
  ⟨I.ok, I.os, I.bare, I.base, I.loc, I.cell, I.free, I.freeC, fun p hp => (List.mem_append.mp hp).elim (fun z => I.pin p (List.mem_append_left _ z)) (h p), I.hok, I.len⟩

theorem nodup_ix {N : List Str} (hN : N.Nodup) {i j : Nat} {x : Str} (a : N[i]? = some x) (b : N[j]? = some x) : i = j := by
  obtain ⟨h1, e1⟩ := List.getElem?_eq_some_iff.mp a
  obtain ⟨h2, e2⟩ := List.getElem?_eq_some_iff.mp b
  exact (List.getElem_inj hN).mp (e1.trans e2.symm)

/-- a name is stored; what changed -/
theorem store_ok2 {M : Model} {A : Around} {E : Value → Shared → Prop} {i : Nat} {x : Str} {v : V} {u : Value} {Q : Unit → Shared → Prop} (I : Inv X pins σ H s) (hN : X.N.Nodup) (hi : X.N[i]? = some x) (hx : Loc X.env.scope x) (r : RelV v u)
    (h : ∀ s', Inv X pins (σ.set i (some v)) H s' → (∃ a, Heap.SameBut a s.heap s'.heap ∧ (a = X.env.locals ∨ X.env.cells.lookup x = some a)) → Q () s') (hf : X.fn x = true ∨ X.env.scope.names.lookup x = some .local := by first | exact .inl rfl | exact .inr rfl | assumption) : wpAny M A (storeName X.env x u) Q E s := by
  obtain ⟨m, hn, hl⟩ := id I.loc
  have hcls : (X.env.scope.kind == .class || (X.env.scope.kind == .module && X.env.locals != X.env.globals)) = false := by rw [I.ok.kind]; rfl
  have hiσ : i < σ.length := by rw [I.len]; exact (List.getElem?_eq_some_iff.mp hi).1
  have cne := I.cne
  have tracked : ∀ {a : Addr} {h' : Heap}, (∃ o, s.heap.get? a = some o ∧ H a = none) → Heap.SameBut a s.heap h' → HOk X.prog X.w H h' := fun {a h'} ha hs b ob e => by
    obtain ⟨_, _, hfree⟩ := ha
    refine (I.hok b ob e).stay (fun c w' hc q => (hs.2 c ?_).trans q) (fun _ q => q) fun _ _ q => q
    rintro rfl
    rcases hc with rfl | hc
    · rw [hfree] at e; cases e
    · rw [hfree] at hc; cases hc
  rcases hx with hk | hk
  · refine wpAny_storeName_local hk hn (fun h' hn' hs => ?_) hcls
    obtain ⟨oL, _, _, hoL, _⟩ := id hn
    refine h _ ⟨I.ok, I.os, I.bare, ⟨fun b o e n hb hx => ?_, fun b o e n hb hx => ?_, I.base.free, fun b o e hx => ?_, I.base.tups, I.base.frzs, I.base.tbls⟩, ⟨_, hn', fun j y v' e1 e2 e3 => ?_⟩, fun y c e => ?_, I.free, I.freeC, fun p hp => ?_, tracked ⟨oL, hoL, I.free⟩ hs, by simpa using I.len⟩ ⟨_, hs, .inl rfl⟩
    · exact (hs.2 b (Nat.ne_of_lt (Nat.lt_of_lt_of_le (Heap.lt_size e) I.ok.above))).trans (I.base.keep b o e n hb hx)
    · obtain ⟨sl, e1⟩ := I.base.slot b o e n hb hx
      exact ⟨sl, (hs.2 b (Nat.ne_of_lt (Nat.lt_of_lt_of_le (Heap.lt_size e) I.ok.above))).trans e1⟩
    · obtain ⟨o', e1⟩ := I.base.there b o e hx
      exact ⟨o', (hs.2 b (Nat.ne_of_lt (Nat.lt_of_lt_of_le (Heap.lt_size e) I.ok.above))).trans e1⟩
    · by_cases hj : j = i
      · subst hj
        rw [hi] at e1; cases e1
        rw [List.getElem?_set_self hiσ] at e2
        cases e2
        exact ⟨u, r, .inl ⟨hk, by simp⟩⟩
      · rw [List.getElem?_set_ne (Ne.symm hj)] at e2
        obtain ⟨u', r', q⟩ := hl j y v' e1 e2 e3
        refine ⟨u', r', ?_⟩
        rcases q with ⟨k, e⟩ | ⟨k, c, e, z⟩
        · refine .inl ⟨k, ?_⟩
          have : y ≠ x := fun e => hj (nodup_ix hN e1 (e ▸ hi))
          simp [this, e]
        · exact .inr ⟨k, c, e, z.sameBut hs (cne y c e)⟩
    · obtain ⟨w', z⟩ := I.cell y c e
      exact ⟨w', z.sameBut hs (cne y c e)⟩
    · obtain ⟨e, n, ne, nf, d⟩ := I.pin p hp
      exact ⟨(hs.2 p.1 ne).trans e, n, ne, nf, d⟩
  · have hfn : X.fn x = true := by
      rcases hf with z | z
      · exact z
      · rw [z] at hk; cases hk
    obtain ⟨c, hc⟩ := I.ok.has x (.inl hk)
    obtain ⟨w', z⟩ := I.cell x c hc
    refine wpAny_storeName_cell I.ok.kind hk hc z (fun h' hc' hs => ?_)
    obtain ⟨oc, hoc, hocd⟩ := id z
    refine h { s with heap := h' } ⟨I.ok, I.os, I.bare, ⟨fun b o e n hb hx => ?_, fun b o e n hb hx => ?_, I.base.free, fun b o e hx => ?_, I.base.tups, I.base.frzs, I.base.tbls⟩, ⟨m, hn.sameBut hs (Ne.symm (cne x c hc)), fun j y v' e1 e2 e3 => ?_⟩, fun y c' e => ?_, I.free, I.freeC, fun p hp => ?_, tracked ⟨oc, hoc, I.freeC x c hc⟩ hs, by simpa using I.len⟩ ⟨c, hs, .inr hc⟩
    · exact (hs.2 b (Nat.ne_of_lt (Nat.lt_of_lt_of_le (Heap.lt_size e) (I.ok.cab x c hfn hc)))).trans (I.base.keep b o e n hb hx)
    · obtain ⟨sl, e1⟩ := I.base.slot b o e n hb hx
      exact ⟨sl, (hs.2 b (Nat.ne_of_lt (Nat.lt_of_lt_of_le (Heap.lt_size e) (I.ok.cab x c hfn hc)))).trans e1⟩
    · obtain ⟨o', e1⟩ := I.base.there b o e hx
      exact ⟨o', (hs.2 b (Nat.ne_of_lt (Nat.lt_of_lt_of_le (Heap.lt_size e) (I.ok.cab x c hfn hc)))).trans e1⟩
    · by_cases hj : j = i
      · subst hj
        rw [hi] at e1; cases e1
        rw [List.getElem?_set_self hiσ] at e2
        cases e2
        exact ⟨u, r, .inr ⟨.inl hk, c, hc, hc'⟩⟩
      · rw [List.getElem?_set_ne (Ne.symm hj)] at e2
        obtain ⟨u', r', q⟩ := hl j y v' e1 e2 e3
        refine ⟨u', r', ?_⟩
        rcases q with q | ⟨k, c', e, z'⟩
        · exact .inl q
        · refine .inr ⟨k, c', e, z'.sameBut hs ?_⟩
          rintro rfl
          exact hj (nodup_ix hN e1 (I.ok.inj _ _ _ e hc ▸ hi))
    · by_cases hcc : c' = c
      · subst hcc; exact ⟨_, hc'⟩
      · obtain ⟨w2, z2⟩ := I.cell y c' e
        exact ⟨w2, z2.sameBut hs hcc⟩
    · obtain ⟨e, n, ne, nf, d⟩ := I.pin p hp
      refine ⟨(hs.2 p.1 ?_).trans e, n, ne, nf, d⟩
      intro q
      rw [q, hoc] at e
      have q' : oc = p.2 := Option.some.inj e
      exact d w' (by rw [← q']; exact hocd)
theorem store_ok {M : Model} {A : Around} {E : Value → Shared → Prop} {i : Nat} {x : Str} {v : V} {u : Value} {Q : Unit → Shared → Prop} (I : Inv X pins σ H s) (hN : X.N.Nodup) (hi : X.N[i]? = some x) (hx : Loc X.env.scope x) (r : RelV v u)
    (h : ∀ s', Inv X pins (σ.set i (some v)) H s' → Q () s') (hf : X.fn x = true ∨ X.env.scope.names.lookup x = some .local := by first | exact .inl rfl | exact .inr rfl | assumption) : wpAny M A (storeName X.env x u) Q E s :=
  store_ok2 I hN hi hx r (fun s' I' _ => h s' I') hf
/-- behind a call or a block, the state as it is -/
theorem Inv.call' {s' : Shared} {ch : List Addr} (I : Inv X pins σ H s) (ho : s'.os = s.os) (u : Un (frs X.stack) ch H H' s.heap s'.heap) (hok : HOk X.prog X.w H' s'.heap) (hg : AllBare s'.gens)
    (hch : ∀ b ∈ ch, (b ∈ X.ex ∨ X.s₀.heap.objs.size ≤ b) ∧ b ≠ X.env.locals ∧ (∀ x c, X.env.cells.lookup x = some c → c ≠ b) ∧ ∀ p ∈ X.pn ++ pins, p.1 ≠ b) : Inv X pins σ H' s' := by
  obtain ⟨h', g', d', t', o'⟩ := s'
  have e : o' = s.os := ho
  subst e
  exact I.call (g' := g') (t' := t') (d' := d') u hok hg hch
end

/-- an exception: its class, its own dict's address (where it has one), the abstract heap behind it -/
abbrev XK := Value → Option Addr → Hp → Prop
abbrev St := List (Option V)
abbrev VK := V → Hp → Prop
/-- an expression's reading; a test's; an argument list's -/
abbrev TE := St → Hp → VK → Prop
abbrev TT := St → Hp → (Bool → Hp → Prop) → Prop
abbrev TA := St → Hp → (List V → Hp → Prop) → Prop
/-- what is wanted behind a statement -/
structure Ends where
  nx : St → Hp → Prop
  rt : VK
  bk : St → Hp → Prop := fun _ _ => False
  ct : St → Hp → Prop := fun _ _ => False
abbrev TS := Ends → St → Hp → Prop

def EP (X : Cx) (pins : List (Addr × Obj)) (σ : St) (Q : VK) (u : Value) (s' : Shared) : Prop := ∃ v H', Inv X pins σ H' s' ∧ RelV v u ∧ Q v H'
def TP (X : Cx) (pins : List (Addr × Obj)) (σ : St) (Q : Bool → Hp → Prop) (b : Bool) (s' : Shared) : Prop := ∃ H', Inv X pins σ H' s' ∧ Q b H'
def AP (X : Cx) (pins : List (Addr × Obj)) (σ : St) (Q : List V → Hp → Prop) (us : List Value) (s' : Shared) : Prop := ∃ vs H', Inv X pins σ H' s' ∧ Vals vs us ∧ Q vs H'
def SP (X : Cx) (pins : List (Addr × Obj)) (D : Ends) (f : Flow) (s' : Shared) : Prop :=
  match f with
  | .next => ∃ σ' H', Inv X pins σ' H' s' ∧ D.nx σ' H'
  | .brk => ∃ σ' H', Inv X pins σ' H' s' ∧ D.bk σ' H'
  | .cont => ∃ σ' H', Inv X pins σ' H' s' ∧ D.ct σ' H'
  | .ret u => ∃ v σ' H', Inv X pins σ' H' s' ∧ RelV v u ∧ D.rt v H'

def PE (X : Cx) (e : Expr) (t : TE) : Prop :=
  ∀ (pins : List (Addr × Obj)) (s : Shared) (σ : St) (H : Hp) (Q : VK), Inv X pins σ H s → t σ H Q → wpAny (model X.prog X.w) X.A (eval e X.env) (EP X pins σ Q) X.xe s
def PT (X : Cx) (e : Expr) (t : TT) : Prop :=
  ∀ (pins : List (Addr × Obj)) (s : Shared) (σ : St) (H : Hp) (Q : Bool → Hp → Prop), Inv X pins σ H s → t σ H Q → wpAny (model X.prog X.w) X.A (isTrue e X.env (eval e X.env)) (TP X pins σ Q) X.xe s
/-- a test whatever its 'whole' is (and, or) -/
def PW (X : Cx) (e : Expr) (t : TT) : Prop :=
  ∀ (whole : Sem Value) (pins : List (Addr × Obj)) (s : Shared) (σ : St) (H : Hp) (Q : Bool → Hp → Prop), Inv X pins σ H s → t σ H Q → wpAny (model X.prog X.w) X.A (isTrue e X.env whole) (TP X pins σ Q) X.xe s
theorem PW.pt {X : Cx} {e : Expr} {t : TT} (h : PW X e t) : PT X e t := h _
/-- an argument list (no star), from the left -/
def PA (X : Cx) (es : List Expr) (t : TA) : Prop :=
  ∀ (pos : Pos) (pins : List (Addr × Obj)) (s : Shared) (σ : St) (H : Hp) (Q : List V → Hp → Prop), Inv X pins σ H s → t σ H Q → wpAny (model X.prog X.w) X.A (spliced (backTo pos (starEach es X.env))) (AP X pins σ Q) X.xe s
def PS (X : Cx) (st : Stmt) (t : TS) : Prop :=
  ∀ (pins : List (Addr × Obj)) (s : Shared) (σ : St) (H : Hp) (D : Ends), Inv X pins σ H s → t D σ H → wpAny (model X.prog X.w) X.A (exec st X.env) (SP X pins D) X.xe s
def PSs (X : Cx) (st : List Stmt) (t : TS) : Prop :=
  ∀ (pins : List (Addr × Obj)) (s : Shared) (σ : St) (H : Hp) (D : Ends), Inv X pins σ H s → t D σ H → wpAny (model X.prog X.w) X.A (execs st X.env) (SP X pins D) X.xe s
/-- weaken the end -/
theorem thn {α : Type} {t : Sem α} {Q Q' : α → Shared → Prop} {M : Model} {A : Around} {E : Value → Shared → Prop} {s : Shared} (h : wpAny M A t Q E s) (hQ : ∀ a s, Q a s → Q' a s) : wpAny M A t Q' E s := wpAny_mono h hQ fun _ _ x => x
end L2

namespace L2
open PySem PySem.Spec PyProof.Rows
section
variable {X : Cx}

def tVar (i : Nat) : TE := fun σ H Q => ∃ v, σ[i]? = some (some v) ∧ Q v H
def tC (v : V) : TE := fun _ H Q => Q v H
theorem pe_var {i : Nat} {x : Str} {pos : Pos} (hN : X.N[i]? = some x) (hv : Vis X.env.scope x) (hd : (x == ("__debug__" : Str)) = false := by decide) (hcd : (x == ("__classdict__" : Str)) = false := by decide) : PE X (.Name x pos) (tVar i) := by
  intro pins s σ H Q I h
  obtain ⟨v, e, h⟩ := h
  obtain ⟨m, hn, hl⟩ := I.loc
  obtain ⟨u, r, l⟩ := hl i x v hN e hv
  have fin : EP X pins σ Q u s := ⟨v, H, I, r, h⟩
  rcases l with ⟨hk, hm⟩ | ⟨hk, c, hc, hcell⟩
  · exact wpAny_Name (wpAny_loadName_local I.ok.kind hk hn hm fin) hd
  · rcases hk with hk | hk
    · exact wpAny_Name (wpAny_loadName_cell I.ok.kind hk hc hcell fin) hd
    · exact wpAny_Name (wpAny_loadName_free I.ok.kind hk hc hcell fin hcd) hd
theorem pe_int {i j pos} : PE X (.Constant (.int i) j pos) (tC (.int i)) := fun _ _ _ H _ I h => wpAny_Constant_int ⟨.int i, H, I.tok _, ⟨_, rfl⟩, h⟩
theorem pe_bl {b j pos} : PE X (.Constant (.bool b) j pos) (tC (.bl b)) := fun _ _ _ H _ I h => Constant_bool ⟨.bl b, H, I, rfl, h⟩
theorem pe_non {j pos} : PE X (.Constant .none j pos) (tC .non) := fun _ _ _ H _ I h => Constant_none ⟨.non, H, I, rfl, h⟩
/-- a global name of the def -/
def Gl (X : Cx) (x : Str) : Prop := X.env.kindOf x = some .globalImplicit
theorem ld_glob {E : Value → Shared → Prop} {pins : List (Addr × Obj)} {s : Shared} {σ : St} {H : Hp} {x : Str} {u : Value} {pos : Pos} {Q : Value → Shared → Prop} (I : Inv X pins σ H s) (hg : Gl X x) (hm : X.mg x = some u) (h : Q u s)
    (hd : (x == ("__debug__" : Str)) = false := by decide) : wpAny (model X.prog X.w) X.A (eval (.Name x pos) X.env) Q E s :=
  Calls.Name_function_global I.ok.kind hg (Calls.loadGlobal_global (by rw [I.ok.glob]; exact I.mod.glob.keeps I.bk) hm h) hd
theorem ld_blt {E : Value → Shared → Prop} {pins : List (Addr × Obj)} {s : Shared} {σ : St} {H : Hp} {x : Str} {u : Value} {pos : Pos} {Q : Value → Shared → Prop} (I : Inv X pins σ H s) (hg : Gl X x) (hm : X.mg x = none) (hv : bootBuiltins x = some u) (h : Q u s)
    (hn : x ≠ "__name__" := by decide) (hd : (x == ("__debug__" : Str)) = false := by decide) : wpAny (model X.prog X.w) X.A (eval (.Name x pos) X.env) Q E s := by
  obtain ⟨mb, h1, h2⟩ := I.mod.blt
  exact Calls.Name_function_global I.ok.kind hg (Calls.loadGlobal_builtin (by rw [I.ok.glob]; exact I.mod.glob.keeps I.bk) hm (by rw [I.ok.blt]; exact h1.keeps I.bk) ((h2 x hn).trans hv) h) hd
/-- a module's constant, a class, a function, as a value -/
theorem pe_glob {x : Str} {v : V} {u : Value} {pos : Pos} (hg : Gl X x) (hm : X.mg x = some u) (r : RelV v u) (hd : (x == ("__debug__" : Str)) = false := by decide) : PE X (.Name x pos) (tC v) :=
  fun _ _ _ H _ I h => ld_glob I hg hm ⟨v, H, I, r, h⟩ hd
theorem pe_bltn {x : Str} {v : V} {u : Value} {pos : Pos} (hg : Gl X x) (hm : X.mg x = none) (hv : bootBuiltins x = some u) (r : RelV v u) (hn : x ≠ "__name__" := by decide) (hd : (x == ("__debug__" : Str)) = false := by decide) : PE X (.Name x pos) (tC v) :=
  fun _ _ _ H _ I h => ld_blt I hg hm hv ⟨v, H, I, r, h⟩ hn hd

variable {a b : Expr} {ta tb : TE} {pos : Pos}
/-- a comparison as a value, as a test -/
def tB (t : TE) : TT := fun σ H Q => t σ H fun x H1 => ∃ c, x = .bl c ∧ Q c H1
/-- an expression whose value is a bool, as a test -/
theorem pt_val {e : Expr} {t : TE} (h : PE X e t) (he : ∀ whole, isTrue e X.env whole = (do let v ← whole; standAt e.pos; holding [v] (truthy v)) := by intro _; rfl) : PT X e (tB t) := by
  intro pins s σ H Q I hw
  refine isTrue_plain (thn (h pins s σ H _ I hw) fun v s1 ⟨x, H1, I1, r1, q1⟩ => ?_) (he _)
  obtain ⟨d, rfl, q⟩ := q1
  cases r1
  exact wpAny_truthy_bool ⟨H1, I1, q⟩

variable {tA tB' : TT} {rest : List Expr}
def tAnd (t u : TT) : TT := fun σ H Q => t σ H fun c H1 => if c = true then u σ H1 Q else Q false H1
def tOr (t u : TT) : TT := fun σ H Q => t σ H fun c H1 => if c = true then Q true H1 else u σ H1 Q
def tNot (t : TT) : TT := fun σ H Q => t σ H fun c H1 => Q (!c) H1
theorem pw_and1 (ha : PT X a tA) : PW X (.BoolOp .And [a] pos) tA := by
  intro wh pins s σ H Q I h
  refine isTrue_and (thn (ha pins s σ H Q I h) fun c s1 e => ?_)
  cases c with
  | true => exact isTrue_and_nil e
  | false => exact e
theorem pw_or1 (ha : PT X a tA) : PW X (.BoolOp .Or [a] pos) tA := by
  intro wh pins s σ H Q I h
  refine isTrue_or (thn (ha pins s σ H Q I h) fun c s1 e => ?_)
  cases c with
  | false => exact isTrue_or_nil e
  | true => exact e
theorem pw_and (ha : PT X a tA) (hb : PW X (.BoolOp .And (b :: rest) pos) tB') : PW X (.BoolOp .And (a :: b :: rest) pos) (tAnd tA tB') := by
  intro wh pins s σ H Q I h
  refine isTrue_and (thn (ha pins s σ H _ I h) fun c s1 ⟨H1, I1, q1⟩ => ?_)
  cases c with
  | true => exact hb wh pins s1 σ H1 Q I1 q1
  | false => exact ⟨H1, I1, q1⟩
theorem pw_or (ha : PT X a tA) (hb : PW X (.BoolOp .Or (b :: rest) pos) tB') : PW X (.BoolOp .Or (a :: b :: rest) pos) (tOr tA tB') := by
  intro wh pins s σ H Q I h
  refine isTrue_or (thn (ha pins s σ H _ I h) fun c s1 ⟨H1, I1, q1⟩ => ?_)
  cases c with
  | true => exact ⟨H1, I1, q1⟩
  | false => exact hb wh pins s1 σ H1 Q I1 q1
theorem pt_not (ha : PT X a tA) : PT X (.UnaryOp .Not a pos) (tNot tA) := by
  intro pins s σ H Q I h
  exact isTrue_not (ha pins s σ H (fun c H1 => Q (!c) H1) I h)
/-- .. as values (bools) -/
def tAndV (ta tb : TE) : TE := fun σ H Q => ta σ H fun x H1 => ∃ c, x = .bl c ∧ if c = true then tb σ H1 Q else Q (.bl false) H1
def tNotV (ta : TE) : TE := fun σ H Q => ta σ H fun x H1 => ∃ c, x = .bl c ∧ Q (.bl (!c)) H1
theorem pe_one {op} {t : TE} (h : PE X a t) : PE X (.BoolOp op [a] pos) t := fun pins s σ H Q I hw => BoolOp_one (h pins s σ H Q I hw)
theorem pe_and (ha : PE X a ta) (hb : PE X (.BoolOp .And (b :: rest) pos) tb) : PE X (.BoolOp .And (a :: b :: rest) pos) (tAndV ta tb) := by
  intro pins s σ H Q I h
  refine BoolOp_and (thn (ha pins s σ H _ I h) fun v s1 ⟨x, H1, I1, r1, q1⟩ => ?_)
  obtain ⟨c, rfl, q1⟩ := q1
  cases r1
  refine wpAny_truthy_bool ?_
  cases c with
  | true => exact hb pins s1 σ H1 Q I1 q1
  | false => exact ⟨.bl false, H1, I1, rfl, q1⟩
theorem pe_not (ha : PE X a ta) : PE X (.UnaryOp .Not a pos) (tNotV ta) := by
  intro pins s σ H Q I h
  refine UnaryOp_ (thn (ha pins s σ H _ I h) fun v s1 ⟨x, H1, I1, r1, q1⟩ => ?_)
  obtain ⟨c, rfl, q1⟩ := q1
  cases r1
  exact not_of (wpAny_truthy_bool ⟨.bl (!c), H1, I1, rfl, q1⟩)
/-- a if t else b -/
def tIf (t : TT) (ta tb : TE) : TE := fun σ H Q => t σ H fun c H1 => if c = true then ta σ H1 Q else tb σ H1 Q
theorem pe_ifExp {c : Expr} (hc : PT X c tA) (ha : PE X a ta) (hb : PE X b tb) : PE X (.IfExp c a b pos) (tIf tA ta tb) := by
  intro pins s σ H Q I h
  refine wpAny_IfExp (thn (hc pins s σ H _ I h) fun d s1 ⟨H1, I1, q1⟩ => ?_)
  cases d with
  | true => exact ha pins s1 σ H1 Q I1 q1
  | false => exact hb pins s1 σ H1 Q I1 q1
end
end L2

namespace L2
open PySem PySem.Spec PyProof.Rows

def SqL (K : PySem.W.Frag) (H : Hp) (a : Addr) (xs : List V) : Prop :=
  Rd H a (.lst xs) ∨
    ∃ (o : Obj) (its : Array Value) (n : Nat), K.lookup a = some o ∧ o.cls = .type "list" ∧ o.dict = none ∧ o.data = .seq its n ∧ its.size ≤ sizeLine ∧ Vals xs its.toList
def SqT (K : PySem.W.Frag) (H : Hp) (a : Addr) (xs : List V) : Prop :=
  Rd H a (.tup xs) ∨
    ∃ (o : Obj) (its : Array Value) (n : Nat), K.lookup a = some o ∧ o.cls = .type "tuple" ∧ o.data = .seq its n ∧ its.size ≤ sizeLine ∧ Vals xs its.toList
def absV : Value → Option V
  | .none => some .non
  | .bool b => some (.bl b)
  | .int i _ => some (.int i)
  | .str x _ => some (.str x)
  | .bytes b _ => some (.byt b)
  | .float b _ => some (.flt b)
  | .ref a => some (.ref a)
  | .type n => some (.ty n)
  | _ => none
theorem RelV.abs {x : V} {u : Value} (r : RelV x u) : absV u = some x := by
  cases x with
  | non => cases r; rfl
  | bl _ => cases r; rfl
  | int _ => obtain ⟨t, rfl⟩ := r; rfl
  | str _ => obtain ⟨t, rfl⟩ := r; rfl
  | byt _ => obtain ⟨t, rfl⟩ := r; rfl
  | flt _ => obtain ⟨t, rfl⟩ := r; rfl
  | ref _ => cases r; rfl
  | ty _ => cases r; rfl
theorem RelV.inj {x y : V} {u : Value} (r : RelV x u) (q : RelV y u) : x = y := Option.some.inj (r.abs.symm.trans q.abs)
theorem Vals.inj : ∀ {xs ys : List V} {us : List Value}, Vals xs us → Vals ys us → xs = ys
  | _, _, _, .nil, .nil => rfl
  | _, _, _, .cons r t, .cons r' t' => by rw [r.inj r', Vals.inj t t']
section
variable {X : Cx} {pins : List (Addr × Obj)} {σ : St} {H : Hp} {s : Shared} {a : Addr} {xs ys : List V}
theorem SqL.of {K : PySem.W.Frag} (h : H a = some (.lst xs)) : SqL K H a xs := .inl (.inl h)
theorem SqT.of {K : PySem.W.Frag} (h : H a = some (.tup xs)) : SqT K H a xs := .inl (.inl h)
theorem Inv.list (I : Inv X pins σ H s) (h : SqL X.K H a xs) : ∃ its : List Value, Vals xs its ∧ PlainL s.heap a its.toArray ∧ xs.length ≤ sizeLine := by
  rcases h with h | ⟨o, its, n, hk, hc, hd, hs, hz, r⟩
  · obtain ⟨z, its, n, r, e⟩ := h.ok I.hok
    exact ⟨its, r, ⟨_, n, e, rfl, rfl, rfl⟩, z⟩
  · refine ⟨its.toList, r, ⟨o, n, I.kIn a o hk, hc, hd, by simpa using hs⟩, ?_⟩
    have e := r.length
    simp only [Array.length_toList] at e
    omega
theorem Inv.tuple (I : Inv X pins σ H s) (h : SqT X.K H a xs) : ∃ its : List Value, Vals xs its ∧ IsTup s.heap a its.toArray ∧ xs.length ≤ sizeLine := by
  rcases h with h | ⟨o, its, n, hk, hc, hs, hz, r⟩
  · obtain ⟨z, its, r, p⟩ := h.ok I.hok
    exact ⟨its, r, p, z⟩
  · refine ⟨its.toList, r, ⟨o, I.kIn a o hk, hc, n, by simpa using hs⟩, ?_⟩
    have e := r.length
    simp only [Array.length_toList] at e
    omega
theorem Inv.list_inj (I : Inv X pins σ H s) (h : SqL X.K H a xs) (h' : SqL X.K H a ys) : xs = ys := by
  obtain ⟨its, r, ⟨o, n, e, _, _, d⟩, _⟩ := I.list h
  obtain ⟨its', r', ⟨o', n', e', _, _, d'⟩, _⟩ := I.list h'
  rw [e] at e'; cases e'
  rw [d] at d'
  injection d' with d1 _
  have : its = its' := by simpa using congrArg Array.toList d1
  subst this
  exact r.inj r'
theorem Inv.tuple_inj (I : Inv X pins σ H s) (h : SqT X.K H a xs) (h' : SqT X.K H a ys) : xs = ys := by
  obtain ⟨its, r, ⟨o, e, _, n, d⟩, _⟩ := I.tuple h
  obtain ⟨its', r', ⟨o', e', _, n', d'⟩, _⟩ := I.tuple h'
  rw [e] at e'; cases e'
  rw [d] at d'
  injection d' with d1 _
  have : its = its' := by simpa using congrArg Array.toList d1
  subst this
  exact r.inj r'
end

abbrev Cx.wish (X : Cx) (E : Value → Shared → Prop) : Cx := { X with xe := E }
/-- no exception leaves -/
abbrev Cx.nox (X : Cx) : Cx := X.wish fun _ _ => False
theorem Cx.Ok.wish {X : Cx} (ok : X.Ok) (E : Value → Shared → Prop) : (X.wish E).Ok :=
  ⟨ok.mod, ok.kind, ok.glob, ok.blt, ok.above, ok.inj, ok.has, ok.cab, ok.hd, ok.frames, ok.stk, ok.exf, ok.bs, ok.bsz, ok.noex, ok.exfs, ok.funs, ok.frf⟩
theorem Cx.Ok.unwish {X : Cx} {E : Value → Shared → Prop} (ok : (X.wish E).Ok) : X.Ok :=
  ⟨ok.mod, ok.kind, ok.glob, ok.blt, ok.above, ok.inj, ok.has, ok.cab, ok.hd, ok.frames, ok.stk, ok.exf, ok.bs, ok.bsz, ok.noex, ok.exfs, ok.funs, ok.frf⟩
section
variable {X : Cx} {pins : List (Addr × Obj)} {σ : St} {H : Hp} {s : Shared} {E : Value → Shared → Prop}
theorem Inv.wish (I : Inv X pins σ H s) (E : Value → Shared → Prop) : Inv (X.wish E) pins σ H s := ⟨I.ok.wish E, I.os, I.bare, I.base, I.loc, I.cell, I.free, I.freeC, I.pin, I.hok, I.len⟩
theorem Inv.unwish (I : Inv (X.wish E) pins σ H s) : Inv X pins σ H s := ⟨I.ok.unwish, I.os, I.bare, I.base, I.loc, I.cell, I.free, I.freeC, I.pin, I.hok, I.len⟩
theorem SP.unwish {D : Ends} {f : Flow} {s' : Shared} (h : SP (X.wish E) pins D f s') : SP X pins D f s' := by
  cases f with
  | next => obtain ⟨σ', H', I, q⟩ := h; exact ⟨σ', H', I.unwish, q⟩
  | brk => obtain ⟨σ', H', I, q⟩ := h; exact ⟨σ', H', I.unwish, q⟩
  | cont => obtain ⟨σ', H', I, q⟩ := h; exact ⟨σ', H', I.unwish, q⟩
  | ret u => obtain ⟨v, σ', H', I, r, q⟩ := h; exact ⟨v, σ', H', I.unwish, r, q⟩
theorem PE.nox {e : Expr} {t : TE} (h : PE X.nox e t) : PE X e t := fun pins s σ H Q I hw =>
  wpAny_mono (h pins s σ H Q (I.wish _) hw) (fun _ _ ⟨v, H', I', r, q⟩ => ⟨v, H', I'.unwish, r, q⟩) fun _ _ z => False.elim z
theorem PT.nox {e : Expr} {t : TT} (h : PT X.nox e t) : PT X e t := fun pins s σ H Q I hw =>
  wpAny_mono (h pins s σ H Q (I.wish _) hw) (fun _ _ ⟨H', I', q⟩ => ⟨H', I'.unwish, q⟩) fun _ _ z => False.elim z
theorem PSs.nox {st : List Stmt} {t : TS} (h : PSs X.nox st t) : PSs X st t := fun pins s σ H D I hw =>
  wpAny_mono (h pins s σ H D (I.wish _) hw) (fun _ _ q => q.unwish) fun _ _ z => False.elim z
end

section
variable {X : Cx} {st : Stmt} {rest : List Stmt} {t u : TS} {e : Expr} {te : TE} {pos : Pos}
def tNext : TS := fun D σ H => D.nx σ H
def tSeq (t u : TS) : TS := fun D σ H => t { D with nx := u D } σ H
theorem pss_nil : PSs X [] tNext := fun _ _ σ H _ I h => wpAny_execs_nil ⟨σ, H, I, h⟩
theorem pss_cons (h1 : PS X st t) (h2 : PSs X rest u) : PSs X (st :: rest) (tSeq t u) := by
  intro pins s σ H D I h
  refine wpAny_execs_cons (thn (h1 pins s σ H { D with nx := u D } I h) fun f s1 q => ?_)
  cases f with
  | next =>
    obtain ⟨σ', H', I', q⟩ := q
    exact h2 pins s1 σ' H' D I' q
  | ret v => exact q
  | brk => exact q
  | cont => exact q
theorem pss_one (h1 : PS X st t) : PSs X [st] t := by
  intro pins s σ H D I h
  refine wpAny_execs_cons (thn (h1 pins s σ H D I h) fun f s1 q => ?_)
  cases f with
  | next => exact wpAny_execs_nil q
  | ret v => exact q
  | brk => exact q
  | cont => exact q
/-- in a def's body nothing is shown -/
theorem Inv.quiet {pins : List (Addr × Obj)} {σ : St} {H : Hp} {s : Shared} (I : Inv X pins σ H s) : interactive X.env = false := by simp [interactive, I.ok.kind]
/-- an expression whose value is dropped -/
def tDrop (te : TE) : TS := fun D σ H => te σ H fun _ H1 => D.nx σ H1
theorem ps_expr (he : PE X e te) (hs : swapsWith e none pos.line X.env = pure false := by rfl) : PS X (.Expr e pos) (tDrop te) := by
  intro pins s σ H D I h
  exact wpAny_Expr_any (thn (he pins s σ H _ I h) fun v s1 ⟨x, H1, I1, r1, q1⟩ => ⟨σ, H1, I1, q1⟩) I.quiet hs
def tRet (te : TE) : TS := fun D σ H => te σ H D.rt
theorem ps_ret (he : PE X e te) : PS X (.Return (some e) pos) (tRet te) := by
  intro pins s σ H D I h
  exact wpAny_Return_some (thn (he pins s σ H _ I h) fun v s1 ⟨x, H1, I1, r1, q1⟩ => ⟨x, σ, H1, I1, r1, q1⟩)
def tIfS (c : TT) (t u : TS) : TS := fun D σ H => c σ H fun b H1 => if b = true then t D σ H1 else u D σ H1
theorem ps_if {c : Expr} {a b : List Stmt} {tc : TT} (hc : PT X c tc) (ha : PSs X a t) (hb : PSs X b u) : PS X (.If c a b pos) (tIfS tc t u) := by
  intro pins s σ H D I h
  refine wpAny_If (thn (hc pins s σ H _ I h) fun d s1 ⟨H1, I1, q1⟩ => ?_)
  cases d with
  | true => exact ha pins s1 σ H1 D I1 q1
  | false => exact hb pins s1 σ H1 D I1 q1
/-- code that the proof never comes to -/
def tNever : TS := fun _ _ _ => False
theorem ps_never : PS X st tNever := fun _ _ _ _ _ _ h => h.elim
end

abbrev TG := V → St → Hp → (St → Hp → Prop) → Prop
abbrev TGs := List V → St → Hp → (St → Hp → Prop) → Prop
def PG (X : Cx) (target : Expr) (t : TG) : Prop :=
  ∀ (pins : List (Addr × Obj)) (s : Shared) (σ : St) (H : Hp) (v : V) (u : Value) (Q : St → Hp → Prop), Inv X pins σ H s → RelV v u → t v σ H Q →
    wpAny (model X.prog X.w) X.A (assign target X.env u) (fun _ s' => ∃ σ' H', Inv X pins σ' H' s' ∧ Q σ' H') X.xe s
/-- several targets, one after another -/
def PGs (X : Cx) (ts : List Expr) (t : TGs) : Prop :=
  ∀ (pins : List (Addr × Obj)) (s : Shared) (σ : St) (H : Hp) (vs : List V) (us : List Value) (Q : St → Hp → Prop), Inv X pins σ H s → Vals vs us → t vs σ H Q →
    wpAny (model X.prog X.w) X.A (assignInOrder ((assignEach ts X.env).map (·.2)) us) (fun _ s' => ∃ σ' H', Inv X pins σ' H' s' ∧ Q σ' H') X.xe s
/-- o[i] = v, by values -/
abbrev TSet := V → V → V → Hp → (Hp → Prop) → Prop
def PSet (X : Cx) (t : TSet) : Prop :=
  ∀ (pins : List (Addr × Obj)) (s : Shared) (σ : St) (H : Hp) (o i v : V) (ov iv u : Value) (Q : Hp → Prop), Inv X pins σ H s → RelV o ov → RelV i iv → RelV v u → t o i v H Q →
    wpAny (model X.prog X.w) X.A (setItem ov iv u) (fun _ s' => ∃ H', Inv X pins σ H' s' ∧ Q H') X.xe s
section
variable {X : Cx} {pos : Pos}
def gName (i : Nat) : TG := fun v σ H Q => Q (σ.set i (some v)) H
theorem pg_name {i : Nat} {x : Str} (hN : X.N.Nodup) (hi : X.N[i]? = some x) (hx : Loc X.env.scope x) (hf : X.fn x = true ∨ X.env.scope.names.lookup x = some .local := by first | exact .inl rfl | exact .inr rfl | assumption) : PG X (.Name x pos) (gName i) := by
  intro pins s σ H v u Q I r h
  exact wpAny_assign_Name (store_ok I hN hi hx r (fun s' I' => ⟨_, H, I', h⟩) hf)
def gNil : TGs := fun vs σ H Q => vs = [] ∧ Q σ H
def gCons (t : TG) (u : TGs) : TGs := fun vs σ H Q => ∃ v r, vs = v :: r ∧ t v σ H fun σ' H' => u r σ' H' Q
theorem pgs_nil : PGs X [] gNil := by
  intro pins s σ H vs us Q I r h
  obtain ⟨e, h⟩ := h
  subst e
  cases r
  exact assignInOrder_nil ⟨σ, H, I, h⟩
theorem pgs_cons {e : Expr} {es : List Expr} {t : TG} {u : TGs} (h1 : PG X e t) (h2 : PGs X es u)
    (hs : (assignEach (e :: es) X.env).map (·.2) = assign e X.env :: (assignEach es X.env).map (·.2) := by rfl) : PGs X (e :: es) (gCons t u) := by
  intro pins s σ H vs us Q I r h
  obtain ⟨v, vr, e1, h⟩ := h
  subst e1
  cases r with
  | cons r rr =>
    rw [hs]
    refine assignInOrder_cons (thn (h1 pins s σ H _ _ _ I r h) fun _ s1 ⟨σ1, H1, I1, q1⟩ => ?_)
    exact h2 pins s1 σ1 H1 _ _ Q I1 rr q1
/-- (a, b, ..) = a tuple of that length -/
def gTup (K : PySem.W.Frag) (n : Nat) (t : TGs) : TG := fun v σ H Q => ∃ a xs, v = .ref a ∧ SqT K H a xs ∧ xs.length = n ∧ t xs σ H Q
theorem pg_tup {es : List Expr} {k : Nat} {t : TGs} {n : Nat} (hc : X.calm = true) (h : PGs X es t)
    (hn : (assignEach es X.env).length = n := by rfl) (hst : (assignEach es X.env).findIdx? (·.1) = none := by rfl) : PG X (.Tuple es k pos) (gTup X.K n t) := by
  intro pins s σ H v u Q I r hw
  obtain ⟨a, xs, e1, hq, hl, hw⟩ := hw
  subst e1
  cases r
  obtain ⟨its, rv, ht, hz⟩ := I.tuple hq
  refine assign_Tuple_tuple (I.ok.hd hc) ht (by simp [hn, ← hl, rv.length]) hst fun h' hx => ?_
  have I1 : Inv X pins σ H { s with heap := h' } := I.kept (t' := s.toks) fun b o e => hx b o (Nat.ne_of_lt (Heap.lt_size e)) e
  exact h pins _ σ H xs _ Q I1 (by simpa using rv) hw
/-- o[i] = .. -/
def gSub (to ti : TE) (t : TSet) : TG := fun v σ H Q => to σ H fun o H1 => ti σ H1 fun i H2 => t o i v H2 fun H3 => Q σ H3
theorem pg_sub {o i : Expr} {to ti : TE} {t : TSet} (ho : PE X o to) (hi : PE X i ti) (hs : PSet X t)
    (ha : ∀ v, assign (.Subscript o i pos) X.env v = (do
      let ov ← holding [v] (eval o X.env)
      let iv ← holding [v, ov] (eval i X.env)
      standAt pos
      holding [v, ov, iv] (setItem ov iv v)
      release [v, ov, iv] []) := by intro _; rfl) : PG X (.Subscript o i pos) (gSub to ti t) := by
  intro pins s σ H v u Q I r h
  rw [ha]
  refine wpAny_bind (wpAny_holding (thn (ho pins s σ H _ I h) fun ov s1 ⟨x, H1, I1, r1, q1⟩ => ?_))
  refine wpAny_bind (wpAny_holding (thn (hi pins s1 σ H1 _ I1 q1) fun iv s2 ⟨y, H2, I2, r2, q2⟩ => ?_))
  refine wpAny_bind (wpAny_standAt (wpAny_bind (wpAny_holding (thn (hs pins s2 σ H2 x y v ov iv u _ I2 r1 r2 r q2) fun _ s3 ⟨H3, I3, q3⟩ => ?_))))
  exact wpAny_release ⟨σ, H3, I3, q3⟩
/-- target = value -/
def tAsg (te : TE) (g : TG) : TS := fun D σ H => te σ H fun x H1 => g x σ H1 D.nx
theorem ps_asg {tg e : Expr} {te : TE} {g : TG} (he : PE X e te) (hg : PG X tg g) (hs : swapsWithSole [tg] e pos.line X.env = pure false := by rfl) (hw : swappedStores [tg] e X.env = pure none := by rfl)
    (h1 : (assignEach [tg] X.env).map (·.2) = [assign tg X.env] := by rfl) : PS X (.Assign [tg] e pos) (tAsg te g) := by
  intro pins s σ H D I h
  refine wpAny_Assign_stores (thn (he pins s σ H _ I h) fun v s1 ⟨x, H1, I1, r1, q1⟩ => ?_) hs hw
  rw [h1]
  exact thn (hg pins s1 σ H1 x v _ I1 r1 q1) fun _ s2 q => q
/-- name = value -/
theorem ps_set {i : Nat} {x : Str} {e : Expr} {te : TE} {pos' : Pos} (hN : X.N.Nodup) (hi : X.N[i]? = some x) (hx : Loc X.env.scope x) (he : PE X e te) (hs : swapsWith e (some (.Name x pos')) pos.line X.env = pure false := by rfl) (hf : X.fn x = true ∨ X.env.scope.names.lookup x = some .local := by first | exact .inl rfl | exact .inr rfl | assumption) :
    PS X (.Assign [.Name x pos'] e pos) (tAsg te (gName i)) := by
  intro pins s σ H D I h
  refine wpAny_Assign_Name (thn (he pins s σ H _ I h) fun v s1 ⟨y, H1, I1, r1, q1⟩ => ?_) hs
  exact store_ok I1 hN hi hx r1 (fun s2 I2 => ⟨_, H1, I2, q1⟩) hf
/-- a, b = x, y with plain local names: stored from the right; the pair itself is not tracked (the opening rows as in PyProof/Rows/TupAssign.lean:23) -/
def tPar (i j : Nat) (ta : TA) : TS := fun D σ H => ta σ H fun vs H1 => ∃ v w, vs = [v, w] ∧ D.nx ((σ.set i (some v)).set j (some w)) H1
theorem ps_par {i j : Nat} {x y : Str} {a b : Expr} {ta : TA} {px py pt : Pos} {kt k2 pt2} (hc : X.calm = true) (hN : X.N.Nodup) (hi : X.N[i]? = some x) (hj : X.N[j]? = some y) (hij : i ≠ j)
    (hx : X.env.scope.names.lookup x = some .local) (hy : X.env.scope.names.lookup y = some .local) (ha : PA X [a, b] ta)
    (hw : swappedStores [.Tuple [.Name x px, .Name y py] kt pt] (.Tuple [a, b] k2 pt2) X.env = pure (some [x, y]))
    (hs : swapsWithSole [.Tuple [.Name x px, .Name y py] kt pt] (.Tuple [a, b] k2 pt2) pos.line X.env = pure false := by rfl) :
    PS X (.Assign [.Tuple [.Name x px, .Name y py] kt pt] (.Tuple [a, b] k2 pt2) pos) (tPar i j ta) := by
  intro pins s σ H D I h
  rw [exec_Assign_arm]
  refine wpAny_bind (wpAny_standAt ?_)
  rw [hs]
  refine wpAny_bind (wpAny_pure ?_)
  rw [if_neg (by decide)]
  refine wpAny_bind (Tuple_ (thn (ha _ pins s σ H _ I h) fun us s1 ⟨vs, H1, I1, r1, q1⟩ => ?_))
  obtain ⟨v, w, e1, q1⟩ := q1
  subst e1
  obtain ⟨u1, u2, rfl, rv, rw'⟩ : ∃ u1 u2, us = [u1, u2] ∧ RelV v u1 ∧ RelV w u2 := by
    cases r1 with
    | cons p q =>
      cases q with
      | cons p' q' =>
        cases q'
        exact ⟨_, _, rfl, p, p'⟩
  refine wpAny_newObj_type ?_ (by show 2 ≤ sizeLine; decide)
  have I2 : Inv X pins σ H1 { s1 with heap := s1.heap.push { cls := .type "tuple", data := .seq [u1, u2].toArray } } := I1.kept (t' := s1.toks) fun b o e => Heap.get?_push_of_some _ e
  rw [hw]
  refine wpAny_bind (wpAny_pure ?_)
  show wpAny (model X.prog X.w) X.A (do rule "assign.swapped-stores"; let items ← unpackItems (.ref s1.heap.objs.size) 2 none; assignInOrder [fun v => bindName X.env y v, fun v => bindName X.env x v] items.reverse; pure Flow.next) _ _ _
  refine wpAny_bind (wpAny_rule (wpAny_bind (unpackItems_tuple (items := #[u1, u2]) (I.ok.hd hc) (IsTup.new s1.heap _) fun h' hx' => ?_)))
  have I3 := I2.kept (h' := h') (t' := s1.toks) fun b o e => hx' b o (Nat.ne_of_lt (Heap.lt_size e)) e
  show wpAny _ _ (assignInOrder [fun v => bindName X.env y v, fun v => bindName X.env x v] [u2, u1] >>= fun _ => pure Flow.next) _ _ _
  refine wpAny_bind (assignInOrder_cons (wpAny_bindName (store_ok I3 hN hj (.inl hy) rw' (fun s2 I4 => ?_) (.inr hy))))
  refine assignInOrder_cons (wpAny_bindName (store_ok I4 hN hi (.inl hx) rv (fun s3 I5 => assignInOrder_nil (wpAny_pure ?_)) (.inr hx)))
  rw [List.set_comm _ _ (Ne.symm hij)] at I5
  exact ⟨_, H1, I5, q1⟩
end

section
variable {X : Cx} {pos : Pos}
/-- the invariant W with its measure -/
def tWhile (c : TT) (tb : TS) : TS := fun D σ H => ∃ W : Nat → St → Hp → Prop, (∃ m, W m σ H) ∧ ∀ m σ H, W m σ H →
  c σ H fun b H1 => if b = true then ∃ N : St → Hp → Prop, (∀ σ' H', N σ' H' → ∃ m', m' < m ∧ W m' σ' H') ∧ tb { D with nx := N, ct := N, bk := D.nx } σ H1 else D.nx σ H1
theorem ps_while {c : Expr} {body : List Stmt} {tc : TT} {tb : TS} (hp : PassesOwn (model X.prog X.w) X.A X.env X.xe) (hc : PT X c tc) (hb : PSs X body tb) : PS X (.While c body [] pos) (tWhile tc tb) := by
  intro pins s σ H D I h
  obtain ⟨W, ⟨m0, w0⟩, turn⟩ := h
  refine wpAny_While (codeAny_whileLoop (fun n s' => ∃ σ' H', Inv X pins σ' H' s' ∧ W n σ' H') ?_ m0 ⟨σ, H, I, w0⟩)
  rintro n s1 ⟨σ1, H1, I1, w1⟩
  refine wpAny_passesOwn hp (thn (hc pins s1 σ1 H1 _ I1 (turn n σ1 H1 w1)) fun b s2 ⟨H2, I2, q2⟩ => ?_)
  cases b with
  | true =>
    obtain ⟨N, hN, q2⟩ := q2
    rw [if_pos rfl]
    refine wpAny_passesOwn hp (thn (hb pins s2 σ1 H2 _ I2 q2) fun f s3 q3 => ?_)
    cases f with
    | next =>
      obtain ⟨σ3, H3, I3, n3⟩ := q3
      obtain ⟨m', hm, w3⟩ := hN σ3 H3 n3
      exact ⟨m', hm, σ3, H3, I3, w3⟩
    | cont =>
      obtain ⟨σ3, H3, I3, n3⟩ := q3
      obtain ⟨m', hm, w3⟩ := hN σ3 H3 n3
      exact ⟨m', hm, σ3, H3, I3, w3⟩
    | brk => exact q3
    | ret v => exact q3
  | false =>
    rw [if_neg Bool.false_ne_true]
    exact wpAny_execs_nil ⟨σ1, H2, I2, q2⟩
end

/-- at turn i: it yields x (the heap may grow), or it stops -/
structure It where
  go : Nat → Hp → Prop
  yld : Nat → Hp → V → Hp → Prop
  stop : Nat → Hp → Prop
/-- the iterator's own objects may turn: they are not the frame's, not pinned, younger than the entry (or a comprehension's own) -/
def FpOk (X : Cx) (pins : List (Addr × Obj)) (H : Hp) (b : Addr) : Prop :=
  H b = none ∧ b ≠ X.env.locals ∧ b ∉ X.fs ∧ (b ∈ X.ex ∨ X.s₀.heap.objs.size ≤ b) ∧ (∀ x c, X.env.cells.lookup x = some c → c ≠ b) ∧ ∀ p ∈ X.pn ++ pins, p.1 ≠ b
theorem Inv.fpOk {X : Cx} {pins : List (Addr × Obj)} {σ : St} {H H' : Hp} {s : Shared} {b : Addr} (I : Inv X pins σ H s) (hb : s.heap.objs.size ≤ b) (hn : H' b = none) : FpOk X pins H' b := by
  refine ⟨hn, Nat.ne_of_gt (Nat.lt_of_lt_of_le I.lt hb), I.nofs hb, .inr (Nat.le_trans I.sz hb), fun x c e z => ?_, fun p hp z => ?_⟩
  · obtain ⟨v, q⟩ := I.cell x c e
    exact absurd (Nat.lt_of_lt_of_le q.lt (by rw [z]; exact hb)) (Nat.lt_irrefl _)
  · exact absurd (Nat.lt_of_lt_of_le (Heap.lt_size (I.pin p hp).1) (by rw [z]; exact hb)) (Nat.lt_irrefl _)
structure Turn (P : Program) (w : World) (K : PySem.W.Frag) (tg : Expr) (J : It) (fp : List Addr) (it : Addr) (tn : Nat → Heap → Prop) : Prop where
  mem : it ∈ fp
  obj : ∀ i h, tn i h → ∀ b ∈ fp, ∃ o, h.get? b = some o ∧ ∀ v, o.data ≠ .cell v
  keep : ∀ i h h', tn i h → (∀ b ∈ fp, ∀ o, h.get? b = some o → h'.get? b = some o) → tn i h'
  item : ∀ (X : Cx), X.prog = P → X.w = w → X.K = K → X.calm = true → ∀ (i : Nat) (pins : List (Addr × Obj)) (s : Shared) (σ : St) (H : Hp) (E : Value → Shared → Prop), Inv X pins σ H s → (∀ b ∈ fp, FpOk X pins H b) → tn i s.heap → J.go i H →
    wpAny (model P w) X.A (pyNext (.ref it)) (fun r s1 => ∃ u, r = some u ∧
      wpAny (model P w) X.A (letOwnedTupleGo tg (.ref it) u) (fun _ s2 => ∃ x H', Inv X pins σ H' s2 ∧ RelV x u ∧ J.yld i H x H' ∧ tn (i + 1) s2.heap ∧ ∀ b ∈ fp, H' b = none) E s1) E s
  done : ∀ (X : Cx), X.prog = P → X.w = w → X.K = K → X.calm = true → ∀ (i : Nat) (pins : List (Addr × Obj)) (s : Shared) (σ : St) (H : Hp) (E : Value → Shared → Prop), Inv X pins σ H s → (∀ b ∈ fp, FpOk X pins H b) → tn i s.heap → J.stop i H →
    wpAny (model P w) X.A (pyNext (.ref it)) (fun r s1 => r = none ∧ Inv X pins σ H s1) E s
  self : ∀ (A : Around) (i : Nat) (s : Shared) (Q : Value → Shared → Prop) (E : Value → Shared → Prop), tn i s.heap → Q (.ref it) s → wpAny (model P w) A (pyIter (.ref it)) Q E s
abbrev TI := St → Hp → (It → Hp → Prop) → Prop
/-- an iterator has come -/
def PIE (X : Cx) (pins : List (Addr × Obj)) (σ : St) (tg : Expr) (R : It → Hp → Prop) (itv : Value) (s2 : Shared) : Prop :=
  ∃ (it : Addr) (fp : List Addr) (tn : Nat → Heap → Prop) (J : It) (H' : Hp), itv = .ref it ∧ Inv X pins σ H' s2 ∧ Turn X.prog X.w X.K tg J fp it tn ∧ tn 0 s2.heap ∧ (∀ b ∈ fp, FpOk X pins H' b) ∧ R J H'
def PI (X : Cx) (tg iter : Expr) (wi : TI) : Prop :=
  ∀ (pins : List (Addr × Obj)) (s : Shared) (σ : St) (H : Hp) (R : It → Hp → Prop), Inv X pins σ H s → wi σ H R →
    wpAny (model X.prog X.w) X.A (eval iter X.env) (fun v s1 => wpAny (model X.prog X.w) X.A (pyIter v) (PIE X pins σ tg R) X.xe s1) X.xe s

/-- the step ahead of the store is nothing for an iterator that keeps no tuple -/
theorem go_of {M : Model} {A : Around} {E : Value → Shared → Prop} {s : Shared} {tg : Expr} {it : Addr} {u : Value} {o : Obj} {n : String} {vs : Array Value} {Q : Unit → Shared → Prop} (ho : s.heap.get? it = some o) (hc : o.cls = .type n) (hd : o.data = .fields vs)
    (hn : ["enumerate", "zip", "dict_itemiterator", "dict_reverseitemiterator", "odict_iterator", "itertools.zip_longest", "itertools.pairwise"].contains n = false) (hQ : Q () s) : wpAny M A (letOwnedTupleGo tg (.ref it) u) Q E s := by
  unfold letOwnedTupleGo
  cases tg <;> first
    | exact wpAny_pure hQ
    | (cases u <;> first
        | exact wpAny_pure hQ
        | (refine wpAny_bind (wpAny_load ho ?_)
           rw [hc, hd]
           show wpAny M A (if (["enumerate", "zip", "dict_itemiterator", "dict_reverseitemiterator", "odict_iterator", "itertools.zip_longest", "itertools.pairwise"].contains n && vs[0]? == some (rawInt _)) = true then _ else _) Q E s
           rw [if_neg (by intro h; rw [hn, Bool.false_and] at h; cases h)]
           exact wpAny_pure hQ))

/-- the list at a, as it stands at each turn (a loop may append to it) -/
def Itl (K : PySem.W.Frag) (a : Addr) : It :=
  ⟨fun i H => ∃ xs x, SqL K H a xs ∧ xs[i]? = some x, fun i H x H' => H' = H ∧ ∀ xs, SqL K H a xs → xs[i]? = some x, fun i H => ∃ xs, SqL K H a xs ∧ xs.length ≤ i⟩
def Itt (K : PySem.W.Frag) (a : Addr) : It :=
  ⟨fun i H => ∃ xs x, SqT K H a xs ∧ xs[i]? = some x, fun i H x H' => H' = H ∧ ∀ xs, SqT K H a xs → xs[i]? = some x, fun i H => ∃ xs, SqT K H a xs ∧ xs.length ≤ i⟩
/-- lo, lo + 1, .. (n of them) -/
def Itr (lo : Int) (n : Nat) : It := ⟨fun i _ => i < n, fun i H x H' => H' = H ∧ x = .int (lo + i), fun i _ => n ≤ i⟩
theorem turn_list {P : Program} {w : World} {K : PySem.W.Frag} {tg : Expr} (a it : Addr) : Turn P w K tg (Itl K a) [it] it (fun i h => h.IsListIter it a i) where
  mem := by simp
  obj := fun i h st b hb => by
    have e : b = it := by simpa using hb
    subst e
    obtain ⟨o, e, c, d⟩ := st
    exact ⟨o, e, fun v z => by rw [d] at z; cases z⟩
  keep := fun i h h' st k => st.at fun o e => k it (by simp) o e
  item := by
    intro X hP hw hK hc i pins s σ H E I hf st hg
    subst hP hw hK
    obtain ⟨xs, x, hq, hx⟩ := hg
    obtain ⟨its, rv, p, hz⟩ := I.list hq
    obtain ⟨u, hu, ru⟩ := rv.get hx
    obtain ⟨f0, f1, f2, f3, f4, f5⟩ := hf it (by simp)
    refine wpAny_pyNext_list_item st p.isList (x := u) (by simpa using hu) fun h' st' sb => ?_
    have I1 : Inv X pins σ H { s with heap := h' } := I.turned (t' := s.toks) (fun b o hb e => (sb.2 b hb).trans e) f0 f1 f3 f4 f5
    obtain ⟨o, e, c, d⟩ := id st'
    exact ⟨u, rfl, go_of (s := { s with heap := h' }) e c d (by decide) ⟨x, H, I1, ru, ⟨rfl, fun ys hy => by rw [I.list_inj hy hq]; exact hx⟩, st', fun b hb => (hf b hb).1⟩⟩
  done := by
    intro X hP hw hK hc i pins s σ H E I hf st hg
    subst hP hw hK
    obtain ⟨xs, hq, hx⟩ := hg
    obtain ⟨its, rv, p, hz⟩ := I.list hq
    obtain ⟨f0, f1, f2, f3, f4, f5⟩ := hf it (by simp)
    have hl := rv.length
    exact wpAny_pyNext_list_end (I.ok.hd hc) st p.isList (by simp; omega) fun h' eb => ⟨rfl, I.turned (t' := s.toks) (fun b o hb e => eb b o hb e) f0 f1 f3 f4 f5⟩
  self := fun _ _ _ _ _ st h => wpAny_pyIter_listiter st h
theorem turn_tuple {P : Program} {w : World} {K : PySem.W.Frag} {tg : Expr} (a it : Addr) : Turn P w K tg (Itt K a) [it] it (fun i h => h.IsTupleIter it a i) where
  mem := by simp
  obj := fun i h st b hb => by
    have e : b = it := by simpa using hb
    subst e
    obtain ⟨o, e, c, d⟩ := st
    exact ⟨o, e, fun v z => by rw [d] at z; cases z⟩
  keep := fun i h h' st k => st.at fun o e => k it (by simp) o e
  item := by
    intro X hP hw hK hc i pins s σ H E I hf st hg
    subst hP hw hK
    obtain ⟨xs, x, hq, hx⟩ := hg
    obtain ⟨its, rv, p, hz⟩ := I.tuple hq
    obtain ⟨u, hu, ru⟩ := rv.get hx
    obtain ⟨f0, f1, f2, f3, f4, f5⟩ := hf it (by simp)
    refine wpAny_pyNext_tuple_item st (show s.heap.IsTuple a its.toArray from p) (x := u) (by simpa using hu) fun h' st' sb => ?_
    have I1 : Inv X pins σ H { s with heap := h' } := I.turned (t' := s.toks) (fun b o hb e => (sb.2 b hb).trans e) f0 f1 f3 f4 f5
    obtain ⟨o, e, c, d⟩ := id st'
    exact ⟨u, rfl, go_of (s := { s with heap := h' }) e c d (by decide) ⟨x, H, I1, ru, ⟨rfl, fun ys hy => by rw [I.tuple_inj hy hq]; exact hx⟩, st', fun b hb => (hf b hb).1⟩⟩
  done := by
    intro X hP hw hK hc i pins s σ H E I hf st hg
    subst hP hw hK
    obtain ⟨xs, hq, hx⟩ := hg
    obtain ⟨its, rv, p, hz⟩ := I.tuple hq
    obtain ⟨f0, f1, f2, f3, f4, f5⟩ := hf it (by simp)
    have hl := rv.length
    exact wpAny_pyNext_tuple_end (I.ok.hd hc) st (show s.heap.IsTuple a its.toArray from p) (by simp; omega) fun h' eb => ⟨rfl, I.turned (t' := s.toks) (fun b o hb e => eb b o hb e) f0 f1 f3 f4 f5⟩
  self := fun _ _ _ _ _ st h => wpAny_pyIter_tupleiter st h
theorem turn_range {P : Program} {w : World} {K : PySem.W.Frag} {tg : Expr} (it : Addr) (lo : Int) (n : Nat) : Turn P w K tg (Itr lo n) [it] it (fun i h => IsRangeIter h it (lo + (i : Nat) * 1) ((n : Int) - (i : Nat)) 1) where
  mem := by simp
  obj := fun i h st b hb => by
    have e : b = it := by simpa using hb
    subst e
    exact ⟨_, st, fun v z => by
      have z' : Data.fields _ = Data.cell v := z
      cases z'⟩
  keep := fun i h h' st k => k it (by simp) _ st
  item := by
    intro X hP hw hK hc i pins s σ H E I hf st hg
    subst hP hw hK
    obtain ⟨f0, f1, f2, f3, f4, f5⟩ := hf it (by simp)
    have W := Walks.range (prog := X.prog) (w := X.w) (I.ok.hd hc) it lo 1 n
    refine W.item i s _ _ hg st fun v h' tk hv st' kk => ?_
    obtain ⟨t, rfl⟩ := hv
    have I1 : Inv X pins σ H { s with heap := h', toks := tk } := I.turned (fun b o hb e => kk b o (by simpa using hb) e) f0 f1 f3 f4 f5
    refine ⟨_, rfl, go_of (s := { s with heap := h', toks := tk }) (n := "range_iterator") st' rfl rfl (by decide) ⟨.int (lo + i), H, I1, ⟨t, ?_⟩, ⟨rfl, rfl⟩, st', fun b hb => (hf b hb).1⟩⟩
    rw [Int.mul_one]
  done := by
    intro X hP hw hK hc i pins s σ H E I hf st hg
    subst hP hw hK
    obtain ⟨f0, f1, f2, f3, f4, f5⟩ := hf it (by simp)
    exact wpAny_pyNext_range_end (I.ok.hd hc) st (by have : n ≤ i := hg; omega) fun h' eb => ⟨rfl, I.turned (t' := s.toks) (fun b o hb e => eb b o hb e) f0 f1 f3 f4 f5⟩
  self := fun _ _ _ _ _ st h => wpAny_pyIter_rangeiter st h
end L2

namespace L2
open PySem PySem.Spec PyProof.Rows
section
variable {X : Cx} {tg : Expr}
def iList (K : PySem.W.Frag) (tl : TE) : TI := fun σ H R => tl σ H fun x H1 => ∃ a, x = .ref a ∧ (∃ xs, SqL K H1 a xs) ∧ R (Itl K a) H1
def iTup (K : PySem.W.Frag) (tl : TE) : TI := fun σ H R => tl σ H fun x H1 => ∃ a, x = .ref a ∧ (∃ xs, SqT K H1 a xs) ∧ R (Itt K a) H1
theorem pi_list {l : Expr} {tl : TE} (hl : PE X l tl) : PI X tg l (iList X.K tl) := by
  intro pins s σ H R I h
  refine thn (hl pins s σ H _ I h) fun v s1 ⟨x, H1, I1, r1, q1⟩ => ?_
  obtain ⟨a, e, ⟨xs, hq⟩, q⟩ := q1
  subst e
  cases r1
  obtain ⟨its, rv, p, hz⟩ := I1.list hq
  refine wpAny_pyIter_list p.isList ?_
  refine ⟨s1.heap.objs.size, [s1.heap.objs.size], _, _, H1, rfl, I1.kept (t' := s1.toks) fun b o e => Heap.get?_push_of_some _ e, turn_list a _, ⟨_, Heap.get?_push_size _ rfl, rfl, rfl⟩, fun b hb => ?_, q⟩
  have e : b = s1.heap.objs.size := by simpa using hb
  subst e
  exact I1.fpOk (Nat.le_refl _) (I1.hok.fresh (Nat.le_refl _))
theorem pi_tup {l : Expr} {tl : TE} (hl : PE X l tl) : PI X tg l (iTup X.K tl) := by
  intro pins s σ H R I h
  refine thn (hl pins s σ H _ I h) fun v s1 ⟨x, H1, I1, r1, q1⟩ => ?_
  obtain ⟨a, e, ⟨xs, hq⟩, q⟩ := q1
  subst e
  cases r1
  obtain ⟨its, rv, p, hz⟩ := I1.tuple hq
  refine wpAny_pyIter_tuple (show s1.heap.IsTuple a its.toArray from p) ?_
  refine ⟨s1.heap.objs.size, [s1.heap.objs.size], _, _, H1, rfl, I1.kept (t' := s1.toks) fun b o e => Heap.get?_push_of_some _ e, turn_tuple a _, ⟨_, Heap.get?_push_size _ rfl, rfl, rfl⟩, fun b hb => ?_, q⟩
  have e : b = s1.heap.objs.size := by simpa using hb
  subst e
  exact I1.fpOk (Nat.le_refl _) (I1.hok.fresh (Nat.le_refl _))
/-- a range object just made, walked -/
theorem range_it {pins : List (Addr × Obj)} {σ : St} {H : Hp} {s : Shared} {R : It → Hp → Prop} {E : Value → Shared → Prop} {lo hi : Int} {t u v : Tok} {tk : Nat} (I : Inv X pins σ H s) (h1 : -(2 ^ 62) ≤ lo) (h2 : lo < 2 ^ 62) (h3 : -(2 ^ 62) ≤ hi) (h4 : hi < 2 ^ 62)
    (q : R (Itr lo (hi - lo).toNat) H) : wpAny (model X.prog X.w) X.A (pyIter (.ref s.heap.objs.size)) (PIE X pins σ tg R) E { s with heap := s.heap.push { cls := .type "range", data := .fields #[.int lo t, .int hi u, .int 1 v] }, toks := tk } := by
  refine wpAny_pyIter_range (IsRange.new ..) (small_one h1 h2 h3 h4) ?_
  have I1 : Inv X pins σ H { s with heap := s.heap.push { cls := .type "range", data := .fields #[.int lo t, .int hi u, .int 1 v] }, toks := tk } := I.kept fun b o e => Heap.get?_push_of_some _ e
  refine ⟨(s.heap.push { cls := .type "range", data := .fields #[.int lo t, .int hi u, .int 1 v] }).objs.size, [(s.heap.push { cls := .type "range", data := .fields #[.int lo t, .int hi u, .int 1 v] }).objs.size], _, _, H, rfl,
    I1.kept (t' := tk) fun b o e => Heap.get?_push_of_some _ e, turn_range _ lo (hi - lo).toNat, ?_, fun b hb => ?_, q⟩
  · have e1 : lo + ((0 : Nat) : Int) * 1 = lo := by simp
    have e2 : (((hi - lo).toNat : Nat) : Int) - ((0 : Nat) : Int) = Builtin.Range.rangeSize lo hi 1 := by rw [rangeSize_one]; split <;> omega
    show IsRangeIter _ _ (lo + ((0 : Nat) : Int) * 1) ((((hi - lo).toNat : Nat) : Int) - ((0 : Nat) : Int)) 1
    rw [e1, e2]
    exact Heap.get?_push_size _ rfl
  · have e : b = (s.heap.push { cls := .type "range", data := .fields #[.int lo t, .int hi u, .int 1 v] }).objs.size := by simpa using hb
    subst e
    exact I1.fpOk (Nat.le_refl _) (I1.hok.fresh (Nat.le_refl _))
def iRng1 (ta : TA) : TI := fun σ H R => ta σ H fun vs H1 => ∃ j : Int, vs = [.int j] ∧ -(2 ^ 62) ≤ j ∧ j < 2 ^ 62 ∧ R (Itr 0 j.toNat) H1
theorem pi_range1 {a : Expr} {ta : TA} {p pos : Pos} (hg : Gl X "range") (hm : X.mg "range" = none) (ha : PA X [a] ta) (hs : starEach [a] X.env = [(false, eval a X.env)] := by rfl) : PI X tg (.Call (.Name "range" p) [a] [] pos) (iRng1 ta) := by
  intro pins s σ H R I h
  refine Call_ (ld_blt I hg hm boot_range (PyProof.Rows.callWith_type1 (thn (ha pos pins s σ H _ I h) fun us s1 ⟨vs, H1, I1, r1, q1⟩ => ?_) hs rfl))
  obtain ⟨j, e, q1, q2, q⟩ := q1
  subst e
  cases r1 with
  | cons r rr =>
    cases rr
    obtain ⟨t, rfl⟩ := r
    exact call_range_1 (range_it I1 (by omega) (by omega) q1 q2 (by simpa using q))
/-- W: the invariant by the turn and a measure; N: what the body is to reach -/
def tFor (wi : TI) (g : TG) (tb : TS) : TS := fun D σ H => wi σ H fun J H1 => ∃ W : Nat → Nat → St → Hp → Prop, (∃ m, W 0 m σ H1) ∧ ∀ i m σ H, W i m σ H →
  (J.stop i H ∧ D.nx σ H) ∨ (J.go i H ∧ ∃ N : St → Hp → Prop, (∀ σ' H', N σ' H' → ∃ m', m' < m ∧ W (i + 1) m' σ' H') ∧ ∀ x H', J.yld i H x H' → g x σ H' fun σ2 H2 => tb { D with nx := N, ct := N, bk := D.nx } σ2 H2)
/-- the records at fp as they stand -/
def pinsAt (fp : List Addr) (h : Heap) : List (Addr × Obj) := fp.filterMap fun b => (h.get? b).map fun o => (b, o)
theorem mem_pinsAt {fp : List Addr} {h : Heap} {b : Addr} {o : Obj} (hb : b ∈ fp) (e : h.get? b = some o) : (b, o) ∈ pinsAt fp h := List.mem_filterMap.mpr ⟨b, hb, by rw [e]; rfl⟩
theorem of_pinsAt {fp : List Addr} {h : Heap} {p : Addr × Obj} (hp : p ∈ pinsAt fp h) : p.1 ∈ fp ∧ h.get? p.1 = some p.2 := by
  obtain ⟨b, hb, e⟩ := List.mem_filterMap.mp hp
  cases q : h.get? b with
  | none => rw [q] at e; cases e
  | some o =>
    rw [q] at e
    have e' : (b, o) = p := Option.some.inj e
    subst e'
    exact ⟨hb, q⟩
theorem Inv.pinned {pins : List (Addr × Obj)} {σ : St} {H : Hp} {s : Shared} {fp : List Addr} (I : Inv X pins σ H s) (hf : ∀ b ∈ fp, FpOk X pins H b) (ho : ∀ b ∈ fp, ∃ o, s.heap.get? b = some o ∧ ∀ v, o.data ≠ .cell v) : Inv X (pins ++ pinsAt fp s.heap) σ H s :=
  I.pins_of fun p hp => (List.mem_append.mp hp).elim (fun z => I.pin p (List.mem_append_right _ z)) fun z => by
    obtain ⟨hb, e⟩ := of_pinsAt z
    obtain ⟨f0, f1, f2, _⟩ := hf p.1 hb
    obtain ⟨o, e', d⟩ := ho p.1 hb
    rw [e] at e'; cases e'
    exact ⟨e, f0, f1, f2, d⟩
theorem Inv.unpinned {pins pl : List (Addr × Obj)} {σ : St} {H : Hp} {s : Shared} (I : Inv X (pins ++ pl) σ H s) : Inv X pins σ H s := I.pins_of fun p hp => I.pin p (List.mem_append_right _ (List.mem_append_left _ hp))
theorem ps_for {iter : Expr} {body : List Stmt} {wi : TI} {g : TG} {tb : TS} {pos : Pos} (hp : PassesOwn (model X.prog X.w) X.A X.env X.xe) (hc : X.calm = true) (hi : PI X tg iter wi) (hg : PG X tg g) (hb : PSs X body tb)
    (hs : ∀ x, foldedSetIterable iter X.env x = pure x := by intro _; rfl) : PS X (.For tg iter body [] pos) (tFor wi g tb) := by
  intro pins s σ H D I h
  refine wpAny_For (thn (hi pins s σ H _ I h) fun v s1 h1 => thn h1 fun itv s2 h2 => ?_) hs
  obtain ⟨it, fp, tn, J, H2, e, I2, T, st2, f2, W, ⟨m0, w0⟩, turn⟩ := h2
  subst e
  -- what stays true of the iterator's objects through the loop
  have stat : ∀ {H' : Hp}, (∀ b ∈ fp, H' b = none) → ∀ b ∈ fp, FpOk X pins H' b := fun hn b hb => ⟨hn b hb, (f2 b hb).2⟩
  refine codeAny_forLoop_any (fun n s' => ∃ i σ' H', Inv X pins σ' H' s' ∧ tn i s'.heap ∧ (∀ b ∈ fp, H' b = none) ∧ W i n σ' H') ?_ m0 ⟨0, σ, H2, I2, st2, fun b hb => (f2 b hb).1, w0⟩
  rintro n s3 ⟨i, σ3, H3, I3, st3, fr3, w3⟩
  rcases turn i n σ3 H3 w3 with ⟨stop, qn⟩ | ⟨go, N, hN, step⟩
  · refine wpAny_passesOwn hp (thn (T.done X rfl rfl rfl hc i pins s3 σ3 H3 X.xe I3 (stat fr3) st3 stop) fun r s4 ⟨hr, I4⟩ => ?_)
    subst hr
    exact wpAny_execs_nil ⟨σ3, H3, I4, qn⟩
  · refine wpAny_passesOwn hp (thn (T.item X rfl rfl rfl hc i pins s3 σ3 H3 X.xe I3 (stat fr3) st3 go) fun r s4 ⟨u, hr, h4⟩ => ?_)
    subst hr
    refine wpAny_passesOwn hp (thn h4 fun _ s5 ⟨x, H5, I5, r5, y5, st5, fr5⟩ => ?_)
    have I5' := I5.pinned (stat fr5) (T.obj _ _ st5)
    refine wpAny_passesOwn hp (thn (hg _ s5 σ3 H5 x u _ I5' r5 (step x H5 y5)) fun _ s6 ⟨σ6, H6, I6, q6⟩ => ?_)
    refine wpAny_passesOwn hp (thn (hb _ s6 σ6 H6 _ I6 q6) fun f s7 q7 => ?_)
    have again : ∀ {σ7 : St} {H7 : Hp}, Inv X (pins ++ pinsAt fp s5.heap) σ7 H7 s7 → N σ7 H7 → ∃ m, m < n ∧ ∃ i σ' H', Inv X pins σ' H' s7 ∧ tn i s7.heap ∧ (∀ b ∈ fp, H' b = none) ∧ W i m σ' H' := fun {σ7 H7} I7 n7 => by
      obtain ⟨m', hm, w7⟩ := hN σ7 H7 n7
      refine ⟨m', hm, i + 1, σ7, H7, I7.unpinned, T.keep _ _ _ st5 fun b hb o e => (I7.pin (b, o) (List.mem_append_right _ (List.mem_append_right _ (mem_pinsAt hb e)))).1, fun b hb => ?_, w7⟩
      obtain ⟨o, e, d⟩ := T.obj _ _ st5 b hb
      exact (I7.pin (b, o) (List.mem_append_right _ (List.mem_append_right _ (mem_pinsAt hb e)))).2.1
    cases f with
    | next => obtain ⟨σ7, H7, I7, n7⟩ := q7; exact again I7 n7
    | cont => obtain ⟨σ7, H7, I7, n7⟩ := q7; exact again I7 n7
    | brk => obtain ⟨σ7, H7, I7, q7⟩ := q7; exact ⟨σ7, H7, I7.unpinned, q7⟩
    | ret v => obtain ⟨x7, σ7, H7, I7, r7, q7⟩ := q7; exact ⟨x7, σ7, H7, I7.unpinned, r7, q7⟩
end

/-- over a list that the body leaves as it is -/
theorem for_list {K : PySem.W.Frag} {a : Addr} {xs : List V} {g : TG} {tb : TS} {D : Ends} {σ : St} {H : Hp} (Pv : Nat → St → Hp → Prop) (h0 : Pv 0 σ H) (hl : ∀ i σ H, i ≤ xs.length → Pv i σ H → SqL K H a xs)
    (hs : ∀ i x σ H, xs[i]? = some x → Pv i σ H → g x σ H fun σ2 H2 => tb { D with nx := Pv (i + 1), ct := Pv (i + 1), bk := D.nx } σ2 H2) (hd : ∀ σ H, Pv xs.length σ H → D.nx σ H) :
    ∃ W : Nat → Nat → St → Hp → Prop, (∃ m, W 0 m σ H) ∧ ∀ i m σ H, W i m σ H →
      ((Itl K a).stop i H ∧ D.nx σ H) ∨ ((Itl K a).go i H ∧ ∃ N : St → Hp → Prop, (∀ σ' H', N σ' H' → ∃ m', m' < m ∧ W (i + 1) m' σ' H') ∧ ∀ x H', (Itl K a).yld i H x H' → g x σ H' fun σ2 H2 => tb { D with nx := N, ct := N, bk := D.nx } σ2 H2) := by
  refine ⟨fun i m σ H => m = xs.length - i ∧ i ≤ xs.length ∧ Pv i σ H, ⟨xs.length, by simp, Nat.zero_le _, h0⟩, ?_⟩
  rintro i m σ H ⟨rfl, hi, p⟩
  have q := hl i σ H hi p
  by_cases hlt : i < xs.length
  · refine .inr ⟨⟨xs, xs[i], q, by simp [hlt]⟩, Pv (i + 1), fun σ' H' p' => ⟨xs.length - (i + 1), by omega, rfl, hlt, p'⟩, fun x H' y => ?_⟩
    obtain ⟨e, y⟩ := y
    subst e
    exact hs i x σ _ (y xs q) p
  · have e : i = xs.length := by omega
    subst e
    exact .inl ⟨⟨xs, q, Nat.le_refl _⟩, hd σ H p⟩
theorem for_tup {K : PySem.W.Frag} {a : Addr} {xs : List V} {g : TG} {tb : TS} {D : Ends} {σ : St} {H : Hp} (Pv : Nat → St → Hp → Prop) (h0 : Pv 0 σ H) (hl : ∀ i σ H, i ≤ xs.length → Pv i σ H → SqT K H a xs)
    (hs : ∀ i x σ H, xs[i]? = some x → Pv i σ H → g x σ H fun σ2 H2 => tb { D with nx := Pv (i + 1), ct := Pv (i + 1), bk := D.nx } σ2 H2) (hd : ∀ σ H, Pv xs.length σ H → D.nx σ H) :
    ∃ W : Nat → Nat → St → Hp → Prop, (∃ m, W 0 m σ H) ∧ ∀ i m σ H, W i m σ H →
      ((Itt K a).stop i H ∧ D.nx σ H) ∨ ((Itt K a).go i H ∧ ∃ N : St → Hp → Prop, (∀ σ' H', N σ' H' → ∃ m', m' < m ∧ W (i + 1) m' σ' H') ∧ ∀ x H', (Itt K a).yld i H x H' → g x σ H' fun σ2 H2 => tb { D with nx := N, ct := N, bk := D.nx } σ2 H2) := by
  refine ⟨fun i m σ H => m = xs.length - i ∧ i ≤ xs.length ∧ Pv i σ H, ⟨xs.length, by simp, Nat.zero_le _, h0⟩, ?_⟩
  rintro i m σ H ⟨rfl, hi, p⟩
  have q := hl i σ H hi p
  by_cases hlt : i < xs.length
  · refine .inr ⟨⟨xs, xs[i], q, by simp [hlt]⟩, Pv (i + 1), fun σ' H' p' => ⟨xs.length - (i + 1), by omega, rfl, hlt, p'⟩, fun x H' y => ?_⟩
    obtain ⟨e, y⟩ := y
    subst e
    exact hs i x σ _ (y xs q) p
  · have e : i = xs.length := by omega
    subst e
    exact .inl ⟨⟨xs, q, Nat.le_refl _⟩, hd σ H p⟩
theorem for_range {lo : Int} {n : Nat} {g : TG} {tb : TS} {D : Ends} {σ : St} {H : Hp} (Pv : Nat → St → Hp → Prop) (h0 : Pv 0 σ H)
    (hs : ∀ i σ H, i < n → Pv i σ H → g (.int (lo + i)) σ H fun σ2 H2 => tb { D with nx := Pv (i + 1), ct := Pv (i + 1), bk := D.nx } σ2 H2) (hd : ∀ σ H, Pv n σ H → D.nx σ H) :
    ∃ W : Nat → Nat → St → Hp → Prop, (∃ m, W 0 m σ H) ∧ ∀ i m σ H, W i m σ H →
      ((Itr lo n).stop i H ∧ D.nx σ H) ∨ ((Itr lo n).go i H ∧ ∃ N : St → Hp → Prop, (∀ σ' H', N σ' H' → ∃ m', m' < m ∧ W (i + 1) m' σ' H') ∧ ∀ x H', (Itr lo n).yld i H x H' → g x σ H' fun σ2 H2 => tb { D with nx := N, ct := N, bk := D.nx } σ2 H2) := by
  refine ⟨fun i m σ H => m = n - i ∧ i ≤ n ∧ Pv i σ H, ⟨n, by simp, Nat.zero_le _, h0⟩, ?_⟩
  rintro i m σ H ⟨rfl, hi, p⟩
  by_cases hlt : i < n
  · refine .inr ⟨hlt, Pv (i + 1), fun σ' H' p' => ⟨n - (i + 1), by omega, rfl, hlt, p'⟩, fun x H' y => ?_⟩
    obtain ⟨e, y⟩ := y
    subst e y
    exact hs i σ _ hlt p
  · have e : i = n := by omega
    subst e
    exact .inl ⟨Nat.le_refl _, hd σ H p⟩
/-- while, by a word and a measure of the state -/
theorem while_by {c : TT} {tb : TS} {D : Ends} {σ : St} {H : Hp} (Pv : St → Hp → Prop) (μ : St → Hp → Nat) (h0 : Pv σ H)
    (hs : ∀ σ H, Pv σ H → c σ H fun b H1 => if b = true then tb { D with nx := fun σ' H' => Pv σ' H' ∧ μ σ' H' < μ σ H, ct := fun σ' H' => Pv σ' H' ∧ μ σ' H' < μ σ H, bk := D.nx } σ H1 else D.nx σ H1)
    (mono : ∀ σ H Q Q', (∀ b H1, Q b H1 → Q' b H1) → c σ H Q → c σ H Q') : tWhile c tb D σ H := by
  refine ⟨fun m σ H => m = μ σ H ∧ Pv σ H, ⟨_, rfl, h0⟩, ?_⟩
  rintro m σ H ⟨rfl, p⟩
  refine mono σ H _ _ (fun b H1 q => ?_) (hs σ H p)
  cases b with
  | true => exact ⟨_, fun σ' H' ⟨p', l⟩ => ⟨_, l, rfl, p'⟩, q⟩
  | false => exact q
end L2

namespace L2
open PySem PySem.Spec PyProof.Rows

abbrev R2 := V → V → Hp → VK → Prop
/-- a two-place operation on values: f is binaryOp op, inplaceOp op or compareOp op -/
def OpR (X : Cx) (f : Value → Value → Sem Value) (r : R2) : Prop :=
  ∀ (pins : List (Addr × Obj)) (s : Shared) (σ : St) (H : Hp) (x y : V) (v u : Value) (Q : VK), Inv X pins σ H s → RelV x v → RelV y u → r x y H Q →
    wpAny (model X.prog X.w) X.A (f v u) (EP X pins σ Q) X.xe s
/-- a one-place operation -/
def UnR (X : Cx) (f : Value → Sem Value) (r : V → Hp → VK → Prop) : Prop :=
  ∀ (pins : List (Addr × Obj)) (s : Shared) (σ : St) (H : Hp) (x : V) (v : Value) (Q : VK), Inv X pins σ H s → RelV x v → r x H Q →
    wpAny (model X.prog X.w) X.A (f v) (EP X pins σ Q) X.xe s
/-- a call of a value that is known (a builtin, a type) with values -/
def CallR (X : Cx) (f : Value) (r : List V → Hp → VK → Prop) : Prop :=
  ∀ (pins : List (Addr × Obj)) (s : Shared) (σ : St) (H : Hp) (xs : List V) (us : List Value) (Q : VK), Inv X pins σ H s → Vals xs us → r xs H Q →
    wpAny (model X.prog X.w) X.A (call f us) (EP X pins σ Q) X.xe s
def tOp (r : R2) (ta tb : TE) : TE := fun σ H Q => ta σ H fun x H1 => tb σ H1 fun y H2 => r x y H2 Q
def tUn (r : V → Hp → VK → Prop) (ta : TE) : TE := fun σ H Q => ta σ H fun x H1 => r x H1 Q
/-- ints in, under C, and a value out -/
def rI (C : Int → Int → Prop) (g : Int → Int → V) : R2 := fun x y H Q => ∃ i j, x = .int i ∧ y = .int j ∧ C i j ∧ Q (g i j) H
def rI0 (g : Int → Int → V) : R2 := fun x y H Q => ∃ i j, x = .int i ∧ y = .int j ∧ Q (g i j) H
def rU (g : Int → V) : V → Hp → VK → Prop := fun x H Q => ∃ i, x = .int i ∧ Q (g i) H

section
variable {X : Cx} {a b c : Expr} {ta tb tc : TE} {pos : Pos}

theorem binT (ha : PE X a ta) (hb : PE X b tb) {pins : List (Addr × Obj)} {s : Shared} {σ : St} {H : Hp} {R : V → V → Hp → Prop} (I : Inv X pins σ H s)
    (h : ta σ H fun x H1 => tb σ H1 fun y H2 => R x y H2) {Q : Value → Shared → Prop} {f : Value → Value → Sem Value}
    (hf : ∀ v u s2 x y H2, Inv X pins σ H2 s2 → RelV x v → RelV y u → R x y H2 → wpAny (model X.prog X.w) X.A (f v u) Q X.xe s2) :
    wpAny (model X.prog X.w) X.A (eval a X.env) (fun v s₁ => wpAny (model X.prog X.w) X.A (eval b X.env) (fun u s₂ => wpAny (model X.prog X.w) X.A (f v u) Q X.xe s₂) X.xe s₁) X.xe s := by
  refine thn (ha pins s σ H _ I h) fun v s1 ⟨x, H1, I1, r1, q1⟩ => ?_
  refine thn (hb pins s1 σ H1 _ I1 q1) fun u s2 ⟨y, H2, I2, r2, q2⟩ => ?_
  exact hf v u s2 x y H2 I2 r1 r2 q2

theorem pe_op {op : Operator} {r : R2} (ho : OpR X (binaryOp op) r) (ha : PE X a ta) (hb : PE X b tb) : PE X (.BinOp a op b pos) (tOp r ta tb) := by
  intro pins s σ H Q I h
  exact wpAny_BinOp (binT ha hb I h fun v u s2 x y H2 I2 rx ry q => ho pins s2 σ H2 x y v u Q I2 rx ry q)
theorem pe_un {op : UnaryOp} {r : V → Hp → VK → Prop} (ho : UnR X (unaryOp op) r) (ha : PE X a ta) : PE X (.UnaryOp op a pos) (tUn r ta) := by
  intro pins s σ H Q I h
  exact UnaryOp_ (thn (ha pins s σ H _ I h) fun v s1 ⟨x, H1, I1, r1, q1⟩ => ho pins s1 σ H1 x v Q I1 r1 q1)
theorem opI {f : Value → Value → Sem Value} {C : Int → Int → Prop} {g : Int → Int → Int}
    (rule : ∀ (i j : Int) (t u : Tok) (s : Shared) (Q : Value → Shared → Prop) (E : Value → Shared → Prop), C i j → Q (.int (g i j) s.toks) { s with toks := s.toks + 1 } → wpAny (model X.prog X.w) X.A (f (.int i t) (.int j u)) Q E s) :
    OpR X f (rI C fun i j => .int (g i j)) := by
  intro pins s σ H x y v u Q I rx ry h
  obtain ⟨i, j, rfl, rfl, hc, q⟩ := h
  obtain ⟨t, rfl⟩ := rx
  obtain ⟨t', rfl⟩ := ry
  exact rule i j t t' s _ _ hc ⟨.int (g i j), H, I.tok _, ⟨_, rfl⟩, q⟩
theorem opI0 {f : Value → Value → Sem Value} {g : Int → Int → Int}
    (rule : ∀ (i j : Int) (t u : Tok) (s : Shared) (Q : Value → Shared → Prop) (E : Value → Shared → Prop), Q (.int (g i j) s.toks) { s with toks := s.toks + 1 } → wpAny (model X.prog X.w) X.A (f (.int i t) (.int j u)) Q E s) :
    OpR X f (rI0 fun i j => .int (g i j)) := by
  intro pins s σ H x y v u Q I rx ry h
  obtain ⟨i, j, rfl, rfl, q⟩ := h
  obtain ⟨t, rfl⟩ := rx
  obtain ⟨t', rfl⟩ := ry
  exact rule i j t t' s _ _ ⟨.int (g i j), H, I.tok _, ⟨_, rfl⟩, q⟩
theorem opB0 {f : Value → Value → Sem Value} {g : Int → Int → Bool}
    (rule : ∀ (i j : Int) (t u : Tok) (s : Shared) (Q : Value → Shared → Prop) (E : Value → Shared → Prop), Q (.bool (g i j)) s → wpAny (model X.prog X.w) X.A (f (.int i t) (.int j u)) Q E s) :
    OpR X f (rI0 fun i j => .bl (g i j)) := by
  intro pins s σ H x y v u Q I rx ry h
  obtain ⟨i, j, rfl, rfl, q⟩ := h
  obtain ⟨t, rfl⟩ := rx
  obtain ⟨t', rfl⟩ := ry
  exact rule i j t t' s _ _ ⟨.bl (g i j), H, I, rfl, q⟩

def CDiv (i j : Int) : Prop := 0 < j ∧ j < 1073741824
def CDivN (i j : Int) : Prop := j ≠ 0 ∧ j.natAbs < 1073741824
def CPow (i j : Int) : Prop := 0 ≤ j ∧ j ≤ 1000000 ∧ i.natAbs < 2 ^ 64
def CMul (i j : Int) : Prop := (-(2 ^ 64) < i ∧ i < 2 ^ 64) ∨ (-(2 ^ 64) < j ∧ j < 2 ^ 64)
theorem CMul.ok {i j : Int} (h : CMul i j) : IntMulOk i j := by
  rcases h with ⟨h1, h2⟩ | ⟨h1, h2⟩
  · exact .of_left (intBits_le_64 h1 h2)
  · exact .of_right (intBits_le_64 h1 h2)
theorem op_add : OpR X (binaryOp .Add) (rI0 fun i j => .int (i + j)) := opI0 fun _ _ _ _ _ _ _ q => add_int q
theorem op_sub : OpR X (binaryOp .Sub) (rI0 fun i j => .int (i - j)) := opI0 fun _ _ _ _ _ _ _ q => sub_int q
theorem op_mul : OpR X (binaryOp .Mult) (rI CMul fun i j => .int (i * j)) := opI fun _ _ _ _ _ _ _ hc q => mul_int q hc.ok
/-- // by a positive divisor -/
theorem op_fdiv : OpR X (binaryOp .FloorDiv) (rI CDiv fun i j => .int (i / j)) := opI fun i j _ _ _ _ _ hc q => by
  have h1 : (0 : Int) < j := hc.1
  have h2 : j < 1073741824 := hc.2
  exact floordiv_int (by omega) (by rw [Int.fdiv_eq_ediv_of_nonneg i (by omega)]; exact q) (.inl (PyProof.noPylong_small (by omega)))
theorem op_fdivN : OpR X (binaryOp .FloorDiv) (rI CDivN fun i j => .int (i.fdiv j)) := opI fun _ _ _ _ _ _ _ hc q => floordiv_int hc.1 q (.inl (PyProof.noPylong_small hc.2))
/-- % by a positive divisor of any size -/
theorem op_mod : OpR X (binaryOp .Mod) (rI (fun _ j => 0 < j) fun i j => .int (i % j)) := opI fun i j _ _ _ _ _ hc q => by
  have h1 : (0 : Int) < j := hc
  exact mod_int' (by omega) (by rw [Int.fmod_eq_emod_of_nonneg i (by omega)]; exact q)
theorem op_pow : OpR X (binaryOp .Pow) (rI CPow fun i j => .int (i ^ j.toNat)) := opI fun _ _ _ _ _ _ _ hc q => pow_int_small hc.1 hc.2.1 hc.2.2 q
theorem unI {f : Value → Sem Value} {g : Int → Int}
    (rule : ∀ (i : Int) (t : Tok) (s : Shared) (Q : Value → Shared → Prop) (E : Value → Shared → Prop), Q (.int (g i) s.toks) { s with toks := s.toks + 1 } → wpAny (model X.prog X.w) X.A (f (.int i t)) Q E s) :
    UnR X f (rU fun i => .int (g i)) := by
  intro pins s σ H x v Q I rx h
  obtain ⟨i, rfl, q⟩ := h
  obtain ⟨t, rfl⟩ := rx
  exact rule i t s _ _ ⟨.int (g i), H, I.tok _, ⟨_, rfl⟩, q⟩
theorem un_neg : UnR X (unaryOp .USub) (rU fun i => .int (-i)) := unI fun _ _ _ _ _ q => neg_int q
end

/-- the scalars that == tells apart as data does -/
def scal : V → V → Bool
  | .non, .non => true | .non, .int _ => true | .int _, .non => true | .non, .bl _ => true | .bl _, .non => true | .non, .str _ => true | .str _, .non => true
  | .int _, .int _ => true | .bl _, .bl _ => true | .str _, .str _ => true | .byt _, .byt _ => true
  | .int _, .str _ => true | .str _, .int _ => true | .bl _, .str _ => true | .str _, .bl _ => true
  | _, _ => false
def rEq : R2 := fun x y H Q => scal x y = true ∧ Q (.bl (decide (x = y))) H
def rNe : R2 := fun x y H Q => scal x y = true ∧ Q (.bl (!decide (x = y))) H

theorem dec_int {i j : Int} : decide (V.int i = V.int j) = (i == j) := by
  rw [Bool.eq_iff_iff]
  simp
theorem dec_bl {i j : Bool} : decide (V.bl i = V.bl j) = (i == j) := by
  rw [Bool.eq_iff_iff]
  simp
theorem dec_str {i j : Str} : decide (V.str i = V.str j) = (i == j) := by
  rw [Bool.eq_iff_iff]
  simp
theorem dec_byt {i j : Array UInt8} : decide (V.byt i = V.byt j) = (i.toList == j.toList) := by
  rw [Bool.eq_iff_iff]
  cases i
  cases j
  simp

section
variable {X : Cx} {a b c : Expr} {ta tb tc : TE} {pos : Pos}
theorem fin_bl {pins : List (Addr × Obj)} {σ : St} {H : Hp} {s : Shared} {Q : VK} {k k' : Bool} (I : Inv X pins σ H s) (q : Q (.bl k) H) (e : k = k') : EP X pins σ Q (.bool k') s := by
  subst e
  exact ⟨.bl k, H, I, rfl, q⟩
theorem op_eq : OpR X (compareOp .Eq) rEq := by
  intro pins s σ H x y v u Q I rx ry h
  obtain ⟨hs, q⟩ := h
  cases x with
  | non =>
    cases rx
    cases y with
    | non => cases ry; exact PySem.EqNone.eq_none_none (fin_bl I q (by simp))
    | bl j => cases ry; exact PySem.EqNone.eq_none_bool (fin_bl I q (by simp))
    | int j => obtain ⟨t', rfl⟩ := ry; exact PySem.EqNone.eq_none_int (fin_bl I q (by simp))
    | str j => obtain ⟨t', rfl⟩ := ry; exact PySem.EqNone.eq_none_str (fin_bl I q (by simp))
    | _ => exact absurd (show false = true from hs) Bool.false_ne_true
  | bl i =>
    cases rx
    cases y with
    | non => cases ry; exact PySem.EqNone.eq_bool_none (fin_bl I q (by simp))
    | bl j => cases ry; exact eq_bool (fin_bl I q dec_bl)
    | str j => obtain ⟨t', rfl⟩ := ry; exact PySem.EqMixed.eq_bool_str (fin_bl I q (by simp))
    | _ => exact absurd (show false = true from hs) Bool.false_ne_true
  | int i =>
    obtain ⟨t, rfl⟩ := rx
    cases y with
    | non => cases ry; exact PySem.EqNone.eq_int_none (fin_bl I q (by simp))
    | int j => obtain ⟨t', rfl⟩ := ry; exact eq_int (fin_bl I q dec_int)
    | str j => obtain ⟨t', rfl⟩ := ry; exact PySem.EqMixed.eq_int_str (fin_bl I q (by simp))
    | _ => exact absurd (show false = true from hs) Bool.false_ne_true
  | str i =>
    obtain ⟨t, rfl⟩ := rx
    cases y with
    | non => cases ry; exact PySem.EqNone.eq_str_none (fin_bl I q (by simp))
    | bl j => cases ry; exact PySem.EqMixed.eq_str_bool (fin_bl I q (by simp))
    | int j => obtain ⟨t', rfl⟩ := ry; exact PySem.EqMixed.eq_str_int (fin_bl I q (by simp))
    | str j => obtain ⟨t', rfl⟩ := ry; exact eq_str (fin_bl I q dec_str)
    | _ => exact absurd (show false = true from hs) Bool.false_ne_true
  | byt i =>
    obtain ⟨t, rfl⟩ := rx
    cases y with
    | byt j => obtain ⟨t', rfl⟩ := ry; exact PySem.W.eq_bytes (fin_bl I q dec_byt)
    | _ => exact absurd (show false = true from hs) Bool.false_ne_true
  | _ => cases y <;> exact absurd (show false = true from hs) Bool.false_ne_true
theorem op_ne : OpR X (compareOp .NotEq) rNe := by
  intro pins s σ H x y v u Q I rx ry h
  obtain ⟨hs, q⟩ := h
  cases x with
  | non =>
    cases rx
    cases y with
    | non => cases ry; exact PySem.EqNone.ne_none_none (fin_bl I q (by simp))
    | bl j => cases ry; exact PySem.EqNone.ne_none_bool (fin_bl I q (by simp))
    | int j => obtain ⟨t', rfl⟩ := ry; exact PySem.EqNone.ne_none_int (fin_bl I q (by simp))
    | str j => obtain ⟨t', rfl⟩ := ry; exact PySem.EqNone.ne_none_str (fin_bl I q (by simp))
    | _ => exact absurd (show false = true from hs) Bool.false_ne_true
  | bl i =>
    cases rx
    cases y with
    | non => cases ry; exact PySem.EqNone.ne_bool_none (fin_bl I q (by simp))
    | bl j => cases ry; exact ne_bool (fin_bl I q (congrArg not dec_bl))
    | str j => obtain ⟨t', rfl⟩ := ry; exact PySem.EqMixed.ne_bool_str (fin_bl I q (by simp))
    | _ => exact absurd (show false = true from hs) Bool.false_ne_true
  | int i =>
    obtain ⟨t, rfl⟩ := rx
    cases y with
    | non => cases ry; exact PySem.EqNone.ne_int_none (fin_bl I q (by simp))
    | int j => obtain ⟨t', rfl⟩ := ry; exact ne_int (fin_bl I q (congrArg not dec_int))
    | str j => obtain ⟨t', rfl⟩ := ry; exact PySem.EqMixed.ne_int_str (fin_bl I q (by simp))
    | _ => exact absurd (show false = true from hs) Bool.false_ne_true
  | str i =>
    obtain ⟨t, rfl⟩ := rx
    cases y with
    | non => cases ry; exact PySem.EqNone.ne_str_none (fin_bl I q (by simp))
    | bl j => cases ry; exact PySem.EqMixed.ne_str_bool (fin_bl I q (by simp))
    | int j => obtain ⟨t', rfl⟩ := ry; exact PySem.EqMixed.ne_str_int (fin_bl I q (by simp))
    | str j => obtain ⟨t', rfl⟩ := ry; exact ne_str (fin_bl I q (congrArg not dec_str))
    | _ => exact absurd (show false = true from hs) Bool.false_ne_true
  | byt i =>
    obtain ⟨t, rfl⟩ := rx
    cases y with
    | byt j => obtain ⟨t', rfl⟩ := ry; exact PySem.W.ne_bytes (fin_bl I q (congrArg not dec_byt))
    | _ => exact absurd (show false = true from hs) Bool.false_ne_true
  | _ => cases y <;> exact absurd (show false = true from hs) Bool.false_ne_true

theorem op_lt : OpR X (compareOp .Lt) (rI0 fun i j => .bl (decide (i < j))) := opB0 fun _ _ _ _ _ _ _ q => lt_int q
theorem op_le : OpR X (compareOp .LtE) (rI0 fun i j => .bl (decide (i ≤ j))) := opB0 fun _ _ _ _ _ _ _ q => le_int q
theorem op_gt : OpR X (compareOp .Gt) (rI0 fun i j => .bl (decide (j < i))) := opB0 fun _ _ _ _ _ _ _ q => gt_int q
/-- is None, is not None: the right side a value none -/
theorem op_isN : OpR X (compareOp .Is) (fun x y H Q => y = .non ∧ Q (.bl (decide (x = .non))) H) := by
  intro pins s σ H x y v u Q I rx ry h
  obtain ⟨rfl, q⟩ := h
  cases ry
  refine is_none_gen (fin_bl I q ?_)
  cases x <;> first
    | (cases rx; rfl)
    | (obtain ⟨t, rfl⟩ := rx; rfl)
/-- two rules for one operation: by cases -/
theorem OpR.or {f : Value → Value → Sem Value} {r r' : R2} (h : OpR X f r) (h' : OpR X f r') : OpR X f (fun x y H Q => r x y H Q ∨ r' x y H Q) := by
  intro pins s σ H x y v u Q I rx ry q
  rcases q with q | q
  · exact h pins s σ H x y v u Q I rx ry q
  · exact h' pins s σ H x y v u Q I rx ry q

theorem nomark (b : Expr) {op : CmpOp} (h : op ≠ .In := by decide) (h2 : op ≠ .NotIn := by decide) : behindInMarks op b = false := by
  have e1 : (op == CmpOp.In) = false := by cases op <;> first | rfl | exact absurd rfl h
  have e2 : (op == CmpOp.NotIn) = false := by cases op <;> first | rfl | exact absurd rfl h2
  cases b <;> simp [behindInMarks, e1, e2]
/-- a comparison as a value; hm: nomark b, or (for in, not in) by with_unfolding_all rfl -/
theorem pe_cmpR {op : CmpOp} {r : R2} (ho : OpR X (compareOp op) r) (ha : PE X a ta) (hb : PE X b tb) (hm : behindInMarks op b = false) : PE X (.Compare a [op] [b] pos) (tOp r ta tb) := by
  intro pins s σ H Q I h
  exact wpAny_Compare1 (binT ha hb I h fun v u s2 x y H2 I2 rx ry q => ho pins s2 σ H2 x y v u Q I2 rx ry q) hm
/-- a reading of a value as a test -/
def tTest (t : TE) : TT := fun σ H Q => t σ H fun x H' => ∃ k, x = .bl k ∧ Q k H'
theorem pt_cmpR {op : CmpOp} {r : R2} (ho : OpR X (compareOp op) r) (ha : PE X a ta) (hb : PE X b tb) (hm : behindInMarks op b = false) : PT X (.Compare a [op] [b] pos) (tTest (tOp r ta tb)) := by
  intro pins s σ H Q I h
  refine wpAny_isTrue_Compare1 (thn (ha pins s σ H _ I h) fun v s1 ⟨x, H1, I1, r1, q1⟩ => thn (hb pins s1 σ H1 _ I1 q1) fun u s2 ⟨y, H2, I2, r2, q2⟩ =>
    thn (ho pins s2 σ H2 x y v u _ I2 r1 r2 q2) fun c s3 ⟨z, H3, I3, r3, k, e, q3⟩ => ?_) hm
  subst e
  cases r3
  exact wpAny_truthy_bool ⟨H3, I3, q3⟩
/-- a op1 b op2 c -/
def tChain (r r' : R2) (ta tb tc : TE) : TE := fun σ H Q => ta σ H fun x H1 => tb σ H1 fun y H2 => r x y H2 fun z H3 => ∃ k, z = .bl k ∧
  (if k = true then tc σ H3 fun w' H4 => r' y w' H4 Q else Q (.bl false) H3)
theorem pe_chain {op op' : CmpOp} {r r' : R2} (ho : OpR X (compareOp op) r) (ho' : OpR X (compareOp op') r') (ha : PE X a ta) (hb : PE X b tb) (hc : PE X c tc)
    (hm : lastMarks [op, op'] [b, c] = false := by with_unfolding_all rfl) : PE X (.Compare a [op, op'] [b, c] pos) (tChain r r' ta tb tc) := by
  intro pins s σ H Q I h
  refine Compare_chain (thn (ha pins s σ H _ I h) fun v s1 ⟨x, H1, I1, r1, q1⟩ => chain_link (thn (hb pins s1 σ H1 _ I1 q1) fun u s2 ⟨y, H2, I2, r2, q2⟩ =>
    thn (ho pins s2 σ H2 x y v u _ I2 r1 r2 q2) fun d s3 ⟨z, H3, I3, r3, k, e, q3⟩ => ?_)) hm
  subst e
  cases r3
  refine wpAny_truthy_bool ?_
  cases k with
  | false => exact ite_ff ⟨.bl false, H3, I3, rfl, q3⟩
  | true => exact ite_tt (chain_last (thn (hc pins s3 σ H3 _ I3 q3) fun w' s4 ⟨z', H4, I4, r4, q4⟩ => ho' pins s4 σ H4 y z' u w' Q I4 r2 r4 q4))
theorem pt_chain {op op' : CmpOp} {r r' : R2} (ho : OpR X (compareOp op) r) (ho' : OpR X (compareOp op') r') (ha : PE X a ta) (hb : PE X b tb) (hc : PE X c tc)
    (hm : lastMarks [op, op'] [b, c] = false := by with_unfolding_all rfl) : PT X (.Compare a [op, op'] [b, c] pos) (tTest (tChain r r' ta tb tc)) := by
  intro pins s σ H Q I h
  refine isTrue_chain (thn (ha pins s σ H _ I h) fun v s1 ⟨x, H1, I1, r1, q1⟩ => test_link (thn (hb pins s1 σ H1 _ I1 q1) fun u s2 ⟨y, H2, I2, r2, q2⟩ =>
    thn (ho pins s2 σ H2 x y v u _ I2 r1 r2 q2) fun d s3 ⟨z, H3, I3, r3, k, e, q3⟩ => ?_)) hm
  subst e
  cases r3
  refine wpAny_truthy_bool ?_
  cases k with
  | false =>
    obtain ⟨k', e', q'⟩ := q3
    cases e'
    exact ite_ff ⟨H3, I3, q'⟩
  | true =>
    refine ite_tt (test_last (thn (hc pins s3 σ H3 _ I3 q3) fun w' s4 ⟨z', H4, I4, r4, q4⟩ => thn (ho' pins s4 σ H4 y z' u w' _ I4 r2 r4 q4) fun d' s5 ⟨z2, H5, I5, r5, k2, e2, q5⟩ => ?_))
    subst e2
    cases r5
    exact wpAny_truthy_bool ⟨H5, I5, q5⟩

theorem line63 : (sizeLine : Nat) < 2 ^ 63 := by rw [sizeLine_eq]; decide
theorem vals1 {x : V} {us : List Value} (r : Vals [x] us) : ∃ u, us = [u] ∧ RelV x u := by
  cases r with
  | cons r1 r2 => cases r2; exact ⟨_, rfl, r1⟩
theorem vals2 {x y : V} {us : List Value} (r : Vals [x, y] us) : ∃ u w', us = [u, w'] ∧ RelV x u ∧ RelV y w' := by
  cases r with
  | cons r1 r2 =>
    cases r2 with
    | cons r3 r4 => cases r4; exact ⟨_, _, rfl, r1, r3⟩
theorem call_abs : CallR X (.builtin "abs") (fun xs H Q => ∃ i, xs = [.int i] ∧ Q (.int (if i < 0 then -i else i)) H) := by
  intro pins s σ H xs us Q I r h
  obtain ⟨i, rfl, q⟩ := h
  obtain ⟨u, rfl, t, rfl⟩ := vals1 r
  exact call_abs_int fun u tk => ⟨.int (if i < 0 then -i else i), H, I.tok _, ⟨_, rfl⟩, q⟩
end
end L2

namespace L2
open PySem PySem.Spec PyProof.Rows

structure ObjM (h : Heap) (x dx C : Addr) (mA : Str → Option Value) : Prop where
  obj : h.get? x = some (PySem.W.instObj C dx)
  ns : h.Ns1 dx mA
  ne : dx ≠ x

theorem lookIn_ns {h : Heap} {dx : Addr} {mA : Str → Option Value} (n : h.Ns1 dx mA) : ∃ od, h.get? dx = some od ∧ ∀ name, PySem.W.lookIn name od = some (mA name) := by
  obtain ⟨o, es, ep, ho, hd, hk, _, hm⟩ := n
  refine ⟨o, ho, fun name => ?_⟩
  have e := hm name
  unfold nsFind findBy at e
  rw [← Array.find?_toList] at e
  unfold PySem.W.lookIn
  rw [hd]
  dsimp only
  split
  · rename_i y q
    rw [q] at e
    exact congrArg some e
  · rename_i q
    rw [q] at e
    have a : es.toList.any (·.refKey) = false := by
      rw [List.any_eq_false]
      intro y hy
      obtain ⟨z, t, hkey⟩ := hk y (Array.mem_toList_iff.mp hy)
      simp [DictEntry.refKey, hkey]
    have a' : ¬ es.toList.any (·.refKey) = true := by rw [a]; exact Bool.false_ne_true
    rw [if_neg a']
    exact congrArg some e

theorem ObjM.look {h : Heap} {x dx C : Addr} {mA : Str → Option Value} (I : ObjM h x dx C mA) : ∃ od, PySem.W.InstAt h x (PySem.W.instObj C dx) C (some od) ∧ ∀ name, PySem.W.lookIn name od = some (mA name) :=
  let ⟨od, ho, hl⟩ := lookIn_ns I.ns
  ⟨od, ⟨I.obj, rfl, rfl, ho⟩, hl⟩

section
variable {prog : Program} {w : World} {A : Around} {E : Value → Shared → Prop} {s : Shared} {K : PySem.W.Frag} {x dx C f : Addr} {mA : Str → Option Value} {name : Str} {v : Value}

theorem get_map {expr : Bool} {Q : Value → Shared → Prop} (X : K.In s.heap) (I : ObjM s.heap x dx C mA) (hg : PySem.W.plainGet K C name = true) (hh : PySem.W.hasDictIn K C = true)
    (ha : PySem.W.findIn K (.ref C) name = some none) (hv : mA name = some v) (hv' : PySem.W.handedIn v = true) (h : Q v { s with toks := s.toks + 1 }) :
    wpAny (model prog w) A (getAttr (.ref x) name expr) Q E s := by
  obtain ⟨od, J, hl⟩ := I.look
  exact PySem.W.get_value X J (PySem.W.plainGet_of hg).1 (PySem.W.findObj_own hh ha rfl (by rw [hl, hv])) hv' h

theorem get_meth {pl : Sem Bool} {Q : Value × List Value → Shared → Prop} (X : K.In s.heap) (I : ObjM s.heap x dx C mA) (hg : PySem.W.plainGet K C name = true)
    (hf : PySem.W.findIn K (.ref C) name = some (some (.ref f))) (ht : PySem.W.isFn K (.ref f) = true) (hv : mA name = none) (h : Q (.ref f, [.ref x]) s) :
    wpAny (model prog w) A (getMethod (.ref x) name pl) Q E s := by
  obtain ⟨od, J, hl⟩ := I.look
  exact PySem.W.method_fn X J (PySem.W.plainGet_of hg).1 (PySem.W.plainGet_of hg).2 hf (beq_iff_eq.mp ht) (by show (PySem.W.lookIn name od).map (·.isSome) = some false; rw [hl, hv]; rfl) h

theorem set_map {ns : List Str} {Q : Unit → Shared → Prop} (X : K.In s.heap) (I : ObjM s.heap x dx C mA)
    (hs : PySem.W.findIn K (.ref C) "__setattr__" = some (some (.builtin "object.__setattr__"))) (hp : PySem.W.plainOver K C = true) (ht : PySem.W.takerIn K C name = some none) (hh : PySem.W.hasDictIn K C = true)
    (hw : PySem.Within mA ns) (hsz : ns.length ≤ sizeLine)
    (h : ∀ h', ObjM h' x dx C (fun y => if y = name then some v else mA y) → Heap.SameBut dx s.heap h' → Q () { s with heap := h', toks := s.toks + 2 }) :
    wpAny (model prog w) A (setAttr (.ref x) name v) Q E s := by
  obtain ⟨od, J, hl⟩ := I.look
  refine PySem.W.set_plain X J hs (PySem.W.osa_open (s := { s with toks := s.toks + 1 }) (r := none) X J hp ht fun b => ?_)
  obtain ⟨cd, hc, hd'⟩ := PySem.W.any_some hh
  have hx : s.heap.get? x = some ⟨.ref C, some dx, .plain, #[]⟩ := I.obj
  refine wpAny_bind (wpAny_pure (wpAny_bind (wpAny_bind (wpAny_loadPart hx (wpAny_bind (PySem.W.Looks.here (s := { s with toks := s.toks + 1 }) (PySem.W.looks_clsIn X hc) ?_))))))
  rw [hd']
  refine wpAny_pure (a := some dx) (wpAny_bind (wpAny_pure (wpAny_bind ?_)))
  refine wpAny_nsSet1 (s := { s with toks := s.toks + 1 }) I.ns fun h' hn2 hs2 => ?_
  obtain ⟨oD, esD, epD, hoD, hdD, hcD⟩ := hn2.count (PySem.Within.cons name v hw)
  refine wpAny_bind (wpAny_lookBehind hoD (by rw [hdD]; exact pastItsLine_dict (Nat.le_trans hcD (by rw [List.length_cons]; omega))) ?_)
  exact wpAny_pure (h _ ⟨(hs2.2 _ (Ne.symm I.ne)).trans I.obj, hn2, I.ne⟩ hs2)

/-- C(..): the dict at the heap's end, the instance behind it; then its __init__ -/
theorem make_map {R : Result → Shared → Prop} {vs : List Value} {kw : List (Str × Value)} (X : K.In s.heap) (hm : PySem.W.makesIn K C = true)
    (hi : PySem.W.findIn K (.ref C) "__init__" = some (some (.ref f))) (hf : PySem.W.typeIn K (.ref f) = some (.type "function"))
    (h : codeAny (model prog w) (A.under (.builtin "type.__call__" ⟨.ref C :: vs, kw⟩)) (.call (.ref f) ⟨.ref (s.heap.objs.size + 1) :: vs, kw⟩) (PySem.W.InitBack (s.heap.objs.size + 1) R)
      { s with heap := (s.heap.push PySem.W.emptyDict).push (PySem.W.instObj C s.heap.objs.size) }) :
    codeAny (model prog w) A (.call (.ref C) ⟨vs, kw⟩) R s := by
  obtain ⟨hh, g, d, t, os⟩ := s
  exact PySem.W.make_core (PySem.W.makes_of X hm) (PySem.W.looks_findIn X hi) (fun self => PySem.W.bind_fn X self hf) (.inl rfl) h
end

def putF (f : Str) (v : V) : List (Str × V) → List (Str × V)
  | [] => [(f, v)]
  | (g, x) :: r => if g = f then (g, v) :: r else (g, x) :: putF f v r
theorem lookup_putF (f g : Str) (v : V) : ∀ fs : List (Str × V), (putF f v fs).lookup g = if g = f then some v else fs.lookup g
  | [] => by
    show List.lookup g [(f, v)] = _
    by_cases h : g = f
    · have hb : (g == f) = true := beq_iff_eq.mpr h
      simp only [List.lookup, hb, if_pos h]
    · have hb : (g == f) = false := beq_eq_false_iff_ne.mpr h
      simp only [List.lookup, hb, if_neg h]
  | (k, x) :: r => by
    have ih := lookup_putF f g v r
    rw [show putF f v ((k, x) :: r) = (if k = f then (k, v) :: r else (k, x) :: putF f v r) from rfl]
    by_cases hk : k = f
    · rw [if_pos hk]
      by_cases h : g = k
      · have hb : (g == k) = true := beq_iff_eq.mpr h
        simp only [List.lookup, hb, if_pos (h.trans hk)]
      · have hb : (g == k) = false := beq_eq_false_iff_ne.mpr h
        simp only [List.lookup, hb, if_neg (fun e : g = f => h (e.trans hk.symm))]
    · rw [if_neg hk]
      by_cases h : g = k
      · have hb : (g == k) = true := beq_iff_eq.mpr h
        simp only [List.lookup, hb, if_neg (fun e : g = f => hk (h.symm.trans e))]
      · have hb : (g == k) = false := beq_eq_false_iff_ne.mpr h
        simp only [List.lookup, hb]
        exact ih
theorem keys_putF (f : Str) (v : V) : ∀ fs : List (Str × V), f ∈ (putF f v fs).map (·.1) ∧ ∀ g, g ∈ fs.map (·.1) → g ∈ (putF f v fs).map (·.1)
  | [] => ⟨by simp [putF], fun g h => by simp at h⟩
  | (k, x) :: r => by
    obtain ⟨i1, i2⟩ := keys_putF f v r
    rw [show putF f v ((k, x) :: r) = (if k = f then (k, v) :: r else (k, x) :: putF f v r) from rfl]
    by_cases hk : k = f
    · rw [if_pos hk]
      subst hk
      exact ⟨by simp, fun g h => by simpa using h⟩
    · rw [if_neg hk]
      refine ⟨?_, fun g h => ?_⟩
      · rw [List.map_cons]
        exact List.mem_cons_of_mem _ i1
      · rw [List.map_cons] at h ⊢
        rcases List.mem_cons.mp h with e | e
        · exact List.mem_cons.mpr (.inl e)
        · exact List.mem_cons_of_mem _ (i2 g e)
theorem length_putF (f : Str) (v : V) : ∀ fs : List (Str × V), (putF f v fs).length ≤ fs.length + 1
  | [] => by simp [putF]
  | (k, x) :: r => by
    have ih := length_putF f v r
    rw [show putF f v ((k, x) :: r) = (if k = f then (k, v) :: r else (k, x) :: putF f v r) from rfl]
    by_cases hk : k = f
    · rw [if_pos hk, List.length_cons, List.length_cons]; omega
    · rw [if_neg hk, List.length_cons, List.length_cons]; omega

theorem RelO.some_of {v : V} {o : Option Value} (r : RelO (some v) o) : ∃ u, o = some u ∧ RelV v u := by
  cases o with
  | none => exact (show False from r).elim
  | some u => exact ⟨u, rfl, r⟩
theorem RelO.none_of {o : Option Value} (r : RelO none o) : o = none := by
  cases o with
  | none => rfl
  | some u => exact (show False from r).elim
theorem handed_of {v : V} {u : Value} (r : RelV v u) : PySem.W.handedIn u = true := by
  cases v with
  | non => cases (show u = Value.none from r); rfl
  | bl b => cases (show u = Value.bool b from r); rfl
  | int i => obtain ⟨t, e⟩ := (show ∃ t, u = Value.int i t from r); cases e; rfl
  | str x => obtain ⟨t, e⟩ := (show ∃ t, u = Value.str x t from r); cases e; rfl
  | byt b => obtain ⟨t, e⟩ := (show ∃ t, u = Value.bytes b t from r); cases e; rfl
  | flt b => obtain ⟨t, e⟩ := (show ∃ t, u = Value.float b t from r); cases e; rfl
  | ref a => cases (show u = Value.ref a from r); rfl
  | ty n => cases (show u = Value.type n from r); rfl

section
variable {P : Program} {w : World} {H H' : Hp} {h h' : Heap} {a C dx : Addr} {fs fs' : List (Str × V)}
theorem ins_get (hok : HOk P w H h) (e : H a = some (.ins C dx fs)) : ∃ mA, ObjM h a dx C mA ∧ (∀ f, RelO (fs.lookup f) (mA f)) ∧ PySem.Within mA (fs.map (·.1)) ∧ fs.length ≤ 1000 ∧ H dx = some (.own a) := by
  obtain ⟨d, z, ne, ob, mA, n, r, q⟩ := (show ObjOk P w H h a (.ins C dx fs) from hok a _ e)
  exact ⟨mA, ⟨ob, n, ne⟩, r, q, z, d⟩
end

structure Cls (K : PySem.W.Frag) (C : Addr) : Prop where
  pg : PySem.W.plainGet K C Str.empty = true
  hd : PySem.W.hasDictIn K C = true
  po : PySem.W.plainOver K C = true
  sa : PySem.W.findIn K (.ref C) "__setattr__" = some (some (.builtin "object.__setattr__"))
theorem Cls.get {K : PySem.W.Frag} {C : Addr} (c : Cls K C) (f : Str) : PySem.W.plainGet K C f = true := c.pg
/-- no class of it has the name -/
def NoAttr (K : PySem.W.Frag) (C : Addr) (f : Str) : Prop := PySem.W.findIn K (.ref C) f = some none
theorem NoAttr.taker {K : PySem.W.Frag} {C : Addr} {f : Str} (n : NoAttr K C f) : PySem.W.takerIn K C f = some none := by
  unfold PySem.W.takerIn
  rw [show PySem.W.findIn K (.ref C) f = some none from n]
  rfl
/-- a method: a plain def of the class or of one above it -/
structure Meth (K : PySem.W.Frag) (C : Addr) (m : Str) (f : Addr) : Prop where
  at_ : PySem.W.findIn K (.ref C) m = some (some (.ref f))
  fn : PySem.W.isFn K (.ref f) = true
  kp : PySem.W.keepIn K (.ref f) = true

section
variable {X : Cx} {pins : List (Addr × Obj)} {σ : St} {H : Hp} {s : Shared} {a C dx : Addr} {fs : List (Str × V)} {f : Str} {v : V} {A : Around} {E : Value → Shared → Prop}

theorem getattr_ok {b : Bool} {Q : Value → Shared → Prop} (I : Inv X pins σ H s) (e : H a = some (.ins C dx fs)) (c : Cls X.K C) (n : NoAttr X.K C f) (l : fs.lookup f = some v)
    (h : ∀ u s', Inv X pins σ H s' → RelV v u → Q u s') : wpAny (model X.prog X.w) A (getAttr (.ref a) f b) Q E s := by
  obtain ⟨mA, O, r, _, _, _⟩ := ins_get I.hok e
  obtain ⟨u, hu, ru⟩ := RelO.some_of (v := v) (o := mA f) (by rw [← l]; exact r f)
  exact get_map I.kIn O (c.get f) c.hd n hu (handed_of ru) (h u _ (I.tok _) ru)

theorem getmeth_ok {m : Str} {g : Addr} {pl : Sem Bool} {Q : Value × List Value → Shared → Prop} (I : Inv X pins σ H s) (e : H a = some (.ins C dx fs)) (c : Cls X.K C) (k : Meth X.K C m g) (l : fs.lookup m = none)
    (h : Q (.ref g, [.ref a]) s) : wpAny (model X.prog X.w) A (getMethod (.ref a) m pl) Q E s := by
  obtain ⟨mA, O, r, _, _, _⟩ := ins_get I.hok e
  have hn : mA m = none := RelO.none_of (by rw [← l]; exact r m)
  exact get_meth I.kIn O (c.get m) k.at_ k.fn hn h

theorem setattr_ok {y : V} {u : Value} {Q : Unit → Shared → Prop} (I : Inv X pins σ H s) (e : H a = some (.ins C dx fs)) (c : Cls X.K C) (n : NoAttr X.K C f) (hl : fs.length < 1000) (ry : RelV y u)
    (h : ∀ s', Inv X pins σ (upd H a (.ins C dx (putF f y fs))) s' → Q () s') : wpAny (model X.prog X.w) A (setAttr (.ref a) f u) Q E s := by
  obtain ⟨mA, O, r, wi, _, ho⟩ := ins_get I.hok e
  have hz : (fs.map (·.1)).length ≤ sizeLine := by rw [List.length_map, sizeLine_eq]; omega
  refine set_map I.kIn O c.sa c.po n.taker c.hd wi hz fun h' O' sb => h _ ?_
  have hd : ∃ o, h'.get? dx = some o := let ⟨o, _, _, e', _⟩ := O'.ns; ⟨o, e'⟩
  refine I.write (x := a) (e := dx) (by rw [e]; exact True.intro) (.inr ho) (fun b q hb z => (sb.2 b hb).trans z) hd ?_
  refine ⟨by rw [upd_ne O.ne]; exact ho, ?_, O.ne, O'.obj, _, O'.ns, fun g => ?_, fun g hg => ?_⟩
  · have := length_putF f y fs; omega
  · show RelO ((putF f y fs).lookup g) (if g = f then some u else mA g)
    rw [lookup_putF]
    by_cases q : g = f
    · rw [if_pos q, if_pos q]; exact ry
    · rw [if_neg q, if_neg q]; exact r g
  · by_cases q : g = f
    · rw [q]; exact (keys_putF f y fs).1
    · refine (keys_putF f y fs).2 g (wi g fun z => hg ?_)
      show (if g = f then some u else mA g) = none
      rw [if_neg q]; exact z

/-- a new instance, tracked, without attributes -/
theorem Inv.made (I : Inv X pins σ H s) : Inv X pins σ (upd (upd H s.heap.objs.size (.own (s.heap.objs.size + 1))) (s.heap.objs.size + 1) (.ins C s.heap.objs.size []))
    { s with heap := (s.heap.push PySem.W.emptyDict).push (PySem.W.instObj C s.heap.objs.size) } := by
  have e1 : (s.heap.push PySem.W.emptyDict).get? s.heap.objs.size = some PySem.W.emptyDict := Heap.get?_push_size s.heap rfl
  have e2 : ((s.heap.push PySem.W.emptyDict).push (PySem.W.instObj C s.heap.objs.size)).get? (s.heap.objs.size + 1) = some (PySem.W.instObj C s.heap.objs.size) := by
    have := Heap.get?_push_size (s.heap.push PySem.W.emptyDict) (o := PySem.W.instObj C s.heap.objs.size) rfl
    rwa [Heap.size_push] at this
  have e3 : (s.heap.push PySem.W.emptyDict).Ns s.heap.objs.size (fun _ => none) := ⟨PySem.W.emptyDict, #[], _, e1, rfl, (fun e he => absurd he (by simp)), fun _ => rfl⟩
  have I1 := I.laid (a := s.heap.objs.size) (o := .own (s.heap.objs.size + 1)) (h' := s.heap.push PySem.W.emptyDict) (t' := s.toks) (fun b u q => Heap.get?_push_of_some _ q) (Nat.le_refl _) ⟨_, e1⟩
  refine I1.laid (a := s.heap.objs.size + 1) (o := .ins C s.heap.objs.size []) (t' := s.toks) (fun b u q => Heap.get?_push_of_some _ q) (Nat.le_of_eq (Heap.size_push _ _)) ?_
  have ne : s.heap.objs.size ≠ s.heap.objs.size + 1 := Nat.ne_of_lt (Nat.lt_succ_self _)
  refine ⟨by rw [upd_ne ne, upd_same], Nat.zero_le _, ne, e2, fun _ => none, (Heap.Ns1.of_empty e3).at fun o q => Heap.get?_push_of_some _ q, fun _ => True.intro, fun y hy => absurd rfl hy⟩

/-- e.f where nothing but the object is asked: through attributeBase (super) and the last hold -/
theorem attr_of {prog : Program} {w : World} {env : Env} {e : Expr} {f : Str} {pos : Pos} {s : Shared} {Q : Value → Shared → Prop} (hb : attributeBase e f env (eval e env) = eval e env)
    (h : wpAny (model prog w) A (eval e env) (fun o s₁ => wpAny (model prog w) A (getAttr o f true) Q E s₁) E s) : wpAny (model prog w) A (eval (.Attribute e f pos) env) Q E s :=
  Attribute_any_ h (by rw [arm_eval_Attribute, hb])
end

/-- e.f, an attribute of the instance -/
def tFld (K : PySem.W.Frag) (ta : TE) (f : Str) : TE := fun σ H Q => ta σ H fun x H1 => ∃ a C dx fs v, x = .ref a ∧ H1 a = some (.ins C dx fs) ∧ Cls K C ∧ NoAttr K C f ∧ fs.lookup f = some v ∧ Q v H1
/-- e.f = value -/
def sFld (K : PySem.W.Frag) (ta tv : TE) (f : Str) : TS := fun D σ H => tv σ H fun y H1 => ta σ H1 fun x H2 => ∃ a C dx fs, x = .ref a ∧ H2 a = some (.ins C dx fs) ∧ Cls K C ∧ NoAttr K C f ∧ fs.length < 1000 ∧
  D.nx σ (upd H2 a (.ins C dx (putF f y fs)))
section
variable {X : Cx} {o e value : Expr} {f : Str} {pos pos' tpos : Pos} {ta tv : TE}
theorem pe_fld (he : PE X e ta) (hb : attributeBase e f X.env (eval e X.env) = eval e X.env) : PE X (.Attribute e f pos) (tFld X.K ta f) := by
  intro pins s σ H Q I h
  refine attr_of hb (thn (he pins s σ H _ I h) fun u s1 ⟨x, H1, I1, rx, a, C, dx, fs, v, ex, ea, c, n, l, q⟩ => ?_)
  subst ex
  obtain rfl : u = Value.ref a := rx
  exact getattr_ok I1 ea c n l fun u' s2 I2 ru => ⟨v, H1, I2, ru, q⟩
theorem ps_fld (ha : PE X o ta) (hv : PE X value tv) (hs : swapsWith value (some (.Attribute o f pos')) pos.line X.env = pure false) : PS X (.Assign [.Attribute o f pos'] value pos) (sFld X.K ta tv f) := by
  intro pins s σ H D I h
  refine plainObj_wpAny_Assign_Attribute (thn (hv pins s σ H _ I h) fun u s1 ⟨y, H1, I1, ry, q⟩ => thn (ha pins s1 σ H1 _ I1 q) fun ov s2 ⟨x, H2, I2, rx, a, C, dx, fs, ex, ea, c, n, l, q2⟩ => ?_) hs
  subst ex
  obtain rfl : ov = Value.ref a := rx
  exact setattr_ok I2 ea c n l ry fun s3 I3 => ⟨σ, _, I3, q2⟩
end

section
variable {X : Cx} {pins : List (Addr × Obj)} {σ : St} {H : Hp} {s : Shared} {A : Around} {E : Value → Shared → Prop} {Q : Value → Shared → Prop} {c : Value} {b : Bool}
/-- the type of a value, as the fragment's deciders take it; for an instance its class -/
inductive TyOf (K : PySem.W.Frag) (H : Hp) : V → Value → Prop where
  | non : TyOf K H .non (.type "NoneType")
  | bl (x : Bool) : TyOf K H (.bl x) (.type "bool")
  | int (i : Int) : TyOf K H (.int i) (.type "int")
  | str (x : Str) : TyOf K H (.str x) (.type "str")
  | flt (x : UInt64) : TyOf K H (.flt x) (.type "float")
  | lst {a : Addr} {xs : List V} (e : H a = some (.lst xs)) : TyOf K H (.ref a) (.type "list")
  | frz {a : Addr} {o : Obj} {xs : List V} (e : H a = some (.frz o (.lst xs))) : TyOf K H (.ref a) (.type "list")
  | tup {a : Addr} {xs : List V} (e : H a = some (.tup xs)) : TyOf K H (.ref a) (.type "tuple")
  | dK {a : Addr} {kvs : List (Key × V)} (e : H a = some (.dK kvs)) : TyOf K H (.ref a) (.type "dict")
  | dT {a : Addr} {kvs : List (List Key × V)} (e : H a = some (.dT kvs)) : TyOf K H (.ref a) (.type "dict")
  | ins {a C dx : Addr} {fs : List (Str × V)} (e : H a = some (.ins C dx fs)) (cl : Cls K C) (ha : PySem.W.findIn K (.ref C) "__class__" = some (some (.builtin "object.__class__")))
      (hn : PySem.W.specialIn K (.builtin "object.__class__") "__get__" = some (some (.builtin "getset_descriptor.__get__"))) (htk : PySem.W.takesIn K (.builtin "object.__class__") = some true)
      (hm : PySem.W.mroIn K C (.type "object") = some true) : TyOf K H (.ref a) (.ref C)
/-- isinstance(x, c) for one class c, a built-in or an own one: kitOne's answer -/
theorem isinst_ok {x : V} {u t : Value} (I : Inv X pins σ H s) (rx : RelV x u) (ty : TyOf X.K H x t) (e : PySem.W.kitOne X.K t c = some b) (h : ∀ tk, Q (.bool b) { s with toks := tk }) :
    wpAny (model X.prog X.w) A (call (.builtin "isinstance") [u, c]) Q E s := by
  cases ty with
  | non => cases (show u = Value.none from rx); exact PySem.W.kia_one PySem.W.kitx_none I.kIn True.intro e (fun z => nomatch z) h
  | bl y => cases (show u = Value.bool y from rx); exact PySem.W.kia_one PySem.W.kitx_bool I.kIn True.intro e (fun z => nomatch z) h
  | int i => obtain ⟨t, q⟩ := (show ∃ t, u = Value.int i t from rx); cases q; exact PySem.W.kia_one PySem.W.kitx_int I.kIn True.intro e (fun z => nomatch z) h
  | str y => obtain ⟨t, q⟩ := (show ∃ t, u = Value.str y t from rx); cases q; exact PySem.W.kia_one PySem.W.kitx_str I.kIn True.intro e (fun z => nomatch z) h
  | flt y => obtain ⟨t, q⟩ := (show ∃ t, u = Value.float y t from rx); cases q; exact PySem.W.kia_one PySem.W.kitx_float I.kIn True.intro e (fun z => nomatch z) h
  | @lst a xs ea =>
    cases (show u = Value.ref a from rx)
    obtain ⟨_, _, n, _, h1⟩ := (show ObjOk X.prog X.w H s.heap a (.lst xs) from I.hok a _ ea)
    exact PySem.W.kia_one PySem.W.kitx_list I.kIn ⟨_, h1, rfl⟩ e (fun z => nomatch z) h
  | @frz a ob xs ea =>
    cases (show u = Value.ref a from rx)
    obtain ⟨_, _, _, n, _, h1⟩ := (show ObjOk X.prog X.w H s.heap a (.frz ob (.lst xs)) from I.hok a _ ea)
    exact PySem.W.kia_one PySem.W.kitx_list I.kIn ⟨_, h1, rfl⟩ e (fun z => nomatch z) h
  | @tup a xs ea =>
    cases (show u = Value.ref a from rx)
    obtain ⟨_, _, _, p⟩ := (show ObjOk X.prog X.w H s.heap a (.tup xs) from I.hok a _ ea)
    obtain ⟨o, h1, h2, _⟩ := p
    exact PySem.W.kia_one PySem.W.kitx_tuple I.kIn ⟨o, h1, h2⟩ e (fun z => nomatch z) h
  | @dK a kvs ea =>
    cases (show u = Value.ref a from rx)
    obtain ⟨_, _, vs, _, p⟩ := (show ObjOk X.prog X.w H s.heap a (.dK kvs) from I.hok a _ ea)
    obtain ⟨o, es, ep, h1, h2, _⟩ := p
    exact PySem.W.kia_one PySem.W.kitx_dict I.kIn ⟨o, h1, h2.1⟩ e (fun z => nomatch z) h
  | @dT a kvs ea =>
    cases (show u = Value.ref a from rx)
    obtain ⟨_, _, xs, _, o, es, ep, h1, h2, _⟩ := (show ObjOk X.prog X.w H s.heap a (.dT kvs) from I.hok a _ ea)
    exact PySem.W.kia_one PySem.W.kitx_dict I.kIn ⟨o, h1, h2.1⟩ e (fun z => nomatch z) h
  | @ins a C dx fs ea cl ha hn htk hm =>
    cases (show u = Value.ref a from rx)
    obtain ⟨mA, O, _⟩ := ins_get I.hok ea
    obtain ⟨od, J, _⟩ := O.look
    exact PySem.W.kia_one (PySem.W.kitx_own (cl.get _) cl.hd ha hn htk hm) I.kIn J e (fun z => nomatch z) h
end
end L2

namespace L2
open PySem PySem.Spec PyProof.Rows

structure Room (k : Nat) (A : Around) : Prop where
  hd : A.handled = none
  dp : A.depth + 3 * k + 5 < recursionLimit
  un : A.units + 16 * k + 200 < cLine
theorem Room.mono {j k : Nat} {A : Around} (r : Room k A) (h : j ≤ k) : Room j A := ⟨r.hd, by have := r.dp; omega, by have := r.un; omega⟩
theorem Room.deeper {k : Nat} {A : Around} (r : Room (k + 1) A) (env : Env) : Room k (A.deeper env) :=
  ⟨r.hd, by have := r.dp; show A.depth + 1 + 3 * k + 5 < _; omega, by have := r.un; show A.units + 3 + 16 * k + 200 < _; omega⟩
theorem make_depth {A : Around} {C : Addr} {us : List Value} {kw : List (Str × Value)} : (A.under (.builtin "type.__call__" ⟨.ref C :: us, kw⟩)).depth = A.depth + 1 := by
  first | rfl | simp [Around.under, Code.weight, Code.isCreation, Code.isGuard, Code.isCaller, Code.frames, Code.isFrame, guardIds]
theorem make_units {A : Around} {C : Addr} {us : List Value} {kw : List (Str × Value)} : (A.under (.builtin "type.__call__" ⟨.ref C :: us, kw⟩)).units = A.units + 1 := by
  first | rfl | simp [Around.under, Code.cUnits, Code.frames, Code.isFrame]
theorem Room.make {k : Nat} {A : Around} (r : Room (k + 1) A) (C : Addr) (us : List Value) (kw : List (Str × Value)) : Room k (A.under (.builtin "type.__call__" ⟨.ref C :: us, kw⟩)) :=
  ⟨r.hd, by have := r.dp; rw [make_depth]; omega, by have := r.un; rw [make_units]; omega⟩
theorem Room.depth {k : Nat} {A : Around} (r : Room k A) : A.depth < recursionLimit := by have := r.dp; omega
theorem Room.units {k : Nat} {A : Around} (r : Room k A) : A.units + 64 < cLine := by have := r.un; omega
theorem Room.units0 {k : Nat} {A : Around} (r : Room k A) : A.units < cLine := by have := r.un; omega

def tNil : TA := fun _ H Q => Q [] H
def tCons (ta : TE) (tr : TA) : TA := fun σ H Q => ta σ H fun x H1 => tr σ H1 fun xs H2 => Q (x :: xs) H2
section
variable {X : Cx} {e : Expr} {es : List Expr} {te : TE} {t : TA} {pos : Pos}
theorem pa_nil : PA X [] tNil := fun _ _ _ _ H Q I h => Calls.spliced_nil ⟨[], H, I, .nil, h⟩
theorem pa_cons (ha : PE X e te) (hr : PA X es t) (hs : starEach (e :: es) X.env = (false, eval e X.env) :: starEach es X.env := by rfl) : PA X (e :: es) (tCons te t) := by
  intro pos pins s σ H Q I h
  rw [hs]
  show wpAny _ _ (spliced ((false, eval e X.env) :: backTo pos (starEach es X.env))) _ _ s
  refine Calls.spliced_cons (thn (ha pins s σ H _ I h) fun u s1 ⟨x, H1, I1, r1, q1⟩ => ?_)
  exact thn (hr pos pins s1 σ H1 _ I1 q1) fun us s2 ⟨xs, H2, I2, r2, q2⟩ => ⟨x :: xs, H2, I2, .cons r1 r2, q2⟩

/-- a tuple, a list of written items -/
def tTup (t : TA) : TE := fun σ H Q => t σ H fun xs H1 => xs.length ≤ sizeLine ∧ ∀ p, H1 p = none → Q (.ref p) (upd H1 p (.tup xs))
def tLst (t : TA) : TE := fun σ H Q => t σ H fun xs H1 => xs.length ≤ sizeLine ∧ ∀ p, H1 p = none → Q (.ref p) (upd H1 p (.lst xs))
theorem pe_tup {x1} (h : PA X es t) : PE X (.Tuple es x1 pos) (tTup t) := by
  intro pins s σ H Q I hq
  refine wpAny_Tuple_spliced (thn (h pos pins s σ H _ I hq) fun us s1 ⟨xs, H1, I1, r, z, q⟩ => ⟨by rw [← r.length]; exact z, ?_⟩)
  have hf : H1 s1.heap.objs.size = none := I1.hok.fresh (Nat.le_refl _)
  refine ⟨.ref s1.heap.objs.size, upd H1 s1.heap.objs.size (.tup xs), I1.laid (t' := s1.toks) (fun b u e => Heap.get?_push_of_some _ e) (Nat.le_refl _) ?_, rfl, q _ hf⟩
  exact ⟨z, us, r, ⟨_, Heap.get?_push_size _ rfl, rfl, _, rfl⟩⟩
theorem pe_lst (h : PA X es t) : PE X (.List es pos) (tLst t) := by
  intro pins s σ H Q I hq
  refine wpAny_List_spliced (thn (h pos pins s σ H _ I hq) fun us s1 ⟨xs, H1, I1, r, z, q⟩ => ⟨by rw [← r.length]; exact z, ?_⟩)
  have hf : H1 s1.heap.objs.size = none := I1.hok.fresh (Nat.le_refl _)
  refine ⟨.ref s1.heap.objs.size, upd H1 s1.heap.objs.size (.lst xs), I1.laid (t' := s1.toks) (fun b u e => Heap.get?_push_of_some _ e) (Nat.le_refl _) ?_, rfl, q _ hf⟩
  exact ⟨z, us, 0, r, Heap.get?_push_size _ rfl⟩
end

/-- a def's promise: the bound arguments in the parameters' order, the heap, the wanted end, the wanted exception -/
abbrev Sp := List V → Hp → VK → XK → Prop
/-- how an exception lies behind a call (file 08 gives it): the callers' frames, abstract heap and state ahead of the call, the wish, the exception, the state -/
abbrev CXT := List Env → Hp → Shared → XK → Value → Shared → Prop

/-- the state at a call -/
structure Env0 (P : Program) (w : World) (K : PySem.W.Frag) (mg : Str → Option Value) (base : Heap) (A : Around) (outer : List Env) (s : Shared) (H : Hp) : Prop where
  frames : A.frames = some outer
  mod : Mod K mg base
  bs : ∀ b o, base.get? b = some o → s.heap.get? b = some o ∧ H b = none
  bsz : base.objs.size ≤ s.heap.objs.size
  funs : s.heap.FunFrames base outer
  frf : ∀ b ∈ frs outer, H b = none
  hok : HOk P w H s.heap
  bare : AllBare s.gens
/-- a call's end -/
def CE (outer : List Env) (P : Program) (w : World) (H : Hp) (s : Shared) (Q : VK) (u : Value) (s' : Shared) : Prop :=
  ∃ v H', s'.os = s.os ∧ AllBare s'.gens ∧ Un (frs outer) [] H H' s.heap s'.heap ∧ HOk P w H' s'.heap ∧ RelV v u ∧ Q v H'
def CR (CX : CXT) (outer : List Env) (P : Program) (w : World) (H : Hp) (s : Shared) (Q : VK) (E : XK) (r : Result) (s' : Shared) : Prop :=
  match r with
  | .ok (.ret u) => CE outer P w H s Q u s'
  | .ok _ => False
  | .error e => CX outer H s E e s'
structure FnOk (P : Program) (w : World) (K : PySem.W.Frag) (mg : Str → Option Value) (base : Heap) (CX : CXT) (k : Nat) (f : Addr) (fd : FuncData) (ps : List Str) (sp : Sp) : Prop where
  len : ∀ vs H Q E, sp vs H Q E → vs.length = ps.length
  run : ∀ (A : Around) (outer : List Env) (s : Shared) (H : Hp) (args : Args) (us : List Value) (vs : List V) (Q : VK) (E : XK), Room k A → Env0 P w K mg base A outer s H → BindsTo s fd args (ps.zip us) → Vals vs us → sp vs H Q E →
    codeAny (model P w) A (.call (.ref f) args) (CR CX outer P w H s Q E) s
theorem FnOk.mono {P : Program} {w : World} {K : PySem.W.Frag} {mg : Str → Option Value} {base : Heap} {CX : CXT} {j k : Nat} {f : Addr} {fd : FuncData} {ps : List Str} {sp : Sp} (F : FnOk P w K mg base CX j f fd ps sp) (h : j ≤ k) :
    FnOk P w K mg base CX k f fd ps sp := ⟨F.len, fun A outer s H args us vs Q E hr => F.run A outer s H args us vs Q E (hr.mono h)⟩
theorem Env0.make {P : Program} {w : World} {K : PySem.W.Frag} {mg : Str → Option Value} {base : Heap} {A : Around} {outer : List Env} {s : Shared} {H : Hp} (e : Env0 P w K mg base A outer s H) (C : Addr) (us : List Value) (kw : List (Str × Value)) :
    Env0 P w K mg base (A.under (.builtin "type.__call__" ⟨.ref C :: us, kw⟩)) outer s H := ⟨by first | exact e.frames | (simpa [Around.under, Code.envs, Code.isFrame, pushEnvs] using e.frames), e.mod, e.bs, e.bsz, e.funs, e.frf, e.hok, e.bare⟩
section
variable {X : Cx} {pins : List (Addr × Obj)} {σ : St} {H : Hp} {s s' : Shared}
/-- from a body: what a callee wants -/
theorem Inv.env0 (I : Inv X pins σ H s) : Env0 X.prog X.w X.K X.mg X.base X.A X.stack s H :=
  ⟨I.ok.frames, I.ok.mod, I.bs, Nat.le_trans I.ok.bsz I.sz, I.stack, I.stkFree, I.hok, I.bare⟩
/-- behind a call -/
theorem Inv.after {Q : VK} {u : Value} (I : Inv X pins σ H s) (h : CE X.stack X.prog X.w H s Q u s') : EP X pins σ Q u s' := by
  obtain ⟨v, H', os, bare, un, hok, r, q⟩ := h
  obtain ⟨hh, g, d, t, os'⟩ := s'
  obtain rfl : os' = s.os := os
  exact ⟨v, H', I.call (h' := hh) (g' := g) (d' := d) (t' := t) (ch := []) un hok bare (fun b z => absurd z (by simp)), r, q⟩
end

/-- f(..): the written arguments, then the defaults dvs; E: what is wanted of an exception -/
def tCall (sp : Sp) (dvs : List V) (E : XK) (t : TA) : TE := fun σ H Q => t σ H fun vs H1 => sp (vs ++ dvs) H1 Q E
/-- o.m(..) of an instance of the class at C -/
def tMeth (C : Addr) (m : Str) (sp : Sp) (dvs : List V) (E : XK) (ta : TE) (t : TA) : TE := fun σ H Q => ta σ H fun x H1 => ∃ a dx fs, x = .ref a ∧ H1 a = some (.ins C dx fs) ∧ fs.lookup m = none ∧
  t σ H1 fun vs H2 => sp (x :: (vs ++ dvs)) H2 Q E
/-- C(..): a new instance and its dict, then __init__ -/
def tMake (C : Addr) (sp : Sp) (dvs : List V) (E : XK) (t : TA) : TE := fun σ H Q => t σ H fun vs H1 => ∀ x dx, H1 x = none → H1 dx = none → dx ≠ x →
  sp (.ref x :: (vs ++ dvs)) (upd (upd H1 dx (.own x)) x (.ins C dx [])) (fun v H2 => v = .non ∧ Q (.ref x) H2) E

/-- how the parameters are bound: us the positional arguments, kw the keywords' values by name, ds the defaults that fill up -/
def Binds (K : PySem.W.Frag) (fd : FuncData) (ps : List Str) (ds : List Value) : Prop :=
  ∀ (s : Shared) (us : List Value), K.In s.heap → (us ++ ds).length = ps.length → BindsTo s fd ⟨us, []⟩ (ps.zip (us ++ ds))
/-- every parameter is given -/
theorem Binds.all {K : PySem.W.Frag} {fd : FuncData} {ps : List Str} (h : ∀ us : List Value, us.length = ps.length → bindArgs fd ⟨us, []⟩ = pure (ps.zip us)) : Binds K fd ps [] := fun s us _ hl => by
  rw [List.append_nil] at hl ⊢
  exact .of_eq (h us hl)

/-- an exception of a callee reaches what this body wants of exceptions -/
def Passes (CX : CXT) (X : Cx) (E : XK) : Prop := ∀ (pins : List (Addr × Obj)) (σ : St) (H : Hp) (s : Shared) (e : Value) (s' : Shared), Inv X pins σ H s → CX X.stack H s E e s' → X.xe e s'

section
variable {X : Cx} {CX : CXT} {k : Nat} {f C : Addr} {fd : FuncData} {ps : List Str} {sp : Sp} {dvs : List V} {ds : List Value} {E : XK} {x m : Str} {p pos apos : Pos} {e o : Expr} {es : List Expr} {ta : TE} {t : TA}

/-- the callee runs -/
theorem run_fn {pins : List (Addr × Obj)} {σ : St} {H : Hp} {s : Shared} {Q : VK} {us : List Value} {vs : List V} (F : FnOk X.prog X.w X.K X.mg X.base CX k f fd ps sp) (hr : Room k X.A) (hb : Binds X.K fd ps ds) (hd : Vals dvs ds) (hx : Passes CX X E)
    (I : Inv X pins σ H s) (r : Vals vs us) (h : sp (vs ++ dvs) H Q E) : wpAny (model X.prog X.w) X.A (call (.ref f) us) (EP X pins σ Q) X.xe s := by
  have r2 : Vals (vs ++ dvs) (us ++ ds) := r.append hd
  have hl : (us ++ ds).length = ps.length := by rw [← r2.length]; exact F.len _ _ _ _ h
  refine wpAny_call (codeAny_mono (F.run X.A X.stack s H ⟨us, []⟩ (us ++ ds) (vs ++ dvs) Q E hr I.env0 (hb s us I.kIn hl) r2 h) fun r s' hq => ?_)
  cases r with
  | error e => exact hx pins σ H s e s' I hq
  | ok fl =>
    cases fl with
    | ret u => exact I.after hq
    | next => exact False.elim hq
    | brk => exact False.elim hq
    | cont => exact False.elim hq

theorem pe_call (F : FnOk X.prog X.w X.K X.mg X.base CX k f fd ps sp) (hr : Room k X.A) (hg : Gl X x) (hm : X.mg x = some (.ref f)) (hk : PySem.W.keepIn X.K (.ref f) = true) (hb : Binds X.K fd ps ds) (hd : Vals dvs ds) (hx : Passes CX X E)
    (ha : PA X (e :: es) t) (hdb : (x == ("__debug__" : Str)) = false := by decide) (he : starEach (e :: es) X.env = (false, eval e X.env) :: starEach es X.env := by rfl) (hpl : (backTo pos (starEach es X.env)).any (·.1) = false := by rfl) :
    PE X (.Call (.Name x p) (e :: es) [] pos) (tCall sp dvs E t) := by
  intro pins s σ H Q I h
  refine wpAny_Call_Name_kw (ld_glob I hg hm ?_ hdb)
  refine PySem.W.callWith_K (h₀ := X.base) I.ok.mod.kin hk (thn (ha pos pins s σ H _ I h) fun us s1 ⟨vs, H1, I1, r, q⟩ => ⟨I1.kIn, ?_⟩) he hpl
  exact run_fn F hr hb hd hx I1 r q
/-- o.m(e, ..) -/
theorem pe_meth {pl : Sem Bool} (he : PE X o ta) (c : Cls X.K C) (hm : Meth X.K C m f) (F : FnOk X.prog X.w X.K X.mg X.base CX k f fd ps sp) (hr : Room k X.A) (hb : Binds X.K fd ps ds) (hd : Vals dvs ds) (hx : Passes CX X E) (ha : PA X (e :: es) t)
    (hst : starEach (e :: es) X.env = (false, eval e X.env) :: starEach es X.env := by rfl) (hpl : (backTo pos (starEach es X.env)).any (·.1) = false := by rfl)
    (ht : eval (.Call (.Attribute o m apos) (e :: es) [] pos) X.env = (do
      let ov ← eval o X.env
      standAt apos.atName
      let (f, first) ← holding [ov] (getMethod ov m pl)
      callWith pos f first (backTo pos (starEach (e :: es) X.env)) (backToKw pos (keywordEach [] X.env))) := by rfl) :
    PE X (.Call (.Attribute o m apos) (e :: es) [] pos) (tMeth C m sp dvs E ta t) := by
  intro pins s σ H Q I h
  refine PySem.W.methodCall_KW (pl := pl) (thn (he pins s σ H _ I h) fun u s1 ⟨x, H1, I1, rx, a, dx, fs, ex, ea, l, q⟩ => ?_) ht
  subst ex
  obtain rfl : u = Value.ref a := rx
  refine getmeth_ok I1 ea c hm l ?_
  refine PySem.W.callWith_K (first := [.ref a]) (h₀ := X.base) I.ok.mod.kin hm.kp (thn (ha pos pins s1 σ H1 _ I1 q) fun us s2 ⟨vs, H2, I2, r, q2⟩ => ⟨I2.kIn, ?_⟩) hst hpl
  exact run_fn (us := .ref a :: us) (vs := .ref a :: vs) F hr hb hd hx I2 (.cons rfl r) q2
/-- what a class must have to be made -/
structure Mk (K : PySem.W.Frag) (C f : Addr) : Prop where
  makes : PySem.W.makesIn K C = true
  init : PySem.W.findIn K (.ref C) "__init__" = some (some (.ref f))
  fn : PySem.W.isFn K (.ref f) = true
  kp : PySem.W.keepIn K (.ref C) = true

theorem run_make {pins : List (Addr × Obj)} {σ : St} {H : Hp} {s : Shared} {Q : VK} {us : List Value} {vs : List V} (M : Mk X.K C f) (F : FnOk X.prog X.w X.K X.mg X.base CX k f fd ps sp) (hr : Room (k + 1) X.A) (hb : Binds X.K fd ps ds) (hd : Vals dvs ds)
    (hx : Passes CX X E) (I : Inv X pins σ H s) (r : Vals vs us)
    (h : ∀ x dx, H x = none → H dx = none → dx ≠ x → sp (.ref x :: (vs ++ dvs)) (upd (upd H dx (.own x)) x (.ins C dx [])) (fun v H2 => v = .non ∧ Q (.ref x) H2) E) :
    wpAny (model X.prog X.w) X.A (call (.ref C) us) (EP X pins σ Q) X.xe s := by
  have hq := h (s.heap.objs.size + 1) s.heap.objs.size (I.hok.fresh (Nat.le_succ _)) (I.hok.fresh (Nat.le_refl _)) (Nat.ne_of_lt (Nat.lt_succ_self _))
  have I2 := Inv.made (C := C) I
  have r2 : Vals (V.ref (s.heap.objs.size + 1) :: (vs ++ dvs)) (Value.ref (s.heap.objs.size + 1) :: (us ++ ds)) := .cons rfl (r.append hd)
  have hl : (Value.ref (s.heap.objs.size + 1) :: us ++ ds).length = ps.length := by
    have e := r2.length
    rw [F.len _ _ _ _ hq] at e
    exact e.symm
  refine wpAny_call (make_map (f := f) I.kIn M.makes M.init (beq_iff_eq.mp M.fn) (codeAny_mono (F.run _ X.stack _ _ ⟨Value.ref (s.heap.objs.size + 1) :: us, []⟩ (Value.ref (s.heap.objs.size + 1) :: (us ++ ds)) _ _ E (hr.make C us [])
    (I2.env0.make C us []) (hb _ (Value.ref (s.heap.objs.size + 1) :: us) I2.kIn hl) r2 hq) fun r s' hq' => ?_))
  cases r with
  | error e => exact hx pins σ _ _ e s' I2 hq'
  | ok fl =>
    cases fl with
    | ret u =>
      obtain ⟨v, H', I3, rv, ev, q3⟩ := I2.after hq'
      subst ev
      exact ⟨rv, ⟨V.ref (s.heap.objs.size + 1), H', I3, rfl, q3⟩⟩
    | next => exact False.elim hq'
    | brk => exact False.elim hq'
    | cont => exact False.elim hq'
theorem pe_make (M : Mk X.K C f) (F : FnOk X.prog X.w X.K X.mg X.base CX k f fd ps sp) (hr : Room (k + 1) X.A) (hg : Gl X x) (hm : X.mg x = some (.ref C)) (hb : Binds X.K fd ps ds) (hd : Vals dvs ds) (hx : Passes CX X E)
    (ha : PA X (e :: es) t) (hdb : (x == ("__debug__" : Str)) = false := by decide) (he : starEach (e :: es) X.env = (false, eval e X.env) :: starEach es X.env := by rfl) (hpl : (backTo pos (starEach es X.env)).any (·.1) = false := by rfl) :
    PE X (.Call (.Name x p) (e :: es) [] pos) (tMake C sp dvs E t) := by
  intro pins s σ H Q I h
  refine wpAny_Call_Name_kw (ld_glob I hg hm ?_ hdb)
  refine PySem.W.callWith_K (h₀ := X.base) I.ok.mod.kin M.kp (thn (ha pos pins s σ H _ I h) fun us s1 ⟨vs, H1, I1, r, q⟩ => ⟨I1.kIn, ?_⟩) he hpl
  exact run_make M F hr hb hd hx I1 r q
end

section
variable {X : Cx} {CX : CXT} {k : Nat} {f C : Addr} {fd : FuncData} {ps ks : List Str} {sp : Sp} {E : XK} {x m : Str} {p pos apos kpos : Pos} {e o : Expr} {es : List Expr} {kws : List Keyword} {te ta : TE} {t tk : TA} {nm : Option Str}
variable {g : List Value → List Value → List Value} {gV : List V → List V → List V}
end

/-- names: the parameters first -/
structure FnScope (N P : List Str) (sc : Scope) : Prop where
  kind : sc.kind = .function
  co : sc.isCoroutine = false
  gen : sc.isGenerator = false
  nd : N.Nodup
  pre : N.take P.length = P
  par : ∀ x ∈ P, sc.names.lookup x = some .local ∨ sc.names.lookup x = some .cell
  nofree : ∀ y ∈ sc.names, y.2 ≠ .free

theorem bindL_out {kindOf : Str → Option NameKind} {x : Str} : ∀ {binds : List (Str × Value)} {m : Str → Option Value}, (∀ v, (x, v) ∉ binds) → bindL kindOf binds m x = m x
  | [], _, _ => rfl
  | (n, v) :: r, m, h => by
    unfold bindL
    rw [bindL_out fun w hw => h w (List.mem_cons_of_mem _ hw)]
    split
    · have : x ≠ n := by rintro rfl; exact h v List.mem_cons_self
      simp [this]
    · rfl
theorem bindC_out {kindOf : Str → Option NameKind} {x : Str} : ∀ {binds : List (Str × Value)} {m : Str → Option Value}, (∀ v, (x, v) ∉ binds) → bindC kindOf binds m x = m x
  | [], _, _ => rfl
  | (n, v) :: r, m, h => by
    unfold bindC
    rw [bindC_out fun w hw => h w (List.mem_cons_of_mem _ hw)]
    split
    · rfl
    · have : x ≠ n := by rintro rfl; exact h v List.mem_cons_self
      simp [this]
theorem bindL_get {kindOf : Str → Option NameKind} {x : Str} {v : Value} : ∀ {P : List Str} {vs : List Value} {i : Nat} {m : Str → Option Value}, P.Nodup → P[i]? = some x → vs[i]? = some v → kindOf x = some .local →
    bindL kindOf (P.zip vs) m x = some v
  | [], _, _, _, _, h, _, _ => by simp at h
  | _ :: _, [], _, _, _, _, h, _ => by simp at h
  | p :: P, w :: vs, 0, m, nd, h1, h2, hk => by
    simp at h1 h2; subst h1; subst h2
    show bindL kindOf ((p, w) :: P.zip vs) m p = _
    unfold bindL
    rw [bindL_out fun v hv => (List.nodup_cons.mp nd).1 (List.of_mem_zip hv).1, if_pos hk]
    simp
  | p :: P, w :: vs, i + 1, m, nd, h1, h2, hk => by
    show bindL kindOf ((p, w) :: P.zip vs) m x = _
    unfold bindL
    exact bindL_get (i := i) (List.nodup_cons.mp nd).2 (by simpa using h1) (by simpa using h2) hk
theorem bindC_get {kindOf : Str → Option NameKind} {x : Str} {v : Value} : ∀ {P : List Str} {vs : List Value} {i : Nat} {m : Str → Option Value}, P.Nodup → P[i]? = some x → vs[i]? = some v → kindOf x ≠ some .local →
    bindC kindOf (P.zip vs) m x = some v
  | [], _, _, _, _, h, _, _ => by simp at h
  | _ :: _, [], _, _, _, _, h, _ => by simp at h
  | p :: P, w :: vs, 0, m, nd, h1, h2, hk => by
    simp at h1 h2; subst h1; subst h2
    show bindC kindOf ((p, w) :: P.zip vs) m p = _
    unfold bindC
    rw [bindC_out fun v hv => (List.nodup_cons.mp nd).1 (List.of_mem_zip hv).1, if_neg hk]
    simp
  | p :: P, w :: vs, i + 1, m, nd, h1, h2, hk => by
    show bindC kindOf ((p, w) :: P.zip vs) m x = _
    unfold bindC
    exact bindC_get (i := i) (List.nodup_cons.mp nd).2 (by simpa using h1) (by simpa using h2) hk

/-- the names' values at the entry -/
def start (N : List Str) (vs : List V) : St := vs.map some ++ List.replicate (N.length - vs.length) none

/-- the context of a def's body, at its entry; an exception leaves the frame, then lies as CX says -/
def cxOf (CX : CXT) (P : Program) (w : World) (K : PySem.W.Frag) (mg : Str → Option Value) (base : Heap) (N : List Str) (qual : Str) (scope : Scope) (f : Addr) (cd : Value) (A : Around) (outer : List Env) (s : Shared) (H : Hp) (E : XK) : Cx where
  prog := P
  w := w
  K := K
  mg := mg
  base := base
  A := A.deeper (envOfC qual scope s.heap.objs.size f cd)
  N := N
  s₀ := s
  H₀ := H
  env := envOfC qual scope s.heap.objs.size f cd
  outer := outer
  stack := envOfC qual scope s.heap.objs.size f cd :: outer
  ex := []
  calm := true
  fn := fun _ => true
  pn := []
  xe := fun e s' => wpAny (model P w) (A.deeper (envOfC qual scope s.heap.objs.size f cd)) (leaving (envOfC qual scope s.heap.objs.size f cd) e) (fun _ s'' => CX outer H s E e s'') (fun e' s'' => CX outer H s E e' s'') s'

theorem cell_has {sc : Scope} {n : Nat} {x : Str} (h : sc.names.lookup x = some .cell) : ∃ c, (cellsFrom n sc.names []).lookup x = some c := by
  have q := PySem.W.cellsFrom_some sc.names n [] (.inl h)
  exact Option.isSome_iff_exists.mp q

theorem inv_start {CX : CXT} {P : Program} {w : World} {K : PySem.W.Frag} {mg : Str → Option Value} {base : Heap} {N ps : List Str} {qual : Str} {scope : Scope} {f : Addr} {cd : Value} {A : Around} {outer : List Env} {s s1 : Shared} {H : Hp} {E : XK} {us : List Value} {vs : List V}
    (S : FnScope N ps scope) (hd : A.handled = none) (e0 : Env0 P w K mg base A outer s H) (hl : vs.length = ps.length) (r : Vals vs us)
    (x : InCallC s s.heap.objs.size (bindL (envOfC qual scope s.heap.objs.size f cd).kindOf (ps.zip us) fun _ => none) (cellsFrom (s.heap.objs.size + 1) scope.names []) (bindC (envOfC qual scope s.heap.objs.size f cd).kindOf (ps.zip us) fun _ => none) s1) :
    Inv (cxOf CX P w K mg base N qual scope f cd A outer s H E) [] (start N vs) H s1 := by
  have hpl : ps.length ≤ N.length := by have := congrArg List.length S.pre; rw [List.length_take] at this; omega
  obtain ⟨h1, tk, rfl, hk⟩ := x.done
  have noA : ∀ b : Addr, b ∉ (cxOf CX P w K mg base N qual scope f cd A outer s H E).ex := fun b z => absurd (show b ∈ ([] : List Addr) from z) (by simp)
  refine ⟨⟨e0.mod, S.kind, rfl, rfl, Nat.le_refl _, fun y z c h1 h2 => ?_, fun y hy => ?_, fun y c _ h => ?_, fun _ => hd, Around.frames_deeper e0.frames, .inr ⟨rfl, rfl⟩, fun b z => absurd z (noA b), e0.bs, e0.bsz, fun b _ _ => noA b, fun b z => absurd z (noA b), e0.funs, e0.frf⟩,
    rfl, e0.bare, Un.kept hk, ⟨_, x.toInCall.ns, fun i y v h1 h2 h3 => ?_⟩, fun y c h => ⟨_, x.cell y c h⟩, e0.hok.fresh (Nat.le_refl _), fun y c h => ?_, fun p hp => absurd (show p ∈ ([] : List (Addr × Obj)) from hp) (by simp), e0.hok.kept hk, ?_⟩
  · exact name_of_addr x.apart (PySem.mem_of_lookup h1) (PySem.mem_of_lookup h2)
  · have hy : scope.names.lookup y = some .cell ∨ scope.names.lookup y = some .free := hy
    rcases hy with hy | hy
    · exact cell_has hy
    · exact absurd rfl (S.nofree _ (PySem.mem_of_lookup hy))
  · exact Nat.le_of_lt (x.above y c (PySem.mem_of_lookup h))
  · have hi : i < vs.length := by
      unfold start at h2
      by_cases hi : i < vs.length
      · exact hi
      · rw [List.getElem?_append_right (by simpa using hi)] at h2
        rw [List.getElem?_replicate] at h2
        split at h2 <;> cases h2
    have ha : vs[i]? = some v := by
      unfold start at h2
      rw [List.getElem?_append_left (by simpa using hi), List.getElem?_map] at h2
      cases e : vs[i]? with
      | none => rw [e] at h2; cases h2
      | some a => rw [e] at h2; cases h2; rfl
    obtain ⟨u, hu, rv⟩ := r.get ha
    have hp : ps[i]? = some y := by
      rw [← S.pre, List.getElem?_take_of_lt (by omega)]; exact h1
    have ndP : ps.Nodup := by rw [← S.pre]; exact S.nd.sublist (List.take_sublist _ _)
    refine ⟨u, rv, ?_⟩
    rcases S.par y (List.mem_of_getElem? hp) with k | k
    · exact .inl ⟨k, bindL_get ndP hp hu k⟩
    · obtain ⟨c, e⟩ := cell_has (n := s.heap.objs.size + 1) k
      refine .inr ⟨.inl k, c, e, ?_⟩
      have q := x.cell y c e
      rw [bindC_get ndP hp hu (by show scope.names.lookup y ≠ _; rw [k]; decide)] at q
      exact q
  · exact e0.hok.fresh (Nat.le_of_lt (x.above y c (PySem.mem_of_lookup h)))
  · unfold start
    show _ = N.length
    rw [List.length_append, List.length_map, List.length_replicate]
    omega

/-- THE RULE: a def (or a method) of the text, by its body. The body's reading t is chosen for each entry; it is run at the parameters' values -/
theorem fn_of {CX : CXT} {P : Program} {w : World} {K : PySem.W.Frag} {mg : Str → Option Value} {base : Heap} {k : Nat} {f : Addr} {name qual : Str} {params : Arguments} {body : List Stmt} {scope : Scope} {dV kV doc pm cdv ct oc : Value} {an od : Option Addr}
    {osl : Array (Option Value)} {N ps : List Str} {sp : Sp} (lk : K.lookup f = some ⟨oc, od, .func (PySem.W.fnOf name qual params body scope dV kV doc pm an cdv ct), osl⟩) (hcd : PySem.W.codeIn K cdv qual = true) (S : FnScope N ps scope)
    (len : ∀ vs H Q E, sp vs H Q E → vs.length = ps.length)
    (hbody : ∀ (A : Around) (outer : List Env) (s : Shared) (H : Hp) (vs : List V) (Q : VK) (E : XK), Room k (A.deeper (envOfC qual scope s.heap.objs.size f cdv)) → sp vs H Q E →
      ∃ t, PSs (cxOf CX P w K mg base N qual scope f cdv A outer s H E) body t ∧ t { nx := fun _ H' => Q .non H', rt := Q } (start N vs) H) :
    FnOk P w K mg base CX (k + 1) f (PySem.W.fnOf name qual params body scope dV kV doc pm an cdv ct) ps sp := by
  refine ⟨len, fun A outer s H args us vs Q E hr e0 hb r hsp => ?_⟩
  have hl := len _ _ _ _ hsp
  have KX : K.In s.heap := e0.mod.kin.keeps fun b o e => (e0.bs b o e).1
  have lim : s.heap.NoLimit := e0.mod.nolimit.keeps fun b o e => (e0.bs b o e).1
  have hkind : ∀ y ∈ ps.zip us, scope.names.lookup y.1 = some .local ∨ (scope.names.lookup y.1 = some .cell ∧ ((cellsFrom (s.heap.objs.size + 1) scope.names []).lookup y.1).isSome = true) := fun ⟨n, v⟩ hy => by
    rcases S.par n (List.of_mem_zip hy).1 with q | q
    · exact .inl q
    · exact .inr ⟨q, PySem.W.cellsFrom_some _ _ _ (.inl q)⟩
  refine codeAny_call_function hr.depth (KX _ _ lk) rfl S.co S.gen rfl (PySem.W.codeRec_of KX hcd) (hb _ _ _ _ ?_)
  refine wpAny_newFunctionEnv_cells S.kind hkind fun env he s1 x => ?_
  subst he
  refine ⟨lim.keeps x.toInCall.keep, codeAny_func ?_⟩
  obtain ⟨t, ht, hq⟩ := hbody A outer s H vs Q E (hr.deeper _) hsp
  have I : Inv (cxOf CX P w K mg base N qual scope f cdv A outer s H E) [] (start N vs) H s1 := inv_start S hr.hd e0 hl r x
  refine wpAny_mono (ht [] s1 (start N vs) H _ I hq) (fun fl s' hs => ?_) fun e s' hs => hs
  have fin : ∀ {σ' : St} {H' : Hp} {v : V} {u : Value}, Inv (cxOf CX P w K mg base N qual scope f cdv A outer s H E) [] σ' H' s' → RelV v u → Q v H' → CE outer P w H s Q u s' :=
    fun {σ' H' v u} J rv q => ⟨v, H', J.os, J.bare, J.base, J.hok, rv, q⟩
  cases fl with
  | ret u =>
    obtain ⟨v, σ', H', J, rv, q⟩ := hs
    exact fin J rv q
  | next =>
    obtain ⟨σ', H', J, q⟩ := hs
    exact fin (v := V.non) (u := Value.none) J rfl q
  | brk =>
    obtain ⟨_, _, _, q⟩ := hs
    exact False.elim q
  | cont =>
    obtain ⟨_, _, _, q⟩ := hs
    exact False.elim q
end L2

namespace L2
open PySem PySem.Spec PyProof.Rows
section
variable {X : Cx} {x : Str} {p pos : Pos} {e : Expr} {es : List Expr} {t : TA} {id T : String} {r : List V → Hp → VK → Prop}

def tCB (r : List V → Hp → VK → Prop) (t : TA) : TE := fun σ H Q => t σ H fun vs H1 => r vs H1 Q
/-- f(e, ..), f a built-in function -/
theorem pe_callB (hc : CallR X (.builtin id) r) (hg : Gl X x) (hm : X.mg x = none) (hv : bootBuiltins x = some (.builtin id)) (ha : PA X (e :: es) t) (hn : x ≠ "__name__" := by decide) (hdb : (x == ("__debug__" : Str)) = false := by decide)
    (he : starEach (e :: es) X.env = (false, eval e X.env) :: starEach es X.env := by rfl) (hpl : (backTo pos (starEach es X.env)).any (·.1) = false := by rfl) : PE X (.Call (.Name x p) (e :: es) [] pos) (tCB r t) := by
  intro pins s σ H Q I h
  refine wpAny_Call_Name_kw (ld_blt I hg hm hv ?_ hn hdb)
  exact PyProof.Rows.callWith_builtin1 (thn (ha pos pins s σ H _ I h) fun us s1 ⟨vs, H1, I1, r1, q1⟩ => hc pins s1 σ H1 vs us Q I1 r1 q1) he hpl
/-- T(e, ..), T a built-in type -/
theorem pe_callTy (hc : CallR X (.type T) r) (hg : Gl X x) (hm : X.mg x = none) (hv : bootBuiltins x = some (.type T)) (ha : PA X (e :: es) t) (hn : x ≠ "__name__" := by decide) (hdb : (x == ("__debug__" : Str)) = false := by decide)
    (he : starEach (e :: es) X.env = (false, eval e X.env) :: starEach es X.env := by rfl) (hpl : (backTo pos (starEach es X.env)).any (·.1) = false := by rfl) : PE X (.Call (.Name x p) (e :: es) [] pos) (tCB r t) := by
  intro pins s σ H Q I h
  refine wpAny_Call_Name_kw (ld_blt I hg hm hv ?_ hn hdb)
  exact PyProof.Rows.callWith_type1 (thn (ha pos pins s σ H _ I h) fun us s1 ⟨vs, H1, I1, r1, q1⟩ => hc pins s1 σ H1 vs us Q I1 r1 q1) he hpl
end
end L2

namespace HT
open PySem PyProof.Rows

section
open PySem.SeqAt
open PySem.AutoSeq1 (wpAny_loadPart')
open PySem.MeetsSeq PySem.MeetsSeq2 PySem.MeetsSeq3

end

section
variable {prog : Program} {w : World} {A : Around} {E : Value → Shared → Prop} {s : Shared}

/-- a slice's bound as a place among n (d where it is left out) -/
def sIx (n d : Nat) : Option Int → Nat
  | none => d
  | some v => if v < 0 then (v + (n : Int)).toNat else min v.toNat n
theorem sIx_none (n d : Nat) : sIx n d none = d := rfl
theorem sIx_nat (n d k : Nat) : sIx n d (some (k : Int)) = min k n := by
  show (if (k : Int) < 0 then ((k : Int) + (n : Int)).toNat else min (k : Int).toNat n) = min k n
  rw [if_neg (by omega), Int.toNat_natCast]
end
end HT

namespace L2
open PySem PySem.Spec PyProof.Rows

abbrev TO := St → Hp → (Option Int → Hp → Prop) → Prop
/-- a slice's part (left out, or an int) -/
def PO (X : Cx) (e : Option Expr) (t : TO) : Prop :=
  ∀ (pins : List (Addr × Obj)) (s : Shared) (σ : St) (H : Hp) (Q : Option Int → Hp → Prop), Inv X pins σ H s → t σ H Q →
    wpAny (model X.prog X.w) X.A (evalPart e X.env) (fun u s' => ∃ o H', Inv X pins σ H' s' ∧ IsPart u o ∧ Q o H') X.xe s
def tNoPart : TO := fun _ H Q => Q none H
def tPart (t : TE) : TO := fun σ H Q => t σ H fun x H1 => ∃ i, x = .int i ∧ Q (some i) H1

theorem intsAre_of {ns : List Int} : ∀ {us : List Value}, Vals (ns.map V.int) us → IntsAre us ns := by
  induction ns with
  | nil => intro us r; rw [List.map_nil] at r; cases r; exact .nil
  | cons n ns ih =>
    intro us r
    rw [List.map_cons] at r
    cases r with
    | cons r1 r2 =>
      obtain ⟨t, e⟩ := r1
      subst e
      exact .cons n t (ih r2)

section
variable {X : Cx} {e : Expr} {te : TE} {lo hi : Option Expr} {tl th : TO} {pos p2 : Pos}

theorem po_none : PO X none tNoPart := by
  intro pins s σ H Q I h
  rw [evalPart_none]
  exact wpAny_pure ⟨none, H, I, .none, h⟩
theorem po_some (h : PE X e te) : PO X (some e) (tPart te) := by
  intro pins s σ H Q I hw
  rw [evalPart_some]
  refine thn (h pins s σ H _ I hw) fun u s1 ⟨x, H1, I1, r1, q1⟩ => ?_
  obtain ⟨i, rfl, q⟩ := q1
  obtain ⟨t, rfl⟩ := r1
  exact ⟨some i, H1, I1, .int i t, q⟩

/-- what a slice of a value is, by values: the slice object stands at sl -/
def SlR (X : Cx) (r : V → Option Int → Option Int → Hp → VK → Prop) : Prop :=
  ∀ (pins : List (Addr × Obj)) (s : Shared) (σ : St) (H : Hp) (x : V) (v vl vu : Value) (lo hi : Option Int) (sl : Addr) (Q : VK), Inv X pins σ H s → RelV x v → s.heap.IsSliceOf sl vl vu .none → IsPart vl lo → IsPart vu hi → r x lo hi H Q →
    ∃ T id, typeLookup (.type T) "__getitem__" = pure (some (.builtin id)) ∧ s.TypeIs v T ∧ wpAny (model X.prog X.w) X.A (getItem v (.ref sl)) (EP X pins σ Q) X.xe s
theorem SlR.or {r r' : V → Option Int → Option Int → Hp → VK → Prop} (h : SlR X r) (h' : SlR X r') : SlR X (fun x lo hi H Q => r x lo hi H Q ∨ r' x lo hi H Q) := by
  intro pins s σ H x v vl vu lo hi sl Q I rx hs pl pu q
  rcases q with q | q
  · exact h pins s σ H x v vl vu lo hi sl Q I rx hs pl pu q
  · exact h' pins s σ H x v vl vu lo hi sl Q I rx hs pl pu q
def tSl (r : V → Option Int → Option Int → Hp → VK → Prop) (te : TE) (tl th : TO) : TE := fun σ H Q => te σ H fun x H1 => tl σ H1 fun l H2 => th σ H2 fun u H3 => r x l u H3 Q
/-- a[lo:hi], any a -/
theorem pe_slice {r : V → Option Int → Option Int → Hp → VK → Prop} (hr : SlR X r) (he : PE X e te) (hl : PO X lo tl) (hu : PO X hi th) : PE X (.Subscript e (.Slice lo hi none p2) pos) (tSl r te tl th) := by
  intro pins s σ H Q I h
  refine Subscript_ (thn (he pins s σ H _ I h) fun v s1 ⟨x, H1, I1, r1, q1⟩ => ?_)
  refine wpAny_Slice (thn (hl pins s1 σ H1 _ I1 q1) fun vl s2 ⟨l, H2, I2, pl, q2⟩ => thn (hu pins s2 σ H2 _ I2 q2) fun vu s3 ⟨u, H3, I3, pu, q3⟩ => ?_)
  rw [evalPart_none]
  refine wpAny_pure ?_
  have I4 : Inv X pins σ H3 { s3 with heap := s3.heap.push { cls := .type "slice", data := .fields #[vl, vu, .none] } } := I3.kept (t' := s3.toks) fun b ob q => Heap.get?_push_of_some _ q
  obtain ⟨T, id, hT, ht, hg⟩ := hr pins { s3 with heap := s3.heap.push { cls := .type "slice", data := .fields #[vl, vu, .none] } } σ H3 x v vl vu l u s3.heap.objs.size Q I4 r1 (Heap.IsSliceOf.new ..) pl pu q3
  show wpAny (model X.prog X.w) X.A (subscriptTail e (.Slice lo hi none p2) v (.ref s3.heap.objs.size)) (EP X pins σ Q) X.xe { s3 with heap := s3.heap.push { cls := .type "slice", data := .fields #[vl, vu, .none] } }
  exact tail_any (ops := [.ref s3.heap.objs.size, v]) ht hT hg (by with_unfolding_all rfl)

/-- the items of xs[lo:hi] -/
def cutV (xs : List V) (lo hi : Option Int) : List V := (xs.drop (HT.sIx xs.length 0 lo)).take (HT.sIx xs.length xs.length hi - HT.sIx xs.length 0 lo)
theorem cutV_length (xs : List V) (lo hi : Option Int) : (cutV xs lo hi).length ≤ xs.length := by
  unfold cutV
  rw [List.length_take, List.length_drop]
  omega
end
end L2

namespace L2
open PySem PySem.Spec PyProof.Rows

/-- the place that an index of any sign means -/
def ixN (n : Nat) (i : Int) : Option Nat := if 0 ≤ i then (if i < n then some i.toNat else none) else if -(n : Int) ≤ i then some (i + n).toNat else none
def atI {α : Type} (xs : List α) (i : Int) : Option α := (ixN xs.length i).bind fun j => xs[j]?
theorem ixN_seq {n : Nat} {i : Int} {j : Nat} (h : ixN n i = some j) : seqIndex? i n = some j ∧ j < n ∧ -(n : Int) ≤ i ∧ i < n := by
  unfold ixN at h
  by_cases h0 : 0 ≤ i
  · rw [if_pos h0] at h
    by_cases h1 : i < n
    · rw [if_pos h1] at h
      have e : i.toNat = j := Option.some.inj h
      exact ⟨by rw [seqIndex_of h0 h1, e], by omega, by omega, h1⟩
    · rw [if_neg h1] at h; cases h
  · rw [if_neg h0] at h
    by_cases h1 : -(n : Int) ≤ i
    · rw [if_pos h1] at h
      have e : (i + n).toNat = j := Option.some.inj h
      exact ⟨by rw [seqIndex_neg (by omega) h1, e], by omega, h1, by omega⟩
    · rw [if_neg h1] at h; cases h
theorem atI_get {α : Type} {xs : List α} {i : Int} {v : α} (h : atI xs i = some v) : ∃ j, seqIndex? i xs.length = some j ∧ xs[j]? = some v ∧ j < xs.length ∧ -(xs.length : Int) ≤ i ∧ i < xs.length := by
  unfold atI at h
  cases e : ixN xs.length i with
  | none => rw [e] at h; cases h
  | some j =>
    rw [e] at h
    obtain ⟨h1, h2, h3, h4⟩ := ixN_seq e
    exact ⟨j, h1, h, h2, h3, h4⟩
theorem atI_nat {α : Type} {xs : List α} {j : Nat} {v : α} (h : xs[j]? = some v) : atI xs (j : Int) = some v := by
  have hj : j < xs.length := (List.getElem?_eq_some_iff.mp h).1
  have e : ixN xs.length (j : Int) = some j := by
    unfold ixN
    rw [if_pos (by omega), if_pos (by omega)]; simp
  unfold atI; rw [e]; exact h
/-- what stands as an index of a plain subscript -/
def PlainIx (b : Expr) : Prop := ∀ o i, subscripted b false o i = operate [o, i] (getItem o i)
/-- a subscript by values -/
def IxR (X : Cx) (r : R2) : Prop :=
  ∀ (value slice : Expr) (pins : List (Addr × Obj)) (s : Shared) (σ : St) (H : Hp) (x y : V) (v u : Value) (Q : VK), Inv X pins σ H s → RelV x v → RelV y u → r x y H Q →
    subscripted slice false v u = operate [v, u] (getItem v u) → wpAny (model X.prog X.w) X.A (subscriptTail value slice v u) (EP X pins σ Q) X.xe s
/-- a call of a builtin's method by values: the receiver, the arguments -/
def MtR (X : Cx) (id : String) (r : V → List V → Hp → VK → Prop) : Prop :=
  ∀ (pins : List (Addr × Obj)) (s : Shared) (σ : St) (H : Hp) (x : V) (xs : List V) (v : Value) (us : List Value) (Q : VK), Inv X pins σ H s → RelV x v → Vals xs us → r x xs H Q →
    wpAny (model X.prog X.w) X.A (call (.builtin id) (v :: us)) (EP X pins σ Q) X.xe s
section
variable {X : Cx} {a b : Expr} {ta tb : TE} {pos : Pos}
theorem IxR.or {r r' : R2} (h : IxR X r) (h' : IxR X r') : IxR X (fun x y H Q => r x y H Q ∨ r' x y H Q) := by
  intro value slice pins s σ H x y v u Q I rx ry q hs
  rcases q with q | q
  · exact h value slice pins s σ H x y v u Q I rx ry q hs
  · exact h' value slice pins s σ H x y v u Q I rx ry q hs
theorem MtR.or {id : String} {r r' : V → List V → Hp → VK → Prop} (h : MtR X id r) (h' : MtR X id r') : MtR X id (fun x xs H Q => r x xs H Q ∨ r' x xs H Q) := by
  intro pins s σ H x xs v us Q I rx rs q
  rcases q with q | q
  · exact h pins s σ H x xs v us Q I rx rs q
  · exact h' pins s σ H x xs v us Q I rx rs q
/-- a[b] -/
theorem pe_ix {r : R2} (hr : IxR X r) (ha : PE X a ta) (hb : PE X b tb) (hs : PlainIx b) : PE X (.Subscript a b pos) (tOp r ta tb) := by
  intro pins s σ H Q I h
  exact Subscript_ (binT ha hb I h fun v u s2 x y H2 I2 rx ry q => hr a b pins s2 σ H2 x y v u Q I2 rx ry q (hs _ _))

def rIxL (K : PySem.W.Frag) : R2 := fun x y H Q => ∃ p xs i v, x = .ref p ∧ y = .int i ∧ SqL K H p xs ∧ atI xs i = some v ∧ Q v H
def rIxT (K : PySem.W.Frag) : R2 := fun x y H Q => ∃ p xs i v, x = .ref p ∧ y = .int i ∧ SqT K H p xs ∧ atI xs i = some v ∧ Q v H
theorem ix_list : IxR X (rIxL X.K) := by
  intro value slice pins s σ H x y v u Q I rx ry h hs
  obtain ⟨p, xs, i, z, rfl, rfl, hq, he, q⟩ := h
  cases rx
  obtain ⟨t, rfl⟩ := ry
  obtain ⟨its, r, pl, hz⟩ := I.list hq
  obtain ⟨j, h1, h2, h3, h4, h5⟩ := atI_get he
  obtain ⟨w, ew, rw'⟩ := r.get h2
  have hl := r.length
  have hn := line63
  have fin : EP X pins σ Q w s := ⟨z, H, I, rw', q⟩
  by_cases h0 : 0 ≤ i
  · have hj : i.toNat = j := by
      rw [seqIndex_of h0 h5] at h1
      exact Option.some.inj h1
    exact item_listR pl.isList h0 (by omega) (by rw [hj]; simpa using ew) fin hs
  · have hj : (i + (its.toArray.size : Int)).toNat = j := by
      rw [seqIndex_neg (by omega) h4] at h1
      rw [List.size_toArray, ← hl]
      exact Option.some.inj h1
    exact subscriptTail_builtinR (x := w) pl.isList.typeIs slot_list_getitem.lookup
      (wpAny_getItem_list_neg (Q := fun r s' => r = w ∧ EP X pins σ Q r s') pl.isList (by omega) (by rw [List.size_toArray] <;> omega) (by omega) (by rw [hj]; simpa using ew) ⟨rfl, fin⟩) hs
theorem ix_tup : IxR X (rIxT X.K) := by
  intro value slice pins s σ H x y v u Q I rx ry h hs
  obtain ⟨p, xs, i, z, rfl, rfl, hq, he, q⟩ := h
  cases rx
  obtain ⟨t, rfl⟩ := ry
  obtain ⟨its, r, pl, hz⟩ := I.tuple hq
  obtain ⟨j, h1, h2, h3, h4, h5⟩ := atI_get he
  obtain ⟨w, ew, rw'⟩ := r.get h2
  have hl := r.length
  have hn := line63
  have fin : EP X pins σ Q w s := ⟨z, H, I, rw', q⟩
  exact subscriptTail_builtinR (x := w) pl.typeIs slot_tuple_getitem.lookup
    (getItem_tuple (j := j) (Q := fun r s' => r = w ∧ EP X pins σ Q r s') pl (by omega) (by omega) (by rw [List.size_toArray, ← hl]; exact h1) (by simpa using ew) ⟨rfl, fin⟩) hs
/-- the list's object behind a store -/
theorem mapSeq_set (its : List Value) (n j : Nat) (u : Value) : Obj.mapSeq (·.setIfInBounds j u) { cls := .type "list", data := .seq its.toArray n } = { cls := .type "list", data := .seq (its.set j u).toArray n } := by
  simp [Obj.mapSeq]
theorem Inv.lst {pins : List (Addr × Obj)} {σ : St} {H : Hp} {s : Shared} {p : Addr} {xs : List V} (I : Inv X pins σ H s) (h : H p = some (.lst xs)) :
    ∃ (its : List Value) (n : Nat), Vals xs its ∧ s.heap.get? p = some { cls := .type "list", data := .seq its.toArray n } ∧ xs.length ≤ sizeLine := by
  obtain ⟨z, its, n, r, e⟩ := I.hok p _ h
  exact ⟨its, n, r, e, z⟩
/-- the list at p is written by an update of its object -/
theorem Inv.lstUpd {pins : List (Addr × Obj)} {σ : St} {H : Hp} {s : Shared} {p : Addr} {xs ys : List V} {its its' : List Value} {n n' : Nat} {f : Obj → Obj} (I : Inv X pins σ H s) (h : H p = some (.lst xs))
    (ho : s.heap.get? p = some { cls := .type "list", data := .seq its.toArray n }) (hf : f { cls := .type "list", data := .seq its.toArray n } = { cls := .type "list", data := .seq its'.toArray n' }) (r : Vals ys its') (hz : ys.length ≤ sizeLine) (t : Nat) :
    Inv X pins σ (upd H p (.lst ys)) { s with heap := s.heap.update p f, toks := t } := by
  have e : (s.heap.update p f).get? p = some { cls := .type "list", data := .seq its'.toArray n' } := by
    rw [Heap.get?_update_self f ho (by rw [hf] <;> rfl), hf]
  refine I.write (x := p) (e := p) (by rw [h]; trivial) (.inl rfl) (fun b u hb q => (Heap.get?_update_other _ _ (Ne.symm hb)).trans q) ⟨_, e⟩ ?_
  exact ⟨hz, its', n', r, e⟩
def rSetL : V → V → V → Hp → (Hp → Prop) → Prop := fun o i v H Q => ∃ p xs k j, o = .ref p ∧ i = .int k ∧ H p = some (.lst xs) ∧ ixN xs.length k = some j ∧ Q (upd H p (.lst (xs.set j v)))
theorem set_list : PSet X rSetL := by
  intro pins s σ H o i v ov iv u Q I ro ri rv h
  obtain ⟨p, xs, k, j, rfl, rfl, hp, hj, q⟩ := h
  cases ro
  obtain ⟨t, rfl⟩ := ri
  obtain ⟨its, n, r, ho, hz⟩ := I.lst hp
  obtain ⟨h1, h2, h3, h4⟩ := ixN_seq hj
  have hl := r.length
  have hn := line63
  have I' : Inv X pins σ (upd H p (.lst (xs.set j v))) { s with heap := s.heap.update p (Obj.mapSeq (·.setIfInBounds j u)) } :=
    I.lstUpd hp ho (mapSeq_set its n j u) (r.set rv j) (by rw [List.length_set]; exact hz) s.toks
  by_cases h0 : 0 ≤ k
  · have hk : k.toNat = j := by
      rw [seqIndex_of h0 h4] at h1
      exact Option.some.inj h1
    exact PySem.W.ki_setAt ho h0 (by omega) (by rw [List.size_toArray, ← hl]; exact h4) (by rw [hk]; exact ⟨_, I', q⟩)
  · have hk : (k + (its.toArray.size : Int)).toNat = j := by
      rw [seqIndex_neg (by omega) h3] at h1
      rw [List.size_toArray, ← hl]
      exact Option.some.inj h1
    exact PySem.W.ki_setBack ho (by omega) (by rw [List.size_toArray, ← hl]; exact h3) (by omega) (by rw [hk]; exact ⟨_, I', q⟩)

theorem slice_bounds (lo hi : Option Int) (n : Nat) : (sliceBounds lo hi none n).1 = ((HT.sIx n 0 lo : Nat) : Int) ∧ (sliceBounds lo hi none n).2.1 = ((HT.sIx n n hi : Nat) : Int) ∧ (sliceBounds lo hi none n).2.2 = 1 := by
  refine ⟨?_, ?_, rfl⟩
  · cases lo with
    | none => simp [sliceBounds, HT.sIx]
    | some i =>
      simp only [sliceBounds, HT.sIx, Option.getD_none, show (1 : Int) > 0 by decide, if_true]
      by_cases h : i < 0
      · simp only [h, if_true] <;> omega
      · simp only [h, if_false] <;> omega
  · cases hi with
    | none => simp [sliceBounds, HT.sIx]
    | some i =>
      simp only [sliceBounds, HT.sIx, Option.getD_none, show (1 : Int) > 0 by decide, if_true]
      by_cases h : i < 0
      · simp only [h, if_true] <;> omega
      · simp only [h, if_false] <;> omega
theorem slicePick_cut (its : List Value) (lo hi : Option Int) : slicePick its.toArray lo hi none = ((its.drop (HT.sIx its.length 0 lo)).take (HT.sIx its.length its.length hi - HT.sIx its.length 0 lo)).toArray := by
  obtain ⟨h1, h2, h3⟩ := slice_bounds lo hi its.toArray.size
  unfold slicePick
  rw [h1, h2, h3]
  simp only [sliceRange_one, pick_run, List.size_toArray] <;> rfl
/-- xs[lo:hi] of a list: a new list -/
def rSlL (K : PySem.W.Frag) : V → Option Int → Option Int → Hp → VK → Prop := fun x lo hi H Q => ∃ a xs, x = .ref a ∧ SqL K H a xs ∧ ∀ p, H p = none → Q (.ref p) (upd H p (.lst (cutV xs lo hi)))
theorem sl_list : SlR X (rSlL X.K) := by
  intro pins s σ H x v vl vu lo hi sl Q I rx hs pl pu h
  obtain ⟨a, xs, rfl, hx, q⟩ := h
  cases rx
  obtain ⟨its, r, ht, hz⟩ := I.list hx
  have hlen := r.length
  refine ⟨"list", _, slot_list_getitem.lookup, ht.isList.typeIs, ?_⟩
  refine wpAny_getItem_list_slice ht.isList hs pl pu .none (by simp) ?_ (by rw [List.size_toArray] <;> omega)
  rw [slicePick_cut, ← hlen]
  refine ⟨.ref s.heap.objs.size, _, I.laid (t' := s.toks) (o := .lst (cutV xs lo hi)) (fun b ob q => Heap.get?_push_of_some _ q) (Nat.le_refl _) ?_, rfl, q _ (I.hok.fresh (Nat.le_refl _))⟩
  exact ⟨Nat.le_trans (cutV_length xs lo hi) hz, _, 0, (r.drop (HT.sIx xs.length 0 lo)).take (HT.sIx xs.length xs.length hi - HT.sIx xs.length 0 lo), Heap.get?_push_size _ rfl⟩

def flatV : V → Bool
  | .non => true
  | .bl _ => true
  | .int _ => true
  | .str _ => true
  | _ => false
/-- == of flat values -/
def eqV : V → V → Bool
  | .non, .non => true
  | .bl a, .bl b => a == b
  | .bl a, .int b => (if a then 1 else 0) == b
  | .int a, .bl b => a == (if b then 1 else 0)
  | .int a, .int b => a == b
  | .str a, .str b => a == b
  | _, _ => false
theorem eqAt_V {A : Around} {s : Shared} {y x : V} {u v : Value} (ry : RelV y u) (rx : RelV x v) (fy : flatV y = true) (fx : flatV x = true) : SeqAt.EqAt A s u v (eqV y x) := by
  cases y with
  | non =>
    cases ry
    cases x with
    | non => cases rx; exact SeqAt.EqAt.same _
    | bl b => cases rx; exact SeqAt.EqAt.none_bool b
    | int b => obtain ⟨t, rfl⟩ := rx; exact SeqAt.EqAt.none_int b t
    | str b => obtain ⟨t, rfl⟩ := rx; exact SeqAt.EqAt.none_str b t
    | _ => exact absurd (show false = true from fx) Bool.false_ne_true
  | bl a =>
    cases ry
    cases x with
    | non => cases rx; exact SeqAt.EqAt.bool_none a
    | bl b => cases rx; exact SeqAt.EqAt.bool_bool a b
    | int b => obtain ⟨t, rfl⟩ := rx; exact SeqAt.EqAt.bool_int a b t
    | str b => obtain ⟨t, rfl⟩ := rx; exact SeqAt.EqAt.bool_str a b t
    | _ => exact absurd (show false = true from fx) Bool.false_ne_true
  | int a =>
    obtain ⟨t', rfl⟩ := ry
    cases x with
    | non => cases rx; exact SeqAt.EqAt.int_none a t'
    | bl b => cases rx; exact SeqAt.EqAt.int_bool a t' b
    | int b => obtain ⟨t, rfl⟩ := rx; exact SeqAt.EqAt.int_int a t' b t
    | str b => obtain ⟨t, rfl⟩ := rx; exact SeqAt.EqAt.int_str a t' b t
    | _ => exact absurd (show false = true from fx) Bool.false_ne_true
  | str a =>
    obtain ⟨t', rfl⟩ := ry
    cases x with
    | non => cases rx; exact SeqAt.EqAt.str_none a t'
    | bl b => cases rx; exact SeqAt.EqAt.str_bool a t' b
    | int b => obtain ⟨t, rfl⟩ := rx; exact SeqAt.EqAt.str_int a t' b t
    | str b => obtain ⟨t, rfl⟩ := rx; exact SeqAt.EqAt.str_str a t' b t
    | _ => exact absurd (show false = true from fx) Bool.false_ne_true
  | _ => exact absurd (show false = true from fy) Bool.false_ne_true
theorem call_len_seq : CallR X (.builtin "len") (fun xs H Q => ∃ p ys, xs = [.ref p] ∧ (SqL X.K H p ys ∨ SqT X.K H p ys) ∧ Q (.int ys.length) H) := by
  intro pins s σ H xs us Q I r h
  obtain ⟨p, ys, rfl, hq, q⟩ := h
  obtain ⟨u, rfl, rx⟩ := vals1 r
  cases rx
  have hn := line63
  rcases hq with hq | hq
  · obtain ⟨its, r', pl, hz⟩ := I.list hq
    have hlen := r'.length
    exact Calls.call_len_list pl.isList (by simp only [List.size_toArray] <;> omega) ⟨.int ys.length, H, I.tok _, ⟨s.toks + 1, by rw [List.size_toArray, hlen]⟩, q⟩
  · obtain ⟨its, r', pl, hz⟩ := I.tuple hq
    have hlen := r'.length
    exact len_tuple pl (by simp only [List.size_toArray] <;> omega) ⟨.int ys.length, H, I.tok _, ⟨s.toks + 1, by rw [List.size_toArray, hlen]⟩, q⟩
theorem CallR.or {f : Value} {r r' : List V → Hp → VK → Prop} (h : CallR X f r) (h' : CallR X f r') : CallR X f (fun xs H Q => r xs H Q ∨ r' xs H Q) := by
  intro pins s σ H xs us Q I rs q
  rcases q with q | q
  · exact h pins s σ H xs us Q I rs q
  · exact h' pins s σ H xs us Q I rs q
theorem call_list_of : CallR X (.type "list") (fun xs H Q => ∃ p ys, xs = [.ref p] ∧ (SqL X.K H p ys ∨ SqT X.K H p ys) ∧ ∀ l, H l = none → Q (.ref l) (upd H l (.lst ys))) := by
  intro pins s σ H xs us Q I r h
  obtain ⟨p, ys, rfl, hq, q⟩ := h
  obtain ⟨u, rfl, rx⟩ := vals1 r
  cases rx
  have fin : ∀ (its : List Value), Vals ys its → ys.length ≤ sizeLine → ∀ (h' : Heap) (c' : Nat), (∀ b o', s.heap.get? b = some o' → h'.get? b = some o') →
      h'.get? s.heap.objs.size = some { cls := .type "list", dict := none, data := .seq its.toArray c', slots := #[] } → EP X pins σ Q (.ref s.heap.objs.size) { s with heap := h' } := fun its r' hz h' c' kp e =>
    ⟨.ref s.heap.objs.size, _, I.laid (t' := s.toks) kp (Nat.le_refl _) (show ObjOk X.prog X.w _ h' _ (.lst ys) from ⟨hz, its, c', r', e⟩), rfl, q _ (I.hok.fresh (Nat.le_refl _))⟩
  rcases hq with hq | hq
  · obtain ⟨its, r', pl, hz⟩ := I.list hq
    have hlen := r'.length
    obtain ⟨o, ho, hc, n, hd⟩ := pl.isList
    exact call_list_seq p (.inl rfl) ho hc hd (fun h' c' kp e => fin its r' hz h' c' kp e) (by simp only [List.size_toArray] <;> omega)
  · obtain ⟨its, r', pl, hz⟩ := I.tuple hq
    have hlen := r'.length
    obtain ⟨o, ho, hc, n, hd⟩ := pl
    exact call_list_seq p (.inr rfl) ho hc hd (fun h' c' kp e => fin its r' hz h' c' kp e) (by simp only [List.size_toArray] <;> omega)
/-- the value is of that builtin type -/
def tyV (K : PySem.W.Frag) (T : String) (x : V) (H : Hp) : Prop := match x with
  | .str _ => T = "str"
  | .int _ => T = "int"
  | .ref p => (T = "list" ∧ ∃ xs, SqL K H p xs) ∨ (T = "tuple" ∧ ∃ o, K.lookup p = some o ∧ o.cls = .type "tuple" ∧ o.dict = none) ∨
      (T = "dict" ∧ ((∃ kvs, H p = some (.dK kvs)) ∨ ∃ kvs, H p = some (.dT kvs))) ∨ (T = "set" ∧ ∃ S n, H p = some (.set S n))
  | _ => False
theorem tyV_is {pins : List (Addr × Obj)} {σ : St} {H : Hp} {s : Shared} {T : String} {x : V} {v : Value} (I : Inv X pins σ H s) (r : RelV x v) (ty : tyV X.K T x H) :
    s.TypeIs v T ∧ ∀ a, v = .ref a → ∃ ob, s.heap.get? a = some ob ∧ ob.dict = none := by
  cases x with
  | str z =>
    obtain ⟨t, rfl⟩ := r
    cases (show T = "str" from ty)
    exact ⟨typeIs_str s z t, fun _ e => nomatch e⟩
  | int i =>
    obtain ⟨t, rfl⟩ := r
    cases (show T = "int" from ty)
    exact ⟨typeIs_int s i t, fun _ e => nomatch e⟩
  | ref p =>
    cases r
    rcases ty with ⟨rfl, xs, hq⟩ | ⟨rfl, o, hk, hc, hd⟩ | ⟨rfl, hk⟩ | ⟨rfl, S, n, hk⟩
    · obtain ⟨its, _, pl, _⟩ := I.list hq
      refine ⟨pl.isList.typeIs, fun a e => ?_⟩
      cases e
      obtain ⟨o, n, e, c, hd, _⟩ := pl
      exact ⟨o, e, hd⟩
    · refine ⟨⟨o, I.kIn p o hk, hc⟩, fun a e => ?_⟩
      cases e
      exact ⟨o, I.kIn _ o hk, hd⟩
    · have z : ∃ o, s.heap.get? p = some o ∧ o.ExactDict := by
        rcases hk with ⟨kvs, hk⟩ | ⟨kvs, hk⟩
        · obtain ⟨_, _, _, _, o, _, _, e, ex, _⟩ := I.hok p _ hk
          exact ⟨o, e, ex⟩
        · obtain ⟨_, _, _, _, o, _, _, e, ex, _⟩ := I.hok p _ hk
          exact ⟨o, e, ex⟩
      obtain ⟨o, e, ex⟩ := z
      refine ⟨⟨o, e, ex.1⟩, fun a e2 => ?_⟩
      cases e2
      exact ⟨o, e, ex.2.1⟩
    · obtain ⟨o, _, _, _, e, ex, _⟩ := I.hok p _ hk
      refine ⟨⟨o, e, ex.1⟩, fun a e2 => ?_⟩
      cases e2
      exact ⟨o, e, ex.2.1⟩
  | _ => exact False.elim ty
def tBM (K : PySem.W.Frag) (T : String) (r : V → List V → Hp → VK → Prop) (to : TE) (t : TA) : TE := fun σ H Q => to σ H fun x H1 => tyV K T x H1 ∧ t σ H1 fun xs H2 => r x xs H2 Q
variable {o e : Expr} {es : List Expr} {to : TE} {t : TA} {name : Str} {apos cpos : Pos} {T id : String} {r : V → List V → Hp → VK → Prop}
theorem pe_bm (pa : PlainAttrs T) (slot : Slot T name id) (hty : typeOf (.builtin id) = pure (.type "method_descriptor")) (hm : MtR X id r) (ho : PE X o to) (ha : PA X (e :: es) t)
    (hbase : attributeBase o name X.env (eval o X.env) = eval o X.env := by rfl)
    (hfew : ((backTo cpos (starEach (e :: es) X.env)).all (fun x => !x.1) && (backToKw cpos (keywordEach [] X.env)).all (fun x => x.1.isSome)
      && decide ((e :: es).length + ([] : List Keyword).length + (if ([] : List Keyword).isEmpty then 0 else 1) < 30)) = true := by rfl)
    (hline : (apos.endLine == cpos.line) = true := by rfl) (hs : starEach (e :: es) X.env = (false, eval e X.env) :: starEach es X.env := by rfl) (hplain : (backTo cpos (starEach es X.env)).any (·.1) = false := by rfl) :
    PE X (.Call (.Attribute o name apos) (e :: es) [] cpos) (tBM X.K T r to t) := by
  intro pins s σ H Q I h
  refine wpAny_Call_method_late hbase hfew hline rfl (thn (ho pins s σ H _ I h) fun v s1 ⟨x, H1, I1, r1, ty, q1⟩ => ?_)
  obtain ⟨h1, h2⟩ := tyV_is I1 r1 ty
  refine ⟨T, id, pa, slot, hty, h1, h2, ?_⟩
  have hA := ha cpos pins s1 σ H1 _ I1 q1
  rw [hs] at hA ⊢
  refine Calls.callWith_builtin (by show (false || (backTo cpos (starEach es X.env)).any (·.1)) = false; rw [hplain] <;> rfl) (Calls.evalArgs_plain ?_)
  exact thn hA fun us s2 ⟨vs, H2, I2, r2, q2⟩ => hm pins s2 σ H2 x vs v us Q I2 r1 r2 q2
/- xs.append(e), list.index on a module's tuple .. are MtR facts of 06m -/
end
end L2

namespace L2
open PySem PySem.Spec PyProof.Rows

def MtM (X : Cx) (id : String) (r : V → List V → Hp → VK → Prop) : Prop :=
  ∀ (pins : List (Addr × Obj)) (s : Shared) (σ : St) (H : Hp) (x : V) (xs : List V) (v : Value) (us : List Value) (Q : VK), Inv X pins σ H s → RelV x v → Vals xs us → r x xs H Q →
    wpAny (model X.prog X.w) X.A (call (.builtin id) (v :: us)) (EP X pins σ Q) X.xe s

theorem Vals.one : ∀ {x : V} {us : List Value}, Vals [x] us → ∃ u, us = [u] ∧ RelV x u
  | _, _, .cons r .nil => ⟨_, rfl, r⟩
theorem Vals.two : ∀ {x y : V} {us : List Value}, Vals [x, y] us → ∃ u v, us = [u, v] ∧ RelV x u ∧ RelV y v
  | _, _, _, .cons r (.cons q .nil) => ⟨_, _, rfl, r, q⟩
theorem Vals.zero : ∀ {us : List Value}, Vals [] us → us = []
  | _, .nil => rfl
theorem Vals.reverse {xs : List V} {us : List Value} (h : Vals xs us) : Vals xs.reverse us.reverse := by
  induction h with
  | nil => exact .nil
  | cons r t ih => rw [List.reverse_cons, List.reverse_cons]; exact Vals.append ih (.cons r .nil)
theorem Vals.rep {xs : List V} {us : List Value} (h : Vals xs us) : ∀ k : Nat, Vals (List.replicate k xs).flatten (List.replicate k us).flatten
  | 0 => .nil
  | k + 1 => by
    rw [List.replicate_succ, List.replicate_succ, List.flatten_cons, List.flatten_cons]
    exact Vals.append h (Vals.rep h k)
section
variable {X : Cx} {pins : List (Addr × Obj)} {σ : St} {H : Hp} {s : Shared} {l b : Addr} {xs ys zs : List V}

theorem Inv.lset {its its' : List Value} {n : Nat} {f : Array Value → Array Value} {t' : Nat} (I : Inv X pins σ H s) (hH : H l = some (.lst xs))
    (e : s.heap.get? l = some { cls := .type "list", data := .seq its.toArray n }) (hf : f its.toArray = its'.toArray) (hv : Vals ys its') (hz : ys.length ≤ sizeLine) :
    Inv X pins σ (upd H l (.lst ys)) { s with heap := s.heap.update l (Obj.mapSeq f), toks := t' } := by
  have q := PySem.IsL.update e f
  rw [hf] at q
  refine I.write (x := l) (e := l) (by rw [hH]; exact trivial) (.inl rfl) (fun b' u hb hu => (Heap.get?_update_other s.heap (Obj.mapSeq f) (Ne.symm hb)).trans hu) ⟨_, q⟩ ?_
  exact ⟨hz, its', _, hv, q⟩
theorem Inv.lnew {its : List Value} {t' : Nat} (I : Inv X pins σ H s) (hv : Vals ys its) (hz : ys.length ≤ sizeLine) :
    Inv X pins σ (upd H s.heap.objs.size (.lst ys)) { s with heap := s.heap.push { cls := .type "list", data := .seq its.toArray }, toks := t' } :=
  I.laid (fun _ _ q => Heap.get?_push_of_some _ q) (Nat.le_refl _) ⟨hz, its, 0, hv, Heap.get?_push_size _ rfl⟩
theorem Inv.fresh (I : Inv X pins σ H s) : H s.heap.objs.size = none := I.hok.fresh (Nat.le_refl _)
theorem Inv.lstM (I : Inv X pins σ H s) (hH : H l = some (.lst xs)) : xs.length ≤ sizeLine ∧ ∃ (its : List Value) (n : Nat), Vals xs its ∧ xs.length = its.length ∧ s.heap.get? l = some { cls := .type "list", data := .seq its.toArray n } := by
  obtain ⟨z, its, n, r, e⟩ := I.hok l _ hH
  exact ⟨z, its, n, r, r.length, e⟩

end

section
variable {X : Cx}

def rAppend : V → List V → Hp → VK → Prop := fun x vs H Q => ∃ l xs y, x = .ref l ∧ vs = [y] ∧ H l = some (.lst xs) ∧ xs.length < sizeLine ∧ Q .non (upd H l (.lst (xs ++ [y])))
theorem mt_append : MtM X "list.append" rAppend := by
  intro pins s σ H x vs v us Q I rx rv h
  obtain ⟨l, xs, y, rfl, rfl, hH, hz, q⟩ := h
  cases rx
  obtain ⟨u, rfl, ru⟩ := rv.one
  obtain ⟨z, its, n, r, hl, e⟩ := I.lstM hH
  refine call_meets F.slot_list_append ⟨_, e, rfl⟩ F.entry_list_append (F.args_list_append_2 _ _) (PySem.list_append l its.toArray n u (by rw [List.size_toArray]; omega)) ⟨e, ?_⟩
  refine ⟨.non, _, I.lset (its' := its ++ [u]) hH e (by simp) (r.append (.cons ru .nil)) ?_, rfl, q⟩
  rw [List.length_append, List.length_singleton]
  omega

def rCat : R2 := fun x y H Q => ∃ l b xs zs, x = .ref l ∧ y = .ref b ∧ H l = some (.lst xs) ∧ H b = some (.lst zs) ∧ xs.length + zs.length ≤ sizeLine ∧ ∀ p, H p = none → Q (.ref p) (upd H p (.lst (xs ++ zs)))
theorem op_cat : OpR X (binaryOp .Add) rCat := by
  intro pins s σ H x y v u Q I rx ry h
  obtain ⟨l, b, xs, zs, rfl, rfl, hH, hB, hz, q⟩ := h
  cases rx
  cases ry
  obtain ⟨z, its, n, r, hl, e⟩ := I.lstM hH
  obtain ⟨z2, its2, n2, r2, hl2, e2⟩ := I.lstM hB
  refine PySem.P.add_list e e2 ?_ (by rw [List.size_toArray, List.size_toArray]; omega)
  have ea : its.toArray ++ its2.toArray = (its ++ its2).toArray := by simp
  rw [ea]
  exact ⟨.ref _, _, I.lnew (t' := s.toks) (r.append r2) (by rw [List.length_append]; omega), rfl, q _ I.fresh⟩
end

section
variable {prog : Program} {w : World} {A : Around} {E : Value → Shared → Prop} {s : Shared}
end

section
variable {X : Cx}
end
end L2

namespace Att
open PySem PySem.W PySem.Calls PyProof.Rows

theorem ints_of_wellAll {P : Params} {h : Heap} : ∀ (ns : List Int) (vs : List Value), WellAll P h vs (ns.map WData.int) → IntsAre vs ns := by
  intro ns
  induction ns with
  | nil =>
    intro vs w
    rw [List.map_nil] at w
    cases w
    exact .nil
  | cons n ns ih =>
    intro vs w
    rw [List.map_cons] at w
    cases w with
    | cons a b =>
      cases a
      exact .cons _ _ (ih _ b)

theorem script_of {l : OpenLaw} {n : Nat} (hn : l.most = some n) {P : Params} {h : Heap} {args : List WData} {vals : List Value}
    (hpre : l.row.toRowW.claim.pre args = true) (hwl : WellAll P h vals args) :
    ∃ a vs ns, vals = [Value.ref a] ∧ args = [WData.list (ns.map WData.int)] ∧ h.get? a = some { cls := .type "list", data := .seq vs.toArray } ∧ IntsAre vs ns ∧ ns.length ≤ n := by
  have hsh : WShape.hasAll [] args [.list .int] = true := (pre_splitW hpre).1
  have hc : l.pre.holds [] { args := args } = true := (pre_splitW hpre).2
  obtain ⟨d, r, rfl, h1, h2⟩ := hasAllW_cons hsh
  obtain rfl := hasAllW_nil h2
  obtain ⟨xs, rfl, h3⟩ := hasW_list h1
  obtain ⟨ns, rfl⟩ := items_int h3
  have hlen : ns.length ≤ n := by
    unfold OpenLaw.pre at hc
    have h4 : (WTm.not (.lt (.lit (.int (n : Int))) (.len (.arg 0)))).holds [] { args := [.list (ns.map .int)] } = true := by
      have h4 := (holds_andW hc).1
      rw [hn] at h4
      exact h4
    have h5 := condW_of h4 (w_not (w_lt w_lit (w_len_list (w_arg rfl))))
    rw [List.length_map] at h5
    refine Nat.le_of_not_lt fun q => ?_
    have q' : (n : Int) < ((ns.length : Nat) : Int) := by omega
    first
      | (rw [decide_eq_true q'] at h5; exact absurd h5 (by decide))
      | (simp at h5; omega)
  cases hwl with
  | cons w1 w2 =>
    cases w2
    cases w1 with
    | list ho hall => exact ⟨_, _, ns, rfl, rfl, ho, ints_of_wellAll ns _ hall, hlen⟩

theorem post_true (l : OpenLaw) (args : List WData) : l.row.toRowW.claim.post args (.bool true) args = true :=
  postW_of (r := l.row.toRowW) (X := (true == true))
    (show WShape.has [] (.bool true) .bool = true by first | rfl | decide | simp [WShape.has, WShape.arms, WShape.armsAll])
    (show (WTm.eq .res (.lit (.bool true))).value [] { args := args, res := some (.bool true), after := args } = some (.bool (true == true)) from w_eq_bool (w_res rfl) w_lit) rfl

/-- the same from a codeAny of the CALL (for a layer whose function contracts speak of calls) -/
theorem attach_call {l : OpenLaw} {n : Nat} {q : Program} {loose : List Str} {XP : (Str → Option Value) → Heap → Prop} {YP : World → Heap → Prop} {d : DefRec}
    (hn : l.most = some n) (hdf : d.params.defaults = [])
    (call : ∀ (w : World) (s₀ s₁ : Shared) (mg mb : Str → Option Value) (fa : Addr) (o : Obj) (pm cd doc : Value) (a : Addr) (vs : List Value) (ns : List Int),
      Ground q loose [] XP w s₀ mg mb s₁.heap → YP w s₁.heap →
      s₁.heap.get? fa = some o → o.data = .func (docDef d.name d.params d.body d.scope pm cd doc) → s₁.heap.CodeRec cd d.name → mg d.name = some (.ref fa) →
      s₁.heap.get? a = some { cls := .type "list", data := .seq vs.toArray } → IntsAre vs ns → ns.length ≤ n → s₁.gens = #[] →
      codeAny (model l.prog w) callerA (.call (.ref fa) ⟨[.ref a], []⟩) (fun r s' => r = .ok (.ret (.bool true)) ∧ OldK s₁.heap s'.heap ∧ s'.os = s₁.os ∧ AllBare s'.gens) s₁) :
    WalkO q loose XP YP l.row.toRowW d [] (fun f vs => PySem.call f vs) := by
  intro w s₀ s₁ mg mb G Y fa o pm cd doc dV kV ho hd hcd hD hmg hg args vals as hpre hlay hrd hwl hlo
  obtain rfl : dV = .none := Dflts.none hD hdf
  obtain rfl : kV = .none := Dflts.noKw hD
  obtain ⟨a, vs, ns, rfl, rfl, hobj, hints, hlen⟩ := script_of hn hpre hwl
  refine enter_call (codeAny_mono (call w s₀ s₁ mg mb fa o pm cd doc a vs ns G Y ho (fd_plain hd) hcd hmg hobj hints hlen hg) fun r s' hq => ?_)
  obtain ⟨rfl, h2, h3, h4⟩ := hq
  exact ⟨.inl ⟨.bool true, .bool true, [], rfl, fun _ => rfl, .bool true, post_true l _, fun _ => ⟨List.Pairwise.nil, fun _ hm => (nomatch hm)⟩⟩, h2, h3, h4⟩

section
variable {prog : Program} {w : World} {A : Around} {E : Value → Shared → Prop} {s : Shared} {K : Frag}

end
end Att

namespace L2
open PySem PySem.Spec PyProof.Rows

theorem vals_ints : ∀ {vs : List Value} {ns : List Int}, IntsAre vs ns → Vals (ns.map V.int) vs
  | _, _, .nil => .nil
  | _, _, .cons n t h => .cons ⟨t, rfl⟩ (vals_ints h)

/-- nothing is tracked but the script, known to the object (or it is an object of the module) -/
def Only (H : Hp) : Prop := ∀ b, H b = none ∨ ∃ o xs, H b = some (.frz o (.lst xs))

end L2

namespace L2
open PySem PySem.Spec PyProof.Rows

end L2

namespace L2
open PySem PySem.Spec PyProof.Rows

/-- the j-th statement of a class's body -/
def inClass (s : Stmt) (j : Nat) : Stmt := match s with
  | .ClassDef _ _ _ body _ _ _ _ _ _ _ => body.getD j (.Pass ⟨0, 0, 0, 0⟩)
  | _ => .Pass ⟨0, 0, 0, 0⟩
def defArgs (s : Stmt) : Arguments := match s with
  | .FunctionDef _ a _ _ _ _ _ _ _ _ => a
  | _ => { posonlyargs := [], args := [], vararg := none, kwonlyargs := [], kw_defaults := [], kwarg := none, defaults := [] }
def defBody (s : Stmt) : List Stmt := match s with
  | .FunctionDef _ _ b _ _ _ _ _ _ _ => b
  | _ => []
def defScope (s : Stmt) : Scope := match s with
  | .FunctionDef _ _ _ _ _ _ sc _ _ _ => sc
  | _ => { kind := .function, names := [], isGenerator := false, isCoroutine := false }

abbrev CX0 : CXT := fun _ _ _ _ _ _ => False
abbrev E0 : XK := fun _ _ _ => False
theorem pass0 {X : Cx} : Passes CX0 X E0 := fun _ _ _ _ _ _ _ h => h.elim

structure Fun (K : PySem.W.Frag) (x qual : Str) (st : Stmt) (f : Addr) (fd : FuncData) : Prop where
  ex : ∃ (oc : Value) (od : Option Addr) (kV doc pm : Value) (an : Option Addr) (cdv ct : Value) (osl : Array (Option Value)),
    fd = PySem.W.fnOf x qual (defArgs st) (defBody st) (defScope st) .none kV doc pm an cdv ct ∧ K.lookup f = some ⟨oc, od, .func fd, osl⟩ ∧ PySem.W.codeIn K cdv qual = true
  kp : PySem.W.keepIn K (.ref f) = true
section
variable {P : Program} {w : World} {K : PySem.W.Frag} {mg : Str → Option Value} {base : Heap}
/-- THE RULE for a def: its body as a term of rules, and the reading of that term -/
theorem Fun.ok {x qual : Str} {st : Stmt} {f : Addr} {fd : FuncData} {N ps : List Str} {k : Nat} {sp : Sp} (F : Fun K x qual st f fd) (S : FnScope N ps (defScope st)) (len : ∀ vs H Q E, sp vs H Q E → vs.length = ps.length)
    (hbody : ∀ (cdv : Value) (A : Around) (outer : List Env) (s : Shared) (H : Hp) (vs : List V) (Q : VK) (E : XK), Room k (A.deeper (envOfC qual (defScope st) s.heap.objs.size f cdv)) → sp vs H Q E →
      ∃ t, PSs (cxOf CX0 P w K mg base N qual (defScope st) f cdv A outer s H E).nox (defBody st) t ∧ t { nx := fun _ H' => Q .non H', rt := Q } (start N vs) H) : FnOk P w K mg base CX0 (k + 1) f fd ps sp := by
  obtain ⟨oc, od, kV, doc, pm, an, cdv, ct, osl, rfl, lk, hcd⟩ := F.ex
  refine fn_of lk hcd S len fun A outer s H vs Q E hr hsp => ?_
  obtain ⟨t, h, q⟩ := hbody cdv A outer s H vs Q E hr hsp
  exact ⟨t, h.nox, q⟩
/-- how its arguments bind (no defaults): h is «fun _ _ _ _ _ _ us hl => match us, hl with | [_, _], _ => rfl», one _ a parameter -/
theorem Fun.binds {x qual : Str} {st : Stmt} {f : Addr} {fd : FuncData} {ps : List Str} (F : Fun K x qual st f fd)
    (h : ∀ (kV doc pm : Value) (an : Option Addr) (cdv ct : Value) (us : List Value), us.length = ps.length → bindArgs (PySem.W.fnOf x qual (defArgs st) (defBody st) (defScope st) .none kV doc pm an cdv ct) ⟨us, []⟩ = pure (ps.zip us)) : Binds K fd ps [] := by
  obtain ⟨oc, od, kV, doc, pm, an, cdv, ct, osl, rfl, lk, hcd⟩ := F.ex
  exact .all (h kV doc pm an cdv ct)
theorem fun_mk {x qual : Str} {st : Stmt} {f : Addr} {oc : Value} {od an : Option Addr} {osl : Array (Option Value)} {kV doc pm cdv ct : Value} (l : K.lookup f = some ⟨oc, od, .func (PySem.W.fnOf x qual (defArgs st) (defBody st) (defScope st) .none kV doc pm an cdv ct), osl⟩)
    (c : PySem.W.codeIn K cdv qual = true) (k : PySem.W.keepIn K (.ref f) = true) : Fun K x qual st f (PySem.W.fnOf x qual (defArgs st) (defBody st) (defScope st) .none kV doc pm an cdv ct) := ⟨⟨oc, od, kV, doc, pm, an, cdv, ct, osl, rfl, l, c⟩, k⟩
end
theorem hu_of {A : Around} {k : Nat} (hr : Room k A) : A.units + 1 < cLine := Nat.lt_of_le_of_lt (Nat.add_le_add_left (by decide : 1 ≤ 64) _) hr.units
theorem small1000 {n : Nat} (h : n ≤ 1000) : n < sizeLine := Nat.lt_of_le_of_lt h (by decide)

section
variable {X : Cx}
theorem pv (i : Nat) {x : Str} {pos : Pos} (hN : X.N[i]? = some x := by rfl) (hv : Vis X.env.scope x := by first | exact Or.inl rfl | exact Or.inr (Or.inl rfl) | exact Or.inr (Or.inr rfl)) (hd : (x == ("__debug__" : Str)) = false := by decide)
    (hcd : (x == ("__classdict__" : Str)) = false := by decide) : PE X (.Name x pos) (tVar i) := pe_var hN hv hd hcd
end

theorem iteF {A B : Prop} (h : B) : if false = true then A else B := by
  rw [if_neg Bool.false_ne_true]
  exact h
theorem iteT {A B : Prop} (h : A) : if true = true then A else B := by
  rw [if_pos rfl]
  exact h
/-- all that was tracked is as it was -/
def Same (H H' : Hp) : Prop := ∀ b o, H b = some o → H' b = some o
theorem Same.refl (H : Hp) : Same H H := fun _ _ h => h
theorem Same.trans {H H1 H2 : Hp} (a : Same H H1) (b : Same H1 H2) : Same H H2 := fun c o h => b c o (a c o h)
theorem Same.free {H H' : Hp} (e : Same H H') {l : Addr} (h : H' l = Option.none) : H l = Option.none := by
  cases q : H l with
  | none => rfl
  | some o =>
    rw [e l o q] at h
    cases h
theorem Same.seq {K : PySem.W.Frag} {H H' : Hp} {a : Addr} {xs : List V} (e : Same H H') (h : SqL K H a xs) : SqL K H' a xs := by
  rcases h with (h | ⟨o, h⟩) | h
  · exact .inl (.inl (e _ _ h))
  · exact .inl (.inr ⟨o, e _ _ h⟩)
  · exact .inr h

end L2

set_option Elab.async false
set_option linter.all false
set_option maxRecDepth 100000
namespace L2
open PySem PySem.Spec PyProof.Rows

/-- the captured names' values at a turn's start; the block's own names are not bound -/
def captS (cp : List (Option Nat)) (σ : St) : St := cp.map fun o => match o with
  | none => none
  | some j => (σ[j]?).getD none
structure CompSc (esc sc : Scope) (XN N : List Str) (cp : List (Option Nat)) : Prop where
  kind : sc.kind = .function
  nocell : ∀ y ∈ sc.names, y.2 ≠ .cell
  names : ∀ y ∈ sc.names, y.2 = .local → sc.names.lookup y.1 = some .local
  free : ∀ y ∈ sc.names, y.2 = .free → esc.names.lookup y.1 = some .cell ∨ esc.names.lookup y.1 = some .free
  len : cp.length = N.length
  nd : N.Nodup
  cap : ((N.zip cp).all fun p => match p.2 with
    | none => true
    | some j => decide (XN[j]? = some p.1) && decide (sc.names.lookup p.1 = some .free)) = true

theorem CompSc.capt {esc sc : Scope} {XN N : List Str} {cp : List (Option Nat)} (S : CompSc esc sc XN N cp) {i j : Nat} {x : Str} (hN : N[i]? = some x) (hc : cp[i]? = some (some j)) :
    XN[j]? = some x ∧ sc.names.lookup x = some .free := by
  have hm : (x, some j) ∈ N.zip cp := by
    have e : (N.zip cp)[i]? = some (x, some j) := by
      rw [List.getElem?_zip_eq_some]
      exact ⟨hN, hc⟩
    exact List.mem_of_getElem? e
  have q := List.all_eq_true.mp S.cap _ hm
  simp only [Bool.and_eq_true, decide_eq_true_eq] at q
  exact q

theorem captS_get {cp : List (Option Nat)} {σ : St} {i : Nat} {v : V} (h : (captS cp σ)[i]? = some (some v)) : ∃ j, cp[i]? = some (some j) ∧ σ[j]? = some (some v) := by
  unfold captS at h
  rw [List.getElem?_map] at h
  cases e : cp[i]? with
  | none => rw [e] at h; cases h
  | some o =>
    rw [e] at h
    cases o with
    | none => cases h
    | some j =>
      refine ⟨j, rfl, ?_⟩
      simp only [Option.map_some, Option.some.injEq] at h
      cases e2 : σ[j]? with
      | none => rw [e2] at h; cases h
      | some w => rw [e2] at h; simpa using h

theorem forIn_yield_fold {α β : Type} {f : α → β → Sem (ForInStep β)} (k : α → β → β) : ∀ (l : List α) (c : β), (∀ x ∈ l, ∀ c, f x c = pure (.yield (k x c))) → forIn l c f = (pure (l.foldl (fun c x => k x c) c) : Sem β)
  | [], c, _ => rfl
  | x :: l, c, h => by
    rw [List.forIn_cons, h x List.mem_cons_self c]
    show forIn l (k x c) f = _
    exact forIn_yield_fold k l (k x c) fun y hy c => h y (List.mem_cons_of_mem _ hy) c

/-- what the cells of the block are -/
structure ClOk (env : Env) (sc : Scope) (cl : List (Str × Addr)) : Prop where
  clos : closureFor sc env = pure cl
  sub : ∀ x c, cl.lookup x = some c → env.cells.lookup x = some c
  has : ∀ y ∈ sc.names, y.2 = .free → ∃ c, cl.lookup y.1 = some c

theorem closure_ok {env : Env} {sc : Scope} (h : ∀ y ∈ sc.names, y.2 = .free → ∃ c, env.cells.lookup y.1 = some c) : ∃ cl, ClOk env sc cl := by
  let k : Str × NameKind → List (Str × Addr) → List (Str × Addr) := fun y c => if y.2 = .free then (y.1, (env.cells.lookup y.1).getD 0) :: c else c
  have e : closureFor sc env = pure (sc.names.foldl (fun c x => k x c) []) := by
    simp only [closureFor]
    rw [forIn_yield_fold k sc.names [] (fun x hx c => by
      obtain ⟨n, kd⟩ := x
      by_cases hk : kd = .free
      · subst hk
        obtain ⟨a, ha⟩ := h _ hx rfl
        have hca : cellOf env n = pure a := by unfold cellOf; rw [show env.cells.lookup n = some a from ha]
        have hkk : k (n, NameKind.free) c = (n, a) :: c := by
          show (if NameKind.free = .free then (n, (env.cells.lookup n).getD 0) :: c else c) = _
          rw [if_pos rfl, show env.cells.lookup n = some a from ha]; rfl
        rw [hkk]
        simp only [beq_self_eq_true, if_true, hca]
        rfl
      · have hb : (kd == NameKind.free) = false := by simpa using hk
        have hkk : k (n, kd) c = c := by
          show (if kd = .free then _ else c) = _
          rw [if_neg hk]
        rw [hkk]
        simp only [hb, Bool.false_eq_true, if_false])]
    rfl
  have go : ∀ (l : List (Str × NameKind)) (acc : List (Str × Addr)), (∀ y ∈ l, y.2 = .free → ∃ c, env.cells.lookup y.1 = some c) → (∀ x c, acc.lookup x = some c → env.cells.lookup x = some c) →
      (∀ x c, (l.foldl (fun c x => k x c) acc).lookup x = some c → env.cells.lookup x = some c) ∧ (∀ y ∈ l, y.2 = .free → ∃ c, (l.foldl (fun c x => k x c) acc).lookup y.1 = some c) ∧
      ∀ x c, acc.lookup x = some c → ∃ c, (l.foldl (fun c x => k x c) acc).lookup x = some c := by
    intro l
    induction l with
    | nil => intro acc _ h2; exact ⟨h2, fun y hy => (nomatch hy), fun x c e => ⟨c, e⟩⟩
    | cons y l ih =>
      intro acc h1 h2
      have h1' : ∀ z ∈ l, z.2 = .free → ∃ c, env.cells.lookup z.1 = some c := fun z hz => h1 z (List.mem_cons_of_mem _ hz)
      by_cases hk : y.2 = .free
      · obtain ⟨a, ha⟩ := h1 y List.mem_cons_self hk
        have ek : k y acc = (y.1, a) :: acc := by show (if y.2 = .free then _ else _) = _; rw [if_pos hk, ha]; rfl
        have h2' : ∀ x c, ((y.1, a) :: acc).lookup x = some c → env.cells.lookup x = some c := fun x c e => by
          rw [List.lookup_cons] at e
          cases hx : x == y.1 with
          | true => rw [hx] at e; cases e; rw [eq_of_beq hx]; exact ha
          | false => rw [hx] at e; exact h2 x c e
        obtain ⟨p, q, r⟩ := ih ((y.1, a) :: acc) h1' h2'
        rw [List.foldl_cons, ek]
        refine ⟨p, fun z hz hf => ?_, fun x c e => ?_⟩
        · rcases List.mem_cons.mp hz with e | hz
          · subst e; exact r z.1 a (by simp [List.lookup_cons])
          · exact q z hz hf
        · cases hx : x == y.1 with
          | true => exact r x a (by simp [List.lookup_cons, hx])
          | false => exact r x c (by simp [List.lookup_cons, hx, e])
      · have ek : k y acc = acc := by show (if y.2 = .free then _ else _) = _; rw [if_neg hk]
        obtain ⟨p, q, r⟩ := ih acc h1' h2
        rw [List.foldl_cons, ek]
        refine ⟨p, fun z hz hf => ?_, r⟩
        rcases List.mem_cons.mp hz with e | hz
        · subst e; exact absurd hf hk
        · exact q z hz hf
  obtain ⟨p, q, _⟩ := go sc.names [] h (fun x c e => by cases e)
  exact ⟨_, e, p, q⟩

theorem relabel_free {env : Env} : ∀ {names : List (Str × NameKind)} {x : Str}, names.lookup x = some .free →
    ((names.map fun (n, k) => if (k == NameKind.free && env.scope.kind == .function && env.kindOf n == some .cell) then (n, NameKind.cell) else (n, k)).lookup x = some .cell ∨
     (names.map fun (n, k) => if (k == NameKind.free && env.scope.kind == .function && env.kindOf n == some .cell) then (n, NameKind.cell) else (n, k)).lookup x = some .free)
  | [], _, h => by simp at h
  | (n, k) :: r, x, h => by
    have ih := @relabel_free env r x
    show List.lookup x ((if (k == NameKind.free && env.scope.kind == .function && env.kindOf n == some .cell) = true then (n, NameKind.cell) else (n, k)) :: _) = _ ∨ List.lookup x ((if (k == NameKind.free && env.scope.kind == .function && env.kindOf n == some .cell) = true then (n, NameKind.cell) else (n, k)) :: _) = _
    cases hx : x == n with
    | true =>
      simp only [List.lookup_cons, hx] at h
      cases h
      by_cases hc : (NameKind.free == NameKind.free && env.scope.kind == .function && env.kindOf n == some .cell) = true
      · rw [if_pos hc]; left; simp [List.lookup_cons, hx]
      · rw [if_neg hc]; right; simp [List.lookup_cons, hx]
    | false =>
      simp only [List.lookup_cons, hx] at h
      by_cases hc : (k == NameKind.free && env.scope.kind == .function && env.kindOf n == some .cell) = true
      · rw [if_pos hc]; simp only [List.lookup_cons, hx]; exact ih h
      · rw [if_neg hc]; simp only [List.lookup_cons, hx]; exact ih h
theorem relabel_inv {env : Env} {names : List (Str × NameKind)} {x : Str} (hn : ∀ y ∈ names, y.2 ≠ .cell)
    (h : (names.map fun (n, k) => if (k == NameKind.free && env.scope.kind == .function && env.kindOf n == some .cell) then (n, NameKind.cell) else (n, k)).lookup x = some .cell ∨
     (names.map fun (n, k) => if (k == NameKind.free && env.scope.kind == .function && env.kindOf n == some .cell) then (n, NameKind.cell) else (n, k)).lookup x = some .free) : ∃ y ∈ names, y.1 = x ∧ y.2 = .free := by
  have hm : ∃ kd, (kd = .cell ∨ kd = .free) ∧ (x, kd) ∈ (names.map fun (n, k) => if (k == NameKind.free && env.scope.kind == .function && env.kindOf n == some .cell) then (n, NameKind.cell) else (n, k)) := by
    rcases h with h | h
    · exact ⟨_, .inl rfl, PySem.mem_of_lookup h⟩
    · exact ⟨_, .inr rfl, PySem.mem_of_lookup h⟩
  obtain ⟨kd, hk, hm⟩ := hm
  obtain ⟨⟨n, k⟩, hy, e⟩ := List.mem_map.mp hm
  have e' : (if (k == NameKind.free && env.scope.kind == .function && env.kindOf n == some .cell) = true then (n, NameKind.cell) else (n, k)) = (x, kd) := e
  by_cases hc : (k == NameKind.free && env.scope.kind == .function && env.kindOf n == some .cell) = true
  · rw [if_pos hc] at e'
    cases e'
    simp only [Bool.and_eq_true, beq_iff_eq] at hc
    exact ⟨_, hy, rfl, hc.1.1⟩
  · rw [if_neg hc] at e'
    cases e'
    rcases hk with z | z
    · exact absurd z (hn _ hy)
    · exact ⟨_, hy, rfl, z⟩

structure CompPt where
  cl : List (Str × Addr)
  C : Addr
  D : Addr
  s : Shared
  H : Hp
  fp : List Addr
  pins : List (Addr × Obj)
abbrev cxC (X : Cx) (sc : Scope) (N : List Str) (z : CompPt) : Cx :=
  { X with N := N, s₀ := z.s, H₀ := z.H, env := compEnvC sc z.cl z.C X.env, outer := X.stack, ex := z.D :: z.fp, fn := fun _ => false, pn := X.pn ++ z.pins, xe := fun _ _ => False }

/-- what a target sets -/
def Sets (g : TG) (Sg : List Nat) : Prop := ∀ v σ H Q, g v σ H Q → g v σ H fun σ2 H2 => Q σ2 H2 ∧ σ2.length = σ.length ∧ ∀ i, i ∉ Sg → σ2[i]? = σ[i]?
theorem sets_name (k : Nat) : Sets (gName k) [k] := fun v σ H Q h => ⟨h, by simp, fun i hi => by
  rw [List.getElem?_set_ne]
  intro e; exact hi (by simp [e])⟩
theorem sets_two (K : PySem.W.Frag) (n k l : Nat) : Sets (gTup K n (gCons (gName k) (gCons (gName l) gNil))) [k, l] := by
  intro v σ H Q h
  obtain ⟨a, xs, e, hq, hn, v1, r1, e1, v2, r2, e2, e3, q⟩ := h
  refine ⟨a, xs, e, hq, hn, v1, r1, e1, v2, r2, e2, e3, q, by simp, fun i hi => ?_⟩
  rw [List.getElem?_set_ne, List.getElem?_set_ne]
  · intro e; exact hi (by simp [e])
  · intro e; exact hi (by simp [e])

/-- the tests of a comprehension -/
def PIf (X : Cx) (ifs : List Expr) (t : TT) : Prop :=
  ∀ (pins : List (Addr × Obj)) (s : Shared) (σ : St) (H : Hp) (Q : Bool → Hp → Prop), Inv X pins σ H s → t σ H Q →
    wpAny (model X.prog X.w) X.A (forIn ifs true fun c r => if r = true then do let ok ← isTrue c X.env (eval c X.env); pure (ForInStep.yield ok) else pure (ForInStep.yield r)) (TP X pins σ Q) X.xe s
def tYes : TT := fun _ H Q => Q true H
theorem pif_nil {X : Cx} : PIf X [] tYes := fun _ _ _ H _ I h => wpAny_tests_nil ⟨H, I, h⟩
theorem pif_one {X : Cx} {c : Expr} {t : TT} (h : PT X c t) : PIf X [c] t := fun pins s σ H Q I hw => wpAny_tests_one (h pins s σ H Q I hw)

section
variable {prog : Program} {w : World} {A : Around} {R : Result → Shared → Prop} {s : Shared}
theorem codeAny_compLoop_own {elt target iter : Expr} {ifs : List Expr} {scope : Scope} {pos : Pos} {it acc : Value} {env : Env} (I : Nat → Shared → Prop)
    (turn : ∀ n s, I n s → wpAny (model prog w) A (pyNext it) (fun r s₁ => match r with
      | none => R (.ok .next) s₁
      | some v => wpAny (model prog w) A (letOwnedTupleGo target it v) (fun _ s₁' => wpAny (model prog w) A (assign target env v) (fun _ s₂ =>
          wpAny (model prog w) A (forIn ifs true fun c r => if r = true then do let ok ← isTrue c env (eval c env); pure (ForInStep.yield ok) else pure (ForInStep.yield r)) (fun ok s₃ =>
            if ok = true then wpAny (model prog w) A (eval elt env) (fun x s₄ =>
              wpAny (model prog w) A (call (.builtin "list.append") [acc, x]) (fun _ s₅ => ∃ m, m < n ∧ I m s₅) (fun _ _ => False) s₄) (fun _ _ => False) s₃
            else ∃ m, m < n ∧ I m s₃) (fun _ _ => False) s₂) (fun _ _ => False) s₁') (fun _ _ => False) s₁) (fun _ _ => False) s)
    (n : Nat) (h : I n s) :
    codeAny (model prog w) A (.compLoop (.ListComp elt [⟨target, iter, ifs, 0⟩] scope pos) 0 it acc env) R s := by
  refine codeAny_loop rfl I (fun n s hI => ?_) n h
  show wpAny _ A ((compTurn (.ListComp elt [⟨target, iter, ifs, 0⟩] scope pos) 0 it acc env).onRaise (fun x => do noteFrame x env; theTreesLotGoes x)) _ _ s
  refine wpAny_noted ?_
  rw [compTurn_list]
  refine wpAny_bind (wpAny_standAt (wpAny_bind (wpAny_mono (turn n s hI) (fun r s₁ h₁ => ?_) fun _ _ h' => h'.elim)))
  cases r with
  | none => exact wpAny_pure h₁
  | some v =>
    refine wpAny_bind (wpAny_mono h₁ (fun _ s₁' h₁' => ?_) fun _ _ h' => h'.elim)
    refine wpAny_bind (wpAny_mono h₁' (fun _ s₂ h₂ => wpAny_bind (wpAny_mono h₂ (fun ok s₃ h₃ => ?_) fun _ _ h' => h'.elim)) fun _ _ h' => h'.elim)
    cases ok with
    | false => exact wpAny_pure ⟨rfl, h₃⟩
    | true =>
      exact wpAny_bind (wpAny_bind (wpAny_mono h₃ (fun x s₄ h₄ => wpAny_bind (wpAny_mono h₄ (fun _ s₅ h₅ => wpAny_pure (wpAny_pure ⟨rfl, h₅⟩)) fun _ _ h' => h'.elim)) fun _ _ h' => h'.elim))
end
end L2

set_option Elab.async false
set_option linter.all false
set_option maxRecDepth 100000
namespace L2
open PySem PySem.Spec PyProof.Rows

/-- the object of the list that grows -/
def accObj (its : List Value) (n : Nat) : Obj := { cls := .type "list", data := .seq its.toArray n }

/-- the block's start -/
theorem comp_start {X : Cx} {sc : Scope} {N : List Str} {cp : List (Option Nat)} {pins : List (Addr × Obj)} {σ : St} {H : Hp} {s : Shared} {fp : List Addr} {cl : List (Str × Addr)} {h4 : Heap} {tk : Nat} {m : Str → Option Value}
    (S : CompSc X.env.scope sc X.N N cp) (I : Inv X pins σ H s) (hf : ∀ b ∈ fp, FpOk X pins H b) (hfo : ∀ b ∈ fp, ∃ o, s.heap.get? b = some o) (K : ClOk X.env sc cl)
    (hns : h4.Ns (s.heap.objs.size + 1) m) (hsb : ∀ b o, b ≠ s.heap.objs.size + 1 → (s.heap.push (accObj [] 0)).get? b = some o → h4.get? b = some o) :
    Inv (cxC X sc N ⟨cl, s.heap.objs.size + 1, s.heap.objs.size, { s with heap := s.heap.push (accObj [] 0) }, H, fp, pins⟩) [(s.heap.objs.size, accObj [] 0)] (captS cp σ) H { s with heap := h4, toks := tk } := by
  have I3 : Inv X pins σ H { s with heap := s.heap.push (accObj [] 0) } := I.kept (t' := s.toks) fun b o e => Heap.get?_push_of_some _ e
  have up : ∀ b o, (s.heap.push (accObj [] 0)).get? b = some o → b < s.heap.objs.size + 1 := fun b o e => by
    have := Heap.lt_size e
    rwa [Heap.size_push] at this
  have old : ∀ b o, (s.heap.push (accObj [] 0)).get? b = some o → h4.get? b = some o := fun b o e => hsb b o (Nat.ne_of_lt (up b o e)) e
  have cells : ∀ x c, X.env.cells.lookup x = some c → c < s.heap.objs.size := fun x c e => by
    obtain ⟨v, q⟩ := I.cell x c e
    exact q.lt
  have ok : (cxC X sc N ⟨cl, s.heap.objs.size + 1, s.heap.objs.size, { s with heap := s.heap.push (accObj [] 0) }, H, fp, pins⟩).Ok := by
    refine ⟨I3.ok.mod, S.kind, I3.ok.glob, I3.ok.blt, by show (s.heap.push (accObj [] 0)).objs.size ≤ _; rw [Heap.size_push]; exact Nat.le_refl _, fun x y c h1 h2 => I3.ok.inj x y c (K.sub x c h1) (K.sub y c h2), fun x hx => ?_, fun x c h1 _ => (by cases h1), I3.ok.hd, I3.ok.frames, .inl rfl,
      fun b hb => ?_, I3.bs, Nat.le_trans I3.ok.bsz I3.sz, fun b o e hb => ?_, fun b hb hs => ?_, I3.stack, I3.stkFree⟩
    · obtain ⟨y, hy, e, hf⟩ := relabel_inv S.nocell hx
      obtain ⟨c, hc⟩ := K.has y hy hf
      exact ⟨c, by rw [← e]; exact hc⟩
    · have hb' : b = s.heap.objs.size ∨ b ∈ fp := by simpa using hb
      rcases hb' with rfl | hb'
      · exact ⟨Nat.ne_of_lt (Nat.lt_succ_self _), fun x c e => Nat.ne_of_lt (cells x c (K.sub x c e))⟩
      · obtain ⟨o, e⟩ := hfo b hb'
        exact ⟨Nat.ne_of_lt (Nat.lt_succ_of_lt (Heap.lt_size e)), fun x c e => (hf b hb').2.2.2.2.1 x c (K.sub x c e)⟩
    · have hb' : b = s.heap.objs.size ∨ b ∈ fp := by simpa using hb
      rcases hb' with rfl | hb'
      · exact absurd (Heap.lt_size (I.bk _ _ e)) (Nat.lt_irrefl _)
      · rcases (hf b hb').2.2.2.1 with z | z
        · exact I.ok.noex b o e z
        · exact absurd (Nat.lt_of_lt_of_le (Heap.lt_size e) (Nat.le_trans I.ok.bsz z)) (Nat.lt_irrefl _)
    · have hb' : b = s.heap.objs.size ∨ b ∈ fp := by simpa using hb
      have hs' := I.stkSub b hs
      rcases hb' with rfl | hb'
      · rcases List.mem_cons.mp hs' with z | z
        · exact absurd I.lt (by rw [← z]; exact Nat.lt_irrefl _)
        · exact I.nofs (Nat.le_refl _) z
      · rcases List.mem_cons.mp hs' with z | z
        · exact (hf b hb').2.1 z
        · exact (hf b hb').2.2.1 z
  have stk : ∀ b, b ≠ X.env.locals → b ∉ X.fs → b ∉ frs X.stack := fun b h1 h2 h3 => by
    rcases List.mem_cons.mp (I.stkSub b h3) with z | z
    · exact h1 z
    · exact h2 z
  refine ⟨ok, rfl, I3.bare, Un.kept old, ⟨m, hns, fun i x v h1 h2 h3 => ?_⟩, fun x c e => ?_, ?_, fun x c e => I3.freeC x c (K.sub x c e), fun p hp => ?_, I3.hok.kept old, ?_⟩
  · obtain ⟨j, hj, hσ⟩ := captS_get h2
    obtain ⟨hXN, hfr⟩ := S.capt h1 hj
    have hXk := S.free (x, .free) (PySem.mem_of_lookup hfr) rfl
    obtain ⟨mX, hnX, hlX⟩ := I3.loc
    obtain ⟨u, r, l⟩ := hlX j x v hXN hσ (by rcases hXk with z | z; exact .inr (.inl z); exact .inr (.inr z))
    refine ⟨u, r, .inr ⟨relabel_free hfr, ?_⟩⟩
    obtain ⟨c', hc'⟩ := K.has (x, .free) (PySem.mem_of_lookup hfr) rfl
    rcases l with ⟨k, _⟩ | ⟨_, c, e, z⟩
    · have k' : X.env.scope.names.lookup x = some .local := k
      rcases hXk with q | q <;> (rw [show X.env.scope.names.lookup x = _ from q] at k'; cases k')
    · have e2 := K.sub x c' hc'
      have ec : c = c' := by
        rw [e] at e2
        exact Option.some.inj e2
      exact ⟨c', hc', by rw [← ec]; exact z.keeps old⟩
  · obtain ⟨v, q⟩ := I3.cell x c (K.sub x c e)
    exact ⟨v, q.keeps old⟩
  · exact I.hok.fresh (Nat.le_succ _)
  · rcases List.mem_append.mp hp with z | z
    · obtain ⟨e, n, ne, nf, d⟩ := I3.pin p z
      exact ⟨old _ _ e, n, Nat.ne_of_lt (up _ _ e), stk _ ne nf, d⟩
    · have e : p = (s.heap.objs.size, accObj [] 0) := by simpa using z
      subst e
      refine ⟨old _ _ (Heap.get?_push_size _ rfl), I.hok.fresh (Nat.le_refl _), Nat.ne_of_lt (Nat.lt_succ_self _), stk _ (Nat.ne_of_gt I.lt) (I.nofs (Nat.le_refl _)), fun v q => ?_⟩
      have q' : Data.seq _ _ = Data.cell v := q
      cases q'
  · show (cp.map _).length = N.length
    rw [List.length_map]
    exact S.len

/-- the block's end: back in the def's own context, the new list tracked -/
theorem comp_end {X : Cx} {sc : Scope} {N : List Str} {pins pins' : List (Addr × Obj)} {σ σ' : St} {H H5 : Hp} {s s5 : Shared} {fp : List Addr} {cl : List (Str × Addr)} {ys : List V} {its : List Value} {n : Nat}
    (I : Inv X pins σ H s) (hf : ∀ b ∈ fp, FpOk X pins H b)
    (I5 : Inv (cxC X sc N ⟨cl, s.heap.objs.size + 1, s.heap.objs.size, { s with heap := s.heap.push (accObj [] 0) }, H, fp, pins⟩) pins' σ' H5 s5)
    (hD : s5.heap.get? s.heap.objs.size = some (accObj its n)) (hn : H5 s.heap.objs.size = none) (rv : Vals ys its) (hz : ys.length ≤ sizeLine) :
    Inv X pins σ (upd H5 s.heap.objs.size (.lst ys)) s5 ∧ FpOk X pins (upd H5 s.heap.objs.size (.lst ys)) (s.heap.objs.size + 1) := by
  have hH : H s.heap.objs.size = none := I.hok.fresh (Nat.le_refl _)
  have lt : ∀ b o, s.heap.get? b = some o → b ≠ s.heap.objs.size := fun b o e => Nat.ne_of_lt (Heap.lt_size e)
  have psh : ∀ b o, s.heap.get? b = some o → (s.heap.push (accObj [] 0)).get? b = some o := fun b o e => Heap.get?_push_of_some _ e
  have nx : ∀ b o, s.heap.get? b = some o → b ∉ fp → b ∉ s.heap.objs.size :: fp := fun b o e h1 h2 => by
    rcases List.mem_cons.mp h2 with z | z
    · exact lt b o e z
    · exact h1 z
  have hU : Un (frs X.stack) fp H (upd H5 s.heap.objs.size (.lst ys)) s.heap s5.heap := by
    have U := I5.base
    refine ⟨fun b o e n1 hb hx => U.keep b o (psh b o e) n1 hb (nx b o e hx), fun b o e n1 hb hx => U.slot b o (psh b o e) n1 hb (nx b o e hx), fun b o e n1 hx => ?_, fun b o e hx => U.there b o (psh b o e) (nx b o e hx),
      fun b xs e => ?_, fun b o u e => ?_, fun b ps e => ?_⟩
    · rw [upd_ne (lt b o e)]; exact U.free b o (psh b o e) n1 (nx b o e hx)
    · rw [upd_ne (ne_of_none e hH)]; exact U.tups b xs e
    · rw [upd_ne (ne_of_none e hH)]; exact U.frzs b o u e
    · rw [upd_ne (ne_of_none e hH)]; exact U.tbls b ps e
  have hok : HOk X.prog X.w (upd H5 s.heap.objs.size (.lst ys)) s5.heap := fun b u q => by
    by_cases hb : b = s.heap.objs.size
    · subst hb
      rw [upd_same] at q
      cases q
      exact ⟨hz, its, n, rv, hD⟩
    · rw [upd_ne hb] at q
      refine ObjOk.stay (I5.hok b u q) (fun c v _ q => q) (fun c q => ?_) fun c xs q => ?_
      · rw [upd_ne (ne_of_none q hn)]; exact q
      · rw [upd_ne (ne_of_none q hn)]; exact q
  refine ⟨I.call' (ch := fp) (show s5.os = s.os from I5.os) hU hok I5.bare fun b hb => ?_, I.fpOk (Nat.le_succ _) ?_⟩
  · obtain ⟨_, f1, _, f3, f4, f5⟩ := hf b hb
    exact ⟨f3, f1, f4, f5⟩
  · rw [upd_ne (Nat.ne_of_gt (Nat.lt_succ_self _))]
    exact I5.free

theorem comp_run {X : Cx} {sc : Scope} {N : List Str} {cp : List (Option Nat)} {tg iter elt : Expr} {ifs : List Expr} {pos : Pos} {g : TG} {tif : TT} {te : TE} {Sg : List Nat}
    (S : CompSc X.env.scope sc X.N N cp) (hc : X.calm = true) (hg : ∀ z, PG (cxC X sc N z) tg g) (hset : Sets g Sg) (hloc : ∀ k ∈ Sg, cp[k]? = some none)
    (hif : ∀ z, PIf (cxC X sc N z) ifs tif) (he : ∀ z, PE (cxC X sc N z) elt te)
    {pins : List (Addr × Obj)} {σ : St} {H : Hp} {s : Shared} {it : Addr} {fp : List Addr} {tn : Nat → Heap → Prop} {J : It} {cl : List (Str × Addr)} (I : Inv X pins σ H s) (T : Turn X.prog X.w X.K tg J fp it tn) (st : tn 0 s.heap) (hf : ∀ b ∈ fp, FpOk X pins H b)
    (K : ClOk X.env sc cl) {W : Nat → Nat → List V → Hp → Prop} {F : List V → Hp → Prop} {m0 : Nat} (w0 : W 0 m0 [] H)
    (turn : ∀ i m ys H, W i m ys H → (J.stop i H ∧ ys.length ≤ sizeLine ∧ F ys H) ∨ (J.go i H ∧ ys.length ≤ sizeLine ∧ ∃ (N1 : V → Hp → Prop) (N0 : Hp → Prop), (∀ y H', N1 y H' → ∃ m', m' < m ∧ W (i + 1) m' (ys ++ [y]) H') ∧ (∀ H', N0 H' → ∃ m', m' < m ∧ W (i + 1) m' ys H') ∧ ∀ x H', J.yld i H x H' → g x (captS cp σ) H' fun σ2 H2 => tif σ2 H2 fun b H3 => if b = true then te σ2 H3 N1 else N0 H3))
    {RR : Value → Addr → Result → Shared → Prop} {E : Value → Shared → Prop}
    (fin : ∀ D C s5 ys H5, H5 D = none → F ys H5 → Inv X pins σ (upd H5 D (.lst ys)) s5 → (∃ m, s5.heap.Ns C m) → FpOk X pins (upd H5 D (.lst ys)) C → RR (.ref D) C (.ok .next) s5) :
    wpAny (model X.prog X.w) X.A (newList []) (fun acc s₃ => wpAny (model X.prog X.w) X.A (newFunctionEnv sc X.env.globals cl [] X.env.qual none .none (some X.env)) (fun cenv s₄ =>
      codeAny (model X.prog X.w) X.A (.compStart (.ListComp elt [⟨tg, iter, ifs, 0⟩] sc pos) 0 (.ref it) acc { cenv with scope := relabel sc X.env }) (RR acc cenv.locals) s₄) E s₃) E s := by
  have hfo : ∀ b ∈ fp, ∃ o, s.heap.get? b = some o := fun b hb => by obtain ⟨o, e, _⟩ := T.obj 0 _ st b hb; exact ⟨o, e⟩
  refine wpAny_newObj_type (wpAny_newFunctionEnv S.nocell (by intro y hy; simp at hy) (fun h4 hns hsb => ?_) S.kind)
  have hns' : h4.Ns (s.heap.objs.size + 1) (fun x => ([] : List (Str × Value)).reverse.lookup x) := by
    have z := hns
    rw [show (s.heap.push { cls := .type "list", dict := none, data := .seq ([] : List Value).toArray }).objs.size = s.heap.objs.size + 1 from Heap.size_push ..] at z
    exact z
  have hC : (s.heap.push (accObj [] 0)).objs.size = s.heap.objs.size + 1 := Heap.size_push ..
  have hsb' : ∀ b o, b ≠ s.heap.objs.size + 1 → (s.heap.push (accObj [] 0)).get? b = some o → h4.get? b = some o := fun b o hb e =>
    hsb.extBut b o (by show b ≠ (s.heap.push (accObj [] 0)).objs.size; rw [hC]; exact hb) (Heap.get?_push_of_some _ e)
  have I4 := comp_start (tk := s.toks + ([] : List (Str × Value)).length) S I hf hfo K hns' hsb'
  -- the loop
  have loop : ∀ it', it' = Value.ref it →
      codeAny (model X.prog X.w) X.A (.compLoop (.ListComp elt [⟨tg, iter, ifs, 0⟩] sc pos) 0 it' (.ref s.heap.objs.size) (compEnvC sc cl (s.heap.objs.size + 1) X.env)) (RR (.ref s.heap.objs.size) (s.heap.objs.size + 1))
        { s with heap := h4, toks := s.toks + ([] : List (Str × Value)).length } := by
    rintro _ rfl
    -- the state between two turns
    refine codeAny_compLoop_own (fun k s' => ∃ i ys its n H', Inv (cxC X sc N ⟨cl, s.heap.objs.size + 1, s.heap.objs.size, { s with heap := s.heap.push (accObj [] 0) }, H, fp, pins⟩) [(s.heap.objs.size, accObj its n)] (captS cp σ) H' s' ∧
      Vals ys its ∧ tn i s'.heap ∧ (∀ b ∈ fp, H' b = none) ∧ W i k ys H') ?_ m0 ⟨0, [], [], 0, H, I4, .nil, T.keep _ _ _ st fun b hb o e => ?_, fun b hb => (hf b hb).1, w0⟩
    · rintro k s1 ⟨i, ys, its, n, H1, I1, rv, st1, fr1, w1⟩
      have fpY : ∀ {H' : Hp} {p : List (Addr × Obj)}, (∀ b ∈ fp, H' b = none) → (∀ q ∈ p, q.1 = s.heap.objs.size) → ∀ b ∈ fp, FpOk (cxC X sc N ⟨cl, s.heap.objs.size + 1, s.heap.objs.size, { s with heap := s.heap.push (accObj [] 0) }, H, fp, pins⟩) p H' b := fun {H' p} hn hp b hb => by
        obtain ⟨f0, f1, f2, f3, f4, f5⟩ := hf b hb
        obtain ⟨o, e⟩ := hfo b hb
        have hlt := Heap.lt_size e
        refine ⟨hn b hb, Nat.ne_of_lt (Nat.lt_succ_of_lt hlt), fun z => ?_, .inl (List.mem_cons_of_mem _ hb), fun x c ec => f4 x c (K.sub x c ec), fun q hq z => ?_⟩
        · rcases List.mem_cons.mp (I.stkSub b z) with z | z
          · exact f1 z
          · exact f2 z
        · rcases List.mem_append.mp hq with hq | hq
          · exact f5 q hq z
          · rw [hp q hq] at z
            rw [z] at hlt
            exact absurd hlt (Nat.lt_irrefl _)
      have pD : ∀ {its' : List Value} {n' : Nat}, ∀ q ∈ [(s.heap.objs.size, accObj its' n')], q.1 = s.heap.objs.size := fun {its' n'} q hq => by
        have e : q = (s.heap.objs.size, accObj its' n') := by simpa using hq
        rw [e]
      rcases turn i k ys H1 w1 with ⟨stop, hz, f⟩ | ⟨go, hz, N1, N0, hN1, hN0, step⟩
      · refine wpAny_mono (T.done (cxC X sc N ⟨cl, s.heap.objs.size + 1, s.heap.objs.size, { s with heap := s.heap.push (accObj [] 0) }, H, fp, pins⟩) rfl rfl rfl hc i _ s1 _ H1 (fun _ _ => False) I1 (fpY fr1 pD) st1 stop) (fun r s2 ⟨hr, I2⟩ => ?_) fun _ _ z => z
        subst hr
        obtain ⟨e, nn, _⟩ := I2.pin (s.heap.objs.size, accObj its n) (List.mem_append_right _ (by simp))
        obtain ⟨IX, fC⟩ := comp_end I hf I2 e nn rv hz
        obtain ⟨mC, hC2, _⟩ := I2.loc
        exact fin _ _ s2 ys H1 nn f IX ⟨mC, hC2⟩ fC
      · refine wpAny_mono (T.item (cxC X sc N ⟨cl, s.heap.objs.size + 1, s.heap.objs.size, { s with heap := s.heap.push (accObj [] 0) }, H, fp, pins⟩) rfl rfl rfl hc i _ s1 _ H1 (fun _ _ => False) I1 (fpY fr1 pD) st1 go) (fun r s2 ⟨u, hr, h2⟩ => ?_) fun _ _ z => z
        subst hr
        refine wpAny_mono h2 (fun _ s3 ⟨x, H3, I3, rx, y3, st3, fr3⟩ => ?_) fun _ _ z => z
        have I3' := I3.pinned (fpY fr3 pD) (T.obj _ _ st3)
        refine wpAny_mono (hg _ _ s3 _ H3 x u _ I3' rx (hset _ _ _ _ (step x H3 y3))) (fun _ s4 ⟨σ4, H4, I4', q4, len4, sm4⟩ => ?_) fun _ _ z => z
        refine wpAny_mono (hif _ _ s4 σ4 H4 _ I4' q4) (fun ok s5 ⟨H5, I5, q5⟩ => ?_) fun _ _ z => z
        -- what a turn's end gives
        have weak : ∀ (j : Nat) v, (captS cp σ)[j]? = some (some v) → σ4[j]? = some (some v) := fun j v e => by
          rw [sm4 j ?_]
          · exact e
          · intro hj
            obtain ⟨l, e1, _⟩ := captS_get e
            rw [hloc j hj] at e1
            cases e1
        cases ok with
        | false =>
          obtain ⟨m', hm, w5⟩ := hN0 _ q5
          show ∃ m, m < k ∧ _
          refine ⟨m', hm, i + 1, ys, its, n, H5, ?_, rv, ?_, fun b hb => ?_, w5⟩
          · exact (I5.unpinned).weak len4.symm weak
          · exact T.keep _ _ _ st3 fun b hb o e => (I5.pin (b, o) (List.mem_append_right _ (List.mem_append_right _ (mem_pinsAt hb e)))).1
          · obtain ⟨o, e, d⟩ := T.obj _ _ st3 b hb
            exact (I5.pin (b, o) (List.mem_append_right _ (List.mem_append_right _ (mem_pinsAt hb e)))).2.1
        | true =>
          show wpAny _ _ (eval elt _) _ _ s5
          refine wpAny_mono (he _ _ s5 σ4 H5 _ I5 q5) (fun v s6 ⟨y, H6, I6, r6, q6⟩ => ?_) fun _ _ z => z
          obtain ⟨m', hm, w6⟩ := hN1 _ _ q6
          obtain ⟨eD, nD, _⟩ := I6.pin (s.heap.objs.size, accObj its n) (List.mem_append_right _ (List.mem_append_left _ (by simp)))
          refine wpAny_list_append_plain (items := its.toArray) ⟨n, eD⟩ (fun h7 pl sb => ?_) (by rw [List.size_toArray, ← rv.length]; exact hz)
          obtain ⟨n7, e7⟩ := pl
          have e7' : h7.get? s.heap.objs.size = some (accObj (its ++ [v]) n7) := by
            rw [e7]
            show some _ = some _
            unfold accObj
            rw [show its.toArray.push v = (its ++ [v]).toArray by simp]
          have J0 : Inv (cxC X sc N ⟨cl, s.heap.objs.size + 1, s.heap.objs.size, { s with heap := s.heap.push (accObj [] 0) }, H, fp, pins⟩) [] σ4 H6 s6 := I6.pins_of fun p hp => by cases hp
          have dY : s.heap.objs.size ≠ s.heap.objs.size + 1 := Nat.ne_of_lt (Nat.lt_succ_self _)
          have J1 : Inv (cxC X sc N ⟨cl, s.heap.objs.size + 1, s.heap.objs.size, { s with heap := s.heap.push (accObj [] 0) }, H, fp, pins⟩) [] σ4 H6 { s6 with heap := h7 } := by
            refine J0.turned (it := s.heap.objs.size) (t' := s6.toks) (fun b o hb e => (sb.2 b hb).trans e) nD dY (.inl List.mem_cons_self) (fun x c ec => ?_) (fun p hp => ?_)
            · obtain ⟨v', q⟩ := I.cell x c (K.sub x c ec)
              exact Nat.ne_of_lt q.lt
            · have hp' : p ∈ X.pn ++ pins := by simpa using hp
              exact Nat.ne_of_lt (Heap.lt_size (I.pin p hp').1)
          have J2 := J1.weak (σ' := captS cp σ) len4.symm weak
          refine ⟨m', hm, i + 1, ys ++ [y], its ++ [v], n7, H6, ?_, rv.append (.cons r6 .nil), ?_, fun b hb => ?_, w6⟩
          · refine J2.pins_of fun p hp => ?_
            have ep : p = (s.heap.objs.size, accObj (its ++ [v]) n7) := by simpa using hp
            subst ep
            obtain ⟨_, _, d1, d2, _⟩ := I6.pin (s.heap.objs.size, accObj its n) (List.mem_append_right _ (List.mem_append_left _ (by simp)))
            refine ⟨e7', nD, d1, d2, fun v' q => ?_⟩
            have q' : Data.seq _ _ = Data.cell v' := q
            cases q'
          · refine T.keep _ _ _ st3 fun b hb o e => ?_
            have e6 := (I6.pin (b, o) (List.mem_append_right _ (List.mem_append_right _ (mem_pinsAt hb e)))).1
            obtain ⟨o', eo⟩ := hfo b hb
            exact (sb.2 b (Nat.ne_of_lt (Heap.lt_size eo))).trans e6
          · obtain ⟨o, e, d⟩ := T.obj _ _ st3 b hb
            exact (I6.pin (b, o) (List.mem_append_right _ (List.mem_append_right _ (mem_pinsAt hb e)))).2.1
    · obtain ⟨o', eo⟩ := hfo b hb
      exact hsb' b o (Nat.ne_of_lt (Nat.lt_succ_of_lt (Heap.lt_size eo))) (Heap.get?_push_of_some _ e)
  have st4 : tn 0 h4 := T.keep _ _ _ st fun b hb o e => hsb' b o (Nat.ne_of_lt (Nat.lt_succ_of_lt (Heap.lt_size e))) (Heap.get?_push_of_some _ e)
  have hCC : (s.heap.push { cls := .type "list", dict := none, data := .seq ([] : List Value).toArray }).objs.size = s.heap.objs.size + 1 := Heap.size_push ..
  have goal : codeAny (model X.prog X.w) X.A (.compStart (.ListComp elt [⟨tg, iter, ifs, 0⟩] sc pos) 0 (.ref it) (.ref s.heap.objs.size) (compEnvC sc cl (s.heap.objs.size + 1) X.env)) (RR (.ref s.heap.objs.size) (s.heap.objs.size + 1))
      { s with heap := h4, toks := s.toks + ([] : List (Str × Value)).length } :=
    codeAny_compStart_list (loop _ rfl) (T.self X.A 0 { s with heap := h4, toks := s.toks + ([] : List (Str × Value)).length } _ _ st4 (loop _ rfl))
  rw [← hCC] at goal
  exact goal

/-- [e for tg in iter (if c)] -/
def tComp (wi : TI) (cp : List (Option Nat)) (g : TG) (tif : TT) (te : TE) : TE := fun σ H Q => wi σ H fun J H1 => ∃ W : Nat → Nat → List V → Hp → Prop, (∃ m, W 0 m [] H1) ∧ ∀ i m ys H, W i m ys H →
  (J.stop i H ∧ ys.length ≤ sizeLine ∧ ∀ p, H p = none → Q (.ref p) (upd H p (.lst ys))) ∨
  (J.go i H ∧ ys.length ≤ sizeLine ∧ ∃ (N1 : V → Hp → Prop) (N0 : Hp → Prop), (∀ y H', N1 y H' → ∃ m', m' < m ∧ W (i + 1) m' (ys ++ [y]) H') ∧ (∀ H', N0 H' → ∃ m', m' < m ∧ W (i + 1) m' ys H') ∧ ∀ x H', J.yld i H x H' → g x (captS cp σ) H' fun σ2 H2 => tif σ2 H2 fun b H3 => if b = true then te σ2 H3 N1 else N0 H3)
section
variable {X : Cx} {sc : Scope} {N : List Str} {cp : List (Option Nat)} {tg iter elt : Expr} {ifs : List Expr} {pos : Pos} {g : TG} {tif : TT} {te : TE} {wi : TI} {Sg : List Nat}
theorem Inv.clOk {pins : List (Addr × Obj)} {σ : St} {H : Hp} {s : Shared} (I : Inv X pins σ H s) (S : CompSc X.env.scope sc X.N N cp) : ∃ cl, ClOk X.env sc cl :=
  closure_ok fun y hy hf => I.ok.has y.1 (S.free y hy hf)
theorem Inv.letGo {pins : List (Addr × Obj)} {σ : St} {H : Hp} {s : Shared} {C : Addr} {h' : Heap} (I : Inv X pins σ H s) (f : FpOk X pins H C) (sb : Heap.SameBut C s.heap h') : Inv X pins σ H { s with heap := h' } := by
  obtain ⟨f0, f1, f2, f3, f4, f5⟩ := f
  exact I.turned (t' := s.toks) (fun b o hb e => (sb.2 b hb).trans e) f0 f1 f3 f4 f5
/-- name = [e for tg in iter (if c)], the name's own stored ahead of the block's end -/
theorem ps_setComp {i : Nat} {x : Str} {px spos : Pos} (hN : X.N.Nodup) (hx : X.N[i]? = some x) (hl : X.env.scope.names.lookup x = some .local) (S : CompSc X.env.scope sc X.N N cp) (hc : X.calm = true) (hi : PI X tg iter wi) (hg : ∀ z, PG (cxC X sc N z) tg g) (hset : Sets g Sg) (hloc : ∀ k ∈ Sg, cp[k]? = some none)
    (hif : ∀ z, PIf (cxC X sc N z) ifs tif) (he : ∀ z, PE (cxC X sc N z) elt te)
    (hsw : swapsWith (.ListComp elt [⟨tg, iter, ifs, 0⟩] sc pos) (some (.Name x px)) spos.line X.env = pure true := by rfl) (hs : ∀ x, foldedSetIterable iter X.env x = pure x := by intro _; rfl) :
    PS X (.Assign [.Name x px] (.ListComp elt [⟨tg, iter, ifs, 0⟩] sc pos) spos) (tAsg (tComp wi cp g tif te) (gName i)) := by
  intro pins s σ H D0 I h
  obtain ⟨cl, K⟩ := I.clOk S
  rw [exec_Assign_Name_used _ _ _ _ hsw]
  refine wpAny_bind (wpAny_standAt (wpAny_bind ?_))
  show wpAny _ _ (do let _ ← comprehension (.ListComp elt [⟨tg, iter, ifs, 0⟩] sc pos) sc X.env _ (newList []) false (eval iter X.env) (some (assign (.Name x px) X.env))) _ _ s
  refine wpAny_bind (wpAny_mono (wpAny_comprehension_free (use := some (assign (.Name x px) X.env)) (Q := fun _ s' => SP X pins D0 .next s') rfl hs K.clos S.kind S.names
    (thn (hi pins s σ H _ I h) fun xv s1 h1 => thn h1 fun itv s2 h2 => ?_)) (fun _ s' hq => wpAny_pure (wpAny_pure hq)) fun _ _ e => e)
  obtain ⟨it, fp, tn, J, H2, e, I2, T, st2, f2, W, ⟨m0, w0⟩, turn⟩ := h2
  subst e
  refine comp_run (RR := fun acc C => compPost (model X.prog X.w) X.A X.xe (some (assign (.Name x px) X.env)) (fun _ s' => SP X pins D0 .next s') acc C) (F := fun ys H5 => ∀ p, H5 p = none → gName i (.ref p) σ (upd H5 p (.lst ys)) D0.nx) S hc hg hset hloc hif he I2 T st2 f2 K w0 turn ?_
  intro D C s5 ys H5 hD f I5 ⟨m, hn⟩ fC
  show wpAny _ _ (assign (.Name x px) X.env (.ref D)) _ _ _
  refine wpAny_assign_Name (store_ok2 I5 hN hx (.inl hl) (v := .ref D) rfl (fun s6 I6 ⟨a, sa, ha⟩ => ?_) (.inr hl))
  have hCa : C ≠ a := by
    rcases ha with z | z
    · rw [z]; exact fC.2.1
    · exact fun q => fC.2.2.2.2.1 x a z q.symm
  exact ⟨m, hn.sameBut sa hCa, fun h' sb => ⟨_, _, I6.letGo fC sb, f D hD⟩⟩
end

def tComp0 (wi : TI) (cp : List (Option Nat)) (g : TG) (te : TE) : TE := fun σ H Q => wi σ H fun J H1 => ∃ W : Nat → Nat → List V → Hp → Prop, (∃ m, W 0 m [] H1) ∧ ∀ i m ys H, W i m ys H →
  (J.stop i H ∧ ys.length ≤ sizeLine ∧ ∀ p, H p = none → Q (.ref p) (upd H p (.lst ys))) ∨
  (J.go i H ∧ ys.length ≤ sizeLine ∧ ∃ N1 : V → Hp → Prop, (∀ y H', N1 y H' → ∃ m', m' < m ∧ W (i + 1) m' (ys ++ [y]) H') ∧ ∀ x H', J.yld i H x H' → g x (captS cp σ) H' fun σ2 H2 => te σ2 H2 N1)
theorem comp0_turn {J : It} {cp : List (Option Nat)} {g : TG} {te : TE} {σ : St} {F : List V → Hp → Prop} {W : Nat → Nat → List V → Hp → Prop}
    (turn : ∀ i m ys H, W i m ys H → (J.stop i H ∧ ys.length ≤ sizeLine ∧ F ys H) ∨ (J.go i H ∧ ys.length ≤ sizeLine ∧ ∃ N1 : V → Hp → Prop, (∀ y H', N1 y H' → ∃ m', m' < m ∧ W (i + 1) m' (ys ++ [y]) H') ∧ ∀ x H', J.yld i H x H' → g x (captS cp σ) H' fun σ2 H2 => te σ2 H2 N1)) :
    ∀ i m ys H, W i m ys H → (J.stop i H ∧ ys.length ≤ sizeLine ∧ F ys H) ∨ (J.go i H ∧ ys.length ≤ sizeLine ∧ ∃ (N1 : V → Hp → Prop) (N0 : Hp → Prop), (∀ y H', N1 y H' → ∃ m', m' < m ∧ W (i + 1) m' (ys ++ [y]) H') ∧ (∀ H', N0 H' → ∃ m', m' < m ∧ W (i + 1) m' ys H') ∧
      ∀ x H', J.yld i H x H' → g x (captS cp σ) H' fun σ2 H2 => tYes σ2 H2 fun b H3 => if b = true then te σ2 H3 N1 else N0 H3) := fun i m ys H w => by
  rcases turn i m ys H w with z | ⟨go, hz, N1, h1, h2⟩
  · exact .inl z
  · refine .inr ⟨go, hz, N1, fun _ => False, h1, fun _ z => z.elim, fun x H' y => ?_⟩
    have e : (fun (σ2 : St) (H2 : Hp) => tYes σ2 H2 fun b H3 => if b = true then te σ2 H3 N1 else False) = fun σ2 H2 => te σ2 H2 N1 := by
      funext σ2 H2
      show (if true = true then te σ2 H2 N1 else False) = te σ2 H2 N1
      rw [if_pos rfl]
    rw [e]
    exact h2 x H' y
section
variable {X : Cx} {sc : Scope} {N : List Str} {cp : List (Option Nat)} {tg iter elt : Expr} {pos : Pos} {g : TG} {te : TE} {wi : TI} {Sg : List Nat}
theorem pe_comp0 (S : CompSc X.env.scope sc X.N N cp) (hc : X.calm = true) (hi : PI X tg iter wi) (hg : ∀ z, PG (cxC X sc N z) tg g) (hset : Sets g Sg) (hloc : ∀ k ∈ Sg, cp[k]? = some none)
    (he : ∀ z, PE (cxC X sc N z) elt te) (hs : ∀ x, foldedSetIterable iter X.env x = pure x := by intro _; rfl) :
    PE X (.ListComp elt [⟨tg, iter, [], 0⟩] sc pos) (tComp0 wi cp g te) := by
  intro pins s σ H Q I h
  obtain ⟨cl, K⟩ := I.clOk S
  rw [eval_ListComp]
  refine wpAny_comprehension_free (use := none) rfl hs K.clos S.kind S.names (thn (hi pins s σ H _ I h) fun xv s1 h1 => thn h1 fun itv s2 h2 => ?_)
  obtain ⟨it, fp, tn, J, H2, e, I2, T, st2, f2, W, ⟨m0, w0⟩, turn⟩ := h2
  subst e
  refine comp_run (RR := fun acc C => compPost (model X.prog X.w) X.A X.xe none (EP X pins σ Q) acc C) (F := fun ys H5 => ∀ p, H5 p = none → Q (.ref p) (upd H5 p (.lst ys))) S hc hg hset hloc (fun z => pif_nil) he I2 T st2 f2 K w0 (comp0_turn turn) ?_
  intro D C s5 ys H5 hD f I5 ⟨m, hn⟩ fC
  exact ⟨m, hn, fun h' sb => ⟨.ref D, _, I5.letGo fC sb, rfl, f D hD⟩⟩
theorem ps_setComp0 {i : Nat} {x : Str} {px spos : Pos} (hN : X.N.Nodup) (hx : X.N[i]? = some x) (hl : X.env.scope.names.lookup x = some .local) (S : CompSc X.env.scope sc X.N N cp) (hc : X.calm = true) (hi : PI X tg iter wi) (hg : ∀ z, PG (cxC X sc N z) tg g) (hset : Sets g Sg) (hloc : ∀ k ∈ Sg, cp[k]? = some none)
    (he : ∀ z, PE (cxC X sc N z) elt te)
    (hsw : swapsWith (.ListComp elt [⟨tg, iter, [], 0⟩] sc pos) (some (.Name x px)) spos.line X.env = pure true := by rfl) (hs : ∀ x, foldedSetIterable iter X.env x = pure x := by intro _; rfl) :
    PS X (.Assign [.Name x px] (.ListComp elt [⟨tg, iter, [], 0⟩] sc pos) spos) (tAsg (tComp0 wi cp g te) (gName i)) := by
  intro pins s σ H D0 I h
  obtain ⟨cl, K⟩ := I.clOk S
  rw [exec_Assign_Name_used _ _ _ _ hsw]
  refine wpAny_bind (wpAny_standAt (wpAny_bind ?_))
  show wpAny _ _ (do let _ ← comprehension (.ListComp elt [⟨tg, iter, [], 0⟩] sc pos) sc X.env _ (newList []) false (eval iter X.env) (some (assign (.Name x px) X.env))) _ _ s
  refine wpAny_bind (wpAny_mono (wpAny_comprehension_free (use := some (assign (.Name x px) X.env)) (Q := fun _ s' => SP X pins D0 .next s') rfl hs K.clos S.kind S.names
    (thn (hi pins s σ H _ I h) fun xv s1 h1 => thn h1 fun itv s2 h2 => ?_)) (fun _ s' hq => wpAny_pure (wpAny_pure hq)) fun _ _ e => e)
  obtain ⟨it, fp, tn, J, H2, e, I2, T, st2, f2, W, ⟨m0, w0⟩, turn⟩ := h2
  subst e
  refine comp_run (RR := fun acc C => compPost (model X.prog X.w) X.A X.xe (some (assign (.Name x px) X.env)) (fun _ s' => SP X pins D0 .next s') acc C) (F := fun ys H5 => ∀ p, H5 p = none → gName i (.ref p) σ (upd H5 p (.lst ys)) D0.nx) S hc hg hset hloc (fun z => pif_nil) he I2 T st2 f2 K w0 (comp0_turn turn) ?_
  intro D C s5 ys H5 hD f I5 ⟨m, hn⟩ fC
  show wpAny _ _ (assign (.Name x px) X.env (.ref D)) _ _ _
  refine wpAny_assign_Name (store_ok2 I5 hN hx (.inl hl) (v := .ref D) rfl (fun s6 I6 ⟨a, sa, ha⟩ => ?_) (.inr hl))
  have hCa : C ≠ a := by
    rcases ha with z | z
    · rw [z]; exact fC.2.1
    · exact fun q => fC.2.2.2.2.1 x a z q.symm
  exact ⟨m, hn.sameBut sa hCa, fun h' sb => ⟨_, _, I6.letGo fC sb, f D hD⟩⟩
end

theorem comp_list {K : PySem.W.Frag} {a : Addr} {xs : List V} {B : V → Hp → (V → Hp → Prop) → Prop} {F : List V → Hp → Prop} {H : Hp} (Pv : Nat → List V → Hp → Prop) (h0 : Pv 0 [] H) (hz : xs.length ≤ sizeLine)
    (hl : ∀ i ys H, i ≤ xs.length → Pv i ys H → SqL K H a xs ∧ ys.length = i)
    (hs : ∀ i x ys H, xs[i]? = some x → Pv i ys H → B x H fun y H4 => Pv (i + 1) (ys ++ [y]) H4)
    (hd : ∀ ys H, Pv xs.length ys H → F ys H) :
    ∃ W : Nat → Nat → List V → Hp → Prop, (∃ m, W 0 m [] H) ∧ ∀ i m ys H, W i m ys H →
      ((Itl K a).stop i H ∧ ys.length ≤ sizeLine ∧ F ys H) ∨
      ((Itl K a).go i H ∧ ys.length ≤ sizeLine ∧ ∃ N1 : V → Hp → Prop, (∀ y H', N1 y H' → ∃ m', m' < m ∧ W (i + 1) m' (ys ++ [y]) H') ∧ ∀ x H', (Itl K a).yld i H x H' → B x H' N1) := by
  refine ⟨fun i m ys H => m = xs.length - i ∧ i ≤ xs.length ∧ Pv i ys H, ⟨xs.length, by simp, Nat.zero_le _, h0⟩, ?_⟩
  rintro i m ys H ⟨rfl, hi, p⟩
  obtain ⟨q, el⟩ := hl i ys H hi p
  have hzz : ys.length ≤ sizeLine := by rw [el]; exact Nat.le_trans hi hz
  by_cases hlt : i < xs.length
  · refine .inr ⟨⟨xs, xs[i], q, by simp [hlt]⟩, hzz, fun y H4 => Pv (i + 1) (ys ++ [y]) H4, fun y H' q4 => ⟨xs.length - (i + 1), by omega, rfl, hlt, q4⟩, fun x H' y => ?_⟩
    obtain ⟨e, y⟩ := y
    subst e
    exact hs i x ys _ (y xs q) p
  · have e : i = xs.length := by omega
    subst e
    exact .inl ⟨⟨xs, q, Nat.le_refl _⟩, hzz, hd ys H p⟩
end L2

set_option Elab.async false
set_option linter.all false
set_option maxRecDepth 100000
namespace L2
open PySem PySem.Spec PyProof.Rows
section
variable {X : Cx}
theorem call_sum (hc : X.calm = true) : CallR X (.builtin "sum") (fun xs H Q => ∃ (p : Addr) (ns : List Int), xs = [.ref p] ∧ SqL X.K H p (ns.map V.int) ∧ Q (.int ns.sum) H) := by
  intro pins s σ H xs us Q I r h
  obtain ⟨p, ns, e, hq, q⟩ := h
  subst e
  obtain ⟨u, rfl, ru⟩ := vals1 r
  cases ru
  obtain ⟨its, rv, pl, hz⟩ := I.list hq
  have hi := intsAre_of rv
  have hl : s.heap.IsList p its.toArray := pl.isList
  obtain ⟨zs, ez⟩ := hi.allInts.items
  rw [ez] at hl
  refine sum_intListG (I.ok.hd hc) hl fun h' tk t' hk => ?_
  refine ⟨.int ns.sum, H, I.kept hk, ⟨t', ?_⟩, q⟩
  have e2 : numsOf its = ns := hi.numsOf
  rw [preSum_eq, List.take_of_length_le (by simp), ← nums_intItems, ← ez, List.toList_toArray, e2]
/-- the list's items are bools -/
theorem call_all (hc : X.calm = true) : CallR X (.builtin "all") (fun xs H Q => ∃ (p : Addr) (bs : List Bool), xs = [.ref p] ∧ SqL X.K H p (bs.map V.bl) ∧ Q (.bl (bs.all id)) H) := by
  intro pins s σ H xs us Q I r h
  obtain ⟨p, bs, e, hq, q⟩ := h
  subst e
  obtain ⟨u, rfl, ru⟩ := vals1 r
  cases ru
  obtain ⟨its, rv, pl, hz⟩ := I.list hq
  have hl : s.heap.IsList p its.toArray := pl.isList
  have hlt : p < s.heap.objs.size := by obtain ⟨o, ho, _⟩ := hl; exact Heap.lt_size ho
  have hlen : bs.length = its.length := by have := rv.length; rwa [List.length_map] at this
  refine call_all_walk (wpAny_pyIter_list hl ?_)
  refine ⟨s.heap.objs.size, _, _, _, _, _, fun i => bs.getD i true, rfl, Walks.list (A := X.A.in1) (I.ok.hd hc) _ p (Nat.ne_of_lt hlt) its.toArray, ⟨⟨_, Heap.get?_push_size _ rfl, rfl, rfl⟩, hl.push _⟩, ?_, fun h' tk hk => ?_⟩
  · intro i v s' Q' E' hP hQ
    have hv : its[i]? = some v := by simpa using hP
    have hib : i < its.length := (List.getElem?_eq_some_iff.mp hv).1
    have hb : (bs.map V.bl)[i]? = some (V.bl (bs[i]'(by omega))) := by rw [List.getElem?_map, List.getElem?_eq_getElem (by omega)]; rfl
    obtain ⟨v', hv', rb⟩ := rv.get hb
    rw [hv] at hv'
    cases hv'
    cases rb
    refine wpAny_truthy_bool ?_
    have e : bs.getD i true = bs[i]'(by omega) := by rw [List.getD_eq_getElem?_getD, List.getElem?_eq_getElem (by omega)]; rfl
    have hQ' : Q' (bs.getD i true) s' := hQ
    rw [e] at hQ'
    exact hQ'
  · have I2 : Inv X pins σ H { s with heap := h', toks := tk } := I.kept fun b o e => hk b o (by
      intro z
      have z' : b = s.heap.objs.size := by simpa using z
      rw [z'] at e
      exact absurd (Heap.lt_size e) (Nat.lt_irrefl _)) (Heap.get?_push_of_some _ e)
    refine ⟨.bl (bs.all id), H, I2, ?_, q⟩
    show Value.bool _ = Value.bool _
    congr 1
    have e1 : its.toArray.size = bs.length := by rw [List.size_toArray, hlen]
    rw [e1]
    apply Bool.eq_iff_iff.mpr
    simp only [List.all_eq_true, List.mem_range, id]
    constructor
    · intro hh x hx
      obtain ⟨n, hn, rfl⟩ := List.mem_iff_getElem.mp hx
      have := hh n hn
      rw [List.getD_eq_getElem?_getD, List.getElem?_eq_getElem hn] at this
      exact this
    · intro hh n hn
      rw [List.getD_eq_getElem?_getD, List.getElem?_eq_getElem hn]
      exact hh _ (List.getElem_mem hn)

/-- records of ours have turned, and a new object is laid and tracked -/
theorem Inv.turnedNew {pins : List (Addr × Obj)} {σ : St} {H : Hp} {s : Shared} {h' : Heap} {ch : List Addr} {p : Addr} {o : HO} {t' : Nat} (I : Inv X pins σ H s) (hch : ∀ b ∈ ch, FpOk X pins H b)
    (k : ∀ b ob, b ∉ ch → s.heap.get? b = some ob → h'.get? b = some ob) (hp : s.heap.objs.size ≤ p) (new : ObjOk X.prog X.w (upd H p o) h' p o) : Inv X pins σ (upd H p o) { s with heap := h', toks := t' } := by
  have hn : H p = none := I.hok.fresh hp
  have nch : ∀ b u, H b = some u → b ∉ ch := fun b u e z => by rw [(hch b z).1] at e; cases e
  have lt : ∀ b ob, s.heap.get? b = some ob → b ≠ p := fun b ob e => Nat.ne_of_lt (Nat.lt_of_lt_of_le (Heap.lt_size e) hp)
  refine I.step (g' := s.gens) (d' := s.drawn) (ch := ch) (fun b hb => ?_) (fun b ob _ _ hc e _ => k b ob hc e) (fun b ob _ _ hc e _ => ⟨ob.slots, k b ob hc e⟩) (fun b ob _ e n => by rw [upd_ne (lt b ob e)]; exact n)
    (fun b ob hc e => ⟨ob, k b ob hc e⟩) (fun b xs e => by rw [upd_ne (ne_of_none e hn)]; exact e) (fun b u xs e => by rw [upd_ne (ne_of_none e hn)]; exact e) (fun b ps e => ⟨#[], by rw [upd_ne (ne_of_none e hn), e]; simp⟩)
    (fun m hm => ?_) (fun b u e => ?_) I.bare
  · obtain ⟨_, f1, _, f3, f4, f5⟩ := hch b hb
    exact ⟨f3, f1, f4, f5⟩
  · obtain ⟨ob, es, ep, ho, r⟩ := hm
    exact ⟨ob, es, ep, k _ ob (fun z => (hch _ z).2.1 rfl) ho, r⟩
  · by_cases hb : b = p
    · subst hb; rw [upd_same] at e; cases e; exact new
    · rw [upd_ne hb] at e
      refine (I.hok b u e).stay (fun c v hc q => k c v ?_ q) (fun c q => by rw [upd_ne (ne_of_none q hn)]; exact q) fun c xs q => by rw [upd_ne (ne_of_none q hn)]; exact q
      rcases hc with z | z
      · rw [z]; exact nch b u e
      · exact nch c _ z
/-- records of ours have turned -/
theorem Inv.turnedL {pins : List (Addr × Obj)} {σ : St} {H : Hp} {s : Shared} {h' : Heap} {ch : List Addr} {t' : Nat} (I : Inv X pins σ H s) (hch : ∀ b ∈ ch, FpOk X pins H b)
    (k : ∀ b ob, b ∉ ch → s.heap.get? b = some ob → h'.get? b = some ob) : Inv X pins σ H { s with heap := h', toks := t' } := by
  have nch : ∀ b u, H b = some u → b ∉ ch := fun b u e z => by rw [(hch b z).1] at e; cases e
  refine I.step (g' := s.gens) (d' := s.drawn) (ch := ch) (fun b hb => ?_) (fun b ob _ _ hc e _ => k b ob hc e) (fun b ob _ _ hc e _ => ⟨ob.slots, k b ob hc e⟩) (fun b ob _ e n => n)
    (fun b ob hc e => ⟨ob, k b ob hc e⟩) (fun b xs e => e) (fun b u xs e => e) (fun b ps e => ⟨#[], by rw [e]; simp⟩)
    (fun m hm => ?_) (fun b u e => ?_) I.bare
  · obtain ⟨_, f1, _, f3, f4, f5⟩ := hch b hb
    exact ⟨f3, f1, f4, f5⟩
  · obtain ⟨ob, es, ep, ho, r⟩ := hm
    exact ⟨ob, es, ep, k _ ob (fun z => (hch _ z).2.1 rfl) ho, r⟩
  · refine (I.hok b u e).stay (fun c v hc q => k c v ?_ q) (fun c q => q) fun c xs q => q
    rcases hc with z | z
    · rw [z]; exact nch b u e
    · exact nch c _ z
end

/-- a list with its places: each turn a new pair -/
def Ite (K : PySem.W.Frag) (a : Addr) : It :=
  ⟨fun i H => ∃ xs x, SqL K H a xs ∧ xs[i]? = some x,
   fun i H v H' => ∃ p x, v = .ref p ∧ H p = none ∧ H' = upd H p (.tup [.int (i : Nat), x]) ∧ ∀ xs, SqL K H a xs → xs[i]? = some x,
   fun i H => ∃ xs, SqL K H a xs ∧ xs.length ≤ i⟩

theorem turn_enum {P : Program} {w : World} {K : PySem.W.Frag} {elts : List Expr} {k0 : Nat} {tp : Pos} {e it a : Addr} (hne : e ≠ it) :
    Turn P w K (.Tuple elts k0 tp) (Ite K a) [e, it] e (fun i h => (∃ old, IsEnum h e it i old) ∧ h.IsListIter it a i) where
  mem := by simp
  obj := fun i h st c hc => by
    obtain ⟨⟨old, he⟩, ⟨o1, e1, _, d1⟩⟩ := st
    have hc' : c = e ∨ c = it := by simpa using hc
    rcases hc' with rfl | rfl
    · exact ⟨_, he, fun v q => nomatch (show Data.fields _ = Data.cell v from q)⟩
    · exact ⟨o1, e1, fun v q => by rw [d1] at q; cases q⟩
  keep := fun i h h' st k => by
    obtain ⟨⟨old, he⟩, h1⟩ := st
    exact ⟨⟨old, k e (by simp) _ he⟩, h1.at fun o q => k it (by simp) o q⟩
  item := by
    intro X hP hw hK hc i pins s σ H E I hf st hg
    subst hP hw hK
    obtain ⟨xs, x, hqa, hx⟩ := hg
    obtain ⟨⟨old, he⟩, h1⟩ := st
    obtain ⟨ita, rva, pa, _⟩ := I.list hqa
    obtain ⟨u, hu, ru⟩ := rva.get hx
    refine wpAny_pyNext_enum_item he h1 pa.isList (x := u) (by simpa using hu) hne fun h' a1 a2 a3 a4 a5 => ?_
    refine ⟨_, rfl, ?_⟩
    refine wpAny_letOwnedTupleGo_enum a1 fun h'' he'' hs'' => ?_
    have ne : s.heap.objs.size ≠ e := Nat.ne_of_gt (Heap.lt_size he)
    have kk : ∀ c o, c ∉ [e, it] → s.heap.get? c = some o → h''.get? c = some o := fun c o hcn q => by
      have hcn' : ¬ (c = e ∨ c = it) := by simpa using hcn
      exact hs''.extBut c o (fun z => hcn' (.inl z)) (a5 c o (fun z => hcn' (.inl z)) (fun z => hcn' (.inr z)) q)
    have hn : H s.heap.objs.size = none := I.hok.fresh (Nat.le_refl _)
    refine ⟨.ref s.heap.objs.size, upd H s.heap.objs.size (.tup [.int (i : Nat), x]), I.turnedNew (ch := [e, it]) (t' := s.toks + 1) hf kk (Nat.le_refl _) ?_, rfl,
      ⟨_, x, rfl, hn, rfl, fun zs hq => by rw [I.list_inj hq hqa]; exact hx⟩, ⟨⟨u, ?_⟩, a2.extBut hs''.extBut (Ne.symm hne)⟩, fun c hcm => ?_⟩
    · exact ⟨by show 2 ≤ sizeLine; decide, [.int i s.toks, u], .cons ⟨_, rfl⟩ (.cons ru .nil), ⟨_, hs''.extBut _ _ ne a3, rfl, _, rfl⟩⟩
    · have q : ((i : Int) + 1) = (((i + 1 : Nat)) : Int) := by omega
      rw [← q]
      exact he''
    · obtain ⟨o, q, _⟩ : ∃ o, s.heap.get? c = some o ∧ True := by
        have hc' : c = e ∨ c = it := by simpa using hcm
        obtain ⟨o1, e1, _⟩ := h1
        rcases hc' with rfl | rfl
        · exact ⟨_, he, trivial⟩
        · exact ⟨_, e1, trivial⟩
      rw [upd_ne (Nat.ne_of_lt (Heap.lt_size q))]
      exact (hf c hcm).1
  done := by
    intro X hP hw hK hc i pins s σ H E I hf st hg
    subst hP hw hK
    obtain ⟨xs, hqa, hend⟩ := hg
    obtain ⟨⟨old, he⟩, h1⟩ := st
    obtain ⟨ita, rva, pa, _⟩ := I.list hqa
    have la := rva.length
    refine wpAny_pyNext_enum_end (I.ok.hd hc) he h1 pa.isList (by simp; omega) fun h' k => ⟨rfl, ?_⟩
    refine I.turnedL (ch := [e, it]) (t' := s.toks) hf fun c o hcn q => ?_
    have hcn' : ¬ (c = e ∨ c = it) := by simpa using hcn
    exact k c o (fun z => hcn' (.inr z)) q
  self := fun _ _ _ _ _ st h => wpAny_pyIter_enum st.1.choose_spec h

section
variable {X : Cx} {elts : List Expr} {k0 : Nat} {tp p pos : Pos}
end
end L2

set_option Elab.async false
set_option linter.all false
set_option maxRecDepth 100000
namespace L2
open PySem PySem.Spec PyProof.Rows
section
variable {X : Cx}
theorem op_is_bl : OpR X (compareOp .Is) (fun x y H Q => ∃ c d, x = .bl c ∧ y = .bl d ∧ Q (.bl (c == d)) H) := by
  intro pins s σ H x y v u Q I rx ry h
  obtain ⟨c, d, e1, e2, q⟩ := h
  subst e1; subst e2
  cases rx
  cases ry
  exact is_bool ⟨.bl _, H, I, rfl, q⟩
theorem op_eqI : OpR X (compareOp .Eq) (rI0 fun i j => .bl (decide (i = j))) := opB0 fun i j _ _ _ _ _ q => eq_int (by rw [Bool.beq_eq_decide_eq]; exact q)
theorem op_neI : OpR X (compareOp .NotEq) (rI0 fun i j => .bl (!decide (i = j))) := opB0 fun i j _ _ _ _ _ q => ne_int (by rw [bne, Bool.beq_eq_decide_eq]; exact q)
theorem op_eqB : OpR X (compareOp .Eq) (fun x y H Q => ∃ i j, x = .bl i ∧ y = .bl j ∧ Q (.bl (i == j)) H) := by
  intro pins s σ H x y v u Q I rx ry h
  obtain ⟨i, j, e1, e2, q⟩ := h
  subst e1; subst e2
  exact op_eq pins s σ H _ _ v u Q I rx ry ⟨rfl, by rw [dec_bl]; exact q⟩
theorem op_neB : OpR X (compareOp .NotEq) (fun x y H Q => ∃ i j, x = .bl i ∧ y = .bl j ∧ Q (.bl (i != j)) H) := by
  intro pins s σ H x y v u Q I rx ry h
  obtain ⟨i, j, e1, e2, q⟩ := h
  subst e1; subst e2
  exact op_ne pins s σ H _ _ v u Q I rx ry ⟨rfl, by rw [dec_bl]; exact q⟩

theorem call_any (hc : X.calm = true) : CallR X (.builtin "any") (fun xs H Q => ∃ (p : Addr) (bs : List Bool), xs = [.ref p] ∧ SqL X.K H p (bs.map V.bl) ∧ Q (.bl (bs.any id)) H) := by
  intro pins s σ H xs us Q I r h
  obtain ⟨p, bs, e, hq, q⟩ := h
  subst e
  obtain ⟨u, rfl, ru⟩ := vals1 r
  cases ru
  obtain ⟨its, rv, pl, hz⟩ := I.list hq
  have hl : s.heap.IsList p its.toArray := pl.isList
  have hlt : p < s.heap.objs.size := by obtain ⟨o, ho, _⟩ := hl; exact Heap.lt_size ho
  have hlen : bs.length = its.length := by have := rv.length; rwa [List.length_map] at this
  refine call_any_walk (wpAny_pyIter_list hl ?_)
  refine ⟨s.heap.objs.size, _, _, _, _, _, fun i => bs.getD i true, rfl, Walks.list (A := X.A.in1) (I.ok.hd hc) _ p (Nat.ne_of_lt hlt) its.toArray, ⟨⟨_, Heap.get?_push_size _ rfl, rfl, rfl⟩, hl.push _⟩, ?_, fun h' tk hk => ?_⟩
  · intro i v s' Q' E' hP hQ
    have hv : its[i]? = some v := by simpa using hP
    have hib : i < its.length := (List.getElem?_eq_some_iff.mp hv).1
    have hb : (bs.map V.bl)[i]? = some (V.bl (bs[i]'(by omega))) := by rw [List.getElem?_map, List.getElem?_eq_getElem (by omega)]; rfl
    obtain ⟨v', hv', rb⟩ := rv.get hb
    rw [hv] at hv'
    cases hv'
    cases rb
    refine wpAny_truthy_bool ?_
    have e : bs.getD i true = bs[i]'(by omega) := by rw [List.getD_eq_getElem?_getD, List.getElem?_eq_getElem (by omega)]; rfl
    have hQ' : Q' (bs.getD i true) s' := hQ
    rw [e] at hQ'
    exact hQ'
  · have I2 : Inv X pins σ H { s with heap := h', toks := tk } := I.kept fun b o e => hk b o (by
      intro z
      have z' : b = s.heap.objs.size := by simpa using z
      rw [z'] at e
      exact absurd (Heap.lt_size e) (Nat.lt_irrefl _)) (Heap.get?_push_of_some _ e)
    refine ⟨.bl (bs.any id), H, I2, ?_, q⟩
    show Value.bool _ = Value.bool _
    congr 1
    have e1 : its.toArray.size = bs.length := by rw [List.size_toArray, hlen]
    rw [e1]
    apply Bool.eq_iff_iff.mpr
    simp only [List.any_eq_true, List.mem_range, id]
    constructor
    · rintro ⟨n, hn, hh⟩
      rw [List.getD_eq_getElem?_getD, List.getElem?_eq_getElem hn] at hh
      exact ⟨_, List.getElem_mem hn, hh⟩
    · rintro ⟨x, hx, hh⟩
      obtain ⟨n, hn, rfl⟩ := List.mem_iff_getElem.mp hx
      refine ⟨n, hn, ?_⟩
      rw [List.getD_eq_getElem?_getD, List.getElem?_eq_getElem hn]
      exact hh

def pickL {α : Type} (xs : List α) (lo hi st : Option Int) : List α :=
  (sliceRange (sliceBounds lo hi st xs.length).1 (sliceBounds lo hi st xs.length).2.1 (sliceBounds lo hi st xs.length).2.2).filterMap (xs[·]?)
theorem Vals.picks {xs : List V} {us : List Value} (r : Vals xs us) : ∀ js : List Nat, Vals (js.filterMap (xs[·]?)) (js.filterMap (us[·]?))
  | [] => .nil
  | j :: js => by
    rw [List.filterMap_cons, List.filterMap_cons]
    cases e : xs[j]? with
    | none => rw [r.none_of e]; exact Vals.picks r js
    | some x =>
      obtain ⟨u, hu, ru⟩ := r.get e
      rw [hu]
      exact .cons ru (Vals.picks r js)
theorem slicePick_pickL (its : List Value) (lo hi st : Option Int) : slicePick its.toArray lo hi st = (pickL its lo hi st).toArray := by
  unfold slicePick pickL
  simp
def tSl3 (K : PySem.W.Frag) (te : TE) (tl th ts : TO) : TE := fun σ H Q => te σ H fun x H1 => tl σ H1 fun l H2 => th σ H2 fun u H3 => ts σ H3 fun st H4 => ∃ a xs, x = .ref a ∧ SqL K H4 a xs ∧ st ≠ some 0 ∧ ∀ p, H4 p = none → Q (.ref p) (upd H4 p (.lst (pickL xs l u st)))
theorem pe_slice3 {e : Expr} {lo hi : Option Expr} {st : Expr} {te : TE} {tl th ts : TO} {p2 pos : Pos} (he : PE X e te) (hl : PO X lo tl) (hu : PO X hi th) (hst : PO X (some st) ts) : PE X (.Subscript e (.Slice lo hi (some st) p2) pos) (tSl3 X.K te tl th ts) := by
  intro pins s σ H Q I h
  refine Subscript_ (thn (he pins s σ H _ I h) fun v s1 ⟨x, H1, I1, r1, q1⟩ => ?_)
  refine wpAny_Slice (thn (hl pins s1 σ H1 _ I1 q1) fun vl s2 ⟨l, H2, I2, pl, q2⟩ => thn (hu pins s2 σ H2 _ I2 q2) fun vu s3 ⟨u, H3, I3, pu, q3⟩ => thn (hst pins s3 σ H3 _ I3 q3) fun vs s4 ⟨k, H4, I4, ps, q4⟩ => ?_)
  obtain ⟨a, xs, rfl, hx, h0, q⟩ := q4
  cases r1
  have I5 : Inv X pins σ H4 { s4 with heap := s4.heap.push { cls := .type "slice", data := .fields #[vl, vu, vs] } } := I4.kept (t' := s4.toks) fun b ob q => Heap.get?_push_of_some _ q
  obtain ⟨its, r, ht, hz⟩ := I5.list hx
  have hlen := r.length
  show wpAny (model X.prog X.w) X.A (subscriptTail e (.Slice lo hi (some st) p2) (.ref a) (.ref s4.heap.objs.size)) (EP X pins σ Q) X.xe { s4 with heap := s4.heap.push { cls := .type "slice", data := .fields #[vl, vu, vs] } }
  refine tail_any (ops := [.ref a, .ref s4.heap.objs.size]) ht.isList.typeIs slot_list_getitem.lookup ?_ (by with_unfolding_all rfl)
  refine wpAny_getItem_list_slice ht.isList (Heap.IsSliceOf.new ..) pl pu ps h0 ?_ (by rw [List.size_toArray] <;> omega)
  rw [slicePick_pickL]
  have e : pickL its l u k = (sliceRange (sliceBounds l u k xs.length).1 (sliceBounds l u k xs.length).2.1 (sliceBounds l u k xs.length).2.2).filterMap (its[·]?) := by
    unfold pickL; rw [hlen]
  have hpz : (pickL xs l u k).length ≤ sizeLine := by
    have z := slicePick_size_le its.toArray l u k
    rw [slicePick_pickL, List.size_toArray, List.size_toArray, e] at z
    have z2 := (r.picks (sliceRange (sliceBounds l u k xs.length).1 (sliceBounds l u k xs.length).2.1 (sliceBounds l u k xs.length).2.2)).length
    show (List.filterMap _ _).length ≤ _
    rw [z2]
    omega
  refine ⟨.ref (s4.heap.push { cls := .type "slice", data := .fields #[vl, vu, vs] }).objs.size, _, I5.laid (t' := s4.toks) (o := .lst (pickL xs l u k)) (fun b ob q => Heap.get?_push_of_some _ q) (Nat.le_refl _) ?_, rfl, q _ (I5.hok.fresh (Nat.le_refl _))⟩
  refine ⟨hpz, _, 0, ?_, Heap.get?_push_size _ rfl⟩
  rw [e]
  exact r.picks _
theorem pickL_rev {α : Type} (xs : List α) : pickL xs none none (some (-1)) = xs.reverse := by
  unfold pickL sliceBounds sliceRange
  simp only [Option.getD_some, show ¬ ((-1 : Int) > 0) by decide, if_false]
  have hc : ∀ n : Nat, (if (n : Int) - 1 > -1 then ((n : Int) - 1 - -1 - -1 - 1) / - -1 else 0).toNat = n := fun n => by
    by_cases h : n = 0
    · subst h; rfl
    · rw [if_pos (by omega)]; simp
  rw [hc]
  apply List.ext_getElem
  · have key : ∀ (l : List Nat), (∀ j ∈ l, j < xs.length) → (l.filterMap (xs[·]?)).length = l.length := fun l => by
      induction l with
      | nil => intro _; rfl
      | cons j l ih =>
        intro h
        rw [List.filterMap_cons, List.getElem?_eq_getElem (h j List.mem_cons_self)]
        simp only [List.length_cons]
        rw [ih fun k hk => h k (List.mem_cons_of_mem _ hk)]
    rw [key _ (fun j hj => by
      obtain ⟨k, hk, rfl⟩ := List.mem_map.mp hj
      have := List.mem_range.mp hk
      omega)]
    simp
  · intro i h1 h2
    have h2' : i < xs.length := by simpa using h2
    have key : ∀ (l : List Nat) (i : Nat) (h : i < (l.filterMap (xs[·]?)).length), (∀ j ∈ l, j < xs.length) → ∃ (hl : i < l.length), xs[l[i]]? = some (l.filterMap (xs[·]?))[i] := fun l => by
      induction l with
      | nil => intro i h; simp at h
      | cons j l ih =>
        intro i h hj
        have hjl : j < xs.length := hj j List.mem_cons_self
        have ej : xs[j]? = some xs[j] := List.getElem?_eq_getElem hjl
        simp only [List.filterMap_cons, ej] at h ⊢
        cases i with
        | zero => exact ⟨by simp, by simpa using ej⟩
        | succ i =>
          obtain ⟨hl, e⟩ := ih i (by simpa using h) fun k hk => hj k (List.mem_cons_of_mem _ hk)
          exact ⟨by simpa using hl, by simpa using e⟩
    obtain ⟨hl, e⟩ := key _ i h1 (fun j hj => by
      obtain ⟨k, hk, rfl⟩ := List.mem_map.mp hj
      have := List.mem_range.mp hk
      omega)
    simp only [List.getElem_map, List.getElem_range] at e
    rw [List.getElem_reverse]
    rw [show ((xs.length : Int) - 1 + -1 * (i : Int)).toNat = xs.length - 1 - i by omega, List.getElem?_eq_getElem (by omega)] at e
    exact (Option.some.inj e).symm

/-- what == says of items that stand for α -/
def EqTy (X : Cx) {α : Type} [DecidableEq α] (rep : Hp → V → α → Prop) : Prop :=
  ∀ (pins : List (Addr × Obj)) (s : Shared) (σ : St) (H : Hp) (x y : V) (u v : Value) (a b : α), Inv X pins σ H s → RelV x u → RelV y v → rep H x a → rep H y b → SeqAt.EqAt X.A.in1 s u v (decide (a = b))
def repP (K : PySem.W.Frag) : Hp → V → Int × Int → Prop := fun H x p => ∃ a, x = .ref a ∧ SqT K H a [.int p.1, .int p.2]
def RepL (K : PySem.W.Frag) {α : Type} (rep : Hp → V → α → Prop) (H : Hp) (a : Addr) (ds : List α) : Prop := ∃ xs, SqL K H a xs ∧ Paired (rep H) xs ds
theorem Paired.get' {α β : Type} {F : α → β → Prop} : ∀ {l₁ : List α} {l₂ : List β}, Paired F l₁ l₂ → ∀ (i : Nat) (b : β), l₂[i]? = some b → ∃ a, l₁[i]? = some a ∧ F a b
  | _, _, .nil, _, _, h => by simp at h
  | _, _, .cons r t, 0, b, h => by simp at h; subst h; exact ⟨_, rfl, r⟩
  | _, _, .cons r t, i + 1, b, h => by simpa using Paired.get' t i b (by simpa using h)
theorem all_range_eq {α : Type} [DecidableEq α] (ds es : List α) (h : ds.length = es.length) (e : Nat → Bool) (he : ∀ i a b, ds[i]? = some a → es[i]? = some b → e i = decide (a = b)) : (List.range ds.length).all e = decide (ds = es) := by
  apply Bool.eq_iff_iff.mpr
  simp only [List.all_eq_true, List.mem_range, decide_eq_true_eq]
  constructor
  · intro hh
    apply List.ext_getElem? 
    intro i
    by_cases hi : i < ds.length
    · have q := hh i hi
      rw [he i _ _ (List.getElem?_eq_getElem hi) (List.getElem?_eq_getElem (by omega))] at q
      rw [List.getElem?_eq_getElem hi, List.getElem?_eq_getElem (by omega), of_decide_eq_true q]
    · rw [List.getElem?_eq_none (by omega), List.getElem?_eq_none (by omega)]
  · intro hh i hi
    subst hh
    rw [he i _ _ (List.getElem?_eq_getElem hi) (List.getElem?_eq_getElem hi)]
    exact decide_eq_true rfl
theorem lists_items {α : Type} [DecidableEq α] {rep : Hp → V → α → Prop} (E : EqTy X rep) {pins : List (Addr × Obj)} {s : Shared} {σ : St} {H : Hp} {xs ys : List V} {us vs : List Value} {ds es : List α}
    (I : Inv X pins σ H s) (ru : Vals xs us) (rv : Vals ys vs) (pd : Paired (rep H) xs ds) (pe : Paired (rep H) ys es) :
    ∃ e : Nat → Bool, (∀ i a b, ds[i]? = some a → es[i]? = some b → e i = decide (a = b)) ∧ ∀ j (h1 : j < us.toArray.size) (h2 : j < vs.toArray.size), SeqAt.EqAt X.A.in1 s us.toArray[j] vs.toArray[j] (e j) := by
  refine ⟨fun i => match ds[i]?, es[i]? with | some a, some b => decide (a = b) | _, _ => true, fun i a b h1 h2 => by simp only [h1, h2], fun j h1 h2 => ?_⟩
  have lu : us.length = ds.length := by rw [← ru.length, pd.length]
  have lv : vs.length = es.length := by rw [← rv.length, pe.length]
  have j1 : j < us.length := by simpa using h1
  have j2 : j < vs.length := by simpa using h2
  have d1 : ds[j]? = some (ds[j]'(by omega)) := List.getElem?_eq_getElem (by omega)
  have d2 : es[j]? = some (es[j]'(by omega)) := List.getElem?_eq_getElem (by omega)
  obtain ⟨x, hx, rx⟩ := Paired.get' pd j _ d1
  obtain ⟨y, hy, ry⟩ := Paired.get' pe j _ d2
  obtain ⟨u, hu, rxu⟩ := ru.get hx
  obtain ⟨v, hv, ryv⟩ := rv.get hy
  have e1 : us.toArray[j] = u := by
    have := List.getElem?_eq_getElem j1
    rw [hu] at this
    simpa using (Option.some.inj this).symm
  have e2 : vs.toArray[j] = v := by
    have := List.getElem?_eq_getElem j2
    rw [hv] at this
    simpa using (Option.some.inj this).symm
  rw [e1, e2]
  simp only [d1, d2]
  exact E pins s σ H x y u v _ _ I rxu ryv rx ry
theorem op_eqL {α : Type} [DecidableEq α] {rep : Hp → V → α → Prop} (E : EqTy X rep) (hu : X.A.units < cLine) : OpR X (compareOp .Eq) (fun x y H Q => ∃ a b ds es, x = .ref a ∧ y = .ref b ∧ RepL X.K rep H a ds ∧ RepL X.K rep H b es ∧ Q (.bl (decide (ds = es))) H) := by
  intro pins s σ H x y v u Q I rx ry h
  obtain ⟨a, b, ds, es, e1, e2, ⟨xs, hxs, pd⟩, ⟨ys, hys, pe⟩, q⟩ := h
  subst e1; subst e2
  cases rx; cases ry
  obtain ⟨us, ru, pu, _⟩ := I.list hxs
  obtain ⟨vs, rv, pv, _⟩ := I.list hys
  have lu : us.length = ds.length := by rw [← ru.length, pd.length]
  have lv : vs.length = es.length := by rw [← rv.length, pe.length]
  by_cases hl : ds.length = es.length
  · obtain ⟨e, he, hq⟩ := lists_items E I ru rv pd pe
    refine SeqAt.eq_listAt (e := e) pu.isList pv.isList (by simp; omega) hu hq ⟨.bl (decide (ds = es)), H, I, ?_, q⟩
    show Value.bool _ = Value.bool _
    rw [show us.toArray.size = ds.length by simp [lu], all_range_eq ds es hl e he]
  · refine SeqAt.eq_list_lengthsAt pu.isList pv.isList (by simp; omega) hu ⟨.bl (decide (ds = es)), H, I, ?_, q⟩
    show Value.bool _ = Value.bool _
    rw [decide_eq_false fun z => hl (by rw [z])]
theorem op_neL {α : Type} [DecidableEq α] {rep : Hp → V → α → Prop} (E : EqTy X rep) (hu : X.A.units < cLine) : OpR X (compareOp .NotEq) (fun x y H Q => ∃ a b ds es, x = .ref a ∧ y = .ref b ∧ RepL X.K rep H a ds ∧ RepL X.K rep H b es ∧ Q (.bl (!decide (ds = es))) H) := by
  intro pins s σ H x y v u Q I rx ry h
  obtain ⟨a, b, ds, es, e1, e2, ⟨xs, hxs, pd⟩, ⟨ys, hys, pe⟩, q⟩ := h
  subst e1; subst e2
  cases rx; cases ry
  obtain ⟨us, ru, pu, _⟩ := I.list hxs
  obtain ⟨vs, rv, pv, _⟩ := I.list hys
  have lu : us.length = ds.length := by rw [← ru.length, pd.length]
  have lv : vs.length = es.length := by rw [← rv.length, pe.length]
  by_cases hl : ds.length = es.length
  · obtain ⟨e, he, hq⟩ := lists_items E I ru rv pd pe
    refine SeqAt.RcNeAt.lists (e := e) pu.isList pv.isList (by simp; omega) hu hq X.prog X.w X.xe _ ⟨.bl (!decide (ds = es)), H, I, ?_, q⟩
    show Value.bool _ = Value.bool _
    rw [show us.toArray.size = ds.length by simp [lu], all_range_eq ds es hl e he]
  · refine SeqAt.RcNeAt.lists_lengths pu.isList pv.isList (by simp; omega) hu X.prog X.w X.xe _ ⟨.bl (!decide (ds = es)), H, I, ?_, q⟩
    show Value.bool _ = Value.bool _
    rw [decide_eq_false fun z => hl (by rw [z])]
    rfl
/-- pairs of ints -/
theorem eqty_pair (hu : X.A.units + 1 < cLine) : EqTy X (repP X.K) := by
  intro pins s σ H x y u v a b I rx ry ea eb
  obtain ⟨p, ex, hp⟩ := ea
  obtain ⟨q, ey, hq⟩ := eb
  subst ex; subst ey
  cases rx; cases ry
  by_cases hpq : p = q
  · subst hpq
    have e : a = b := by
      have z := I.tuple_inj hp hq
      obtain ⟨a1, a2⟩ := a
      obtain ⟨b1, b2⟩ := b
      injection z with z1 z2
      injection z1 with z1
      injection z2 with z2 _
      injection z2 with z2
      subst z1; subst z2; rfl
    subst e
    rw [decide_eq_true rfl]
    exact SeqAt.EqAt.same _
  · obtain ⟨us, ru, tu, _⟩ := I.tuple hp
    obtain ⟨vs, rv, tv, _⟩ := I.tuple hq
    obtain ⟨u1, u2, rfl, ru1, ru2⟩ := vals2 ru
    obtain ⟨v1, v2, rfl, rv1, rv2⟩ := vals2 rv
    have e1 := eqAt_V (A := X.A.in1.in1) (s := s) ru1 rv1 rfl rfl
    have e2 := eqAt_V (A := X.A.in1.in1) (s := s) ru2 rv2 rfl rfl
    have z := SeqAt.RcAt.tuples (A := X.A.in1) (s := s) (e := fun j => if j = 0 then eqV (.int a.1) (.int b.1) else eqV (.int a.2) (.int b.2)) (show s.heap.IsTuple p #[u1, u2] from tu) (show s.heap.IsTuple q #[v1, v2] from tv) hu (fun j h1 h2 => by
      have h1' : j < 2 := h1
      match j, h1' with
      | 0, _ => exact e1
      | 1, _ => exact e2)
    have w := SeqAt.EqAt.of_refs hpq z
    have ek : ((List.range (min (#[u1, u2] : Array Value).size (#[v1, v2] : Array Value).size)).all (fun j => if j = 0 then eqV (.int a.1) (.int b.1) else eqV (.int a.2) (.int b.2)) && (#[u1, u2] : Array Value).size == (#[v1, v2] : Array Value).size) = decide (a = b) := by
      show ((if 0 = 0 then (a.1 == b.1) else (a.2 == b.2)) && ((if 1 = 0 then (a.1 == b.1) else (a.2 == b.2)) && true) && true) = _
      obtain ⟨a1, a2⟩ := a
      obtain ⟨b1, b2⟩ := b
      by_cases h1 : a1 = b1
      · by_cases h2 : a2 = b2
        · subst h1; subst h2; simp
        · rw [decide_eq_false (fun z => h2 (Prod.mk.inj z).2)]; simp [h2]
      · rw [decide_eq_false (fun z => h1 (Prod.mk.inj z).1)]; simp [h1]
    rw [ek] at w
    exact w
end
end L2

set_option Elab.async false
set_option linter.all false
set_option maxRecDepth 100000
namespace L2
open PySem PySem.Spec PyProof.Rows
section
variable {X : Cx} {a b c d : Expr} {ta tb tc td : TE} {pos : Pos}
/-- a op1 b op2 c op3 d -/
def tChain3 (r r' r'' : R2) (ta tb tc td : TE) : TE := fun σ H Q => ta σ H fun x H1 => tb σ H1 fun y H2 => r x y H2 fun z H3 => ∃ k, z = .bl k ∧
  (if k = true then tc σ H3 fun w' H4 => r' y w' H4 fun z2 H5 => ∃ k2, z2 = .bl k2 ∧ (if k2 = true then td σ H5 fun w2 H6 => r'' w' w2 H6 Q else Q (.bl false) H5) else Q (.bl false) H3)
theorem pt_chain3 {op op' op'' : CmpOp} {r r' r'' : R2} (ho : OpR X (compareOp op) r) (ho' : OpR X (compareOp op') r') (ho'' : OpR X (compareOp op'') r'') (ha : PE X a ta) (hb : PE X b tb) (hc : PE X c tc) (hd : PE X d td)
    (hm : lastMarks [op, op', op''] [b, c, d] = false := by with_unfolding_all rfl) : PT X (.Compare a [op, op', op''] [b, c, d] pos) (tTest (tChain3 r r' r'' ta tb tc td)) := by
  intro pins s σ H Q I h
  refine isTrue_chain (thn (ha pins s σ H _ I h) fun v s1 ⟨x, H1, I1, r1, q1⟩ => test_link (thn (hb pins s1 σ H1 _ I1 q1) fun u s2 ⟨y, H2, I2, r2, q2⟩ =>
    thn (ho pins s2 σ H2 x y v u _ I2 r1 r2 q2) fun d s3 ⟨z, H3, I3, r3, k, e, q3⟩ => ?_)) hm
  subst e
  cases r3
  refine wpAny_truthy_bool ?_
  cases k with
  | false =>
    obtain ⟨k', e', q'⟩ := q3
    cases e'
    exact ite_ff ⟨H3, I3, q'⟩
  | true =>
    refine ite_tt (test_link (thn (hc pins s3 σ H3 _ I3 q3) fun w' s4 ⟨z', H4, I4, r4, q4⟩ => thn (ho' pins s4 σ H4 y z' u w' _ I4 r2 r4 q4) fun d' s5 ⟨z2, H5, I5, r5, k2, e2, q5⟩ => ?_))
    subst e2
    cases r5
    refine wpAny_truthy_bool ?_
    cases k2 with
    | false =>
      obtain ⟨k', e', q'⟩ := q5
      cases e'
      exact ite_ff ⟨H5, I5, q'⟩
    | true =>
      refine ite_tt (test_last (thn (hd pins s5 σ H5 _ I5 q5) fun w2 s6 ⟨z3, H6, I6, r6, q6⟩ => thn (ho'' pins s6 σ H6 z' z3 w' w2 _ I6 r4 r6 q6) fun d2 s7 ⟨z4, H7, I7, r7, k4, e4, q7⟩ => ?_))
      subst e4
      cases r7
      exact wpAny_truthy_bool ⟨H7, I7, q7⟩
end
end L2

set_option Elab.async false
set_option linter.all false
set_option maxRecDepth 100000
namespace L2
open PySem PySem.Spec PyProof.Rows
section
variable {X : Cx}
def clsV : V → Option Value
  | .ref a => some (.ref a)
  | .ty n => some (.type n)
  | _ => none
theorem call_isinst : CallR X (.builtin "isinstance") (fun xs H Q => ∃ x c t k b, xs = [x, c] ∧ TyOf X.K H x t ∧ clsV c = some k ∧ PySem.W.kitOne X.K t k = some b ∧ Q (.bl b) H) := by
  intro pins s σ H xs us Q I r h
  obtain ⟨x, c, t, k, b, e, ty, hk, e2, q⟩ := h
  subst e
  obtain ⟨u, v, rfl, ru, rv⟩ := vals2 r
  have ev : v = k := by
    cases c with
    | ref a => cases rv; cases hk; rfl
    | ty n => cases rv; cases hk; rfl
    | _ => cases hk
  subst ev
  exact isinst_ok I ru ty e2 fun tk => ⟨.bl b, H, I.tok tk, rfl, q⟩

theorem pe_fldK {K : PySem.W.Frag} {e : Expr} {f : Str} {pos : Pos} {ta : TE} (he : PE X e ta) (hb : attributeBase e f X.env (eval e X.env) = eval e X.env) (hK : X.K = K) : PE X (.Attribute e f pos) (tFld K ta f) := hK ▸ pe_fld he hb
end
end L2

set_option Elab.async false
set_option linter.all false
set_option maxRecDepth 100000
namespace L2
open PySem
theorem Same.tup {K : PySem.W.Frag} {H H' : Hp} {a : Addr} {xs : List V} (e : Same H H') (h : SqT K H a xs) : SqT K H' a xs := by
  rcases h with (h | ⟨o, h⟩) | h
  · exact .inl (.inl (e _ _ h))
  · exact .inl (.inr ⟨o, e _ _ h⟩)
  · exact .inr h
theorem same_new {H : Hp} {p : Addr} (h : H p = none) (o : HO) : Same H (upd H p o) := fun b u q => by rw [upd_ne (ne_of_none q h)]; exact q
/-- a list of ints -/
def IntsAt (K : PySem.W.Frag) (H : Hp) (a : Addr) (ns : List Int) : Prop := SqL K H a (ns.map V.int)
theorem Same.ints {K : PySem.W.Frag} {H H' : Hp} {a : Addr} {ns : List Int} (e : Same H H') (h : IntsAt K H a ns) : IntsAt K H' a ns := e.seq h
/-- a list of pairs of ints -/
def PairsAt (K : PySem.W.Frag) (H : Hp) (a : Addr) (rs : List (Int × Int)) : Prop := ∃ as : List Addr, SqL K H a (as.map V.ref) ∧ Paired (fun b (p : Int × Int) => SqT K H b [.int p.1, .int p.2]) as rs
theorem Same.pairs {K : PySem.W.Frag} {H H' : Hp} {a : Addr} {rs : List (Int × Int)} (e : Same H H') (h : PairsAt K H a rs) : PairsAt K H' a rs := by
  obtain ⟨as, h1, h2⟩ := h
  exact ⟨as, e.seq h1, Paired.mapP h2 fun b p q => e.tup q⟩
theorem ints_get {ns : List Int} {i : Nat} {x : V} (h : (ns.map V.int)[i]? = some x) : ∃ n, ns[i]? = some n ∧ x = .int n := by
  rw [List.getElem?_map] at h
  cases e : ns[i]? with
  | none => rw [e] at h; cases h
  | some n => rw [e] at h; exact ⟨n, rfl, (Option.some.inj h).symm⟩
theorem pairs_get {K : PySem.W.Frag} {H : Hp} {as : List Addr} {rs : List (Int × Int)} (h : Paired (fun b (p : Int × Int) => SqT K H b [.int p.1, .int p.2]) as rs) {i : Nat} {x : V} (hx : (as.map V.ref)[i]? = some x) :
    ∃ b p, x = .ref b ∧ as[i]? = some b ∧ rs[i]? = some p ∧ SqT K H b [.int p.1, .int p.2] := by
  rw [List.getElem?_map] at hx
  cases e : as[i]? with
  | none => rw [e] at hx; cases hx
  | some b =>
    rw [e] at hx
    have hi : i < rs.length := by
      have := h.length
      have := (List.getElem?_eq_some_iff.mp e).1
      omega
    obtain ⟨b', eb, hq⟩ := Paired.get' h i _ (List.getElem?_eq_getElem hi)
    rw [e] at eb
    cases eb
    exact ⟨b, _, (Option.some.inj hx).symm, rfl, List.getElem?_eq_getElem hi, hq⟩
theorem take_snoc {α : Type} {xs : List α} {i : Nat} {x : α} (h : xs[i]? = some x) : xs.take (i + 1) = xs.take i ++ [x] := by
  rw [List.take_add_one, h]; rfl
theorem small100 {n : Nat} (h : n ≤ 1000) : n ≤ sizeLine := Nat.le_of_lt (small1000 h)
/-- what a turn of a test's reading needs -/
theorem decT {p : Prop} [Decidable p] (h : p) : decide p = true := decide_eq_true h
theorem decF {p : Prop} [Decidable p] (h : ¬ p) : decide p = false := decide_eq_false h
def gcdL (ns : List Int) : Nat := ns.foldl (fun g n => Nat.gcd g n.natAbs) 0
def lcmL (ts : List Int) : Int := ts.foldl (fun w t => w / (Int.gcd w t : Int) * t) 1
end L2
namespace L2
open PySem
theorem comp_enum {K : PySem.W.Frag} {a : Addr} {xs : List V} {B : V → Hp → (V → Hp → Prop) → Prop} {F : List V → Hp → Prop} {H : Hp} (Pv : Nat → List V → Hp → Prop) (h0 : Pv 0 [] H) (hz : xs.length ≤ sizeLine)
    (hl : ∀ i zs H, i ≤ xs.length → Pv i zs H → SqL K H a xs ∧ zs.length = i)
    (hs : ∀ i x zs H p, xs[i]? = some x → Pv i zs H → H p = none → B (.ref p) (upd H p (.tup [.int (i : Nat), x])) fun z H4 => Pv (i + 1) (zs ++ [z]) H4)
    (hd : ∀ zs H, Pv xs.length zs H → F zs H) :
    ∃ W : Nat → Nat → List V → Hp → Prop, (∃ m, W 0 m [] H) ∧ ∀ i m zs H, W i m zs H →
      ((Ite K a).stop i H ∧ zs.length ≤ sizeLine ∧ F zs H) ∨
      ((Ite K a).go i H ∧ zs.length ≤ sizeLine ∧ ∃ N1 : V → Hp → Prop, (∀ y H', N1 y H' → ∃ m', m' < m ∧ W (i + 1) m' (zs ++ [y]) H') ∧ ∀ x H', (Ite K a).yld i H x H' → B x H' N1) := by
  refine ⟨fun i m zs H => m = xs.length - i ∧ i ≤ xs.length ∧ Pv i zs H, ⟨xs.length, by simp, Nat.zero_le _, h0⟩, ?_⟩
  rintro i m zs H ⟨rfl, hi, p⟩
  obtain ⟨q1, el⟩ := hl i zs H hi p
  have hzz : zs.length ≤ sizeLine := by rw [el]; exact Nat.le_trans hi hz
  by_cases hlt : i < xs.length
  · refine .inr ⟨⟨xs, xs[i], q1, by simp [hlt]⟩, hzz, fun y H4 => Pv (i + 1) (zs ++ [y]) H4, fun y H' q4 => ⟨xs.length - (i + 1), by omega, rfl, hlt, q4⟩, fun x H' y => ?_⟩
    obtain ⟨r, u, rfl, hr, rfl, hu⟩ := y
    exact hs i u zs H r (hu xs q1) p hr
  · have e : i = xs.length := by omega
    exact .inl ⟨⟨xs, q1, by omega⟩, hzz, hd zs H (e ▸ p)⟩
end L2

set_option Elab.async false
set_option linter.all false
set_option maxRecDepth 100000
namespace L2
open PySem PySem.Spec PyProof.Rows
def notStar : Expr → Bool
  | .Starred _ _ => false
  | _ => true
theorem starEach_ns {e : Expr} {es : List Expr} {env : Env} (h : notStar e = true) : starEach (e :: es) env = (false, eval e env) :: starEach es env := by
  cases e <;> first | rfl | cases h
theorem pa_consN {X : Cx} {e : Expr} {es : List Expr} {te : TE} {t : TA} (ha : PE X e te) (hr : PA X es t) (hn : notStar e = true := by rfl) : PA X (e :: es) (tCons te t) := pa_cons ha hr (starEach_ns hn)
/-- written ints alone -/
def intsOf : List Expr → Option (List Int)
  | [] => some []
  | .Constant (.int i) _ _ :: es => (intsOf es).map (i :: ·)
  | _ => none
def tInts (ns : List Int) : TA := fun _ H Q => Q (ns.map V.int) H
theorem pa_ints {X : Cx} : ∀ {es : List Expr} {ns : List Int}, intsOf es = some ns → PA X es (tInts ns)
  | [], ns, h => by
    cases h
    exact fun pos pins s σ H Q I hq => pa_nil pos pins s σ H Q I hq
  | e :: es, ns, h => by
    cases e with
    | Constant c k p =>
      cases c with
      | int i =>
        have h' : (intsOf es).map (i :: ·) = some ns := h
        cases e2 : intsOf es with
        | none => rw [e2] at h'; cases h'
        | some ms =>
          rw [e2] at h'
          cases h'
          have ih := pa_ints (X := X) e2
          exact fun pos pins s σ H Q I hq => pa_cons (X := X) (pe_int (i := i)) ih (starEach_ns rfl) pos pins s σ H Q I hq
      | _ => cases h
    | _ => cases h
theorem pe_tupI {X : Cx} {es : List Expr} {k : Nat} {pos : Pos} {ns : List Int} (h : intsOf es = some ns) : PE X (.Tuple es k pos) (tTup (tInts ns)) := pe_tup (pa_ints h)
end L2

set_option Elab.async false
set_option linter.all false
set_option maxRecDepth 100000
namespace L2
open PySem PySem.Spec PyProof.Rows
section
variable {prog : Program} {w : World} {A : Around} {E : Value → Shared → Prop} {s : Shared}
end

section
variable {X : Cx} {tg : Expr}
end
end L2

set_option Elab.async false
set_option linter.all false
set_option maxRecDepth 100000
namespace L2
open PySem PySem.Spec PyProof.Rows
/-- two readings of one expression: whichever holds -/
theorem pe_alt {X : Cx} {e : Expr} {t u : TE} (h1 : PE X e t) (h2 : PE X e u) : PE X e (fun σ H Q => t σ H Q ∨ u σ H Q) := fun pins s σ H Q I h => by
  rcases h with h | h
  · exact h1 pins s σ H Q I h
  · exact h2 pins s σ H Q I h
end L2

set_option Elab.async false
set_option linter.all false
set_option maxRecDepth 100000
namespace L2
open PySem PySem.Spec PyProof.Rows
/-- a list that is tracked, or written as a plain one at the top -/
def SqX (K : PySem.W.Frag) (H : Hp) (a : Addr) (xs : List V) : Prop :=
  Rd H a (.lst xs) ∨ ∃ (its : Array Value) (n : Nat), K.lookup a = some { cls := .type "list", dict := none, data := .seq its n, slots := #[] } ∧ its.size ≤ sizeLine ∧ Vals xs its.toList
theorem SqX.sq {K : PySem.W.Frag} {H : Hp} {a : Addr} {xs : List V} (h : SqX K H a xs) : SqL K H a xs := by
  rcases h with h | ⟨its, n, hk, hz, r⟩
  · exact .inl h
  · exact .inr ⟨_, its, n, hk, rfl, rfl, rfl, hz, r⟩
theorem SqX.same {K : PySem.W.Frag} {H H' : Hp} {a : Addr} {xs : List V} (e : Same H H') (h : SqX K H a xs) : SqX K H' a xs := by
  rcases h with (h | ⟨o, h⟩) | h
  · exact .inl (.inl (e _ _ h))
  · exact .inl (.inr ⟨o, e _ _ h⟩)
  · exact .inr h
theorem SqX.of {K : PySem.W.Frag} {H : Hp} {a : Addr} {xs : List V} (h : H a = some (.lst xs)) : SqX K H a xs := .inl (.inl h)
theorem SqX.obj {X : Cx} {pins : List (Addr × Obj)} {σ : St} {H : Hp} {s : Shared} {a : Addr} {xs : List V} (h : SqX X.K H a xs) (I : Inv X pins σ H s) : ∃ (its : Array Value) (n : Nat), s.heap.get? a = some { cls := .type "list", dict := none, data := .seq its n, slots := #[] } := by
  rcases h with h | ⟨its, n, hk, _, _⟩
  · obtain ⟨_, its, n, _, eo⟩ := h.ok I.hok
    exact ⟨_, _, eo⟩
  · exact ⟨its, n, I.kIn a _ hk⟩
section
variable {X : Cx} {elts : List Expr} {k0 : Nat} {tp p pos : Pos}
def iEnumX (K : PySem.W.Frag) (ta : TA) : TI := fun σ H R => ta σ H fun vs H1 => ∃ a, vs = [.ref a] ∧ (∃ xs, SqX K H1 a xs) ∧ R (Ite K a) H1
theorem pi_enumX {a : Expr} {ta : TA} (hg : Gl X "enumerate") (hm : X.mg "enumerate" = none) (ha : PA X [a] ta) (hs : starEach [a] X.env = [(false, eval a X.env)] := by rfl) :
    PI X (.Tuple elts k0 tp) (.Call (.Name "enumerate" p) [a] [] pos) (iEnumX X.K ta) := by
  intro pins s σ H R I h
  refine Call_ (ld_blt I hg hm boot_enumerate (PyProof.Rows.callWith_type1 (thn (ha pos pins s σ H _ I h) fun us s1 ⟨vs, H1, I1, r1, q1⟩ => ?_) hs rfl))
  obtain ⟨l1, e, ⟨xs, hqa⟩, q⟩ := q1
  subst e
  obtain ⟨u, rfl, ru⟩ := vals1 r1
  cases ru
  obtain ⟨its, n, eo⟩ := hqa.obj I1
  refine call_enumerate_1 eo fun h' a1 a2 a3 a4 => wpAny_pyIter_enum a1 ?_
  refine ⟨s1.heap.objs.size + 1, _, _, _, H1, rfl, I1.kept (t' := s1.toks) a4, turn_enum (Nat.ne_of_gt (Nat.lt_succ_self _)), ⟨⟨_, a1⟩, a2⟩, fun c hc => ?_, q⟩
  have hc' : c = s1.heap.objs.size + 1 ∨ c = s1.heap.objs.size := by simpa using hc
  have hge : s1.heap.objs.size ≤ c := by rcases hc' with z | z <;> (rw [z]; first | exact Nat.le_refl _ | exact Nat.le_add_right _ _)
  exact I1.fpOk hge (I1.hok.fresh hge)
end
theorem law_callX {P : Program} {w : World} {K : PySem.W.Frag} {mg mb : Str → Option Value} {CX : CXT} {k : Nat} {fa a : Addr} {fd : FuncData} {x : Str} {sp : Sp} {s₁ : Shared} {vs : List Value} {ns : List Int}
    (KX : K.In s₁.heap) (hns : s₁.heap.Ns mainGlobals mg) (hb : s₁.heap.Ns builtinsNs mb) (hbb : ∀ x : Str, x ≠ "__name__" → mb x = bootBuiltins x) (hlim : s₁.heap.NoLimit) (hg : s₁.gens = #[])
    (ha : s₁.heap.get? a = some { cls := .type "list", data := .seq vs.toArray }) (hi : IntsAre vs ns) (hl : ns.length ≤ sizeLine) (hr : Room k callerA)
    (F : ∀ base : Heap, K.In base → base.Ns mainGlobals mg → FnOk P w K mg base CX k fa fd [x] sp) (hbind : ∀ (s : Shared) (u : Value), BindsTo s fd ⟨[u], []⟩ [(x, u)])
    (hsp : ∀ H : Hp, Only H → SqX K H a (ns.map V.int) → sp [.ref a] H (fun v _ => v = .bl true) fun _ _ _ => False)
    (hCX : ∀ H e s', CX [] H s₁ (fun _ _ _ => False) e s' → False) :
    codeAny (model P w) callerA (.call (.ref fa) ⟨[.ref a], []⟩) (fun r s' => r = .ok (.ret (.bool true)) ∧ OldK s₁.heap s'.heap ∧ s'.os = s₁.os ∧ AllBare s'.gens) s₁ := by
  have rv := vals_ints hi
  have lenV := hi.length
  -- from an abstract heap in which nothing but the script may be tracked
  have core : ∀ H : Hp, Only H → SqX K H a (ns.map V.int) → HOk P w H s₁.heap → (∀ b, H b ≠ none → b = a) → (H a ≠ none → K.lookup a = none) →
      codeAny (model P w) callerA (.call (.ref fa) ⟨[.ref a], []⟩) (fun r s' => r = .ok (.ret (.bool true)) ∧ OldK s₁.heap s'.heap ∧ s'.os = s₁.os ∧ AllBare s'.gens) s₁ := by
    intro H hO hS hok hA hK
    have base_of : ∀ {b : Addr} {o : Obj}, s₁.heap.get? b = some o → H b = none → (hidT s₁.heap H).get? b = some o := fun e n => hidT_get e n
    have noA : ∀ {b : Addr} {o : Obj} {es : Array DictEntry} {ep : Nat}, s₁.heap.get? b = some o → o.data = .dict es ep → H b = none := fun {b o es ep} e d => by
      cases q : H b with
      | none => rfl
      | some u =>
        have e' : b = a := hA b (by rw [q]; simp)
        subst e'
        rw [ha] at e; cases e
        have d' : Data.seq vs.toArray _ = Data.dict es ep := d
        cases d'
    have nsK : ∀ {b : Addr} {m : Str → Option Value}, s₁.heap.Ns b m → (hidT s₁.heap H).Ns b m := fun {b m} ⟨o, es, ep, e, d, r⟩ => ⟨o, es, ep, base_of e (noA e d), d, r⟩
    have hKb : K.In (hidT s₁.heap H) := fun b o e => base_of (KX b o e) (by
      cases q : H b with
      | none => rfl
      | some u =>
        have e' : b = a := hA b (by rw [q]; simp)
        subst e'
        rw [hK (by rw [q]; simp)] at e; cases e)
    have hM : Mod K mg (hidT s₁.heap H) := ⟨hKb, nsK hns, ⟨mb, nsK hb, hbb⟩, let ⟨mc, h1, h2⟩ := hlim; ⟨mc, nsK h1, h2⟩⟩
    have e0 : Env0 P w K mg (hidT s₁.heap H) callerA [] s₁ H := ⟨rfl, hM, fun b o e => of_hidT e, Nat.le_of_eq (hidT_size _ _), trivial, fun b hb => absurd (show b ∈ ([] : List Addr) from hb) (by simp), hok, .of_eq hg⟩
    refine codeAny_mono ((F _ hKb (nsK hns)).run callerA [] s₁ H ⟨[.ref a], []⟩ [.ref a] [.ref a] _ _ hr e0 (hbind s₁ (.ref a)) (.cons rfl .nil) (hsp H hO hS)) fun r s' h => ?_
    cases r with
    | error e => exact (hCX H e s' h).elim
    | ok fl =>
      cases fl with
      | next => exact False.elim h
      | brk => exact False.elim h
      | cont => exact False.elim h
      | ret u =>
        obtain ⟨v, H', os, bare, un, hok', r', q⟩ := h
        have q' : v = .bl true := q
        subst q'
        obtain rfl : u = Value.bool true := r'
        refine ⟨rfl, OldK.of_keep fun b o e => ?_, os, bare⟩
        cases q : H b with
        | none => exact un.keep b o e q (by intro z; exact absurd (show b ∈ ([] : List Addr) from z) (by simp)) (by simp)
        | some u =>
          rcases hO b with z | ⟨ob, xs, z⟩
          · rw [q] at z; cases z
          · have z2 := un.frzs b ob _ z
            obtain ⟨e1, _⟩ := hok b _ z
            obtain ⟨e2, _⟩ := hok' b _ z2
            rw [e] at e1; cases e1
            exact e2
  cases hk : K.lookup a with
  | some o =>
    -- the script is one of the module's own objects
    have e := KX a o hk
    rw [ha] at e
    cases e
    refine core (fun _ => none) (fun _ => .inl rfl) (.inr ⟨vs.toArray, _, hk, by rw [List.size_toArray, lenV]; exact hl, by simpa using rv⟩) (fun b u z => by have z' : (none : Option HO) = some u := z; cases z') (fun b z => absurd rfl z) fun z => absurd rfl z
  | none =>
    refine core (fun b => if b = a then some (.frz { cls := .type "list", data := .seq vs.toArray } (.lst (ns.map V.int))) else none) (fun b => ?_) (.inl (.inr ⟨{ cls := .type "list", data := .seq vs.toArray }, if_pos rfl⟩)) (fun b u z => ?_) (fun b z => ?_) fun _ => hk
    · by_cases hb : b = a
      · exact .inr ⟨_, _, if_pos hb⟩
      · exact .inl (if_neg hb)
    · by_cases hb : b = a
      · have z' := (if_pos hb).symm.trans z
        cases z'
        subst hb
        exact ⟨ha, by rw [List.length_map]; exact hl, vs, _, rv, ha⟩
      · have z' := (if_neg hb).symm.trans z
        cases z'
    · by_cases hb : b = a
      · exact hb
      · exact absurd (if_neg hb) z
theorem walk_ofX {l : PySem.W.OpenLaw} {n k : Nat} {q : Program} {loose : List Str} {XP : (Str → Option Value) → Heap → Prop} {YP : World → Heap → Prop} {d : DefRec} {K : Params → PySem.W.Frag} {CX : World → CXT} {sp : World → Sp} {x : Str}
    (hn : l.most = some n) (hn2 : n ≤ sizeLine) (hdf : d.params.defaults = []) (hr : Room k callerA)
    (hY : ∀ (w : World) (h : Heap), YP w h → (K w.params).In h)
    (F : ∀ (w : World) (mg : Str → Option Value) (fa : Addr) (h : Heap), (K w.params).In h → h.Ns mainGlobals mg → mg d.name = some (.ref fa) →
      ∃ fd : FuncData, (∀ (s : Shared) (u : Value), BindsTo s fd ⟨[u], []⟩ [(x, u)]) ∧
        ∀ base : Heap, (K w.params).In base → base.Ns mainGlobals mg → FnOk l.prog w (K w.params) mg base (CX w) k fa fd [x] (sp w))
    (hsp : ∀ (w : World) (H : Hp) (a : Addr) (ns : List Int), ns.length ≤ n → Only H → SqX (K w.params) H a (ns.map V.int) → sp w [.ref a] H (fun v _ => v = .bl true) fun _ _ _ => False)
    (hCX : ∀ (w : World) (H : Hp) (s : Shared) (e : Value) (s' : Shared), CX w [] H s (fun _ _ _ => False) e s' → False) :
    PySem.W.WalkO q loose XP YP l.row.toRowW d [] (fun f vs => PySem.call f vs) := by
  refine Att.attach_call hn hdf fun w s₀ s₁ mg mb fa o pm cd doc a vs ns G Y ho hd hcd hmg hobj hints hlen hg => ?_
  have KX := hY w _ Y
  obtain ⟨fd, hb, hF⟩ := F w mg fa _ KX G.T.g hmg
  exact law_callX KX G.T.g G.T.b G.T.builtins G.T.nolimit hg hobj hints (Nat.le_trans hlen hn2) hr hF hb (fun H hO hS => hsp w H a ns hlen hO hS) fun H e s' => hCX w H s₁ e s'

theorem for_enum {K : PySem.W.Frag} {a : Addr} {xs : List V} {g : TG} {tb : TS} {D : Ends} {σ : St} {H : Hp} (Pv : Nat → St → Hp → Prop) (h0 : Pv 0 σ H) (hl : ∀ i σ H, i ≤ xs.length → Pv i σ H → SqL K H a xs)
    (hs : ∀ i x σ H p, xs[i]? = some x → Pv i σ H → H p = none → g (.ref p) σ (upd H p (.tup [.int (i : Nat), x])) fun σ2 H2 => tb { D with nx := Pv (i + 1), ct := Pv (i + 1), bk := D.nx } σ2 H2) (hd : ∀ σ H, Pv xs.length σ H → D.nx σ H) :
    ∃ W : Nat → Nat → St → Hp → Prop, (∃ m, W 0 m σ H) ∧ ∀ i m σ H, W i m σ H →
      ((Ite K a).stop i H ∧ D.nx σ H) ∨ ((Ite K a).go i H ∧ ∃ N : St → Hp → Prop, (∀ σ' H', N σ' H' → ∃ m', m' < m ∧ W (i + 1) m' σ' H') ∧ ∀ x H', (Ite K a).yld i H x H' → g x σ H' fun σ2 H2 => tb { D with nx := N, ct := N, bk := D.nx } σ2 H2) := by
  refine ⟨fun i m σ H => m = xs.length - i ∧ i ≤ xs.length ∧ Pv i σ H, ⟨xs.length, by simp, Nat.zero_le _, h0⟩, ?_⟩
  rintro i m σ H ⟨rfl, hi, p⟩
  have q := hl i σ H hi p
  by_cases hlt : i < xs.length
  · refine .inr ⟨⟨xs, xs[i], q, by simp [hlt]⟩, Pv (i + 1), fun σ' H' p' => ⟨xs.length - (i + 1), by omega, rfl, hlt, p'⟩, fun x H' y => ?_⟩
    obtain ⟨r, u, rfl, hr, rfl, hu⟩ := y
    exact hs i u σ H r (hu xs q) p hr
  · have e : i = xs.length := by omega
    subst e
    exact .inl ⟨⟨xs, q, Nat.le_refl _⟩, hd σ H p⟩
/-- [e for x in range(..) if c] -/
theorem comp_rangeF {lo : Int} {n : Nat} {B : V → Hp → (V → Hp → Prop) → (Hp → Prop) → Prop} {F : List V → Hp → Prop} {H : Hp} (Pv : Nat → List V → Hp → Prop) (h0 : Pv 0 [] H) (hz : n ≤ sizeLine)
    (hl : ∀ i ys H, i ≤ n → Pv i ys H → ys.length ≤ i)
    (hs : ∀ i ys H, i < n → Pv i ys H → B (.int (lo + i)) H (fun y H4 => Pv (i + 1) (ys ++ [y]) H4) (fun H4 => Pv (i + 1) ys H4))
    (hd : ∀ ys H, Pv n ys H → F ys H) :
    ∃ W : Nat → Nat → List V → Hp → Prop, (∃ m, W 0 m [] H) ∧ ∀ i m ys H, W i m ys H →
      ((Itr lo n).stop i H ∧ ys.length ≤ sizeLine ∧ F ys H) ∨
      ((Itr lo n).go i H ∧ ys.length ≤ sizeLine ∧ ∃ (N1 : V → Hp → Prop) (N0 : Hp → Prop), (∀ y H', N1 y H' → ∃ m', m' < m ∧ W (i + 1) m' (ys ++ [y]) H') ∧ (∀ H', N0 H' → ∃ m', m' < m ∧ W (i + 1) m' ys H') ∧ ∀ x H', (Itr lo n).yld i H x H' → B x H' N1 N0) := by
  refine ⟨fun i m ys H => m = n - i ∧ i ≤ n ∧ Pv i ys H, ⟨n, by simp, Nat.zero_le _, h0⟩, ?_⟩
  rintro i m ys H ⟨rfl, hi, p⟩
  have el := hl i ys H hi p
  have hzz : ys.length ≤ sizeLine := Nat.le_trans (Nat.le_trans el hi) hz
  by_cases hlt : i < n
  · refine .inr ⟨hlt, hzz, fun y H4 => Pv (i + 1) (ys ++ [y]) H4, fun H4 => Pv (i + 1) ys H4, fun y H' q4 => ⟨n - (i + 1), by omega, rfl, hlt, q4⟩, fun H' q4 => ⟨n - (i + 1), by omega, rfl, hlt, q4⟩, fun x H' y => ?_⟩
    obtain ⟨e, y⟩ := y
    subst e y
    exact hs i ys _ hlt p
  · have e : i = n := by omega
    subst e
    exact .inl ⟨Nat.le_refl _, hzz, hd ys H p⟩
end L2

set_option linter.all false
namespace Wr
theorem bez (a b : Nat) : ∃ x y : Int, (Nat.gcd a b : Int) = a * x + b * y := by
  induction a, b using Nat.gcd.induction with
  | H0 n => exact ⟨0, 1, by simp⟩
  | H1 m n hm ih =>
    obtain ⟨x, y, h⟩ := ih
    refine ⟨y - (n / m : Nat) * x, x, ?_⟩
    rw [Nat.gcd_rec, h]
    have e : (n : Int) = m * (n / m : Nat) + (n % m : Nat) := by
      have := Nat.div_add_mod n m
      exact_mod_cast this.symm
    have e2 : ((n % m : Nat) : Int) = n - m * (n / m : Nat) := by omega
    rw [e2]
    generalize ((n / m : Nat) : Int) = q
    rw [Int.sub_mul, Int.mul_sub, Int.mul_assoc]
    omega
theorem gcd_lcm_dvd {a b c : Nat} {x : Int} (ha : 0 < a) (hb : 0 < b) (hc : 0 < c) (h1 : (Nat.gcd a c : Int) ∣ x) (h2 : (Nat.gcd b c : Int) ∣ x) : (Nat.gcd (Nat.lcm a b) c : Int) ∣ x := by
  -- e: the common part of all three
  have key : Nat.gcd (Nat.lcm a b) c ∣ Nat.lcm (Nat.gcd a c) (Nat.gcd b c) := by
    have hepos : 0 < Nat.gcd (Nat.gcd a c) (Nat.gcd b c) := Nat.gcd_pos_of_pos_left _ (Nat.gcd_pos_of_pos_left _ ha)
    have hm : Nat.gcd (Nat.gcd a c) (Nat.gcd b c) * Nat.lcm (Nat.gcd a c) (Nat.gcd b c) = Nat.gcd a c * Nat.gcd b c := Nat.gcd_mul_lcm _ _
    have hge : Nat.gcd (Nat.gcd a c) (Nat.gcd b c) * Nat.gcd (Nat.lcm a b) c ∣ Nat.gcd a c * Nat.gcd b c := by
      have ea : Nat.gcd (Nat.gcd a c) (Nat.gcd b c) ∣ a := Nat.dvd_trans (Nat.gcd_dvd_left _ _) (Nat.gcd_dvd_left _ _)
      have eb : Nat.gcd (Nat.gcd a c) (Nat.gcd b c) ∣ b := Nat.dvd_trans (Nat.gcd_dvd_right _ _) (Nat.gcd_dvd_left _ _)
      have ec : Nat.gcd (Nat.gcd a c) (Nat.gcd b c) ∣ c := Nat.dvd_trans (Nat.gcd_dvd_left _ _) (Nat.gcd_dvd_right _ _)
      have gl : Nat.gcd (Nat.lcm a b) c ∣ Nat.lcm a b := Nat.gcd_dvd_left _ _
      have gc : Nat.gcd (Nat.lcm a b) c ∣ c := Nat.gcd_dvd_right _ _
      generalize hE : Nat.gcd (Nat.gcd a c) (Nat.gcd b c) = e at *
      generalize hG : Nat.gcd (Nat.lcm a b) c = g at *
      have hab : e * g ∣ a * b := by
        rw [← Nat.gcd_mul_lcm a b]
        exact Nat.mul_dvd_mul (Nat.dvd_gcd ea eb) gl
      obtain ⟨x1, y1, e1⟩ := bez a c
      obtain ⟨x2, y2, e2⟩ := bez b c
      have z : ((e * g : Nat) : Int) ∣ ((Nat.gcd a c * Nat.gcd b c : Nat) : Int) := by
        have d1 : ((e * g : Nat) : Int) ∣ ((a * b : Nat) : Int) := Int.ofNat_dvd.mpr hab
        have d2 : ((e * g : Nat) : Int) ∣ ((a * c : Nat) : Int) := Int.ofNat_dvd.mpr (Nat.mul_dvd_mul ea gc)
        have d3 : ((e * g : Nat) : Int) ∣ ((b * c : Nat) : Int) := Int.ofNat_dvd.mpr (Nat.mul_dvd_mul eb gc)
        have d4 : ((e * g : Nat) : Int) ∣ ((c * c : Nat) : Int) := Int.ofNat_dvd.mpr (Nat.mul_dvd_mul ec gc)
        rw [show ((Nat.gcd a c * Nat.gcd b c : Nat) : Int) = (Nat.gcd a c : Int) * (Nat.gcd b c : Int) from Int.natCast_mul _ _, e1, e2]
        have ex : ((a : Int) * x1 + c * y1) * (b * x2 + c * y2) = ((a * b : Nat) : Int) * (x1 * x2) + ((a * c : Nat) : Int) * (x1 * y2) + ((b * c : Nat) : Int) * (y1 * x2) + ((c * c : Nat) : Int) * (y1 * y2) := by
          simp only [Int.natCast_mul, Int.add_mul, Int.mul_add]
          have r1 : (a : Int) * x1 * (b * x2) = a * b * (x1 * x2) := by ac_rfl
          have r2 : (c : Int) * y1 * (b * x2) = b * c * (y1 * x2) := by ac_rfl
          have r3 : (a : Int) * x1 * (c * y2) = a * c * (x1 * y2) := by ac_rfl
          have r4 : (c : Int) * y1 * (c * y2) = c * c * (y1 * y2) := by ac_rfl
          rw [r1, r2, r3, r4]
          omega
        rw [ex]
        exact Int.dvd_add (Int.dvd_add (Int.dvd_add (Int.dvd_mul_of_dvd_left d1) (Int.dvd_mul_of_dvd_left d2)) (Int.dvd_mul_of_dvd_left d3)) (Int.dvd_mul_of_dvd_left d4)
      exact Int.ofNat_dvd.mp z
    rw [← hm] at hge
    exact Nat.dvd_of_mul_dvd_mul_left hepos hge
  have hl : ((Nat.lcm (Nat.gcd a c) (Nat.gcd b c) : Nat) : Int) ∣ x := by
    have q1 : Nat.gcd a c ∣ x.natAbs := Int.ofNat_dvd_left.mp h1
    have q2 : Nat.gcd b c ∣ x.natAbs := Int.ofNat_dvd_left.mp h2
    exact Int.ofNat_dvd_left.mpr (Nat.lcm_dvd q1 q2)
  exact Int.dvd_trans (Int.ofNat_dvd.mpr key) hl
end Wr

set_option linter.all false
namespace Wr
structure EI (A B p o l lo : Int) : Prop where
  p0 : 0 ≤ p
  l0 : 0 ≤ l
  lM : l ≤ 1000000
  oM : -1000000 ≤ o ∧ o ≤ 1000000
  loM : -1000000 ≤ lo ∧ lo ≤ 1000000
  g : Int.gcd p l = Int.gcd A B
  dp : B ∣ p - o * A
  dl : B ∣ l - lo * A
  sg : (0 ≤ o ∧ lo ≤ 0 ∧ o * l - lo * p = B) ∨ (o ≤ 0 ∧ 0 ≤ lo ∧ lo * p - o * l = B)
theorem EI.start {A B : Int} (hA : 0 ≤ A) (hB : 0 ≤ B) (hB2 : B ≤ 1000000) : EI A B A 1 B 0 :=
  ⟨hA, hB, hB2, ⟨by decide, by decide⟩, ⟨by decide, by decide⟩, rfl, by simp, by simp, .inl ⟨by decide, by decide, by simp⟩⟩
theorem le_mul_pos {a b : Int} (ha : 0 ≤ a) (hb : 1 ≤ b) : a ≤ a * b := by
  have := Int.mul_le_mul_of_nonneg_left hb ha
  simpa using this
theorem EI.turn {A B p o l lo : Int} (hB2 : B ≤ 1000000) (h : EI A B p o l lo) (hl : l ≠ 0) : EI A B l lo (p - p / l * l) (o - p / l * lo) := by
  obtain ⟨p0, l0, lM, oM, loM, g, dp, dl, sg⟩ := h
  have hl1 : 1 ≤ l := by omega
  have e : p - p / l * l = p % l := by
    have := Int.emod_add_mul_ediv p l
    rw [Int.mul_comm] at this
    omega
  have r0 := Int.emod_nonneg p hl
  have r1 := Int.emod_lt_of_pos p (show 0 < l by omega)
  have w0 : 0 ≤ p / l := Int.ediv_nonneg p0 l0
  have hg : Int.gcd l (p % l) = Int.gcd A B := by
    rw [← g]
    show Nat.gcd l.natAbs (p % l).natAbs = Nat.gcd p.natAbs l.natAbs
    rw [Int.natAbs_emod_of_nonneg p0, Nat.gcd_comm l.natAbs, ← Nat.gcd_rec, Nat.gcd_comm]
  have hd : B ∣ (p - p / l * l) - (o - p / l * lo) * A := by
    have : (p - p / l * l) - (o - p / l * lo) * A = (p - o * A) - p / l * (l - lo * A) := by
      rw [Int.sub_mul, Int.mul_sub, Int.mul_assoc]; omega
    rw [this]
    exact Int.dvd_sub dp (Int.dvd_mul_of_dvd_right dl)
  have hs : (0 ≤ lo ∧ (o - p / l * lo) ≤ 0 ∧ lo * (p - p / l * l) - (o - p / l * lo) * l = B) ∨ (lo ≤ 0 ∧ 0 ≤ (o - p / l * lo) ∧ (o - p / l * lo) * l - lo * (p - p / l * l) = B) := by
    rcases sg with ⟨s1, s2, s3⟩ | ⟨s1, s2, s3⟩
    · right
      refine ⟨s2, ?_, ?_⟩
      · have : p / l * lo ≤ 0 := Int.mul_nonpos_of_nonneg_of_nonpos w0 s2
        omega
      · rw [← s3, Int.sub_mul, Int.mul_sub]
        have : p / l * lo * l = lo * (p / l * l) := by ac_rfl
        omega
    · left
      refine ⟨s2, ?_, ?_⟩
      · have : 0 ≤ p / l * lo := Int.mul_nonneg w0 s2
        omega
      · rw [← s3, Int.sub_mul, Int.mul_sub]
        have : p / l * lo * l = lo * (p / l * l) := by ac_rfl
        omega
  rw [e] at hd hs ⊢
  generalize o - p / l * lo = n at *
  refine ⟨l0, r0, by omega, loM, ?_, hg, dl, hd, hs⟩
  rcases hs with ⟨s1, s2, s3⟩ | ⟨s1, s2, s3⟩
  · have h1 : 0 ≤ lo * (p % l) := Int.mul_nonneg s1 r0
    have h2 := le_mul_pos (show 0 ≤ -n by omega) hl1
    rw [Int.neg_mul] at h2
    omega
  · have h1 : lo * (p % l) ≤ 0 := Int.mul_nonpos_of_nonpos_of_nonneg s1 r0
    have h2 := le_mul_pos s2 hl1
    omega
/-- what comes out: the part, and how often the one goes -/
structure Pwt (a b g x y : Int) : Prop where
  g_ : g = (Int.gcd a b : Int)
  s : a * x + b * y = g
  xM : -1000000 ≤ x ∧ x ≤ 1000000
  yM : -1000001000000 ≤ y ∧ y ≤ 1000001000000
theorem abs_small {a : Int} (h : -1000000 ≤ a ∧ a ≤ 1000000) : 0 ≤ (a.natAbs : Int) ∧ (a.natAbs : Int) ≤ 1000000 := by omega
theorem mul_small {x a M N : Int} (hx : -M ≤ x ∧ x ≤ M) (ha : -N ≤ a ∧ a ≤ N) (hM : 0 ≤ M) (hN : 0 ≤ N) : -(M * N) ≤ x * a ∧ x * a ≤ M * N := by
  have h1 : (x * a).natAbs ≤ M.natAbs * N.natAbs := by
    rw [Int.natAbs_mul]
    exact Nat.mul_le_mul (by omega) (by omega)
  have h2 : ((M.natAbs * N.natAbs : Nat) : Int) = M * N := by
    rw [Int.natCast_mul]
    rw [show (M.natAbs : Int) = M by omega, show (N.natAbs : Int) = N by omega]
  omega
theorem EI.done {a b p o lo : Int} (ha : -1000000 ≤ a ∧ a ≤ 1000000) (hb : -1000000 ≤ b ∧ b ≤ 1000000) (h : EI (a.natAbs : Int) (b.natAbs : Int) p o 0 lo) :
    Pwt a b p (if a < 0 then -o else o) (if b = 0 then 0 else Int.fdiv (p - (if a < 0 then -o else o) * a) b) ∧ -1000001000000 ≤ p - (if a < 0 then -o else o) * a ∧ p - (if a < 0 then -o else o) * a ≤ 1000001000000 := by
  obtain ⟨p0, l0, lM, oM, loM, g, dp, dl, sg⟩ := h
  have hp : p = (Int.gcd a b : Int) := by
    have e : Int.gcd (a.natAbs : Int) (b.natAbs : Int) = Int.gcd a b := by simp [Int.gcd]
    rw [e, Int.gcd_zero_right] at g
    omega
  have hx : (if a < 0 then -o else o) * a = o * (a.natAbs : Int) := by
    split
    · rw [show (a.natAbs : Int) = -a by omega, Int.neg_mul, Int.mul_neg]
    · rw [show (a.natAbs : Int) = a by omega]
  have hxM : -1000000 ≤ (if a < 0 then -o else o) ∧ (if a < 0 then -o else o) ≤ 1000000 := by split <;> omega
  have hb2 : b ∣ p - (if a < 0 then -o else o) * a := by
    rw [hx]
    exact Int.natAbs_dvd.mp dp
  have hpM : p ≤ 1000000 := by
    rw [hp]
    by_cases hz : a = 0
    · subst hz
      rw [Int.gcd_zero_left]; omega
    · have : (Int.gcd a b) ≤ a.natAbs := Nat.le_of_dvd (by omega) (Nat.gcd_dvd_left _ _)
      omega
  have hm := mul_small (M := 1000000) (N := 1000000) hxM ha (by decide) (by decide)
  rw [show (1000000 : Int) * 1000000 = 1000000000000 by decide] at hm
  generalize (if a < 0 then -o else o) = x at *
  refine ⟨?_, by omega, by omega⟩
  by_cases hb0 : b = 0
  · rw [if_pos hb0]
    subst hb0
    refine ⟨hp, ?_, hxM, by omega⟩
    obtain ⟨c, hc⟩ := hb2
    rw [Int.zero_mul] at hc
    rw [Int.mul_comm a x]
    omega
  · rw [if_neg hb0]
    obtain ⟨c, hc⟩ := hb2
    have ec : Int.fdiv (p - x * a) b = c := by rw [hc]; exact Int.mul_fdiv_cancel_left c hb0
    rw [ec]
    refine ⟨hp, ?_, hxM, ?_⟩
    · rw [Int.mul_comm a x]; omega
    · have h1 : (b * c).natAbs = b.natAbs * c.natAbs := Int.natAbs_mul b c
      have h2 : c.natAbs ≤ b.natAbs * c.natAbs := Nat.le_mul_of_pos_left _ (by omega)
      omega
end Wr

set_option Elab.async false
set_option linter.all false
set_option maxRecDepth 100000

namespace B
theorem abs : PySem.bootBuiltins "abs" = some (.builtin "abs") := by decide +kernel
theorem all : PySem.bootBuiltins "all" = some (.builtin "all") := by decide +kernel
theorem any : PySem.bootBuiltins "any" = some (.builtin "any") := by decide +kernel
theorem bool : PySem.bootBuiltins "bool" = some (.type "bool") := by decide +kernel
theorem enumerate : PySem.bootBuiltins "enumerate" = some (.type "enumerate") := by decide +kernel
theorem int : PySem.bootBuiltins "int" = some (.type "int") := by decide +kernel
theorem isinstance : PySem.bootBuiltins "isinstance" = some (.builtin "isinstance") := by decide +kernel
theorem len : PySem.bootBuiltins "len" = some (.builtin "len") := by decide +kernel
theorem list : PySem.bootBuiltins "list" = some (.type "list") := by decide +kernel
theorem range : PySem.bootBuiltins "range" = some (.type "range") := by decide +kernel
theorem sum : PySem.bootBuiltins "sum" = some (.builtin "sum") := by decide +kernel
theorem tuple : PySem.bootBuiltins "tuple" = some (.type "tuple") := by decide +kernel
end B
namespace W01
open PySem L2
def top (i : Nat) : Stmt := PySem.Challenge.pw_wheelrow_k01_whole_told.main.body.getD i (.Pass ⟨0, 0, 0, 0⟩)
abbrev s_is_whole : Stmt := top 3
theorem sc_is_whole : FnScope ["value"] ["value"] (defScope s_is_whole) := ⟨rfl, rfl, rfl, by decide +kernel, rfl, by decide +kernel, by decide +kernel⟩
abbrev s_is_round : Stmt := top 4
theorem sc_is_round : FnScope ["value"] ["value"] (defScope s_is_round) := ⟨rfl, rfl, rfl, by decide +kernel, rfl, by decide +kernel, by decide +kernel⟩
abbrev s_are_rounds : Stmt := top 5
theorem sc_are_rounds : FnScope ["value"] ["value"] (defScope s_are_rounds) := ⟨rfl, rfl, rfl, by decide +kernel, rfl, by decide +kernel, by decide +kernel⟩
theorem sc_are_rounds_c1 : CompSc (defScope s_are_rounds) { kind := PySem.ScopeKind.function, names := [ (PySem.Str.ofString ".0", PySem.NameKind.local), (PySem.Str.ofString "turn", PySem.NameKind.local), (PySem.Str.ofString "is_round", PySem.NameKind.globalImplicit)], isGenerator := false, isCoroutine := false, more := [] : PySem.Scope } ["value"] ["turn"] [none] := ⟨rfl, by decide +kernel, by decide +kernel, by decide +kernel, rfl, by decide +kernel, by decide +kernel⟩
abbrev s_is_rest : Stmt := top 6
theorem sc_is_rest : FnScope ["value", "turn"] ["value", "turn"] (defScope s_is_rest) := ⟨rfl, rfl, rfl, by decide +kernel, rfl, by decide +kernel, by decide +kernel⟩
abbrev s_is_rest_pair : Stmt := top 7
theorem sc_is_rest_pair : FnScope ["value"] ["value"] (defScope s_is_rest_pair) := ⟨rfl, rfl, rfl, by decide +kernel, rfl, by decide +kernel, by decide +kernel⟩
abbrev s_are_rests : Stmt := top 8
theorem sc_are_rests : FnScope ["value"] ["value"] (defScope s_are_rests) := ⟨rfl, rfl, rfl, by decide +kernel, rfl, by decide +kernel, by decide +kernel⟩
theorem sc_are_rests_c1 : CompSc (defScope s_are_rests) { kind := PySem.ScopeKind.function, names := [ (PySem.Str.ofString ".0", PySem.NameKind.local), (PySem.Str.ofString "pair", PySem.NameKind.local), (PySem.Str.ofString "is_rest_pair", PySem.NameKind.globalImplicit)], isGenerator := false, isCoroutine := false, more := [] : PySem.Scope } ["value"] ["pair"] [none] := ⟨rfl, by decide +kernel, by decide +kernel, by decide +kernel, rfl, by decide +kernel, by decide +kernel⟩
abbrev s_goes_into : Stmt := top 9
theorem sc_goes_into : FnScope ["part", "number"] ["part", "number"] (defScope s_goes_into) := ⟨rfl, rfl, rfl, by decide +kernel, rfl, by decide +kernel, by decide +kernel⟩
abbrev s_leaves : Stmt := top 10
theorem sc_leaves : FnScope ["number", "rest", "turn"] ["number", "rest", "turn"] (defScope s_leaves) := ⟨rfl, rfl, rfl, by decide +kernel, rfl, by decide +kernel, by decide +kernel⟩
abbrev s_common_part_of_two : Stmt := top 11
theorem sc_common_part_of_two : FnScope ["one", "other", "part", "left", "following"] ["one", "other"] (defScope s_common_part_of_two) := ⟨rfl, rfl, rfl, by decide +kernel, rfl, by decide +kernel, by decide +kernel⟩
abbrev s_part_with_times : Stmt := top 12
theorem sc_part_with_times : FnScope ["one", "other", "part", "often", "left", "left_often", "whole", "following", "following_often", "other_often"] ["one", "other"] (defScope s_part_with_times) := ⟨rfl, rfl, rfl, by decide +kernel, rfl, by decide +kernel, by decide +kernel⟩
abbrev s_common_part : Stmt := top 13
theorem sc_common_part : FnScope ["numbers", "part", "number"] ["numbers"] (defScope s_common_part) := ⟨rfl, rfl, rfl, by decide +kernel, rfl, by decide +kernel, by decide +kernel⟩
abbrev s_common_turn : Stmt := top 14
theorem sc_common_turn : FnScope ["turns", "whole", "turn"] ["turns"] (defScope s_common_turn) := ⟨rfl, rfl, rfl, by decide +kernel, rfl, by decide +kernel, by decide +kernel⟩
abbrev s_Number___init__ : Stmt := inClass (top 18) 0
theorem sc_Number___init__ : FnScope ["self", "number", "turn"] ["self", "number", "turn"] (defScope s_Number___init__) := ⟨rfl, rfl, rfl, by decide +kernel, rfl, by decide +kernel, by decide +kernel⟩
abbrev s_Number_shows : Stmt := inClass (top 18) 1
theorem sc_Number_shows : FnScope ["self", "rests"] ["self", "rests"] (defScope s_Number_shows) := ⟨rfl, rfl, rfl, by decide +kernel, rfl, by decide +kernel, by decide +kernel⟩
theorem sc_Number_shows_c1 : CompSc (defScope s_Number_shows) { kind := PySem.ScopeKind.function, names := [ (PySem.Str.ofString ".0", PySem.NameKind.local), (PySem.Str.ofString "rest", PySem.NameKind.local), (PySem.Str.ofString "turn", PySem.NameKind.local), (PySem.Str.ofString "leaves", PySem.NameKind.globalImplicit), (PySem.Str.ofString "self", PySem.NameKind.free)], isGenerator := false, isCoroutine := false, more := [] : PySem.Scope } ["self", "rests"] ["self", "rest", "turn"] [some 0, none, none] := ⟨rfl, by decide +kernel, by decide +kernel, by decide +kernel, rfl, by decide +kernel, by decide +kernel⟩
theorem sc_Number_shows_c2 : CompSc (defScope s_Number_shows) { kind := PySem.ScopeKind.function, names := [ (PySem.Str.ofString ".0", PySem.NameKind.local), (PySem.Str.ofString "rest", PySem.NameKind.local), (PySem.Str.ofString "turn", PySem.NameKind.local)], isGenerator := false, isCoroutine := false, more := [] : PySem.Scope } ["self", "rests"] ["rest", "turn"] [none, none] := ⟨rfl, by decide +kernel, by decide +kernel, by decide +kernel, rfl, by decide +kernel, by decide +kernel⟩
abbrev s_Clash___init__ : Stmt := inClass (top 19) 0
theorem sc_Clash___init__ : FnScope ["self", "one", "other"] ["self", "one", "other"] (defScope s_Clash___init__) := ⟨rfl, rfl, rfl, by decide +kernel, rfl, by decide +kernel, by decide +kernel⟩
abbrev s_Clash_shows : Stmt := inClass (top 19) 1
theorem sc_Clash_shows : FnScope ["self", "rests", "first", "second"] ["self", "rests"] (defScope s_Clash_shows) := ⟨rfl, rfl, rfl, by decide +kernel, rfl, by decide +kernel, by decide +kernel⟩
abbrev s_told : Stmt := top 28
theorem sc_told : FnScope ["rests", "so_far", "place", "pair", "following"] ["rests"] (defScope s_told) := ⟨rfl, rfl, rfl, by decide +kernel, rfl, by decide +kernel, by decide +kernel⟩
abbrev s_joined : Stmt := top 29
theorem sc_joined : FnScope ["so_far", "rest", "turn", "made", "part", "missing", "fresh", "steps"] ["so_far", "rest", "turn"] (defScope s_joined) := ⟨rfl, rfl, rfl, by decide +kernel, rfl, by decide +kernel, by decide +kernel⟩
abbrev s_clash_with_earlier : Stmt := top 30
theorem sc_clash_with_earlier : FnScope ["rests", "place", "clashes"] ["rests", "place"] (defScope s_clash_with_earlier) := ⟨rfl, rfl, rfl, by decide +kernel, rfl, by decide +kernel, by decide +kernel⟩
theorem sc_clash_with_earlier_c1 : CompSc (defScope s_clash_with_earlier) { kind := PySem.ScopeKind.function, names := [ (PySem.Str.ofString ".0", PySem.NameKind.local), (PySem.Str.ofString "earlier", PySem.NameKind.local), (PySem.Str.ofString "Clash", PySem.NameKind.globalImplicit), (PySem.Str.ofString "place", PySem.NameKind.free), (PySem.Str.ofString "rests", PySem.NameKind.free)], isGenerator := false, isCoroutine := false, more := [] : PySem.Scope } ["rests", "place", "clashes"] ["rests", "place", "earlier"] [some 0, some 1, none] := ⟨rfl, by decide +kernel, by decide +kernel, by decide +kernel, rfl, by decide +kernel, by decide +kernel⟩
abbrev s_left : Stmt := top 31
theorem sc_left : FnScope ["number", "rounds"] ["number", "rounds"] (defScope s_left) := ⟨rfl, rfl, rfl, by decide +kernel, rfl, by decide +kernel, by decide +kernel⟩
theorem sc_left_c1 : CompSc (defScope s_left) { kind := PySem.ScopeKind.function, names := [ (PySem.Str.ofString ".0", PySem.NameKind.local), (PySem.Str.ofString "turn", PySem.NameKind.local), (PySem.Str.ofString "number", PySem.NameKind.free)], isGenerator := false, isCoroutine := false, more := [] : PySem.Scope } ["number", "rounds"] ["number", "turn"] [some 0, none] := ⟨rfl, by decide +kernel, by decide +kernel, by decide +kernel, rfl, by decide +kernel, by decide +kernel⟩
abbrev s__law_cell_at : Stmt := top 33
theorem sc__law_cell_at : FnScope ["_law_script", "_law_k"] ["_law_script", "_law_k"] (defScope s__law_cell_at) := ⟨rfl, rfl, rfl, by decide +kernel, rfl, by decide +kernel, by decide +kernel⟩
abbrev s__law_draw : Stmt := top 34
theorem sc__law_draw : FnScope ["_law_cell", "_law_k", "_law_many", "_law_primes"] ["_law_cell", "_law_k", "_law_many"] (defScope s__law_draw) := ⟨rfl, rfl, rfl, by decide +kernel, rfl, by decide +kernel, by decide +kernel⟩
abbrev s__law_turns : Stmt := top 35
theorem sc__law_turns : FnScope ["_law_script", "_law_kind", "_law_found", "_law_k", "_law_turn"] ["_law_script"] (defScope s__law_turns) := ⟨rfl, rfl, rfl, by decide +kernel, rfl, by decide +kernel, by decide +kernel⟩
abbrev s__law_rests : Stmt := top 36
theorem sc__law_rests : FnScope ["_law_script", "_law_far", "_law_found", "_law_at"] ["_law_script"] (defScope s__law_rests) := ⟨rfl, rfl, rfl, by decide +kernel, rfl, by decide +kernel, by decide +kernel⟩
theorem sc__law_rests_c1 : CompSc (defScope s__law_rests) { kind := PySem.ScopeKind.function, names := [ (PySem.Str.ofString ".0", PySem.NameKind.local), (PySem.Str.ofString "_law_k", PySem.NameKind.local), (PySem.Str.ofString "_law_cell", PySem.NameKind.local), (PySem.Str.ofString "abs", PySem.NameKind.globalImplicit)], isGenerator := false, isCoroutine := false, more := [] : PySem.Scope } ["_law_script", "_law_far", "_law_found", "_law_at"] ["_law_k", "_law_cell"] [none, none] := ⟨rfl, by decide +kernel, by decide +kernel, by decide +kernel, rfl, by decide +kernel, by decide +kernel⟩
theorem sc__law_rests_c2 : CompSc (defScope s__law_rests) { kind := PySem.ScopeKind.function, names := [ (PySem.Str.ofString ".0", PySem.NameKind.local), (PySem.Str.ofString "_law_turn", PySem.NameKind.local), (PySem.Str.ofString "_law_far", PySem.NameKind.free)], isGenerator := false, isCoroutine := false, more := [] : PySem.Scope } ["_law_script", "_law_far", "_law_found", "_law_at"] ["_law_far", "_law_turn"] [some 1, none] := ⟨rfl, by decide +kernel, by decide +kernel, by decide +kernel, rfl, by decide +kernel, by decide +kernel⟩
abbrev s__law_part : Stmt := top 37
theorem sc__law_part : FnScope ["_law_one", "_law_other"] ["_law_one", "_law_other"] (defScope s__law_part) := ⟨rfl, rfl, rfl, by decide +kernel, rfl, by decide +kernel, by decide +kernel⟩
abbrev s__law_whole : Stmt := top 38
theorem sc__law_whole : FnScope ["_law_number"] ["_law_number"] (defScope s__law_whole) := ⟨rfl, rfl, rfl, by decide +kernel, rfl, by decide +kernel, by decide +kernel⟩
abbrev s__law_numbers : Stmt := top 39
theorem sc__law_numbers : FnScope ["_law_found"] ["_law_found"] (defScope s__law_numbers) := ⟨rfl, rfl, rfl, by decide +kernel, rfl, by decide +kernel, by decide +kernel⟩
theorem sc__law_numbers_c1 : CompSc (defScope s__law_numbers) { kind := PySem.ScopeKind.function, names := [ (PySem.Str.ofString ".0", PySem.NameKind.local), (PySem.Str.ofString "_law_one", PySem.NameKind.local), (PySem.Str.ofString "_law_whole", PySem.NameKind.globalImplicit)], isGenerator := false, isCoroutine := false, more := [] : PySem.Scope } ["_law_found"] ["_law_one"] [none] := ⟨rfl, by decide +kernel, by decide +kernel, by decide +kernel, rfl, by decide +kernel, by decide +kernel⟩
abbrev s__law_due : Stmt := top 40
theorem sc__law_due : FnScope ["_law_rests_here", "_law_found", "_law_one", "_law_other", "_law_whole_here", "_law_rest", "_law_turn"] ["_law_rests_here", "_law_found"] (defScope s__law_due) := ⟨rfl, rfl, rfl, by decide +kernel, rfl, by decide +kernel, by decide +kernel⟩
theorem sc__law_due_c1 : CompSc (defScope s__law_due) { kind := PySem.ScopeKind.function, names := [ (PySem.Str.ofString ".0", PySem.NameKind.local), (PySem.Str.ofString "_law_rest", PySem.NameKind.local), (PySem.Str.ofString "_law_turn", PySem.NameKind.local), (PySem.Str.ofString "_law_found", PySem.NameKind.free)], isGenerator := false, isCoroutine := false, more := [] : PySem.Scope } ["_law_rests_here", "_law_found", "_law_one", "_law_other", "_law_whole_here", "_law_rest", "_law_turn"] ["_law_found", "_law_rest", "_law_turn"] [some 1, none, none] := ⟨rfl, by decide +kernel, by decide +kernel, by decide +kernel, rfl, by decide +kernel, by decide +kernel⟩
abbrev s__law_right : Stmt := top 41
theorem sc__law_right : FnScope ["_law_rests_here", "_law_found", "_law_others", "_law_fields"] ["_law_rests_here", "_law_found"] (defScope s__law_right) := ⟨rfl, rfl, rfl, by decide +kernel, rfl, by decide +kernel, by decide +kernel⟩
abbrev s_law : Stmt := top 42
theorem sc_law : FnScope ["_law_script", "_law_rests_here", "_law_some", "_law_handed", "_law_found", "_law_other", "_law_far"] ["_law_script"] (defScope s_law) := ⟨rfl, rfl, rfl, by decide +kernel, rfl, by decide +kernel, by decide +kernel⟩
theorem sc_law_c1 : CompSc (defScope s_law) { kind := PySem.ScopeKind.function, names := [ (PySem.Str.ofString ".0", PySem.NameKind.local), (PySem.Str.ofString "_law_rest", PySem.NameKind.local), (PySem.Str.ofString "_law_turn", PySem.NameKind.local)], isGenerator := false, isCoroutine := false, more := [] : PySem.Scope } ["_law_script", "_law_rests_here", "_law_some", "_law_handed", "_law_found", "_law_other", "_law_far"] ["_law_rest", "_law_turn"] [none, none] := ⟨rfl, by decide +kernel, by decide +kernel, by decide +kernel, rfl, by decide +kernel, by decide +kernel⟩
structure Adr where
  a_is_whole : Addr
  d_is_whole : FuncData
  a_is_round : Addr
  d_is_round : FuncData
  a_are_rounds : Addr
  d_are_rounds : FuncData
  a_is_rest : Addr
  d_is_rest : FuncData
  a_is_rest_pair : Addr
  d_is_rest_pair : FuncData
  a_are_rests : Addr
  d_are_rests : FuncData
  a_goes_into : Addr
  d_goes_into : FuncData
  a_leaves : Addr
  d_leaves : FuncData
  a_common_part_of_two : Addr
  d_common_part_of_two : FuncData
  a_part_with_times : Addr
  d_part_with_times : FuncData
  a_common_part : Addr
  d_common_part : FuncData
  a_common_turn : Addr
  d_common_turn : FuncData
  a_Number___init__ : Addr
  d_Number___init__ : FuncData
  a_Number_shows : Addr
  d_Number_shows : FuncData
  a_Clash___init__ : Addr
  d_Clash___init__ : FuncData
  a_Clash_shows : Addr
  d_Clash_shows : FuncData
  a_told : Addr
  d_told : FuncData
  a_joined : Addr
  d_joined : FuncData
  a_clash_with_earlier : Addr
  d_clash_with_earlier : FuncData
  a_left : Addr
  d_left : FuncData
  a__law_cell_at : Addr
  d__law_cell_at : FuncData
  a__law_draw : Addr
  d__law_draw : FuncData
  a__law_turns : Addr
  d__law_turns : FuncData
  a__law_rests : Addr
  d__law_rests : FuncData
  a__law_part : Addr
  d__law_part : FuncData
  a__law_whole : Addr
  d__law_whole : FuncData
  a__law_numbers : Addr
  d__law_numbers : FuncData
  a__law_due : Addr
  d__law_due : FuncData
  a__law_right : Addr
  d__law_right : FuncData
  a_law : Addr
  d_law : FuncData
  c_Answer : Addr
  c_Number : Addr
  c_Clash : Addr
  c_Common : Addr
  c_Times : Addr
  c_Bar : Addr
  c_Back : Addr
  t_GREATEST_ROUND : Tok
structure Txt (K : PySem.W.Frag) (mg : Str → Option Value) (A : Adr) : Prop where
  F_is_whole : Fun K "is_whole" "is_whole" s_is_whole A.a_is_whole A.d_is_whole
  bi_is_whole : Binds K A.d_is_whole ["value"] []
  m_is_whole : mg "is_whole" = some (.ref A.a_is_whole)
  k_is_whole : PySem.W.keepIn K (.ref A.a_is_whole) = true
  F_is_round : Fun K "is_round" "is_round" s_is_round A.a_is_round A.d_is_round
  bi_is_round : Binds K A.d_is_round ["value"] []
  m_is_round : mg "is_round" = some (.ref A.a_is_round)
  k_is_round : PySem.W.keepIn K (.ref A.a_is_round) = true
  F_are_rounds : Fun K "are_rounds" "are_rounds" s_are_rounds A.a_are_rounds A.d_are_rounds
  bi_are_rounds : Binds K A.d_are_rounds ["value"] []
  m_are_rounds : mg "are_rounds" = some (.ref A.a_are_rounds)
  k_are_rounds : PySem.W.keepIn K (.ref A.a_are_rounds) = true
  F_is_rest : Fun K "is_rest" "is_rest" s_is_rest A.a_is_rest A.d_is_rest
  bi_is_rest : Binds K A.d_is_rest ["value", "turn"] []
  m_is_rest : mg "is_rest" = some (.ref A.a_is_rest)
  k_is_rest : PySem.W.keepIn K (.ref A.a_is_rest) = true
  F_is_rest_pair : Fun K "is_rest_pair" "is_rest_pair" s_is_rest_pair A.a_is_rest_pair A.d_is_rest_pair
  bi_is_rest_pair : Binds K A.d_is_rest_pair ["value"] []
  m_is_rest_pair : mg "is_rest_pair" = some (.ref A.a_is_rest_pair)
  k_is_rest_pair : PySem.W.keepIn K (.ref A.a_is_rest_pair) = true
  F_are_rests : Fun K "are_rests" "are_rests" s_are_rests A.a_are_rests A.d_are_rests
  bi_are_rests : Binds K A.d_are_rests ["value"] []
  m_are_rests : mg "are_rests" = some (.ref A.a_are_rests)
  k_are_rests : PySem.W.keepIn K (.ref A.a_are_rests) = true
  F_goes_into : Fun K "goes_into" "goes_into" s_goes_into A.a_goes_into A.d_goes_into
  bi_goes_into : Binds K A.d_goes_into ["part", "number"] []
  m_goes_into : mg "goes_into" = some (.ref A.a_goes_into)
  k_goes_into : PySem.W.keepIn K (.ref A.a_goes_into) = true
  F_leaves : Fun K "leaves" "leaves" s_leaves A.a_leaves A.d_leaves
  bi_leaves : Binds K A.d_leaves ["number", "rest", "turn"] []
  m_leaves : mg "leaves" = some (.ref A.a_leaves)
  k_leaves : PySem.W.keepIn K (.ref A.a_leaves) = true
  F_common_part_of_two : Fun K "common_part_of_two" "common_part_of_two" s_common_part_of_two A.a_common_part_of_two A.d_common_part_of_two
  bi_common_part_of_two : Binds K A.d_common_part_of_two ["one", "other"] []
  m_common_part_of_two : mg "common_part_of_two" = some (.ref A.a_common_part_of_two)
  k_common_part_of_two : PySem.W.keepIn K (.ref A.a_common_part_of_two) = true
  F_part_with_times : Fun K "part_with_times" "part_with_times" s_part_with_times A.a_part_with_times A.d_part_with_times
  bi_part_with_times : Binds K A.d_part_with_times ["one", "other"] []
  m_part_with_times : mg "part_with_times" = some (.ref A.a_part_with_times)
  k_part_with_times : PySem.W.keepIn K (.ref A.a_part_with_times) = true
  F_common_part : Fun K "common_part" "common_part" s_common_part A.a_common_part A.d_common_part
  bi_common_part : Binds K A.d_common_part ["numbers"] []
  m_common_part : mg "common_part" = some (.ref A.a_common_part)
  k_common_part : PySem.W.keepIn K (.ref A.a_common_part) = true
  F_common_turn : Fun K "common_turn" "common_turn" s_common_turn A.a_common_turn A.d_common_turn
  bi_common_turn : Binds K A.d_common_turn ["turns"] []
  m_common_turn : mg "common_turn" = some (.ref A.a_common_turn)
  k_common_turn : PySem.W.keepIn K (.ref A.a_common_turn) = true
  F_Number___init__ : Fun K "__init__" "Number.__init__" s_Number___init__ A.a_Number___init__ A.d_Number___init__
  bi_Number___init__ : Binds K A.d_Number___init__ ["self", "number", "turn"] []
  mk_Number : Mk K A.c_Number A.a_Number___init__
  F_Number_shows : Fun K "shows" "Number.shows" s_Number_shows A.a_Number_shows A.d_Number_shows
  bi_Number_shows : Binds K A.d_Number_shows ["self", "rests"] []
  me_Number_shows : Meth K A.c_Number "shows" A.a_Number_shows
  F_Clash___init__ : Fun K "__init__" "Clash.__init__" s_Clash___init__ A.a_Clash___init__ A.d_Clash___init__
  bi_Clash___init__ : Binds K A.d_Clash___init__ ["self", "one", "other"] []
  mk_Clash : Mk K A.c_Clash A.a_Clash___init__
  F_Clash_shows : Fun K "shows" "Clash.shows" s_Clash_shows A.a_Clash_shows A.d_Clash_shows
  bi_Clash_shows : Binds K A.d_Clash_shows ["self", "rests"] []
  me_Clash_shows : Meth K A.c_Clash "shows" A.a_Clash_shows
  F_told : Fun K "told" "told" s_told A.a_told A.d_told
  bi_told : Binds K A.d_told ["rests"] []
  m_told : mg "told" = some (.ref A.a_told)
  k_told : PySem.W.keepIn K (.ref A.a_told) = true
  F_joined : Fun K "joined" "joined" s_joined A.a_joined A.d_joined
  bi_joined : Binds K A.d_joined ["so_far", "rest", "turn"] []
  m_joined : mg "joined" = some (.ref A.a_joined)
  k_joined : PySem.W.keepIn K (.ref A.a_joined) = true
  F_clash_with_earlier : Fun K "clash_with_earlier" "clash_with_earlier" s_clash_with_earlier A.a_clash_with_earlier A.d_clash_with_earlier
  bi_clash_with_earlier : Binds K A.d_clash_with_earlier ["rests", "place"] []
  m_clash_with_earlier : mg "clash_with_earlier" = some (.ref A.a_clash_with_earlier)
  k_clash_with_earlier : PySem.W.keepIn K (.ref A.a_clash_with_earlier) = true
  F_left : Fun K "left" "left" s_left A.a_left A.d_left
  bi_left : Binds K A.d_left ["number", "rounds"] []
  m_left : mg "left" = some (.ref A.a_left)
  k_left : PySem.W.keepIn K (.ref A.a_left) = true
  F__law_cell_at : Fun K "_law_cell_at" "_law_cell_at" s__law_cell_at A.a__law_cell_at A.d__law_cell_at
  bi__law_cell_at : Binds K A.d__law_cell_at ["_law_script", "_law_k"] []
  m__law_cell_at : mg "_law_cell_at" = some (.ref A.a__law_cell_at)
  k__law_cell_at : PySem.W.keepIn K (.ref A.a__law_cell_at) = true
  F__law_draw : Fun K "_law_draw" "_law_draw" s__law_draw A.a__law_draw A.d__law_draw
  bi__law_draw : Binds K A.d__law_draw ["_law_cell", "_law_k", "_law_many"] []
  m__law_draw : mg "_law_draw" = some (.ref A.a__law_draw)
  k__law_draw : PySem.W.keepIn K (.ref A.a__law_draw) = true
  F__law_turns : Fun K "_law_turns" "_law_turns" s__law_turns A.a__law_turns A.d__law_turns
  bi__law_turns : Binds K A.d__law_turns ["_law_script"] []
  m__law_turns : mg "_law_turns" = some (.ref A.a__law_turns)
  k__law_turns : PySem.W.keepIn K (.ref A.a__law_turns) = true
  F__law_rests : Fun K "_law_rests" "_law_rests" s__law_rests A.a__law_rests A.d__law_rests
  bi__law_rests : Binds K A.d__law_rests ["_law_script"] []
  m__law_rests : mg "_law_rests" = some (.ref A.a__law_rests)
  k__law_rests : PySem.W.keepIn K (.ref A.a__law_rests) = true
  F__law_part : Fun K "_law_part" "_law_part" s__law_part A.a__law_part A.d__law_part
  bi__law_part : Binds K A.d__law_part ["_law_one", "_law_other"] []
  m__law_part : mg "_law_part" = some (.ref A.a__law_part)
  k__law_part : PySem.W.keepIn K (.ref A.a__law_part) = true
  F__law_whole : Fun K "_law_whole" "_law_whole" s__law_whole A.a__law_whole A.d__law_whole
  bi__law_whole : Binds K A.d__law_whole ["_law_number"] []
  m__law_whole : mg "_law_whole" = some (.ref A.a__law_whole)
  k__law_whole : PySem.W.keepIn K (.ref A.a__law_whole) = true
  F__law_numbers : Fun K "_law_numbers" "_law_numbers" s__law_numbers A.a__law_numbers A.d__law_numbers
  bi__law_numbers : Binds K A.d__law_numbers ["_law_found"] []
  m__law_numbers : mg "_law_numbers" = some (.ref A.a__law_numbers)
  k__law_numbers : PySem.W.keepIn K (.ref A.a__law_numbers) = true
  F__law_due : Fun K "_law_due" "_law_due" s__law_due A.a__law_due A.d__law_due
  bi__law_due : Binds K A.d__law_due ["_law_rests_here", "_law_found"] []
  m__law_due : mg "_law_due" = some (.ref A.a__law_due)
  k__law_due : PySem.W.keepIn K (.ref A.a__law_due) = true
  F__law_right : Fun K "_law_right" "_law_right" s__law_right A.a__law_right A.d__law_right
  bi__law_right : Binds K A.d__law_right ["_law_rests_here", "_law_found"] []
  m__law_right : mg "_law_right" = some (.ref A.a__law_right)
  k__law_right : PySem.W.keepIn K (.ref A.a__law_right) = true
  F_law : Fun K "law" "law" s_law A.a_law A.d_law
  bi_law : Binds K A.d_law ["_law_script"] []
  m_law : mg "law" = some (.ref A.a_law)
  k_law : PySem.W.keepIn K (.ref A.a_law) = true
  m_Answer : mg "Answer" = some (.ref A.c_Answer)
  m_Number : mg "Number" = some (.ref A.c_Number)
  cl_Number : Cls K A.c_Number
  na_Number_number : NoAttr K A.c_Number "number"
  na_Number_turn : NoAttr K A.c_Number "turn"
  ty_Number : ∀ (H : Hp) (a dx : Addr) (fs : List (Str × V)), H a = some (.ins A.c_Number dx fs) → TyOf K H (.ref a) (.ref A.c_Number)
  is_Number_Answer : PySem.W.kitOne K (.ref A.c_Number) (.ref A.c_Answer) = some true
  is_Number_Number : PySem.W.kitOne K (.ref A.c_Number) (.ref A.c_Number) = some true
  is_Number_Clash : PySem.W.kitOne K (.ref A.c_Number) (.ref A.c_Clash) = some false
  is_Number_Common : PySem.W.kitOne K (.ref A.c_Number) (.ref A.c_Common) = some false
  is_Number_Times : PySem.W.kitOne K (.ref A.c_Number) (.ref A.c_Times) = some false
  is_Number_Bar : PySem.W.kitOne K (.ref A.c_Number) (.ref A.c_Bar) = some false
  is_Number_Back : PySem.W.kitOne K (.ref A.c_Number) (.ref A.c_Back) = some false
  m_Clash : mg "Clash" = some (.ref A.c_Clash)
  cl_Clash : Cls K A.c_Clash
  na_Clash_one : NoAttr K A.c_Clash "one"
  na_Clash_other : NoAttr K A.c_Clash "other"
  ty_Clash : ∀ (H : Hp) (a dx : Addr) (fs : List (Str × V)), H a = some (.ins A.c_Clash dx fs) → TyOf K H (.ref a) (.ref A.c_Clash)
  is_Clash_Answer : PySem.W.kitOne K (.ref A.c_Clash) (.ref A.c_Answer) = some true
  is_Clash_Number : PySem.W.kitOne K (.ref A.c_Clash) (.ref A.c_Number) = some false
  is_Clash_Clash : PySem.W.kitOne K (.ref A.c_Clash) (.ref A.c_Clash) = some true
  is_Clash_Common : PySem.W.kitOne K (.ref A.c_Clash) (.ref A.c_Common) = some false
  is_Clash_Times : PySem.W.kitOne K (.ref A.c_Clash) (.ref A.c_Times) = some false
  is_Clash_Bar : PySem.W.kitOne K (.ref A.c_Clash) (.ref A.c_Bar) = some false
  is_Clash_Back : PySem.W.kitOne K (.ref A.c_Clash) (.ref A.c_Back) = some false
  m_Common : mg "Common" = some (.ref A.c_Common)
  m_Times : mg "Times" = some (.ref A.c_Times)
  m_Bar : mg "Bar" = some (.ref A.c_Bar)
  m_Back : mg "Back" = some (.ref A.c_Back)
  g_GREATEST_ROUND : mg "GREATEST_ROUND" = some (.int 1000000 A.t_GREATEST_ROUND)
  b_abs : mg "abs" = none
  b_all : mg "all" = none
  b_any : mg "any" = none
  b_bool : mg "bool" = none
  b_enumerate : mg "enumerate" = none
  b_int : mg "int" = none
  b_isinstance : mg "isinstance" = none
  b_len : mg "len" = none
  b_list : mg "list" = none
  b_range : mg "range" = none
  b_sum : mg "sum" = none
  b_tuple : mg "tuple" = none
  is_int_int : PySem.W.kitOne K (.type "int") (.type "int") = some true
  is_int_bool : PySem.W.kitOne K (.type "int") (.type "bool") = some false
  is_list_list : PySem.W.kitOne K (.type "list") (.type "list") = some true
  is_tuple_tuple : PySem.W.kitOne K (.type "tuple") (.type "tuple") = some true
end W01

set_option Elab.async false
set_option linter.all false
set_option maxRecDepth 100000
namespace W01
open PySem L2
section
variable {P : Program} {w : World} {K : PySem.W.Frag} {mg : Str → Option Value} {base : Heap} {A : Adr}
def sp_whole_int : Sp := fun vs H Q _ => ∃ i : Int, vs = [.int i] ∧ Q (.bl true) H
theorem ok_is_whole (T : Txt K mg A) : FnOk P w K mg base CX0 1 A.a_is_whole A.d_is_whole ["value"] sp_whole_int := by
  refine T.F_is_whole.ok sc_is_whole (fun vs H Q E h => ?_) (fun cdv Ar outer s H vs Q E hr h => ?_)
  · obtain ⟨i, rfl, _⟩ := h
    rfl
  obtain ⟨i, rfl, q⟩ := h
  refine ⟨_, (@pss_one _ _ _ (@ps_ret _ _ _ _ (@pe_and _ _ _ _ _ _ _ (@pe_callB _ _ _ _ _ _ _ _ _ call_isinst rfl T.b_isinstance B.isinstance (@pa_consN _ _ _ _ _ (@pv _ 0 _ _ (by rfl) (by first | exact Or.inl rfl | exact Or.inr (Or.inl rfl) | exact Or.inr (Or.inr rfl)) (by decide) (by decide)) (@pa_consN _ _ _ _ _ (@pe_bltn _ _ (.ty "int") _ _ rfl T.b_int B.int rfl (by decide) (by decide)) (@pa_nil _) (by rfl)) (by rfl)) (by decide) (by decide) (by rfl) (by rfl)) (@pe_one _ _ _ _ _ (@pe_not _ _ _ _ (@pe_callB _ _ _ _ _ _ _ _ _ call_isinst rfl T.b_isinstance B.isinstance (@pa_consN _ _ _ _ _ (@pv _ 0 _ _ (by rfl) (by first | exact Or.inl rfl | exact Or.inr (Or.inl rfl) | exact Or.inr (Or.inr rfl)) (by decide) (by decide)) (@pa_consN _ _ _ _ _ (@pe_bltn _ _ (.ty "bool") _ _ rfl T.b_bool B.bool rfl (by decide) (by decide)) (@pa_nil _) (by rfl)) (by rfl)) (by decide) (by decide) (by rfl) (by rfl))))))), ?_⟩
  exact ⟨_, rfl, _, _, _, _, _, rfl, TyOf.int i, rfl, T.is_int_int, _, rfl, iteT ⟨_, rfl, _, _, _, _, _, rfl, TyOf.int i, rfl, T.is_int_bool, _, rfl, q⟩⟩
theorem ok_law_whole (T : Txt K mg A) : FnOk P w K mg base CX0 1 A.a__law_whole A.d__law_whole ["_law_number"] sp_whole_int := by
  refine T.F__law_whole.ok sc__law_whole (fun vs H Q E h => ?_) (fun cdv Ar outer s H vs Q E hr h => ?_)
  · obtain ⟨i, rfl, _⟩ := h
    rfl
  obtain ⟨i, rfl, q⟩ := h
  refine ⟨_, (@pss_one _ _ _ (@ps_ret _ _ _ _ (@pe_and _ _ _ _ _ _ _ (@pe_callB _ _ _ _ _ _ _ _ _ call_isinst rfl T.b_isinstance B.isinstance (@pa_consN _ _ _ _ _ (@pv _ 0 _ _ (by rfl) (by first | exact Or.inl rfl | exact Or.inr (Or.inl rfl) | exact Or.inr (Or.inr rfl)) (by decide) (by decide)) (@pa_consN _ _ _ _ _ (@pe_bltn _ _ (.ty "int") _ _ rfl T.b_int B.int rfl (by decide) (by decide)) (@pa_nil _) (by rfl)) (by rfl)) (by decide) (by decide) (by rfl) (by rfl)) (@pe_one _ _ _ _ _ (@pe_not _ _ _ _ (@pe_callB _ _ _ _ _ _ _ _ _ call_isinst rfl T.b_isinstance B.isinstance (@pa_consN _ _ _ _ _ (@pv _ 0 _ _ (by rfl) (by first | exact Or.inl rfl | exact Or.inr (Or.inl rfl) | exact Or.inr (Or.inr rfl)) (by decide) (by decide)) (@pa_consN _ _ _ _ _ (@pe_bltn _ _ (.ty "bool") _ _ rfl T.b_bool B.bool rfl (by decide) (by decide)) (@pa_nil _) (by rfl)) (by rfl)) (by decide) (by decide) (by rfl) (by rfl))))))), ?_⟩
  exact ⟨_, rfl, _, _, _, _, _, rfl, TyOf.int i, rfl, T.is_int_int, _, rfl, iteT ⟨_, rfl, _, _, _, _, _, rfl, TyOf.int i, rfl, T.is_int_bool, _, rfl, q⟩⟩
def sp_is_round : Sp := fun vs H Q _ => ∃ i : Int, vs = [.int i] ∧ 1 ≤ i ∧ i ≤ 1000000 ∧ Q (.bl true) H
theorem ok_is_round (T : Txt K mg A) : FnOk P w K mg base CX0 2 A.a_is_round A.d_is_round ["value"] sp_is_round := by
  have G_is_whole := ok_is_whole (P := P) (w := w) (base := base) T
  refine T.F_is_round.ok sc_is_round (fun vs H Q E h => ?_) (fun cdv Ar outer s H vs Q E hr h => ?_)
  · obtain ⟨i, rfl, _⟩ := h
    rfl
  obtain ⟨i, rfl, h1, h2, q⟩ := h
  refine ⟨_, (@pss_one _ _ _ (@ps_ret _ _ _ _ (@pe_and _ _ _ _ _ _ _ (@pe_call _ _ _ _ _ _ _ _ _ _ _ _ _ _ _ _ G_is_whole (hr.mono (by decide)) rfl T.m_is_whole T.k_is_whole T.bi_is_whole .nil pass0 (@pa_consN _ _ _ _ _ (@pv _ 0 _ _ (by rfl) (by first | exact Or.inl rfl | exact Or.inr (Or.inl rfl) | exact Or.inr (Or.inr rfl)) (by decide) (by decide)) (@pa_nil _) (by rfl)) (by decide) (by rfl) (by rfl)) (@pe_one _ _ _ _ _ (@pe_chain _ _ _ _ _ _ _ _ _ _ _ _ op_le op_le (@pe_int _ _ _ _) (@pv _ 0 _ _ (by rfl) (by first | exact Or.inl rfl | exact Or.inr (Or.inl rfl) | exact Or.inr (Or.inr rfl)) (by decide) (by decide)) (@pe_glob _ _ (.int 1000000) _ _ rfl T.g_GREATEST_ROUND ⟨_, rfl⟩ (by decide)) (by with_unfolding_all rfl)))))), ?_⟩
  refine ⟨_, rfl, i, rfl, _, rfl, iteT ⟨_, rfl, _, _, rfl, rfl, _, rfl, ?_⟩⟩
  rw [decT h1]
  refine iteT ⟨_, _, rfl, rfl, ?_⟩
  show Q (.bl (decide (i ≤ 1000000))) H
  rw [decT h2]
  exact q
def sp_goes_into : Sp := fun vs H Q _ => ∃ p n : Int, vs = [.int p, .int n] ∧ 0 < p ∧ Q (.bl (decide (n % p = 0))) H
theorem ok_goes_into (T : Txt K mg A) : FnOk P w K mg base CX0 1 A.a_goes_into A.d_goes_into ["part", "number"] sp_goes_into := by
  refine T.F_goes_into.ok sc_goes_into (fun vs H Q E h => ?_) (fun cdv Ar outer s H vs Q E hr h => ?_)
  · obtain ⟨p, n, rfl, _⟩ := h
    rfl
  obtain ⟨p, n, rfl, hp, q⟩ := h
  refine ⟨_, (@pss_one _ _ _ (@ps_ret _ _ _ _ (@pe_cmpR _ _ _ _ _ _ _ _ op_eqI (@pe_op _ _ _ _ _ _ _ _ op_mod (@pv _ 1 _ _ (by rfl) (by first | exact Or.inl rfl | exact Or.inr (Or.inl rfl) | exact Or.inr (Or.inr rfl)) (by decide) (by decide)) (@pv _ 0 _ _ (by rfl) (by first | exact Or.inl rfl | exact Or.inr (Or.inl rfl) | exact Or.inr (Or.inr rfl)) (by decide) (by decide))) (@pe_int _ _ _ _) (nomark _)))), ?_⟩
  exact ⟨_, rfl, _, rfl, _, _, rfl, rfl, hp, _, _, rfl, rfl, q⟩
def sp_leaves : Sp := fun vs H Q _ => ∃ n r t : Int, vs = [.int n, .int r, .int t] ∧ 0 < t ∧ Q (.bl (decide ((n - r) % t = 0))) H
theorem ok_leaves (T : Txt K mg A) : FnOk P w K mg base CX0 2 A.a_leaves A.d_leaves ["number", "rest", "turn"] sp_leaves := by
  have G_goes_into := ok_goes_into (P := P) (w := w) (base := base) T
  refine T.F_leaves.ok sc_leaves (fun vs H Q E h => ?_) (fun cdv Ar outer s H vs Q E hr h => ?_)
  · obtain ⟨n, r, t, rfl, _⟩ := h
    rfl
  obtain ⟨n, r, t, rfl, hp, q⟩ := h
  refine ⟨_, (@pss_one _ _ _ (@ps_ret _ _ _ _ (@pe_call _ _ _ _ _ _ _ _ _ _ _ _ _ _ _ _ G_goes_into (hr.mono (by decide)) rfl T.m_goes_into T.k_goes_into T.bi_goes_into .nil pass0 (@pa_consN _ _ _ _ _ (@pv _ 2 _ _ (by rfl) (by first | exact Or.inl rfl | exact Or.inr (Or.inl rfl) | exact Or.inr (Or.inr rfl)) (by decide) (by decide)) (@pa_consN _ _ _ _ _ (@pe_op _ _ _ _ _ _ _ _ op_sub (@pv _ 0 _ _ (by rfl) (by first | exact Or.inl rfl | exact Or.inr (Or.inl rfl) | exact Or.inr (Or.inr rfl)) (by decide) (by decide)) (@pv _ 1 _ _ (by rfl) (by first | exact Or.inl rfl | exact Or.inr (Or.inl rfl) | exact Or.inr (Or.inr rfl)) (by decide) (by decide))) (@pa_nil _) (by rfl)) (by rfl)) (by decide) (by rfl) (by rfl)))), ?_⟩
  exact ⟨_, rfl, _, rfl, _, rfl, _, _, rfl, rfl, _, _, rfl, hp, q⟩
def sp_is_rest : Sp := fun vs H Q _ => ∃ r t : Int, vs = [.int r, .int t] ∧ (1 ≤ t ∧ t ≤ 1000000) ∧ 0 ≤ r ∧ r < t ∧ Q (.bl true) H
theorem ok_is_rest (T : Txt K mg A) : FnOk P w K mg base CX0 3 A.a_is_rest A.d_is_rest ["value", "turn"] sp_is_rest := by
  have G_is_whole := ok_is_whole (P := P) (w := w) (base := base) T
  have G_is_round := ok_is_round (P := P) (w := w) (base := base) T
  refine T.F_is_rest.ok sc_is_rest (fun vs H Q E h => ?_) (fun cdv Ar outer s H vs Q E hr h => ?_)
  · obtain ⟨r, t, rfl, _⟩ := h
    rfl
  obtain ⟨r, t, rfl, ht, h1, h2, q⟩ := h
  refine ⟨_, (@pss_one _ _ _ (@ps_ret _ _ _ _ (@pe_and _ _ _ _ _ _ _ (@pe_call _ _ _ _ _ _ _ _ _ _ _ _ _ _ _ _ G_is_round (hr.mono (by decide)) rfl T.m_is_round T.k_is_round T.bi_is_round .nil pass0 (@pa_consN _ _ _ _ _ (@pv _ 1 _ _ (by rfl) (by first | exact Or.inl rfl | exact Or.inr (Or.inl rfl) | exact Or.inr (Or.inr rfl)) (by decide) (by decide)) (@pa_nil _) (by rfl)) (by decide) (by rfl) (by rfl)) (@pe_and _ _ _ _ _ _ _ (@pe_call _ _ _ _ _ _ _ _ _ _ _ _ _ _ _ _ G_is_whole (hr.mono (by decide)) rfl T.m_is_whole T.k_is_whole T.bi_is_whole .nil pass0 (@pa_consN _ _ _ _ _ (@pv _ 0 _ _ (by rfl) (by first | exact Or.inl rfl | exact Or.inr (Or.inl rfl) | exact Or.inr (Or.inr rfl)) (by decide) (by decide)) (@pa_nil _) (by rfl)) (by decide) (by rfl) (by rfl)) (@pe_one _ _ _ _ _ (@pe_chain _ _ _ _ _ _ _ _ _ _ _ _ op_le op_lt (@pe_int _ _ _ _) (@pv _ 0 _ _ (by rfl) (by first | exact Or.inl rfl | exact Or.inr (Or.inl rfl) | exact Or.inr (Or.inr rfl)) (by decide) (by decide)) (@pv _ 1 _ _ (by rfl) (by first | exact Or.inl rfl | exact Or.inr (Or.inl rfl) | exact Or.inr (Or.inr rfl)) (by decide) (by decide)) (by with_unfolding_all rfl))))))), ?_⟩
  refine ⟨_, rfl, t, rfl, ht.1, ht.2, _, rfl, iteT ⟨_, rfl, r, rfl, _, rfl, iteT ⟨_, rfl, _, _, rfl, rfl, _, rfl, ?_⟩⟩⟩
  rw [decT h1]
  refine iteT ⟨_, rfl, _, _, rfl, rfl, ?_⟩
  show Q (.bl (decide (r < t))) H
  rw [decT h2]
  exact q
theorem abs_if (i : Int) : (if i < 0 then -i else i) = (i.natAbs : Int) := by split <;> omega
def sp_part_with_times : Sp := fun vs H Q _ => ∃ a b : Int, vs = [.int a, .int b] ∧ (-1000000 ≤ a ∧ a ≤ 1000000) ∧ (-1000000 ≤ b ∧ b ≤ 1000000) ∧
  ∀ (g x y : Int) (t : Addr), Wr.Pwt a b g x y → H t = none → Q (.ref t) (upd H t (.tup [.int g, .int x, .int y]))
set_option maxHeartbeats 1000000 in
theorem ok_part_with_times (T : Txt K mg A) : FnOk P w K mg base CX0 1 A.a_part_with_times A.d_part_with_times ["one", "other"] sp_part_with_times := by
  refine T.F_part_with_times.ok sc_part_with_times (fun vs H Q E h => ?_) (fun cdv Ar outer s H vs Q E hr h => ?_)
  · obtain ⟨a, b, rfl, _⟩ := h
    rfl
  obtain ⟨a, b, rfl, ha, hb, q⟩ := h
  refine ⟨_, (@pss_cons _ _ _ _ _ (@ps_set _ _ (2) _ _ _ _ sc_part_with_times.nd rfl (Or.inl rfl) (@pe_callB _ _ _ _ _ _ _ _ _ call_abs rfl T.b_abs B.abs (@pa_consN _ _ _ _ _ (@pv _ 0 _ _ (by rfl) (by first | exact Or.inl rfl | exact Or.inr (Or.inl rfl) | exact Or.inr (Or.inr rfl)) (by decide) (by decide)) (@pa_nil _) (by rfl)) (by decide) (by decide) (by rfl) (by rfl)) (by rfl) (by first | exact .inl rfl | exact .inr rfl | assumption)) (@pss_cons _ _ _ _ _ (@ps_set _ _ (3) _ _ _ _ sc_part_with_times.nd rfl (Or.inl rfl) (@pe_int _ _ _ _) (by rfl) (by first | exact .inl rfl | exact .inr rfl | assumption)) (@pss_cons _ _ _ _ _ (@ps_set _ _ (4) _ _ _ _ sc_part_with_times.nd rfl (Or.inl rfl) (@pe_callB _ _ _ _ _ _ _ _ _ call_abs rfl T.b_abs B.abs (@pa_consN _ _ _ _ _ (@pv _ 1 _ _ (by rfl) (by first | exact Or.inl rfl | exact Or.inr (Or.inl rfl) | exact Or.inr (Or.inr rfl)) (by decide) (by decide)) (@pa_nil _) (by rfl)) (by decide) (by decide) (by rfl) (by rfl)) (by rfl) (by first | exact .inl rfl | exact .inr rfl | assumption)) (@pss_cons _ _ _ _ _ (@ps_set _ _ (5) _ _ _ _ sc_part_with_times.nd rfl (Or.inl rfl) (@pe_int _ _ _ _) (by rfl) (by first | exact .inl rfl | exact .inr rfl | assumption)) (@pss_cons _ _ _ _ _ (@ps_while _ _ _ _ _ _ PassesOwn.never (@pt_cmpR _ _ _ _ _ _ _ _ op_neI (@pv _ 4 _ _ (by rfl) (by first | exact Or.inl rfl | exact Or.inr (Or.inl rfl) | exact Or.inr (Or.inr rfl)) (by decide) (by decide)) (@pe_int _ _ _ _) (nomark _)) (@pss_cons _ _ _ _ _ (@ps_set _ _ (6) _ _ _ _ sc_part_with_times.nd rfl (Or.inl rfl) (@pe_op _ _ _ _ _ _ _ _ op_fdiv (@pv _ 2 _ _ (by rfl) (by first | exact Or.inl rfl | exact Or.inr (Or.inl rfl) | exact Or.inr (Or.inr rfl)) (by decide) (by decide)) (@pv _ 4 _ _ (by rfl) (by first | exact Or.inl rfl | exact Or.inr (Or.inl rfl) | exact Or.inr (Or.inr rfl)) (by decide) (by decide))) (by rfl) (by first | exact .inl rfl | exact .inr rfl | assumption)) (@pss_cons _ _ _ _ _ (@ps_set _ _ (7) _ _ _ _ sc_part_with_times.nd rfl (Or.inl rfl) (@pe_op _ _ _ _ _ _ _ _ op_sub (@pv _ 2 _ _ (by rfl) (by first | exact Or.inl rfl | exact Or.inr (Or.inl rfl) | exact Or.inr (Or.inr rfl)) (by decide) (by decide)) (@pe_op _ _ _ _ _ _ _ _ op_mul (@pv _ 6 _ _ (by rfl) (by first | exact Or.inl rfl | exact Or.inr (Or.inl rfl) | exact Or.inr (Or.inr rfl)) (by decide) (by decide)) (@pv _ 4 _ _ (by rfl) (by first | exact Or.inl rfl | exact Or.inr (Or.inl rfl) | exact Or.inr (Or.inr rfl)) (by decide) (by decide)))) (by rfl) (by first | exact .inl rfl | exact .inr rfl | assumption)) (@pss_cons _ _ _ _ _ (@ps_set _ _ (8) _ _ _ _ sc_part_with_times.nd rfl (Or.inl rfl) (@pe_op _ _ _ _ _ _ _ _ op_sub (@pv _ 3 _ _ (by rfl) (by first | exact Or.inl rfl | exact Or.inr (Or.inl rfl) | exact Or.inr (Or.inr rfl)) (by decide) (by decide)) (@pe_op _ _ _ _ _ _ _ _ op_mul (@pv _ 6 _ _ (by rfl) (by first | exact Or.inl rfl | exact Or.inr (Or.inl rfl) | exact Or.inr (Or.inr rfl)) (by decide) (by decide)) (@pv _ 5 _ _ (by rfl) (by first | exact Or.inl rfl | exact Or.inr (Or.inl rfl) | exact Or.inr (Or.inr rfl)) (by decide) (by decide)))) (by rfl) (by first | exact .inl rfl | exact .inr rfl | assumption)) (@pss_cons _ _ _ _ _ (@ps_set _ _ (2) _ _ _ _ sc_part_with_times.nd rfl (Or.inl rfl) (@pv _ 4 _ _ (by rfl) (by first | exact Or.inl rfl | exact Or.inr (Or.inl rfl) | exact Or.inr (Or.inr rfl)) (by decide) (by decide)) (by rfl) (by first | exact .inl rfl | exact .inr rfl | assumption)) (@pss_cons _ _ _ _ _ (@ps_set _ _ (3) _ _ _ _ sc_part_with_times.nd rfl (Or.inl rfl) (@pv _ 5 _ _ (by rfl) (by first | exact Or.inl rfl | exact Or.inr (Or.inl rfl) | exact Or.inr (Or.inr rfl)) (by decide) (by decide)) (by rfl) (by first | exact .inl rfl | exact .inr rfl | assumption)) (@pss_cons _ _ _ _ _ (@ps_set _ _ (4) _ _ _ _ sc_part_with_times.nd rfl (Or.inl rfl) (@pv _ 7 _ _ (by rfl) (by first | exact Or.inl rfl | exact Or.inr (Or.inl rfl) | exact Or.inr (Or.inr rfl)) (by decide) (by decide)) (by rfl) (by first | exact .inl rfl | exact .inr rfl | assumption)) (@pss_one _ _ _ (@ps_set _ _ (5) _ _ _ _ sc_part_with_times.nd rfl (Or.inl rfl) (@pv _ 8 _ _ (by rfl) (by first | exact Or.inl rfl | exact Or.inr (Or.inl rfl) | exact Or.inr (Or.inr rfl)) (by decide) (by decide)) (by rfl) (by first | exact .inl rfl | exact .inr rfl | assumption)))))))))) (@pss_cons _ _ _ _ _ (@ps_if _ _ _ _ _ _ _ _ (@pt_cmpR _ _ _ _ _ _ _ _ op_lt (@pv _ 0 _ _ (by rfl) (by first | exact Or.inl rfl | exact Or.inr (Or.inl rfl) | exact Or.inr (Or.inr rfl)) (by decide) (by decide)) (@pe_int _ _ _ _) (nomark _)) (@pss_one _ _ _ (@ps_set _ _ (3) _ _ _ _ sc_part_with_times.nd rfl (Or.inl rfl) (@pe_un _ _ _ _ _ _ un_neg (@pv _ 3 _ _ (by rfl) (by first | exact Or.inl rfl | exact Or.inr (Or.inl rfl) | exact Or.inr (Or.inr rfl)) (by decide) (by decide))) (by rfl) (by first | exact .inl rfl | exact .inr rfl | assumption))) (@pss_nil _)) (@pss_cons _ _ _ _ _ (@ps_set _ _ (9) _ _ _ _ sc_part_with_times.nd rfl (Or.inl rfl) (@pe_ifExp _ _ _ _ _ _ _ _ (@pt_cmpR _ _ _ _ _ _ _ _ op_eqI (@pv _ 1 _ _ (by rfl) (by first | exact Or.inl rfl | exact Or.inr (Or.inl rfl) | exact Or.inr (Or.inr rfl)) (by decide) (by decide)) (@pe_int _ _ _ _) (nomark _)) (@pe_int _ _ _ _) (@pe_op _ _ _ _ _ _ _ _ op_fdivN (@pe_op _ _ _ _ _ _ _ _ op_sub (@pv _ 2 _ _ (by rfl) (by first | exact Or.inl rfl | exact Or.inr (Or.inl rfl) | exact Or.inr (Or.inr rfl)) (by decide) (by decide)) (@pe_op _ _ _ _ _ _ _ _ op_mul (@pv _ 3 _ _ (by rfl) (by first | exact Or.inl rfl | exact Or.inr (Or.inl rfl) | exact Or.inr (Or.inr rfl)) (by decide) (by decide)) (@pv _ 0 _ _ (by rfl) (by first | exact Or.inl rfl | exact Or.inr (Or.inl rfl) | exact Or.inr (Or.inr rfl)) (by decide) (by decide)))) (@pv _ 1 _ _ (by rfl) (by first | exact Or.inl rfl | exact Or.inr (Or.inl rfl) | exact Or.inr (Or.inr rfl)) (by decide) (by decide)))) (by rfl) (by first | exact .inl rfl | exact .inr rfl | assumption)) (@pss_one _ _ _ (@ps_ret _ _ _ _ (@pe_tup _ _ _ _ _ (@pa_consN _ _ _ _ _ (@pv _ 2 _ _ (by rfl) (by first | exact Or.inl rfl | exact Or.inr (Or.inl rfl) | exact Or.inr (Or.inr rfl)) (by decide) (by decide)) (@pa_consN _ _ _ _ _ (@pv _ 3 _ _ (by rfl) (by first | exact Or.inl rfl | exact Or.inr (Or.inl rfl) | exact Or.inr (Or.inr rfl)) (by decide) (by decide)) (@pa_consN _ _ _ _ _ (@pv _ 9 _ _ (by rfl) (by first | exact Or.inl rfl | exact Or.inr (Or.inl rfl) | exact Or.inr (Or.inr rfl)) (by decide) (by decide)) (@pa_nil _) (by rfl)) (by rfl)) (by rfl)))))))))))), ?_⟩
  have hA := Wr.abs_small ha
  have hB := Wr.abs_small hb
  refine ⟨_, rfl, _, rfl, ?_⟩
  rw [abs_if]
  refine ⟨_, rfl, _, rfl, ?_⟩
  rw [abs_if]
  refine while_by (fun σ H' => H' = H ∧ ∃ (p o l lo : Int) (f1 f2 f3 f4 : Option V), σ = [some (.int a), some (.int b), some (.int p), some (.int o), some (.int l), some (.int lo), f1, f2, f3, f4] ∧ Wr.EI (a.natAbs : Int) (b.natAbs : Int) p o l lo)
    (fun (σ : St) _ => match σ[4]? with | some (some (V.int l)) => l.toNat | _ => 0) ⟨rfl, _, _, _, _, _, _, _, _, rfl, Wr.EI.start hA.1 hB.1 hB.2⟩ ?_ ?_
  · rintro σ H' ⟨rfl, p, o, l, lo, f1, f2, f3, f4, rfl, hI⟩
    refine ⟨_, rfl, _, _, rfl, rfl, _, rfl, ?_⟩
    by_cases h0 : l = 0
    · subst h0
      refine iteF ?_
      obtain ⟨hP, hn1, hn2⟩ := hI.done ha hb
      refine ⟨_, rfl, _, _, rfl, rfl, _, rfl, ?_⟩
      have fin : ∀ x : Int, x = (if a < 0 then -o else o) → (∃ v, some (some (V.int b)) = some (some v) ∧ ∃ i j, v = V.int i ∧ V.int 0 = V.int j ∧ ∃ c, V.bl (decide (i = j)) = V.bl c ∧ if c = true then True else True) := fun _ _ => ⟨_, rfl, _, _, rfl, rfl, _, rfl, by split <;> trivial⟩
      have oM := hI.oM
      by_cases h1 : a < 0
      · rw [if_pos h1] at hP hn1 hn2
        rw [decT h1]
        refine iteT ⟨_, rfl, _, rfl, ?_⟩
        refine ⟨_, rfl, _, _, rfl, rfl, _, rfl, ?_⟩
        by_cases h2 : b = 0
        · rw [if_pos h2] at hP
          rw [decT h2]
          refine iteT ?_
          exact ⟨_, rfl, _, rfl, _, rfl, (by show 3 ≤ sizeLine; decide), fun t ht => q _ _ _ t hP ht⟩
        · rw [if_neg h2] at hP
          rw [decF h2]
          refine iteF ?_
          refine ⟨_, rfl, _, rfl, _, rfl, _, _, rfl, rfl, .inl ⟨by omega, by omega⟩, _, _, rfl, rfl, _, rfl, _, _, rfl, rfl, ⟨h2, by omega⟩, ?_⟩
          exact ⟨_, rfl, _, rfl, _, rfl, (by show 3 ≤ sizeLine; decide), fun t ht => q _ _ _ t hP ht⟩
      · rw [if_neg h1] at hP hn1 hn2
        rw [decF h1]
        refine iteF ?_
        refine ⟨_, rfl, _, _, rfl, rfl, _, rfl, ?_⟩
        by_cases h2 : b = 0
        · rw [if_pos h2] at hP
          rw [decT h2]
          refine iteT ?_
          exact ⟨_, rfl, _, rfl, _, rfl, (by show 3 ≤ sizeLine; decide), fun t ht => q _ _ _ t hP ht⟩
        · rw [if_neg h2] at hP
          rw [decF h2]
          refine iteF ?_
          refine ⟨_, rfl, _, rfl, _, rfl, _, _, rfl, rfl, .inl ⟨by omega, by omega⟩, _, _, rfl, rfl, _, rfl, _, _, rfl, rfl, ⟨h2, by omega⟩, ?_⟩
          exact ⟨_, rfl, _, rfl, _, rfl, (by show 3 ≤ sizeLine; decide), fun t ht => q _ _ _ t hP ht⟩
    · rw [decF h0]
      refine iteT ?_
      have l0 := hI.l0
      have lM := hI.lM
      have loM := hI.loM
      refine ⟨_, rfl, _, rfl, _, _, rfl, rfl, ⟨by omega, by omega⟩, ?_⟩
      refine ⟨_, rfl, _, rfl, _, rfl, _, _, rfl, rfl, .inr ⟨by omega, by omega⟩, _, _, rfl, rfl, ?_⟩
      refine ⟨_, rfl, _, rfl, _, rfl, _, _, rfl, rfl, .inr ⟨by omega, by omega⟩, _, _, rfl, rfl, ?_⟩
      refine ⟨_, rfl, _, rfl, _, rfl, _, rfl, ⟨rfl, _, _, _, _, _, _, _, _, rfl, hI.turn hB.2 h0⟩, ?_⟩
      show (p - p / l * l).toNat < l.toNat
      have e : p - p / l * l = p % l := by
        have := Int.emod_add_mul_ediv p l
        rw [Int.mul_comm] at this
        omega
      rw [e]
      have h1 := Int.emod_nonneg p h0
      have h2 := Int.emod_lt_of_pos p (show 0 < l by omega)
      omega
  · rintro σ H' Q1 Q2 hm ⟨v, e, i, j, e1, e2, k, e3, q⟩
    exact ⟨v, e, i, j, e1, e2, k, e3, hm _ _ q⟩
end
end W01

set_option Elab.async false
set_option linter.all false
set_option maxRecDepth 100000
namespace W01
open PySem L2
section
variable {P : Program} {w : World} {K : PySem.W.Frag} {mg : Str → Option Value} {base : Heap} {A : Adr}
def sp_common_part_of_two : Sp := fun vs H Q _ => ∃ a b : Int, vs = [.int a, .int b] ∧ Q (.int (Int.gcd a b)) H
theorem ok_common_part_of_two (T : Txt K mg A) : FnOk P w K mg base CX0 1 A.a_common_part_of_two A.d_common_part_of_two ["one", "other"] sp_common_part_of_two := by
  refine T.F_common_part_of_two.ok sc_common_part_of_two (fun vs H Q E h => ?_) (fun cdv Ar outer s H vs Q E hr h => ?_)
  · obtain ⟨a, b, rfl, _⟩ := h
    rfl
  obtain ⟨a, b, rfl, q⟩ := h
  refine ⟨_, (@pss_cons _ _ _ _ _ (@ps_set _ _ (2) _ _ _ _ sc_common_part_of_two.nd rfl (Or.inl rfl) (@pe_callB _ _ _ _ _ _ _ _ _ call_abs rfl T.b_abs B.abs (@pa_consN _ _ _ _ _ (@pv _ 0 _ _ (by rfl) (by first | exact Or.inl rfl | exact Or.inr (Or.inl rfl) | exact Or.inr (Or.inr rfl)) (by decide) (by decide)) (@pa_nil _) (by rfl)) (by decide) (by decide) (by rfl) (by rfl)) (by rfl) (by first | exact .inl rfl | exact .inr rfl | assumption)) (@pss_cons _ _ _ _ _ (@ps_set _ _ (3) _ _ _ _ sc_common_part_of_two.nd rfl (Or.inl rfl) (@pe_callB _ _ _ _ _ _ _ _ _ call_abs rfl T.b_abs B.abs (@pa_consN _ _ _ _ _ (@pv _ 1 _ _ (by rfl) (by first | exact Or.inl rfl | exact Or.inr (Or.inl rfl) | exact Or.inr (Or.inr rfl)) (by decide) (by decide)) (@pa_nil _) (by rfl)) (by decide) (by decide) (by rfl) (by rfl)) (by rfl) (by first | exact .inl rfl | exact .inr rfl | assumption)) (@pss_cons _ _ _ _ _ (@ps_while _ _ _ _ _ _ PassesOwn.never (@pt_cmpR _ _ _ _ _ _ _ _ op_neI (@pv _ 3 _ _ (by rfl) (by first | exact Or.inl rfl | exact Or.inr (Or.inl rfl) | exact Or.inr (Or.inr rfl)) (by decide) (by decide)) (@pe_int _ _ _ _) (nomark _)) (@pss_cons _ _ _ _ _ (@ps_set _ _ (4) _ _ _ _ sc_common_part_of_two.nd rfl (Or.inl rfl) (@pe_op _ _ _ _ _ _ _ _ op_mod (@pv _ 2 _ _ (by rfl) (by first | exact Or.inl rfl | exact Or.inr (Or.inl rfl) | exact Or.inr (Or.inr rfl)) (by decide) (by decide)) (@pv _ 3 _ _ (by rfl) (by first | exact Or.inl rfl | exact Or.inr (Or.inl rfl) | exact Or.inr (Or.inr rfl)) (by decide) (by decide))) (by rfl) (by first | exact .inl rfl | exact .inr rfl | assumption)) (@pss_cons _ _ _ _ _ (@ps_set _ _ (2) _ _ _ _ sc_common_part_of_two.nd rfl (Or.inl rfl) (@pv _ 3 _ _ (by rfl) (by first | exact Or.inl rfl | exact Or.inr (Or.inl rfl) | exact Or.inr (Or.inr rfl)) (by decide) (by decide)) (by rfl) (by first | exact .inl rfl | exact .inr rfl | assumption)) (@pss_one _ _ _ (@ps_set _ _ (3) _ _ _ _ sc_common_part_of_two.nd rfl (Or.inl rfl) (@pv _ 4 _ _ (by rfl) (by first | exact Or.inl rfl | exact Or.inr (Or.inl rfl) | exact Or.inr (Or.inr rfl)) (by decide) (by decide)) (by rfl) (by first | exact .inl rfl | exact .inr rfl | assumption)))))) (@pss_one _ _ _ (@ps_ret _ _ _ _ (@pv _ 2 _ _ (by rfl) (by first | exact Or.inl rfl | exact Or.inr (Or.inl rfl) | exact Or.inr (Or.inr rfl)) (by decide) (by decide))))))), ?_⟩
  refine ⟨_, rfl, _, rfl, _, rfl, _, rfl, ?_⟩
  refine while_by (fun σ H' => H' = H ∧ ∃ (p l : Int) (f : Option V), σ = [some (.int a), some (.int b), some (.int p), some (.int l), f] ∧ 0 ≤ p ∧ 0 ≤ l ∧ Int.gcd p l = Int.gcd a b)
    (fun (σ : St) _ => match σ[3]? with | some (some (V.int l)) => l.toNat | _ => 0) ⟨rfl, _, _, _, rfl, ?_, ?_, ?_⟩ ?_ ?_
  · split <;> omega
  · split <;> omega
  · rw [abs_if, abs_if]; simp [Int.gcd]
  · rintro σ H' ⟨rfl, p, l, f, rfl, hp, hl, hg⟩
    refine ⟨_, rfl, _, _, rfl, rfl, _, rfl, ?_⟩
    by_cases h0 : l = 0
    · subst h0
      refine iteF ?_
      refine ⟨_, rfl, ?_⟩
      have e : p = (Int.gcd a b : Int) := by
        rw [← hg, Int.gcd_zero_right]; omega
      rw [e]; exact q
    · rw [decF h0]
      refine iteT ?_
      refine ⟨_, rfl, _, rfl, _, _, rfl, rfl, (by omega), _, rfl, _, rfl, ⟨rfl, _, _, _, rfl, hl, Int.emod_nonneg _ h0, ?_⟩, ?_⟩
      · rw [← hg]
        show Nat.gcd l.natAbs (p % l).natAbs = Nat.gcd p.natAbs l.natAbs
        rw [Int.natAbs_emod_of_nonneg hp]
        rw [Nat.gcd_comm l.natAbs, ← Nat.gcd_rec, Nat.gcd_comm]
      · show (p % l).toNat < l.toNat
        have h1 := Int.emod_nonneg p h0
        have h2 := Int.emod_lt_of_pos p (show 0 < l by omega)
        omega
  · rintro σ H' Q1 Q2 hm ⟨v, e, i, j, e1, e2, k, e3, q⟩
    exact ⟨v, e, i, j, e1, e2, k, e3, hm _ _ q⟩
theorem gcdL_snoc (ns : List Int) (n : Int) : (Int.gcd (gcdL ns : Int) n : Int) = (gcdL (ns ++ [n]) : Int) := by
  unfold gcdL
  rw [List.foldl_append]
  simp [Int.gcd]
def sp_common_part (K : PySem.W.Frag) : Sp := fun vs H Q _ => ∃ (a : Addr) (ns : List Int), vs = [.ref a] ∧ IntsAt K H a ns ∧ Q (.int (gcdL ns)) H
theorem ok_common_part (T : Txt K mg A) : FnOk P w K mg base CX0 2 A.a_common_part A.d_common_part ["numbers"] (sp_common_part K) := by
  have G_common_part_of_two := ok_common_part_of_two (P := P) (w := w) (base := base) T
  refine T.F_common_part.ok sc_common_part (fun vs H Q E h => ?_) (fun cdv Ar outer s H vs Q E hr h => ?_)
  · obtain ⟨a, ns, rfl, _⟩ := h
    rfl
  obtain ⟨a, ns, rfl, hS, q⟩ := h
  refine ⟨_, (@pss_cons _ _ _ _ _ (@ps_set _ _ (1) _ _ _ _ sc_common_part.nd rfl (Or.inl rfl) (@pe_int _ _ _ _) (by rfl) (by first | exact .inl rfl | exact .inr rfl | assumption)) (@pss_cons _ _ _ _ _ (@ps_for _ _ _ _ _ _ _ _ PassesOwn.never rfl (@pi_list _ _ _ _ (@pv _ 0 _ _ (by rfl) (by first | exact Or.inl rfl | exact Or.inr (Or.inl rfl) | exact Or.inr (Or.inr rfl)) (by decide) (by decide))) (@pg_name _ _ (2) _ sc_common_part.nd rfl (Or.inl rfl) (by first | exact .inl rfl | exact .inr rfl | assumption)) (@pss_one _ _ _ (@ps_set _ _ (1) _ _ _ _ sc_common_part.nd rfl (Or.inl rfl) (@pe_call _ _ _ _ _ _ _ _ _ _ _ _ _ _ _ _ G_common_part_of_two (hr.mono (by decide)) rfl T.m_common_part_of_two T.k_common_part_of_two T.bi_common_part_of_two .nil pass0 (@pa_consN _ _ _ _ _ (@pv _ 1 _ _ (by rfl) (by first | exact Or.inl rfl | exact Or.inr (Or.inl rfl) | exact Or.inr (Or.inr rfl)) (by decide) (by decide)) (@pa_consN _ _ _ _ _ (@pv _ 2 _ _ (by rfl) (by first | exact Or.inl rfl | exact Or.inr (Or.inl rfl) | exact Or.inr (Or.inr rfl)) (by decide) (by decide)) (@pa_nil _) (by rfl)) (by rfl)) (by decide) (by rfl) (by rfl)) (by rfl) (by first | exact .inl rfl | exact .inr rfl | assumption))) (by intro _; rfl)) (@pss_one _ _ _ (@ps_ret _ _ _ _ (@pv _ 1 _ _ (by rfl) (by first | exact Or.inl rfl | exact Or.inr (Or.inl rfl) | exact Or.inr (Or.inr rfl)) (by decide) (by decide)))))), ?_⟩
  refine ⟨_, rfl, a, rfl, ⟨_, hS⟩, for_list (K := K) (a := a) (xs := ns.map V.int) (fun i σ H' => H' = H ∧ ∃ f, σ = [some (.ref a), some (.int (gcdL (ns.take i))), f]) ⟨rfl, _, rfl⟩ (fun i σ H' _ ⟨e, _⟩ => e ▸ hS) ?_ ?_⟩
  · rintro i x σ H' hi ⟨rfl, f, rfl⟩
    obtain ⟨n, hn, rfl⟩ := ints_get hi
    refine ⟨_, rfl, _, rfl, _, _, rfl, rfl, some (.int n), ?_⟩
    rw [take_snoc hn, ← gcdL_snoc]
    rfl
  · rintro σ H' ⟨rfl, f, rfl⟩
    refine ⟨_, rfl, ?_⟩
    rw [List.length_map, List.take_length]
    exact q
theorem lcmL_snoc (ns : List Int) (t : Int) : lcmL ns / (Int.gcd (lcmL ns) t : Int) * t = lcmL (ns ++ [t]) := by
  unfold lcmL
  rw [List.foldl_append]
  rfl
def sp_common_turn (K : PySem.W.Frag) : Sp := fun vs H Q _ => ∃ (a : Addr) (ts : List Int), vs = [.ref a] ∧ IntsAt K H a ts ∧ (∀ t ∈ ts, 0 < t ∧ t ≤ 1000000) ∧ Q (.int (lcmL ts)) H
theorem gcd_small {w t : Int} (h : 0 < t ∧ t ≤ 1000000) : 0 < (Int.gcd w t : Int) ∧ (Int.gcd w t : Int) ≤ 1000000 := by
  have h1 : 0 < Int.gcd w t := Nat.pos_of_ne_zero fun z => by
    have := (Int.gcd_eq_zero_iff.mp z).2
    omega
  have h2 : (Int.gcd w t : Int) ≤ t := Int.le_of_dvd h.1 (Int.gcd_dvd_right w t)
  omega
theorem ok_common_turn (T : Txt K mg A) : FnOk P w K mg base CX0 2 A.a_common_turn A.d_common_turn ["turns"] (sp_common_turn K) := by
  have G_common_part_of_two := ok_common_part_of_two (P := P) (w := w) (base := base) T
  refine T.F_common_turn.ok sc_common_turn (fun vs H Q E h => ?_) (fun cdv Ar outer s H vs Q E hr h => ?_)
  · obtain ⟨a, ns, rfl, _⟩ := h
    rfl
  obtain ⟨a, ns, rfl, hS, hT, q⟩ := h
  refine ⟨_, (@pss_cons _ _ _ _ _ (@ps_set _ _ (1) _ _ _ _ sc_common_turn.nd rfl (Or.inl rfl) (@pe_int _ _ _ _) (by rfl) (by first | exact .inl rfl | exact .inr rfl | assumption)) (@pss_cons _ _ _ _ _ (@ps_for _ _ _ _ _ _ _ _ PassesOwn.never rfl (@pi_list _ _ _ _ (@pv _ 0 _ _ (by rfl) (by first | exact Or.inl rfl | exact Or.inr (Or.inl rfl) | exact Or.inr (Or.inr rfl)) (by decide) (by decide))) (@pg_name _ _ (2) _ sc_common_turn.nd rfl (Or.inl rfl) (by first | exact .inl rfl | exact .inr rfl | assumption)) (@pss_one _ _ _ (@ps_set _ _ (1) _ _ _ _ sc_common_turn.nd rfl (Or.inl rfl) (@pe_op _ _ _ _ _ _ _ _ op_mul (@pe_op _ _ _ _ _ _ _ _ op_fdiv (@pv _ 1 _ _ (by rfl) (by first | exact Or.inl rfl | exact Or.inr (Or.inl rfl) | exact Or.inr (Or.inr rfl)) (by decide) (by decide)) (@pe_call _ _ _ _ _ _ _ _ _ _ _ _ _ _ _ _ G_common_part_of_two (hr.mono (by decide)) rfl T.m_common_part_of_two T.k_common_part_of_two T.bi_common_part_of_two .nil pass0 (@pa_consN _ _ _ _ _ (@pv _ 1 _ _ (by rfl) (by first | exact Or.inl rfl | exact Or.inr (Or.inl rfl) | exact Or.inr (Or.inr rfl)) (by decide) (by decide)) (@pa_consN _ _ _ _ _ (@pv _ 2 _ _ (by rfl) (by first | exact Or.inl rfl | exact Or.inr (Or.inl rfl) | exact Or.inr (Or.inr rfl)) (by decide) (by decide)) (@pa_nil _) (by rfl)) (by rfl)) (by decide) (by rfl) (by rfl))) (@pv _ 2 _ _ (by rfl) (by first | exact Or.inl rfl | exact Or.inr (Or.inl rfl) | exact Or.inr (Or.inr rfl)) (by decide) (by decide))) (by rfl) (by first | exact .inl rfl | exact .inr rfl | assumption))) (by intro _; rfl)) (@pss_one _ _ _ (@ps_ret _ _ _ _ (@pv _ 1 _ _ (by rfl) (by first | exact Or.inl rfl | exact Or.inr (Or.inl rfl) | exact Or.inr (Or.inr rfl)) (by decide) (by decide)))))), ?_⟩
  refine ⟨_, rfl, a, rfl, ⟨_, hS⟩, for_list (K := K) (a := a) (xs := ns.map V.int) (fun i σ H' => H' = H ∧ ∃ f, σ = [some (.ref a), some (.int (lcmL (ns.take i))), f]) ⟨rfl, _, rfl⟩ (fun i σ H' _ ⟨e, _⟩ => e ▸ hS) ?_ ?_⟩
  · rintro i x σ H' hi ⟨rfl, f, rfl⟩
    obtain ⟨n, hn, rfl⟩ := ints_get hi
    have ht := hT n (List.mem_of_getElem? hn)
    have hg := gcd_small (w := lcmL (ns.take i)) ht
    refine ⟨_, rfl, _, rfl, _, rfl, _, _, rfl, _, _, rfl, rfl, ⟨hg.1, by omega⟩, _, rfl, _, _, rfl, rfl, .inr ⟨by omega, by omega⟩, rfl, some (.int n), ?_⟩
    rw [take_snoc hn, ← lcmL_snoc]
    rfl
  · rintro σ H' ⟨rfl, f, rfl⟩
    refine ⟨_, rfl, ?_⟩
    rw [List.length_map, List.take_length]
    exact q
end
end W01

set_option Elab.async false
set_option linter.all false
set_option maxRecDepth 100000
namespace W01
open PySem L2
section
variable {P : Program} {w : World} {K : PySem.W.Frag} {mg : Str → Option Value} {base : Heap} {A : Adr}
def ObjAt (H : Hp) (p C : Addr) (fs : List (Str × V)) : Prop := ∃ dx, H p = some (.ins C dx fs)
theorem Same.obj {H H' : Hp} {p C : Addr} {fs : List (Str × V)} (e : Same H H') (h : ObjAt H p C fs) : ObjAt H' p C fs := let ⟨dx, q⟩ := h; ⟨dx, e _ _ q⟩
/-- two plain values are set -/
def sp_init2 (C : Addr) (f g : Str) : Sp := fun vs H Q _ => ∃ (p dx : Addr) (x y : V), vs = [.ref p, x, y] ∧ H p = some (.ins C dx []) ∧ ∀ H', ObjAt H' p C [(f, x), (g, y)] → (∀ b o, H b = some o → b ≠ p → H' b = some o) → Q .non H'
theorem make2 {C : Addr} {f g : Str} {x y : V} {H : Hp} {Q : VK} {E : XK} (h : ∀ p H', Same H H' → H p = none → ObjAt H' p C [(f, x), (g, y)] → Q (.ref p) H') :
    ∀ p dx, H p = none → H dx = none → dx ≠ p → sp_init2 C f g (.ref p :: ([x, y] ++ [])) (upd (upd H dx (.own p)) p (.ins C dx [])) (fun v H2 => v = .non ∧ Q (.ref p) H2) E := fun p dx hp hd hne =>
  ⟨p, dx, x, y, rfl, upd_same, fun H' ho kp => ⟨rfl, h p H' (fun b o e => kp b o (by rw [upd_ne (ne_of_none e hp), upd_ne (ne_of_none e hd)]; exact e) (ne_of_none e hp)) hp ho⟩⟩
theorem ok_Number_init (T : Txt K mg A) : FnOk P w K mg base CX0 1 A.a_Number___init__ A.d_Number___init__ ["self", "number", "turn"] (sp_init2 A.c_Number "number" "turn") := by
  refine T.F_Number___init__.ok sc_Number___init__ (fun vs H Q E h => ?_) (fun cdv Ar outer s H vs Q E hr h => ?_)
  · obtain ⟨p, dx, x, y, rfl, _⟩ := h
    rfl
  obtain ⟨p, dx, x, y, rfl, hp, q⟩ := h
  refine ⟨_, (@pss_cons _ _ _ _ _ (@ps_fld _ _ _ _ _ _ _ _ (@pv _ 0 _ _ (by rfl) (by first | exact Or.inl rfl | exact Or.inr (Or.inl rfl) | exact Or.inr (Or.inr rfl)) (by decide) (by decide)) (@pv _ 1 _ _ (by rfl) (by first | exact Or.inl rfl | exact Or.inr (Or.inl rfl) | exact Or.inr (Or.inr rfl)) (by decide) (by decide)) (by rfl)) (@pss_one _ _ _ (@ps_fld _ _ _ _ _ _ _ _ (@pv _ 0 _ _ (by rfl) (by first | exact Or.inl rfl | exact Or.inr (Or.inl rfl) | exact Or.inr (Or.inr rfl)) (by decide) (by decide)) (@pv _ 2 _ _ (by rfl) (by first | exact Or.inl rfl | exact Or.inr (Or.inl rfl) | exact Or.inr (Or.inr rfl)) (by decide) (by decide)) (by rfl)))), ?_⟩
  refine ⟨_, rfl, _, rfl, p, A.c_Number, dx, _, rfl, hp, T.cl_Number, T.na_Number_number, (by show 0 < 1000; decide), _, rfl, _, rfl, p, A.c_Number, dx, _, rfl, upd_same, T.cl_Number, T.na_Number_turn, (by show 1 < 1000; decide), ?_⟩
  exact q _ ⟨dx, upd_same⟩ fun b o e hb => by rw [upd_ne hb, upd_ne hb]; exact e
theorem ok_Clash_init (T : Txt K mg A) : FnOk P w K mg base CX0 1 A.a_Clash___init__ A.d_Clash___init__ ["self", "one", "other"] (sp_init2 A.c_Clash "one" "other") := by
  refine T.F_Clash___init__.ok sc_Clash___init__ (fun vs H Q E h => ?_) (fun cdv Ar outer s H vs Q E hr h => ?_)
  · obtain ⟨p, dx, x, y, rfl, _⟩ := h
    rfl
  obtain ⟨p, dx, x, y, rfl, hp, q⟩ := h
  refine ⟨_, (@pss_cons _ _ _ _ _ (@ps_fld _ _ _ _ _ _ _ _ (@pv _ 0 _ _ (by rfl) (by first | exact Or.inl rfl | exact Or.inr (Or.inl rfl) | exact Or.inr (Or.inr rfl)) (by decide) (by decide)) (@pv _ 1 _ _ (by rfl) (by first | exact Or.inl rfl | exact Or.inr (Or.inl rfl) | exact Or.inr (Or.inr rfl)) (by decide) (by decide)) (by rfl)) (@pss_one _ _ _ (@ps_fld _ _ _ _ _ _ _ _ (@pv _ 0 _ _ (by rfl) (by first | exact Or.inl rfl | exact Or.inr (Or.inl rfl) | exact Or.inr (Or.inr rfl)) (by decide) (by decide)) (@pv _ 2 _ _ (by rfl) (by first | exact Or.inl rfl | exact Or.inr (Or.inl rfl) | exact Or.inr (Or.inr rfl)) (by decide) (by decide)) (by rfl)))), ?_⟩
  refine ⟨_, rfl, _, rfl, p, A.c_Clash, dx, _, rfl, hp, T.cl_Clash, T.na_Clash_one, (by show 0 < 1000; decide), _, rfl, _, rfl, p, A.c_Clash, dx, _, rfl, upd_same, T.cl_Clash, T.na_Clash_other, (by show 1 < 1000; decide), ?_⟩
  exact q _ ⟨dx, upd_same⟩ fun b o e hb => by rw [upd_ne hb, upd_ne hb]; exact e
def PrsAt (H : Hp) (a : Addr) (rs : List (Int × Int)) : Prop := ∃ as : List Addr, H a = some (.lst (as.map V.ref)) ∧ Paired (fun b (p : Int × Int) => H b = some (.tup [.int p.1, .int p.2])) as rs
theorem PrsAt.same {H H' : Hp} {a : Addr} {rs : List (Int × Int)} (e : Same H H') (h : PrsAt H a rs) : PrsAt H' a rs := by
  obtain ⟨as, h1, h2⟩ := h
  exact ⟨as, e _ _ h1, Paired.mapP h2 fun b p q => e _ _ q⟩
theorem PrsAt.pairs {H : Hp} {a : Addr} {rs : List (Int × Int)} (h : PrsAt H a rs) : PairsAt K H a rs := by
  obtain ⟨as, h1, h2⟩ := h
  exact ⟨as, SqL.of h1, Paired.mapP h2 fun b p q => SqT.of q⟩
theorem prs_get {H : Hp} {as : List Addr} {rs : List (Int × Int)} (h : Paired (fun b (p : Int × Int) => H b = some (.tup [.int p.1, .int p.2])) as rs) {i : Nat} {x : V} (hx : (as.map V.ref)[i]? = some x) :
    ∃ b p, x = .ref b ∧ as[i]? = some b ∧ rs[i]? = some p ∧ H b = some (.tup [.int p.1, .int p.2]) := by
  rw [List.getElem?_map] at hx
  cases e : as[i]? with
  | none => rw [e] at hx; cases hx
  | some b =>
    rw [e] at hx
    have hi : i < rs.length := by
      have := h.length
      have := (List.getElem?_eq_some_iff.mp e).1
      omega
    obtain ⟨b', eb, hq⟩ := Paired.get' h i _ (List.getElem?_eq_getElem hi)
    rw [e] at eb
    cases eb
    exact ⟨b, _, (Option.some.inj hx).symm, rfl, List.getElem?_eq_getElem hi, hq⟩
def sp_is_rest_pair : Sp := fun vs H Q _ => ∃ (b : Addr) (p : Int × Int), vs = [.ref b] ∧ H b = some (.tup [.int p.1, .int p.2]) ∧ (0 ≤ p.1 ∧ p.1 < p.2 ∧ p.2 ≤ 1000000) ∧ Q (.bl true) H
theorem ok_is_rest_pair (T : Txt K mg A) : FnOk P w K mg base CX0 4 A.a_is_rest_pair A.d_is_rest_pair ["value"] sp_is_rest_pair := by
  have G_is_rest := ok_is_rest (P := P) (w := w) (base := base) T
  refine T.F_is_rest_pair.ok sc_is_rest_pair (fun vs H Q E h => ?_) (fun cdv Ar outer s H vs Q E hr h => ?_)
  · obtain ⟨b, p, rfl, _⟩ := h
    rfl
  obtain ⟨b, p, rfl, hb, hp, q⟩ := h
  refine ⟨_, (@pss_one _ _ _ (@ps_ret _ _ _ _ (@pe_and _ _ _ _ _ _ _ (@pe_callB _ _ _ _ _ _ _ _ _ call_isinst rfl T.b_isinstance B.isinstance (@pa_consN _ _ _ _ _ (@pv _ 0 _ _ (by rfl) (by first | exact Or.inl rfl | exact Or.inr (Or.inl rfl) | exact Or.inr (Or.inr rfl)) (by decide) (by decide)) (@pa_consN _ _ _ _ _ (@pe_bltn _ _ (.ty "tuple") _ _ rfl T.b_tuple B.tuple rfl (by decide) (by decide)) (@pa_nil _) (by rfl)) (by rfl)) (by decide) (by decide) (by rfl) (by rfl)) (@pe_and _ _ _ _ _ _ _ (@pe_cmpR _ _ _ _ _ _ _ _ op_eqI (@pe_callB _ _ _ _ _ _ _ _ _ call_len_seq rfl T.b_len B.len (@pa_consN _ _ _ _ _ (@pv _ 0 _ _ (by rfl) (by first | exact Or.inl rfl | exact Or.inr (Or.inl rfl) | exact Or.inr (Or.inr rfl)) (by decide) (by decide)) (@pa_nil _) (by rfl)) (by decide) (by decide) (by rfl) (by rfl)) (@pe_int _ _ _ _) (nomark _)) (@pe_one _ _ _ _ _ (@pe_call _ _ _ _ _ _ _ _ _ _ _ _ _ _ _ _ G_is_rest (hr.mono (by decide)) rfl T.m_is_rest T.k_is_rest T.bi_is_rest .nil pass0 (@pa_consN _ _ _ _ _ (@pe_ix _ _ _ _ _ _ _ ix_tup (@pv _ 0 _ _ (by rfl) (by first | exact Or.inl rfl | exact Or.inr (Or.inl rfl) | exact Or.inr (Or.inr rfl)) (by decide) (by decide)) (@pe_int _ _ _ _) (fun _ _ => rfl)) (@pa_consN _ _ _ _ _ (@pe_ix _ _ _ _ _ _ _ ix_tup (@pv _ 0 _ _ (by rfl) (by first | exact Or.inl rfl | exact Or.inr (Or.inl rfl) | exact Or.inr (Or.inr rfl)) (by decide) (by decide)) (@pe_int _ _ _ _) (fun _ _ => rfl)) (@pa_nil _) (by rfl)) (by rfl)) (by decide) (by rfl) (by rfl))))))), ?_⟩
  refine ⟨_, rfl, _, _, _, _, _, rfl, TyOf.tup hb, rfl, T.is_tuple_tuple, _, rfl, iteT ?_⟩
  refine ⟨_, rfl, b, _, rfl, .inr (SqT.of hb), _, _, rfl, rfl, _, rfl, iteT ?_⟩
  exact ⟨_, rfl, b, _, _, _, rfl, rfl, SqT.of hb, rfl, _, rfl, b, _, _, _, rfl, rfl, SqT.of hb, rfl, p.1, p.2, rfl, ⟨by omega, by omega⟩, hp.1, hp.2.1, q⟩
def RsOk (rs : List (Int × Int)) : Prop := ∀ p ∈ rs, 0 ≤ p.1 ∧ p.1 < p.2 ∧ p.2 ≤ 1000000
def sp_are_rests : Sp := fun vs H Q _ => ∃ (a : Addr) (rs : List (Int × Int)), vs = [.ref a] ∧ PrsAt H a rs ∧ RsOk rs ∧ rs.length ≤ 1000 ∧ ∀ H', Same H H' → Q (.bl true) H'
theorem ok_are_rests (T : Txt K mg A) : FnOk P w K mg base CX0 5 A.a_are_rests A.d_are_rests ["value"] sp_are_rests := by
  have G_is_rest_pair := ok_is_rest_pair (P := P) (w := w) (base := base) T
  refine T.F_are_rests.ok sc_are_rests (fun vs H Q E h => ?_) (fun cdv Ar outer s H vs Q E hr h => ?_)
  · obtain ⟨a, rs, rfl, _⟩ := h
    rfl
  obtain ⟨a, rs, rfl, ⟨as, ha, hP⟩, hO, hlen, q⟩ := h
  have hal := hP.length
  refine ⟨_, (@pss_one _ _ _ (@ps_ret _ _ _ _ (@pe_and _ _ _ _ _ _ _ (@pe_callB _ _ _ _ _ _ _ _ _ call_isinst rfl T.b_isinstance B.isinstance (@pa_consN _ _ _ _ _ (@pv _ 0 _ _ (by rfl) (by first | exact Or.inl rfl | exact Or.inr (Or.inl rfl) | exact Or.inr (Or.inr rfl)) (by decide) (by decide)) (@pa_consN _ _ _ _ _ (@pe_bltn _ _ (.ty "list") _ _ rfl T.b_list B.list rfl (by decide) (by decide)) (@pa_nil _) (by rfl)) (by rfl)) (by decide) (by decide) (by rfl) (by rfl)) (@pe_one _ _ _ _ _ (@pe_callB _ _ _ _ _ _ _ _ _ (call_all rfl) rfl T.b_all B.all (@pa_consN _ _ _ _ _ (@pe_comp0 _ _ (["pair"]) ([none]) _ _ _ _ _ _ _ _ sc_are_rests_c1 rfl (@pi_list _ _ _ _ (@pv _ 0 _ _ (by rfl) (by first | exact Or.inl rfl | exact Or.inr (Or.inl rfl) | exact Or.inr (Or.inr rfl)) (by decide) (by decide))) (fun z => (@pg_name _ _ (0) _ sc_are_rests_c1.nd rfl (Or.inl rfl) (by first | exact .inl rfl | exact .inr rfl | assumption))) (sets_name 0) (by decide) (fun z => (@pe_call _ _ _ _ _ _ _ _ _ _ _ _ _ _ _ _ G_is_rest_pair (hr.mono (by decide)) rfl T.m_is_rest_pair T.k_is_rest_pair T.bi_is_rest_pair .nil pass0 (@pa_consN _ _ _ _ _ (@pv _ 0 _ _ (by rfl) (by first | exact Or.inl rfl | exact Or.inr (Or.inl rfl) | exact Or.inr (Or.inr rfl)) (by decide) (by decide)) (@pa_nil _) (by rfl)) (by decide) (by rfl) (by rfl))) (by intro _; rfl)) (@pa_nil _) (by rfl)) (by decide) (by decide) (by rfl) (by rfl)))))), ?_⟩
  refine ⟨_, rfl, _, _, _, _, _, rfl, TyOf.lst ha, rfl, T.is_list_list, _, rfl, iteT ?_⟩
  refine ⟨_, rfl, a, rfl, ⟨_, SqL.of ha⟩, comp_list (K := K) (a := a) (xs := as.map V.ref) (fun i ys H' => Same H H' ∧ ys = ((rs.take i).map fun _ => true).map V.bl) ⟨Same.refl _, rfl⟩ (by rw [List.length_map]; exact small100 (by omega)) ?_ ?_ ?_⟩
  · rintro i ys H' hi ⟨hs, rfl⟩
    rw [List.length_map] at hi
    exact ⟨SqL.of (hs _ _ ha), by rw [List.length_map, List.length_map, List.length_take]; omega⟩
  · rintro i x ys H' hx ⟨hs, rfl⟩
    obtain ⟨b, p, rfl, _, hp, hb⟩ := prs_get hP hx
    refine ⟨_, rfl, b, p, rfl, hs _ _ hb, hO p (List.mem_of_getElem? hp), hs, ?_⟩
    rw [take_snoc hp, List.map_append, List.map_append]
    rfl
  · rintro ys H' ⟨hs, rfl⟩ l hl
    refine ⟨l, (rs.map fun _ => true), rfl, SqL.of (by rw [upd_same, List.length_map, hal, List.take_length]), ?_⟩
    have e : (rs.map fun _ => true).all id = true := by simp
    rw [e]
    exact q _ (hs.trans (same_new hl _))
def LstAt (H : Hp) (a : Addr) (ns : List Int) : Prop := H a = some (.lst (ns.map V.int))
theorem LstAt.ints {H : Hp} {a : Addr} {ns : List Int} (h : LstAt H a ns) : IntsAt K H a ns := SqL.of h
def sp_are_rounds : Sp := fun vs H Q _ => ∃ (a : Addr) (ns : List Int), vs = [.ref a] ∧ LstAt H a ns ∧ (∀ t ∈ ns, 1 ≤ t ∧ t ≤ 1000000) ∧ ns.length ≤ 1000 ∧ ∀ H', Same H H' → Q (.bl true) H'
theorem ok_are_rounds (T : Txt K mg A) : FnOk P w K mg base CX0 3 A.a_are_rounds A.d_are_rounds ["value"] sp_are_rounds := by
  have G_is_round := ok_is_round (P := P) (w := w) (base := base) T
  refine T.F_are_rounds.ok sc_are_rounds (fun vs H Q E h => ?_) (fun cdv Ar outer s H vs Q E hr h => ?_)
  · obtain ⟨a, ns, rfl, _⟩ := h
    rfl
  obtain ⟨a, ns, rfl, ha, hO, hlen, q⟩ := h
  refine ⟨_, (@pss_one _ _ _ (@ps_ret _ _ _ _ (@pe_and _ _ _ _ _ _ _ (@pe_callB _ _ _ _ _ _ _ _ _ call_isinst rfl T.b_isinstance B.isinstance (@pa_consN _ _ _ _ _ (@pv _ 0 _ _ (by rfl) (by first | exact Or.inl rfl | exact Or.inr (Or.inl rfl) | exact Or.inr (Or.inr rfl)) (by decide) (by decide)) (@pa_consN _ _ _ _ _ (@pe_bltn _ _ (.ty "list") _ _ rfl T.b_list B.list rfl (by decide) (by decide)) (@pa_nil _) (by rfl)) (by rfl)) (by decide) (by decide) (by rfl) (by rfl)) (@pe_one _ _ _ _ _ (@pe_callB _ _ _ _ _ _ _ _ _ (call_all rfl) rfl T.b_all B.all (@pa_consN _ _ _ _ _ (@pe_comp0 _ _ (["turn"]) ([none]) _ _ _ _ _ _ _ _ sc_are_rounds_c1 rfl (@pi_list _ _ _ _ (@pv _ 0 _ _ (by rfl) (by first | exact Or.inl rfl | exact Or.inr (Or.inl rfl) | exact Or.inr (Or.inr rfl)) (by decide) (by decide))) (fun z => (@pg_name _ _ (0) _ sc_are_rounds_c1.nd rfl (Or.inl rfl) (by first | exact .inl rfl | exact .inr rfl | assumption))) (sets_name 0) (by decide) (fun z => (@pe_call _ _ _ _ _ _ _ _ _ _ _ _ _ _ _ _ G_is_round (hr.mono (by decide)) rfl T.m_is_round T.k_is_round T.bi_is_round .nil pass0 (@pa_consN _ _ _ _ _ (@pv _ 0 _ _ (by rfl) (by first | exact Or.inl rfl | exact Or.inr (Or.inl rfl) | exact Or.inr (Or.inr rfl)) (by decide) (by decide)) (@pa_nil _) (by rfl)) (by decide) (by rfl) (by rfl))) (by intro _; rfl)) (@pa_nil _) (by rfl)) (by decide) (by decide) (by rfl) (by rfl)))))), ?_⟩
  refine ⟨_, rfl, _, _, _, _, _, rfl, TyOf.lst ha, rfl, T.is_list_list, _, rfl, iteT ?_⟩
  refine ⟨_, rfl, a, rfl, ⟨_, ha.ints⟩, comp_list (K := K) (a := a) (xs := ns.map V.int) (fun i ys H' => Same H H' ∧ ys = ((ns.take i).map fun _ => true).map V.bl) ⟨Same.refl _, rfl⟩ (by rw [List.length_map]; exact small100 hlen) ?_ ?_ ?_⟩
  · rintro i ys H' hi ⟨hs, rfl⟩
    rw [List.length_map] at hi
    exact ⟨LstAt.ints (hs _ _ ha), by rw [List.length_map, List.length_map, List.length_take]; omega⟩
  · rintro i x ys H' hx ⟨hs, rfl⟩
    obtain ⟨n, hn, rfl⟩ := ints_get hx
    have hb := hO n (List.mem_of_getElem? hn)
    refine ⟨_, rfl, n, rfl, hb.1, hb.2, hs, ?_⟩
    rw [take_snoc hn, List.map_append, List.map_append]
    rfl
  · rintro ys H' ⟨hs, rfl⟩ l hl
    refine ⟨l, (ns.map fun _ => true), rfl, SqL.of (by rw [upd_same, List.length_map, List.take_length]), ?_⟩
    have e : (ns.map fun _ => true).all id = true := by simp
    rw [e]
    exact q _ (hs.trans (same_new hl _))
end
end W01

set_option Elab.async false
set_option linter.all false
set_option maxRecDepth 100000
namespace W01
open PySem L2
section
variable {P : Program} {w : World} {K : PySem.W.Frag} {mg : Str → Option Value} {base : Heap} {A : Adr}
def numShows (n t : Int) (rs : List (Int × Int)) : Bool := decide (0 ≤ n) && decide (n < t) && rs.all (fun p => decide ((n - p.1) % p.2 = 0)) && decide (t = lcmL (rs.map (·.2)))
def sp_Number_shows (K : PySem.W.Frag) (C : Addr) : Sp := fun vs H Q _ => ∃ (p a : Addr) (n t : Int) (rs : List (Int × Int)), vs = [.ref p, .ref a] ∧ ObjAt H p C [("number", .int n), ("turn", .int t)] ∧ PairsAt K H a rs ∧ RsOk rs ∧ rs.length ≤ 1000 ∧ ∀ H', Same H H' → Q (.bl (numShows n t rs)) H'
theorem ok_Number_shows (T : Txt K mg A) : FnOk P w K mg base CX0 3 A.a_Number_shows A.d_Number_shows ["self", "rests"] (sp_Number_shows K A.c_Number) := by
  have G_leaves := ok_leaves (P := P) (w := w) (base := base) T
  have G_common_turn := ok_common_turn (P := P) (w := w) (base := base) T
  refine T.F_Number_shows.ok sc_Number_shows (fun vs H Q E h => ?_) (fun cdv Ar outer s H vs Q E hr h => ?_)
  · obtain ⟨p, a, n, t, rs, rfl, _⟩ := h
    rfl
  obtain ⟨p, a, n, t, rs, rfl, ⟨dx, hp⟩, hR, hO, hL, q⟩ := h
  refine ⟨_, (@pss_cons _ _ _ _ _ (@ps_if _ _ _ _ _ _ _ _ (@pt_not _ _ _ _ (@pt_chain _ _ _ _ _ _ _ _ _ _ _ _ op_le op_lt (@pe_int _ _ _ _) (@pe_fld _ _ _ _ _ (@pv _ 0 _ _ (by rfl) (by first | exact Or.inl rfl | exact Or.inr (Or.inl rfl) | exact Or.inr (Or.inr rfl)) (by decide) (by decide)) (by rfl)) (@pe_fld _ _ _ _ _ (@pv _ 0 _ _ (by rfl) (by first | exact Or.inl rfl | exact Or.inr (Or.inl rfl) | exact Or.inr (Or.inr rfl)) (by decide) (by decide)) (by rfl)) (by with_unfolding_all rfl))) (@pss_one _ _ _ (@ps_ret _ _ _ _ (@pe_bl _ _ _ _))) (@pss_nil _)) (@pss_cons _ _ _ _ _ (@ps_if _ _ _ _ _ _ _ _ (@pt_not _ _ _ _ (@pt_val _ _ _ (@pe_callB _ _ _ _ _ _ _ _ _ (call_all rfl) rfl T.b_all B.all (@pa_consN _ _ _ _ _ (@pe_comp0 _ _ (["self", "rest", "turn"]) ([some 0, none, none]) _ _ _ _ _ _ _ _ sc_Number_shows_c1 rfl (@pi_list _ _ _ _ (@pv _ 1 _ _ (by rfl) (by first | exact Or.inl rfl | exact Or.inr (Or.inl rfl) | exact Or.inr (Or.inr rfl)) (by decide) (by decide))) (fun z => (@pg_tup _ _ _ _ _ (2) rfl (@pgs_cons _ _ _ _ _ (@pg_name _ _ (1) _ sc_Number_shows_c1.nd rfl (Or.inl rfl) (by first | exact .inl rfl | exact .inr rfl | assumption)) (@pgs_cons _ _ _ _ _ (@pg_name _ _ (2) _ sc_Number_shows_c1.nd rfl (Or.inl rfl) (by first | exact .inl rfl | exact .inr rfl | assumption)) (@pgs_nil _) (by rfl)) (by rfl)) (by rfl) (by rfl))) (sets_two _ _ 1 2) (by decide) (fun z => (@pe_call _ _ _ _ _ _ _ _ _ _ _ _ _ _ _ _ G_leaves (hr.mono (by decide)) rfl T.m_leaves T.k_leaves T.bi_leaves .nil pass0 (@pa_consN _ _ _ _ _ (@pe_fldK _ (K) _ _ _ _ (@pv _ 0 _ _ (by rfl) (by first | exact Or.inl rfl | exact Or.inr (Or.inl rfl) | exact Or.inr (Or.inr rfl)) (by decide) (by decide)) (by rfl) (by rfl)) (@pa_consN _ _ _ _ _ (@pv _ 1 _ _ (by rfl) (by first | exact Or.inl rfl | exact Or.inr (Or.inl rfl) | exact Or.inr (Or.inr rfl)) (by decide) (by decide)) (@pa_consN _ _ _ _ _ (@pv _ 2 _ _ (by rfl) (by first | exact Or.inl rfl | exact Or.inr (Or.inl rfl) | exact Or.inr (Or.inr rfl)) (by decide) (by decide)) (@pa_nil _) (by rfl)) (by rfl)) (by rfl)) (by decide) (by rfl) (by rfl))) (by intro _; rfl)) (@pa_nil _) (by rfl)) (by decide) (by decide) (by rfl) (by rfl)) (by intro _; rfl))) (@pss_one _ _ _ (@ps_ret _ _ _ _ (@pe_bl _ _ _ _))) (@pss_nil _)) (@pss_one _ _ _ (@ps_ret _ _ _ _ (@pe_cmpR _ _ _ _ _ _ _ _ op_eqI (@pe_fld _ _ _ _ _ (@pv _ 0 _ _ (by rfl) (by first | exact Or.inl rfl | exact Or.inr (Or.inl rfl) | exact Or.inr (Or.inr rfl)) (by decide) (by decide)) (by rfl)) (@pe_call _ _ _ _ _ _ _ _ _ _ _ _ _ _ _ _ G_common_turn (hr.mono (by decide)) rfl T.m_common_turn T.k_common_turn T.bi_common_turn .nil pass0 (@pa_consN _ _ _ _ _ (@pe_comp0 _ _ (["rest", "turn"]) ([none, none]) _ _ _ _ _ _ _ _ sc_Number_shows_c2 rfl (@pi_list _ _ _ _ (@pv _ 1 _ _ (by rfl) (by first | exact Or.inl rfl | exact Or.inr (Or.inl rfl) | exact Or.inr (Or.inr rfl)) (by decide) (by decide))) (fun z => (@pg_tup _ _ _ _ _ (2) rfl (@pgs_cons _ _ _ _ _ (@pg_name _ _ (0) _ sc_Number_shows_c2.nd rfl (Or.inl rfl) (by first | exact .inl rfl | exact .inr rfl | assumption)) (@pgs_cons _ _ _ _ _ (@pg_name _ _ (1) _ sc_Number_shows_c2.nd rfl (Or.inl rfl) (by first | exact .inl rfl | exact .inr rfl | assumption)) (@pgs_nil _) (by rfl)) (by rfl)) (by rfl) (by rfl))) (sets_two _ _ 0 1) (by decide) (fun z => (@pv _ 1 _ _ (by rfl) (by first | exact Or.inl rfl | exact Or.inr (Or.inl rfl) | exact Or.inr (Or.inr rfl)) (by decide) (by decide))) (by intro _; rfl)) (@pa_nil _) (by rfl)) (by decide) (by rfl) (by rfl)) (nomark _)))))), ?_⟩
  refine ⟨_, rfl, p, A.c_Number, dx, _, _, rfl, hp, T.cl_Number, T.na_Number_number, rfl, _, _, rfl, rfl, _, rfl, ?_⟩
  by_cases h1 : 0 ≤ n
  case neg =>
    rw [decF h1]
    refine iteF ⟨_, rfl, iteT ?_⟩
    have e : numShows n t rs = false := by unfold numShows; rw [decF h1]; rfl
    have z := q H (Same.refl H)
    rw [e] at z
    exact z
  rw [decT h1]
  refine iteT ⟨_, rfl, p, A.c_Number, dx, _, _, rfl, hp, T.cl_Number, T.na_Number_turn, rfl, _, _, rfl, rfl, _, rfl, ?_⟩
  by_cases h2 : n < t
  case neg =>
    rw [decF h2]
    refine iteT ?_
    have e : numShows n t rs = false := by unfold numShows; rw [decF h2]; simp
    have z := q H (Same.refl H)
    rw [e] at z
    exact z
  rw [decT h2]
  refine iteF ?_
  obtain ⟨as, hS, hPd⟩ := id hR
  have hlen := hPd.length
  refine ⟨_, rfl, a, rfl, ⟨_, hS⟩, comp_list (K := K) (a := a) (xs := as.map V.ref) (fun i ys H' => H' = H ∧ ys = ((rs.take i).map fun p => decide ((n - p.1) % p.2 = 0)).map V.bl) ⟨rfl, rfl⟩ (by rw [List.length_map]; exact small100 (by omega)) ?_ ?_ ?_⟩
  · rintro i ys H' hi ⟨rfl, rfl⟩
    rw [List.length_map] at hi
    exact ⟨hS, by rw [List.length_map, List.length_map, List.length_take]; omega⟩
  · rintro i x ys H' hx ⟨rfl, rfl⟩
    obtain ⟨b, r, rfl, hb, hr', hq⟩ := pairs_get hPd hx
    have ho := hO r (List.mem_of_getElem? hr')
    refine ⟨b, _, rfl, hq, rfl, _, _, rfl, _, _, rfl, rfl, _, rfl, p, A.c_Number, dx, _, _, rfl, hp, T.cl_Number, T.na_Number_number, rfl, _, rfl, _, rfl, _, _, _, rfl, (by omega), rfl, ?_⟩
    rw [take_snoc hr', List.map_append, List.map_append]
    rfl
  · rintro ys H' ⟨rfl, rfl⟩ l hl
    refine ⟨l, (rs.map fun p => decide ((n - p.1) % p.2 = 0)), rfl, SqL.of (by rw [upd_same, List.length_map, hlen, List.take_length]), _, rfl, ?_⟩
    have s1 : Same H' (upd H' l (.lst ((((rs.take (as.map V.ref).length).map fun p => decide ((n - p.1) % p.2 = 0))).map V.bl))) := same_new hl _
    by_cases h3 : (rs.map fun p => decide ((n - p.1) % p.2 = 0)).all id = true
    case neg =>
      have h3' : (rs.map fun p => decide ((n - p.1) % p.2 = 0)).all id = false := Bool.eq_false_iff.mpr h3
      rw [h3']
      refine iteT ?_
      have e : numShows n t rs = false := by
        unfold numShows
        rw [List.all_map] at h3'
        rw [show (rs.all fun p => decide ((n - p.1) % p.2 = 0)) = false from h3']
        simp
      have z := q _ s1
      rw [e] at z
      exact z
    rw [h3]
    refine iteF ?_
    refine ⟨_, rfl, p, A.c_Number, dx, _, _, rfl, s1 _ _ hp, T.cl_Number, T.na_Number_turn, rfl, _, rfl, a, rfl, ⟨_, s1.seq hS⟩, comp_list (K := K) (a := a) (xs := as.map V.ref) (fun i ys H2 => Same H' H2 ∧ ys = ((rs.take i).map (·.2)).map V.int) ⟨s1, rfl⟩ (by rw [List.length_map]; exact small100 (by omega)) ?_ ?_ ?_⟩
    · rintro i ys H2 hi ⟨s2, rfl⟩
      rw [List.length_map] at hi
      exact ⟨s2.seq hS, by rw [List.length_map, List.length_map, List.length_take]; omega⟩
    · rintro i x ys H2 hx ⟨s2, rfl⟩
      obtain ⟨b, r, rfl, hb, hr', hq⟩ := pairs_get hPd hx
      refine ⟨b, _, rfl, s2.tup hq, rfl, _, _, rfl, _, _, rfl, rfl, _, rfl, s2, ?_⟩
      rw [take_snoc hr', List.map_append, List.map_append]
      rfl
    · rintro ys H2 ⟨s2, rfl⟩ l2 hl2
      have s3 := s2.trans (same_new hl2 (.lst (((rs.take (as.map V.ref).length).map (·.2)).map V.int)))
      refine ⟨l2, rs.map (·.2), rfl, SqL.of (by rw [upd_same, List.length_map, hlen, List.take_length]), fun x hx => ?_, _, _, rfl, rfl, ?_⟩
      · obtain ⟨r, hr', rfl⟩ := List.mem_map.mp hx
        have := hO r hr'
        omega
      · have z := q _ s3
        have e : numShows n t rs = decide (t = lcmL (rs.map (·.2))) := by
          unfold numShows
          rw [List.all_map] at h3
          rw [decT h1, decT h2, show (rs.all fun p => decide ((n - p.1) % p.2 = 0)) = true from h3]
          rfl
        rw [e] at z
        exact z
def clashShows (one other : Int) (rs : List (Int × Int)) : Bool := decide (0 ≤ one) && decide (one < other) && decide (other < rs.length) &&
  (match rs[one.toNat]?, rs[other.toNat]? with
  | some p, some q => !decide ((p.1 - q.1) % (Int.gcd p.2 q.2 : Int) = 0)
  | _, _ => false)
def sp_Clash_shows (K : PySem.W.Frag) (C : Addr) : Sp := fun vs H Q _ => ∃ (p a : Addr) (n t : Int) (rs : List (Int × Int)), vs = [.ref p, .ref a] ∧ ObjAt H p C [("one", .int n), ("other", .int t)] ∧ PairsAt K H a rs ∧ RsOk rs ∧ rs.length ≤ 1000 ∧ ∀ H', Same H H' → Q (.bl (clashShows n t rs)) H'
theorem gcdL_two (a b : Int) : (gcdL [a, b] : Int) = (Int.gcd a b : Int) := by
  unfold gcdL
  simp [Int.gcd]
theorem pairs_at {H : Hp} {as : List Addr} {rs : List (Int × Int)} (h : Paired (fun b (p : Int × Int) => SqT K H b [.int p.1, .int p.2]) as rs) {n : Int} (h0 : 0 ≤ n) (h1 : n < rs.length) :
    ∃ b r, atI (as.map V.ref) n = some (.ref b) ∧ rs[n.toNat]? = some r ∧ SqT K H b [.int r.1, .int r.2] := by
  have hl := h.length
  have hx : (as.map V.ref)[n.toNat]? = some (.ref (as[n.toNat]'(by omega))) := by rw [List.getElem?_map, List.getElem?_eq_getElem (by omega)]; rfl
  obtain ⟨b, r, e, hb, hr, hq⟩ := pairs_get h hx
  refine ⟨b, r, ?_, hr, hq⟩
  have z := atI_nat hx
  rw [show ((n.toNat : Nat) : Int) = n by omega] at z
  rw [z, e]
theorem ok_Clash_shows (T : Txt K mg A) : FnOk P w K mg base CX0 3 A.a_Clash_shows A.d_Clash_shows ["self", "rests"] (sp_Clash_shows K A.c_Clash) := by
  have G_leaves := ok_leaves (P := P) (w := w) (base := base) T
  have G_common_part := ok_common_part (P := P) (w := w) (base := base) T
  refine T.F_Clash_shows.ok sc_Clash_shows (fun vs H Q E h => ?_) (fun cdv Ar outer s H vs Q E hr h => ?_)
  · obtain ⟨p, a, n, t, rs, rfl, _⟩ := h
    rfl
  obtain ⟨p, a, n, t, rs, rfl, ⟨dx, hp⟩, hR, hO, hL, q⟩ := h
  obtain ⟨as, hS, hPd⟩ := id hR
  have hlen := hPd.length
  have no : clashShows n t rs = false → Q (.bl false) H := fun e => by
    have z := q H (Same.refl H)
    rw [e] at z
    exact z
  refine ⟨_, (@pss_cons _ _ _ _ _ (@ps_if _ _ _ _ _ _ _ _ (@pt_not _ _ _ _ (@pt_chain3 _ _ _ _ _ _ _ _ _ _ _ _ _ _ _ _ op_le op_lt op_lt (@pe_int _ _ _ _) (@pe_fld _ _ _ _ _ (@pv _ 0 _ _ (by rfl) (by first | exact Or.inl rfl | exact Or.inr (Or.inl rfl) | exact Or.inr (Or.inr rfl)) (by decide) (by decide)) (by rfl)) (@pe_fld _ _ _ _ _ (@pv _ 0 _ _ (by rfl) (by first | exact Or.inl rfl | exact Or.inr (Or.inl rfl) | exact Or.inr (Or.inr rfl)) (by decide) (by decide)) (by rfl)) (@pe_callB _ _ _ _ _ _ _ _ _ call_len_seq rfl T.b_len B.len (@pa_consN _ _ _ _ _ (@pv _ 1 _ _ (by rfl) (by first | exact Or.inl rfl | exact Or.inr (Or.inl rfl) | exact Or.inr (Or.inr rfl)) (by decide) (by decide)) (@pa_nil _) (by rfl)) (by decide) (by decide) (by rfl) (by rfl)) (by with_unfolding_all rfl))) (@pss_one _ _ _ (@ps_ret _ _ _ _ (@pe_bl _ _ _ _))) (@pss_nil _)) (@pss_cons _ _ _ _ _ (@ps_set _ _ (2) _ _ _ _ sc_Clash_shows.nd rfl (Or.inl rfl) (@pe_ix _ _ _ _ _ _ _ ix_list (@pv _ 1 _ _ (by rfl) (by first | exact Or.inl rfl | exact Or.inr (Or.inl rfl) | exact Or.inr (Or.inr rfl)) (by decide) (by decide)) (@pe_fld _ _ _ _ _ (@pv _ 0 _ _ (by rfl) (by first | exact Or.inl rfl | exact Or.inr (Or.inl rfl) | exact Or.inr (Or.inr rfl)) (by decide) (by decide)) (by rfl)) (fun _ _ => rfl)) (by rfl) (by first | exact .inl rfl | exact .inr rfl | assumption)) (@pss_cons _ _ _ _ _ (@ps_set _ _ (3) _ _ _ _ sc_Clash_shows.nd rfl (Or.inl rfl) (@pe_ix _ _ _ _ _ _ _ ix_list (@pv _ 1 _ _ (by rfl) (by first | exact Or.inl rfl | exact Or.inr (Or.inl rfl) | exact Or.inr (Or.inr rfl)) (by decide) (by decide)) (@pe_fld _ _ _ _ _ (@pv _ 0 _ _ (by rfl) (by first | exact Or.inl rfl | exact Or.inr (Or.inl rfl) | exact Or.inr (Or.inr rfl)) (by decide) (by decide)) (by rfl)) (fun _ _ => rfl)) (by rfl) (by first | exact .inl rfl | exact .inr rfl | assumption)) (@pss_one _ _ _ (@ps_ret _ _ _ _ (@pe_not _ _ _ _ (@pe_call _ _ _ _ _ _ _ _ _ _ _ _ _ _ _ _ G_leaves (hr.mono (by decide)) rfl T.m_leaves T.k_leaves T.bi_leaves .nil pass0 (@pa_consN _ _ _ _ _ (@pe_ix _ _ _ _ _ _ _ ix_tup (@pv _ 2 _ _ (by rfl) (by first | exact Or.inl rfl | exact Or.inr (Or.inl rfl) | exact Or.inr (Or.inr rfl)) (by decide) (by decide)) (@pe_int _ _ _ _) (fun _ _ => rfl)) (@pa_consN _ _ _ _ _ (@pe_ix _ _ _ _ _ _ _ ix_tup (@pv _ 3 _ _ (by rfl) (by first | exact Or.inl rfl | exact Or.inr (Or.inl rfl) | exact Or.inr (Or.inr rfl)) (by decide) (by decide)) (@pe_int _ _ _ _) (fun _ _ => rfl)) (@pa_consN _ _ _ _ _ (@pe_call _ _ _ _ _ _ _ _ _ _ _ _ _ _ _ _ G_common_part (hr.mono (by decide)) rfl T.m_common_part T.k_common_part T.bi_common_part .nil pass0 (@pa_consN _ _ _ _ _ (@pe_lst _ _ _ _ (@pa_consN _ _ _ _ _ (@pe_ix _ _ _ _ _ _ _ ix_tup (@pv _ 2 _ _ (by rfl) (by first | exact Or.inl rfl | exact Or.inr (Or.inl rfl) | exact Or.inr (Or.inr rfl)) (by decide) (by decide)) (@pe_int _ _ _ _) (fun _ _ => rfl)) (@pa_consN _ _ _ _ _ (@pe_ix _ _ _ _ _ _ _ ix_tup (@pv _ 3 _ _ (by rfl) (by first | exact Or.inl rfl | exact Or.inr (Or.inl rfl) | exact Or.inr (Or.inr rfl)) (by decide) (by decide)) (@pe_int _ _ _ _) (fun _ _ => rfl)) (@pa_nil _) (by rfl)) (by rfl))) (@pa_nil _) (by rfl)) (by decide) (by rfl) (by rfl)) (@pa_nil _) (by rfl)) (by rfl)) (by rfl)) (by decide) (by rfl) (by rfl)))))))), ?_⟩
  refine ⟨_, rfl, p, A.c_Clash, dx, _, _, rfl, hp, T.cl_Clash, T.na_Clash_one, rfl, _, _, rfl, rfl, _, rfl, ?_⟩
  by_cases h1 : 0 ≤ n
  case neg =>
    rw [decF h1]
    exact iteF ⟨_, rfl, iteT (no (by unfold clashShows; rw [decF h1]; rfl))⟩
  rw [decT h1]
  refine iteT ⟨_, rfl, p, A.c_Clash, dx, _, _, rfl, hp, T.cl_Clash, T.na_Clash_other, rfl, _, _, rfl, rfl, _, rfl, ?_⟩
  by_cases h2 : n < t
  case neg =>
    rw [decF h2]
    exact iteF ⟨_, rfl, iteT (no (by unfold clashShows; rw [decF h2]; simp))⟩
  rw [decT h2]
  refine iteT ⟨_, rfl, a, _, rfl, .inl hS, _, _, rfl, rfl, _, rfl, ?_⟩
  have hll : (((as.map V.ref).length : Nat) : Int) = (rs.length : Int) := by rw [List.length_map, hlen]
  rw [hll]
  by_cases h3 : t < (rs.length : Int)
  case neg =>
    rw [decF h3]
    exact iteT (no (by unfold clashShows; rw [decF h3]; simp))
  rw [decT h3]
  refine iteF ?_
  obtain ⟨b1, r1, e1, f1, t1⟩ := pairs_at hPd h1 (by omega)
  obtain ⟨b2, r2, e2, f2, t2⟩ := pairs_at hPd (show 0 ≤ t by omega) h3
  have o1 := hO r1 (List.mem_of_getElem? f1)
  have o2 := hO r2 (List.mem_of_getElem? f2)
  refine ⟨_, rfl, _, rfl, p, A.c_Clash, dx, _, _, rfl, hp, T.cl_Clash, T.na_Clash_one, rfl, a, _, _, _, rfl, rfl, hS, e1, ?_⟩
  refine ⟨_, rfl, _, rfl, p, A.c_Clash, dx, _, _, rfl, hp, T.cl_Clash, T.na_Clash_other, rfl, a, _, _, _, rfl, rfl, hS, e2, ?_⟩
  refine ⟨_, rfl, b1, _, _, _, rfl, rfl, t1, rfl, _, rfl, b2, _, _, _, rfl, rfl, t2, rfl, _, rfl, b1, _, _, _, rfl, rfl, t1, rfl, _, rfl, b2, _, _, _, rfl, rfl, t2, rfl, (by show 2 ≤ sizeLine; decide), fun l hl => ?_⟩
  refine ⟨l, [r1.2, r2.2], rfl, SqL.of upd_same, _, _, _, rfl, ?_, _, rfl, ?_⟩
  · rw [gcdL_two]
    exact (gcd_small (w := r1.2) (t := r2.2) (by omega)).1
  · have z := q _ (same_new hl (.lst [.int r1.2, .int r2.2]))
    have e : clashShows n t rs = !decide ((r1.1 - r2.1) % (gcdL [r1.2, r2.2] : Int) = 0) := by
      unfold clashShows
      rw [decT h1, decT h2, decT h3, f1, f2, gcdL_two]
      rfl
    rw [e] at z
    exact z
end
end W01

set_option Elab.async false
set_option linter.all false
set_option maxRecDepth 100000
namespace W01
open PySem L2
section
variable {P : Program} {w : World} {K : PySem.W.Frag} {mg : Str → Option Value} {base : Heap} {A : Adr}
theorem gcd_mod {W t : Int} (hW : 0 ≤ W) : Int.gcd (W % t) t = Int.gcd W t := by
  show Nat.gcd (W % t).natAbs t.natAbs = Nat.gcd W.natAbs t.natAbs
  rw [Int.natAbs_emod_of_nonneg hW, ← Nat.gcd_rec, Nat.gcd_comm]
theorem miss_dvd {N r t g : Int} (hg : g ∣ t) : ((r - N) % t) % g = 0 ↔ (N - r) % g = 0 := by
  rw [Int.emod_emod_of_dvd _ hg]
  have e : r - N = -(N - r) := by omega
  rw [e]
  exact ⟨fun h => Int.emod_eq_zero_of_dvd (Int.dvd_neg.mp (Int.dvd_of_emod_eq_zero h)), fun h => Int.emod_eq_zero_of_dvd (Int.dvd_neg.mpr (Int.dvd_of_emod_eq_zero h))⟩
theorem join_math {N W r t g x y : Int} (hN0 : 0 ≤ N) (hN1 : N < W) (ht : 1 ≤ t) (hP : Wr.Pwt (W % t) t g x y) (hm : ((r - N) % t) % g = 0) :
    let N' := N + (r - N) % t / g * x % (t / g) * W
    W * (t / g) = W / (Int.gcd W t : Int) * t ∧ 0 ≤ N' ∧ N' < W * (t / g) ∧ (N' - r) % t = 0 ∧ W ∣ N' - N := by
  have hW : 0 < W := by omega
  have eg : g = (Int.gcd W t : Int) := by rw [hP.g_, gcd_mod (by omega)]
  have hgt : g ∣ t := by rw [eg]; exact Int.gcd_dvd_right ..
  have hgW : g ∣ W := by rw [eg]; exact Int.gcd_dvd_left ..
  have hg0 : 0 < g := by
    have : g ≠ 0 := fun z => by
      rw [z] at hgt
      have := Int.zero_dvd.mp hgt
      omega
    have : 0 ≤ g := by rw [eg]; omega
    omega
  obtain ⟨f, hf⟩ := hgt
  obtain ⟨V_, hV⟩ := hgW
  have hf' : t / g = f := by rw [hf]; exact Int.mul_ediv_cancel_left f (by omega)
  have hV' : W / g = V_ := by rw [hV]; exact Int.mul_ediv_cancel_left V_ (by omega)
  have hf0 : 0 < f := by
    have h1 : 0 < g * f := by omega
    exact Int.pos_of_mul_pos_left (by rw [Int.mul_comm]; exact h1) hg0
  obtain ⟨c, hc⟩ := Int.dvd_of_emod_eq_zero hm
  have hcm : (r - N) % t / g = c := by rw [hc]; exact Int.mul_ediv_cancel_left c (by omega)
  intro N'
  have hN' : N' = N + c * x % f * W := by show N + (r - N) % t / g * x % (t / g) * W = _; rw [hf', hcm]
  have s0 := Int.emod_nonneg (c * x) (show f ≠ 0 by omega)
  have s1 := Int.emod_lt_of_pos (c * x) hf0
  generalize hS : c * x % f = S at *
  have hSW : 0 ≤ S * W := Int.mul_nonneg s0 (by omega)
  have hSW2 : S * W + W ≤ W * f := by
    have h1 := Int.mul_le_mul_of_nonneg_right (show S + 1 ≤ f by omega) (show 0 ≤ W by omega)
    rw [Int.add_mul, Int.one_mul, Int.mul_comm f W] at h1
    exact h1
  rw [hf', ← eg, hV']
  refine ⟨?_, by omega, by omega, ?_, ?_⟩
  · rw [hV, hf]; ac_rfl
  · -- t goes into N' - r
    apply Int.emod_eq_zero_of_dvd
    have e1 := Int.emod_add_mul_ediv (c * x) f
    have e2 := Int.emod_add_mul_ediv W t
    have e3 := Int.emod_add_mul_ediv (r - N) t
    have e4 := hP.s
    -- S * W = c * x * W - f * (c * x / f) * W, f * W = t * V_
    have a1 : S * W = c * x * W - t * (c * x / f * V_) := by
      have : S = c * x - f * (c * x / f) := by omega
      rw [this, Int.sub_mul]
      have : f * (c * x / f) * W = t * (c * x / f * V_) := by
        rw [hV, hf]; ac_rfl
      omega
    have a2 : c * x * W = c * g + t * (c * (x * (W / t) - y)) := by
      have b1 : x * W = x * (W % t) + t * (x * (W / t)) := by
        have : W = W % t + t * (W / t) := by omega
        have h3 : x * W = x * (W % t + t * (W / t)) := by rw [← this]
        rw [h3, Int.mul_add]
        have : x * (t * (W / t)) = t * (x * (W / t)) := by ac_rfl
        omega
      have b2 : x * (W % t) = g - t * y := by
        rw [Int.mul_comm x (W % t)]
        omega
      rw [Int.mul_assoc, b1, b2]
      have b3 : g - t * y + t * (x * (W / t)) = g + t * (x * (W / t) - y) := by
        rw [Int.mul_sub]; omega
      rw [b3, Int.mul_add]
      have : c * (t * (x * (W / t) - y)) = t * (c * (x * (W / t) - y)) := by ac_rfl
      omega
    have a3 : c * g = (r - N) - t * ((r - N) / t) := by rw [Int.mul_comm c g]; omega
    have a4 : N' - r = t * (-(c * x / f * V_) + c * (x * (W / t) - y) - (r - N) / t) := by
      rw [Int.mul_sub, Int.mul_add, Int.mul_neg]
      omega
    rw [a4]
    exact Int.dvd_mul_right ..
  · have : N' - N = S * W := by omega
    rw [this]
    exact Int.dvd_mul_left ..
def sp_joined (A : Adr) : Sp := fun vs H Q _ => ∃ (p : Addr) (N W r t : Int), vs = [.ref p, .int r, .int t] ∧ ObjAt H p A.c_Number [("number", .int N), ("turn", .int W)] ∧ 0 ≤ N ∧ N < W ∧ (1 ≤ t ∧ t ≤ 1000000) ∧
  (if (N - r) % (Int.gcd W t : Int) = 0 then ∀ p2 N' H', Same H H' → H p2 = none → ObjAt H' p2 A.c_Number [("number", .int N'), ("turn", .int (W / (Int.gcd W t : Int) * t))] → 0 ≤ N' → N' < W / (Int.gcd W t : Int) * t → (N' - r) % t = 0 → W ∣ N' - N → Q (.ref p2) H' else ∀ H', Same H H' → Q .non H')
set_option maxHeartbeats 1000000 in
theorem ok_joined (T : Txt K mg A) : FnOk P w K mg base CX0 3 A.a_joined A.d_joined ["so_far", "rest", "turn"] (sp_joined A) := by
  have G_part_with_times := ok_part_with_times (P := P) (w := w) (base := base) T
  have G_goes_into := ok_goes_into (P := P) (w := w) (base := base) T
  have G_Number___init__ := ok_Number_init (P := P) (w := w) (base := base) T
  refine T.F_joined.ok sc_joined (fun vs H Q E h => ?_) (fun cdv Ar outer s H vs Q E hr h => ?_)
  · obtain ⟨p, N, W, r, t, rfl, _⟩ := h
    rfl
  obtain ⟨p, N, W, r, t, rfl, ⟨dx, hp⟩, hN0, hN1, ht, q⟩ := h
  have hm0 := Int.emod_nonneg W (show t ≠ 0 by omega)
  have hm1 := Int.emod_lt_of_pos W (show 0 < t by omega)
  refine ⟨_, (@pss_cons _ _ _ _ _ (@ps_set _ _ (3) _ _ _ _ sc_joined.nd rfl (Or.inl rfl) (@pe_call _ _ _ _ _ _ _ _ _ _ _ _ _ _ _ _ G_part_with_times (hr.mono (by decide)) rfl T.m_part_with_times T.k_part_with_times T.bi_part_with_times .nil pass0 (@pa_consN _ _ _ _ _ (@pe_op _ _ _ _ _ _ _ _ op_mod (@pe_fld _ _ _ _ _ (@pv _ 0 _ _ (by rfl) (by first | exact Or.inl rfl | exact Or.inr (Or.inl rfl) | exact Or.inr (Or.inr rfl)) (by decide) (by decide)) (by rfl)) (@pv _ 2 _ _ (by rfl) (by first | exact Or.inl rfl | exact Or.inr (Or.inl rfl) | exact Or.inr (Or.inr rfl)) (by decide) (by decide))) (@pa_consN _ _ _ _ _ (@pv _ 2 _ _ (by rfl) (by first | exact Or.inl rfl | exact Or.inr (Or.inl rfl) | exact Or.inr (Or.inr rfl)) (by decide) (by decide)) (@pa_nil _) (by rfl)) (by rfl)) (by decide) (by rfl) (by rfl)) (by rfl) (by first | exact .inl rfl | exact .inr rfl | assumption)) (@pss_cons _ _ _ _ _ (@ps_set _ _ (4) _ _ _ _ sc_joined.nd rfl (Or.inl rfl) (@pe_ix _ _ _ _ _ _ _ ix_tup (@pv _ 3 _ _ (by rfl) (by first | exact Or.inl rfl | exact Or.inr (Or.inl rfl) | exact Or.inr (Or.inr rfl)) (by decide) (by decide)) (@pe_int _ _ _ _) (fun _ _ => rfl)) (by rfl) (by first | exact .inl rfl | exact .inr rfl | assumption)) (@pss_cons _ _ _ _ _ (@ps_set _ _ (5) _ _ _ _ sc_joined.nd rfl (Or.inl rfl) (@pe_op _ _ _ _ _ _ _ _ op_mod (@pe_op _ _ _ _ _ _ _ _ op_sub (@pv _ 1 _ _ (by rfl) (by first | exact Or.inl rfl | exact Or.inr (Or.inl rfl) | exact Or.inr (Or.inr rfl)) (by decide) (by decide)) (@pe_fld _ _ _ _ _ (@pv _ 0 _ _ (by rfl) (by first | exact Or.inl rfl | exact Or.inr (Or.inl rfl) | exact Or.inr (Or.inr rfl)) (by decide) (by decide)) (by rfl))) (@pv _ 2 _ _ (by rfl) (by first | exact Or.inl rfl | exact Or.inr (Or.inl rfl) | exact Or.inr (Or.inr rfl)) (by decide) (by decide))) (by rfl) (by first | exact .inl rfl | exact .inr rfl | assumption)) (@pss_cons _ _ _ _ _ (@ps_if _ _ _ _ _ _ _ _ (@pt_not _ _ _ _ (@pt_val _ _ _ (@pe_call _ _ _ _ _ _ _ _ _ _ _ _ _ _ _ _ G_goes_into (hr.mono (by decide)) rfl T.m_goes_into T.k_goes_into T.bi_goes_into .nil pass0 (@pa_consN _ _ _ _ _ (@pv _ 4 _ _ (by rfl) (by first | exact Or.inl rfl | exact Or.inr (Or.inl rfl) | exact Or.inr (Or.inr rfl)) (by decide) (by decide)) (@pa_consN _ _ _ _ _ (@pv _ 5 _ _ (by rfl) (by first | exact Or.inl rfl | exact Or.inr (Or.inl rfl) | exact Or.inr (Or.inr rfl)) (by decide) (by decide)) (@pa_nil _) (by rfl)) (by rfl)) (by decide) (by rfl) (by rfl)) (by intro _; rfl))) (@pss_one _ _ _ (@ps_ret _ _ _ _ (@pe_non _ _ _))) (@pss_nil _)) (@pss_cons _ _ _ _ _ (@ps_set _ _ (6) _ _ _ _ sc_joined.nd rfl (Or.inl rfl) (@pe_op _ _ _ _ _ _ _ _ op_fdiv (@pv _ 2 _ _ (by rfl) (by first | exact Or.inl rfl | exact Or.inr (Or.inl rfl) | exact Or.inr (Or.inr rfl)) (by decide) (by decide)) (@pv _ 4 _ _ (by rfl) (by first | exact Or.inl rfl | exact Or.inr (Or.inl rfl) | exact Or.inr (Or.inr rfl)) (by decide) (by decide))) (by rfl) (by first | exact .inl rfl | exact .inr rfl | assumption)) (@pss_cons _ _ _ _ _ (@ps_set _ _ (7) _ _ _ _ sc_joined.nd rfl (Or.inl rfl) (@pe_op _ _ _ _ _ _ _ _ op_mod (@pe_op _ _ _ _ _ _ _ _ op_mul (@pe_op _ _ _ _ _ _ _ _ op_fdiv (@pv _ 5 _ _ (by rfl) (by first | exact Or.inl rfl | exact Or.inr (Or.inl rfl) | exact Or.inr (Or.inr rfl)) (by decide) (by decide)) (@pv _ 4 _ _ (by rfl) (by first | exact Or.inl rfl | exact Or.inr (Or.inl rfl) | exact Or.inr (Or.inr rfl)) (by decide) (by decide))) (@pe_ix _ _ _ _ _ _ _ ix_tup (@pv _ 3 _ _ (by rfl) (by first | exact Or.inl rfl | exact Or.inr (Or.inl rfl) | exact Or.inr (Or.inr rfl)) (by decide) (by decide)) (@pe_int _ _ _ _) (fun _ _ => rfl))) (@pv _ 6 _ _ (by rfl) (by first | exact Or.inl rfl | exact Or.inr (Or.inl rfl) | exact Or.inr (Or.inr rfl)) (by decide) (by decide))) (by rfl) (by first | exact .inl rfl | exact .inr rfl | assumption)) (@pss_one _ _ _ (@ps_ret _ _ _ _ (@pe_make _ _ _ _ _ _ _ _ _ _ _ _ _ _ _ _ _ T.mk_Number G_Number___init__ (hr.mono (by decide)) rfl T.m_Number T.bi_Number___init__ .nil pass0 (@pa_consN _ _ _ _ _ (@pe_op _ _ _ _ _ _ _ _ op_add (@pe_fld _ _ _ _ _ (@pv _ 0 _ _ (by rfl) (by first | exact Or.inl rfl | exact Or.inr (Or.inl rfl) | exact Or.inr (Or.inr rfl)) (by decide) (by decide)) (by rfl)) (@pe_op _ _ _ _ _ _ _ _ op_mul (@pv _ 7 _ _ (by rfl) (by first | exact Or.inl rfl | exact Or.inr (Or.inl rfl) | exact Or.inr (Or.inr rfl)) (by decide) (by decide)) (@pe_fld _ _ _ _ _ (@pv _ 0 _ _ (by rfl) (by first | exact Or.inl rfl | exact Or.inr (Or.inl rfl) | exact Or.inr (Or.inr rfl)) (by decide) (by decide)) (by rfl)))) (@pa_consN _ _ _ _ _ (@pe_op _ _ _ _ _ _ _ _ op_mul (@pe_fld _ _ _ _ _ (@pv _ 0 _ _ (by rfl) (by first | exact Or.inl rfl | exact Or.inr (Or.inl rfl) | exact Or.inr (Or.inr rfl)) (by decide) (by decide)) (by rfl)) (@pv _ 6 _ _ (by rfl) (by first | exact Or.inl rfl | exact Or.inr (Or.inl rfl) | exact Or.inr (Or.inr rfl)) (by decide) (by decide))) (@pa_nil _) (by rfl)) (by rfl)) (by decide) (by rfl) (by rfl)))))))))), ?_⟩
  refine ⟨_, rfl, p, A.c_Number, dx, _, _, rfl, hp, T.cl_Number, T.na_Number_turn, rfl, _, rfl, _, _, rfl, rfl, (by omega), _, rfl, W % t, t, rfl, ⟨by omega, by omega⟩, ⟨by omega, by omega⟩, fun g x y u hP hu => ?_⟩
  have s1 := same_new hu (.tup [.int g, .int x, .int y])
  have hp1 := s1 _ _ hp
  have eg : g = (Int.gcd W t : Int) := by rw [hP.g_, gcd_mod (by omega)]
  have hgt : g ∣ t := by rw [eg]; exact Int.gcd_dvd_right ..
  have hg0 : 0 < g := by
    have : g ≠ 0 := fun z => by
      rw [z] at hgt
      have := Int.zero_dvd.mp hgt
      omega
    have : 0 ≤ g := by rw [eg]; omega
    omega
  have hg1 : g ≤ t := Int.le_of_dvd (by omega) hgt
  refine ⟨_, rfl, u, _, _, _, rfl, rfl, SqT.of upd_same, rfl, ?_⟩
  refine ⟨_, rfl, _, rfl, p, A.c_Number, dx, _, _, rfl, hp1, T.cl_Number, T.na_Number_number, rfl, _, _, rfl, rfl, _, rfl, _, _, rfl, rfl, (by omega), ?_⟩
  have m0 := Int.emod_nonneg (r - N) (show t ≠ 0 by omega)
  have m1 := Int.emod_lt_of_pos (r - N) (show 0 < t by omega)
  refine ⟨_, rfl, _, rfl, _, _, rfl, hg0, _, rfl, ?_⟩
  by_cases h1 : ((r - N) % t) % g = 0
  case neg =>
    rw [decF h1]
    refine iteT ?_
    have h2 : ¬ (N - r) % (Int.gcd W t : Int) = 0 := fun z => h1 ((miss_dvd hgt).mpr (by rw [eg]; exact z))
    rw [if_neg h2] at q
    exact q _ s1
  rw [decT h1]
  refine iteF ?_
  have h2 : (N - r) % (Int.gcd W t : Int) = 0 := by rw [← eg]; exact (miss_dvd hgt).mp h1
  rw [if_pos h2] at q
  obtain ⟨j1, j2, j3, j4, j5⟩ := join_math hN0 hN1 ht.1 hP h1
  have hf1 : t / g ≤ t := Int.ediv_le_self g (by omega)
  have hf0 : 0 < t / g := by
    obtain ⟨f, hf⟩ := hgt
    have hf' : t / g = f := by rw [hf]; exact Int.mul_ediv_cancel_left f (by omega)
    rw [hf']
    exact Int.pos_of_mul_pos_left (by rw [Int.mul_comm]; omega) hg0
  have q0 : 0 ≤ (r - N) % t / g := Int.ediv_nonneg m0 (by omega)
  have q1 : (r - N) % t / g ≤ (r - N) % t := Int.ediv_le_self g m0
  refine ⟨_, rfl, _, rfl, _, _, rfl, rfl, ⟨hg0, by omega⟩, ?_⟩
  refine ⟨_, rfl, _, rfl, _, _, rfl, rfl, ⟨hg0, by omega⟩, _, rfl, u, _, _, _, rfl, rfl, SqT.of upd_same, rfl, _, _, rfl, rfl, .inl ⟨by omega, by omega⟩, _, rfl, _, _, rfl, rfl, hf0, ?_⟩
  have t0 := Int.emod_nonneg ((r - N) % t / g * x) (show t / g ≠ 0 by omega)
  have t1 := Int.emod_lt_of_pos ((r - N) % t / g * x) hf0
  refine ⟨_, rfl, p, A.c_Number, dx, _, _, rfl, hp1, T.cl_Number, T.na_Number_number, rfl, _, rfl, _, rfl, p, A.c_Number, dx, _, _, rfl, hp1, T.cl_Number, T.na_Number_turn, rfl, _, _, rfl, rfl, .inl ⟨by omega, by omega⟩, _, _, rfl, rfl, _, rfl, p, A.c_Number, dx, _, _, rfl, hp1, T.cl_Number, T.na_Number_turn, rfl, _, rfl, _, _, rfl, rfl, .inr ⟨by omega, by omega⟩, ?_⟩
  refine make2 fun p2 H' s2 hp2 ho => ?_
  have ho : ObjAt H' p2 A.c_Number [("number", .int (N + (r - N) % t / g * x % (t / g) * W)), ("turn", .int (W * (t / g)))] := ho
  rw [j1] at ho j3
  exact q p2 _ H' (s1.trans s2) (s1.free hp2) ho j2 j3 j4 j5
end
end W01

set_option Elab.async false
set_option linter.all false
set_option maxRecDepth 100000
namespace W01
open PySem L2
section
variable {P : Program} {w : World} {K : PySem.W.Frag} {mg : Str → Option Value} {base : Heap} {A : Adr}
theorem make2v {C : Addr} {f g : Str} {x y : V} {H : Hp} {QQ : VK} {E : XK} {p dx : Addr} (hp : H p = none) (hd : H dx = none) (h : ∀ H', Same H H' → ObjAt H' p C [(f, x), (g, y)] → QQ .non H') :
    sp_init2 C f g (.ref p :: ([x, y] ++ [])) (upd (upd H dx (.own p)) p (.ins C dx [])) QQ E :=
  ⟨p, dx, x, y, rfl, upd_same, fun H' ho kp => h H' (fun b o e => kp b o (by rw [upd_ne (ne_of_none e hp), upd_ne (ne_of_none e hd)]; exact e) (ne_of_none e hp)) ho⟩
theorem atI_z {x : V} {xs : List V} : atI (x :: xs) 0 = some x := by
  unfold atI ixN
  rw [if_pos (by decide), if_pos (by rw [List.length_cons]; omega)]
  rfl
theorem clash_nat {rs : List (Int × Int)} {i j : Nat} {p q : Int × Int} (hij : i < j) (hp : rs[i]? = some p) (hq : rs[j]? = some q) : clashShows (i : Int) (j : Int) rs = !decide ((p.1 - q.1) % (Int.gcd p.2 q.2 : Int) = 0) := by
  have hj := (List.getElem?_eq_some_iff.mp hq).1
  unfold clashShows
  rw [decT (show (0 : Int) ≤ (i : Int) by omega), decT (show (i : Int) < (j : Int) by omega), decT (show (j : Int) < (rs.length : Int) by omega)]
  rw [show ((i : Int)).toNat = i by omega, show ((j : Int)).toNat = j by omega, hp, hq]
  rfl
theorem lcmL_pos : ∀ (ts : List Int) (w : Int), 0 < w → (∀ t ∈ ts, 0 < t) → 0 < ts.foldl (fun w t => w / (Int.gcd w t : Int) * t) w
  | [], _, hw, _ => hw
  | t :: ts, w, hw, h => by
    refine lcmL_pos ts _ ?_ fun x hx => h x (List.mem_cons_of_mem _ hx)
    have ht := h t List.mem_cons_self
    refine Int.mul_pos ?_ ht
    have hg : (Int.gcd w t : Int) ∣ w := Int.gcd_dvd_left ..
    have hg0 : 0 < (Int.gcd w t : Int) := by
      have : Int.gcd w t ≠ 0 := fun z => by
        have := (Int.gcd_eq_zero_iff.mp z).1
        omega
      omega
    obtain ⟨c, hc⟩ := hg
    have e : w / (Int.gcd w t : Int) = c := by
      have := Int.mul_ediv_cancel_left c (show (Int.gcd w t : Int) ≠ 0 by omega)
      rw [← hc] at this
      exact this
    rw [e]
    exact Int.pos_of_mul_pos_left (by rw [Int.mul_comm, ← hc]; exact hw) hg0
theorem lcm_step {w t : Int} (hw : 0 < w) (ht : 0 < t) : w / (Int.gcd w t : Int) * t = ((Nat.lcm w.natAbs t.natAbs : Nat) : Int) := by
  have hg : (Int.gcd w t : Int) ∣ w := Int.gcd_dvd_left ..
  have hg0 : 0 < (Int.gcd w t : Int) := by
    have : Int.gcd w t ≠ 0 := fun z => by
      have := (Int.gcd_eq_zero_iff.mp z).1
      omega
    omega
  have h1 : (Int.gcd w t : Int) * (w / (Int.gcd w t : Int) * t) = w * t := by
    rw [← Int.mul_assoc, Int.mul_ediv_cancel' hg]
  have h2 : (Int.gcd w t : Int) * ((Nat.lcm w.natAbs t.natAbs : Nat) : Int) = w * t := by
    have : Nat.gcd w.natAbs t.natAbs * Nat.lcm w.natAbs t.natAbs = w.natAbs * t.natAbs := Nat.gcd_mul_lcm _ _
    have h3 : ((Nat.gcd w.natAbs t.natAbs * Nat.lcm w.natAbs t.natAbs : Nat) : Int) = ((w.natAbs * t.natAbs : Nat) : Int) := by rw [this]
    rw [Int.natCast_mul, Int.natCast_mul] at h3
    rw [show (w.natAbs : Int) = w by omega, show (t.natAbs : Int) = t by omega] at h3
    exact h3
  exact Int.eq_of_mul_eq_mul_left (show (Int.gcd w t : Int) ≠ 0 by omega) (h1.trans h2.symm)
theorem gcd_lcmL : ∀ (ts : List Int) (w t x : Int), 0 < w → (∀ u ∈ ts, 0 < u) → 0 < t → (Int.gcd w t : Int) ∣ x → (∀ u ∈ ts, (Int.gcd u t : Int) ∣ x) → (Int.gcd (ts.foldl (fun w t => w / (Int.gcd w t : Int) * t) w) t : Int) ∣ x
  | [], _, _, _, _, _, _, h, _ => h
  | u :: ts, w, t, x, hw, hu, ht, h, hs => by
    have hu0 := hu u List.mem_cons_self
    refine gcd_lcmL ts _ t x ?_ (fun y hy => hu y (List.mem_cons_of_mem _ hy)) ht ?_ fun y hy => hs y (List.mem_cons_of_mem _ hy)
    · exact lcmL_pos [u] w hw fun y hy => by rw [List.mem_singleton.mp hy]; exact hu0
    · show ((Int.gcd (w / (Int.gcd w u : Int) * u) t : Nat) : Int) ∣ x
      rw [lcm_step hw hu0]
      show ((Nat.gcd (Nat.lcm w.natAbs u.natAbs) t.natAbs : Nat) : Int) ∣ x
      exact Wr.gcd_lcm_dvd (by omega) (by omega) (by omega) h (hs u List.mem_cons_self)
theorem dvd_lcmL : ∀ (ts : List Int) (w : Int), 0 < w → (∀ u ∈ ts, 0 < u) → w ∣ ts.foldl (fun w t => w / (Int.gcd w t : Int) * t) w ∧ ∀ u ∈ ts, u ∣ ts.foldl (fun w t => w / (Int.gcd w t : Int) * t) w
  | [], _, _, _ => ⟨Int.dvd_refl _, fun _ h => nomatch h⟩
  | u :: ts, w, hw, hu => by
    have hu0 := hu u List.mem_cons_self
    have hp := lcmL_pos [u] w hw fun y hy => by rw [List.mem_singleton.mp hy]; exact hu0
    obtain ⟨h1, h2⟩ := dvd_lcmL ts (w / (Int.gcd w u : Int) * u) hp fun y hy => hu y (List.mem_cons_of_mem _ hy)
    have e := lcm_step hw hu0
    have d1 : w ∣ w / (Int.gcd w u : Int) * u := by rw [e]; exact Int.natAbs_dvd.mp (Int.ofNat_dvd.mpr (Nat.dvd_lcm_left ..))
    have d2 : u ∣ w / (Int.gcd w u : Int) * u := by rw [e]; exact Int.natAbs_dvd.mp (Int.ofNat_dvd.mpr (Nat.dvd_lcm_right ..))
    refine ⟨Int.dvd_trans d1 h1, fun y hy => ?_⟩
    rcases List.mem_cons.mp hy with z | hy
    · rw [z]; exact Int.dvd_trans d2 h1
    · exact h2 y hy
theorem numShows_iff {N W : Int} {rs : List (Int × Int)} : numShows N W rs = true ↔ (0 ≤ N ∧ N < W ∧ (∀ p ∈ rs, (N - p.1) % p.2 = 0) ∧ W = lcmL (rs.map (·.2))) := by
  unfold numShows
  rw [Bool.and_eq_true, Bool.and_eq_true, Bool.and_eq_true, List.all_eq_true]
  simp only [decide_eq_true_eq]
  exact ⟨fun ⟨⟨⟨a, b⟩, c⟩, d⟩ => ⟨a, b, c, d⟩, fun ⟨a, b, c, d⟩ => ⟨⟨⟨a, b⟩, c⟩, d⟩⟩
/-- a rest that does not go with all the earlier ones clashes with one of them -/
theorem some_clash {rs : List (Int × Int)} (hO : RsOk rs) {k : Nat} {q : Int × Int} (hq : rs[k]? = some q) {N W : Int} (hN : numShows N W (rs.take k) = true) (hc : ¬ (N - q.1) % (Int.gcd W q.2 : Int) = 0) : ∃ j, j < k ∧ clashShows (j : Int) (k : Int) rs = true := by
  apply Classical.byContradiction
  intro hno
  obtain ⟨_, _, hl, hW⟩ := numShows_iff.mp hN
  have hkl := (List.getElem?_eq_some_iff.mp hq).1
  have hq2 := hO q (List.mem_of_getElem? hq)
  apply hc
  apply Int.emod_eq_zero_of_dvd
  rw [hW]
  refine gcd_lcmL _ 1 q.2 (N - q.1) (by decide) (fun u hu => ?_) (by omega) ?_ (fun u hu => ?_)
  · obtain ⟨p, hp, rfl⟩ := List.mem_map.mp hu
    have := hO p (List.mem_of_mem_take hp)
    omega
  · rw [show Int.gcd 1 q.2 = 1 from by simp [Int.gcd]]; exact Int.one_dvd _
  · obtain ⟨p, hp, rfl⟩ := List.mem_map.mp hu
    obtain ⟨j, hj, e⟩ := List.mem_iff_getElem.mp hp
    rw [List.length_take] at hj
    have hjk : j < k := by omega
    have hpj : rs[j]? = some p := by
      rw [← e, List.getElem_take]
      exact List.getElem?_eq_getElem (by omega)
    have hcl := clash_nat hjk hpj hq
    have hz : clashShows (j : Int) (k : Int) rs = false := Bool.eq_false_iff.mpr fun z => hno ⟨j, hjk, z⟩
    rw [hz] at hcl
    have hd : (p.1 - q.1) % (Int.gcd p.2 q.2 : Int) = 0 := by
      apply Classical.byContradiction
      intro z
      rw [decF z] at hcl
      cases hcl
    have a1 : (Int.gcd p.2 q.2 : Int) ∣ N - p.1 := Int.dvd_trans (Int.gcd_dvd_left ..) (Int.dvd_of_emod_eq_zero (hl p hp))
    have a2 := Int.dvd_of_emod_eq_zero hd
    have e2 : N - q.1 = (N - p.1) + (p.1 - q.1) := by omega
    rw [e2]
    exact Int.dvd_add a1 a2
def sp_clash_with_earlier (A : Adr) : Sp := fun vs H Q _ => ∃ (a : Addr) (k : Nat) (rs : List (Int × Int)), vs = [.ref a, .int (k : Int)] ∧ PrsAt H a rs ∧ RsOk rs ∧ rs.length ≤ 1000 ∧ k < rs.length ∧ (∃ j, j < k ∧ clashShows (j : Int) (k : Int) rs = true) ∧
  ∀ p i j H', Same H H' → H p = none → ObjAt H' p A.c_Clash [("one", .int i), ("other", .int j)] → clashShows i j rs = true → Q (.ref p) H'
set_option maxHeartbeats 1000000 in
theorem ok_clash_with_earlier (T : Txt K mg A) : FnOk P w K mg base CX0 4 A.a_clash_with_earlier A.d_clash_with_earlier ["rests", "place"] (sp_clash_with_earlier A) := by
  have G_Clash___init__ := ok_Clash_init (P := P) (w := w) (base := base) T
  have G_Clash_shows := ok_Clash_shows (P := P) (w := w) (base := base) T
  refine T.F_clash_with_earlier.ok sc_clash_with_earlier (fun vs H Q E h => ?_) (fun cdv Ar outer s H vs Q E hr h => ?_)
  · obtain ⟨a, k, rs, rfl, _⟩ := h
    rfl
  obtain ⟨a, k, rs, rfl, ha, hO, hlen, hk, ⟨j0, hj0, hj1⟩, q⟩ := h
  refine ⟨_, (@pss_cons _ _ _ _ _ (@ps_setComp _ _ (["rests", "place", "earlier"]) ([some 0, some 1, none]) _ _ _ _ _ _ _ _ _ _ (2) _ _ _ sc_clash_with_earlier.nd rfl rfl sc_clash_with_earlier_c1 rfl (@pi_range1 _ _ _ _ _ _ rfl T.b_range (@pa_consN _ _ _ _ _ (@pv _ 1 _ _ (by rfl) (by first | exact Or.inl rfl | exact Or.inr (Or.inl rfl) | exact Or.inr (Or.inr rfl)) (by decide) (by decide)) (@pa_nil _) (by rfl)) (by rfl)) (fun z => (@pg_name _ _ (2) _ sc_clash_with_earlier_c1.nd rfl (Or.inl rfl) (by first | exact .inl rfl | exact .inr rfl | assumption))) (sets_name 2) (by decide) (fun z => (@pif_one _ _ _ (@pt_val _ _ _ (@pe_meth _ _ _ _ _ _ _ _ _ _ _ _ _ _ _ _ _ _ _ _ (@pe_make _ _ _ _ _ _ _ _ _ _ _ _ _ _ _ _ _ T.mk_Clash G_Clash___init__ (hr.mono (by decide)) rfl T.m_Clash T.bi_Clash___init__ .nil pass0 (@pa_consN _ _ _ _ _ (@pv _ 2 _ _ (by rfl) (by first | exact Or.inl rfl | exact Or.inr (Or.inl rfl) | exact Or.inr (Or.inr rfl)) (by decide) (by decide)) (@pa_consN _ _ _ _ _ (@pv _ 1 _ _ (by rfl) (by first | exact Or.inl rfl | exact Or.inr (Or.inl rfl) | exact Or.inr (Or.inr rfl)) (by decide) (by decide)) (@pa_nil _) (by rfl)) (by rfl)) (by decide) (by rfl) (by rfl)) T.cl_Clash T.me_Clash_shows G_Clash_shows (hr.mono (by decide)) T.bi_Clash_shows .nil pass0 (@pa_consN _ _ _ _ _ (@pv _ 0 _ _ (by rfl) (by first | exact Or.inl rfl | exact Or.inr (Or.inl rfl) | exact Or.inr (Or.inr rfl)) (by decide) (by decide)) (@pa_nil _) (by rfl)) (by rfl) (by rfl) (by rfl)) (by intro _; rfl)))) (fun z => (@pv _ 2 _ _ (by rfl) (by first | exact Or.inl rfl | exact Or.inr (Or.inl rfl) | exact Or.inr (Or.inr rfl)) (by decide) (by decide))) (by rfl) (by intro _; rfl)) (@pss_one _ _ _ (@ps_ret _ _ _ _ (@pe_make _ _ _ _ _ _ _ _ _ _ _ _ _ _ _ _ _ T.mk_Clash G_Clash___init__ (hr.mono (by decide)) rfl T.m_Clash T.bi_Clash___init__ .nil pass0 (@pa_consN _ _ _ _ _ (@pe_ix _ _ _ _ _ _ _ ix_list (@pv _ 2 _ _ (by rfl) (by first | exact Or.inl rfl | exact Or.inr (Or.inl rfl) | exact Or.inr (Or.inr rfl)) (by decide) (by decide)) (@pe_int _ _ _ _) (fun _ _ => rfl)) (@pa_consN _ _ _ _ _ (@pv _ 1 _ _ (by rfl) (by first | exact Or.inl rfl | exact Or.inr (Or.inl rfl) | exact Or.inr (Or.inr rfl)) (by decide) (by decide)) (@pa_nil _) (by rfl)) (by rfl)) (by decide) (by rfl) (by rfl))))), ?_⟩
  refine ⟨_, rfl, (k : Int), rfl, by omega, by omega, ?_⟩
  rw [show ((k : Int)).toNat = k by omega]
  refine comp_rangeF (lo := 0) (n := k) (fun i ys H' => Same H H' ∧ ys = ((List.range i).filter fun (j : Nat) => clashShows (j : Int) (k : Int) rs).map fun (j : Nat) => V.int (j : Int)) ⟨Same.refl _, rfl⟩ (small100 (by omega)) ?_ ?_ ?_
  · rintro i ys H' hi ⟨hs, rfl⟩
    rw [List.length_map]
    exact Nat.le_trans (List.length_filter_le ..) (by rw [List.length_range]; exact Nat.le_refl _)
  · rintro i ys H' hi ⟨hs, rfl⟩
    refine ⟨_, rfl, _, rfl, ?_⟩
    intro p dx0 hp hd0 hne0
    refine make2v hp hd0 fun H2 s2 ho => ⟨rfl, ?_⟩
    obtain ⟨dx, hop⟩ := id ho
    refine ⟨p, dx, _, rfl, hop, rfl, _, rfl, p, a, _, _, rs, rfl, ho, PrsAt.pairs (ha.same (hs.trans s2)), hO, hlen, fun H3 s3 => ⟨_, rfl, ?_⟩⟩
    have s4 := (hs.trans s2).trans s3
    rw [List.range_succ, List.filter_append, List.map_append]
    rw [show (0 : Int) + (i : Int) = (i : Int) by omega]
    by_cases hc : clashShows (i : Int) (k : Int) rs = true
    · rw [hc]
      refine iteT ⟨_, rfl, s4, ?_⟩
      rw [List.filter_cons_of_pos (by exact hc)]
      rfl
    · rw [Bool.eq_false_iff.mpr hc]
      refine iteF ⟨s4, ?_⟩
      rw [List.filter_cons_of_neg (by exact hc)]
      simp
  · rintro ys H' ⟨hs, rfl⟩ l hl
    have hmem : j0 ∈ (List.range k).filter fun (j : Nat) => clashShows (j : Int) (k : Int) rs := List.mem_filter.mpr ⟨List.mem_range.mpr hj0, hj1⟩
    cases hf : (List.range k).filter fun (j : Nat) => clashShows (j : Int) (k : Int) rs with
    | nil => rw [hf] at hmem; cases hmem
    | cons j1 js =>
      have hj1' : j1 ∈ (List.range k).filter fun (j : Nat) => clashShows (j : Int) (k : Int) rs := by rw [hf]; exact List.mem_cons_self
      have hcl := (List.mem_filter.mp hj1').2
      refine ⟨_, rfl, l, _, _, _, rfl, rfl, SqL.of upd_same, atI_z, _, rfl, ?_⟩
      intro p dx0 hp hd0 hne0
      refine make2v hp hd0 fun H2 s2 ho => ⟨rfl, ?_⟩
      have s3 := hs.trans (same_new hl (.lst ((j1 :: js).map fun (j : Nat) => V.int (j : Int))))
      exact q p _ _ H2 (s3.trans s2) (s3.free hp) ho hcl
/-- what is told: a Number's two, or a Clash's -/
def ToldAt (A : Adr) (H : Hp) (p : Addr) (c : Bool) (x y : Int) : Prop := if c = true then ObjAt H p A.c_Clash [("one", .int x), ("other", .int y)] else ObjAt H p A.c_Number [("number", .int x), ("turn", .int y)]
def toldShows (c : Bool) (x y : Int) (rs : List (Int × Int)) : Bool := if c = true then clashShows x y rs else numShows x y rs
def sp_told (A : Adr) : Sp := fun vs H Q _ => ∃ (a : Addr) (rs : List (Int × Int)), vs = [.ref a] ∧ PrsAt H a rs ∧ RsOk rs ∧ rs.length ≤ 1000 ∧ ∀ p c x y H', Same H H' → ToldAt A H' p c x y → toldShows c x y rs = true → Q (.ref p) H'
theorem numShows_step {rs : List (Int × Int)} (hO : RsOk rs) {k : Nat} {q : Int × Int} (hq : rs[k]? = some q) {N W N' : Int} (h : numShows N W (rs.take k) = true) (h0 : 0 ≤ N') (h1 : N' < W / (Int.gcd W q.2 : Int) * q.2) (h2 : (N' - q.1) % q.2 = 0) (h3 : W ∣ N' - N) :
    numShows N' (W / (Int.gcd W q.2 : Int) * q.2) (rs.take (k + 1)) = true := by
  obtain ⟨a, b, c, d⟩ := numShows_iff.mp h
  refine numShows_iff.mpr ⟨h0, h1, ?_, ?_⟩
  · rw [take_snoc hq]
    intro p hp
    rcases List.mem_append.mp hp with hp | hp
    · have hpW : p.2 ∣ W := by
        rw [d]
        exact (dvd_lcmL _ 1 (by decide) (fun u hu => by
          obtain ⟨z, hz, rfl⟩ := List.mem_map.mp hu
          have := hO z (List.mem_of_mem_take hz)
          omega)).2 p.2 (List.mem_map.mpr ⟨p, hp, rfl⟩)
      apply Int.emod_eq_zero_of_dvd
      have e : N' - p.1 = (N' - N) + (N - p.1) := by omega
      rw [e]
      exact Int.dvd_add (Int.dvd_trans hpW h3) (Int.dvd_of_emod_eq_zero (c p hp))
    · rw [List.mem_singleton.mp hp]; exact h2
  · rw [take_snoc hq, List.map_append]
    show _ = lcmL ((rs.take k).map (·.2) ++ [q.2])
    rw [← lcmL_snoc, ← d]
set_option maxHeartbeats 1000000 in
theorem ok_told (T : Txt K mg A) : FnOk P w K mg base CX0 6 A.a_told A.d_told ["rests"] (sp_told A) := by
  have G_are_rests := ok_are_rests (P := P) (w := w) (base := base) T
  have G_joined := ok_joined (P := P) (w := w) (base := base) T
  have G_clash_with_earlier := ok_clash_with_earlier (P := P) (w := w) (base := base) T
  have G_Number___init__ := ok_Number_init (P := P) (w := w) (base := base) T
  refine T.F_told.ok sc_told (fun vs H Q E h => ?_) (fun cdv Ar outer s H vs Q E hr h => ?_)
  · obtain ⟨a, rs, rfl, _⟩ := h
    rfl
  obtain ⟨a, rs, rfl, ha, hO, hlen, q⟩ := h
  refine ⟨_, (@pss_cons _ _ _ _ _ (@ps_if _ _ _ _ _ _ _ _ (@pt_not _ _ _ _ (@pt_val _ _ _ (@pe_call _ _ _ _ _ _ _ _ _ _ _ _ _ _ _ _ G_are_rests (hr.mono (by decide)) rfl T.m_are_rests T.k_are_rests T.bi_are_rests .nil pass0 (@pa_consN _ _ _ _ _ (@pv _ 0 _ _ (by rfl) (by first | exact Or.inl rfl | exact Or.inr (Or.inl rfl) | exact Or.inr (Or.inr rfl)) (by decide) (by decide)) (@pa_nil _) (by rfl)) (by decide) (by rfl) (by rfl)) (by intro _; rfl))) (@pss_one _ _ _ (@ps_never _ _)) (@pss_nil _)) (@pss_cons _ _ _ _ _ (@ps_set _ _ (1) _ _ _ _ sc_told.nd rfl (Or.inl rfl) (@pe_make _ _ _ _ _ _ _ _ _ _ _ _ _ _ _ _ _ T.mk_Number G_Number___init__ (hr.mono (by decide)) rfl T.m_Number T.bi_Number___init__ .nil pass0 (@pa_consN _ _ _ _ _ (@pe_int _ _ _ _) (@pa_consN _ _ _ _ _ (@pe_int _ _ _ _) (@pa_nil _) (by rfl)) (by rfl)) (by decide) (by rfl) (by rfl)) (by rfl) (by first | exact .inl rfl | exact .inr rfl | assumption)) (@pss_cons _ _ _ _ _ (@ps_for _ _ _ _ _ _ _ _ PassesOwn.never rfl (@pi_enumX _ _ _ _ _ _ _ _ rfl T.b_enumerate (@pa_consN _ _ _ _ _ (@pv _ 0 _ _ (by rfl) (by first | exact Or.inl rfl | exact Or.inr (Or.inl rfl) | exact Or.inr (Or.inr rfl)) (by decide) (by decide)) (@pa_nil _) (by rfl)) (by rfl)) (@pg_tup _ _ _ _ _ (2) rfl (@pgs_cons _ _ _ _ _ (@pg_name _ _ (2) _ sc_told.nd rfl (Or.inl rfl) (by first | exact .inl rfl | exact .inr rfl | assumption)) (@pgs_cons _ _ _ _ _ (@pg_name _ _ (3) _ sc_told.nd rfl (Or.inl rfl) (by first | exact .inl rfl | exact .inr rfl | assumption)) (@pgs_nil _) (by rfl)) (by rfl)) (by rfl) (by rfl)) (@pss_cons _ _ _ _ _ (@ps_set _ _ (4) _ _ _ _ sc_told.nd rfl (Or.inl rfl) (@pe_call _ _ _ _ _ _ _ _ _ _ _ _ _ _ _ _ G_joined (hr.mono (by decide)) rfl T.m_joined T.k_joined T.bi_joined .nil pass0 (@pa_consN _ _ _ _ _ (@pv _ 1 _ _ (by rfl) (by first | exact Or.inl rfl | exact Or.inr (Or.inl rfl) | exact Or.inr (Or.inr rfl)) (by decide) (by decide)) (@pa_consN _ _ _ _ _ (@pe_ix _ _ _ _ _ _ _ ix_tup (@pv _ 3 _ _ (by rfl) (by first | exact Or.inl rfl | exact Or.inr (Or.inl rfl) | exact Or.inr (Or.inr rfl)) (by decide) (by decide)) (@pe_int _ _ _ _) (fun _ _ => rfl)) (@pa_consN _ _ _ _ _ (@pe_ix _ _ _ _ _ _ _ ix_tup (@pv _ 3 _ _ (by rfl) (by first | exact Or.inl rfl | exact Or.inr (Or.inl rfl) | exact Or.inr (Or.inr rfl)) (by decide) (by decide)) (@pe_int _ _ _ _) (fun _ _ => rfl)) (@pa_nil _) (by rfl)) (by rfl)) (by rfl)) (by decide) (by rfl) (by rfl)) (by rfl) (by first | exact .inl rfl | exact .inr rfl | assumption)) (@pss_cons _ _ _ _ _ (@ps_if _ _ _ _ _ _ _ _ (@pt_cmpR _ _ _ _ _ _ _ _ op_isN (@pv _ 4 _ _ (by rfl) (by first | exact Or.inl rfl | exact Or.inr (Or.inl rfl) | exact Or.inr (Or.inr rfl)) (by decide) (by decide)) (@pe_non _ _ _) (nomark _)) (@pss_one _ _ _ (@ps_ret _ _ _ _ (@pe_call _ _ _ _ _ _ _ _ _ _ _ _ _ _ _ _ G_clash_with_earlier (hr.mono (by decide)) rfl T.m_clash_with_earlier T.k_clash_with_earlier T.bi_clash_with_earlier .nil pass0 (@pa_consN _ _ _ _ _ (@pv _ 0 _ _ (by rfl) (by first | exact Or.inl rfl | exact Or.inr (Or.inl rfl) | exact Or.inr (Or.inr rfl)) (by decide) (by decide)) (@pa_consN _ _ _ _ _ (@pv _ 2 _ _ (by rfl) (by first | exact Or.inl rfl | exact Or.inr (Or.inl rfl) | exact Or.inr (Or.inr rfl)) (by decide) (by decide)) (@pa_nil _) (by rfl)) (by rfl)) (by decide) (by rfl) (by rfl)))) (@pss_nil _)) (@pss_one _ _ _ (@ps_set _ _ (1) _ _ _ _ sc_told.nd rfl (Or.inl rfl) (@pv _ 4 _ _ (by rfl) (by first | exact Or.inl rfl | exact Or.inr (Or.inl rfl) | exact Or.inr (Or.inr rfl)) (by decide) (by decide)) (by rfl) (by first | exact .inl rfl | exact .inr rfl | assumption))))) (by intro _; rfl)) (@pss_one _ _ _ (@ps_ret _ _ _ _ (@pv _ 1 _ _ (by rfl) (by first | exact Or.inl rfl | exact Or.inr (Or.inl rfl) | exact Or.inr (Or.inr rfl)) (by decide) (by decide))))))), ?_⟩
  refine ⟨_, rfl, a, rs, rfl, ha, hO, hlen, fun H1 s1 => ⟨_, rfl, iteF ?_⟩⟩
  intro p00 dx0 hp00 hd00 hne00
  refine make2v hp00 hd00 fun H2 s2 ho0 => ⟨rfl, ?_⟩
  have s12 := s1.trans s2
  obtain ⟨as, hL, hP⟩ := id ha
  have hal := hP.length
  refine ⟨_, rfl, a, rfl, ⟨_, SqX.of (s12 _ _ hL)⟩, for_enum (K := K) (a := a) (xs := as.map V.ref) (fun i σ H' => ∃ (p : Addr) (N W : Int) (f1 f2 f3 : Option V), σ = [some (.ref a), some (.ref p), f1, f2, f3] ∧ Same H H' ∧ ObjAt H' p A.c_Number [("number", .int N), ("turn", .int W)] ∧ numShows N W (rs.take i) = true)
    ⟨p00, 0, 1, _, _, _, rfl, s12, ho0, rfl⟩ (fun i σ H' _ ⟨_, _, _, _, _, _, _, e, _⟩ => SqL.of (e _ _ hL)) ?_ ?_⟩
  · rintro i x σ H' u hi ⟨p, N, W, f1, f2, f3, rfl, sH, ho, hN⟩ hu
    obtain ⟨b, r, rfl, hb, hr', hq⟩ := prs_get hP hi
    have s3 := same_new hu (.tup [.int (i : Nat), .ref b])
    have s4 := sH.trans s3
    obtain ⟨n0, n1, n2, n3⟩ := numShows_iff.mp hN
    have hr2 := hO r (List.mem_of_getElem? hr')
    refine ⟨u, _, rfl, SqT.of upd_same, rfl, _, _, rfl, _, _, rfl, rfl, ?_⟩
    refine ⟨_, rfl, _, rfl, b, _, _, _, rfl, rfl, SqT.of (s4 _ _ hq), rfl, _, rfl, b, _, _, _, rfl, rfl, SqT.of (s4 _ _ hq), rfl, p, N, W, r.1, r.2, rfl, (let ⟨dx, z⟩ := ho; ⟨dx, s3 _ _ z⟩), n0, n1, ⟨by omega, by omega⟩, ?_⟩
    by_cases hc : (N - r.1) % (Int.gcd W r.2 : Int) = 0
    · rw [if_pos hc]
      intro p2 N' H3 s5 hp2 ho2 b0 b1 b2 b3
      refine ⟨_, rfl, rfl, _, rfl, ?_⟩
      rw [decF (show ¬ V.ref p2 = V.non from fun z => nomatch z)]
      refine iteF ⟨_, rfl, p2, N', _, _, _, _, rfl, s4.trans s5, ho2, numShows_step hO hr' hN b0 b1 b2 b3⟩
    · rw [if_neg hc]
      intro H3 s5
      refine ⟨_, rfl, rfl, _, rfl, ?_⟩
      rw [decT rfl]
      refine iteT ⟨_, rfl, _, rfl, a, i, rs, rfl, ha.same (s4.trans s5), hO, hlen, (List.getElem?_eq_some_iff.mp hr').1, some_clash hO hr' hN hc, fun p2 i2 j2 H4 s6 hp2 ho2 hc2 => ?_⟩
      exact q p2 true i2 j2 H4 ((s4.trans s5).trans s6) ho2 hc2
  · rintro σ H' ⟨p, N, W, f1, f2, f3, rfl, sH, ho, hN⟩
    rw [List.length_map, hal, List.take_length] at hN
    exact ⟨_, rfl, q p false N W H' sH ho hN⟩
end
end W01

set_option Elab.async false
set_option linter.all false
set_option maxRecDepth 100000
namespace W01
open PySem L2
section
variable {P : Program} {w : World} {K : PySem.W.Frag} {mg : Str → Option Value} {base : Heap} {A : Adr}
theorem atI_int {ns : List Int} {i : Int} (h0 : 0 ≤ i) (h1 : i < ns.length) : ∃ v, v ∈ ns ∧ atI (ns.map V.int) i = some (.int v) := by
  have hl : i.toNat < ns.length := by omega
  refine ⟨ns[i.toNat], List.getElem_mem hl, ?_⟩
  have z := atI_nat (xs := ns.map V.int) (j := i.toNat) (v := .int ns[i.toNat]) (by rw [List.getElem?_map, List.getElem?_eq_getElem hl]; rfl)
  rw [show ((i.toNat : Nat) : Int) = i by omega] at z
  exact z
def sp_cell_at (K : PySem.W.Frag) : Sp := fun vs H Q _ => ∃ (a : Addr) (ns : List Int) (k : Int), vs = [.ref a, .int k] ∧ IntsAt K H a ns ∧ 0 ≤ k ∧ ∀ v, Q (.int v) H
theorem ok_law_cell_at (T : Txt K mg A) : FnOk P w K mg base CX0 1 A.a__law_cell_at A.d__law_cell_at ["_law_script", "_law_k"] (sp_cell_at K) := by
  refine T.F__law_cell_at.ok sc__law_cell_at (fun vs H Q E h => ?_) (fun cdv Ar outer s H vs Q E hr h => ?_)
  · obtain ⟨a, ns, k, rfl, _⟩ := h
    rfl
  obtain ⟨a, ns, k, rfl, ha, hk, q⟩ := h
  refine ⟨_, (@pss_cons _ _ _ _ _ (@ps_if _ _ _ _ _ _ _ _ (@pt_cmpR _ _ _ _ _ _ _ _ op_lt (@pv _ 1 _ _ (by rfl) (by first | exact Or.inl rfl | exact Or.inr (Or.inl rfl) | exact Or.inr (Or.inr rfl)) (by decide) (by decide)) (@pe_callB _ _ _ _ _ _ _ _ _ call_len_seq rfl T.b_len B.len (@pa_consN _ _ _ _ _ (@pv _ 0 _ _ (by rfl) (by first | exact Or.inl rfl | exact Or.inr (Or.inl rfl) | exact Or.inr (Or.inr rfl)) (by decide) (by decide)) (@pa_nil _) (by rfl)) (by decide) (by decide) (by rfl) (by rfl)) (nomark _)) (@pss_one _ _ _ (@ps_ret _ _ _ _ (@pe_ix _ _ _ _ _ _ _ ix_list (@pv _ 0 _ _ (by rfl) (by first | exact Or.inl rfl | exact Or.inr (Or.inl rfl) | exact Or.inr (Or.inr rfl)) (by decide) (by decide)) (@pv _ 1 _ _ (by rfl) (by first | exact Or.inl rfl | exact Or.inr (Or.inl rfl) | exact Or.inr (Or.inr rfl)) (by decide) (by decide)) (fun _ _ => rfl)))) (@pss_nil _)) (@pss_one _ _ _ (@ps_ret _ _ _ _ (@pe_int _ _ _ _)))), ?_⟩
  refine ⟨_, rfl, _, rfl, a, _, rfl, .inl ha, _, _, rfl, rfl, _, rfl, ?_⟩
  rw [List.length_map]
  by_cases h1 : k < (ns.length : Int)
  · rw [decT h1]
    obtain ⟨v, _, hv⟩ := atI_int hk h1
    exact iteT ⟨_, rfl, _, rfl, a, _, _, _, rfl, rfl, ha, hv, q v⟩
  · rw [decF h1]
    exact iteF (q 0)
def sp_draw : Sp := fun vs H Q _ => ∃ c k m : Int, vs = [.int c, .int k, .int m] ∧ 0 < m ∧ ∀ v H', 0 ≤ v → v < m → Same H H' → Q (.int v) H'
theorem draw_prime {i : Int} (h0 : 0 ≤ i) (h1 : i < 16) : ∃ v : Int, 0 < v ∧ atI (List.map V.int [1000003, 1000033, 1000037, 1000039, 1000081, 1000099, 1000117, 1000121, 1000133, 1000151, 1000159, 1000171, 1000183, 1000187, 1000193, 1000199]) i = some (.int v) := by
  obtain ⟨p, hp, ep⟩ := atI_int (ns := [1000003, 1000033, 1000037, 1000039, 1000081, 1000099, 1000117, 1000121, 1000133, 1000151, 1000159, 1000171, 1000183, 1000187, 1000193, 1000199]) h0 h1
  have : ∀ z ∈ ([1000003, 1000033, 1000037, 1000039, 1000081, 1000099, 1000117, 1000121, 1000133, 1000151, 1000159, 1000171, 1000183, 1000187, 1000193, 1000199] : List Int), 0 < z := by decide
  exact ⟨p, this p hp, ep⟩
set_option maxHeartbeats 1000000 in
theorem ok_law_draw (T : Txt K mg A) : FnOk P w K mg base CX0 1 A.a__law_draw A.d__law_draw ["_law_cell", "_law_k", "_law_many"] sp_draw := by
  refine T.F__law_draw.ok sc__law_draw (fun vs H Q E h => ?_) (fun cdv Ar outer s H vs Q E hr h => ?_)
  · obtain ⟨c, k, m, rfl, _⟩ := h
    rfl
  obtain ⟨c, k, m, rfl, hm, q⟩ := h
  refine ⟨_, (@pss_cons _ _ _ _ _ (@ps_set _ _ (3) _ _ _ _ sc__law_draw.nd rfl (Or.inl rfl) (@pe_tupI _ _ _ _ ([1000003, 1000033, 1000037, 1000039, 1000081, 1000099, 1000117, 1000121, 1000133, 1000151, 1000159, 1000171, 1000183, 1000187, 1000193, 1000199]) rfl) (by rfl) (by first | exact .inl rfl | exact .inr rfl | assumption)) (@pss_one _ _ _ (@ps_ret _ _ _ _ (@pe_op _ _ _ _ _ _ _ _ op_mod (@pe_op _ _ _ _ _ _ _ _ op_mod (@pe_op _ _ _ _ _ _ _ _ op_add (@pe_op _ _ _ _ _ _ _ _ op_mul (@pv _ 0 _ _ (by rfl) (by first | exact Or.inl rfl | exact Or.inr (Or.inl rfl) | exact Or.inr (Or.inr rfl)) (by decide) (by decide)) (@pe_int _ _ _ _)) (@pe_op _ _ _ _ _ _ _ _ op_mul (@pv _ 1 _ _ (by rfl) (by first | exact Or.inl rfl | exact Or.inr (Or.inl rfl) | exact Or.inr (Or.inr rfl)) (by decide) (by decide)) (@pe_int _ _ _ _))) (@pe_ix _ _ _ _ _ _ _ ix_tup (@pv _ 3 _ _ (by rfl) (by first | exact Or.inl rfl | exact Or.inr (Or.inl rfl) | exact Or.inr (Or.inr rfl)) (by decide) (by decide)) (@pe_op _ _ _ _ _ _ _ _ op_mod (@pv _ 1 _ _ (by rfl) (by first | exact Or.inl rfl | exact Or.inr (Or.inl rfl) | exact Or.inr (Or.inr rfl)) (by decide) (by decide)) (@pe_int _ _ _ _)) (fun _ _ => rfl))) (@pv _ 2 _ _ (by rfl) (by first | exact Or.inl rfl | exact Or.inr (Or.inl rfl) | exact Or.inr (Or.inr rfl)) (by decide) (by decide)))))), ?_⟩
  refine ⟨(by show 16 ≤ sizeLine; decide), fun t ht => ?_⟩
  have h0 := Int.emod_nonneg k (show (16 : Int) ≠ 0 by decide)
  have h1 := Int.emod_lt_of_pos k (show (0 : Int) < 16 by decide)
  obtain ⟨p, hp0, ep⟩ := draw_prime h0 h1
  refine ⟨_, rfl, _, _, rfl, rfl, .inr ⟨by decide, by decide⟩, _, rfl, _, _, rfl, rfl, .inr ⟨by decide, by decide⟩, _, _, rfl, rfl, _, rfl, _, rfl, _, _, rfl, rfl, (by show (0 : Int) < 16; decide), ?_⟩
  refine ⟨t, _, _, _, rfl, rfl, SqT.of upd_same, ep, _, _, rfl, rfl, hp0, _, rfl, _, _, rfl, rfl, hm, ?_⟩
  exact q _ _ (Int.emod_nonneg _ (by omega)) (Int.emod_lt_of_pos _ hm) (same_new ht _)
theorem paired_snoc {α β : Type} {F : α → β → Prop} {a : α} {b : β} : ∀ {l₁ : List α} {l₂ : List β}, Paired F l₁ l₂ → F a b → Paired F (l₁ ++ [a]) (l₂ ++ [b])
  | [], [], _, h => .cons h .nil
  | [], _ :: _, r, _ => nomatch r
  | _ :: _, [], r, _ => nomatch r
  | _ :: _, _ :: _, .cons x r, h => .cons x (paired_snoc r h)
def TupAt (H : Hp) (b : Addr) (p : Int × Int) : Prop := H b = some (.tup [.int p.1, .int p.2])
def sp_left : Sp := fun vs H Q _ => ∃ (n : Int) (a : Addr) (ts : List Int), vs = [.int n, .ref a] ∧ LstAt H a ts ∧ (∀ t ∈ ts, 1 ≤ t ∧ t ≤ 1000000) ∧ ts.length ≤ 1000 ∧
  ∀ l H', Same H H' → PrsAt H' l (ts.map fun t => (n % t, t)) → Q (.ref l) H'
set_option maxHeartbeats 1000000 in
theorem ok_left (T : Txt K mg A) : FnOk P w K mg base CX0 4 A.a_left A.d_left ["number", "rounds"] sp_left := by
  have G_is_whole := ok_is_whole (P := P) (w := w) (base := base) T
  have G_are_rounds := ok_are_rounds (P := P) (w := w) (base := base) T
  refine T.F_left.ok sc_left (fun vs H Q E h => ?_) (fun cdv Ar outer s H vs Q E hr h => ?_)
  · obtain ⟨n, a, ts, rfl, _⟩ := h
    rfl
  obtain ⟨n, a, ts, rfl, ha, hO, hlen, q⟩ := h
  refine ⟨_, (@pss_cons _ _ _ _ _ (@ps_if _ _ _ _ _ _ _ _ (@pt_not _ _ _ _ (@pt_val _ _ _ (@pe_call _ _ _ _ _ _ _ _ _ _ _ _ _ _ _ _ G_is_whole (hr.mono (by decide)) rfl T.m_is_whole T.k_is_whole T.bi_is_whole .nil pass0 (@pa_consN _ _ _ _ _ (@pv _ 0 _ _ (by rfl) (by first | exact Or.inl rfl | exact Or.inr (Or.inl rfl) | exact Or.inr (Or.inr rfl)) (by decide) (by decide)) (@pa_nil _) (by rfl)) (by decide) (by rfl) (by rfl)) (by intro _; rfl))) (@pss_one _ _ _ (@ps_never _ _)) (@pss_nil _)) (@pss_cons _ _ _ _ _ (@ps_if _ _ _ _ _ _ _ _ (@pt_not _ _ _ _ (@pt_val _ _ _ (@pe_call _ _ _ _ _ _ _ _ _ _ _ _ _ _ _ _ G_are_rounds (hr.mono (by decide)) rfl T.m_are_rounds T.k_are_rounds T.bi_are_rounds .nil pass0 (@pa_consN _ _ _ _ _ (@pv _ 1 _ _ (by rfl) (by first | exact Or.inl rfl | exact Or.inr (Or.inl rfl) | exact Or.inr (Or.inr rfl)) (by decide) (by decide)) (@pa_nil _) (by rfl)) (by decide) (by rfl) (by rfl)) (by intro _; rfl))) (@pss_one _ _ _ (@ps_never _ _)) (@pss_nil _)) (@pss_one _ _ _ (@ps_ret _ _ _ _ (@pe_comp0 _ _ (["number", "turn"]) ([some 0, none]) _ _ _ _ _ _ _ _ sc_left_c1 rfl (@pi_list _ _ _ _ (@pv _ 1 _ _ (by rfl) (by first | exact Or.inl rfl | exact Or.inr (Or.inl rfl) | exact Or.inr (Or.inr rfl)) (by decide) (by decide))) (fun z => (@pg_name _ _ (1) _ sc_left_c1.nd rfl (Or.inl rfl) (by first | exact .inl rfl | exact .inr rfl | assumption))) (sets_name 1) (by decide) (fun z => (@pe_tup _ _ _ _ _ (@pa_consN _ _ _ _ _ (@pe_op _ _ _ _ _ _ _ _ op_mod (@pv _ 0 _ _ (by rfl) (by first | exact Or.inl rfl | exact Or.inr (Or.inl rfl) | exact Or.inr (Or.inr rfl)) (by decide) (by decide)) (@pv _ 1 _ _ (by rfl) (by first | exact Or.inl rfl | exact Or.inr (Or.inl rfl) | exact Or.inr (Or.inr rfl)) (by decide) (by decide))) (@pa_consN _ _ _ _ _ (@pv _ 1 _ _ (by rfl) (by first | exact Or.inl rfl | exact Or.inr (Or.inl rfl) | exact Or.inr (Or.inr rfl)) (by decide) (by decide)) (@pa_nil _) (by rfl)) (by rfl)))) (by intro _; rfl)))))), ?_⟩
  refine ⟨_, rfl, n, rfl, _, rfl, iteF ?_⟩
  refine ⟨_, rfl, a, ts, rfl, ha, hO, hlen, fun H1 s1 => ⟨_, rfl, iteF ?_⟩⟩
  refine ⟨_, rfl, a, rfl, ⟨_, LstAt.ints (s1 _ _ ha)⟩, comp_list (K := K) (a := a) (xs := ts.map V.int) (fun i ys H' => Same H H' ∧ ∃ as : List Addr, ys = as.map V.ref ∧ Paired (TupAt H') as ((ts.take i).map fun t => (n % t, t))) ⟨s1, [], rfl, .nil⟩ (by rw [List.length_map]; exact small100 hlen) ?_ ?_ ?_⟩
  · rintro i ys H' hi ⟨hs, as, rfl, hP⟩
    rw [List.length_map] at hi
    have hal := hP.length
    rw [List.length_map, List.length_take] at hal
    exact ⟨LstAt.ints (hs _ _ ha), by rw [List.length_map]; omega⟩
  · rintro i x ys H' hx ⟨hs, as, rfl, hP⟩
    obtain ⟨t, ht, rfl⟩ := ints_get hx
    have hb := hO t (List.mem_of_getElem? ht)
    refine ⟨_, rfl, _, rfl, _, _, rfl, rfl, (by omega), _, rfl, (by show 2 ≤ sizeLine; decide), fun u hu => ?_⟩
    have s2 := same_new hu (.tup [.int (n % t), .int t])
    refine ⟨hs.trans s2, as ++ [u], by rw [List.map_append]; rfl, ?_⟩
    rw [take_snoc ht, List.map_append]
    exact paired_snoc (Paired.mapP hP fun b p z => s2 _ _ z) upd_same
  · rintro ys H' ⟨hs, as, rfl, hP⟩ l hl
    rw [List.length_map, List.take_length] at hP
    have s2 := same_new hl (.lst (as.map V.ref))
    exact q l _ (hs.trans s2) ⟨as, upd_same, Paired.mapP hP fun b p z => s2 _ _ z⟩
theorem turns_most {k : Int} (h0 : 0 ≤ k) (h1 : k < 4) : ∃ m : Int, atI (List.map V.int [12, 200, 1000000, 30]) k = some (.int m) ∧ 12 ≤ m ∧ m ≤ 1000000 := by
  have : k = 0 ∨ k = 1 ∨ k = 2 ∨ k = 3 := by omega
  rcases this with rfl | rfl | rfl | rfl
  · exact ⟨12, rfl, by decide, by decide⟩
  · exact ⟨200, rfl, by decide, by decide⟩
  · exact ⟨1000000, rfl, by decide, by decide⟩
  · exact ⟨30, rfl, by decide, by decide⟩
theorem turns_few {k : Int} (h0 : 0 ≤ k) (h1 : k < 15) : ∃ m : Int, atI (List.map V.int [1, 2, 4, 8, 3, 9, 27, 6, 12, 18, 36, 5, 10, 20, 60]) k = some (.int m) ∧ 1 ≤ m ∧ m ≤ 1000000 := by
  obtain ⟨v, hv, e⟩ := atI_int (ns := [1, 2, 4, 8, 3, 9, 27, 6, 12, 18, 36, 5, 10, 20, 60]) h0 h1
  have : ∀ z ∈ ([1, 2, 4, 8, 3, 9, 27, 6, 12, 18, 36, 5, 10, 20, 60] : List Int), 1 ≤ z ∧ z ≤ 1000000 := by decide
  exact ⟨v, e, (this v hv).1, (this v hv).2⟩
def TsOk (ts : List Int) : Prop := ∀ t ∈ ts, 1 ≤ t ∧ t ≤ 1000000
def sp_turns (K : PySem.W.Frag) : Sp := fun vs H Q _ => ∃ (a : Addr) (ns : List Int), vs = [.ref a] ∧ IntsAt K H a ns ∧ ns.length ≤ 63 ∧
  ∀ l ts H', TsOk ts → ts.length = ns.length → H l = none → LstAt H' l ts → Same H H' → Q (.ref l) H'
set_option maxHeartbeats 2000000 in
theorem ok_law_turns (T : Txt K mg A) : FnOk P w K mg base CX0 2 A.a__law_turns A.d__law_turns ["_law_script"] (sp_turns K) := by
  have G__law_cell_at := ok_law_cell_at (P := P) (w := w) (base := base) T
  have G__law_draw := ok_law_draw (P := P) (w := w) (base := base) T
  refine T.F__law_turns.ok sc__law_turns (fun vs H Q E h => ?_) (fun cdv Ar outer s H vs Q E hr h => ?_)
  · obtain ⟨a, ns, rfl, _⟩ := h
    rfl
  obtain ⟨a, ns, rfl, ha, hlen, q⟩ := h
  refine ⟨_, (@pss_cons _ _ _ _ _ (@ps_set _ _ (1) _ _ _ _ sc__law_turns.nd rfl (Or.inl rfl) (@pe_call _ _ _ _ _ _ _ _ _ _ _ _ _ _ _ _ G__law_draw (hr.mono (by decide)) rfl T.m__law_draw T.k__law_draw T.bi__law_draw .nil pass0 (@pa_consN _ _ _ _ _ (@pe_call _ _ _ _ _ _ _ _ _ _ _ _ _ _ _ _ G__law_cell_at (hr.mono (by decide)) rfl T.m__law_cell_at T.k__law_cell_at T.bi__law_cell_at .nil pass0 (@pa_consN _ _ _ _ _ (@pv _ 0 _ _ (by rfl) (by first | exact Or.inl rfl | exact Or.inr (Or.inl rfl) | exact Or.inr (Or.inr rfl)) (by decide) (by decide)) (@pa_consN _ _ _ _ _ (@pe_int _ _ _ _) (@pa_nil _) (by rfl)) (by rfl)) (by decide) (by rfl) (by rfl)) (@pa_consN _ _ _ _ _ (@pe_int _ _ _ _) (@pa_consN _ _ _ _ _ (@pe_int _ _ _ _) (@pa_nil _) (by rfl)) (by rfl)) (by rfl)) (by decide) (by rfl) (by rfl)) (by rfl) (by first | exact .inl rfl | exact .inr rfl | assumption)) (@pss_cons _ _ _ _ _ (@ps_set _ _ (2) _ _ _ _ sc__law_turns.nd rfl (Or.inl rfl) (@pe_lst _ _ _ _ (@pa_nil _)) (by rfl) (by first | exact .inl rfl | exact .inr rfl | assumption)) (@pss_cons _ _ _ _ _ (@ps_for _ _ _ _ _ _ _ _ PassesOwn.never rfl (@pi_range1 _ _ _ _ _ _ rfl T.b_range (@pa_consN _ _ _ _ _ (@pe_callB _ _ _ _ _ _ _ _ _ call_len_seq rfl T.b_len B.len (@pa_consN _ _ _ _ _ (@pv _ 0 _ _ (by rfl) (by first | exact Or.inl rfl | exact Or.inr (Or.inl rfl) | exact Or.inr (Or.inr rfl)) (by decide) (by decide)) (@pa_nil _) (by rfl)) (by decide) (by decide) (by rfl) (by rfl)) (@pa_nil _) (by rfl)) (by rfl)) (@pg_name _ _ (3) _ sc__law_turns.nd rfl (Or.inl rfl) (by first | exact .inl rfl | exact .inr rfl | assumption)) (@pss_cons _ _ _ _ _ (@ps_set _ _ (4) _ _ _ _ sc__law_turns.nd rfl (Or.inl rfl) (@pe_op _ _ _ _ _ _ _ _ op_add (@pe_int _ _ _ _) (@pe_call _ _ _ _ _ _ _ _ _ _ _ _ _ _ _ _ G__law_draw (hr.mono (by decide)) rfl T.m__law_draw T.k__law_draw T.bi__law_draw .nil pass0 (@pa_consN _ _ _ _ _ (@pe_ix _ _ _ _ _ _ _ ix_list (@pv _ 0 _ _ (by rfl) (by first | exact Or.inl rfl | exact Or.inr (Or.inl rfl) | exact Or.inr (Or.inr rfl)) (by decide) (by decide)) (@pv _ 3 _ _ (by rfl) (by first | exact Or.inl rfl | exact Or.inr (Or.inl rfl) | exact Or.inr (Or.inr rfl)) (by decide) (by decide)) (fun _ _ => rfl)) (@pa_consN _ _ _ _ _ (@pe_op _ _ _ _ _ _ _ _ op_add (@pe_op _ _ _ _ _ _ _ _ op_mod (@pv _ 3 _ _ (by rfl) (by first | exact Or.inl rfl | exact Or.inr (Or.inl rfl) | exact Or.inr (Or.inr rfl)) (by decide) (by decide)) (@pe_int _ _ _ _)) (@pe_int _ _ _ _)) (@pa_consN _ _ _ _ _ (@pe_ix _ _ _ _ _ _ _ ix_tup (@pe_tupI _ _ _ _ ([12, 200, 1000000, 30]) rfl) (@pv _ 1 _ _ (by rfl) (by first | exact Or.inl rfl | exact Or.inr (Or.inl rfl) | exact Or.inr (Or.inr rfl)) (by decide) (by decide)) (fun _ _ => rfl)) (@pa_nil _) (by rfl)) (by rfl)) (by rfl)) (by decide) (by rfl) (by rfl))) (by rfl) (by first | exact .inl rfl | exact .inr rfl | assumption)) (@pss_cons _ _ _ _ _ (@ps_if _ _ _ _ _ _ _ _ (@pt_cmpR _ _ _ _ _ _ _ _ op_eqI (@pv _ 1 _ _ (by rfl) (by first | exact Or.inl rfl | exact Or.inr (Or.inl rfl) | exact Or.inr (Or.inr rfl)) (by decide) (by decide)) (@pe_int _ _ _ _) (nomark _)) (@pss_one _ _ _ (@ps_set _ _ (4) _ _ _ _ sc__law_turns.nd rfl (Or.inl rfl) (@pe_ix _ _ _ _ _ _ _ ix_tup (@pe_tupI _ _ _ _ ([1, 2, 4, 8, 3, 9, 27, 6, 12, 18, 36, 5, 10, 20, 60]) rfl) (@pe_op _ _ _ _ _ _ _ _ op_mod (@pv _ 4 _ _ (by rfl) (by first | exact Or.inl rfl | exact Or.inr (Or.inl rfl) | exact Or.inr (Or.inr rfl)) (by decide) (by decide)) (@pe_int _ _ _ _)) (fun _ _ => rfl)) (by rfl) (by first | exact .inl rfl | exact .inr rfl | assumption))) (@pss_nil _)) (@pss_one _ _ _ (@ps_expr _ _ _ _ (@pe_bm _ _ _ _ _ _ _ _ _ _ _ _ PySem.F.plainAttrs_list PySem.F.slot_list_append PySem.F.type_list_append mt_append (@pv _ 2 _ _ (by rfl) (by first | exact Or.inl rfl | exact Or.inr (Or.inl rfl) | exact Or.inr (Or.inr rfl)) (by decide) (by decide)) (@pa_consN _ _ _ _ _ (@pv _ 4 _ _ (by rfl) (by first | exact Or.inl rfl | exact Or.inr (Or.inl rfl) | exact Or.inr (Or.inr rfl)) (by decide) (by decide)) (@pa_nil _) (by rfl)) (by rfl) (by rfl) (by rfl) (by rfl) (by rfl)) (by rfl))))) (by intro _; rfl)) (@pss_one _ _ _ (@ps_ret _ _ _ _ (@pv _ 2 _ _ (by rfl) (by first | exact Or.inl rfl | exact Or.inr (Or.inl rfl) | exact Or.inr (Or.inr rfl)) (by decide) (by decide))))))), ?_⟩
  refine ⟨_, rfl, a, ns, 0, rfl, ha, (by decide), fun c0 => ⟨c0, 6, 4, rfl, (by decide), fun kind H1 k0 k1 s1 => ?_⟩⟩
  refine ⟨(by show 0 ≤ sizeLine; decide), fun l hl => ?_⟩
  have s4 := s1.trans (same_new hl (.lst []))
  have hl0 : H l = none := s1.free hl
  refine ⟨_, rfl, a, _, rfl, .inl (s4.ints ha), _, rfl, ?_⟩
  rw [List.length_map]
  refine ⟨by omega, by omega, ?_⟩
  rw [show ((ns.length : Int)).toNat = ns.length by omega]
  refine for_range (lo := 0) (n := ns.length) (fun i σ H' => ∃ (ts : List Int) (f1 f2 : Option V), σ = [some (.ref a), some (.int kind), some (.ref l), f1, f2] ∧ Same H H' ∧ LstAt H' l ts ∧ ts.length = i ∧ TsOk ts) ⟨[], _, _, rfl, s4, upd_same, rfl, fun _ z => nomatch z⟩ ?_ ?_
  · rintro i σ H' hi ⟨ts, f1, f2, rfl, sH, hL, hi2, hO⟩
    obtain ⟨c, hc, ec⟩ := atI_int (ns := ns) (i := 0 + (i : Int)) (by omega) (by omega)
    obtain ⟨most, em, hm0, hm1⟩ := turns_most k0 k1
    have push : ∀ (x : Int) (H5 : Hp), 1 ≤ x → x ≤ 1000000 → Same H' H5 → rAppend (.ref l) [.int x] H5 (fun _ H6 => ∃ (ts : List Int) (f1 f2 : Option V), [some (V.ref a), some (V.int kind), some (V.ref l), some (V.int (0 + (i : Int))), some (V.int x)] = [some (.ref a), some (.int kind), some (.ref l), f1, f2] ∧ Same H H6 ∧ LstAt H6 l ts ∧ ts.length = i + 1 ∧ TsOk ts) := fun x H5 x0 x1 sh => by
      have hL5 := sh _ _ hL
      refine ⟨l, _, _, rfl, rfl, hL5, ?_, ts ++ [x], _, _, rfl, ?_, ?_, ?_, ?_⟩
      · rw [List.length_map]; exact small1000 (by omega)
      · intro b o e
        rw [upd_ne (ne_of_none e hl0)]
        exact (sH.trans sh) b o e
      · show upd H5 l _ l = _
        rw [upd_same, List.map_append]; rfl
      · rw [List.length_append, hi2]; rfl
      · intro t ht
        rcases List.mem_append.mp ht with z | z
        · exact hO t z
        · rw [List.mem_singleton.mp z]; exact ⟨x0, x1⟩
    refine ⟨_, rfl, _, rfl, a, _, _, _, rfl, rfl, sH.ints ha, ec, _, rfl, _, _, rfl, rfl, (by show (0 : Int) < 5; decide), _, _, rfl, rfl, ?_⟩
    refine ⟨(by show 4 ≤ sizeLine; decide), fun u hu => ?_⟩
    have su := same_new hu (.tup (List.map V.int [12, 200, 1000000, 30]))
    refine ⟨_, rfl, u, _, _, _, rfl, rfl, SqT.of upd_same, em, c, _, most, rfl, (by omega), fun v H3 v0 v1 sv => ⟨_, _, rfl, rfl, ?_⟩⟩
    have sK := su.trans sv
    refine ⟨_, rfl, _, _, rfl, rfl, _, rfl, ?_⟩
    by_cases h3 : kind = 3
    · rw [decT h3]
      refine iteT ?_
      refine ⟨(by show 15 ≤ sizeLine; decide), fun u2 hu2 => ?_⟩
      have sU := sK.trans (same_new hu2 (.tup (List.map V.int [1, 2, 4, 8, 3, 9, 27, 6, 12, 18, 36, 5, 10, 20, 60])))
      have h0 := Int.emod_nonneg (1 + v) (show (15 : Int) ≠ 0 by decide)
      have h1 := Int.emod_lt_of_pos (1 + v) (show (0 : Int) < 15 by decide)
      obtain ⟨x, ex, x0, x1⟩ := turns_few h0 h1
      refine ⟨_, rfl, _, _, rfl, rfl, (by show (0 : Int) < 15; decide), u2, _, _, _, rfl, rfl, SqT.of upd_same, ex, ?_⟩
      refine ⟨_, rfl, .inl ⟨rfl, _, SqL.of (sU _ _ hL)⟩, _, rfl, ?_⟩
      exact push x _ x0 x1 sU
    · rw [decF h3]
      refine iteF ?_
      refine ⟨_, rfl, .inl ⟨rfl, _, SqL.of (sK _ _ hL)⟩, _, rfl, ?_⟩
      exact push (1 + v) _ (by omega) (by omega) sK
  · rintro σ H' ⟨ts, f1, f2, rfl, sH, hL, hi2, hO⟩
    exact ⟨_, rfl, q l ts H' hO hi2 hl0 hL sH⟩
end
end W01

set_option Elab.async false
set_option linter.all false
set_option maxRecDepth 100000
namespace W01
open PySem L2
section
variable {P : Program} {w : World} {K : PySem.W.Frag} {mg : Str → Option Value} {base : Heap} {A : Adr}
def sp_law_part : Sp := fun vs H Q _ => ∃ a b : Int, vs = [.int a, .int b] ∧ Q (.int (Int.gcd a b)) H
set_option maxHeartbeats 1000000 in
theorem ok_law_part (T : Txt K mg A) : FnOk P w K mg base CX0 1 A.a__law_part A.d__law_part ["_law_one", "_law_other"] sp_law_part := by
  refine T.F__law_part.ok sc__law_part (fun vs H Q E h => ?_) (fun cdv Ar outer s H vs Q E hr h => ?_)
  · obtain ⟨a, b, rfl, _⟩ := h
    rfl
  obtain ⟨a, b, rfl, q⟩ := h
  refine ⟨_, (@pss_cons _ _ _ _ _ (@ps_par _ _ (0) (1) _ _ _ _ _ _ _ _ _ _ _ rfl sc__law_part.nd rfl rfl (by decide) rfl rfl (@pa_consN _ _ _ _ _ (@pe_callB _ _ _ _ _ _ _ _ _ call_abs rfl T.b_abs B.abs (@pa_consN _ _ _ _ _ (@pv _ 0 _ _ (by rfl) (by first | exact Or.inl rfl | exact Or.inr (Or.inl rfl) | exact Or.inr (Or.inr rfl)) (by decide) (by decide)) (@pa_nil _) (by rfl)) (by decide) (by decide) (by rfl) (by rfl)) (@pa_consN _ _ _ _ _ (@pe_callB _ _ _ _ _ _ _ _ _ call_abs rfl T.b_abs B.abs (@pa_consN _ _ _ _ _ (@pv _ 1 _ _ (by rfl) (by first | exact Or.inl rfl | exact Or.inr (Or.inl rfl) | exact Or.inr (Or.inr rfl)) (by decide) (by decide)) (@pa_nil _) (by rfl)) (by decide) (by decide) (by rfl) (by rfl)) (@pa_nil _) (by rfl)) (by rfl)) rfl (by rfl)) (@pss_cons _ _ _ _ _ (@ps_while _ _ _ _ _ _ PassesOwn.never (@pt_cmpR _ _ _ _ _ _ _ _ op_gt (@pv _ 1 _ _ (by rfl) (by first | exact Or.inl rfl | exact Or.inr (Or.inl rfl) | exact Or.inr (Or.inr rfl)) (by decide) (by decide)) (@pe_int _ _ _ _) (nomark _)) (@pss_one _ _ _ (@ps_par _ _ (0) (1) _ _ _ _ _ _ _ _ _ _ _ rfl sc__law_part.nd rfl rfl (by decide) rfl rfl (@pa_consN _ _ _ _ _ (@pv _ 1 _ _ (by rfl) (by first | exact Or.inl rfl | exact Or.inr (Or.inl rfl) | exact Or.inr (Or.inr rfl)) (by decide) (by decide)) (@pa_consN _ _ _ _ _ (@pe_op _ _ _ _ _ _ _ _ op_mod (@pv _ 0 _ _ (by rfl) (by first | exact Or.inl rfl | exact Or.inr (Or.inl rfl) | exact Or.inr (Or.inr rfl)) (by decide) (by decide)) (@pv _ 1 _ _ (by rfl) (by first | exact Or.inl rfl | exact Or.inr (Or.inl rfl) | exact Or.inr (Or.inr rfl)) (by decide) (by decide))) (@pa_nil _) (by rfl)) (by rfl)) rfl (by rfl)))) (@pss_one _ _ _ (@ps_ret _ _ _ _ (@pv _ 0 _ _ (by rfl) (by first | exact Or.inl rfl | exact Or.inr (Or.inl rfl) | exact Or.inr (Or.inr rfl)) (by decide) (by decide)))))), ?_⟩
  refine ⟨_, rfl, _, rfl, _, rfl, _, rfl, _, _, rfl, ?_⟩
  refine while_by (fun σ H' => H' = H ∧ ∃ (p l : Int), σ = [some (.int p), some (.int l)] ∧ 0 ≤ p ∧ 0 ≤ l ∧ Int.gcd p l = Int.gcd a b)
    (fun (σ : St) _ => match σ[1]? with | some (some (V.int l)) => l.toNat | _ => 0) ⟨rfl, _, _, rfl, ?_, ?_, ?_⟩ ?_ ?_
  · split <;> omega
  · split <;> omega
  · rw [abs_if, abs_if]; simp [Int.gcd]
  · rintro σ H' ⟨rfl, p, l, rfl, hp, hl, hg⟩
    refine ⟨_, rfl, _, _, rfl, rfl, _, rfl, ?_⟩
    by_cases h0 : 0 < l
    · rw [decT h0]
      refine iteT ?_
      have h0' : l ≠ 0 := by omega
      refine ⟨_, rfl, _, rfl, _, rfl, _, _, rfl, rfl, h0, _, _, rfl, ⟨rfl, _, _, rfl, hl, Int.emod_nonneg _ h0', ?_⟩, ?_⟩
      · rw [← hg]
        show Nat.gcd l.natAbs (p % l).natAbs = Nat.gcd p.natAbs l.natAbs
        rw [Int.natAbs_emod_of_nonneg hp]
        rw [Nat.gcd_comm l.natAbs, ← Nat.gcd_rec, Nat.gcd_comm]
      · show (p % l).toNat < l.toNat
        have h1 := Int.emod_nonneg p h0'
        have h2 := Int.emod_lt_of_pos p h0
        omega
    · rw [decF h0]
      refine iteF ?_
      refine ⟨_, rfl, ?_⟩
      have hl0 : l = 0 := by omega
      subst hl0
      have e : p = (Int.gcd a b : Int) := by
        rw [← hg, Int.gcd_zero_right]; omega
      rw [e]; exact q
  · rintro σ H' Q1 Q2 hm ⟨v, e, i, j, e1, e2, k, e3, q⟩
    exact ⟨v, e, i, j, e1, e2, k, e3, hm _ _ q⟩
end
end W01

set_option Elab.async false
set_option linter.all false
set_option maxRecDepth 100000
namespace W01
open PySem L2
section
variable {P : Program} {w : World} {K : PySem.W.Frag} {mg : Str → Option Value} {base : Heap} {A : Adr}
theorem PrsAt.rep {H : Hp} {a : Addr} {rs : List (Int × Int)} (h : PrsAt H a rs) : RepL K (repP K) H a rs := by
  obtain ⟨as, h1, h2⟩ := h
  refine ⟨_, SqL.of h1, ?_⟩
  clear h1
  induction h2 with
  | nil => exact .nil
  | cons x r ih => exact .cons ⟨_, rfl, SqT.of x⟩ ih
theorem paired_set {α β : Type} {F : α → β → Prop} {a : α} {b : β} (h : F a b) : ∀ {l₁ : List α} {l₂ : List β} (j : Nat), Paired F l₁ l₂ → Paired F (l₁.set j a) (l₂.set j b)
  | [], [], _, _ => .nil
  | [], _ :: _, _, r => nomatch r
  | _ :: _, [], _, r => nomatch r
  | _ :: _, _ :: _, 0, .cons x r => .cons h r
  | _ :: _, _ :: _, j + 1, .cons x r => .cons x (paired_set h j r)
theorem rs_of {ts : List Int} (h : TsOk ts) (n : Int) : RsOk (ts.map fun t => (n % t, t)) := by
  intro p hp
  obtain ⟨t, ht, rfl⟩ := List.mem_map.mp hp
  have := h t ht
  exact ⟨Int.emod_nonneg _ (by omega), Int.emod_lt_of_pos _ (by omega), this.2⟩
def sp_rests (K : PySem.W.Frag) : Sp := fun vs H Q _ => ∃ (a : Addr) (ns : List Int), vs = [.ref a] ∧ SqX K H a (ns.map V.int) ∧ ns.length ≤ 63 ∧
  ∀ l rs H', RsOk rs → rs.length = ns.length → PrsAt H' l rs → Same H H' → Q (.ref l) H'
set_option maxHeartbeats 2000000 in
theorem ok_law_rests (T : Txt K mg A) : FnOk P w K mg base CX0 3 A.a__law_rests A.d__law_rests ["_law_script"] (sp_rests K) := by
  have G__law_cell_at := ok_law_cell_at (P := P) (w := w) (base := base) T
  have G__law_draw := ok_law_draw (P := P) (w := w) (base := base) T
  have G__law_turns := ok_law_turns (P := P) (w := w) (base := base) T
  refine T.F__law_rests.ok sc__law_rests (fun vs H Q E h => ?_) (fun cdv Ar outer s H vs Q E hr h => ?_)
  · obtain ⟨a, ns, rfl, _⟩ := h
    rfl
  obtain ⟨a, ns, rfl, ha, hlen, q⟩ := h
  refine ⟨_, (@pss_cons _ _ _ _ _ (@ps_set _ _ (1) _ _ _ _ sc__law_rests.nd rfl (Or.inr rfl) (@pe_callB _ _ _ _ _ _ _ _ _ (call_sum rfl) rfl T.b_sum B.sum (@pa_consN _ _ _ _ _ (@pe_comp0 _ _ (["_law_k", "_law_cell"]) ([none, none]) _ _ _ _ _ _ _ _ sc__law_rests_c1 rfl (@pi_enumX _ _ _ _ _ _ _ _ rfl T.b_enumerate (@pa_consN _ _ _ _ _ (@pv _ 0 _ _ (by rfl) (by first | exact Or.inl rfl | exact Or.inr (Or.inl rfl) | exact Or.inr (Or.inr rfl)) (by decide) (by decide)) (@pa_nil _) (by rfl)) (by rfl)) (fun z => (@pg_tup _ _ _ _ _ (2) rfl (@pgs_cons _ _ _ _ _ (@pg_name _ _ (0) _ sc__law_rests_c1.nd rfl (Or.inl rfl) (by first | exact .inl rfl | exact .inr rfl | assumption)) (@pgs_cons _ _ _ _ _ (@pg_name _ _ (1) _ sc__law_rests_c1.nd rfl (Or.inl rfl) (by first | exact .inl rfl | exact .inr rfl | assumption)) (@pgs_nil _) (by rfl)) (by rfl)) (by rfl) (by rfl))) (sets_two _ _ 0 1) (by decide) (fun z => (@pe_op _ _ _ _ _ _ _ _ op_mul (@pe_op _ _ _ _ _ _ _ _ op_mod (@pe_callB _ _ _ _ _ _ _ _ _ call_abs rfl T.b_abs B.abs (@pa_consN _ _ _ _ _ (@pv _ 1 _ _ (by rfl) (by first | exact Or.inl rfl | exact Or.inr (Or.inl rfl) | exact Or.inr (Or.inr rfl)) (by decide) (by decide)) (@pa_nil _) (by rfl)) (by decide) (by decide) (by rfl) (by rfl)) (@pe_op _ _ _ _ _ _ _ _ op_pow (@pe_int _ _ _ _) (@pe_int _ _ _ _))) (@pe_op _ _ _ _ _ _ _ _ op_add (@pv _ 0 _ _ (by rfl) (by first | exact Or.inl rfl | exact Or.inr (Or.inl rfl) | exact Or.inr (Or.inr rfl)) (by decide) (by decide)) (@pe_int _ _ _ _)))) (by intro _; rfl)) (@pa_nil _) (by rfl)) (by decide) (by decide) (by rfl) (by rfl)) (by rfl) (by first | exact .inl rfl | exact .inr rfl | assumption)) (@pss_cons _ _ _ _ _ (@ps_setComp0 _ _ (["_law_far", "_law_turn"]) ([some 1, none]) _ _ _ _ _ _ _ _ (2) _ _ _ sc__law_rests.nd rfl rfl sc__law_rests_c2 rfl (@pi_list _ _ _ _ (@pe_call _ _ _ _ _ _ _ _ _ _ _ _ _ _ _ _ G__law_turns (hr.mono (by decide)) rfl T.m__law_turns T.k__law_turns T.bi__law_turns .nil pass0 (@pa_consN _ _ _ _ _ (@pv _ 0 _ _ (by rfl) (by first | exact Or.inl rfl | exact Or.inr (Or.inl rfl) | exact Or.inr (Or.inr rfl)) (by decide) (by decide)) (@pa_nil _) (by rfl)) (by decide) (by rfl) (by rfl))) (fun z => (@pg_name _ _ (1) _ sc__law_rests_c2.nd rfl (Or.inl rfl) (by first | exact .inl rfl | exact .inr rfl | assumption))) (sets_name 1) (by decide) (fun z => (@pe_tup _ _ _ _ _ (@pa_consN _ _ _ _ _ (@pe_op _ _ _ _ _ _ _ _ op_mod (@pv _ 0 _ _ (by rfl) (by first | exact Or.inl rfl | exact Or.inr (Or.inl rfl) | exact Or.inr (Or.inr rfl)) (by decide) (by decide)) (@pv _ 1 _ _ (by rfl) (by first | exact Or.inl rfl | exact Or.inr (Or.inl rfl) | exact Or.inr (Or.inr rfl)) (by decide) (by decide))) (@pa_consN _ _ _ _ _ (@pv _ 1 _ _ (by rfl) (by first | exact Or.inl rfl | exact Or.inr (Or.inl rfl) | exact Or.inr (Or.inr rfl)) (by decide) (by decide)) (@pa_nil _) (by rfl)) (by rfl)))) (by rfl) (by intro _; rfl)) (@pss_cons _ _ _ _ _ (@ps_if _ _ _ _ _ _ _ _ (@PW.pt _ _ _ (@pw_and _ _ _ _ _ _ _ (@pt_cmpR _ _ _ _ _ _ _ _ (op_neL (eqty_pair (hu_of hr)) hr.units0) (@pv _ 2 _ _ (by rfl) (by first | exact Or.inl rfl | exact Or.inr (Or.inl rfl) | exact Or.inr (Or.inr rfl)) (by decide) (by decide)) (@pe_lst _ _ _ _ (@pa_nil _)) (nomark _)) (@pw_and1 _ _ _ _ (@pt_cmpR _ _ _ _ _ _ _ _ op_eqI (@pe_call _ _ _ _ _ _ _ _ _ _ _ _ _ _ _ _ G__law_draw (hr.mono (by decide)) rfl T.m__law_draw T.k__law_draw T.bi__law_draw .nil pass0 (@pa_consN _ _ _ _ _ (@pe_call _ _ _ _ _ _ _ _ _ _ _ _ _ _ _ _ G__law_cell_at (hr.mono (by decide)) rfl T.m__law_cell_at T.k__law_cell_at T.bi__law_cell_at .nil pass0 (@pa_consN _ _ _ _ _ (@pv _ 0 _ _ (by rfl) (by first | exact Or.inl rfl | exact Or.inr (Or.inl rfl) | exact Or.inr (Or.inr rfl)) (by decide) (by decide)) (@pa_consN _ _ _ _ _ (@pe_int _ _ _ _) (@pa_nil _) (by rfl)) (by rfl)) (by decide) (by rfl) (by rfl)) (@pa_consN _ _ _ _ _ (@pe_int _ _ _ _) (@pa_consN _ _ _ _ _ (@pe_int _ _ _ _) (@pa_nil _) (by rfl)) (by rfl)) (by rfl)) (by decide) (by rfl) (by rfl)) (@pe_int _ _ _ _) (nomark _))))) (@pss_cons _ _ _ _ _ (@ps_set _ _ (3) _ _ _ _ sc__law_rests.nd rfl (Or.inl rfl) (@pe_call _ _ _ _ _ _ _ _ _ _ _ _ _ _ _ _ G__law_draw (hr.mono (by decide)) rfl T.m__law_draw T.k__law_draw T.bi__law_draw .nil pass0 (@pa_consN _ _ _ _ _ (@pe_call _ _ _ _ _ _ _ _ _ _ _ _ _ _ _ _ G__law_cell_at (hr.mono (by decide)) rfl T.m__law_cell_at T.k__law_cell_at T.bi__law_cell_at .nil pass0 (@pa_consN _ _ _ _ _ (@pv _ 0 _ _ (by rfl) (by first | exact Or.inl rfl | exact Or.inr (Or.inl rfl) | exact Or.inr (Or.inr rfl)) (by decide) (by decide)) (@pa_consN _ _ _ _ _ (@pe_int _ _ _ _) (@pa_nil _) (by rfl)) (by rfl)) (by decide) (by rfl) (by rfl)) (@pa_consN _ _ _ _ _ (@pe_int _ _ _ _) (@pa_consN _ _ _ _ _ (@pe_callB _ _ _ _ _ _ _ _ _ call_len_seq rfl T.b_len B.len (@pa_consN _ _ _ _ _ (@pv _ 2 _ _ (by rfl) (by first | exact Or.inl rfl | exact Or.inr (Or.inl rfl) | exact Or.inr (Or.inr rfl)) (by decide) (by decide)) (@pa_nil _) (by rfl)) (by decide) (by decide) (by rfl) (by rfl)) (@pa_nil _) (by rfl)) (by rfl)) (by rfl)) (by decide) (by rfl) (by rfl)) (by rfl) (by first | exact .inl rfl | exact .inr rfl | assumption)) (@pss_one _ _ _ (@ps_asg _ _ _ _ _ _ (@pe_tup _ _ _ _ _ (@pa_consN _ _ _ _ _ (@pe_op _ _ _ _ _ _ _ _ op_mod (@pe_op _ _ _ _ _ _ _ _ op_add (@pe_ix _ _ _ _ _ _ _ ix_tup (@pe_ix _ _ _ _ _ _ _ ix_list (@pv _ 2 _ _ (by rfl) (by first | exact Or.inl rfl | exact Or.inr (Or.inl rfl) | exact Or.inr (Or.inr rfl)) (by decide) (by decide)) (@pv _ 3 _ _ (by rfl) (by first | exact Or.inl rfl | exact Or.inr (Or.inl rfl) | exact Or.inr (Or.inr rfl)) (by decide) (by decide)) (fun _ _ => rfl)) (@pe_int _ _ _ _) (fun _ _ => rfl)) (@pe_call _ _ _ _ _ _ _ _ _ _ _ _ _ _ _ _ G__law_draw (hr.mono (by decide)) rfl T.m__law_draw T.k__law_draw T.bi__law_draw .nil pass0 (@pa_consN _ _ _ _ _ (@pe_call _ _ _ _ _ _ _ _ _ _ _ _ _ _ _ _ G__law_cell_at (hr.mono (by decide)) rfl T.m__law_cell_at T.k__law_cell_at T.bi__law_cell_at .nil pass0 (@pa_consN _ _ _ _ _ (@pv _ 0 _ _ (by rfl) (by first | exact Or.inl rfl | exact Or.inr (Or.inl rfl) | exact Or.inr (Or.inr rfl)) (by decide) (by decide)) (@pa_consN _ _ _ _ _ (@pe_int _ _ _ _) (@pa_nil _) (by rfl)) (by rfl)) (by decide) (by rfl) (by rfl)) (@pa_consN _ _ _ _ _ (@pe_int _ _ _ _) (@pa_consN _ _ _ _ _ (@pe_int _ _ _ _) (@pa_nil _) (by rfl)) (by rfl)) (by rfl)) (by decide) (by rfl) (by rfl))) (@pe_ix _ _ _ _ _ _ _ ix_tup (@pe_ix _ _ _ _ _ _ _ ix_list (@pv _ 2 _ _ (by rfl) (by first | exact Or.inl rfl | exact Or.inr (Or.inl rfl) | exact Or.inr (Or.inr rfl)) (by decide) (by decide)) (@pv _ 3 _ _ (by rfl) (by first | exact Or.inl rfl | exact Or.inr (Or.inl rfl) | exact Or.inr (Or.inr rfl)) (by decide) (by decide)) (fun _ _ => rfl)) (@pe_int _ _ _ _) (fun _ _ => rfl))) (@pa_consN _ _ _ _ _ (@pe_ix _ _ _ _ _ _ _ ix_tup (@pe_ix _ _ _ _ _ _ _ ix_list (@pv _ 2 _ _ (by rfl) (by first | exact Or.inl rfl | exact Or.inr (Or.inl rfl) | exact Or.inr (Or.inr rfl)) (by decide) (by decide)) (@pv _ 3 _ _ (by rfl) (by first | exact Or.inl rfl | exact Or.inr (Or.inl rfl) | exact Or.inr (Or.inr rfl)) (by decide) (by decide)) (fun _ _ => rfl)) (@pe_int _ _ _ _) (fun _ _ => rfl)) (@pa_nil _) (by rfl)) (by rfl))) (@pg_sub _ _ _ _ _ _ _ (@pv _ 2 _ _ (by rfl) (by first | exact Or.inl rfl | exact Or.inr (Or.inl rfl) | exact Or.inr (Or.inr rfl)) (by decide) (by decide)) (@pv _ 3 _ _ (by rfl) (by first | exact Or.inl rfl | exact Or.inr (Or.inl rfl) | exact Or.inr (Or.inr rfl)) (by decide) (by decide)) set_list (by intro _; rfl)) (by rfl) (by rfl) (by rfl)))) (@pss_nil _)) (@pss_one _ _ _ (@ps_ret _ _ _ _ (@pv _ 2 _ _ (by rfl) (by first | exact Or.inl rfl | exact Or.inr (Or.inl rfl) | exact Or.inr (Or.inr rfl)) (by decide) (by decide))))))), ?_⟩
  refine ⟨_, rfl, a, rfl, ⟨_, ha⟩, comp_enum (K := K) (a := a) (xs := ns.map V.int) (fun i ys H' => Same H H' ∧ ∃ ms : List Int, ys = ms.map V.int ∧ ms.length = i) ⟨Same.refl _, [], rfl, rfl⟩ (by rw [List.length_map]; exact small100 (by omega)) ?_ ?_ ?_⟩
  · rintro i ys H' hi ⟨hs, ms, rfl, hm⟩
    exact ⟨(ha.same hs).sq, by rw [List.length_map]; exact hm⟩
  · rintro i x ys H' u hx ⟨hs, ms, rfl, hm⟩ hu
    obtain ⟨n, hn, rfl⟩ := ints_get hx
    refine ⟨u, _, rfl, SqT.of upd_same, rfl, _, _, rfl, _, _, rfl, rfl, ?_⟩
    refine ⟨_, rfl, n, rfl, _, _, rfl, rfl, ⟨by decide, by decide, by decide⟩, _, _, rfl, rfl, (by show (0 : Int) < 10 ^ (9 : Int).toNat; decide), ?_⟩
    have h0 := Int.emod_nonneg (if n < 0 then -n else n) (show ((10 : Int) ^ (9 : Int).toNat) ≠ 0 by decide)
    have h1 := Int.emod_lt_of_pos (if n < 0 then -n else n) (show (0 : Int) < ((10 : Int) ^ (9 : Int).toNat) by decide)
    rw [show ((10 : Int) ^ (9 : Int).toNat) = 1000000000 by decide] at h0 h1 ⊢
    refine ⟨_, rfl, _, _, rfl, rfl, _, _, rfl, rfl, .inl ⟨by omega, by omega⟩, hs.trans (same_new hu _), ?_⟩
    exact ⟨ms ++ [_], by rw [List.map_append]; rfl, by rw [List.length_append, hm]; rfl⟩
  · rintro ys H' ⟨hs, ms, rfl, hm⟩ l hl
    have s1 := hs.trans (same_new hl (.lst (ms.map V.int)))
    refine ⟨l, ms, rfl, SqL.of upd_same, ?_⟩
    generalize ms.sum = far
    refine ⟨_, rfl, a, ns, rfl, (ha.same s1).sq, hlen, fun lt ts H2 hT hTl hfr hL s2 => ?_⟩
    have s12 := s1.trans s2
    refine ⟨lt, rfl, ⟨_, LstAt.ints hL⟩, comp_list (K := K) (a := lt) (xs := ts.map V.int) (fun i ys H' => Same H H' ∧ LstAt H' lt ts ∧ ∃ as : List Addr, ys = as.map V.ref ∧ Paired (TupAt H') as ((ts.take i).map fun t => (far % t, t))) ⟨s12, hL, [], rfl, .nil⟩ (by rw [List.length_map]; exact small100 (by omega)) ?_ ?_ ?_⟩
    · rintro i ys H3 hi ⟨hs3, hL3, as, rfl, hP⟩
      rw [List.length_map] at hi
      have hal := hP.length
      rw [List.length_map, List.length_take] at hal
      exact ⟨LstAt.ints hL3, by rw [List.length_map]; omega⟩
    · rintro i x ys H3 hx ⟨hs3, hL3, as, rfl, hP⟩
      obtain ⟨t, ht, rfl⟩ := ints_get hx
      have hb := hT t (List.mem_of_getElem? ht)
      refine ⟨_, rfl, _, rfl, _, _, rfl, rfl, (by omega), _, rfl, (by show 2 ≤ sizeLine; decide), fun u hu => ?_⟩
      have su := same_new hu (.tup [.int (far % t), .int t])
      refine ⟨hs3.trans su, su _ _ hL3, as ++ [u], by rw [List.map_append]; rfl, ?_⟩
      rw [take_snoc ht, List.map_append]
      exact paired_snoc (Paired.mapP hP fun b p z => su _ _ z) upd_same
    · rintro ys H3 ⟨hs3, hL3, as, rfl, hP⟩ l2 hl2
      rw [List.length_map, List.take_length] at hP
      have su := same_new hl2 (.lst (as.map V.ref))
      have hF : H l2 = none := hs3.free hl2
      have s4 := hs3.trans su
      have hP4 : Paired (TupAt (upd H3 l2 (.lst (as.map V.ref)))) as (ts.map fun t => (far % t, t)) := Paired.mapP hP fun b p z => su _ _ z
      have hR := rs_of hT far
      have hRl : (ts.map fun t => (far % t, t)).length = ns.length := by rw [List.length_map]; exact hTl
      generalize (ts.map fun t => (far % t, t)) = rs at hP4 hR hRl
      have hA : PrsAt (upd H3 l2 (.lst (as.map V.ref))) l2 rs := ⟨as, upd_same, hP4⟩
      refine ⟨_, rfl, (by show 0 ≤ sizeLine; decide), fun e he => ?_⟩
      have se := same_new he (.lst [])
      have s5 := s4.trans se
      refine ⟨l2, e, rs, [], rfl, rfl, (hA.same se).rep, ⟨_, SqL.of upd_same, .nil⟩, _, rfl, ?_⟩
      by_cases h0 : rs = []
      · rw [decT h0]
        refine iteF ?_
        exact ⟨_, rfl, q l2 rs _ hR hRl (hA.same se) s5⟩
      rw [decF h0]
      refine iteT ?_
      refine ⟨_, rfl, a, ns, 1, rfl, (ha.same s5).sq, (by decide), fun c1 => ⟨c1, 7, 2, rfl, (by decide), fun d H5 d0 d1 sd => ⟨_, _, rfl, rfl, _, rfl, ?_⟩⟩⟩
      have s6 := s5.trans sd
      have s46 := se.trans sd
      by_cases h1 : d = 0
      case neg =>
        rw [decF h1]
        refine iteF ?_
        exact ⟨_, rfl, q l2 rs _ hR hRl (hA.same s46) s6⟩
      rw [decT h1]
      refine iteT ?_
      have hA6 := hA.same s46
      obtain ⟨as6, hL6, hP6⟩ := id hA6
      have hal6 := hP6.length
      have hpos : 0 < rs.length := by
        cases rs with
        | nil => exact absurd rfl h0
        | cons => rw [List.length_cons]; omega
      refine ⟨_, rfl, a, ns, 2, rfl, (ha.same s6).sq, (by decide), fun c2 => ⟨_, rfl, l2, _, rfl, .inl (SqL.of hL6), c2, 1, _, rfl, (by rw [List.length_map, hal6]; omega), fun k H6 k0 k1 sk => ?_⟩⟩
      rw [List.length_map, hal6] at k1
      have s7 := s6.trans sk
      have hk : k.toNat < rs.length := by omega
      have ek : ((k.toNat : Nat) : Int) = k := by omega
      have hxs : (as6.map V.ref)[k.toNat]? = some (.ref (as6[k.toNat]'(by omega))) := by rw [List.getElem?_map, List.getElem?_eq_getElem (by omega)]; rfl
      obtain ⟨b, r, eb, hb, hr', hq⟩ := prs_get hP6 hxs
      have ea := atI_nat hxs
      rw [ek, eb] at ea
      have hrO := hR r (List.mem_of_getElem? hr')
      have hq6 := sk _ _ hq
      have hL7 := sk _ _ hL6
      refine ⟨_, rfl, _, rfl, l2, _, _, _, rfl, rfl, SqL.of hL7, ea, b, _, _, _, rfl, rfl, SqT.of hq6, rfl, ?_⟩
      refine ⟨_, rfl, a, ns, 3, rfl, (ha.same s7).sq, (by decide), fun c3 => ⟨c3, 2, 7, rfl, (by decide), fun d3 H7 e0 e1 s8' => ⟨_, _, rfl, rfl, ?_⟩⟩⟩
      have s8 := s7.trans s8'
      have hq7 := s8' _ _ hq6
      have hL8 := s8' _ _ hL7
      refine ⟨_, rfl, _, rfl, l2, _, _, _, rfl, rfl, SqL.of hL8, ea, b, _, _, _, rfl, rfl, SqT.of hq7, rfl, _, _, rfl, rfl, (by omega), ?_⟩
      refine ⟨_, rfl, _, rfl, l2, _, _, _, rfl, rfl, SqL.of hL8, ea, b, _, _, _, rfl, rfl, SqT.of hq7, rfl, ?_⟩
      refine ⟨(by show 2 ≤ sizeLine; decide), fun u hu => ?_⟩
      have s9' := same_new hu (.tup [.int ((r.1 + d3) % r.2), .int r.2])
      have hL9 := s9' _ _ hL8
      have hix : ixN (as6.map V.ref).length k = some k.toNat := by
        unfold ixN
        rw [if_pos k0, if_pos (by rw [List.length_map, hal6]; omega)]
      refine ⟨_, rfl, _, rfl, l2, _, _, k.toNat, rfl, rfl, hL9, hix, _, rfl, ?_⟩
      have hP9 : Paired (TupAt (upd H7 u (.tup [.int ((r.1 + d3) % r.2), .int r.2]))) as6 rs := Paired.mapP hP6 fun b p z => s9' _ _ (s8' _ _ (sk _ _ z))
      have hu9 : TupAt (upd H7 u (.tup [.int ((r.1 + d3) % r.2), .int r.2])) u ((r.1 + d3) % r.2, r.2) := upd_same
      have hP10 := paired_set hu9 k.toNat hP9
      refine q l2 (rs.set k.toNat ((r.1 + d3) % r.2, r.2)) _ ?_ (by rw [List.length_set]; exact hRl) ⟨as6.set k.toNat u, ?_, ?_⟩ ?_
      · intro p hp
        rcases List.mem_or_eq_of_mem_set hp with z | z
        · exact hR p z
        · rw [z]
          exact ⟨Int.emod_nonneg _ (by omega), Int.emod_lt_of_pos _ (by omega), hrO.2.2⟩
      · rw [upd_same, List.map_set]
      · refine Paired.mapP hP10 fun b p z => ?_
        have z' : upd H7 u (.tup [.int ((r.1 + d3) % r.2), .int r.2]) b = some (.tup [.int p.1, .int p.2]) := z
        show upd _ l2 _ b = _
        rw [upd_ne]
        · exact z'
        · rintro rfl
          rw [hL9] at z'
          cases z'
      · intro b o e
        rw [upd_ne (ne_of_none e hF)]
        exact (s8.trans s9') b o e
end
end W01

set_option Elab.async false
set_option linter.all false
set_option maxRecDepth 100000
namespace W01
open PySem L2
section
variable {P : Program} {w : World} {K : PySem.W.Frag} {mg : Str → Option Value} {base : Heap} {A : Adr}
def sp_law_numbers : Sp := fun vs H Q _ => ∃ (a : Addr) (ns : List Int), vs = [.ref a] ∧ LstAt H a ns ∧ ns.length ≤ 1000 ∧ ∀ H', Same H H' → Q (.bl true) H'
theorem ok_law_numbers (T : Txt K mg A) : FnOk P w K mg base CX0 3 A.a__law_numbers A.d__law_numbers ["_law_found"] sp_law_numbers := by
  have G__law_whole := ok_law_whole (P := P) (w := w) (base := base) T
  refine T.F__law_numbers.ok sc__law_numbers (fun vs H Q E h => ?_) (fun cdv Ar outer s H vs Q E hr h => ?_)
  · obtain ⟨a, ns, rfl, _⟩ := h
    rfl
  obtain ⟨a, ns, rfl, ha, hlen, q⟩ := h
  refine ⟨_, (@pss_one _ _ _ (@ps_ret _ _ _ _ (@pe_and _ _ _ _ _ _ _ (@pe_callB _ _ _ _ _ _ _ _ _ call_isinst rfl T.b_isinstance B.isinstance (@pa_consN _ _ _ _ _ (@pv _ 0 _ _ (by rfl) (by first | exact Or.inl rfl | exact Or.inr (Or.inl rfl) | exact Or.inr (Or.inr rfl)) (by decide) (by decide)) (@pa_consN _ _ _ _ _ (@pe_bltn _ _ (.ty "list") _ _ rfl T.b_list B.list rfl (by decide) (by decide)) (@pa_nil _) (by rfl)) (by rfl)) (by decide) (by decide) (by rfl) (by rfl)) (@pe_one _ _ _ _ _ (@pe_callB _ _ _ _ _ _ _ _ _ (call_all rfl) rfl T.b_all B.all (@pa_consN _ _ _ _ _ (@pe_comp0 _ _ (["_law_one"]) ([none]) _ _ _ _ _ _ _ _ sc__law_numbers_c1 rfl (@pi_list _ _ _ _ (@pv _ 0 _ _ (by rfl) (by first | exact Or.inl rfl | exact Or.inr (Or.inl rfl) | exact Or.inr (Or.inr rfl)) (by decide) (by decide))) (fun z => (@pg_name _ _ (0) _ sc__law_numbers_c1.nd rfl (Or.inl rfl) (by first | exact .inl rfl | exact .inr rfl | assumption))) (sets_name 0) (by decide) (fun z => (@pe_call _ _ _ _ _ _ _ _ _ _ _ _ _ _ _ _ G__law_whole (hr.mono (by decide)) rfl T.m__law_whole T.k__law_whole T.bi__law_whole .nil pass0 (@pa_consN _ _ _ _ _ (@pv _ 0 _ _ (by rfl) (by first | exact Or.inl rfl | exact Or.inr (Or.inl rfl) | exact Or.inr (Or.inr rfl)) (by decide) (by decide)) (@pa_nil _) (by rfl)) (by decide) (by rfl) (by rfl))) (by intro _; rfl)) (@pa_nil _) (by rfl)) (by decide) (by decide) (by rfl) (by rfl)))))), ?_⟩
  refine ⟨_, rfl, _, _, _, _, _, rfl, TyOf.lst ha, rfl, T.is_list_list, _, rfl, iteT ?_⟩
  refine ⟨_, rfl, a, rfl, ⟨_, ha.ints⟩, comp_list (K := K) (a := a) (xs := ns.map V.int) (fun i ys H' => Same H H' ∧ ys = ((ns.take i).map fun _ => true).map V.bl) ⟨Same.refl _, rfl⟩ (by rw [List.length_map]; exact small100 hlen) ?_ ?_ ?_⟩
  · rintro i ys H' hi ⟨hs, rfl⟩
    rw [List.length_map] at hi
    exact ⟨LstAt.ints (hs _ _ ha), by rw [List.length_map, List.length_map, List.length_take]; omega⟩
  · rintro i x ys H' hx ⟨hs, rfl⟩
    obtain ⟨n, hn, rfl⟩ := ints_get hx
    refine ⟨_, rfl, n, rfl, hs, ?_⟩
    rw [take_snoc hn, List.map_append, List.map_append]
    rfl
  · rintro ys H' ⟨hs, rfl⟩ l hl
    refine ⟨l, (ns.map fun _ => true), rfl, SqL.of (by rw [upd_same, List.length_map, List.take_length]), ?_⟩
    have e : (ns.map fun _ => true).all id = true := by simp
    rw [e]
    exact q _ (hs.trans (same_new hl _))
def sp_due (K : PySem.W.Frag) (A : Adr) : Sp := fun vs H Q _ => ∃ (p a : Addr) (c : Bool) (x y : Int) (rs : List (Int × Int)), vs = [.ref a, .ref p] ∧ ToldAt A H p c x y ∧ PairsAt K H a rs ∧ RsOk rs ∧ rs.length ≤ 1000 ∧ ∀ H', Same H H' → Q (.bl (toldShows c x y rs)) H'
theorem rest_mod {d r t : Int} (h0 : 0 ≤ r) (h1 : r < t) : (d % t = r) ↔ (d - r) % t = 0 := by
  rw [← Int.emod_eq_emod_iff_emod_sub_eq_zero, Int.emod_eq_of_lt h0 h1]
theorem mul_part {w t : Int} (h : (Int.gcd w t : Int) ≠ 0) : w * t / (Int.gcd w t : Int) = w / (Int.gcd w t : Int) * t := by
  obtain ⟨c, hc⟩ : (Int.gcd w t : Int) ∣ w := Int.gcd_dvd_left ..
  generalize (Int.gcd w t : Int) = g at *
  rw [hc, Int.mul_assoc, Int.mul_ediv_cancel_left _ h, Int.mul_ediv_cancel_left _ h]
theorem lcmL_pos' {rs : List (Int × Int)} (hO : RsOk rs) : 0 < lcmL (rs.map (·.2)) := by
  refine lcmL_pos _ 1 (by decide) fun t ht => ?_
  obtain ⟨p, hp, rfl⟩ := List.mem_map.mp ht
  have := hO p hp
  omega
set_option maxHeartbeats 2000000 in
theorem ok_law_due (T : Txt K mg A) : FnOk P w K mg base CX0 2 A.a__law_due A.d__law_due ["_law_rests_here", "_law_found"] (sp_due K A) := by
  have G__law_part := ok_law_part (P := P) (w := w) (base := base) T
  refine T.F__law_due.ok sc__law_due (fun vs H Q E h => ?_) (fun cdv Ar outer s H vs Q E hr h => ?_)
  · obtain ⟨p, a, c, x, y, rs, rfl, _⟩ := h
    rfl
  obtain ⟨p, a, c, x, y, rs, rfl, hC, hR, hO, hL, q⟩ := h
  obtain ⟨as, hS, hPd⟩ := id hR
  have hlen := hPd.length
  refine ⟨_, (@pss_cons _ _ _ _ _ (@ps_if _ _ _ _ _ _ _ _ (@pt_val _ _ _ (@pe_callB _ _ _ _ _ _ _ _ _ call_isinst rfl T.b_isinstance B.isinstance (@pa_consN _ _ _ _ _ (@pv _ 1 _ _ (by rfl) (by first | exact Or.inl rfl | exact Or.inr (Or.inl rfl) | exact Or.inr (Or.inr rfl)) (by decide) (by decide)) (@pa_consN _ _ _ _ _ (@pe_glob _ _ (.ref _) _ _ rfl T.m_Clash rfl (by decide)) (@pa_nil _) (by rfl)) (by rfl)) (by decide) (by decide) (by rfl) (by rfl)) (by intro _; rfl)) (@pss_cons _ _ _ _ _ (@ps_if _ _ _ _ _ _ _ _ (@pt_not _ _ _ _ (@pt_chain3 _ _ _ _ _ _ _ _ _ _ _ _ _ _ _ _ op_le op_lt op_lt (@pe_int _ _ _ _) (@pe_fld _ _ _ _ _ (@pv _ 1 _ _ (by rfl) (by first | exact Or.inl rfl | exact Or.inr (Or.inl rfl) | exact Or.inr (Or.inr rfl)) (by decide) (by decide)) (by rfl)) (@pe_fld _ _ _ _ _ (@pv _ 1 _ _ (by rfl) (by first | exact Or.inl rfl | exact Or.inr (Or.inl rfl) | exact Or.inr (Or.inr rfl)) (by decide) (by decide)) (by rfl)) (@pe_callB _ _ _ _ _ _ _ _ _ call_len_seq rfl T.b_len B.len (@pa_consN _ _ _ _ _ (@pv _ 0 _ _ (by rfl) (by first | exact Or.inl rfl | exact Or.inr (Or.inl rfl) | exact Or.inr (Or.inr rfl)) (by decide) (by decide)) (@pa_nil _) (by rfl)) (by decide) (by decide) (by rfl) (by rfl)) (by with_unfolding_all rfl))) (@pss_one _ _ _ (@ps_ret _ _ _ _ (@pe_bl _ _ _ _))) (@pss_nil _)) (@pss_cons _ _ _ _ _ (@ps_par _ _ (2) (3) _ _ _ _ _ _ _ _ _ _ _ rfl sc__law_due.nd rfl rfl (by decide) rfl rfl (@pa_consN _ _ _ _ _ (@pe_ix _ _ _ _ _ _ _ ix_list (@pv _ 0 _ _ (by rfl) (by first | exact Or.inl rfl | exact Or.inr (Or.inl rfl) | exact Or.inr (Or.inr rfl)) (by decide) (by decide)) (@pe_fld _ _ _ _ _ (@pv _ 1 _ _ (by rfl) (by first | exact Or.inl rfl | exact Or.inr (Or.inl rfl) | exact Or.inr (Or.inr rfl)) (by decide) (by decide)) (by rfl)) (fun _ _ => rfl)) (@pa_consN _ _ _ _ _ (@pe_ix _ _ _ _ _ _ _ ix_list (@pv _ 0 _ _ (by rfl) (by first | exact Or.inl rfl | exact Or.inr (Or.inl rfl) | exact Or.inr (Or.inr rfl)) (by decide) (by decide)) (@pe_fld _ _ _ _ _ (@pv _ 1 _ _ (by rfl) (by first | exact Or.inl rfl | exact Or.inr (Or.inl rfl) | exact Or.inr (Or.inr rfl)) (by decide) (by decide)) (by rfl)) (fun _ _ => rfl)) (@pa_nil _) (by rfl)) (by rfl)) rfl (by rfl)) (@pss_one _ _ _ (@ps_ret _ _ _ _ (@pe_cmpR _ _ _ _ _ _ _ _ op_neI (@pe_op _ _ _ _ _ _ _ _ op_mod (@pe_op _ _ _ _ _ _ _ _ op_sub (@pe_ix _ _ _ _ _ _ _ ix_tup (@pv _ 2 _ _ (by rfl) (by first | exact Or.inl rfl | exact Or.inr (Or.inl rfl) | exact Or.inr (Or.inr rfl)) (by decide) (by decide)) (@pe_int _ _ _ _) (fun _ _ => rfl)) (@pe_ix _ _ _ _ _ _ _ ix_tup (@pv _ 3 _ _ (by rfl) (by first | exact Or.inl rfl | exact Or.inr (Or.inl rfl) | exact Or.inr (Or.inr rfl)) (by decide) (by decide)) (@pe_int _ _ _ _) (fun _ _ => rfl))) (@pe_call _ _ _ _ _ _ _ _ _ _ _ _ _ _ _ _ G__law_part (hr.mono (by decide)) rfl T.m__law_part T.k__law_part T.bi__law_part .nil pass0 (@pa_consN _ _ _ _ _ (@pe_ix _ _ _ _ _ _ _ ix_tup (@pv _ 2 _ _ (by rfl) (by first | exact Or.inl rfl | exact Or.inr (Or.inl rfl) | exact Or.inr (Or.inr rfl)) (by decide) (by decide)) (@pe_int _ _ _ _) (fun _ _ => rfl)) (@pa_consN _ _ _ _ _ (@pe_ix _ _ _ _ _ _ _ ix_tup (@pv _ 3 _ _ (by rfl) (by first | exact Or.inl rfl | exact Or.inr (Or.inl rfl) | exact Or.inr (Or.inr rfl)) (by decide) (by decide)) (@pe_int _ _ _ _) (fun _ _ => rfl)) (@pa_nil _) (by rfl)) (by rfl)) (by decide) (by rfl) (by rfl))) (@pe_int _ _ _ _) (nomark _)))))) (@pss_nil _)) (@pss_cons _ _ _ _ _ (@ps_set _ _ (4) _ _ _ _ sc__law_due.nd rfl (Or.inl rfl) (@pe_int _ _ _ _) (by rfl) (by first | exact .inl rfl | exact .inr rfl | assumption)) (@pss_cons _ _ _ _ _ (@ps_for _ _ _ _ _ _ _ _ PassesOwn.never rfl (@pi_list _ _ _ _ (@pv _ 0 _ _ (by rfl) (by first | exact Or.inl rfl | exact Or.inr (Or.inl rfl) | exact Or.inr (Or.inr rfl)) (by decide) (by decide))) (@pg_tup _ _ _ _ _ (2) rfl (@pgs_cons _ _ _ _ _ (@pg_name _ _ (5) _ sc__law_due.nd rfl (Or.inl rfl) (by first | exact .inl rfl | exact .inr rfl | assumption)) (@pgs_cons _ _ _ _ _ (@pg_name _ _ (6) _ sc__law_due.nd rfl (Or.inl rfl) (by first | exact .inl rfl | exact .inr rfl | assumption)) (@pgs_nil _) (by rfl)) (by rfl)) (by rfl) (by rfl)) (@pss_one _ _ _ (@ps_set _ _ (4) _ _ _ _ sc__law_due.nd rfl (Or.inl rfl) (@pe_op _ _ _ _ _ _ _ _ op_fdiv (@pe_op _ _ _ _ _ _ _ _ op_mul (@pv _ 4 _ _ (by rfl) (by first | exact Or.inl rfl | exact Or.inr (Or.inl rfl) | exact Or.inr (Or.inr rfl)) (by decide) (by decide)) (@pv _ 6 _ _ (by rfl) (by first | exact Or.inl rfl | exact Or.inr (Or.inl rfl) | exact Or.inr (Or.inr rfl)) (by decide) (by decide))) (@pe_call _ _ _ _ _ _ _ _ _ _ _ _ _ _ _ _ G__law_part (hr.mono (by decide)) rfl T.m__law_part T.k__law_part T.bi__law_part .nil pass0 (@pa_consN _ _ _ _ _ (@pv _ 4 _ _ (by rfl) (by first | exact Or.inl rfl | exact Or.inr (Or.inl rfl) | exact Or.inr (Or.inr rfl)) (by decide) (by decide)) (@pa_consN _ _ _ _ _ (@pv _ 6 _ _ (by rfl) (by first | exact Or.inl rfl | exact Or.inr (Or.inl rfl) | exact Or.inr (Or.inr rfl)) (by decide) (by decide)) (@pa_nil _) (by rfl)) (by rfl)) (by decide) (by rfl) (by rfl))) (by rfl) (by first | exact .inl rfl | exact .inr rfl | assumption))) (by intro _; rfl)) (@pss_cons _ _ _ _ _ (@ps_if _ _ _ _ _ _ _ _ (@PW.pt _ _ _ (@pw_or _ _ _ _ _ _ _ (@pt_cmpR _ _ _ _ _ _ _ _ op_neI (@pe_fld _ _ _ _ _ (@pv _ 1 _ _ (by rfl) (by first | exact Or.inl rfl | exact Or.inr (Or.inl rfl) | exact Or.inr (Or.inr rfl)) (by decide) (by decide)) (by rfl)) (@pv _ 4 _ _ (by rfl) (by first | exact Or.inl rfl | exact Or.inr (Or.inl rfl) | exact Or.inr (Or.inr rfl)) (by decide) (by decide)) (nomark _)) (@pw_or1 _ _ _ _ (@pt_not _ _ _ _ (@pt_chain _ _ _ _ _ _ _ _ _ _ _ _ op_le op_lt (@pe_int _ _ _ _) (@pe_fld _ _ _ _ _ (@pv _ 1 _ _ (by rfl) (by first | exact Or.inl rfl | exact Or.inr (Or.inl rfl) | exact Or.inr (Or.inr rfl)) (by decide) (by decide)) (by rfl)) (@pv _ 4 _ _ (by rfl) (by first | exact Or.inl rfl | exact Or.inr (Or.inl rfl) | exact Or.inr (Or.inr rfl)) (by decide) (by decide)) (by with_unfolding_all rfl)))))) (@pss_one _ _ _ (@ps_ret _ _ _ _ (@pe_bl _ _ _ _))) (@pss_nil _)) (@pss_one _ _ _ (@ps_ret _ _ _ _ (@pe_callB _ _ _ _ _ _ _ _ _ (call_all rfl) rfl T.b_all B.all (@pa_consN _ _ _ _ _ (@pe_comp0 _ _ (["_law_found", "_law_rest", "_law_turn"]) ([some 1, none, none]) _ _ _ _ _ _ _ _ sc__law_due_c1 rfl (@pi_list _ _ _ _ (@pv _ 0 _ _ (by rfl) (by first | exact Or.inl rfl | exact Or.inr (Or.inl rfl) | exact Or.inr (Or.inr rfl)) (by decide) (by decide))) (fun z => (@pg_tup _ _ _ _ _ (2) rfl (@pgs_cons _ _ _ _ _ (@pg_name _ _ (1) _ sc__law_due_c1.nd rfl (Or.inl rfl) (by first | exact .inl rfl | exact .inr rfl | assumption)) (@pgs_cons _ _ _ _ _ (@pg_name _ _ (2) _ sc__law_due_c1.nd rfl (Or.inl rfl) (by first | exact .inl rfl | exact .inr rfl | assumption)) (@pgs_nil _) (by rfl)) (by rfl)) (by rfl) (by rfl))) (sets_two _ _ 1 2) (by decide) (fun z => (@pe_cmpR _ _ _ _ _ _ _ _ op_eqI (@pe_op _ _ _ _ _ _ _ _ op_mod (@pe_fldK _ (K) _ _ _ _ (@pv _ 0 _ _ (by rfl) (by first | exact Or.inl rfl | exact Or.inr (Or.inl rfl) | exact Or.inr (Or.inr rfl)) (by decide) (by decide)) (by rfl) (by rfl)) (@pv _ 2 _ _ (by rfl) (by first | exact Or.inl rfl | exact Or.inr (Or.inl rfl) | exact Or.inr (Or.inr rfl)) (by decide) (by decide))) (@pv _ 1 _ _ (by rfl) (by first | exact Or.inl rfl | exact Or.inr (Or.inl rfl) | exact Or.inr (Or.inr rfl)) (by decide) (by decide)) (nomark _))) (by intro _; rfl)) (@pa_nil _) (by rfl)) (by decide) (by decide) (by rfl) (by rfl)))))))), ?_⟩
  cases c with
  | true =>
    obtain ⟨dx, hp⟩ : ObjAt H p A.c_Clash [("one", .int x), ("other", .int y)] := hC
    have ty := T.ty_Clash H p dx _ hp
    have q : ∀ H', Same H H' → Q (.bl (clashShows x y rs)) H' := q
    have no : clashShows x y rs = false → Q (.bl false) H := fun e => by
      have z := q H (Same.refl H)
      rw [e] at z
      exact z
    refine ⟨_, rfl, _, _, _, _, _, rfl, ty, rfl, T.is_Clash_Clash, _, rfl, iteT ?_⟩
    refine ⟨_, rfl, p, A.c_Clash, dx, _, _, rfl, hp, T.cl_Clash, T.na_Clash_one, rfl, _, _, rfl, rfl, _, rfl, ?_⟩
    by_cases h1 : 0 ≤ x
    case neg =>
      rw [decF h1]
      exact iteF ⟨_, rfl, iteT (no (by unfold clashShows; rw [decF h1]; rfl))⟩
    rw [decT h1]
    refine iteT ⟨_, rfl, p, A.c_Clash, dx, _, _, rfl, hp, T.cl_Clash, T.na_Clash_other, rfl, _, _, rfl, rfl, _, rfl, ?_⟩
    by_cases h2 : x < y
    case neg =>
      rw [decF h2]
      exact iteF ⟨_, rfl, iteT (no (by unfold clashShows; rw [decF h2]; simp))⟩
    rw [decT h2]
    refine iteT ⟨_, rfl, a, _, rfl, .inl hS, _, _, rfl, rfl, _, rfl, ?_⟩
    have hll : (((as.map V.ref).length : Nat) : Int) = (rs.length : Int) := by rw [List.length_map, hlen]
    rw [hll]
    by_cases h3 : y < (rs.length : Int)
    case neg =>
      rw [decF h3]
      exact iteT (no (by unfold clashShows; rw [decF h3]; simp))
    rw [decT h3]
    refine iteF ?_
    obtain ⟨b1, r1, e1, f1, t1⟩ := pairs_at hPd h1 (by omega)
    obtain ⟨b2, r2, e2, f2, t2⟩ := pairs_at hPd (show 0 ≤ y by omega) h3
    have o1 := hO r1 (List.mem_of_getElem? f1)
    have o2 := hO r2 (List.mem_of_getElem? f2)
    refine ⟨_, rfl, _, rfl, p, A.c_Clash, dx, _, _, rfl, hp, T.cl_Clash, T.na_Clash_one, rfl, a, _, _, _, rfl, rfl, hS, e1, ?_⟩
    refine ⟨_, rfl, _, rfl, p, A.c_Clash, dx, _, _, rfl, hp, T.cl_Clash, T.na_Clash_other, rfl, a, _, _, _, rfl, rfl, hS, e2, _, _, rfl, ?_⟩
    have hg0 : (0 : Int) < (Int.gcd r1.2 r2.2 : Int) := (gcd_small (w := r1.2) (t := r2.2) (by omega)).1
    refine ⟨_, rfl, b1, _, _, _, rfl, rfl, t1, rfl, _, rfl, b2, _, _, _, rfl, rfl, t2, rfl, _, _, rfl, rfl, _, rfl, b1, _, _, _, rfl, rfl, t1, rfl, _, rfl, b2, _, _, _, rfl, rfl, t2, rfl, _, _, rfl, _, _, rfl, rfl, hg0, _, _, rfl, rfl, ?_⟩
    have z := q _ (Same.refl H)
    have e : clashShows x y rs = !decide ((r1.1 - r2.1) % (Int.gcd r1.2 r2.2 : Int) = 0) := by
      unfold clashShows
      rw [decT h1, decT h2, decT h3, f1, f2]
      rfl
    rw [e] at z
    exact z
  | false =>
    obtain ⟨dx, hp⟩ : ObjAt H p A.c_Number [("number", .int x), ("turn", .int y)] := hC
    have ty := T.ty_Number H p dx _ hp
    have q : ∀ H', Same H H' → Q (.bl (numShows x y rs)) H' := q
    have no : numShows x y rs = false → Q (.bl false) H := fun e => by
      have z := q H (Same.refl H)
      rw [e] at z
      exact z
    refine ⟨_, rfl, _, _, _, _, _, rfl, ty, rfl, T.is_Number_Clash, _, rfl, iteF ?_⟩
    refine ⟨_, rfl, a, rfl, ⟨_, hS⟩, for_list (K := K) (a := a) (xs := as.map V.ref) (fun i σ H' => H' = H ∧ ∃ (f1 f2 f3 f4 : Option V), σ = [some (.ref a), some (.ref p), f1, f2, some (.int (lcmL ((rs.take i).map (·.2)))), f3, f4]) ⟨rfl, _, _, _, _, rfl⟩ (fun i σ H' _ ⟨e, _⟩ => e ▸ hS) ?_ ?_⟩
    · rintro i v σ H' hi ⟨rfl, f1, f2, f3, f4, rfl⟩
      obtain ⟨b, r, rfl, hb, hr', hq⟩ := pairs_get hPd hi
      have ho := hO r (List.mem_of_getElem? hr')
      have hpos := lcmL_pos' (rs := rs.take i) fun z hz => hO z (List.mem_of_mem_take hz)
      have hg := gcd_small (w := lcmL ((rs.take i).map (·.2))) (t := r.2) (by omega)
      refine ⟨b, _, rfl, hq, rfl, _, _, rfl, _, _, rfl, rfl, ?_⟩
      refine ⟨_, rfl, _, rfl, _, _, rfl, rfl, .inr ⟨by omega, by omega⟩, _, rfl, _, rfl, _, _, rfl, _, _, rfl, rfl, ⟨by omega, by omega⟩, rfl, f1, f2, some (.int r.1), some (.int r.2), ?_⟩
      rw [take_snoc hr', List.map_append]
      show _ = [some (V.ref a), some (V.ref p), f1, f2, some (V.int (lcmL ((rs.take i).map (·.2) ++ [r.2]))), some (.int r.1), some (.int r.2)]
      rw [← lcmL_snoc, ← mul_part (by omega)]
      rfl
    · rintro σ H' ⟨rfl, f1, f2, f3, f4, rfl⟩
      rw [List.length_map, hlen, List.take_length]
      have hpos := lcmL_pos' hO
      refine ⟨_, rfl, p, A.c_Number, dx, _, _, rfl, hp, T.cl_Number, T.na_Number_turn, rfl, _, rfl, _, _, rfl, rfl, _, rfl, ?_⟩
      by_cases h1 : y = lcmL (rs.map (·.2))
      case neg =>
        rw [decF h1]
        refine iteT (iteT (no ?_))
        unfold numShows
        rw [decF h1]
        simp
      rw [decT h1]
      refine iteF ⟨_, rfl, p, A.c_Number, dx, _, _, rfl, hp, T.cl_Number, T.na_Number_number, rfl, _, _, rfl, rfl, _, rfl, ?_⟩
      by_cases h2 : 0 ≤ x
      case neg =>
        rw [decF h2]
        refine iteF ⟨_, rfl, iteT (no ?_)⟩
        unfold numShows
        rw [decF h2]
        rfl
      rw [decT h2]
      refine iteT ⟨_, rfl, _, _, rfl, rfl, _, rfl, ?_⟩
      by_cases h3 : x < lcmL (rs.map (·.2))
      case neg =>
        rw [decF h3]
        refine iteT (no ?_)
        unfold numShows
        rw [decF (show ¬ x < y by omega)]
        simp
      rw [decT h3]
      refine iteF ?_
      refine ⟨_, rfl, a, rfl, ⟨_, hS⟩, comp_list (K := K) (a := a) (xs := as.map V.ref) (fun i ys H2 => H2 = H' ∧ ys = ((rs.take i).map fun p => decide (x % p.2 = p.1)).map V.bl) ⟨rfl, rfl⟩ (by rw [List.length_map]; exact small100 (by omega)) ?_ ?_ ?_⟩
      · rintro i ys H2 hi ⟨rfl, rfl⟩
        rw [List.length_map] at hi
        exact ⟨hS, by rw [List.length_map, List.length_map, List.length_take]; omega⟩
      · rintro i v ys H2 hx ⟨rfl, rfl⟩
        obtain ⟨b, r, rfl, hb, hr', hq⟩ := pairs_get hPd hx
        have ho := hO r (List.mem_of_getElem? hr')
        refine ⟨b, _, rfl, hq, rfl, _, _, rfl, _, _, rfl, rfl, _, rfl, p, A.c_Number, dx, _, _, rfl, hp, T.cl_Number, T.na_Number_number, rfl, _, rfl, _, _, rfl, rfl, (by omega), _, rfl, _, _, rfl, rfl, rfl, ?_⟩
        rw [take_snoc hr', List.map_append, List.map_append]
        rfl
      · rintro ys H2 ⟨rfl, rfl⟩ l hl
        refine ⟨l, (rs.map fun p => decide (x % p.2 = p.1)), rfl, SqL.of (by rw [upd_same, List.length_map, hlen, List.take_length]), ?_⟩
        have z := q _ (same_new hl (.lst ((((rs.take (as.map V.ref).length).map fun p => decide (x % p.2 = p.1))).map V.bl)))
        have e : numShows x y rs = (rs.map fun p => decide (x % p.2 = p.1)).all id := by
          unfold numShows
          rw [decT h2, decT (show x < y by omega), decT h1, List.all_map]
          have : (rs.all fun p => decide ((x - p.1) % p.2 = 0)) = rs.all (id ∘ fun p => decide (x % p.2 = p.1)) := by
            apply Bool.eq_iff_iff.mpr
            rw [List.all_eq_true, List.all_eq_true]
            constructor
            · intro hh r hr2
              have ho := hO r hr2
              have := hh r hr2
              simp only [decide_eq_true_eq] at this
              simp only [Function.comp, id, decide_eq_true_eq]
              exact (rest_mod ho.1 ho.2.1).mpr this
            · intro hh r hr2
              have ho := hO r hr2
              have := hh r hr2
              simp only [Function.comp, id, decide_eq_true_eq] at this
              simp only [decide_eq_true_eq]
              exact (rest_mod ho.1 ho.2.1).mp this
          rw [this]
          simp
        rw [e] at z
        exact z
end
end W01

set_option Elab.async false
set_option linter.all false
set_option maxRecDepth 100000
namespace W01
open PySem L2
section
variable {P : Program} {w : World} {K : PySem.W.Frag} {mg : Str → Option Value} {base : Heap} {A : Adr}
theorem ToldAt.same {H H' : Hp} {p : Addr} {c : Bool} {x y : Int} (e : Same H H') (h : ToldAt A H p c x y) : ToldAt A H' p c x y := by
  cases c with
  | true => obtain ⟨dx, h⟩ := (show ObjAt H p A.c_Clash [("one", .int x), ("other", .int y)] from h); exact ⟨dx, e _ _ h⟩
  | false => obtain ⟨dx, h⟩ := (show ObjAt H p A.c_Number [("number", .int x), ("turn", .int y)] from h); exact ⟨dx, e _ _ h⟩
def sp_right (K : PySem.W.Frag) (A : Adr) : Sp := fun vs H Q _ => ∃ (p a : Addr) (c : Bool) (x y : Int) (rs : List (Int × Int)), vs = [.ref a, .ref p] ∧ ToldAt A H p c x y ∧ PrsAt H a rs ∧ RsOk rs ∧ rs.length ≤ 1000 ∧ toldShows c x y rs = true ∧ ∀ H', Same H H' → Q (.bl true) H'
set_option maxHeartbeats 4000000 in
theorem ok_law_right (T : Txt K mg A) : FnOk P w K mg base CX0 4 A.a__law_right A.d__law_right ["_law_rests_here", "_law_found"] (sp_right K A) := by
  have G__law_numbers := ok_law_numbers (P := P) (w := w) (base := base) T
  have G__law_due := ok_law_due (P := P) (w := w) (base := base) T
  have G_Clash_shows := ok_Clash_shows (P := P) (w := w) (base := base) T
  have G_Number_shows := ok_Number_shows (P := P) (w := w) (base := base) T
  refine T.F__law_right.ok sc__law_right (fun vs H Q E h => ?_) (fun cdv Ar outer s H vs Q E hr h => ?_)
  · obtain ⟨p, a, c, x, y, rs, rfl, _⟩ := h
    rfl
  obtain ⟨p, a, c, x, y, rs, rfl, hC, hR, hO, hL, hSh, q⟩ := h
  refine ⟨_, (@pss_cons _ _ _ _ _ (@ps_if _ _ _ _ _ _ _ _ (@PW.pt _ _ _ (@pw_or _ _ _ _ _ _ _ (@pt_not _ _ _ _ (@pt_val _ _ _ (@pe_callB _ _ _ _ _ _ _ _ _ call_isinst rfl T.b_isinstance B.isinstance (@pa_consN _ _ _ _ _ (@pv _ 1 _ _ (by rfl) (by first | exact Or.inl rfl | exact Or.inr (Or.inl rfl) | exact Or.inr (Or.inr rfl)) (by decide) (by decide)) (@pa_consN _ _ _ _ _ (@pe_glob _ _ (.ref _) _ _ rfl T.m_Answer rfl (by decide)) (@pa_nil _) (by rfl)) (by rfl)) (by decide) (by decide) (by rfl) (by rfl)) (by intro _; rfl))) (@pw_or1 _ _ _ _ (@pt_cmpR _ _ _ _ _ _ _ _ op_eqB (@pe_callB _ _ _ _ _ _ _ _ _ call_isinst rfl T.b_isinstance B.isinstance (@pa_consN _ _ _ _ _ (@pv _ 1 _ _ (by rfl) (by first | exact Or.inl rfl | exact Or.inr (Or.inl rfl) | exact Or.inr (Or.inr rfl)) (by decide) (by decide)) (@pa_consN _ _ _ _ _ (@pe_glob _ _ (.ref _) _ _ rfl T.m_Number rfl (by decide)) (@pa_nil _) (by rfl)) (by rfl)) (by decide) (by decide) (by rfl) (by rfl)) (@pe_callB _ _ _ _ _ _ _ _ _ call_isinst rfl T.b_isinstance B.isinstance (@pa_consN _ _ _ _ _ (@pv _ 1 _ _ (by rfl) (by first | exact Or.inl rfl | exact Or.inr (Or.inl rfl) | exact Or.inr (Or.inr rfl)) (by decide) (by decide)) (@pa_consN _ _ _ _ _ (@pe_glob _ _ (.ref _) _ _ rfl T.m_Clash rfl (by decide)) (@pa_nil _) (by rfl)) (by rfl)) (by decide) (by decide) (by rfl) (by rfl)) (nomark _))))) (@pss_one _ _ _ (@ps_ret _ _ _ _ (@pe_bl _ _ _ _))) (@pss_nil _)) (@pss_cons _ _ _ _ _ (@ps_set _ _ (2) _ _ _ _ sc__law_right.nd rfl (Or.inl rfl) (@pe_lst _ _ _ _ (@pa_consN _ _ _ _ _ (@pe_callB _ _ _ _ _ _ _ _ _ call_isinst rfl T.b_isinstance B.isinstance (@pa_consN _ _ _ _ _ (@pv _ 1 _ _ (by rfl) (by first | exact Or.inl rfl | exact Or.inr (Or.inl rfl) | exact Or.inr (Or.inr rfl)) (by decide) (by decide)) (@pa_consN _ _ _ _ _ (@pe_glob _ _ (.ref _) _ _ rfl T.m_Common rfl (by decide)) (@pa_nil _) (by rfl)) (by rfl)) (by decide) (by decide) (by rfl) (by rfl)) (@pa_consN _ _ _ _ _ (@pe_callB _ _ _ _ _ _ _ _ _ call_isinst rfl T.b_isinstance B.isinstance (@pa_consN _ _ _ _ _ (@pv _ 1 _ _ (by rfl) (by first | exact Or.inl rfl | exact Or.inr (Or.inl rfl) | exact Or.inr (Or.inr rfl)) (by decide) (by decide)) (@pa_consN _ _ _ _ _ (@pe_glob _ _ (.ref _) _ _ rfl T.m_Times rfl (by decide)) (@pa_nil _) (by rfl)) (by rfl)) (by decide) (by decide) (by rfl) (by rfl)) (@pa_consN _ _ _ _ _ (@pe_callB _ _ _ _ _ _ _ _ _ call_isinst rfl T.b_isinstance B.isinstance (@pa_consN _ _ _ _ _ (@pv _ 1 _ _ (by rfl) (by first | exact Or.inl rfl | exact Or.inr (Or.inl rfl) | exact Or.inr (Or.inr rfl)) (by decide) (by decide)) (@pa_consN _ _ _ _ _ (@pe_glob _ _ (.ref _) _ _ rfl T.m_Bar rfl (by decide)) (@pa_nil _) (by rfl)) (by rfl)) (by decide) (by decide) (by rfl) (by rfl)) (@pa_consN _ _ _ _ _ (@pe_callB _ _ _ _ _ _ _ _ _ call_isinst rfl T.b_isinstance B.isinstance (@pa_consN _ _ _ _ _ (@pv _ 1 _ _ (by rfl) (by first | exact Or.inl rfl | exact Or.inr (Or.inl rfl) | exact Or.inr (Or.inr rfl)) (by decide) (by decide)) (@pa_consN _ _ _ _ _ (@pe_glob _ _ (.ref _) _ _ rfl T.m_Back rfl (by decide)) (@pa_nil _) (by rfl)) (by rfl)) (by decide) (by decide) (by rfl) (by rfl)) (@pa_nil _) (by rfl)) (by rfl)) (by rfl)) (by rfl))) (by rfl) (by first | exact .inl rfl | exact .inr rfl | assumption)) (@pss_cons _ _ _ _ _ (@ps_if _ _ _ _ _ _ _ _ (@pt_val _ _ _ (@pe_callB _ _ _ _ _ _ _ _ _ (call_any rfl) rfl T.b_any B.any (@pa_consN _ _ _ _ _ (@pv _ 2 _ _ (by rfl) (by first | exact Or.inl rfl | exact Or.inr (Or.inl rfl) | exact Or.inr (Or.inr rfl)) (by decide) (by decide)) (@pa_nil _) (by rfl)) (by decide) (by decide) (by rfl) (by rfl)) (by intro _; rfl)) (@pss_one _ _ _ (@ps_ret _ _ _ _ (@pe_bl _ _ _ _))) (@pss_nil _)) (@pss_cons _ _ _ _ _ (@ps_set _ _ (3) _ _ _ _ sc__law_right.nd rfl (Or.inl rfl) (@pe_ifExp _ _ _ _ _ _ _ _ (@pt_val _ _ _ (@pe_callB _ _ _ _ _ _ _ _ _ call_isinst rfl T.b_isinstance B.isinstance (@pa_consN _ _ _ _ _ (@pv _ 1 _ _ (by rfl) (by first | exact Or.inl rfl | exact Or.inr (Or.inl rfl) | exact Or.inr (Or.inr rfl)) (by decide) (by decide)) (@pa_consN _ _ _ _ _ (@pe_glob _ _ (.ref _) _ _ rfl T.m_Clash rfl (by decide)) (@pa_nil _) (by rfl)) (by rfl)) (by decide) (by decide) (by rfl) (by rfl)) (by intro _; rfl)) (@pe_lst _ _ _ _ (@pa_consN _ _ _ _ _ (@pe_fld _ _ _ _ _ (@pv _ 1 _ _ (by rfl) (by first | exact Or.inl rfl | exact Or.inr (Or.inl rfl) | exact Or.inr (Or.inr rfl)) (by decide) (by decide)) (by rfl)) (@pa_consN _ _ _ _ _ (@pe_fld _ _ _ _ _ (@pv _ 1 _ _ (by rfl) (by first | exact Or.inl rfl | exact Or.inr (Or.inl rfl) | exact Or.inr (Or.inr rfl)) (by decide) (by decide)) (by rfl)) (@pa_nil _) (by rfl)) (by rfl))) (@pe_lst _ _ _ _ (@pa_consN _ _ _ _ _ (@pe_fld _ _ _ _ _ (@pv _ 1 _ _ (by rfl) (by first | exact Or.inl rfl | exact Or.inr (Or.inl rfl) | exact Or.inr (Or.inr rfl)) (by decide) (by decide)) (by rfl)) (@pa_consN _ _ _ _ _ (@pe_fld _ _ _ _ _ (@pv _ 1 _ _ (by rfl) (by first | exact Or.inl rfl | exact Or.inr (Or.inl rfl) | exact Or.inr (Or.inr rfl)) (by decide) (by decide)) (by rfl)) (@pa_nil _) (by rfl)) (by rfl)))) (by rfl) (by first | exact .inl rfl | exact .inr rfl | assumption)) (@pss_one _ _ _ (@ps_ret _ _ _ _ (@pe_and _ _ _ _ _ _ _ (@pe_call _ _ _ _ _ _ _ _ _ _ _ _ _ _ _ _ G__law_numbers (hr.mono (by decide)) rfl T.m__law_numbers T.k__law_numbers T.bi__law_numbers .nil pass0 (@pa_consN _ _ _ _ _ (@pv _ 3 _ _ (by rfl) (by first | exact Or.inl rfl | exact Or.inr (Or.inl rfl) | exact Or.inr (Or.inr rfl)) (by decide) (by decide)) (@pa_nil _) (by rfl)) (by decide) (by rfl) (by rfl)) (@pe_and _ _ _ _ _ _ _ (@pe_call _ _ _ _ _ _ _ _ _ _ _ _ _ _ _ _ G__law_due (hr.mono (by decide)) rfl T.m__law_due T.k__law_due T.bi__law_due .nil pass0 (@pa_consN _ _ _ _ _ (@pv _ 0 _ _ (by rfl) (by first | exact Or.inl rfl | exact Or.inr (Or.inl rfl) | exact Or.inr (Or.inr rfl)) (by decide) (by decide)) (@pa_consN _ _ _ _ _ (@pv _ 1 _ _ (by rfl) (by first | exact Or.inl rfl | exact Or.inr (Or.inl rfl) | exact Or.inr (Or.inr rfl)) (by decide) (by decide)) (@pa_nil _) (by rfl)) (by rfl)) (by decide) (by rfl) (by rfl)) (@pe_one _ _ _ _ _ (@pe_cmpR _ _ _ _ _ _ _ _ op_is_bl (@pe_alt _ _ _ _ (@pe_meth _ _ _ _ _ _ _ _ _ _ _ _ _ _ _ _ _ _ _ _ (@pv _ 1 _ _ (by rfl) (by first | exact Or.inl rfl | exact Or.inr (Or.inl rfl) | exact Or.inr (Or.inr rfl)) (by decide) (by decide)) T.cl_Number T.me_Number_shows G_Number_shows (hr.mono (by decide)) T.bi_Number_shows .nil pass0 (@pa_consN _ _ _ _ _ (@pv _ 0 _ _ (by rfl) (by first | exact Or.inl rfl | exact Or.inr (Or.inl rfl) | exact Or.inr (Or.inr rfl)) (by decide) (by decide)) (@pa_nil _) (by rfl)) (by rfl) (by rfl) (by rfl)) (@pe_meth _ _ _ _ _ _ _ _ _ _ _ _ _ _ _ _ _ _ _ _ (@pv _ 1 _ _ (by rfl) (by first | exact Or.inl rfl | exact Or.inr (Or.inl rfl) | exact Or.inr (Or.inr rfl)) (by decide) (by decide)) T.cl_Clash T.me_Clash_shows G_Clash_shows (hr.mono (by decide)) T.bi_Clash_shows .nil pass0 (@pa_consN _ _ _ _ _ (@pv _ 0 _ _ (by rfl) (by first | exact Or.inl rfl | exact Or.inr (Or.inl rfl) | exact Or.inr (Or.inr rfl)) (by decide) (by decide)) (@pa_nil _) (by rfl)) (by rfl) (by rfl) (by rfl))) (@pe_bl _ _ _ _) (nomark _))))))))))), ?_⟩
  cases c with
  | true =>
    obtain ⟨dx, hop⟩ : ObjAt H p A.c_Clash [("one", .int x), ("other", .int y)] := id hC
    have ty := T.ty_Clash H p dx _ hop
    refine ⟨_, rfl, _, _, _, _, _, rfl, ty, rfl, T.is_Clash_Answer, _, rfl, iteF ⟨_, rfl, _, _, _, _, _, rfl, ty, rfl, T.is_Clash_Number, _, rfl, _, _, _, _, _, rfl, ty, rfl, T.is_Clash_Clash, _, _, rfl, rfl, _, rfl, iteF ?_⟩⟩
    refine ⟨_, rfl, _, _, _, _, _, rfl, ty, rfl, T.is_Clash_Common, _, rfl, _, _, _, _, _, rfl, ty, rfl, T.is_Clash_Times, _, rfl, _, _, _, _, _, rfl, ty, rfl, T.is_Clash_Bar, _, rfl, _, _, _, _, _, rfl, ty, rfl, T.is_Clash_Back, ?_⟩
    refine ⟨(by show 4 ≤ sizeLine; decide), fun o ho => ?_⟩
    have s1 := same_new ho (.lst [.bl false, .bl false, .bl false, .bl false])
    have hop1 := s1 _ _ hop
    have ty1 := T.ty_Clash _ p dx _ hop1
    refine ⟨_, rfl, o, [false, false, false, false], rfl, SqL.of upd_same, _, rfl, iteF ?_⟩
    refine ⟨_, rfl, _, _, _, _, _, rfl, ty1, rfl, T.is_Clash_Clash, _, rfl, iteT ⟨_, rfl, p, A.c_Clash, dx, _, _, rfl, hop1, T.cl_Clash, T.na_Clash_one, rfl, _, rfl, p, A.c_Clash, dx, _, _, rfl, hop1, T.cl_Clash, T.na_Clash_other, rfl, (by show 2 ≤ sizeLine; decide), fun f hf => ?_⟩⟩
    have s2 := s1.trans (same_new hf (.lst [.int x, .int y]))
    refine ⟨_, rfl, f, [x, y], rfl, upd_same, (by show 2 ≤ 1000; decide), fun H3 s3 => ⟨_, rfl, iteT ?_⟩⟩
    have s4 := s2.trans s3
    refine ⟨_, rfl, _, rfl, p, a, true, x, y, rs, rfl, ToldAt.same s4 hC, PrsAt.pairs (hR.same s4), hO, hL, fun H4 s5 => ⟨_, rfl, ?_⟩⟩
    rw [hSh]
    refine iteT ?_
    have s6 := s4.trans s5
    refine Or.inr ⟨_, rfl, p, dx, _, rfl, s6 _ _ hop, rfl, _, rfl, p, a, x, y, rs, rfl, ⟨dx, s6 _ _ hop⟩, PrsAt.pairs (hR.same s6), hO, hL, fun H5 s7 => ?_⟩
    rw [show clashShows x y rs = true from hSh]
    exact ⟨_, _, rfl, rfl, q _ (s6.trans s7)⟩
  | false =>
    obtain ⟨dx, hop⟩ : ObjAt H p A.c_Number [("number", .int x), ("turn", .int y)] := id hC
    have ty := T.ty_Number H p dx _ hop
    refine ⟨_, rfl, _, _, _, _, _, rfl, ty, rfl, T.is_Number_Answer, _, rfl, iteF ⟨_, rfl, _, _, _, _, _, rfl, ty, rfl, T.is_Number_Number, _, rfl, _, _, _, _, _, rfl, ty, rfl, T.is_Number_Clash, _, _, rfl, rfl, _, rfl, iteF ?_⟩⟩
    refine ⟨_, rfl, _, _, _, _, _, rfl, ty, rfl, T.is_Number_Common, _, rfl, _, _, _, _, _, rfl, ty, rfl, T.is_Number_Times, _, rfl, _, _, _, _, _, rfl, ty, rfl, T.is_Number_Bar, _, rfl, _, _, _, _, _, rfl, ty, rfl, T.is_Number_Back, ?_⟩
    refine ⟨(by show 4 ≤ sizeLine; decide), fun o ho => ?_⟩
    have s1 := same_new ho (.lst [.bl false, .bl false, .bl false, .bl false])
    have hop1 := s1 _ _ hop
    have ty1 := T.ty_Number _ p dx _ hop1
    refine ⟨_, rfl, o, [false, false, false, false], rfl, SqL.of upd_same, _, rfl, iteF ?_⟩
    refine ⟨_, rfl, _, _, _, _, _, rfl, ty1, rfl, T.is_Number_Clash, _, rfl, iteF ⟨_, rfl, p, A.c_Number, dx, _, _, rfl, hop1, T.cl_Number, T.na_Number_number, rfl, _, rfl, p, A.c_Number, dx, _, _, rfl, hop1, T.cl_Number, T.na_Number_turn, rfl, (by show 2 ≤ sizeLine; decide), fun f hf => ?_⟩⟩
    have s2 := s1.trans (same_new hf (.lst [.int x, .int y]))
    refine ⟨_, rfl, f, [x, y], rfl, upd_same, (by show 2 ≤ 1000; decide), fun H3 s3 => ⟨_, rfl, iteT ?_⟩⟩
    have s4 := s2.trans s3
    refine ⟨_, rfl, _, rfl, p, a, false, x, y, rs, rfl, ToldAt.same s4 hC, PrsAt.pairs (hR.same s4), hO, hL, fun H4 s5 => ⟨_, rfl, ?_⟩⟩
    rw [hSh]
    refine iteT ?_
    have s6 := s4.trans s5
    refine Or.inl ⟨_, rfl, p, dx, _, rfl, s6 _ _ hop, rfl, _, rfl, p, a, x, y, rs, rfl, ⟨dx, s6 _ _ hop⟩, PrsAt.pairs (hR.same s6), hO, hL, fun H5 s7 => ?_⟩
    rw [show numShows x y rs = true from hSh]
    exact ⟨_, _, rfl, rfl, q _ (s6.trans s7)⟩
end
end W01

set_option Elab.async false
set_option linter.all false
set_option maxRecDepth 100000
namespace W01
open PySem L2
section
variable {P : Program} {w : World} {K : PySem.W.Frag} {mg : Str → Option Value} {base : Heap} {A : Adr}
theorem cutV_1 (xs : List V) : cutV xs (some 1) none = xs.drop 1 := by
  unfold cutV
  rw [show (1 : Int) = ((1 : Nat) : Int) from rfl, HT.sIx_nat, HT.sIx_none]
  cases xs with
  | nil => rfl
  | cons x xs =>
    rw [show min 1 (x :: xs).length = 1 by rw [List.length_cons]; omega]
    exact List.take_of_length_le (by rw [List.length_drop]; omega)
theorem paired_rev {α β : Type} {F : α → β → Prop} {l₁ : List α} {l₂ : List β} (h : Paired F l₁ l₂) : Paired F l₁.reverse l₂.reverse := by
  induction h with
  | nil => exact .nil
  | cons x r ih => rw [List.reverse_cons, List.reverse_cons]; exact paired_snoc ih x
theorem paired_drop {α β : Type} {F : α → β → Prop} {l₁ : List α} {l₂ : List β} (h : Paired F l₁ l₂) : Paired F (l₁.drop 1) (l₂.drop 1) := by
  cases h with
  | nil => exact .nil
  | cons x r => exact r
theorem told_none {c : Bool} {x y : Int} (h : toldShows c x y [] = true) : c = false ∧ x = 0 ∧ y = 1 := by
  cases c with
  | true =>
    have h : clashShows x y [] = true := h
    unfold clashShows at h
    simp only [Bool.and_eq_true, decide_eq_true_eq, List.length_nil] at h
    omega
  | false =>
    have h : numShows x y [] = true := h
    obtain ⟨a, b, _, d⟩ := numShows_iff.mp h
    have d : y = 1 := d
    exact ⟨rfl, by omega, d⟩
def sp_law (K : PySem.W.Frag) : Sp := fun vs H Q _ => ∃ (a : Addr) (ns : List Int), vs = [.ref a] ∧ SqX K H a (ns.map V.int) ∧ ns.length ≤ 63 ∧ ∀ H', Q (.bl true) H'
set_option maxHeartbeats 4000000 in
theorem ok_law (T : Txt K mg A) : FnOk P w K mg base CX0 9 A.a_law A.d_law ["_law_script"] (sp_law K) := by
  have G__law_rests := ok_law_rests (P := P) (w := w) (base := base) T
  have G__law_due := ok_law_due (P := P) (w := w) (base := base) T
  have G__law_right := ok_law_right (P := P) (w := w) (base := base) T
  have G_told := ok_told (P := P) (w := w) (base := base) T
  have G_left := ok_left (P := P) (w := w) (base := base) T
  have G_Clash_shows := ok_Clash_shows (P := P) (w := w) (base := base) T
  have G_Number_shows := ok_Number_shows (P := P) (w := w) (base := base) T
  refine T.F_law.ok sc_law (fun vs H Q E h => ?_) (fun cdv Ar outer s H vs Q E hr h => ?_)
  · obtain ⟨a, ns, rfl, _⟩ := h
    rfl
  obtain ⟨a, ns, rfl, hS, hlen, q⟩ := h
  refine ⟨_, (@pss_cons _ _ _ _ _ (@ps_set _ _ (1) _ _ _ _ sc_law.nd rfl (Or.inl rfl) (@pe_call _ _ _ _ _ _ _ _ _ _ _ _ _ _ _ _ G__law_rests (hr.mono (by decide)) rfl T.m__law_rests T.k__law_rests T.bi__law_rests .nil pass0 (@pa_consN _ _ _ _ _ (@pv _ 0 _ _ (by rfl) (by first | exact Or.inl rfl | exact Or.inr (Or.inl rfl) | exact Or.inr (Or.inr rfl)) (by decide) (by decide)) (@pa_nil _) (by rfl)) (by decide) (by rfl) (by rfl)) (by rfl) (by first | exact .inl rfl | exact .inr rfl | assumption)) (@pss_cons _ _ _ _ _ (@ps_for _ _ _ _ _ _ _ _ PassesOwn.never rfl (@pi_tup _ _ _ _ (@pe_tup _ _ _ _ _ (@pa_consN _ _ _ _ _ (@pv _ 1 _ _ (by rfl) (by first | exact Or.inl rfl | exact Or.inr (Or.inl rfl) | exact Or.inr (Or.inr rfl)) (by decide) (by decide)) (@pa_consN _ _ _ _ _ (@pe_slice3 _ _ _ _ _ _ _ _ _ _ _ (@pv _ 1 _ _ (by rfl) (by first | exact Or.inl rfl | exact Or.inr (Or.inl rfl) | exact Or.inr (Or.inr rfl)) (by decide) (by decide)) (@po_none _) (@po_none _) (@po_some _ _ _ (@pe_un _ _ _ _ _ _ un_neg (@pe_int _ _ _ _)))) (@pa_consN _ _ _ _ _ (@pe_slice _ _ _ _ _ _ _ _ _ _ sl_list (@pv _ 1 _ _ (by rfl) (by first | exact Or.inl rfl | exact Or.inr (Or.inl rfl) | exact Or.inr (Or.inr rfl)) (by decide) (by decide)) (@po_some _ _ _ (@pe_int _ _ _ _)) (@po_none _)) (@pa_consN _ _ _ _ _ (@pv _ 1 _ _ (by rfl) (by first | exact Or.inl rfl | exact Or.inr (Or.inl rfl) | exact Or.inr (Or.inr rfl)) (by decide) (by decide)) (@pa_nil _) (by rfl)) (by rfl)) (by rfl)) (by rfl)))) (@pg_name _ _ (2) _ sc_law.nd rfl (Or.inl rfl) (by first | exact .inl rfl | exact .inr rfl | assumption)) (@pss_cons _ _ _ _ _ (@ps_set _ _ (3) _ _ _ _ sc_law.nd rfl (Or.inl rfl) (@pe_callTy _ _ _ _ _ _ _ _ _ call_list_of rfl T.b_list B.list (@pa_consN _ _ _ _ _ (@pv _ 2 _ _ (by rfl) (by first | exact Or.inl rfl | exact Or.inr (Or.inl rfl) | exact Or.inr (Or.inr rfl)) (by decide) (by decide)) (@pa_nil _) (by rfl)) (by decide) (by decide) (by rfl) (by rfl)) (by rfl) (by first | exact .inl rfl | exact .inr rfl | assumption)) (@pss_cons _ _ _ _ _ (@ps_set _ _ (4) _ _ _ _ sc_law.nd rfl (Or.inl rfl) (@pe_call _ _ _ _ _ _ _ _ _ _ _ _ _ _ _ _ G_told (hr.mono (by decide)) rfl T.m_told T.k_told T.bi_told .nil pass0 (@pa_consN _ _ _ _ _ (@pv _ 3 _ _ (by rfl) (by first | exact Or.inl rfl | exact Or.inr (Or.inl rfl) | exact Or.inr (Or.inr rfl)) (by decide) (by decide)) (@pa_nil _) (by rfl)) (by decide) (by rfl) (by rfl)) (by rfl) (by first | exact .inl rfl | exact .inr rfl | assumption)) (@pss_cons _ _ _ _ _ (@ps_if _ _ _ _ _ _ _ _ (@PW.pt _ _ _ (@pw_or _ _ _ _ _ _ _ (@pt_cmpR _ _ _ _ _ _ _ _ (op_neL (eqty_pair (hu_of hr)) hr.units0) (@pv _ 3 _ _ (by rfl) (by first | exact Or.inl rfl | exact Or.inr (Or.inl rfl) | exact Or.inr (Or.inr rfl)) (by decide) (by decide)) (@pv _ 2 _ _ (by rfl) (by first | exact Or.inl rfl | exact Or.inr (Or.inl rfl) | exact Or.inr (Or.inr rfl)) (by decide) (by decide)) (nomark _)) (@pw_or1 _ _ _ _ (@pt_not _ _ _ _ (@pt_val _ _ _ (@pe_call _ _ _ _ _ _ _ _ _ _ _ _ _ _ _ _ G__law_right (hr.mono (by decide)) rfl T.m__law_right T.k__law_right T.bi__law_right .nil pass0 (@pa_consN _ _ _ _ _ (@pv _ 2 _ _ (by rfl) (by first | exact Or.inl rfl | exact Or.inr (Or.inl rfl) | exact Or.inr (Or.inr rfl)) (by decide) (by decide)) (@pa_consN _ _ _ _ _ (@pv _ 4 _ _ (by rfl) (by first | exact Or.inl rfl | exact Or.inr (Or.inl rfl) | exact Or.inr (Or.inr rfl)) (by decide) (by decide)) (@pa_nil _) (by rfl)) (by rfl)) (by decide) (by rfl) (by rfl)) (by intro _; rfl)))))) (@pss_one _ _ _ (@ps_ret _ _ _ _ (@pe_bl _ _ _ _))) (@pss_nil _)) (@pss_one _ _ _ (@ps_for _ _ _ _ _ _ _ _ PassesOwn.never rfl (@pi_tup _ _ _ _ (@pe_tup _ _ _ _ _ (@pa_consN _ _ _ _ _ (@pe_slice3 _ _ _ _ _ _ _ _ _ _ _ (@pv _ 2 _ _ (by rfl) (by first | exact Or.inl rfl | exact Or.inr (Or.inl rfl) | exact Or.inr (Or.inr rfl)) (by decide) (by decide)) (@po_none _) (@po_none _) (@po_some _ _ _ (@pe_un _ _ _ _ _ _ un_neg (@pe_int _ _ _ _)))) (@pa_consN _ _ _ _ _ (@pe_slice _ _ _ _ _ _ _ _ _ _ sl_list (@pv _ 2 _ _ (by rfl) (by first | exact Or.inl rfl | exact Or.inr (Or.inl rfl) | exact Or.inr (Or.inr rfl)) (by decide) (by decide)) (@po_some _ _ _ (@pe_int _ _ _ _)) (@po_none _)) (@pa_consN _ _ _ _ _ (@pe_op _ _ _ _ _ _ _ _ op_cat (@pv _ 2 _ _ (by rfl) (by first | exact Or.inl rfl | exact Or.inr (Or.inl rfl) | exact Or.inr (Or.inr rfl)) (by decide) (by decide)) (@pe_lst _ _ _ _ (@pa_consN _ _ _ _ _ (@pe_tup _ _ _ _ _ (@pa_consN _ _ _ _ _ (@pe_int _ _ _ _) (@pa_consN _ _ _ _ _ (@pe_int _ _ _ _) (@pa_nil _) (by rfl)) (by rfl))) (@pa_nil _) (by rfl)))) (@pa_nil _) (by rfl)) (by rfl)) (by rfl)))) (@pg_name _ _ (5) _ sc_law.nd rfl (Or.inl rfl) (by first | exact .inl rfl | exact .inr rfl | assumption)) (@pss_one _ _ _ (@ps_if _ _ _ _ _ _ _ _ (@pt_cmpR _ _ _ _ _ _ _ _ op_neB (@pe_alt _ _ _ _ (@pe_meth _ _ _ _ _ _ _ _ _ _ _ _ _ _ _ _ _ _ _ _ (@pv _ 4 _ _ (by rfl) (by first | exact Or.inl rfl | exact Or.inr (Or.inl rfl) | exact Or.inr (Or.inr rfl)) (by decide) (by decide)) T.cl_Number T.me_Number_shows G_Number_shows (hr.mono (by decide)) T.bi_Number_shows .nil pass0 (@pa_consN _ _ _ _ _ (@pv _ 5 _ _ (by rfl) (by first | exact Or.inl rfl | exact Or.inr (Or.inl rfl) | exact Or.inr (Or.inr rfl)) (by decide) (by decide)) (@pa_nil _) (by rfl)) (by rfl) (by rfl) (by rfl)) (@pe_meth _ _ _ _ _ _ _ _ _ _ _ _ _ _ _ _ _ _ _ _ (@pv _ 4 _ _ (by rfl) (by first | exact Or.inl rfl | exact Or.inr (Or.inl rfl) | exact Or.inr (Or.inr rfl)) (by decide) (by decide)) T.cl_Clash T.me_Clash_shows G_Clash_shows (hr.mono (by decide)) T.bi_Clash_shows .nil pass0 (@pa_consN _ _ _ _ _ (@pv _ 5 _ _ (by rfl) (by first | exact Or.inl rfl | exact Or.inr (Or.inl rfl) | exact Or.inr (Or.inr rfl)) (by decide) (by decide)) (@pa_nil _) (by rfl)) (by rfl) (by rfl) (by rfl))) (@pe_call _ _ _ _ _ _ _ _ _ _ _ _ _ _ _ _ G__law_due (hr.mono (by decide)) rfl T.m__law_due T.k__law_due T.bi__law_due .nil pass0 (@pa_consN _ _ _ _ _ (@pv _ 5 _ _ (by rfl) (by first | exact Or.inl rfl | exact Or.inr (Or.inl rfl) | exact Or.inr (Or.inr rfl)) (by decide) (by decide)) (@pa_consN _ _ _ _ _ (@pv _ 4 _ _ (by rfl) (by first | exact Or.inl rfl | exact Or.inr (Or.inl rfl) | exact Or.inr (Or.inr rfl)) (by decide) (by decide)) (@pa_nil _) (by rfl)) (by rfl)) (by decide) (by rfl) (by rfl)) (nomark _)) (@pss_one _ _ _ (@ps_ret _ _ _ _ (@pe_bl _ _ _ _))) (@pss_nil _))) (by intro _; rfl)))))) (by intro _; rfl)) (@pss_cons _ _ _ _ _ (@ps_set _ _ (4) _ _ _ _ sc_law.nd rfl (Or.inl rfl) (@pe_call _ _ _ _ _ _ _ _ _ _ _ _ _ _ _ _ G_told (hr.mono (by decide)) rfl T.m_told T.k_told T.bi_told .nil pass0 (@pa_consN _ _ _ _ _ (@pv _ 1 _ _ (by rfl) (by first | exact Or.inl rfl | exact Or.inr (Or.inl rfl) | exact Or.inr (Or.inr rfl)) (by decide) (by decide)) (@pa_nil _) (by rfl)) (by decide) (by rfl) (by rfl)) (by rfl) (by first | exact .inl rfl | exact .inr rfl | assumption)) (@pss_cons _ _ _ _ _ (@ps_if _ _ _ _ _ _ _ _ (@pt_val _ _ _ (@pe_callB _ _ _ _ _ _ _ _ _ call_isinst rfl T.b_isinstance B.isinstance (@pa_consN _ _ _ _ _ (@pv _ 4 _ _ (by rfl) (by first | exact Or.inl rfl | exact Or.inr (Or.inl rfl) | exact Or.inr (Or.inr rfl)) (by decide) (by decide)) (@pa_consN _ _ _ _ _ (@pe_glob _ _ (.ref _) _ _ rfl T.m_Number rfl (by decide)) (@pa_nil _) (by rfl)) (by rfl)) (by decide) (by decide) (by rfl) (by rfl)) (by intro _; rfl)) (@pss_cons _ _ _ _ _ (@ps_set _ _ (6) _ _ _ _ sc_law.nd rfl (Or.inl rfl) (@pe_op _ _ _ _ _ _ _ _ op_sub (@pe_fld _ _ _ _ _ (@pv _ 4 _ _ (by rfl) (by first | exact Or.inl rfl | exact Or.inr (Or.inl rfl) | exact Or.inr (Or.inr rfl)) (by decide) (by decide)) (by rfl)) (@pe_op _ _ _ _ _ _ _ _ op_mul (@pe_int _ _ _ _) (@pe_fld _ _ _ _ _ (@pv _ 4 _ _ (by rfl) (by first | exact Or.inl rfl | exact Or.inr (Or.inl rfl) | exact Or.inr (Or.inr rfl)) (by decide) (by decide)) (by rfl)))) (by rfl) (by first | exact .inl rfl | exact .inr rfl | assumption)) (@pss_one _ _ _ (@ps_ret _ _ _ _ (@pe_and _ _ _ _ _ _ _ (@pe_cmpR _ _ _ _ _ _ _ _ (op_eqL (eqty_pair (hu_of hr)) hr.units0) (@pe_call _ _ _ _ _ _ _ _ _ _ _ _ _ _ _ _ G_left (hr.mono (by decide)) rfl T.m_left T.k_left T.bi_left .nil pass0 (@pa_consN _ _ _ _ _ (@pv _ 6 _ _ (by rfl) (by first | exact Or.inl rfl | exact Or.inr (Or.inl rfl) | exact Or.inr (Or.inr rfl)) (by decide) (by decide)) (@pa_consN _ _ _ _ _ (@pe_comp0 _ _ (["_law_rest", "_law_turn"]) ([none, none]) _ _ _ _ _ _ _ _ sc_law_c1 rfl (@pi_list _ _ _ _ (@pv _ 1 _ _ (by rfl) (by first | exact Or.inl rfl | exact Or.inr (Or.inl rfl) | exact Or.inr (Or.inr rfl)) (by decide) (by decide))) (fun z => (@pg_tup _ _ _ _ _ (2) rfl (@pgs_cons _ _ _ _ _ (@pg_name _ _ (0) _ sc_law_c1.nd rfl (Or.inl rfl) (by first | exact .inl rfl | exact .inr rfl | assumption)) (@pgs_cons _ _ _ _ _ (@pg_name _ _ (1) _ sc_law_c1.nd rfl (Or.inl rfl) (by first | exact .inl rfl | exact .inr rfl | assumption)) (@pgs_nil _) (by rfl)) (by rfl)) (by rfl) (by rfl))) (sets_two _ _ 0 1) (by decide) (fun z => (@pv _ 1 _ _ (by rfl) (by first | exact Or.inl rfl | exact Or.inr (Or.inl rfl) | exact Or.inr (Or.inr rfl)) (by decide) (by decide))) (by intro _; rfl)) (@pa_nil _) (by rfl)) (by rfl)) (by decide) (by rfl) (by rfl)) (@pv _ 1 _ _ (by rfl) (by first | exact Or.inl rfl | exact Or.inr (Or.inl rfl) | exact Or.inr (Or.inr rfl)) (by decide) (by decide)) (nomark _)) (@pe_one _ _ _ _ _ (@pe_cmpR _ _ _ _ _ _ _ _ op_eqI (@pe_fld _ _ _ _ _ (@pe_call _ _ _ _ _ _ _ _ _ _ _ _ _ _ _ _ G_told (hr.mono (by decide)) rfl T.m_told T.k_told T.bi_told .nil pass0 (@pa_consN _ _ _ _ _ (@pe_lst _ _ _ _ (@pa_nil _)) (@pa_nil _) (by rfl)) (by decide) (by rfl) (by rfl)) (by rfl)) (@pe_int _ _ _ _) (nomark _))))))) (@pss_nil _)) (@pss_one _ _ _ (@ps_ret _ _ _ _ (@pe_cmpR _ _ _ _ _ _ _ _ op_eqI (@pe_fld _ _ _ _ _ (@pe_call _ _ _ _ _ _ _ _ _ _ _ _ _ _ _ _ G_told (hr.mono (by decide)) rfl T.m_told T.k_told T.bi_told .nil pass0 (@pa_consN _ _ _ _ _ (@pe_lst _ _ _ _ (@pa_nil _)) (@pa_nil _) (by rfl)) (by decide) (by rfl) (by rfl)) (by rfl)) (@pe_int _ _ _ _) (nomark _)))))))), ?_⟩
  refine ⟨_, rfl, a, ns, rfl, hS, hlen, fun l rs H1 hO hrl hA s1 => ?_⟩
  obtain ⟨as, hL, hP⟩ := id hA
  have hal := hP.length
  refine ⟨_, rfl, _, rfl, _, rfl, _, rfl, l, _, rfl, SqL.of hL, (by decide), fun l2 hl2 => ?_⟩
  rw [pickL_rev, ← List.map_reverse]
  have s2 := same_new hl2 (.lst (as.reverse.map V.ref))
  refine ⟨_, rfl, _, rfl, l, _, rfl, SqL.of (s2 _ _ hL), fun l3 hl3 => ?_⟩
  rw [cutV_1, ← List.map_drop]
  have s3 := s2.trans (same_new hl3 (.lst ((as.drop 1).map V.ref)))
  refine ⟨_, rfl, (by show 4 ≤ sizeLine; decide), fun u hu => ?_⟩
  have s4 := s3.trans (same_new hu (.tup [.ref l, .ref l2, .ref l3, .ref l]))
  have s24 := (same_new hl3 (.lst ((as.drop 1).map V.ref))).trans (same_new hu (.tup [.ref l, .ref l2, .ref l3, .ref l]))
  have hfour : ∀ x, x ∈ ([.ref l, .ref l2, .ref l3, .ref l] : List V) → ∃ b ks, x = .ref b ∧ PrsAt (upd (upd (upd H1 l2 (.lst (as.reverse.map V.ref))) l3 (.lst ((as.drop 1).map V.ref))) u (.tup [.ref l, .ref l2, .ref l3, .ref l])) b ks ∧ RsOk ks ∧ ks.length ≤ 63 := by
    intro x hx
    have hP4 : Paired (TupAt (upd (upd (upd H1 l2 (.lst (as.reverse.map V.ref))) l3 (.lst ((as.drop 1).map V.ref))) u (.tup [.ref l, .ref l2, .ref l3, .ref l]))) as rs := Paired.mapP hP fun b p z => s4 _ _ z
    simp only [List.mem_cons, List.not_mem_nil, or_false] at hx
    have b1 : ∃ b ks, V.ref l = .ref b ∧ PrsAt (upd (upd (upd H1 l2 (.lst (as.reverse.map V.ref))) l3 (.lst ((as.drop 1).map V.ref))) u (.tup [.ref l, .ref l2, .ref l3, .ref l])) b ks ∧ RsOk ks ∧ ks.length ≤ 63 := ⟨l, rs, rfl, hA.same s4, hO, by omega⟩
    rcases hx with rfl | rfl | rfl | rfl
    · exact b1
    · exact ⟨l2, rs.reverse, rfl, ⟨as.reverse, s24 _ _ upd_same, paired_rev hP4⟩, fun p hp => hO p (List.mem_reverse.mp hp), by rw [List.length_reverse]; omega⟩
    · exact ⟨l3, rs.drop 1, rfl, ⟨as.drop 1, (same_new hu _) _ _ upd_same, paired_drop hP4⟩, fun p hp => hO p (List.mem_of_mem_drop hp), by rw [List.length_drop]; omega⟩
    · exact b1
  have hU : (upd (upd (upd H1 l2 (.lst (as.reverse.map V.ref))) l3 (.lst ((as.drop 1).map V.ref))) u (.tup [.ref l, .ref l2, .ref l3, .ref l])) u = some (.tup [.ref l, .ref l2, .ref l3, .ref l]) := upd_same
  have hA4 := hA.same s4
  generalize upd (upd (upd H1 l2 (.lst (as.reverse.map V.ref))) l3 (.lst ((as.drop 1).map V.ref))) u (.tup [.ref l, .ref l2, .ref l3, .ref l]) = H4 at *
  refine ⟨u, rfl, ⟨_, SqT.of hU⟩, ?_⟩
  refine for_tup (K := K) (a := u) (xs := [.ref l, .ref l2, .ref l3, .ref l]) (fun i σ H' => ∃ (f2 f3 f4 f5 f6 : Option V), σ = [some (.ref a), some (.ref l), f2, f3, f4, f5, f6] ∧ Same H4 H') ⟨_, _, _, _, _, rfl, Same.refl _⟩ (fun i σ H' _ ⟨_, _, _, _, _, _, e⟩ => SqT.of (e _ _ hU)) ?_ ?_
  · rintro i x σ H5 hi ⟨f2, f3, f4, f5, f6, rfl, e1⟩
    obtain ⟨b, ks, rfl, hB, hKO, hKl⟩ := hfour x (List.mem_of_getElem? hi)
    have hB5 := hB.same e1
    obtain ⟨bs, hBL, hBP⟩ := id hB5
    refine ⟨_, rfl, b, _, rfl, .inl (SqL.of hBL), fun d hd => ?_⟩
    have s6 := same_new hd (.lst (bs.map V.ref))
    have hD : PrsAt (upd H5 d (.lst (bs.map V.ref))) d ks := ⟨bs, upd_same, Paired.mapP hBP fun b p z => s6 _ _ z⟩
    refine ⟨_, rfl, d, ks, rfl, hD, hKO, by omega, fun p c x y H6 s7 hC hSh => ?_⟩
    have s67 := s6.trans s7
    refine ⟨_, rfl, _, rfl, d, b, ks, ks, rfl, rfl, (hD.same s7).rep, (hB5.same s67).rep, _, rfl, ?_⟩
    rw [decT rfl]
    refine iteF ?_
    refine ⟨_, rfl, _, rfl, p, b, c, x, y, ks, rfl, hC, hB5.same s67, hKO, by omega, hSh, fun H7 s8 => ⟨_, rfl, iteF ?_⟩⟩
    have s9 := s67.trans s8
    have hB7 := hB5.same s9
    have hC7 := hC.same s8
    obtain ⟨es, hL7, hP7⟩ := id hB7
    have hel := hP7.length
    refine ⟨_, rfl, _, rfl, _, rfl, b, _, rfl, SqL.of hL7, (by decide), fun m2 hm2 => ?_⟩
    rw [pickL_rev, ← List.map_reverse]
    have t1 := same_new hm2 (.lst (es.reverse.map V.ref))
    refine ⟨_, rfl, _, rfl, b, _, rfl, SqL.of (t1 _ _ hL7), fun m3 hm3 => ?_⟩
    rw [cutV_1, ← List.map_drop]
    have t2' := same_new hm3 (.lst ((es.drop 1).map V.ref))
    have t2 := t1.trans t2'
    refine ⟨_, rfl, (by show 2 ≤ sizeLine; decide), fun tp htp => ?_⟩
    have t3' := same_new htp (.tup [.int 0, .int 7])
    have t3 := t2.trans t3'
    refine ⟨(by show 1 ≤ sizeLine; decide), fun z hz => ?_⟩
    have t4' := same_new hz (.lst [.ref tp])
    have t4 := t3.trans t4'
    refine ⟨b, z, _, _, rfl, rfl, t4 _ _ hL7, upd_same, (by rw [List.length_map]; exact small100 (by show es.length + 1 ≤ 1000; omega)), fun m4 hm4 => ?_⟩
    have t5' := same_new hm4 (.lst (es.map V.ref ++ [.ref tp]))
    have t5 := t4.trans t5'
    refine ⟨(by show 3 ≤ sizeLine; decide), fun v hv => ?_⟩
    have t6' := same_new hv (.tup [.ref m2, .ref m3, .ref m4])
    have t6 := t5.trans t6'
    have q2 := (((t2'.trans t3').trans t4').trans t5').trans t6'
    have q3 := ((t3'.trans t4').trans t5').trans t6'
    have q4 := (t4'.trans t5').trans t6'
    have hV : (upd (upd (upd (upd (upd (upd H7 m2 (.lst (es.reverse.map V.ref))) m3 (.lst ((es.drop 1).map V.ref))) tp (.tup [.int 0, .int 7])) z (.lst [.ref tp])) m4 (.lst (es.map V.ref ++ [.ref tp]))) v (.tup [.ref m2, .ref m3, .ref m4])) v = some (.tup [.ref m2, .ref m3, .ref m4]) := upd_same
    have g2 := q2 _ _ (show upd H7 m2 (.lst (es.reverse.map V.ref)) m2 = _ from upd_same)
    have g3 := q3 _ _ (show upd (upd H7 m2 (.lst (es.reverse.map V.ref))) m3 (.lst ((es.drop 1).map V.ref)) m3 = _ from upd_same)
    have gt := q4 _ _ (show upd (upd (upd H7 m2 (.lst (es.reverse.map V.ref))) m3 (.lst ((es.drop 1).map V.ref))) tp (.tup [.int 0, .int 7]) tp = _ from upd_same)
    have g4 := t6' _ _ (show upd (upd (upd (upd (upd H7 m2 (.lst (es.reverse.map V.ref))) m3 (.lst ((es.drop 1).map V.ref))) tp (.tup [.int 0, .int 7])) z (.lst [.ref tp])) m4 (.lst (es.map V.ref ++ [.ref tp])) m4 = _ from upd_same)
    generalize upd (upd (upd (upd (upd (upd H7 m2 (.lst (es.reverse.map V.ref))) m3 (.lst ((es.drop 1).map V.ref))) tp (.tup [.int 0, .int 7])) z (.lst [.ref tp])) m4 (.lst (es.map V.ref ++ [.ref tp]))) v (.tup [.ref m2, .ref m3, .ref m4]) = H8 at *
    have hP8 : Paired (TupAt H8) es ks := Paired.mapP hP7 fun b p z => t6 _ _ z
    have hC8 := hC7.same t6
    have hthree : ∀ x, x ∈ ([.ref m2, .ref m3, .ref m4] : List V) → ∃ b ks, x = .ref b ∧ PrsAt H8 b ks ∧ RsOk ks ∧ ks.length ≤ 1000 := by
      intro x hx
      simp only [List.mem_cons, List.not_mem_nil, or_false] at hx
      rcases hx with rfl | rfl | rfl
      · exact ⟨m2, ks.reverse, rfl, ⟨es.reverse, g2, paired_rev hP8⟩, fun p hp => hKO p (List.mem_reverse.mp hp), by rw [List.length_reverse]; omega⟩
      · exact ⟨m3, ks.drop 1, rfl, ⟨es.drop 1, g3, paired_drop hP8⟩, fun p hp => hKO p (List.mem_of_mem_drop hp), by rw [List.length_drop]; omega⟩
      · refine ⟨m4, ks ++ [(0, 7)], rfl, ⟨es ++ [tp], by rw [List.map_append]; exact g4, paired_snoc hP8 gt⟩, fun p hp => ?_, by rw [List.length_append]; show ks.length + 1 ≤ 1000; omega⟩
        rcases List.mem_append.mp hp with hp | hp
        · exact hKO p hp
        · rw [List.mem_singleton.mp hp]; exact ⟨by decide, by decide, by decide⟩
    refine ⟨v, rfl, ⟨_, SqT.of hV⟩, ?_⟩
    refine for_tup (K := K) (a := v) (xs := [.ref m2, .ref m3, .ref m4]) (fun i σ H' => ∃ (f5 f6 : Option V), σ = [some (.ref a), some (.ref l), some (.ref b), some (.ref d), some (.ref p), f5, f6] ∧ Same H8 H') ⟨_, _, rfl, Same.refl _⟩ (fun i σ H' _ ⟨_, _, _, e⟩ => SqT.of (e _ _ hV)) ?_ ?_
    · rintro j w_ σ H9 hj ⟨f5, f6, rfl, e2⟩
      obtain ⟨b9, k9, rfl, hB9, hO9, hl9⟩ := hthree w_ (List.mem_of_getElem? hj)
      have hC9 := hC8.same e2
      have hB9' := hB9.same e2
      cases c with
      | true =>
        obtain ⟨dx, hop⟩ : ObjAt H9 p A.c_Clash [("one", .int x), ("other", .int y)] := id hC9
        refine Or.inr ⟨_, rfl, p, dx, _, rfl, hop, rfl, _, rfl, p, b9, x, y, k9, rfl, ⟨dx, hop⟩, PrsAt.pairs hB9', hO9, hl9, fun H10 s10 => ?_⟩
        refine ⟨_, rfl, _, rfl, p, b9, true, x, y, k9, rfl, hC9.same s10, PrsAt.pairs (hB9'.same s10), hO9, hl9, fun H11 s11 => ⟨_, _, rfl, rfl, _, rfl, ?_⟩⟩
        rw [show toldShows true x y k9 = clashShows x y k9 from rfl, bne_self_eq_false]
        exact iteF ⟨_, _, rfl, e2.trans (s10.trans s11)⟩
      | false =>
        obtain ⟨dx, hop⟩ : ObjAt H9 p A.c_Number [("number", .int x), ("turn", .int y)] := id hC9
        refine Or.inl ⟨_, rfl, p, dx, _, rfl, hop, rfl, _, rfl, p, b9, x, y, k9, rfl, ⟨dx, hop⟩, PrsAt.pairs hB9', hO9, hl9, fun H10 s10 => ?_⟩
        refine ⟨_, rfl, _, rfl, p, b9, false, x, y, k9, rfl, hC9.same s10, PrsAt.pairs (hB9'.same s10), hO9, hl9, fun H11 s11 => ⟨_, _, rfl, rfl, _, rfl, ?_⟩⟩
        rw [show toldShows false x y k9 = numShows x y k9 from rfl, bne_self_eq_false]
        exact iteF ⟨_, _, rfl, e2.trans (s10.trans s11)⟩
    · rintro σ H9 ⟨f5, f6, rfl, e2⟩
      exact ⟨_, _, _, _, _, rfl, ((e1.trans s9).trans t6).trans e2⟩
  · rintro σ H5 ⟨f2, f3, f4, f5, f6, rfl, e1⟩
    have hA5 := hA4.same e1
    refine ⟨_, rfl, l, rs, rfl, hA5, hO, by omega, fun p c x y H6 s7 hC hSh => ?_⟩
    have hA6 := hA5.same s7
    cases c with
    | true =>
      obtain ⟨dx, hop⟩ : ObjAt H6 p A.c_Clash [("one", .int x), ("other", .int y)] := id hC
      have ty := T.ty_Clash H6 p dx _ hop
      refine ⟨_, rfl, _, _, _, _, _, rfl, ty, rfl, T.is_Clash_Number, _, rfl, iteF ?_⟩
      refine ⟨(by show 0 ≤ sizeLine; decide), fun e he => ⟨e, [], rfl, ⟨[], upd_same, .nil⟩, (fun _ z => nomatch z), by decide, fun p0 c0 x0 y0 H7 s8 hC0 hSh0 => ?_⟩⟩
      obtain ⟨rfl, rfl, rfl⟩ := told_none hSh0
      obtain ⟨dx0, hop0⟩ : ObjAt H7 p0 A.c_Number [("number", .int 0), ("turn", .int 1)] := hC0
      exact ⟨p0, A.c_Number, dx0, _, _, rfl, hop0, T.cl_Number, T.na_Number_number, rfl, _, _, rfl, rfl, q _⟩
    | false =>
      obtain ⟨dx, hop⟩ : ObjAt H6 p A.c_Number [("number", .int x), ("turn", .int y)] := id hC
      have ty := T.ty_Number H6 p dx _ hop
      refine ⟨_, rfl, _, _, _, _, _, rfl, ty, rfl, T.is_Number_Number, _, rfl, iteT ?_⟩
      refine ⟨_, rfl, p, A.c_Number, dx, _, _, rfl, hop, T.cl_Number, T.na_Number_number, rfl, _, rfl, p, A.c_Number, dx, _, _, rfl, hop, T.cl_Number, T.na_Number_turn, rfl, _, _, rfl, rfl, .inl ⟨by decide, by decide⟩, _, _, rfl, rfl, ?_⟩
      obtain ⟨as6, hL6, hP6⟩ := id hA6
      have hal6 := hP6.length
      refine ⟨_, rfl, _, rfl, l, rfl, ⟨_, SqL.of hL6⟩, comp_list (K := K) (a := l) (xs := as6.map V.ref) (fun i ys H' => H' = H6 ∧ ys = ((rs.take i).map (·.2)).map V.int) ⟨rfl, rfl⟩ (by rw [List.length_map]; exact small100 (by omega)) ?_ ?_ ?_⟩
      · rintro i ys H' hi ⟨rfl, rfl⟩
        rw [List.length_map] at hi
        exact ⟨SqL.of hL6, by rw [List.length_map, List.length_map, List.length_take]; omega⟩
      · rintro i v ys H' hv ⟨rfl, rfl⟩
        obtain ⟨b, r, rfl, hb, hr', hq⟩ := prs_get hP6 hv
        refine ⟨b, _, rfl, SqT.of hq, rfl, _, _, rfl, _, _, rfl, rfl, _, rfl, rfl, ?_⟩
        rw [take_snoc hr', List.map_append, List.map_append]
        rfl
      rintro ys H' ⟨rfl, rfl⟩ lt hlt
      rw [List.length_map, hal6, List.take_length]
      have s8 := same_new hlt (.lst ((rs.map (·.2)).map V.int))
      refine ⟨x - 5 * y, lt, (rs.map (fun (z : Int × Int) => z.2) : List Int), rfl, (show LstAt _ lt (rs.map (fun (z : Int × Int) => z.2)) from upd_same), ?_, by rw [List.length_map]; omega, fun l' H7 s9 hA7 => ?_⟩
      · intro t ht
        obtain ⟨p, hp, rfl⟩ := List.mem_map.mp ht
        have := hO p hp
        exact ⟨by omega, this.2.2⟩
      have hback : (rs.map (fun (z : Int × Int) => z.2)).map (fun t => ((x - 5 * y) % t, t)) = rs := by
        rw [List.map_map]
        refine (List.map_congr_left fun z hz => ?_).trans (List.map_id rs)
        show ((x - 5 * y) % z.2, z.2) = z
        have ho := hO z hz
        obtain ⟨n0, n1, n2, n3⟩ := numShows_iff.mp (show numShows x y rs = true from hSh)
        have hd : z.2 ∣ y := by
          rw [n3]
          exact (dvd_lcmL _ 1 (by decide) (fun u hu => by
            obtain ⟨v, hv, rfl⟩ := List.mem_map.mp hu
            have := hO v hv
            omega)).2 z.2 (List.mem_map.mpr ⟨z, hz, rfl⟩)
        have e : (x - 5 * y) % z.2 = z.1 := by
          rw [rest_mod ho.1 ho.2.1]
          apply Int.emod_eq_zero_of_dvd
          have e2 : x - 5 * y - z.1 = (x - z.1) - y * 5 := by omega
          rw [e2]
          exact Int.dvd_sub (Int.dvd_of_emod_eq_zero (n2 z hz)) (Int.dvd_mul_of_dvd_left hd)
        rw [e]
      rw [hback] at hA7
      refine ⟨_, rfl, l', l, rs, rs, rfl, rfl, hA7.rep, (hA6.same (s8.trans s9)).rep, _, rfl, ?_⟩
      rw [decT rfl]
      refine iteT ?_
      refine ⟨(by show 0 ≤ sizeLine; decide), fun e he => ⟨e, [], rfl, ⟨[], upd_same, .nil⟩, (fun _ z => nomatch z), by decide, fun p0 c0 x0 y0 H8 s10 hC0 hSh0 => ?_⟩⟩
      obtain ⟨rfl, rfl, rfl⟩ := told_none hSh0
      obtain ⟨dx0, hop0⟩ : ObjAt H8 p0 A.c_Number [("number", .int 0), ("turn", .int 1)] := hC0
      exact ⟨p0, A.c_Number, dx0, _, _, rfl, hop0, T.cl_Number, T.na_Number_turn, rfl, _, _, rfl, rfl, q _⟩
end
end W01

set_option Elab.async false
set_option linter.all false
namespace H01
open PySem PySem.W PySem.Calls PyProof.Rows
noncomputable section
set_option maxRecDepth 100000
theorem laid : (PySem.Challenge.pw_wheelrow_k01_whole_told.main.body.isEmpty) = false := by
  cases h : PySem.Challenge.pw_wheelrow_k01_whole_told.main.body.isEmpty with
  | false => rfl
  | true => exact absurd h (by have : (!PySem.Challenge.pw_wheelrow_k01_whole_told.main.body.isEmpty) = true := by k_qdec
                               intro q; rw [q] at this; cases this)
abbrev p' : Program := PySem.W.Fast.tw15651218986530179858
abbrev pq : Program := PySem.Challenge.pw_wheelrow_k01_whole_told
theorem pq_eq : pq = p' := by
  have _ := laid
  exact PySem.W.Fast.te15651218986530179858
abbrev S (s : String) : Str := Str.ofString s
def tpOf (p : Program) (i : Nat) : Stmt := p.main.body.getD i (.Pass ⟨0, 0, 0, 0⟩)
abbrev tp (i : Nat) : Stmt := tpOf p' i
def ic (s : Stmt) (j : Nat) : Stmt := match s with
  | .ClassDef _ _ _ body _ _ _ _ _ _ _ => body.getD j (.Pass ⟨0, 0, 0, 0⟩)
  | _ => .Pass ⟨0, 0, 0, 0⟩
def fA (s : Stmt) : Arguments := match s with
  | .FunctionDef _ a _ _ _ _ _ _ _ _ => a
  | _ => { posonlyargs := [], args := [], vararg := none, kwonlyargs := [], kw_defaults := [], kwarg := none, defaults := [] }
def fB (s : Stmt) : List Stmt := match s with
  | .FunctionDef _ _ b _ _ _ _ _ _ _ => b
  | _ => []
def fS (s : Stmt) : Scope := match s with
  | .FunctionDef _ _ _ _ _ _ sc _ _ _ => sc
  | _ => { kind := .function, names := [], isGenerator := false, isCoroutine := false }
abbrev vi (n t : Nat) : Value := .int (.ofNat n) t
abbrev vs (s : Str) (t : Nat) : Value := .str s t
abbrev vr (n : Nat) : Value := .ref n
abbrev de (P : Params) (s : Str) (t : Nat) (v : Value) : DictEntry := ⟨PyData.keyHash P s, .str s t, v⟩
abbrev c0 : Str := ⟨⟨[(nat_lit 95), (nat_lit 95), (nat_lit 110), (nat_lit 97), (nat_lit 109), (nat_lit 101), (nat_lit 95), (nat_lit 95)]⟩⟩
abbrev c1 : Str := ⟨⟨[(nat_lit 98), (nat_lit 117), (nat_lit 105), (nat_lit 108), (nat_lit 116), (nat_lit 105), (nat_lit 110), (nat_lit 115)]⟩⟩
abbrev c2 : Str := ⟨⟨[(nat_lit 95), (nat_lit 95), (nat_lit 100), (nat_lit 111), (nat_lit 99), (nat_lit 95), (nat_lit 95)]⟩⟩
abbrev c3 : Str := ⟨⟨[(nat_lit 95), (nat_lit 95), (nat_lit 112), (nat_lit 97), (nat_lit 99), (nat_lit 107), (nat_lit 97), (nat_lit 103), (nat_lit 101), (nat_lit 95), (nat_lit 95)]⟩⟩
abbrev c4 : Str := ⟨⟨[(nat_lit 95), (nat_lit 95), (nat_lit 108), (nat_lit 111), (nat_lit 97), (nat_lit 100), (nat_lit 101), (nat_lit 114), (nat_lit 95), (nat_lit 95)]⟩⟩
abbrev c5 : Str := ⟨⟨[(nat_lit 95), (nat_lit 95), (nat_lit 115), (nat_lit 112), (nat_lit 101), (nat_lit 99), (nat_lit 95), (nat_lit 95)]⟩⟩
abbrev c160 : Str := ⟨⟨[(nat_lit 95), (nat_lit 95), (nat_lit 109), (nat_lit 97), (nat_lit 105), (nat_lit 110), (nat_lit 95), (nat_lit 95)]⟩⟩
abbrev c161 : Str := ⟨⟨[(nat_lit 95), (nat_lit 95), (nat_lit 97), (nat_lit 110), (nat_lit 110), (nat_lit 111), (nat_lit 116), (nat_lit 97), (nat_lit 116), (nat_lit 105), (nat_lit 111), (nat_lit 110), (nat_lit 115), (nat_lit 95), (nat_lit 95)]⟩⟩
abbrev c162 : Str := ⟨⟨[(nat_lit 95), (nat_lit 95), (nat_lit 98), (nat_lit 117), (nat_lit 105), (nat_lit 108), (nat_lit 116), (nat_lit 105), (nat_lit 110), (nat_lit 115), (nat_lit 95), (nat_lit 95)]⟩⟩
abbrev c163 : Str := ⟨⟨[(nat_lit 95), (nat_lit 95), (nat_lit 102), (nat_lit 105), (nat_lit 108), (nat_lit 101), (nat_lit 95), (nat_lit 95)]⟩⟩
abbrev c164 : Str := ⟨⟨[(nat_lit 47), (nat_lit 99), (nat_lit 108), (nat_lit 97), (nat_lit 105), (nat_lit 109), (nat_lit 47), (nat_lit 99), (nat_lit 117), (nat_lit 116), (nat_lit 46), (nat_lit 112), (nat_lit 121)]⟩⟩
abbrev c165 : Str := ⟨⟨[(nat_lit 95), (nat_lit 95), (nat_lit 99), (nat_lit 97), (nat_lit 99), (nat_lit 104), (nat_lit 101), (nat_lit 100), (nat_lit 95), (nat_lit 95)]⟩⟩
abbrev c166 : Str := ⟨⟨[(nat_lit 60), (nat_lit 109), (nat_lit 111), (nat_lit 100), (nat_lit 117), (nat_lit 108), (nat_lit 101), (nat_lit 62)]⟩⟩
abbrev c167 : Str := ⟨⟨[(nat_lit 119), (nat_lit 104), (nat_lit 101), (nat_lit 101), (nat_lit 108), (nat_lit 114), (nat_lit 111), (nat_lit 119), (nat_lit 46), (nat_lit 110), (nat_lit 117), (nat_lit 109), (nat_lit 98), (nat_lit 101), (nat_lit 114), (nat_lit 115)]⟩⟩
abbrev c168 : Str := ⟨⟨[(nat_lit 95), (nat_lit 119), (nat_lit 97), (nat_lit 108), (nat_lit 108)]⟩⟩
abbrev c169 : Str := ⟨⟨[(nat_lit 71), (nat_lit 82), (nat_lit 69), (nat_lit 65), (nat_lit 84), (nat_lit 69), (nat_lit 83), (nat_lit 84), (nat_lit 95), (nat_lit 82), (nat_lit 79), (nat_lit 85), (nat_lit 78), (nat_lit 68)]⟩⟩
abbrev c170 : Str := ⟨⟨[(nat_lit 105), (nat_lit 115), (nat_lit 95), (nat_lit 119), (nat_lit 104), (nat_lit 111), (nat_lit 108), (nat_lit 101)]⟩⟩
abbrev c171 : Str := ⟨⟨[(nat_lit 105), (nat_lit 115), (nat_lit 95), (nat_lit 114), (nat_lit 111), (nat_lit 117), (nat_lit 110), (nat_lit 100)]⟩⟩
abbrev c172 : Str := ⟨⟨[(nat_lit 97), (nat_lit 114), (nat_lit 101), (nat_lit 95), (nat_lit 114), (nat_lit 111), (nat_lit 117), (nat_lit 110), (nat_lit 100), (nat_lit 115)]⟩⟩
abbrev c173 : Str := ⟨⟨[(nat_lit 105), (nat_lit 115), (nat_lit 95), (nat_lit 114), (nat_lit 101), (nat_lit 115), (nat_lit 116)]⟩⟩
abbrev c174 : Str := ⟨⟨[(nat_lit 105), (nat_lit 115), (nat_lit 95), (nat_lit 114), (nat_lit 101), (nat_lit 115), (nat_lit 116), (nat_lit 95), (nat_lit 112), (nat_lit 97), (nat_lit 105), (nat_lit 114)]⟩⟩
abbrev c175 : Str := ⟨⟨[(nat_lit 97), (nat_lit 114), (nat_lit 101), (nat_lit 95), (nat_lit 114), (nat_lit 101), (nat_lit 115), (nat_lit 116), (nat_lit 115)]⟩⟩
abbrev c176 : Str := ⟨⟨[(nat_lit 103), (nat_lit 111), (nat_lit 101), (nat_lit 115), (nat_lit 95), (nat_lit 105), (nat_lit 110), (nat_lit 116), (nat_lit 111)]⟩⟩
abbrev c177 : Str := ⟨⟨[(nat_lit 108), (nat_lit 101), (nat_lit 97), (nat_lit 118), (nat_lit 101), (nat_lit 115)]⟩⟩
abbrev c178 : Str := ⟨⟨[(nat_lit 99), (nat_lit 111), (nat_lit 109), (nat_lit 109), (nat_lit 111), (nat_lit 110), (nat_lit 95), (nat_lit 112), (nat_lit 97), (nat_lit 114), (nat_lit 116), (nat_lit 95), (nat_lit 111), (nat_lit 102), (nat_lit 95), (nat_lit 116), (nat_lit 119), (nat_lit 111)]⟩⟩
abbrev c179 : Str := ⟨⟨[(nat_lit 112), (nat_lit 97), (nat_lit 114), (nat_lit 116), (nat_lit 95), (nat_lit 119), (nat_lit 105), (nat_lit 116), (nat_lit 104), (nat_lit 95), (nat_lit 116), (nat_lit 105), (nat_lit 109), (nat_lit 101), (nat_lit 115)]⟩⟩
abbrev c180 : Str := ⟨⟨[(nat_lit 99), (nat_lit 111), (nat_lit 109), (nat_lit 109), (nat_lit 111), (nat_lit 110), (nat_lit 95), (nat_lit 112), (nat_lit 97), (nat_lit 114), (nat_lit 116)]⟩⟩
abbrev c181 : Str := ⟨⟨[(nat_lit 107)]⟩⟩
abbrev c182 : Str := ⟨⟨[(nat_lit 118), (nat_lit 97), (nat_lit 108), (nat_lit 117), (nat_lit 101)]⟩⟩
abbrev c183 : Str := ⟨⟨[(nat_lit 116), (nat_lit 117), (nat_lit 114), (nat_lit 110)]⟩⟩
abbrev c184 : Str := ⟨⟨[(nat_lit 112), (nat_lit 97), (nat_lit 114), (nat_lit 116)]⟩⟩
abbrev c185 : Str := ⟨⟨[(nat_lit 110), (nat_lit 117), (nat_lit 109), (nat_lit 98), (nat_lit 101), (nat_lit 114)]⟩⟩
abbrev c186 : Str := ⟨⟨[(nat_lit 114), (nat_lit 101), (nat_lit 115), (nat_lit 116)]⟩⟩
abbrev c187 : Str := ⟨⟨[(nat_lit 111), (nat_lit 110), (nat_lit 101)]⟩⟩
abbrev c188 : Str := ⟨⟨[(nat_lit 111), (nat_lit 116), (nat_lit 104), (nat_lit 101), (nat_lit 114)]⟩⟩
abbrev c189 : Str := ⟨⟨[(nat_lit 108), (nat_lit 101), (nat_lit 102), (nat_lit 116)]⟩⟩
abbrev c190 : Str := ⟨⟨[(nat_lit 102), (nat_lit 111), (nat_lit 108), (nat_lit 108), (nat_lit 111), (nat_lit 119), (nat_lit 105), (nat_lit 110), (nat_lit 103)]⟩⟩
abbrev c191 : Str := ⟨⟨[(nat_lit 111), (nat_lit 102), (nat_lit 116), (nat_lit 101), (nat_lit 110)]⟩⟩
abbrev c192 : Str := ⟨⟨[(nat_lit 108), (nat_lit 101), (nat_lit 102), (nat_lit 116), (nat_lit 95), (nat_lit 111), (nat_lit 102), (nat_lit 116), (nat_lit 101), (nat_lit 110)]⟩⟩
abbrev c193 : Str := ⟨⟨[(nat_lit 119), (nat_lit 104), (nat_lit 111), (nat_lit 108), (nat_lit 101)]⟩⟩
abbrev c194 : Str := ⟨⟨[(nat_lit 102), (nat_lit 111), (nat_lit 108), (nat_lit 108), (nat_lit 111), (nat_lit 119), (nat_lit 105), (nat_lit 110), (nat_lit 103), (nat_lit 95), (nat_lit 111), (nat_lit 102), (nat_lit 116), (nat_lit 101), (nat_lit 110)]⟩⟩
abbrev c195 : Str := ⟨⟨[(nat_lit 111), (nat_lit 116), (nat_lit 104), (nat_lit 101), (nat_lit 114), (nat_lit 95), (nat_lit 111), (nat_lit 102), (nat_lit 116), (nat_lit 101), (nat_lit 110)]⟩⟩
abbrev c196 : Str := ⟨⟨[(nat_lit 110), (nat_lit 117), (nat_lit 109), (nat_lit 98), (nat_lit 101), (nat_lit 114), (nat_lit 115)]⟩⟩
abbrev c197 : Str := ⟨⟨[(nat_lit 119), (nat_lit 104), (nat_lit 101), (nat_lit 101), (nat_lit 108), (nat_lit 114), (nat_lit 111), (nat_lit 119), (nat_lit 46), (nat_lit 97), (nat_lit 110), (nat_lit 115), (nat_lit 119), (nat_lit 101), (nat_lit 114), (nat_lit 115)]⟩⟩
abbrev c198 : Str := ⟨⟨[(nat_lit 99), (nat_lit 111), (nat_lit 109), (nat_lit 109), (nat_lit 111), (nat_lit 110), (nat_lit 95), (nat_lit 116), (nat_lit 117), (nat_lit 114), (nat_lit 110)]⟩⟩
abbrev c199 : Str := ⟨⟨[(nat_lit 97), (nat_lit 108), (nat_lit 108), (nat_lit 95), (nat_lit 116), (nat_lit 111), (nat_lit 103), (nat_lit 101), (nat_lit 116), (nat_lit 104), (nat_lit 101), (nat_lit 114)]⟩⟩
abbrev c200 : Str := ⟨⟨[(nat_lit 65), (nat_lit 110), (nat_lit 115), (nat_lit 119), (nat_lit 101), (nat_lit 114)]⟩⟩
abbrev c201 : Str := ⟨⟨[(nat_lit 116), (nat_lit 117), (nat_lit 114), (nat_lit 110), (nat_lit 115)]⟩⟩
abbrev c202 : Str := ⟨⟨[(nat_lit 95), (nat_lit 95), (nat_lit 109), (nat_lit 111), (nat_lit 100), (nat_lit 117), (nat_lit 108), (nat_lit 101), (nat_lit 95), (nat_lit 95)]⟩⟩
abbrev c203 : Str := ⟨⟨[(nat_lit 95), (nat_lit 95), (nat_lit 113), (nat_lit 117), (nat_lit 97), (nat_lit 108), (nat_lit 110), (nat_lit 97), (nat_lit 109), (nat_lit 101), (nat_lit 95), (nat_lit 95)]⟩⟩
abbrev c204 : Str := ⟨⟨[(nat_lit 95), (nat_lit 95), (nat_lit 102), (nat_lit 105), (nat_lit 114), (nat_lit 115), (nat_lit 116), (nat_lit 108), (nat_lit 105), (nat_lit 110), (nat_lit 101), (nat_lit 110), (nat_lit 111), (nat_lit 95), (nat_lit 95)]⟩⟩
abbrev c205 : Str := ⟨⟨[(nat_lit 95), (nat_lit 95), (nat_lit 115), (nat_lit 116), (nat_lit 97), (nat_lit 116), (nat_lit 105), (nat_lit 99), (nat_lit 95), (nat_lit 97), (nat_lit 116), (nat_lit 116), (nat_lit 114), (nat_lit 105), (nat_lit 98), (nat_lit 117), (nat_lit 116), (nat_lit 101), (nat_lit 115), (nat_lit 95), (nat_lit 95)]⟩⟩
abbrev c206 : Str := ⟨⟨[(nat_lit 95), (nat_lit 95), (nat_lit 100), (nat_lit 105), (nat_lit 99), (nat_lit 116), (nat_lit 95), (nat_lit 95)]⟩⟩
abbrev c207 : Str := ⟨⟨[(nat_lit 95), (nat_lit 95), (nat_lit 119), (nat_lit 101), (nat_lit 97), (nat_lit 107), (nat_lit 114), (nat_lit 101), (nat_lit 102), (nat_lit 95), (nat_lit 95)]⟩⟩
abbrev c208 : Str := ⟨⟨[(nat_lit 78), (nat_lit 117), (nat_lit 109), (nat_lit 98), (nat_lit 101), (nat_lit 114)]⟩⟩
abbrev c209 : Str := ⟨⟨[(nat_lit 95), (nat_lit 95), (nat_lit 105), (nat_lit 110), (nat_lit 105), (nat_lit 116), (nat_lit 95), (nat_lit 95)]⟩⟩
abbrev c210 : Str := ⟨⟨[(nat_lit 115), (nat_lit 104), (nat_lit 111), (nat_lit 119), (nat_lit 115)]⟩⟩
abbrev c211 : Str := ⟨⟨[(nat_lit 115), (nat_lit 101), (nat_lit 108), (nat_lit 102)]⟩⟩
abbrev c212 : Str := ⟨⟨[(nat_lit 78), (nat_lit 117), (nat_lit 109), (nat_lit 98), (nat_lit 101), (nat_lit 114), (nat_lit 46), (nat_lit 95), (nat_lit 95), (nat_lit 105), (nat_lit 110), (nat_lit 105), (nat_lit 116), (nat_lit 95), (nat_lit 95)]⟩⟩
abbrev c213 : Str := ⟨⟨[(nat_lit 78), (nat_lit 117), (nat_lit 109), (nat_lit 98), (nat_lit 101), (nat_lit 114), (nat_lit 46), (nat_lit 115), (nat_lit 104), (nat_lit 111), (nat_lit 119), (nat_lit 115)]⟩⟩
abbrev c214 : Str := ⟨⟨[(nat_lit 67), (nat_lit 108), (nat_lit 97), (nat_lit 115), (nat_lit 104)]⟩⟩
abbrev c215 : Str := ⟨⟨[(nat_lit 67), (nat_lit 108), (nat_lit 97), (nat_lit 115), (nat_lit 104), (nat_lit 46), (nat_lit 95), (nat_lit 95), (nat_lit 105), (nat_lit 110), (nat_lit 105), (nat_lit 116), (nat_lit 95), (nat_lit 95)]⟩⟩
abbrev c216 : Str := ⟨⟨[(nat_lit 114), (nat_lit 101), (nat_lit 115), (nat_lit 116), (nat_lit 115)]⟩⟩
abbrev c217 : Str := ⟨⟨[(nat_lit 102), (nat_lit 105), (nat_lit 114), (nat_lit 115), (nat_lit 116)]⟩⟩
abbrev c218 : Str := ⟨⟨[(nat_lit 115), (nat_lit 101), (nat_lit 99), (nat_lit 111), (nat_lit 110), (nat_lit 100)]⟩⟩
abbrev c219 : Str := ⟨⟨[(nat_lit 67), (nat_lit 108), (nat_lit 97), (nat_lit 115), (nat_lit 104), (nat_lit 46), (nat_lit 115), (nat_lit 104), (nat_lit 111), (nat_lit 119), (nat_lit 115)]⟩⟩
abbrev c220 : Str := ⟨⟨[(nat_lit 67), (nat_lit 111), (nat_lit 109), (nat_lit 109), (nat_lit 111), (nat_lit 110)]⟩⟩
abbrev c221 : Str := ⟨⟨[(nat_lit 116), (nat_lit 105), (nat_lit 109), (nat_lit 101), (nat_lit 115)]⟩⟩
abbrev c222 : Str := ⟨⟨[(nat_lit 67), (nat_lit 111), (nat_lit 109), (nat_lit 109), (nat_lit 111), (nat_lit 110), (nat_lit 46), (nat_lit 95), (nat_lit 95), (nat_lit 105), (nat_lit 110), (nat_lit 105), (nat_lit 116), (nat_lit 95), (nat_lit 95)]⟩⟩
abbrev c223 : Str := ⟨⟨[(nat_lit 67), (nat_lit 111), (nat_lit 109), (nat_lit 109), (nat_lit 111), (nat_lit 110), (nat_lit 46), (nat_lit 115), (nat_lit 104), (nat_lit 111), (nat_lit 119), (nat_lit 115)]⟩⟩
abbrev c224 : Str := ⟨⟨[(nat_lit 84), (nat_lit 105), (nat_lit 109), (nat_lit 101), (nat_lit 115)]⟩⟩
abbrev c225 : Str := ⟨⟨[(nat_lit 84), (nat_lit 105), (nat_lit 109), (nat_lit 101), (nat_lit 115), (nat_lit 46), (nat_lit 95), (nat_lit 95), (nat_lit 105), (nat_lit 110), (nat_lit 105), (nat_lit 116), (nat_lit 95), (nat_lit 95)]⟩⟩
abbrev c226 : Str := ⟨⟨[(nat_lit 84), (nat_lit 105), (nat_lit 109), (nat_lit 101), (nat_lit 115), (nat_lit 46), (nat_lit 115), (nat_lit 104), (nat_lit 111), (nat_lit 119), (nat_lit 115)]⟩⟩
abbrev c227 : Str := ⟨⟨[(nat_lit 66), (nat_lit 97), (nat_lit 114)]⟩⟩
abbrev c228 : Str := ⟨⟨[(nat_lit 98), (nat_lit 97), (nat_lit 114), (nat_lit 115)]⟩⟩
abbrev c229 : Str := ⟨⟨[(nat_lit 66), (nat_lit 97), (nat_lit 114), (nat_lit 46), (nat_lit 95), (nat_lit 95), (nat_lit 105), (nat_lit 110), (nat_lit 105), (nat_lit 116), (nat_lit 95), (nat_lit 95)]⟩⟩
abbrev c230 : Str := ⟨⟨[(nat_lit 66), (nat_lit 97), (nat_lit 114), (nat_lit 46), (nat_lit 115), (nat_lit 104), (nat_lit 111), (nat_lit 119), (nat_lit 115)]⟩⟩
abbrev c231 : Str := ⟨⟨[(nat_lit 66), (nat_lit 97), (nat_lit 114), (nat_lit 46), (nat_lit 98), (nat_lit 97), (nat_lit 114), (nat_lit 115)]⟩⟩
abbrev c232 : Str := ⟨⟨[(nat_lit 119), (nat_lit 104), (nat_lit 101), (nat_lit 101), (nat_lit 108), (nat_lit 114), (nat_lit 111), (nat_lit 119), (nat_lit 46), (nat_lit 101), (nat_lit 114), (nat_lit 114), (nat_lit 111), (nat_lit 114), (nat_lit 115)]⟩⟩
abbrev c233 : Str := ⟨⟨[(nat_lit 66), (nat_lit 97), (nat_lit 99), (nat_lit 107)]⟩⟩
abbrev c234 : Str := ⟨⟨[(nat_lit 66), (nat_lit 97), (nat_lit 99), (nat_lit 107), (nat_lit 46), (nat_lit 95), (nat_lit 95), (nat_lit 105), (nat_lit 110), (nat_lit 105), (nat_lit 116), (nat_lit 95), (nat_lit 95)]⟩⟩
abbrev c235 : Str := ⟨⟨[(nat_lit 66), (nat_lit 97), (nat_lit 99), (nat_lit 107), (nat_lit 46), (nat_lit 115), (nat_lit 104), (nat_lit 111), (nat_lit 119), (nat_lit 115)]⟩⟩
abbrev c236 : Str := ⟨⟨[(nat_lit 82), (nat_lit 101), (nat_lit 115), (nat_lit 116), (nat_lit 69), (nat_lit 114), (nat_lit 114), (nat_lit 111), (nat_lit 114)]⟩⟩
abbrev c237 : Str := ⟨⟨[(nat_lit 66), (nat_lit 97), (nat_lit 100), (nat_lit 82), (nat_lit 101), (nat_lit 115), (nat_lit 116), (nat_lit 115)]⟩⟩
abbrev c238 : Str := ⟨⟨[(nat_lit 108), (nat_lit 97), (nat_lit 119), (nat_lit 95), (nat_lit 119), (nat_lit 104), (nat_lit 101), (nat_lit 101), (nat_lit 108), (nat_lit 114), (nat_lit 111), (nat_lit 119), (nat_lit 95), (nat_lit 107), (nat_lit 48), (nat_lit 49), (nat_lit 95), (nat_lit 119), (nat_lit 104), (nat_lit 111), (nat_lit 108), (nat_lit 101), (nat_lit 95), (nat_lit 116), (nat_lit 111), (nat_lit 108), (nat_lit 100)]⟩⟩
abbrev c239 : Str := ⟨⟨[(nat_lit 116), (nat_lit 111), (nat_lit 108), (nat_lit 100)]⟩⟩
abbrev c240 : Str := ⟨⟨[(nat_lit 106), (nat_lit 111), (nat_lit 105), (nat_lit 110), (nat_lit 101), (nat_lit 100)]⟩⟩
abbrev c241 : Str := ⟨⟨[(nat_lit 99), (nat_lit 108), (nat_lit 97), (nat_lit 115), (nat_lit 104), (nat_lit 95), (nat_lit 119), (nat_lit 105), (nat_lit 116), (nat_lit 104), (nat_lit 95), (nat_lit 101), (nat_lit 97), (nat_lit 114), (nat_lit 108), (nat_lit 105), (nat_lit 101), (nat_lit 114)]⟩⟩
abbrev c242 : Str := ⟨⟨[(nat_lit 95), (nat_lit 108), (nat_lit 97), (nat_lit 119), (nat_lit 95), (nat_lit 99), (nat_lit 101), (nat_lit 108), (nat_lit 108), (nat_lit 95), (nat_lit 97), (nat_lit 116)]⟩⟩
abbrev c243 : Str := ⟨⟨[(nat_lit 95), (nat_lit 108), (nat_lit 97), (nat_lit 119), (nat_lit 95), (nat_lit 100), (nat_lit 114), (nat_lit 97), (nat_lit 119)]⟩⟩
abbrev c244 : Str := ⟨⟨[(nat_lit 95), (nat_lit 108), (nat_lit 97), (nat_lit 119), (nat_lit 95), (nat_lit 116), (nat_lit 117), (nat_lit 114), (nat_lit 110), (nat_lit 115)]⟩⟩
abbrev c245 : Str := ⟨⟨[(nat_lit 95), (nat_lit 108), (nat_lit 97), (nat_lit 119), (nat_lit 95), (nat_lit 114), (nat_lit 101), (nat_lit 115), (nat_lit 116), (nat_lit 115)]⟩⟩
abbrev c246 : Str := ⟨⟨[(nat_lit 95), (nat_lit 108), (nat_lit 97), (nat_lit 119), (nat_lit 95), (nat_lit 112), (nat_lit 97), (nat_lit 114), (nat_lit 116)]⟩⟩
abbrev c247 : Str := ⟨⟨[(nat_lit 95), (nat_lit 108), (nat_lit 97), (nat_lit 119), (nat_lit 95), (nat_lit 119), (nat_lit 104), (nat_lit 111), (nat_lit 108), (nat_lit 101)]⟩⟩
abbrev c248 : Str := ⟨⟨[(nat_lit 95), (nat_lit 108), (nat_lit 97), (nat_lit 119), (nat_lit 95), (nat_lit 110), (nat_lit 117), (nat_lit 109), (nat_lit 98), (nat_lit 101), (nat_lit 114), (nat_lit 115)]⟩⟩
abbrev c249 : Str := ⟨⟨[(nat_lit 95), (nat_lit 108), (nat_lit 97), (nat_lit 119), (nat_lit 95), (nat_lit 100), (nat_lit 117), (nat_lit 101)]⟩⟩
abbrev c250 : Str := ⟨⟨[(nat_lit 115), (nat_lit 111), (nat_lit 95), (nat_lit 102), (nat_lit 97), (nat_lit 114)]⟩⟩
abbrev c251 : Str := ⟨⟨[(nat_lit 112), (nat_lit 108), (nat_lit 97), (nat_lit 99), (nat_lit 101)]⟩⟩
abbrev c252 : Str := ⟨⟨[(nat_lit 112), (nat_lit 97), (nat_lit 105), (nat_lit 114)]⟩⟩
abbrev c253 : Str := ⟨⟨[(nat_lit 119), (nat_lit 104), (nat_lit 101), (nat_lit 101), (nat_lit 108), (nat_lit 114), (nat_lit 111), (nat_lit 119), (nat_lit 46), (nat_lit 114), (nat_lit 101), (nat_lit 115), (nat_lit 116), (nat_lit 115)]⟩⟩
abbrev c254 : Str := ⟨⟨[(nat_lit 109), (nat_lit 97), (nat_lit 100), (nat_lit 101)]⟩⟩
abbrev c255 : Str := ⟨⟨[(nat_lit 109), (nat_lit 105), (nat_lit 115), (nat_lit 115), (nat_lit 105), (nat_lit 110), (nat_lit 103)]⟩⟩
abbrev c256 : Str := ⟨⟨[(nat_lit 102), (nat_lit 114), (nat_lit 101), (nat_lit 115), (nat_lit 104)]⟩⟩
abbrev c257 : Str := ⟨⟨[(nat_lit 115), (nat_lit 116), (nat_lit 101), (nat_lit 112), (nat_lit 115)]⟩⟩
abbrev c258 : Str := ⟨⟨[(nat_lit 95), (nat_lit 108), (nat_lit 97), (nat_lit 119), (nat_lit 95), (nat_lit 115), (nat_lit 99), (nat_lit 114), (nat_lit 105), (nat_lit 112), (nat_lit 116)]⟩⟩
abbrev c259 : Str := ⟨⟨[(nat_lit 95), (nat_lit 108), (nat_lit 97), (nat_lit 119), (nat_lit 95), (nat_lit 107)]⟩⟩
abbrev c260 : Str := ⟨⟨[(nat_lit 95), (nat_lit 108), (nat_lit 97), (nat_lit 119), (nat_lit 95), (nat_lit 99), (nat_lit 101), (nat_lit 108), (nat_lit 108)]⟩⟩
abbrev c261 : Str := ⟨⟨[(nat_lit 95), (nat_lit 108), (nat_lit 97), (nat_lit 119), (nat_lit 95), (nat_lit 109), (nat_lit 97), (nat_lit 110), (nat_lit 121)]⟩⟩
abbrev c262 : Str := ⟨⟨[(nat_lit 95), (nat_lit 108), (nat_lit 97), (nat_lit 119), (nat_lit 95), (nat_lit 112), (nat_lit 114), (nat_lit 105), (nat_lit 109), (nat_lit 101), (nat_lit 115)]⟩⟩
abbrev c263 : Str := ⟨⟨[(nat_lit 95), (nat_lit 108), (nat_lit 97), (nat_lit 119), (nat_lit 95), (nat_lit 107), (nat_lit 105), (nat_lit 110), (nat_lit 100)]⟩⟩
abbrev c264 : Str := ⟨⟨[(nat_lit 95), (nat_lit 108), (nat_lit 97), (nat_lit 119), (nat_lit 95), (nat_lit 102), (nat_lit 111), (nat_lit 117), (nat_lit 110), (nat_lit 100)]⟩⟩
abbrev c265 : Str := ⟨⟨[(nat_lit 95), (nat_lit 108), (nat_lit 97), (nat_lit 119), (nat_lit 95), (nat_lit 116), (nat_lit 117), (nat_lit 114), (nat_lit 110)]⟩⟩
abbrev c266 : Str := ⟨⟨[(nat_lit 95), (nat_lit 108), (nat_lit 97), (nat_lit 119), (nat_lit 95), (nat_lit 111), (nat_lit 110), (nat_lit 101)]⟩⟩
abbrev c267 : Str := ⟨⟨[(nat_lit 95), (nat_lit 108), (nat_lit 97), (nat_lit 119), (nat_lit 95), (nat_lit 111), (nat_lit 116), (nat_lit 104), (nat_lit 101), (nat_lit 114)]⟩⟩
abbrev c268 : Str := ⟨⟨[(nat_lit 95), (nat_lit 108), (nat_lit 97), (nat_lit 119), (nat_lit 95), (nat_lit 110), (nat_lit 117), (nat_lit 109), (nat_lit 98), (nat_lit 101), (nat_lit 114)]⟩⟩
abbrev c269 : Str := ⟨⟨[(nat_lit 95), (nat_lit 108), (nat_lit 97), (nat_lit 119), (nat_lit 95), (nat_lit 114), (nat_lit 105), (nat_lit 103), (nat_lit 104), (nat_lit 116)]⟩⟩
abbrev c270 : Str := ⟨⟨[(nat_lit 108), (nat_lit 97), (nat_lit 119)]⟩⟩
abbrev c271 : Str := ⟨⟨[(nat_lit 95), (nat_lit 108), (nat_lit 97), (nat_lit 119), (nat_lit 95), (nat_lit 114), (nat_lit 101), (nat_lit 115), (nat_lit 116), (nat_lit 115), (nat_lit 95), (nat_lit 104), (nat_lit 101), (nat_lit 114), (nat_lit 101)]⟩⟩
abbrev c272 : Str := ⟨⟨[(nat_lit 95), (nat_lit 108), (nat_lit 97), (nat_lit 119), (nat_lit 95), (nat_lit 111), (nat_lit 116), (nat_lit 104), (nat_lit 101), (nat_lit 114), (nat_lit 115)]⟩⟩
abbrev c273 : Str := ⟨⟨[(nat_lit 95), (nat_lit 108), (nat_lit 97), (nat_lit 119), (nat_lit 95), (nat_lit 102), (nat_lit 105), (nat_lit 101), (nat_lit 108), (nat_lit 100), (nat_lit 115)]⟩⟩
abbrev l0 : String := PySem.W.SL.s14018661285674007319x4
abbrev l1 : String := PySem.W.S.litE [PySem.W.S.mk8 (nat_lit 98) rfl, PySem.W.S.mk8 (nat_lit 117) rfl, PySem.W.S.mk8 (nat_lit 105) rfl, PySem.W.S.mk8 (nat_lit 108) rfl, PySem.W.S.mk8 (nat_lit 116) rfl, PySem.W.S.mk8 (nat_lit 105) rfl, PySem.W.S.mk8 (nat_lit 110) rfl, PySem.W.S.mk8 (nat_lit 115) rfl, PySem.W.S.mk8 (nat_lit 46) rfl, PySem.W.S.mk8 (nat_lit 95) rfl, PySem.W.S.mk8 (nat_lit 95) rfl, PySem.W.S.mk8 (nat_lit 100) rfl, PySem.W.S.mk8 (nat_lit 111) rfl, PySem.W.S.mk8 (nat_lit 99) rfl, PySem.W.S.mk8 (nat_lit 95) rfl, PySem.W.S.mk8 (nat_lit 95) rfl, PySem.W.S.mk8 (nat_lit 58) rfl, PySem.W.S.mk8 (nat_lit 115) rfl, PySem.W.S.mk8 (nat_lit 116) rfl, PySem.W.S.mk8 (nat_lit 114) rfl, PySem.W.S.mk8 (nat_lit 35) rfl, PySem.W.S.mk8 (nat_lit 111) rfl, PySem.W.S.mk8 (nat_lit 112) rfl, PySem.W.S.mk8 (nat_lit 97) rfl, PySem.W.S.mk8 (nat_lit 113) rfl, PySem.W.S.mk8 (nat_lit 117) rfl, PySem.W.S.mk8 (nat_lit 101) rfl] [(nat_lit 98), (nat_lit 117), (nat_lit 105), (nat_lit 108), (nat_lit 116), (nat_lit 105), (nat_lit 110), (nat_lit 115), (nat_lit 46), (nat_lit 95), (nat_lit 95), (nat_lit 100), (nat_lit 111), (nat_lit 99), (nat_lit 95), (nat_lit 95), (nat_lit 58), (nat_lit 115), (nat_lit 116), (nat_lit 114), (nat_lit 35), (nat_lit 111), (nat_lit 112), (nat_lit 97), (nat_lit 113), (nat_lit 117), (nat_lit 101)] rfl rfl
abbrev l2 : String := PySem.W.S.litE [PySem.W.S.mk8 (nat_lit 98) rfl, PySem.W.S.mk8 (nat_lit 117) rfl, PySem.W.S.mk8 (nat_lit 105) rfl, PySem.W.S.mk8 (nat_lit 108) rfl, PySem.W.S.mk8 (nat_lit 116) rfl, PySem.W.S.mk8 (nat_lit 105) rfl, PySem.W.S.mk8 (nat_lit 110) rfl, PySem.W.S.mk8 (nat_lit 115) rfl, PySem.W.S.mk8 (nat_lit 46) rfl, PySem.W.S.mk8 (nat_lit 95) rfl, PySem.W.S.mk8 (nat_lit 95) rfl, PySem.W.S.mk8 (nat_lit 112) rfl, PySem.W.S.mk8 (nat_lit 97) rfl, PySem.W.S.mk8 (nat_lit 99) rfl, PySem.W.S.mk8 (nat_lit 107) rfl, PySem.W.S.mk8 (nat_lit 97) rfl, PySem.W.S.mk8 (nat_lit 103) rfl, PySem.W.S.mk8 (nat_lit 101) rfl, PySem.W.S.mk8 (nat_lit 95) rfl, PySem.W.S.mk8 (nat_lit 95) rfl, PySem.W.S.mk8 (nat_lit 58) rfl, PySem.W.S.mk8 (nat_lit 115) rfl, PySem.W.S.mk8 (nat_lit 116) rfl, PySem.W.S.mk8 (nat_lit 114) rfl, PySem.W.S.mk8 (nat_lit 35) rfl, PySem.W.S.mk8 (nat_lit 111) rfl, PySem.W.S.mk8 (nat_lit 112) rfl, PySem.W.S.mk8 (nat_lit 97) rfl, PySem.W.S.mk8 (nat_lit 113) rfl, PySem.W.S.mk8 (nat_lit 117) rfl, PySem.W.S.mk8 (nat_lit 101) rfl] [(nat_lit 98), (nat_lit 117), (nat_lit 105), (nat_lit 108), (nat_lit 116), (nat_lit 105), (nat_lit 110), (nat_lit 115), (nat_lit 46), (nat_lit 95), (nat_lit 95), (nat_lit 112), (nat_lit 97), (nat_lit 99), (nat_lit 107), (nat_lit 97), (nat_lit 103), (nat_lit 101), (nat_lit 95), (nat_lit 95), (nat_lit 58), (nat_lit 115), (nat_lit 116), (nat_lit 114), (nat_lit 35), (nat_lit 111), (nat_lit 112), (nat_lit 97), (nat_lit 113), (nat_lit 117), (nat_lit 101)] rfl rfl
abbrev l3 : String := PySem.W.S.litE [PySem.W.S.mk8 (nat_lit 98) rfl, PySem.W.S.mk8 (nat_lit 117) rfl, PySem.W.S.mk8 (nat_lit 105) rfl, PySem.W.S.mk8 (nat_lit 108) rfl, PySem.W.S.mk8 (nat_lit 116) rfl, PySem.W.S.mk8 (nat_lit 105) rfl, PySem.W.S.mk8 (nat_lit 110) rfl, PySem.W.S.mk8 (nat_lit 115) rfl, PySem.W.S.mk8 (nat_lit 46) rfl, PySem.W.S.mk8 (nat_lit 95) rfl, PySem.W.S.mk8 (nat_lit 95) rfl, PySem.W.S.mk8 (nat_lit 108) rfl, PySem.W.S.mk8 (nat_lit 111) rfl, PySem.W.S.mk8 (nat_lit 97) rfl, PySem.W.S.mk8 (nat_lit 100) rfl, PySem.W.S.mk8 (nat_lit 101) rfl, PySem.W.S.mk8 (nat_lit 114) rfl, PySem.W.S.mk8 (nat_lit 95) rfl, PySem.W.S.mk8 (nat_lit 95) rfl, PySem.W.S.mk8 (nat_lit 58) rfl, PySem.W.S.mk8 (nat_lit 115) rfl, PySem.W.S.mk8 (nat_lit 104) rfl, PySem.W.S.mk8 (nat_lit 97) rfl, PySem.W.S.mk8 (nat_lit 114) rfl, PySem.W.S.mk8 (nat_lit 101) rfl, PySem.W.S.mk8 (nat_lit 100) rfl, PySem.W.S.mk8 (nat_lit 35) rfl, PySem.W.S.mk8 (nat_lit 111) rfl, PySem.W.S.mk8 (nat_lit 112) rfl, PySem.W.S.mk8 (nat_lit 97) rfl, PySem.W.S.mk8 (nat_lit 113) rfl, PySem.W.S.mk8 (nat_lit 117) rfl, PySem.W.S.mk8 (nat_lit 101) rfl] [(nat_lit 98), (nat_lit 117), (nat_lit 105), (nat_lit 108), (nat_lit 116), (nat_lit 105), (nat_lit 110), (nat_lit 115), (nat_lit 46), (nat_lit 95), (nat_lit 95), (nat_lit 108), (nat_lit 111), (nat_lit 97), (nat_lit 100), (nat_lit 101), (nat_lit 114), (nat_lit 95), (nat_lit 95), (nat_lit 58), (nat_lit 115), (nat_lit 104), (nat_lit 97), (nat_lit 114), (nat_lit 101), (nat_lit 100), (nat_lit 35), (nat_lit 111), (nat_lit 112), (nat_lit 97), (nat_lit 113), (nat_lit 117), (nat_lit 101)] rfl rfl
abbrev l63 : String := PySem.W.SL.s2742458400755230247x6
abbrev l70 : String := PySem.W.SL.s4290257624100764138x5
abbrev l71 : String := PySem.W.SL.s2766695959194262286x5
abbrev l72 : String := PySem.W.SL.s17162191345867700912x4
abbrev l74 : String := PySem.W.SL.s4278001404047624695x13
abbrev l76 : String := PySem.W.SL.s5946037652744460706x9
abbrev l97 : String := PySem.W.SL.s6070975301684473832x10
abbrev l150 : String := PySem.W.SL.s7097527257260152453x26
abbrev l152 : String := PySem.W.SL.s5856160107412720595x4
abbrev l153 : String := PySem.W.SL.s658472552662922059x5
abbrev l154 : String := PySem.W.SL.s7174869446012820540x8
abbrev l155 : String := PySem.W.SL.s11030030927630378310x26
abbrev l156 : String := PySem.W.SL.s10062305145149207511x16
abbrev l157 : String := PySem.W.SL.s11443829558043349243x14
abbrev l158 : String := PySem.W.SL.s14755015743595814543x17
abbrev l159 : String := PySem.W.SL.s6511155373996960695x17
abbrev l160 : String := PySem.W.SL.s12411053484034534018x21
abbrev l161 : String := PySem.W.SL.s10220274742760427390x26
abbrev l162 : String := PySem.W.SL.s4860613602091757760x24
abbrev l163 : String := PySem.W.SL.s4209523147560561109x18
abbrev o11_0 (P : Params) : Obj := ⟨(.type l71), none, (.seq ⟨[]⟩ (nat_lit 0)), ⟨[]⟩⟩
abbrev o12_1 (P : Params) : Obj := ⟨.none, none, (.fields ⟨[]⟩), ⟨[]⟩⟩
abbrev o13_2 (P : Params) : Obj := ⟨(.type l152), none, (.fields ⟨[(vs c166 (nat_lit 182)), (vs c166 (nat_lit 183)), (vs c164 (nat_lit 184)), (vi (nat_lit 1) (nat_lit 0)), (vi (nat_lit 0) (nat_lit 0)), (vi (nat_lit 0) (nat_lit 0)), (vi (nat_lit 0) (nat_lit 0)), (vi (nat_lit 0) (nat_lit 0)), (vr (nat_lit 11)), (.bool false), (vi (nat_lit 181) (nat_lit 0)), (vr (nat_lit 12)), .none, .none, .none, .none, (vi (nat_lit 185) (nat_lit 0)), (vi (nat_lit 1) (nat_lit 0)), (vs c164 (nat_lit 186))]⟩), ⟨[]⟩⟩
abbrev o14_3 (P : Params) : Obj := ⟨(.type l153), none, .plain, ⟨[some (vr (nat_lit 13)), some (vr (nat_lit 3)), some (vr (nat_lit 3)), none, some (vs c160 (nat_lit 164)), none, some (vr (nat_lit 0))]⟩⟩
abbrev o3_4 (P : Params) : Obj := ⟨(.type l0), none, (.dict ⟨[de P c0 (nat_lit 165) (vs c167 (nat_lit 194)), de P c2 (nat_lit 166) .none, de P c3 (nat_lit 167) .none, de P c4 (nat_lit 168) (.builtin l150), de P c5 (nat_lit 169) .none, de P c161 (nat_lit 170) (vr (nat_lit 6)), de P c162 (nat_lit 171) (vr (nat_lit 4)), de P c163 (nat_lit 173) (vs c164 (nat_lit 172)), de P c165 (nat_lit 174) .none, de P c168 (nat_lit 193) (vr (nat_lit 21)), de P c169 (nat_lit 197) (vi (nat_lit 1000000) (nat_lit 196)), de P c170 (nat_lit 204) (vr (nat_lit 28)), de P c171 (nat_lit 211) (vr (nat_lit 35)), de P c172 (nat_lit 217) (vr (nat_lit 40)), de P c173 (nat_lit 225) (vr (nat_lit 47)), de P c174 (nat_lit 232) (vr (nat_lit 54)), de P c175 (nat_lit 238) (vr (nat_lit 59)), de P c176 (nat_lit 246) (vr (nat_lit 66)), de P c177 (nat_lit 255) (vr (nat_lit 73)), de P c178 (nat_lit 266) (vr (nat_lit 80)), de P c179 (nat_lit 282) (vr (nat_lit 87)), de P c180 (nat_lit 291) (vr (nat_lit 94))]⟩ (nat_lit 22)), ⟨[]⟩⟩
abbrev o12_5 (P : Params) : Obj := ⟨.none, none, (.fields ⟨[(vi (nat_lit 1) (nat_lit 0)), (vi (nat_lit 0) (nat_lit 0)), (vr (nat_lit 20)), (vi (nat_lit 6) (nat_lit 0)), (vi (nat_lit 0) (nat_lit 0)), (vr (nat_lit 27)), (vi (nat_lit 8) (nat_lit 0)), (vi (nat_lit 0) (nat_lit 0)), (vr (nat_lit 34)), (vi (nat_lit 10) (nat_lit 0)), (vi (nat_lit 0) (nat_lit 0)), (vr (nat_lit 39)), (vi (nat_lit 12) (nat_lit 0)), (vi (nat_lit 0) (nat_lit 0)), (vr (nat_lit 46)), (vi (nat_lit 14) (nat_lit 0)), (vi (nat_lit 0) (nat_lit 0)), (vr (nat_lit 53)), (vi (nat_lit 16) (nat_lit 0)), (vi (nat_lit 0) (nat_lit 0)), (vr (nat_lit 58)), (vi (nat_lit 18) (nat_lit 0)), (vi (nat_lit 0) (nat_lit 0)), (vr (nat_lit 65)), (vi (nat_lit 20) (nat_lit 0)), (vi (nat_lit 0) (nat_lit 0)), (vr (nat_lit 72)), (vi (nat_lit 22) (nat_lit 0)), (vi (nat_lit 0) (nat_lit 0)), (vr (nat_lit 79)), (vi (nat_lit 30) (nat_lit 0)), (vi (nat_lit 0) (nat_lit 0)), (vr (nat_lit 86)), (vi (nat_lit 47) (nat_lit 0)), (vi (nat_lit 0) (nat_lit 0)), (vr (nat_lit 93))]⟩), ⟨[]⟩⟩
abbrev o17_6 (P : Params) : Obj := ⟨(.type l71), none, (.seq ⟨[(vs c181 (nat_lit 190))]⟩ (nat_lit 0)), ⟨[]⟩⟩
abbrev o19_7 (P : Params) : Obj := ⟨.none, none, (.func ⟨c168, c168, (fA (tp 0)), .stmts (fB (tp 0)), (fS (tp 0)), (nat_lit 0), [], .none, .none, .none, .none, none, .none, .none, (nat_lit 0)⟩), ⟨[]⟩⟩
abbrev o20_8 (P : Params) : Obj := ⟨(.type l152), none, (.fields ⟨[(vs c168 (nat_lit 187)), (vs c168 (nat_lit 188)), (vs c164 (nat_lit 189)), (vi (nat_lit 1) (nat_lit 0)), (vi (nat_lit 1) (nat_lit 0)), (vi (nat_lit 0) (nat_lit 0)), (vi (nat_lit 0) (nat_lit 0)), (vi (nat_lit 3) (nat_lit 0)), (vr (nat_lit 15)), (.bool true), (vi (nat_lit 181) (nat_lit 0)), (vr (nat_lit 16)), .none, (vr (nat_lit 17)), (vr (nat_lit 18)), (vr (nat_lit 19)), (vi (nat_lit 191) (nat_lit 0)), (vi (nat_lit 1) (nat_lit 0)), (vs c164 (nat_lit 192))]⟩), ⟨[]⟩⟩
abbrev o21_9 (P : Params) : Obj := ⟨(.type l154), none, (.func ⟨c168, c168, (fA (tp 0)), .stmts (fB (tp 0)), (fS (tp 0)), (nat_lit 3), [], .none, .none, .none, (vs c160 (nat_lit 164)), none, (vr (nat_lit 20)), .none, (nat_lit 0)⟩), ⟨[]⟩⟩
abbrev o24_10 (P : Params) : Obj := ⟨(.type l71), none, (.seq ⟨[(vs c182 (nat_lit 201))]⟩ (nat_lit 0)), ⟨[]⟩⟩
abbrev o26_11 (P : Params) : Obj := ⟨.none, none, (.func ⟨c170, c170, (fA (tp 3)), .stmts (fB (tp 3)), (fS (tp 3)), (nat_lit 0), [], .none, .none, .none, .none, none, .none, .none, (nat_lit 0)⟩), ⟨[]⟩⟩
abbrev o27_12 (P : Params) : Obj := ⟨(.type l152), none, (.fields ⟨[(vs c170 (nat_lit 198)), (vs c170 (nat_lit 199)), (vs c164 (nat_lit 200)), (vi (nat_lit 6) (nat_lit 0)), (vi (nat_lit 1) (nat_lit 0)), (vi (nat_lit 0) (nat_lit 0)), (vi (nat_lit 0) (nat_lit 0)), (vi (nat_lit 3) (nat_lit 0)), (vr (nat_lit 22)), (.bool true), (vi (nat_lit 181) (nat_lit 0)), (vr (nat_lit 23)), .none, (vr (nat_lit 24)), (vr (nat_lit 25)), (vr (nat_lit 26)), (vi (nat_lit 202) (nat_lit 0)), (vi (nat_lit 6) (nat_lit 0)), (vs c164 (nat_lit 203))]⟩), ⟨[]⟩⟩
abbrev o28_13 (P : Params) : Obj := ⟨(.type l154), none, (.func ⟨c170, c170, (fA (tp 3)), .stmts (fB (tp 3)), (fS (tp 3)), (nat_lit 3), [], .none, .none, .none, (vs c167 (nat_lit 194)), none, (vr (nat_lit 27)), .none, (nat_lit 0)⟩), ⟨[]⟩⟩
abbrev o31_14 (P : Params) : Obj := ⟨(.type l71), none, (.seq ⟨[(vs c182 (nat_lit 208))]⟩ (nat_lit 0)), ⟨[]⟩⟩
abbrev o33_15 (P : Params) : Obj := ⟨.none, none, (.func ⟨c171, c171, (fA (tp 4)), .stmts (fB (tp 4)), (fS (tp 4)), (nat_lit 0), [], .none, .none, .none, .none, none, .none, .none, (nat_lit 0)⟩), ⟨[]⟩⟩
abbrev o34_16 (P : Params) : Obj := ⟨(.type l152), none, (.fields ⟨[(vs c171 (nat_lit 205)), (vs c171 (nat_lit 206)), (vs c164 (nat_lit 207)), (vi (nat_lit 8) (nat_lit 0)), (vi (nat_lit 1) (nat_lit 0)), (vi (nat_lit 0) (nat_lit 0)), (vi (nat_lit 0) (nat_lit 0)), (vi (nat_lit 3) (nat_lit 0)), (vr (nat_lit 29)), (.bool true), (vi (nat_lit 181) (nat_lit 0)), (vr (nat_lit 30)), .none, (vr (nat_lit 31)), (vr (nat_lit 32)), (vr (nat_lit 33)), (vi (nat_lit 209) (nat_lit 0)), (vi (nat_lit 8) (nat_lit 0)), (vs c164 (nat_lit 210))]⟩), ⟨[]⟩⟩
abbrev o35_17 (P : Params) : Obj := ⟨(.type l154), none, (.func ⟨c171, c171, (fA (tp 4)), .stmts (fB (tp 4)), (fS (tp 4)), (nat_lit 3), [], .none, .none, .none, (vs c167 (nat_lit 194)), none, (vr (nat_lit 34)), .none, (nat_lit 0)⟩), ⟨[]⟩⟩
abbrev o38_18 (P : Params) : Obj := ⟨.none, none, (.func ⟨c172, c172, (fA (tp 5)), .stmts (fB (tp 5)), (fS (tp 5)), (nat_lit 0), [], .none, .none, .none, .none, none, .none, .none, (nat_lit 0)⟩), ⟨[]⟩⟩
abbrev o39_19 (P : Params) : Obj := ⟨(.type l152), none, (.fields ⟨[(vs c172 (nat_lit 212)), (vs c172 (nat_lit 213)), (vs c164 (nat_lit 214)), (vi (nat_lit 10) (nat_lit 0)), (vi (nat_lit 1) (nat_lit 0)), (vi (nat_lit 0) (nat_lit 0)), (vi (nat_lit 0) (nat_lit 0)), (vi (nat_lit 3) (nat_lit 0)), (vr (nat_lit 36)), (.bool true), (vi (nat_lit 181) (nat_lit 0)), (vr (nat_lit 37)), .none, .none, .none, (vr (nat_lit 38)), (vi (nat_lit 215) (nat_lit 0)), (vi (nat_lit 10) (nat_lit 0)), (vs c164 (nat_lit 216))]⟩), ⟨[]⟩⟩
abbrev o40_20 (P : Params) : Obj := ⟨(.type l154), none, (.func ⟨c172, c172, (fA (tp 5)), .stmts (fB (tp 5)), (fS (tp 5)), (nat_lit 3), [], .none, .none, .none, (vs c167 (nat_lit 194)), none, (vr (nat_lit 39)), .none, (nat_lit 0)⟩), ⟨[]⟩⟩
abbrev o43_21 (P : Params) : Obj := ⟨(.type l71), none, (.seq ⟨[(vs c182 (nat_lit 221)), (vs c183 (nat_lit 222))]⟩ (nat_lit 0)), ⟨[]⟩⟩
abbrev o45_22 (P : Params) : Obj := ⟨.none, none, (.func ⟨c173, c173, (fA (tp 6)), .stmts (fB (tp 6)), (fS (tp 6)), (nat_lit 0), [], .none, .none, .none, .none, none, .none, .none, (nat_lit 0)⟩), ⟨[]⟩⟩
abbrev o46_23 (P : Params) : Obj := ⟨(.type l152), none, (.fields ⟨[(vs c173 (nat_lit 218)), (vs c173 (nat_lit 219)), (vs c164 (nat_lit 220)), (vi (nat_lit 12) (nat_lit 0)), (vi (nat_lit 2) (nat_lit 0)), (vi (nat_lit 0) (nat_lit 0)), (vi (nat_lit 0) (nat_lit 0)), (vi (nat_lit 3) (nat_lit 0)), (vr (nat_lit 41)), (.bool true), (vi (nat_lit 181) (nat_lit 0)), (vr (nat_lit 42)), .none, (vr (nat_lit 43)), (vr (nat_lit 44)), (vr (nat_lit 45)), (vi (nat_lit 223) (nat_lit 0)), (vi (nat_lit 12) (nat_lit 0)), (vs c164 (nat_lit 224))]⟩), ⟨[]⟩⟩
abbrev o47_24 (P : Params) : Obj := ⟨(.type l154), none, (.func ⟨c173, c173, (fA (tp 6)), .stmts (fB (tp 6)), (fS (tp 6)), (nat_lit 3), [], .none, .none, .none, (vs c167 (nat_lit 194)), none, (vr (nat_lit 46)), .none, (nat_lit 0)⟩), ⟨[]⟩⟩
abbrev o50_25 (P : Params) : Obj := ⟨(.type l71), none, (.seq ⟨[(vs c182 (nat_lit 229))]⟩ (nat_lit 0)), ⟨[]⟩⟩
abbrev o52_26 (P : Params) : Obj := ⟨.none, none, (.func ⟨c174, c174, (fA (tp 7)), .stmts (fB (tp 7)), (fS (tp 7)), (nat_lit 0), [], .none, .none, .none, .none, none, .none, .none, (nat_lit 0)⟩), ⟨[]⟩⟩
abbrev o53_27 (P : Params) : Obj := ⟨(.type l152), none, (.fields ⟨[(vs c174 (nat_lit 226)), (vs c174 (nat_lit 227)), (vs c164 (nat_lit 228)), (vi (nat_lit 14) (nat_lit 0)), (vi (nat_lit 1) (nat_lit 0)), (vi (nat_lit 0) (nat_lit 0)), (vi (nat_lit 0) (nat_lit 0)), (vi (nat_lit 3) (nat_lit 0)), (vr (nat_lit 48)), (.bool true), (vi (nat_lit 181) (nat_lit 0)), (vr (nat_lit 49)), .none, (vr (nat_lit 50)), (vr (nat_lit 51)), (vr (nat_lit 52)), (vi (nat_lit 230) (nat_lit 0)), (vi (nat_lit 14) (nat_lit 0)), (vs c164 (nat_lit 231))]⟩), ⟨[]⟩⟩
abbrev o54_28 (P : Params) : Obj := ⟨(.type l154), none, (.func ⟨c174, c174, (fA (tp 7)), .stmts (fB (tp 7)), (fS (tp 7)), (nat_lit 3), [], .none, .none, .none, (vs c167 (nat_lit 194)), none, (vr (nat_lit 53)), .none, (nat_lit 0)⟩), ⟨[]⟩⟩
abbrev o57_29 (P : Params) : Obj := ⟨.none, none, (.func ⟨c175, c175, (fA (tp 8)), .stmts (fB (tp 8)), (fS (tp 8)), (nat_lit 0), [], .none, .none, .none, .none, none, .none, .none, (nat_lit 0)⟩), ⟨[]⟩⟩
abbrev o58_30 (P : Params) : Obj := ⟨(.type l152), none, (.fields ⟨[(vs c175 (nat_lit 233)), (vs c175 (nat_lit 234)), (vs c164 (nat_lit 235)), (vi (nat_lit 16) (nat_lit 0)), (vi (nat_lit 1) (nat_lit 0)), (vi (nat_lit 0) (nat_lit 0)), (vi (nat_lit 0) (nat_lit 0)), (vi (nat_lit 3) (nat_lit 0)), (vr (nat_lit 55)), (.bool true), (vi (nat_lit 181) (nat_lit 0)), (vr (nat_lit 56)), .none, .none, .none, (vr (nat_lit 57)), (vi (nat_lit 236) (nat_lit 0)), (vi (nat_lit 16) (nat_lit 0)), (vs c164 (nat_lit 237))]⟩), ⟨[]⟩⟩
abbrev o59_31 (P : Params) : Obj := ⟨(.type l154), none, (.func ⟨c175, c175, (fA (tp 8)), .stmts (fB (tp 8)), (fS (tp 8)), (nat_lit 3), [], .none, .none, .none, (vs c167 (nat_lit 194)), none, (vr (nat_lit 58)), .none, (nat_lit 0)⟩), ⟨[]⟩⟩
abbrev o62_32 (P : Params) : Obj := ⟨(.type l71), none, (.seq ⟨[(vs c184 (nat_lit 242)), (vs c185 (nat_lit 243))]⟩ (nat_lit 0)), ⟨[]⟩⟩
abbrev o64_33 (P : Params) : Obj := ⟨.none, none, (.func ⟨c176, c176, (fA (tp 9)), .stmts (fB (tp 9)), (fS (tp 9)), (nat_lit 0), [], .none, .none, .none, .none, none, .none, .none, (nat_lit 0)⟩), ⟨[]⟩⟩
abbrev o65_34 (P : Params) : Obj := ⟨(.type l152), none, (.fields ⟨[(vs c176 (nat_lit 239)), (vs c176 (nat_lit 240)), (vs c164 (nat_lit 241)), (vi (nat_lit 18) (nat_lit 0)), (vi (nat_lit 2) (nat_lit 0)), (vi (nat_lit 0) (nat_lit 0)), (vi (nat_lit 0) (nat_lit 0)), (vi (nat_lit 3) (nat_lit 0)), (vr (nat_lit 60)), (.bool true), (vi (nat_lit 181) (nat_lit 0)), (vr (nat_lit 61)), .none, (vr (nat_lit 62)), (vr (nat_lit 63)), (vr (nat_lit 64)), (vi (nat_lit 244) (nat_lit 0)), (vi (nat_lit 18) (nat_lit 0)), (vs c164 (nat_lit 245))]⟩), ⟨[]⟩⟩
abbrev o66_35 (P : Params) : Obj := ⟨(.type l154), none, (.func ⟨c176, c176, (fA (tp 9)), .stmts (fB (tp 9)), (fS (tp 9)), (nat_lit 3), [], .none, .none, .none, (vs c167 (nat_lit 194)), none, (vr (nat_lit 65)), .none, (nat_lit 0)⟩), ⟨[]⟩⟩
abbrev o69_36 (P : Params) : Obj := ⟨(.type l71), none, (.seq ⟨[(vs c185 (nat_lit 250)), (vs c186 (nat_lit 251)), (vs c183 (nat_lit 252))]⟩ (nat_lit 0)), ⟨[]⟩⟩
abbrev o71_37 (P : Params) : Obj := ⟨.none, none, (.func ⟨c177, c177, (fA (tp 10)), .stmts (fB (tp 10)), (fS (tp 10)), (nat_lit 0), [], .none, .none, .none, .none, none, .none, .none, (nat_lit 0)⟩), ⟨[]⟩⟩
abbrev o72_38 (P : Params) : Obj := ⟨(.type l152), none, (.fields ⟨[(vs c177 (nat_lit 247)), (vs c177 (nat_lit 248)), (vs c164 (nat_lit 249)), (vi (nat_lit 20) (nat_lit 0)), (vi (nat_lit 3) (nat_lit 0)), (vi (nat_lit 0) (nat_lit 0)), (vi (nat_lit 0) (nat_lit 0)), (vi (nat_lit 3) (nat_lit 0)), (vr (nat_lit 67)), (.bool true), (vi (nat_lit 181) (nat_lit 0)), (vr (nat_lit 68)), .none, (vr (nat_lit 69)), (vr (nat_lit 70)), (vr (nat_lit 71)), (vi (nat_lit 253) (nat_lit 0)), (vi (nat_lit 20) (nat_lit 0)), (vs c164 (nat_lit 254))]⟩), ⟨[]⟩⟩
abbrev o73_39 (P : Params) : Obj := ⟨(.type l154), none, (.func ⟨c177, c177, (fA (tp 10)), .stmts (fB (tp 10)), (fS (tp 10)), (nat_lit 3), [], .none, .none, .none, (vs c167 (nat_lit 194)), none, (vr (nat_lit 72)), .none, (nat_lit 0)⟩), ⟨[]⟩⟩
abbrev o76_40 (P : Params) : Obj := ⟨(.type l71), none, (.seq ⟨[(vs c187 (nat_lit 259)), (vs c188 (nat_lit 260)), (vs c184 (nat_lit 261)), (vs c189 (nat_lit 262)), (vs c190 (nat_lit 263))]⟩ (nat_lit 0)), ⟨[]⟩⟩
abbrev o78_41 (P : Params) : Obj := ⟨.none, none, (.func ⟨c178, c178, (fA (tp 11)), .stmts (fB (tp 11)), (fS (tp 11)), (nat_lit 0), [], .none, .none, .none, .none, none, .none, .none, (nat_lit 0)⟩), ⟨[]⟩⟩
abbrev o79_42 (P : Params) : Obj := ⟨(.type l152), none, (.fields ⟨[(vs c178 (nat_lit 256)), (vs c178 (nat_lit 257)), (vs c164 (nat_lit 258)), (vi (nat_lit 22) (nat_lit 0)), (vi (nat_lit 2) (nat_lit 0)), (vi (nat_lit 0) (nat_lit 0)), (vi (nat_lit 0) (nat_lit 0)), (vi (nat_lit 3) (nat_lit 0)), (vr (nat_lit 74)), (.bool true), (vi (nat_lit 181) (nat_lit 0)), (vr (nat_lit 75)), .none, (vr (nat_lit 76)), (vr (nat_lit 77)), (vr (nat_lit 78)), (vi (nat_lit 264) (nat_lit 0)), (vi (nat_lit 22) (nat_lit 0)), (vs c164 (nat_lit 265))]⟩), ⟨[]⟩⟩
abbrev o80_43 (P : Params) : Obj := ⟨(.type l154), none, (.func ⟨c178, c178, (fA (tp 11)), .stmts (fB (tp 11)), (fS (tp 11)), (nat_lit 3), [], .none, .none, .none, (vs c167 (nat_lit 194)), none, (vr (nat_lit 79)), .none, (nat_lit 0)⟩), ⟨[]⟩⟩
abbrev o83_44 (P : Params) : Obj := ⟨(.type l71), none, (.seq ⟨[(vs c187 (nat_lit 270)), (vs c188 (nat_lit 271)), (vs c184 (nat_lit 272)), (vs c191 (nat_lit 273)), (vs c189 (nat_lit 274)), (vs c192 (nat_lit 275)), (vs c193 (nat_lit 276)), (vs c190 (nat_lit 277)), (vs c194 (nat_lit 278)), (vs c195 (nat_lit 279))]⟩ (nat_lit 0)), ⟨[]⟩⟩
abbrev o85_45 (P : Params) : Obj := ⟨.none, none, (.func ⟨c179, c179, (fA (tp 12)), .stmts (fB (tp 12)), (fS (tp 12)), (nat_lit 0), [], .none, .none, .none, .none, none, .none, .none, (nat_lit 0)⟩), ⟨[]⟩⟩
abbrev o86_46 (P : Params) : Obj := ⟨(.type l152), none, (.fields ⟨[(vs c179 (nat_lit 267)), (vs c179 (nat_lit 268)), (vs c164 (nat_lit 269)), (vi (nat_lit 30) (nat_lit 0)), (vi (nat_lit 2) (nat_lit 0)), (vi (nat_lit 0) (nat_lit 0)), (vi (nat_lit 0) (nat_lit 0)), (vi (nat_lit 3) (nat_lit 0)), (vr (nat_lit 81)), (.bool true), (vi (nat_lit 181) (nat_lit 0)), (vr (nat_lit 82)), .none, (vr (nat_lit 83)), (vr (nat_lit 84)), (vr (nat_lit 85)), (vi (nat_lit 280) (nat_lit 0)), (vi (nat_lit 30) (nat_lit 0)), (vs c164 (nat_lit 281))]⟩), ⟨[]⟩⟩
abbrev o87_47 (P : Params) : Obj := ⟨(.type l154), none, (.func ⟨c179, c179, (fA (tp 12)), .stmts (fB (tp 12)), (fS (tp 12)), (nat_lit 3), [], .none, .none, .none, (vs c167 (nat_lit 194)), none, (vr (nat_lit 86)), .none, (nat_lit 0)⟩), ⟨[]⟩⟩
abbrev o90_48 (P : Params) : Obj := ⟨(.type l71), none, (.seq ⟨[(vs c196 (nat_lit 286)), (vs c184 (nat_lit 287)), (vs c185 (nat_lit 288))]⟩ (nat_lit 0)), ⟨[]⟩⟩
abbrev o92_49 (P : Params) : Obj := ⟨.none, none, (.func ⟨c180, c180, (fA (tp 13)), .stmts (fB (tp 13)), (fS (tp 13)), (nat_lit 0), [], .none, .none, .none, .none, none, .none, .none, (nat_lit 0)⟩), ⟨[]⟩⟩
abbrev o93_50 (P : Params) : Obj := ⟨(.type l152), none, (.fields ⟨[(vs c180 (nat_lit 283)), (vs c180 (nat_lit 284)), (vs c164 (nat_lit 285)), (vi (nat_lit 47) (nat_lit 0)), (vi (nat_lit 1) (nat_lit 0)), (vi (nat_lit 0) (nat_lit 0)), (vi (nat_lit 0) (nat_lit 0)), (vi (nat_lit 3) (nat_lit 0)), (vr (nat_lit 88)), (.bool true), (vi (nat_lit 181) (nat_lit 0)), (vr (nat_lit 89)), .none, (vr (nat_lit 90)), (vr (nat_lit 91)), (vr (nat_lit 92)), (vi (nat_lit 289) (nat_lit 0)), (vi (nat_lit 47) (nat_lit 0)), (vs c164 (nat_lit 290))]⟩), ⟨[]⟩⟩
abbrev o94_51 (P : Params) : Obj := ⟨(.type l154), none, (.func ⟨c180, c180, (fA (tp 13)), .stmts (fB (tp 13)), (fS (tp 13)), (nat_lit 3), [], .none, .none, .none, (vs c167 (nat_lit 194)), none, (vr (nat_lit 93)), .none, (nat_lit 0)⟩), ⟨[]⟩⟩
abbrev o3_52 (P : Params) : Obj := ⟨(.type l0), none, (.dict ⟨[de P c0 (nat_lit 165) (vs c197 (nat_lit 301)), de P c2 (nat_lit 166) .none, de P c3 (nat_lit 167) .none, de P c4 (nat_lit 168) (.builtin l150), de P c5 (nat_lit 169) .none, de P c161 (nat_lit 170) (vr (nat_lit 6)), de P c162 (nat_lit 171) (vr (nat_lit 4)), de P c163 (nat_lit 173) (vs c164 (nat_lit 172)), de P c165 (nat_lit 174) .none, de P c168 (nat_lit 193) (vr (nat_lit 21)), de P c169 (nat_lit 197) (vi (nat_lit 1000000) (nat_lit 196)), de P c170 (nat_lit 204) (vr (nat_lit 28)), de P c171 (nat_lit 211) (vr (nat_lit 35)), de P c172 (nat_lit 217) (vr (nat_lit 40)), de P c173 (nat_lit 225) (vr (nat_lit 47)), de P c174 (nat_lit 232) (vr (nat_lit 54)), de P c175 (nat_lit 238) (vr (nat_lit 59)), de P c176 (nat_lit 246) (vr (nat_lit 66)), de P c177 (nat_lit 255) (vr (nat_lit 73)), de P c178 (nat_lit 266) (vr (nat_lit 80)), de P c179 (nat_lit 282) (vr (nat_lit 87)), de P c180 (nat_lit 291) (vr (nat_lit 94)), de P c198 (nat_lit 300) (vr (nat_lit 101)), de P c199 (nat_lit 308) (vr (nat_lit 106)), de P c200 (nat_lit 328) (vr (nat_lit 116))]⟩ (nat_lit 25)), ⟨[]⟩⟩
abbrev o12_53 (P : Params) : Obj := ⟨.none, none, (.fields ⟨(((vi (nat_lit 1) (nat_lit 0))) :: ((vi (nat_lit 0) (nat_lit 0))) :: ((vr (nat_lit 20))) :: ((vi (nat_lit 6) (nat_lit 0))) :: ((vi (nat_lit 0) (nat_lit 0))) :: ((vr (nat_lit 27))) :: ((vi (nat_lit 8) (nat_lit 0))) :: ((vi (nat_lit 0) (nat_lit 0))) :: ((vr (nat_lit 34))) :: ((vi (nat_lit 10) (nat_lit 0))) :: ((vi (nat_lit 0) (nat_lit 0))) :: ((vr (nat_lit 39))) :: ((vi (nat_lit 12) (nat_lit 0))) :: ((vi (nat_lit 0) (nat_lit 0))) :: ((vr (nat_lit 46))) :: ((vi (nat_lit 14) (nat_lit 0))) :: ((vi (nat_lit 0) (nat_lit 0))) :: ((vr (nat_lit 53))) :: ((vi (nat_lit 16) (nat_lit 0))) :: ((vi (nat_lit 0) (nat_lit 0))) :: ((vr (nat_lit 58))) :: ((vi (nat_lit 18) (nat_lit 0))) :: ((vi (nat_lit 0) (nat_lit 0))) :: ((vr (nat_lit 65))) :: ((vi (nat_lit 20) (nat_lit 0))) :: ((vi (nat_lit 0) (nat_lit 0))) :: ((vr (nat_lit 72))) :: ((vi (nat_lit 22) (nat_lit 0))) :: ((vi (nat_lit 0) (nat_lit 0))) :: ((vr (nat_lit 79))) :: ((vi (nat_lit 30) (nat_lit 0))) :: ((vi (nat_lit 0) (nat_lit 0))) :: ((vr (nat_lit 86))) :: ((vi (nat_lit 47) (nat_lit 0))) :: ((vi (nat_lit 0) (nat_lit 0))) :: ((vr (nat_lit 93))) :: ((vi (nat_lit 52) (nat_lit 0))) :: ((vi (nat_lit 0) (nat_lit 0))) :: ((vr (nat_lit 100))) :: ((vi (nat_lit 58) (nat_lit 0))) :: ((vi (nat_lit 0) (nat_lit 0))) :: ((vr (nat_lit 105))) :: ((vi (nat_lit 60) (nat_lit 0))) :: ((vi (nat_lit 0) (nat_lit 0))) :: ((vr (nat_lit 112))) :: [])⟩), ⟨[]⟩⟩
abbrev o97_54 (P : Params) : Obj := ⟨(.type l71), none, (.seq ⟨[(vs c201 (nat_lit 295)), (vs c193 (nat_lit 296)), (vs c183 (nat_lit 297))]⟩ (nat_lit 0)), ⟨[]⟩⟩
abbrev o99_55 (P : Params) : Obj := ⟨.none, none, (.func ⟨c198, c198, (fA (tp 14)), .stmts (fB (tp 14)), (fS (tp 14)), (nat_lit 0), [], .none, .none, .none, .none, none, .none, .none, (nat_lit 0)⟩), ⟨[]⟩⟩
abbrev o100_56 (P : Params) : Obj := ⟨(.type l152), none, (.fields ⟨[(vs c198 (nat_lit 292)), (vs c198 (nat_lit 293)), (vs c164 (nat_lit 294)), (vi (nat_lit 52) (nat_lit 0)), (vi (nat_lit 1) (nat_lit 0)), (vi (nat_lit 0) (nat_lit 0)), (vi (nat_lit 0) (nat_lit 0)), (vi (nat_lit 3) (nat_lit 0)), (vr (nat_lit 95)), (.bool true), (vi (nat_lit 181) (nat_lit 0)), (vr (nat_lit 96)), .none, (vr (nat_lit 97)), (vr (nat_lit 98)), (vr (nat_lit 99)), (vi (nat_lit 298) (nat_lit 0)), (vi (nat_lit 52) (nat_lit 0)), (vs c164 (nat_lit 299))]⟩), ⟨[]⟩⟩
abbrev o101_57 (P : Params) : Obj := ⟨(.type l154), none, (.func ⟨c198, c198, (fA (tp 14)), .stmts (fB (tp 14)), (fS (tp 14)), (nat_lit 3), [], .none, .none, .none, (vs c167 (nat_lit 194)), none, (vr (nat_lit 100)), .none, (nat_lit 0)⟩), ⟨[]⟩⟩
abbrev o104_58 (P : Params) : Obj := ⟨.none, none, (.func ⟨c199, c199, (fA (tp 16)), .stmts (fB (tp 16)), (fS (tp 16)), (nat_lit 0), [], .none, .none, .none, .none, none, .none, .none, (nat_lit 0)⟩), ⟨[]⟩⟩
abbrev o105_59 (P : Params) : Obj := ⟨(.type l152), none, (.fields ⟨[(vs c199 (nat_lit 303)), (vs c199 (nat_lit 304)), (vs c164 (nat_lit 305)), (vi (nat_lit 58) (nat_lit 0)), (vi (nat_lit 2) (nat_lit 0)), (vi (nat_lit 0) (nat_lit 0)), (vi (nat_lit 0) (nat_lit 0)), (vi (nat_lit 3) (nat_lit 0)), (vr (nat_lit 102)), (.bool true), (vi (nat_lit 181) (nat_lit 0)), (vr (nat_lit 103)), .none, .none, .none, (vr (nat_lit 104)), (vi (nat_lit 306) (nat_lit 0)), (vi (nat_lit 58) (nat_lit 0)), (vs c164 (nat_lit 307))]⟩), ⟨[]⟩⟩
abbrev o106_60 (P : Params) : Obj := ⟨(.type l154), none, (.func ⟨c199, c199, (fA (tp 16)), .stmts (fB (tp 16)), (fS (tp 16)), (nat_lit 3), [], .none, .none, .none, (vs c197 (nat_lit 301)), none, (vr (nat_lit 105)), .none, (nat_lit 0)⟩), ⟨[]⟩⟩
abbrev o108_61 (P : Params) : Obj := ⟨(.type l155), none, (.fields ⟨[(.builtin l156), (.type l72)]⟩), ⟨[]⟩⟩
abbrev o109_62 (P : Params) : Obj := ⟨(.type l0), none, (.dict ⟨[de P c202 (nat_lit 316) (vs c197 (nat_lit 301)), de P c203 (nat_lit 318) (vs c200 (nat_lit 317)), de P c204 (nat_lit 320) (vi (nat_lit 60) (nat_lit 319)), de P c205 (nat_lit 321) (vr (nat_lit 114))]⟩ (nat_lit 4)), ⟨[]⟩⟩
abbrev o112_63 (P : Params) : Obj := ⟨(.type l152), none, (.fields ⟨[(vs c200 (nat_lit 311)), (vs c200 (nat_lit 312)), (vs c164 (nat_lit 313)), (vi (nat_lit 60) (nat_lit 0)), (vi (nat_lit 0) (nat_lit 0)), (vi (nat_lit 0) (nat_lit 0)), (vi (nat_lit 0) (nat_lit 0)), (vi (nat_lit 0) (nat_lit 0)), (vr (nat_lit 110)), (.bool false), (vi (nat_lit 181) (nat_lit 0)), (vr (nat_lit 111)), .none, .none, .none, .none, (vi (nat_lit 314) (nat_lit 0)), (vi (nat_lit 60) (nat_lit 0)), (vs c164 (nat_lit 315))]⟩), ⟨[]⟩⟩
abbrev o113_64 (P : Params) : Obj := ⟨(.type l153), none, .plain, ⟨[some (vr (nat_lit 112)), some (vr (nat_lit 3)), some (vr (nat_lit 109)), none, some (vs c197 (nat_lit 301)), none, some (vr (nat_lit 0))]⟩⟩
abbrev o115_65 (P : Params) : Obj := ⟨(.type l0), none, (.dict ⟨[de P c202 (nat_lit 316) (vs c197 (nat_lit 301)), de P c204 (nat_lit 320) (vi (nat_lit 60) (nat_lit 319)), de P c205 (nat_lit 321) (vr (nat_lit 114)), de P c206 (nat_lit 323) (vr (nat_lit 117)), de P c207 (nat_lit 325) (vr (nat_lit 118)), de P c2 (nat_lit 326) .none]⟩ (nat_lit 4)), ⟨[]⟩⟩
abbrev o116_66 (P : Params) : Obj := ⟨(.type l72), none, (.cls ⟨c200, [(.type l63)], [(vr (nat_lit 116)), (.type l63)], (nat_lit 115), c200, true, [], [], false, none, false⟩), ⟨[none, none, some (vs c200 (nat_lit 309)), some (vs c200 (nat_lit 317)), some (.builtin l157), some (.bool true)]⟩⟩
abbrev o117_67 (P : Params) : Obj := ⟨(.type l158), none, (.fields ⟨[(vs c206 (nat_lit 322)), (vr (nat_lit 116)), (.builtin l159), (.builtin l160)]⟩), ⟨[]⟩⟩
abbrev o118_68 (P : Params) : Obj := ⟨(.type l158), none, (.fields ⟨[(vs c207 (nat_lit 324)), (vr (nat_lit 116)), (.builtin l161), .none]⟩), ⟨[]⟩⟩
abbrev o119_69 (P : Params) : Obj := ⟨(.type l70), none, (.fields ⟨[(vr (nat_lit 116)), (vr (nat_lit 116)), (vr (nat_lit 116))]⟩), ⟨[]⟩⟩
abbrev o120_70 (P : Params) : Obj := ⟨(.type l155), none, (.fields ⟨[(.builtin l162), (vr (nat_lit 116))]⟩), ⟨[]⟩⟩
abbrev o3_71 (P : Params) : Obj := ⟨(.type l0), none, (.dict ⟨[de P c0 (nat_lit 165) (vs c197 (nat_lit 301)), de P c2 (nat_lit 166) .none, de P c3 (nat_lit 167) .none, de P c4 (nat_lit 168) (.builtin l150), de P c5 (nat_lit 169) .none, de P c161 (nat_lit 170) (vr (nat_lit 6)), de P c162 (nat_lit 171) (vr (nat_lit 4)), de P c163 (nat_lit 173) (vs c164 (nat_lit 172)), de P c165 (nat_lit 174) .none, de P c168 (nat_lit 193) (vr (nat_lit 21)), de P c169 (nat_lit 197) (vi (nat_lit 1000000) (nat_lit 196)), de P c170 (nat_lit 204) (vr (nat_lit 28)), de P c171 (nat_lit 211) (vr (nat_lit 35)), de P c172 (nat_lit 217) (vr (nat_lit 40)), de P c173 (nat_lit 225) (vr (nat_lit 47)), de P c174 (nat_lit 232) (vr (nat_lit 54)), de P c175 (nat_lit 238) (vr (nat_lit 59)), de P c176 (nat_lit 246) (vr (nat_lit 66)), de P c177 (nat_lit 255) (vr (nat_lit 73)), de P c178 (nat_lit 266) (vr (nat_lit 80)), de P c179 (nat_lit 282) (vr (nat_lit 87)), de P c180 (nat_lit 291) (vr (nat_lit 94)), de P c198 (nat_lit 300) (vr (nat_lit 101)), de P c199 (nat_lit 308) (vr (nat_lit 106)), de P c200 (nat_lit 328) (vr (nat_lit 116)), de P c208 (nat_lit 361) (vr (nat_lit 142))]⟩ (nat_lit 26)), ⟨[]⟩⟩
abbrev o12_72 (P : Params) : Obj := ⟨.none, none, (.fields ⟨(((vi (nat_lit 1) (nat_lit 0))) :: ((vi (nat_lit 0) (nat_lit 0))) :: ((vr (nat_lit 20))) :: ((vi (nat_lit 6) (nat_lit 0))) :: ((vi (nat_lit 0) (nat_lit 0))) :: ((vr (nat_lit 27))) :: ((vi (nat_lit 8) (nat_lit 0))) :: ((vi (nat_lit 0) (nat_lit 0))) :: ((vr (nat_lit 34))) :: ((vi (nat_lit 10) (nat_lit 0))) :: ((vi (nat_lit 0) (nat_lit 0))) :: ((vr (nat_lit 39))) :: ((vi (nat_lit 12) (nat_lit 0))) :: ((vi (nat_lit 0) (nat_lit 0))) :: ((vr (nat_lit 46))) :: ((vi (nat_lit 14) (nat_lit 0))) :: ((vi (nat_lit 0) (nat_lit 0))) :: ((vr (nat_lit 53))) :: ((vi (nat_lit 16) (nat_lit 0))) :: ((vi (nat_lit 0) (nat_lit 0))) :: ((vr (nat_lit 58))) :: ((vi (nat_lit 18) (nat_lit 0))) :: ((vi (nat_lit 0) (nat_lit 0))) :: ((vr (nat_lit 65))) :: ((vi (nat_lit 20) (nat_lit 0))) :: ((vi (nat_lit 0) (nat_lit 0))) :: ((vr (nat_lit 72))) :: ((vi (nat_lit 22) (nat_lit 0))) :: ((vi (nat_lit 0) (nat_lit 0))) :: ((vr (nat_lit 79))) :: ((vi (nat_lit 30) (nat_lit 0))) :: ((vi (nat_lit 0) (nat_lit 0))) :: ((vr (nat_lit 86))) :: ((vi (nat_lit 47) (nat_lit 0))) :: ((vi (nat_lit 0) (nat_lit 0))) :: ((vr (nat_lit 93))) :: ((vi (nat_lit 52) (nat_lit 0))) :: ((vi (nat_lit 0) (nat_lit 0))) :: ((vr (nat_lit 100))) :: ((vi (nat_lit 58) (nat_lit 0))) :: ((vi (nat_lit 0) (nat_lit 0))) :: ((vr (nat_lit 105))) :: ((vi (nat_lit 60) (nat_lit 0))) :: ((vi (nat_lit 0) (nat_lit 0))) :: ((vr (nat_lit 112))) :: ((vi (nat_lit 62) (nat_lit 0))) :: ((vi (nat_lit 0) (nat_lit 0))) :: ((vr (nat_lit 126))) :: [])⟩), ⟨[]⟩⟩
abbrev o116_73 (P : Params) : Obj := ⟨(.type l72), none, (.cls ⟨c200, [(.type l63)], [(vr (nat_lit 116)), (.type l63)], (nat_lit 115), c200, true, [], [(vr (nat_lit 142))], false, none, false⟩), ⟨[none, none, some (vs c200 (nat_lit 309)), some (vs c200 (nat_lit 317)), some (.builtin l157), some (.bool true)]⟩⟩
abbrev o121_74 (P : Params) : Obj := ⟨(.type l71), none, (.seq ⟨[(vr (nat_lit 116))]⟩ (nat_lit 0)), ⟨[]⟩⟩
abbrev o123_75 (P : Params) : Obj := ⟨(.type l0), none, (.dict ⟨[de P c202 (nat_lit 336) (vs c197 (nat_lit 301)), de P c203 (nat_lit 338) (vs c208 (nat_lit 337)), de P c204 (nat_lit 340) (vi (nat_lit 62) (nat_lit 339)), de P c209 (nat_lit 349) (vr (nat_lit 134)), de P c210 (nat_lit 355) (vr (nat_lit 139)), de P c205 (nat_lit 358) (vr (nat_lit 140))]⟩ (nat_lit 6)), ⟨[]⟩⟩
abbrev o125_76 (P : Params) : Obj := ⟨.none, none, (.fields ⟨[(vi (nat_lit 64) (nat_lit 0)), (vi (nat_lit 4) (nat_lit 0)), (vr (nat_lit 133)), (vi (nat_lit 68) (nat_lit 0)), (vi (nat_lit 4) (nat_lit 0)), (vr (nat_lit 138))]⟩), ⟨[]⟩⟩
abbrev o126_77 (P : Params) : Obj := ⟨(.type l152), none, (.fields ⟨[(vs c208 (nat_lit 331)), (vs c208 (nat_lit 332)), (vs c164 (nat_lit 333)), (vi (nat_lit 62) (nat_lit 0)), (vi (nat_lit 0) (nat_lit 0)), (vi (nat_lit 0) (nat_lit 0)), (vi (nat_lit 0) (nat_lit 0)), (vi (nat_lit 0) (nat_lit 0)), (vr (nat_lit 124)), (.bool false), (vi (nat_lit 181) (nat_lit 0)), (vr (nat_lit 125)), .none, .none, .none, .none, (vi (nat_lit 334) (nat_lit 0)), (vi (nat_lit 62) (nat_lit 0)), (vs c164 (nat_lit 335))]⟩), ⟨[]⟩⟩
abbrev o127_78 (P : Params) : Obj := ⟨(.type l153), none, .plain, ⟨[some (vr (nat_lit 126)), some (vr (nat_lit 3)), some (vr (nat_lit 123)), none, some (vs c197 (nat_lit 301)), none, some (vr (nat_lit 0))]⟩⟩
abbrev o130_79 (P : Params) : Obj := ⟨(.type l71), none, (.seq ⟨[(vs c211 (nat_lit 344)), (vs c185 (nat_lit 345)), (vs c183 (nat_lit 346))]⟩ (nat_lit 0)), ⟨[]⟩⟩
abbrev o132_80 (P : Params) : Obj := ⟨.none, none, (.func ⟨c209, c212, (fA (ic (tp 18) 0)), .stmts (fB (ic (tp 18) 0)), (fS (ic (tp 18) 0)), (nat_lit 0), [], .none, .none, .none, .none, none, .none, .none, (nat_lit 0)⟩), ⟨[]⟩⟩
abbrev o133_81 (P : Params) : Obj := ⟨(.type l152), none, (.fields ⟨[(vs c209 (nat_lit 341)), (vs c212 (nat_lit 342)), (vs c164 (nat_lit 343)), (vi (nat_lit 64) (nat_lit 0)), (vi (nat_lit 3) (nat_lit 0)), (vi (nat_lit 0) (nat_lit 0)), (vi (nat_lit 0) (nat_lit 0)), (vi (nat_lit 3) (nat_lit 0)), (vr (nat_lit 128)), (.bool true), (vi (nat_lit 181) (nat_lit 0)), (vr (nat_lit 129)), .none, (vr (nat_lit 130)), (vr (nat_lit 131)), (vr (nat_lit 132)), (vi (nat_lit 347) (nat_lit 0)), (vi (nat_lit 64) (nat_lit 0)), (vs c164 (nat_lit 348))]⟩), ⟨[]⟩⟩
abbrev o134_82 (P : Params) : Obj := ⟨(.type l154), none, (.func ⟨c209, c212, (fA (ic (tp 18) 0)), .stmts (fB (ic (tp 18) 0)), (fS (ic (tp 18) 0)), (nat_lit 3), [], .none, .none, .none, (vs c197 (nat_lit 301)), none, (vr (nat_lit 133)), .none, (nat_lit 0)⟩), ⟨[]⟩⟩
abbrev o137_83 (P : Params) : Obj := ⟨.none, none, (.func ⟨c210, c213, (fA (ic (tp 18) 1)), .stmts (fB (ic (tp 18) 1)), (fS (ic (tp 18) 1)), (nat_lit 0), [], .none, .none, .none, .none, none, .none, .none, (nat_lit 0)⟩), ⟨[]⟩⟩
abbrev o138_84 (P : Params) : Obj := ⟨(.type l152), none, (.fields ⟨[(vs c210 (nat_lit 350)), (vs c213 (nat_lit 351)), (vs c164 (nat_lit 352)), (vi (nat_lit 68) (nat_lit 0)), (vi (nat_lit 2) (nat_lit 0)), (vi (nat_lit 0) (nat_lit 0)), (vi (nat_lit 0) (nat_lit 0)), (vi (nat_lit 3) (nat_lit 0)), (vr (nat_lit 135)), (.bool true), (vi (nat_lit 181) (nat_lit 0)), (vr (nat_lit 136)), .none, .none, .none, (vr (nat_lit 137)), (vi (nat_lit 353) (nat_lit 0)), (vi (nat_lit 68) (nat_lit 0)), (vs c164 (nat_lit 354))]⟩), ⟨[]⟩⟩
abbrev o139_85 (P : Params) : Obj := ⟨(.type l154), none, (.func ⟨c210, c213, (fA (ic (tp 18) 1)), .stmts (fB (ic (tp 18) 1)), (fS (ic (tp 18) 1)), (nat_lit 3), [], .none, .none, .none, (vs c197 (nat_lit 301)), none, (vr (nat_lit 138)), .none, (nat_lit 0)⟩), ⟨[]⟩⟩
abbrev o140_86 (P : Params) : Obj := ⟨(.type l71), none, (.seq ⟨[(vs c185 (nat_lit 356)), (vs c183 (nat_lit 357))]⟩ (nat_lit 0)), ⟨[]⟩⟩
abbrev o141_87 (P : Params) : Obj := ⟨(.type l0), none, (.dict ⟨[de P c202 (nat_lit 336) (vs c197 (nat_lit 301)), de P c204 (nat_lit 340) (vi (nat_lit 62) (nat_lit 339)), de P c209 (nat_lit 349) (vr (nat_lit 134)), de P c210 (nat_lit 355) (vr (nat_lit 139)), de P c205 (nat_lit 358) (vr (nat_lit 140)), de P c2 (nat_lit 359) .none]⟩ (nat_lit 2)), ⟨[]⟩⟩
abbrev o142_88 (P : Params) : Obj := ⟨(.type l72), none, (.cls ⟨c208, [(vr (nat_lit 116))], [(vr (nat_lit 142)), (vr (nat_lit 116)), (.type l63)], (nat_lit 141), c208, true, [], [], false, none, false⟩), ⟨[some (vr (nat_lit 121)), none, some (vs c208 (nat_lit 329)), some (vs c208 (nat_lit 337)), some (.builtin l157), some (.bool true)]⟩⟩
abbrev o143_89 (P : Params) : Obj := ⟨(.type l70), none, (.fields ⟨[(vr (nat_lit 142)), (vr (nat_lit 142)), (vr (nat_lit 142))]⟩), ⟨[]⟩⟩
abbrev o144_90 (P : Params) : Obj := ⟨(.type l155), none, (.fields ⟨[(.builtin l162), (vr (nat_lit 142))]⟩), ⟨[]⟩⟩
abbrev o3_91 (P : Params) : Obj := ⟨(.type l0), none, (.dict ⟨[de P c0 (nat_lit 165) (vs c197 (nat_lit 301)), de P c2 (nat_lit 166) .none, de P c3 (nat_lit 167) .none, de P c4 (nat_lit 168) (.builtin l150), de P c5 (nat_lit 169) .none, de P c161 (nat_lit 170) (vr (nat_lit 6)), de P c162 (nat_lit 171) (vr (nat_lit 4)), de P c163 (nat_lit 173) (vs c164 (nat_lit 172)), de P c165 (nat_lit 174) .none, de P c168 (nat_lit 193) (vr (nat_lit 21)), de P c169 (nat_lit 197) (vi (nat_lit 1000000) (nat_lit 196)), de P c170 (nat_lit 204) (vr (nat_lit 28)), de P c171 (nat_lit 211) (vr (nat_lit 35)), de P c172 (nat_lit 217) (vr (nat_lit 40)), de P c173 (nat_lit 225) (vr (nat_lit 47)), de P c174 (nat_lit 232) (vr (nat_lit 54)), de P c175 (nat_lit 238) (vr (nat_lit 59)), de P c176 (nat_lit 246) (vr (nat_lit 66)), de P c177 (nat_lit 255) (vr (nat_lit 73)), de P c178 (nat_lit 266) (vr (nat_lit 80)), de P c179 (nat_lit 282) (vr (nat_lit 87)), de P c180 (nat_lit 291) (vr (nat_lit 94)), de P c198 (nat_lit 300) (vr (nat_lit 101)), de P c199 (nat_lit 308) (vr (nat_lit 106)), de P c200 (nat_lit 328) (vr (nat_lit 116)), de P c208 (nat_lit 361) (vr (nat_lit 142)), de P c214 (nat_lit 398) (vr (nat_lit 168))]⟩ (nat_lit 27)), ⟨[]⟩⟩
abbrev o12_92 (P : Params) : Obj := ⟨.none, none, (.fields ⟨(((vi (nat_lit 1) (nat_lit 0))) :: ((vi (nat_lit 0) (nat_lit 0))) :: ((vr (nat_lit 20))) :: ((vi (nat_lit 6) (nat_lit 0))) :: ((vi (nat_lit 0) (nat_lit 0))) :: ((vr (nat_lit 27))) :: ((vi (nat_lit 8) (nat_lit 0))) :: ((vi (nat_lit 0) (nat_lit 0))) :: ((vr (nat_lit 34))) :: ((vi (nat_lit 10) (nat_lit 0))) :: ((vi (nat_lit 0) (nat_lit 0))) :: ((vr (nat_lit 39))) :: ((vi (nat_lit 12) (nat_lit 0))) :: ((vi (nat_lit 0) (nat_lit 0))) :: ((vr (nat_lit 46))) :: ((vi (nat_lit 14) (nat_lit 0))) :: ((vi (nat_lit 0) (nat_lit 0))) :: ((vr (nat_lit 53))) :: ((vi (nat_lit 16) (nat_lit 0))) :: ((vi (nat_lit 0) (nat_lit 0))) :: ((vr (nat_lit 58))) :: ((vi (nat_lit 18) (nat_lit 0))) :: ((vi (nat_lit 0) (nat_lit 0))) :: ((vr (nat_lit 65))) :: ((vi (nat_lit 20) (nat_lit 0))) :: ((vi (nat_lit 0) (nat_lit 0))) :: ((vr (nat_lit 72))) :: ((vi (nat_lit 22) (nat_lit 0))) :: ((vi (nat_lit 0) (nat_lit 0))) :: ((vr (nat_lit 79))) :: ((vi (nat_lit 30) (nat_lit 0))) :: ((vi (nat_lit 0) (nat_lit 0))) :: ((vr (nat_lit 86))) :: ((vi (nat_lit 47) (nat_lit 0))) :: ((vi (nat_lit 0) (nat_lit 0))) :: ((vr (nat_lit 93))) :: ((vi (nat_lit 52) (nat_lit 0))) :: ((vi (nat_lit 0) (nat_lit 0))) :: ((vr (nat_lit 100))) :: ((vi (nat_lit 58) (nat_lit 0))) :: ((vi (nat_lit 0) (nat_lit 0))) :: ((vr (nat_lit 105))) :: ((vi (nat_lit 60) (nat_lit 0))) :: ((vi (nat_lit 0) (nat_lit 0))) :: ((vr (nat_lit 112))) :: ((vi (nat_lit 62) (nat_lit 0))) :: ((vi (nat_lit 0) (nat_lit 0))) :: ((vr (nat_lit 126))) :: ((vi (nat_lit 74) (nat_lit 0))) :: ((vi (nat_lit 0) (nat_lit 0))) :: ((vr (nat_lit 150))) :: [])⟩), ⟨[]⟩⟩
abbrev o116_93 (P : Params) : Obj := ⟨(.type l72), none, (.cls ⟨c200, [(.type l63)], [(vr (nat_lit 116)), (.type l63)], (nat_lit 115), c200, true, [], [(vr (nat_lit 142)), (vr (nat_lit 168))], false, none, false⟩), ⟨[none, none, some (vs c200 (nat_lit 309)), some (vs c200 (nat_lit 317)), some (.builtin l157), some (.bool true)]⟩⟩
abbrev o147_94 (P : Params) : Obj := ⟨(.type l0), none, (.dict ⟨[de P c202 (nat_lit 369) (vs c197 (nat_lit 301)), de P c203 (nat_lit 371) (vs c214 (nat_lit 370)), de P c204 (nat_lit 373) (vi (nat_lit 74) (nat_lit 372)), de P c209 (nat_lit 382) (vr (nat_lit 158)), de P c210 (nat_lit 392) (vr (nat_lit 165)), de P c205 (nat_lit 395) (vr (nat_lit 166))]⟩ (nat_lit 6)), ⟨[]⟩⟩
abbrev o149_95 (P : Params) : Obj := ⟨.none, none, (.fields ⟨[(vi (nat_lit 76) (nat_lit 0)), (vi (nat_lit 4) (nat_lit 0)), (vr (nat_lit 157)), (vi (nat_lit 80) (nat_lit 0)), (vi (nat_lit 4) (nat_lit 0)), (vr (nat_lit 164))]⟩), ⟨[]⟩⟩
abbrev o150_96 (P : Params) : Obj := ⟨(.type l152), none, (.fields ⟨[(vs c214 (nat_lit 364)), (vs c214 (nat_lit 365)), (vs c164 (nat_lit 366)), (vi (nat_lit 74) (nat_lit 0)), (vi (nat_lit 0) (nat_lit 0)), (vi (nat_lit 0) (nat_lit 0)), (vi (nat_lit 0) (nat_lit 0)), (vi (nat_lit 0) (nat_lit 0)), (vr (nat_lit 148)), (.bool false), (vi (nat_lit 181) (nat_lit 0)), (vr (nat_lit 149)), .none, .none, .none, .none, (vi (nat_lit 367) (nat_lit 0)), (vi (nat_lit 74) (nat_lit 0)), (vs c164 (nat_lit 368))]⟩), ⟨[]⟩⟩
abbrev o151_97 (P : Params) : Obj := ⟨(.type l153), none, .plain, ⟨[some (vr (nat_lit 150)), some (vr (nat_lit 3)), some (vr (nat_lit 147)), none, some (vs c197 (nat_lit 301)), none, some (vr (nat_lit 0))]⟩⟩
abbrev o154_98 (P : Params) : Obj := ⟨(.type l71), none, (.seq ⟨[(vs c211 (nat_lit 377)), (vs c187 (nat_lit 378)), (vs c188 (nat_lit 379))]⟩ (nat_lit 0)), ⟨[]⟩⟩
abbrev o156_99 (P : Params) : Obj := ⟨.none, none, (.func ⟨c209, c215, (fA (ic (tp 19) 0)), .stmts (fB (ic (tp 19) 0)), (fS (ic (tp 19) 0)), (nat_lit 0), [], .none, .none, .none, .none, none, .none, .none, (nat_lit 0)⟩), ⟨[]⟩⟩
abbrev o157_100 (P : Params) : Obj := ⟨(.type l152), none, (.fields ⟨[(vs c209 (nat_lit 374)), (vs c215 (nat_lit 375)), (vs c164 (nat_lit 376)), (vi (nat_lit 76) (nat_lit 0)), (vi (nat_lit 3) (nat_lit 0)), (vi (nat_lit 0) (nat_lit 0)), (vi (nat_lit 0) (nat_lit 0)), (vi (nat_lit 3) (nat_lit 0)), (vr (nat_lit 152)), (.bool true), (vi (nat_lit 181) (nat_lit 0)), (vr (nat_lit 153)), .none, (vr (nat_lit 154)), (vr (nat_lit 155)), (vr (nat_lit 156)), (vi (nat_lit 380) (nat_lit 0)), (vi (nat_lit 76) (nat_lit 0)), (vs c164 (nat_lit 381))]⟩), ⟨[]⟩⟩
abbrev o158_101 (P : Params) : Obj := ⟨(.type l154), none, (.func ⟨c209, c215, (fA (ic (tp 19) 0)), .stmts (fB (ic (tp 19) 0)), (fS (ic (tp 19) 0)), (nat_lit 3), [], .none, .none, .none, (vs c197 (nat_lit 301)), none, (vr (nat_lit 157)), .none, (nat_lit 0)⟩), ⟨[]⟩⟩
abbrev o161_102 (P : Params) : Obj := ⟨(.type l71), none, (.seq ⟨[(vs c211 (nat_lit 386)), (vs c216 (nat_lit 387)), (vs c217 (nat_lit 388)), (vs c218 (nat_lit 389))]⟩ (nat_lit 0)), ⟨[]⟩⟩
abbrev o163_103 (P : Params) : Obj := ⟨.none, none, (.func ⟨c210, c219, (fA (ic (tp 19) 1)), .stmts (fB (ic (tp 19) 1)), (fS (ic (tp 19) 1)), (nat_lit 0), [], .none, .none, .none, .none, none, .none, .none, (nat_lit 0)⟩), ⟨[]⟩⟩
abbrev o164_104 (P : Params) : Obj := ⟨(.type l152), none, (.fields ⟨[(vs c210 (nat_lit 383)), (vs c219 (nat_lit 384)), (vs c164 (nat_lit 385)), (vi (nat_lit 80) (nat_lit 0)), (vi (nat_lit 2) (nat_lit 0)), (vi (nat_lit 0) (nat_lit 0)), (vi (nat_lit 0) (nat_lit 0)), (vi (nat_lit 3) (nat_lit 0)), (vr (nat_lit 159)), (.bool true), (vi (nat_lit 181) (nat_lit 0)), (vr (nat_lit 160)), .none, (vr (nat_lit 161)), (vr (nat_lit 162)), (vr (nat_lit 163)), (vi (nat_lit 390) (nat_lit 0)), (vi (nat_lit 80) (nat_lit 0)), (vs c164 (nat_lit 391))]⟩), ⟨[]⟩⟩
abbrev o165_105 (P : Params) : Obj := ⟨(.type l154), none, (.func ⟨c210, c219, (fA (ic (tp 19) 1)), .stmts (fB (ic (tp 19) 1)), (fS (ic (tp 19) 1)), (nat_lit 3), [], .none, .none, .none, (vs c197 (nat_lit 301)), none, (vr (nat_lit 164)), .none, (nat_lit 0)⟩), ⟨[]⟩⟩
abbrev o166_106 (P : Params) : Obj := ⟨(.type l71), none, (.seq ⟨[(vs c187 (nat_lit 393)), (vs c188 (nat_lit 394))]⟩ (nat_lit 0)), ⟨[]⟩⟩
abbrev o167_107 (P : Params) : Obj := ⟨(.type l0), none, (.dict ⟨[de P c202 (nat_lit 369) (vs c197 (nat_lit 301)), de P c204 (nat_lit 373) (vi (nat_lit 74) (nat_lit 372)), de P c209 (nat_lit 382) (vr (nat_lit 158)), de P c210 (nat_lit 392) (vr (nat_lit 165)), de P c205 (nat_lit 395) (vr (nat_lit 166)), de P c2 (nat_lit 396) .none]⟩ (nat_lit 2)), ⟨[]⟩⟩
abbrev o168_108 (P : Params) : Obj := ⟨(.type l72), none, (.cls ⟨c214, [(vr (nat_lit 116))], [(vr (nat_lit 168)), (vr (nat_lit 116)), (.type l63)], (nat_lit 167), c214, true, [], [], false, none, false⟩), ⟨[some (vr (nat_lit 145)), none, some (vs c214 (nat_lit 362)), some (vs c214 (nat_lit 370)), some (.builtin l157), some (.bool true)]⟩⟩
abbrev o169_109 (P : Params) : Obj := ⟨(.type l70), none, (.fields ⟨[(vr (nat_lit 168)), (vr (nat_lit 168)), (vr (nat_lit 168))]⟩), ⟨[]⟩⟩
abbrev o170_110 (P : Params) : Obj := ⟨(.type l155), none, (.fields ⟨[(.builtin l162), (vr (nat_lit 168))]⟩), ⟨[]⟩⟩
abbrev o3_111 (P : Params) : Obj := ⟨(.type l0), none, (.dict ⟨[de P c0 (nat_lit 165) (vs c197 (nat_lit 301)), de P c2 (nat_lit 166) .none, de P c3 (nat_lit 167) .none, de P c4 (nat_lit 168) (.builtin l150), de P c5 (nat_lit 169) .none, de P c161 (nat_lit 170) (vr (nat_lit 6)), de P c162 (nat_lit 171) (vr (nat_lit 4)), de P c163 (nat_lit 173) (vs c164 (nat_lit 172)), de P c165 (nat_lit 174) .none, de P c168 (nat_lit 193) (vr (nat_lit 21)), de P c169 (nat_lit 197) (vi (nat_lit 1000000) (nat_lit 196)), de P c170 (nat_lit 204) (vr (nat_lit 28)), de P c171 (nat_lit 211) (vr (nat_lit 35)), de P c172 (nat_lit 217) (vr (nat_lit 40)), de P c173 (nat_lit 225) (vr (nat_lit 47)), de P c174 (nat_lit 232) (vr (nat_lit 54)), de P c175 (nat_lit 238) (vr (nat_lit 59)), de P c176 (nat_lit 246) (vr (nat_lit 66)), de P c177 (nat_lit 255) (vr (nat_lit 73)), de P c178 (nat_lit 266) (vr (nat_lit 80)), de P c179 (nat_lit 282) (vr (nat_lit 87)), de P c180 (nat_lit 291) (vr (nat_lit 94)), de P c198 (nat_lit 300) (vr (nat_lit 101)), de P c199 (nat_lit 308) (vr (nat_lit 106)), de P c200 (nat_lit 328) (vr (nat_lit 116)), de P c208 (nat_lit 361) (vr (nat_lit 142)), de P c214 (nat_lit 398) (vr (nat_lit 168)), de P c220 (nat_lit 433) (vr (nat_lit 194))]⟩ (nat_lit 28)), ⟨[]⟩⟩
abbrev o12_112 (P : Params) : Obj := ⟨.none, none, (.fields ⟨(((vi (nat_lit 1) (nat_lit 0))) :: ((vi (nat_lit 0) (nat_lit 0))) :: ((vr (nat_lit 20))) :: ((vi (nat_lit 6) (nat_lit 0))) :: ((vi (nat_lit 0) (nat_lit 0))) :: ((vr (nat_lit 27))) :: ((vi (nat_lit 8) (nat_lit 0))) :: ((vi (nat_lit 0) (nat_lit 0))) :: ((vr (nat_lit 34))) :: ((vi (nat_lit 10) (nat_lit 0))) :: ((vi (nat_lit 0) (nat_lit 0))) :: ((vr (nat_lit 39))) :: ((vi (nat_lit 12) (nat_lit 0))) :: ((vi (nat_lit 0) (nat_lit 0))) :: ((vr (nat_lit 46))) :: ((vi (nat_lit 14) (nat_lit 0))) :: ((vi (nat_lit 0) (nat_lit 0))) :: ((vr (nat_lit 53))) :: ((vi (nat_lit 16) (nat_lit 0))) :: ((vi (nat_lit 0) (nat_lit 0))) :: ((vr (nat_lit 58))) :: ((vi (nat_lit 18) (nat_lit 0))) :: ((vi (nat_lit 0) (nat_lit 0))) :: ((vr (nat_lit 65))) :: ((vi (nat_lit 20) (nat_lit 0))) :: ((vi (nat_lit 0) (nat_lit 0))) :: ((vr (nat_lit 72))) :: ((vi (nat_lit 22) (nat_lit 0))) :: ((vi (nat_lit 0) (nat_lit 0))) :: ((vr (nat_lit 79))) :: ((vi (nat_lit 30) (nat_lit 0))) :: ((vi (nat_lit 0) (nat_lit 0))) :: ((vr (nat_lit 86))) :: ((vi (nat_lit 47) (nat_lit 0))) :: ((vi (nat_lit 0) (nat_lit 0))) :: ((vr (nat_lit 93))) :: ((vi (nat_lit 52) (nat_lit 0))) :: ((vi (nat_lit 0) (nat_lit 0))) :: ((vr (nat_lit 100))) :: ((vi (nat_lit 58) (nat_lit 0))) :: ((vi (nat_lit 0) (nat_lit 0))) :: ((vr (nat_lit 105))) :: ((vi (nat_lit 60) (nat_lit 0))) :: ((vi (nat_lit 0) (nat_lit 0))) :: ((vr (nat_lit 112))) :: ((vi (nat_lit 62) (nat_lit 0))) :: ((vi (nat_lit 0) (nat_lit 0))) :: ((vr (nat_lit 126))) :: ((vi (nat_lit 74) (nat_lit 0))) :: ((vi (nat_lit 0) (nat_lit 0))) :: ((vr (nat_lit 150))) :: ((vi (nat_lit 86) (nat_lit 0))) :: ((vi (nat_lit 0) (nat_lit 0))) :: ((vr (nat_lit 176))) :: [])⟩), ⟨[]⟩⟩
abbrev o116_113 (P : Params) : Obj := ⟨(.type l72), none, (.cls ⟨c200, [(.type l63)], [(vr (nat_lit 116)), (.type l63)], (nat_lit 115), c200, true, [], [(vr (nat_lit 142)), (vr (nat_lit 168)), (vr (nat_lit 194))], false, none, false⟩), ⟨[none, none, some (vs c200 (nat_lit 309)), some (vs c200 (nat_lit 317)), some (.builtin l157), some (.bool true)]⟩⟩
abbrev o173_114 (P : Params) : Obj := ⟨(.type l0), none, (.dict ⟨[de P c202 (nat_lit 406) (vs c197 (nat_lit 301)), de P c203 (nat_lit 408) (vs c220 (nat_lit 407)), de P c204 (nat_lit 410) (vi (nat_lit 86) (nat_lit 409)), de P c209 (nat_lit 419) (vr (nat_lit 184)), de P c210 (nat_lit 427) (vr (nat_lit 191)), de P c205 (nat_lit 430) (vr (nat_lit 192))]⟩ (nat_lit 6)), ⟨[]⟩⟩
abbrev o175_115 (P : Params) : Obj := ⟨.none, none, (.fields ⟨[(vi (nat_lit 88) (nat_lit 0)), (vi (nat_lit 4) (nat_lit 0)), (vr (nat_lit 183)), (vi (nat_lit 92) (nat_lit 0)), (vi (nat_lit 4) (nat_lit 0)), (vr (nat_lit 190))]⟩), ⟨[]⟩⟩
abbrev o176_116 (P : Params) : Obj := ⟨(.type l152), none, (.fields ⟨[(vs c220 (nat_lit 401)), (vs c220 (nat_lit 402)), (vs c164 (nat_lit 403)), (vi (nat_lit 86) (nat_lit 0)), (vi (nat_lit 0) (nat_lit 0)), (vi (nat_lit 0) (nat_lit 0)), (vi (nat_lit 0) (nat_lit 0)), (vi (nat_lit 0) (nat_lit 0)), (vr (nat_lit 174)), (.bool false), (vi (nat_lit 181) (nat_lit 0)), (vr (nat_lit 175)), .none, .none, .none, .none, (vi (nat_lit 404) (nat_lit 0)), (vi (nat_lit 86) (nat_lit 0)), (vs c164 (nat_lit 405))]⟩), ⟨[]⟩⟩
abbrev o177_117 (P : Params) : Obj := ⟨(.type l153), none, .plain, ⟨[some (vr (nat_lit 176)), some (vr (nat_lit 3)), some (vr (nat_lit 173)), none, some (vs c197 (nat_lit 301)), none, some (vr (nat_lit 0))]⟩⟩
abbrev o180_118 (P : Params) : Obj := ⟨(.type l71), none, (.seq ⟨[(vs c211 (nat_lit 414)), (vs c184 (nat_lit 415)), (vs c221 (nat_lit 416))]⟩ (nat_lit 0)), ⟨[]⟩⟩
abbrev o182_119 (P : Params) : Obj := ⟨.none, none, (.func ⟨c209, c222, (fA (ic (tp 20) 0)), .stmts (fB (ic (tp 20) 0)), (fS (ic (tp 20) 0)), (nat_lit 0), [], .none, .none, .none, .none, none, .none, .none, (nat_lit 0)⟩), ⟨[]⟩⟩
abbrev o183_120 (P : Params) : Obj := ⟨(.type l152), none, (.fields ⟨[(vs c209 (nat_lit 411)), (vs c222 (nat_lit 412)), (vs c164 (nat_lit 413)), (vi (nat_lit 88) (nat_lit 0)), (vi (nat_lit 3) (nat_lit 0)), (vi (nat_lit 0) (nat_lit 0)), (vi (nat_lit 0) (nat_lit 0)), (vi (nat_lit 3) (nat_lit 0)), (vr (nat_lit 178)), (.bool true), (vi (nat_lit 181) (nat_lit 0)), (vr (nat_lit 179)), .none, (vr (nat_lit 180)), (vr (nat_lit 181)), (vr (nat_lit 182)), (vi (nat_lit 417) (nat_lit 0)), (vi (nat_lit 88) (nat_lit 0)), (vs c164 (nat_lit 418))]⟩), ⟨[]⟩⟩
abbrev o184_121 (P : Params) : Obj := ⟨(.type l154), none, (.func ⟨c209, c222, (fA (ic (tp 20) 0)), .stmts (fB (ic (tp 20) 0)), (fS (ic (tp 20) 0)), (nat_lit 3), [], .none, .none, .none, (vs c197 (nat_lit 301)), none, (vr (nat_lit 183)), .none, (nat_lit 0)⟩), ⟨[]⟩⟩
abbrev o187_122 (P : Params) : Obj := ⟨(.type l71), none, (.seq ⟨[(vs c211 (nat_lit 423)), (vs c196 (nat_lit 424))]⟩ (nat_lit 0)), ⟨[]⟩⟩
abbrev o189_123 (P : Params) : Obj := ⟨.none, none, (.func ⟨c210, c223, (fA (ic (tp 20) 1)), .stmts (fB (ic (tp 20) 1)), (fS (ic (tp 20) 1)), (nat_lit 0), [], .none, .none, .none, .none, none, .none, .none, (nat_lit 0)⟩), ⟨[]⟩⟩
abbrev o190_124 (P : Params) : Obj := ⟨(.type l152), none, (.fields ⟨[(vs c210 (nat_lit 420)), (vs c223 (nat_lit 421)), (vs c164 (nat_lit 422)), (vi (nat_lit 92) (nat_lit 0)), (vi (nat_lit 2) (nat_lit 0)), (vi (nat_lit 0) (nat_lit 0)), (vi (nat_lit 0) (nat_lit 0)), (vi (nat_lit 3) (nat_lit 0)), (vr (nat_lit 185)), (.bool true), (vi (nat_lit 181) (nat_lit 0)), (vr (nat_lit 186)), .none, (vr (nat_lit 187)), (vr (nat_lit 188)), (vr (nat_lit 189)), (vi (nat_lit 425) (nat_lit 0)), (vi (nat_lit 92) (nat_lit 0)), (vs c164 (nat_lit 426))]⟩), ⟨[]⟩⟩
abbrev o191_125 (P : Params) : Obj := ⟨(.type l154), none, (.func ⟨c210, c223, (fA (ic (tp 20) 1)), .stmts (fB (ic (tp 20) 1)), (fS (ic (tp 20) 1)), (nat_lit 3), [], .none, .none, .none, (vs c197 (nat_lit 301)), none, (vr (nat_lit 190)), .none, (nat_lit 0)⟩), ⟨[]⟩⟩
abbrev o192_126 (P : Params) : Obj := ⟨(.type l71), none, (.seq ⟨[(vs c184 (nat_lit 428)), (vs c221 (nat_lit 429))]⟩ (nat_lit 0)), ⟨[]⟩⟩
abbrev o193_127 (P : Params) : Obj := ⟨(.type l0), none, (.dict ⟨[de P c202 (nat_lit 406) (vs c197 (nat_lit 301)), de P c204 (nat_lit 410) (vi (nat_lit 86) (nat_lit 409)), de P c209 (nat_lit 419) (vr (nat_lit 184)), de P c210 (nat_lit 427) (vr (nat_lit 191)), de P c205 (nat_lit 430) (vr (nat_lit 192)), de P c2 (nat_lit 431) .none]⟩ (nat_lit 2)), ⟨[]⟩⟩
abbrev o194_128 (P : Params) : Obj := ⟨(.type l72), none, (.cls ⟨c220, [(vr (nat_lit 116))], [(vr (nat_lit 194)), (vr (nat_lit 116)), (.type l63)], (nat_lit 193), c220, true, [], [], false, none, false⟩), ⟨[some (vr (nat_lit 171)), none, some (vs c220 (nat_lit 399)), some (vs c220 (nat_lit 407)), some (.builtin l157), some (.bool true)]⟩⟩
abbrev o195_129 (P : Params) : Obj := ⟨(.type l70), none, (.fields ⟨[(vr (nat_lit 194)), (vr (nat_lit 194)), (vr (nat_lit 194))]⟩), ⟨[]⟩⟩
abbrev o196_130 (P : Params) : Obj := ⟨(.type l155), none, (.fields ⟨[(.builtin l162), (vr (nat_lit 194))]⟩), ⟨[]⟩⟩
abbrev o3_131 (P : Params) : Obj := ⟨(.type l0), none, (.dict ⟨[de P c0 (nat_lit 165) (vs c197 (nat_lit 301)), de P c2 (nat_lit 166) .none, de P c3 (nat_lit 167) .none, de P c4 (nat_lit 168) (.builtin l150), de P c5 (nat_lit 169) .none, de P c161 (nat_lit 170) (vr (nat_lit 6)), de P c162 (nat_lit 171) (vr (nat_lit 4)), de P c163 (nat_lit 173) (vs c164 (nat_lit 172)), de P c165 (nat_lit 174) .none, de P c168 (nat_lit 193) (vr (nat_lit 21)), de P c169 (nat_lit 197) (vi (nat_lit 1000000) (nat_lit 196)), de P c170 (nat_lit 204) (vr (nat_lit 28)), de P c171 (nat_lit 211) (vr (nat_lit 35)), de P c172 (nat_lit 217) (vr (nat_lit 40)), de P c173 (nat_lit 225) (vr (nat_lit 47)), de P c174 (nat_lit 232) (vr (nat_lit 54)), de P c175 (nat_lit 238) (vr (nat_lit 59)), de P c176 (nat_lit 246) (vr (nat_lit 66)), de P c177 (nat_lit 255) (vr (nat_lit 73)), de P c178 (nat_lit 266) (vr (nat_lit 80)), de P c179 (nat_lit 282) (vr (nat_lit 87)), de P c180 (nat_lit 291) (vr (nat_lit 94)), de P c198 (nat_lit 300) (vr (nat_lit 101)), de P c199 (nat_lit 308) (vr (nat_lit 106)), de P c200 (nat_lit 328) (vr (nat_lit 116)), de P c208 (nat_lit 361) (vr (nat_lit 142)), de P c214 (nat_lit 398) (vr (nat_lit 168)), de P c220 (nat_lit 433) (vr (nat_lit 194)), de P c224 (nat_lit 464) (vr (nat_lit 218))]⟩ (nat_lit 29)), ⟨[]⟩⟩
abbrev o12_132 (P : Params) : Obj := ⟨.none, none, (.fields ⟨(((vi (nat_lit 1) (nat_lit 0))) :: ((vi (nat_lit 0) (nat_lit 0))) :: ((vr (nat_lit 20))) :: ((vi (nat_lit 6) (nat_lit 0))) :: ((vi (nat_lit 0) (nat_lit 0))) :: ((vr (nat_lit 27))) :: ((vi (nat_lit 8) (nat_lit 0))) :: ((vi (nat_lit 0) (nat_lit 0))) :: ((vr (nat_lit 34))) :: ((vi (nat_lit 10) (nat_lit 0))) :: ((vi (nat_lit 0) (nat_lit 0))) :: ((vr (nat_lit 39))) :: ((vi (nat_lit 12) (nat_lit 0))) :: ((vi (nat_lit 0) (nat_lit 0))) :: ((vr (nat_lit 46))) :: ((vi (nat_lit 14) (nat_lit 0))) :: ((vi (nat_lit 0) (nat_lit 0))) :: ((vr (nat_lit 53))) :: ((vi (nat_lit 16) (nat_lit 0))) :: ((vi (nat_lit 0) (nat_lit 0))) :: ((vr (nat_lit 58))) :: ((vi (nat_lit 18) (nat_lit 0))) :: ((vi (nat_lit 0) (nat_lit 0))) :: ((vr (nat_lit 65))) :: ((vi (nat_lit 20) (nat_lit 0))) :: ((vi (nat_lit 0) (nat_lit 0))) :: ((vr (nat_lit 72))) :: ((vi (nat_lit 22) (nat_lit 0))) :: ((vi (nat_lit 0) (nat_lit 0))) :: ((vr (nat_lit 79))) :: ((vi (nat_lit 30) (nat_lit 0))) :: ((vi (nat_lit 0) (nat_lit 0))) :: ((vr (nat_lit 86))) :: ((vi (nat_lit 47) (nat_lit 0))) :: ((vi (nat_lit 0) (nat_lit 0))) :: ((vr (nat_lit 93))) :: ((vi (nat_lit 52) (nat_lit 0))) :: ((vi (nat_lit 0) (nat_lit 0))) :: ((vr (nat_lit 100))) :: ((vi (nat_lit 58) (nat_lit 0))) :: ((vi (nat_lit 0) (nat_lit 0))) :: ((vr (nat_lit 105))) :: ((vi (nat_lit 60) (nat_lit 0))) :: ((vi (nat_lit 0) (nat_lit 0))) :: ((vr (nat_lit 112))) :: ((vi (nat_lit 62) (nat_lit 0))) :: ((vi (nat_lit 0) (nat_lit 0))) :: ((vr (nat_lit 126))) :: ((vi (nat_lit 74) (nat_lit 0))) :: ((vi (nat_lit 0) (nat_lit 0))) :: ((vr (nat_lit 150))) :: ((vi (nat_lit 86) (nat_lit 0))) :: ((vi (nat_lit 0) (nat_lit 0))) :: ((vr (nat_lit 176))) :: ((vi (nat_lit 96) (nat_lit 0))) :: ((vi (nat_lit 0) (nat_lit 0))) :: ((vr (nat_lit 202))) :: [])⟩), ⟨[]⟩⟩
abbrev o116_133 (P : Params) : Obj := ⟨(.type l72), none, (.cls ⟨c200, [(.type l63)], [(vr (nat_lit 116)), (.type l63)], (nat_lit 115), c200, true, [], [(vr (nat_lit 142)), (vr (nat_lit 168)), (vr (nat_lit 194)), (vr (nat_lit 218))], false, none, false⟩), ⟨[none, none, some (vs c200 (nat_lit 309)), some (vs c200 (nat_lit 317)), some (.builtin l157), some (.bool true)]⟩⟩
abbrev o199_134 (P : Params) : Obj := ⟨(.type l0), none, (.dict ⟨[de P c202 (nat_lit 441) (vs c197 (nat_lit 301)), de P c203 (nat_lit 443) (vs c224 (nat_lit 442)), de P c204 (nat_lit 445) (vi (nat_lit 96) (nat_lit 444)), de P c209 (nat_lit 453) (vr (nat_lit 210)), de P c210 (nat_lit 459) (vr (nat_lit 215)), de P c205 (nat_lit 461) (vr (nat_lit 216))]⟩ (nat_lit 6)), ⟨[]⟩⟩
abbrev o201_135 (P : Params) : Obj := ⟨.none, none, (.fields ⟨[(vi (nat_lit 98) (nat_lit 0)), (vi (nat_lit 4) (nat_lit 0)), (vr (nat_lit 209)), (vi (nat_lit 101) (nat_lit 0)), (vi (nat_lit 4) (nat_lit 0)), (vr (nat_lit 214))]⟩), ⟨[]⟩⟩
abbrev o202_136 (P : Params) : Obj := ⟨(.type l152), none, (.fields ⟨[(vs c224 (nat_lit 436)), (vs c224 (nat_lit 437)), (vs c164 (nat_lit 438)), (vi (nat_lit 96) (nat_lit 0)), (vi (nat_lit 0) (nat_lit 0)), (vi (nat_lit 0) (nat_lit 0)), (vi (nat_lit 0) (nat_lit 0)), (vi (nat_lit 0) (nat_lit 0)), (vr (nat_lit 200)), (.bool false), (vi (nat_lit 181) (nat_lit 0)), (vr (nat_lit 201)), .none, .none, .none, .none, (vi (nat_lit 439) (nat_lit 0)), (vi (nat_lit 96) (nat_lit 0)), (vs c164 (nat_lit 440))]⟩), ⟨[]⟩⟩
abbrev o203_137 (P : Params) : Obj := ⟨(.type l153), none, .plain, ⟨[some (vr (nat_lit 202)), some (vr (nat_lit 3)), some (vr (nat_lit 199)), none, some (vs c197 (nat_lit 301)), none, some (vr (nat_lit 0))]⟩⟩
abbrev o206_138 (P : Params) : Obj := ⟨(.type l71), none, (.seq ⟨[(vs c211 (nat_lit 449)), (vs c221 (nat_lit 450))]⟩ (nat_lit 0)), ⟨[]⟩⟩
abbrev o208_139 (P : Params) : Obj := ⟨.none, none, (.func ⟨c209, c225, (fA (ic (tp 21) 0)), .stmts (fB (ic (tp 21) 0)), (fS (ic (tp 21) 0)), (nat_lit 0), [], .none, .none, .none, .none, none, .none, .none, (nat_lit 0)⟩), ⟨[]⟩⟩
abbrev o209_140 (P : Params) : Obj := ⟨(.type l152), none, (.fields ⟨[(vs c209 (nat_lit 446)), (vs c225 (nat_lit 447)), (vs c164 (nat_lit 448)), (vi (nat_lit 98) (nat_lit 0)), (vi (nat_lit 2) (nat_lit 0)), (vi (nat_lit 0) (nat_lit 0)), (vi (nat_lit 0) (nat_lit 0)), (vi (nat_lit 3) (nat_lit 0)), (vr (nat_lit 204)), (.bool true), (vi (nat_lit 181) (nat_lit 0)), (vr (nat_lit 205)), .none, (vr (nat_lit 206)), (vr (nat_lit 207)), (vr (nat_lit 208)), (vi (nat_lit 451) (nat_lit 0)), (vi (nat_lit 98) (nat_lit 0)), (vs c164 (nat_lit 452))]⟩), ⟨[]⟩⟩
abbrev o210_141 (P : Params) : Obj := ⟨(.type l154), none, (.func ⟨c209, c225, (fA (ic (tp 21) 0)), .stmts (fB (ic (tp 21) 0)), (fS (ic (tp 21) 0)), (nat_lit 3), [], .none, .none, .none, (vs c197 (nat_lit 301)), none, (vr (nat_lit 209)), .none, (nat_lit 0)⟩), ⟨[]⟩⟩
abbrev o213_142 (P : Params) : Obj := ⟨.none, none, (.func ⟨c210, c226, (fA (ic (tp 21) 1)), .stmts (fB (ic (tp 21) 1)), (fS (ic (tp 21) 1)), (nat_lit 0), [], .none, .none, .none, .none, none, .none, .none, (nat_lit 0)⟩), ⟨[]⟩⟩
abbrev o214_143 (P : Params) : Obj := ⟨(.type l152), none, (.fields ⟨[(vs c210 (nat_lit 454)), (vs c226 (nat_lit 455)), (vs c164 (nat_lit 456)), (vi (nat_lit 101) (nat_lit 0)), (vi (nat_lit 4) (nat_lit 0)), (vi (nat_lit 0) (nat_lit 0)), (vi (nat_lit 0) (nat_lit 0)), (vi (nat_lit 3) (nat_lit 0)), (vr (nat_lit 211)), (.bool true), (vi (nat_lit 181) (nat_lit 0)), (vr (nat_lit 212)), .none, .none, .none, (vr (nat_lit 213)), (vi (nat_lit 457) (nat_lit 0)), (vi (nat_lit 101) (nat_lit 0)), (vs c164 (nat_lit 458))]⟩), ⟨[]⟩⟩
abbrev o215_144 (P : Params) : Obj := ⟨(.type l154), none, (.func ⟨c210, c226, (fA (ic (tp 21) 1)), .stmts (fB (ic (tp 21) 1)), (fS (ic (tp 21) 1)), (nat_lit 3), [], .none, .none, .none, (vs c197 (nat_lit 301)), none, (vr (nat_lit 214)), .none, (nat_lit 0)⟩), ⟨[]⟩⟩
abbrev o216_145 (P : Params) : Obj := ⟨(.type l71), none, (.seq ⟨[(vs c221 (nat_lit 460))]⟩ (nat_lit 0)), ⟨[]⟩⟩
abbrev o217_146 (P : Params) : Obj := ⟨(.type l0), none, (.dict ⟨[de P c202 (nat_lit 441) (vs c197 (nat_lit 301)), de P c204 (nat_lit 445) (vi (nat_lit 96) (nat_lit 444)), de P c209 (nat_lit 453) (vr (nat_lit 210)), de P c210 (nat_lit 459) (vr (nat_lit 215)), de P c205 (nat_lit 461) (vr (nat_lit 216)), de P c2 (nat_lit 462) .none]⟩ (nat_lit 2)), ⟨[]⟩⟩
abbrev o218_147 (P : Params) : Obj := ⟨(.type l72), none, (.cls ⟨c224, [(vr (nat_lit 116))], [(vr (nat_lit 218)), (vr (nat_lit 116)), (.type l63)], (nat_lit 217), c224, true, [], [], false, none, false⟩), ⟨[some (vr (nat_lit 197)), none, some (vs c224 (nat_lit 434)), some (vs c224 (nat_lit 442)), some (.builtin l157), some (.bool true)]⟩⟩
abbrev o219_148 (P : Params) : Obj := ⟨(.type l70), none, (.fields ⟨[(vr (nat_lit 218)), (vr (nat_lit 218)), (vr (nat_lit 218))]⟩), ⟨[]⟩⟩
abbrev o220_149 (P : Params) : Obj := ⟨(.type l155), none, (.fields ⟨[(.builtin l162), (vr (nat_lit 218))]⟩), ⟨[]⟩⟩
abbrev o3_150 (P : Params) : Obj := ⟨(.type l0), none, (.dict ⟨[de P c0 (nat_lit 165) (vs c197 (nat_lit 301)), de P c2 (nat_lit 166) .none, de P c3 (nat_lit 167) .none, de P c4 (nat_lit 168) (.builtin l150), de P c5 (nat_lit 169) .none, de P c161 (nat_lit 170) (vr (nat_lit 6)), de P c162 (nat_lit 171) (vr (nat_lit 4)), de P c163 (nat_lit 173) (vs c164 (nat_lit 172)), de P c165 (nat_lit 174) .none, de P c168 (nat_lit 193) (vr (nat_lit 21)), de P c169 (nat_lit 197) (vi (nat_lit 1000000) (nat_lit 196)), de P c170 (nat_lit 204) (vr (nat_lit 28)), de P c171 (nat_lit 211) (vr (nat_lit 35)), de P c172 (nat_lit 217) (vr (nat_lit 40)), de P c173 (nat_lit 225) (vr (nat_lit 47)), de P c174 (nat_lit 232) (vr (nat_lit 54)), de P c175 (nat_lit 238) (vr (nat_lit 59)), de P c176 (nat_lit 246) (vr (nat_lit 66)), de P c177 (nat_lit 255) (vr (nat_lit 73)), de P c178 (nat_lit 266) (vr (nat_lit 80)), de P c179 (nat_lit 282) (vr (nat_lit 87)), de P c180 (nat_lit 291) (vr (nat_lit 94)), de P c198 (nat_lit 300) (vr (nat_lit 101)), de P c199 (nat_lit 308) (vr (nat_lit 106)), de P c200 (nat_lit 328) (vr (nat_lit 116)), de P c208 (nat_lit 361) (vr (nat_lit 142)), de P c214 (nat_lit 398) (vr (nat_lit 168)), de P c220 (nat_lit 433) (vr (nat_lit 194)), de P c224 (nat_lit 464) (vr (nat_lit 218)), de P c227 (nat_lit 504) (vr (nat_lit 249))]⟩ (nat_lit 30)), ⟨[]⟩⟩
abbrev o12_151 (P : Params) : Obj := ⟨.none, none, (.fields ⟨(((vi (nat_lit 1) (nat_lit 0))) :: ((vi (nat_lit 0) (nat_lit 0))) :: ((vr (nat_lit 20))) :: ((vi (nat_lit 6) (nat_lit 0))) :: ((vi (nat_lit 0) (nat_lit 0))) :: ((vr (nat_lit 27))) :: ((vi (nat_lit 8) (nat_lit 0))) :: ((vi (nat_lit 0) (nat_lit 0))) :: ((vr (nat_lit 34))) :: ((vi (nat_lit 10) (nat_lit 0))) :: ((vi (nat_lit 0) (nat_lit 0))) :: ((vr (nat_lit 39))) :: ((vi (nat_lit 12) (nat_lit 0))) :: ((vi (nat_lit 0) (nat_lit 0))) :: ((vr (nat_lit 46))) :: ((vi (nat_lit 14) (nat_lit 0))) :: ((vi (nat_lit 0) (nat_lit 0))) :: ((vr (nat_lit 53))) :: ((vi (nat_lit 16) (nat_lit 0))) :: ((vi (nat_lit 0) (nat_lit 0))) :: ((vr (nat_lit 58))) :: ((vi (nat_lit 18) (nat_lit 0))) :: ((vi (nat_lit 0) (nat_lit 0))) :: ((vr (nat_lit 65))) :: ((vi (nat_lit 20) (nat_lit 0))) :: ((vi (nat_lit 0) (nat_lit 0))) :: ((vr (nat_lit 72))) :: ((vi (nat_lit 22) (nat_lit 0))) :: ((vi (nat_lit 0) (nat_lit 0))) :: ((vr (nat_lit 79))) :: ((vi (nat_lit 30) (nat_lit 0))) :: ((vi (nat_lit 0) (nat_lit 0))) :: ((vr (nat_lit 86))) :: ((vi (nat_lit 47) (nat_lit 0))) :: ((vi (nat_lit 0) (nat_lit 0))) :: ((vr (nat_lit 93))) :: ((vi (nat_lit 52) (nat_lit 0))) :: ((vi (nat_lit 0) (nat_lit 0))) :: ((vr (nat_lit 100))) :: ((vi (nat_lit 58) (nat_lit 0))) :: ((vi (nat_lit 0) (nat_lit 0))) :: ((vr (nat_lit 105))) :: ((vi (nat_lit 60) (nat_lit 0))) :: ((vi (nat_lit 0) (nat_lit 0))) :: ((vr (nat_lit 112))) :: ((vi (nat_lit 62) (nat_lit 0))) :: ((vi (nat_lit 0) (nat_lit 0))) :: ((vr (nat_lit 126))) :: ((vi (nat_lit 74) (nat_lit 0))) :: ((vi (nat_lit 0) (nat_lit 0))) :: ((vr (nat_lit 150))) :: ((vi (nat_lit 86) (nat_lit 0))) :: ((vi (nat_lit 0) (nat_lit 0))) :: ((vr (nat_lit 176))) :: ((vi (nat_lit 96) (nat_lit 0))) :: ((vi (nat_lit 0) (nat_lit 0))) :: ((vr (nat_lit 202))) :: ((vi (nat_lit 107) (nat_lit 0))) :: ((vi (nat_lit 0) (nat_lit 0))) :: ((vr (nat_lit 226))) :: [])⟩), ⟨[]⟩⟩
abbrev o116_152 (P : Params) : Obj := ⟨(.type l72), none, (.cls ⟨c200, [(.type l63)], [(vr (nat_lit 116)), (.type l63)], (nat_lit 115), c200, true, [], [(vr (nat_lit 142)), (vr (nat_lit 168)), (vr (nat_lit 194)), (vr (nat_lit 218)), (vr (nat_lit 249))], false, none, false⟩), ⟨[none, none, some (vs c200 (nat_lit 309)), some (vs c200 (nat_lit 317)), some (.builtin l157), some (.bool true)]⟩⟩
abbrev o223_153 (P : Params) : Obj := ⟨(.type l0), none, (.dict ⟨[de P c202 (nat_lit 472) (vs c197 (nat_lit 301)), de P c203 (nat_lit 474) (vs c227 (nat_lit 473)), de P c204 (nat_lit 476) (vi (nat_lit 107) (nat_lit 475)), de P c209 (nat_lit 484) (vr (nat_lit 234)), de P c210 (nat_lit 490) (vr (nat_lit 239)), de P c228 (nat_lit 499) (vr (nat_lit 246)), de P c205 (nat_lit 501) (vr (nat_lit 247))]⟩ (nat_lit 7)), ⟨[]⟩⟩
abbrev o225_154 (P : Params) : Obj := ⟨.none, none, (.fields ⟨[(vi (nat_lit 109) (nat_lit 0)), (vi (nat_lit 4) (nat_lit 0)), (vr (nat_lit 233)), (vi (nat_lit 112) (nat_lit 0)), (vi (nat_lit 4) (nat_lit 0)), (vr (nat_lit 238)), (vi (nat_lit 117) (nat_lit 0)), (vi (nat_lit 4) (nat_lit 0)), (vr (nat_lit 245))]⟩), ⟨[]⟩⟩
abbrev o226_155 (P : Params) : Obj := ⟨(.type l152), none, (.fields ⟨[(vs c227 (nat_lit 467)), (vs c227 (nat_lit 468)), (vs c164 (nat_lit 469)), (vi (nat_lit 107) (nat_lit 0)), (vi (nat_lit 0) (nat_lit 0)), (vi (nat_lit 0) (nat_lit 0)), (vi (nat_lit 0) (nat_lit 0)), (vi (nat_lit 0) (nat_lit 0)), (vr (nat_lit 224)), (.bool false), (vi (nat_lit 181) (nat_lit 0)), (vr (nat_lit 225)), .none, .none, .none, .none, (vi (nat_lit 470) (nat_lit 0)), (vi (nat_lit 107) (nat_lit 0)), (vs c164 (nat_lit 471))]⟩), ⟨[]⟩⟩
abbrev o227_156 (P : Params) : Obj := ⟨(.type l153), none, .plain, ⟨[some (vr (nat_lit 226)), some (vr (nat_lit 3)), some (vr (nat_lit 223)), none, some (vs c197 (nat_lit 301)), none, some (vr (nat_lit 0))]⟩⟩
abbrev o230_157 (P : Params) : Obj := ⟨(.type l71), none, (.seq ⟨[(vs c211 (nat_lit 480)), (vs c184 (nat_lit 481))]⟩ (nat_lit 0)), ⟨[]⟩⟩
abbrev o232_158 (P : Params) : Obj := ⟨.none, none, (.func ⟨c209, c229, (fA (ic (tp 22) 0)), .stmts (fB (ic (tp 22) 0)), (fS (ic (tp 22) 0)), (nat_lit 0), [], .none, .none, .none, .none, none, .none, .none, (nat_lit 0)⟩), ⟨[]⟩⟩
abbrev o233_159 (P : Params) : Obj := ⟨(.type l152), none, (.fields ⟨[(vs c209 (nat_lit 477)), (vs c229 (nat_lit 478)), (vs c164 (nat_lit 479)), (vi (nat_lit 109) (nat_lit 0)), (vi (nat_lit 2) (nat_lit 0)), (vi (nat_lit 0) (nat_lit 0)), (vi (nat_lit 0) (nat_lit 0)), (vi (nat_lit 3) (nat_lit 0)), (vr (nat_lit 228)), (.bool true), (vi (nat_lit 181) (nat_lit 0)), (vr (nat_lit 229)), .none, (vr (nat_lit 230)), (vr (nat_lit 231)), (vr (nat_lit 232)), (vi (nat_lit 482) (nat_lit 0)), (vi (nat_lit 109) (nat_lit 0)), (vs c164 (nat_lit 483))]⟩), ⟨[]⟩⟩
abbrev o234_160 (P : Params) : Obj := ⟨(.type l154), none, (.func ⟨c209, c229, (fA (ic (tp 22) 0)), .stmts (fB (ic (tp 22) 0)), (fS (ic (tp 22) 0)), (nat_lit 3), [], .none, .none, .none, (vs c197 (nat_lit 301)), none, (vr (nat_lit 233)), .none, (nat_lit 0)⟩), ⟨[]⟩⟩
abbrev o237_161 (P : Params) : Obj := ⟨.none, none, (.func ⟨c210, c230, (fA (ic (tp 22) 1)), .stmts (fB (ic (tp 22) 1)), (fS (ic (tp 22) 1)), (nat_lit 0), [], .none, .none, .none, .none, none, .none, .none, (nat_lit 0)⟩), ⟨[]⟩⟩
abbrev o238_162 (P : Params) : Obj := ⟨(.type l152), none, (.fields ⟨[(vs c210 (nat_lit 485)), (vs c230 (nat_lit 486)), (vs c164 (nat_lit 487)), (vi (nat_lit 112) (nat_lit 0)), (vi (nat_lit 4) (nat_lit 0)), (vi (nat_lit 0) (nat_lit 0)), (vi (nat_lit 0) (nat_lit 0)), (vi (nat_lit 3) (nat_lit 0)), (vr (nat_lit 235)), (.bool true), (vi (nat_lit 181) (nat_lit 0)), (vr (nat_lit 236)), .none, .none, .none, (vr (nat_lit 237)), (vi (nat_lit 488) (nat_lit 0)), (vi (nat_lit 112) (nat_lit 0)), (vs c164 (nat_lit 489))]⟩), ⟨[]⟩⟩
abbrev o239_163 (P : Params) : Obj := ⟨(.type l154), none, (.func ⟨c210, c230, (fA (ic (tp 22) 1)), .stmts (fB (ic (tp 22) 1)), (fS (ic (tp 22) 1)), (nat_lit 3), [], .none, .none, .none, (vs c197 (nat_lit 301)), none, (vr (nat_lit 238)), .none, (nat_lit 0)⟩), ⟨[]⟩⟩
abbrev o242_164 (P : Params) : Obj := ⟨(.type l71), none, (.seq ⟨[(vs c211 (nat_lit 494)), (vs c185 (nat_lit 495)), (vs c183 (nat_lit 496))]⟩ (nat_lit 0)), ⟨[]⟩⟩
abbrev o244_165 (P : Params) : Obj := ⟨.none, none, (.func ⟨c228, c231, (fA (ic (tp 22) 2)), .stmts (fB (ic (tp 22) 2)), (fS (ic (tp 22) 2)), (nat_lit 0), [], .none, .none, .none, .none, none, .none, .none, (nat_lit 0)⟩), ⟨[]⟩⟩
abbrev o245_166 (P : Params) : Obj := ⟨(.type l152), none, (.fields ⟨[(vs c228 (nat_lit 491)), (vs c231 (nat_lit 492)), (vs c164 (nat_lit 493)), (vi (nat_lit 117) (nat_lit 0)), (vi (nat_lit 3) (nat_lit 0)), (vi (nat_lit 0) (nat_lit 0)), (vi (nat_lit 0) (nat_lit 0)), (vi (nat_lit 3) (nat_lit 0)), (vr (nat_lit 240)), (.bool true), (vi (nat_lit 181) (nat_lit 0)), (vr (nat_lit 241)), .none, (vr (nat_lit 242)), (vr (nat_lit 243)), (vr (nat_lit 244)), (vi (nat_lit 497) (nat_lit 0)), (vi (nat_lit 117) (nat_lit 0)), (vs c164 (nat_lit 498))]⟩), ⟨[]⟩⟩
abbrev o246_167 (P : Params) : Obj := ⟨(.type l154), none, (.func ⟨c228, c231, (fA (ic (tp 22) 2)), .stmts (fB (ic (tp 22) 2)), (fS (ic (tp 22) 2)), (nat_lit 3), [], .none, .none, .none, (vs c197 (nat_lit 301)), none, (vr (nat_lit 245)), .none, (nat_lit 0)⟩), ⟨[]⟩⟩
abbrev o247_168 (P : Params) : Obj := ⟨(.type l71), none, (.seq ⟨[(vs c184 (nat_lit 500))]⟩ (nat_lit 0)), ⟨[]⟩⟩
abbrev o248_169 (P : Params) : Obj := ⟨(.type l0), none, (.dict ⟨[de P c202 (nat_lit 472) (vs c197 (nat_lit 301)), de P c204 (nat_lit 476) (vi (nat_lit 107) (nat_lit 475)), de P c209 (nat_lit 484) (vr (nat_lit 234)), de P c210 (nat_lit 490) (vr (nat_lit 239)), de P c228 (nat_lit 499) (vr (nat_lit 246)), de P c205 (nat_lit 501) (vr (nat_lit 247)), de P c2 (nat_lit 502) .none]⟩ (nat_lit 2)), ⟨[]⟩⟩
abbrev o249_170 (P : Params) : Obj := ⟨(.type l72), none, (.cls ⟨c227, [(vr (nat_lit 116))], [(vr (nat_lit 249)), (vr (nat_lit 116)), (.type l63)], (nat_lit 248), c227, true, [], [], false, none, false⟩), ⟨[some (vr (nat_lit 221)), none, some (vs c227 (nat_lit 465)), some (vs c227 (nat_lit 473)), some (.builtin l157), some (.bool true)]⟩⟩
abbrev o250_171 (P : Params) : Obj := ⟨(.type l70), none, (.fields ⟨[(vr (nat_lit 249)), (vr (nat_lit 249)), (vr (nat_lit 249))]⟩), ⟨[]⟩⟩
abbrev o251_172 (P : Params) : Obj := ⟨(.type l155), none, (.fields ⟨[(.builtin l162), (vr (nat_lit 249))]⟩), ⟨[]⟩⟩
abbrev o3_173 (P : Params) : Obj := ⟨(.type l0), none, (.dict ⟨[de P c0 (nat_lit 165) (vs c232 (nat_lit 539)), de P c2 (nat_lit 166) .none, de P c3 (nat_lit 167) .none, de P c4 (nat_lit 168) (.builtin l150), de P c5 (nat_lit 169) .none, de P c161 (nat_lit 170) (vr (nat_lit 6)), de P c162 (nat_lit 171) (vr (nat_lit 4)), de P c163 (nat_lit 173) (vs c164 (nat_lit 172)), de P c165 (nat_lit 174) .none, de P c168 (nat_lit 193) (vr (nat_lit 21)), de P c169 (nat_lit 197) (vi (nat_lit 1000000) (nat_lit 196)), de P c170 (nat_lit 204) (vr (nat_lit 28)), de P c171 (nat_lit 211) (vr (nat_lit 35)), de P c172 (nat_lit 217) (vr (nat_lit 40)), de P c173 (nat_lit 225) (vr (nat_lit 47)), de P c174 (nat_lit 232) (vr (nat_lit 54)), de P c175 (nat_lit 238) (vr (nat_lit 59)), de P c176 (nat_lit 246) (vr (nat_lit 66)), de P c177 (nat_lit 255) (vr (nat_lit 73)), de P c178 (nat_lit 266) (vr (nat_lit 80)), de P c179 (nat_lit 282) (vr (nat_lit 87)), de P c180 (nat_lit 291) (vr (nat_lit 94)), de P c198 (nat_lit 300) (vr (nat_lit 101)), de P c199 (nat_lit 308) (vr (nat_lit 106)), de P c200 (nat_lit 328) (vr (nat_lit 116)), de P c208 (nat_lit 361) (vr (nat_lit 142)), de P c214 (nat_lit 398) (vr (nat_lit 168)), de P c220 (nat_lit 433) (vr (nat_lit 194)), de P c224 (nat_lit 464) (vr (nat_lit 218)), de P c227 (nat_lit 504) (vr (nat_lit 249)), de P c233 (nat_lit 538) (vr (nat_lit 275))]⟩ (nat_lit 31)), ⟨[]⟩⟩
abbrev o12_174 (P : Params) : Obj := ⟨.none, none, (.fields ⟨(((vi (nat_lit 1) (nat_lit 0))) :: ((vi (nat_lit 0) (nat_lit 0))) :: ((vr (nat_lit 20))) :: ((vi (nat_lit 6) (nat_lit 0))) :: ((vi (nat_lit 0) (nat_lit 0))) :: ((vr (nat_lit 27))) :: ((vi (nat_lit 8) (nat_lit 0))) :: ((vi (nat_lit 0) (nat_lit 0))) :: ((vr (nat_lit 34))) :: ((vi (nat_lit 10) (nat_lit 0))) :: ((vi (nat_lit 0) (nat_lit 0))) :: ((vr (nat_lit 39))) :: ((vi (nat_lit 12) (nat_lit 0))) :: ((vi (nat_lit 0) (nat_lit 0))) :: ((vr (nat_lit 46))) :: ((vi (nat_lit 14) (nat_lit 0))) :: ((vi (nat_lit 0) (nat_lit 0))) :: ((vr (nat_lit 53))) :: ((vi (nat_lit 16) (nat_lit 0))) :: ((vi (nat_lit 0) (nat_lit 0))) :: ((vr (nat_lit 58))) :: ((vi (nat_lit 18) (nat_lit 0))) :: ((vi (nat_lit 0) (nat_lit 0))) :: ((vr (nat_lit 65))) :: ((vi (nat_lit 20) (nat_lit 0))) :: ((vi (nat_lit 0) (nat_lit 0))) :: ((vr (nat_lit 72))) :: ((vi (nat_lit 22) (nat_lit 0))) :: ((vi (nat_lit 0) (nat_lit 0))) :: ((vr (nat_lit 79))) :: ((vi (nat_lit 30) (nat_lit 0))) :: ((vi (nat_lit 0) (nat_lit 0))) :: ((vr (nat_lit 86))) :: ((vi (nat_lit 47) (nat_lit 0))) :: ((vi (nat_lit 0) (nat_lit 0))) :: ((vr (nat_lit 93))) :: ((vi (nat_lit 52) (nat_lit 0))) :: ((vi (nat_lit 0) (nat_lit 0))) :: ((vr (nat_lit 100))) :: ((vi (nat_lit 58) (nat_lit 0))) :: ((vi (nat_lit 0) (nat_lit 0))) :: ((vr (nat_lit 105))) :: ((vi (nat_lit 60) (nat_lit 0))) :: ((vi (nat_lit 0) (nat_lit 0))) :: ((vr (nat_lit 112))) :: ((vi (nat_lit 62) (nat_lit 0))) :: ((vi (nat_lit 0) (nat_lit 0))) :: ((vr (nat_lit 126))) :: ((vi (nat_lit 74) (nat_lit 0))) :: ((vi (nat_lit 0) (nat_lit 0))) :: ((vr (nat_lit 150))) :: ((vi (nat_lit 86) (nat_lit 0))) :: ((vi (nat_lit 0) (nat_lit 0))) :: ((vr (nat_lit 176))) :: ((vi (nat_lit 96) (nat_lit 0))) :: ((vi (nat_lit 0) (nat_lit 0))) :: ((vr (nat_lit 202))) :: ((vi (nat_lit 107) (nat_lit 0))) :: ((vi (nat_lit 0) (nat_lit 0))) :: ((vr (nat_lit 226))) :: ((vi (nat_lit 119) (nat_lit 0))) :: ((vi (nat_lit 0) (nat_lit 0))) :: ((vr (nat_lit 257))) :: [])⟩), ⟨[]⟩⟩
abbrev o116_175 (P : Params) : Obj := ⟨(.type l72), none, (.cls ⟨c200, [(.type l63)], [(vr (nat_lit 116)), (.type l63)], (nat_lit 115), c200, true, [], [(vr (nat_lit 142)), (vr (nat_lit 168)), (vr (nat_lit 194)), (vr (nat_lit 218)), (vr (nat_lit 249)), (vr (nat_lit 275))], false, none, false⟩), ⟨[none, none, some (vs c200 (nat_lit 309)), some (vs c200 (nat_lit 317)), some (.builtin l157), some (.bool true)]⟩⟩
abbrev o254_176 (P : Params) : Obj := ⟨(.type l0), none, (.dict ⟨[de P c202 (nat_lit 512) (vs c197 (nat_lit 301)), de P c203 (nat_lit 514) (vs c233 (nat_lit 513)), de P c204 (nat_lit 516) (vi (nat_lit 119) (nat_lit 515)), de P c209 (nat_lit 524) (vr (nat_lit 265)), de P c210 (nat_lit 533) (vr (nat_lit 272)), de P c205 (nat_lit 535) (vr (nat_lit 273))]⟩ (nat_lit 6)), ⟨[]⟩⟩
abbrev o256_177 (P : Params) : Obj := ⟨.none, none, (.fields ⟨[(vi (nat_lit 121) (nat_lit 0)), (vi (nat_lit 4) (nat_lit 0)), (vr (nat_lit 264)), (vi (nat_lit 124) (nat_lit 0)), (vi (nat_lit 4) (nat_lit 0)), (vr (nat_lit 271))]⟩), ⟨[]⟩⟩
abbrev o257_178 (P : Params) : Obj := ⟨(.type l152), none, (.fields ⟨[(vs c233 (nat_lit 507)), (vs c233 (nat_lit 508)), (vs c164 (nat_lit 509)), (vi (nat_lit 119) (nat_lit 0)), (vi (nat_lit 0) (nat_lit 0)), (vi (nat_lit 0) (nat_lit 0)), (vi (nat_lit 0) (nat_lit 0)), (vi (nat_lit 0) (nat_lit 0)), (vr (nat_lit 255)), (.bool false), (vi (nat_lit 181) (nat_lit 0)), (vr (nat_lit 256)), .none, .none, .none, .none, (vi (nat_lit 510) (nat_lit 0)), (vi (nat_lit 119) (nat_lit 0)), (vs c164 (nat_lit 511))]⟩), ⟨[]⟩⟩
abbrev o258_179 (P : Params) : Obj := ⟨(.type l153), none, .plain, ⟨[some (vr (nat_lit 257)), some (vr (nat_lit 3)), some (vr (nat_lit 254)), none, some (vs c197 (nat_lit 301)), none, some (vr (nat_lit 0))]⟩⟩
abbrev o261_180 (P : Params) : Obj := ⟨(.type l71), none, (.seq ⟨[(vs c211 (nat_lit 520)), (vs c186 (nat_lit 521))]⟩ (nat_lit 0)), ⟨[]⟩⟩
abbrev o263_181 (P : Params) : Obj := ⟨.none, none, (.func ⟨c209, c234, (fA (ic (tp 23) 0)), .stmts (fB (ic (tp 23) 0)), (fS (ic (tp 23) 0)), (nat_lit 0), [], .none, .none, .none, .none, none, .none, .none, (nat_lit 0)⟩), ⟨[]⟩⟩
abbrev o264_182 (P : Params) : Obj := ⟨(.type l152), none, (.fields ⟨[(vs c209 (nat_lit 517)), (vs c234 (nat_lit 518)), (vs c164 (nat_lit 519)), (vi (nat_lit 121) (nat_lit 0)), (vi (nat_lit 2) (nat_lit 0)), (vi (nat_lit 0) (nat_lit 0)), (vi (nat_lit 0) (nat_lit 0)), (vi (nat_lit 3) (nat_lit 0)), (vr (nat_lit 259)), (.bool true), (vi (nat_lit 181) (nat_lit 0)), (vr (nat_lit 260)), .none, (vr (nat_lit 261)), (vr (nat_lit 262)), (vr (nat_lit 263)), (vi (nat_lit 522) (nat_lit 0)), (vi (nat_lit 121) (nat_lit 0)), (vs c164 (nat_lit 523))]⟩), ⟨[]⟩⟩
abbrev o265_183 (P : Params) : Obj := ⟨(.type l154), none, (.func ⟨c209, c234, (fA (ic (tp 23) 0)), .stmts (fB (ic (tp 23) 0)), (fS (ic (tp 23) 0)), (nat_lit 3), [], .none, .none, .none, (vs c197 (nat_lit 301)), none, (vr (nat_lit 264)), .none, (nat_lit 0)⟩), ⟨[]⟩⟩
abbrev o268_184 (P : Params) : Obj := ⟨(.type l71), none, (.seq ⟨[(vs c211 (nat_lit 528)), (vs c185 (nat_lit 529)), (vs c183 (nat_lit 530))]⟩ (nat_lit 0)), ⟨[]⟩⟩
abbrev o270_185 (P : Params) : Obj := ⟨.none, none, (.func ⟨c210, c235, (fA (ic (tp 23) 1)), .stmts (fB (ic (tp 23) 1)), (fS (ic (tp 23) 1)), (nat_lit 0), [], .none, .none, .none, .none, none, .none, .none, (nat_lit 0)⟩), ⟨[]⟩⟩
abbrev o271_186 (P : Params) : Obj := ⟨(.type l152), none, (.fields ⟨[(vs c210 (nat_lit 525)), (vs c235 (nat_lit 526)), (vs c164 (nat_lit 527)), (vi (nat_lit 124) (nat_lit 0)), (vi (nat_lit 3) (nat_lit 0)), (vi (nat_lit 0) (nat_lit 0)), (vi (nat_lit 0) (nat_lit 0)), (vi (nat_lit 3) (nat_lit 0)), (vr (nat_lit 266)), (.bool true), (vi (nat_lit 181) (nat_lit 0)), (vr (nat_lit 267)), .none, (vr (nat_lit 268)), (vr (nat_lit 269)), (vr (nat_lit 270)), (vi (nat_lit 531) (nat_lit 0)), (vi (nat_lit 124) (nat_lit 0)), (vs c164 (nat_lit 532))]⟩), ⟨[]⟩⟩
abbrev o272_187 (P : Params) : Obj := ⟨(.type l154), none, (.func ⟨c210, c235, (fA (ic (tp 23) 1)), .stmts (fB (ic (tp 23) 1)), (fS (ic (tp 23) 1)), (nat_lit 3), [], .none, .none, .none, (vs c197 (nat_lit 301)), none, (vr (nat_lit 271)), .none, (nat_lit 0)⟩), ⟨[]⟩⟩
abbrev o273_188 (P : Params) : Obj := ⟨(.type l71), none, (.seq ⟨[(vs c186 (nat_lit 534))]⟩ (nat_lit 0)), ⟨[]⟩⟩
abbrev o274_189 (P : Params) : Obj := ⟨(.type l0), none, (.dict ⟨[de P c202 (nat_lit 512) (vs c197 (nat_lit 301)), de P c204 (nat_lit 516) (vi (nat_lit 119) (nat_lit 515)), de P c209 (nat_lit 524) (vr (nat_lit 265)), de P c210 (nat_lit 533) (vr (nat_lit 272)), de P c205 (nat_lit 535) (vr (nat_lit 273)), de P c2 (nat_lit 536) .none]⟩ (nat_lit 2)), ⟨[]⟩⟩
abbrev o275_190 (P : Params) : Obj := ⟨(.type l72), none, (.cls ⟨c233, [(vr (nat_lit 116))], [(vr (nat_lit 275)), (vr (nat_lit 116)), (.type l63)], (nat_lit 274), c233, true, [], [], false, none, false⟩), ⟨[some (vr (nat_lit 252)), none, some (vs c233 (nat_lit 505)), some (vs c233 (nat_lit 513)), some (.builtin l157), some (.bool true)]⟩⟩
abbrev o276_191 (P : Params) : Obj := ⟨(.type l70), none, (.fields ⟨[(vr (nat_lit 275)), (vr (nat_lit 275)), (vr (nat_lit 275))]⟩), ⟨[]⟩⟩
abbrev o277_192 (P : Params) : Obj := ⟨(.type l155), none, (.fields ⟨[(.builtin l162), (vr (nat_lit 275))]⟩), ⟨[]⟩⟩
abbrev o3_193 (P : Params) : Obj := ⟨(.type l0), none, (.dict ⟨[de P c0 (nat_lit 165) (vs c232 (nat_lit 539)), de P c2 (nat_lit 166) .none, de P c3 (nat_lit 167) .none, de P c4 (nat_lit 168) (.builtin l150), de P c5 (nat_lit 169) .none, de P c161 (nat_lit 170) (vr (nat_lit 6)), de P c162 (nat_lit 171) (vr (nat_lit 4)), de P c163 (nat_lit 173) (vs c164 (nat_lit 172)), de P c165 (nat_lit 174) .none, de P c168 (nat_lit 193) (vr (nat_lit 21)), de P c169 (nat_lit 197) (vi (nat_lit 1000000) (nat_lit 196)), de P c170 (nat_lit 204) (vr (nat_lit 28)), de P c171 (nat_lit 211) (vr (nat_lit 35)), de P c172 (nat_lit 217) (vr (nat_lit 40)), de P c173 (nat_lit 225) (vr (nat_lit 47)), de P c174 (nat_lit 232) (vr (nat_lit 54)), de P c175 (nat_lit 238) (vr (nat_lit 59)), de P c176 (nat_lit 246) (vr (nat_lit 66)), de P c177 (nat_lit 255) (vr (nat_lit 73)), de P c178 (nat_lit 266) (vr (nat_lit 80)), de P c179 (nat_lit 282) (vr (nat_lit 87)), de P c180 (nat_lit 291) (vr (nat_lit 94)), de P c198 (nat_lit 300) (vr (nat_lit 101)), de P c199 (nat_lit 308) (vr (nat_lit 106)), de P c200 (nat_lit 328) (vr (nat_lit 116)), de P c208 (nat_lit 361) (vr (nat_lit 142)), de P c214 (nat_lit 398) (vr (nat_lit 168)), de P c220 (nat_lit 433) (vr (nat_lit 194)), de P c224 (nat_lit 464) (vr (nat_lit 218)), de P c227 (nat_lit 504) (vr (nat_lit 249)), de P c233 (nat_lit 538) (vr (nat_lit 275)), de P c236 (nat_lit 558) (vr (nat_lit 287)), de P c237 (nat_lit 574) (vr (nat_lit 300))]⟩ (nat_lit 33)), ⟨[]⟩⟩
abbrev o12_194 (P : Params) : Obj := ⟨.none, none, (.fields ⟨(((vi (nat_lit 1) (nat_lit 0))) :: ((vi (nat_lit 0) (nat_lit 0))) :: ((vr (nat_lit 20))) :: ((vi (nat_lit 6) (nat_lit 0))) :: ((vi (nat_lit 0) (nat_lit 0))) :: ((vr (nat_lit 27))) :: ((vi (nat_lit 8) (nat_lit 0))) :: ((vi (nat_lit 0) (nat_lit 0))) :: ((vr (nat_lit 34))) :: ((vi (nat_lit 10) (nat_lit 0))) :: ((vi (nat_lit 0) (nat_lit 0))) :: ((vr (nat_lit 39))) :: ((vi (nat_lit 12) (nat_lit 0))) :: ((vi (nat_lit 0) (nat_lit 0))) :: ((vr (nat_lit 46))) :: ((vi (nat_lit 14) (nat_lit 0))) :: ((vi (nat_lit 0) (nat_lit 0))) :: ((vr (nat_lit 53))) :: ((vi (nat_lit 16) (nat_lit 0))) :: ((vi (nat_lit 0) (nat_lit 0))) :: ((vr (nat_lit 58))) :: ((vi (nat_lit 18) (nat_lit 0))) :: ((vi (nat_lit 0) (nat_lit 0))) :: ((vr (nat_lit 65))) :: ((vi (nat_lit 20) (nat_lit 0))) :: ((vi (nat_lit 0) (nat_lit 0))) :: ((vr (nat_lit 72))) :: ((vi (nat_lit 22) (nat_lit 0))) :: ((vi (nat_lit 0) (nat_lit 0))) :: ((vr (nat_lit 79))) :: ((vi (nat_lit 30) (nat_lit 0))) :: ((vi (nat_lit 0) (nat_lit 0))) :: ((vr (nat_lit 86))) :: ((vi (nat_lit 47) (nat_lit 0))) :: ((vi (nat_lit 0) (nat_lit 0))) :: ((vr (nat_lit 93))) :: ((vi (nat_lit 52) (nat_lit 0))) :: ((vi (nat_lit 0) (nat_lit 0))) :: ((vr (nat_lit 100))) :: ((vi (nat_lit 58) (nat_lit 0))) :: ((vi (nat_lit 0) (nat_lit 0))) :: ((vr (nat_lit 105))) :: ((vi (nat_lit 60) (nat_lit 0))) :: ((vi (nat_lit 0) (nat_lit 0))) :: ((vr (nat_lit 112))) :: ((vi (nat_lit 62) (nat_lit 0))) :: ((vi (nat_lit 0) (nat_lit 0))) :: ((vr (nat_lit 126))) :: ((vi (nat_lit 74) (nat_lit 0))) :: ((vi (nat_lit 0) (nat_lit 0))) :: ((vr (nat_lit 150))) :: ((vi (nat_lit 86) (nat_lit 0))) :: ((vi (nat_lit 0) (nat_lit 0))) :: ((vr (nat_lit 176))) :: ((vi (nat_lit 96) (nat_lit 0))) :: ((vi (nat_lit 0) (nat_lit 0))) :: ((vr (nat_lit 202))) :: ((vi (nat_lit 107) (nat_lit 0))) :: ((vi (nat_lit 0) (nat_lit 0))) :: ((vr (nat_lit 226))) :: ((vi (nat_lit 119) (nat_lit 0))) :: ((vi (nat_lit 0) (nat_lit 0))) :: ((vr (nat_lit 257))) :: ((vi (nat_lit 127) (nat_lit 0))) :: ((vi (nat_lit 0) (nat_lit 0))) :: ((vr (nat_lit 283))) :: ((vi (nat_lit 129) (nat_lit 0))) :: ((vi (nat_lit 0) (nat_lit 0))) :: ((vr (nat_lit 296))) :: [])⟩), ⟨[]⟩⟩
abbrev o278_195 (P : Params) : Obj := ⟨(.type l71), none, (.seq ⟨[(.type l97)]⟩ (nat_lit 0)), ⟨[]⟩⟩
abbrev o280_196 (P : Params) : Obj := ⟨(.type l0), none, (.dict ⟨[de P c202 (nat_lit 548) (vs c232 (nat_lit 539)), de P c203 (nat_lit 550) (vs c236 (nat_lit 549)), de P c204 (nat_lit 552) (vi (nat_lit 127) (nat_lit 551)), de P c205 (nat_lit 553) (vr (nat_lit 285))]⟩ (nat_lit 4)), ⟨[]⟩⟩
abbrev o283_197 (P : Params) : Obj := ⟨(.type l152), none, (.fields ⟨[(vs c236 (nat_lit 543)), (vs c236 (nat_lit 544)), (vs c164 (nat_lit 545)), (vi (nat_lit 127) (nat_lit 0)), (vi (nat_lit 0) (nat_lit 0)), (vi (nat_lit 0) (nat_lit 0)), (vi (nat_lit 0) (nat_lit 0)), (vi (nat_lit 0) (nat_lit 0)), (vr (nat_lit 281)), (.bool false), (vi (nat_lit 181) (nat_lit 0)), (vr (nat_lit 282)), .none, .none, .none, .none, (vi (nat_lit 546) (nat_lit 0)), (vi (nat_lit 127) (nat_lit 0)), (vs c164 (nat_lit 547))]⟩), ⟨[]⟩⟩
abbrev o284_198 (P : Params) : Obj := ⟨(.type l153), none, .plain, ⟨[some (vr (nat_lit 283)), some (vr (nat_lit 3)), some (vr (nat_lit 280)), none, some (vs c232 (nat_lit 539)), none, some (vr (nat_lit 0))]⟩⟩
abbrev o286_199 (P : Params) : Obj := ⟨(.type l0), none, (.dict ⟨[de P c202 (nat_lit 548) (vs c232 (nat_lit 539)), de P c204 (nat_lit 552) (vi (nat_lit 127) (nat_lit 551)), de P c205 (nat_lit 553) (vr (nat_lit 285)), de P c207 (nat_lit 555) (vr (nat_lit 288)), de P c2 (nat_lit 556) .none]⟩ (nat_lit 3)), ⟨[]⟩⟩
abbrev o287_200 (P : Params) : Obj := ⟨(.type l72), none, (.cls ⟨c236, [(.type l97)], [(vr (nat_lit 287)), (.type l97), (.type l76), (.type l74), (.type l63)], (nat_lit 286), c236, true, [], [(vr (nat_lit 300))], false, none, false⟩), ⟨[some (vr (nat_lit 278)), none, some (vs c236 (nat_lit 541)), some (vs c236 (nat_lit 549)), some (.builtin l163), some (.bool true)]⟩⟩
abbrev o288_201 (P : Params) : Obj := ⟨(.type l158), none, (.fields ⟨[(vs c207 (nat_lit 554)), (vr (nat_lit 287)), (.builtin l161), .none]⟩), ⟨[]⟩⟩
abbrev o289_202 (P : Params) : Obj := ⟨(.type l70), none, (.fields ⟨[(vr (nat_lit 287)), (vr (nat_lit 287)), (vr (nat_lit 287))]⟩), ⟨[]⟩⟩
abbrev o290_203 (P : Params) : Obj := ⟨(.type l155), none, (.fields ⟨[(.builtin l162), (vr (nat_lit 287))]⟩), ⟨[]⟩⟩
abbrev o291_204 (P : Params) : Obj := ⟨(.type l71), none, (.seq ⟨[(vr (nat_lit 287))]⟩ (nat_lit 0)), ⟨[]⟩⟩
abbrev o293_205 (P : Params) : Obj := ⟨(.type l0), none, (.dict ⟨[de P c202 (nat_lit 566) (vs c232 (nat_lit 539)), de P c203 (nat_lit 568) (vs c237 (nat_lit 567)), de P c204 (nat_lit 570) (vi (nat_lit 129) (nat_lit 569)), de P c205 (nat_lit 571) (vr (nat_lit 298))]⟩ (nat_lit 4)), ⟨[]⟩⟩
abbrev o296_206 (P : Params) : Obj := ⟨(.type l152), none, (.fields ⟨[(vs c237 (nat_lit 561)), (vs c237 (nat_lit 562)), (vs c164 (nat_lit 563)), (vi (nat_lit 129) (nat_lit 0)), (vi (nat_lit 0) (nat_lit 0)), (vi (nat_lit 0) (nat_lit 0)), (vi (nat_lit 0) (nat_lit 0)), (vi (nat_lit 0) (nat_lit 0)), (vr (nat_lit 294)), (.bool false), (vi (nat_lit 181) (nat_lit 0)), (vr (nat_lit 295)), .none, .none, .none, .none, (vi (nat_lit 564) (nat_lit 0)), (vi (nat_lit 129) (nat_lit 0)), (vs c164 (nat_lit 565))]⟩), ⟨[]⟩⟩
abbrev o297_207 (P : Params) : Obj := ⟨(.type l153), none, .plain, ⟨[some (vr (nat_lit 296)), some (vr (nat_lit 3)), some (vr (nat_lit 293)), none, some (vs c232 (nat_lit 539)), none, some (vr (nat_lit 0))]⟩⟩
abbrev o299_208 (P : Params) : Obj := ⟨(.type l0), none, (.dict ⟨[de P c202 (nat_lit 566) (vs c232 (nat_lit 539)), de P c204 (nat_lit 570) (vi (nat_lit 129) (nat_lit 569)), de P c205 (nat_lit 571) (vr (nat_lit 298)), de P c2 (nat_lit 572) .none]⟩ (nat_lit 2)), ⟨[]⟩⟩
abbrev o300_209 (P : Params) : Obj := ⟨(.type l72), none, (.cls ⟨c237, [(vr (nat_lit 287))], [(vr (nat_lit 300)), (vr (nat_lit 287)), (.type l97), (.type l76), (.type l74), (.type l63)], (nat_lit 299), c237, true, [], [], false, none, false⟩), ⟨[some (vr (nat_lit 291)), none, some (vs c237 (nat_lit 559)), some (vs c237 (nat_lit 567)), some (.builtin l163), some (.bool true)]⟩⟩
abbrev o301_210 (P : Params) : Obj := ⟨(.type l70), none, (.fields ⟨[(vr (nat_lit 300)), (vr (nat_lit 300)), (vr (nat_lit 300))]⟩), ⟨[]⟩⟩
abbrev o302_211 (P : Params) : Obj := ⟨(.type l155), none, (.fields ⟨[(.builtin l162), (vr (nat_lit 300))]⟩), ⟨[]⟩⟩
abbrev o3_212 (P : Params) : Obj := ⟨(.type l0), none, (.dict ⟨((de P c0 (nat_lit 165) (vs c238 (nat_lit 614))) :: (de P c2 (nat_lit 166) .none) :: (de P c3 (nat_lit 167) .none) :: (de P c4 (nat_lit 168) (.builtin l150)) :: (de P c5 (nat_lit 169) .none) :: (de P c161 (nat_lit 170) (vr (nat_lit 6))) :: (de P c162 (nat_lit 171) (vr (nat_lit 4))) :: (de P c163 (nat_lit 173) (vs c164 (nat_lit 172))) :: (de P c165 (nat_lit 174) .none) :: (de P c168 (nat_lit 193) (vr (nat_lit 21))) :: (de P c169 (nat_lit 197) (vi (nat_lit 1000000) (nat_lit 196))) :: (de P c170 (nat_lit 204) (vr (nat_lit 28))) :: (de P c171 (nat_lit 211) (vr (nat_lit 35))) :: (de P c172 (nat_lit 217) (vr (nat_lit 40))) :: (de P c173 (nat_lit 225) (vr (nat_lit 47))) :: (de P c174 (nat_lit 232) (vr (nat_lit 54))) :: (de P c175 (nat_lit 238) (vr (nat_lit 59))) :: (de P c176 (nat_lit 246) (vr (nat_lit 66))) :: (de P c177 (nat_lit 255) (vr (nat_lit 73))) :: (de P c178 (nat_lit 266) (vr (nat_lit 80))) :: (de P c179 (nat_lit 282) (vr (nat_lit 87))) :: (de P c180 (nat_lit 291) (vr (nat_lit 94))) :: (de P c198 (nat_lit 300) (vr (nat_lit 101))) :: (de P c199 (nat_lit 308) (vr (nat_lit 106))) :: (de P c200 (nat_lit 328) (vr (nat_lit 116))) :: (de P c208 (nat_lit 361) (vr (nat_lit 142))) :: (de P c214 (nat_lit 398) (vr (nat_lit 168))) :: (de P c220 (nat_lit 433) (vr (nat_lit 194))) :: (de P c224 (nat_lit 464) (vr (nat_lit 218))) :: (de P c227 (nat_lit 504) (vr (nat_lit 249))) :: (de P c233 (nat_lit 538) (vr (nat_lit 275))) :: (de P c236 (nat_lit 558) (vr (nat_lit 287))) :: (de P c237 (nat_lit 574) (vr (nat_lit 300))) :: (de P c239 (nat_lit 587) (vr (nat_lit 309))) :: (de P c240 (nat_lit 601) (vr (nat_lit 316))) :: (de P c241 (nat_lit 607) (vr (nat_lit 321))) :: (de P c189 (nat_lit 613) (vr (nat_lit 326))) :: (de P c242 (nat_lit 623) (vr (nat_lit 333))) :: (de P c243 (nat_lit 633) (vr (nat_lit 340))) :: (de P c244 (nat_lit 644) (vr (nat_lit 347))) :: (de P c245 (nat_lit 650) (vr (nat_lit 352))) :: (de P c246 (nat_lit 658) (vr (nat_lit 359))) :: (de P c247 (nat_lit 665) (vr (nat_lit 366))) :: (de P c248 (nat_lit 671) (vr (nat_lit 371))) :: (de P c249 (nat_lit 677) (vr (nat_lit 376))) :: [])⟩ (nat_lit 45)), ⟨[]⟩⟩
abbrev o12_213 (P : Params) : Obj := ⟨.none, none, (.fields ⟨(((vi (nat_lit 1) (nat_lit 0))) :: ((vi (nat_lit 0) (nat_lit 0))) :: ((vr (nat_lit 20))) :: ((vi (nat_lit 6) (nat_lit 0))) :: ((vi (nat_lit 0) (nat_lit 0))) :: ((vr (nat_lit 27))) :: ((vi (nat_lit 8) (nat_lit 0))) :: ((vi (nat_lit 0) (nat_lit 0))) :: ((vr (nat_lit 34))) :: ((vi (nat_lit 10) (nat_lit 0))) :: ((vi (nat_lit 0) (nat_lit 0))) :: ((vr (nat_lit 39))) :: ((vi (nat_lit 12) (nat_lit 0))) :: ((vi (nat_lit 0) (nat_lit 0))) :: ((vr (nat_lit 46))) :: ((vi (nat_lit 14) (nat_lit 0))) :: ((vi (nat_lit 0) (nat_lit 0))) :: ((vr (nat_lit 53))) :: ((vi (nat_lit 16) (nat_lit 0))) :: ((vi (nat_lit 0) (nat_lit 0))) :: ((vr (nat_lit 58))) :: ((vi (nat_lit 18) (nat_lit 0))) :: ((vi (nat_lit 0) (nat_lit 0))) :: ((vr (nat_lit 65))) :: ((vi (nat_lit 20) (nat_lit 0))) :: ((vi (nat_lit 0) (nat_lit 0))) :: ((vr (nat_lit 72))) :: ((vi (nat_lit 22) (nat_lit 0))) :: ((vi (nat_lit 0) (nat_lit 0))) :: ((vr (nat_lit 79))) :: ((vi (nat_lit 30) (nat_lit 0))) :: ((vi (nat_lit 0) (nat_lit 0))) :: ((vr (nat_lit 86))) :: ((vi (nat_lit 47) (nat_lit 0))) :: ((vi (nat_lit 0) (nat_lit 0))) :: ((vr (nat_lit 93))) :: ((vi (nat_lit 52) (nat_lit 0))) :: ((vi (nat_lit 0) (nat_lit 0))) :: ((vr (nat_lit 100))) :: ((vi (nat_lit 58) (nat_lit 0))) :: ((vi (nat_lit 0) (nat_lit 0))) :: ((vr (nat_lit 105))) :: ((vi (nat_lit 60) (nat_lit 0))) :: ((vi (nat_lit 0) (nat_lit 0))) :: ((vr (nat_lit 112))) :: ((vi (nat_lit 62) (nat_lit 0))) :: ((vi (nat_lit 0) (nat_lit 0))) :: ((vr (nat_lit 126))) :: ((vi (nat_lit 74) (nat_lit 0))) :: ((vi (nat_lit 0) (nat_lit 0))) :: ((vr (nat_lit 150))) :: ((vi (nat_lit 86) (nat_lit 0))) :: ((vi (nat_lit 0) (nat_lit 0))) :: ((vr (nat_lit 176))) :: ((vi (nat_lit 96) (nat_lit 0))) :: ((vi (nat_lit 0) (nat_lit 0))) :: ((vr (nat_lit 202))) :: ((vi (nat_lit 107) (nat_lit 0))) :: ((vi (nat_lit 0) (nat_lit 0))) :: ((vr (nat_lit 226))) :: ((vi (nat_lit 119) (nat_lit 0))) :: ((vi (nat_lit 0) (nat_lit 0))) :: ((vr (nat_lit 257))) :: ((vi (nat_lit 127) (nat_lit 0))) :: ((vi (nat_lit 0) (nat_lit 0))) :: ((vr (nat_lit 283))) :: ((vi (nat_lit 129) (nat_lit 0))) :: ((vi (nat_lit 0) (nat_lit 0))) :: ((vr (nat_lit 296))) :: ((vi (nat_lit 132) (nat_lit 0))) :: ((vi (nat_lit 0) (nat_lit 0))) :: ((vr (nat_lit 308))) :: ((vi (nat_lit 142) (nat_lit 0))) :: ((vi (nat_lit 0) (nat_lit 0))) :: ((vr (nat_lit 315))) :: ((vi (nat_lit 151) (nat_lit 0))) :: ((vi (nat_lit 0) (nat_lit 0))) :: ((vr (nat_lit 320))) :: ((vi (nat_lit 154) (nat_lit 0))) :: ((vi (nat_lit 0) (nat_lit 0))) :: ((vr (nat_lit 325))) :: ((vi (nat_lit 161) (nat_lit 0))) :: ((vi (nat_lit 0) (nat_lit 0))) :: ((vr (nat_lit 332))) :: ((vi (nat_lit 165) (nat_lit 0))) :: ((vi (nat_lit 0) (nat_lit 0))) :: ((vr (nat_lit 339))) :: ((vi (nat_lit 168) (nat_lit 0))) :: ((vi (nat_lit 0) (nat_lit 0))) :: ((vr (nat_lit 346))) :: ((vi (nat_lit 177) (nat_lit 0))) :: ((vi (nat_lit 0) (nat_lit 0))) :: ((vr (nat_lit 351))) :: ((vi (nat_lit 184) (nat_lit 0))) :: ((vi (nat_lit 0) (nat_lit 0))) :: ((vr (nat_lit 358))) :: ((vi (nat_lit 189) (nat_lit 0))) :: ((vi (nat_lit 0) (nat_lit 0))) :: ((vr (nat_lit 365))) :: ((vi (nat_lit 191) (nat_lit 0))) :: ((vi (nat_lit 0) (nat_lit 0))) :: ((vr (nat_lit 370))) :: ((vi (nat_lit 193) (nat_lit 0))) :: ((vi (nat_lit 0) (nat_lit 0))) :: ((vr (nat_lit 375))) :: [])⟩), ⟨[]⟩⟩
abbrev o305_214 (P : Params) : Obj := ⟨(.type l71), none, (.seq ⟨[(vs c216 (nat_lit 580)), (vs c250 (nat_lit 581)), (vs c251 (nat_lit 582)), (vs c252 (nat_lit 583)), (vs c190 (nat_lit 584))]⟩ (nat_lit 0)), ⟨[]⟩⟩
abbrev o307_215 (P : Params) : Obj := ⟨.none, none, (.func ⟨c239, c239, (fA (tp 28)), .stmts (fB (tp 28)), (fS (tp 28)), (nat_lit 0), [], .none, .none, .none, .none, none, .none, .none, (nat_lit 0)⟩), ⟨[]⟩⟩
abbrev o308_216 (P : Params) : Obj := ⟨(.type l152), none, (.fields ⟨[(vs c239 (nat_lit 577)), (vs c239 (nat_lit 578)), (vs c164 (nat_lit 579)), (vi (nat_lit 132) (nat_lit 0)), (vi (nat_lit 1) (nat_lit 0)), (vi (nat_lit 0) (nat_lit 0)), (vi (nat_lit 0) (nat_lit 0)), (vi (nat_lit 3) (nat_lit 0)), (vr (nat_lit 303)), (.bool true), (vi (nat_lit 181) (nat_lit 0)), (vr (nat_lit 304)), .none, (vr (nat_lit 305)), (vr (nat_lit 306)), (vr (nat_lit 307)), (vi (nat_lit 585) (nat_lit 0)), (vi (nat_lit 132) (nat_lit 0)), (vs c164 (nat_lit 586))]⟩), ⟨[]⟩⟩
abbrev o309_217 (P : Params) : Obj := ⟨(.type l154), none, (.func ⟨c239, c239, (fA (tp 28)), .stmts (fB (tp 28)), (fS (tp 28)), (nat_lit 3), [], .none, .none, .none, (vs c253 (nat_lit 575)), none, (vr (nat_lit 308)), .none, (nat_lit 0)⟩), ⟨[]⟩⟩
abbrev o312_218 (P : Params) : Obj := ⟨(.type l71), none, (.seq ⟨[(vs c250 (nat_lit 591)), (vs c186 (nat_lit 592)), (vs c183 (nat_lit 593)), (vs c254 (nat_lit 594)), (vs c184 (nat_lit 595)), (vs c255 (nat_lit 596)), (vs c256 (nat_lit 597)), (vs c257 (nat_lit 598))]⟩ (nat_lit 0)), ⟨[]⟩⟩
abbrev o314_219 (P : Params) : Obj := ⟨.none, none, (.func ⟨c240, c240, (fA (tp 29)), .stmts (fB (tp 29)), (fS (tp 29)), (nat_lit 0), [], .none, .none, .none, .none, none, .none, .none, (nat_lit 0)⟩), ⟨[]⟩⟩
abbrev o315_220 (P : Params) : Obj := ⟨(.type l152), none, (.fields ⟨[(vs c240 (nat_lit 588)), (vs c240 (nat_lit 589)), (vs c164 (nat_lit 590)), (vi (nat_lit 142) (nat_lit 0)), (vi (nat_lit 3) (nat_lit 0)), (vi (nat_lit 0) (nat_lit 0)), (vi (nat_lit 0) (nat_lit 0)), (vi (nat_lit 3) (nat_lit 0)), (vr (nat_lit 310)), (.bool true), (vi (nat_lit 181) (nat_lit 0)), (vr (nat_lit 311)), .none, (vr (nat_lit 312)), (vr (nat_lit 313)), (vr (nat_lit 314)), (vi (nat_lit 599) (nat_lit 0)), (vi (nat_lit 142) (nat_lit 0)), (vs c164 (nat_lit 600))]⟩), ⟨[]⟩⟩
abbrev o316_221 (P : Params) : Obj := ⟨(.type l154), none, (.func ⟨c240, c240, (fA (tp 29)), .stmts (fB (tp 29)), (fS (tp 29)), (nat_lit 3), [], .none, .none, .none, (vs c253 (nat_lit 575)), none, (vr (nat_lit 315)), .none, (nat_lit 0)⟩), ⟨[]⟩⟩
abbrev o319_222 (P : Params) : Obj := ⟨.none, none, (.func ⟨c241, c241, (fA (tp 30)), .stmts (fB (tp 30)), (fS (tp 30)), (nat_lit 0), [], .none, .none, .none, .none, none, .none, .none, (nat_lit 0)⟩), ⟨[]⟩⟩
abbrev o320_223 (P : Params) : Obj := ⟨(.type l152), none, (.fields ⟨[(vs c241 (nat_lit 602)), (vs c241 (nat_lit 603)), (vs c164 (nat_lit 604)), (vi (nat_lit 151) (nat_lit 0)), (vi (nat_lit 2) (nat_lit 0)), (vi (nat_lit 0) (nat_lit 0)), (vi (nat_lit 0) (nat_lit 0)), (vi (nat_lit 3) (nat_lit 0)), (vr (nat_lit 317)), (.bool true), (vi (nat_lit 181) (nat_lit 0)), (vr (nat_lit 318)), .none, .none, .none, (vr (nat_lit 319)), (vi (nat_lit 605) (nat_lit 0)), (vi (nat_lit 151) (nat_lit 0)), (vs c164 (nat_lit 606))]⟩), ⟨[]⟩⟩
abbrev o321_224 (P : Params) : Obj := ⟨(.type l154), none, (.func ⟨c241, c241, (fA (tp 30)), .stmts (fB (tp 30)), (fS (tp 30)), (nat_lit 3), [], .none, .none, .none, (vs c253 (nat_lit 575)), none, (vr (nat_lit 320)), .none, (nat_lit 0)⟩), ⟨[]⟩⟩
abbrev o324_225 (P : Params) : Obj := ⟨.none, none, (.func ⟨c189, c189, (fA (tp 31)), .stmts (fB (tp 31)), (fS (tp 31)), (nat_lit 0), [], .none, .none, .none, .none, none, .none, .none, (nat_lit 0)⟩), ⟨[]⟩⟩
abbrev o325_226 (P : Params) : Obj := ⟨(.type l152), none, (.fields ⟨[(vs c189 (nat_lit 608)), (vs c189 (nat_lit 609)), (vs c164 (nat_lit 610)), (vi (nat_lit 154) (nat_lit 0)), (vi (nat_lit 2) (nat_lit 0)), (vi (nat_lit 0) (nat_lit 0)), (vi (nat_lit 0) (nat_lit 0)), (vi (nat_lit 3) (nat_lit 0)), (vr (nat_lit 322)), (.bool true), (vi (nat_lit 181) (nat_lit 0)), (vr (nat_lit 323)), .none, .none, .none, (vr (nat_lit 324)), (vi (nat_lit 611) (nat_lit 0)), (vi (nat_lit 154) (nat_lit 0)), (vs c164 (nat_lit 612))]⟩), ⟨[]⟩⟩
abbrev o326_227 (P : Params) : Obj := ⟨(.type l154), none, (.func ⟨c189, c189, (fA (tp 31)), .stmts (fB (tp 31)), (fS (tp 31)), (nat_lit 3), [], .none, .none, .none, (vs c253 (nat_lit 575)), none, (vr (nat_lit 325)), .none, (nat_lit 0)⟩), ⟨[]⟩⟩
abbrev o329_228 (P : Params) : Obj := ⟨(.type l71), none, (.seq ⟨[(vs c258 (nat_lit 619)), (vs c259 (nat_lit 620))]⟩ (nat_lit 0)), ⟨[]⟩⟩
abbrev o331_229 (P : Params) : Obj := ⟨.none, none, (.func ⟨c242, c242, (fA (tp 33)), .stmts (fB (tp 33)), (fS (tp 33)), (nat_lit 0), [], .none, .none, .none, .none, none, .none, .none, (nat_lit 0)⟩), ⟨[]⟩⟩
abbrev o332_230 (P : Params) : Obj := ⟨(.type l152), none, (.fields ⟨[(vs c242 (nat_lit 616)), (vs c242 (nat_lit 617)), (vs c164 (nat_lit 618)), (vi (nat_lit 161) (nat_lit 0)), (vi (nat_lit 2) (nat_lit 0)), (vi (nat_lit 0) (nat_lit 0)), (vi (nat_lit 0) (nat_lit 0)), (vi (nat_lit 3) (nat_lit 0)), (vr (nat_lit 327)), (.bool true), (vi (nat_lit 181) (nat_lit 0)), (vr (nat_lit 328)), .none, (vr (nat_lit 329)), (vr (nat_lit 330)), (vr (nat_lit 331)), (vi (nat_lit 621) (nat_lit 0)), (vi (nat_lit 161) (nat_lit 0)), (vs c164 (nat_lit 622))]⟩), ⟨[]⟩⟩
abbrev o333_231 (P : Params) : Obj := ⟨(.type l154), none, (.func ⟨c242, c242, (fA (tp 33)), .stmts (fB (tp 33)), (fS (tp 33)), (nat_lit 3), [], .none, .none, .none, (vs c238 (nat_lit 614)), none, (vr (nat_lit 332)), .none, (nat_lit 0)⟩), ⟨[]⟩⟩
abbrev o336_232 (P : Params) : Obj := ⟨(.type l71), none, (.seq ⟨[(vs c260 (nat_lit 627)), (vs c259 (nat_lit 628)), (vs c261 (nat_lit 629)), (vs c262 (nat_lit 630))]⟩ (nat_lit 0)), ⟨[]⟩⟩
abbrev o338_233 (P : Params) : Obj := ⟨.none, none, (.func ⟨c243, c243, (fA (tp 34)), .stmts (fB (tp 34)), (fS (tp 34)), (nat_lit 0), [], .none, .none, .none, .none, none, .none, .none, (nat_lit 0)⟩), ⟨[]⟩⟩
abbrev o339_234 (P : Params) : Obj := ⟨(.type l152), none, (.fields ⟨[(vs c243 (nat_lit 624)), (vs c243 (nat_lit 625)), (vs c164 (nat_lit 626)), (vi (nat_lit 165) (nat_lit 0)), (vi (nat_lit 3) (nat_lit 0)), (vi (nat_lit 0) (nat_lit 0)), (vi (nat_lit 0) (nat_lit 0)), (vi (nat_lit 3) (nat_lit 0)), (vr (nat_lit 334)), (.bool true), (vi (nat_lit 181) (nat_lit 0)), (vr (nat_lit 335)), .none, (vr (nat_lit 336)), (vr (nat_lit 337)), (vr (nat_lit 338)), (vi (nat_lit 631) (nat_lit 0)), (vi (nat_lit 165) (nat_lit 0)), (vs c164 (nat_lit 632))]⟩), ⟨[]⟩⟩
abbrev o340_235 (P : Params) : Obj := ⟨(.type l154), none, (.func ⟨c243, c243, (fA (tp 34)), .stmts (fB (tp 34)), (fS (tp 34)), (nat_lit 3), [], .none, .none, .none, (vs c238 (nat_lit 614)), none, (vr (nat_lit 339)), .none, (nat_lit 0)⟩), ⟨[]⟩⟩
abbrev o343_236 (P : Params) : Obj := ⟨(.type l71), none, (.seq ⟨[(vs c258 (nat_lit 637)), (vs c263 (nat_lit 638)), (vs c264 (nat_lit 639)), (vs c259 (nat_lit 640)), (vs c265 (nat_lit 641))]⟩ (nat_lit 0)), ⟨[]⟩⟩
abbrev o345_237 (P : Params) : Obj := ⟨.none, none, (.func ⟨c244, c244, (fA (tp 35)), .stmts (fB (tp 35)), (fS (tp 35)), (nat_lit 0), [], .none, .none, .none, .none, none, .none, .none, (nat_lit 0)⟩), ⟨[]⟩⟩
abbrev o346_238 (P : Params) : Obj := ⟨(.type l152), none, (.fields ⟨[(vs c244 (nat_lit 634)), (vs c244 (nat_lit 635)), (vs c164 (nat_lit 636)), (vi (nat_lit 168) (nat_lit 0)), (vi (nat_lit 1) (nat_lit 0)), (vi (nat_lit 0) (nat_lit 0)), (vi (nat_lit 0) (nat_lit 0)), (vi (nat_lit 3) (nat_lit 0)), (vr (nat_lit 341)), (.bool true), (vi (nat_lit 181) (nat_lit 0)), (vr (nat_lit 342)), .none, (vr (nat_lit 343)), (vr (nat_lit 344)), (vr (nat_lit 345)), (vi (nat_lit 642) (nat_lit 0)), (vi (nat_lit 168) (nat_lit 0)), (vs c164 (nat_lit 643))]⟩), ⟨[]⟩⟩
abbrev o347_239 (P : Params) : Obj := ⟨(.type l154), none, (.func ⟨c244, c244, (fA (tp 35)), .stmts (fB (tp 35)), (fS (tp 35)), (nat_lit 3), [], .none, .none, .none, (vs c238 (nat_lit 614)), none, (vr (nat_lit 346)), .none, (nat_lit 0)⟩), ⟨[]⟩⟩
abbrev o350_240 (P : Params) : Obj := ⟨.none, none, (.func ⟨c245, c245, (fA (tp 36)), .stmts (fB (tp 36)), (fS (tp 36)), (nat_lit 0), [], .none, .none, .none, .none, none, .none, .none, (nat_lit 0)⟩), ⟨[]⟩⟩
abbrev o351_241 (P : Params) : Obj := ⟨(.type l152), none, (.fields ⟨[(vs c245 (nat_lit 645)), (vs c245 (nat_lit 646)), (vs c164 (nat_lit 647)), (vi (nat_lit 177) (nat_lit 0)), (vi (nat_lit 1) (nat_lit 0)), (vi (nat_lit 0) (nat_lit 0)), (vi (nat_lit 0) (nat_lit 0)), (vi (nat_lit 3) (nat_lit 0)), (vr (nat_lit 348)), (.bool true), (vi (nat_lit 181) (nat_lit 0)), (vr (nat_lit 349)), .none, .none, .none, (vr (nat_lit 350)), (vi (nat_lit 648) (nat_lit 0)), (vi (nat_lit 177) (nat_lit 0)), (vs c164 (nat_lit 649))]⟩), ⟨[]⟩⟩
abbrev o352_242 (P : Params) : Obj := ⟨(.type l154), none, (.func ⟨c245, c245, (fA (tp 36)), .stmts (fB (tp 36)), (fS (tp 36)), (nat_lit 3), [], .none, .none, .none, (vs c238 (nat_lit 614)), none, (vr (nat_lit 351)), .none, (nat_lit 0)⟩), ⟨[]⟩⟩
abbrev o355_243 (P : Params) : Obj := ⟨(.type l71), none, (.seq ⟨[(vs c266 (nat_lit 654)), (vs c267 (nat_lit 655))]⟩ (nat_lit 0)), ⟨[]⟩⟩
abbrev o357_244 (P : Params) : Obj := ⟨.none, none, (.func ⟨c246, c246, (fA (tp 37)), .stmts (fB (tp 37)), (fS (tp 37)), (nat_lit 0), [], .none, .none, .none, .none, none, .none, .none, (nat_lit 0)⟩), ⟨[]⟩⟩
abbrev o358_245 (P : Params) : Obj := ⟨(.type l152), none, (.fields ⟨[(vs c246 (nat_lit 651)), (vs c246 (nat_lit 652)), (vs c164 (nat_lit 653)), (vi (nat_lit 184) (nat_lit 0)), (vi (nat_lit 2) (nat_lit 0)), (vi (nat_lit 0) (nat_lit 0)), (vi (nat_lit 0) (nat_lit 0)), (vi (nat_lit 3) (nat_lit 0)), (vr (nat_lit 353)), (.bool true), (vi (nat_lit 181) (nat_lit 0)), (vr (nat_lit 354)), .none, (vr (nat_lit 355)), (vr (nat_lit 356)), (vr (nat_lit 357)), (vi (nat_lit 656) (nat_lit 0)), (vi (nat_lit 184) (nat_lit 0)), (vs c164 (nat_lit 657))]⟩), ⟨[]⟩⟩
abbrev o359_246 (P : Params) : Obj := ⟨(.type l154), none, (.func ⟨c246, c246, (fA (tp 37)), .stmts (fB (tp 37)), (fS (tp 37)), (nat_lit 3), [], .none, .none, .none, (vs c238 (nat_lit 614)), none, (vr (nat_lit 358)), .none, (nat_lit 0)⟩), ⟨[]⟩⟩
abbrev o362_247 (P : Params) : Obj := ⟨(.type l71), none, (.seq ⟨[(vs c268 (nat_lit 662))]⟩ (nat_lit 0)), ⟨[]⟩⟩
abbrev o364_248 (P : Params) : Obj := ⟨.none, none, (.func ⟨c247, c247, (fA (tp 38)), .stmts (fB (tp 38)), (fS (tp 38)), (nat_lit 0), [], .none, .none, .none, .none, none, .none, .none, (nat_lit 0)⟩), ⟨[]⟩⟩
abbrev o365_249 (P : Params) : Obj := ⟨(.type l152), none, (.fields ⟨[(vs c247 (nat_lit 659)), (vs c247 (nat_lit 660)), (vs c164 (nat_lit 661)), (vi (nat_lit 189) (nat_lit 0)), (vi (nat_lit 1) (nat_lit 0)), (vi (nat_lit 0) (nat_lit 0)), (vi (nat_lit 0) (nat_lit 0)), (vi (nat_lit 3) (nat_lit 0)), (vr (nat_lit 360)), (.bool true), (vi (nat_lit 181) (nat_lit 0)), (vr (nat_lit 361)), .none, (vr (nat_lit 362)), (vr (nat_lit 363)), (vr (nat_lit 364)), (vi (nat_lit 663) (nat_lit 0)), (vi (nat_lit 189) (nat_lit 0)), (vs c164 (nat_lit 664))]⟩), ⟨[]⟩⟩
abbrev o366_250 (P : Params) : Obj := ⟨(.type l154), none, (.func ⟨c247, c247, (fA (tp 38)), .stmts (fB (tp 38)), (fS (tp 38)), (nat_lit 3), [], .none, .none, .none, (vs c238 (nat_lit 614)), none, (vr (nat_lit 365)), .none, (nat_lit 0)⟩), ⟨[]⟩⟩
abbrev o369_251 (P : Params) : Obj := ⟨.none, none, (.func ⟨c248, c248, (fA (tp 39)), .stmts (fB (tp 39)), (fS (tp 39)), (nat_lit 0), [], .none, .none, .none, .none, none, .none, .none, (nat_lit 0)⟩), ⟨[]⟩⟩
abbrev o370_252 (P : Params) : Obj := ⟨(.type l152), none, (.fields ⟨[(vs c248 (nat_lit 666)), (vs c248 (nat_lit 667)), (vs c164 (nat_lit 668)), (vi (nat_lit 191) (nat_lit 0)), (vi (nat_lit 1) (nat_lit 0)), (vi (nat_lit 0) (nat_lit 0)), (vi (nat_lit 0) (nat_lit 0)), (vi (nat_lit 3) (nat_lit 0)), (vr (nat_lit 367)), (.bool true), (vi (nat_lit 181) (nat_lit 0)), (vr (nat_lit 368)), .none, .none, .none, (vr (nat_lit 369)), (vi (nat_lit 669) (nat_lit 0)), (vi (nat_lit 191) (nat_lit 0)), (vs c164 (nat_lit 670))]⟩), ⟨[]⟩⟩
abbrev o371_253 (P : Params) : Obj := ⟨(.type l154), none, (.func ⟨c248, c248, (fA (tp 39)), .stmts (fB (tp 39)), (fS (tp 39)), (nat_lit 3), [], .none, .none, .none, (vs c238 (nat_lit 614)), none, (vr (nat_lit 370)), .none, (nat_lit 0)⟩), ⟨[]⟩⟩
abbrev o374_254 (P : Params) : Obj := ⟨.none, none, (.func ⟨c249, c249, (fA (tp 40)), .stmts (fB (tp 40)), (fS (tp 40)), (nat_lit 0), [], .none, .none, .none, .none, none, .none, .none, (nat_lit 0)⟩), ⟨[]⟩⟩
abbrev o375_255 (P : Params) : Obj := ⟨(.type l152), none, (.fields ⟨[(vs c249 (nat_lit 672)), (vs c249 (nat_lit 673)), (vs c164 (nat_lit 674)), (vi (nat_lit 193) (nat_lit 0)), (vi (nat_lit 2) (nat_lit 0)), (vi (nat_lit 0) (nat_lit 0)), (vi (nat_lit 0) (nat_lit 0)), (vi (nat_lit 3) (nat_lit 0)), (vr (nat_lit 372)), (.bool true), (vi (nat_lit 181) (nat_lit 0)), (vr (nat_lit 373)), .none, .none, .none, (vr (nat_lit 374)), (vi (nat_lit 675) (nat_lit 0)), (vi (nat_lit 193) (nat_lit 0)), (vs c164 (nat_lit 676))]⟩), ⟨[]⟩⟩
abbrev o376_256 (P : Params) : Obj := ⟨(.type l154), none, (.func ⟨c249, c249, (fA (tp 40)), .stmts (fB (tp 40)), (fS (tp 40)), (nat_lit 3), [], .none, .none, .none, (vs c238 (nat_lit 614)), none, (vr (nat_lit 375)), .none, (nat_lit 0)⟩), ⟨[]⟩⟩
abbrev o3_257 (P : Params) : Obj := ⟨(.type l0), none, (.dict ⟨((de P c0 (nat_lit 165) (vs c238 (nat_lit 614))) :: (de P c2 (nat_lit 166) .none) :: (de P c3 (nat_lit 167) .none) :: (de P c4 (nat_lit 168) (.builtin l150)) :: (de P c5 (nat_lit 169) .none) :: (de P c161 (nat_lit 170) (vr (nat_lit 6))) :: (de P c162 (nat_lit 171) (vr (nat_lit 4))) :: (de P c163 (nat_lit 173) (vs c164 (nat_lit 172))) :: (de P c165 (nat_lit 174) .none) :: (de P c168 (nat_lit 193) (vr (nat_lit 21))) :: (de P c169 (nat_lit 197) (vi (nat_lit 1000000) (nat_lit 196))) :: (de P c170 (nat_lit 204) (vr (nat_lit 28))) :: (de P c171 (nat_lit 211) (vr (nat_lit 35))) :: (de P c172 (nat_lit 217) (vr (nat_lit 40))) :: (de P c173 (nat_lit 225) (vr (nat_lit 47))) :: (de P c174 (nat_lit 232) (vr (nat_lit 54))) :: (de P c175 (nat_lit 238) (vr (nat_lit 59))) :: (de P c176 (nat_lit 246) (vr (nat_lit 66))) :: (de P c177 (nat_lit 255) (vr (nat_lit 73))) :: (de P c178 (nat_lit 266) (vr (nat_lit 80))) :: (de P c179 (nat_lit 282) (vr (nat_lit 87))) :: (de P c180 (nat_lit 291) (vr (nat_lit 94))) :: (de P c198 (nat_lit 300) (vr (nat_lit 101))) :: (de P c199 (nat_lit 308) (vr (nat_lit 106))) :: (de P c200 (nat_lit 328) (vr (nat_lit 116))) :: (de P c208 (nat_lit 361) (vr (nat_lit 142))) :: (de P c214 (nat_lit 398) (vr (nat_lit 168))) :: (de P c220 (nat_lit 433) (vr (nat_lit 194))) :: (de P c224 (nat_lit 464) (vr (nat_lit 218))) :: (de P c227 (nat_lit 504) (vr (nat_lit 249))) :: (de P c233 (nat_lit 538) (vr (nat_lit 275))) :: (de P c236 (nat_lit 558) (vr (nat_lit 287))) :: (de P c237 (nat_lit 574) (vr (nat_lit 300))) :: (de P c239 (nat_lit 587) (vr (nat_lit 309))) :: (de P c240 (nat_lit 601) (vr (nat_lit 316))) :: (de P c241 (nat_lit 607) (vr (nat_lit 321))) :: (de P c189 (nat_lit 613) (vr (nat_lit 326))) :: (de P c242 (nat_lit 623) (vr (nat_lit 333))) :: (de P c243 (nat_lit 633) (vr (nat_lit 340))) :: (de P c244 (nat_lit 644) (vr (nat_lit 347))) :: (de P c245 (nat_lit 650) (vr (nat_lit 352))) :: (de P c246 (nat_lit 658) (vr (nat_lit 359))) :: (de P c247 (nat_lit 665) (vr (nat_lit 366))) :: (de P c248 (nat_lit 671) (vr (nat_lit 371))) :: (de P c249 (nat_lit 677) (vr (nat_lit 376))) :: (de P c269 (nat_lit 687) (vr (nat_lit 383))) :: (de P c270 (nat_lit 693) (vr (nat_lit 388))) :: [])⟩ (nat_lit 47)), ⟨[]⟩⟩
abbrev o12_258 (P : Params) : Obj := ⟨.none, none, (.fields ⟨(((vi (nat_lit 1) (nat_lit 0))) :: ((vi (nat_lit 0) (nat_lit 0))) :: ((vr (nat_lit 20))) :: ((vi (nat_lit 6) (nat_lit 0))) :: ((vi (nat_lit 0) (nat_lit 0))) :: ((vr (nat_lit 27))) :: ((vi (nat_lit 8) (nat_lit 0))) :: ((vi (nat_lit 0) (nat_lit 0))) :: ((vr (nat_lit 34))) :: ((vi (nat_lit 10) (nat_lit 0))) :: ((vi (nat_lit 0) (nat_lit 0))) :: ((vr (nat_lit 39))) :: ((vi (nat_lit 12) (nat_lit 0))) :: ((vi (nat_lit 0) (nat_lit 0))) :: ((vr (nat_lit 46))) :: ((vi (nat_lit 14) (nat_lit 0))) :: ((vi (nat_lit 0) (nat_lit 0))) :: ((vr (nat_lit 53))) :: ((vi (nat_lit 16) (nat_lit 0))) :: ((vi (nat_lit 0) (nat_lit 0))) :: ((vr (nat_lit 58))) :: ((vi (nat_lit 18) (nat_lit 0))) :: ((vi (nat_lit 0) (nat_lit 0))) :: ((vr (nat_lit 65))) :: ((vi (nat_lit 20) (nat_lit 0))) :: ((vi (nat_lit 0) (nat_lit 0))) :: ((vr (nat_lit 72))) :: ((vi (nat_lit 22) (nat_lit 0))) :: ((vi (nat_lit 0) (nat_lit 0))) :: ((vr (nat_lit 79))) :: ((vi (nat_lit 30) (nat_lit 0))) :: ((vi (nat_lit 0) (nat_lit 0))) :: ((vr (nat_lit 86))) :: ((vi (nat_lit 47) (nat_lit 0))) :: ((vi (nat_lit 0) (nat_lit 0))) :: ((vr (nat_lit 93))) :: ((vi (nat_lit 52) (nat_lit 0))) :: ((vi (nat_lit 0) (nat_lit 0))) :: ((vr (nat_lit 100))) :: ((vi (nat_lit 58) (nat_lit 0))) :: ((vi (nat_lit 0) (nat_lit 0))) :: ((vr (nat_lit 105))) :: ((vi (nat_lit 60) (nat_lit 0))) :: ((vi (nat_lit 0) (nat_lit 0))) :: ((vr (nat_lit 112))) :: ((vi (nat_lit 62) (nat_lit 0))) :: ((vi (nat_lit 0) (nat_lit 0))) :: ((vr (nat_lit 126))) :: ((vi (nat_lit 74) (nat_lit 0))) :: ((vi (nat_lit 0) (nat_lit 0))) :: ((vr (nat_lit 150))) :: ((vi (nat_lit 86) (nat_lit 0))) :: ((vi (nat_lit 0) (nat_lit 0))) :: ((vr (nat_lit 176))) :: ((vi (nat_lit 96) (nat_lit 0))) :: ((vi (nat_lit 0) (nat_lit 0))) :: ((vr (nat_lit 202))) :: ((vi (nat_lit 107) (nat_lit 0))) :: ((vi (nat_lit 0) (nat_lit 0))) :: ((vr (nat_lit 226))) :: ((vi (nat_lit 119) (nat_lit 0))) :: ((vi (nat_lit 0) (nat_lit 0))) :: ((vr (nat_lit 257))) :: ((vi (nat_lit 127) (nat_lit 0))) :: ((vi (nat_lit 0) (nat_lit 0))) :: ((vr (nat_lit 283))) :: ((vi (nat_lit 129) (nat_lit 0))) :: ((vi (nat_lit 0) (nat_lit 0))) :: ((vr (nat_lit 296))) :: ((vi (nat_lit 132) (nat_lit 0))) :: ((vi (nat_lit 0) (nat_lit 0))) :: ((vr (nat_lit 308))) :: ((vi (nat_lit 142) (nat_lit 0))) :: ((vi (nat_lit 0) (nat_lit 0))) :: ((vr (nat_lit 315))) :: ((vi (nat_lit 151) (nat_lit 0))) :: ((vi (nat_lit 0) (nat_lit 0))) :: ((vr (nat_lit 320))) :: ((vi (nat_lit 154) (nat_lit 0))) :: ((vi (nat_lit 0) (nat_lit 0))) :: ((vr (nat_lit 325))) :: ((vi (nat_lit 161) (nat_lit 0))) :: ((vi (nat_lit 0) (nat_lit 0))) :: ((vr (nat_lit 332))) :: ((vi (nat_lit 165) (nat_lit 0))) :: ((vi (nat_lit 0) (nat_lit 0))) :: ((vr (nat_lit 339))) :: ((vi (nat_lit 168) (nat_lit 0))) :: ((vi (nat_lit 0) (nat_lit 0))) :: ((vr (nat_lit 346))) :: ((vi (nat_lit 177) (nat_lit 0))) :: ((vi (nat_lit 0) (nat_lit 0))) :: ((vr (nat_lit 351))) :: ((vi (nat_lit 184) (nat_lit 0))) :: ((vi (nat_lit 0) (nat_lit 0))) :: ((vr (nat_lit 358))) :: ((vi (nat_lit 189) (nat_lit 0))) :: ((vi (nat_lit 0) (nat_lit 0))) :: ((vr (nat_lit 365))) :: ((vi (nat_lit 191) (nat_lit 0))) :: ((vi (nat_lit 0) (nat_lit 0))) :: ((vr (nat_lit 370))) :: ((vi (nat_lit 193) (nat_lit 0))) :: ((vi (nat_lit 0) (nat_lit 0))) :: ((vr (nat_lit 375))) :: ((vi (nat_lit 205) (nat_lit 0))) :: ((vi (nat_lit 0) (nat_lit 0))) :: ((vr (nat_lit 382))) :: ((vi (nat_lit 213) (nat_lit 0))) :: ((vi (nat_lit 0) (nat_lit 0))) :: ((vr (nat_lit 387))) :: [])⟩), ⟨[]⟩⟩
abbrev o379_259 (P : Params) : Obj := ⟨(.type l71), none, (.seq ⟨[(vs c271 (nat_lit 681)), (vs c264 (nat_lit 682)), (vs c272 (nat_lit 683)), (vs c273 (nat_lit 684))]⟩ (nat_lit 0)), ⟨[]⟩⟩
abbrev o381_260 (P : Params) : Obj := ⟨.none, none, (.func ⟨c269, c269, (fA (tp 41)), .stmts (fB (tp 41)), (fS (tp 41)), (nat_lit 0), [], .none, .none, .none, .none, none, .none, .none, (nat_lit 0)⟩), ⟨[]⟩⟩
abbrev o382_261 (P : Params) : Obj := ⟨(.type l152), none, (.fields ⟨[(vs c269 (nat_lit 678)), (vs c269 (nat_lit 679)), (vs c164 (nat_lit 680)), (vi (nat_lit 205) (nat_lit 0)), (vi (nat_lit 2) (nat_lit 0)), (vi (nat_lit 0) (nat_lit 0)), (vi (nat_lit 0) (nat_lit 0)), (vi (nat_lit 3) (nat_lit 0)), (vr (nat_lit 377)), (.bool true), (vi (nat_lit 181) (nat_lit 0)), (vr (nat_lit 378)), .none, (vr (nat_lit 379)), (vr (nat_lit 380)), (vr (nat_lit 381)), (vi (nat_lit 685) (nat_lit 0)), (vi (nat_lit 205) (nat_lit 0)), (vs c164 (nat_lit 686))]⟩), ⟨[]⟩⟩
abbrev o383_262 (P : Params) : Obj := ⟨(.type l154), none, (.func ⟨c269, c269, (fA (tp 41)), .stmts (fB (tp 41)), (fS (tp 41)), (nat_lit 3), [], .none, .none, .none, (vs c238 (nat_lit 614)), none, (vr (nat_lit 382)), .none, (nat_lit 0)⟩), ⟨[]⟩⟩
abbrev o386_263 (P : Params) : Obj := ⟨.none, none, (.func ⟨c270, c270, (fA (tp 42)), .stmts (fB (tp 42)), (fS (tp 42)), (nat_lit 0), [], .none, .none, .none, .none, none, .none, .none, (nat_lit 0)⟩), ⟨[]⟩⟩
abbrev o387_264 (P : Params) : Obj := ⟨(.type l152), none, (.fields ⟨[(vs c270 (nat_lit 688)), (vs c270 (nat_lit 689)), (vs c164 (nat_lit 690)), (vi (nat_lit 213) (nat_lit 0)), (vi (nat_lit 1) (nat_lit 0)), (vi (nat_lit 0) (nat_lit 0)), (vi (nat_lit 0) (nat_lit 0)), (vi (nat_lit 3) (nat_lit 0)), (vr (nat_lit 384)), (.bool true), (vi (nat_lit 181) (nat_lit 0)), (vr (nat_lit 385)), .none, .none, .none, (vr (nat_lit 386)), (vi (nat_lit 691) (nat_lit 0)), (vi (nat_lit 213) (nat_lit 0)), (vs c164 (nat_lit 692))]⟩), ⟨[]⟩⟩
abbrev o388_265 (P : Params) : Obj := ⟨(.type l154), none, (.func ⟨c270, c270, (fA (tp 42)), .stmts (fB (tp 42)), (fS (tp 42)), (nat_lit 3), [], .none, .none, .none, (vs c238 (nat_lit 614)), none, (vr (nat_lit 387)), .none, (nat_lit 0)⟩), ⟨[]⟩⟩
abbrev ha (P : Params) : Heap := ⟨⟨[PySem.W.boot_o_0 P, PySem.W.boot_o_1 P, PySem.W.boot_o_2 P, PySem.W.boot_o_3 P, PySem.W.boot_o_4 P, PySem.W.boot_o_5 P, PySem.W.boot_o_6 P, PySem.W.boot_o_7 P, PySem.W.boot_o_8 P, PySem.W.boot_o_9 P, PySem.W.boot_o_10 P, o11_0 P, o12_1 P, o13_2 P, o14_3 P]⟩, {}⟩
abbrev t0 (P : Params) : BT := (.node (PySem.W.boot_o_0 P) (.node (PySem.W.boot_o_1 P) (.node (PySem.W.boot_o_3 P) (.node (PySem.W.boot_o_7 P) .nil .nil) (.node (o11_0 P) .nil .nil)) (.node (PySem.W.boot_o_5 P) (.node (PySem.W.boot_o_9 P) .nil .nil) (.node (o13_2 P) .nil .nil))) (.node (PySem.W.boot_o_2 P) (.node (PySem.W.boot_o_4 P) (.node (PySem.W.boot_o_8 P) .nil .nil) (.node (o12_1 P) .nil .nil)) (.node (PySem.W.boot_o_6 P) (.node (PySem.W.boot_o_10 P) .nil .nil) (.node (o14_3 P) .nil .nil))))
abbrev t1 (P : Params) : BT := (.node (PySem.W.boot_o_0 P) (.node (PySem.W.boot_o_1 P) (.node (o3_4 P) (.node (PySem.W.boot_o_7 P) (.node (o11_0 P) (.node (o31_14 P) (.node (o11_0 P) .nil .nil) .nil) (.node (o47_24 P) (.node (o79_42 P) .nil .nil) .nil)) (.node (o12_1 P) (.node (o39_19 P) (.node (o71_37 P) .nil .nil) .nil) (.node (o11_0 P) (.node (o87_47 P) .nil .nil) .nil))) (.node (o11_0 P) (.node (o19_7 P) (.node (o35_17 P) (.node (o11_0 P) .nil .nil) .nil) (.node (o11_0 P) (.node (o83_44 P) .nil .nil) .nil)) (.node (o27_12 P) (.node (o43_21 P) (.node (o12_1 P) .nil .nil) .nil) (.node (o59_31 P) (.node (o11_0 P) .nil .nil) .nil)))) (.node (PySem.W.boot_o_5 P) (.node (PySem.W.boot_o_9 P) (.node (o17_6 P) (.node (o33_15 P) (.node (o65_34 P) .nil .nil) .nil) (.node (o12_1 P) (.node (o11_0 P) .nil .nil) .nil)) (.node (o11_0 P) (.node (o11_0 P) (.node (o73_39 P) .nil .nil) .nil) (.node (o57_29 P) (.node (o12_1 P) .nil .nil) .nil))) (.node (o13_2 P) (.node (o21_9 P) (.node (o12_1 P) (.node (o69_36 P) .nil .nil) .nil) (.node (o53_27 P) (.node (o85_45 P) .nil .nil) .nil)) (.node (o11_0 P) (.node (o45_22 P) (.node (o11_0 P) .nil .nil) .nil) (.node (o12_1 P) (.node (o93_50 P) .nil .nil) .nil))))) (.node (PySem.W.boot_o_2 P) (.node (PySem.W.boot_o_4 P) (.node (PySem.W.boot_o_8 P) (.node (o12_1 P) (.node (o11_0 P) (.node (o64_33 P) .nil .nil) .nil) (.node (o11_0 P) (.node (o80_43 P) .nil .nil) .nil)) (.node (o24_10 P) (.node (o40_20 P) (.node (o72_38 P) .nil .nil) .nil) (.node (o12_1 P) (.node (o11_0 P) .nil .nil) .nil))) (.node (o12_5 P) (.node (o20_8 P) (.node (o11_0 P) (.node (o12_1 P) .nil .nil) .nil) (.node (o52_26 P) (.node (o11_0 P) .nil .nil) .nil)) (.node (o28_13 P) (.node (o11_0 P) (.node (o76_40 P) .nil .nil) .nil) (.node (o11_0 P) (.node (o92_49 P) .nil .nil) .nil)))) (.node (PySem.W.boot_o_6 P) (.node (PySem.W.boot_o_10 P) (.node (o11_0 P) (.node (o34_16 P) (.node (o66_35 P) .nil .nil) .nil) (.node (o50_25 P) (.node (o12_1 P) .nil .nil) .nil)) (.node (o26_11 P) (.node (o12_1 P) (.node (o11_0 P) .nil .nil) .nil) (.node (o58_30 P) (.node (o90_48 P) .nil .nil) .nil))) (.node (o14_3 P) (.node (o11_0 P) (.node (o38_18 P) (.node (o11_0 P) .nil .nil) .nil) (.node (o54_28 P) (.node (o86_46 P) .nil .nil) .nil)) (.node (o12_1 P) (.node (o46_23 P) (.node (o78_41 P) .nil .nil) .nil) (.node (o62_32 P) (.node (o94_51 P) .nil .nil) .nil))))))
abbrev t2 (P : Params) : BT := (.node (PySem.W.boot_o_0 P) (.node (PySem.W.boot_o_1 P) (.node (o3_52 P) (.node (PySem.W.boot_o_7 P) (.node (o11_0 P) (.node (o31_14 P) (.node (o11_0 P) .nil .nil) (.node (o11_0 P) .nil .nil)) (.node (o47_24 P) (.node (o79_42 P) .nil .nil) (.node (o12_1 P) .nil .nil))) (.node (o12_1 P) (.node (o39_19 P) (.node (o71_37 P) .nil .nil) (.node (o12_1 P) .nil .nil)) (.node (o11_0 P) (.node (o87_47 P) .nil .nil) (.node (o119_69 P) .nil .nil)))) (.node (o11_0 P) (.node (o19_7 P) (.node (o35_17 P) (.node (o11_0 P) .nil .nil) (.node (o99_55 P) .nil .nil)) (.node (o11_0 P) (.node (o83_44 P) .nil .nil) (.node (o115_65 P) .nil .nil))) (.node (o27_12 P) (.node (o43_21 P) (.node (o12_1 P) .nil .nil) (.node (o11_0 P) .nil .nil)) (.node (o59_31 P) (.node (o11_0 P) .nil .nil) .nil)))) (.node (PySem.W.boot_o_5 P) (.node (PySem.W.boot_o_9 P) (.node (o17_6 P) (.node (o33_15 P) (.node (o65_34 P) .nil .nil) (.node (o97_54 P) .nil .nil)) (.node (o12_1 P) (.node (o11_0 P) .nil .nil) (.node (o113_64 P) .nil .nil))) (.node (o11_0 P) (.node (o11_0 P) (.node (o73_39 P) .nil .nil) (.node (o105_59 P) .nil .nil)) (.node (o57_29 P) (.node (o12_1 P) .nil .nil) .nil))) (.node (o13_2 P) (.node (o21_9 P) (.node (o12_1 P) (.node (o69_36 P) .nil .nil) (.node (o101_57 P) .nil .nil)) (.node (o53_27 P) (.node (o85_45 P) .nil .nil) (.node (o117_67 P) .nil .nil))) (.node (o11_0 P) (.node (o45_22 P) (.node (o11_0 P) .nil .nil) (.node (o109_62 P) .nil .nil)) (.node (o12_1 P) (.node (o93_50 P) .nil .nil) .nil))))) (.node (PySem.W.boot_o_2 P) (.node (PySem.W.boot_o_4 P) (.node (PySem.W.boot_o_8 P) (.node (o12_1 P) (.node (o11_0 P) (.node (o64_33 P) .nil .nil) (.node (o12_1 P) .nil .nil)) (.node (o11_0 P) (.node (o80_43 P) .nil .nil) (.node (o112_63 P) .nil .nil))) (.node (o24_10 P) (.node (o40_20 P) (.node (o72_38 P) .nil .nil) (.node (o104_58 P) .nil .nil)) (.node (o12_1 P) (.node (o11_0 P) .nil .nil) (.node (o120_70 P) .nil .nil)))) (.node (o12_53 P) (.node (o20_8 P) (.node (o11_0 P) (.node (o12_1 P) .nil .nil) (.node (o100_56 P) .nil .nil)) (.node (o52_26 P) (.node (o11_0 P) .nil .nil) (.node (o116_66 P) .nil .nil))) (.node (o28_13 P) (.node (o11_0 P) (.node (o76_40 P) .nil .nil) (.node (o108_61 P) .nil .nil)) (.node (o11_0 P) (.node (o92_49 P) .nil .nil) .nil)))) (.node (PySem.W.boot_o_6 P) (.node (PySem.W.boot_o_10 P) (.node (o11_0 P) (.node (o34_16 P) (.node (o66_35 P) .nil .nil) (.node (o11_0 P) .nil .nil)) (.node (o50_25 P) (.node (o12_1 P) .nil .nil) (.node (o11_0 P) .nil .nil))) (.node (o26_11 P) (.node (o12_1 P) (.node (o11_0 P) .nil .nil) (.node (o106_60 P) .nil .nil)) (.node (o58_30 P) (.node (o90_48 P) .nil .nil) .nil))) (.node (o14_3 P) (.node (o11_0 P) (.node (o38_18 P) (.node (o11_0 P) .nil .nil) (.node (o11_0 P) .nil .nil)) (.node (o54_28 P) (.node (o86_46 P) .nil .nil) (.node (o118_68 P) .nil .nil))) (.node (o12_1 P) (.node (o46_23 P) (.node (o78_41 P) .nil .nil) (.node (o11_0 P) .nil .nil)) (.node (o62_32 P) (.node (o94_51 P) .nil .nil) .nil))))))
abbrev t3 (P : Params) : BT := (.node (PySem.W.boot_o_0 P) (.node (PySem.W.boot_o_1 P) (.node (o3_71 P) (.node (PySem.W.boot_o_7 P) (.node (o11_0 P) (.node (o31_14 P) (.node (o11_0 P) (.node (o127_78 P) .nil .nil) .nil) (.node (o11_0 P) .nil .nil)) (.node (o47_24 P) (.node (o79_42 P) (.node (o143_89 P) .nil .nil) .nil) (.node (o12_1 P) .nil .nil))) (.node (o12_1 P) (.node (o39_19 P) (.node (o71_37 P) (.node (o11_0 P) .nil .nil) .nil) (.node (o12_1 P) .nil .nil)) (.node (o11_0 P) (.node (o87_47 P) .nil .nil) (.node (o119_69 P) .nil .nil)))) (.node (o11_0 P) (.node (o19_7 P) (.node (o35_17 P) (.node (o11_0 P) (.node (o11_0 P) .nil .nil) .nil) (.node (o99_55 P) .nil .nil)) (.node (o11_0 P) (.node (o83_44 P) .nil .nil) (.node (o115_65 P) .nil .nil))) (.node (o27_12 P) (.node (o43_21 P) (.node (o12_1 P) (.node (o139_85 P) .nil .nil) .nil) (.node (o11_0 P) .nil .nil)) (.node (o59_31 P) (.node (o11_0 P) .nil .nil) (.node (o123_75 P) .nil .nil))))) (.node (PySem.W.boot_o_5 P) (.node (PySem.W.boot_o_9 P) (.node (o17_6 P) (.node (o33_15 P) (.node (o65_34 P) (.node (o12_1 P) .nil .nil) .nil) (.node (o97_54 P) .nil .nil)) (.node (o12_1 P) (.node (o11_0 P) .nil .nil) (.node (o113_64 P) .nil .nil))) (.node (o11_0 P) (.node (o11_0 P) (.node (o73_39 P) (.node (o137_83 P) .nil .nil) .nil) (.node (o105_59 P) .nil .nil)) (.node (o57_29 P) (.node (o12_1 P) .nil .nil) (.node (o121_74 P) .nil .nil)))) (.node (o13_2 P) (.node (o21_9 P) (.node (o12_1 P) (.node (o69_36 P) (.node (o133_81 P) .nil .nil) .nil) (.node (o101_57 P) .nil .nil)) (.node (o53_27 P) (.node (o85_45 P) .nil .nil) (.node (o117_67 P) .nil .nil))) (.node (o11_0 P) (.node (o45_22 P) (.node (o11_0 P) (.node (o141_87 P) .nil .nil) .nil) (.node (o109_62 P) .nil .nil)) (.node (o12_1 P) (.node (o93_50 P) .nil .nil) (.node (o125_76 P) .nil .nil)))))) (.node (PySem.W.boot_o_2 P) (.node (PySem.W.boot_o_4 P) (.node (PySem.W.boot_o_8 P) (.node (o12_1 P) (.node (o11_0 P) (.node (o64_33 P) (.node (o11_0 P) .nil .nil) .nil) (.node (o12_1 P) .nil .nil)) (.node (o11_0 P) (.node (o80_43 P) (.node (o144_90 P) .nil .nil) .nil) (.node (o112_63 P) .nil .nil))) (.node (o24_10 P) (.node (o40_20 P) (.node (o72_38 P) (.node (o12_1 P) .nil .nil) .nil) (.node (o104_58 P) .nil .nil)) (.node (o12_1 P) (.node (o11_0 P) .nil .nil) (.node (o120_70 P) .nil .nil)))) (.node (o12_72 P) (.node (o20_8 P) (.node (o11_0 P) (.node (o12_1 P) (.node (o132_80 P) .nil .nil) .nil) (.node (o100_56 P) .nil .nil)) (.node (o52_26 P) (.node (o11_0 P) .nil .nil) (.node (o116_73 P) .nil .nil))) (.node (o28_13 P) (.node (o11_0 P) (.node (o76_40 P) (.node (o140_86 P) .nil .nil) .nil) (.node (o108_61 P) .nil .nil)) (.node (o11_0 P) (.node (o92_49 P) .nil .nil) (.node (o11_0 P) .nil .nil))))) (.node (PySem.W.boot_o_6 P) (.node (PySem.W.boot_o_10 P) (.node (o11_0 P) (.node (o34_16 P) (.node (o66_35 P) (.node (o130_79 P) .nil .nil) .nil) (.node (o11_0 P) .nil .nil)) (.node (o50_25 P) (.node (o12_1 P) .nil .nil) (.node (o11_0 P) .nil .nil))) (.node (o26_11 P) (.node (o12_1 P) (.node (o11_0 P) (.node (o138_84 P) .nil .nil) .nil) (.node (o106_60 P) .nil .nil)) (.node (o58_30 P) (.node (o90_48 P) .nil .nil) (.node (o108_61 P) .nil .nil)))) (.node (o14_3 P) (.node (o11_0 P) (.node (o38_18 P) (.node (o11_0 P) (.node (o134_82 P) .nil .nil) .nil) (.node (o11_0 P) .nil .nil)) (.node (o54_28 P) (.node (o86_46 P) .nil .nil) (.node (o118_68 P) .nil .nil))) (.node (o12_1 P) (.node (o46_23 P) (.node (o78_41 P) (.node (o142_88 P) .nil .nil) .nil) (.node (o11_0 P) .nil .nil)) (.node (o62_32 P) (.node (o94_51 P) .nil .nil) (.node (o126_77 P) .nil .nil)))))))
abbrev t4 (P : Params) : BT := (.node (PySem.W.boot_o_0 P) (.node (PySem.W.boot_o_1 P) (.node (o3_91 P) (.node (PySem.W.boot_o_7 P) (.node (o11_0 P) (.node (o31_14 P) (.node (o11_0 P) (.node (o127_78 P) .nil .nil) .nil) (.node (o11_0 P) (.node (o11_0 P) .nil .nil) .nil)) (.node (o47_24 P) (.node (o79_42 P) (.node (o143_89 P) .nil .nil) .nil) (.node (o12_1 P) .nil .nil))) (.node (o12_1 P) (.node (o39_19 P) (.node (o71_37 P) (.node (o11_0 P) .nil .nil) .nil) (.node (o12_1 P) (.node (o167_107 P) .nil .nil) .nil)) (.node (o11_0 P) (.node (o87_47 P) (.node (o151_97 P) .nil .nil) .nil) (.node (o119_69 P) .nil .nil)))) (.node (o11_0 P) (.node (o19_7 P) (.node (o35_17 P) (.node (o11_0 P) (.node (o11_0 P) .nil .nil) .nil) (.node (o99_55 P) (.node (o163_103 P) .nil .nil) .nil)) (.node (o11_0 P) (.node (o83_44 P) (.node (o147_94 P) .nil .nil) .nil) (.node (o115_65 P) .nil .nil))) (.node (o27_12 P) (.node (o43_21 P) (.node (o12_1 P) (.node (o139_85 P) .nil .nil) .nil) (.node (o11_0 P) .nil .nil)) (.node (o59_31 P) (.node (o11_0 P) (.node (o11_0 P) .nil .nil) .nil) (.node (o123_75 P) .nil .nil))))) (.node (PySem.W.boot_o_5 P) (.node (PySem.W.boot_o_9 P) (.node (o17_6 P) (.node (o33_15 P) (.node (o65_34 P) (.node (o12_1 P) .nil .nil) .nil) (.node (o97_54 P) (.node (o161_102 P) .nil .nil) .nil)) (.node (o12_1 P) (.node (o11_0 P) (.node (o121_74 P) .nil .nil) .nil) (.node (o113_64 P) .nil .nil))) (.node (o11_0 P) (.node (o11_0 P) (.node (o73_39 P) (.node (o137_83 P) .nil .nil) .nil) (.node (o105_59 P) (.node (o169_109 P) .nil .nil) .nil)) (.node (o57_29 P) (.node (o12_1 P) (.node (o12_1 P) .nil .nil) .nil) (.node (o121_74 P) .nil .nil)))) (.node (o13_2 P) (.node (o21_9 P) (.node (o12_1 P) (.node (o69_36 P) (.node (o133_81 P) .nil .nil) .nil) (.node (o101_57 P) (.node (o165_105 P) .nil .nil) .nil)) (.node (o53_27 P) (.node (o85_45 P) (.node (o149_95 P) .nil .nil) .nil) (.node (o117_67 P) .nil .nil))) (.node (o11_0 P) (.node (o45_22 P) (.node (o11_0 P) (.node (o141_87 P) .nil .nil) .nil) (.node (o109_62 P) .nil .nil)) (.node (o12_1 P) (.node (o93_50 P) (.node (o157_100 P) .nil .nil) .nil) (.node (o125_76 P) .nil .nil)))))) (.node (PySem.W.boot_o_2 P) (.node (PySem.W.boot_o_4 P) (.node (PySem.W.boot_o_8 P) (.node (o12_1 P) (.node (o11_0 P) (.node (o64_33 P) (.node (o11_0 P) .nil .nil) .nil) (.node (o12_1 P) (.node (o12_1 P) .nil .nil) .nil)) (.node (o11_0 P) (.node (o80_43 P) (.node (o144_90 P) .nil .nil) .nil) (.node (o112_63 P) .nil .nil))) (.node (o24_10 P) (.node (o40_20 P) (.node (o72_38 P) (.node (o12_1 P) .nil .nil) .nil) (.node (o104_58 P) (.node (o168_108 P) .nil .nil) .nil)) (.node (o12_1 P) (.node (o11_0 P) (.node (o11_0 P) .nil .nil) .nil) (.node (o120_70 P) .nil .nil)))) (.node (o12_92 P) (.node (o20_8 P) (.node (o11_0 P) (.node (o12_1 P) (.node (o132_80 P) .nil .nil) .nil) (.node (o100_56 P) (.node (o164_104 P) .nil .nil) .nil)) (.node (o52_26 P) (.node (o11_0 P) (.node (o11_0 P) .nil .nil) .nil) (.node (o116_93 P) .nil .nil))) (.node (o28_13 P) (.node (o11_0 P) (.node (o76_40 P) (.node (o140_86 P) .nil .nil) .nil) (.node (o108_61 P) .nil .nil)) (.node (o11_0 P) (.node (o92_49 P) (.node (o156_99 P) .nil .nil) .nil) (.node (o11_0 P) .nil .nil))))) (.node (PySem.W.boot_o_6 P) (.node (PySem.W.boot_o_10 P) (.node (o11_0 P) (.node (o34_16 P) (.node (o66_35 P) (.node (o130_79 P) .nil .nil) .nil) (.node (o11_0 P) (.node (o11_0 P) .nil .nil) .nil)) (.node (o50_25 P) (.node (o12_1 P) (.node (o108_61 P) .nil .nil) .nil) (.node (o11_0 P) .nil .nil))) (.node (o26_11 P) (.node (o12_1 P) (.node (o11_0 P) (.node (o138_84 P) .nil .nil) .nil) (.node (o106_60 P) (.node (o170_110 P) .nil .nil) .nil)) (.node (o58_30 P) (.node (o90_48 P) (.node (o154_98 P) .nil .nil) .nil) (.node (o108_61 P) .nil .nil)))) (.node (o14_3 P) (.node (o11_0 P) (.node (o38_18 P) (.node (o11_0 P) (.node (o134_82 P) .nil .nil) .nil) (.node (o11_0 P) (.node (o166_106 P) .nil .nil) .nil)) (.node (o54_28 P) (.node (o86_46 P) (.node (o150_96 P) .nil .nil) .nil) (.node (o118_68 P) .nil .nil))) (.node (o12_1 P) (.node (o46_23 P) (.node (o78_41 P) (.node (o142_88 P) .nil .nil) .nil) (.node (o11_0 P) .nil .nil)) (.node (o62_32 P) (.node (o94_51 P) (.node (o158_101 P) .nil .nil) .nil) (.node (o126_77 P) .nil .nil)))))))
abbrev t5 (P : Params) : BT := (.node (PySem.W.boot_o_0 P) (.node (PySem.W.boot_o_1 P) (.node (o3_111 P) (.node (PySem.W.boot_o_7 P) (.node (o11_0 P) (.node (o31_14 P) (.node (o11_0 P) (.node (o127_78 P) .nil .nil) (.node (o191_125 P) .nil .nil)) (.node (o11_0 P) (.node (o11_0 P) .nil .nil) .nil)) (.node (o47_24 P) (.node (o79_42 P) (.node (o143_89 P) .nil .nil) .nil) (.node (o12_1 P) (.node (o175_115 P) .nil .nil) .nil))) (.node (o12_1 P) (.node (o39_19 P) (.node (o71_37 P) (.node (o11_0 P) .nil .nil) .nil) (.node (o12_1 P) (.node (o167_107 P) .nil .nil) .nil)) (.node (o11_0 P) (.node (o87_47 P) (.node (o151_97 P) .nil .nil) .nil) (.node (o119_69 P) (.node (o183_120 P) .nil .nil) .nil)))) (.node (o11_0 P) (.node (o19_7 P) (.node (o35_17 P) (.node (o11_0 P) (.node (o11_0 P) .nil .nil) (.node (o195_129 P) .nil .nil)) (.node (o99_55 P) (.node (o163_103 P) .nil .nil) .nil)) (.node (o11_0 P) (.node (o83_44 P) (.node (o147_94 P) .nil .nil) .nil) (.node (o115_65 P) (.node (o12_1 P) .nil .nil) .nil))) (.node (o27_12 P) (.node (o43_21 P) (.node (o12_1 P) (.node (o139_85 P) .nil .nil) .nil) (.node (o11_0 P) (.node (o121_74 P) .nil .nil) .nil)) (.node (o59_31 P) (.node (o11_0 P) (.node (o11_0 P) .nil .nil) .nil) (.node (o123_75 P) (.node (o187_122 P) .nil .nil) .nil))))) (.node (PySem.W.boot_o_5 P) (.node (PySem.W.boot_o_9 P) (.node (o17_6 P) (.node (o33_15 P) (.node (o65_34 P) (.node (o12_1 P) .nil .nil) (.node (o193_127 P) .nil .nil)) (.node (o97_54 P) (.node (o161_102 P) .nil .nil) .nil)) (.node (o12_1 P) (.node (o11_0 P) (.node (o121_74 P) .nil .nil) .nil) (.node (o113_64 P) (.node (o177_117 P) .nil .nil) .nil))) (.node (o11_0 P) (.node (o11_0 P) (.node (o73_39 P) (.node (o137_83 P) .nil .nil) .nil) (.node (o105_59 P) (.node (o169_109 P) .nil .nil) .nil)) (.node (o57_29 P) (.node (o12_1 P) (.node (o12_1 P) .nil .nil) .nil) (.node (o121_74 P) (.node (o11_0 P) .nil .nil) .nil)))) (.node (o13_2 P) (.node (o21_9 P) (.node (o12_1 P) (.node (o69_36 P) (.node (o133_81 P) .nil .nil) .nil) (.node (o101_57 P) (.node (o165_105 P) .nil .nil) .nil)) (.node (o53_27 P) (.node (o85_45 P) (.node (o149_95 P) .nil .nil) .nil) (.node (o117_67 P) (.node (o11_0 P) .nil .nil) .nil))) (.node (o11_0 P) (.node (o45_22 P) (.node (o11_0 P) (.node (o141_87 P) .nil .nil) .nil) (.node (o109_62 P) (.node (o173_114 P) .nil .nil) .nil)) (.node (o12_1 P) (.node (o93_50 P) (.node (o157_100 P) .nil .nil) .nil) (.node (o125_76 P) (.node (o189_123 P) .nil .nil) .nil)))))) (.node (PySem.W.boot_o_2 P) (.node (PySem.W.boot_o_4 P) (.node (PySem.W.boot_o_8 P) (.node (o12_1 P) (.node (o11_0 P) (.node (o64_33 P) (.node (o11_0 P) .nil .nil) (.node (o192_126 P) .nil .nil)) (.node (o12_1 P) (.node (o12_1 P) .nil .nil) .nil)) (.node (o11_0 P) (.node (o80_43 P) (.node (o144_90 P) .nil .nil) .nil) (.node (o112_63 P) (.node (o176_116 P) .nil .nil) .nil))) (.node (o24_10 P) (.node (o40_20 P) (.node (o72_38 P) (.node (o12_1 P) .nil .nil) .nil) (.node (o104_58 P) (.node (o168_108 P) .nil .nil) .nil)) (.node (o12_1 P) (.node (o11_0 P) (.node (o11_0 P) .nil .nil) .nil) (.node (o120_70 P) (.node (o184_121 P) .nil .nil) .nil)))) (.node (o12_112 P) (.node (o20_8 P) (.node (o11_0 P) (.node (o12_1 P) (.node (o132_80 P) .nil .nil) (.node (o196_130 P) .nil .nil)) (.node (o100_56 P) (.node (o164_104 P) .nil .nil) .nil)) (.node (o52_26 P) (.node (o11_0 P) (.node (o11_0 P) .nil .nil) .nil) (.node (o116_113 P) (.node (o180_118 P) .nil .nil) .nil))) (.node (o28_13 P) (.node (o11_0 P) (.node (o76_40 P) (.node (o140_86 P) .nil .nil) .nil) (.node (o108_61 P) (.node (o108_61 P) .nil .nil) .nil)) (.node (o11_0 P) (.node (o92_49 P) (.node (o156_99 P) .nil .nil) .nil) (.node (o11_0 P) (.node (o11_0 P) .nil .nil) .nil))))) (.node (PySem.W.boot_o_6 P) (.node (PySem.W.boot_o_10 P) (.node (o11_0 P) (.node (o34_16 P) (.node (o66_35 P) (.node (o130_79 P) .nil .nil) (.node (o194_128 P) .nil .nil)) (.node (o11_0 P) (.node (o11_0 P) .nil .nil) .nil)) (.node (o50_25 P) (.node (o12_1 P) (.node (o108_61 P) .nil .nil) .nil) (.node (o11_0 P) (.node (o11_0 P) .nil .nil) .nil))) (.node (o26_11 P) (.node (o12_1 P) (.node (o11_0 P) (.node (o138_84 P) .nil .nil) .nil) (.node (o106_60 P) (.node (o170_110 P) .nil .nil) .nil)) (.node (o58_30 P) (.node (o90_48 P) (.node (o154_98 P) .nil .nil) .nil) (.node (o108_61 P) (.node (o12_1 P) .nil .nil) .nil)))) (.node (o14_3 P) (.node (o11_0 P) (.node (o38_18 P) (.node (o11_0 P) (.node (o134_82 P) .nil .nil) .nil) (.node (o11_0 P) (.node (o166_106 P) .nil .nil) .nil)) (.node (o54_28 P) (.node (o86_46 P) (.node (o150_96 P) .nil .nil) .nil) (.node (o118_68 P) (.node (o182_119 P) .nil .nil) .nil))) (.node (o12_1 P) (.node (o46_23 P) (.node (o78_41 P) (.node (o142_88 P) .nil .nil) .nil) (.node (o11_0 P) (.node (o11_0 P) .nil .nil) .nil)) (.node (o62_32 P) (.node (o94_51 P) (.node (o158_101 P) .nil .nil) .nil) (.node (o126_77 P) (.node (o190_124 P) .nil .nil) .nil)))))))
abbrev t6 (P : Params) : BT := (.node (PySem.W.boot_o_0 P) (.node (PySem.W.boot_o_1 P) (.node (o3_131 P) (.node (PySem.W.boot_o_7 P) (.node (o11_0 P) (.node (o31_14 P) (.node (o11_0 P) (.node (o127_78 P) .nil .nil) (.node (o191_125 P) .nil .nil)) (.node (o11_0 P) (.node (o11_0 P) .nil .nil) .nil)) (.node (o47_24 P) (.node (o79_42 P) (.node (o143_89 P) .nil .nil) (.node (o11_0 P) .nil .nil)) (.node (o12_1 P) (.node (o175_115 P) .nil .nil) .nil))) (.node (o12_1 P) (.node (o39_19 P) (.node (o71_37 P) (.node (o11_0 P) .nil .nil) (.node (o199_134 P) .nil .nil)) (.node (o12_1 P) (.node (o167_107 P) .nil .nil) .nil)) (.node (o11_0 P) (.node (o87_47 P) (.node (o151_97 P) .nil .nil) (.node (o215_144 P) .nil .nil)) (.node (o119_69 P) (.node (o183_120 P) .nil .nil) .nil)))) (.node (o11_0 P) (.node (o19_7 P) (.node (o35_17 P) (.node (o11_0 P) (.node (o11_0 P) .nil .nil) (.node (o195_129 P) .nil .nil)) (.node (o99_55 P) (.node (o163_103 P) .nil .nil) .nil)) (.node (o11_0 P) (.node (o83_44 P) (.node (o147_94 P) .nil .nil) (.node (o11_0 P) .nil .nil)) (.node (o115_65 P) (.node (o12_1 P) .nil .nil) .nil))) (.node (o27_12 P) (.node (o43_21 P) (.node (o12_1 P) (.node (o139_85 P) .nil .nil) (.node (o203_137 P) .nil .nil)) (.node (o11_0 P) (.node (o121_74 P) .nil .nil) .nil)) (.node (o59_31 P) (.node (o11_0 P) (.node (o11_0 P) .nil .nil) (.node (o219_148 P) .nil .nil)) (.node (o123_75 P) (.node (o187_122 P) .nil .nil) .nil))))) (.node (PySem.W.boot_o_5 P) (.node (PySem.W.boot_o_9 P) (.node (o17_6 P) (.node (o33_15 P) (.node (o65_34 P) (.node (o12_1 P) .nil .nil) (.node (o193_127 P) .nil .nil)) (.node (o97_54 P) (.node (o161_102 P) .nil .nil) .nil)) (.node (o12_1 P) (.node (o11_0 P) (.node (o121_74 P) .nil .nil) (.node (o209_140 P) .nil .nil)) (.node (o113_64 P) (.node (o177_117 P) .nil .nil) .nil))) (.node (o11_0 P) (.node (o11_0 P) (.node (o73_39 P) (.node (o137_83 P) .nil .nil) (.node (o201_135 P) .nil .nil)) (.node (o105_59 P) (.node (o169_109 P) .nil .nil) .nil)) (.node (o57_29 P) (.node (o12_1 P) (.node (o12_1 P) .nil .nil) (.node (o217_146 P) .nil .nil)) (.node (o121_74 P) (.node (o11_0 P) .nil .nil) .nil)))) (.node (o13_2 P) (.node (o21_9 P) (.node (o12_1 P) (.node (o69_36 P) (.node (o133_81 P) .nil .nil) (.node (o121_74 P) .nil .nil)) (.node (o101_57 P) (.node (o165_105 P) .nil .nil) .nil)) (.node (o53_27 P) (.node (o85_45 P) (.node (o149_95 P) .nil .nil) (.node (o213_142 P) .nil .nil)) (.node (o117_67 P) (.node (o11_0 P) .nil .nil) .nil))) (.node (o11_0 P) (.node (o45_22 P) (.node (o11_0 P) (.node (o141_87 P) .nil .nil) (.node (o12_1 P) .nil .nil)) (.node (o109_62 P) (.node (o173_114 P) .nil .nil) .nil)) (.node (o12_1 P) (.node (o93_50 P) (.node (o157_100 P) .nil .nil) .nil) (.node (o125_76 P) (.node (o189_123 P) .nil .nil) .nil)))))) (.node (PySem.W.boot_o_2 P) (.node (PySem.W.boot_o_4 P) (.node (PySem.W.boot_o_8 P) (.node (o12_1 P) (.node (o11_0 P) (.node (o64_33 P) (.node (o11_0 P) .nil .nil) (.node (o192_126 P) .nil .nil)) (.node (o12_1 P) (.node (o12_1 P) .nil .nil) .nil)) (.node (o11_0 P) (.node (o80_43 P) (.node (o144_90 P) .nil .nil) (.node (o208_139 P) .nil .nil)) (.node (o112_63 P) (.node (o176_116 P) .nil .nil) .nil))) (.node (o24_10 P) (.node (o40_20 P) (.node (o72_38 P) (.node (o12_1 P) .nil .nil) (.node (o11_0 P) .nil .nil)) (.node (o104_58 P) (.node (o168_108 P) .nil .nil) .nil)) (.node (o12_1 P) (.node (o11_0 P) (.node (o11_0 P) .nil .nil) (.node (o216_145 P) .nil .nil)) (.node (o120_70 P) (.node (o184_121 P) .nil .nil) .nil)))) (.node (o12_132 P) (.node (o20_8 P) (.node (o11_0 P) (.node (o12_1 P) (.node (o132_80 P) .nil .nil) (.node (o196_130 P) .nil .nil)) (.node (o100_56 P) (.node (o164_104 P) .nil .nil) .nil)) (.node (o52_26 P) (.node (o11_0 P) (.node (o11_0 P) .nil .nil) (.node (o12_1 P) .nil .nil)) (.node (o116_133 P) (.node (o180_118 P) .nil .nil) .nil))) (.node (o28_13 P) (.node (o11_0 P) (.node (o76_40 P) (.node (o140_86 P) .nil .nil) (.node (o11_0 P) .nil .nil)) (.node (o108_61 P) (.node (o108_61 P) .nil .nil) .nil)) (.node (o11_0 P) (.node (o92_49 P) (.node (o156_99 P) .nil .nil) (.node (o220_149 P) .nil .nil)) (.node (o11_0 P) (.node (o11_0 P) .nil .nil) .nil))))) (.node (PySem.W.boot_o_6 P) (.node (PySem.W.boot_o_10 P) (.node (o11_0 P) (.node (o34_16 P) (.node (o66_35 P) (.node (o130_79 P) .nil .nil) (.node (o194_128 P) .nil .nil)) (.node (o11_0 P) (.node (o11_0 P) .nil .nil) .nil)) (.node (o50_25 P) (.node (o12_1 P) (.node (o108_61 P) .nil .nil) (.node (o210_141 P) .nil .nil)) (.node (o11_0 P) (.node (o11_0 P) .nil .nil) .nil))) (.node (o26_11 P) (.node (o12_1 P) (.node (o11_0 P) (.node (o138_84 P) .nil .nil) (.node (o202_136 P) .nil .nil)) (.node (o106_60 P) (.node (o170_110 P) .nil .nil) .nil)) (.node (o58_30 P) (.node (o90_48 P) (.node (o154_98 P) .nil .nil) (.node (o218_147 P) .nil .nil)) (.node (o108_61 P) (.node (o12_1 P) .nil .nil) .nil)))) (.node (o14_3 P) (.node (o11_0 P) (.node (o38_18 P) (.node (o11_0 P) (.node (o134_82 P) .nil .nil) (.node (o108_61 P) .nil .nil)) (.node (o11_0 P) (.node (o166_106 P) .nil .nil) .nil)) (.node (o54_28 P) (.node (o86_46 P) (.node (o150_96 P) .nil .nil) (.node (o214_143 P) .nil .nil)) (.node (o118_68 P) (.node (o182_119 P) .nil .nil) .nil))) (.node (o12_1 P) (.node (o46_23 P) (.node (o78_41 P) (.node (o142_88 P) .nil .nil) (.node (o206_138 P) .nil .nil)) (.node (o11_0 P) (.node (o11_0 P) .nil .nil) .nil)) (.node (o62_32 P) (.node (o94_51 P) (.node (o158_101 P) .nil .nil) .nil) (.node (o126_77 P) (.node (o190_124 P) .nil .nil) .nil)))))))
abbrev t7 (P : Params) : BT := (.node (PySem.W.boot_o_0 P) (.node (PySem.W.boot_o_1 P) (.node (o3_150 P) (.node (PySem.W.boot_o_7 P) (.node (o11_0 P) (.node (o31_14 P) (.node (o11_0 P) (.node (o127_78 P) .nil .nil) (.node (o191_125 P) .nil .nil)) (.node (o11_0 P) (.node (o11_0 P) .nil .nil) (.node (o223_153 P) .nil .nil))) (.node (o47_24 P) (.node (o79_42 P) (.node (o143_89 P) .nil .nil) (.node (o11_0 P) .nil .nil)) (.node (o12_1 P) (.node (o175_115 P) .nil .nil) (.node (o239_163 P) .nil .nil)))) (.node (o12_1 P) (.node (o39_19 P) (.node (o71_37 P) (.node (o11_0 P) .nil .nil) (.node (o199_134 P) .nil .nil)) (.node (o12_1 P) (.node (o167_107 P) .nil .nil) (.node (o11_0 P) .nil .nil))) (.node (o11_0 P) (.node (o87_47 P) (.node (o151_97 P) .nil .nil) (.node (o215_144 P) .nil .nil)) (.node (o119_69 P) (.node (o183_120 P) .nil .nil) (.node (o247_168 P) .nil .nil))))) (.node (o11_0 P) (.node (o19_7 P) (.node (o35_17 P) (.node (o11_0 P) (.node (o11_0 P) .nil .nil) (.node (o195_129 P) .nil .nil)) (.node (o99_55 P) (.node (o163_103 P) .nil .nil) (.node (o227_156 P) .nil .nil))) (.node (o11_0 P) (.node (o83_44 P) (.node (o147_94 P) .nil .nil) (.node (o11_0 P) .nil .nil)) (.node (o115_65 P) (.node (o12_1 P) .nil .nil) (.node (o11_0 P) .nil .nil)))) (.node (o27_12 P) (.node (o43_21 P) (.node (o12_1 P) (.node (o139_85 P) .nil .nil) (.node (o203_137 P) .nil .nil)) (.node (o11_0 P) (.node (o121_74 P) .nil .nil) (.node (o11_0 P) .nil .nil))) (.node (o59_31 P) (.node (o11_0 P) (.node (o11_0 P) .nil .nil) (.node (o219_148 P) .nil .nil)) (.node (o123_75 P) (.node (o187_122 P) .nil .nil) (.node (o251_172 P) .nil .nil)))))) (.node (PySem.W.boot_o_5 P) (.node (PySem.W.boot_o_9 P) (.node (o17_6 P) (.node (o33_15 P) (.node (o65_34 P) (.node (o12_1 P) .nil .nil) (.node (o193_127 P) .nil .nil)) (.node (o97_54 P) (.node (o161_102 P) .nil .nil) (.node (o225_154 P) .nil .nil))) (.node (o12_1 P) (.node (o11_0 P) (.node (o121_74 P) .nil .nil) (.node (o209_140 P) .nil .nil)) (.node (o113_64 P) (.node (o177_117 P) .nil .nil) (.node (o12_1 P) .nil .nil)))) (.node (o11_0 P) (.node (o11_0 P) (.node (o73_39 P) (.node (o137_83 P) .nil .nil) (.node (o201_135 P) .nil .nil)) (.node (o105_59 P) (.node (o169_109 P) .nil .nil) (.node (o233_159 P) .nil .nil))) (.node (o57_29 P) (.node (o12_1 P) (.node (o12_1 P) .nil .nil) (.node (o217_146 P) .nil .nil)) (.node (o121_74 P) (.node (o11_0 P) .nil .nil) (.node (o249_170 P) .nil .nil))))) (.node (o13_2 P) (.node (o21_9 P) (.node (o12_1 P) (.node (o69_36 P) (.node (o133_81 P) .nil .nil) (.node (o121_74 P) .nil .nil)) (.node (o101_57 P) (.node (o165_105 P) .nil .nil) (.node (o12_1 P) .nil .nil))) (.node (o53_27 P) (.node (o85_45 P) (.node (o149_95 P) .nil .nil) (.node (o213_142 P) .nil .nil)) (.node (o117_67 P) (.node (o11_0 P) .nil .nil) (.node (o245_166 P) .nil .nil)))) (.node (o11_0 P) (.node (o45_22 P) (.node (o11_0 P) (.node (o141_87 P) .nil .nil) (.node (o12_1 P) .nil .nil)) (.node (o109_62 P) (.node (o173_114 P) .nil .nil) (.node (o237_161 P) .nil .nil))) (.node (o12_1 P) (.node (o93_50 P) (.node (o157_100 P) .nil .nil) (.node (o121_74 P) .nil .nil)) (.node (o125_76 P) (.node (o189_123 P) .nil .nil) .nil)))))) (.node (PySem.W.boot_o_2 P) (.node (PySem.W.boot_o_4 P) (.node (PySem.W.boot_o_8 P) (.node (o12_1 P) (.node (o11_0 P) (.node (o64_33 P) (.node (o11_0 P) .nil .nil) (.node (o192_126 P) .nil .nil)) (.node (o12_1 P) (.node (o12_1 P) .nil .nil) (.node (o11_0 P) .nil .nil))) (.node (o11_0 P) (.node (o80_43 P) (.node (o144_90 P) .nil .nil) (.node (o208_139 P) .nil .nil)) (.node (o112_63 P) (.node (o176_116 P) .nil .nil) (.node (o11_0 P) .nil .nil)))) (.node (o24_10 P) (.node (o40_20 P) (.node (o72_38 P) (.node (o12_1 P) .nil .nil) (.node (o11_0 P) .nil .nil)) (.node (o104_58 P) (.node (o168_108 P) .nil .nil) (.node (o232_158 P) .nil .nil))) (.node (o12_1 P) (.node (o11_0 P) (.node (o11_0 P) .nil .nil) (.node (o216_145 P) .nil .nil)) (.node (o120_70 P) (.node (o184_121 P) .nil .nil) (.node (o248_169 P) .nil .nil))))) (.node (o12_151 P) (.node (o20_8 P) (.node (o11_0 P) (.node (o12_1 P) (.node (o132_80 P) .nil .nil) (.node (o196_130 P) .nil .nil)) (.node (o100_56 P) (.node (o164_104 P) .nil .nil) (.node (o11_0 P) .nil .nil))) (.node (o52_26 P) (.node (o11_0 P) (.node (o11_0 P) .nil .nil) (.node (o12_1 P) .nil .nil)) (.node (o116_152 P) (.node (o180_118 P) .nil .nil) (.node (o244_165 P) .nil .nil)))) (.node (o28_13 P) (.node (o11_0 P) (.node (o76_40 P) (.node (o140_86 P) .nil .nil) (.node (o11_0 P) .nil .nil)) (.node (o108_61 P) (.node (o108_61 P) .nil .nil) (.node (o12_1 P) .nil .nil))) (.node (o11_0 P) (.node (o92_49 P) (.node (o156_99 P) .nil .nil) (.node (o220_149 P) .nil .nil)) (.node (o11_0 P) (.node (o11_0 P) .nil .nil) .nil))))) (.node (PySem.W.boot_o_6 P) (.node (PySem.W.boot_o_10 P) (.node (o11_0 P) (.node (o34_16 P) (.node (o66_35 P) (.node (o130_79 P) .nil .nil) (.node (o194_128 P) .nil .nil)) (.node (o11_0 P) (.node (o11_0 P) .nil .nil) (.node (o226_155 P) .nil .nil))) (.node (o50_25 P) (.node (o12_1 P) (.node (o108_61 P) .nil .nil) (.node (o210_141 P) .nil .nil)) (.node (o11_0 P) (.node (o11_0 P) .nil .nil) (.node (o242_164 P) .nil .nil)))) (.node (o26_11 P) (.node (o12_1 P) (.node (o11_0 P) (.node (o138_84 P) .nil .nil) (.node (o202_136 P) .nil .nil)) (.node (o106_60 P) (.node (o170_110 P) .nil .nil) (.node (o234_160 P) .nil .nil))) (.node (o58_30 P) (.node (o90_48 P) (.node (o154_98 P) .nil .nil) (.node (o218_147 P) .nil .nil)) (.node (o108_61 P) (.node (o12_1 P) .nil .nil) (.node (o250_171 P) .nil .nil))))) (.node (o14_3 P) (.node (o11_0 P) (.node (o38_18 P) (.node (o11_0 P) (.node (o134_82 P) .nil .nil) (.node (o108_61 P) .nil .nil)) (.node (o11_0 P) (.node (o166_106 P) .nil .nil) (.node (o230_157 P) .nil .nil))) (.node (o54_28 P) (.node (o86_46 P) (.node (o150_96 P) .nil .nil) (.node (o214_143 P) .nil .nil)) (.node (o118_68 P) (.node (o182_119 P) .nil .nil) (.node (o246_167 P) .nil .nil)))) (.node (o12_1 P) (.node (o46_23 P) (.node (o78_41 P) (.node (o142_88 P) .nil .nil) (.node (o206_138 P) .nil .nil)) (.node (o11_0 P) (.node (o11_0 P) .nil .nil) (.node (o238_162 P) .nil .nil))) (.node (o62_32 P) (.node (o94_51 P) (.node (o158_101 P) .nil .nil) (.node (o108_61 P) .nil .nil)) (.node (o126_77 P) (.node (o190_124 P) .nil .nil) .nil)))))))
abbrev t8 (P : Params) : BT := (.node (PySem.W.boot_o_0 P) (.node (PySem.W.boot_o_1 P) (.node (o3_173 P) (.node (PySem.W.boot_o_7 P) (.node (o11_0 P) (.node (o31_14 P) (.node (o11_0 P) (.node (o127_78 P) (.node (o11_0 P) .nil .nil) .nil) (.node (o191_125 P) .nil .nil)) (.node (o11_0 P) (.node (o11_0 P) .nil .nil) (.node (o223_153 P) .nil .nil))) (.node (o47_24 P) (.node (o79_42 P) (.node (o143_89 P) (.node (o271_186 P) .nil .nil) .nil) (.node (o11_0 P) .nil .nil)) (.node (o12_1 P) (.node (o175_115 P) .nil .nil) (.node (o239_163 P) .nil .nil)))) (.node (o12_1 P) (.node (o39_19 P) (.node (o71_37 P) (.node (o11_0 P) (.node (o263_181 P) .nil .nil) .nil) (.node (o199_134 P) .nil .nil)) (.node (o12_1 P) (.node (o167_107 P) .nil .nil) (.node (o11_0 P) .nil .nil))) (.node (o11_0 P) (.node (o87_47 P) (.node (o151_97 P) .nil .nil) (.node (o215_144 P) .nil .nil)) (.node (o119_69 P) (.node (o183_120 P) .nil .nil) (.node (o247_168 P) .nil .nil))))) (.node (o11_0 P) (.node (o19_7 P) (.node (o35_17 P) (.node (o11_0 P) (.node (o11_0 P) (.node (o11_0 P) .nil .nil) .nil) (.node (o195_129 P) .nil .nil)) (.node (o99_55 P) (.node (o163_103 P) .nil .nil) (.node (o227_156 P) .nil .nil))) (.node (o11_0 P) (.node (o83_44 P) (.node (o147_94 P) (.node (o275_190 P) .nil .nil) .nil) (.node (o11_0 P) .nil .nil)) (.node (o115_65 P) (.node (o12_1 P) .nil .nil) (.node (o11_0 P) .nil .nil)))) (.node (o27_12 P) (.node (o43_21 P) (.node (o12_1 P) (.node (o139_85 P) (.node (o12_1 P) .nil .nil) .nil) (.node (o203_137 P) .nil .nil)) (.node (o11_0 P) (.node (o121_74 P) .nil .nil) (.node (o11_0 P) .nil .nil))) (.node (o59_31 P) (.node (o11_0 P) (.node (o11_0 P) .nil .nil) (.node (o219_148 P) .nil .nil)) (.node (o123_75 P) (.node (o187_122 P) .nil .nil) (.node (o251_172 P) .nil .nil)))))) (.node (PySem.W.boot_o_5 P) (.node (PySem.W.boot_o_9 P) (.node (o17_6 P) (.node (o33_15 P) (.node (o65_34 P) (.node (o12_1 P) (.node (o257_178 P) .nil .nil) .nil) (.node (o193_127 P) .nil .nil)) (.node (o97_54 P) (.node (o161_102 P) .nil .nil) (.node (o225_154 P) .nil .nil))) (.node (o12_1 P) (.node (o11_0 P) (.node (o121_74 P) (.node (o273_188 P) .nil .nil) .nil) (.node (o209_140 P) .nil .nil)) (.node (o113_64 P) (.node (o177_117 P) .nil .nil) (.node (o12_1 P) .nil .nil)))) (.node (o11_0 P) (.node (o11_0 P) (.node (o73_39 P) (.node (o137_83 P) (.node (o265_183 P) .nil .nil) .nil) (.node (o201_135 P) .nil .nil)) (.node (o105_59 P) (.node (o169_109 P) .nil .nil) (.node (o233_159 P) .nil .nil))) (.node (o57_29 P) (.node (o12_1 P) (.node (o12_1 P) .nil .nil) (.node (o217_146 P) .nil .nil)) (.node (o121_74 P) (.node (o11_0 P) .nil .nil) (.node (o249_170 P) .nil .nil))))) (.node (o13_2 P) (.node (o21_9 P) (.node (o12_1 P) (.node (o69_36 P) (.node (o133_81 P) (.node (o261_180 P) .nil .nil) .nil) (.node (o121_74 P) .nil .nil)) (.node (o101_57 P) (.node (o165_105 P) .nil .nil) (.node (o12_1 P) .nil .nil))) (.node (o53_27 P) (.node (o85_45 P) (.node (o149_95 P) (.node (o277_192 P) .nil .nil) .nil) (.node (o213_142 P) .nil .nil)) (.node (o117_67 P) (.node (o11_0 P) .nil .nil) (.node (o245_166 P) .nil .nil)))) (.node (o11_0 P) (.node (o45_22 P) (.node (o11_0 P) (.node (o141_87 P) (.node (o11_0 P) .nil .nil) .nil) (.node (o12_1 P) .nil .nil)) (.node (o109_62 P) (.node (o173_114 P) .nil .nil) (.node (o237_161 P) .nil .nil))) (.node (o12_1 P) (.node (o93_50 P) (.node (o157_100 P) .nil .nil) (.node (o121_74 P) .nil .nil)) (.node (o125_76 P) (.node (o189_123 P) .nil .nil) (.node (o108_61 P) .nil .nil))))))) (.node (PySem.W.boot_o_2 P) (.node (PySem.W.boot_o_4 P) (.node (PySem.W.boot_o_8 P) (.node (o12_1 P) (.node (o11_0 P) (.node (o64_33 P) (.node (o11_0 P) (.node (o256_177 P) .nil .nil) .nil) (.node (o192_126 P) .nil .nil)) (.node (o12_1 P) (.node (o12_1 P) .nil .nil) (.node (o11_0 P) .nil .nil))) (.node (o11_0 P) (.node (o80_43 P) (.node (o144_90 P) (.node (o272_187 P) .nil .nil) .nil) (.node (o208_139 P) .nil .nil)) (.node (o112_63 P) (.node (o176_116 P) .nil .nil) (.node (o11_0 P) .nil .nil)))) (.node (o24_10 P) (.node (o40_20 P) (.node (o72_38 P) (.node (o12_1 P) (.node (o264_182 P) .nil .nil) .nil) (.node (o11_0 P) .nil .nil)) (.node (o104_58 P) (.node (o168_108 P) .nil .nil) (.node (o232_158 P) .nil .nil))) (.node (o12_1 P) (.node (o11_0 P) (.node (o11_0 P) .nil .nil) (.node (o216_145 P) .nil .nil)) (.node (o120_70 P) (.node (o184_121 P) .nil .nil) (.node (o248_169 P) .nil .nil))))) (.node (o12_174 P) (.node (o20_8 P) (.node (o11_0 P) (.node (o12_1 P) (.node (o132_80 P) (.node (o12_1 P) .nil .nil) .nil) (.node (o196_130 P) .nil .nil)) (.node (o100_56 P) (.node (o164_104 P) .nil .nil) (.node (o11_0 P) .nil .nil))) (.node (o52_26 P) (.node (o11_0 P) (.node (o11_0 P) (.node (o276_191 P) .nil .nil) .nil) (.node (o12_1 P) .nil .nil)) (.node (o116_175 P) (.node (o180_118 P) .nil .nil) (.node (o244_165 P) .nil .nil)))) (.node (o28_13 P) (.node (o11_0 P) (.node (o76_40 P) (.node (o140_86 P) (.node (o268_184 P) .nil .nil) .nil) (.node (o11_0 P) .nil .nil)) (.node (o108_61 P) (.node (o108_61 P) .nil .nil) (.node (o12_1 P) .nil .nil))) (.node (o11_0 P) (.node (o92_49 P) (.node (o156_99 P) .nil .nil) (.node (o220_149 P) .nil .nil)) (.node (o11_0 P) (.node (o11_0 P) .nil .nil) (.node (o121_74 P) .nil .nil)))))) (.node (PySem.W.boot_o_6 P) (.node (PySem.W.boot_o_10 P) (.node (o11_0 P) (.node (o34_16 P) (.node (o66_35 P) (.node (o130_79 P) (.node (o258_179 P) .nil .nil) .nil) (.node (o194_128 P) .nil .nil)) (.node (o11_0 P) (.node (o11_0 P) .nil .nil) (.node (o226_155 P) .nil .nil))) (.node (o50_25 P) (.node (o12_1 P) (.node (o108_61 P) (.node (o274_189 P) .nil .nil) .nil) (.node (o210_141 P) .nil .nil)) (.node (o11_0 P) (.node (o11_0 P) .nil .nil) (.node (o242_164 P) .nil .nil)))) (.node (o26_11 P) (.node (o12_1 P) (.node (o11_0 P) (.node (o138_84 P) (.node (o11_0 P) .nil .nil) .nil) (.node (o202_136 P) .nil .nil)) (.node (o106_60 P) (.node (o170_110 P) .nil .nil) (.node (o234_160 P) .nil .nil))) (.node (o58_30 P) (.node (o90_48 P) (.node (o154_98 P) .nil .nil) (.node (o218_147 P) .nil .nil)) (.node (o108_61 P) (.node (o12_1 P) .nil .nil) (.node (o250_171 P) .nil .nil))))) (.node (o14_3 P) (.node (o11_0 P) (.node (o38_18 P) (.node (o11_0 P) (.node (o134_82 P) (.node (o11_0 P) .nil .nil) .nil) (.node (o108_61 P) .nil .nil)) (.node (o11_0 P) (.node (o166_106 P) .nil .nil) (.node (o230_157 P) .nil .nil))) (.node (o54_28 P) (.node (o86_46 P) (.node (o150_96 P) .nil .nil) (.node (o214_143 P) .nil .nil)) (.node (o118_68 P) (.node (o182_119 P) .nil .nil) (.node (o246_167 P) .nil .nil)))) (.node (o12_1 P) (.node (o46_23 P) (.node (o78_41 P) (.node (o142_88 P) (.node (o270_185 P) .nil .nil) .nil) (.node (o206_138 P) .nil .nil)) (.node (o11_0 P) (.node (o11_0 P) .nil .nil) (.node (o238_162 P) .nil .nil))) (.node (o62_32 P) (.node (o94_51 P) (.node (o158_101 P) .nil .nil) (.node (o108_61 P) .nil .nil)) (.node (o126_77 P) (.node (o190_124 P) .nil .nil) (.node (o254_176 P) .nil .nil))))))))
abbrev t9 (P : Params) : BT := (.node (PySem.W.boot_o_0 P) (.node (PySem.W.boot_o_1 P) (.node (o3_193 P) (.node (PySem.W.boot_o_7 P) (.node (o11_0 P) (.node (o31_14 P) (.node (o11_0 P) (.node (o127_78 P) (.node (o11_0 P) .nil .nil) .nil) (.node (o191_125 P) .nil .nil)) (.node (o11_0 P) (.node (o11_0 P) (.node (o287_200 P) .nil .nil) .nil) (.node (o223_153 P) .nil .nil))) (.node (o47_24 P) (.node (o79_42 P) (.node (o143_89 P) (.node (o271_186 P) .nil .nil) .nil) (.node (o11_0 P) .nil .nil)) (.node (o12_1 P) (.node (o175_115 P) .nil .nil) (.node (o239_163 P) .nil .nil)))) (.node (o12_1 P) (.node (o39_19 P) (.node (o71_37 P) (.node (o11_0 P) (.node (o263_181 P) .nil .nil) .nil) (.node (o199_134 P) .nil .nil)) (.node (o12_1 P) (.node (o167_107 P) (.node (o12_1 P) .nil .nil) .nil) (.node (o11_0 P) .nil .nil))) (.node (o11_0 P) (.node (o87_47 P) (.node (o151_97 P) (.node (o108_61 P) .nil .nil) .nil) (.node (o215_144 P) .nil .nil)) (.node (o119_69 P) (.node (o183_120 P) .nil .nil) (.node (o247_168 P) .nil .nil))))) (.node (o11_0 P) (.node (o19_7 P) (.node (o35_17 P) (.node (o11_0 P) (.node (o11_0 P) (.node (o11_0 P) .nil .nil) .nil) (.node (o195_129 P) .nil .nil)) (.node (o99_55 P) (.node (o163_103 P) (.node (o291_204 P) .nil .nil) .nil) (.node (o227_156 P) .nil .nil))) (.node (o11_0 P) (.node (o83_44 P) (.node (o147_94 P) (.node (o275_190 P) .nil .nil) .nil) (.node (o11_0 P) .nil .nil)) (.node (o115_65 P) (.node (o12_1 P) .nil .nil) (.node (o11_0 P) .nil .nil)))) (.node (o27_12 P) (.node (o43_21 P) (.node (o12_1 P) (.node (o139_85 P) (.node (o12_1 P) .nil .nil) .nil) (.node (o203_137 P) .nil .nil)) (.node (o11_0 P) (.node (o121_74 P) (.node (o299_208 P) .nil .nil) .nil) (.node (o11_0 P) .nil .nil))) (.node (o59_31 P) (.node (o11_0 P) (.node (o11_0 P) (.node (o283_197 P) .nil .nil) .nil) (.node (o219_148 P) .nil .nil)) (.node (o123_75 P) (.node (o187_122 P) .nil .nil) (.node (o251_172 P) .nil .nil)))))) (.node (PySem.W.boot_o_5 P) (.node (PySem.W.boot_o_9 P) (.node (o17_6 P) (.node (o33_15 P) (.node (o65_34 P) (.node (o12_1 P) (.node (o257_178 P) .nil .nil) .nil) (.node (o193_127 P) .nil .nil)) (.node (o97_54 P) (.node (o161_102 P) (.node (o289_202 P) .nil .nil) .nil) (.node (o225_154 P) .nil .nil))) (.node (o12_1 P) (.node (o11_0 P) (.node (o121_74 P) (.node (o273_188 P) .nil .nil) .nil) (.node (o209_140 P) .nil .nil)) (.node (o113_64 P) (.node (o177_117 P) .nil .nil) (.node (o12_1 P) .nil .nil)))) (.node (o11_0 P) (.node (o11_0 P) (.node (o73_39 P) (.node (o137_83 P) (.node (o265_183 P) .nil .nil) .nil) (.node (o201_135 P) .nil .nil)) (.node (o105_59 P) (.node (o169_109 P) (.node (o297_207 P) .nil .nil) .nil) (.node (o233_159 P) .nil .nil))) (.node (o57_29 P) (.node (o12_1 P) (.node (o12_1 P) (.node (o11_0 P) .nil .nil) .nil) (.node (o217_146 P) .nil .nil)) (.node (o121_74 P) (.node (o11_0 P) .nil .nil) (.node (o249_170 P) .nil .nil))))) (.node (o13_2 P) (.node (o21_9 P) (.node (o12_1 P) (.node (o69_36 P) (.node (o133_81 P) (.node (o261_180 P) .nil .nil) .nil) (.node (o121_74 P) .nil .nil)) (.node (o101_57 P) (.node (o165_105 P) (.node (o293_205 P) .nil .nil) .nil) (.node (o12_1 P) .nil .nil))) (.node (o53_27 P) (.node (o85_45 P) (.node (o149_95 P) (.node (o277_192 P) .nil .nil) .nil) (.node (o213_142 P) .nil .nil)) (.node (o117_67 P) (.node (o11_0 P) .nil .nil) (.node (o245_166 P) .nil .nil)))) (.node (o11_0 P) (.node (o45_22 P) (.node (o11_0 P) (.node (o141_87 P) (.node (o11_0 P) .nil .nil) .nil) (.node (o12_1 P) .nil .nil)) (.node (o109_62 P) (.node (o173_114 P) (.node (o301_210 P) .nil .nil) .nil) (.node (o237_161 P) .nil .nil))) (.node (o12_1 P) (.node (o93_50 P) (.node (o157_100 P) (.node (o11_0 P) .nil .nil) .nil) (.node (o121_74 P) .nil .nil)) (.node (o125_76 P) (.node (o189_123 P) .nil .nil) (.node (o108_61 P) .nil .nil))))))) (.node (PySem.W.boot_o_2 P) (.node (PySem.W.boot_o_4 P) (.node (PySem.W.boot_o_8 P) (.node (o12_1 P) (.node (o11_0 P) (.node (o64_33 P) (.node (o11_0 P) (.node (o256_177 P) .nil .nil) .nil) (.node (o192_126 P) .nil .nil)) (.node (o12_1 P) (.node (o12_1 P) (.node (o288_201 P) .nil .nil) .nil) (.node (o11_0 P) .nil .nil))) (.node (o11_0 P) (.node (o80_43 P) (.node (o144_90 P) (.node (o272_187 P) .nil .nil) .nil) (.node (o208_139 P) .nil .nil)) (.node (o112_63 P) (.node (o176_116 P) .nil .nil) (.node (o11_0 P) .nil .nil)))) (.node (o24_10 P) (.node (o40_20 P) (.node (o72_38 P) (.node (o12_1 P) (.node (o264_182 P) .nil .nil) .nil) (.node (o11_0 P) .nil .nil)) (.node (o104_58 P) (.node (o168_108 P) (.node (o296_206 P) .nil .nil) .nil) (.node (o232_158 P) .nil .nil))) (.node (o12_1 P) (.node (o11_0 P) (.node (o11_0 P) (.node (o280_196 P) .nil .nil) .nil) (.node (o216_145 P) .nil .nil)) (.node (o120_70 P) (.node (o184_121 P) .nil .nil) (.node (o248_169 P) .nil .nil))))) (.node (o12_194 P) (.node (o20_8 P) (.node (o11_0 P) (.node (o12_1 P) (.node (o132_80 P) (.node (o12_1 P) .nil .nil) .nil) (.node (o196_130 P) .nil .nil)) (.node (o100_56 P) (.node (o164_104 P) (.node (o108_61 P) .nil .nil) .nil) (.node (o11_0 P) .nil .nil))) (.node (o52_26 P) (.node (o11_0 P) (.node (o11_0 P) (.node (o276_191 P) .nil .nil) .nil) (.node (o12_1 P) .nil .nil)) (.node (o116_175 P) (.node (o180_118 P) .nil .nil) (.node (o244_165 P) .nil .nil)))) (.node (o28_13 P) (.node (o11_0 P) (.node (o76_40 P) (.node (o140_86 P) (.node (o268_184 P) .nil .nil) .nil) (.node (o11_0 P) .nil .nil)) (.node (o108_61 P) (.node (o108_61 P) (.node (o300_209 P) .nil .nil) .nil) (.node (o12_1 P) .nil .nil))) (.node (o11_0 P) (.node (o92_49 P) (.node (o156_99 P) (.node (o284_198 P) .nil .nil) .nil) (.node (o220_149 P) .nil .nil)) (.node (o11_0 P) (.node (o11_0 P) .nil .nil) (.node (o121_74 P) .nil .nil)))))) (.node (PySem.W.boot_o_6 P) (.node (PySem.W.boot_o_10 P) (.node (o11_0 P) (.node (o34_16 P) (.node (o66_35 P) (.node (o130_79 P) (.node (o258_179 P) .nil .nil) .nil) (.node (o194_128 P) .nil .nil)) (.node (o11_0 P) (.node (o11_0 P) (.node (o290_203 P) .nil .nil) .nil) (.node (o226_155 P) .nil .nil))) (.node (o50_25 P) (.node (o12_1 P) (.node (o108_61 P) (.node (o274_189 P) .nil .nil) .nil) (.node (o210_141 P) .nil .nil)) (.node (o11_0 P) (.node (o11_0 P) .nil .nil) (.node (o242_164 P) .nil .nil)))) (.node (o26_11 P) (.node (o12_1 P) (.node (o11_0 P) (.node (o138_84 P) (.node (o11_0 P) .nil .nil) .nil) (.node (o202_136 P) .nil .nil)) (.node (o106_60 P) (.node (o170_110 P) (.node (o11_0 P) .nil .nil) .nil) (.node (o234_160 P) .nil .nil))) (.node (o58_30 P) (.node (o90_48 P) (.node (o154_98 P) (.node (o12_1 P) .nil .nil) .nil) (.node (o218_147 P) .nil .nil)) (.node (o108_61 P) (.node (o12_1 P) .nil .nil) (.node (o250_171 P) .nil .nil))))) (.node (o14_3 P) (.node (o11_0 P) (.node (o38_18 P) (.node (o11_0 P) (.node (o134_82 P) (.node (o11_0 P) .nil .nil) .nil) (.node (o108_61 P) .nil .nil)) (.node (o11_0 P) (.node (o166_106 P) (.node (o11_0 P) .nil .nil) .nil) (.node (o230_157 P) .nil .nil))) (.node (o54_28 P) (.node (o86_46 P) (.node (o150_96 P) (.node (o278_195 P) .nil .nil) .nil) (.node (o214_143 P) .nil .nil)) (.node (o118_68 P) (.node (o182_119 P) .nil .nil) (.node (o246_167 P) .nil .nil)))) (.node (o12_1 P) (.node (o46_23 P) (.node (o78_41 P) (.node (o142_88 P) (.node (o270_185 P) .nil .nil) .nil) (.node (o206_138 P) .nil .nil)) (.node (o11_0 P) (.node (o11_0 P) (.node (o302_211 P) .nil .nil) .nil) (.node (o238_162 P) .nil .nil))) (.node (o62_32 P) (.node (o94_51 P) (.node (o158_101 P) (.node (o286_199 P) .nil .nil) .nil) (.node (o108_61 P) .nil .nil)) (.node (o126_77 P) (.node (o190_124 P) .nil .nil) (.node (o254_176 P) .nil .nil))))))))
abbrev t10 (P : Params) : BT := (.node (PySem.W.boot_o_0 P) (.node (PySem.W.boot_o_1 P) (.node (o3_212 P) (.node (PySem.W.boot_o_7 P) (.node (o11_0 P) (.node (o31_14 P) (.node (o11_0 P) (.node (o127_78 P) (.node (o11_0 P) .nil .nil) .nil) (.node (o191_125 P) (.node (o319_222 P) .nil .nil) .nil)) (.node (o11_0 P) (.node (o11_0 P) (.node (o287_200 P) .nil .nil) .nil) (.node (o223_153 P) (.node (o351_241 P) .nil .nil) .nil))) (.node (o47_24 P) (.node (o79_42 P) (.node (o143_89 P) (.node (o271_186 P) .nil .nil) .nil) (.node (o11_0 P) (.node (o12_1 P) .nil .nil) .nil)) (.node (o12_1 P) (.node (o175_115 P) (.node (o11_0 P) .nil .nil) .nil) (.node (o239_163 P) (.node (o11_0 P) .nil .nil) .nil)))) (.node (o12_1 P) (.node (o39_19 P) (.node (o71_37 P) (.node (o11_0 P) (.node (o263_181 P) .nil .nil) .nil) (.node (o199_134 P) (.node (o11_0 P) .nil .nil) .nil)) (.node (o12_1 P) (.node (o167_107 P) (.node (o12_1 P) .nil .nil) .nil) (.node (o11_0 P) (.node (o359_246 P) .nil .nil) .nil))) (.node (o11_0 P) (.node (o87_47 P) (.node (o151_97 P) (.node (o108_61 P) .nil .nil) .nil) (.node (o215_144 P) (.node (o343_236 P) .nil .nil) .nil)) (.node (o119_69 P) (.node (o183_120 P) (.node (o12_1 P) .nil .nil) .nil) (.node (o247_168 P) (.node (o375_255 P) .nil .nil) .nil))))) (.node (o11_0 P) (.node (o19_7 P) (.node (o35_17 P) (.node (o11_0 P) (.node (o11_0 P) (.node (o11_0 P) .nil .nil) .nil) (.node (o195_129 P) (.node (o12_1 P) .nil .nil) .nil)) (.node (o99_55 P) (.node (o163_103 P) (.node (o291_204 P) .nil .nil) .nil) (.node (o227_156 P) (.node (o355_243 P) .nil .nil) .nil))) (.node (o11_0 P) (.node (o83_44 P) (.node (o147_94 P) (.node (o275_190 P) .nil .nil) .nil) (.node (o11_0 P) (.node (o339_234 P) .nil .nil) .nil)) (.node (o115_65 P) (.node (o12_1 P) (.node (o307_215 P) .nil .nil) .nil) (.node (o11_0 P) (.node (o371_253 P) .nil .nil) .nil)))) (.node (o27_12 P) (.node (o43_21 P) (.node (o12_1 P) (.node (o139_85 P) (.node (o12_1 P) .nil .nil) .nil) (.node (o203_137 P) (.node (o331_229 P) .nil .nil) .nil)) (.node (o11_0 P) (.node (o121_74 P) (.node (o299_208 P) .nil .nil) .nil) (.node (o11_0 P) (.node (o11_0 P) .nil .nil) .nil))) (.node (o59_31 P) (.node (o11_0 P) (.node (o11_0 P) (.node (o283_197 P) .nil .nil) .nil) (.node (o219_148 P) (.node (o347_239 P) .nil .nil) .nil)) (.node (o123_75 P) (.node (o187_122 P) (.node (o315_220 P) .nil .nil) .nil) (.node (o251_172 P) .nil .nil)))))) (.node (PySem.W.boot_o_5 P) (.node (PySem.W.boot_o_9 P) (.node (o17_6 P) (.node (o33_15 P) (.node (o65_34 P) (.node (o12_1 P) (.node (o257_178 P) .nil .nil) .nil) (.node (o193_127 P) (.node (o321_224 P) .nil .nil) .nil)) (.node (o97_54 P) (.node (o161_102 P) (.node (o289_202 P) .nil .nil) .nil) (.node (o225_154 P) (.node (o11_0 P) .nil .nil) .nil))) (.node (o12_1 P) (.node (o11_0 P) (.node (o121_74 P) (.node (o273_188 P) .nil .nil) .nil) (.node (o209_140 P) (.node (o11_0 P) .nil .nil) .nil)) (.node (o113_64 P) (.node (o177_117 P) (.node (o305_214 P) .nil .nil) .nil) (.node (o12_1 P) (.node (o369_251 P) .nil .nil) .nil)))) (.node (o11_0 P) (.node (o11_0 P) (.node (o73_39 P) (.node (o137_83 P) (.node (o265_183 P) .nil .nil) .nil) (.node (o201_135 P) (.node (o329_228 P) .nil .nil) .nil)) (.node (o105_59 P) (.node (o169_109 P) (.node (o297_207 P) .nil .nil) .nil) (.node (o233_159 P) (.node (o12_1 P) .nil .nil) .nil))) (.node (o57_29 P) (.node (o12_1 P) (.node (o12_1 P) (.node (o11_0 P) .nil .nil) .nil) (.node (o217_146 P) (.node (o345_237 P) .nil .nil) .nil)) (.node (o121_74 P) (.node (o11_0 P) (.node (o11_0 P) .nil .nil) .nil) (.node (o249_170 P) .nil .nil))))) (.node (o13_2 P) (.node (o21_9 P) (.node (o12_1 P) (.node (o69_36 P) (.node (o133_81 P) (.node (o261_180 P) .nil .nil) .nil) (.node (o121_74 P) (.node (o325_226 P) .nil .nil) .nil)) (.node (o101_57 P) (.node (o165_105 P) (.node (o293_205 P) .nil .nil) .nil) (.node (o12_1 P) (.node (o357_244 P) .nil .nil) .nil))) (.node (o53_27 P) (.node (o85_45 P) (.node (o149_95 P) (.node (o277_192 P) .nil .nil) .nil) (.node (o213_142 P) (.node (o11_0 P) .nil .nil) .nil)) (.node (o117_67 P) (.node (o11_0 P) (.node (o309_217 P) .nil .nil) .nil) (.node (o245_166 P) (.node (o12_1 P) .nil .nil) .nil)))) (.node (o11_0 P) (.node (o45_22 P) (.node (o11_0 P) (.node (o141_87 P) (.node (o11_0 P) .nil .nil) .nil) (.node (o12_1 P) (.node (o333_231 P) .nil .nil) .nil)) (.node (o109_62 P) (.node (o173_114 P) (.node (o301_210 P) .nil .nil) .nil) (.node (o237_161 P) (.node (o365_249 P) .nil .nil) .nil))) (.node (o12_1 P) (.node (o93_50 P) (.node (o157_100 P) (.node (o11_0 P) .nil .nil) .nil) (.node (o121_74 P) (.node (o12_1 P) .nil .nil) .nil)) (.node (o125_76 P) (.node (o189_123 P) (.node (o11_0 P) .nil .nil) .nil) (.node (o108_61 P) .nil .nil))))))) (.node (PySem.W.boot_o_2 P) (.node (PySem.W.boot_o_4 P) (.node (PySem.W.boot_o_8 P) (.node (o12_1 P) (.node (o11_0 P) (.node (o64_33 P) (.node (o11_0 P) (.node (o256_177 P) .nil .nil) .nil) (.node (o192_126 P) (.node (o320_223 P) .nil .nil) .nil)) (.node (o12_1 P) (.node (o12_1 P) (.node (o288_201 P) .nil .nil) .nil) (.node (o11_0 P) (.node (o352_242 P) .nil .nil) .nil))) (.node (o11_0 P) (.node (o80_43 P) (.node (o144_90 P) (.node (o272_187 P) .nil .nil) .nil) (.node (o208_139 P) (.node (o336_232 P) .nil .nil) .nil)) (.node (o112_63 P) (.node (o176_116 P) (.node (o12_1 P) .nil .nil) .nil) (.node (o11_0 P) (.node (o12_1 P) .nil .nil) .nil)))) (.node (o24_10 P) (.node (o40_20 P) (.node (o72_38 P) (.node (o12_1 P) (.node (o264_182 P) .nil .nil) .nil) (.node (o11_0 P) (.node (o12_1 P) .nil .nil) .nil)) (.node (o104_58 P) (.node (o168_108 P) (.node (o296_206 P) .nil .nil) .nil) (.node (o232_158 P) (.node (o11_0 P) .nil .nil) .nil))) (.node (o12_1 P) (.node (o11_0 P) (.node (o11_0 P) (.node (o280_196 P) .nil .nil) .nil) (.node (o216_145 P) (.node (o11_0 P) .nil .nil) .nil)) (.node (o120_70 P) (.node (o184_121 P) (.node (o312_218 P) .nil .nil) .nil) (.node (o248_169 P) (.node (o376_256 P) .nil .nil) .nil))))) (.node (o12_213 P) (.node (o20_8 P) (.node (o11_0 P) (.node (o12_1 P) (.node (o132_80 P) (.node (o12_1 P) .nil .nil) .nil) (.node (o196_130 P) (.node (o324_225 P) .nil .nil) .nil)) (.node (o100_56 P) (.node (o164_104 P) (.node (o108_61 P) .nil .nil) .nil) (.node (o11_0 P) (.node (o11_0 P) .nil .nil) .nil))) (.node (o52_26 P) (.node (o11_0 P) (.node (o11_0 P) (.node (o276_191 P) .nil .nil) .nil) (.node (o12_1 P) (.node (o340_235 P) .nil .nil) .nil)) (.node (o116_175 P) (.node (o180_118 P) (.node (o308_216 P) .nil .nil) .nil) (.node (o244_165 P) (.node (o11_0 P) .nil .nil) .nil)))) (.node (o28_13 P) (.node (o11_0 P) (.node (o76_40 P) (.node (o140_86 P) (.node (o268_184 P) .nil .nil) .nil) (.node (o11_0 P) (.node (o332_230 P) .nil .nil) .nil)) (.node (o108_61 P) (.node (o108_61 P) (.node (o300_209 P) .nil .nil) .nil) (.node (o12_1 P) (.node (o364_248 P) .nil .nil) .nil))) (.node (o11_0 P) (.node (o92_49 P) (.node (o156_99 P) (.node (o284_198 P) .nil .nil) .nil) (.node (o220_149 P) (.node (o11_0 P) .nil .nil) .nil)) (.node (o11_0 P) (.node (o11_0 P) (.node (o316_221 P) .nil .nil) .nil) (.node (o121_74 P) .nil .nil)))))) (.node (PySem.W.boot_o_6 P) (.node (PySem.W.boot_o_10 P) (.node (o11_0 P) (.node (o34_16 P) (.node (o66_35 P) (.node (o130_79 P) (.node (o258_179 P) .nil .nil) .nil) (.node (o194_128 P) (.node (o11_0 P) .nil .nil) .nil)) (.node (o11_0 P) (.node (o11_0 P) (.node (o290_203 P) .nil .nil) .nil) (.node (o226_155 P) (.node (o12_1 P) .nil .nil) .nil))) (.node (o50_25 P) (.node (o12_1 P) (.node (o108_61 P) (.node (o274_189 P) .nil .nil) .nil) (.node (o210_141 P) (.node (o338_233 P) .nil .nil) .nil)) (.node (o11_0 P) (.node (o11_0 P) (.node (o11_0 P) .nil .nil) .nil) (.node (o242_164 P) (.node (o370_252 P) .nil .nil) .nil)))) (.node (o26_11 P) (.node (o12_1 P) (.node (o11_0 P) (.node (o138_84 P) (.node (o11_0 P) .nil .nil) .nil) (.node (o202_136 P) (.node (o11_0 P) .nil .nil) .nil)) (.node (o106_60 P) (.node (o170_110 P) (.node (o11_0 P) .nil .nil) .nil) (.node (o234_160 P) (.node (o362_247 P) .nil .nil) .nil))) (.node (o58_30 P) (.node (o90_48 P) (.node (o154_98 P) (.node (o12_1 P) .nil .nil) .nil) (.node (o218_147 P) (.node (o346_238 P) .nil .nil) .nil)) (.node (o108_61 P) (.node (o12_1 P) (.node (o314_219 P) .nil .nil) .nil) (.node (o250_171 P) .nil .nil))))) (.node (o14_3 P) (.node (o11_0 P) (.node (o38_18 P) (.node (o11_0 P) (.node (o134_82 P) (.node (o11_0 P) .nil .nil) .nil) (.node (o108_61 P) (.node (o326_227 P) .nil .nil) .nil)) (.node (o11_0 P) (.node (o166_106 P) (.node (o11_0 P) .nil .nil) .nil) (.node (o230_157 P) (.node (o358_245 P) .nil .nil) .nil))) (.node (o54_28 P) (.node (o86_46 P) (.node (o150_96 P) (.node (o278_195 P) .nil .nil) .nil) (.node (o214_143 P) (.node (o12_1 P) .nil .nil) .nil)) (.node (o118_68 P) (.node (o182_119 P) (.node (o11_0 P) .nil .nil) .nil) (.node (o246_167 P) (.node (o374_254 P) .nil .nil) .nil)))) (.node (o12_1 P) (.node (o46_23 P) (.node (o78_41 P) (.node (o142_88 P) (.node (o270_185 P) .nil .nil) .nil) (.node (o206_138 P) (.node (o11_0 P) .nil .nil) .nil)) (.node (o11_0 P) (.node (o11_0 P) (.node (o302_211 P) .nil .nil) .nil) (.node (o238_162 P) (.node (o366_250 P) .nil .nil) .nil))) (.node (o62_32 P) (.node (o94_51 P) (.node (o158_101 P) (.node (o286_199 P) .nil .nil) .nil) (.node (o108_61 P) (.node (o350_240 P) .nil .nil) .nil)) (.node (o126_77 P) (.node (o190_124 P) (.node (o12_1 P) .nil .nil) .nil) (.node (o254_176 P) .nil .nil))))))))
abbrev t11 (P : Params) : BT := (.node (PySem.W.boot_o_0 P) (.node (PySem.W.boot_o_1 P) (.node (o3_257 P) (.node (PySem.W.boot_o_7 P) (.node (o11_0 P) (.node (o31_14 P) (.node (o11_0 P) (.node (o127_78 P) (.node (o11_0 P) .nil .nil) (.node (o383_262 P) .nil .nil)) (.node (o191_125 P) (.node (o319_222 P) .nil .nil) .nil)) (.node (o11_0 P) (.node (o11_0 P) (.node (o287_200 P) .nil .nil) .nil) (.node (o223_153 P) (.node (o351_241 P) .nil .nil) .nil))) (.node (o47_24 P) (.node (o79_42 P) (.node (o143_89 P) (.node (o271_186 P) .nil .nil) .nil) (.node (o11_0 P) (.node (o12_1 P) .nil .nil) .nil)) (.node (o12_1 P) (.node (o175_115 P) (.node (o11_0 P) .nil .nil) .nil) (.node (o239_163 P) (.node (o11_0 P) .nil .nil) .nil)))) (.node (o12_1 P) (.node (o39_19 P) (.node (o71_37 P) (.node (o11_0 P) (.node (o263_181 P) .nil .nil) .nil) (.node (o199_134 P) (.node (o11_0 P) .nil .nil) .nil)) (.node (o12_1 P) (.node (o167_107 P) (.node (o12_1 P) .nil .nil) .nil) (.node (o11_0 P) (.node (o359_246 P) .nil .nil) .nil))) (.node (o11_0 P) (.node (o87_47 P) (.node (o151_97 P) (.node (o108_61 P) .nil .nil) .nil) (.node (o215_144 P) (.node (o343_236 P) .nil .nil) .nil)) (.node (o119_69 P) (.node (o183_120 P) (.node (o12_1 P) .nil .nil) .nil) (.node (o247_168 P) (.node (o375_255 P) .nil .nil) .nil))))) (.node (o11_0 P) (.node (o19_7 P) (.node (o35_17 P) (.node (o11_0 P) (.node (o11_0 P) (.node (o11_0 P) .nil .nil) (.node (o387_264 P) .nil .nil)) (.node (o195_129 P) (.node (o12_1 P) .nil .nil) .nil)) (.node (o99_55 P) (.node (o163_103 P) (.node (o291_204 P) .nil .nil) .nil) (.node (o227_156 P) (.node (o355_243 P) .nil .nil) .nil))) (.node (o11_0 P) (.node (o83_44 P) (.node (o147_94 P) (.node (o275_190 P) .nil .nil) .nil) (.node (o11_0 P) (.node (o339_234 P) .nil .nil) .nil)) (.node (o115_65 P) (.node (o12_1 P) (.node (o307_215 P) .nil .nil) .nil) (.node (o11_0 P) (.node (o371_253 P) .nil .nil) .nil)))) (.node (o27_12 P) (.node (o43_21 P) (.node (o12_1 P) (.node (o139_85 P) (.node (o12_1 P) .nil .nil) .nil) (.node (o203_137 P) (.node (o331_229 P) .nil .nil) .nil)) (.node (o11_0 P) (.node (o121_74 P) (.node (o299_208 P) .nil .nil) .nil) (.node (o11_0 P) (.node (o11_0 P) .nil .nil) .nil))) (.node (o59_31 P) (.node (o11_0 P) (.node (o11_0 P) (.node (o283_197 P) .nil .nil) .nil) (.node (o219_148 P) (.node (o347_239 P) .nil .nil) .nil)) (.node (o123_75 P) (.node (o187_122 P) (.node (o315_220 P) .nil .nil) .nil) (.node (o251_172 P) (.node (o379_259 P) .nil .nil) .nil)))))) (.node (PySem.W.boot_o_5 P) (.node (PySem.W.boot_o_9 P) (.node (o17_6 P) (.node (o33_15 P) (.node (o65_34 P) (.node (o12_1 P) (.node (o257_178 P) .nil .nil) (.node (o12_1 P) .nil .nil)) (.node (o193_127 P) (.node (o321_224 P) .nil .nil) .nil)) (.node (o97_54 P) (.node (o161_102 P) (.node (o289_202 P) .nil .nil) .nil) (.node (o225_154 P) (.node (o11_0 P) .nil .nil) .nil))) (.node (o12_1 P) (.node (o11_0 P) (.node (o121_74 P) (.node (o273_188 P) .nil .nil) .nil) (.node (o209_140 P) (.node (o11_0 P) .nil .nil) .nil)) (.node (o113_64 P) (.node (o177_117 P) (.node (o305_214 P) .nil .nil) .nil) (.node (o12_1 P) (.node (o369_251 P) .nil .nil) .nil)))) (.node (o11_0 P) (.node (o11_0 P) (.node (o73_39 P) (.node (o137_83 P) (.node (o265_183 P) .nil .nil) .nil) (.node (o201_135 P) (.node (o329_228 P) .nil .nil) .nil)) (.node (o105_59 P) (.node (o169_109 P) (.node (o297_207 P) .nil .nil) .nil) (.node (o233_159 P) (.node (o12_1 P) .nil .nil) .nil))) (.node (o57_29 P) (.node (o12_1 P) (.node (o12_1 P) (.node (o11_0 P) .nil .nil) .nil) (.node (o217_146 P) (.node (o345_237 P) .nil .nil) .nil)) (.node (o121_74 P) (.node (o11_0 P) (.node (o11_0 P) .nil .nil) .nil) (.node (o249_170 P) (.node (o11_0 P) .nil .nil) .nil))))) (.node (o13_2 P) (.node (o21_9 P) (.node (o12_1 P) (.node (o69_36 P) (.node (o133_81 P) (.node (o261_180 P) .nil .nil) .nil) (.node (o121_74 P) (.node (o325_226 P) .nil .nil) .nil)) (.node (o101_57 P) (.node (o165_105 P) (.node (o293_205 P) .nil .nil) .nil) (.node (o12_1 P) (.node (o357_244 P) .nil .nil) .nil))) (.node (o53_27 P) (.node (o85_45 P) (.node (o149_95 P) (.node (o277_192 P) .nil .nil) .nil) (.node (o213_142 P) (.node (o11_0 P) .nil .nil) .nil)) (.node (o117_67 P) (.node (o11_0 P) (.node (o309_217 P) .nil .nil) .nil) (.node (o245_166 P) (.node (o12_1 P) .nil .nil) .nil)))) (.node (o11_0 P) (.node (o45_22 P) (.node (o11_0 P) (.node (o141_87 P) (.node (o11_0 P) .nil .nil) .nil) (.node (o12_1 P) (.node (o333_231 P) .nil .nil) .nil)) (.node (o109_62 P) (.node (o173_114 P) (.node (o301_210 P) .nil .nil) .nil) (.node (o237_161 P) (.node (o365_249 P) .nil .nil) .nil))) (.node (o12_1 P) (.node (o93_50 P) (.node (o157_100 P) (.node (o11_0 P) .nil .nil) .nil) (.node (o121_74 P) (.node (o12_1 P) .nil .nil) .nil)) (.node (o125_76 P) (.node (o189_123 P) (.node (o11_0 P) .nil .nil) .nil) (.node (o108_61 P) (.node (o381_260 P) .nil .nil) .nil))))))) (.node (PySem.W.boot_o_2 P) (.node (PySem.W.boot_o_4 P) (.node (PySem.W.boot_o_8 P) (.node (o12_1 P) (.node (o11_0 P) (.node (o64_33 P) (.node (o11_0 P) (.node (o256_177 P) .nil .nil) (.node (o11_0 P) .nil .nil)) (.node (o192_126 P) (.node (o320_223 P) .nil .nil) .nil)) (.node (o12_1 P) (.node (o12_1 P) (.node (o288_201 P) .nil .nil) .nil) (.node (o11_0 P) (.node (o352_242 P) .nil .nil) .nil))) (.node (o11_0 P) (.node (o80_43 P) (.node (o144_90 P) (.node (o272_187 P) .nil .nil) .nil) (.node (o208_139 P) (.node (o336_232 P) .nil .nil) .nil)) (.node (o112_63 P) (.node (o176_116 P) (.node (o12_1 P) .nil .nil) .nil) (.node (o11_0 P) (.node (o12_1 P) .nil .nil) .nil)))) (.node (o24_10 P) (.node (o40_20 P) (.node (o72_38 P) (.node (o12_1 P) (.node (o264_182 P) .nil .nil) .nil) (.node (o11_0 P) (.node (o12_1 P) .nil .nil) .nil)) (.node (o104_58 P) (.node (o168_108 P) (.node (o296_206 P) .nil .nil) .nil) (.node (o232_158 P) (.node (o11_0 P) .nil .nil) .nil))) (.node (o12_1 P) (.node (o11_0 P) (.node (o11_0 P) (.node (o280_196 P) .nil .nil) .nil) (.node (o216_145 P) (.node (o11_0 P) .nil .nil) .nil)) (.node (o120_70 P) (.node (o184_121 P) (.node (o312_218 P) .nil .nil) .nil) (.node (o248_169 P) (.node (o376_256 P) .nil .nil) .nil))))) (.node (o12_258 P) (.node (o20_8 P) (.node (o11_0 P) (.node (o12_1 P) (.node (o132_80 P) (.node (o12_1 P) .nil .nil) (.node (o388_265 P) .nil .nil)) (.node (o196_130 P) (.node (o324_225 P) .nil .nil) .nil)) (.node (o100_56 P) (.node (o164_104 P) (.node (o108_61 P) .nil .nil) .nil) (.node (o11_0 P) (.node (o11_0 P) .nil .nil) .nil))) (.node (o52_26 P) (.node (o11_0 P) (.node (o11_0 P) (.node (o276_191 P) .nil .nil) .nil) (.node (o12_1 P) (.node (o340_235 P) .nil .nil) .nil)) (.node (o116_175 P) (.node (o180_118 P) (.node (o308_216 P) .nil .nil) .nil) (.node (o244_165 P) (.node (o11_0 P) .nil .nil) .nil)))) (.node (o28_13 P) (.node (o11_0 P) (.node (o76_40 P) (.node (o140_86 P) (.node (o268_184 P) .nil .nil) .nil) (.node (o11_0 P) (.node (o332_230 P) .nil .nil) .nil)) (.node (o108_61 P) (.node (o108_61 P) (.node (o300_209 P) .nil .nil) .nil) (.node (o12_1 P) (.node (o364_248 P) .nil .nil) .nil))) (.node (o11_0 P) (.node (o92_49 P) (.node (o156_99 P) (.node (o284_198 P) .nil .nil) .nil) (.node (o220_149 P) (.node (o11_0 P) .nil .nil) .nil)) (.node (o11_0 P) (.node (o11_0 P) (.node (o316_221 P) .nil .nil) .nil) (.node (o121_74 P) (.node (o11_0 P) .nil .nil) .nil)))))) (.node (PySem.W.boot_o_6 P) (.node (PySem.W.boot_o_10 P) (.node (o11_0 P) (.node (o34_16 P) (.node (o66_35 P) (.node (o130_79 P) (.node (o258_179 P) .nil .nil) (.node (o386_263 P) .nil .nil)) (.node (o194_128 P) (.node (o11_0 P) .nil .nil) .nil)) (.node (o11_0 P) (.node (o11_0 P) (.node (o290_203 P) .nil .nil) .nil) (.node (o226_155 P) (.node (o12_1 P) .nil .nil) .nil))) (.node (o50_25 P) (.node (o12_1 P) (.node (o108_61 P) (.node (o274_189 P) .nil .nil) .nil) (.node (o210_141 P) (.node (o338_233 P) .nil .nil) .nil)) (.node (o11_0 P) (.node (o11_0 P) (.node (o11_0 P) .nil .nil) .nil) (.node (o242_164 P) (.node (o370_252 P) .nil .nil) .nil)))) (.node (o26_11 P) (.node (o12_1 P) (.node (o11_0 P) (.node (o138_84 P) (.node (o11_0 P) .nil .nil) .nil) (.node (o202_136 P) (.node (o11_0 P) .nil .nil) .nil)) (.node (o106_60 P) (.node (o170_110 P) (.node (o11_0 P) .nil .nil) .nil) (.node (o234_160 P) (.node (o362_247 P) .nil .nil) .nil))) (.node (o58_30 P) (.node (o90_48 P) (.node (o154_98 P) (.node (o12_1 P) .nil .nil) .nil) (.node (o218_147 P) (.node (o346_238 P) .nil .nil) .nil)) (.node (o108_61 P) (.node (o12_1 P) (.node (o314_219 P) .nil .nil) .nil) (.node (o250_171 P) (.node (o12_1 P) .nil .nil) .nil))))) (.node (o14_3 P) (.node (o11_0 P) (.node (o38_18 P) (.node (o11_0 P) (.node (o134_82 P) (.node (o11_0 P) .nil .nil) .nil) (.node (o108_61 P) (.node (o326_227 P) .nil .nil) .nil)) (.node (o11_0 P) (.node (o166_106 P) (.node (o11_0 P) .nil .nil) .nil) (.node (o230_157 P) (.node (o358_245 P) .nil .nil) .nil))) (.node (o54_28 P) (.node (o86_46 P) (.node (o150_96 P) (.node (o278_195 P) .nil .nil) .nil) (.node (o214_143 P) (.node (o12_1 P) .nil .nil) .nil)) (.node (o118_68 P) (.node (o182_119 P) (.node (o11_0 P) .nil .nil) .nil) (.node (o246_167 P) (.node (o374_254 P) .nil .nil) .nil)))) (.node (o12_1 P) (.node (o46_23 P) (.node (o78_41 P) (.node (o142_88 P) (.node (o270_185 P) .nil .nil) .nil) (.node (o206_138 P) (.node (o11_0 P) .nil .nil) .nil)) (.node (o11_0 P) (.node (o11_0 P) (.node (o302_211 P) .nil .nil) .nil) (.node (o238_162 P) (.node (o366_250 P) .nil .nil) .nil))) (.node (o62_32 P) (.node (o94_51 P) (.node (o158_101 P) (.node (o286_199 P) .nil .nil) .nil) (.node (o108_61 P) (.node (o350_240 P) .nil .nil) .nil)) (.node (o126_77 P) (.node (o190_124 P) (.node (o12_1 P) .nil .nil) .nil) (.node (o254_176 P) (.node (o382_261 P) .nil .nil) .nil))))))))
abbrev hf (P : Params) : Heap := ⟨⟨((PySem.W.boot_o_0 P) :: (PySem.W.boot_o_1 P) :: (PySem.W.boot_o_2 P) :: (o3_257 P) :: (PySem.W.boot_o_4 P) :: (PySem.W.boot_o_5 P) :: (PySem.W.boot_o_6 P) :: (PySem.W.boot_o_7 P) :: (PySem.W.boot_o_8 P) :: (PySem.W.boot_o_9 P) :: (PySem.W.boot_o_10 P) :: (o11_0 P) :: (o12_258 P) :: (o13_2 P) :: (o14_3 P) :: (o11_0 P) :: (o12_1 P) :: (o17_6 P) :: (o11_0 P) :: (o19_7 P) :: (o20_8 P) :: (o21_9 P) :: (o11_0 P) :: (o12_1 P) :: (o24_10 P) :: (o11_0 P) :: (o26_11 P) :: (o27_12 P) :: (o28_13 P) :: (o11_0 P) :: (o12_1 P) :: (o31_14 P) :: (o11_0 P) :: (o33_15 P) :: (o34_16 P) :: (o35_17 P) :: (o11_0 P) :: (o12_1 P) :: (o38_18 P) :: (o39_19 P) :: (o40_20 P) :: (o11_0 P) :: (o12_1 P) :: (o43_21 P) :: (o11_0 P) :: (o45_22 P) :: (o46_23 P) :: (o47_24 P) :: (o11_0 P) :: (o12_1 P) :: (o50_25 P) :: (o11_0 P) :: (o52_26 P) :: (o53_27 P) :: (o54_28 P) :: (o11_0 P) :: (o12_1 P) :: (o57_29 P) :: (o58_30 P) :: (o59_31 P) :: (o11_0 P) :: (o12_1 P) :: (o62_32 P) :: (o11_0 P) :: (o64_33 P) :: (o65_34 P) :: (o66_35 P) :: (o11_0 P) :: (o12_1 P) :: (o69_36 P) :: (o11_0 P) :: (o71_37 P) :: (o72_38 P) :: (o73_39 P) :: (o11_0 P) :: (o12_1 P) :: (o76_40 P) :: (o11_0 P) :: (o78_41 P) :: (o79_42 P) :: (o80_43 P) :: (o11_0 P) :: (o12_1 P) :: (o83_44 P) :: (o11_0 P) :: (o85_45 P) :: (o86_46 P) :: (o87_47 P) :: (o11_0 P) :: (o12_1 P) :: (o90_48 P) :: (o11_0 P) :: (o92_49 P) :: (o93_50 P) :: (o94_51 P) :: (o11_0 P) :: (o12_1 P) :: (o97_54 P) :: (o11_0 P) :: (o99_55 P) :: (o100_56 P) :: (o101_57 P) :: (o11_0 P) :: (o12_1 P) :: (o104_58 P) :: (o105_59 P) :: (o106_60 P) :: (o11_0 P) :: (o108_61 P) :: (o109_62 P) :: (o11_0 P) :: (o12_1 P) :: (o112_63 P) :: (o113_64 P) :: (o11_0 P) :: (o115_65 P) :: (o116_175 P) :: (o117_67 P) :: (o118_68 P) :: (o119_69 P) :: (o120_70 P) :: (o121_74 P) :: (o108_61 P) :: (o123_75 P) :: (o11_0 P) :: (o125_76 P) :: (o126_77 P) :: (o127_78 P) :: (o11_0 P) :: (o12_1 P) :: (o130_79 P) :: (o11_0 P) :: (o132_80 P) :: (o133_81 P) :: (o134_82 P) :: (o11_0 P) :: (o12_1 P) :: (o137_83 P) :: (o138_84 P) :: (o139_85 P) :: (o140_86 P) :: (o141_87 P) :: (o142_88 P) :: (o143_89 P) :: (o144_90 P) :: (o121_74 P) :: (o108_61 P) :: (o147_94 P) :: (o11_0 P) :: (o149_95 P) :: (o150_96 P) :: (o151_97 P) :: (o11_0 P) :: (o12_1 P) :: (o154_98 P) :: (o11_0 P) :: (o156_99 P) :: (o157_100 P) :: (o158_101 P) :: (o11_0 P) :: (o12_1 P) :: (o161_102 P) :: (o11_0 P) :: (o163_103 P) :: (o164_104 P) :: (o165_105 P) :: (o166_106 P) :: (o167_107 P) :: (o168_108 P) :: (o169_109 P) :: (o170_110 P) :: (o121_74 P) :: (o108_61 P) :: (o173_114 P) :: (o11_0 P) :: (o175_115 P) :: (o176_116 P) :: (o177_117 P) :: (o11_0 P) :: (o12_1 P) :: (o180_118 P) :: (o11_0 P) :: (o182_119 P) :: (o183_120 P) :: (o184_121 P) :: (o11_0 P) :: (o12_1 P) :: (o187_122 P) :: (o11_0 P) :: (o189_123 P) :: (o190_124 P) :: (o191_125 P) :: (o192_126 P) :: (o193_127 P) :: (o194_128 P) :: (o195_129 P) :: (o196_130 P) :: (o121_74 P) :: (o108_61 P) :: (o199_134 P) :: (o11_0 P) :: (o201_135 P) :: (o202_136 P) :: (o203_137 P) :: (o11_0 P) :: (o12_1 P) :: (o206_138 P) :: (o11_0 P) :: (o208_139 P) :: (o209_140 P) :: (o210_141 P) :: (o11_0 P) :: (o12_1 P) :: (o213_142 P) :: (o214_143 P) :: (o215_144 P) :: (o216_145 P) :: (o217_146 P) :: (o218_147 P) :: (o219_148 P) :: (o220_149 P) :: (o121_74 P) :: (o108_61 P) :: (o223_153 P) :: (o11_0 P) :: (o225_154 P) :: (o226_155 P) :: (o227_156 P) :: (o11_0 P) :: (o12_1 P) :: (o230_157 P) :: (o11_0 P) :: (o232_158 P) :: (o233_159 P) :: (o234_160 P) :: (o11_0 P) :: (o12_1 P) :: (o237_161 P) :: (o238_162 P) :: (o239_163 P) :: (o11_0 P) :: (o12_1 P) :: (o242_164 P) :: (o11_0 P) :: (o244_165 P) :: (o245_166 P) :: (o246_167 P) :: (o247_168 P) :: (o248_169 P) :: (o249_170 P) :: (o250_171 P) :: (o251_172 P) :: (o121_74 P) :: (o108_61 P) :: (o254_176 P) :: (o11_0 P) :: (o256_177 P) :: (o257_178 P) :: (o258_179 P) :: (o11_0 P) :: (o12_1 P) :: (o261_180 P) :: (o11_0 P) :: (o263_181 P) :: (o264_182 P) :: (o265_183 P) :: (o11_0 P) :: (o12_1 P) :: (o268_184 P) :: (o11_0 P) :: (o270_185 P) :: (o271_186 P) :: (o272_187 P) :: (o273_188 P) :: (o274_189 P) :: (o275_190 P) :: (o276_191 P) :: (o277_192 P) :: (o278_195 P) :: (o108_61 P) :: (o280_196 P) :: (o11_0 P) :: (o12_1 P) :: (o283_197 P) :: (o284_198 P) :: (o11_0 P) :: (o286_199 P) :: (o287_200 P) :: (o288_201 P) :: (o289_202 P) :: (o290_203 P) :: (o291_204 P) :: (o108_61 P) :: (o293_205 P) :: (o11_0 P) :: (o12_1 P) :: (o296_206 P) :: (o297_207 P) :: (o11_0 P) :: (o299_208 P) :: (o300_209 P) :: (o301_210 P) :: (o302_211 P) :: (o11_0 P) :: (o12_1 P) :: (o305_214 P) :: (o11_0 P) :: (o307_215 P) :: (o308_216 P) :: (o309_217 P) :: (o11_0 P) :: (o12_1 P) :: (o312_218 P) :: (o11_0 P) :: (o314_219 P) :: (o315_220 P) :: (o316_221 P) :: (o11_0 P) :: (o12_1 P) :: (o319_222 P) :: (o320_223 P) :: (o321_224 P) :: (o11_0 P) :: (o12_1 P) :: (o324_225 P) :: (o325_226 P) :: (o326_227 P) :: (o11_0 P) :: (o12_1 P) :: (o329_228 P) :: (o11_0 P) :: (o331_229 P) :: (o332_230 P) :: (o333_231 P) :: (o11_0 P) :: (o12_1 P) :: (o336_232 P) :: (o11_0 P) :: (o338_233 P) :: (o339_234 P) :: (o340_235 P) :: (o11_0 P) :: (o12_1 P) :: (o343_236 P) :: (o11_0 P) :: (o345_237 P) :: (o346_238 P) :: (o347_239 P) :: (o11_0 P) :: (o12_1 P) :: (o350_240 P) :: (o351_241 P) :: (o352_242 P) :: (o11_0 P) :: (o12_1 P) :: (o355_243 P) :: (o11_0 P) :: (o357_244 P) :: (o358_245 P) :: (o359_246 P) :: (o11_0 P) :: (o12_1 P) :: (o362_247 P) :: (o11_0 P) :: (o364_248 P) :: (o365_249 P) :: (o366_250 P) :: (o11_0 P) :: (o12_1 P) :: (o369_251 P) :: (o370_252 P) :: (o371_253 P) :: (o11_0 P) :: (o12_1 P) :: (o374_254 P) :: (o375_255 P) :: (o376_256 P) :: (o11_0 P) :: (o12_1 P) :: (o379_259 P) :: (o11_0 P) :: (o381_260 P) :: (o382_261 P) :: (o383_262 P) :: (o11_0 P) :: (o12_1 P) :: (o386_263 P) :: (o387_264 P) :: (o388_265 P) :: [])⟩, {}⟩
abbrev b' : List Stmt := behindTheImports p'
abbrev env' : Env := { scope := p'.main.scope, locals := mainNs, globals := mainNs, cells := [], code := (vr (nat_lit 13)), frame := some (nat_lit 14) }
abbrev cE : Code := .body b' env'
abbrev qp : Pos := ⟨(nat_lit 0), (nat_lit 0), (nat_lit 0), (nat_lit 0)⟩
abbrev B : List Frame := [topFrame qp]
abbrev ann : Option Value := (some (.ref (nat_lit 6)))
abbrev s0 : List Stmt := (b'.drop (nat_lit 0)).take (nat_lit 14)
abbrev s1 : List Stmt := (b'.drop (nat_lit 14)).take (nat_lit 4)
abbrev s2 : List Stmt := (b'.drop (nat_lit 18)).take (nat_lit 1)
abbrev s3 : List Stmt := (b'.drop (nat_lit 19)).take (nat_lit 1)
abbrev s4 : List Stmt := (b'.drop (nat_lit 20)).take (nat_lit 1)
abbrev s5 : List Stmt := (b'.drop (nat_lit 21)).take (nat_lit 1)
abbrev s6 : List Stmt := (b'.drop (nat_lit 22)).take (nat_lit 1)
abbrev s7 : List Stmt := (b'.drop (nat_lit 23)).take (nat_lit 2)
abbrev s8 : List Stmt := (b'.drop (nat_lit 25)).take (nat_lit 2)
abbrev s9 : List Stmt := (b'.drop (nat_lit 27)).take (nat_lit 14)
abbrev s10 : List Stmt := (b'.drop (nat_lit 41)).take (nat_lit 2)
set_option maxRecDepth 100000 in
theorem pre0 (w : World) : (fun os => PySem.W.Fast.tw15667345088766844465 PySem.W.Fast.tw14364793385576792824 p' w (nat_lit 11) ann (nat_lit 12) (⟨boot_heap w.params, ⟨[]⟩, boot_drawn, boot_toks, os⟩ : Shared) (topStub p')) = fun os => some ((⟨ha w.params, ⟨[]⟩, {}, (nat_lit 187), os⟩ : Shared), (⟨PySem.W.Fast.tw11892475500146522536 PySem.W.Fast.tw14364793385576792824 cE, cE, ⟨(nat_lit 0), (nat_lit 0), (nat_lit 0), (nat_lit 0)⟩, B⟩ : Thread)) := by kernel_rfl
set_option maxRecDepth 100000 in
theorem blk0 (w : World) : (fun os => PySem.W.Fast.tw14374325043358763698 PySem.W.Fast.tw14364793385576792824 p' w (nat_lit 11) ann (nat_lit 1) (nat_lit 1) (⟨ha w.params, ⟨[]⟩, {}, (nat_lit 187), os⟩ : Shared) (blockOf b' env' cE ⟨(nat_lit 0), (nat_lit 0), (nat_lit 0), (nat_lit 0)⟩ B)) = fun os => some (Flow.next, SharedT.abs ⟨t0 w.params, (nat_lit 15), {}, ⟨[]⟩, {}, (nat_lit 187), os⟩, cE, ⟨(nat_lit 0), (nat_lit 0), (nat_lit 0), (nat_lit 0)⟩) := by kernel_rfl
set_option maxRecDepth 100000 in
theorem q0 (w : World) : (fun os => PySem.W.Fast.tw10110043849684766642 PySem.W.Fast.tw14364793385576792824 p' w (nat_lit 11) ann (nat_lit 1) (nat_lit 380) ⟨t0 w.params, (nat_lit 15), {}, ⟨[]⟩, {}, (nat_lit 187), os⟩ (piecesOf s0 env' cE ⟨(nat_lit 0), (nat_lit 0), (nat_lit 0), (nat_lit 0)⟩ B)) = fun os => some (Flow.next, ⟨t1 w.params, (nat_lit 95), {}, ⟨[]⟩, {}, (nat_lit 292), os⟩, cE, ⟨(nat_lit 47), (nat_lit 0), (nat_lit 51), (nat_lit 15)⟩) := by kernel_rfl
set_option maxRecDepth 100000 in
theorem q1 (w : World) : (fun os => PySem.W.Fast.tw10110043849684766642 PySem.W.Fast.tw14364793385576792824 p' w (nat_lit 11) ann (nat_lit 1) (nat_lit 257) ⟨t1 w.params, (nat_lit 95), {}, ⟨[]⟩, {}, (nat_lit 292), os⟩ (piecesOf s1 env' cE ⟨(nat_lit 47), (nat_lit 0), (nat_lit 51), (nat_lit 15)⟩ B)) = fun os => some (Flow.next, ⟨t2 w.params, (nat_lit 121), {}, ⟨[]⟩, {}, (nat_lit 329), os⟩, cE, ⟨(nat_lit 60), (nat_lit 0), (nat_lit 61), (nat_lit 8)⟩) := by kernel_rfl
set_option maxRecDepth 100000 in
theorem q2 (w : World) : (fun os => PySem.W.Fast.tw10110043849684766642 PySem.W.Fast.tw14364793385576792824 p' w (nat_lit 11) ann (nat_lit 1) (nat_lit 276) ⟨t2 w.params, (nat_lit 121), {}, ⟨[]⟩, {}, (nat_lit 329), os⟩ (piecesOf s2 env' cE ⟨(nat_lit 60), (nat_lit 0), (nat_lit 61), (nat_lit 8)⟩ B)) = fun os => some (Flow.next, ⟨t3 w.params, (nat_lit 145), {}, ⟨[]⟩, {}, (nat_lit 362), os⟩, cE, ⟨(nat_lit 62), (nat_lit 0), (nat_lit 73), (nat_lit 71)⟩) := by kernel_rfl
set_option maxRecDepth 100000 in
theorem q3 (w : World) : (fun os => PySem.W.Fast.tw10110043849684766642 PySem.W.Fast.tw14364793385576792824 p' w (nat_lit 11) ann (nat_lit 1) (nat_lit 282) ⟨t3 w.params, (nat_lit 145), {}, ⟨[]⟩, {}, (nat_lit 362), os⟩ (piecesOf s3 env' cE ⟨(nat_lit 62), (nat_lit 0), (nat_lit 73), (nat_lit 71)⟩ B)) = fun os => some (Flow.next, ⟨t4 w.params, (nat_lit 171), {}, ⟨[]⟩, {}, (nat_lit 399), os⟩, cE, ⟨(nat_lit 74), (nat_lit 0), (nat_lit 85), (nat_lit 82)⟩) := by kernel_rfl
set_option maxRecDepth 100000 in
theorem q4 (w : World) : (fun os => PySem.W.Fast.tw10110043849684766642 PySem.W.Fast.tw14364793385576792824 p' w (nat_lit 11) ann (nat_lit 1) (nat_lit 280) ⟨t4 w.params, (nat_lit 171), {}, ⟨[]⟩, {}, (nat_lit 399), os⟩ (piecesOf s4 env' cE ⟨(nat_lit 74), (nat_lit 0), (nat_lit 85), (nat_lit 82)⟩ B)) = fun os => some (Flow.next, ⟨t5 w.params, (nat_lit 197), {}, ⟨[]⟩, {}, (nat_lit 434), os⟩, cE, ⟨(nat_lit 86), (nat_lit 0), (nat_lit 95), (nat_lit 61)⟩) := by kernel_rfl
set_option maxRecDepth 100000 in
theorem q5 (w : World) : (fun os => PySem.W.Fast.tw10110043849684766642 PySem.W.Fast.tw14364793385576792824 p' w (nat_lit 11) ann (nat_lit 1) (nat_lit 274) ⟨t5 w.params, (nat_lit 197), {}, ⟨[]⟩, {}, (nat_lit 434), os⟩ (piecesOf s5 env' cE ⟨(nat_lit 86), (nat_lit 0), (nat_lit 95), (nat_lit 61)⟩ B)) = fun os => some (Flow.next, ⟨t6 w.params, (nat_lit 221), {}, ⟨[]⟩, {}, (nat_lit 465), os⟩, cE, ⟨(nat_lit 96), (nat_lit 0), (nat_lit 106), (nat_lit 68)⟩) := by kernel_rfl
set_option maxRecDepth 100000 in
theorem q6 (w : World) : (fun os => PySem.W.Fast.tw10110043849684766642 PySem.W.Fast.tw14364793385576792824 p' w (nat_lit 11) ann (nat_lit 1) (nat_lit 307) ⟨t6 w.params, (nat_lit 221), {}, ⟨[]⟩, {}, (nat_lit 465), os⟩ (piecesOf s6 env' cE ⟨(nat_lit 96), (nat_lit 0), (nat_lit 106), (nat_lit 68)⟩ B)) = fun os => some (Flow.next, ⟨t7 w.params, (nat_lit 252), {}, ⟨[]⟩, {}, (nat_lit 505), os⟩, cE, ⟨(nat_lit 107), (nat_lit 0), (nat_lit 118), (nat_lit 16)⟩) := by kernel_rfl
set_option maxRecDepth 100000 in
theorem q7 (w : World) : (fun os => PySem.W.Fast.tw10110043849684766642 PySem.W.Fast.tw14364793385576792824 p' w (nat_lit 11) ann (nat_lit 1) (nat_lit 288) ⟨t7 w.params, (nat_lit 252), {}, ⟨[]⟩, {}, (nat_lit 505), os⟩ (piecesOf s7 env' cE ⟨(nat_lit 107), (nat_lit 0), (nat_lit 118), (nat_lit 16)⟩ B)) = fun os => some (Flow.next, ⟨t8 w.params, (nat_lit 278), {}, ⟨[]⟩, {}, (nat_lit 541), os⟩, cE, ⟨(nat_lit 126), (nat_lit 0), (nat_lit 126), (nat_lit 8)⟩) := by kernel_rfl
set_option maxRecDepth 100000 in
theorem q8 (w : World) : (fun os => PySem.W.Fast.tw10110043849684766642 PySem.W.Fast.tw14364793385576792824 p' w (nat_lit 11) ann (nat_lit 1) (nat_lit 400) ⟨t8 w.params, (nat_lit 278), {}, ⟨[]⟩, {}, (nat_lit 541), os⟩ (piecesOf s8 env' cE ⟨(nat_lit 126), (nat_lit 0), (nat_lit 126), (nat_lit 8)⟩ B)) = fun os => some (Flow.next, ⟨t9 w.params, (nat_lit 303), {}, ⟨[]⟩, {}, (nat_lit 575), os⟩, cE, ⟨(nat_lit 129), (nat_lit 0), (nat_lit 130), (nat_lit 8)⟩) := by kernel_rfl
set_option maxRecDepth 100000 in
theorem q9 (w : World) : (fun os => PySem.W.Fast.tw10110043849684766642 PySem.W.Fast.tw14364793385576792824 p' w (nat_lit 11) ann (nat_lit 1) (nat_lit 372) ⟨t9 w.params, (nat_lit 303), {}, ⟨[]⟩, {}, (nat_lit 575), os⟩ (piecesOf s9 env' cE ⟨(nat_lit 129), (nat_lit 0), (nat_lit 130), (nat_lit 8)⟩ B)) = fun os => some (Flow.next, ⟨t10 w.params, (nat_lit 377), {}, ⟨[]⟩, {}, (nat_lit 678), os⟩, cE, ⟨(nat_lit 193), (nat_lit 0), (nat_lit 204), (nat_lit 104)⟩) := by kernel_rfl
set_option maxRecDepth 100000 in
theorem q10 (w : World) : (fun os => PySem.W.Fast.tw10110043849684766642 PySem.W.Fast.tw14364793385576792824 p' w (nat_lit 11) ann (nat_lit 1) (nat_lit 59) ⟨t10 w.params, (nat_lit 377), {}, ⟨[]⟩, {}, (nat_lit 678), os⟩ (piecesOf s10 env' cE ⟨(nat_lit 193), (nat_lit 0), (nat_lit 204), (nat_lit 104)⟩ B)) = fun os => some (Flow.next, ⟨t11 w.params, (nat_lit 389), {}, ⟨[]⟩, {}, (nat_lit 694), os⟩, cE, ⟨(nat_lit 213), (nat_lit 0), (nat_lit 227), (nat_lit 31)⟩) := by kernel_rfl
set_option maxRecDepth 100000 in
theorem fin0 (w : World) : (fun os => PySem.W.Fast.tw14082659384304107361 PySem.W.Fast.tw14364793385576792824 p' w (nat_lit 11) ann (nat_lit 2) (SharedT.abs ⟨t11 w.params, (nat_lit 389), {}, ⟨[]⟩, {}, (nat_lit 694), os⟩) ⟨doneF Flow.next, cE, ⟨(nat_lit 213), (nat_lit 0), (nat_lit 227), (nat_lit 31)⟩, B⟩) = fun os => some (⟨hf w.params, ⟨[]⟩, {}, (nat_lit 694), os⟩ : Shared) := by kernel_rfl
set_option maxRecDepth 100000 in
theorem bsplit : b' = s0 ++ (s1 ++ (s2 ++ (s3 ++ (s4 ++ (s5 ++ (s6 ++ (s7 ++ (s8 ++ (s9 ++ (s10 ++ ([]))))))))))) := by kernel_rfl
theorem fin1 (w : World) (os : OsState) : topRun treeTable p' w (nat_lit 11) ann (nat_lit 2) (SharedT.abs ⟨t11 w.params, (nat_lit 389), {}, ⟨[]⟩, {}, (nat_lit 694), os⟩) (restOf [] env' cE ⟨(nat_lit 213), (nat_lit 0), (nat_lit 227), (nat_lit 31)⟩ B) = some (⟨hf w.params, ⟨[]⟩, {}, (nat_lit 694), os⟩ : Shared) := by
  have h := congrFun (fin0 w) os
  rw [← PySem.W.Fast.te14082659384304107361, ← PySem.W.Fast.te14364793385576792824] at h
  exact h
theorem u10 (w : World) (os : OsState) : topRun treeTable p' w (nat_lit 11) ann ((nat_lit 59) + (nat_lit 2)) (SharedT.abs ⟨t10 w.params, (nat_lit 377), {}, ⟨[]⟩, {}, (nat_lit 678), os⟩) (restOf (s10 ++ ([])) env' cE ⟨(nat_lit 193), (nat_lit 0), (nat_lit 204), (nat_lit 104)⟩ B) = some (⟨hf w.params, ⟨[]⟩, {}, (nat_lit 694), os⟩ : Shared) := by
  have h := congrFun (q10 w) os
  rw [← PySem.W.Fast.te10110043849684766642, ← PySem.W.Fast.te14364793385576792824] at h
  exact piece_app (segRun_of h) (fin1 w os)
theorem u9 (w : World) (os : OsState) : topRun treeTable p' w (nat_lit 11) ann ((nat_lit 372) + ((nat_lit 59) + (nat_lit 2))) (SharedT.abs ⟨t9 w.params, (nat_lit 303), {}, ⟨[]⟩, {}, (nat_lit 575), os⟩) (restOf (s9 ++ (s10 ++ ([]))) env' cE ⟨(nat_lit 129), (nat_lit 0), (nat_lit 130), (nat_lit 8)⟩ B) = some (⟨hf w.params, ⟨[]⟩, {}, (nat_lit 694), os⟩ : Shared) := by
  have h := congrFun (q9 w) os
  rw [← PySem.W.Fast.te10110043849684766642, ← PySem.W.Fast.te14364793385576792824] at h
  exact piece_app (segRun_of h) (u10 w os)
theorem u8 (w : World) (os : OsState) : topRun treeTable p' w (nat_lit 11) ann ((nat_lit 400) + ((nat_lit 372) + ((nat_lit 59) + (nat_lit 2)))) (SharedT.abs ⟨t8 w.params, (nat_lit 278), {}, ⟨[]⟩, {}, (nat_lit 541), os⟩) (restOf (s8 ++ (s9 ++ (s10 ++ ([])))) env' cE ⟨(nat_lit 126), (nat_lit 0), (nat_lit 126), (nat_lit 8)⟩ B) = some (⟨hf w.params, ⟨[]⟩, {}, (nat_lit 694), os⟩ : Shared) := by
  have h := congrFun (q8 w) os
  rw [← PySem.W.Fast.te10110043849684766642, ← PySem.W.Fast.te14364793385576792824] at h
  exact piece_app (segRun_of h) (u9 w os)
theorem u7 (w : World) (os : OsState) : topRun treeTable p' w (nat_lit 11) ann ((nat_lit 288) + ((nat_lit 400) + ((nat_lit 372) + ((nat_lit 59) + (nat_lit 2))))) (SharedT.abs ⟨t7 w.params, (nat_lit 252), {}, ⟨[]⟩, {}, (nat_lit 505), os⟩) (restOf (s7 ++ (s8 ++ (s9 ++ (s10 ++ ([]))))) env' cE ⟨(nat_lit 107), (nat_lit 0), (nat_lit 118), (nat_lit 16)⟩ B) = some (⟨hf w.params, ⟨[]⟩, {}, (nat_lit 694), os⟩ : Shared) := by
  have h := congrFun (q7 w) os
  rw [← PySem.W.Fast.te10110043849684766642, ← PySem.W.Fast.te14364793385576792824] at h
  exact piece_app (segRun_of h) (u8 w os)
theorem u6 (w : World) (os : OsState) : topRun treeTable p' w (nat_lit 11) ann ((nat_lit 307) + ((nat_lit 288) + ((nat_lit 400) + ((nat_lit 372) + ((nat_lit 59) + (nat_lit 2)))))) (SharedT.abs ⟨t6 w.params, (nat_lit 221), {}, ⟨[]⟩, {}, (nat_lit 465), os⟩) (restOf (s6 ++ (s7 ++ (s8 ++ (s9 ++ (s10 ++ ([])))))) env' cE ⟨(nat_lit 96), (nat_lit 0), (nat_lit 106), (nat_lit 68)⟩ B) = some (⟨hf w.params, ⟨[]⟩, {}, (nat_lit 694), os⟩ : Shared) := by
  have h := congrFun (q6 w) os
  rw [← PySem.W.Fast.te10110043849684766642, ← PySem.W.Fast.te14364793385576792824] at h
  exact piece_app (segRun_of h) (u7 w os)
theorem u5 (w : World) (os : OsState) : topRun treeTable p' w (nat_lit 11) ann ((nat_lit 274) + ((nat_lit 307) + ((nat_lit 288) + ((nat_lit 400) + ((nat_lit 372) + ((nat_lit 59) + (nat_lit 2))))))) (SharedT.abs ⟨t5 w.params, (nat_lit 197), {}, ⟨[]⟩, {}, (nat_lit 434), os⟩) (restOf (s5 ++ (s6 ++ (s7 ++ (s8 ++ (s9 ++ (s10 ++ ([]))))))) env' cE ⟨(nat_lit 86), (nat_lit 0), (nat_lit 95), (nat_lit 61)⟩ B) = some (⟨hf w.params, ⟨[]⟩, {}, (nat_lit 694), os⟩ : Shared) := by
  have h := congrFun (q5 w) os
  rw [← PySem.W.Fast.te10110043849684766642, ← PySem.W.Fast.te14364793385576792824] at h
  exact piece_app (segRun_of h) (u6 w os)
theorem u4 (w : World) (os : OsState) : topRun treeTable p' w (nat_lit 11) ann ((nat_lit 280) + ((nat_lit 274) + ((nat_lit 307) + ((nat_lit 288) + ((nat_lit 400) + ((nat_lit 372) + ((nat_lit 59) + (nat_lit 2)))))))) (SharedT.abs ⟨t4 w.params, (nat_lit 171), {}, ⟨[]⟩, {}, (nat_lit 399), os⟩) (restOf (s4 ++ (s5 ++ (s6 ++ (s7 ++ (s8 ++ (s9 ++ (s10 ++ ([])))))))) env' cE ⟨(nat_lit 74), (nat_lit 0), (nat_lit 85), (nat_lit 82)⟩ B) = some (⟨hf w.params, ⟨[]⟩, {}, (nat_lit 694), os⟩ : Shared) := by
  have h := congrFun (q4 w) os
  rw [← PySem.W.Fast.te10110043849684766642, ← PySem.W.Fast.te14364793385576792824] at h
  exact piece_app (segRun_of h) (u5 w os)
theorem u3 (w : World) (os : OsState) : topRun treeTable p' w (nat_lit 11) ann ((nat_lit 282) + ((nat_lit 280) + ((nat_lit 274) + ((nat_lit 307) + ((nat_lit 288) + ((nat_lit 400) + ((nat_lit 372) + ((nat_lit 59) + (nat_lit 2))))))))) (SharedT.abs ⟨t3 w.params, (nat_lit 145), {}, ⟨[]⟩, {}, (nat_lit 362), os⟩) (restOf (s3 ++ (s4 ++ (s5 ++ (s6 ++ (s7 ++ (s8 ++ (s9 ++ (s10 ++ ([]))))))))) env' cE ⟨(nat_lit 62), (nat_lit 0), (nat_lit 73), (nat_lit 71)⟩ B) = some (⟨hf w.params, ⟨[]⟩, {}, (nat_lit 694), os⟩ : Shared) := by
  have h := congrFun (q3 w) os
  rw [← PySem.W.Fast.te10110043849684766642, ← PySem.W.Fast.te14364793385576792824] at h
  exact piece_app (segRun_of h) (u4 w os)
theorem u2 (w : World) (os : OsState) : topRun treeTable p' w (nat_lit 11) ann ((nat_lit 276) + ((nat_lit 282) + ((nat_lit 280) + ((nat_lit 274) + ((nat_lit 307) + ((nat_lit 288) + ((nat_lit 400) + ((nat_lit 372) + ((nat_lit 59) + (nat_lit 2)))))))))) (SharedT.abs ⟨t2 w.params, (nat_lit 121), {}, ⟨[]⟩, {}, (nat_lit 329), os⟩) (restOf (s2 ++ (s3 ++ (s4 ++ (s5 ++ (s6 ++ (s7 ++ (s8 ++ (s9 ++ (s10 ++ ([])))))))))) env' cE ⟨(nat_lit 60), (nat_lit 0), (nat_lit 61), (nat_lit 8)⟩ B) = some (⟨hf w.params, ⟨[]⟩, {}, (nat_lit 694), os⟩ : Shared) := by
  have h := congrFun (q2 w) os
  rw [← PySem.W.Fast.te10110043849684766642, ← PySem.W.Fast.te14364793385576792824] at h
  exact piece_app (segRun_of h) (u3 w os)
theorem u1 (w : World) (os : OsState) : topRun treeTable p' w (nat_lit 11) ann ((nat_lit 257) + ((nat_lit 276) + ((nat_lit 282) + ((nat_lit 280) + ((nat_lit 274) + ((nat_lit 307) + ((nat_lit 288) + ((nat_lit 400) + ((nat_lit 372) + ((nat_lit 59) + (nat_lit 2))))))))))) (SharedT.abs ⟨t1 w.params, (nat_lit 95), {}, ⟨[]⟩, {}, (nat_lit 292), os⟩) (restOf (s1 ++ (s2 ++ (s3 ++ (s4 ++ (s5 ++ (s6 ++ (s7 ++ (s8 ++ (s9 ++ (s10 ++ ([]))))))))))) env' cE ⟨(nat_lit 47), (nat_lit 0), (nat_lit 51), (nat_lit 15)⟩ B) = some (⟨hf w.params, ⟨[]⟩, {}, (nat_lit 694), os⟩ : Shared) := by
  have h := congrFun (q1 w) os
  rw [← PySem.W.Fast.te10110043849684766642, ← PySem.W.Fast.te14364793385576792824] at h
  exact piece_app (segRun_of h) (u2 w os)
theorem u0 (w : World) (os : OsState) : topRun treeTable p' w (nat_lit 11) ann ((nat_lit 380) + ((nat_lit 257) + ((nat_lit 276) + ((nat_lit 282) + ((nat_lit 280) + ((nat_lit 274) + ((nat_lit 307) + ((nat_lit 288) + ((nat_lit 400) + ((nat_lit 372) + ((nat_lit 59) + (nat_lit 2)))))))))))) (SharedT.abs ⟨t0 w.params, (nat_lit 15), {}, ⟨[]⟩, {}, (nat_lit 187), os⟩) (restOf (s0 ++ (s1 ++ (s2 ++ (s3 ++ (s4 ++ (s5 ++ (s6 ++ (s7 ++ (s8 ++ (s9 ++ (s10 ++ ([])))))))))))) env' cE ⟨(nat_lit 0), (nat_lit 0), (nat_lit 0), (nat_lit 0)⟩ B) = some (⟨hf w.params, ⟨[]⟩, {}, (nat_lit 694), os⟩ : Shared) := by
  have h := congrFun (q0 w) os
  rw [← PySem.W.Fast.te10110043849684766642, ← PySem.W.Fast.te14364793385576792824] at h
  exact piece_app (segRun_of h) (u1 w os)
theorem ub (w : World) (os : OsState) : topRun treeTable p' w (nat_lit 11) ann ((nat_lit 1) + ((nat_lit 380) + ((nat_lit 257) + ((nat_lit 276) + ((nat_lit 282) + ((nat_lit 280) + ((nat_lit 274) + ((nat_lit 307) + ((nat_lit 288) + ((nat_lit 400) + ((nat_lit 372) + ((nat_lit 59) + (nat_lit 2))))))))))))) (⟨ha w.params, ⟨[]⟩, {}, (nat_lit 187), os⟩ : Shared) ⟨denote treeTable (.body b' env'), cE, ⟨(nat_lit 0), (nat_lit 0), (nat_lit 0), (nat_lit 0)⟩, B⟩ = some (⟨hf w.params, ⟨[]⟩, {}, (nat_lit 694), os⟩ : Shared) := by
  have h := congrFun (blk0 w) os
  rw [← PySem.W.Fast.te14374325043358763698, ← PySem.W.Fast.te14364793385576792824] at h
  have e : restOf b' env' cE ⟨(nat_lit 0), (nat_lit 0), (nat_lit 0), (nat_lit 0)⟩ B = restOf (s0 ++ (s1 ++ (s2 ++ (s3 ++ (s4 ++ (s5 ++ (s6 ++ (s7 ++ (s8 ++ (s9 ++ (s10 ++ ([])))))))))))) env' cE ⟨(nat_lit 0), (nat_lit 0), (nat_lit 0), (nat_lit 0)⟩ B := congrArg (fun l => restOf l env' cE ⟨(nat_lit 0), (nat_lit 0), (nat_lit 0), (nat_lit 0)⟩ B) bsplit
  have k := u0 w os
  rw [← e] at k
  exact piece_block h k
theorem run (w : World) (os : OsState) : topRun treeTable p' w (nat_lit 11) ann ((nat_lit 12) + ((nat_lit 1) + ((nat_lit 380) + ((nat_lit 257) + ((nat_lit 276) + ((nat_lit 282) + ((nat_lit 280) + ((nat_lit 274) + ((nat_lit 307) + ((nat_lit 288) + ((nat_lit 400) + ((nat_lit 372) + ((nat_lit 59) + (nat_lit 2)))))))))))))) (⟨boot_heap w.params, ⟨[]⟩, boot_drawn, boot_toks, os⟩ : Shared) (topStub p') = some (⟨hf w.params, ⟨[]⟩, {}, (nat_lit 694), os⟩ : Shared) := by
  have h := congrFun (pre0 w) os
  rw [← PySem.W.Fast.te15667345088766844465, ← PySem.W.Fast.te11892475500146522536, ← PySem.W.Fast.te14364793385576792824] at h
  exact go_top h (ub w os)
def viewOf (p : Program) : Program := { p with main := { p.main with body := [tpOf p 0, tpOf p 2, tpOf p 3, tpOf p 4, tpOf p 5, tpOf p 6, tpOf p 7, tpOf p 8, tpOf p 9, tpOf p 10, tpOf p 11, tpOf p 12, tpOf p 13, tpOf p 14, tpOf p 16, tpOf p 17, tpOf p 18, tpOf p 19, tpOf p 20, tpOf p 21, tpOf p 22, tpOf p 23, tpOf p 25, tpOf p 26, tpOf p 28, tpOf p 29, tpOf p 30, tpOf p 31, tpOf p 33, tpOf p 34, tpOf p 35, tpOf p 36, tpOf p 37, tpOf p 38, tpOf p 39, tpOf p 40, tpOf p 41, tpOf p 42] } }
abbrev K (P : Params) : Frag := (nat_lit 2, ⟨.none, none, (.dict #[] 0), #[]⟩)
  :: (nat_lit 3, ⟨(.type "dict"), none, (.dict (List.toArray ((⟨PyData.keyHash P (S "__name__"), (.str (S "__name__") 165), (.str (S "law_wheelrow_k01_whole_told") 614)⟩) :: (⟨PyData.keyHash P (S "__doc__"), (.str (S "__doc__") 166), .none⟩) :: (⟨PyData.keyHash P (S "__package__"), (.str (S "__package__") 167), .none⟩) :: (⟨PyData.keyHash P (S "__loader__"), (.str (S "__loader__") 168), (.builtin "__main__.__loader__#opaque")⟩) :: (⟨PyData.keyHash P (S "__spec__"), (.str (S "__spec__") 169), .none⟩) :: (⟨PyData.keyHash P (S "__annotations__"), (.str (S "__annotations__") 170), (.ref 6)⟩) :: (⟨PyData.keyHash P (S "__builtins__"), (.str (S "__builtins__") 171), (.ref 4)⟩) :: (⟨PyData.keyHash P (S "__file__"), (.str (S "__file__") 173), (.str (S "/claim/cut.py") 172)⟩) :: (⟨PyData.keyHash P (S "__cached__"), (.str (S "__cached__") 174), .none⟩) :: (⟨PyData.keyHash P (S "_wall"), (.str (S "_wall") 193), (.ref 21)⟩) :: (⟨PyData.keyHash P (S "GREATEST_ROUND"), (.str (S "GREATEST_ROUND") 197), (.int 1000000 196)⟩) :: (⟨PyData.keyHash P (S "is_whole"), (.str (S "is_whole") 204), (.ref 28)⟩) :: (⟨PyData.keyHash P (S "is_round"), (.str (S "is_round") 211), (.ref 35)⟩) :: (⟨PyData.keyHash P (S "are_rounds"), (.str (S "are_rounds") 217), (.ref 40)⟩) :: (⟨PyData.keyHash P (S "is_rest"), (.str (S "is_rest") 225), (.ref 47)⟩) :: (⟨PyData.keyHash P (S "is_rest_pair"), (.str (S "is_rest_pair") 232), (.ref 54)⟩) :: (⟨PyData.keyHash P (S "are_rests"), (.str (S "are_rests") 238), (.ref 59)⟩) :: (⟨PyData.keyHash P (S "goes_into"), (.str (S "goes_into") 246), (.ref 66)⟩) :: (⟨PyData.keyHash P (S "leaves"), (.str (S "leaves") 255), (.ref 73)⟩) :: (⟨PyData.keyHash P (S "common_part_of_two"), (.str (S "common_part_of_two") 266), (.ref 80)⟩) :: (⟨PyData.keyHash P (S "part_with_times"), (.str (S "part_with_times") 282), (.ref 87)⟩) :: (⟨PyData.keyHash P (S "common_part"), (.str (S "common_part") 291), (.ref 94)⟩) :: (⟨PyData.keyHash P (S "common_turn"), (.str (S "common_turn") 300), (.ref 101)⟩) :: (⟨PyData.keyHash P (S "all_together"), (.str (S "all_together") 308), (.ref 106)⟩) :: (⟨PyData.keyHash P (S "Answer"), (.str (S "Answer") 328), (.ref 116)⟩) :: (⟨PyData.keyHash P (S "Number"), (.str (S "Number") 361), (.ref 142)⟩) :: (⟨PyData.keyHash P (S "Clash"), (.str (S "Clash") 398), (.ref 168)⟩) :: (⟨PyData.keyHash P (S "Common"), (.str (S "Common") 433), (.ref 194)⟩) :: (⟨PyData.keyHash P (S "Times"), (.str (S "Times") 464), (.ref 218)⟩) :: (⟨PyData.keyHash P (S "Bar"), (.str (S "Bar") 504), (.ref 249)⟩) :: (⟨PyData.keyHash P (S "Back"), (.str (S "Back") 538), (.ref 275)⟩) :: (⟨PyData.keyHash P (S "RestError"), (.str (S "RestError") 558), (.ref 287)⟩) :: (⟨PyData.keyHash P (S "BadRests"), (.str (S "BadRests") 574), (.ref 300)⟩) :: (⟨PyData.keyHash P (S "told"), (.str (S "told") 587), (.ref 309)⟩) :: (⟨PyData.keyHash P (S "joined"), (.str (S "joined") 601), (.ref 316)⟩) :: (⟨PyData.keyHash P (S "clash_with_earlier"), (.str (S "clash_with_earlier") 607), (.ref 321)⟩) :: (⟨PyData.keyHash P (S "left"), (.str (S "left") 613), (.ref 326)⟩) :: (⟨PyData.keyHash P (S "_law_cell_at"), (.str (S "_law_cell_at") 623), (.ref 333)⟩) :: (⟨PyData.keyHash P (S "_law_draw"), (.str (S "_law_draw") 633), (.ref 340)⟩) :: (⟨PyData.keyHash P (S "_law_turns"), (.str (S "_law_turns") 644), (.ref 347)⟩) :: (⟨PyData.keyHash P (S "_law_rests"), (.str (S "_law_rests") 650), (.ref 352)⟩) :: (⟨PyData.keyHash P (S "_law_part"), (.str (S "_law_part") 658), (.ref 359)⟩) :: (⟨PyData.keyHash P (S "_law_whole"), (.str (S "_law_whole") 665), (.ref 366)⟩) :: (⟨PyData.keyHash P (S "_law_numbers"), (.str (S "_law_numbers") 671), (.ref 371)⟩) :: (⟨PyData.keyHash P (S "_law_due"), (.str (S "_law_due") 677), (.ref 376)⟩) :: (⟨PyData.keyHash P (S "_law_right"), (.str (S "_law_right") 687), (.ref 383)⟩) :: (⟨PyData.keyHash P (S "law"), (.str (S "law") 693), (.ref 388)⟩) :: [])) 47), #[]⟩)
  :: (nat_lit 15, ⟨(.type "tuple"), none, (.seq #[] 0), #[]⟩)
  :: (nat_lit 17, ⟨(.type "tuple"), none, (.seq #[(.str (S "k") 190)] 0), #[]⟩)
  :: (nat_lit 18, ⟨(.type "tuple"), none, (.seq #[] 0), #[]⟩)
  :: (nat_lit 20, ⟨(.type "code"), none, (.fields #[(.str (S "_wall") 187), (.str (S "_wall") 188), (.str (S "/claim/cut.py") 189), (.int 1 0), (.int 1 0), (.int 0 0), (.int 0 0), (.int 3 0), (.ref 15), (.bool true), (.int 181 0), (.ref 16), .none, (.ref 17), (.ref 18), (.ref 19), (.int 191 0), (.int 1 0), (.str (S "/claim/cut.py") 192)]), #[]⟩)
  :: (nat_lit 21, ⟨(.type "function"), none, (.func ⟨(S "_wall"), (S "_wall"), (L2.defArgs (W01.top 0)), .stmts (L2.defBody (W01.top 0)), (L2.defScope (W01.top 0)), 3, [], .none, .none, .none, (.str (S "__main__") 164), none, (.ref 20), .none, 0⟩), #[]⟩)
  :: (nat_lit 22, ⟨(.type "tuple"), none, (.seq #[] 0), #[]⟩)
  :: (nat_lit 24, ⟨(.type "tuple"), none, (.seq #[(.str (S "value") 201)] 0), #[]⟩)
  :: (nat_lit 25, ⟨(.type "tuple"), none, (.seq #[] 0), #[]⟩)
  :: (nat_lit 27, ⟨(.type "code"), none, (.fields #[(.str (S "is_whole") 198), (.str (S "is_whole") 199), (.str (S "/claim/cut.py") 200), (.int 6 0), (.int 1 0), (.int 0 0), (.int 0 0), (.int 3 0), (.ref 22), (.bool true), (.int 181 0), (.ref 23), .none, (.ref 24), (.ref 25), (.ref 26), (.int 202 0), (.int 6 0), (.str (S "/claim/cut.py") 203)]), #[]⟩)
  :: (nat_lit 28, ⟨(.type "function"), none, (.func ⟨(S "is_whole"), (S "is_whole"), (L2.defArgs (W01.top 3)), .stmts (L2.defBody (W01.top 3)), (L2.defScope (W01.top 3)), 3, [], .none, .none, .none, (.str (S "wheelrow.numbers") 194), none, (.ref 27), .none, 0⟩), #[]⟩)
  :: (nat_lit 29, ⟨(.type "tuple"), none, (.seq #[] 0), #[]⟩)
  :: (nat_lit 31, ⟨(.type "tuple"), none, (.seq #[(.str (S "value") 208)] 0), #[]⟩)
  :: (nat_lit 32, ⟨(.type "tuple"), none, (.seq #[] 0), #[]⟩)
  :: (nat_lit 34, ⟨(.type "code"), none, (.fields #[(.str (S "is_round") 205), (.str (S "is_round") 206), (.str (S "/claim/cut.py") 207), (.int 8 0), (.int 1 0), (.int 0 0), (.int 0 0), (.int 3 0), (.ref 29), (.bool true), (.int 181 0), (.ref 30), .none, (.ref 31), (.ref 32), (.ref 33), (.int 209 0), (.int 8 0), (.str (S "/claim/cut.py") 210)]), #[]⟩)
  :: (nat_lit 35, ⟨(.type "function"), none, (.func ⟨(S "is_round"), (S "is_round"), (L2.defArgs (W01.top 4)), .stmts (L2.defBody (W01.top 4)), (L2.defScope (W01.top 4)), 3, [], .none, .none, .none, (.str (S "wheelrow.numbers") 194), none, (.ref 34), .none, 0⟩), #[]⟩)
  :: (nat_lit 36, ⟨(.type "tuple"), none, (.seq #[] 0), #[]⟩)
  :: (nat_lit 39, ⟨(.type "code"), none, (.fields #[(.str (S "are_rounds") 212), (.str (S "are_rounds") 213), (.str (S "/claim/cut.py") 214), (.int 10 0), (.int 1 0), (.int 0 0), (.int 0 0), (.int 3 0), (.ref 36), (.bool true), (.int 181 0), (.ref 37), .none, .none, .none, (.ref 38), (.int 215 0), (.int 10 0), (.str (S "/claim/cut.py") 216)]), #[]⟩)
  :: (nat_lit 40, ⟨(.type "function"), none, (.func ⟨(S "are_rounds"), (S "are_rounds"), (L2.defArgs (W01.top 5)), .stmts (L2.defBody (W01.top 5)), (L2.defScope (W01.top 5)), 3, [], .none, .none, .none, (.str (S "wheelrow.numbers") 194), none, (.ref 39), .none, 0⟩), #[]⟩)
  :: (nat_lit 41, ⟨(.type "tuple"), none, (.seq #[] 0), #[]⟩)
  :: (nat_lit 43, ⟨(.type "tuple"), none, (.seq #[(.str (S "value") 221), (.str (S "turn") 222)] 0), #[]⟩)
  :: (nat_lit 44, ⟨(.type "tuple"), none, (.seq #[] 0), #[]⟩)
  :: (nat_lit 46, ⟨(.type "code"), none, (.fields #[(.str (S "is_rest") 218), (.str (S "is_rest") 219), (.str (S "/claim/cut.py") 220), (.int 12 0), (.int 2 0), (.int 0 0), (.int 0 0), (.int 3 0), (.ref 41), (.bool true), (.int 181 0), (.ref 42), .none, (.ref 43), (.ref 44), (.ref 45), (.int 223 0), (.int 12 0), (.str (S "/claim/cut.py") 224)]), #[]⟩)
  :: (nat_lit 47, ⟨(.type "function"), none, (.func ⟨(S "is_rest"), (S "is_rest"), (L2.defArgs (W01.top 6)), .stmts (L2.defBody (W01.top 6)), (L2.defScope (W01.top 6)), 3, [], .none, .none, .none, (.str (S "wheelrow.numbers") 194), none, (.ref 46), .none, 0⟩), #[]⟩)
  :: (nat_lit 48, ⟨(.type "tuple"), none, (.seq #[] 0), #[]⟩)
  :: (nat_lit 50, ⟨(.type "tuple"), none, (.seq #[(.str (S "value") 229)] 0), #[]⟩)
  :: (nat_lit 51, ⟨(.type "tuple"), none, (.seq #[] 0), #[]⟩)
  :: (nat_lit 53, ⟨(.type "code"), none, (.fields #[(.str (S "is_rest_pair") 226), (.str (S "is_rest_pair") 227), (.str (S "/claim/cut.py") 228), (.int 14 0), (.int 1 0), (.int 0 0), (.int 0 0), (.int 3 0), (.ref 48), (.bool true), (.int 181 0), (.ref 49), .none, (.ref 50), (.ref 51), (.ref 52), (.int 230 0), (.int 14 0), (.str (S "/claim/cut.py") 231)]), #[]⟩)
  :: (nat_lit 54, ⟨(.type "function"), none, (.func ⟨(S "is_rest_pair"), (S "is_rest_pair"), (L2.defArgs (W01.top 7)), .stmts (L2.defBody (W01.top 7)), (L2.defScope (W01.top 7)), 3, [], .none, .none, .none, (.str (S "wheelrow.numbers") 194), none, (.ref 53), .none, 0⟩), #[]⟩)
  :: (nat_lit 55, ⟨(.type "tuple"), none, (.seq #[] 0), #[]⟩)
  :: (nat_lit 58, ⟨(.type "code"), none, (.fields #[(.str (S "are_rests") 233), (.str (S "are_rests") 234), (.str (S "/claim/cut.py") 235), (.int 16 0), (.int 1 0), (.int 0 0), (.int 0 0), (.int 3 0), (.ref 55), (.bool true), (.int 181 0), (.ref 56), .none, .none, .none, (.ref 57), (.int 236 0), (.int 16 0), (.str (S "/claim/cut.py") 237)]), #[]⟩)
  :: (nat_lit 59, ⟨(.type "function"), none, (.func ⟨(S "are_rests"), (S "are_rests"), (L2.defArgs (W01.top 8)), .stmts (L2.defBody (W01.top 8)), (L2.defScope (W01.top 8)), 3, [], .none, .none, .none, (.str (S "wheelrow.numbers") 194), none, (.ref 58), .none, 0⟩), #[]⟩)
  :: (nat_lit 60, ⟨(.type "tuple"), none, (.seq #[] 0), #[]⟩)
  :: (nat_lit 62, ⟨(.type "tuple"), none, (.seq #[(.str (S "part") 242), (.str (S "number") 243)] 0), #[]⟩)
  :: (nat_lit 63, ⟨(.type "tuple"), none, (.seq #[] 0), #[]⟩)
  :: (nat_lit 65, ⟨(.type "code"), none, (.fields #[(.str (S "goes_into") 239), (.str (S "goes_into") 240), (.str (S "/claim/cut.py") 241), (.int 18 0), (.int 2 0), (.int 0 0), (.int 0 0), (.int 3 0), (.ref 60), (.bool true), (.int 181 0), (.ref 61), .none, (.ref 62), (.ref 63), (.ref 64), (.int 244 0), (.int 18 0), (.str (S "/claim/cut.py") 245)]), #[]⟩)
  :: (nat_lit 66, ⟨(.type "function"), none, (.func ⟨(S "goes_into"), (S "goes_into"), (L2.defArgs (W01.top 9)), .stmts (L2.defBody (W01.top 9)), (L2.defScope (W01.top 9)), 3, [], .none, .none, .none, (.str (S "wheelrow.numbers") 194), none, (.ref 65), .none, 0⟩), #[]⟩)
  :: (nat_lit 67, ⟨(.type "tuple"), none, (.seq #[] 0), #[]⟩)
  :: (nat_lit 69, ⟨(.type "tuple"), none, (.seq #[(.str (S "number") 250), (.str (S "rest") 251), (.str (S "turn") 252)] 0), #[]⟩)
  :: (nat_lit 70, ⟨(.type "tuple"), none, (.seq #[] 0), #[]⟩)
  :: (nat_lit 72, ⟨(.type "code"), none, (.fields #[(.str (S "leaves") 247), (.str (S "leaves") 248), (.str (S "/claim/cut.py") 249), (.int 20 0), (.int 3 0), (.int 0 0), (.int 0 0), (.int 3 0), (.ref 67), (.bool true), (.int 181 0), (.ref 68), .none, (.ref 69), (.ref 70), (.ref 71), (.int 253 0), (.int 20 0), (.str (S "/claim/cut.py") 254)]), #[]⟩)
  :: (nat_lit 73, ⟨(.type "function"), none, (.func ⟨(S "leaves"), (S "leaves"), (L2.defArgs (W01.top 10)), .stmts (L2.defBody (W01.top 10)), (L2.defScope (W01.top 10)), 3, [], .none, .none, .none, (.str (S "wheelrow.numbers") 194), none, (.ref 72), .none, 0⟩), #[]⟩)
  :: (nat_lit 74, ⟨(.type "tuple"), none, (.seq #[] 0), #[]⟩)
  :: (nat_lit 76, ⟨(.type "tuple"), none, (.seq #[(.str (S "one") 259), (.str (S "other") 260), (.str (S "part") 261), (.str (S "left") 262), (.str (S "following") 263)] 0), #[]⟩)
  :: (nat_lit 77, ⟨(.type "tuple"), none, (.seq #[] 0), #[]⟩)
  :: (nat_lit 79, ⟨(.type "code"), none, (.fields #[(.str (S "common_part_of_two") 256), (.str (S "common_part_of_two") 257), (.str (S "/claim/cut.py") 258), (.int 22 0), (.int 2 0), (.int 0 0), (.int 0 0), (.int 3 0), (.ref 74), (.bool true), (.int 181 0), (.ref 75), .none, (.ref 76), (.ref 77), (.ref 78), (.int 264 0), (.int 22 0), (.str (S "/claim/cut.py") 265)]), #[]⟩)
  :: (nat_lit 80, ⟨(.type "function"), none, (.func ⟨(S "common_part_of_two"), (S "common_part_of_two"), (L2.defArgs (W01.top 11)), .stmts (L2.defBody (W01.top 11)), (L2.defScope (W01.top 11)), 3, [], .none, .none, .none, (.str (S "wheelrow.numbers") 194), none, (.ref 79), .none, 0⟩), #[]⟩)
  :: (nat_lit 81, ⟨(.type "tuple"), none, (.seq #[] 0), #[]⟩)
  :: (nat_lit 83, ⟨(.type "tuple"), none, (.seq #[(.str (S "one") 270), (.str (S "other") 271), (.str (S "part") 272), (.str (S "often") 273), (.str (S "left") 274), (.str (S "left_often") 275), (.str (S "whole") 276), (.str (S "following") 277), (.str (S "following_often") 278), (.str (S "other_often") 279)] 0), #[]⟩)
  :: (nat_lit 84, ⟨(.type "tuple"), none, (.seq #[] 0), #[]⟩)
  :: (nat_lit 86, ⟨(.type "code"), none, (.fields #[(.str (S "part_with_times") 267), (.str (S "part_with_times") 268), (.str (S "/claim/cut.py") 269), (.int 30 0), (.int 2 0), (.int 0 0), (.int 0 0), (.int 3 0), (.ref 81), (.bool true), (.int 181 0), (.ref 82), .none, (.ref 83), (.ref 84), (.ref 85), (.int 280 0), (.int 30 0), (.str (S "/claim/cut.py") 281)]), #[]⟩)
  :: (nat_lit 87, ⟨(.type "function"), none, (.func ⟨(S "part_with_times"), (S "part_with_times"), (L2.defArgs (W01.top 12)), .stmts (L2.defBody (W01.top 12)), (L2.defScope (W01.top 12)), 3, [], .none, .none, .none, (.str (S "wheelrow.numbers") 194), none, (.ref 86), .none, 0⟩), #[]⟩)
  :: (nat_lit 88, ⟨(.type "tuple"), none, (.seq #[] 0), #[]⟩)
  :: (nat_lit 90, ⟨(.type "tuple"), none, (.seq #[(.str (S "numbers") 286), (.str (S "part") 287), (.str (S "number") 288)] 0), #[]⟩)
  :: (nat_lit 91, ⟨(.type "tuple"), none, (.seq #[] 0), #[]⟩)
  :: (nat_lit 93, ⟨(.type "code"), none, (.fields #[(.str (S "common_part") 283), (.str (S "common_part") 284), (.str (S "/claim/cut.py") 285), (.int 47 0), (.int 1 0), (.int 0 0), (.int 0 0), (.int 3 0), (.ref 88), (.bool true), (.int 181 0), (.ref 89), .none, (.ref 90), (.ref 91), (.ref 92), (.int 289 0), (.int 47 0), (.str (S "/claim/cut.py") 290)]), #[]⟩)
  :: (nat_lit 94, ⟨(.type "function"), none, (.func ⟨(S "common_part"), (S "common_part"), (L2.defArgs (W01.top 13)), .stmts (L2.defBody (W01.top 13)), (L2.defScope (W01.top 13)), 3, [], .none, .none, .none, (.str (S "wheelrow.numbers") 194), none, (.ref 93), .none, 0⟩), #[]⟩)
  :: (nat_lit 95, ⟨(.type "tuple"), none, (.seq #[] 0), #[]⟩)
  :: (nat_lit 97, ⟨(.type "tuple"), none, (.seq #[(.str (S "turns") 295), (.str (S "whole") 296), (.str (S "turn") 297)] 0), #[]⟩)
  :: (nat_lit 98, ⟨(.type "tuple"), none, (.seq #[] 0), #[]⟩)
  :: (nat_lit 100, ⟨(.type "code"), none, (.fields #[(.str (S "common_turn") 292), (.str (S "common_turn") 293), (.str (S "/claim/cut.py") 294), (.int 52 0), (.int 1 0), (.int 0 0), (.int 0 0), (.int 3 0), (.ref 95), (.bool true), (.int 181 0), (.ref 96), .none, (.ref 97), (.ref 98), (.ref 99), (.int 298 0), (.int 52 0), (.str (S "/claim/cut.py") 299)]), #[]⟩)
  :: (nat_lit 101, ⟨(.type "function"), none, (.func ⟨(S "common_turn"), (S "common_turn"), (L2.defArgs (W01.top 14)), .stmts (L2.defBody (W01.top 14)), (L2.defScope (W01.top 14)), 3, [], .none, .none, .none, (.str (S "wheelrow.numbers") 194), none, (.ref 100), .none, 0⟩), #[]⟩)
  :: (nat_lit 102, ⟨(.type "tuple"), none, (.seq #[] 0), #[]⟩)
  :: (nat_lit 105, ⟨(.type "code"), none, (.fields #[(.str (S "all_together") 303), (.str (S "all_together") 304), (.str (S "/claim/cut.py") 305), (.int 58 0), (.int 2 0), (.int 0 0), (.int 0 0), (.int 3 0), (.ref 102), (.bool true), (.int 181 0), (.ref 103), .none, .none, .none, (.ref 104), (.int 306 0), (.int 58 0), (.str (S "/claim/cut.py") 307)]), #[]⟩)
  :: (nat_lit 106, ⟨(.type "function"), none, (.func ⟨(S "all_together"), (S "all_together"), (L2.defArgs (W01.top 16)), .stmts (L2.defBody (W01.top 16)), (L2.defScope (W01.top 16)), 3, [], .none, .none, .none, (.str (S "wheelrow.answers") 301), none, (.ref 105), .none, 0⟩), #[]⟩)
  :: (nat_lit 114, ⟨(.type "tuple"), none, (.seq #[] 0), #[]⟩)
  :: (nat_lit 115, ⟨(.type "dict"), none, (.dict #[⟨PyData.keyHash P (S "__module__"), (.str (S "__module__") 316), (.str (S "wheelrow.answers") 301)⟩, ⟨PyData.keyHash P (S "__firstlineno__"), (.str (S "__firstlineno__") 320), (.int 60 319)⟩, ⟨PyData.keyHash P (S "__static_attributes__"), (.str (S "__static_attributes__") 321), (.ref 114)⟩, ⟨PyData.keyHash P (S "__dict__"), (.str (S "__dict__") 323), (.ref 117)⟩, ⟨PyData.keyHash P (S "__weakref__"), (.str (S "__weakref__") 325), (.ref 118)⟩, ⟨PyData.keyHash P (S "__doc__"), (.str (S "__doc__") 326), .none⟩] 4), #[]⟩)
  :: (nat_lit 116, ⟨(.type "type"), none, (.cls ⟨(S "Answer"), [(.type "object")], [(.ref 116), (.type "object")], 115, (S "Answer"), true, [], [(.ref 142), (.ref 168), (.ref 194), (.ref 218), (.ref 249), (.ref 275)], false, none, false⟩), #[none, none, some (.str (S "Answer") 309), some (.str (S "Answer") 317), some (.builtin "object.__new__"), some (.bool true)]⟩)
  :: (nat_lit 117, ⟨(.type "getset_descriptor"), none, (.fields #[(.str (S "__dict__") 322), (.ref 116), (.builtin "function.__dict__"), (.builtin "function.__dict__#set")]), #[]⟩)
  :: (nat_lit 118, ⟨(.type "getset_descriptor"), none, (.fields #[(.str (S "__weakref__") 324), (.ref 116), (.builtin "ExceptionGroup.__weakref__"), .none]), #[]⟩)
  :: (nat_lit 121, ⟨(.type "tuple"), none, (.seq #[(.ref 116)] 0), #[]⟩)
  :: (nat_lit 128, ⟨(.type "tuple"), none, (.seq #[] 0), #[]⟩)
  :: (nat_lit 130, ⟨(.type "tuple"), none, (.seq #[(.str (S "self") 344), (.str (S "number") 345), (.str (S "turn") 346)] 0), #[]⟩)
  :: (nat_lit 131, ⟨(.type "tuple"), none, (.seq #[] 0), #[]⟩)
  :: (nat_lit 133, ⟨(.type "code"), none, (.fields #[(.str (S "__init__") 341), (.str (S "Number.__init__") 342), (.str (S "/claim/cut.py") 343), (.int 64 0), (.int 3 0), (.int 0 0), (.int 0 0), (.int 3 0), (.ref 128), (.bool true), (.int 181 0), (.ref 129), .none, (.ref 130), (.ref 131), (.ref 132), (.int 347 0), (.int 64 0), (.str (S "/claim/cut.py") 348)]), #[]⟩)
  :: (nat_lit 134, ⟨(.type "function"), none, (.func ⟨(S "__init__"), (S "Number.__init__"), (L2.defArgs (L2.inClass (W01.top 18) 0)), .stmts (L2.defBody (L2.inClass (W01.top 18) 0)), (L2.defScope (L2.inClass (W01.top 18) 0)), 3, [], .none, .none, .none, (.str (S "wheelrow.answers") 301), none, (.ref 133), .none, 0⟩), #[]⟩)
  :: (nat_lit 135, ⟨(.type "tuple"), none, (.seq #[] 0), #[]⟩)
  :: (nat_lit 138, ⟨(.type "code"), none, (.fields #[(.str (S "shows") 350), (.str (S "Number.shows") 351), (.str (S "/claim/cut.py") 352), (.int 68 0), (.int 2 0), (.int 0 0), (.int 0 0), (.int 3 0), (.ref 135), (.bool true), (.int 181 0), (.ref 136), .none, .none, .none, (.ref 137), (.int 353 0), (.int 68 0), (.str (S "/claim/cut.py") 354)]), #[]⟩)
  :: (nat_lit 139, ⟨(.type "function"), none, (.func ⟨(S "shows"), (S "Number.shows"), (L2.defArgs (L2.inClass (W01.top 18) 1)), .stmts (L2.defBody (L2.inClass (W01.top 18) 1)), (L2.defScope (L2.inClass (W01.top 18) 1)), 3, [], .none, .none, .none, (.str (S "wheelrow.answers") 301), none, (.ref 138), .none, 0⟩), #[]⟩)
  :: (nat_lit 140, ⟨(.type "tuple"), none, (.seq #[(.str (S "number") 356), (.str (S "turn") 357)] 0), #[]⟩)
  :: (nat_lit 141, ⟨(.type "dict"), none, (.dict #[⟨PyData.keyHash P (S "__module__"), (.str (S "__module__") 336), (.str (S "wheelrow.answers") 301)⟩, ⟨PyData.keyHash P (S "__firstlineno__"), (.str (S "__firstlineno__") 340), (.int 62 339)⟩, ⟨PyData.keyHash P (S "__init__"), (.str (S "__init__") 349), (.ref 134)⟩, ⟨PyData.keyHash P (S "shows"), (.str (S "shows") 355), (.ref 139)⟩, ⟨PyData.keyHash P (S "__static_attributes__"), (.str (S "__static_attributes__") 358), (.ref 140)⟩, ⟨PyData.keyHash P (S "__doc__"), (.str (S "__doc__") 359), .none⟩] 2), #[]⟩)
  :: (nat_lit 142, ⟨(.type "type"), none, (.cls ⟨(S "Number"), [(.ref 116)], [(.ref 142), (.ref 116), (.type "object")], 141, (S "Number"), true, [], [], false, none, false⟩), #[some (.ref 121), none, some (.str (S "Number") 329), some (.str (S "Number") 337), some (.builtin "object.__new__"), some (.bool true)]⟩)
  :: (nat_lit 145, ⟨(.type "tuple"), none, (.seq #[(.ref 116)] 0), #[]⟩)
  :: (nat_lit 152, ⟨(.type "tuple"), none, (.seq #[] 0), #[]⟩)
  :: (nat_lit 154, ⟨(.type "tuple"), none, (.seq #[(.str (S "self") 377), (.str (S "one") 378), (.str (S "other") 379)] 0), #[]⟩)
  :: (nat_lit 155, ⟨(.type "tuple"), none, (.seq #[] 0), #[]⟩)
  :: (nat_lit 157, ⟨(.type "code"), none, (.fields #[(.str (S "__init__") 374), (.str (S "Clash.__init__") 375), (.str (S "/claim/cut.py") 376), (.int 76 0), (.int 3 0), (.int 0 0), (.int 0 0), (.int 3 0), (.ref 152), (.bool true), (.int 181 0), (.ref 153), .none, (.ref 154), (.ref 155), (.ref 156), (.int 380 0), (.int 76 0), (.str (S "/claim/cut.py") 381)]), #[]⟩)
  :: (nat_lit 158, ⟨(.type "function"), none, (.func ⟨(S "__init__"), (S "Clash.__init__"), (L2.defArgs (L2.inClass (W01.top 19) 0)), .stmts (L2.defBody (L2.inClass (W01.top 19) 0)), (L2.defScope (L2.inClass (W01.top 19) 0)), 3, [], .none, .none, .none, (.str (S "wheelrow.answers") 301), none, (.ref 157), .none, 0⟩), #[]⟩)
  :: (nat_lit 159, ⟨(.type "tuple"), none, (.seq #[] 0), #[]⟩)
  :: (nat_lit 161, ⟨(.type "tuple"), none, (.seq #[(.str (S "self") 386), (.str (S "rests") 387), (.str (S "first") 388), (.str (S "second") 389)] 0), #[]⟩)
  :: (nat_lit 162, ⟨(.type "tuple"), none, (.seq #[] 0), #[]⟩)
  :: (nat_lit 164, ⟨(.type "code"), none, (.fields #[(.str (S "shows") 383), (.str (S "Clash.shows") 384), (.str (S "/claim/cut.py") 385), (.int 80 0), (.int 2 0), (.int 0 0), (.int 0 0), (.int 3 0), (.ref 159), (.bool true), (.int 181 0), (.ref 160), .none, (.ref 161), (.ref 162), (.ref 163), (.int 390 0), (.int 80 0), (.str (S "/claim/cut.py") 391)]), #[]⟩)
  :: (nat_lit 165, ⟨(.type "function"), none, (.func ⟨(S "shows"), (S "Clash.shows"), (L2.defArgs (L2.inClass (W01.top 19) 1)), .stmts (L2.defBody (L2.inClass (W01.top 19) 1)), (L2.defScope (L2.inClass (W01.top 19) 1)), 3, [], .none, .none, .none, (.str (S "wheelrow.answers") 301), none, (.ref 164), .none, 0⟩), #[]⟩)
  :: (nat_lit 166, ⟨(.type "tuple"), none, (.seq #[(.str (S "one") 393), (.str (S "other") 394)] 0), #[]⟩)
  :: (nat_lit 167, ⟨(.type "dict"), none, (.dict #[⟨PyData.keyHash P (S "__module__"), (.str (S "__module__") 369), (.str (S "wheelrow.answers") 301)⟩, ⟨PyData.keyHash P (S "__firstlineno__"), (.str (S "__firstlineno__") 373), (.int 74 372)⟩, ⟨PyData.keyHash P (S "__init__"), (.str (S "__init__") 382), (.ref 158)⟩, ⟨PyData.keyHash P (S "shows"), (.str (S "shows") 392), (.ref 165)⟩, ⟨PyData.keyHash P (S "__static_attributes__"), (.str (S "__static_attributes__") 395), (.ref 166)⟩, ⟨PyData.keyHash P (S "__doc__"), (.str (S "__doc__") 396), .none⟩] 2), #[]⟩)
  :: (nat_lit 168, ⟨(.type "type"), none, (.cls ⟨(S "Clash"), [(.ref 116)], [(.ref 168), (.ref 116), (.type "object")], 167, (S "Clash"), true, [], [], false, none, false⟩), #[some (.ref 145), none, some (.str (S "Clash") 362), some (.str (S "Clash") 370), some (.builtin "object.__new__"), some (.bool true)]⟩)
  :: (nat_lit 171, ⟨(.type "tuple"), none, (.seq #[(.ref 116)] 0), #[]⟩)
  :: (nat_lit 178, ⟨(.type "tuple"), none, (.seq #[] 0), #[]⟩)
  :: (nat_lit 180, ⟨(.type "tuple"), none, (.seq #[(.str (S "self") 414), (.str (S "part") 415), (.str (S "times") 416)] 0), #[]⟩)
  :: (nat_lit 181, ⟨(.type "tuple"), none, (.seq #[] 0), #[]⟩)
  :: (nat_lit 183, ⟨(.type "code"), none, (.fields #[(.str (S "__init__") 411), (.str (S "Common.__init__") 412), (.str (S "/claim/cut.py") 413), (.int 88 0), (.int 3 0), (.int 0 0), (.int 0 0), (.int 3 0), (.ref 178), (.bool true), (.int 181 0), (.ref 179), .none, (.ref 180), (.ref 181), (.ref 182), (.int 417 0), (.int 88 0), (.str (S "/claim/cut.py") 418)]), #[]⟩)
  :: (nat_lit 184, ⟨(.type "function"), none, (.func ⟨(S "__init__"), (S "Common.__init__"), (L2.defArgs (L2.inClass (W01.top 20) 0)), .stmts (L2.defBody (L2.inClass (W01.top 20) 0)), (L2.defScope (L2.inClass (W01.top 20) 0)), 3, [], .none, .none, .none, (.str (S "wheelrow.answers") 301), none, (.ref 183), .none, 0⟩), #[]⟩)
  :: (nat_lit 185, ⟨(.type "tuple"), none, (.seq #[] 0), #[]⟩)
  :: (nat_lit 187, ⟨(.type "tuple"), none, (.seq #[(.str (S "self") 423), (.str (S "numbers") 424)] 0), #[]⟩)
  :: (nat_lit 188, ⟨(.type "tuple"), none, (.seq #[] 0), #[]⟩)
  :: (nat_lit 190, ⟨(.type "code"), none, (.fields #[(.str (S "shows") 420), (.str (S "Common.shows") 421), (.str (S "/claim/cut.py") 422), (.int 92 0), (.int 2 0), (.int 0 0), (.int 0 0), (.int 3 0), (.ref 185), (.bool true), (.int 181 0), (.ref 186), .none, (.ref 187), (.ref 188), (.ref 189), (.int 425 0), (.int 92 0), (.str (S "/claim/cut.py") 426)]), #[]⟩)
  :: (nat_lit 191, ⟨(.type "function"), none, (.func ⟨(S "shows"), (S "Common.shows"), (L2.defArgs (L2.inClass (W01.top 20) 1)), .stmts (L2.defBody (L2.inClass (W01.top 20) 1)), (L2.defScope (L2.inClass (W01.top 20) 1)), 3, [], .none, .none, .none, (.str (S "wheelrow.answers") 301), none, (.ref 190), .none, 0⟩), #[]⟩)
  :: (nat_lit 192, ⟨(.type "tuple"), none, (.seq #[(.str (S "part") 428), (.str (S "times") 429)] 0), #[]⟩)
  :: (nat_lit 193, ⟨(.type "dict"), none, (.dict #[⟨PyData.keyHash P (S "__module__"), (.str (S "__module__") 406), (.str (S "wheelrow.answers") 301)⟩, ⟨PyData.keyHash P (S "__firstlineno__"), (.str (S "__firstlineno__") 410), (.int 86 409)⟩, ⟨PyData.keyHash P (S "__init__"), (.str (S "__init__") 419), (.ref 184)⟩, ⟨PyData.keyHash P (S "shows"), (.str (S "shows") 427), (.ref 191)⟩, ⟨PyData.keyHash P (S "__static_attributes__"), (.str (S "__static_attributes__") 430), (.ref 192)⟩, ⟨PyData.keyHash P (S "__doc__"), (.str (S "__doc__") 431), .none⟩] 2), #[]⟩)
  :: (nat_lit 194, ⟨(.type "type"), none, (.cls ⟨(S "Common"), [(.ref 116)], [(.ref 194), (.ref 116), (.type "object")], 193, (S "Common"), true, [], [], false, none, false⟩), #[some (.ref 171), none, some (.str (S "Common") 399), some (.str (S "Common") 407), some (.builtin "object.__new__"), some (.bool true)]⟩)
  :: (nat_lit 197, ⟨(.type "tuple"), none, (.seq #[(.ref 116)] 0), #[]⟩)
  :: (nat_lit 204, ⟨(.type "tuple"), none, (.seq #[] 0), #[]⟩)
  :: (nat_lit 206, ⟨(.type "tuple"), none, (.seq #[(.str (S "self") 449), (.str (S "times") 450)] 0), #[]⟩)
  :: (nat_lit 207, ⟨(.type "tuple"), none, (.seq #[] 0), #[]⟩)
  :: (nat_lit 209, ⟨(.type "code"), none, (.fields #[(.str (S "__init__") 446), (.str (S "Times.__init__") 447), (.str (S "/claim/cut.py") 448), (.int 98 0), (.int 2 0), (.int 0 0), (.int 0 0), (.int 3 0), (.ref 204), (.bool true), (.int 181 0), (.ref 205), .none, (.ref 206), (.ref 207), (.ref 208), (.int 451 0), (.int 98 0), (.str (S "/claim/cut.py") 452)]), #[]⟩)
  :: (nat_lit 210, ⟨(.type "function"), none, (.func ⟨(S "__init__"), (S "Times.__init__"), (L2.defArgs (L2.inClass (W01.top 21) 0)), .stmts (L2.defBody (L2.inClass (W01.top 21) 0)), (L2.defScope (L2.inClass (W01.top 21) 0)), 3, [], .none, .none, .none, (.str (S "wheelrow.answers") 301), none, (.ref 209), .none, 0⟩), #[]⟩)
  :: (nat_lit 211, ⟨(.type "tuple"), none, (.seq #[] 0), #[]⟩)
  :: (nat_lit 214, ⟨(.type "code"), none, (.fields #[(.str (S "shows") 454), (.str (S "Times.shows") 455), (.str (S "/claim/cut.py") 456), (.int 101 0), (.int 4 0), (.int 0 0), (.int 0 0), (.int 3 0), (.ref 211), (.bool true), (.int 181 0), (.ref 212), .none, .none, .none, (.ref 213), (.int 457 0), (.int 101 0), (.str (S "/claim/cut.py") 458)]), #[]⟩)
  :: (nat_lit 215, ⟨(.type "function"), none, (.func ⟨(S "shows"), (S "Times.shows"), (L2.defArgs (L2.inClass (W01.top 21) 1)), .stmts (L2.defBody (L2.inClass (W01.top 21) 1)), (L2.defScope (L2.inClass (W01.top 21) 1)), 3, [], .none, .none, .none, (.str (S "wheelrow.answers") 301), none, (.ref 214), .none, 0⟩), #[]⟩)
  :: (nat_lit 216, ⟨(.type "tuple"), none, (.seq #[(.str (S "times") 460)] 0), #[]⟩)
  :: (nat_lit 217, ⟨(.type "dict"), none, (.dict #[⟨PyData.keyHash P (S "__module__"), (.str (S "__module__") 441), (.str (S "wheelrow.answers") 301)⟩, ⟨PyData.keyHash P (S "__firstlineno__"), (.str (S "__firstlineno__") 445), (.int 96 444)⟩, ⟨PyData.keyHash P (S "__init__"), (.str (S "__init__") 453), (.ref 210)⟩, ⟨PyData.keyHash P (S "shows"), (.str (S "shows") 459), (.ref 215)⟩, ⟨PyData.keyHash P (S "__static_attributes__"), (.str (S "__static_attributes__") 461), (.ref 216)⟩, ⟨PyData.keyHash P (S "__doc__"), (.str (S "__doc__") 462), .none⟩] 2), #[]⟩)
  :: (nat_lit 218, ⟨(.type "type"), none, (.cls ⟨(S "Times"), [(.ref 116)], [(.ref 218), (.ref 116), (.type "object")], 217, (S "Times"), true, [], [], false, none, false⟩), #[some (.ref 197), none, some (.str (S "Times") 434), some (.str (S "Times") 442), some (.builtin "object.__new__"), some (.bool true)]⟩)
  :: (nat_lit 221, ⟨(.type "tuple"), none, (.seq #[(.ref 116)] 0), #[]⟩)
  :: (nat_lit 228, ⟨(.type "tuple"), none, (.seq #[] 0), #[]⟩)
  :: (nat_lit 230, ⟨(.type "tuple"), none, (.seq #[(.str (S "self") 480), (.str (S "part") 481)] 0), #[]⟩)
  :: (nat_lit 231, ⟨(.type "tuple"), none, (.seq #[] 0), #[]⟩)
  :: (nat_lit 233, ⟨(.type "code"), none, (.fields #[(.str (S "__init__") 477), (.str (S "Bar.__init__") 478), (.str (S "/claim/cut.py") 479), (.int 109 0), (.int 2 0), (.int 0 0), (.int 0 0), (.int 3 0), (.ref 228), (.bool true), (.int 181 0), (.ref 229), .none, (.ref 230), (.ref 231), (.ref 232), (.int 482 0), (.int 109 0), (.str (S "/claim/cut.py") 483)]), #[]⟩)
  :: (nat_lit 234, ⟨(.type "function"), none, (.func ⟨(S "__init__"), (S "Bar.__init__"), (L2.defArgs (L2.inClass (W01.top 22) 0)), .stmts (L2.defBody (L2.inClass (W01.top 22) 0)), (L2.defScope (L2.inClass (W01.top 22) 0)), 3, [], .none, .none, .none, (.str (S "wheelrow.answers") 301), none, (.ref 233), .none, 0⟩), #[]⟩)
  :: (nat_lit 235, ⟨(.type "tuple"), none, (.seq #[] 0), #[]⟩)
  :: (nat_lit 238, ⟨(.type "code"), none, (.fields #[(.str (S "shows") 485), (.str (S "Bar.shows") 486), (.str (S "/claim/cut.py") 487), (.int 112 0), (.int 4 0), (.int 0 0), (.int 0 0), (.int 3 0), (.ref 235), (.bool true), (.int 181 0), (.ref 236), .none, .none, .none, (.ref 237), (.int 488 0), (.int 112 0), (.str (S "/claim/cut.py") 489)]), #[]⟩)
  :: (nat_lit 239, ⟨(.type "function"), none, (.func ⟨(S "shows"), (S "Bar.shows"), (L2.defArgs (L2.inClass (W01.top 22) 1)), .stmts (L2.defBody (L2.inClass (W01.top 22) 1)), (L2.defScope (L2.inClass (W01.top 22) 1)), 3, [], .none, .none, .none, (.str (S "wheelrow.answers") 301), none, (.ref 238), .none, 0⟩), #[]⟩)
  :: (nat_lit 240, ⟨(.type "tuple"), none, (.seq #[] 0), #[]⟩)
  :: (nat_lit 242, ⟨(.type "tuple"), none, (.seq #[(.str (S "self") 494), (.str (S "number") 495), (.str (S "turn") 496)] 0), #[]⟩)
  :: (nat_lit 243, ⟨(.type "tuple"), none, (.seq #[] 0), #[]⟩)
  :: (nat_lit 245, ⟨(.type "code"), none, (.fields #[(.str (S "bars") 491), (.str (S "Bar.bars") 492), (.str (S "/claim/cut.py") 493), (.int 117 0), (.int 3 0), (.int 0 0), (.int 0 0), (.int 3 0), (.ref 240), (.bool true), (.int 181 0), (.ref 241), .none, (.ref 242), (.ref 243), (.ref 244), (.int 497 0), (.int 117 0), (.str (S "/claim/cut.py") 498)]), #[]⟩)
  :: (nat_lit 246, ⟨(.type "function"), none, (.func ⟨(S "bars"), (S "Bar.bars"), (L2.defArgs (L2.inClass (W01.top 22) 2)), .stmts (L2.defBody (L2.inClass (W01.top 22) 2)), (L2.defScope (L2.inClass (W01.top 22) 2)), 3, [], .none, .none, .none, (.str (S "wheelrow.answers") 301), none, (.ref 245), .none, 0⟩), #[]⟩)
  :: (nat_lit 247, ⟨(.type "tuple"), none, (.seq #[(.str (S "part") 500)] 0), #[]⟩)
  :: (nat_lit 248, ⟨(.type "dict"), none, (.dict #[⟨PyData.keyHash P (S "__module__"), (.str (S "__module__") 472), (.str (S "wheelrow.answers") 301)⟩, ⟨PyData.keyHash P (S "__firstlineno__"), (.str (S "__firstlineno__") 476), (.int 107 475)⟩, ⟨PyData.keyHash P (S "__init__"), (.str (S "__init__") 484), (.ref 234)⟩, ⟨PyData.keyHash P (S "shows"), (.str (S "shows") 490), (.ref 239)⟩, ⟨PyData.keyHash P (S "bars"), (.str (S "bars") 499), (.ref 246)⟩, ⟨PyData.keyHash P (S "__static_attributes__"), (.str (S "__static_attributes__") 501), (.ref 247)⟩, ⟨PyData.keyHash P (S "__doc__"), (.str (S "__doc__") 502), .none⟩] 2), #[]⟩)
  :: (nat_lit 249, ⟨(.type "type"), none, (.cls ⟨(S "Bar"), [(.ref 116)], [(.ref 249), (.ref 116), (.type "object")], 248, (S "Bar"), true, [], [], false, none, false⟩), #[some (.ref 221), none, some (.str (S "Bar") 465), some (.str (S "Bar") 473), some (.builtin "object.__new__"), some (.bool true)]⟩)
  :: (nat_lit 252, ⟨(.type "tuple"), none, (.seq #[(.ref 116)] 0), #[]⟩)
  :: (nat_lit 259, ⟨(.type "tuple"), none, (.seq #[] 0), #[]⟩)
  :: (nat_lit 261, ⟨(.type "tuple"), none, (.seq #[(.str (S "self") 520), (.str (S "rest") 521)] 0), #[]⟩)
  :: (nat_lit 262, ⟨(.type "tuple"), none, (.seq #[] 0), #[]⟩)
  :: (nat_lit 264, ⟨(.type "code"), none, (.fields #[(.str (S "__init__") 517), (.str (S "Back.__init__") 518), (.str (S "/claim/cut.py") 519), (.int 121 0), (.int 2 0), (.int 0 0), (.int 0 0), (.int 3 0), (.ref 259), (.bool true), (.int 181 0), (.ref 260), .none, (.ref 261), (.ref 262), (.ref 263), (.int 522 0), (.int 121 0), (.str (S "/claim/cut.py") 523)]), #[]⟩)
  :: (nat_lit 265, ⟨(.type "function"), none, (.func ⟨(S "__init__"), (S "Back.__init__"), (L2.defArgs (L2.inClass (W01.top 23) 0)), .stmts (L2.defBody (L2.inClass (W01.top 23) 0)), (L2.defScope (L2.inClass (W01.top 23) 0)), 3, [], .none, .none, .none, (.str (S "wheelrow.answers") 301), none, (.ref 264), .none, 0⟩), #[]⟩)
  :: (nat_lit 266, ⟨(.type "tuple"), none, (.seq #[] 0), #[]⟩)
  :: (nat_lit 268, ⟨(.type "tuple"), none, (.seq #[(.str (S "self") 528), (.str (S "number") 529), (.str (S "turn") 530)] 0), #[]⟩)
  :: (nat_lit 269, ⟨(.type "tuple"), none, (.seq #[] 0), #[]⟩)
  :: (nat_lit 271, ⟨(.type "code"), none, (.fields #[(.str (S "shows") 525), (.str (S "Back.shows") 526), (.str (S "/claim/cut.py") 527), (.int 124 0), (.int 3 0), (.int 0 0), (.int 0 0), (.int 3 0), (.ref 266), (.bool true), (.int 181 0), (.ref 267), .none, (.ref 268), (.ref 269), (.ref 270), (.int 531 0), (.int 124 0), (.str (S "/claim/cut.py") 532)]), #[]⟩)
  :: (nat_lit 272, ⟨(.type "function"), none, (.func ⟨(S "shows"), (S "Back.shows"), (L2.defArgs (L2.inClass (W01.top 23) 1)), .stmts (L2.defBody (L2.inClass (W01.top 23) 1)), (L2.defScope (L2.inClass (W01.top 23) 1)), 3, [], .none, .none, .none, (.str (S "wheelrow.answers") 301), none, (.ref 271), .none, 0⟩), #[]⟩)
  :: (nat_lit 273, ⟨(.type "tuple"), none, (.seq #[(.str (S "rest") 534)] 0), #[]⟩)
  :: (nat_lit 274, ⟨(.type "dict"), none, (.dict #[⟨PyData.keyHash P (S "__module__"), (.str (S "__module__") 512), (.str (S "wheelrow.answers") 301)⟩, ⟨PyData.keyHash P (S "__firstlineno__"), (.str (S "__firstlineno__") 516), (.int 119 515)⟩, ⟨PyData.keyHash P (S "__init__"), (.str (S "__init__") 524), (.ref 265)⟩, ⟨PyData.keyHash P (S "shows"), (.str (S "shows") 533), (.ref 272)⟩, ⟨PyData.keyHash P (S "__static_attributes__"), (.str (S "__static_attributes__") 535), (.ref 273)⟩, ⟨PyData.keyHash P (S "__doc__"), (.str (S "__doc__") 536), .none⟩] 2), #[]⟩)
  :: (nat_lit 275, ⟨(.type "type"), none, (.cls ⟨(S "Back"), [(.ref 116)], [(.ref 275), (.ref 116), (.type "object")], 274, (S "Back"), true, [], [], false, none, false⟩), #[some (.ref 252), none, some (.str (S "Back") 505), some (.str (S "Back") 513), some (.builtin "object.__new__"), some (.bool true)]⟩)
  :: (nat_lit 278, ⟨(.type "tuple"), none, (.seq #[(.type "ValueError")] 0), #[]⟩)
  :: (nat_lit 285, ⟨(.type "tuple"), none, (.seq #[] 0), #[]⟩)
  :: (nat_lit 286, ⟨(.type "dict"), none, (.dict #[⟨PyData.keyHash P (S "__module__"), (.str (S "__module__") 548), (.str (S "wheelrow.errors") 539)⟩, ⟨PyData.keyHash P (S "__firstlineno__"), (.str (S "__firstlineno__") 552), (.int 127 551)⟩, ⟨PyData.keyHash P (S "__static_attributes__"), (.str (S "__static_attributes__") 553), (.ref 285)⟩, ⟨PyData.keyHash P (S "__weakref__"), (.str (S "__weakref__") 555), (.ref 288)⟩, ⟨PyData.keyHash P (S "__doc__"), (.str (S "__doc__") 556), .none⟩] 3), #[]⟩)
  :: (nat_lit 287, ⟨(.type "type"), none, (.cls ⟨(S "RestError"), [(.type "ValueError")], [(.ref 287), (.type "ValueError"), (.type "Exception"), (.type "BaseException"), (.type "object")], 286, (S "RestError"), true, [], [(.ref 300)], false, none, false⟩), #[some (.ref 278), none, some (.str (S "RestError") 541), some (.str (S "RestError") 549), some (.builtin "ValueError.__new__"), some (.bool true)]⟩)
  :: (nat_lit 288, ⟨(.type "getset_descriptor"), none, (.fields #[(.str (S "__weakref__") 554), (.ref 287), (.builtin "ExceptionGroup.__weakref__"), .none]), #[]⟩)
  :: (nat_lit 291, ⟨(.type "tuple"), none, (.seq #[(.ref 287)] 0), #[]⟩)
  :: (nat_lit 298, ⟨(.type "tuple"), none, (.seq #[] 0), #[]⟩)
  :: (nat_lit 299, ⟨(.type "dict"), none, (.dict #[⟨PyData.keyHash P (S "__module__"), (.str (S "__module__") 566), (.str (S "wheelrow.errors") 539)⟩, ⟨PyData.keyHash P (S "__firstlineno__"), (.str (S "__firstlineno__") 570), (.int 129 569)⟩, ⟨PyData.keyHash P (S "__static_attributes__"), (.str (S "__static_attributes__") 571), (.ref 298)⟩, ⟨PyData.keyHash P (S "__doc__"), (.str (S "__doc__") 572), .none⟩] 2), #[]⟩)
  :: (nat_lit 300, ⟨(.type "type"), none, (.cls ⟨(S "BadRests"), [(.ref 287)], [(.ref 300), (.ref 287), (.type "ValueError"), (.type "Exception"), (.type "BaseException"), (.type "object")], 299, (S "BadRests"), true, [], [], false, none, false⟩), #[some (.ref 291), none, some (.str (S "BadRests") 559), some (.str (S "BadRests") 567), some (.builtin "ValueError.__new__"), some (.bool true)]⟩)
  :: (nat_lit 303, ⟨(.type "tuple"), none, (.seq #[] 0), #[]⟩)
  :: (nat_lit 305, ⟨(.type "tuple"), none, (.seq #[(.str (S "rests") 580), (.str (S "so_far") 581), (.str (S "place") 582), (.str (S "pair") 583), (.str (S "following") 584)] 0), #[]⟩)
  :: (nat_lit 306, ⟨(.type "tuple"), none, (.seq #[] 0), #[]⟩)
  :: (nat_lit 308, ⟨(.type "code"), none, (.fields #[(.str (S "told") 577), (.str (S "told") 578), (.str (S "/claim/cut.py") 579), (.int 132 0), (.int 1 0), (.int 0 0), (.int 0 0), (.int 3 0), (.ref 303), (.bool true), (.int 181 0), (.ref 304), .none, (.ref 305), (.ref 306), (.ref 307), (.int 585 0), (.int 132 0), (.str (S "/claim/cut.py") 586)]), #[]⟩)
  :: (nat_lit 309, ⟨(.type "function"), none, (.func ⟨(S "told"), (S "told"), (L2.defArgs (W01.top 28)), .stmts (L2.defBody (W01.top 28)), (L2.defScope (W01.top 28)), 3, [], .none, .none, .none, (.str (S "wheelrow.rests") 575), none, (.ref 308), .none, 0⟩), #[]⟩)
  :: (nat_lit 310, ⟨(.type "tuple"), none, (.seq #[] 0), #[]⟩)
  :: (nat_lit 312, ⟨(.type "tuple"), none, (.seq #[(.str (S "so_far") 591), (.str (S "rest") 592), (.str (S "turn") 593), (.str (S "made") 594), (.str (S "part") 595), (.str (S "missing") 596), (.str (S "fresh") 597), (.str (S "steps") 598)] 0), #[]⟩)
  :: (nat_lit 313, ⟨(.type "tuple"), none, (.seq #[] 0), #[]⟩)
  :: (nat_lit 315, ⟨(.type "code"), none, (.fields #[(.str (S "joined") 588), (.str (S "joined") 589), (.str (S "/claim/cut.py") 590), (.int 142 0), (.int 3 0), (.int 0 0), (.int 0 0), (.int 3 0), (.ref 310), (.bool true), (.int 181 0), (.ref 311), .none, (.ref 312), (.ref 313), (.ref 314), (.int 599 0), (.int 142 0), (.str (S "/claim/cut.py") 600)]), #[]⟩)
  :: (nat_lit 316, ⟨(.type "function"), none, (.func ⟨(S "joined"), (S "joined"), (L2.defArgs (W01.top 29)), .stmts (L2.defBody (W01.top 29)), (L2.defScope (W01.top 29)), 3, [], .none, .none, .none, (.str (S "wheelrow.rests") 575), none, (.ref 315), .none, 0⟩), #[]⟩)
  :: (nat_lit 317, ⟨(.type "tuple"), none, (.seq #[] 0), #[]⟩)
  :: (nat_lit 320, ⟨(.type "code"), none, (.fields #[(.str (S "clash_with_earlier") 602), (.str (S "clash_with_earlier") 603), (.str (S "/claim/cut.py") 604), (.int 151 0), (.int 2 0), (.int 0 0), (.int 0 0), (.int 3 0), (.ref 317), (.bool true), (.int 181 0), (.ref 318), .none, .none, .none, (.ref 319), (.int 605 0), (.int 151 0), (.str (S "/claim/cut.py") 606)]), #[]⟩)
  :: (nat_lit 321, ⟨(.type "function"), none, (.func ⟨(S "clash_with_earlier"), (S "clash_with_earlier"), (L2.defArgs (W01.top 30)), .stmts (L2.defBody (W01.top 30)), (L2.defScope (W01.top 30)), 3, [], .none, .none, .none, (.str (S "wheelrow.rests") 575), none, (.ref 320), .none, 0⟩), #[]⟩)
  :: (nat_lit 322, ⟨(.type "tuple"), none, (.seq #[] 0), #[]⟩)
  :: (nat_lit 325, ⟨(.type "code"), none, (.fields #[(.str (S "left") 608), (.str (S "left") 609), (.str (S "/claim/cut.py") 610), (.int 154 0), (.int 2 0), (.int 0 0), (.int 0 0), (.int 3 0), (.ref 322), (.bool true), (.int 181 0), (.ref 323), .none, .none, .none, (.ref 324), (.int 611 0), (.int 154 0), (.str (S "/claim/cut.py") 612)]), #[]⟩)
  :: (nat_lit 326, ⟨(.type "function"), none, (.func ⟨(S "left"), (S "left"), (L2.defArgs (W01.top 31)), .stmts (L2.defBody (W01.top 31)), (L2.defScope (W01.top 31)), 3, [], .none, .none, .none, (.str (S "wheelrow.rests") 575), none, (.ref 325), .none, 0⟩), #[]⟩)
  :: (nat_lit 327, ⟨(.type "tuple"), none, (.seq #[] 0), #[]⟩)
  :: (nat_lit 329, ⟨(.type "tuple"), none, (.seq #[(.str (S "_law_script") 619), (.str (S "_law_k") 620)] 0), #[]⟩)
  :: (nat_lit 330, ⟨(.type "tuple"), none, (.seq #[] 0), #[]⟩)
  :: (nat_lit 332, ⟨(.type "code"), none, (.fields #[(.str (S "_law_cell_at") 616), (.str (S "_law_cell_at") 617), (.str (S "/claim/cut.py") 618), (.int 161 0), (.int 2 0), (.int 0 0), (.int 0 0), (.int 3 0), (.ref 327), (.bool true), (.int 181 0), (.ref 328), .none, (.ref 329), (.ref 330), (.ref 331), (.int 621 0), (.int 161 0), (.str (S "/claim/cut.py") 622)]), #[]⟩)
  :: (nat_lit 333, ⟨(.type "function"), none, (.func ⟨(S "_law_cell_at"), (S "_law_cell_at"), (L2.defArgs (W01.top 33)), .stmts (L2.defBody (W01.top 33)), (L2.defScope (W01.top 33)), 3, [], .none, .none, .none, (.str (S "law_wheelrow_k01_whole_told") 614), none, (.ref 332), .none, 0⟩), #[]⟩)
  :: (nat_lit 334, ⟨(.type "tuple"), none, (.seq #[] 0), #[]⟩)
  :: (nat_lit 336, ⟨(.type "tuple"), none, (.seq #[(.str (S "_law_cell") 627), (.str (S "_law_k") 628), (.str (S "_law_many") 629), (.str (S "_law_primes") 630)] 0), #[]⟩)
  :: (nat_lit 337, ⟨(.type "tuple"), none, (.seq #[] 0), #[]⟩)
  :: (nat_lit 339, ⟨(.type "code"), none, (.fields #[(.str (S "_law_draw") 624), (.str (S "_law_draw") 625), (.str (S "/claim/cut.py") 626), (.int 165 0), (.int 3 0), (.int 0 0), (.int 0 0), (.int 3 0), (.ref 334), (.bool true), (.int 181 0), (.ref 335), .none, (.ref 336), (.ref 337), (.ref 338), (.int 631 0), (.int 165 0), (.str (S "/claim/cut.py") 632)]), #[]⟩)
  :: (nat_lit 340, ⟨(.type "function"), none, (.func ⟨(S "_law_draw"), (S "_law_draw"), (L2.defArgs (W01.top 34)), .stmts (L2.defBody (W01.top 34)), (L2.defScope (W01.top 34)), 3, [], .none, .none, .none, (.str (S "law_wheelrow_k01_whole_told") 614), none, (.ref 339), .none, 0⟩), #[]⟩)
  :: (nat_lit 341, ⟨(.type "tuple"), none, (.seq #[] 0), #[]⟩)
  :: (nat_lit 343, ⟨(.type "tuple"), none, (.seq #[(.str (S "_law_script") 637), (.str (S "_law_kind") 638), (.str (S "_law_found") 639), (.str (S "_law_k") 640), (.str (S "_law_turn") 641)] 0), #[]⟩)
  :: (nat_lit 344, ⟨(.type "tuple"), none, (.seq #[] 0), #[]⟩)
  :: (nat_lit 346, ⟨(.type "code"), none, (.fields #[(.str (S "_law_turns") 634), (.str (S "_law_turns") 635), (.str (S "/claim/cut.py") 636), (.int 168 0), (.int 1 0), (.int 0 0), (.int 0 0), (.int 3 0), (.ref 341), (.bool true), (.int 181 0), (.ref 342), .none, (.ref 343), (.ref 344), (.ref 345), (.int 642 0), (.int 168 0), (.str (S "/claim/cut.py") 643)]), #[]⟩)
  :: (nat_lit 347, ⟨(.type "function"), none, (.func ⟨(S "_law_turns"), (S "_law_turns"), (L2.defArgs (W01.top 35)), .stmts (L2.defBody (W01.top 35)), (L2.defScope (W01.top 35)), 3, [], .none, .none, .none, (.str (S "law_wheelrow_k01_whole_told") 614), none, (.ref 346), .none, 0⟩), #[]⟩)
  :: (nat_lit 348, ⟨(.type "tuple"), none, (.seq #[] 0), #[]⟩)
  :: (nat_lit 351, ⟨(.type "code"), none, (.fields #[(.str (S "_law_rests") 645), (.str (S "_law_rests") 646), (.str (S "/claim/cut.py") 647), (.int 177 0), (.int 1 0), (.int 0 0), (.int 0 0), (.int 3 0), (.ref 348), (.bool true), (.int 181 0), (.ref 349), .none, .none, .none, (.ref 350), (.int 648 0), (.int 177 0), (.str (S "/claim/cut.py") 649)]), #[]⟩)
  :: (nat_lit 352, ⟨(.type "function"), none, (.func ⟨(S "_law_rests"), (S "_law_rests"), (L2.defArgs (W01.top 36)), .stmts (L2.defBody (W01.top 36)), (L2.defScope (W01.top 36)), 3, [], .none, .none, .none, (.str (S "law_wheelrow_k01_whole_told") 614), none, (.ref 351), .none, 0⟩), #[]⟩)
  :: (nat_lit 353, ⟨(.type "tuple"), none, (.seq #[] 0), #[]⟩)
  :: (nat_lit 355, ⟨(.type "tuple"), none, (.seq #[(.str (S "_law_one") 654), (.str (S "_law_other") 655)] 0), #[]⟩)
  :: (nat_lit 356, ⟨(.type "tuple"), none, (.seq #[] 0), #[]⟩)
  :: (nat_lit 358, ⟨(.type "code"), none, (.fields #[(.str (S "_law_part") 651), (.str (S "_law_part") 652), (.str (S "/claim/cut.py") 653), (.int 184 0), (.int 2 0), (.int 0 0), (.int 0 0), (.int 3 0), (.ref 353), (.bool true), (.int 181 0), (.ref 354), .none, (.ref 355), (.ref 356), (.ref 357), (.int 656 0), (.int 184 0), (.str (S "/claim/cut.py") 657)]), #[]⟩)
  :: (nat_lit 359, ⟨(.type "function"), none, (.func ⟨(S "_law_part"), (S "_law_part"), (L2.defArgs (W01.top 37)), .stmts (L2.defBody (W01.top 37)), (L2.defScope (W01.top 37)), 3, [], .none, .none, .none, (.str (S "law_wheelrow_k01_whole_told") 614), none, (.ref 358), .none, 0⟩), #[]⟩)
  :: (nat_lit 360, ⟨(.type "tuple"), none, (.seq #[] 0), #[]⟩)
  :: (nat_lit 362, ⟨(.type "tuple"), none, (.seq #[(.str (S "_law_number") 662)] 0), #[]⟩)
  :: (nat_lit 363, ⟨(.type "tuple"), none, (.seq #[] 0), #[]⟩)
  :: (nat_lit 365, ⟨(.type "code"), none, (.fields #[(.str (S "_law_whole") 659), (.str (S "_law_whole") 660), (.str (S "/claim/cut.py") 661), (.int 189 0), (.int 1 0), (.int 0 0), (.int 0 0), (.int 3 0), (.ref 360), (.bool true), (.int 181 0), (.ref 361), .none, (.ref 362), (.ref 363), (.ref 364), (.int 663 0), (.int 189 0), (.str (S "/claim/cut.py") 664)]), #[]⟩)
  :: (nat_lit 366, ⟨(.type "function"), none, (.func ⟨(S "_law_whole"), (S "_law_whole"), (L2.defArgs (W01.top 38)), .stmts (L2.defBody (W01.top 38)), (L2.defScope (W01.top 38)), 3, [], .none, .none, .none, (.str (S "law_wheelrow_k01_whole_told") 614), none, (.ref 365), .none, 0⟩), #[]⟩)
  :: (nat_lit 367, ⟨(.type "tuple"), none, (.seq #[] 0), #[]⟩)
  :: (nat_lit 370, ⟨(.type "code"), none, (.fields #[(.str (S "_law_numbers") 666), (.str (S "_law_numbers") 667), (.str (S "/claim/cut.py") 668), (.int 191 0), (.int 1 0), (.int 0 0), (.int 0 0), (.int 3 0), (.ref 367), (.bool true), (.int 181 0), (.ref 368), .none, .none, .none, (.ref 369), (.int 669 0), (.int 191 0), (.str (S "/claim/cut.py") 670)]), #[]⟩)
  :: (nat_lit 371, ⟨(.type "function"), none, (.func ⟨(S "_law_numbers"), (S "_law_numbers"), (L2.defArgs (W01.top 39)), .stmts (L2.defBody (W01.top 39)), (L2.defScope (W01.top 39)), 3, [], .none, .none, .none, (.str (S "law_wheelrow_k01_whole_told") 614), none, (.ref 370), .none, 0⟩), #[]⟩)
  :: (nat_lit 372, ⟨(.type "tuple"), none, (.seq #[] 0), #[]⟩)
  :: (nat_lit 375, ⟨(.type "code"), none, (.fields #[(.str (S "_law_due") 672), (.str (S "_law_due") 673), (.str (S "/claim/cut.py") 674), (.int 193 0), (.int 2 0), (.int 0 0), (.int 0 0), (.int 3 0), (.ref 372), (.bool true), (.int 181 0), (.ref 373), .none, .none, .none, (.ref 374), (.int 675 0), (.int 193 0), (.str (S "/claim/cut.py") 676)]), #[]⟩)
  :: (nat_lit 376, ⟨(.type "function"), none, (.func ⟨(S "_law_due"), (S "_law_due"), (L2.defArgs (W01.top 40)), .stmts (L2.defBody (W01.top 40)), (L2.defScope (W01.top 40)), 3, [], .none, .none, .none, (.str (S "law_wheelrow_k01_whole_told") 614), none, (.ref 375), .none, 0⟩), #[]⟩)
  :: (nat_lit 377, ⟨(.type "tuple"), none, (.seq #[] 0), #[]⟩)
  :: (nat_lit 379, ⟨(.type "tuple"), none, (.seq #[(.str (S "_law_rests_here") 681), (.str (S "_law_found") 682), (.str (S "_law_others") 683), (.str (S "_law_fields") 684)] 0), #[]⟩)
  :: (nat_lit 380, ⟨(.type "tuple"), none, (.seq #[] 0), #[]⟩)
  :: (nat_lit 382, ⟨(.type "code"), none, (.fields #[(.str (S "_law_right") 678), (.str (S "_law_right") 679), (.str (S "/claim/cut.py") 680), (.int 205 0), (.int 2 0), (.int 0 0), (.int 0 0), (.int 3 0), (.ref 377), (.bool true), (.int 181 0), (.ref 378), .none, (.ref 379), (.ref 380), (.ref 381), (.int 685 0), (.int 205 0), (.str (S "/claim/cut.py") 686)]), #[]⟩)
  :: (nat_lit 383, ⟨(.type "function"), none, (.func ⟨(S "_law_right"), (S "_law_right"), (L2.defArgs (W01.top 41)), .stmts (L2.defBody (W01.top 41)), (L2.defScope (W01.top 41)), 3, [], .none, .none, .none, (.str (S "law_wheelrow_k01_whole_told") 614), none, (.ref 382), .none, 0⟩), #[]⟩)
  :: (nat_lit 384, ⟨(.type "tuple"), none, (.seq #[] 0), #[]⟩)
  :: (nat_lit 387, ⟨(.type "code"), none, (.fields #[(.str (S "law") 688), (.str (S "law") 689), (.str (S "/claim/cut.py") 690), (.int 213 0), (.int 1 0), (.int 0 0), (.int 0 0), (.int 3 0), (.ref 384), (.bool true), (.int 181 0), (.ref 385), .none, .none, .none, (.ref 386), (.int 691 0), (.int 213 0), (.str (S "/claim/cut.py") 692)]), #[]⟩)
  :: (nat_lit 388, ⟨(.type "function"), none, (.func ⟨(S "law"), (S "law"), (L2.defArgs (W01.top 42)), .stmts (L2.defBody (W01.top 42)), (L2.defScope (W01.top 42)), 3, [], .none, .none, .none, (.str (S "law_wheelrow_k01_whole_told") 614), none, (.ref 387), .none, 0⟩), #[]⟩) :: []
abbrev as : List Addr := (nat_lit 2) :: (nat_lit 3) :: (nat_lit 15) :: (nat_lit 17) :: (nat_lit 18) :: (nat_lit 20) :: (nat_lit 21) :: (nat_lit 22) :: (nat_lit 24) :: (nat_lit 25) :: (nat_lit 27) :: (nat_lit 28) :: (nat_lit 29) :: (nat_lit 31) :: (nat_lit 32) :: (nat_lit 34) :: (nat_lit 35) :: (nat_lit 36) :: (nat_lit 39) :: (nat_lit 40) :: (nat_lit 41) :: (nat_lit 43) :: (nat_lit 44) :: (nat_lit 46) :: (nat_lit 47) :: (nat_lit 48) :: (nat_lit 50) :: (nat_lit 51) :: (nat_lit 53) :: (nat_lit 54) :: (nat_lit 55) :: (nat_lit 58) :: (nat_lit 59) :: (nat_lit 60) :: (nat_lit 62) :: (nat_lit 63) :: (nat_lit 65) :: (nat_lit 66) :: (nat_lit 67) :: (nat_lit 69) :: (nat_lit 70) :: (nat_lit 72) :: (nat_lit 73) :: (nat_lit 74) :: (nat_lit 76) :: (nat_lit 77) :: (nat_lit 79) :: (nat_lit 80) :: (nat_lit 81) :: (nat_lit 83) :: (nat_lit 84) :: (nat_lit 86) :: (nat_lit 87) :: (nat_lit 88) :: (nat_lit 90) :: (nat_lit 91) :: (nat_lit 93) :: (nat_lit 94) :: (nat_lit 95) :: (nat_lit 97) :: (nat_lit 98) :: (nat_lit 100) :: (nat_lit 101) :: (nat_lit 102) :: (nat_lit 105) :: (nat_lit 106) :: (nat_lit 114) :: (nat_lit 115) :: (nat_lit 116) :: (nat_lit 117) :: (nat_lit 118) :: (nat_lit 121) :: (nat_lit 128) :: (nat_lit 130) :: (nat_lit 131) :: (nat_lit 133) :: (nat_lit 134) :: (nat_lit 135) :: (nat_lit 138) :: (nat_lit 139) :: (nat_lit 140) :: (nat_lit 141) :: (nat_lit 142) :: (nat_lit 145) :: (nat_lit 152) :: (nat_lit 154) :: (nat_lit 155) :: (nat_lit 157) :: (nat_lit 158) :: (nat_lit 159) :: (nat_lit 161) :: (nat_lit 162) :: (nat_lit 164) :: (nat_lit 165) :: (nat_lit 166) :: (nat_lit 167) :: (nat_lit 168) :: (nat_lit 171) :: (nat_lit 178) :: (nat_lit 180) :: (nat_lit 181) :: (nat_lit 183) :: (nat_lit 184) :: (nat_lit 185) :: (nat_lit 187) :: (nat_lit 188) :: (nat_lit 190) :: (nat_lit 191) :: (nat_lit 192) :: (nat_lit 193) :: (nat_lit 194) :: (nat_lit 197) :: (nat_lit 204) :: (nat_lit 206) :: (nat_lit 207) :: (nat_lit 209) :: (nat_lit 210) :: (nat_lit 211) :: (nat_lit 214) :: (nat_lit 215) :: (nat_lit 216) :: (nat_lit 217) :: (nat_lit 218) :: (nat_lit 221) :: (nat_lit 228) :: (nat_lit 230) :: (nat_lit 231) :: (nat_lit 233) :: (nat_lit 234) :: (nat_lit 235) :: (nat_lit 238) :: (nat_lit 239) :: (nat_lit 240) :: (nat_lit 242) :: (nat_lit 243) :: (nat_lit 245) :: (nat_lit 246) :: (nat_lit 247) :: (nat_lit 248) :: (nat_lit 249) :: (nat_lit 252) :: (nat_lit 259) :: (nat_lit 261) :: (nat_lit 262) :: (nat_lit 264) :: (nat_lit 265) :: (nat_lit 266) :: (nat_lit 268) :: (nat_lit 269) :: (nat_lit 271) :: (nat_lit 272) :: (nat_lit 273) :: (nat_lit 274) :: (nat_lit 275) :: (nat_lit 278) :: (nat_lit 285) :: (nat_lit 286) :: (nat_lit 287) :: (nat_lit 288) :: (nat_lit 291) :: (nat_lit 298) :: (nat_lit 299) :: (nat_lit 300) :: (nat_lit 303) :: (nat_lit 305) :: (nat_lit 306) :: (nat_lit 308) :: (nat_lit 309) :: (nat_lit 310) :: (nat_lit 312) :: (nat_lit 313) :: (nat_lit 315) :: (nat_lit 316) :: (nat_lit 317) :: (nat_lit 320) :: (nat_lit 321) :: (nat_lit 322) :: (nat_lit 325) :: (nat_lit 326) :: (nat_lit 327) :: (nat_lit 329) :: (nat_lit 330) :: (nat_lit 332) :: (nat_lit 333) :: (nat_lit 334) :: (nat_lit 336) :: (nat_lit 337) :: (nat_lit 339) :: (nat_lit 340) :: (nat_lit 341) :: (nat_lit 343) :: (nat_lit 344) :: (nat_lit 346) :: (nat_lit 347) :: (nat_lit 348) :: (nat_lit 351) :: (nat_lit 352) :: (nat_lit 353) :: (nat_lit 355) :: (nat_lit 356) :: (nat_lit 358) :: (nat_lit 359) :: (nat_lit 360) :: (nat_lit 362) :: (nat_lit 363) :: (nat_lit 365) :: (nat_lit 366) :: (nat_lit 367) :: (nat_lit 370) :: (nat_lit 371) :: (nat_lit 372) :: (nat_lit 375) :: (nat_lit 376) :: (nat_lit 377) :: (nat_lit 379) :: (nat_lit 380) :: (nat_lit 382) :: (nat_lit 383) :: (nat_lit 384) :: (nat_lit 387) :: (nat_lit 388) :: []
theorem as_eq (P : Params) : as = (K P).map (·.1) := by kernel_rfl
abbrev H : Hook := kHook K as as_eq
abbrev rr : RowW := PySem.Challenge.rw_wheelrow_k01_whole_told.row.toRowW
abbrev Q : Program := viewOf pq
abbrev XtOf (q : Program) (s : Shared) : Bool := xlAt q [] s && recOk (RowW.records rr) s
set_option maxRecDepth 100000 in
theorem look1 (w : World) : (fun os => staticsOk (PySem.W.Fast.tw5923862056798008813 p'.main.body) (boot_heap w.params) (hf w.params) && namesBound p' (hf w.params) && gensDone ⟨hf w.params, ⟨[]⟩, {}, (nat_lit 694), os⟩ && laidKept (boot_heap w.params) (hf w.params)) = fun _ => true := by kernel_rfl
set_option maxRecDepth 100000 in
theorem look2 (w : World) : (fun os => PySem.W.Fast.tw4187177175401517315 (viewOf p') [] (PySem.W.Fast.tw5923862056798008813 p'.main.body) (XtOf (viewOf p')) true ⟨hf w.params, ⟨[]⟩, {}, (nat_lit 694), os⟩) = fun _ => openGood (viewOf p') [] := by kernel_rfl
set_option maxRecDepth 100000 in
theorem look3 (w : World) : as.map (hf w.params).get? = (K w.params).map fun p => some p.2 := by kernel_rfl
set_option maxRecDepth 100000 in
theorem size (w : World) : ((boot_heap w.params).isNs mainGlobals && (⟨[]⟩ : Array GenState).size == 0, (boot_heap w.params).objs.size, (boot_heap w.params).nsMap mainGlobals "__annotations__") = (true, (nat_lit 11), ann) := by kernel_rfl
set_option maxRecDepth 100000 in
theorem looks (w : World) : (fun os => ((staticsOk (importedModules p'.main.body) (boot_heap w.params) (hf w.params) && namesBound p' (hf w.params) && gensDone ⟨hf w.params, ⟨[]⟩, {}, (nat_lit 694), os⟩ && laidKept (boot_heap w.params) (hf w.params)), openSeen (viewOf p') [] (importedModules p'.main.body) (XtOf (viewOf p')) true ⟨hf w.params, ⟨[]⟩, {}, (nat_lit 694), os⟩, H.obs ⟨hf w.params, ⟨[]⟩, {}, (nat_lit 694), os⟩)) = fun _ => (true, openGood (viewOf p') [], H.val w) := by
  have a := look1 w
  have b := look2 w
  rw [← PySem.W.Fast.te5923862056798008813] at a
  rw [← PySem.W.Fast.te4187177175401517315, ← PySem.W.Fast.te5923862056798008813] at b
  funext os
  exact Prod.ext (congrFun a os) (Prod.ext (congrFun b os) (look3 w))
set_option maxRecDepth 100000 in
theorem left' : LeftO p' (viewOf p') [] (XtOf (viewOf p')) H.obs H.val 6454 true := LeftO.of_pieces (boot_open (by kernel_rfl) (by kernel_rfl) (fun s => by kernel_rfl)) size run (by kernel_rfl) looks
theorem left : LeftO pq Q [] (XtOf Q) H.obs H.val 6454 true := by
  have h := left'
  rw [← pq_eq] at h
  exact h
end
end H01

set_option Elab.async false
set_option linter.all false
set_option maxRecDepth 100000

namespace W01
open PySem L2
set_option maxHeartbeats 4000000 in
theorem all_mk {l : PySem.W.OpenLaw} {w : World} {K : PySem.W.Frag} {h : Heap} {mg : Str → Option Value} {fa : Addr}
 {od_is_whole an_is_whole : Option Addr} {sl_is_whole : Array (Option Value)} {oc_is_whole kV_is_whole dc_is_whole pm_is_whole cd_is_whole ct_is_whole : Value}
 {f_is_whole : Addr}
 {od_is_round an_is_round : Option Addr} {sl_is_round : Array (Option Value)} {oc_is_round kV_is_round dc_is_round pm_is_round cd_is_round ct_is_round : Value}
 {f_is_round : Addr}
 {od_are_rounds an_are_rounds : Option Addr} {sl_are_rounds : Array (Option Value)} {oc_are_rounds kV_are_rounds dc_are_rounds pm_are_rounds cd_are_rounds ct_are_rounds : Value}
 {f_are_rounds : Addr}
 {od_is_rest an_is_rest : Option Addr} {sl_is_rest : Array (Option Value)} {oc_is_rest kV_is_rest dc_is_rest pm_is_rest cd_is_rest ct_is_rest : Value}
 {f_is_rest : Addr}
 {od_is_rest_pair an_is_rest_pair : Option Addr} {sl_is_rest_pair : Array (Option Value)} {oc_is_rest_pair kV_is_rest_pair dc_is_rest_pair pm_is_rest_pair cd_is_rest_pair ct_is_rest_pair : Value}
 {f_is_rest_pair : Addr}
 {od_are_rests an_are_rests : Option Addr} {sl_are_rests : Array (Option Value)} {oc_are_rests kV_are_rests dc_are_rests pm_are_rests cd_are_rests ct_are_rests : Value}
 {f_are_rests : Addr}
 {od_goes_into an_goes_into : Option Addr} {sl_goes_into : Array (Option Value)} {oc_goes_into kV_goes_into dc_goes_into pm_goes_into cd_goes_into ct_goes_into : Value}
 {f_goes_into : Addr}
 {od_leaves an_leaves : Option Addr} {sl_leaves : Array (Option Value)} {oc_leaves kV_leaves dc_leaves pm_leaves cd_leaves ct_leaves : Value}
 {f_leaves : Addr}
 {od_common_part_of_two an_common_part_of_two : Option Addr} {sl_common_part_of_two : Array (Option Value)} {oc_common_part_of_two kV_common_part_of_two dc_common_part_of_two pm_common_part_of_two cd_common_part_of_two ct_common_part_of_two : Value}
 {f_common_part_of_two : Addr}
 {od_part_with_times an_part_with_times : Option Addr} {sl_part_with_times : Array (Option Value)} {oc_part_with_times kV_part_with_times dc_part_with_times pm_part_with_times cd_part_with_times ct_part_with_times : Value}
 {f_part_with_times : Addr}
 {od_common_part an_common_part : Option Addr} {sl_common_part : Array (Option Value)} {oc_common_part kV_common_part dc_common_part pm_common_part cd_common_part ct_common_part : Value}
 {f_common_part : Addr}
 {od_common_turn an_common_turn : Option Addr} {sl_common_turn : Array (Option Value)} {oc_common_turn kV_common_turn dc_common_turn pm_common_turn cd_common_turn ct_common_turn : Value}
 {f_common_turn : Addr}
 {od_Number___init__ an_Number___init__ : Option Addr} {sl_Number___init__ : Array (Option Value)} {oc_Number___init__ kV_Number___init__ dc_Number___init__ pm_Number___init__ cd_Number___init__ ct_Number___init__ : Value}
 {f_Number___init__ : Addr}
 {od_Number_shows an_Number_shows : Option Addr} {sl_Number_shows : Array (Option Value)} {oc_Number_shows kV_Number_shows dc_Number_shows pm_Number_shows cd_Number_shows ct_Number_shows : Value}
 {f_Number_shows : Addr}
 {od_Clash___init__ an_Clash___init__ : Option Addr} {sl_Clash___init__ : Array (Option Value)} {oc_Clash___init__ kV_Clash___init__ dc_Clash___init__ pm_Clash___init__ cd_Clash___init__ ct_Clash___init__ : Value}
 {f_Clash___init__ : Addr}
 {od_Clash_shows an_Clash_shows : Option Addr} {sl_Clash_shows : Array (Option Value)} {oc_Clash_shows kV_Clash_shows dc_Clash_shows pm_Clash_shows cd_Clash_shows ct_Clash_shows : Value}
 {f_Clash_shows : Addr}
 {od_told an_told : Option Addr} {sl_told : Array (Option Value)} {oc_told kV_told dc_told pm_told cd_told ct_told : Value}
 {f_told : Addr}
 {od_joined an_joined : Option Addr} {sl_joined : Array (Option Value)} {oc_joined kV_joined dc_joined pm_joined cd_joined ct_joined : Value}
 {f_joined : Addr}
 {od_clash_with_earlier an_clash_with_earlier : Option Addr} {sl_clash_with_earlier : Array (Option Value)} {oc_clash_with_earlier kV_clash_with_earlier dc_clash_with_earlier pm_clash_with_earlier cd_clash_with_earlier ct_clash_with_earlier : Value}
 {f_clash_with_earlier : Addr}
 {od_left an_left : Option Addr} {sl_left : Array (Option Value)} {oc_left kV_left dc_left pm_left cd_left ct_left : Value}
 {f_left : Addr}
 {od__law_cell_at an__law_cell_at : Option Addr} {sl__law_cell_at : Array (Option Value)} {oc__law_cell_at kV__law_cell_at dc__law_cell_at pm__law_cell_at cd__law_cell_at ct__law_cell_at : Value}
 {f__law_cell_at : Addr}
 {od__law_draw an__law_draw : Option Addr} {sl__law_draw : Array (Option Value)} {oc__law_draw kV__law_draw dc__law_draw pm__law_draw cd__law_draw ct__law_draw : Value}
 {f__law_draw : Addr}
 {od__law_turns an__law_turns : Option Addr} {sl__law_turns : Array (Option Value)} {oc__law_turns kV__law_turns dc__law_turns pm__law_turns cd__law_turns ct__law_turns : Value}
 {f__law_turns : Addr}
 {od__law_rests an__law_rests : Option Addr} {sl__law_rests : Array (Option Value)} {oc__law_rests kV__law_rests dc__law_rests pm__law_rests cd__law_rests ct__law_rests : Value}
 {f__law_rests : Addr}
 {od__law_part an__law_part : Option Addr} {sl__law_part : Array (Option Value)} {oc__law_part kV__law_part dc__law_part pm__law_part cd__law_part ct__law_part : Value}
 {f__law_part : Addr}
 {od__law_whole an__law_whole : Option Addr} {sl__law_whole : Array (Option Value)} {oc__law_whole kV__law_whole dc__law_whole pm__law_whole cd__law_whole ct__law_whole : Value}
 {f__law_whole : Addr}
 {od__law_numbers an__law_numbers : Option Addr} {sl__law_numbers : Array (Option Value)} {oc__law_numbers kV__law_numbers dc__law_numbers pm__law_numbers cd__law_numbers ct__law_numbers : Value}
 {f__law_numbers : Addr}
 {od__law_due an__law_due : Option Addr} {sl__law_due : Array (Option Value)} {oc__law_due kV__law_due dc__law_due pm__law_due cd__law_due ct__law_due : Value}
 {f__law_due : Addr}
 {od__law_right an__law_right : Option Addr} {sl__law_right : Array (Option Value)} {oc__law_right kV__law_right dc__law_right pm__law_right cd__law_right ct__law_right : Value}
 {f__law_right : Addr}
 {od_law an_law : Option Addr} {sl_law : Array (Option Value)} {oc_law kV_law dc_law pm_law cd_law ct_law : Value}
 {f_law : Addr}
 {C_Answer : Addr}
 {C_Number : Addr}
 {C_Clash : Addr}
 {C_Common : Addr}
 {C_Times : Addr}
 {C_Bar : Addr}
 {C_Back : Addr}
 {t_GREATEST_ROUND : Tok}
 (KX : K.In h) (G : h.Ns mainGlobals mg) (hfa : mg "law" = some (.ref fa))
 (g_Answer : PySem.W.nsIn K mainGlobals "Answer" = some (some (.ref C_Answer)))
 (g_Number : PySem.W.nsIn K mainGlobals "Number" = some (some (.ref C_Number)))
 (g_Clash : PySem.W.nsIn K mainGlobals "Clash" = some (some (.ref C_Clash)))
 (g_Common : PySem.W.nsIn K mainGlobals "Common" = some (some (.ref C_Common)))
 (g_Times : PySem.W.nsIn K mainGlobals "Times" = some (some (.ref C_Times)))
 (g_Bar : PySem.W.nsIn K mainGlobals "Bar" = some (some (.ref C_Bar)))
 (g_Back : PySem.W.nsIn K mainGlobals "Back" = some (some (.ref C_Back)))
 (a_is_whole : PySem.W.nsIn K mainGlobals "is_whole" = some (some (.ref f_is_whole)))
 (l_is_whole : K.lookup f_is_whole = some ⟨oc_is_whole, od_is_whole, .func (PySem.W.fnOf "is_whole" "is_whole" (defArgs s_is_whole) (defBody s_is_whole) (defScope s_is_whole) .none kV_is_whole dc_is_whole pm_is_whole an_is_whole cd_is_whole ct_is_whole), sl_is_whole⟩)
 (c_is_whole : PySem.W.codeIn K cd_is_whole "is_whole" = true)
 (k_is_whole : PySem.W.keepIn K (.ref f_is_whole) = true)
 (a_is_round : PySem.W.nsIn K mainGlobals "is_round" = some (some (.ref f_is_round)))
 (l_is_round : K.lookup f_is_round = some ⟨oc_is_round, od_is_round, .func (PySem.W.fnOf "is_round" "is_round" (defArgs s_is_round) (defBody s_is_round) (defScope s_is_round) .none kV_is_round dc_is_round pm_is_round an_is_round cd_is_round ct_is_round), sl_is_round⟩)
 (c_is_round : PySem.W.codeIn K cd_is_round "is_round" = true)
 (k_is_round : PySem.W.keepIn K (.ref f_is_round) = true)
 (a_are_rounds : PySem.W.nsIn K mainGlobals "are_rounds" = some (some (.ref f_are_rounds)))
 (l_are_rounds : K.lookup f_are_rounds = some ⟨oc_are_rounds, od_are_rounds, .func (PySem.W.fnOf "are_rounds" "are_rounds" (defArgs s_are_rounds) (defBody s_are_rounds) (defScope s_are_rounds) .none kV_are_rounds dc_are_rounds pm_are_rounds an_are_rounds cd_are_rounds ct_are_rounds), sl_are_rounds⟩)
 (c_are_rounds : PySem.W.codeIn K cd_are_rounds "are_rounds" = true)
 (k_are_rounds : PySem.W.keepIn K (.ref f_are_rounds) = true)
 (a_is_rest : PySem.W.nsIn K mainGlobals "is_rest" = some (some (.ref f_is_rest)))
 (l_is_rest : K.lookup f_is_rest = some ⟨oc_is_rest, od_is_rest, .func (PySem.W.fnOf "is_rest" "is_rest" (defArgs s_is_rest) (defBody s_is_rest) (defScope s_is_rest) .none kV_is_rest dc_is_rest pm_is_rest an_is_rest cd_is_rest ct_is_rest), sl_is_rest⟩)
 (c_is_rest : PySem.W.codeIn K cd_is_rest "is_rest" = true)
 (k_is_rest : PySem.W.keepIn K (.ref f_is_rest) = true)
 (a_is_rest_pair : PySem.W.nsIn K mainGlobals "is_rest_pair" = some (some (.ref f_is_rest_pair)))
 (l_is_rest_pair : K.lookup f_is_rest_pair = some ⟨oc_is_rest_pair, od_is_rest_pair, .func (PySem.W.fnOf "is_rest_pair" "is_rest_pair" (defArgs s_is_rest_pair) (defBody s_is_rest_pair) (defScope s_is_rest_pair) .none kV_is_rest_pair dc_is_rest_pair pm_is_rest_pair an_is_rest_pair cd_is_rest_pair ct_is_rest_pair), sl_is_rest_pair⟩)
 (c_is_rest_pair : PySem.W.codeIn K cd_is_rest_pair "is_rest_pair" = true)
 (k_is_rest_pair : PySem.W.keepIn K (.ref f_is_rest_pair) = true)
 (a_are_rests : PySem.W.nsIn K mainGlobals "are_rests" = some (some (.ref f_are_rests)))
 (l_are_rests : K.lookup f_are_rests = some ⟨oc_are_rests, od_are_rests, .func (PySem.W.fnOf "are_rests" "are_rests" (defArgs s_are_rests) (defBody s_are_rests) (defScope s_are_rests) .none kV_are_rests dc_are_rests pm_are_rests an_are_rests cd_are_rests ct_are_rests), sl_are_rests⟩)
 (c_are_rests : PySem.W.codeIn K cd_are_rests "are_rests" = true)
 (k_are_rests : PySem.W.keepIn K (.ref f_are_rests) = true)
 (a_goes_into : PySem.W.nsIn K mainGlobals "goes_into" = some (some (.ref f_goes_into)))
 (l_goes_into : K.lookup f_goes_into = some ⟨oc_goes_into, od_goes_into, .func (PySem.W.fnOf "goes_into" "goes_into" (defArgs s_goes_into) (defBody s_goes_into) (defScope s_goes_into) .none kV_goes_into dc_goes_into pm_goes_into an_goes_into cd_goes_into ct_goes_into), sl_goes_into⟩)
 (c_goes_into : PySem.W.codeIn K cd_goes_into "goes_into" = true)
 (k_goes_into : PySem.W.keepIn K (.ref f_goes_into) = true)
 (a_leaves : PySem.W.nsIn K mainGlobals "leaves" = some (some (.ref f_leaves)))
 (l_leaves : K.lookup f_leaves = some ⟨oc_leaves, od_leaves, .func (PySem.W.fnOf "leaves" "leaves" (defArgs s_leaves) (defBody s_leaves) (defScope s_leaves) .none kV_leaves dc_leaves pm_leaves an_leaves cd_leaves ct_leaves), sl_leaves⟩)
 (c_leaves : PySem.W.codeIn K cd_leaves "leaves" = true)
 (k_leaves : PySem.W.keepIn K (.ref f_leaves) = true)
 (a_common_part_of_two : PySem.W.nsIn K mainGlobals "common_part_of_two" = some (some (.ref f_common_part_of_two)))
 (l_common_part_of_two : K.lookup f_common_part_of_two = some ⟨oc_common_part_of_two, od_common_part_of_two, .func (PySem.W.fnOf "common_part_of_two" "common_part_of_two" (defArgs s_common_part_of_two) (defBody s_common_part_of_two) (defScope s_common_part_of_two) .none kV_common_part_of_two dc_common_part_of_two pm_common_part_of_two an_common_part_of_two cd_common_part_of_two ct_common_part_of_two), sl_common_part_of_two⟩)
 (c_common_part_of_two : PySem.W.codeIn K cd_common_part_of_two "common_part_of_two" = true)
 (k_common_part_of_two : PySem.W.keepIn K (.ref f_common_part_of_two) = true)
 (a_part_with_times : PySem.W.nsIn K mainGlobals "part_with_times" = some (some (.ref f_part_with_times)))
 (l_part_with_times : K.lookup f_part_with_times = some ⟨oc_part_with_times, od_part_with_times, .func (PySem.W.fnOf "part_with_times" "part_with_times" (defArgs s_part_with_times) (defBody s_part_with_times) (defScope s_part_with_times) .none kV_part_with_times dc_part_with_times pm_part_with_times an_part_with_times cd_part_with_times ct_part_with_times), sl_part_with_times⟩)
 (c_part_with_times : PySem.W.codeIn K cd_part_with_times "part_with_times" = true)
 (k_part_with_times : PySem.W.keepIn K (.ref f_part_with_times) = true)
 (a_common_part : PySem.W.nsIn K mainGlobals "common_part" = some (some (.ref f_common_part)))
 (l_common_part : K.lookup f_common_part = some ⟨oc_common_part, od_common_part, .func (PySem.W.fnOf "common_part" "common_part" (defArgs s_common_part) (defBody s_common_part) (defScope s_common_part) .none kV_common_part dc_common_part pm_common_part an_common_part cd_common_part ct_common_part), sl_common_part⟩)
 (c_common_part : PySem.W.codeIn K cd_common_part "common_part" = true)
 (k_common_part : PySem.W.keepIn K (.ref f_common_part) = true)
 (a_common_turn : PySem.W.nsIn K mainGlobals "common_turn" = some (some (.ref f_common_turn)))
 (l_common_turn : K.lookup f_common_turn = some ⟨oc_common_turn, od_common_turn, .func (PySem.W.fnOf "common_turn" "common_turn" (defArgs s_common_turn) (defBody s_common_turn) (defScope s_common_turn) .none kV_common_turn dc_common_turn pm_common_turn an_common_turn cd_common_turn ct_common_turn), sl_common_turn⟩)
 (c_common_turn : PySem.W.codeIn K cd_common_turn "common_turn" = true)
 (k_common_turn : PySem.W.keepIn K (.ref f_common_turn) = true)
 (a_Number___init__ : PySem.W.findIn K (.ref C_Number) "__init__" = some (some (.ref f_Number___init__)))
 (i_Number___init__ : PySem.W.isFn K (.ref f_Number___init__) = true)
 (l_Number___init__ : K.lookup f_Number___init__ = some ⟨oc_Number___init__, od_Number___init__, .func (PySem.W.fnOf "__init__" "Number.__init__" (defArgs s_Number___init__) (defBody s_Number___init__) (defScope s_Number___init__) .none kV_Number___init__ dc_Number___init__ pm_Number___init__ an_Number___init__ cd_Number___init__ ct_Number___init__), sl_Number___init__⟩)
 (c_Number___init__ : PySem.W.codeIn K cd_Number___init__ "Number.__init__" = true)
 (k_Number___init__ : PySem.W.keepIn K (.ref f_Number___init__) = true)
 (a_Number_shows : PySem.W.findIn K (.ref C_Number) "shows" = some (some (.ref f_Number_shows)))
 (i_Number_shows : PySem.W.isFn K (.ref f_Number_shows) = true)
 (l_Number_shows : K.lookup f_Number_shows = some ⟨oc_Number_shows, od_Number_shows, .func (PySem.W.fnOf "shows" "Number.shows" (defArgs s_Number_shows) (defBody s_Number_shows) (defScope s_Number_shows) .none kV_Number_shows dc_Number_shows pm_Number_shows an_Number_shows cd_Number_shows ct_Number_shows), sl_Number_shows⟩)
 (c_Number_shows : PySem.W.codeIn K cd_Number_shows "Number.shows" = true)
 (k_Number_shows : PySem.W.keepIn K (.ref f_Number_shows) = true)
 (a_Clash___init__ : PySem.W.findIn K (.ref C_Clash) "__init__" = some (some (.ref f_Clash___init__)))
 (i_Clash___init__ : PySem.W.isFn K (.ref f_Clash___init__) = true)
 (l_Clash___init__ : K.lookup f_Clash___init__ = some ⟨oc_Clash___init__, od_Clash___init__, .func (PySem.W.fnOf "__init__" "Clash.__init__" (defArgs s_Clash___init__) (defBody s_Clash___init__) (defScope s_Clash___init__) .none kV_Clash___init__ dc_Clash___init__ pm_Clash___init__ an_Clash___init__ cd_Clash___init__ ct_Clash___init__), sl_Clash___init__⟩)
 (c_Clash___init__ : PySem.W.codeIn K cd_Clash___init__ "Clash.__init__" = true)
 (k_Clash___init__ : PySem.W.keepIn K (.ref f_Clash___init__) = true)
 (a_Clash_shows : PySem.W.findIn K (.ref C_Clash) "shows" = some (some (.ref f_Clash_shows)))
 (i_Clash_shows : PySem.W.isFn K (.ref f_Clash_shows) = true)
 (l_Clash_shows : K.lookup f_Clash_shows = some ⟨oc_Clash_shows, od_Clash_shows, .func (PySem.W.fnOf "shows" "Clash.shows" (defArgs s_Clash_shows) (defBody s_Clash_shows) (defScope s_Clash_shows) .none kV_Clash_shows dc_Clash_shows pm_Clash_shows an_Clash_shows cd_Clash_shows ct_Clash_shows), sl_Clash_shows⟩)
 (c_Clash_shows : PySem.W.codeIn K cd_Clash_shows "Clash.shows" = true)
 (k_Clash_shows : PySem.W.keepIn K (.ref f_Clash_shows) = true)
 (a_told : PySem.W.nsIn K mainGlobals "told" = some (some (.ref f_told)))
 (l_told : K.lookup f_told = some ⟨oc_told, od_told, .func (PySem.W.fnOf "told" "told" (defArgs s_told) (defBody s_told) (defScope s_told) .none kV_told dc_told pm_told an_told cd_told ct_told), sl_told⟩)
 (c_told : PySem.W.codeIn K cd_told "told" = true)
 (k_told : PySem.W.keepIn K (.ref f_told) = true)
 (a_joined : PySem.W.nsIn K mainGlobals "joined" = some (some (.ref f_joined)))
 (l_joined : K.lookup f_joined = some ⟨oc_joined, od_joined, .func (PySem.W.fnOf "joined" "joined" (defArgs s_joined) (defBody s_joined) (defScope s_joined) .none kV_joined dc_joined pm_joined an_joined cd_joined ct_joined), sl_joined⟩)
 (c_joined : PySem.W.codeIn K cd_joined "joined" = true)
 (k_joined : PySem.W.keepIn K (.ref f_joined) = true)
 (a_clash_with_earlier : PySem.W.nsIn K mainGlobals "clash_with_earlier" = some (some (.ref f_clash_with_earlier)))
 (l_clash_with_earlier : K.lookup f_clash_with_earlier = some ⟨oc_clash_with_earlier, od_clash_with_earlier, .func (PySem.W.fnOf "clash_with_earlier" "clash_with_earlier" (defArgs s_clash_with_earlier) (defBody s_clash_with_earlier) (defScope s_clash_with_earlier) .none kV_clash_with_earlier dc_clash_with_earlier pm_clash_with_earlier an_clash_with_earlier cd_clash_with_earlier ct_clash_with_earlier), sl_clash_with_earlier⟩)
 (c_clash_with_earlier : PySem.W.codeIn K cd_clash_with_earlier "clash_with_earlier" = true)
 (k_clash_with_earlier : PySem.W.keepIn K (.ref f_clash_with_earlier) = true)
 (a_left : PySem.W.nsIn K mainGlobals "left" = some (some (.ref f_left)))
 (l_left : K.lookup f_left = some ⟨oc_left, od_left, .func (PySem.W.fnOf "left" "left" (defArgs s_left) (defBody s_left) (defScope s_left) .none kV_left dc_left pm_left an_left cd_left ct_left), sl_left⟩)
 (c_left : PySem.W.codeIn K cd_left "left" = true)
 (k_left : PySem.W.keepIn K (.ref f_left) = true)
 (a__law_cell_at : PySem.W.nsIn K mainGlobals "_law_cell_at" = some (some (.ref f__law_cell_at)))
 (l__law_cell_at : K.lookup f__law_cell_at = some ⟨oc__law_cell_at, od__law_cell_at, .func (PySem.W.fnOf "_law_cell_at" "_law_cell_at" (defArgs s__law_cell_at) (defBody s__law_cell_at) (defScope s__law_cell_at) .none kV__law_cell_at dc__law_cell_at pm__law_cell_at an__law_cell_at cd__law_cell_at ct__law_cell_at), sl__law_cell_at⟩)
 (c__law_cell_at : PySem.W.codeIn K cd__law_cell_at "_law_cell_at" = true)
 (k__law_cell_at : PySem.W.keepIn K (.ref f__law_cell_at) = true)
 (a__law_draw : PySem.W.nsIn K mainGlobals "_law_draw" = some (some (.ref f__law_draw)))
 (l__law_draw : K.lookup f__law_draw = some ⟨oc__law_draw, od__law_draw, .func (PySem.W.fnOf "_law_draw" "_law_draw" (defArgs s__law_draw) (defBody s__law_draw) (defScope s__law_draw) .none kV__law_draw dc__law_draw pm__law_draw an__law_draw cd__law_draw ct__law_draw), sl__law_draw⟩)
 (c__law_draw : PySem.W.codeIn K cd__law_draw "_law_draw" = true)
 (k__law_draw : PySem.W.keepIn K (.ref f__law_draw) = true)
 (a__law_turns : PySem.W.nsIn K mainGlobals "_law_turns" = some (some (.ref f__law_turns)))
 (l__law_turns : K.lookup f__law_turns = some ⟨oc__law_turns, od__law_turns, .func (PySem.W.fnOf "_law_turns" "_law_turns" (defArgs s__law_turns) (defBody s__law_turns) (defScope s__law_turns) .none kV__law_turns dc__law_turns pm__law_turns an__law_turns cd__law_turns ct__law_turns), sl__law_turns⟩)
 (c__law_turns : PySem.W.codeIn K cd__law_turns "_law_turns" = true)
 (k__law_turns : PySem.W.keepIn K (.ref f__law_turns) = true)
 (a__law_rests : PySem.W.nsIn K mainGlobals "_law_rests" = some (some (.ref f__law_rests)))
 (l__law_rests : K.lookup f__law_rests = some ⟨oc__law_rests, od__law_rests, .func (PySem.W.fnOf "_law_rests" "_law_rests" (defArgs s__law_rests) (defBody s__law_rests) (defScope s__law_rests) .none kV__law_rests dc__law_rests pm__law_rests an__law_rests cd__law_rests ct__law_rests), sl__law_rests⟩)
 (c__law_rests : PySem.W.codeIn K cd__law_rests "_law_rests" = true)
 (k__law_rests : PySem.W.keepIn K (.ref f__law_rests) = true)
 (a__law_part : PySem.W.nsIn K mainGlobals "_law_part" = some (some (.ref f__law_part)))
 (l__law_part : K.lookup f__law_part = some ⟨oc__law_part, od__law_part, .func (PySem.W.fnOf "_law_part" "_law_part" (defArgs s__law_part) (defBody s__law_part) (defScope s__law_part) .none kV__law_part dc__law_part pm__law_part an__law_part cd__law_part ct__law_part), sl__law_part⟩)
 (c__law_part : PySem.W.codeIn K cd__law_part "_law_part" = true)
 (k__law_part : PySem.W.keepIn K (.ref f__law_part) = true)
 (a__law_whole : PySem.W.nsIn K mainGlobals "_law_whole" = some (some (.ref f__law_whole)))
 (l__law_whole : K.lookup f__law_whole = some ⟨oc__law_whole, od__law_whole, .func (PySem.W.fnOf "_law_whole" "_law_whole" (defArgs s__law_whole) (defBody s__law_whole) (defScope s__law_whole) .none kV__law_whole dc__law_whole pm__law_whole an__law_whole cd__law_whole ct__law_whole), sl__law_whole⟩)
 (c__law_whole : PySem.W.codeIn K cd__law_whole "_law_whole" = true)
 (k__law_whole : PySem.W.keepIn K (.ref f__law_whole) = true)
 (a__law_numbers : PySem.W.nsIn K mainGlobals "_law_numbers" = some (some (.ref f__law_numbers)))
 (l__law_numbers : K.lookup f__law_numbers = some ⟨oc__law_numbers, od__law_numbers, .func (PySem.W.fnOf "_law_numbers" "_law_numbers" (defArgs s__law_numbers) (defBody s__law_numbers) (defScope s__law_numbers) .none kV__law_numbers dc__law_numbers pm__law_numbers an__law_numbers cd__law_numbers ct__law_numbers), sl__law_numbers⟩)
 (c__law_numbers : PySem.W.codeIn K cd__law_numbers "_law_numbers" = true)
 (k__law_numbers : PySem.W.keepIn K (.ref f__law_numbers) = true)
 (a__law_due : PySem.W.nsIn K mainGlobals "_law_due" = some (some (.ref f__law_due)))
 (l__law_due : K.lookup f__law_due = some ⟨oc__law_due, od__law_due, .func (PySem.W.fnOf "_law_due" "_law_due" (defArgs s__law_due) (defBody s__law_due) (defScope s__law_due) .none kV__law_due dc__law_due pm__law_due an__law_due cd__law_due ct__law_due), sl__law_due⟩)
 (c__law_due : PySem.W.codeIn K cd__law_due "_law_due" = true)
 (k__law_due : PySem.W.keepIn K (.ref f__law_due) = true)
 (a__law_right : PySem.W.nsIn K mainGlobals "_law_right" = some (some (.ref f__law_right)))
 (l__law_right : K.lookup f__law_right = some ⟨oc__law_right, od__law_right, .func (PySem.W.fnOf "_law_right" "_law_right" (defArgs s__law_right) (defBody s__law_right) (defScope s__law_right) .none kV__law_right dc__law_right pm__law_right an__law_right cd__law_right ct__law_right), sl__law_right⟩)
 (c__law_right : PySem.W.codeIn K cd__law_right "_law_right" = true)
 (k__law_right : PySem.W.keepIn K (.ref f__law_right) = true)
 (a_law : PySem.W.nsIn K mainGlobals "law" = some (some (.ref f_law)))
 (l_law : K.lookup f_law = some ⟨oc_law, od_law, .func (PySem.W.fnOf "law" "law" (defArgs s_law) (defBody s_law) (defScope s_law) .none kV_law dc_law pm_law an_law cd_law ct_law), sl_law⟩)
 (c_law : PySem.W.codeIn K cd_law "law" = true)
 (k_law : PySem.W.keepIn K (.ref f_law) = true)
 (pg_Number : PySem.W.plainGet K C_Number Str.empty = true)
 (hd_Number : PySem.W.hasDictIn K C_Number = true)
 (po_Number : PySem.W.plainOver K C_Number = true)
 (sa_Number : PySem.W.findIn K (.ref C_Number) "__setattr__" = some (some (.builtin "object.__setattr__")))
 (mk_Number : PySem.W.makesIn K C_Number = true)
 (kc_Number : PySem.W.keepIn K (.ref C_Number) = true)
 (na_Number_number : PySem.W.findIn K (.ref C_Number) "number" = some none)
 (na_Number_turn : PySem.W.findIn K (.ref C_Number) "turn" = some none)
 (ka_Number : PySem.W.findIn K (.ref C_Number) "__class__" = some (some (.builtin "object.__class__")))
 (kn_Number : PySem.W.specialIn K (.builtin "object.__class__") "__get__" = some (some (.builtin "getset_descriptor.__get__")))
 (kt_Number : PySem.W.takesIn K (.builtin "object.__class__") = some true)
 (km_Number : PySem.W.mroIn K C_Number (.type "object") = some true)
 (is_Number_Answer : PySem.W.kitOne K (.ref C_Number) (.ref C_Answer) = some true)
 (is_Number_Number : PySem.W.kitOne K (.ref C_Number) (.ref C_Number) = some true)
 (is_Number_Clash : PySem.W.kitOne K (.ref C_Number) (.ref C_Clash) = some false)
 (is_Number_Common : PySem.W.kitOne K (.ref C_Number) (.ref C_Common) = some false)
 (is_Number_Times : PySem.W.kitOne K (.ref C_Number) (.ref C_Times) = some false)
 (is_Number_Bar : PySem.W.kitOne K (.ref C_Number) (.ref C_Bar) = some false)
 (is_Number_Back : PySem.W.kitOne K (.ref C_Number) (.ref C_Back) = some false)
 (pg_Clash : PySem.W.plainGet K C_Clash Str.empty = true)
 (hd_Clash : PySem.W.hasDictIn K C_Clash = true)
 (po_Clash : PySem.W.plainOver K C_Clash = true)
 (sa_Clash : PySem.W.findIn K (.ref C_Clash) "__setattr__" = some (some (.builtin "object.__setattr__")))
 (mk_Clash : PySem.W.makesIn K C_Clash = true)
 (kc_Clash : PySem.W.keepIn K (.ref C_Clash) = true)
 (na_Clash_one : PySem.W.findIn K (.ref C_Clash) "one" = some none)
 (na_Clash_other : PySem.W.findIn K (.ref C_Clash) "other" = some none)
 (ka_Clash : PySem.W.findIn K (.ref C_Clash) "__class__" = some (some (.builtin "object.__class__")))
 (kn_Clash : PySem.W.specialIn K (.builtin "object.__class__") "__get__" = some (some (.builtin "getset_descriptor.__get__")))
 (kt_Clash : PySem.W.takesIn K (.builtin "object.__class__") = some true)
 (km_Clash : PySem.W.mroIn K C_Clash (.type "object") = some true)
 (is_Clash_Answer : PySem.W.kitOne K (.ref C_Clash) (.ref C_Answer) = some true)
 (is_Clash_Number : PySem.W.kitOne K (.ref C_Clash) (.ref C_Number) = some false)
 (is_Clash_Clash : PySem.W.kitOne K (.ref C_Clash) (.ref C_Clash) = some true)
 (is_Clash_Common : PySem.W.kitOne K (.ref C_Clash) (.ref C_Common) = some false)
 (is_Clash_Times : PySem.W.kitOne K (.ref C_Clash) (.ref C_Times) = some false)
 (is_Clash_Bar : PySem.W.kitOne K (.ref C_Clash) (.ref C_Bar) = some false)
 (is_Clash_Back : PySem.W.kitOne K (.ref C_Clash) (.ref C_Back) = some false)
 (gc_GREATEST_ROUND : PySem.W.nsIn K mainGlobals "GREATEST_ROUND" = some (some (.int 1000000 t_GREATEST_ROUND)))
 (z_abs : PySem.W.nsIn K mainGlobals "abs" = some none)
 (z_all : PySem.W.nsIn K mainGlobals "all" = some none)
 (z_any : PySem.W.nsIn K mainGlobals "any" = some none)
 (z_bool : PySem.W.nsIn K mainGlobals "bool" = some none)
 (z_enumerate : PySem.W.nsIn K mainGlobals "enumerate" = some none)
 (z_int : PySem.W.nsIn K mainGlobals "int" = some none)
 (z_isinstance : PySem.W.nsIn K mainGlobals "isinstance" = some none)
 (z_len : PySem.W.nsIn K mainGlobals "len" = some none)
 (z_list : PySem.W.nsIn K mainGlobals "list" = some none)
 (z_range : PySem.W.nsIn K mainGlobals "range" = some none)
 (z_sum : PySem.W.nsIn K mainGlobals "sum" = some none)
 (z_tuple : PySem.W.nsIn K mainGlobals "tuple" = some none)
 (is_int_int : PySem.W.kitOne K (.type "int") (.type "int") = some true)
 (is_int_bool : PySem.W.kitOne K (.type "int") (.type "bool") = some false)
 (is_list_list : PySem.W.kitOne K (.type "list") (.type "list") = some true)
 (is_tuple_tuple : PySem.W.kitOne K (.type "tuple") (.type "tuple") = some true)
 : ∃ fd : FuncData, (∀ (s : Shared) (v : Value), BindsTo s fd ⟨[v], []⟩ [("_law_script", v)]) ∧ ∀ base : Heap, K.In base → base.Ns mainGlobals mg → FnOk l.prog w K mg base CX0 9 fa fd ["_law_script"] (sp_law K) := by
  have e := hfa.symm.trans (PySem.W.mg_of KX G a_law)
  cases e
  have T : Txt K mg ⟨f_is_whole, (PySem.W.fnOf "is_whole" "is_whole" (defArgs s_is_whole) (defBody s_is_whole) (defScope s_is_whole) .none kV_is_whole dc_is_whole pm_is_whole an_is_whole cd_is_whole ct_is_whole), f_is_round, (PySem.W.fnOf "is_round" "is_round" (defArgs s_is_round) (defBody s_is_round) (defScope s_is_round) .none kV_is_round dc_is_round pm_is_round an_is_round cd_is_round ct_is_round), f_are_rounds, (PySem.W.fnOf "are_rounds" "are_rounds" (defArgs s_are_rounds) (defBody s_are_rounds) (defScope s_are_rounds) .none kV_are_rounds dc_are_rounds pm_are_rounds an_are_rounds cd_are_rounds ct_are_rounds), f_is_rest, (PySem.W.fnOf "is_rest" "is_rest" (defArgs s_is_rest) (defBody s_is_rest) (defScope s_is_rest) .none kV_is_rest dc_is_rest pm_is_rest an_is_rest cd_is_rest ct_is_rest), f_is_rest_pair, (PySem.W.fnOf "is_rest_pair" "is_rest_pair" (defArgs s_is_rest_pair) (defBody s_is_rest_pair) (defScope s_is_rest_pair) .none kV_is_rest_pair dc_is_rest_pair pm_is_rest_pair an_is_rest_pair cd_is_rest_pair ct_is_rest_pair), f_are_rests, (PySem.W.fnOf "are_rests" "are_rests" (defArgs s_are_rests) (defBody s_are_rests) (defScope s_are_rests) .none kV_are_rests dc_are_rests pm_are_rests an_are_rests cd_are_rests ct_are_rests), f_goes_into, (PySem.W.fnOf "goes_into" "goes_into" (defArgs s_goes_into) (defBody s_goes_into) (defScope s_goes_into) .none kV_goes_into dc_goes_into pm_goes_into an_goes_into cd_goes_into ct_goes_into), f_leaves, (PySem.W.fnOf "leaves" "leaves" (defArgs s_leaves) (defBody s_leaves) (defScope s_leaves) .none kV_leaves dc_leaves pm_leaves an_leaves cd_leaves ct_leaves), f_common_part_of_two, (PySem.W.fnOf "common_part_of_two" "common_part_of_two" (defArgs s_common_part_of_two) (defBody s_common_part_of_two) (defScope s_common_part_of_two) .none kV_common_part_of_two dc_common_part_of_two pm_common_part_of_two an_common_part_of_two cd_common_part_of_two ct_common_part_of_two), f_part_with_times, (PySem.W.fnOf "part_with_times" "part_with_times" (defArgs s_part_with_times) (defBody s_part_with_times) (defScope s_part_with_times) .none kV_part_with_times dc_part_with_times pm_part_with_times an_part_with_times cd_part_with_times ct_part_with_times), f_common_part, (PySem.W.fnOf "common_part" "common_part" (defArgs s_common_part) (defBody s_common_part) (defScope s_common_part) .none kV_common_part dc_common_part pm_common_part an_common_part cd_common_part ct_common_part), f_common_turn, (PySem.W.fnOf "common_turn" "common_turn" (defArgs s_common_turn) (defBody s_common_turn) (defScope s_common_turn) .none kV_common_turn dc_common_turn pm_common_turn an_common_turn cd_common_turn ct_common_turn), f_Number___init__, (PySem.W.fnOf "__init__" "Number.__init__" (defArgs s_Number___init__) (defBody s_Number___init__) (defScope s_Number___init__) .none kV_Number___init__ dc_Number___init__ pm_Number___init__ an_Number___init__ cd_Number___init__ ct_Number___init__), f_Number_shows, (PySem.W.fnOf "shows" "Number.shows" (defArgs s_Number_shows) (defBody s_Number_shows) (defScope s_Number_shows) .none kV_Number_shows dc_Number_shows pm_Number_shows an_Number_shows cd_Number_shows ct_Number_shows), f_Clash___init__, (PySem.W.fnOf "__init__" "Clash.__init__" (defArgs s_Clash___init__) (defBody s_Clash___init__) (defScope s_Clash___init__) .none kV_Clash___init__ dc_Clash___init__ pm_Clash___init__ an_Clash___init__ cd_Clash___init__ ct_Clash___init__), f_Clash_shows, (PySem.W.fnOf "shows" "Clash.shows" (defArgs s_Clash_shows) (defBody s_Clash_shows) (defScope s_Clash_shows) .none kV_Clash_shows dc_Clash_shows pm_Clash_shows an_Clash_shows cd_Clash_shows ct_Clash_shows), f_told, (PySem.W.fnOf "told" "told" (defArgs s_told) (defBody s_told) (defScope s_told) .none kV_told dc_told pm_told an_told cd_told ct_told), f_joined, (PySem.W.fnOf "joined" "joined" (defArgs s_joined) (defBody s_joined) (defScope s_joined) .none kV_joined dc_joined pm_joined an_joined cd_joined ct_joined), f_clash_with_earlier, (PySem.W.fnOf "clash_with_earlier" "clash_with_earlier" (defArgs s_clash_with_earlier) (defBody s_clash_with_earlier) (defScope s_clash_with_earlier) .none kV_clash_with_earlier dc_clash_with_earlier pm_clash_with_earlier an_clash_with_earlier cd_clash_with_earlier ct_clash_with_earlier), f_left, (PySem.W.fnOf "left" "left" (defArgs s_left) (defBody s_left) (defScope s_left) .none kV_left dc_left pm_left an_left cd_left ct_left), f__law_cell_at, (PySem.W.fnOf "_law_cell_at" "_law_cell_at" (defArgs s__law_cell_at) (defBody s__law_cell_at) (defScope s__law_cell_at) .none kV__law_cell_at dc__law_cell_at pm__law_cell_at an__law_cell_at cd__law_cell_at ct__law_cell_at), f__law_draw, (PySem.W.fnOf "_law_draw" "_law_draw" (defArgs s__law_draw) (defBody s__law_draw) (defScope s__law_draw) .none kV__law_draw dc__law_draw pm__law_draw an__law_draw cd__law_draw ct__law_draw), f__law_turns, (PySem.W.fnOf "_law_turns" "_law_turns" (defArgs s__law_turns) (defBody s__law_turns) (defScope s__law_turns) .none kV__law_turns dc__law_turns pm__law_turns an__law_turns cd__law_turns ct__law_turns), f__law_rests, (PySem.W.fnOf "_law_rests" "_law_rests" (defArgs s__law_rests) (defBody s__law_rests) (defScope s__law_rests) .none kV__law_rests dc__law_rests pm__law_rests an__law_rests cd__law_rests ct__law_rests), f__law_part, (PySem.W.fnOf "_law_part" "_law_part" (defArgs s__law_part) (defBody s__law_part) (defScope s__law_part) .none kV__law_part dc__law_part pm__law_part an__law_part cd__law_part ct__law_part), f__law_whole, (PySem.W.fnOf "_law_whole" "_law_whole" (defArgs s__law_whole) (defBody s__law_whole) (defScope s__law_whole) .none kV__law_whole dc__law_whole pm__law_whole an__law_whole cd__law_whole ct__law_whole), f__law_numbers, (PySem.W.fnOf "_law_numbers" "_law_numbers" (defArgs s__law_numbers) (defBody s__law_numbers) (defScope s__law_numbers) .none kV__law_numbers dc__law_numbers pm__law_numbers an__law_numbers cd__law_numbers ct__law_numbers), f__law_due, (PySem.W.fnOf "_law_due" "_law_due" (defArgs s__law_due) (defBody s__law_due) (defScope s__law_due) .none kV__law_due dc__law_due pm__law_due an__law_due cd__law_due ct__law_due), f__law_right, (PySem.W.fnOf "_law_right" "_law_right" (defArgs s__law_right) (defBody s__law_right) (defScope s__law_right) .none kV__law_right dc__law_right pm__law_right an__law_right cd__law_right ct__law_right), fa, (PySem.W.fnOf "law" "law" (defArgs s_law) (defBody s_law) (defScope s_law) .none kV_law dc_law pm_law an_law cd_law ct_law), C_Answer, C_Number, C_Clash, C_Common, C_Times, C_Bar, C_Back, t_GREATEST_ROUND⟩ := ⟨fun_mk (st := s_is_whole) l_is_whole c_is_whole k_is_whole,
    (fun_mk (st := s_is_whole) l_is_whole c_is_whole k_is_whole).binds (ps := ["value"]) (fun _ _ _ _ _ _ us hl => match us, hl with | [_], _ => rfl),
    PySem.W.mg_of KX G a_is_whole,
    k_is_whole,
    fun_mk (st := s_is_round) l_is_round c_is_round k_is_round,
    (fun_mk (st := s_is_round) l_is_round c_is_round k_is_round).binds (ps := ["value"]) (fun _ _ _ _ _ _ us hl => match us, hl with | [_], _ => rfl),
    PySem.W.mg_of KX G a_is_round,
    k_is_round,
    fun_mk (st := s_are_rounds) l_are_rounds c_are_rounds k_are_rounds,
    (fun_mk (st := s_are_rounds) l_are_rounds c_are_rounds k_are_rounds).binds (ps := ["value"]) (fun _ _ _ _ _ _ us hl => match us, hl with | [_], _ => rfl),
    PySem.W.mg_of KX G a_are_rounds,
    k_are_rounds,
    fun_mk (st := s_is_rest) l_is_rest c_is_rest k_is_rest,
    (fun_mk (st := s_is_rest) l_is_rest c_is_rest k_is_rest).binds (ps := ["value", "turn"]) (fun _ _ _ _ _ _ us hl => match us, hl with | [_, _], _ => rfl),
    PySem.W.mg_of KX G a_is_rest,
    k_is_rest,
    fun_mk (st := s_is_rest_pair) l_is_rest_pair c_is_rest_pair k_is_rest_pair,
    (fun_mk (st := s_is_rest_pair) l_is_rest_pair c_is_rest_pair k_is_rest_pair).binds (ps := ["value"]) (fun _ _ _ _ _ _ us hl => match us, hl with | [_], _ => rfl),
    PySem.W.mg_of KX G a_is_rest_pair,
    k_is_rest_pair,
    fun_mk (st := s_are_rests) l_are_rests c_are_rests k_are_rests,
    (fun_mk (st := s_are_rests) l_are_rests c_are_rests k_are_rests).binds (ps := ["value"]) (fun _ _ _ _ _ _ us hl => match us, hl with | [_], _ => rfl),
    PySem.W.mg_of KX G a_are_rests,
    k_are_rests,
    fun_mk (st := s_goes_into) l_goes_into c_goes_into k_goes_into,
    (fun_mk (st := s_goes_into) l_goes_into c_goes_into k_goes_into).binds (ps := ["part", "number"]) (fun _ _ _ _ _ _ us hl => match us, hl with | [_, _], _ => rfl),
    PySem.W.mg_of KX G a_goes_into,
    k_goes_into,
    fun_mk (st := s_leaves) l_leaves c_leaves k_leaves,
    (fun_mk (st := s_leaves) l_leaves c_leaves k_leaves).binds (ps := ["number", "rest", "turn"]) (fun _ _ _ _ _ _ us hl => match us, hl with | [_, _, _], _ => rfl),
    PySem.W.mg_of KX G a_leaves,
    k_leaves,
    fun_mk (st := s_common_part_of_two) l_common_part_of_two c_common_part_of_two k_common_part_of_two,
    (fun_mk (st := s_common_part_of_two) l_common_part_of_two c_common_part_of_two k_common_part_of_two).binds (ps := ["one", "other"]) (fun _ _ _ _ _ _ us hl => match us, hl with | [_, _], _ => rfl),
    PySem.W.mg_of KX G a_common_part_of_two,
    k_common_part_of_two,
    fun_mk (st := s_part_with_times) l_part_with_times c_part_with_times k_part_with_times,
    (fun_mk (st := s_part_with_times) l_part_with_times c_part_with_times k_part_with_times).binds (ps := ["one", "other"]) (fun _ _ _ _ _ _ us hl => match us, hl with | [_, _], _ => rfl),
    PySem.W.mg_of KX G a_part_with_times,
    k_part_with_times,
    fun_mk (st := s_common_part) l_common_part c_common_part k_common_part,
    (fun_mk (st := s_common_part) l_common_part c_common_part k_common_part).binds (ps := ["numbers"]) (fun _ _ _ _ _ _ us hl => match us, hl with | [_], _ => rfl),
    PySem.W.mg_of KX G a_common_part,
    k_common_part,
    fun_mk (st := s_common_turn) l_common_turn c_common_turn k_common_turn,
    (fun_mk (st := s_common_turn) l_common_turn c_common_turn k_common_turn).binds (ps := ["turns"]) (fun _ _ _ _ _ _ us hl => match us, hl with | [_], _ => rfl),
    PySem.W.mg_of KX G a_common_turn,
    k_common_turn,
    fun_mk (st := s_Number___init__) l_Number___init__ c_Number___init__ k_Number___init__,
    (fun_mk (st := s_Number___init__) l_Number___init__ c_Number___init__ k_Number___init__).binds (ps := ["self", "number", "turn"]) (fun _ _ _ _ _ _ us hl => match us, hl with | [_, _, _], _ => rfl),
    ⟨mk_Number, a_Number___init__, i_Number___init__, kc_Number⟩,
    fun_mk (st := s_Number_shows) l_Number_shows c_Number_shows k_Number_shows,
    (fun_mk (st := s_Number_shows) l_Number_shows c_Number_shows k_Number_shows).binds (ps := ["self", "rests"]) (fun _ _ _ _ _ _ us hl => match us, hl with | [_, _], _ => rfl),
    ⟨a_Number_shows, i_Number_shows, k_Number_shows⟩,
    fun_mk (st := s_Clash___init__) l_Clash___init__ c_Clash___init__ k_Clash___init__,
    (fun_mk (st := s_Clash___init__) l_Clash___init__ c_Clash___init__ k_Clash___init__).binds (ps := ["self", "one", "other"]) (fun _ _ _ _ _ _ us hl => match us, hl with | [_, _, _], _ => rfl),
    ⟨mk_Clash, a_Clash___init__, i_Clash___init__, kc_Clash⟩,
    fun_mk (st := s_Clash_shows) l_Clash_shows c_Clash_shows k_Clash_shows,
    (fun_mk (st := s_Clash_shows) l_Clash_shows c_Clash_shows k_Clash_shows).binds (ps := ["self", "rests"]) (fun _ _ _ _ _ _ us hl => match us, hl with | [_, _], _ => rfl),
    ⟨a_Clash_shows, i_Clash_shows, k_Clash_shows⟩,
    fun_mk (st := s_told) l_told c_told k_told,
    (fun_mk (st := s_told) l_told c_told k_told).binds (ps := ["rests"]) (fun _ _ _ _ _ _ us hl => match us, hl with | [_], _ => rfl),
    PySem.W.mg_of KX G a_told,
    k_told,
    fun_mk (st := s_joined) l_joined c_joined k_joined,
    (fun_mk (st := s_joined) l_joined c_joined k_joined).binds (ps := ["so_far", "rest", "turn"]) (fun _ _ _ _ _ _ us hl => match us, hl with | [_, _, _], _ => rfl),
    PySem.W.mg_of KX G a_joined,
    k_joined,
    fun_mk (st := s_clash_with_earlier) l_clash_with_earlier c_clash_with_earlier k_clash_with_earlier,
    (fun_mk (st := s_clash_with_earlier) l_clash_with_earlier c_clash_with_earlier k_clash_with_earlier).binds (ps := ["rests", "place"]) (fun _ _ _ _ _ _ us hl => match us, hl with | [_, _], _ => rfl),
    PySem.W.mg_of KX G a_clash_with_earlier,
    k_clash_with_earlier,
    fun_mk (st := s_left) l_left c_left k_left,
    (fun_mk (st := s_left) l_left c_left k_left).binds (ps := ["number", "rounds"]) (fun _ _ _ _ _ _ us hl => match us, hl with | [_, _], _ => rfl),
    PySem.W.mg_of KX G a_left,
    k_left,
    fun_mk (st := s__law_cell_at) l__law_cell_at c__law_cell_at k__law_cell_at,
    (fun_mk (st := s__law_cell_at) l__law_cell_at c__law_cell_at k__law_cell_at).binds (ps := ["_law_script", "_law_k"]) (fun _ _ _ _ _ _ us hl => match us, hl with | [_, _], _ => rfl),
    PySem.W.mg_of KX G a__law_cell_at,
    k__law_cell_at,
    fun_mk (st := s__law_draw) l__law_draw c__law_draw k__law_draw,
    (fun_mk (st := s__law_draw) l__law_draw c__law_draw k__law_draw).binds (ps := ["_law_cell", "_law_k", "_law_many"]) (fun _ _ _ _ _ _ us hl => match us, hl with | [_, _, _], _ => rfl),
    PySem.W.mg_of KX G a__law_draw,
    k__law_draw,
    fun_mk (st := s__law_turns) l__law_turns c__law_turns k__law_turns,
    (fun_mk (st := s__law_turns) l__law_turns c__law_turns k__law_turns).binds (ps := ["_law_script"]) (fun _ _ _ _ _ _ us hl => match us, hl with | [_], _ => rfl),
    PySem.W.mg_of KX G a__law_turns,
    k__law_turns,
    fun_mk (st := s__law_rests) l__law_rests c__law_rests k__law_rests,
    (fun_mk (st := s__law_rests) l__law_rests c__law_rests k__law_rests).binds (ps := ["_law_script"]) (fun _ _ _ _ _ _ us hl => match us, hl with | [_], _ => rfl),
    PySem.W.mg_of KX G a__law_rests,
    k__law_rests,
    fun_mk (st := s__law_part) l__law_part c__law_part k__law_part,
    (fun_mk (st := s__law_part) l__law_part c__law_part k__law_part).binds (ps := ["_law_one", "_law_other"]) (fun _ _ _ _ _ _ us hl => match us, hl with | [_, _], _ => rfl),
    PySem.W.mg_of KX G a__law_part,
    k__law_part,
    fun_mk (st := s__law_whole) l__law_whole c__law_whole k__law_whole,
    (fun_mk (st := s__law_whole) l__law_whole c__law_whole k__law_whole).binds (ps := ["_law_number"]) (fun _ _ _ _ _ _ us hl => match us, hl with | [_], _ => rfl),
    PySem.W.mg_of KX G a__law_whole,
    k__law_whole,
    fun_mk (st := s__law_numbers) l__law_numbers c__law_numbers k__law_numbers,
    (fun_mk (st := s__law_numbers) l__law_numbers c__law_numbers k__law_numbers).binds (ps := ["_law_found"]) (fun _ _ _ _ _ _ us hl => match us, hl with | [_], _ => rfl),
    PySem.W.mg_of KX G a__law_numbers,
    k__law_numbers,
    fun_mk (st := s__law_due) l__law_due c__law_due k__law_due,
    (fun_mk (st := s__law_due) l__law_due c__law_due k__law_due).binds (ps := ["_law_rests_here", "_law_found"]) (fun _ _ _ _ _ _ us hl => match us, hl with | [_, _], _ => rfl),
    PySem.W.mg_of KX G a__law_due,
    k__law_due,
    fun_mk (st := s__law_right) l__law_right c__law_right k__law_right,
    (fun_mk (st := s__law_right) l__law_right c__law_right k__law_right).binds (ps := ["_law_rests_here", "_law_found"]) (fun _ _ _ _ _ _ us hl => match us, hl with | [_, _], _ => rfl),
    PySem.W.mg_of KX G a__law_right,
    k__law_right,
    fun_mk (st := s_law) l_law c_law k_law,
    (fun_mk (st := s_law) l_law c_law k_law).binds (ps := ["_law_script"]) (fun _ _ _ _ _ _ us hl => match us, hl with | [_], _ => rfl),
    PySem.W.mg_of KX G a_law,
    k_law,
    PySem.W.mg_of KX G g_Answer,
    PySem.W.mg_of KX G g_Number,
    ⟨pg_Number, hd_Number, po_Number, sa_Number⟩,
    na_Number_number,
    na_Number_turn,
    (fun H a dx fs e => TyOf.ins e ⟨pg_Number, hd_Number, po_Number, sa_Number⟩ ka_Number kn_Number kt_Number km_Number),
    is_Number_Answer,
    is_Number_Number,
    is_Number_Clash,
    is_Number_Common,
    is_Number_Times,
    is_Number_Bar,
    is_Number_Back,
    PySem.W.mg_of KX G g_Clash,
    ⟨pg_Clash, hd_Clash, po_Clash, sa_Clash⟩,
    na_Clash_one,
    na_Clash_other,
    (fun H a dx fs e => TyOf.ins e ⟨pg_Clash, hd_Clash, po_Clash, sa_Clash⟩ ka_Clash kn_Clash kt_Clash km_Clash),
    is_Clash_Answer,
    is_Clash_Number,
    is_Clash_Clash,
    is_Clash_Common,
    is_Clash_Times,
    is_Clash_Bar,
    is_Clash_Back,
    PySem.W.mg_of KX G g_Common,
    PySem.W.mg_of KX G g_Times,
    PySem.W.mg_of KX G g_Bar,
    PySem.W.mg_of KX G g_Back,
    PySem.W.mg_of KX G gc_GREATEST_ROUND,
    PySem.W.mg_none_of KX G z_abs,
    PySem.W.mg_none_of KX G z_all,
    PySem.W.mg_none_of KX G z_any,
    PySem.W.mg_none_of KX G z_bool,
    PySem.W.mg_none_of KX G z_enumerate,
    PySem.W.mg_none_of KX G z_int,
    PySem.W.mg_none_of KX G z_isinstance,
    PySem.W.mg_none_of KX G z_len,
    PySem.W.mg_none_of KX G z_list,
    PySem.W.mg_none_of KX G z_range,
    PySem.W.mg_none_of KX G z_sum,
    PySem.W.mg_none_of KX G z_tuple,
    is_int_int,
    is_int_bool,
    is_list_list,
    is_tuple_tuple⟩
  exact ⟨PySem.W.fnOf "law" "law" (defArgs s_law) (defBody s_law) (defScope s_law) .none kV_law dc_law pm_law an_law cd_law ct_law, fun s v => .of_eq rfl, fun base _ _ => ok_law T⟩
theorem walk {l : PySem.W.OpenLaw} {q : Program} {loose : List Str} {XP : (Str → Option Value) → Heap → Prop} {YP : World → Heap → Prop} {d : DefRec} {K : Params → PySem.W.Frag} (hn : l.most = some 63) (hdf : d.params.defaults = [])
    (hY : ∀ (w : World) (h : Heap), YP w h → (K w.params).In h)
    (F : ∀ (w : World) (mg : Str → Option Value) (fa : Addr) (h : Heap), (K w.params).In h → h.Ns mainGlobals mg → mg d.name = some (.ref fa) →
      ∃ fd : FuncData, (∀ (s : Shared) (u : Value), BindsTo s fd ⟨[u], []⟩ [("_law_script", u)]) ∧ ∀ base : Heap, (K w.params).In base → base.Ns mainGlobals mg → FnOk l.prog w (K w.params) mg base CX0 9 fa fd ["_law_script"] (sp_law (K w.params))) :
    PySem.W.WalkO q loose XP YP l.row.toRowW d [] (fun f vs => PySem.call f vs) :=
  L2.walk_ofX (n := 63) (k := 9) (x := "_law_script") (CX := fun _ => CX0) (sp := fun w => sp_law (K w.params)) hn (by decide) hdf ⟨rfl, by decide, by decide⟩ hY F (fun _ _ a ns hl _ hS => ⟨a, ns, rfl, hS, hl, fun _ => rfl⟩) fun _ _ _ _ _ z => z
end W01
open PySem PySem.W PyProof.Rows
set_option maxRecDepth 100000 in
set_option maxHeartbeats 0 in
theorem PySem.Challenge.cw_wheelrow_k01_whole_told_holds : PySem.Challenge.rw_wheelrow_k01_whole_told.Holds := by
  w_on; o_law
  refine PySem.W.holds_open (q := H01.Q) (loose := []) (Xt := H01.XtOf H01.Q) (XP := XL H01.Q []) (Yf := Hook.obs (kHook H01.K H01.as H01.as_eq)) (Ya := Hook.val (kHook H01.K H01.as H01.as_eq)) (YP := Hook.says (kHook H01.K H01.as H01.as_eq)) (N := 6454) H01.left (Hook.of H01.H) (Hook.keeps H01.H) (fun s e => xl_of s (Bool.and_eq_true_iff.mp e).1) XL.keeps (by rfl) (by rfl) (by rfl) (fun s e => recFacts_of (Bool.and_eq_true_iff.mp e).2) (by rfl) (by first | assumption | decide +kernel) (by decide +kernel) ⟨rfl, rfl, rfl, rfl, rfl, by decide +kernel⟩ ?hw ?hc
  (case hw => w_witness2)
  k_fill
  refine W01.walk (l := PySem.Challenge.rw_wheelrow_k01_whole_told) rfl rfl (fun w h Y => PySem.W.kIn_of Y) ?F
  case F =>
    intro w mg fa h KX G hmg
    refine' W01.all_mk KX G hmg ?g_Answer ?g_Number ?g_Clash ?g_Common ?g_Times ?g_Bar ?g_Back ?a_is_whole ?l_is_whole ?c_is_whole ?k_is_whole ?a_is_round ?l_is_round ?c_is_round ?k_is_round ?a_are_rounds ?l_are_rounds ?c_are_rounds ?k_are_rounds ?a_is_rest ?l_is_rest ?c_is_rest ?k_is_rest ?a_is_rest_pair ?l_is_rest_pair ?c_is_rest_pair ?k_is_rest_pair ?a_are_rests ?l_are_rests ?c_are_rests ?k_are_rests ?a_goes_into ?l_goes_into ?c_goes_into ?k_goes_into ?a_leaves ?l_leaves ?c_leaves ?k_leaves ?a_common_part_of_two ?l_common_part_of_two ?c_common_part_of_two ?k_common_part_of_two ?a_part_with_times ?l_part_with_times ?c_part_with_times ?k_part_with_times ?a_common_part ?l_common_part ?c_common_part ?k_common_part ?a_common_turn ?l_common_turn ?c_common_turn ?k_common_turn ?a_Number___init__ ?i_Number___init__ ?l_Number___init__ ?c_Number___init__ ?k_Number___init__ ?a_Number_shows ?i_Number_shows ?l_Number_shows ?c_Number_shows ?k_Number_shows ?a_Clash___init__ ?i_Clash___init__ ?l_Clash___init__ ?c_Clash___init__ ?k_Clash___init__ ?a_Clash_shows ?i_Clash_shows ?l_Clash_shows ?c_Clash_shows ?k_Clash_shows ?a_told ?l_told ?c_told ?k_told ?a_joined ?l_joined ?c_joined ?k_joined ?a_clash_with_earlier ?l_clash_with_earlier ?c_clash_with_earlier ?k_clash_with_earlier ?a_left ?l_left ?c_left ?k_left ?a__law_cell_at ?l__law_cell_at ?c__law_cell_at ?k__law_cell_at ?a__law_draw ?l__law_draw ?c__law_draw ?k__law_draw ?a__law_turns ?l__law_turns ?c__law_turns ?k__law_turns ?a__law_rests ?l__law_rests ?c__law_rests ?k__law_rests ?a__law_part ?l__law_part ?c__law_part ?k__law_part ?a__law_whole ?l__law_whole ?c__law_whole ?k__law_whole ?a__law_numbers ?l__law_numbers ?c__law_numbers ?k__law_numbers ?a__law_due ?l__law_due ?c__law_due ?k__law_due ?a__law_right ?l__law_right ?c__law_right ?k__law_right ?a_law ?l_law ?c_law ?k_law ?pg_Number ?hd_Number ?po_Number ?sa_Number ?mk_Number ?kc_Number ?na_Number_number ?na_Number_turn ?ka_Number ?kn_Number ?kt_Number ?km_Number ?is_Number_Answer ?is_Number_Number ?is_Number_Clash ?is_Number_Common ?is_Number_Times ?is_Number_Bar ?is_Number_Back ?pg_Clash ?hd_Clash ?po_Clash ?sa_Clash ?mk_Clash ?kc_Clash ?na_Clash_one ?na_Clash_other ?ka_Clash ?kn_Clash ?kt_Clash ?km_Clash ?is_Clash_Answer ?is_Clash_Number ?is_Clash_Clash ?is_Clash_Common ?is_Clash_Times ?is_Clash_Bar ?is_Clash_Back ?gc_GREATEST_ROUND ?z_abs ?z_all ?z_any ?z_bool ?z_enumerate ?z_int ?z_isinstance ?z_len ?z_list ?z_range ?z_sum ?z_tuple ?is_int_int ?is_int_bool ?is_list_list ?is_tuple_tuple
    (case g_Answer => k_is)
    (case g_Number => k_is)
    (case g_Clash => k_is)
    (case g_Common => k_is)
    (case g_Times => k_is)
    (case g_Bar => k_is)
    (case g_Back => k_is)
    (case a_is_whole => k_is)
    (case l_is_whole => k_is)
    (case c_is_whole => k_is)
    (case k_is_whole => k_is)
    (case a_is_round => k_is)
    (case l_is_round => k_is)
    (case c_is_round => k_is)
    (case k_is_round => k_is)
    (case a_are_rounds => k_is)
    (case l_are_rounds => k_is)
    (case c_are_rounds => k_is)
    (case k_are_rounds => k_is)
    (case a_is_rest => k_is)
    (case l_is_rest => k_is)
    (case c_is_rest => k_is)
    (case k_is_rest => k_is)
    (case a_is_rest_pair => k_is)
    (case l_is_rest_pair => k_is)
    (case c_is_rest_pair => k_is)
    (case k_is_rest_pair => k_is)
    (case a_are_rests => k_is)
    (case l_are_rests => k_is)
    (case c_are_rests => k_is)
    (case k_are_rests => k_is)
    (case a_goes_into => k_is)
    (case l_goes_into => k_is)
    (case c_goes_into => k_is)
    (case k_goes_into => k_is)
    (case a_leaves => k_is)
    (case l_leaves => k_is)
    (case c_leaves => k_is)
    (case k_leaves => k_is)
    (case a_common_part_of_two => k_is)
    (case l_common_part_of_two => k_is)
    (case c_common_part_of_two => k_is)
    (case k_common_part_of_two => k_is)
    (case a_part_with_times => k_is)
    (case l_part_with_times => k_is)
    (case c_part_with_times => k_is)
    (case k_part_with_times => k_is)
    (case a_common_part => k_is)
    (case l_common_part => k_is)
    (case c_common_part => k_is)
    (case k_common_part => k_is)
    (case a_common_turn => k_is)
    (case l_common_turn => k_is)
    (case c_common_turn => k_is)
    (case k_common_turn => k_is)
    (case a_Number___init__ => k_is)
    (case i_Number___init__ => k_is)
    (case l_Number___init__ => k_is)
    (case c_Number___init__ => k_is)
    (case k_Number___init__ => k_is)
    (case a_Number_shows => k_is)
    (case i_Number_shows => k_is)
    (case l_Number_shows => k_is)
    (case c_Number_shows => k_is)
    (case k_Number_shows => k_is)
    (case a_Clash___init__ => k_is)
    (case i_Clash___init__ => k_is)
    (case l_Clash___init__ => k_is)
    (case c_Clash___init__ => k_is)
    (case k_Clash___init__ => k_is)
    (case a_Clash_shows => k_is)
    (case i_Clash_shows => k_is)
    (case l_Clash_shows => k_is)
    (case c_Clash_shows => k_is)
    (case k_Clash_shows => k_is)
    (case a_told => k_is)
    (case l_told => k_is)
    (case c_told => k_is)
    (case k_told => k_is)
    (case a_joined => k_is)
    (case l_joined => k_is)
    (case c_joined => k_is)
    (case k_joined => k_is)
    (case a_clash_with_earlier => k_is)
    (case l_clash_with_earlier => k_is)
    (case c_clash_with_earlier => k_is)
    (case k_clash_with_earlier => k_is)
    (case a_left => k_is)
    (case l_left => k_is)
    (case c_left => k_is)
    (case k_left => k_is)
    (case a__law_cell_at => k_is)
    (case l__law_cell_at => k_is)
    (case c__law_cell_at => k_is)
    (case k__law_cell_at => k_is)
    (case a__law_draw => k_is)
    (case l__law_draw => k_is)
    (case c__law_draw => k_is)
    (case k__law_draw => k_is)
    (case a__law_turns => k_is)
    (case l__law_turns => k_is)
    (case c__law_turns => k_is)
    (case k__law_turns => k_is)
    (case a__law_rests => k_is)
    (case l__law_rests => k_is)
    (case c__law_rests => k_is)
    (case k__law_rests => k_is)
    (case a__law_part => k_is)
    (case l__law_part => k_is)
    (case c__law_part => k_is)
    (case k__law_part => k_is)
    (case a__law_whole => k_is)
    (case l__law_whole => k_is)
    (case c__law_whole => k_is)
    (case k__law_whole => k_is)
    (case a__law_numbers => k_is)
    (case l__law_numbers => k_is)
    (case c__law_numbers => k_is)
    (case k__law_numbers => k_is)
    (case a__law_due => k_is)
    (case l__law_due => k_is)
    (case c__law_due => k_is)
    (case k__law_due => k_is)
    (case a__law_right => k_is)
    (case l__law_right => k_is)
    (case c__law_right => k_is)
    (case k__law_right => k_is)
    (case a_law => k_is)
    (case l_law => k_is)
    (case c_law => k_is)
    (case k_law => k_is)
    (case pg_Number => k_is)
    (case hd_Number => k_is)
    (case po_Number => k_is)
    (case sa_Number => k_is)
    (case mk_Number => k_is)
    (case kc_Number => k_is)
    (case na_Number_number => k_is)
    (case na_Number_turn => k_is)
    (case ka_Number => k_is)
    (case kn_Number => k_is)
    (case kt_Number => k_is)
    (case km_Number => k_is)
    (case is_Number_Answer => kit_is)
    (case is_Number_Number => kit_is)
    (case is_Number_Clash => kit_is)
    (case is_Number_Common => kit_is)
    (case is_Number_Times => kit_is)
    (case is_Number_Bar => kit_is)
    (case is_Number_Back => kit_is)
    (case pg_Clash => k_is)
    (case hd_Clash => k_is)
    (case po_Clash => k_is)
    (case sa_Clash => k_is)
    (case mk_Clash => k_is)
    (case kc_Clash => k_is)
    (case na_Clash_one => k_is)
    (case na_Clash_other => k_is)
    (case ka_Clash => k_is)
    (case kn_Clash => k_is)
    (case kt_Clash => k_is)
    (case km_Clash => k_is)
    (case is_Clash_Answer => kit_is)
    (case is_Clash_Number => kit_is)
    (case is_Clash_Clash => kit_is)
    (case is_Clash_Common => kit_is)
    (case is_Clash_Times => kit_is)
    (case is_Clash_Bar => kit_is)
    (case is_Clash_Back => kit_is)
    (case gc_GREATEST_ROUND => k_is)
    (case z_abs => k_is)
    (case z_all => k_is)
    (case z_any => k_is)
    (case z_bool => k_is)
    (case z_enumerate => k_is)
    (case z_int => k_is)
    (case z_isinstance => k_is)
    (case z_len => k_is)
    (case z_list => k_is)
    (case z_range => k_is)
    (case z_sum => k_is)
    (case z_tuple => k_is)
    (case is_int_int => kit_is)
    (case is_int_bool => kit_is)
    (case is_list_list => kit_is)
    (case is_tuple_tuple => kit_is)

