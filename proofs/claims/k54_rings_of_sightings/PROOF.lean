import PyProof.Rows.All
import Wide.All
import OpenK.AllK
import Wide.FinOn
import Lean
import PyProof.EqAt
import PyProof.EqKinds
import PyProof.TupleCall
import PyProof.CompFree
import PyProof.Rows.SumAny
import PyProof.ZipIter
import PyProof.ConsumeWalk
import PySem.Challenge.RW_clackrow_k54_rings_of_sightings
import PyProof.DictItems
import PyProof.DictValues
import PyProof.DictUpdate
import PyProof.DictCompW
import PyProof.Draws
import PyProof.Rows.Range3
import PyProof.Rows.ListMul
set_option Elab.async false
set_option linter.all false
set_option maxRecDepth 100000
namespace L2
open PySem PySem.Spec PyProof.Rows

abbrev Key := Sum Int Str
def keyIs : Key → Value → Bool
  | .inl k, v => Value.isInt k v
  | .inr x, v => Value.isStrOf x v
def keyH (w : World) : Key → Int
  | .inl k => hashInt k
  | .inr x => hashStr w x
theorem keyIs_shape : ∀ {k : Key} {v : Value}, keyIs k v = true → (∃ i t, k = Sum.inl i ∧ v = Value.int i t) ∨ (∃ x t, k = Sum.inr x ∧ v = Value.str x t)
  | .inl i, v, h => by
    obtain ⟨t, e⟩ := Value.isInt_shape (k := i) (v := v) h
    exact .inl ⟨i, t, rfl, e⟩
  | .inr x, v, h => by
    obtain ⟨t, e⟩ := Value.isStrOf_shape (x := x) (v := v) h
    exact .inr ⟨x, t, rfl, e⟩
theorem keyIs_int (i : Int) (t : Tok) : keyIs (.inl i) (.int i t) = true := by simp [keyIs, Value.isInt]
theorem keyIs_str (x : Str) (t : Tok) : keyIs (.inr x) (.str x t) = true := by simp [keyIs, Value.isStrOf]
theorem key_ll (a b : Int) : decide ((Sum.inl a : Key) = Sum.inl b) = (a == b) := by
  by_cases e : a = b
  · subst e; simp
  · have h : ¬ (Sum.inl a : Key) = Sum.inl b := fun q => e (Sum.inl.inj q)
    rw [decide_eq_false h]
    exact (beq_eq_false_iff_ne.mpr e).symm
theorem key_rr (a b : Str) : decide ((Sum.inr a : Key) = Sum.inr b) = decide (a = b) := by
  by_cases e : a = b
  · subst e; simp
  · have h : ¬ (Sum.inr a : Key) = Sum.inr b := fun q => e (Sum.inr.inj q)
    rw [decide_eq_false h, decide_eq_false e]
theorem key_lr (a : Int) (b : Str) : decide ((Sum.inl a : Key) = Sum.inr b) = false := decide_eq_false (fun q => nomatch q)
theorem key_rl (a : Str) (b : Int) : decide ((Sum.inr a : Key) = Sum.inl b) = false := decide_eq_false (fun q => nomatch q)

def mixKind (prog : Program) (w : World) : PySem.KeyKind prog w Key where
  is := keyIs
  hash := keyH w
  inj := fun v a b ha hb => by
    rcases keyIs_shape ha with ⟨i, t, rfl, rfl⟩ | ⟨x, t, rfl, rfl⟩
    · rcases keyIs_shape hb with ⟨j, u, rfl, e⟩ | ⟨y, u, rfl, e⟩
      · injection e with e1 _; rw [e1]
      · exact nomatch e
    · rcases keyIs_shape hb with ⟨j, u, rfl, e⟩ | ⟨y, u, rfl, e⟩
      · exact nomatch e
      · injection e with e1 _; rw [e1]
  byValue := fun k v h => by
    rcases keyIs_shape h with ⟨i, t, rfl, rfl⟩ | ⟨x, t, rfl, rfl⟩ <;> rfl
  pyHash := fun hv h => by
    rcases keyIs_shape hv with ⟨i, t, rfl, rfl⟩ | ⟨x, t, rfl, rfl⟩
    · exact wpAny_pyHash_int h
    · exact wpAny_pyHash_str h
  eqBool := fun hu hv h => by
    rcases keyIs_shape hu with ⟨i, t, rfl, rfl⟩ | ⟨x, t, rfl, rfl⟩
    · rcases keyIs_shape hv with ⟨j, u, rfl, rfl⟩ | ⟨y, u, rfl, rfl⟩
      · rw [key_ll] at h; exact wpAny_eqBool_int h
      · rw [key_lr] at h; exact SeqAt.EqAt.int_str i t y u _ _ _ _ h
    · rcases keyIs_shape hv with ⟨j, u, rfl, rfl⟩ | ⟨y, u, rfl, rfl⟩
      · rw [key_rl] at h; exact SeqAt.EqAt.str_int x t j u _ _ _ _ h
      · rw [key_rr] at h; exact wpAny_eqBool_str h
  «strs» := fun k x t v h => by
    rcases keyIs_shape h with ⟨i, u, rfl, e⟩ | ⟨y, u, rfl, e⟩
    · exact nomatch e
    · injection e with e1 _
      subst e1
      cases v <;> rfl

theorem mixKind_is (prog : Program) (w : World) (k : Key) (v : Value) : (mixKind prog w).is k v = keyIs k v := rfl
theorem mixKind_int (prog : Program) (w : World) (i : Int) (t : Tok) : (mixKind prog w).is (.inl i) (.int i t) = true := keyIs_int i t
theorem mixKind_str (prog : Program) (w : World) (x : Str) (t : Tok) : (mixKind prog w).is (.inr x) (.str x t) = true := keyIs_str x t
end L2

namespace L2
open PySem PySem.Spec PyProof.Rows

inductive V where
  | non | bl (b : Bool) | int (i : Int) | str (x : Str) | byt (b : Array UInt8) | flt (b : UInt64) | ref (a : Addr) | ty (n : String)
  deriving DecidableEq

def RelV : V → Value → Prop
  | .non, u => u = Value.none
  | .bl b, u => u = Value.bool b
  | .int i, u => ∃ t, u = Value.int i t
  | .str x, u => ∃ t, u = Value.str x t
  | .byt b, u => ∃ t, u = Value.bytes b t
  | .flt b, u => ∃ t, u = Value.float b t
  | .ref a, u => u = Value.ref a
  | .ty n, u => u = Value.type n

abbrev Vals : List V → List Value → Prop := Paired RelV
theorem Vals.length {xs : List V} {us : List Value} (r : Vals xs us) : xs.length = us.length := Paired.length r
theorem Vals.get : ∀ {xs : List V} {us : List Value} {i : Nat} {x : V}, Vals xs us → xs[i]? = some x → ∃ u, us[i]? = some u ∧ RelV x u
  | _, _, _, _, .nil, e => by simp at e
  | _, _, 0, _, .cons r _, e => by simp at e; subst e; exact ⟨_, rfl, r⟩
  | _, _, i + 1, x, .cons _ t, e => by
    obtain ⟨u, h1, h2⟩ := Vals.get (i := i) (x := x) t (by simpa using e)
    exact ⟨u, by simpa using h1, h2⟩
theorem Vals.set {x : V} {u : Value} (r : RelV x u) : ∀ {xs : List V} {us : List Value} (i : Nat), Vals xs us → Vals (xs.set i x) (us.set i u)
  | _, _, _, .nil => .nil
  | _, _, 0, .cons _ t => .cons r t
  | _, _, i + 1, .cons q t => .cons q (Vals.set r i t)
theorem Vals.append : ∀ {xs ys : List V} {us ws : List Value}, Vals xs us → Vals ys ws → Vals (xs ++ ys) (us ++ ws)
  | _, _, _, _, .nil, s => s
  | _, _, _, _, .cons r t, s => .cons r (Vals.append t s)
theorem Vals.take : ∀ {xs : List V} {us : List Value} (n : Nat), Vals xs us → Vals (xs.take n) (us.take n)
  | _, _, 0, _ => .nil
  | _, _, _ + 1, .nil => .nil
  | _, _, n + 1, .cons r t => .cons r (Vals.take n t)
theorem Vals.drop : ∀ {xs : List V} {us : List Value} (n : Nat), Vals xs us → Vals (xs.drop n) (us.drop n)
  | _, _, 0, r => r
  | _, _, _ + 1, .nil => .nil
  | _, _, n + 1, .cons _ t => Vals.drop n t
def RelO : Option V → Option Value → Prop
  | some v, some u => RelV v u
  | none, none => True
  | _, _ => False
def KV {κ : Type} : List (κ × V) → List (κ × Value) → Prop := Paired fun (p : κ × V) (q : κ × Value) => p.1 = q.1 ∧ RelV p.2 q.2

def kV : Key → V
  | .inl i => .int i
  | .inr x => .str x

inductive HO where
  /-- a list -/
  | lst (xs : List V)
  /-- a tuple (never changes) -/
  | tup (xs : List V)
  /-- a dict whose keys are ints and texts; one whose keys are tuples of ints and texts (the empty one is both) -/
  | dK (kvs : List (Key × V)) | dT (kvs : List (List Key × V))
  /-- a set of ints: its members, its size -/
  | set (S : Int → Bool) (n : Nat)
  /-- an instance of the class at C, its dict at dx, its attributes -/
  | ins (C dx : Addr) (fs : List (Str × V))
  /-- the dict of the instance at x -/
  | own (x : Addr)
  /-- the dict of an exception -/
  | xd (fs : List (Str × V))
  /-- a bound method, f of x -/
  | met (f x : Addr)
  /-- a range object lo, lo + 1, .. below hi -/
  | rng (lo hi : Int)
  /-- a thing that is known to the object (the script; a dict while a loop walks it): read, never written while it is so -/
  | frz (o : Obj) (u : HO)
  /-- a code object's table -/
  | tbl (ps : Array Value)
  /-- any other thing, by what is true of its one object (a def of one's own: SetO a S n := HO.ext fun h => ..) -/
  | ext (φ : Heap → Prop)

abbrev Hp := Addr → Option HO
def upd (H : Hp) (a : Addr) (o : HO) : Hp := fun b => if b = a then some o else H b
theorem upd_same {H : Hp} {a : Addr} {o : HO} : upd H a o a = some o := by unfold upd; rw [if_pos rfl]
theorem upd_ne {H : Hp} {a b : Addr} {o : HO} (h : b ≠ a) : upd H a o b = H b := by unfold upd; rw [if_neg h]
theorem ne_of {H : Hp} {a b : Addr} {o u : HO} (h : H a = some o) (h' : H b = some u) (d : o ≠ u) : a ≠ b := by
  intro e; subst e; rw [h] at h'; exact d (Option.some.inj h')
theorem ne_of_none {H : Hp} {a b : Addr} {o : HO} (h : H a = some o) (h' : H b = none) : a ≠ b := by
  intro e; subst e; rw [h] at h'; cases h'

section
variable (P : Program) (w : World)
def ObjOk (H : Hp) (h : Heap) (a : Addr) : HO → Prop
  | .lst xs => xs.length ≤ sizeLine ∧ ∃ (its : List Value) (n : Nat), Vals xs its ∧ h.get? a = some { cls := .type "list", data := .seq its.toArray n }
  | .tup xs => xs.length ≤ sizeLine ∧ ∃ its : List Value, Vals xs its ∧ IsTup h a its.toArray
  | .dK kvs => kvs.length ≤ sizeLine ∧ (a == sysModules) = false ∧ ∃ vs, KV kvs vs ∧ h.DictOf (mixKind P w) a vs
  | .dT kvs => kvs.length ≤ sizeLine ∧ (a == sysModules) = false ∧ ∃ xs : List (List Key × Addr × Value),
      Paired (fun (p : List Key × V) (q : List Key × Addr × Value) => p.1 = q.1 ∧ H q.2.1 = some (.tup (p.1.map kV)) ∧ RelV p.2 q.2.2) kvs xs ∧
      ∃ o es ep, h.get? a = some o ∧ o.ExactDict ∧ o.data = .dict es ep ∧ es.toList = xs.map (entryOfKey (tupleKind (mixKind P w))) ∧ (xs.map (·.1)).Nodup
  | .set S n => h.SetOf (intKind P w) a S n
  | .ins C dx fs => H dx = some (.own a) ∧ fs.length ≤ 1000 ∧ dx ≠ a ∧ h.get? a = some (PySem.W.instObj C dx) ∧
      ∃ mA, h.Ns1 dx mA ∧ (∀ f, RelO (fs.lookup f) (mA f)) ∧ PySem.Within mA (fs.map (·.1))
  | .own _ => ∃ o, h.get? a = some o
  | .xd fs => ∃ mA, h.Ns1 a mA ∧ ∀ f, RelO (fs.lookup f) (mA f)
  | .rng lo hi => ∃ t u v, h.get? a = some { cls := .type "range", data := .fields #[.int lo t, .int hi u, .int 1 v] }
  | .frz o u => h.get? a = some o ∧ ObjOk H h a u
  | .tbl ps => h.get? a = some { cls := .none, data := .fields ps }
  | .met f x => h.get? a = some (PySem.W.methodObj (.ref f) (.ref x))
  | .ext φ => φ h ∧ (∃ o, h.get? a = some o) ∧ ∀ h1 h2 : Heap, φ h1 → (∀ o, h1.get? a = some o → h2.get? a = some o) → φ h2
def HOk (H : Hp) (h : Heap) : Prop := ∀ a o, H a = some o → ObjOk P w H h a o
end

section
variable {P : Program} {w : World} {H H' : Hp} {h h' : Heap} {a : Addr} {o : HO}
theorem ObjOk.lt (x : ObjOk P w H h a o) : a < h.objs.size := by
  cases o with
  | lst xs => obtain ⟨_, _, _, _, e⟩ := x; exact Heap.lt_size e
  | tup xs => obtain ⟨_, _, _, p⟩ := x; exact p.lt
  | dK kvs => obtain ⟨_, _, _, _, o, _, _, e, _⟩ := x; exact Heap.lt_size e
  | dT kvs => obtain ⟨_, _, _, _, o, _, _, e, _⟩ := x; exact Heap.lt_size e
  | set S n => obtain ⟨o, _, _, _, e, _⟩ := x; exact Heap.lt_size e
  | ins C dx fs => obtain ⟨_, _, _, e, _⟩ := x; exact Heap.lt_size e
  | own y => obtain ⟨_, e⟩ := x; exact Heap.lt_size e
  | xd fs => obtain ⟨_, ⟨_, _, _, e, _⟩, _⟩ := x; exact Heap.lt_size e
  | rng lo hi => obtain ⟨_, _, _, e⟩ := x; exact Heap.lt_size e
  | frz ob u => obtain ⟨e, _⟩ := x; exact Heap.lt_size e
  | tbl ps => exact Heap.lt_size (show h.get? a = some _ from x)
  | met f y => exact Heap.lt_size (show h.get? a = some _ from x)
  | ext φ => obtain ⟨_, ⟨_, e⟩, _⟩ := x; exact Heap.lt_size e
theorem Paired.mapP {α β : Type} {F G : α → β → Prop} : ∀ {l₁ : List α} {l₂ : List β}, Paired F l₁ l₂ → (∀ a b, F a b → G a b) → Paired G l₁ l₂
  | _, _, .nil, _ => .nil
  | _, _, .cons r t, f => .cons (f _ _ r) (Paired.mapP t f)
theorem ObjOk.stay (x : ObjOk P w H h a o) (k : ∀ b u, (b = a ∨ H b = some (.own a)) → h.get? b = some u → h'.get? b = some u)
    (ho : ∀ b, H b = some (.own a) → H' b = some (.own a)) (ht : ∀ b xs, H b = some (.tup xs) → H' b = some (.tup xs)) : ObjOk P w H' h' a o := by
  induction o with
  | lst xs => obtain ⟨z, its, n, r, e⟩ := x; exact ⟨z, its, n, r, k _ _ (.inl rfl) e⟩
  | tup xs => obtain ⟨z, its, r, ob, e, c⟩ := x; exact ⟨z, its, r, ob, k _ _ (.inl rfl) e, c⟩
  | dK kvs => obtain ⟨z, y, vs, r, ob, es, ep, e, c⟩ := x; exact ⟨z, y, vs, r, ob, es, ep, k _ _ (.inl rfl) e, c⟩
  | dT kvs =>
    obtain ⟨z, y, xs, r, ob, es, ep, e, c⟩ := x
    exact ⟨z, y, xs, Paired.mapP r fun p q z => ⟨z.1, ht _ _ z.2.1, z.2.2⟩, ob, es, ep, k _ _ (.inl rfl) e, c⟩
  | set S n => obtain ⟨ob, es, ep, t, e, c⟩ := x; exact ⟨ob, es, ep, t, k _ _ (.inl rfl) e, c⟩
  | ins C dx fs =>
    obtain ⟨d, z, ne, e, mA, ⟨od, es, ep, e2, c⟩, r⟩ := x
    exact ⟨ho _ d, z, ne, k _ _ (.inl rfl) e, mA, ⟨od, es, ep, k _ _ (.inr d) e2, c⟩, r⟩
  | own y => obtain ⟨ob, e⟩ := x; exact ⟨ob, k _ _ (.inl rfl) e⟩
  | xd fs => obtain ⟨mA, ⟨od, es, ep, e, c⟩, r⟩ := x; exact ⟨mA, ⟨od, es, ep, k _ _ (.inl rfl) e, c⟩, r⟩
  | rng lo hi => obtain ⟨t, u, v, e⟩ := x; exact ⟨t, u, v, k _ _ (.inl rfl) e⟩
  | frz ob u ih => obtain ⟨e, q⟩ := x; exact ⟨k _ _ (.inl rfl) e, ih q⟩
  | tbl ps =>
    have e : h.get? a = some { cls := .none, data := .fields ps } := x
    show h'.get? a = some { cls := .none, data := .fields ps }
    exact k a _ (.inl rfl) e
  | met f y =>
    have e : h.get? a = some (PySem.W.methodObj (.ref f) (.ref y)) := x
    show h'.get? a = some (PySem.W.methodObj (.ref f) (.ref y))
    exact k a _ (.inl rfl) e
  | ext φ => obtain ⟨p, ⟨o, e⟩, st⟩ := x; exact ⟨st _ _ p fun o q => k _ _ (.inl rfl) q, ⟨o, k _ _ (.inl rfl) e⟩, st⟩
theorem HOk.lt (x : HOk P w H h) (e : H a = some o) : a < h.objs.size := (x a o e).lt
theorem HOk.fresh (x : HOk P w H h) (e : h.objs.size ≤ a) : H a = none := by
  cases q : H a with
  | none => rfl
  | some u => exact absurd (Nat.lt_of_lt_of_le (x.lt q) e) (Nat.lt_irrefl _)
theorem HOk.kept (x : HOk P w H h) (k : ∀ b u, h.get? b = some u → h'.get? b = some u) : HOk P w H h' := fun a o e =>
  (x a o e).stay (fun b u _ q => k b u q) (fun _ q => q) fun _ _ q => q
theorem HOk.laid (x : HOk P w H h) (k : ∀ b u, h.get? b = some u → h'.get? b = some u) (hp : h.objs.size ≤ a) (new : ObjOk P w (upd H a o) h' a o) : HOk P w (upd H a o) h' := fun b u e => by
  have hn := x.fresh hp
  by_cases hb : b = a
  · subst hb; rw [upd_same] at e; cases e; exact new
  · rw [upd_ne hb] at e
    exact (x b u e).stay (fun c v _ q => k c v q) (fun c q => by rw [upd_ne (ne_of_none q hn)]; exact q) fun c xs q => by rw [upd_ne (ne_of_none q hn)]; exact q
end

def Rd (H : Hp) (a : Addr) (u : HO) : Prop := H a = some u ∨ ∃ o, H a = some (.frz o u)
theorem Rd.of {H : Hp} {a : Addr} {u : HO} (h : H a = some u) : Rd H a u := .inl h
theorem Rd.ok {P : Program} {w : World} {H : Hp} {h : Heap} {a : Addr} {u : HO} (r : Rd H a u) (x : HOk P w H h) : ObjOk P w H h a u := by
  rcases r with r | ⟨o, r⟩
  · exact x a u r
  · obtain ⟨_, q⟩ := x a _ r
    exact q
def Mut : Option HO → Prop
  | some (.lst _) => True
  | some (.dK _) => True
  | some (.dT _) => True
  | some (.set _ _) => True
  | some (.ins _ _ _) => True
  | some (.ext _) => True
  | _ => False
section
variable {P : Program} {w : World} {H : Hp} {h h' : Heap} {x e : Addr} {o' : HO}
theorem HOk.write (ok : HOk P w H h) (mu : Mut (H x)) (he : e = x ∨ H e = some (.own x)) (k : ∀ b u, b ≠ e → h.get? b = some u → h'.get? b = some u) (heo : ∃ u, h'.get? e = some u)
    (new : ObjOk P w (upd H x o') h' x o') : HOk P w (upd H x o') h' := fun b u q => by
  have nown : ∀ c y, H c = some (.own y) → c ≠ x := fun c y r z => by subst z; rw [r] at mu; exact mu
  have ntup : ∀ c xs, H c = some (.tup xs) → c ≠ x := fun c xs r z => by subst z; rw [r] at mu; exact mu
  by_cases hb : b = x
  · subst hb; rw [upd_same] at q; cases q; exact new
  · rw [upd_ne hb] at q
    by_cases hbe : b = e
    · have q' : H b = some (.own x) := by
        rcases he with z | z
        · exact absurd (hbe.trans z) hb
        · rw [hbe]; exact z
      rw [q] at q'; cases q'
      obtain ⟨v, hv⟩ := heo
      exact ⟨v, by rw [hbe]; exact hv⟩
    · refine (ok b u q).stay (fun c v hc r => k c v ?_ r) (fun c r => by rw [upd_ne (nown c b r)]; exact r) fun c xs r => by rw [upd_ne (ntup c xs r)]; exact r
      rcases hc with rfl | hc
      · exact hbe
      · rintro rfl
        rcases he with z | z
        · exact nown c b hc z
        · rw [hc] at z; cases z; exact hb rfl
end

structure Un (fs ex : List Addr) (H H' : Hp) (h h' : Heap) : Prop where
  keep : ∀ b o, h.get? b = some o → H b = none → b ∉ fs → b ∉ ex → h'.get? b = some o
  slot : ∀ b o, h.get? b = some o → H b = none → b ∈ fs → b ∉ ex → ∃ sl, h'.get? b = some { o with slots := sl }
  free : ∀ b o, h.get? b = some o → H b = none → b ∉ ex → H' b = none
  there : ∀ b o, h.get? b = some o → b ∉ ex → ∃ o', h'.get? b = some o'
  tups : ∀ b xs, H b = some (.tup xs) → H' b = some (.tup xs)
  frzs : ∀ b o u, H b = some (.frz o u) → H' b = some (.frz o u)
  tbls : ∀ b ps, H b = some (.tbl ps) → ∃ more, H' b = some (.tbl (ps ++ more))
section
variable {fs fs' ex ex' : List Addr} {H H1 H2 : Hp} {h h1 h2 h' : Heap} {a x e : Addr} {o : HO}
theorem Un.any (u : Un fs ex H H1 h h1) {b : Addr} {ob : Obj} (q : h.get? b = some ob) (n : H b = none) (hx : b ∉ ex) : ∃ sl, h1.get? b = some { ob with slots := sl } := by
  by_cases hb : b ∈ fs
  · exact u.slot b ob q n hb hx
  · exact ⟨ob.slots, u.keep b ob q n hb hx⟩
theorem Un.trans (a : Un fs ex H H1 h h1) (b : Un fs ex H1 H2 h1 h2) : Un fs ex H H2 h h2 where
  keep := fun c ob q n hc hx => b.keep c ob (a.keep c ob q n hc hx) (a.free c ob q n hx) hc hx
  slot := fun c ob q n hc hx => by
    obtain ⟨sl, e1⟩ := a.slot c ob q n hc hx
    obtain ⟨sl', e2⟩ := b.slot c _ e1 (a.free c ob q n hx) hc hx
    exact ⟨sl', e2⟩
  free := fun c ob q n hx => by
    obtain ⟨o', e1⟩ := a.there c ob q hx
    exact b.free c o' e1 (a.free c ob q n hx) hx
  there := fun c ob q hx => by
    obtain ⟨o', e1⟩ := a.there c ob q hx
    exact b.there c o' e1 hx
  tups := fun c xs q => b.tups c xs (a.tups c xs q)
  frzs := fun c ob xs q => b.frzs c ob xs (a.frzs c ob xs q)
  tbls := fun c ps q => by
    obtain ⟨m1, e1⟩ := a.tbls c ps q
    obtain ⟨m2, e2⟩ := b.tbls c _ e1
    exact ⟨m1 ++ m2, by rw [e2, Array.append_assoc]⟩
theorem Un.kept (k : ∀ b u, h.get? b = some u → h'.get? b = some u) : Un fs ex H H h h' :=
  ⟨fun b ob q _ _ _ => k b ob q, fun b ob q _ _ _ => ⟨ob.slots, k b ob q⟩, fun _ _ _ n _ => n, fun b ob q _ => ⟨ob, k b ob q⟩, fun _ _ q => q, fun _ _ _ q => q, fun _ ps q => ⟨#[], by rw [q]; simp⟩⟩
theorem Un.refl : Un fs ex H H h h := Un.kept fun _ _ q => q
theorem Un.laid (k : ∀ b u, h.get? b = some u → h'.get? b = some u) (hp : h.objs.size ≤ a) (hn : H a = none) : Un fs ex H (upd H a o) h h' where
  keep := fun b u q _ _ _ => k b u q
  slot := fun b u q _ _ _ => ⟨u.slots, k b u q⟩
  free := fun b u q n _ => by rw [upd_ne (Nat.ne_of_lt (Nat.lt_of_lt_of_le (Heap.lt_size q) hp))]; exact n
  there := fun b u q _ => ⟨u, k b u q⟩
  tups := fun b xs q => by rw [upd_ne (ne_of_none q hn)]; exact q
  frzs := fun b u xs q => by rw [upd_ne (ne_of_none q hn)]; exact q
  tbls := fun b ps q => ⟨#[], by rw [upd_ne (ne_of_none q hn), q]; simp⟩
theorem Un.write (mu : Mut (H x)) (he : e = x ∨ H e = some (.own x)) (k : ∀ b u, b ≠ e → h.get? b = some u → h'.get? b = some u) (heo : ∃ u, h'.get? e = some u) : Un fs ex H (upd H x o) h h' := by
  have hx : ∀ b, H b = none → b ≠ x := fun b n z => by subst z; rw [n] at mu; exact mu
  have hb : ∀ b, H b = none → b ≠ e := fun b n z => by
    subst z
    rcases he with r | r
    · exact hx b n r
    · rw [n] at r; cases r
  have hm : ∀ b u, H b = some u → ¬ Mut (some u) → b ≠ x := fun b u q nm z => by subst z; rw [q] at mu; exact nm mu
  refine ⟨fun b u q n _ _ => k b u (hb b n) q, fun b u q n _ _ => ⟨u.slots, k b u (hb b n) q⟩, fun b u q n _ => by rw [upd_ne (hx b n)]; exact n, fun b u q _ => ?_,
    fun b xs q => by rw [upd_ne (hm b _ q fun z => z)]; exact q, fun b u xs q => by rw [upd_ne (hm b _ q fun z => z)]; exact q, fun b ps q => ⟨#[], by rw [upd_ne (hm b _ q fun z => z), q]; simp⟩⟩
  by_cases hbe : b = e
  · subst hbe; exact heo
  · exact ⟨u, k b u hbe q⟩
theorem Un.mono (u : Un fs ex H H1 h h1) (hs : ∀ b ∈ fs, b ∈ fs') (hx : ∀ b ∈ ex, b ∈ ex') : Un fs' ex' H H1 h h1 :=
  ⟨fun b ob q n hb he => u.keep b ob q n (fun z => hb (hs b z)) fun z => he (hx b z), fun _ _ q n _ he => u.any q n fun z => he (hx _ z), fun b ob q n he => u.free b ob q n fun z => he (hx b z), fun b ob q he => u.there b ob q fun z => he (hx b z), u.tups, u.frzs, u.tbls⟩
end

def trk (h : Heap) (H : Hp) : List Addr := (List.range h.objs.size).filter fun a => (H a).isSome
def hidT (h : Heap) (H : Hp) : Heap := PySem.W.hideAll h (trk h H)
theorem hidT_size (h : Heap) (H : Hp) : (hidT h H).objs.size = h.objs.size := PySem.W.hideAll_size _ _
theorem hidT_get {h : Heap} {H : Hp} {b : Addr} {o : Obj} (e : h.get? b = some o) (n : H b = none) : (hidT h H).get? b = some o :=
  PySem.W.hideAll_get _ e fun hm => by
    have q : (H b).isSome = true := (List.mem_filter.mp hm).2
    rw [n] at q; simp at q
theorem of_hidT {h : Heap} {H : Hp} {b : Addr} {o : Obj} (e : (hidT h H).get? b = some o) : h.get? b = some o ∧ H b = none := by
  have e' : h.get? b = some o := PySem.W.of_hideAll (trk h H) e
  refine ⟨e', ?_⟩
  cases q : H b with
  | none => rfl
  | some x =>
    have hm : b ∈ trk h H := List.mem_filter.mpr ⟨List.mem_range.mpr (Heap.lt_size e'), by simp [q]⟩
    have z : (hidT h H).get? b = none := PySem.W.hideAll_none (trk h H) hm
    rw [z] at e; cases e

def allNews (g h : Heap) (L : Addr) : List (Addr × Obj) := (List.range h.objs.size).filterMap fun a => if a = L ∨ (g.get? a).isSome = true then none else (h.get? a).map fun o => (a, o)
def rest (g h : Heap) (L d : Addr) : List (Addr × Obj) := (allNews g h L).filter fun p => decide (p.1 ≠ d)
end L2

namespace L2
open PySem PySem.Spec PyProof.Rows

structure Mod (K : PySem.W.Frag) (mg : Str → Option Value) (base : Heap) : Prop where
  kin : K.In base
  glob : base.Ns mainGlobals mg
  blt : ∃ mb, base.Ns builtinsNs mb ∧ ∀ x : Str, x ≠ "__name__" → mb x = bootBuiltins x
  nolimit : base.NoLimit

structure Cx where
  prog : Program
  w : World
  K : PySem.W.Frag
  mg : Str → Option Value
  base : Heap
  A : Around
  N : List Str
  s₀ : Shared
  H₀ : Hp
  env : Env
  outer : List Env
  stack : List Env
  ex : List Addr
  fn : Str → Bool
  calm : Bool
  pn : List (Addr × Obj)
  xe : Value → Shared → Prop
def frs (l : List Env) : List Addr := l.filterMap (·.frame)
abbrev Cx.fs (X : Cx) : List Addr := frs X.outer

def Vis (sc : Scope) (x : Str) : Prop := sc.names.lookup x = some .local ∨ sc.names.lookup x = some .cell ∨ sc.names.lookup x = some .free
def Loc (sc : Scope) (x : Str) : Prop := sc.names.lookup x = some .local ∨ sc.names.lookup x = some .cell
def Look (env : Env) (h : Heap) (m : Str → Option Value) (x : Str) (u : Value) : Prop :=
  (env.kindOf x = some .local ∧ m x = some u) ∨ ((env.kindOf x = some .cell ∨ env.kindOf x = some .free) ∧ ∃ c, env.cells.lookup x = some c ∧ h.IsCell c (some u))

structure Cx.Ok (X : Cx) : Prop where
  mod : Mod X.K X.mg X.base
  kind : X.env.scope.kind = .function
  glob : X.env.globals = mainGlobals
  blt : X.env.builtins = builtinsNs
  above : X.s₀.heap.objs.size ≤ X.env.locals
  inj : ∀ x y c, X.env.cells.lookup x = some c → X.env.cells.lookup y = some c → x = y
  has : ∀ x, (X.env.kindOf x = some .cell ∨ X.env.kindOf x = some .free) → ∃ c, X.env.cells.lookup x = some c
  cab : ∀ x c, X.fn x = true → X.env.cells.lookup x = some c → X.s₀.heap.objs.size ≤ c
  hd : X.calm = true → X.A.handled = none
  frames : X.A.frames = some X.stack
  stk : X.stack = X.outer ∨ (X.stack = X.env :: X.outer ∧ X.env.frame = some X.env.locals)
  exf : ∀ b ∈ X.ex, b ≠ X.env.locals ∧ ∀ x c, X.env.cells.lookup x = some c → c ≠ b
  bs : ∀ b o, X.base.get? b = some o → X.s₀.heap.get? b = some o ∧ X.H₀ b = none
  bsz : X.base.objs.size ≤ X.s₀.heap.objs.size
  noex : ∀ b o, X.base.get? b = some o → b ∉ X.ex
  exfs : ∀ b ∈ X.ex, b ∉ X.fs
  funs : X.s₀.heap.FunFrames X.base X.outer
  frf : ∀ b ∈ X.fs, X.H₀ b = none

structure Inv (X : Cx) (pins : List (Addr × Obj)) (σ : List (Option V)) (H : Hp) (s : Shared) : Prop where
  ok : X.Ok
  os : s.os = X.s₀.os
  bare : AllBare s.gens
  base : Un X.fs X.ex X.H₀ H X.s₀.heap s.heap
  loc : ∃ m, s.heap.Ns X.env.locals m ∧ ∀ (i : Nat) (x : Str) (v : V), X.N[i]? = some x → σ[i]? = some (some v) → Vis X.env.scope x → ∃ u, RelV v u ∧ Look X.env s.heap m x u
  cell : ∀ x c, X.env.cells.lookup x = some c → ∃ v, s.heap.IsCell c v
  free : H X.env.locals = none
  freeC : ∀ x c, X.env.cells.lookup x = some c → H c = none
  pin : ∀ p ∈ X.pn ++ pins, s.heap.get? p.1 = some p.2 ∧ H p.1 = none ∧ p.1 ≠ X.env.locals ∧ p.1 ∉ X.fs ∧ ∀ v, p.2.data ≠ .cell v
  hok : HOk X.prog X.w H s.heap
  len : σ.length = X.N.length

section
variable {X : Cx} {pins : List (Addr × Obj)} {σ : List (Option V)} {H H' : Hp} {s : Shared} {h' : Heap}

theorem Cx.Ok.nofr (ok : X.Ok) {b : Addr} {o : Obj} (e : X.base.get? b = some o) : b ∉ X.fs := fun hb => by
  have := (ok.funs.mem hb).1
  rw [e] at this; cases this
theorem Inv.bs (I : Inv X pins σ H s) : ∀ b o, X.base.get? b = some o → s.heap.get? b = some o ∧ H b = none := fun b o e =>
  ⟨I.base.keep b o (I.ok.bs b o e).1 (I.ok.bs b o e).2 (I.ok.nofr e) (I.ok.noex b o e), I.base.free b o (I.ok.bs b o e).1 (I.ok.bs b o e).2 (I.ok.noex b o e)⟩
theorem Inv.bk (I : Inv X pins σ H s) : ∀ b o, X.base.get? b = some o → s.heap.get? b = some o := fun b o e => (I.bs b o e).1
theorem Inv.mod (I : Inv X pins σ H s) : Mod X.K X.mg X.base := I.ok.mod
theorem Inv.kIn (I : Inv X pins σ H s) : X.K.In s.heap := I.ok.mod.kin.keeps I.bk
theorem Inv.nolimit (I : Inv X pins σ H s) : s.heap.NoLimit := I.ok.mod.nolimit.keeps I.bk
theorem Inv.lt (I : Inv X pins σ H s) : X.env.locals < s.heap.objs.size := let ⟨_, hn, _⟩ := I.loc; hn.lt
theorem Inv.sz (I : Inv X pins σ H s) : X.s₀.heap.objs.size ≤ s.heap.objs.size := Nat.le_trans I.ok.above (Nat.le_of_lt I.lt)
theorem Inv.nofs (I : Inv X pins σ H s) {a : Addr} (h : s.heap.objs.size ≤ a) : a ∉ X.fs := fun hb => by
  obtain ⟨_, o, ho, _⟩ := I.ok.funs.mem hb
  exact absurd (Nat.lt_of_lt_of_le (Heap.lt_size ho) (Nat.le_trans I.sz h)) (Nat.lt_irrefl _)
theorem Inv.cne (I : Inv X pins σ H s) : ∀ x c, X.env.cells.lookup x = some c → c ≠ X.env.locals := fun x c e z => by
  obtain ⟨v, o, ho, hd⟩ := I.cell x c e
  obtain ⟨m, ⟨o', es, ep, ho', hd', _⟩, _⟩ := I.loc
  rw [z, ho'] at ho; cases ho; rw [hd'] at hd; cases hd
theorem Inv.funs (I : Inv X pins σ H s) : s.heap.FunFrames X.base X.outer := by
  have all : ∀ (l : List Env), (∀ b ∈ frs l, b ∈ X.fs) → X.s₀.heap.FunFrames X.base l → s.heap.FunFrames X.base l := by
    intro l
    induction l with
    | nil => intro _ _; trivial
    | cons env r ih =>
      intro hs hl
      obtain ⟨hk, ⟨L, o, hf, hn, ho, hd⟩, hr⟩ := hl
      have hL : L ∈ X.fs := hs L (by unfold frs; rw [List.filterMap_cons, hf]; exact List.mem_cons_self)
      obtain ⟨sl, e⟩ := I.base.slot L o ho (I.ok.frf L hL) hL fun z => I.ok.exfs L z hL
      exact ⟨hk, ⟨L, _, hf, hn, e, hd⟩, ih (fun b hb => hs b (by unfold frs; rw [List.filterMap_cons, hf]; exact List.mem_cons_of_mem _ hb)) hr⟩
  exact all X.outer (fun _ hb => hb) I.ok.funs

theorem Inv.stack (I : Inv X pins σ H s) : s.heap.FunFrames X.base X.stack := by
  rcases I.ok.stk with e | ⟨e, hf⟩
  · rw [e]; exact I.funs
  · rw [e]
    obtain ⟨m, hn, _⟩ := I.loc
    refine .cons (by rw [I.ok.kind]; decide) hf hn ?_ I.funs
    exact Heap.get?_none_of_le (Nat.le_trans I.ok.bsz I.ok.above)
theorem Inv.stkSub (I : Inv X pins σ H s) : ∀ b ∈ frs X.stack, b ∈ X.env.locals :: X.fs := fun b hb => by
  rcases I.ok.stk with e | ⟨e, hf⟩
  · rw [e] at hb; exact List.mem_cons_of_mem _ hb
  · rw [e] at hb
    unfold frs at hb
    rw [List.filterMap_cons, hf] at hb
    exact hb
theorem Inv.stkFree (I : Inv X pins σ H s) : ∀ b ∈ frs X.stack, H b = none := fun b hb => by
  rcases List.mem_cons.mp (I.stkSub b hb) with e | hb
  · rw [e]; exact I.free
  · obtain ⟨_, o, ho, _⟩ := I.ok.funs.mem hb
    exact I.base.free b o ho (I.ok.frf b hb) fun z => I.ok.exfs b z hb

theorem Inv.step {g' : Array GenState} {t' : Nat} {d' : Drawn} {ch : List Addr} (I : Inv X pins σ H s)
    (hch : ∀ b ∈ ch, (b ∈ X.ex ∨ X.s₀.heap.objs.size ≤ b) ∧ b ≠ X.env.locals ∧ (∀ x c, X.env.cells.lookup x = some c → c ≠ b) ∧ ∀ p ∈ X.pn ++ pins, p.1 ≠ b)
    (keep : ∀ b o, b ≠ X.env.locals → b ∉ X.fs → b ∉ ch → s.heap.get? b = some o → H b = none → h'.get? b = some o)
    (slot : ∀ b o, b ≠ X.env.locals → b ∈ X.fs → b ∉ ch → s.heap.get? b = some o → H b = none → ∃ sl, h'.get? b = some { o with slots := sl }) (free : ∀ b o, b ∉ ch → s.heap.get? b = some o → H b = none → H' b = none)
    (there : ∀ b o, b ∉ ch → s.heap.get? b = some o → ∃ o', h'.get? b = some o')
    (tups : ∀ b xs, H b = some (.tup xs) → H' b = some (.tup xs)) (frzs : ∀ b o u, H b = some (.frz o u) → H' b = some (.frz o u)) (tbls : ∀ b ps, H b = some (.tbl ps) → ∃ more, H' b = some (.tbl (ps ++ more)))
    (ns : ∀ m, s.heap.Ns X.env.locals m → h'.Ns X.env.locals m) (hok : HOk X.prog X.w H' h') (hg : AllBare g') :
    Inv X pins σ H' { s with heap := h', gens := g', drawn := d', toks := t' } := by
  have neL : ∀ b o, X.s₀.heap.get? b = some o → b ≠ X.env.locals := fun b o e => Nat.ne_of_lt (Nat.lt_of_lt_of_le (Heap.lt_size e) I.ok.above)
  have neC : ∀ b o, X.s₀.heap.get? b = some o → b ∉ X.ex → b ∉ ch := fun b o e hx hb => by
    rcases (hch b hb).1 with z | z
    · exact hx z
    · exact absurd (Nat.lt_of_lt_of_le (Heap.lt_size e) z) (Nat.lt_irrefl _)
  have cellK : ∀ x c, X.env.cells.lookup x = some c → ∀ v, s.heap.IsCell c v → h'.IsCell c v := fun x c e v ⟨o, ho, hd⟩ => by
    have nch : c ∉ ch := fun z => (hch c z).2.2.1 x c e rfl
    by_cases hc : c ∈ X.fs
    · obtain ⟨sl, q⟩ := slot c o (I.cne x c e) hc nch ho (I.freeC x c e)
      exact ⟨_, q, hd⟩
    · exact ⟨o, keep c o (I.cne x c e) hc nch ho (I.freeC x c e), hd⟩
  refine ⟨I.ok, I.os, hg, ⟨fun b o e n hb hx => ?_, fun b o e n hb hx => ?_, fun b o e n hx => ?_, fun b o e hx => ?_, fun b xs e => tups b xs (I.base.tups b xs e), fun b o xs e => frzs b o xs (I.base.frzs b o xs e), fun b ps e => ?_⟩, ?_, fun x c e => ?_, ?_, fun x c e => ?_, fun p hp => ?_, hok, I.len⟩
  · exact keep b o (neL b o e) hb (neC b o e hx) (I.base.keep b o e n hb hx) (I.base.free b o e n hx)
  · obtain ⟨sl, e1⟩ := I.base.slot b o e n hb hx
    obtain ⟨sl', e2⟩ := slot b _ (neL b o e) hb (neC b o e hx) e1 (I.base.free b o e n hx)
    exact ⟨sl', e2⟩
  · obtain ⟨o', e1⟩ := I.base.there b o e hx
    exact free b o' (neC b o e hx) e1 (I.base.free b o e n hx)
  · obtain ⟨o', e1⟩ := I.base.there b o e hx
    exact there b o' (neC b o e hx) e1
  · obtain ⟨m1, e1⟩ := I.base.tbls b ps e
    obtain ⟨m2, e2⟩ := tbls b _ e1
    exact ⟨m1 ++ m2, by rw [e2, Array.append_assoc]⟩
  · obtain ⟨m, hn, hl⟩ := I.loc
    refine ⟨m, ns m hn, fun i x v e1 e2 e3 => ?_⟩
    obtain ⟨u, r, l⟩ := hl i x v e1 e2 e3
    refine ⟨u, r, ?_⟩
    rcases l with l | ⟨k, c, e, z⟩
    · exact .inl l
    · exact .inr ⟨k, c, e, cellK x c e _ z⟩
  · obtain ⟨v, z⟩ := I.cell x c e
    exact ⟨v, cellK x c e v z⟩
  · obtain ⟨m, ⟨o, _, _, ho, _⟩, _⟩ := I.loc
    exact free _ o (fun z => (hch _ z).2.1 rfl) ho I.free
  · obtain ⟨v, o, ho, hd⟩ := I.cell x c e
    exact free c o (fun z => (hch c z).2.2.1 x c e rfl) ho (I.freeC x c e)
  · obtain ⟨e, n, ne, nf, d⟩ := I.pin p hp
    have nch : p.1 ∉ ch := fun z => (hch p.1 z).2.2.2 p hp rfl
    exact ⟨keep p.1 p.2 ne nf nch e n, free p.1 p.2 nch e n, ne, nf, d⟩
theorem Inv.un {t' : Nat} (I : Inv X pins σ H s) (u : Un X.fs [] H H' s.heap h') (hok : HOk X.prog X.w H' h') : Inv X pins σ H' { s with heap := h', toks := t' } := by
  obtain ⟨m, ⟨o, es, ep, ho, r⟩, _⟩ := id I.loc
  obtain ⟨sl, hL⟩ := u.any ho I.free (by simp)
  exact I.step (g' := s.gens) (d' := s.drawn) (ch := []) (fun _ z => nomatch z) (fun b o _ hb _ e n => u.keep b o e n hb (by simp)) (fun b o _ hb _ e n => u.slot b o e n hb (by simp)) (fun b o _ e n => u.free b o e n (by simp)) (fun b o _ e => u.there b o e (by simp)) u.tups u.frzs u.tbls (fun m' hm => by
    obtain ⟨o', es', ep', ho', r'⟩ := hm
    rw [ho] at ho'; cases ho'
    exact ⟨_, es', ep', hL, r'⟩) hok I.bare
theorem Inv.call {g' : Array GenState} {t' : Nat} {d' : Drawn} {ch : List Addr} (I : Inv X pins σ H s) (u : Un (frs X.stack) ch H H' s.heap h') (hok : HOk X.prog X.w H' h') (hg : AllBare g')
    (hch : ∀ b ∈ ch, (b ∈ X.ex ∨ X.s₀.heap.objs.size ≤ b) ∧ b ≠ X.env.locals ∧ (∀ x c, X.env.cells.lookup x = some c → c ≠ b) ∧ ∀ p ∈ X.pn ++ pins, p.1 ≠ b) :
    Inv X pins σ H' { s with heap := h', gens := g', drawn := d', toks := t' } := by
  obtain ⟨m, ⟨o, es, ep, ho, r⟩, _⟩ := id I.loc
  obtain ⟨sl, hL⟩ := u.any ho I.free fun z => (hch _ z).2.1 rfl
  exact I.step (ch := ch) hch (fun b o hL hb hc e n => u.keep b o e n (fun z => (List.mem_cons.mp (I.stkSub b z)).elim hL hb) hc) (fun b o _ _ hc e n => u.any e n hc) (fun b o hc e n => u.free b o e n hc) (fun b o hc e => u.there b o e hc) u.tups u.frzs u.tbls (fun m' hm => by
    obtain ⟨o', es', ep', ho', r'⟩ := hm
    rw [ho] at ho'; cases ho'
    exact ⟨_, es', ep', hL, r'⟩) hok hg
theorem Inv.turned {t' : Nat} {it : Addr} (I : Inv X pins σ H s) (k : ∀ b o, b ≠ it → s.heap.get? b = some o → h'.get? b = some o) (hn : H it = none) (hL : it ≠ X.env.locals)
    (h1 : it ∈ X.ex ∨ X.s₀.heap.objs.size ≤ it) (h2 : ∀ x c, X.env.cells.lookup x = some c → c ≠ it) (h3 : ∀ p ∈ X.pn ++ pins, p.1 ≠ it) : Inv X pins σ H { s with heap := h', toks := t' } := by
  have nit : ∀ b u, H b = some u → b ≠ it := fun b u e z => by rw [z, hn] at e; cases e
  refine I.step (g' := s.gens) (d' := s.drawn) (ch := [it]) (fun b hb => ?_) (fun b o _ _ hc e _ => k b o (fun z => hc (by simp [z])) e) (fun b o _ _ hc e _ => ⟨o.slots, k b o (fun z => hc (by simp [z])) e⟩) (fun _ _ _ _ n => n)
    (fun b o hc e => ⟨o, k b o (fun z => hc (by simp [z])) e⟩) (fun _ _ e => e) (fun _ _ _ e => e) (fun b ps e => ⟨#[], by rw [e]; simp⟩) (fun m hm => ?_) (fun b u e => ?_) I.bare
  · have e : b = it := by simpa using hb
    subst e
    exact ⟨h1, hL, h2, h3⟩
  · obtain ⟨o, es, ep, ho, r⟩ := hm
    exact ⟨o, es, ep, k _ o (Ne.symm hL) ho, r⟩
  · refine (I.hok b u e).stay (fun c v hc q => k c v ?_ q) (fun _ q => q) fun _ _ q => q
    rcases hc with z | z
    · rw [z]; exact nit b u e
    · exact nit c _ z
theorem Inv.tok (I : Inv X pins σ H s) (t : Nat) : Inv X pins σ H { s with toks := t } := I.un (h' := s.heap) (t' := t) Un.refl I.hok
theorem Inv.kept {t' : Nat} (I : Inv X pins σ H s) (k : ∀ b u, s.heap.get? b = some u → h'.get? b = some u) : Inv X pins σ H { s with heap := h', toks := t' } := I.un (Un.kept k) (I.hok.kept k)
theorem Inv.laid {a : Addr} {o : HO} {t' : Nat} (I : Inv X pins σ H s) (k : ∀ b u, s.heap.get? b = some u → h'.get? b = some u) (hp : s.heap.objs.size ≤ a) (new : ObjOk X.prog X.w (upd H a o) h' a o) :
    Inv X pins σ (upd H a o) { s with heap := h', toks := t' } := I.un (Un.laid k hp (I.hok.fresh hp)) (I.hok.laid k hp new)
theorem Inv.write {x e : Addr} {o : HO} {t' : Nat} (I : Inv X pins σ H s) (mu : Mut (H x)) (he : e = x ∨ H e = some (.own x)) (k : ∀ b u, b ≠ e → s.heap.get? b = some u → h'.get? b = some u) (heo : ∃ u, h'.get? e = some u)
    (new : ObjOk X.prog X.w (upd H x o) h' x o) : Inv X pins σ (upd H x o) { s with heap := h', toks := t' } := I.un (Un.write mu he k heo) (I.hok.write mu he k heo new)
theorem Inv.pins_of {pins' : List (Addr × Obj)} (I : Inv X pins σ H s) (h : ∀ p ∈ pins', s.heap.get? p.1 = some p.2 ∧ H p.1 = none ∧ p.1 ≠ X.env.locals ∧ p.1 ∉ X.fs ∧ ∀ v, p.2.data ≠ .cell v) : Inv X pins' σ H s :=
  ⟨I.ok, I.os, I.bare, I.base, I.loc, I.cell, I.free, I.freeC, fun p hp => (List.mem_append.mp hp).elim (fun z => I.pin p (List.mem_append_left _ z)) (h p), I.hok, I.len⟩

theorem nodup_ix {N : List Str} (hN : N.Nodup) {i j : Nat} {x : Str} (a : N[i]? = some x) (b : N[j]? = some x) : i = j := by
  obtain ⟨h1, e1⟩ := List.getElem?_eq_some_iff.mp a
  obtain ⟨h2, e2⟩ := List.getElem?_eq_some_iff.mp b
  exact (List.getElem_inj hN).mp (e1.trans e2.symm)

theorem store_ok2 {M : Model} {A : Around} {E : Value → Shared → Prop} {i : Nat} {x : Str} {v : V} {u : Value} {Q : Unit → Shared → Prop} (I : Inv X pins σ H s) (hN : X.N.Nodup) (hi : X.N[i]? = some x) (hx : Loc X.env.scope x) (r : RelV v u)
    (h : ∀ s', Inv X pins (σ.set i (some v)) H s' → (∃ a, Heap.SameBut a s.heap s'.heap ∧ (a = X.env.locals ∨ X.env.cells.lookup x = some a)) → Q () s') (hf : X.fn x = true ∨ X.env.scope.names.lookup x = some .local := by first | exact .inl rfl | exact .inr rfl | assumption) : wpAny M A (storeName X.env x u) Q E s := by
  obtain ⟨m, hn, hl⟩ := id I.loc
  have hcls : (X.env.scope.kind == .class || (X.env.scope.kind == .module && X.env.locals != X.env.globals)) = false := by rw [I.ok.kind]; rfl
  have hiσ : i < σ.length := by rw [I.len]; exact (List.getElem?_eq_some_iff.mp hi).1
  have cne := I.cne
  have tracked : ∀ {a : Addr} {h' : Heap}, (∃ o, s.heap.get? a = some o ∧ H a = none) → Heap.SameBut a s.heap h' → HOk X.prog X.w H h' := fun {a h'} ha hs b ob e => by
    obtain ⟨_, _, hfree⟩ := ha
    refine (I.hok b ob e).stay (fun c w' hc q => (hs.2 c ?_).trans q) (fun _ q => q) fun _ _ q => q
    rintro rfl
    rcases hc with rfl | hc
    · rw [hfree] at e; cases e
    · rw [hfree] at hc; cases hc
  rcases hx with hk | hk
  · refine wpAny_storeName_local hk hn (fun h' hn' hs => ?_) hcls
    obtain ⟨oL, _, _, hoL, _⟩ := id hn
    refine h _ ⟨I.ok, I.os, I.bare, ⟨fun b o e n hb hx => ?_, fun b o e n hb hx => ?_, I.base.free, fun b o e hx => ?_, I.base.tups, I.base.frzs, I.base.tbls⟩, ⟨_, hn', fun j y v' e1 e2 e3 => ?_⟩, fun y c e => ?_, I.free, I.freeC, fun p hp => ?_, tracked ⟨oL, hoL, I.free⟩ hs, by simpa using I.len⟩ ⟨_, hs, .inl rfl⟩
    · exact (hs.2 b (Nat.ne_of_lt (Nat.lt_of_lt_of_le (Heap.lt_size e) I.ok.above))).trans (I.base.keep b o e n hb hx)
    · obtain ⟨sl, e1⟩ := I.base.slot b o e n hb hx
      exact ⟨sl, (hs.2 b (Nat.ne_of_lt (Nat.lt_of_lt_of_le (Heap.lt_size e) I.ok.above))).trans e1⟩
    · obtain ⟨o', e1⟩ := I.base.there b o e hx
      exact ⟨o', (hs.2 b (Nat.ne_of_lt (Nat.lt_of_lt_of_le (Heap.lt_size e) I.ok.above))).trans e1⟩
    · by_cases hj : j = i
      · subst hj
        rw [hi] at e1; cases e1
        rw [List.getElem?_set_self hiσ] at e2
        cases e2
        exact ⟨u, r, .inl ⟨hk, by simp⟩⟩
      · rw [List.getElem?_set_ne (Ne.symm hj)] at e2
        obtain ⟨u', r', q⟩ := hl j y v' e1 e2 e3
        refine ⟨u', r', ?_⟩
        rcases q with ⟨k, e⟩ | ⟨k, c, e, z⟩
        · refine .inl ⟨k, ?_⟩
          have : y ≠ x := fun e => hj (nodup_ix hN e1 (e ▸ hi))
          simp [this, e]
        · exact .inr ⟨k, c, e, z.sameBut hs (cne y c e)⟩
    · obtain ⟨w', z⟩ := I.cell y c e
      exact ⟨w', z.sameBut hs (cne y c e)⟩
    · obtain ⟨e, n, ne, nf, d⟩ := I.pin p hp
      exact ⟨(hs.2 p.1 ne).trans e, n, ne, nf, d⟩
  · have hfn : X.fn x = true := by
      rcases hf with z | z
      · exact z
      · rw [z] at hk; cases hk
    obtain ⟨c, hc⟩ := I.ok.has x (.inl hk)
    obtain ⟨w', z⟩ := I.cell x c hc
    refine wpAny_storeName_cell I.ok.kind hk hc z (fun h' hc' hs => ?_)
    obtain ⟨oc, hoc, hocd⟩ := id z
    refine h { s with heap := h' } ⟨I.ok, I.os, I.bare, ⟨fun b o e n hb hx => ?_, fun b o e n hb hx => ?_, I.base.free, fun b o e hx => ?_, I.base.tups, I.base.frzs, I.base.tbls⟩, ⟨m, hn.sameBut hs (Ne.symm (cne x c hc)), fun j y v' e1 e2 e3 => ?_⟩, fun y c' e => ?_, I.free, I.freeC, fun p hp => ?_, tracked ⟨oc, hoc, I.freeC x c hc⟩ hs, by simpa using I.len⟩ ⟨c, hs, .inr hc⟩
    · exact (hs.2 b (Nat.ne_of_lt (Nat.lt_of_lt_of_le (Heap.lt_size e) (I.ok.cab x c hfn hc)))).trans (I.base.keep b o e n hb hx)
    · obtain ⟨sl, e1⟩ := I.base.slot b o e n hb hx
      exact ⟨sl, (hs.2 b (Nat.ne_of_lt (Nat.lt_of_lt_of_le (Heap.lt_size e) (I.ok.cab x c hfn hc)))).trans e1⟩
    · obtain ⟨o', e1⟩ := I.base.there b o e hx
      exact ⟨o', (hs.2 b (Nat.ne_of_lt (Nat.lt_of_lt_of_le (Heap.lt_size e) (I.ok.cab x c hfn hc)))).trans e1⟩
    · by_cases hj : j = i
      · subst hj
        rw [hi] at e1; cases e1
        rw [List.getElem?_set_self hiσ] at e2
        cases e2
        exact ⟨u, r, .inr ⟨.inl hk, c, hc, hc'⟩⟩
      · rw [List.getElem?_set_ne (Ne.symm hj)] at e2
        obtain ⟨u', r', q⟩ := hl j y v' e1 e2 e3
        refine ⟨u', r', ?_⟩
        rcases q with q | ⟨k, c', e, z'⟩
        · exact .inl q
        · refine .inr ⟨k, c', e, z'.sameBut hs ?_⟩
          rintro rfl
          exact hj (nodup_ix hN e1 (I.ok.inj _ _ _ e hc ▸ hi))
    · by_cases hcc : c' = c
      · subst hcc; exact ⟨_, hc'⟩
      · obtain ⟨w2, z2⟩ := I.cell y c' e
        exact ⟨w2, z2.sameBut hs hcc⟩
    · obtain ⟨e, n, ne, nf, d⟩ := I.pin p hp
      refine ⟨(hs.2 p.1 ?_).trans e, n, ne, nf, d⟩
      intro q
      rw [q, hoc] at e
      have q' : oc = p.2 := Option.some.inj e
      exact d w' (by rw [← q']; exact hocd)
theorem store_ok {M : Model} {A : Around} {E : Value → Shared → Prop} {i : Nat} {x : Str} {v : V} {u : Value} {Q : Unit → Shared → Prop} (I : Inv X pins σ H s) (hN : X.N.Nodup) (hi : X.N[i]? = some x) (hx : Loc X.env.scope x) (r : RelV v u)
    (h : ∀ s', Inv X pins (σ.set i (some v)) H s' → Q () s') (hf : X.fn x = true ∨ X.env.scope.names.lookup x = some .local := by first | exact .inl rfl | exact .inr rfl | assumption) : wpAny M A (storeName X.env x u) Q E s :=
  store_ok2 I hN hi hx r (fun s' I' _ => h s' I') hf
theorem Inv.call' {s' : Shared} {ch : List Addr} (I : Inv X pins σ H s) (ho : s'.os = s.os) (u : Un (frs X.stack) ch H H' s.heap s'.heap) (hok : HOk X.prog X.w H' s'.heap) (hg : AllBare s'.gens)
    (hch : ∀ b ∈ ch, (b ∈ X.ex ∨ X.s₀.heap.objs.size ≤ b) ∧ b ≠ X.env.locals ∧ (∀ x c, X.env.cells.lookup x = some c → c ≠ b) ∧ ∀ p ∈ X.pn ++ pins, p.1 ≠ b) : Inv X pins σ H' s' := by
  obtain ⟨h', g', d', t', o'⟩ := s'
  have e : o' = s.os := ho
  subst e
  exact I.call (g' := g') (t' := t') (d' := d') u hok hg hch
end

abbrev XK := Value → Option Addr → Hp → Prop
abbrev St := List (Option V)
abbrev VK := V → Hp → Prop
abbrev TE := St → Hp → VK → Prop
abbrev TT := St → Hp → (Bool → Hp → Prop) → Prop
abbrev TA := St → Hp → (List V → Hp → Prop) → Prop
structure Ends where
  nx : St → Hp → Prop
  rt : VK
  bk : St → Hp → Prop := fun _ _ => False
  ct : St → Hp → Prop := fun _ _ => False
abbrev TS := Ends → St → Hp → Prop

def EP (X : Cx) (pins : List (Addr × Obj)) (σ : St) (Q : VK) (u : Value) (s' : Shared) : Prop := ∃ v H', Inv X pins σ H' s' ∧ RelV v u ∧ Q v H'
def TP (X : Cx) (pins : List (Addr × Obj)) (σ : St) (Q : Bool → Hp → Prop) (b : Bool) (s' : Shared) : Prop := ∃ H', Inv X pins σ H' s' ∧ Q b H'
def AP (X : Cx) (pins : List (Addr × Obj)) (σ : St) (Q : List V → Hp → Prop) (us : List Value) (s' : Shared) : Prop := ∃ vs H', Inv X pins σ H' s' ∧ Vals vs us ∧ Q vs H'
def SP (X : Cx) (pins : List (Addr × Obj)) (D : Ends) (f : Flow) (s' : Shared) : Prop :=
  match f with
  | .next => ∃ σ' H', Inv X pins σ' H' s' ∧ D.nx σ' H'
  | .brk => ∃ σ' H', Inv X pins σ' H' s' ∧ D.bk σ' H'
  | .cont => ∃ σ' H', Inv X pins σ' H' s' ∧ D.ct σ' H'
  | .ret u => ∃ v σ' H', Inv X pins σ' H' s' ∧ RelV v u ∧ D.rt v H'

def PE (X : Cx) (e : Expr) (t : TE) : Prop :=
  ∀ (pins : List (Addr × Obj)) (s : Shared) (σ : St) (H : Hp) (Q : VK), Inv X pins σ H s → t σ H Q → wpAny (model X.prog X.w) X.A (eval e X.env) (EP X pins σ Q) X.xe s
def PT (X : Cx) (e : Expr) (t : TT) : Prop :=
  ∀ (pins : List (Addr × Obj)) (s : Shared) (σ : St) (H : Hp) (Q : Bool → Hp → Prop), Inv X pins σ H s → t σ H Q → wpAny (model X.prog X.w) X.A (isTrue e X.env (eval e X.env)) (TP X pins σ Q) X.xe s
def PW (X : Cx) (e : Expr) (t : TT) : Prop :=
  ∀ (whole : Sem Value) (pins : List (Addr × Obj)) (s : Shared) (σ : St) (H : Hp) (Q : Bool → Hp → Prop), Inv X pins σ H s → t σ H Q → wpAny (model X.prog X.w) X.A (isTrue e X.env whole) (TP X pins σ Q) X.xe s
theorem PW.pt {X : Cx} {e : Expr} {t : TT} (h : PW X e t) : PT X e t := h _
def PA (X : Cx) (es : List Expr) (t : TA) : Prop :=
  ∀ (pos : Pos) (pins : List (Addr × Obj)) (s : Shared) (σ : St) (H : Hp) (Q : List V → Hp → Prop), Inv X pins σ H s → t σ H Q → wpAny (model X.prog X.w) X.A (spliced (backTo pos (starEach es X.env))) (AP X pins σ Q) X.xe s
def PS (X : Cx) (st : Stmt) (t : TS) : Prop :=
  ∀ (pins : List (Addr × Obj)) (s : Shared) (σ : St) (H : Hp) (D : Ends), Inv X pins σ H s → t D σ H → wpAny (model X.prog X.w) X.A (exec st X.env) (SP X pins D) X.xe s
def PSs (X : Cx) (st : List Stmt) (t : TS) : Prop :=
  ∀ (pins : List (Addr × Obj)) (s : Shared) (σ : St) (H : Hp) (D : Ends), Inv X pins σ H s → t D σ H → wpAny (model X.prog X.w) X.A (execs st X.env) (SP X pins D) X.xe s
theorem thn {α : Type} {t : Sem α} {Q Q' : α → Shared → Prop} {M : Model} {A : Around} {E : Value → Shared → Prop} {s : Shared} (h : wpAny M A t Q E s) (hQ : ∀ a s, Q a s → Q' a s) : wpAny M A t Q' E s := wpAny_mono h hQ fun _ _ x => x
end L2

namespace L2
open PySem PySem.Spec PyProof.Rows
section
variable {X : Cx}

def tVar (i : Nat) : TE := fun σ H Q => ∃ v, σ[i]? = some (some v) ∧ Q v H
def tC (v : V) : TE := fun _ H Q => Q v H
theorem pe_var {i : Nat} {x : Str} {pos : Pos} (hN : X.N[i]? = some x) (hv : Vis X.env.scope x) (hd : (x == ("__debug__" : Str)) = false := by decide) (hcd : (x == ("__classdict__" : Str)) = false := by decide) : PE X (.Name x pos) (tVar i) := by
  intro pins s σ H Q I h
  obtain ⟨v, e, h⟩ := h
  obtain ⟨m, hn, hl⟩ := I.loc
  obtain ⟨u, r, l⟩ := hl i x v hN e hv
  have fin : EP X pins σ Q u s := ⟨v, H, I, r, h⟩
  rcases l with ⟨hk, hm⟩ | ⟨hk, c, hc, hcell⟩
  · exact wpAny_Name (wpAny_loadName_local I.ok.kind hk hn hm fin) hd
  · rcases hk with hk | hk
    · exact wpAny_Name (wpAny_loadName_cell I.ok.kind hk hc hcell fin) hd
    · exact wpAny_Name (wpAny_loadName_free I.ok.kind hk hc hcell fin hcd) hd
theorem pe_int {i j pos} : PE X (.Constant (.int i) j pos) (tC (.int i)) := fun _ _ _ H _ I h => wpAny_Constant_int ⟨.int i, H, I.tok _, ⟨_, rfl⟩, h⟩
theorem pe_bl {b j pos} : PE X (.Constant (.bool b) j pos) (tC (.bl b)) := fun _ _ _ H _ I h => Constant_bool ⟨.bl b, H, I, rfl, h⟩
theorem pe_non {j pos} : PE X (.Constant .none j pos) (tC .non) := fun _ _ _ H _ I h => Constant_none ⟨.non, H, I, rfl, h⟩
theorem pe_str {x j pos} : PE X (.Constant (.str x) j pos) (tC (.str x)) := fun _ _ _ H _ I h => Calls.Constant_str ⟨.str x, H, I.tok _, ⟨_, rfl⟩, h⟩

def Gl (X : Cx) (x : Str) : Prop := X.env.kindOf x = some .globalImplicit
theorem ld_glob {E : Value → Shared → Prop} {pins : List (Addr × Obj)} {s : Shared} {σ : St} {H : Hp} {x : Str} {u : Value} {pos : Pos} {Q : Value → Shared → Prop} (I : Inv X pins σ H s) (hg : Gl X x) (hm : X.mg x = some u) (h : Q u s)
    (hd : (x == ("__debug__" : Str)) = false := by decide) : wpAny (model X.prog X.w) X.A (eval (.Name x pos) X.env) Q E s :=
  Calls.Name_function_global I.ok.kind hg (Calls.loadGlobal_global (by rw [I.ok.glob]; exact I.mod.glob.keeps I.bk) hm h) hd
theorem ld_blt {E : Value → Shared → Prop} {pins : List (Addr × Obj)} {s : Shared} {σ : St} {H : Hp} {x : Str} {u : Value} {pos : Pos} {Q : Value → Shared → Prop} (I : Inv X pins σ H s) (hg : Gl X x) (hm : X.mg x = none) (hv : bootBuiltins x = some u) (h : Q u s)
    (hn : x ≠ "__name__" := by decide) (hd : (x == ("__debug__" : Str)) = false := by decide) : wpAny (model X.prog X.w) X.A (eval (.Name x pos) X.env) Q E s := by
  obtain ⟨mb, h1, h2⟩ := I.mod.blt
  exact Calls.Name_function_global I.ok.kind hg (Calls.loadGlobal_builtin (by rw [I.ok.glob]; exact I.mod.glob.keeps I.bk) hm (by rw [I.ok.blt]; exact h1.keeps I.bk) ((h2 x hn).trans hv) h) hd
theorem pe_glob {x : Str} {v : V} {u : Value} {pos : Pos} (hg : Gl X x) (hm : X.mg x = some u) (r : RelV v u) (hd : (x == ("__debug__" : Str)) = false := by decide) : PE X (.Name x pos) (tC v) :=
  fun _ _ _ H _ I h => ld_glob I hg hm ⟨v, H, I, r, h⟩ hd
theorem pe_bltn {x : Str} {v : V} {u : Value} {pos : Pos} (hg : Gl X x) (hm : X.mg x = none) (hv : bootBuiltins x = some u) (r : RelV v u) (hn : x ≠ "__name__" := by decide) (hd : (x == ("__debug__" : Str)) = false := by decide) : PE X (.Name x pos) (tC v) :=
  fun _ _ _ H _ I h => ld_blt I hg hm hv ⟨v, H, I, r, h⟩ hn hd

variable {a b : Expr} {ta tb : TE} {pos : Pos}
def PC (X : Cx) (op : CmpOp) (a b : Expr) (t : TE) : Prop :=
  ∀ (pins : List (Addr × Obj)) (s : Shared) (σ : St) (H : Hp) (Q : VK), Inv X pins σ H s → t σ H Q →
    wpAny (model X.prog X.w) X.A (eval a X.env) (fun v s₁ => wpAny (model X.prog X.w) X.A (eval b X.env) (fun u s₂ => wpAny (model X.prog X.w) X.A (compareOp op v u) (EP X pins σ Q) X.xe s₂) X.xe s₁) X.xe s
theorem nobehind (b : Expr) {op : CmpOp} (h : op ≠ .In) (h2 : op ≠ .NotIn) : behindInMarks op b = false := by
  have e1 : (op == CmpOp.In) = false := by cases op <;> first | rfl | exact absurd rfl h
  have e2 : (op == CmpOp.NotIn) = false := by cases op <;> first | rfl | exact absurd rfl h2
  cases b <;> simp [behindInMarks, e1, e2]
def tB (t : TE) : TT := fun σ H Q => t σ H fun x H1 => ∃ c, x = .bl c ∧ Q c H1
theorem pt_cmp {op : CmpOp} {t : TE} (h : PC X op a b t) (h1 : behindInMarks op b = false := by first | exact nobehind _ (by decide) (by decide) | rfl) : PT X (.Compare a [op] [b] pos) (tB t) := by
  intro pins s σ H Q I hw
  refine wpAny_isTrue_Compare1 (thn (h pins s σ H _ I hw) fun v s1 h1 => thn h1 fun u s2 h2 => thn h2 fun c s3 ⟨x, H1, I1, r1, q1⟩ => ?_) h1
  obtain ⟨d, rfl, q⟩ := q1
  cases r1
  exact wpAny_truthy_bool ⟨H1, I1, q⟩
variable {tA tB' : TT} {rest : List Expr}
def tAnd (t u : TT) : TT := fun σ H Q => t σ H fun c H1 => if c = true then u σ H1 Q else Q false H1
def tOr (t u : TT) : TT := fun σ H Q => t σ H fun c H1 => if c = true then Q true H1 else u σ H1 Q
def tNot (t : TT) : TT := fun σ H Q => t σ H fun c H1 => Q (!c) H1
theorem pw_and1 (ha : PT X a tA) : PW X (.BoolOp .And [a] pos) tA := by
  intro wh pins s σ H Q I h
  refine isTrue_and (thn (ha pins s σ H Q I h) fun c s1 e => ?_)
  cases c with
  | true => exact isTrue_and_nil e
  | false => exact e
theorem pw_or1 (ha : PT X a tA) : PW X (.BoolOp .Or [a] pos) tA := by
  intro wh pins s σ H Q I h
  refine isTrue_or (thn (ha pins s σ H Q I h) fun c s1 e => ?_)
  cases c with
  | false => exact isTrue_or_nil e
  | true => exact e
theorem pw_and (ha : PT X a tA) (hb : PW X (.BoolOp .And (b :: rest) pos) tB') : PW X (.BoolOp .And (a :: b :: rest) pos) (tAnd tA tB') := by
  intro wh pins s σ H Q I h
  refine isTrue_and (thn (ha pins s σ H _ I h) fun c s1 ⟨H1, I1, q1⟩ => ?_)
  cases c with
  | true => exact hb wh pins s1 σ H1 Q I1 q1
  | false => exact ⟨H1, I1, q1⟩
theorem pw_or (ha : PT X a tA) (hb : PW X (.BoolOp .Or (b :: rest) pos) tB') : PW X (.BoolOp .Or (a :: b :: rest) pos) (tOr tA tB') := by
  intro wh pins s σ H Q I h
  refine isTrue_or (thn (ha pins s σ H _ I h) fun c s1 ⟨H1, I1, q1⟩ => ?_)
  cases c with
  | true => exact ⟨H1, I1, q1⟩
  | false => exact hb wh pins s1 σ H1 Q I1 q1
theorem pt_not (ha : PT X a tA) : PT X (.UnaryOp .Not a pos) (tNot tA) := by
  intro pins s σ H Q I h
  exact isTrue_not (ha pins s σ H (fun c H1 => Q (!c) H1) I h)
def tAndV (ta tb : TE) : TE := fun σ H Q => ta σ H fun x H1 => ∃ c, x = .bl c ∧ if c = true then tb σ H1 Q else Q (.bl false) H1
def tNotV (ta : TE) : TE := fun σ H Q => ta σ H fun x H1 => ∃ c, x = .bl c ∧ Q (.bl (!c)) H1
theorem pe_one {op} {t : TE} (h : PE X a t) : PE X (.BoolOp op [a] pos) t := fun pins s σ H Q I hw => BoolOp_one (h pins s σ H Q I hw)
theorem pe_and (ha : PE X a ta) (hb : PE X (.BoolOp .And (b :: rest) pos) tb) : PE X (.BoolOp .And (a :: b :: rest) pos) (tAndV ta tb) := by
  intro pins s σ H Q I h
  refine BoolOp_and (thn (ha pins s σ H _ I h) fun v s1 ⟨x, H1, I1, r1, q1⟩ => ?_)
  obtain ⟨c, rfl, q1⟩ := q1
  cases r1
  refine wpAny_truthy_bool ?_
  cases c with
  | true => exact hb pins s1 σ H1 Q I1 q1
  | false => exact ⟨.bl false, H1, I1, rfl, q1⟩
theorem pe_not (ha : PE X a ta) : PE X (.UnaryOp .Not a pos) (tNotV ta) := by
  intro pins s σ H Q I h
  refine UnaryOp_ (thn (ha pins s σ H _ I h) fun v s1 ⟨x, H1, I1, r1, q1⟩ => ?_)
  obtain ⟨c, rfl, q1⟩ := q1
  cases r1
  exact not_of (wpAny_truthy_bool ⟨.bl (!c), H1, I1, rfl, q1⟩)
def tIf (t : TT) (ta tb : TE) : TE := fun σ H Q => t σ H fun c H1 => if c = true then ta σ H1 Q else tb σ H1 Q
theorem pe_ifExp {c : Expr} (hc : PT X c tA) (ha : PE X a ta) (hb : PE X b tb) : PE X (.IfExp c a b pos) (tIf tA ta tb) := by
  intro pins s σ H Q I h
  refine wpAny_IfExp (thn (hc pins s σ H _ I h) fun d s1 ⟨H1, I1, q1⟩ => ?_)
  cases d with
  | true => exact ha pins s1 σ H1 Q I1 q1
  | false => exact hb pins s1 σ H1 Q I1 q1
end
end L2

namespace L2
open PySem PySem.Spec PyProof.Rows

def SqL (K : PySem.W.Frag) (H : Hp) (a : Addr) (xs : List V) : Prop :=
  Rd H a (.lst xs) ∨
    ∃ (o : Obj) (its : Array Value) (n : Nat), K.lookup a = some o ∧ o.cls = .type "list" ∧ o.dict = none ∧ o.data = .seq its n ∧ its.size ≤ sizeLine ∧ Vals xs its.toList
def SqT (K : PySem.W.Frag) (H : Hp) (a : Addr) (xs : List V) : Prop :=
  Rd H a (.tup xs) ∨
    ∃ (o : Obj) (its : Array Value) (n : Nat), K.lookup a = some o ∧ o.cls = .type "tuple" ∧ o.data = .seq its n ∧ its.size ≤ sizeLine ∧ Vals xs its.toList
def absV : Value → Option V
  | .none => some .non
  | .bool b => some (.bl b)
  | .int i _ => some (.int i)
  | .str x _ => some (.str x)
  | .bytes b _ => some (.byt b)
  | .float b _ => some (.flt b)
  | .ref a => some (.ref a)
  | .type n => some (.ty n)
  | _ => none
theorem RelV.abs {x : V} {u : Value} (r : RelV x u) : absV u = some x := by
  cases x with
  | non => cases r; rfl
  | bl _ => cases r; rfl
  | int _ => obtain ⟨t, rfl⟩ := r; rfl
  | str _ => obtain ⟨t, rfl⟩ := r; rfl
  | byt _ => obtain ⟨t, rfl⟩ := r; rfl
  | flt _ => obtain ⟨t, rfl⟩ := r; rfl
  | ref _ => cases r; rfl
  | ty _ => cases r; rfl
theorem RelV.inj {x y : V} {u : Value} (r : RelV x u) (q : RelV y u) : x = y := Option.some.inj (r.abs.symm.trans q.abs)
theorem Vals.inj : ∀ {xs ys : List V} {us : List Value}, Vals xs us → Vals ys us → xs = ys
  | _, _, _, .nil, .nil => rfl
  | _, _, _, .cons r t, .cons r' t' => by rw [r.inj r', Vals.inj t t']
section
variable {X : Cx} {pins : List (Addr × Obj)} {σ : St} {H : Hp} {s : Shared} {a : Addr} {xs ys : List V}
theorem SqL.of {K : PySem.W.Frag} (h : H a = some (.lst xs)) : SqL K H a xs := .inl (.inl h)
theorem SqT.of {K : PySem.W.Frag} (h : H a = some (.tup xs)) : SqT K H a xs := .inl (.inl h)
theorem Inv.list (I : Inv X pins σ H s) (h : SqL X.K H a xs) : ∃ its : List Value, Vals xs its ∧ PlainL s.heap a its.toArray ∧ xs.length ≤ sizeLine := by
  rcases h with h | ⟨o, its, n, hk, hc, hd, hs, hz, r⟩
  · obtain ⟨z, its, n, r, e⟩ := h.ok I.hok
    exact ⟨its, r, ⟨_, n, e, rfl, rfl, rfl⟩, z⟩
  · refine ⟨its.toList, r, ⟨o, n, I.kIn a o hk, hc, hd, by simpa using hs⟩, ?_⟩
    have e := r.length
    simp only [Array.length_toList] at e
    omega
theorem Inv.tuple (I : Inv X pins σ H s) (h : SqT X.K H a xs) : ∃ its : List Value, Vals xs its ∧ IsTup s.heap a its.toArray ∧ xs.length ≤ sizeLine := by
  rcases h with h | ⟨o, its, n, hk, hc, hs, hz, r⟩
  · obtain ⟨z, its, r, p⟩ := h.ok I.hok
    exact ⟨its, r, p, z⟩
  · refine ⟨its.toList, r, ⟨o, I.kIn a o hk, hc, n, by simpa using hs⟩, ?_⟩
    have e := r.length
    simp only [Array.length_toList] at e
    omega
theorem Inv.list_inj (I : Inv X pins σ H s) (h : SqL X.K H a xs) (h' : SqL X.K H a ys) : xs = ys := by
  obtain ⟨its, r, ⟨o, n, e, _, _, d⟩, _⟩ := I.list h
  obtain ⟨its', r', ⟨o', n', e', _, _, d'⟩, _⟩ := I.list h'
  rw [e] at e'; cases e'
  rw [d] at d'
  injection d' with d1 _
  have : its = its' := by simpa using congrArg Array.toList d1
  subst this
  exact r.inj r'
theorem Inv.tuple_inj (I : Inv X pins σ H s) (h : SqT X.K H a xs) (h' : SqT X.K H a ys) : xs = ys := by
  obtain ⟨its, r, ⟨o, e, _, n, d⟩, _⟩ := I.tuple h
  obtain ⟨its', r', ⟨o', e', _, n', d'⟩, _⟩ := I.tuple h'
  rw [e] at e'; cases e'
  rw [d] at d'
  injection d' with d1 _
  have : its = its' := by simpa using congrArg Array.toList d1
  subst this
  exact r.inj r'
end

abbrev Cx.wish (X : Cx) (E : Value → Shared → Prop) : Cx := { X with xe := E }
abbrev Cx.nox (X : Cx) : Cx := X.wish fun _ _ => False
theorem Cx.Ok.wish {X : Cx} (ok : X.Ok) (E : Value → Shared → Prop) : (X.wish E).Ok :=
  ⟨ok.mod, ok.kind, ok.glob, ok.blt, ok.above, ok.inj, ok.has, ok.cab, ok.hd, ok.frames, ok.stk, ok.exf, ok.bs, ok.bsz, ok.noex, ok.exfs, ok.funs, ok.frf⟩
theorem Cx.Ok.unwish {X : Cx} {E : Value → Shared → Prop} (ok : (X.wish E).Ok) : X.Ok :=
  ⟨ok.mod, ok.kind, ok.glob, ok.blt, ok.above, ok.inj, ok.has, ok.cab, ok.hd, ok.frames, ok.stk, ok.exf, ok.bs, ok.bsz, ok.noex, ok.exfs, ok.funs, ok.frf⟩
section
variable {X : Cx} {pins : List (Addr × Obj)} {σ : St} {H : Hp} {s : Shared} {E : Value → Shared → Prop}
theorem Inv.wish (I : Inv X pins σ H s) (E : Value → Shared → Prop) : Inv (X.wish E) pins σ H s := ⟨I.ok.wish E, I.os, I.bare, I.base, I.loc, I.cell, I.free, I.freeC, I.pin, I.hok, I.len⟩
theorem Inv.unwish (I : Inv (X.wish E) pins σ H s) : Inv X pins σ H s := ⟨I.ok.unwish, I.os, I.bare, I.base, I.loc, I.cell, I.free, I.freeC, I.pin, I.hok, I.len⟩
theorem SP.unwish {D : Ends} {f : Flow} {s' : Shared} (h : SP (X.wish E) pins D f s') : SP X pins D f s' := by
  cases f with
  | next => obtain ⟨σ', H', I, q⟩ := h; exact ⟨σ', H', I.unwish, q⟩
  | brk => obtain ⟨σ', H', I, q⟩ := h; exact ⟨σ', H', I.unwish, q⟩
  | cont => obtain ⟨σ', H', I, q⟩ := h; exact ⟨σ', H', I.unwish, q⟩
  | ret u => obtain ⟨v, σ', H', I, r, q⟩ := h; exact ⟨v, σ', H', I.unwish, r, q⟩
theorem PE.nox {e : Expr} {t : TE} (h : PE X.nox e t) : PE X e t := fun pins s σ H Q I hw =>
  wpAny_mono (h pins s σ H Q (I.wish _) hw) (fun _ _ ⟨v, H', I', r, q⟩ => ⟨v, H', I'.unwish, r, q⟩) fun _ _ z => False.elim z
theorem PT.nox {e : Expr} {t : TT} (h : PT X.nox e t) : PT X e t := fun pins s σ H Q I hw =>
  wpAny_mono (h pins s σ H Q (I.wish _) hw) (fun _ _ ⟨H', I', q⟩ => ⟨H', I'.unwish, q⟩) fun _ _ z => False.elim z
theorem PSs.nox {st : List Stmt} {t : TS} (h : PSs X.nox st t) : PSs X st t := fun pins s σ H D I hw =>
  wpAny_mono (h pins s σ H D (I.wish _) hw) (fun _ _ q => q.unwish) fun _ _ z => False.elim z
end

section
variable {X : Cx} {st : Stmt} {rest : List Stmt} {t u : TS} {e : Expr} {te : TE} {pos : Pos}
def tNext : TS := fun D σ H => D.nx σ H
def tSeq (t u : TS) : TS := fun D σ H => t { D with nx := u D } σ H
theorem pss_nil : PSs X [] tNext := fun _ _ σ H _ I h => wpAny_execs_nil ⟨σ, H, I, h⟩
theorem pss_cons (h1 : PS X st t) (h2 : PSs X rest u) : PSs X (st :: rest) (tSeq t u) := by
  intro pins s σ H D I h
  refine wpAny_execs_cons (thn (h1 pins s σ H { D with nx := u D } I h) fun f s1 q => ?_)
  cases f with
  | next =>
    obtain ⟨σ', H', I', q⟩ := q
    exact h2 pins s1 σ' H' D I' q
  | ret v => exact q
  | brk => exact q
  | cont => exact q
theorem pss_one (h1 : PS X st t) : PSs X [st] t := by
  intro pins s σ H D I h
  refine wpAny_execs_cons (thn (h1 pins s σ H D I h) fun f s1 q => ?_)
  cases f with
  | next => exact wpAny_execs_nil q
  | ret v => exact q
  | brk => exact q
  | cont => exact q
theorem Inv.quiet {pins : List (Addr × Obj)} {σ : St} {H : Hp} {s : Shared} (I : Inv X pins σ H s) : interactive X.env = false := by simp [interactive, I.ok.kind]
def tDrop (te : TE) : TS := fun D σ H => te σ H fun _ H1 => D.nx σ H1
theorem ps_expr (he : PE X e te) (hs : swapsWith e none pos.line X.env = pure false := by rfl) : PS X (.Expr e pos) (tDrop te) := by
  intro pins s σ H D I h
  exact wpAny_Expr_any (thn (he pins s σ H _ I h) fun v s1 ⟨x, H1, I1, r1, q1⟩ => ⟨σ, H1, I1, q1⟩) I.quiet hs
def tRet (te : TE) : TS := fun D σ H => te σ H D.rt
theorem ps_ret (he : PE X e te) : PS X (.Return (some e) pos) (tRet te) := by
  intro pins s σ H D I h
  exact wpAny_Return_some (thn (he pins s σ H _ I h) fun v s1 ⟨x, H1, I1, r1, q1⟩ => ⟨x, σ, H1, I1, r1, q1⟩)
def tIfS (c : TT) (t u : TS) : TS := fun D σ H => c σ H fun b H1 => if b = true then t D σ H1 else u D σ H1
theorem ps_if {c : Expr} {a b : List Stmt} {tc : TT} (hc : PT X c tc) (ha : PSs X a t) (hb : PSs X b u) : PS X (.If c a b pos) (tIfS tc t u) := by
  intro pins s σ H D I h
  refine wpAny_If (thn (hc pins s σ H _ I h) fun d s1 ⟨H1, I1, q1⟩ => ?_)
  cases d with
  | true => exact ha pins s1 σ H1 D I1 q1
  | false => exact hb pins s1 σ H1 D I1 q1
def tNever : TS := fun _ _ _ => False
theorem pss_never {sts : List Stmt} : PSs X sts tNever := fun _ _ _ _ _ _ h => h.elim
end

abbrev TG := V → St → Hp → (St → Hp → Prop) → Prop
abbrev TGs := List V → St → Hp → (St → Hp → Prop) → Prop
def PG (X : Cx) (target : Expr) (t : TG) : Prop :=
  ∀ (pins : List (Addr × Obj)) (s : Shared) (σ : St) (H : Hp) (v : V) (u : Value) (Q : St → Hp → Prop), Inv X pins σ H s → RelV v u → t v σ H Q →
    wpAny (model X.prog X.w) X.A (assign target X.env u) (fun _ s' => ∃ σ' H', Inv X pins σ' H' s' ∧ Q σ' H') X.xe s
def PGs (X : Cx) (ts : List Expr) (t : TGs) : Prop :=
  ∀ (pins : List (Addr × Obj)) (s : Shared) (σ : St) (H : Hp) (vs : List V) (us : List Value) (Q : St → Hp → Prop), Inv X pins σ H s → Vals vs us → t vs σ H Q →
    wpAny (model X.prog X.w) X.A (assignInOrder ((assignEach ts X.env).map (·.2)) us) (fun _ s' => ∃ σ' H', Inv X pins σ' H' s' ∧ Q σ' H') X.xe s
abbrev TSet := V → V → V → Hp → (Hp → Prop) → Prop
def PSet (X : Cx) (t : TSet) : Prop :=
  ∀ (pins : List (Addr × Obj)) (s : Shared) (σ : St) (H : Hp) (o i v : V) (ov iv u : Value) (Q : Hp → Prop), Inv X pins σ H s → RelV o ov → RelV i iv → RelV v u → t o i v H Q →
    wpAny (model X.prog X.w) X.A (setItem ov iv u) (fun _ s' => ∃ H', Inv X pins σ H' s' ∧ Q H') X.xe s
abbrev TIp := V → V → Hp → VK → Prop
def PIp (X : Cx) (op : Operator) (t : TIp) : Prop :=
  ∀ (pins : List (Addr × Obj)) (s : Shared) (σ : St) (H : Hp) (x y : V) (v u : Value) (Q : VK), Inv X pins σ H s → RelV x v → RelV y u → t x y H Q →
    wpAny (model X.prog X.w) X.A (inplaceOp op v u) (EP X pins σ Q) X.xe s
section
variable {X : Cx} {pos : Pos}
def gName (i : Nat) : TG := fun v σ H Q => Q (σ.set i (some v)) H
theorem pg_name {i : Nat} {x : Str} (hN : X.N.Nodup) (hi : X.N[i]? = some x) (hx : Loc X.env.scope x) (hf : X.fn x = true ∨ X.env.scope.names.lookup x = some .local := by first | exact .inl rfl | exact .inr rfl | assumption) : PG X (.Name x pos) (gName i) := by
  intro pins s σ H v u Q I r h
  exact wpAny_assign_Name (store_ok I hN hi hx r (fun s' I' => ⟨_, H, I', h⟩) hf)
def gNil : TGs := fun vs σ H Q => vs = [] ∧ Q σ H
def gCons (t : TG) (u : TGs) : TGs := fun vs σ H Q => ∃ v r, vs = v :: r ∧ t v σ H fun σ' H' => u r σ' H' Q
theorem pgs_nil : PGs X [] gNil := by
  intro pins s σ H vs us Q I r h
  obtain ⟨e, h⟩ := h
  subst e
  cases r
  exact assignInOrder_nil ⟨σ, H, I, h⟩
theorem pgs_cons {e : Expr} {es : List Expr} {t : TG} {u : TGs} (h1 : PG X e t) (h2 : PGs X es u)
    (hs : (assignEach (e :: es) X.env).map (·.2) = assign e X.env :: (assignEach es X.env).map (·.2) := by rfl) : PGs X (e :: es) (gCons t u) := by
  intro pins s σ H vs us Q I r h
  obtain ⟨v, vr, e1, h⟩ := h
  subst e1
  cases r with
  | cons r rr =>
    rw [hs]
    refine assignInOrder_cons (thn (h1 pins s σ H _ _ _ I r h) fun _ s1 ⟨σ1, H1, I1, q1⟩ => ?_)
    exact h2 pins s1 σ1 H1 _ _ Q I1 rr q1
def gTup (K : PySem.W.Frag) (n : Nat) (t : TGs) : TG := fun v σ H Q => ∃ a xs, v = .ref a ∧ SqT K H a xs ∧ xs.length = n ∧ t xs σ H Q
theorem pg_tup {es : List Expr} {k : Nat} {t : TGs} {n : Nat} (hc : X.calm = true) (h : PGs X es t)
    (hn : (assignEach es X.env).length = n := by rfl) (hst : (assignEach es X.env).findIdx? (·.1) = none := by rfl) : PG X (.Tuple es k pos) (gTup X.K n t) := by
  intro pins s σ H v u Q I r hw
  obtain ⟨a, xs, e1, hq, hl, hw⟩ := hw
  subst e1
  cases r
  obtain ⟨its, rv, ht, hz⟩ := I.tuple hq
  refine assign_Tuple_tuple (I.ok.hd hc) ht (by simp [hn, ← hl, rv.length]) hst fun h' hx => ?_
  have I1 : Inv X pins σ H { s with heap := h' } := I.kept (t' := s.toks) fun b o e => hx b o (Nat.ne_of_lt (Heap.lt_size e)) e
  exact h pins _ σ H xs _ Q I1 (by simpa using rv) hw
def gSub (to ti : TE) (t : TSet) : TG := fun v σ H Q => to σ H fun o H1 => ti σ H1 fun i H2 => t o i v H2 fun H3 => Q σ H3
theorem pg_sub {o i : Expr} {to ti : TE} {t : TSet} (ho : PE X o to) (hi : PE X i ti) (hs : PSet X t)
    (ha : ∀ v, assign (.Subscript o i pos) X.env v = (do
      let ov ← holding [v] (eval o X.env)
      let iv ← holding [v, ov] (eval i X.env)
      standAt pos
      holding [v, ov, iv] (setItem ov iv v)
      release [v, ov, iv] []) := by intro _; rfl) : PG X (.Subscript o i pos) (gSub to ti t) := by
  intro pins s σ H v u Q I r h
  rw [ha]
  refine wpAny_bind (wpAny_holding (thn (ho pins s σ H _ I h) fun ov s1 ⟨x, H1, I1, r1, q1⟩ => ?_))
  refine wpAny_bind (wpAny_holding (thn (hi pins s1 σ H1 _ I1 q1) fun iv s2 ⟨y, H2, I2, r2, q2⟩ => ?_))
  refine wpAny_bind (wpAny_standAt (wpAny_bind (wpAny_holding (thn (hs pins s2 σ H2 x y v ov iv u _ I2 r1 r2 r q2) fun _ s3 ⟨H3, I3, q3⟩ => ?_))))
  exact wpAny_release ⟨σ, H3, I3, q3⟩
def tAsg (te : TE) (g : TG) : TS := fun D σ H => te σ H fun x H1 => g x σ H1 D.nx
theorem ps_asg {tg e : Expr} {te : TE} {g : TG} (he : PE X e te) (hg : PG X tg g) (hs : swapsWithSole [tg] e pos.line X.env = pure false := by rfl) (hw : swappedStores [tg] e X.env = pure none := by rfl)
    (h1 : (assignEach [tg] X.env).map (·.2) = [assign tg X.env] := by rfl) : PS X (.Assign [tg] e pos) (tAsg te g) := by
  intro pins s σ H D I h
  refine wpAny_Assign_stores (thn (he pins s σ H _ I h) fun v s1 ⟨x, H1, I1, r1, q1⟩ => ?_) hs hw
  rw [h1]
  exact thn (hg pins s1 σ H1 x v _ I1 r1 q1) fun _ s2 q => q
theorem ps_set {i : Nat} {x : Str} {e : Expr} {te : TE} {pos' : Pos} (hN : X.N.Nodup) (hi : X.N[i]? = some x) (hx : Loc X.env.scope x) (he : PE X e te) (hs : swapsWith e (some (.Name x pos')) pos.line X.env = pure false := by rfl) (hf : X.fn x = true ∨ X.env.scope.names.lookup x = some .local := by first | exact .inl rfl | exact .inr rfl | assumption) :
    PS X (.Assign [.Name x pos'] e pos) (tAsg te (gName i)) := by
  intro pins s σ H D I h
  refine wpAny_Assign_Name (thn (he pins s σ H _ I h) fun v s1 ⟨y, H1, I1, r1, q1⟩ => ?_) hs
  exact store_ok I1 hN hi hx r1 (fun s2 I2 => ⟨_, H1, I2, q1⟩) hf
def tPar (i j : Nat) (ta : TA) : TS := fun D σ H => ta σ H fun vs H1 => ∃ v w, vs = [v, w] ∧ D.nx ((σ.set i (some v)).set j (some w)) H1
theorem ps_par {i j : Nat} {x y : Str} {a b : Expr} {ta : TA} {px py pt : Pos} {kt k2 pt2} (hc : X.calm = true) (hN : X.N.Nodup) (hi : X.N[i]? = some x) (hj : X.N[j]? = some y) (hij : i ≠ j)
    (hx : X.env.scope.names.lookup x = some .local) (hy : X.env.scope.names.lookup y = some .local) (ha : PA X [a, b] ta)
    (hw : swappedStores [.Tuple [.Name x px, .Name y py] kt pt] (.Tuple [a, b] k2 pt2) X.env = pure (some [x, y]))
    (hs : swapsWithSole [.Tuple [.Name x px, .Name y py] kt pt] (.Tuple [a, b] k2 pt2) pos.line X.env = pure false := by rfl) :
    PS X (.Assign [.Tuple [.Name x px, .Name y py] kt pt] (.Tuple [a, b] k2 pt2) pos) (tPar i j ta) := by
  intro pins s σ H D I h
  rw [exec_Assign_arm]
  refine wpAny_bind (wpAny_standAt ?_)
  rw [hs]
  refine wpAny_bind (wpAny_pure ?_)
  rw [if_neg (by decide)]
  refine wpAny_bind (Tuple_ (thn (ha _ pins s σ H _ I h) fun us s1 ⟨vs, H1, I1, r1, q1⟩ => ?_))
  obtain ⟨v, w, e1, q1⟩ := q1
  subst e1
  obtain ⟨u1, u2, rfl, rv, rw'⟩ : ∃ u1 u2, us = [u1, u2] ∧ RelV v u1 ∧ RelV w u2 := by
    cases r1 with
    | cons p q =>
      cases q with
      | cons p' q' =>
        cases q'
        exact ⟨_, _, rfl, p, p'⟩
  refine wpAny_newObj_type ?_ (by show 2 ≤ sizeLine; decide)
  have I2 : Inv X pins σ H1 { s1 with heap := s1.heap.push { cls := .type "tuple", data := .seq [u1, u2].toArray } } := I1.kept (t' := s1.toks) fun b o e => Heap.get?_push_of_some _ e
  rw [hw]
  refine wpAny_bind (wpAny_pure ?_)
  show wpAny (model X.prog X.w) X.A (do rule "assign.swapped-stores"; let items ← unpackItems (.ref s1.heap.objs.size) 2 none; assignInOrder [fun v => bindName X.env y v, fun v => bindName X.env x v] items.reverse; pure Flow.next) _ _ _
  refine wpAny_bind (wpAny_rule (wpAny_bind (unpackItems_tuple (items := #[u1, u2]) (I.ok.hd hc) (IsTup.new s1.heap _) fun h' hx' => ?_)))
  have I3 := I2.kept (h' := h') (t' := s1.toks) fun b o e => hx' b o (Nat.ne_of_lt (Heap.lt_size e)) e
  show wpAny _ _ (assignInOrder [fun v => bindName X.env y v, fun v => bindName X.env x v] [u2, u1] >>= fun _ => pure Flow.next) _ _ _
  refine wpAny_bind (assignInOrder_cons (wpAny_bindName (store_ok I3 hN hj (.inl hy) rw' (fun s2 I4 => ?_) (.inr hy))))
  refine assignInOrder_cons (wpAny_bindName (store_ok I4 hN hi (.inl hx) rv (fun s3 I5 => assignInOrder_nil (wpAny_pure ?_)) (.inr hx)))
  rw [List.set_comm _ _ (Ne.symm hij)] at I5
  exact ⟨_, H1, I5, q1⟩
def tAug (i : Nat) (te : TE) (ti : TIp) : TS := fun D σ H => ∃ x, σ[i]? = some (some x) ∧ te σ H fun y H1 => ti x y H1 fun z H2 => D.nx (σ.set i (some z)) H2
theorem ps_aug {i : Nat} {x : Str} {e : Expr} {te : TE} {op : Operator} {ti : TIp} {pos' : Pos} (hN : X.N.Nodup) (hi : X.N[i]? = some x) (hx : Loc X.env.scope x) (he : PE X e te) (ho : PIp X op ti) (hf : X.fn x = true ∨ X.env.scope.names.lookup x = some .local := by first | exact .inl rfl | exact .inr rfl | assumption) :
    PS X (.AugAssign (.Name x pos') op e pos) (tAug i te ti) := by
  intro pins s σ H D I h
  obtain ⟨v, e1, h⟩ := h
  obtain ⟨m, hn, hl⟩ := I.loc
  have vis : Vis X.env.scope x := by rcases hx with k | k; exact .inl k; exact .inr (.inl k)
  obtain ⟨u, r, l⟩ := hl i x v hi e1 vis
  refine wpAny_AugAssign_Name ?_
  have go : wpAny (model X.prog X.w) X.A (eval e X.env) (fun w s₂ => wpAny (model X.prog X.w) X.A (inplaceOp op u w) (fun r s₃ => wpAny (model X.prog X.w) X.A (storeName X.env x r) (fun _ => SP X pins D .next) X.xe s₃) X.xe s₂) X.xe s := by
    refine thn (he pins s σ H _ I h) fun w s1 ⟨y, H1, I1, r1, q1⟩ => ?_
    refine thn (ho pins s1 σ H1 v y u w _ I1 r r1 q1) fun z s2 ⟨zv, H2, I2, r2, q2⟩ => ?_
    exact store_ok I2 hN hi hx r2 (fun s3 I3 => ⟨_, H2, I3, q2⟩) hf
  rcases l with ⟨hk, hm⟩ | ⟨hk, c, hc, hcell⟩
  · exact wpAny_loadName_local I.ok.kind hk hn hm go
  · rcases hk with hk | hk
    · exact wpAny_loadName_cell I.ok.kind hk hc hcell go
    · rcases hx with k | k
      · have : X.env.scope.names.lookup x = some .free := hk
        rw [k] at this; cases this
      · have : X.env.scope.names.lookup x = some .free := hk
        rw [k] at this; cases this
end

section
variable {X : Cx} {pos : Pos}
def tWhile (c : TT) (tb : TS) : TS := fun D σ H => ∃ W : Nat → St → Hp → Prop, (∃ m, W m σ H) ∧ ∀ m σ H, W m σ H →
  c σ H fun b H1 => if b = true then ∃ N : St → Hp → Prop, (∀ σ' H', N σ' H' → ∃ m', m' < m ∧ W m' σ' H') ∧ tb { D with nx := N, ct := N, bk := D.nx } σ H1 else D.nx σ H1
theorem ps_while {c : Expr} {body : List Stmt} {tc : TT} {tb : TS} (hp : PassesOwn (model X.prog X.w) X.A X.env X.xe) (hc : PT X c tc) (hb : PSs X body tb) : PS X (.While c body [] pos) (tWhile tc tb) := by
  intro pins s σ H D I h
  obtain ⟨W, ⟨m0, w0⟩, turn⟩ := h
  refine wpAny_While (codeAny_whileLoop (fun n s' => ∃ σ' H', Inv X pins σ' H' s' ∧ W n σ' H') ?_ m0 ⟨σ, H, I, w0⟩)
  rintro n s1 ⟨σ1, H1, I1, w1⟩
  refine wpAny_passesOwn hp (thn (hc pins s1 σ1 H1 _ I1 (turn n σ1 H1 w1)) fun b s2 ⟨H2, I2, q2⟩ => ?_)
  cases b with
  | true =>
    obtain ⟨N, hN, q2⟩ := q2
    rw [if_pos rfl]
    refine wpAny_passesOwn hp (thn (hb pins s2 σ1 H2 _ I2 q2) fun f s3 q3 => ?_)
    cases f with
    | next =>
      obtain ⟨σ3, H3, I3, n3⟩ := q3
      obtain ⟨m', hm, w3⟩ := hN σ3 H3 n3
      exact ⟨m', hm, σ3, H3, I3, w3⟩
    | cont =>
      obtain ⟨σ3, H3, I3, n3⟩ := q3
      obtain ⟨m', hm, w3⟩ := hN σ3 H3 n3
      exact ⟨m', hm, σ3, H3, I3, w3⟩
    | brk => exact q3
    | ret v => exact q3
  | false =>
    rw [if_neg Bool.false_ne_true]
    exact wpAny_execs_nil ⟨σ1, H2, I2, q2⟩
end

structure It where
  go : Nat → Hp → Prop
  yld : Nat → Hp → V → Hp → Prop
  stop : Nat → Hp → Prop
def FpOk (X : Cx) (pins : List (Addr × Obj)) (H : Hp) (b : Addr) : Prop :=
  H b = none ∧ b ≠ X.env.locals ∧ b ∉ X.fs ∧ (b ∈ X.ex ∨ X.s₀.heap.objs.size ≤ b) ∧ (∀ x c, X.env.cells.lookup x = some c → c ≠ b) ∧ ∀ p ∈ X.pn ++ pins, p.1 ≠ b
theorem Inv.fpOk {X : Cx} {pins : List (Addr × Obj)} {σ : St} {H H' : Hp} {s : Shared} {b : Addr} (I : Inv X pins σ H s) (hb : s.heap.objs.size ≤ b) (hn : H' b = none) : FpOk X pins H' b := by
  refine ⟨hn, Nat.ne_of_gt (Nat.lt_of_lt_of_le I.lt hb), I.nofs hb, .inr (Nat.le_trans I.sz hb), fun x c e z => ?_, fun p hp z => ?_⟩
  · obtain ⟨v, q⟩ := I.cell x c e
    exact absurd (Nat.lt_of_lt_of_le q.lt (by rw [z]; exact hb)) (Nat.lt_irrefl _)
  · exact absurd (Nat.lt_of_lt_of_le (Heap.lt_size (I.pin p hp).1) (by rw [z]; exact hb)) (Nat.lt_irrefl _)
structure Turn (P : Program) (w : World) (K : PySem.W.Frag) (tg : Expr) (J : It) (fp : List Addr) (it : Addr) (tn : Nat → Heap → Prop) : Prop where
  mem : it ∈ fp
  obj : ∀ i h, tn i h → ∀ b ∈ fp, ∃ o, h.get? b = some o ∧ ∀ v, o.data ≠ .cell v
  keep : ∀ i h h', tn i h → (∀ b ∈ fp, ∀ o, h.get? b = some o → h'.get? b = some o) → tn i h'
  item : ∀ (X : Cx), X.prog = P → X.w = w → X.K = K → X.calm = true → ∀ (i : Nat) (pins : List (Addr × Obj)) (s : Shared) (σ : St) (H : Hp) (E : Value → Shared → Prop), Inv X pins σ H s → (∀ b ∈ fp, FpOk X pins H b) → tn i s.heap → J.go i H →
    wpAny (model P w) X.A (pyNext (.ref it)) (fun r s1 => ∃ u, r = some u ∧
      wpAny (model P w) X.A (letOwnedTupleGo tg (.ref it) u) (fun _ s2 => ∃ x H', Inv X pins σ H' s2 ∧ RelV x u ∧ J.yld i H x H' ∧ tn (i + 1) s2.heap ∧ ∀ b ∈ fp, H' b = none) E s1) E s
  done : ∀ (X : Cx), X.prog = P → X.w = w → X.K = K → X.calm = true → ∀ (i : Nat) (pins : List (Addr × Obj)) (s : Shared) (σ : St) (H : Hp) (E : Value → Shared → Prop), Inv X pins σ H s → (∀ b ∈ fp, FpOk X pins H b) → tn i s.heap → J.stop i H →
    wpAny (model P w) X.A (pyNext (.ref it)) (fun r s1 => r = none ∧ Inv X pins σ H s1) E s
  self : ∀ (A : Around) (i : Nat) (s : Shared) (Q : Value → Shared → Prop) (E : Value → Shared → Prop), tn i s.heap → Q (.ref it) s → wpAny (model P w) A (pyIter (.ref it)) Q E s
abbrev TI := St → Hp → (It → Hp → Prop) → Prop
def PIE (X : Cx) (pins : List (Addr × Obj)) (σ : St) (tg : Expr) (R : It → Hp → Prop) (itv : Value) (s2 : Shared) : Prop :=
  ∃ (it : Addr) (fp : List Addr) (tn : Nat → Heap → Prop) (J : It) (H' : Hp), itv = .ref it ∧ Inv X pins σ H' s2 ∧ Turn X.prog X.w X.K tg J fp it tn ∧ tn 0 s2.heap ∧ (∀ b ∈ fp, FpOk X pins H' b) ∧ R J H'
def PI (X : Cx) (tg iter : Expr) (wi : TI) : Prop :=
  ∀ (pins : List (Addr × Obj)) (s : Shared) (σ : St) (H : Hp) (R : It → Hp → Prop), Inv X pins σ H s → wi σ H R →
    wpAny (model X.prog X.w) X.A (eval iter X.env) (fun v s1 => wpAny (model X.prog X.w) X.A (pyIter v) (PIE X pins σ tg R) X.xe s1) X.xe s

theorem go_of {M : Model} {A : Around} {E : Value → Shared → Prop} {s : Shared} {tg : Expr} {it : Addr} {u : Value} {o : Obj} {n : String} {vs : Array Value} {Q : Unit → Shared → Prop} (ho : s.heap.get? it = some o) (hc : o.cls = .type n) (hd : o.data = .fields vs)
    (hn : ["enumerate", "zip", "dict_itemiterator", "dict_reverseitemiterator", "odict_iterator", "itertools.zip_longest", "itertools.pairwise"].contains n = false) (hQ : Q () s) : wpAny M A (letOwnedTupleGo tg (.ref it) u) Q E s := by
  unfold letOwnedTupleGo
  cases tg <;> first
    | exact wpAny_pure hQ
    | (cases u <;> first
        | exact wpAny_pure hQ
        | (refine wpAny_bind (wpAny_load ho ?_)
           rw [hc, hd]
           show wpAny M A (if (["enumerate", "zip", "dict_itemiterator", "dict_reverseitemiterator", "odict_iterator", "itertools.zip_longest", "itertools.pairwise"].contains n && vs[0]? == some (rawInt _)) = true then _ else _) Q E s
           rw [if_neg (by intro h; rw [hn, Bool.false_and] at h; cases h)]
           exact wpAny_pure hQ))

def Itl (K : PySem.W.Frag) (a : Addr) : It :=
  ⟨fun i H => ∃ xs x, SqL K H a xs ∧ xs[i]? = some x, fun i H x H' => H' = H ∧ ∀ xs, SqL K H a xs → xs[i]? = some x, fun i H => ∃ xs, SqL K H a xs ∧ xs.length ≤ i⟩
def Itt (K : PySem.W.Frag) (a : Addr) : It :=
  ⟨fun i H => ∃ xs x, SqT K H a xs ∧ xs[i]? = some x, fun i H x H' => H' = H ∧ ∀ xs, SqT K H a xs → xs[i]? = some x, fun i H => ∃ xs, SqT K H a xs ∧ xs.length ≤ i⟩
def Itr (lo : Int) (n : Nat) : It := ⟨fun i _ => i < n, fun i H x H' => H' = H ∧ x = .int (lo + i), fun i _ => n ≤ i⟩
theorem turn_list {P : Program} {w : World} {K : PySem.W.Frag} {tg : Expr} (a it : Addr) : Turn P w K tg (Itl K a) [it] it (fun i h => h.IsListIter it a i) where
  mem := by simp
  obj := fun i h st b hb => by
    have e : b = it := by simpa using hb
    subst e
    obtain ⟨o, e, c, d⟩ := st
    exact ⟨o, e, fun v z => by rw [d] at z; cases z⟩
  keep := fun i h h' st k => st.at fun o e => k it (by simp) o e
  item := by
    intro X hP hw hK hc i pins s σ H E I hf st hg
    subst hP hw hK
    obtain ⟨xs, x, hq, hx⟩ := hg
    obtain ⟨its, rv, p, hz⟩ := I.list hq
    obtain ⟨u, hu, ru⟩ := rv.get hx
    obtain ⟨f0, f1, f2, f3, f4, f5⟩ := hf it (by simp)
    refine wpAny_pyNext_list_item st p.isList (x := u) (by simpa using hu) fun h' st' sb => ?_
    have I1 : Inv X pins σ H { s with heap := h' } := I.turned (t' := s.toks) (fun b o hb e => (sb.2 b hb).trans e) f0 f1 f3 f4 f5
    obtain ⟨o, e, c, d⟩ := id st'
    exact ⟨u, rfl, go_of (s := { s with heap := h' }) e c d (by decide) ⟨x, H, I1, ru, ⟨rfl, fun ys hy => by rw [I.list_inj hy hq]; exact hx⟩, st', fun b hb => (hf b hb).1⟩⟩
  done := by
    intro X hP hw hK hc i pins s σ H E I hf st hg
    subst hP hw hK
    obtain ⟨xs, hq, hx⟩ := hg
    obtain ⟨its, rv, p, hz⟩ := I.list hq
    obtain ⟨f0, f1, f2, f3, f4, f5⟩ := hf it (by simp)
    have hl := rv.length
    exact wpAny_pyNext_list_end (I.ok.hd hc) st p.isList (by simp; omega) fun h' eb => ⟨rfl, I.turned (t' := s.toks) (fun b o hb e => eb b o hb e) f0 f1 f3 f4 f5⟩
  self := fun _ _ _ _ _ st h => wpAny_pyIter_listiter st h
theorem turn_tuple {P : Program} {w : World} {K : PySem.W.Frag} {tg : Expr} (a it : Addr) : Turn P w K tg (Itt K a) [it] it (fun i h => h.IsTupleIter it a i) where
  mem := by simp
  obj := fun i h st b hb => by
    have e : b = it := by simpa using hb
    subst e
    obtain ⟨o, e, c, d⟩ := st
    exact ⟨o, e, fun v z => by rw [d] at z; cases z⟩
  keep := fun i h h' st k => st.at fun o e => k it (by simp) o e
  item := by
    intro X hP hw hK hc i pins s σ H E I hf st hg
    subst hP hw hK
    obtain ⟨xs, x, hq, hx⟩ := hg
    obtain ⟨its, rv, p, hz⟩ := I.tuple hq
    obtain ⟨u, hu, ru⟩ := rv.get hx
    obtain ⟨f0, f1, f2, f3, f4, f5⟩ := hf it (by simp)
    refine wpAny_pyNext_tuple_item st (show s.heap.IsTuple a its.toArray from p) (x := u) (by simpa using hu) fun h' st' sb => ?_
    have I1 : Inv X pins σ H { s with heap := h' } := I.turned (t' := s.toks) (fun b o hb e => (sb.2 b hb).trans e) f0 f1 f3 f4 f5
    obtain ⟨o, e, c, d⟩ := id st'
    exact ⟨u, rfl, go_of (s := { s with heap := h' }) e c d (by decide) ⟨x, H, I1, ru, ⟨rfl, fun ys hy => by rw [I.tuple_inj hy hq]; exact hx⟩, st', fun b hb => (hf b hb).1⟩⟩
  done := by
    intro X hP hw hK hc i pins s σ H E I hf st hg
    subst hP hw hK
    obtain ⟨xs, hq, hx⟩ := hg
    obtain ⟨its, rv, p, hz⟩ := I.tuple hq
    obtain ⟨f0, f1, f2, f3, f4, f5⟩ := hf it (by simp)
    have hl := rv.length
    exact wpAny_pyNext_tuple_end (I.ok.hd hc) st (show s.heap.IsTuple a its.toArray from p) (by simp; omega) fun h' eb => ⟨rfl, I.turned (t' := s.toks) (fun b o hb e => eb b o hb e) f0 f1 f3 f4 f5⟩
  self := fun _ _ _ _ _ st h => wpAny_pyIter_tupleiter st h
theorem turn_range {P : Program} {w : World} {K : PySem.W.Frag} {tg : Expr} (it : Addr) (lo : Int) (n : Nat) : Turn P w K tg (Itr lo n) [it] it (fun i h => IsRangeIter h it (lo + (i : Nat) * 1) ((n : Int) - (i : Nat)) 1) where
  mem := by simp
  obj := fun i h st b hb => by
    have e : b = it := by simpa using hb
    subst e
    exact ⟨_, st, fun v z => by
      have z' : Data.fields _ = Data.cell v := z
      cases z'⟩
  keep := fun i h h' st k => k it (by simp) _ st
  item := by
    intro X hP hw hK hc i pins s σ H E I hf st hg
    subst hP hw hK
    obtain ⟨f0, f1, f2, f3, f4, f5⟩ := hf it (by simp)
    have W := Walks.range (prog := X.prog) (w := X.w) (I.ok.hd hc) it lo 1 n
    refine W.item i s _ _ hg st fun v h' tk hv st' kk => ?_
    obtain ⟨t, rfl⟩ := hv
    have I1 : Inv X pins σ H { s with heap := h', toks := tk } := I.turned (fun b o hb e => kk b o (by simpa using hb) e) f0 f1 f3 f4 f5
    refine ⟨_, rfl, go_of (s := { s with heap := h', toks := tk }) (n := "range_iterator") st' rfl rfl (by decide) ⟨.int (lo + i), H, I1, ⟨t, ?_⟩, ⟨rfl, rfl⟩, st', fun b hb => (hf b hb).1⟩⟩
    rw [Int.mul_one]
  done := by
    intro X hP hw hK hc i pins s σ H E I hf st hg
    subst hP hw hK
    obtain ⟨f0, f1, f2, f3, f4, f5⟩ := hf it (by simp)
    exact wpAny_pyNext_range_end (I.ok.hd hc) st (by have : n ≤ i := hg; omega) fun h' eb => ⟨rfl, I.turned (t' := s.toks) (fun b o hb e => eb b o hb e) f0 f1 f3 f4 f5⟩
  self := fun _ _ _ _ _ st h => wpAny_pyIter_rangeiter st h
end L2

namespace L2
open PySem PySem.Spec PyProof.Rows
section
variable {X : Cx} {tg : Expr}
def iList (K : PySem.W.Frag) (tl : TE) : TI := fun σ H R => tl σ H fun x H1 => ∃ a, x = .ref a ∧ (∃ xs, SqL K H1 a xs) ∧ R (Itl K a) H1
def iTup (K : PySem.W.Frag) (tl : TE) : TI := fun σ H R => tl σ H fun x H1 => ∃ a, x = .ref a ∧ (∃ xs, SqT K H1 a xs) ∧ R (Itt K a) H1
theorem pi_list {l : Expr} {tl : TE} (hl : PE X l tl) : PI X tg l (iList X.K tl) := by
  intro pins s σ H R I h
  refine thn (hl pins s σ H _ I h) fun v s1 ⟨x, H1, I1, r1, q1⟩ => ?_
  obtain ⟨a, e, ⟨xs, hq⟩, q⟩ := q1
  subst e
  cases r1
  obtain ⟨its, rv, p, hz⟩ := I1.list hq
  refine wpAny_pyIter_list p.isList ?_
  refine ⟨s1.heap.objs.size, [s1.heap.objs.size], _, _, H1, rfl, I1.kept (t' := s1.toks) fun b o e => Heap.get?_push_of_some _ e, turn_list a _, ⟨_, Heap.get?_push_size _ rfl, rfl, rfl⟩, fun b hb => ?_, q⟩
  have e : b = s1.heap.objs.size := by simpa using hb
  subst e
  exact I1.fpOk (Nat.le_refl _) (I1.hok.fresh (Nat.le_refl _))
theorem pi_tup {l : Expr} {tl : TE} (hl : PE X l tl) : PI X tg l (iTup X.K tl) := by
  intro pins s σ H R I h
  refine thn (hl pins s σ H _ I h) fun v s1 ⟨x, H1, I1, r1, q1⟩ => ?_
  obtain ⟨a, e, ⟨xs, hq⟩, q⟩ := q1
  subst e
  cases r1
  obtain ⟨its, rv, p, hz⟩ := I1.tuple hq
  refine wpAny_pyIter_tuple (show s1.heap.IsTuple a its.toArray from p) ?_
  refine ⟨s1.heap.objs.size, [s1.heap.objs.size], _, _, H1, rfl, I1.kept (t' := s1.toks) fun b o e => Heap.get?_push_of_some _ e, turn_tuple a _, ⟨_, Heap.get?_push_size _ rfl, rfl, rfl⟩, fun b hb => ?_, q⟩
  have e : b = s1.heap.objs.size := by simpa using hb
  subst e
  exact I1.fpOk (Nat.le_refl _) (I1.hok.fresh (Nat.le_refl _))
theorem range_it {pins : List (Addr × Obj)} {σ : St} {H : Hp} {s : Shared} {R : It → Hp → Prop} {E : Value → Shared → Prop} {lo hi : Int} {t u v : Tok} {tk : Nat} (I : Inv X pins σ H s) (h1 : -(2 ^ 62) ≤ lo) (h2 : lo < 2 ^ 62) (h3 : -(2 ^ 62) ≤ hi) (h4 : hi < 2 ^ 62)
    (q : R (Itr lo (hi - lo).toNat) H) : wpAny (model X.prog X.w) X.A (pyIter (.ref s.heap.objs.size)) (PIE X pins σ tg R) E { s with heap := s.heap.push { cls := .type "range", data := .fields #[.int lo t, .int hi u, .int 1 v] }, toks := tk } := by
  refine wpAny_pyIter_range (IsRange.new ..) (small_one h1 h2 h3 h4) ?_
  have I1 : Inv X pins σ H { s with heap := s.heap.push { cls := .type "range", data := .fields #[.int lo t, .int hi u, .int 1 v] }, toks := tk } := I.kept fun b o e => Heap.get?_push_of_some _ e
  refine ⟨(s.heap.push { cls := .type "range", data := .fields #[.int lo t, .int hi u, .int 1 v] }).objs.size, [(s.heap.push { cls := .type "range", data := .fields #[.int lo t, .int hi u, .int 1 v] }).objs.size], _, _, H, rfl,
    I1.kept (t' := tk) fun b o e => Heap.get?_push_of_some _ e, turn_range _ lo (hi - lo).toNat, ?_, fun b hb => ?_, q⟩
  · have e1 : lo + ((0 : Nat) : Int) * 1 = lo := by simp
    have e2 : (((hi - lo).toNat : Nat) : Int) - ((0 : Nat) : Int) = Builtin.Range.rangeSize lo hi 1 := by rw [rangeSize_one]; split <;> omega
    show IsRangeIter _ _ (lo + ((0 : Nat) : Int) * 1) ((((hi - lo).toNat : Nat) : Int) - ((0 : Nat) : Int)) 1
    rw [e1, e2]
    exact Heap.get?_push_size _ rfl
  · have e : b = (s.heap.push { cls := .type "range", data := .fields #[.int lo t, .int hi u, .int 1 v] }).objs.size := by simpa using hb
    subst e
    exact I1.fpOk (Nat.le_refl _) (I1.hok.fresh (Nat.le_refl _))
def iRng1 (ta : TA) : TI := fun σ H R => ta σ H fun vs H1 => ∃ j : Int, vs = [.int j] ∧ -(2 ^ 62) ≤ j ∧ j < 2 ^ 62 ∧ R (Itr 0 j.toNat) H1
def iRng2 (ta : TA) : TI := fun σ H R => ta σ H fun vs H1 => ∃ i j : Int, vs = [.int i, .int j] ∧ (-(2 ^ 62) ≤ i ∧ i < 2 ^ 62 ∧ -(2 ^ 62) ≤ j ∧ j < 2 ^ 62) ∧ R (Itr i (j - i).toNat) H1
theorem pi_range1 {a : Expr} {ta : TA} {p pos : Pos} (hg : Gl X "range") (hm : X.mg "range" = none) (ha : PA X [a] ta) (hs : starEach [a] X.env = [(false, eval a X.env)] := by rfl) : PI X tg (.Call (.Name "range" p) [a] [] pos) (iRng1 ta) := by
  intro pins s σ H R I h
  refine Call_ (ld_blt I hg hm boot_range (PyProof.Rows.callWith_type1 (thn (ha pos pins s σ H _ I h) fun us s1 ⟨vs, H1, I1, r1, q1⟩ => ?_) hs rfl))
  obtain ⟨j, e, q1, q2, q⟩ := q1
  subst e
  cases r1 with
  | cons r rr =>
    cases rr
    obtain ⟨t, rfl⟩ := r
    exact call_range_1 (range_it I1 (by omega) (by omega) q1 q2 (by simpa using q))
theorem pi_range2 {a b : Expr} {ta : TA} {p pos : Pos} (hg : Gl X "range") (hm : X.mg "range" = none) (ha : PA X [a, b] ta) (hs : starEach [a, b] X.env = [(false, eval a X.env), (false, eval b X.env)] := by rfl) (hs2 : starEach [b] X.env = [(false, eval b X.env)] := by rfl) :
    PI X tg (.Call (.Name "range" p) [a, b] [] pos) (iRng2 ta) := by
  intro pins s σ H R I h
  refine Call_ (ld_blt I hg hm boot_range (PyProof.Rows.callWith_type1 (thn (ha pos pins s σ H _ I h) fun us s1 ⟨vs, H1, I1, r1, q1⟩ => ?_) (by rw [hs, hs2]) (by rw [hs2]; rfl)))
  obtain ⟨i, j, e, ⟨q1, q2, q3, q4⟩, q⟩ := q1
  subst e
  cases r1 with
  | cons r rr =>
    cases rr with
    | cons r' rr =>
      cases rr
      obtain ⟨t, rfl⟩ := r
      obtain ⟨t', rfl⟩ := r'
      exact call_range_2 (range_it I1 q1 q2 q3 q4 q)

def tFor (wi : TI) (g : TG) (tb : TS) : TS := fun D σ H => wi σ H fun J H1 => ∃ W : Nat → Nat → St → Hp → Prop, (∃ m, W 0 m σ H1) ∧ ∀ i m σ H, W i m σ H →
  (J.stop i H ∧ D.nx σ H) ∨ (J.go i H ∧ ∃ N : St → Hp → Prop, (∀ σ' H', N σ' H' → ∃ m', m' < m ∧ W (i + 1) m' σ' H') ∧ ∀ x H', J.yld i H x H' → g x σ H' fun σ2 H2 => tb { D with nx := N, ct := N, bk := D.nx } σ2 H2)
def pinsAt (fp : List Addr) (h : Heap) : List (Addr × Obj) := fp.filterMap fun b => (h.get? b).map fun o => (b, o)
theorem mem_pinsAt {fp : List Addr} {h : Heap} {b : Addr} {o : Obj} (hb : b ∈ fp) (e : h.get? b = some o) : (b, o) ∈ pinsAt fp h := List.mem_filterMap.mpr ⟨b, hb, by rw [e]; rfl⟩
theorem of_pinsAt {fp : List Addr} {h : Heap} {p : Addr × Obj} (hp : p ∈ pinsAt fp h) : p.1 ∈ fp ∧ h.get? p.1 = some p.2 := by
  obtain ⟨b, hb, e⟩ := List.mem_filterMap.mp hp
  cases q : h.get? b with
  | none => rw [q] at e; cases e
  | some o =>
    rw [q] at e
    have e' : (b, o) = p := Option.some.inj e
    subst e'
    exact ⟨hb, q⟩
theorem Inv.pinned {pins : List (Addr × Obj)} {σ : St} {H : Hp} {s : Shared} {fp : List Addr} (I : Inv X pins σ H s) (hf : ∀ b ∈ fp, FpOk X pins H b) (ho : ∀ b ∈ fp, ∃ o, s.heap.get? b = some o ∧ ∀ v, o.data ≠ .cell v) : Inv X (pins ++ pinsAt fp s.heap) σ H s :=
  I.pins_of fun p hp => (List.mem_append.mp hp).elim (fun z => I.pin p (List.mem_append_right _ z)) fun z => by
    obtain ⟨hb, e⟩ := of_pinsAt z
    obtain ⟨f0, f1, f2, _⟩ := hf p.1 hb
    obtain ⟨o, e', d⟩ := ho p.1 hb
    rw [e] at e'; cases e'
    exact ⟨e, f0, f1, f2, d⟩
theorem Inv.unpinned {pins pl : List (Addr × Obj)} {σ : St} {H : Hp} {s : Shared} (I : Inv X (pins ++ pl) σ H s) : Inv X pins σ H s := I.pins_of fun p hp => I.pin p (List.mem_append_right _ (List.mem_append_left _ hp))
theorem ps_for {iter : Expr} {body : List Stmt} {wi : TI} {g : TG} {tb : TS} {pos : Pos} (hp : PassesOwn (model X.prog X.w) X.A X.env X.xe) (hc : X.calm = true) (hi : PI X tg iter wi) (hg : PG X tg g) (hb : PSs X body tb)
    (hs : ∀ x, foldedSetIterable iter X.env x = pure x := by intro _; rfl) : PS X (.For tg iter body [] pos) (tFor wi g tb) := by
  intro pins s σ H D I h
  refine wpAny_For (thn (hi pins s σ H _ I h) fun v s1 h1 => thn h1 fun itv s2 h2 => ?_) hs
  obtain ⟨it, fp, tn, J, H2, e, I2, T, st2, f2, W, ⟨m0, w0⟩, turn⟩ := h2
  subst e
  -- what stays true of the iterator's objects through the loop
  have stat : ∀ {H' : Hp}, (∀ b ∈ fp, H' b = none) → ∀ b ∈ fp, FpOk X pins H' b := fun hn b hb => ⟨hn b hb, (f2 b hb).2⟩
  refine codeAny_forLoop_any (fun n s' => ∃ i σ' H', Inv X pins σ' H' s' ∧ tn i s'.heap ∧ (∀ b ∈ fp, H' b = none) ∧ W i n σ' H') ?_ m0 ⟨0, σ, H2, I2, st2, fun b hb => (f2 b hb).1, w0⟩
  rintro n s3 ⟨i, σ3, H3, I3, st3, fr3, w3⟩
  rcases turn i n σ3 H3 w3 with ⟨stop, qn⟩ | ⟨go, N, hN, step⟩
  · refine wpAny_passesOwn hp (thn (T.done X rfl rfl rfl hc i pins s3 σ3 H3 X.xe I3 (stat fr3) st3 stop) fun r s4 ⟨hr, I4⟩ => ?_)
    subst hr
    exact wpAny_execs_nil ⟨σ3, H3, I4, qn⟩
  · refine wpAny_passesOwn hp (thn (T.item X rfl rfl rfl hc i pins s3 σ3 H3 X.xe I3 (stat fr3) st3 go) fun r s4 ⟨u, hr, h4⟩ => ?_)
    subst hr
    refine wpAny_passesOwn hp (thn h4 fun _ s5 ⟨x, H5, I5, r5, y5, st5, fr5⟩ => ?_)
    have I5' := I5.pinned (stat fr5) (T.obj _ _ st5)
    refine wpAny_passesOwn hp (thn (hg _ s5 σ3 H5 x u _ I5' r5 (step x H5 y5)) fun _ s6 ⟨σ6, H6, I6, q6⟩ => ?_)
    refine wpAny_passesOwn hp (thn (hb _ s6 σ6 H6 _ I6 q6) fun f s7 q7 => ?_)
    have again : ∀ {σ7 : St} {H7 : Hp}, Inv X (pins ++ pinsAt fp s5.heap) σ7 H7 s7 → N σ7 H7 → ∃ m, m < n ∧ ∃ i σ' H', Inv X pins σ' H' s7 ∧ tn i s7.heap ∧ (∀ b ∈ fp, H' b = none) ∧ W i m σ' H' := fun {σ7 H7} I7 n7 => by
      obtain ⟨m', hm, w7⟩ := hN σ7 H7 n7
      refine ⟨m', hm, i + 1, σ7, H7, I7.unpinned, T.keep _ _ _ st5 fun b hb o e => (I7.pin (b, o) (List.mem_append_right _ (List.mem_append_right _ (mem_pinsAt hb e)))).1, fun b hb => ?_, w7⟩
      obtain ⟨o, e, d⟩ := T.obj _ _ st5 b hb
      exact (I7.pin (b, o) (List.mem_append_right _ (List.mem_append_right _ (mem_pinsAt hb e)))).2.1
    cases f with
    | next => obtain ⟨σ7, H7, I7, n7⟩ := q7; exact again I7 n7
    | cont => obtain ⟨σ7, H7, I7, n7⟩ := q7; exact again I7 n7
    | brk => obtain ⟨σ7, H7, I7, q7⟩ := q7; exact ⟨σ7, H7, I7.unpinned, q7⟩
    | ret v => obtain ⟨x7, σ7, H7, I7, r7, q7⟩ := q7; exact ⟨x7, σ7, H7, I7.unpinned, r7, q7⟩
end

theorem for_list {K : PySem.W.Frag} {a : Addr} {xs : List V} {g : TG} {tb : TS} {D : Ends} {σ : St} {H : Hp} (Pv : Nat → St → Hp → Prop) (h0 : Pv 0 σ H) (hl : ∀ i σ H, i ≤ xs.length → Pv i σ H → SqL K H a xs)
    (hs : ∀ i x σ H, xs[i]? = some x → Pv i σ H → g x σ H fun σ2 H2 => tb { D with nx := Pv (i + 1), ct := Pv (i + 1), bk := D.nx } σ2 H2) (hd : ∀ σ H, Pv xs.length σ H → D.nx σ H) :
    ∃ W : Nat → Nat → St → Hp → Prop, (∃ m, W 0 m σ H) ∧ ∀ i m σ H, W i m σ H →
      ((Itl K a).stop i H ∧ D.nx σ H) ∨ ((Itl K a).go i H ∧ ∃ N : St → Hp → Prop, (∀ σ' H', N σ' H' → ∃ m', m' < m ∧ W (i + 1) m' σ' H') ∧ ∀ x H', (Itl K a).yld i H x H' → g x σ H' fun σ2 H2 => tb { D with nx := N, ct := N, bk := D.nx } σ2 H2) := by
  refine ⟨fun i m σ H => m = xs.length - i ∧ i ≤ xs.length ∧ Pv i σ H, ⟨xs.length, by simp, Nat.zero_le _, h0⟩, ?_⟩
  rintro i m σ H ⟨rfl, hi, p⟩
  have q := hl i σ H hi p
  by_cases hlt : i < xs.length
  · refine .inr ⟨⟨xs, xs[i], q, by simp [hlt]⟩, Pv (i + 1), fun σ' H' p' => ⟨xs.length - (i + 1), by omega, rfl, hlt, p'⟩, fun x H' y => ?_⟩
    obtain ⟨e, y⟩ := y
    subst e
    exact hs i x σ _ (y xs q) p
  · have e : i = xs.length := by omega
    subst e
    exact .inl ⟨⟨xs, q, Nat.le_refl _⟩, hd σ H p⟩
theorem for_range {lo : Int} {n : Nat} {g : TG} {tb : TS} {D : Ends} {σ : St} {H : Hp} (Pv : Nat → St → Hp → Prop) (h0 : Pv 0 σ H)
    (hs : ∀ i σ H, i < n → Pv i σ H → g (.int (lo + i)) σ H fun σ2 H2 => tb { D with nx := Pv (i + 1), ct := Pv (i + 1), bk := D.nx } σ2 H2) (hd : ∀ σ H, Pv n σ H → D.nx σ H) :
    ∃ W : Nat → Nat → St → Hp → Prop, (∃ m, W 0 m σ H) ∧ ∀ i m σ H, W i m σ H →
      ((Itr lo n).stop i H ∧ D.nx σ H) ∨ ((Itr lo n).go i H ∧ ∃ N : St → Hp → Prop, (∀ σ' H', N σ' H' → ∃ m', m' < m ∧ W (i + 1) m' σ' H') ∧ ∀ x H', (Itr lo n).yld i H x H' → g x σ H' fun σ2 H2 => tb { D with nx := N, ct := N, bk := D.nx } σ2 H2) := by
  refine ⟨fun i m σ H => m = n - i ∧ i ≤ n ∧ Pv i σ H, ⟨n, by simp, Nat.zero_le _, h0⟩, ?_⟩
  rintro i m σ H ⟨rfl, hi, p⟩
  by_cases hlt : i < n
  · refine .inr ⟨hlt, Pv (i + 1), fun σ' H' p' => ⟨n - (i + 1), by omega, rfl, hlt, p'⟩, fun x H' y => ?_⟩
    obtain ⟨e, y⟩ := y
    subst e y
    exact hs i σ _ hlt p
  · have e : i = n := by omega
    subst e
    exact .inl ⟨Nat.le_refl _, hd σ H p⟩
theorem while_by {c : TT} {tb : TS} {D : Ends} {σ : St} {H : Hp} (Pv : St → Hp → Prop) (μ : St → Hp → Nat) (h0 : Pv σ H)
    (hs : ∀ σ H, Pv σ H → c σ H fun b H1 => if b = true then tb { D with nx := fun σ' H' => Pv σ' H' ∧ μ σ' H' < μ σ H, ct := fun σ' H' => Pv σ' H' ∧ μ σ' H' < μ σ H, bk := D.nx } σ H1 else D.nx σ H1)
    (mono : ∀ σ H Q Q', (∀ b H1, Q b H1 → Q' b H1) → c σ H Q → c σ H Q') : tWhile c tb D σ H := by
  refine ⟨fun m σ H => m = μ σ H ∧ Pv σ H, ⟨_, rfl, h0⟩, ?_⟩
  rintro m σ H ⟨rfl, p⟩
  refine mono σ H _ _ (fun b H1 q => ?_) (hs σ H p)
  cases b with
  | true => exact ⟨_, fun σ' H' ⟨p', l⟩ => ⟨_, l, rfl, p'⟩, q⟩
  | false => exact q
end L2

namespace L2
open PySem PySem.Spec PyProof.Rows

abbrev R2 := V → V → Hp → VK → Prop
def OpR (X : Cx) (f : Value → Value → Sem Value) (r : R2) : Prop :=
  ∀ (pins : List (Addr × Obj)) (s : Shared) (σ : St) (H : Hp) (x y : V) (v u : Value) (Q : VK), Inv X pins σ H s → RelV x v → RelV y u → r x y H Q →
    wpAny (model X.prog X.w) X.A (f v u) (EP X pins σ Q) X.xe s
def UnR (X : Cx) (f : Value → Sem Value) (r : V → Hp → VK → Prop) : Prop :=
  ∀ (pins : List (Addr × Obj)) (s : Shared) (σ : St) (H : Hp) (x : V) (v : Value) (Q : VK), Inv X pins σ H s → RelV x v → r x H Q →
    wpAny (model X.prog X.w) X.A (f v) (EP X pins σ Q) X.xe s
def CallR (X : Cx) (f : Value) (r : List V → Hp → VK → Prop) : Prop :=
  ∀ (pins : List (Addr × Obj)) (s : Shared) (σ : St) (H : Hp) (xs : List V) (us : List Value) (Q : VK), Inv X pins σ H s → Vals xs us → r xs H Q →
    wpAny (model X.prog X.w) X.A (call f us) (EP X pins σ Q) X.xe s
def TruR (X : Cx) (r : V → Hp → (Bool → Hp → Prop) → Prop) : Prop :=
  ∀ (pins : List (Addr × Obj)) (s : Shared) (σ : St) (H : Hp) (x : V) (v : Value) (Q : Bool → Hp → Prop), Inv X pins σ H s → RelV x v → r x H Q →
    wpAny (model X.prog X.w) X.A (truthy v) (TP X pins σ Q) X.xe s

def tOp (r : R2) (ta tb : TE) : TE := fun σ H Q => ta σ H fun x H1 => tb σ H1 fun y H2 => r x y H2 Q
def tUn (r : V → Hp → VK → Prop) (ta : TE) : TE := fun σ H Q => ta σ H fun x H1 => r x H1 Q
def rI (C : Int → Int → Prop) (g : Int → Int → V) : R2 := fun x y H Q => ∃ i j, x = .int i ∧ y = .int j ∧ C i j ∧ Q (g i j) H
def rI0 (g : Int → Int → V) : R2 := fun x y H Q => ∃ i j, x = .int i ∧ y = .int j ∧ Q (g i j) H
def rU (g : Int → V) : V → Hp → VK → Prop := fun x H Q => ∃ i, x = .int i ∧ Q (g i) H

section
variable {X : Cx} {a b c : Expr} {ta tb tc : TE} {pos : Pos}

theorem binT (ha : PE X a ta) (hb : PE X b tb) {pins : List (Addr × Obj)} {s : Shared} {σ : St} {H : Hp} {R : V → V → Hp → Prop} (I : Inv X pins σ H s)
    (h : ta σ H fun x H1 => tb σ H1 fun y H2 => R x y H2) {Q : Value → Shared → Prop} {f : Value → Value → Sem Value}
    (hf : ∀ v u s2 x y H2, Inv X pins σ H2 s2 → RelV x v → RelV y u → R x y H2 → wpAny (model X.prog X.w) X.A (f v u) Q X.xe s2) :
    wpAny (model X.prog X.w) X.A (eval a X.env) (fun v s₁ => wpAny (model X.prog X.w) X.A (eval b X.env) (fun u s₂ => wpAny (model X.prog X.w) X.A (f v u) Q X.xe s₂) X.xe s₁) X.xe s := by
  refine thn (ha pins s σ H _ I h) fun v s1 ⟨x, H1, I1, r1, q1⟩ => ?_
  refine thn (hb pins s1 σ H1 _ I1 q1) fun u s2 ⟨y, H2, I2, r2, q2⟩ => ?_
  exact hf v u s2 x y H2 I2 r1 r2 q2

theorem pe_op {op : Operator} {r : R2} (ho : OpR X (binaryOp op) r) (ha : PE X a ta) (hb : PE X b tb) : PE X (.BinOp a op b pos) (tOp r ta tb) := by
  intro pins s σ H Q I h
  exact wpAny_BinOp (binT ha hb I h fun v u s2 x y H2 I2 rx ry q => ho pins s2 σ H2 x y v u Q I2 rx ry q)
theorem pe_un {op : UnaryOp} {r : V → Hp → VK → Prop} (ho : UnR X (unaryOp op) r) (ha : PE X a ta) : PE X (.UnaryOp op a pos) (tUn r ta) := by
  intro pins s σ H Q I h
  exact UnaryOp_ (thn (ha pins s σ H _ I h) fun v s1 ⟨x, H1, I1, r1, q1⟩ => ho pins s1 σ H1 x v Q I1 r1 q1)
theorem opI {f : Value → Value → Sem Value} {C : Int → Int → Prop} {g : Int → Int → Int}
    (rule : ∀ (i j : Int) (t u : Tok) (s : Shared) (Q : Value → Shared → Prop) (E : Value → Shared → Prop), C i j → Q (.int (g i j) s.toks) { s with toks := s.toks + 1 } → wpAny (model X.prog X.w) X.A (f (.int i t) (.int j u)) Q E s) :
    OpR X f (rI C fun i j => .int (g i j)) := by
  intro pins s σ H x y v u Q I rx ry h
  obtain ⟨i, j, rfl, rfl, hc, q⟩ := h
  obtain ⟨t, rfl⟩ := rx
  obtain ⟨t', rfl⟩ := ry
  exact rule i j t t' s _ _ hc ⟨.int (g i j), H, I.tok _, ⟨_, rfl⟩, q⟩
theorem opI0 {f : Value → Value → Sem Value} {g : Int → Int → Int}
    (rule : ∀ (i j : Int) (t u : Tok) (s : Shared) (Q : Value → Shared → Prop) (E : Value → Shared → Prop), Q (.int (g i j) s.toks) { s with toks := s.toks + 1 } → wpAny (model X.prog X.w) X.A (f (.int i t) (.int j u)) Q E s) :
    OpR X f (rI0 fun i j => .int (g i j)) := by
  intro pins s σ H x y v u Q I rx ry h
  obtain ⟨i, j, rfl, rfl, q⟩ := h
  obtain ⟨t, rfl⟩ := rx
  obtain ⟨t', rfl⟩ := ry
  exact rule i j t t' s _ _ ⟨.int (g i j), H, I.tok _, ⟨_, rfl⟩, q⟩
theorem opB0 {f : Value → Value → Sem Value} {g : Int → Int → Bool}
    (rule : ∀ (i j : Int) (t u : Tok) (s : Shared) (Q : Value → Shared → Prop) (E : Value → Shared → Prop), Q (.bool (g i j)) s → wpAny (model X.prog X.w) X.A (f (.int i t) (.int j u)) Q E s) :
    OpR X f (rI0 fun i j => .bl (g i j)) := by
  intro pins s σ H x y v u Q I rx ry h
  obtain ⟨i, j, rfl, rfl, q⟩ := h
  obtain ⟨t, rfl⟩ := rx
  obtain ⟨t', rfl⟩ := ry
  exact rule i j t t' s _ _ ⟨.bl (g i j), H, I, rfl, q⟩

def CDiv (i j : Int) : Prop := 0 < j ∧ j < 1073741824
def CPow (i j : Int) : Prop := 0 ≤ j ∧ j ≤ 1000000 ∧ i.natAbs < 2 ^ 64
def CMul (i j : Int) : Prop := (-(2 ^ 64) < i ∧ i < 2 ^ 64) ∨ (-(2 ^ 64) < j ∧ j < 2 ^ 64)
theorem CMul.ok {i j : Int} (h : CMul i j) : IntMulOk i j := by
  rcases h with ⟨h1, h2⟩ | ⟨h1, h2⟩
  · exact .of_left (intBits_le_64 h1 h2)
  · exact .of_right (intBits_le_64 h1 h2)
theorem op_add : OpR X (binaryOp .Add) (rI0 fun i j => .int (i + j)) := opI0 fun _ _ _ _ _ _ _ q => add_int q
theorem op_sub : OpR X (binaryOp .Sub) (rI0 fun i j => .int (i - j)) := opI0 fun _ _ _ _ _ _ _ q => sub_int q
theorem op_mul : OpR X (binaryOp .Mult) (rI CMul fun i j => .int (i * j)) := opI fun _ _ _ _ _ _ _ hc q => mul_int q hc.ok
theorem op_fdiv : OpR X (binaryOp .FloorDiv) (rI CDiv fun i j => .int (i / j)) := opI fun i j _ _ _ _ _ hc q => by
  have h1 : (0 : Int) < j := hc.1
  have h2 : j < 1073741824 := hc.2
  exact floordiv_int (by omega) (by rw [Int.fdiv_eq_ediv_of_nonneg i (by omega)]; exact q) (.inl (PyProof.noPylong_small (by omega)))
theorem op_mod : OpR X (binaryOp .Mod) (rI (fun _ j => 0 < j) fun i j => .int (i % j)) := opI fun i j _ _ _ _ _ hc q => by
  have h1 : (0 : Int) < j := hc
  exact mod_int' (by omega) (by rw [Int.fmod_eq_emod_of_nonneg i (by omega)]; exact q)
theorem op_pow : OpR X (binaryOp .Pow) (rI CPow fun i j => .int (i ^ j.toNat)) := opI fun _ _ _ _ _ _ _ hc q => pow_int_small hc.1 hc.2.1 hc.2.2 q
theorem unI {f : Value → Sem Value} {g : Int → Int}
    (rule : ∀ (i : Int) (t : Tok) (s : Shared) (Q : Value → Shared → Prop) (E : Value → Shared → Prop), Q (.int (g i) s.toks) { s with toks := s.toks + 1 } → wpAny (model X.prog X.w) X.A (f (.int i t)) Q E s) :
    UnR X f (rU fun i => .int (g i)) := by
  intro pins s σ H x v Q I rx h
  obtain ⟨i, rfl, q⟩ := h
  obtain ⟨t, rfl⟩ := rx
  exact rule i t s _ _ ⟨.int (g i), H, I.tok _, ⟨_, rfl⟩, q⟩
theorem un_neg : UnR X (unaryOp .USub) (rU fun i => .int (-i)) := unI fun _ _ _ _ _ q => neg_int q
end

def scal : V → V → Bool
  | .non, .non => true | .non, .int _ => true | .int _, .non => true | .non, .bl _ => true | .bl _, .non => true | .non, .str _ => true | .str _, .non => true
  | .int _, .int _ => true | .bl _, .bl _ => true | .str _, .str _ => true | .byt _, .byt _ => true
  | .int _, .str _ => true | .str _, .int _ => true | .bl _, .str _ => true | .str _, .bl _ => true
  | _, _ => false
def rEq : R2 := fun x y H Q => scal x y = true ∧ Q (.bl (decide (x = y))) H
def rNe : R2 := fun x y H Q => scal x y = true ∧ Q (.bl (!decide (x = y))) H

theorem dec_int {i j : Int} : decide (V.int i = V.int j) = (i == j) := by
  rw [Bool.eq_iff_iff]
  simp
theorem dec_bl {i j : Bool} : decide (V.bl i = V.bl j) = (i == j) := by
  rw [Bool.eq_iff_iff]
  simp
theorem dec_str {i j : Str} : decide (V.str i = V.str j) = (i == j) := by
  rw [Bool.eq_iff_iff]
  simp
theorem dec_byt {i j : Array UInt8} : decide (V.byt i = V.byt j) = (i.toList == j.toList) := by
  rw [Bool.eq_iff_iff]
  cases i
  cases j
  simp

section
variable {X : Cx} {a b c : Expr} {ta tb tc : TE} {pos : Pos}
theorem fin_bl {pins : List (Addr × Obj)} {σ : St} {H : Hp} {s : Shared} {Q : VK} {k k' : Bool} (I : Inv X pins σ H s) (q : Q (.bl k) H) (e : k = k') : EP X pins σ Q (.bool k') s := by
  subst e
  exact ⟨.bl k, H, I, rfl, q⟩
theorem op_eq : OpR X (compareOp .Eq) rEq := by
  intro pins s σ H x y v u Q I rx ry h
  obtain ⟨hs, q⟩ := h
  cases x with
  | non =>
    cases rx
    cases y with
    | non => cases ry; exact PySem.EqNone.eq_none_none (fin_bl I q (by simp))
    | bl j => cases ry; exact PySem.EqNone.eq_none_bool (fin_bl I q (by simp))
    | int j => obtain ⟨t', rfl⟩ := ry; exact PySem.EqNone.eq_none_int (fin_bl I q (by simp))
    | str j => obtain ⟨t', rfl⟩ := ry; exact PySem.EqNone.eq_none_str (fin_bl I q (by simp))
    | _ => exact absurd (show false = true from hs) Bool.false_ne_true
  | bl i =>
    cases rx
    cases y with
    | non => cases ry; exact PySem.EqNone.eq_bool_none (fin_bl I q (by simp))
    | bl j => cases ry; exact eq_bool (fin_bl I q dec_bl)
    | str j => obtain ⟨t', rfl⟩ := ry; exact PySem.EqMixed.eq_bool_str (fin_bl I q (by simp))
    | _ => exact absurd (show false = true from hs) Bool.false_ne_true
  | int i =>
    obtain ⟨t, rfl⟩ := rx
    cases y with
    | non => cases ry; exact PySem.EqNone.eq_int_none (fin_bl I q (by simp))
    | int j => obtain ⟨t', rfl⟩ := ry; exact eq_int (fin_bl I q dec_int)
    | str j => obtain ⟨t', rfl⟩ := ry; exact PySem.EqMixed.eq_int_str (fin_bl I q (by simp))
    | _ => exact absurd (show false = true from hs) Bool.false_ne_true
  | str i =>
    obtain ⟨t, rfl⟩ := rx
    cases y with
    | non => cases ry; exact PySem.EqNone.eq_str_none (fin_bl I q (by simp))
    | bl j => cases ry; exact PySem.EqMixed.eq_str_bool (fin_bl I q (by simp))
    | int j => obtain ⟨t', rfl⟩ := ry; exact PySem.EqMixed.eq_str_int (fin_bl I q (by simp))
    | str j => obtain ⟨t', rfl⟩ := ry; exact eq_str (fin_bl I q dec_str)
    | _ => exact absurd (show false = true from hs) Bool.false_ne_true
  | byt i =>
    obtain ⟨t, rfl⟩ := rx
    cases y with
    | byt j => obtain ⟨t', rfl⟩ := ry; exact PySem.W.eq_bytes (fin_bl I q dec_byt)
    | _ => exact absurd (show false = true from hs) Bool.false_ne_true
  | _ => cases y <;> exact absurd (show false = true from hs) Bool.false_ne_true
theorem op_ne : OpR X (compareOp .NotEq) rNe := by
  intro pins s σ H x y v u Q I rx ry h
  obtain ⟨hs, q⟩ := h
  cases x with
  | non =>
    cases rx
    cases y with
    | non => cases ry; exact PySem.EqNone.ne_none_none (fin_bl I q (by simp))
    | bl j => cases ry; exact PySem.EqNone.ne_none_bool (fin_bl I q (by simp))
    | int j => obtain ⟨t', rfl⟩ := ry; exact PySem.EqNone.ne_none_int (fin_bl I q (by simp))
    | str j => obtain ⟨t', rfl⟩ := ry; exact PySem.EqNone.ne_none_str (fin_bl I q (by simp))
    | _ => exact absurd (show false = true from hs) Bool.false_ne_true
  | bl i =>
    cases rx
    cases y with
    | non => cases ry; exact PySem.EqNone.ne_bool_none (fin_bl I q (by simp))
    | bl j => cases ry; exact ne_bool (fin_bl I q (congrArg not dec_bl))
    | str j => obtain ⟨t', rfl⟩ := ry; exact PySem.EqMixed.ne_bool_str (fin_bl I q (by simp))
    | _ => exact absurd (show false = true from hs) Bool.false_ne_true
  | int i =>
    obtain ⟨t, rfl⟩ := rx
    cases y with
    | non => cases ry; exact PySem.EqNone.ne_int_none (fin_bl I q (by simp))
    | int j => obtain ⟨t', rfl⟩ := ry; exact ne_int (fin_bl I q (congrArg not dec_int))
    | str j => obtain ⟨t', rfl⟩ := ry; exact PySem.EqMixed.ne_int_str (fin_bl I q (by simp))
    | _ => exact absurd (show false = true from hs) Bool.false_ne_true
  | str i =>
    obtain ⟨t, rfl⟩ := rx
    cases y with
    | non => cases ry; exact PySem.EqNone.ne_str_none (fin_bl I q (by simp))
    | bl j => cases ry; exact PySem.EqMixed.ne_str_bool (fin_bl I q (by simp))
    | int j => obtain ⟨t', rfl⟩ := ry; exact PySem.EqMixed.ne_str_int (fin_bl I q (by simp))
    | str j => obtain ⟨t', rfl⟩ := ry; exact ne_str (fin_bl I q (congrArg not dec_str))
    | _ => exact absurd (show false = true from hs) Bool.false_ne_true
  | byt i =>
    obtain ⟨t, rfl⟩ := rx
    cases y with
    | byt j => obtain ⟨t', rfl⟩ := ry; exact PySem.W.ne_bytes (fin_bl I q (congrArg not dec_byt))
    | _ => exact absurd (show false = true from hs) Bool.false_ne_true
  | _ => cases y <;> exact absurd (show false = true from hs) Bool.false_ne_true

theorem op_lt : OpR X (compareOp .Lt) (rI0 fun i j => .bl (decide (i < j))) := opB0 fun _ _ _ _ _ _ _ q => lt_int q
theorem op_le : OpR X (compareOp .LtE) (rI0 fun i j => .bl (decide (i ≤ j))) := opB0 fun _ _ _ _ _ _ _ q => le_int q
theorem op_gt : OpR X (compareOp .Gt) (rI0 fun i j => .bl (decide (j < i))) := opB0 fun _ _ _ _ _ _ _ q => gt_int q
theorem op_ge : OpR X (compareOp .GtE) (rI0 fun i j => .bl (decide (j ≤ i))) := opB0 fun _ _ _ _ _ _ _ q => ge_int q
theorem op_isN : OpR X (compareOp .Is) (fun x y H Q => y = .non ∧ Q (.bl (decide (x = .non))) H) := by
  intro pins s σ H x y v u Q I rx ry h
  obtain ⟨rfl, q⟩ := h
  cases ry
  refine is_none_gen (fin_bl I q ?_)
  cases x <;> first
    | (cases rx; rfl)
    | (obtain ⟨t, rfl⟩ := rx; rfl)
theorem op_notN : OpR X (compareOp .IsNot) (fun x y H Q => y = .non ∧ Q (.bl (!decide (x = .non))) H) := by
  intro pins s σ H x y v u Q I rx ry h
  obtain ⟨rfl, q⟩ := h
  cases ry
  refine isnot_none_gen (fin_bl I q ?_)
  cases x <;> first
    | (cases rx; rfl)
    | (obtain ⟨t, rfl⟩ := rx; rfl)

theorem nomark (b : Expr) {op : CmpOp} (h : op ≠ .In := by decide) (h2 : op ≠ .NotIn := by decide) : behindInMarks op b = false := by
  have e1 : (op == CmpOp.In) = false := by cases op <;> first | rfl | exact absurd rfl h
  have e2 : (op == CmpOp.NotIn) = false := by cases op <;> first | rfl | exact absurd rfl h2
  cases b <;> simp [behindInMarks, e1, e2]
theorem pe_cmpR {op : CmpOp} {r : R2} (ho : OpR X (compareOp op) r) (ha : PE X a ta) (hb : PE X b tb) (hm : behindInMarks op b = false) : PE X (.Compare a [op] [b] pos) (tOp r ta tb) := by
  intro pins s σ H Q I h
  exact wpAny_Compare1 (binT ha hb I h fun v u s2 x y H2 I2 rx ry q => ho pins s2 σ H2 x y v u Q I2 rx ry q) hm
def tTest (t : TE) : TT := fun σ H Q => t σ H fun x H' => ∃ k, x = .bl k ∧ Q k H'
theorem pt_cmpR {op : CmpOp} {r : R2} (ho : OpR X (compareOp op) r) (ha : PE X a ta) (hb : PE X b tb) (hm : behindInMarks op b = false) : PT X (.Compare a [op] [b] pos) (tTest (tOp r ta tb)) := by
  intro pins s σ H Q I h
  refine wpAny_isTrue_Compare1 (thn (ha pins s σ H _ I h) fun v s1 ⟨x, H1, I1, r1, q1⟩ => thn (hb pins s1 σ H1 _ I1 q1) fun u s2 ⟨y, H2, I2, r2, q2⟩ =>
    thn (ho pins s2 σ H2 x y v u _ I2 r1 r2 q2) fun c s3 ⟨z, H3, I3, r3, k, e, q3⟩ => ?_) hm
  subst e
  cases r3
  exact wpAny_truthy_bool ⟨H3, I3, q3⟩
def tChain (r r' : R2) (ta tb tc : TE) : TE := fun σ H Q => ta σ H fun x H1 => tb σ H1 fun y H2 => r x y H2 fun z H3 => ∃ k, z = .bl k ∧
  (if k = true then tc σ H3 fun w' H4 => r' y w' H4 Q else Q (.bl false) H3)
theorem pe_chain {op op' : CmpOp} {r r' : R2} (ho : OpR X (compareOp op) r) (ho' : OpR X (compareOp op') r') (ha : PE X a ta) (hb : PE X b tb) (hc : PE X c tc)
    (hm : lastMarks [op, op'] [b, c] = false := by with_unfolding_all rfl) : PE X (.Compare a [op, op'] [b, c] pos) (tChain r r' ta tb tc) := by
  intro pins s σ H Q I h
  refine Compare_chain (thn (ha pins s σ H _ I h) fun v s1 ⟨x, H1, I1, r1, q1⟩ => chain_link (thn (hb pins s1 σ H1 _ I1 q1) fun u s2 ⟨y, H2, I2, r2, q2⟩ =>
    thn (ho pins s2 σ H2 x y v u _ I2 r1 r2 q2) fun d s3 ⟨z, H3, I3, r3, k, e, q3⟩ => ?_)) hm
  subst e
  cases r3
  refine wpAny_truthy_bool ?_
  cases k with
  | false => exact ite_ff ⟨.bl false, H3, I3, rfl, q3⟩
  | true => exact ite_tt (chain_last (thn (hc pins s3 σ H3 _ I3 q3) fun w' s4 ⟨z', H4, I4, r4, q4⟩ => ho' pins s4 σ H4 y z' u w' Q I4 r2 r4 q4))
theorem pt_chain {op op' : CmpOp} {r r' : R2} (ho : OpR X (compareOp op) r) (ho' : OpR X (compareOp op') r') (ha : PE X a ta) (hb : PE X b tb) (hc : PE X c tc)
    (hm : lastMarks [op, op'] [b, c] = false := by with_unfolding_all rfl) : PT X (.Compare a [op, op'] [b, c] pos) (tTest (tChain r r' ta tb tc)) := by
  intro pins s σ H Q I h
  refine isTrue_chain (thn (ha pins s σ H _ I h) fun v s1 ⟨x, H1, I1, r1, q1⟩ => test_link (thn (hb pins s1 σ H1 _ I1 q1) fun u s2 ⟨y, H2, I2, r2, q2⟩ =>
    thn (ho pins s2 σ H2 x y v u _ I2 r1 r2 q2) fun d s3 ⟨z, H3, I3, r3, k, e, q3⟩ => ?_)) hm
  subst e
  cases r3
  refine wpAny_truthy_bool ?_
  cases k with
  | false =>
    obtain ⟨k', e', q'⟩ := q3
    cases e'
    exact ite_ff ⟨H3, I3, q'⟩
  | true =>
    refine ite_tt (test_last (thn (hc pins s3 σ H3 _ I3 q3) fun w' s4 ⟨z', H4, I4, r4, q4⟩ => thn (ho' pins s4 σ H4 y z' u w' _ I4 r2 r4 q4) fun d' s5 ⟨z2, H5, I5, r5, k2, e2, q5⟩ => ?_))
    subst e2
    cases r5
    exact wpAny_truthy_bool ⟨H5, I5, q5⟩

def TruV (K : PySem.W.Frag) (x : V) (H : Hp) (k : Bool) : Prop :=
  match x with
  | .non => k = false
  | .bl b => k = b
  | .int i => k = (i != 0)
  | .str y => y.length ≤ sizeLine ∧ k = ((y.length : Int) != 0)
  | .byt y => y.size ≤ sizeLine ∧ k = ((y.size : Int) != 0)
  | .ref p => (∃ xs, SqL K H p xs ∧ k = !xs.isEmpty) ∨ (∃ xs, SqT K H p xs ∧ k = !xs.isEmpty) ∨ ∃ kvs, H p = some (.dK kvs) ∧ k = !kvs.isEmpty
  | _ => False
theorem isEmpty_kv {κ : Type} {kvs : List (κ × V)} {vs : List (κ × Value)} (r : KV kvs vs) : (!vs.isEmpty) = !kvs.isEmpty := by
  cases r <;> rfl
theorem isEmpty_of {xs : List V} {its : List Value} (r : Vals xs its) : (!its.toArray.isEmpty) = !xs.isEmpty := by
  cases r <;> simp
theorem line63 : (sizeLine : Nat) < 2 ^ 63 := by rw [sizeLine_eq]; decide
theorem tru_ok : TruR X (fun x H Q => ∃ k, TruV X.K x H k ∧ Q k H) := by
  intro pins s σ H x v Q I rx h
  obtain ⟨k, e, q⟩ := h
  have hl := line63
  have hs : sizeLine = 16777216 := sizeLine_eq
  cases x with
  | non =>
    cases rx
    have e' : k = false := e
    subst e'
    exact truthy_none ⟨H, I, q⟩
  | bl b =>
    cases rx
    have e' : k = b := e
    subst e'
    exact wpAny_truthy_bool ⟨H, I, q⟩
  | int i =>
    obtain ⟨t, rfl⟩ := rx
    have e' : k = (i != 0) := e
    subst e'
    exact PySem.P.truthy_int ⟨H, I, q⟩
  | str y =>
    obtain ⟨t, rfl⟩ := rx
    obtain ⟨hy, e'⟩ : y.length ≤ sizeLine ∧ k = ((y.length : Int) != 0) := e
    subst e'
    exact PySem.P.truthy_str (by omega) ⟨H, I.tok _, q⟩
  | byt y =>
    obtain ⟨t, rfl⟩ := rx
    obtain ⟨hy, e'⟩ : y.size ≤ sizeLine ∧ k = ((y.size : Int) != 0) := e
    subst e'
    exact PySem.W.truthy_bytes (by omega) ⟨H, I.tok _, q⟩
  | ref p =>
    cases rx
    have e' : (∃ xs, SqL X.K H p xs ∧ k = !xs.isEmpty) ∨ (∃ xs, SqT X.K H p xs ∧ k = !xs.isEmpty) ∨ ∃ kvs, H p = some (.dK kvs) ∧ k = !kvs.isEmpty := e
    rcases e' with ⟨xs, hx, e'⟩ | ⟨xs, hx, e'⟩ | ⟨kvs, hx, e'⟩
    · subst e'
      obtain ⟨its, r, pl, hz⟩ := I.list hx
      have hlen := r.length
      exact wpAny_truthy_list pl.isList (by simp only [List.size_toArray]; omega) ⟨H, I.tok _, by rw [isEmpty_of r]; exact q⟩
    · subst e'
      obtain ⟨its, r, pl, hz⟩ := I.tuple hx
      have hlen := r.length
      exact truthy_tuple pl (by simp only [List.size_toArray]; omega) ⟨H, I.tok _, by rw [isEmpty_of r]; exact q⟩
    · subst e'
      obtain ⟨hz, hS, vs, r, m⟩ : kvs.length ≤ sizeLine ∧ (p == sysModules) = false ∧ ∃ vs, KV kvs vs ∧ s.heap.DictOf (mixKind X.prog X.w) p vs := I.hok p _ hx
      have hlen : kvs.length = vs.length := Paired.length r
      exact wpAny_truthy_dict hS m (by omega) ⟨H, I.tok _, by rw [isEmpty_kv r]; exact q⟩
  | _ => exact (show False from e).elim
theorem pt_truth (ha : PE X a ta) (he : ∀ whole, isTrue a X.env whole = (do let v ← whole; standAt a.pos; holding [v] (truthy v))) :
    PT X a (fun σ H Q => ta σ H fun x H' => ∃ k, TruV X.K x H' k ∧ Q k H') := by
  intro pins s σ H Q I h
  exact isTrue_plain (thn (ha pins s σ H _ I h) fun v s1 ⟨x, H1, I1, r1, q1⟩ => tru_ok pins s1 σ H1 x v Q I1 r1 q1) (he _)

theorem vals1 {x : V} {us : List Value} (r : Vals [x] us) : ∃ u, us = [u] ∧ RelV x u := by
  cases r with
  | cons r1 r2 => cases r2; exact ⟨_, rfl, r1⟩
theorem vals2 {x y : V} {us : List Value} (r : Vals [x, y] us) : ∃ u w', us = [u, w'] ∧ RelV x u ∧ RelV y w' := by
  cases r with
  | cons r1 r2 =>
    cases r2 with
    | cons r3 r4 => cases r4; exact ⟨_, _, rfl, r1, r3⟩
theorem call_abs : CallR X (.builtin "abs") (fun xs H Q => ∃ i, xs = [.int i] ∧ Q (.int (if i < 0 then -i else i)) H) := by
  intro pins s σ H xs us Q I r h
  obtain ⟨i, rfl, q⟩ := h
  obtain ⟨u, rfl, t, rfl⟩ := vals1 r
  exact call_abs_int fun u tk => ⟨.int (if i < 0 then -i else i), H, I.tok _, ⟨_, rfl⟩, q⟩
theorem call_max2 (hc : X.calm = true) : CallR X (.builtin "max") (fun xs H Q => ∃ i j, xs = [.int i, .int j] ∧ Q (.int (if j > i then j else i)) H) := by
  intro pins s σ H xs us Q I r h
  obtain ⟨i, j, rfl, q⟩ := h
  obtain ⟨u, w', rfl, ⟨t, rfl⟩, ⟨t', rfl⟩⟩ := vals2 r
  refine max_two_ints (I.ok.hd hc) fun h' tk k => ⟨_, H, I.kept k, ?_, q⟩
  by_cases hj : j > i
  · rw [if_pos hj, if_pos hj]; exact ⟨_, rfl⟩
  · rw [if_neg hj, if_neg hj]; exact ⟨_, rfl⟩
theorem call_min2 (hc : X.calm = true) : CallR X (.builtin "min") (fun xs H Q => ∃ i j, xs = [.int i, .int j] ∧ Q (.int (if j < i then j else i)) H) := by
  intro pins s σ H xs us Q I r h
  obtain ⟨i, j, rfl, q⟩ := h
  obtain ⟨u, w', rfl, ⟨t, rfl⟩, ⟨t', rfl⟩⟩ := vals2 r
  refine min_two_ints (I.ok.hd hc) fun h' tk k => ⟨_, H, I.kept k, ?_, q⟩
  by_cases hj : j < i
  · rw [if_pos hj, if_pos hj]; exact ⟨_, rfl⟩
  · rw [if_neg hj, if_neg hj]; exact ⟨_, rfl⟩
theorem call_int1 : CallR X (.type "int") (fun xs H Q => (∃ i, xs = [.int i] ∧ Q (.int i) H) ∨ ∃ k, xs = [.bl k] ∧ Q (.int (if k then 1 else 0)) H) := by
  intro pins s σ H xs us Q I r h
  rcases h with ⟨i, rfl, q⟩ | ⟨k, rfl, q⟩
  · obtain ⟨u, rfl, t, rfl⟩ := vals1 r
    exact call_int_int ⟨.int i, H, I, ⟨_, rfl⟩, q⟩
  · obtain ⟨u, rfl, r1⟩ := vals1 r
    cases r1
    exact call_int_bool ⟨.int (if k then 1 else 0), H, I.tok _, ⟨_, rfl⟩, q⟩
end
end L2

namespace L2
open PySem PySem.Spec PyProof.Rows

structure ObjM (h : Heap) (x dx C : Addr) (mA : Str → Option Value) : Prop where
  obj : h.get? x = some (PySem.W.instObj C dx)
  ns : h.Ns1 dx mA
  ne : dx ≠ x

theorem lookIn_ns {h : Heap} {dx : Addr} {mA : Str → Option Value} (n : h.Ns1 dx mA) : ∃ od, h.get? dx = some od ∧ ∀ name, PySem.W.lookIn name od = some (mA name) := by
  obtain ⟨o, es, ep, ho, hd, hk, _, hm⟩ := n
  refine ⟨o, ho, fun name => ?_⟩
  have e := hm name
  unfold nsFind findBy at e
  rw [← Array.find?_toList] at e
  unfold PySem.W.lookIn
  rw [hd]
  dsimp only
  split
  · rename_i y q
    rw [q] at e
    exact congrArg some e
  · rename_i q
    rw [q] at e
    have a : es.toList.any (·.refKey) = false := by
      rw [List.any_eq_false]
      intro y hy
      obtain ⟨z, t, hkey⟩ := hk y (Array.mem_toList_iff.mp hy)
      simp [DictEntry.refKey, hkey]
    have a' : ¬ es.toList.any (·.refKey) = true := by rw [a]; exact Bool.false_ne_true
    rw [if_neg a']
    exact congrArg some e

theorem ObjM.look {h : Heap} {x dx C : Addr} {mA : Str → Option Value} (I : ObjM h x dx C mA) : ∃ od, PySem.W.InstAt h x (PySem.W.instObj C dx) C (some od) ∧ ∀ name, PySem.W.lookIn name od = some (mA name) :=
  let ⟨od, ho, hl⟩ := lookIn_ns I.ns
  ⟨od, ⟨I.obj, rfl, rfl, ho⟩, hl⟩

section
variable {prog : Program} {w : World} {A : Around} {E : Value → Shared → Prop} {s : Shared} {K : PySem.W.Frag} {x dx C f : Addr} {mA : Str → Option Value} {name : Str} {v : Value}

end

theorem RelO.some_of {v : V} {o : Option Value} (r : RelO (some v) o) : ∃ u, o = some u ∧ RelV v u := by
  cases o with
  | none => exact (show False from r).elim
  | some u => exact ⟨u, rfl, r⟩
section
variable {P : Program} {w : World} {H H' : Hp} {h h' : Heap} {a C dx : Addr} {fs fs' : List (Str × V)}
theorem ins_get (hok : HOk P w H h) (e : H a = some (.ins C dx fs)) : ∃ mA, ObjM h a dx C mA ∧ (∀ f, RelO (fs.lookup f) (mA f)) ∧ PySem.Within mA (fs.map (·.1)) ∧ fs.length ≤ 1000 ∧ H dx = some (.own a) := by
  obtain ⟨d, z, ne, ob, mA, n, r, q⟩ := (show ObjOk P w H h a (.ins C dx fs) from hok a _ e)
  exact ⟨mA, ⟨ob, n, ne⟩, r, q, z, d⟩
end

structure Cls (K : PySem.W.Frag) (C : Addr) : Prop where
  pg : PySem.W.plainGet K C Str.empty = true
  hd : PySem.W.hasDictIn K C = true
  po : PySem.W.plainOver K C = true
  sa : PySem.W.findIn K (.ref C) "__setattr__" = some (some (.builtin "object.__setattr__"))
theorem Cls.get {K : PySem.W.Frag} {C : Addr} (c : Cls K C) (f : Str) : PySem.W.plainGet K C f = true := c.pg
structure Con (K : PySem.W.Frag) (C : Addr) (f : Str) (v : V) (u : Value) : Prop where
  at_ : PySem.W.findIn K (.ref C) f = some (some u)
  rel : RelV v u
  get : PySem.W.specialIn K u "__get__" = some none
  cp : PySem.W.copiedNames.contains f = false
structure Meth (K : PySem.W.Frag) (C : Addr) (m : Str) (f : Addr) : Prop where
  at_ : PySem.W.findIn K (.ref C) m = some (some (.ref f))
  fn : PySem.W.isFn K (.ref f) = true
  kp : PySem.W.keepIn K (.ref f) = true

section
variable {X : Cx} {pins : List (Addr × Obj)} {σ : St} {H : Hp} {s : Shared} {a C dx : Addr} {fs : List (Str × V)} {f : Str} {v : V} {A : Around} {E : Value → Shared → Prop}

end

section
variable {X : Cx} {o e value : Expr} {f : Str} {pos pos' tpos : Pos} {ta tv : TE}
end

section
variable {X : Cx} {pins : List (Addr × Obj)} {σ : St} {H : Hp} {s : Shared} {A : Around} {E : Value → Shared → Prop} {Q : Value → Shared → Prop} {c : Value} {b : Bool}
inductive TyOf (K : PySem.W.Frag) (H : Hp) : V → Value → Prop where
  | non : TyOf K H .non (.type "NoneType")
  | bl (x : Bool) : TyOf K H (.bl x) (.type "bool")
  | int (i : Int) : TyOf K H (.int i) (.type "int")
  | str (x : Str) : TyOf K H (.str x) (.type "str")
  | flt (x : UInt64) : TyOf K H (.flt x) (.type "float")
  | lst {a : Addr} {xs : List V} (e : H a = some (.lst xs)) : TyOf K H (.ref a) (.type "list")
  | frz {a : Addr} {o : Obj} {xs : List V} (e : H a = some (.frz o (.lst xs))) : TyOf K H (.ref a) (.type "list")
  | tup {a : Addr} {xs : List V} (e : H a = some (.tup xs)) : TyOf K H (.ref a) (.type "tuple")
  | dK {a : Addr} {kvs : List (Key × V)} (e : H a = some (.dK kvs)) : TyOf K H (.ref a) (.type "dict")
  | dT {a : Addr} {kvs : List (List Key × V)} (e : H a = some (.dT kvs)) : TyOf K H (.ref a) (.type "dict")
  | ins {a C dx : Addr} {fs : List (Str × V)} (e : H a = some (.ins C dx fs)) (cl : Cls K C) (ha : PySem.W.findIn K (.ref C) "__class__" = some (some (.builtin "object.__class__")))
      (hn : PySem.W.specialIn K (.builtin "object.__class__") "__get__" = some (some (.builtin "getset_descriptor.__get__"))) (htk : PySem.W.takesIn K (.builtin "object.__class__") = some true)
      (hm : PySem.W.mroIn K C (.type "object") = some true) : TyOf K H (.ref a) (.ref C)
theorem isinst_ok {x : V} {u t : Value} (I : Inv X pins σ H s) (rx : RelV x u) (ty : TyOf X.K H x t) (e : PySem.W.kitOne X.K t c = some b) (h : ∀ tk, Q (.bool b) { s with toks := tk }) :
    wpAny (model X.prog X.w) A (call (.builtin "isinstance") [u, c]) Q E s := by
  cases ty with
  | non => cases (show u = Value.none from rx); exact PySem.W.kia_one PySem.W.kitx_none I.kIn True.intro e (fun z => nomatch z) h
  | bl y => cases (show u = Value.bool y from rx); exact PySem.W.kia_one PySem.W.kitx_bool I.kIn True.intro e (fun z => nomatch z) h
  | int i => obtain ⟨t, q⟩ := (show ∃ t, u = Value.int i t from rx); cases q; exact PySem.W.kia_one PySem.W.kitx_int I.kIn True.intro e (fun z => nomatch z) h
  | str y => obtain ⟨t, q⟩ := (show ∃ t, u = Value.str y t from rx); cases q; exact PySem.W.kia_one PySem.W.kitx_str I.kIn True.intro e (fun z => nomatch z) h
  | flt y => obtain ⟨t, q⟩ := (show ∃ t, u = Value.float y t from rx); cases q; exact PySem.W.kia_one PySem.W.kitx_float I.kIn True.intro e (fun z => nomatch z) h
  | @lst a xs ea =>
    cases (show u = Value.ref a from rx)
    obtain ⟨_, _, n, _, h1⟩ := (show ObjOk X.prog X.w H s.heap a (.lst xs) from I.hok a _ ea)
    exact PySem.W.kia_one PySem.W.kitx_list I.kIn ⟨_, h1, rfl⟩ e (fun z => nomatch z) h
  | @frz a ob xs ea =>
    cases (show u = Value.ref a from rx)
    obtain ⟨_, _, _, n, _, h1⟩ := (show ObjOk X.prog X.w H s.heap a (.frz ob (.lst xs)) from I.hok a _ ea)
    exact PySem.W.kia_one PySem.W.kitx_list I.kIn ⟨_, h1, rfl⟩ e (fun z => nomatch z) h
  | @tup a xs ea =>
    cases (show u = Value.ref a from rx)
    obtain ⟨_, _, _, p⟩ := (show ObjOk X.prog X.w H s.heap a (.tup xs) from I.hok a _ ea)
    obtain ⟨o, h1, h2, _⟩ := p
    exact PySem.W.kia_one PySem.W.kitx_tuple I.kIn ⟨o, h1, h2⟩ e (fun z => nomatch z) h
  | @dK a kvs ea =>
    cases (show u = Value.ref a from rx)
    obtain ⟨_, _, vs, _, p⟩ := (show ObjOk X.prog X.w H s.heap a (.dK kvs) from I.hok a _ ea)
    obtain ⟨o, es, ep, h1, h2, _⟩ := p
    exact PySem.W.kia_one PySem.W.kitx_dict I.kIn ⟨o, h1, h2.1⟩ e (fun z => nomatch z) h
  | @dT a kvs ea =>
    cases (show u = Value.ref a from rx)
    obtain ⟨_, _, xs, _, o, es, ep, h1, h2, _⟩ := (show ObjOk X.prog X.w H s.heap a (.dT kvs) from I.hok a _ ea)
    exact PySem.W.kia_one PySem.W.kitx_dict I.kIn ⟨o, h1, h2.1⟩ e (fun z => nomatch z) h
  | @ins a C dx fs ea cl ha hn htk hm =>
    cases (show u = Value.ref a from rx)
    obtain ⟨mA, O, _⟩ := ins_get I.hok ea
    obtain ⟨od, J, _⟩ := O.look
    exact PySem.W.kia_one (PySem.W.kitx_own (cl.get _) cl.hd ha hn htk hm) I.kIn J e (fun z => nomatch z) h
end
end L2

namespace L2
open PySem PySem.Spec PyProof.Rows

structure Room (k : Nat) (A : Around) : Prop where
  hd : A.handled = none
  dp : A.depth + 3 * k + 5 < recursionLimit
  un : A.units + 16 * k + 200 < cLine
theorem Room.mono {j k : Nat} {A : Around} (r : Room k A) (h : j ≤ k) : Room j A := ⟨r.hd, by have := r.dp; omega, by have := r.un; omega⟩
theorem Room.deeper {k : Nat} {A : Around} (r : Room (k + 1) A) (env : Env) : Room k (A.deeper env) :=
  ⟨r.hd, by have := r.dp; show A.depth + 1 + 3 * k + 5 < _; omega, by have := r.un; show A.units + 3 + 16 * k + 200 < _; omega⟩
theorem Room.in1 {k : Nat} {A : Around} (r : Room (k + 1) A) : Room k A.in1 :=
  ⟨r.hd, by have := r.dp; show A.depth + 3 * k + 5 < _; omega, by have := r.un; show A.units + 1 + 16 * k + 200 < _; omega⟩
theorem Room.depth {k : Nat} {A : Around} (r : Room k A) : A.depth < recursionLimit := by have := r.dp; omega
theorem Room.units {k : Nat} {A : Around} (r : Room k A) : A.units + 64 < cLine := by have := r.un; omega
def tNil : TA := fun _ H Q => Q [] H
def tCons (ta : TE) (tr : TA) : TA := fun σ H Q => ta σ H fun x H1 => tr σ H1 fun xs H2 => Q (x :: xs) H2
section
variable {X : Cx} {e : Expr} {es : List Expr} {te : TE} {t : TA} {pos : Pos}
theorem pa_nil : PA X [] tNil := fun _ _ _ _ H Q I h => Calls.spliced_nil ⟨[], H, I, .nil, h⟩
theorem pa_cons (ha : PE X e te) (hr : PA X es t) (hs : starEach (e :: es) X.env = (false, eval e X.env) :: starEach es X.env := by rfl) : PA X (e :: es) (tCons te t) := by
  intro pos pins s σ H Q I h
  rw [hs]
  show wpAny _ _ (spliced ((false, eval e X.env) :: backTo pos (starEach es X.env))) _ _ s
  refine Calls.spliced_cons (thn (ha pins s σ H _ I h) fun u s1 ⟨x, H1, I1, r1, q1⟩ => ?_)
  exact thn (hr pos pins s1 σ H1 _ I1 q1) fun us s2 ⟨xs, H2, I2, r2, q2⟩ => ⟨x :: xs, H2, I2, .cons r1 r2, q2⟩

def tTup (t : TA) : TE := fun σ H Q => t σ H fun xs H1 => xs.length ≤ sizeLine ∧ ∀ p, H1 p = none → Q (.ref p) (upd H1 p (.tup xs))
def tLst (t : TA) : TE := fun σ H Q => t σ H fun xs H1 => xs.length ≤ sizeLine ∧ ∀ p, H1 p = none → Q (.ref p) (upd H1 p (.lst xs))
theorem pe_tup {x1} (h : PA X es t) : PE X (.Tuple es x1 pos) (tTup t) := by
  intro pins s σ H Q I hq
  refine wpAny_Tuple_spliced (thn (h pos pins s σ H _ I hq) fun us s1 ⟨xs, H1, I1, r, z, q⟩ => ⟨by rw [← r.length]; exact z, ?_⟩)
  have hf : H1 s1.heap.objs.size = none := I1.hok.fresh (Nat.le_refl _)
  refine ⟨.ref s1.heap.objs.size, upd H1 s1.heap.objs.size (.tup xs), I1.laid (t' := s1.toks) (fun b u e => Heap.get?_push_of_some _ e) (Nat.le_refl _) ?_, rfl, q _ hf⟩
  exact ⟨z, us, r, ⟨_, Heap.get?_push_size _ rfl, rfl, _, rfl⟩⟩
theorem pe_lst (h : PA X es t) : PE X (.List es pos) (tLst t) := by
  intro pins s σ H Q I hq
  refine wpAny_List_spliced (thn (h pos pins s σ H _ I hq) fun us s1 ⟨xs, H1, I1, r, z, q⟩ => ⟨by rw [← r.length]; exact z, ?_⟩)
  have hf : H1 s1.heap.objs.size = none := I1.hok.fresh (Nat.le_refl _)
  refine ⟨.ref s1.heap.objs.size, upd H1 s1.heap.objs.size (.lst xs), I1.laid (t' := s1.toks) (fun b u e => Heap.get?_push_of_some _ e) (Nat.le_refl _) ?_, rfl, q _ hf⟩
  exact ⟨z, us, 0, r, Heap.get?_push_size _ rfl⟩
end

abbrev Sp := List V → Hp → VK → XK → Prop
abbrev CXT := List Env → Hp → Shared → XK → Value → Shared → Prop

structure Env0 (P : Program) (w : World) (K : PySem.W.Frag) (mg : Str → Option Value) (base : Heap) (A : Around) (outer : List Env) (s : Shared) (H : Hp) : Prop where
  frames : A.frames = some outer
  mod : Mod K mg base
  bs : ∀ b o, base.get? b = some o → s.heap.get? b = some o ∧ H b = none
  bsz : base.objs.size ≤ s.heap.objs.size
  funs : s.heap.FunFrames base outer
  frf : ∀ b ∈ frs outer, H b = none
  hok : HOk P w H s.heap
  bare : AllBare s.gens
def CE (outer : List Env) (P : Program) (w : World) (H : Hp) (s : Shared) (Q : VK) (u : Value) (s' : Shared) : Prop :=
  ∃ v H', s'.os = s.os ∧ AllBare s'.gens ∧ Un (frs outer) [] H H' s.heap s'.heap ∧ HOk P w H' s'.heap ∧ RelV v u ∧ Q v H'
def CR (CX : CXT) (outer : List Env) (P : Program) (w : World) (H : Hp) (s : Shared) (Q : VK) (E : XK) (r : Result) (s' : Shared) : Prop :=
  match r with
  | .ok (.ret u) => CE outer P w H s Q u s'
  | .ok _ => False
  | .error e => CX outer H s E e s'
structure FnOk (P : Program) (w : World) (K : PySem.W.Frag) (mg : Str → Option Value) (base : Heap) (CX : CXT) (k : Nat) (f : Addr) (fd : FuncData) (ps : List Str) (sp : Sp) : Prop where
  len : ∀ vs H Q E, sp vs H Q E → vs.length = ps.length
  run : ∀ (A : Around) (outer : List Env) (s : Shared) (H : Hp) (args : Args) (us : List Value) (vs : List V) (Q : VK) (E : XK), Room k A → Env0 P w K mg base A outer s H → BindsTo s fd args (ps.zip us) → Vals vs us → sp vs H Q E →
    codeAny (model P w) A (.call (.ref f) args) (CR CX outer P w H s Q E) s
theorem FnOk.mono {P : Program} {w : World} {K : PySem.W.Frag} {mg : Str → Option Value} {base : Heap} {CX : CXT} {j k : Nat} {f : Addr} {fd : FuncData} {ps : List Str} {sp : Sp} (F : FnOk P w K mg base CX j f fd ps sp) (h : j ≤ k) :
    FnOk P w K mg base CX k f fd ps sp := ⟨F.len, fun A outer s H args us vs Q E hr => F.run A outer s H args us vs Q E (hr.mono h)⟩
theorem Env0.in1 {P : Program} {w : World} {K : PySem.W.Frag} {mg : Str → Option Value} {base : Heap} {A : Around} {outer : List Env} {s : Shared} {H : Hp} (e : Env0 P w K mg base A outer s H) :
    Env0 P w K mg base A.in1 outer s H := ⟨e.frames, e.mod, e.bs, e.bsz, e.funs, e.frf, e.hok, e.bare⟩

section
variable {X : Cx} {pins : List (Addr × Obj)} {σ : St} {H : Hp} {s s' : Shared}
theorem Inv.env0 (I : Inv X pins σ H s) : Env0 X.prog X.w X.K X.mg X.base X.A X.stack s H :=
  ⟨I.ok.frames, I.ok.mod, I.bs, Nat.le_trans I.ok.bsz I.sz, I.stack, I.stkFree, I.hok, I.bare⟩
theorem Inv.after {Q : VK} {u : Value} (I : Inv X pins σ H s) (h : CE X.stack X.prog X.w H s Q u s') : EP X pins σ Q u s' := by
  obtain ⟨v, H', os, bare, un, hok, r, q⟩ := h
  obtain ⟨hh, g, d, t, os'⟩ := s'
  obtain rfl : os' = s.os := os
  exact ⟨v, H', I.call (h' := hh) (g' := g) (d' := d) (t' := t) (ch := []) un hok bare (fun b z => absurd z (by simp)), r, q⟩
end

def tCall (sp : Sp) (dvs : List V) (E : XK) (t : TA) : TE := fun σ H Q => t σ H fun vs H1 => sp (vs ++ dvs) H1 Q E
def Binds (K : PySem.W.Frag) (fd : FuncData) (ps : List Str) (ds : List Value) : Prop :=
  ∀ (s : Shared) (us : List Value), K.In s.heap → (us ++ ds).length = ps.length → BindsTo s fd ⟨us, []⟩ (ps.zip (us ++ ds))
theorem Binds.all {K : PySem.W.Frag} {fd : FuncData} {ps : List Str} (h : ∀ us : List Value, us.length = ps.length → bindArgs fd ⟨us, []⟩ = pure (ps.zip us)) : Binds K fd ps [] := fun s us _ hl => by
  rw [List.append_nil] at hl ⊢
  exact .of_eq (h us hl)

def Passes (CX : CXT) (X : Cx) (E : XK) : Prop := ∀ (pins : List (Addr × Obj)) (σ : St) (H : Hp) (s : Shared) (e : Value) (s' : Shared), Inv X pins σ H s → CX X.stack H s E e s' → X.xe e s'

section
variable {X : Cx} {CX : CXT} {k : Nat} {f C : Addr} {fd : FuncData} {ps : List Str} {sp : Sp} {dvs : List V} {ds : List Value} {E : XK} {x m : Str} {p pos apos : Pos} {e o : Expr} {es : List Expr} {ta : TE} {t : TA}

theorem run_fn {pins : List (Addr × Obj)} {σ : St} {H : Hp} {s : Shared} {Q : VK} {us : List Value} {vs : List V} (F : FnOk X.prog X.w X.K X.mg X.base CX k f fd ps sp) (hr : Room k X.A) (hb : Binds X.K fd ps ds) (hd : Vals dvs ds) (hx : Passes CX X E)
    (I : Inv X pins σ H s) (r : Vals vs us) (h : sp (vs ++ dvs) H Q E) : wpAny (model X.prog X.w) X.A (call (.ref f) us) (EP X pins σ Q) X.xe s := by
  have r2 : Vals (vs ++ dvs) (us ++ ds) := r.append hd
  have hl : (us ++ ds).length = ps.length := by rw [← r2.length]; exact F.len _ _ _ _ h
  refine wpAny_call (codeAny_mono (F.run X.A X.stack s H ⟨us, []⟩ (us ++ ds) (vs ++ dvs) Q E hr I.env0 (hb s us I.kIn hl) r2 h) fun r s' hq => ?_)
  cases r with
  | error e => exact hx pins σ H s e s' I hq
  | ok fl =>
    cases fl with
    | ret u => exact I.after hq
    | next => exact False.elim hq
    | brk => exact False.elim hq
    | cont => exact False.elim hq

theorem pe_call (F : FnOk X.prog X.w X.K X.mg X.base CX k f fd ps sp) (hr : Room k X.A) (hg : Gl X x) (hm : X.mg x = some (.ref f)) (hk : PySem.W.keepIn X.K (.ref f) = true) (hb : Binds X.K fd ps ds) (hd : Vals dvs ds) (hx : Passes CX X E)
    (ha : PA X (e :: es) t) (hdb : (x == ("__debug__" : Str)) = false := by decide) (he : starEach (e :: es) X.env = (false, eval e X.env) :: starEach es X.env := by rfl) (hpl : (backTo pos (starEach es X.env)).any (·.1) = false := by rfl) :
    PE X (.Call (.Name x p) (e :: es) [] pos) (tCall sp dvs E t) := by
  intro pins s σ H Q I h
  refine wpAny_Call_Name_kw (ld_glob I hg hm ?_ hdb)
  refine PySem.W.callWith_K (h₀ := X.base) I.ok.mod.kin hk (thn (ha pos pins s σ H _ I h) fun us s1 ⟨vs, H1, I1, r, q⟩ => ⟨I1.kIn, ?_⟩) he hpl
  exact run_fn F hr hb hd hx I1 r q
structure Mk (K : PySem.W.Frag) (C f : Addr) : Prop where
  makes : PySem.W.makesIn K C = true
  init : PySem.W.findIn K (.ref C) "__init__" = some (some (.ref f))
  fn : PySem.W.isFn K (.ref f) = true
  kp : PySem.W.keepIn K (.ref C) = true

end

section
variable {X : Cx} {CX : CXT} {k : Nat} {f C : Addr} {fd : FuncData} {ps ks : List Str} {sp : Sp} {E : XK} {x m : Str} {p pos apos kpos : Pos} {e o : Expr} {es : List Expr} {kws : List Keyword} {te ta : TE} {t tk : TA} {nm : Option Str}
structure KBinds (K : PySem.W.Frag) (fd : FuncData) (ps ks : List Str) (g : List Value → List Value → List Value) (gV : List V → List V → List V) : Prop where
  to : ∀ (s : Shared) (us ws : List Value), K.In s.heap → (g us ws).length = ps.length → BindsTo s fd ⟨us, ks.zip ws⟩ (ps.zip (g us ws))
  rel : ∀ {vs : List V} {us : List Value} {zs : List V} {ws : List Value}, Vals vs us → Vals zs ws → Vals (gV vs zs) (g us ws)
variable {g : List Value → List Value → List Value} {gV : List V → List V → List V}
end

structure FnScope (N P : List Str) (sc : Scope) : Prop where
  kind : sc.kind = .function
  co : sc.isCoroutine = false
  gen : sc.isGenerator = false
  nd : N.Nodup
  pre : N.take P.length = P
  par : ∀ x ∈ P, sc.names.lookup x = some .local ∨ sc.names.lookup x = some .cell
  nofree : ∀ y ∈ sc.names, y.2 ≠ .free

theorem bindL_out {kindOf : Str → Option NameKind} {x : Str} : ∀ {binds : List (Str × Value)} {m : Str → Option Value}, (∀ v, (x, v) ∉ binds) → bindL kindOf binds m x = m x
  | [], _, _ => rfl
  | (n, v) :: r, m, h => by
    unfold bindL
    rw [bindL_out fun w hw => h w (List.mem_cons_of_mem _ hw)]
    split
    · have : x ≠ n := by rintro rfl; exact h v List.mem_cons_self
      simp [this]
    · rfl
theorem bindC_out {kindOf : Str → Option NameKind} {x : Str} : ∀ {binds : List (Str × Value)} {m : Str → Option Value}, (∀ v, (x, v) ∉ binds) → bindC kindOf binds m x = m x
  | [], _, _ => rfl
  | (n, v) :: r, m, h => by
    unfold bindC
    rw [bindC_out fun w hw => h w (List.mem_cons_of_mem _ hw)]
    split
    · rfl
    · have : x ≠ n := by rintro rfl; exact h v List.mem_cons_self
      simp [this]
theorem bindL_get {kindOf : Str → Option NameKind} {x : Str} {v : Value} : ∀ {P : List Str} {vs : List Value} {i : Nat} {m : Str → Option Value}, P.Nodup → P[i]? = some x → vs[i]? = some v → kindOf x = some .local →
    bindL kindOf (P.zip vs) m x = some v
  | [], _, _, _, _, h, _, _ => by simp at h
  | _ :: _, [], _, _, _, _, h, _ => by simp at h
  | p :: P, w :: vs, 0, m, nd, h1, h2, hk => by
    simp at h1 h2; subst h1; subst h2
    show bindL kindOf ((p, w) :: P.zip vs) m p = _
    unfold bindL
    rw [bindL_out fun v hv => (List.nodup_cons.mp nd).1 (List.of_mem_zip hv).1, if_pos hk]
    simp
  | p :: P, w :: vs, i + 1, m, nd, h1, h2, hk => by
    show bindL kindOf ((p, w) :: P.zip vs) m x = _
    unfold bindL
    exact bindL_get (i := i) (List.nodup_cons.mp nd).2 (by simpa using h1) (by simpa using h2) hk
theorem bindC_get {kindOf : Str → Option NameKind} {x : Str} {v : Value} : ∀ {P : List Str} {vs : List Value} {i : Nat} {m : Str → Option Value}, P.Nodup → P[i]? = some x → vs[i]? = some v → kindOf x ≠ some .local →
    bindC kindOf (P.zip vs) m x = some v
  | [], _, _, _, _, h, _, _ => by simp at h
  | _ :: _, [], _, _, _, _, h, _ => by simp at h
  | p :: P, w :: vs, 0, m, nd, h1, h2, hk => by
    simp at h1 h2; subst h1; subst h2
    show bindC kindOf ((p, w) :: P.zip vs) m p = _
    unfold bindC
    rw [bindC_out fun v hv => (List.nodup_cons.mp nd).1 (List.of_mem_zip hv).1, if_neg hk]
    simp
  | p :: P, w :: vs, i + 1, m, nd, h1, h2, hk => by
    show bindC kindOf ((p, w) :: P.zip vs) m x = _
    unfold bindC
    exact bindC_get (i := i) (List.nodup_cons.mp nd).2 (by simpa using h1) (by simpa using h2) hk

def start (N : List Str) (vs : List V) : St := vs.map some ++ List.replicate (N.length - vs.length) none

def cxOf (CX : CXT) (P : Program) (w : World) (K : PySem.W.Frag) (mg : Str → Option Value) (base : Heap) (N : List Str) (qual : Str) (scope : Scope) (f : Addr) (cd : Value) (A : Around) (outer : List Env) (s : Shared) (H : Hp) (E : XK) : Cx where
  prog := P
  w := w
  K := K
  mg := mg
  base := base
  A := A.deeper (envOfC qual scope s.heap.objs.size f cd)
  N := N
  s₀ := s
  H₀ := H
  env := envOfC qual scope s.heap.objs.size f cd
  outer := outer
  stack := envOfC qual scope s.heap.objs.size f cd :: outer
  ex := []
  calm := true
  fn := fun _ => true
  pn := []
  xe := fun e s' => wpAny (model P w) (A.deeper (envOfC qual scope s.heap.objs.size f cd)) (leaving (envOfC qual scope s.heap.objs.size f cd) e) (fun _ s'' => CX outer H s E e s'') (fun e' s'' => CX outer H s E e' s'') s'

theorem cell_has {sc : Scope} {n : Nat} {x : Str} (h : sc.names.lookup x = some .cell) : ∃ c, (cellsFrom n sc.names []).lookup x = some c := by
  have q := PySem.W.cellsFrom_some sc.names n [] (.inl h)
  exact Option.isSome_iff_exists.mp q

theorem inv_start {CX : CXT} {P : Program} {w : World} {K : PySem.W.Frag} {mg : Str → Option Value} {base : Heap} {N ps : List Str} {qual : Str} {scope : Scope} {f : Addr} {cd : Value} {A : Around} {outer : List Env} {s s1 : Shared} {H : Hp} {E : XK} {us : List Value} {vs : List V}
    (S : FnScope N ps scope) (hd : A.handled = none) (e0 : Env0 P w K mg base A outer s H) (hl : vs.length = ps.length) (r : Vals vs us)
    (x : InCallC s s.heap.objs.size (bindL (envOfC qual scope s.heap.objs.size f cd).kindOf (ps.zip us) fun _ => none) (cellsFrom (s.heap.objs.size + 1) scope.names []) (bindC (envOfC qual scope s.heap.objs.size f cd).kindOf (ps.zip us) fun _ => none) s1) :
    Inv (cxOf CX P w K mg base N qual scope f cd A outer s H E) [] (start N vs) H s1 := by
  have hpl : ps.length ≤ N.length := by have := congrArg List.length S.pre; rw [List.length_take] at this; omega
  obtain ⟨h1, tk, rfl, hk⟩ := x.done
  have noA : ∀ b : Addr, b ∉ (cxOf CX P w K mg base N qual scope f cd A outer s H E).ex := fun b z => absurd (show b ∈ ([] : List Addr) from z) (by simp)
  refine ⟨⟨e0.mod, S.kind, rfl, rfl, Nat.le_refl _, fun y z c h1 h2 => ?_, fun y hy => ?_, fun y c _ h => ?_, fun _ => hd, Around.frames_deeper e0.frames, .inr ⟨rfl, rfl⟩, fun b z => absurd z (noA b), e0.bs, e0.bsz, fun b _ _ => noA b, fun b z => absurd z (noA b), e0.funs, e0.frf⟩,
    rfl, e0.bare, Un.kept hk, ⟨_, x.toInCall.ns, fun i y v h1 h2 h3 => ?_⟩, fun y c h => ⟨_, x.cell y c h⟩, e0.hok.fresh (Nat.le_refl _), fun y c h => ?_, fun p hp => absurd (show p ∈ ([] : List (Addr × Obj)) from hp) (by simp), e0.hok.kept hk, ?_⟩
  · exact name_of_addr x.apart (PySem.mem_of_lookup h1) (PySem.mem_of_lookup h2)
  · have hy : scope.names.lookup y = some .cell ∨ scope.names.lookup y = some .free := hy
    rcases hy with hy | hy
    · exact cell_has hy
    · exact absurd rfl (S.nofree _ (PySem.mem_of_lookup hy))
  · exact Nat.le_of_lt (x.above y c (PySem.mem_of_lookup h))
  · have hi : i < vs.length := by
      unfold start at h2
      by_cases hi : i < vs.length
      · exact hi
      · rw [List.getElem?_append_right (by simpa using hi)] at h2
        rw [List.getElem?_replicate] at h2
        split at h2 <;> cases h2
    have ha : vs[i]? = some v := by
      unfold start at h2
      rw [List.getElem?_append_left (by simpa using hi), List.getElem?_map] at h2
      cases e : vs[i]? with
      | none => rw [e] at h2; cases h2
      | some a => rw [e] at h2; cases h2; rfl
    obtain ⟨u, hu, rv⟩ := r.get ha
    have hp : ps[i]? = some y := by
      rw [← S.pre, List.getElem?_take_of_lt (by omega)]; exact h1
    have ndP : ps.Nodup := by rw [← S.pre]; exact S.nd.sublist (List.take_sublist _ _)
    refine ⟨u, rv, ?_⟩
    rcases S.par y (List.mem_of_getElem? hp) with k | k
    · exact .inl ⟨k, bindL_get ndP hp hu k⟩
    · obtain ⟨c, e⟩ := cell_has (n := s.heap.objs.size + 1) k
      refine .inr ⟨.inl k, c, e, ?_⟩
      have q := x.cell y c e
      rw [bindC_get ndP hp hu (by show scope.names.lookup y ≠ _; rw [k]; decide)] at q
      exact q
  · exact e0.hok.fresh (Nat.le_of_lt (x.above y c (PySem.mem_of_lookup h)))
  · unfold start
    show _ = N.length
    rw [List.length_append, List.length_map, List.length_replicate]
    omega

theorem fn_of {CX : CXT} {P : Program} {w : World} {K : PySem.W.Frag} {mg : Str → Option Value} {base : Heap} {k : Nat} {f : Addr} {name qual : Str} {params : Arguments} {body : List Stmt} {scope : Scope} {dV kV doc pm cdv ct oc : Value} {an od : Option Addr}
    {osl : Array (Option Value)} {N ps : List Str} {sp : Sp} (lk : K.lookup f = some ⟨oc, od, .func (PySem.W.fnOf name qual params body scope dV kV doc pm an cdv ct), osl⟩) (hcd : PySem.W.codeIn K cdv qual = true) (S : FnScope N ps scope)
    (len : ∀ vs H Q E, sp vs H Q E → vs.length = ps.length)
    (hbody : ∀ (A : Around) (outer : List Env) (s : Shared) (H : Hp) (vs : List V) (Q : VK) (E : XK), Room k (A.deeper (envOfC qual scope s.heap.objs.size f cdv)) → sp vs H Q E →
      ∃ t, PSs (cxOf CX P w K mg base N qual scope f cdv A outer s H E) body t ∧ t { nx := fun _ H' => Q .non H', rt := Q } (start N vs) H) :
    FnOk P w K mg base CX (k + 1) f (PySem.W.fnOf name qual params body scope dV kV doc pm an cdv ct) ps sp := by
  refine ⟨len, fun A outer s H args us vs Q E hr e0 hb r hsp => ?_⟩
  have hl := len _ _ _ _ hsp
  have KX : K.In s.heap := e0.mod.kin.keeps fun b o e => (e0.bs b o e).1
  have lim : s.heap.NoLimit := e0.mod.nolimit.keeps fun b o e => (e0.bs b o e).1
  have hkind : ∀ y ∈ ps.zip us, scope.names.lookup y.1 = some .local ∨ (scope.names.lookup y.1 = some .cell ∧ ((cellsFrom (s.heap.objs.size + 1) scope.names []).lookup y.1).isSome = true) := fun ⟨n, v⟩ hy => by
    rcases S.par n (List.of_mem_zip hy).1 with q | q
    · exact .inl q
    · exact .inr ⟨q, PySem.W.cellsFrom_some _ _ _ (.inl q)⟩
  refine codeAny_call_function hr.depth (KX _ _ lk) rfl S.co S.gen rfl (PySem.W.codeRec_of KX hcd) (hb _ _ _ _ ?_)
  refine wpAny_newFunctionEnv_cells S.kind hkind fun env he s1 x => ?_
  subst he
  refine ⟨lim.keeps x.toInCall.keep, codeAny_func ?_⟩
  obtain ⟨t, ht, hq⟩ := hbody A outer s H vs Q E (hr.deeper _) hsp
  have I : Inv (cxOf CX P w K mg base N qual scope f cdv A outer s H E) [] (start N vs) H s1 := inv_start S hr.hd e0 hl r x
  refine wpAny_mono (ht [] s1 (start N vs) H _ I hq) (fun fl s' hs => ?_) fun e s' hs => hs
  have fin : ∀ {σ' : St} {H' : Hp} {v : V} {u : Value}, Inv (cxOf CX P w K mg base N qual scope f cdv A outer s H E) [] σ' H' s' → RelV v u → Q v H' → CE outer P w H s Q u s' :=
    fun {σ' H' v u} J rv q => ⟨v, H', J.os, J.bare, J.base, J.hok, rv, q⟩
  cases fl with
  | ret u =>
    obtain ⟨v, σ', H', J, rv, q⟩ := hs
    exact fin J rv q
  | next =>
    obtain ⟨σ', H', J, q⟩ := hs
    exact fin (v := V.non) (u := Value.none) J rfl q
  | brk =>
    obtain ⟨_, _, _, q⟩ := hs
    exact False.elim q
  | cont =>
    obtain ⟨_, _, _, q⟩ := hs
    exact False.elim q
end L2

namespace L2
open PySem PySem.Spec PyProof.Rows
section
variable {X : Cx} {x : Str} {p pos : Pos} {e : Expr} {es : List Expr} {t : TA} {id T : String} {r : List V → Hp → VK → Prop}

def tCB (r : List V → Hp → VK → Prop) (t : TA) : TE := fun σ H Q => t σ H fun vs H1 => r vs H1 Q
theorem pe_callB (hc : CallR X (.builtin id) r) (hg : Gl X x) (hm : X.mg x = none) (hv : bootBuiltins x = some (.builtin id)) (ha : PA X (e :: es) t) (hn : x ≠ "__name__" := by decide) (hdb : (x == ("__debug__" : Str)) = false := by decide)
    (he : starEach (e :: es) X.env = (false, eval e X.env) :: starEach es X.env := by rfl) (hpl : (backTo pos (starEach es X.env)).any (·.1) = false := by rfl) : PE X (.Call (.Name x p) (e :: es) [] pos) (tCB r t) := by
  intro pins s σ H Q I h
  refine wpAny_Call_Name_kw (ld_blt I hg hm hv ?_ hn hdb)
  exact PyProof.Rows.callWith_builtin1 (thn (ha pos pins s σ H _ I h) fun us s1 ⟨vs, H1, I1, r1, q1⟩ => hc pins s1 σ H1 vs us Q I1 r1 q1) he hpl
theorem pe_callTy (hc : CallR X (.type T) r) (hg : Gl X x) (hm : X.mg x = none) (hv : bootBuiltins x = some (.type T)) (ha : PA X (e :: es) t) (hn : x ≠ "__name__" := by decide) (hdb : (x == ("__debug__" : Str)) = false := by decide)
    (he : starEach (e :: es) X.env = (false, eval e X.env) :: starEach es X.env := by rfl) (hpl : (backTo pos (starEach es X.env)).any (·.1) = false := by rfl) : PE X (.Call (.Name x p) (e :: es) [] pos) (tCB r t) := by
  intro pins s σ H Q I h
  refine wpAny_Call_Name_kw (ld_blt I hg hm hv ?_ hn hdb)
  exact PyProof.Rows.callWith_type1 (thn (ha pos pins s σ H _ I h) fun us s1 ⟨vs, H1, I1, r1, q1⟩ => hc pins s1 σ H1 vs us Q I1 r1 q1) he hpl
end
end L2

namespace HT
open PySem PyProof.Rows

section
open PySem.SeqAt
open PySem.AutoSeq1 (wpAny_loadPart')
open PySem.MeetsSeq PySem.MeetsSeq2 PySem.MeetsSeq3

end

section
variable {prog : Program} {w : World} {A : Around} {E : Value → Shared → Prop} {s : Shared}

def sIx (n d : Nat) : Option Int → Nat
  | none => d
  | some v => if v < 0 then (v + (n : Int)).toNat else min v.toNat n
theorem sIx_none (n d : Nat) : sIx n d none = d := rfl
theorem sIx_nat (n d k : Nat) : sIx n d (some (k : Int)) = min k n := by
  show (if (k : Int) < 0 then ((k : Int) + (n : Int)).toNat else min (k : Int).toNat n) = min k n
  rw [if_neg (by omega), Int.toNat_natCast]
theorem sIx_le (n d : Nat) (hd : d ≤ n) (o : Option Int) : sIx n d o ≤ n := by
  cases o with
  | none => exact hd
  | some v =>
    show (if v < 0 then (v + (n : Int)).toNat else min v.toNat n) ≤ n
    by_cases hv : v < 0
    · rw [if_pos hv]; omega
    · rw [if_neg hv]; exact Nat.min_le_right _ _
theorem clip_eq (v : Int) (n d : Nat) : (if v < 0 then max (v + (n : Int)) 0 else min v (n : Int)) = ((sIx n d (some v) : Nat) : Int) := by
  show (if v < 0 then max (v + (n : Int)) 0 else min v (n : Int)) = (((if v < 0 then (v + (n : Int)).toNat else min v.toNat n) : Nat) : Int)
  by_cases hv : v < 0
  · simp only [if_pos hv]; omega
  · simp only [if_neg hv]; omega
theorem adjust_gen (lo hi : Option Int) (n : Nat) : Builtin.Slice.sliceAdjust lo hi 1 (n : Int) = (((sIx n 0 lo : Nat) : Int), ((sIx n n hi : Nat) : Int)) := by
  have h1 : ¬ ((1 : Int) < 0) := by omega
  unfold Builtin.Slice.sliceAdjust
  simp only [h1, if_false]
  refine Prod.ext ?_ ?_
  · cases lo with
    | none => rfl
    | some v => exact clip_eq v n 0
  · cases hi with
    | none => rfl
    | some v => exact clip_eq v n n
theorem places_gen (i j : Nat) : Builtin.Slice.slicePlaces (i : Int) (j : Int) 1 = j - i := by
  unfold Builtin.Slice.slicePlaces
  have h1 : (1 : Int) > 0 := by omega
  simp only [h1, if_true, Int.ediv_one]
  split <;> omega
theorem slicePart_ {v : Value} {o : Option Int} {Q : Option Int → Shared → Prop} (p : IsPart v o) (h : Q o s) : wpAny (model prog w) A (Builtin.Slice.slicePartIndex v) Q E s := by
  cases p with
  | none => exact slicePart_none h
  | int i t => exact slicePart_int h
theorem sliceApplied_gen {sl : Addr} {vl vu : Value} {lo hi : Option Int} {n : Nat} {Q : Int × Int × Nat → Shared → Prop} (hs : s.heap.IsSliceOf sl vl vu .none) (pl : IsPart vl lo) (pu : IsPart vu hi)
    (h : Q (((sIx n 0 lo : Nat) : Int), 1, sIx n n hi - sIx n 0 lo) s) : wpAny (model prog w) A (Builtin.Slice.sliceApplied (.ref sl) (pure (n : Int))) Q E s := by
  obtain ⟨os, hos, hcs, hds⟩ := id hs
  unfold Builtin.Slice.sliceApplied Builtin.Slice.sliceFields
  refine wpAny_bind (wpAny_bind (wpAny_field hos hds (x := vl) rfl (wpAny_bind (wpAny_field hos hds (x := vu) rfl (wpAny_bind (wpAny_field hos hds (x := .none) rfl (wpAny_pure ?_)))))))
  refine wpAny_bind (slicePart_none ?_)
  show wpAny _ _ (if ((1 : Int) == 0) = true then _ else _) _ _ s
  rw [if_neg (by decide)]
  refine wpAny_bind (slicePart_ pl (wpAny_bind (slicePart_ pu (wpAny_bind (wpAny_pure ?_)))))
  show wpAny _ _ (match Builtin.Slice.sliceAdjust lo hi 1 (n : Int) with | (lo, hi) => pure (lo, (1 : Int), Builtin.Slice.slicePlaces lo hi 1)) _ _ s
  rw [adjust_gen lo hi n]
  show wpAny _ _ (pure (((sIx n 0 lo : Nat) : Int), (1 : Int), Builtin.Slice.slicePlaces ((sIx n 0 lo : Nat) : Int) ((sIx n n hi : Nat) : Int) 1)) _ _ s
  rw [places_gen]
  exact wpAny_pure h
theorem pick_gen (xs : Array Value) (i k : Nat) : ((List.range k).filterMap fun (m : Nat) => xs[((i : Int) + (m : Int) * 1).toNat]?).toArray = ((xs.toList.drop i).take k).toArray := by
  have e : (fun (m : Nat) => xs[((i : Int) + (m : Int) * 1).toNat]?) = fun m => xs[i + m]? := by
    funext m
    have : ((i : Int) + (m : Int) * 1).toNat = i + m := by omega
    rw [this]
  rw [e]
  have := pick_run xs i k
  rw [List.filterMap_map] at this
  have e2 : ((fun x => xs[x]?) ∘ fun x => i + x) = fun m => xs[i + m]? := rfl
  rw [e2] at this
  rw [this]

theorem getItem_tuple_cut {t sl : Addr} {items : Array Value} {vl vu : Value} {lo hi : Option Int} {Q : Value → Shared → Prop} (ht : IsTup s.heap t items) (hs : s.heap.IsSliceOf sl vl vu .none) (pl : IsPart vl lo) (pu : IsPart vu hi)
    (hw : ¬ (sIx items.size 0 lo = 0 ∧ sIx items.size items.size hi = items.size))
    (h : Q (.ref s.heap.objs.size) { s with heap := s.heap.push { cls := .type "tuple", data := .seq ((items.toList.drop (sIx items.size 0 lo)).take (sIx items.size items.size hi - sIx items.size 0 lo)).toArray } })
    (hsz : items.size ≤ sizeLine) : wpAny (model prog w) A (getItem (.ref t) (.ref sl)) Q E s := by
  have htake : sizeOk (.seq ((items.toList.drop (sIx items.size 0 lo)).take (sIx items.size items.size hi - sIx items.size 0 lo)).toArray) := by
    show ((items.toList.drop (sIx items.size 0 lo)).take (sIx items.size items.size hi - sIx items.size 0 lo)).toArray.size ≤ sizeLine
    rw [List.size_toArray, List.length_take, List.length_drop, Array.length_toList]
    omega
  have hj : sIx items.size items.size hi ≤ items.size := sIx_le _ _ (Nat.le_refl _) hi
  obtain ⟨os, hos, hcs, hds⟩ := id hs
  have hTs : s.TypeIs (.ref sl) "slice" := ⟨os, hos, hcs⟩
  unfold getItem
  try with_reducible refine wpAny_holding ?_
  first | refine wpAny_bind (wpAny_pure ?_) | skip
  refine wpAny_bind (wpAny_sequenceKey ht.typeIs (by decide) ?_)
  refine wpAny_bind (wpAny_callSpecial?_slot (name := Str.ofString "__getitem__") ht.typeIs PyProof.Rows.slot_tuple_getitem
    (wpAny_call_entry PyProof.Rows.slot_tuple_getitem ht.typeIs entry_tuple_getitem ?_ (args_tuple_getitem _ _)))
  show wpAny _ _ (Builtin.Tuple.tupleItemsOf (.ref t) >>= _) _ _ s
  refine wpAny_bind (tupleItemsOf_ ht ?_)
  refine wpAny_bind (wpAny_typeOf hTs ?_)
  rw [if_pos (by decide)]
  refine wpAny_bind (sliceApplied_gen hs pl pu ?_)
  have hno : ¬ ((((sIx items.size 0 lo : Nat) : Int) == 0 && (1 : Int) == 1 && (sIx items.size items.size hi - sIx items.size 0 lo) == items.size) = true) := by
    intro q
    rw [Bool.and_eq_true, Bool.and_eq_true] at q
    have q1 : ((sIx items.size 0 lo : Nat) : Int) = 0 := eq_of_beq q.1.1
    have q2 : sIx items.size items.size hi - sIx items.size 0 lo = items.size := eq_of_beq q.2
    exact hw ⟨by omega, by omega⟩
  show wpAny _ _ (if (((sIx items.size 0 lo : Nat) : Int) == 0 && (1 : Int) == 1 && (sIx items.size items.size hi - sIx items.size 0 lo) == items.size) = true then _ else _) _ _ s
  rw [if_neg hno, pick_gen]
  first
    | exact wpAny_bind (m := Builtin.Tuple.tupleExact _) (wpAny_newObj_type (wpAny_pure ⟨_, rfl, wpAny_pure h⟩) htake)
    | exact wpAny_bind (m := Builtin.Tuple.tupleExact _) (wpAny_newObj_type (wpAny_bind (wpAny_pure (wpAny_pure ⟨_, rfl, wpAny_pure h⟩))) htake)
    | exact wpAny_bind (wpAny_bind (m := Builtin.Tuple.tupleExact _) (wpAny_newObj_type (wpAny_pure (wpAny_pure ⟨_, rfl, wpAny_pure h⟩)) htake))
    | exact wpAny_bind (wpAny_bind (m := Builtin.Tuple.tupleExact _) (wpAny_newObj_type (wpAny_pure ⟨_, rfl, wpAny_pure h⟩) htake))
end
end HT

namespace L2
open PySem PySem.Spec PyProof.Rows

abbrev TO := St → Hp → (Option Int → Hp → Prop) → Prop
def PO (X : Cx) (e : Option Expr) (t : TO) : Prop :=
  ∀ (pins : List (Addr × Obj)) (s : Shared) (σ : St) (H : Hp) (Q : Option Int → Hp → Prop), Inv X pins σ H s → t σ H Q →
    wpAny (model X.prog X.w) X.A (evalPart e X.env) (fun u s' => ∃ o H', Inv X pins σ H' s' ∧ IsPart u o ∧ Q o H') X.xe s
def tNoPart : TO := fun _ H Q => Q none H
def tPart (t : TE) : TO := fun σ H Q => t σ H fun x H1 => ∃ i, x = .int i ∧ Q (some i) H1

theorem intsAre_of {ns : List Int} : ∀ {us : List Value}, Vals (ns.map V.int) us → IntsAre us ns := by
  induction ns with
  | nil => intro us r; rw [List.map_nil] at r; cases r; exact .nil
  | cons n ns ih =>
    intro us r
    rw [List.map_cons] at r
    cases r with
    | cons r1 r2 =>
      obtain ⟨t, e⟩ := r1
      subst e
      exact .cons n t (ih r2)

section
variable {X : Cx} {e : Expr} {te : TE} {lo hi : Option Expr} {tl th : TO} {pos p2 : Pos}

theorem po_none : PO X none tNoPart := by
  intro pins s σ H Q I h
  rw [evalPart_none]
  exact wpAny_pure ⟨none, H, I, .none, h⟩
theorem po_some (h : PE X e te) : PO X (some e) (tPart te) := by
  intro pins s σ H Q I hw
  rw [evalPart_some]
  refine thn (h pins s σ H _ I hw) fun u s1 ⟨x, H1, I1, r1, q1⟩ => ?_
  obtain ⟨i, rfl, q⟩ := q1
  obtain ⟨t, rfl⟩ := r1
  exact ⟨some i, H1, I1, .int i t, q⟩

def SlR (X : Cx) (r : V → Option Int → Option Int → Hp → VK → Prop) : Prop :=
  ∀ (pins : List (Addr × Obj)) (s : Shared) (σ : St) (H : Hp) (x : V) (v vl vu : Value) (lo hi : Option Int) (sl : Addr) (Q : VK), Inv X pins σ H s → RelV x v → s.heap.IsSliceOf sl vl vu .none → IsPart vl lo → IsPart vu hi → r x lo hi H Q →
    ∃ T id, typeLookup (.type T) "__getitem__" = pure (some (.builtin id)) ∧ s.TypeIs v T ∧ wpAny (model X.prog X.w) X.A (getItem v (.ref sl)) (EP X pins σ Q) X.xe s
def tSl (r : V → Option Int → Option Int → Hp → VK → Prop) (te : TE) (tl th : TO) : TE := fun σ H Q => te σ H fun x H1 => tl σ H1 fun l H2 => th σ H2 fun u H3 => r x l u H3 Q
theorem pe_slice {r : V → Option Int → Option Int → Hp → VK → Prop} (hr : SlR X r) (he : PE X e te) (hl : PO X lo tl) (hu : PO X hi th) : PE X (.Subscript e (.Slice lo hi none p2) pos) (tSl r te tl th) := by
  intro pins s σ H Q I h
  refine Subscript_ (thn (he pins s σ H _ I h) fun v s1 ⟨x, H1, I1, r1, q1⟩ => ?_)
  refine wpAny_Slice (thn (hl pins s1 σ H1 _ I1 q1) fun vl s2 ⟨l, H2, I2, pl, q2⟩ => thn (hu pins s2 σ H2 _ I2 q2) fun vu s3 ⟨u, H3, I3, pu, q3⟩ => ?_)
  rw [evalPart_none]
  refine wpAny_pure ?_
  have I4 : Inv X pins σ H3 { s3 with heap := s3.heap.push { cls := .type "slice", data := .fields #[vl, vu, .none] } } := I3.kept (t' := s3.toks) fun b ob q => Heap.get?_push_of_some _ q
  obtain ⟨T, id, hT, ht, hg⟩ := hr pins { s3 with heap := s3.heap.push { cls := .type "slice", data := .fields #[vl, vu, .none] } } σ H3 x v vl vu l u s3.heap.objs.size Q I4 r1 (Heap.IsSliceOf.new ..) pl pu q3
  show wpAny (model X.prog X.w) X.A (subscriptTail e (.Slice lo hi none p2) v (.ref s3.heap.objs.size)) (EP X pins σ Q) X.xe { s3 with heap := s3.heap.push { cls := .type "slice", data := .fields #[vl, vu, .none] } }
  exact tail_any (ops := [.ref s3.heap.objs.size, v]) ht hT hg (by with_unfolding_all rfl)

def cutV (xs : List V) (lo hi : Option Int) : List V := (xs.drop (HT.sIx xs.length 0 lo)).take (HT.sIx xs.length xs.length hi - HT.sIx xs.length 0 lo)
theorem cutV_length (xs : List V) (lo hi : Option Int) : (cutV xs lo hi).length ≤ xs.length := by
  unfold cutV
  rw [List.length_take, List.length_drop]
  omega
def rSlT (K : PySem.W.Frag) : V → Option Int → Option Int → Hp → VK → Prop := fun x lo hi H Q => ∃ a xs, x = .ref a ∧ SqT K H a xs ∧
  ¬ (HT.sIx xs.length 0 lo = 0 ∧ HT.sIx xs.length xs.length hi = xs.length) ∧ ∀ p, H p = none → Q (.ref p) (upd H p (.tup (cutV xs lo hi)))
theorem sl_tup : SlR X (rSlT X.K) := by
  intro pins s σ H x v vl vu lo hi sl Q I rx hs pl pu h
  obtain ⟨a, xs, rfl, hx, hw, q⟩ := h
  cases rx
  obtain ⟨its, r, ht, hz⟩ := I.tuple hx
  have hlen : its.toArray.size = xs.length := by rw [List.size_toArray]; exact r.length.symm
  refine ⟨"tuple", _, PyProof.Rows.slot_tuple_getitem.lookup, ht.typeIs, ?_⟩
  refine HT.getItem_tuple_cut ht hs pl pu (by rw [hlen]; exact hw) ?_ (by rw [hlen]; exact hz)
  rw [hlen]
  refine ⟨.ref s.heap.objs.size, _, I.laid (t' := s.toks) (o := .tup (cutV xs lo hi)) (fun b ob q => Heap.get?_push_of_some _ q) (Nat.le_refl _) ?_, rfl, q _ (I.hok.fresh (Nat.le_refl _))⟩
  exact ⟨Nat.le_trans (cutV_length xs lo hi) hz, _, (r.drop (HT.sIx xs.length 0 lo)).take (HT.sIx xs.length xs.length hi - HT.sIx xs.length 0 lo), IsTup.new _ _⟩

end
end L2

namespace L2
open PySem PySem.Spec PyProof.Rows

def ixN (n : Nat) (i : Int) : Option Nat := if 0 ≤ i then (if i < n then some i.toNat else none) else if -(n : Int) ≤ i then some (i + n).toNat else none
def atI {α : Type} (xs : List α) (i : Int) : Option α := (ixN xs.length i).bind fun j => xs[j]?
theorem ixN_seq {n : Nat} {i : Int} {j : Nat} (h : ixN n i = some j) : seqIndex? i n = some j ∧ j < n ∧ -(n : Int) ≤ i ∧ i < n := by
  unfold ixN at h
  by_cases h0 : 0 ≤ i
  · rw [if_pos h0] at h
    by_cases h1 : i < n
    · rw [if_pos h1] at h
      have e : i.toNat = j := Option.some.inj h
      exact ⟨by rw [seqIndex_of h0 h1, e], by omega, by omega, h1⟩
    · rw [if_neg h1] at h; cases h
  · rw [if_neg h0] at h
    by_cases h1 : -(n : Int) ≤ i
    · rw [if_pos h1] at h
      have e : (i + n).toNat = j := Option.some.inj h
      exact ⟨by rw [seqIndex_neg (by omega) h1, e], by omega, h1, by omega⟩
    · rw [if_neg h1] at h; cases h
theorem atI_get {α : Type} {xs : List α} {i : Int} {v : α} (h : atI xs i = some v) : ∃ j, seqIndex? i xs.length = some j ∧ xs[j]? = some v ∧ j < xs.length ∧ -(xs.length : Int) ≤ i ∧ i < xs.length := by
  unfold atI at h
  cases e : ixN xs.length i with
  | none => rw [e] at h; cases h
  | some j =>
    rw [e] at h
    obtain ⟨h1, h2, h3, h4⟩ := ixN_seq e
    exact ⟨j, h1, h, h2, h3, h4⟩
theorem atI_nat {α : Type} {xs : List α} {j : Nat} {v : α} (h : xs[j]? = some v) : atI xs (j : Int) = some v := by
  have hj : j < xs.length := (List.getElem?_eq_some_iff.mp h).1
  have e : ixN xs.length (j : Int) = some j := by
    unfold ixN
    rw [if_pos (by omega), if_pos (by omega)]; simp
  unfold atI; rw [e]; exact h
def PlainIx (b : Expr) : Prop := ∀ o i, subscripted b false o i = operate [o, i] (getItem o i)
def IxR (X : Cx) (r : R2) : Prop :=
  ∀ (value slice : Expr) (pins : List (Addr × Obj)) (s : Shared) (σ : St) (H : Hp) (x y : V) (v u : Value) (Q : VK), Inv X pins σ H s → RelV x v → RelV y u → r x y H Q →
    subscripted slice false v u = operate [v, u] (getItem v u) → wpAny (model X.prog X.w) X.A (subscriptTail value slice v u) (EP X pins σ Q) X.xe s
def MtR (X : Cx) (id : String) (r : V → List V → Hp → VK → Prop) : Prop :=
  ∀ (pins : List (Addr × Obj)) (s : Shared) (σ : St) (H : Hp) (x : V) (xs : List V) (v : Value) (us : List Value) (Q : VK), Inv X pins σ H s → RelV x v → Vals xs us → r x xs H Q →
    wpAny (model X.prog X.w) X.A (call (.builtin id) (v :: us)) (EP X pins σ Q) X.xe s
section
variable {X : Cx} {a b : Expr} {ta tb : TE} {pos : Pos}
theorem pe_ix {r : R2} (hr : IxR X r) (ha : PE X a ta) (hb : PE X b tb) (hs : PlainIx b) : PE X (.Subscript a b pos) (tOp r ta tb) := by
  intro pins s σ H Q I h
  exact Subscript_ (binT ha hb I h fun v u s2 x y H2 I2 rx ry q => hr a b pins s2 σ H2 x y v u Q I2 rx ry q (hs _ _))

def rIxL (K : PySem.W.Frag) : R2 := fun x y H Q => ∃ p xs i v, x = .ref p ∧ y = .int i ∧ SqL K H p xs ∧ atI xs i = some v ∧ Q v H
def rIxT (K : PySem.W.Frag) : R2 := fun x y H Q => ∃ p xs i v, x = .ref p ∧ y = .int i ∧ SqT K H p xs ∧ atI xs i = some v ∧ Q v H
theorem ix_list : IxR X (rIxL X.K) := by
  intro value slice pins s σ H x y v u Q I rx ry h hs
  obtain ⟨p, xs, i, z, rfl, rfl, hq, he, q⟩ := h
  cases rx
  obtain ⟨t, rfl⟩ := ry
  obtain ⟨its, r, pl, hz⟩ := I.list hq
  obtain ⟨j, h1, h2, h3, h4, h5⟩ := atI_get he
  obtain ⟨w, ew, rw'⟩ := r.get h2
  have hl := r.length
  have hn := line63
  have fin : EP X pins σ Q w s := ⟨z, H, I, rw', q⟩
  by_cases h0 : 0 ≤ i
  · have hj : i.toNat = j := by
      rw [seqIndex_of h0 h5] at h1
      exact Option.some.inj h1
    exact item_listR pl.isList h0 (by omega) (by rw [hj]; simpa using ew) fin hs
  · have hj : (i + (its.toArray.size : Int)).toNat = j := by
      rw [seqIndex_neg (by omega) h4] at h1
      rw [List.size_toArray, ← hl]
      exact Option.some.inj h1
    exact subscriptTail_builtinR (x := w) pl.isList.typeIs slot_list_getitem.lookup
      (wpAny_getItem_list_neg (Q := fun r s' => r = w ∧ EP X pins σ Q r s') pl.isList (by omega) (by rw [List.size_toArray] <;> omega) (by omega) (by rw [hj]; simpa using ew) ⟨rfl, fin⟩) hs
theorem ix_tup : IxR X (rIxT X.K) := by
  intro value slice pins s σ H x y v u Q I rx ry h hs
  obtain ⟨p, xs, i, z, rfl, rfl, hq, he, q⟩ := h
  cases rx
  obtain ⟨t, rfl⟩ := ry
  obtain ⟨its, r, pl, hz⟩ := I.tuple hq
  obtain ⟨j, h1, h2, h3, h4, h5⟩ := atI_get he
  obtain ⟨w, ew, rw'⟩ := r.get h2
  have hl := r.length
  have hn := line63
  have fin : EP X pins σ Q w s := ⟨z, H, I, rw', q⟩
  exact subscriptTail_builtinR (x := w) pl.typeIs slot_tuple_getitem.lookup
    (getItem_tuple (j := j) (Q := fun r s' => r = w ∧ EP X pins σ Q r s') pl (by omega) (by omega) (by rw [List.size_toArray, ← hl]; exact h1) (by simpa using ew) ⟨rfl, fin⟩) hs
theorem mapSeq_set (its : List Value) (n j : Nat) (u : Value) : Obj.mapSeq (·.setIfInBounds j u) { cls := .type "list", data := .seq its.toArray n } = { cls := .type "list", data := .seq (its.set j u).toArray n } := by
  simp [Obj.mapSeq]
theorem Inv.lst {pins : List (Addr × Obj)} {σ : St} {H : Hp} {s : Shared} {p : Addr} {xs : List V} (I : Inv X pins σ H s) (h : H p = some (.lst xs)) :
    ∃ (its : List Value) (n : Nat), Vals xs its ∧ s.heap.get? p = some { cls := .type "list", data := .seq its.toArray n } ∧ xs.length ≤ sizeLine := by
  obtain ⟨z, its, n, r, e⟩ := I.hok p _ h
  exact ⟨its, n, r, e, z⟩
theorem Inv.lstUpd {pins : List (Addr × Obj)} {σ : St} {H : Hp} {s : Shared} {p : Addr} {xs ys : List V} {its its' : List Value} {n n' : Nat} {f : Obj → Obj} (I : Inv X pins σ H s) (h : H p = some (.lst xs))
    (ho : s.heap.get? p = some { cls := .type "list", data := .seq its.toArray n }) (hf : f { cls := .type "list", data := .seq its.toArray n } = { cls := .type "list", data := .seq its'.toArray n' }) (r : Vals ys its') (hz : ys.length ≤ sizeLine) (t : Nat) :
    Inv X pins σ (upd H p (.lst ys)) { s with heap := s.heap.update p f, toks := t } := by
  have e : (s.heap.update p f).get? p = some { cls := .type "list", data := .seq its'.toArray n' } := by
    rw [Heap.get?_update_self f ho (by rw [hf] <;> rfl), hf]
  refine I.write (x := p) (e := p) (by rw [h]; trivial) (.inl rfl) (fun b u hb q => (Heap.get?_update_other _ _ (Ne.symm hb)).trans q) ⟨_, e⟩ ?_
  exact ⟨hz, its', n', r, e⟩
def rSetL : V → V → V → Hp → (Hp → Prop) → Prop := fun o i v H Q => ∃ p xs k j, o = .ref p ∧ i = .int k ∧ H p = some (.lst xs) ∧ ixN xs.length k = some j ∧ Q (upd H p (.lst (xs.set j v)))
theorem set_list : PSet X rSetL := by
  intro pins s σ H o i v ov iv u Q I ro ri rv h
  obtain ⟨p, xs, k, j, rfl, rfl, hp, hj, q⟩ := h
  cases ro
  obtain ⟨t, rfl⟩ := ri
  obtain ⟨its, n, r, ho, hz⟩ := I.lst hp
  obtain ⟨h1, h2, h3, h4⟩ := ixN_seq hj
  have hl := r.length
  have hn := line63
  have I' : Inv X pins σ (upd H p (.lst (xs.set j v))) { s with heap := s.heap.update p (Obj.mapSeq (·.setIfInBounds j u)) } :=
    I.lstUpd hp ho (mapSeq_set its n j u) (r.set rv j) (by rw [List.length_set]; exact hz) s.toks
  by_cases h0 : 0 ≤ k
  · have hk : k.toNat = j := by
      rw [seqIndex_of h0 h4] at h1
      exact Option.some.inj h1
    exact PySem.W.ki_setAt ho h0 (by omega) (by rw [List.size_toArray, ← hl]; exact h4) (by rw [hk]; exact ⟨_, I', q⟩)
  · have hk : (k + (its.toArray.size : Int)).toNat = j := by
      rw [seqIndex_neg (by omega) h3] at h1
      rw [List.size_toArray, ← hl]
      exact Option.some.inj h1
    exact PySem.W.ki_setBack ho (by omega) (by rw [List.size_toArray, ← hl]; exact h3) (by omega) (by rw [hk]; exact ⟨_, I', q⟩)

theorem slice_bounds (lo hi : Option Int) (n : Nat) : (sliceBounds lo hi none n).1 = ((HT.sIx n 0 lo : Nat) : Int) ∧ (sliceBounds lo hi none n).2.1 = ((HT.sIx n n hi : Nat) : Int) ∧ (sliceBounds lo hi none n).2.2 = 1 := by
  refine ⟨?_, ?_, rfl⟩
  · cases lo with
    | none => simp [sliceBounds, HT.sIx]
    | some i =>
      simp only [sliceBounds, HT.sIx, Option.getD_none, show (1 : Int) > 0 by decide, if_true]
      by_cases h : i < 0
      · simp only [h, if_true] <;> omega
      · simp only [h, if_false] <;> omega
  · cases hi with
    | none => simp [sliceBounds, HT.sIx]
    | some i =>
      simp only [sliceBounds, HT.sIx, Option.getD_none, show (1 : Int) > 0 by decide, if_true]
      by_cases h : i < 0
      · simp only [h, if_true] <;> omega
      · simp only [h, if_false] <;> omega
theorem slicePick_cut (its : List Value) (lo hi : Option Int) : slicePick its.toArray lo hi none = ((its.drop (HT.sIx its.length 0 lo)).take (HT.sIx its.length its.length hi - HT.sIx its.length 0 lo)).toArray := by
  obtain ⟨h1, h2, h3⟩ := slice_bounds lo hi its.toArray.size
  unfold slicePick
  rw [h1, h2, h3]
  simp only [sliceRange_one, pick_run, List.size_toArray] <;> rfl
def rSlL (K : PySem.W.Frag) : V → Option Int → Option Int → Hp → VK → Prop := fun x lo hi H Q => ∃ a xs, x = .ref a ∧ SqL K H a xs ∧ ∀ p, H p = none → Q (.ref p) (upd H p (.lst (cutV xs lo hi)))
theorem sl_list : SlR X (rSlL X.K) := by
  intro pins s σ H x v vl vu lo hi sl Q I rx hs pl pu h
  obtain ⟨a, xs, rfl, hx, q⟩ := h
  cases rx
  obtain ⟨its, r, ht, hz⟩ := I.list hx
  have hlen := r.length
  refine ⟨"list", _, slot_list_getitem.lookup, ht.isList.typeIs, ?_⟩
  refine wpAny_getItem_list_slice ht.isList hs pl pu .none (by simp) ?_ (by rw [List.size_toArray] <;> omega)
  rw [slicePick_cut, ← hlen]
  refine ⟨.ref s.heap.objs.size, _, I.laid (t' := s.toks) (o := .lst (cutV xs lo hi)) (fun b ob q => Heap.get?_push_of_some _ q) (Nat.le_refl _) ?_, rfl, q _ (I.hok.fresh (Nat.le_refl _))⟩
  exact ⟨Nat.le_trans (cutV_length xs lo hi) hz, _, 0, (r.drop (HT.sIx xs.length 0 lo)).take (HT.sIx xs.length xs.length hi - HT.sIx xs.length 0 lo), Heap.get?_push_size _ rfl⟩

def flatV : V → Bool
  | .non => true
  | .bl _ => true
  | .int _ => true
  | .str _ => true
  | _ => false
def eqV : V → V → Bool
  | .non, .non => true
  | .bl a, .bl b => a == b
  | .bl a, .int b => (if a then 1 else 0) == b
  | .int a, .bl b => a == (if b then 1 else 0)
  | .int a, .int b => a == b
  | .str a, .str b => a == b
  | _, _ => false
theorem eqAt_V {A : Around} {s : Shared} {y x : V} {u v : Value} (ry : RelV y u) (rx : RelV x v) (fy : flatV y = true) (fx : flatV x = true) : SeqAt.EqAt A s u v (eqV y x) := by
  cases y with
  | non =>
    cases ry
    cases x with
    | non => cases rx; exact SeqAt.EqAt.same _
    | bl b => cases rx; exact SeqAt.EqAt.none_bool b
    | int b => obtain ⟨t, rfl⟩ := rx; exact SeqAt.EqAt.none_int b t
    | str b => obtain ⟨t, rfl⟩ := rx; exact SeqAt.EqAt.none_str b t
    | _ => exact absurd (show false = true from fx) Bool.false_ne_true
  | bl a =>
    cases ry
    cases x with
    | non => cases rx; exact SeqAt.EqAt.bool_none a
    | bl b => cases rx; exact SeqAt.EqAt.bool_bool a b
    | int b => obtain ⟨t, rfl⟩ := rx; exact SeqAt.EqAt.bool_int a b t
    | str b => obtain ⟨t, rfl⟩ := rx; exact SeqAt.EqAt.bool_str a b t
    | _ => exact absurd (show false = true from fx) Bool.false_ne_true
  | int a =>
    obtain ⟨t', rfl⟩ := ry
    cases x with
    | non => cases rx; exact SeqAt.EqAt.int_none a t'
    | bl b => cases rx; exact SeqAt.EqAt.int_bool a t' b
    | int b => obtain ⟨t, rfl⟩ := rx; exact SeqAt.EqAt.int_int a t' b t
    | str b => obtain ⟨t, rfl⟩ := rx; exact SeqAt.EqAt.int_str a t' b t
    | _ => exact absurd (show false = true from fx) Bool.false_ne_true
  | str a =>
    obtain ⟨t', rfl⟩ := ry
    cases x with
    | non => cases rx; exact SeqAt.EqAt.str_none a t'
    | bl b => cases rx; exact SeqAt.EqAt.str_bool a t' b
    | int b => obtain ⟨t, rfl⟩ := rx; exact SeqAt.EqAt.str_int a t' b t
    | str b => obtain ⟨t, rfl⟩ := rx; exact SeqAt.EqAt.str_str a t' b t
    | _ => exact absurd (show false = true from fx) Bool.false_ne_true
  | _ => exact absurd (show false = true from fy) Bool.false_ne_true
def eqU (x : V) (u : Value) : Bool := match u with
  | .none => eqV .non x
  | .bool b => eqV (.bl b) x
  | .int i _ => eqV (.int i) x
  | .str z _ => eqV (.str z) x
  | _ => false
theorem eqU_of {x y : V} {u : Value} (r : RelV y u) (f : flatV y = true) : eqU x u = eqV y x := by
  cases y with
  | non => cases r; rfl
  | bl b => cases r; rfl
  | int i => obtain ⟨t, rfl⟩ := r; rfl
  | str z => obtain ⟨t, rfl⟩ := r; rfl
  | _ => exact absurd (show false = true from f) Bool.false_ne_true
theorem any_eqU {x : V} : ∀ {xs : List V} {us : List Value}, Vals xs us → xs.all flatV = true → us.any (eqU x) = xs.any fun y => eqV y x
  | _, _, .nil, _ => rfl
  | y :: xs, u :: us, .cons r t, f => by
    rw [List.all_cons, Bool.and_eq_true] at f
    rw [List.any_cons, List.any_cons, eqU_of r f.1, any_eqU t f.2]
theorem mem_eqAt {A : Around} {s : Shared} {x : V} {v : Value} (rx : RelV x v) (fx : flatV x = true) : ∀ {xs : List V} {us : List Value}, Vals xs us → xs.all flatV = true → ∀ u ∈ us, SeqAt.EqAt A s u v (eqU x u)
  | _, _, .nil, _ => fun u hu => by cases hu
  | y :: xs, u :: us, .cons r t, f => fun u' hu => by
    rw [List.all_cons, Bool.and_eq_true] at f
    rcases List.mem_cons.mp hu with rfl | hu
    · rw [eqU_of r f.1]; exact eqAt_V r rx f.1 fx
    · exact mem_eqAt rx fx t f.2 u' hu
def inV (x : V) (xs : List V) : Bool := xs.any fun y => eqV y x
def rIn (K : PySem.W.Frag) (neg : Bool) : R2 := fun x y H Q => ∃ p xs, y = .ref p ∧ (SqL K H p xs ∨ SqT K H p xs) ∧ flatV x = true ∧ xs.all flatV = true ∧ Q (.bl (if neg then !inV x xs else inV x xs)) H
theorem op_notIn_seq : OpR X (compareOp .NotIn) (rIn X.K true) := by
  intro pins s σ H x y v u Q I rx ry h
  obtain ⟨p, xs, rfl, hq, fx, fs, q⟩ := h
  cases ry
  rcases hq with hq | hq
  · obtain ⟨its, r, pl, hz⟩ := I.list hq
    refine SeqAt.notIn_listAt (eqU x) pl.isList (fun w hw => mem_eqAt rx fx r fs w (by simpa using hw)) ⟨.bl _, H, I, rfl, ?_⟩
    rw [show its.toArray.any (eqU x) = its.any (eqU x) by simp, any_eqU r fs]
    exact q
  · obtain ⟨its, r, pl, hz⟩ := I.tuple hq
    refine SeqAt.notIn_tupleAt (eqU x) pl (fun w hw => mem_eqAt rx fx r fs w (by simpa using hw)) ⟨.bl _, H, I, rfl, ?_⟩
    rw [show its.toArray.any (eqU x) = its.any (eqU x) by simp, any_eqU r fs]
    exact q
theorem call_len_seq : CallR X (.builtin "len") (fun xs H Q => ∃ p ys, xs = [.ref p] ∧ (SqL X.K H p ys ∨ SqT X.K H p ys) ∧ Q (.int ys.length) H) := by
  intro pins s σ H xs us Q I r h
  obtain ⟨p, ys, rfl, hq, q⟩ := h
  obtain ⟨u, rfl, rx⟩ := vals1 r
  cases rx
  have hn := line63
  rcases hq with hq | hq
  · obtain ⟨its, r', pl, hz⟩ := I.list hq
    have hlen := r'.length
    exact Calls.call_len_list pl.isList (by simp only [List.size_toArray] <;> omega) ⟨.int ys.length, H, I.tok _, ⟨s.toks + 1, by rw [List.size_toArray, hlen]⟩, q⟩
  · obtain ⟨its, r', pl, hz⟩ := I.tuple hq
    have hlen := r'.length
    exact len_tuple pl (by simp only [List.size_toArray] <;> omega) ⟨.int ys.length, H, I.tok _, ⟨s.toks + 1, by rw [List.size_toArray, hlen]⟩, q⟩
theorem call_list_of : CallR X (.type "list") (fun xs H Q => ∃ p ys, xs = [.ref p] ∧ (SqL X.K H p ys ∨ SqT X.K H p ys) ∧ ∀ l, H l = none → Q (.ref l) (upd H l (.lst ys))) := by
  intro pins s σ H xs us Q I r h
  obtain ⟨p, ys, rfl, hq, q⟩ := h
  obtain ⟨u, rfl, rx⟩ := vals1 r
  cases rx
  have fin : ∀ (its : List Value), Vals ys its → ys.length ≤ sizeLine → ∀ (h' : Heap) (c' : Nat), (∀ b o', s.heap.get? b = some o' → h'.get? b = some o') →
      h'.get? s.heap.objs.size = some { cls := .type "list", dict := none, data := .seq its.toArray c', slots := #[] } → EP X pins σ Q (.ref s.heap.objs.size) { s with heap := h' } := fun its r' hz h' c' kp e =>
    ⟨.ref s.heap.objs.size, _, I.laid (t' := s.toks) kp (Nat.le_refl _) (show ObjOk X.prog X.w _ h' _ (.lst ys) from ⟨hz, its, c', r', e⟩), rfl, q _ (I.hok.fresh (Nat.le_refl _))⟩
  rcases hq with hq | hq
  · obtain ⟨its, r', pl, hz⟩ := I.list hq
    have hlen := r'.length
    obtain ⟨o, ho, hc, n, hd⟩ := pl.isList
    exact call_list_seq p (.inl rfl) ho hc hd (fun h' c' kp e => fin its r' hz h' c' kp e) (by simp only [List.size_toArray] <;> omega)
  · obtain ⟨its, r', pl, hz⟩ := I.tuple hq
    have hlen := r'.length
    obtain ⟨o, ho, hc, n, hd⟩ := pl
    exact call_list_seq p (.inr rfl) ho hc hd (fun h' c' kp e => fin its r' hz h' c' kp e) (by simp only [List.size_toArray] <;> omega)
theorem call_tuple_of : CallR X (.type "tuple") (fun xs H Q => ∃ p ys, xs = [.ref p] ∧ ((SqL X.K H p ys ∧ ∀ l, H l = none → Q (.ref l) (upd H l (.tup ys))) ∨ (SqT X.K H p ys ∧ Q (.ref p) H))) := by
  intro pins s σ H xs us Q I r h
  obtain ⟨p, ys, rfl, h⟩ := h
  obtain ⟨u, rfl, rx⟩ := vals1 r
  cases rx
  rcases h with ⟨hq, q⟩ | ⟨hq, q⟩
  · obtain ⟨its, r', pl, hz⟩ := I.list hq
    have hlen := r'.length
    refine call_tuple_list pl.isList (fun h' kp => ?_) (by simp only [List.size_toArray] <;> omega)
    have I1 : Inv X pins σ H { s with heap := h' } := I.kept (t' := s.toks) kp
    have I2 : Inv X pins σ (upd H h'.objs.size (.tup ys)) { s with heap := h'.push { cls := .type "tuple", data := .seq its.toArray } } :=
      I1.laid (t' := s.toks) (fun b o e => Heap.get?_push_of_some _ e) (Nat.le_refl _) (show ObjOk X.prog X.w _ _ _ (.tup ys) from ⟨hz, its, r', IsTup.new _ _⟩)
    exact ⟨.ref h'.objs.size, _, I2, rfl, q _ (I1.hok.fresh (Nat.le_refl _))⟩
  · obtain ⟨its, r', pl, hz⟩ := I.tuple hq
    exact call_tuple_same pl ⟨.ref p, H, I, rfl, q⟩

def tyV (K : PySem.W.Frag) (T : String) (x : V) (H : Hp) : Prop := match x with
  | .str _ => T = "str"
  | .int _ => T = "int"
  | .ref p => (T = "list" ∧ ∃ xs, SqL K H p xs) ∨ (T = "tuple" ∧ ∃ o, K.lookup p = some o ∧ o.cls = .type "tuple" ∧ o.dict = none) ∨
      (T = "dict" ∧ ((∃ kvs, H p = some (.dK kvs)) ∨ ∃ kvs, H p = some (.dT kvs))) ∨ (T = "set" ∧ ∃ S n, H p = some (.set S n))
  | _ => False
theorem tyV_is {pins : List (Addr × Obj)} {σ : St} {H : Hp} {s : Shared} {T : String} {x : V} {v : Value} (I : Inv X pins σ H s) (r : RelV x v) (ty : tyV X.K T x H) :
    s.TypeIs v T ∧ ∀ a, v = .ref a → ∃ ob, s.heap.get? a = some ob ∧ ob.dict = none := by
  cases x with
  | str z =>
    obtain ⟨t, rfl⟩ := r
    cases (show T = "str" from ty)
    exact ⟨typeIs_str s z t, fun _ e => nomatch e⟩
  | int i =>
    obtain ⟨t, rfl⟩ := r
    cases (show T = "int" from ty)
    exact ⟨typeIs_int s i t, fun _ e => nomatch e⟩
  | ref p =>
    cases r
    rcases ty with ⟨rfl, xs, hq⟩ | ⟨rfl, o, hk, hc, hd⟩ | ⟨rfl, hk⟩ | ⟨rfl, S, n, hk⟩
    · obtain ⟨its, _, pl, _⟩ := I.list hq
      refine ⟨pl.isList.typeIs, fun a e => ?_⟩
      cases e
      obtain ⟨o, n, e, c, hd, _⟩ := pl
      exact ⟨o, e, hd⟩
    · refine ⟨⟨o, I.kIn p o hk, hc⟩, fun a e => ?_⟩
      cases e
      exact ⟨o, I.kIn _ o hk, hd⟩
    · have z : ∃ o, s.heap.get? p = some o ∧ o.ExactDict := by
        rcases hk with ⟨kvs, hk⟩ | ⟨kvs, hk⟩
        · obtain ⟨_, _, _, _, o, _, _, e, ex, _⟩ := I.hok p _ hk
          exact ⟨o, e, ex⟩
        · obtain ⟨_, _, _, _, o, _, _, e, ex, _⟩ := I.hok p _ hk
          exact ⟨o, e, ex⟩
      obtain ⟨o, e, ex⟩ := z
      refine ⟨⟨o, e, ex.1⟩, fun a e2 => ?_⟩
      cases e2
      exact ⟨o, e, ex.2.1⟩
    · obtain ⟨o, _, _, _, e, ex, _⟩ := I.hok p _ hk
      refine ⟨⟨o, e, ex.1⟩, fun a e2 => ?_⟩
      cases e2
      exact ⟨o, e, ex.2.1⟩
  | _ => exact False.elim ty
def tBM0 (K : PySem.W.Frag) (T : String) (r : V → List V → Hp → VK → Prop) (to : TE) : TE := fun σ H Q => to σ H fun x H1 => tyV K T x H1 ∧ r x [] H1 Q
def tBM (K : PySem.W.Frag) (T : String) (r : V → List V → Hp → VK → Prop) (to : TE) (t : TA) : TE := fun σ H Q => to σ H fun x H1 => tyV K T x H1 ∧ t σ H1 fun xs H2 => r x xs H2 Q
variable {o e : Expr} {es : List Expr} {to : TE} {t : TA} {name : Str} {apos cpos : Pos} {T id : String} {r : V → List V → Hp → VK → Prop}
theorem pe_bm0 (pa : PlainAttrs T) (slot : Slot T name id) (hty : typeOf (.builtin id) = pure (.type "method_descriptor")) (hm : MtR X id r) (ho : PE X o to)
    (hbase : attributeBase o name X.env (eval o X.env) = eval o X.env := by rfl) (hline : (apos.endLine == cpos.line) = true := by rfl) : PE X (.Call (.Attribute o name apos) [] [] cpos) (tBM0 X.K T r to) := by
  intro pins s σ H Q I h
  refine wpAny_Call_method0_late hbase hline (thn (ho pins s σ H _ I h) fun v s1 ⟨x, H1, I1, r1, ty, q1⟩ => ?_)
  obtain ⟨h1, h2⟩ := tyV_is I1 r1 ty
  exact ⟨T, id, pa, slot, hty, h1, h2, Calls.callWith_builtin rfl (PySem.evalArgs_none (hm pins s1 σ H1 x [] v [] Q I1 r1 .nil q1))⟩
theorem pe_bm (pa : PlainAttrs T) (slot : Slot T name id) (hty : typeOf (.builtin id) = pure (.type "method_descriptor")) (hm : MtR X id r) (ho : PE X o to) (ha : PA X (e :: es) t)
    (hbase : attributeBase o name X.env (eval o X.env) = eval o X.env := by rfl)
    (hfew : ((backTo cpos (starEach (e :: es) X.env)).all (fun x => !x.1) && (backToKw cpos (keywordEach [] X.env)).all (fun x => x.1.isSome)
      && decide ((e :: es).length + ([] : List Keyword).length + (if ([] : List Keyword).isEmpty then 0 else 1) < 30)) = true := by rfl)
    (hline : (apos.endLine == cpos.line) = true := by rfl) (hs : starEach (e :: es) X.env = (false, eval e X.env) :: starEach es X.env := by rfl) (hplain : (backTo cpos (starEach es X.env)).any (·.1) = false := by rfl) :
    PE X (.Call (.Attribute o name apos) (e :: es) [] cpos) (tBM X.K T r to t) := by
  intro pins s σ H Q I h
  refine wpAny_Call_method_late hbase hfew hline rfl (thn (ho pins s σ H _ I h) fun v s1 ⟨x, H1, I1, r1, ty, q1⟩ => ?_)
  obtain ⟨h1, h2⟩ := tyV_is I1 r1 ty
  refine ⟨T, id, pa, slot, hty, h1, h2, ?_⟩
  have hA := ha cpos pins s1 σ H1 _ I1 q1
  rw [hs] at hA ⊢
  refine Calls.callWith_builtin (by show (false || (backTo cpos (starEach es X.env)).any (·.1)) = false; rw [hplain] <;> rfl) (Calls.evalArgs_plain ?_)
  exact thn hA fun us s2 ⟨vs, H2, I2, r2, q2⟩ => hm pins s2 σ H2 x vs v us Q I2 r1 r2 q2
/- xs.append(e), list.index on a module's tuple .. are MtR facts of 06m -/
end
end L2

namespace L2
open PySem PySem.Spec PyProof.Rows

def MtM (X : Cx) (id : String) (r : V → List V → Hp → VK → Prop) : Prop :=
  ∀ (pins : List (Addr × Obj)) (s : Shared) (σ : St) (H : Hp) (x : V) (xs : List V) (v : Value) (us : List Value) (Q : VK), Inv X pins σ H s → RelV x v → Vals xs us → r x xs H Q →
    wpAny (model X.prog X.w) X.A (call (.builtin id) (v :: us)) (EP X pins σ Q) X.xe s

theorem Vals.one : ∀ {x : V} {us : List Value}, Vals [x] us → ∃ u, us = [u] ∧ RelV x u
  | _, _, .cons r .nil => ⟨_, rfl, r⟩
theorem Vals.zero : ∀ {us : List Value}, Vals [] us → us = []
  | _, .nil => rfl
theorem Vals.dropLast {xs : List V} {us : List Value} (h : Vals xs us) : Vals xs.dropLast us.dropLast := by
  induction h with
  | nil => exact .nil
  | cons r t ih =>
    cases t with
    | nil => exact .nil
    | cons q t' => exact .cons r ih
theorem Vals.eraseIdx : ∀ {xs : List V} {us : List Value} (i : Nat), Vals xs us → Vals (xs.eraseIdx i) (us.eraseIdx i)
  | _, _, _, .nil => .nil
  | _, _, 0, .cons _ t => t
  | _, _, i + 1, .cons r t => .cons r (Vals.eraseIdx i t)
theorem Vals.reverse {xs : List V} {us : List Value} (h : Vals xs us) : Vals xs.reverse us.reverse := by
  induction h with
  | nil => exact .nil
  | cons r t ih => rw [List.reverse_cons, List.reverse_cons]; exact Vals.append ih (.cons r .nil)
theorem erase_last {α : Type} (l : List α) : l.eraseIdx (l.length - 1) = l.dropLast := by
  induction l with
  | nil => rfl
  | cons a r ih =>
    cases r with
    | nil => rfl
    | cons b r =>
      have e : (a :: b :: r).length - 1 = ((b :: r).length - 1) + 1 := by
        have h1 : (a :: b :: r).length = r.length + 2 := rfl
        have h2 : (b :: r).length = r.length + 1 := rfl
        omega
      rw [e, List.eraseIdx_cons_succ, ih]
      all_goals rfl
section
variable {X : Cx} {pins : List (Addr × Obj)} {σ : St} {H : Hp} {s : Shared} {l b : Addr} {xs ys zs : List V}

theorem Inv.lset {its its' : List Value} {n : Nat} {f : Array Value → Array Value} {t' : Nat} (I : Inv X pins σ H s) (hH : H l = some (.lst xs))
    (e : s.heap.get? l = some { cls := .type "list", data := .seq its.toArray n }) (hf : f its.toArray = its'.toArray) (hv : Vals ys its') (hz : ys.length ≤ sizeLine) :
    Inv X pins σ (upd H l (.lst ys)) { s with heap := s.heap.update l (Obj.mapSeq f), toks := t' } := by
  have q := PySem.IsL.update e f
  rw [hf] at q
  refine I.write (x := l) (e := l) (by rw [hH]; exact trivial) (.inl rfl) (fun b' u hb hu => (Heap.get?_update_other s.heap (Obj.mapSeq f) (Ne.symm hb)).trans hu) ⟨_, q⟩ ?_
  exact ⟨hz, its', _, hv, q⟩
theorem Inv.lnew {its : List Value} {t' : Nat} (I : Inv X pins σ H s) (hv : Vals ys its) (hz : ys.length ≤ sizeLine) :
    Inv X pins σ (upd H s.heap.objs.size (.lst ys)) { s with heap := s.heap.push { cls := .type "list", data := .seq its.toArray }, toks := t' } :=
  I.laid (fun _ _ q => Heap.get?_push_of_some _ q) (Nat.le_refl _) ⟨hz, its, 0, hv, Heap.get?_push_size _ rfl⟩
theorem Inv.fresh (I : Inv X pins σ H s) : H s.heap.objs.size = none := I.hok.fresh (Nat.le_refl _)
theorem Inv.lstM (I : Inv X pins σ H s) (hH : H l = some (.lst xs)) : xs.length ≤ sizeLine ∧ ∃ (its : List Value) (n : Nat), Vals xs its ∧ xs.length = its.length ∧ s.heap.get? l = some { cls := .type "list", data := .seq its.toArray n } := by
  obtain ⟨z, its, n, r, e⟩ := I.hok l _ hH
  exact ⟨z, its, n, r, r.length, e⟩

end

section
variable {X : Cx}

def rAppend : V → List V → Hp → VK → Prop := fun x vs H Q => ∃ l xs y, x = .ref l ∧ vs = [y] ∧ H l = some (.lst xs) ∧ xs.length < sizeLine ∧ Q .non (upd H l (.lst (xs ++ [y])))
theorem mt_append : MtM X "list.append" rAppend := by
  intro pins s σ H x vs v us Q I rx rv h
  obtain ⟨l, xs, y, rfl, rfl, hH, hz, q⟩ := h
  cases rx
  obtain ⟨u, rfl, ru⟩ := rv.one
  obtain ⟨z, its, n, r, hl, e⟩ := I.lstM hH
  refine call_meets F.slot_list_append ⟨_, e, rfl⟩ F.entry_list_append (F.args_list_append_2 _ _) (PySem.list_append l its.toArray n u (by rw [List.size_toArray]; omega)) ⟨e, ?_⟩
  refine ⟨.non, _, I.lset (its' := its ++ [u]) hH e (by simp) (r.append (.cons ru .nil)) ?_, rfl, q⟩
  rw [List.length_append, List.length_singleton]
  omega

def rPop : V → List V → Hp → VK → Prop := fun x vs H Q => ∃ l xs y, x = .ref l ∧ vs = [] ∧ H l = some (.lst xs) ∧ xs[xs.length - 1]? = some y ∧ Q y (upd H l (.lst xs.dropLast))
theorem mt_pop : MtM X "list.pop" rPop := by
  intro pins s σ H x vs v us Q I rx rv h
  obtain ⟨l, xs, y, rfl, rfl, hH, hy, q⟩ := h
  cases rx
  have hus := rv.zero
  subst hus
  obtain ⟨z, its, n, r, hl, e⟩ := I.lstM hH
  obtain ⟨u, hu, ru⟩ := r.get hy
  have hy' : its.toArray[its.toArray.size - 1]? = some u := by
    show its.toArray[its.length - 1]? = some u
    rw [← Array.getElem?_toList, ← hl]
    exact hu
  refine call_meets F.slot_list_pop ⟨_, e, rfl⟩ F.entry_list_pop (F.args_list_pop_1 _) (MeetsSeq.list_pop_last l its.toArray n u hy' (by rw [List.size_toArray]; omega)) ⟨e, ?_⟩
  refine ⟨y, _, I.lset (its' := its.dropLast) hH e ?_ r.dropLast ?_, ru, q⟩
  · show its.toArray.eraseIdxIfInBounds (its.toArray.size - 1) = its.dropLast.toArray
    rw [List.size_toArray, List.eraseIdxIfInBounds_toArray, erase_last]
  · rw [List.length_dropLast]
    omega

def rClear : V → List V → Hp → VK → Prop := fun x vs H Q => ∃ l xs, x = .ref l ∧ vs = [] ∧ H l = some (.lst xs) ∧ Q .non (upd H l (.lst []))
theorem mt_clear : MtM X "list.clear" rClear := by
  intro pins s σ H x vs v us Q I rx rv h
  obtain ⟨l, xs, rfl, rfl, hH, q⟩ := h
  cases rx
  have hus := rv.zero
  subst hus
  obtain ⟨z, its, n, r, hl, e⟩ := I.lstM hH
  refine call_meets F.slot_list_clear ⟨_, e, rfl⟩ F.entry_list_clear (F.args_list_clear_1 _) (AutoSeq1.list_clear_list_0 l its.toArray n (by rw [List.size_toArray]; omega)) ⟨e, ?_⟩
  exact ⟨.non, _, I.lset (its' := []) (ys := []) hH e rfl .nil (Nat.zero_le _), rfl, q⟩

def rCat : R2 := fun x y H Q => ∃ l b xs zs, x = .ref l ∧ y = .ref b ∧ H l = some (.lst xs) ∧ H b = some (.lst zs) ∧ xs.length + zs.length ≤ sizeLine ∧ ∀ p, H p = none → Q (.ref p) (upd H p (.lst (xs ++ zs)))
theorem op_cat : OpR X (binaryOp .Add) rCat := by
  intro pins s σ H x y v u Q I rx ry h
  obtain ⟨l, b, xs, zs, rfl, rfl, hH, hB, hz, q⟩ := h
  cases rx
  cases ry
  obtain ⟨z, its, n, r, hl, e⟩ := I.lstM hH
  obtain ⟨z2, its2, n2, r2, hl2, e2⟩ := I.lstM hB
  refine PySem.P.add_list e e2 ?_ (by rw [List.size_toArray, List.size_toArray]; omega)
  have ea : its.toArray ++ its2.toArray = (its ++ its2).toArray := by simp
  rw [ea]
  exact ⟨.ref _, _, I.lnew (t' := s.toks) (r.append r2) (by rw [List.length_append]; omega), rfl, q _ I.fresh⟩
end

section
variable {prog : Program} {w : World} {A : Around} {E : Value → Shared → Prop} {s : Shared}
end

section
variable {X : Cx}
end
end L2

namespace Att
open PySem PySem.W PySem.Calls PyProof.Rows

theorem ints_of_wellAll {P : Params} {h : Heap} : ∀ (ns : List Int) (vs : List Value), WellAll P h vs (ns.map WData.int) → IntsAre vs ns := by
  intro ns
  induction ns with
  | nil =>
    intro vs w
    rw [List.map_nil] at w
    cases w
    exact .nil
  | cons n ns ih =>
    intro vs w
    rw [List.map_cons] at w
    cases w with
    | cons a b =>
      cases a
      exact .cons _ _ (ih _ b)

theorem script_of {l : OpenLaw} {n : Nat} (hn : l.most = some n) {P : Params} {h : Heap} {args : List WData} {vals : List Value}
    (hpre : l.row.toRowW.claim.pre args = true) (hwl : WellAll P h vals args) :
    ∃ a vs ns, vals = [Value.ref a] ∧ args = [WData.list (ns.map WData.int)] ∧ h.get? a = some { cls := .type "list", data := .seq vs.toArray } ∧ IntsAre vs ns ∧ ns.length ≤ n := by
  have hsh : WShape.hasAll [] args [.list .int] = true := (pre_splitW hpre).1
  have hc : l.pre.holds [] { args := args } = true := (pre_splitW hpre).2
  obtain ⟨d, r, rfl, h1, h2⟩ := hasAllW_cons hsh
  obtain rfl := hasAllW_nil h2
  obtain ⟨xs, rfl, h3⟩ := hasW_list h1
  obtain ⟨ns, rfl⟩ := items_int h3
  have hlen : ns.length ≤ n := by
    unfold OpenLaw.pre at hc
    have h4 : (WTm.not (.lt (.lit (.int (n : Int))) (.len (.arg 0)))).holds [] { args := [.list (ns.map .int)] } = true := by
      have h4 := (holds_andW hc).1
      rw [hn] at h4
      exact h4
    have h5 := condW_of h4 (w_not (w_lt w_lit (w_len_list (w_arg rfl))))
    rw [List.length_map] at h5
    refine Nat.le_of_not_lt fun q => ?_
    have q' : (n : Int) < ((ns.length : Nat) : Int) := by omega
    first
      | (rw [decide_eq_true q'] at h5; exact absurd h5 (by decide))
      | (simp at h5; omega)
  cases hwl with
  | cons w1 w2 =>
    cases w2
    cases w1 with
    | list ho hall => exact ⟨_, _, ns, rfl, rfl, ho, ints_of_wellAll ns _ hall, hlen⟩

theorem post_true (l : OpenLaw) (args : List WData) : l.row.toRowW.claim.post args (.bool true) args = true :=
  postW_of (r := l.row.toRowW) (X := (true == true))
    (show WShape.has [] (.bool true) .bool = true by first | rfl | decide | simp [WShape.has, WShape.arms, WShape.armsAll])
    (show (WTm.eq .res (.lit (.bool true))).value [] { args := args, res := some (.bool true), after := args } = some (.bool (true == true)) from w_eq_bool (w_res rfl) w_lit) rfl

theorem attach_call {l : OpenLaw} {n : Nat} {q : Program} {loose : List Str} {XP : (Str → Option Value) → Heap → Prop} {YP : World → Heap → Prop} {d : DefRec}
    (hn : l.most = some n) (hdf : d.params.defaults = [])
    (call : ∀ (w : World) (s₀ s₁ : Shared) (mg mb : Str → Option Value) (fa : Addr) (o : Obj) (pm cd doc : Value) (a : Addr) (vs : List Value) (ns : List Int),
      Ground q loose [] XP w s₀ mg mb s₁.heap → YP w s₁.heap →
      s₁.heap.get? fa = some o → o.data = .func (docDef d.name d.params d.body d.scope pm cd doc) → s₁.heap.CodeRec cd d.name → mg d.name = some (.ref fa) →
      s₁.heap.get? a = some { cls := .type "list", data := .seq vs.toArray } → IntsAre vs ns → ns.length ≤ n → s₁.gens = #[] →
      codeAny (model l.prog w) callerA (.call (.ref fa) ⟨[.ref a], []⟩) (fun r s' => r = .ok (.ret (.bool true)) ∧ OldK s₁.heap s'.heap ∧ s'.os = s₁.os ∧ AllBare s'.gens) s₁) :
    WalkO q loose XP YP l.row.toRowW d [] (fun f vs => PySem.call f vs) := by
  intro w s₀ s₁ mg mb G Y fa o pm cd doc dV kV ho hd hcd hD hmg hg args vals as hpre hlay hrd hwl hlo
  obtain rfl : dV = .none := Dflts.none hD hdf
  obtain rfl : kV = .none := Dflts.noKw hD
  obtain ⟨a, vs, ns, rfl, rfl, hobj, hints, hlen⟩ := script_of hn hpre hwl
  refine enter_call (codeAny_mono (call w s₀ s₁ mg mb fa o pm cd doc a vs ns G Y ho (fd_plain hd) hcd hmg hobj hints hlen hg) fun r s' hq => ?_)
  obtain ⟨rfl, h2, h3, h4⟩ := hq
  exact ⟨.inl ⟨.bool true, .bool true, [], rfl, fun _ => rfl, .bool true, post_true l _, fun _ => ⟨List.Pairwise.nil, fun _ hm => (nomatch hm)⟩⟩, h2, h3, h4⟩

section
variable {prog : Program} {w : World} {A : Around} {E : Value → Shared → Prop} {s : Shared} {K : Frag}

end
end Att

namespace L2
open PySem PySem.Spec PyProof.Rows

theorem vals_ints : ∀ {vs : List Value} {ns : List Int}, IntsAre vs ns → Vals (ns.map V.int) vs
  | _, _, .nil => .nil
  | _, _, .cons n t h => .cons ⟨t, rfl⟩ (vals_ints h)

def Only (H : Hp) : Prop := ∀ b, H b = none ∨ ∃ o xs, H b = some (.frz o (.lst xs))

theorem law_call {P : Program} {w : World} {K : PySem.W.Frag} {mg mb : Str → Option Value} {CX : CXT} {k : Nat} {fa a : Addr} {fd : FuncData} {x : Str} {sp : Sp} {s₁ : Shared} {vs : List Value} {ns : List Int}
    (KX : K.In s₁.heap) (hns : s₁.heap.Ns mainGlobals mg) (hb : s₁.heap.Ns builtinsNs mb) (hbb : ∀ x : Str, x ≠ "__name__" → mb x = bootBuiltins x) (hlim : s₁.heap.NoLimit) (hg : s₁.gens = #[])
    (ha : s₁.heap.get? a = some { cls := .type "list", data := .seq vs.toArray }) (hi : IntsAre vs ns) (hl : ns.length ≤ sizeLine) (hr : Room k callerA)
    (F : ∀ base : Heap, K.In base → base.Ns mainGlobals mg → FnOk P w K mg base CX k fa fd [x] sp) (hbind : ∀ (s : Shared) (u : Value), BindsTo s fd ⟨[u], []⟩ [(x, u)])
    (hsp : ∀ H : Hp, Only H → SqL K H a (ns.map V.int) → sp [.ref a] H (fun v _ => v = .bl true) fun _ _ _ => False)
    (hCX : ∀ H e s', CX [] H s₁ (fun _ _ _ => False) e s' → False) :
    codeAny (model P w) callerA (.call (.ref fa) ⟨[.ref a], []⟩) (fun r s' => r = .ok (.ret (.bool true)) ∧ OldK s₁.heap s'.heap ∧ s'.os = s₁.os ∧ AllBare s'.gens) s₁ := by
  have rv := vals_ints hi
  have lenV := hi.length
  -- from an abstract heap in which nothing but the script may be tracked
  have core : ∀ H : Hp, Only H → SqL K H a (ns.map V.int) → HOk P w H s₁.heap → (∀ b, H b ≠ none → b = a) → (H a ≠ none → K.lookup a = none) →
      codeAny (model P w) callerA (.call (.ref fa) ⟨[.ref a], []⟩) (fun r s' => r = .ok (.ret (.bool true)) ∧ OldK s₁.heap s'.heap ∧ s'.os = s₁.os ∧ AllBare s'.gens) s₁ := by
    intro H hO hS hok hA hK
    have base_of : ∀ {b : Addr} {o : Obj}, s₁.heap.get? b = some o → H b = none → (hidT s₁.heap H).get? b = some o := fun e n => hidT_get e n
    have noA : ∀ {b : Addr} {o : Obj} {es : Array DictEntry} {ep : Nat}, s₁.heap.get? b = some o → o.data = .dict es ep → H b = none := fun {b o es ep} e d => by
      cases q : H b with
      | none => rfl
      | some u =>
        have e' : b = a := hA b (by rw [q]; simp)
        subst e'
        rw [ha] at e; cases e
        have d' : Data.seq vs.toArray _ = Data.dict es ep := d
        cases d'
    have nsK : ∀ {b : Addr} {m : Str → Option Value}, s₁.heap.Ns b m → (hidT s₁.heap H).Ns b m := fun {b m} ⟨o, es, ep, e, d, r⟩ => ⟨o, es, ep, base_of e (noA e d), d, r⟩
    have hKb : K.In (hidT s₁.heap H) := fun b o e => base_of (KX b o e) (by
      cases q : H b with
      | none => rfl
      | some u =>
        have e' : b = a := hA b (by rw [q]; simp)
        subst e'
        rw [hK (by rw [q]; simp)] at e; cases e)
    have hM : Mod K mg (hidT s₁.heap H) := ⟨hKb, nsK hns, ⟨mb, nsK hb, hbb⟩, let ⟨mc, h1, h2⟩ := hlim; ⟨mc, nsK h1, h2⟩⟩
    have e0 : Env0 P w K mg (hidT s₁.heap H) callerA [] s₁ H := ⟨rfl, hM, fun b o e => of_hidT e, Nat.le_of_eq (hidT_size _ _), trivial, fun b hb => absurd (show b ∈ ([] : List Addr) from hb) (by simp), hok, .of_eq hg⟩
    refine codeAny_mono ((F _ hKb (nsK hns)).run callerA [] s₁ H ⟨[.ref a], []⟩ [.ref a] [.ref a] _ _ hr e0 (hbind s₁ (.ref a)) (.cons rfl .nil) (hsp H hO hS)) fun r s' h => ?_
    cases r with
    | error e => exact (hCX H e s' h).elim
    | ok fl =>
      cases fl with
      | next => exact False.elim h
      | brk => exact False.elim h
      | cont => exact False.elim h
      | ret u =>
        obtain ⟨v, H', os, bare, un, hok', r', q⟩ := h
        have q' : v = .bl true := q
        subst q'
        obtain rfl : u = Value.bool true := r'
        refine ⟨rfl, OldK.of_keep fun b o e => ?_, os, bare⟩
        cases q : H b with
        | none => exact un.keep b o e q (by intro z; exact absurd (show b ∈ ([] : List Addr) from z) (by simp)) (by simp)
        | some u =>
          rcases hO b with z | ⟨ob, xs, z⟩
          · rw [q] at z; cases z
          · have z2 := un.frzs b ob _ z
            obtain ⟨e1, _⟩ := hok b _ z
            obtain ⟨e2, _⟩ := hok' b _ z2
            rw [e] at e1; cases e1
            exact e2
  cases hk : K.lookup a with
  | some o =>
    -- the script is one of the module's own objects
    have e := KX a o hk
    rw [ha] at e
    cases e
    refine core (fun _ => none) (fun _ => .inl rfl) (.inr ⟨_, vs.toArray, _, hk, rfl, rfl, rfl, by rw [List.size_toArray, lenV]; exact hl, by simpa using rv⟩) (fun b u z => by have z' : (none : Option HO) = some u := z; cases z') (fun b z => absurd rfl z) fun z => absurd rfl z
  | none =>
    refine core (fun b => if b = a then some (.frz { cls := .type "list", data := .seq vs.toArray } (.lst (ns.map V.int))) else none) (fun b => ?_) (.inl (.inr ⟨{ cls := .type "list", data := .seq vs.toArray }, if_pos rfl⟩)) (fun b u z => ?_) (fun b z => ?_) fun _ => hk
    · by_cases hb : b = a
      · exact .inr ⟨_, _, if_pos hb⟩
      · exact .inl (if_neg hb)
    · by_cases hb : b = a
      · have z' := (if_pos hb).symm.trans z
        cases z'
        subst hb
        exact ⟨ha, by rw [List.length_map]; exact hl, vs, _, rv, ha⟩
      · have z' := (if_neg hb).symm.trans z
        cases z'
    · by_cases hb : b = a
      · exact hb
      · exact absurd (if_neg hb) z
end L2

namespace L2
open PySem PySem.Spec PyProof.Rows

abbrev KOf {K : PySem.W.Frag} {h : Heap} (_ : K.In h) : PySem.W.Frag := K

theorem walk_of {l : PySem.W.OpenLaw} {n k : Nat} {q : Program} {loose : List Str} {XP : (Str → Option Value) → Heap → Prop} {YP : World → Heap → Prop} {d : DefRec} {K : Params → PySem.W.Frag} {CX : World → CXT} {sp : World → Sp} {x : Str}
    (hn : l.most = some n) (hn2 : n ≤ sizeLine) (hdf : d.params.defaults = []) (hr : Room k callerA)
    (hY : ∀ (w : World) (h : Heap), YP w h → (K w.params).In h)
    (F : ∀ (w : World) (mg : Str → Option Value) (fa : Addr) (h : Heap), (K w.params).In h → h.Ns mainGlobals mg → mg d.name = some (.ref fa) →
      ∃ fd : FuncData, (∀ (s : Shared) (u : Value), BindsTo s fd ⟨[u], []⟩ [(x, u)]) ∧
        ∀ base : Heap, (K w.params).In base → base.Ns mainGlobals mg → FnOk l.prog w (K w.params) mg base (CX w) k fa fd [x] (sp w))
    (hsp : ∀ (w : World) (H : Hp) (a : Addr) (ns : List Int), ns.length ≤ n → Only H → SqL (K w.params) H a (ns.map V.int) → sp w [.ref a] H (fun v _ => v = .bl true) fun _ _ _ => False)
    (hCX : ∀ (w : World) (H : Hp) (s : Shared) (e : Value) (s' : Shared), CX w [] H s (fun _ _ _ => False) e s' → False) :
    PySem.W.WalkO q loose XP YP l.row.toRowW d [] (fun f vs => PySem.call f vs) := by
  refine Att.attach_call hn hdf fun w s₀ s₁ mg mb fa o pm cd doc a vs ns G Y ho hd hcd hmg hobj hints hlen hg => ?_
  have KX := hY w _ Y
  obtain ⟨fd, hb, hF⟩ := F w mg fa _ KX G.T.g hmg
  exact law_call KX G.T.g G.T.b G.T.builtins G.T.nolimit hg hobj hints (Nat.le_trans hlen hn2) hr hF hb (fun H hO hS => hsp w H a ns hlen hO hS) fun H e s' => hCX w H s₁ e s'
end L2

/- THE LAST THEOREM (shape; LID, My.* are yours):
   My.Adr: a structure of the addresses that your layer names (classes, functions); My.Txt K t: a structure (Prop) of the equations over K;
   My.txt_mk : {K} {implicit addresses ..} (e1 : nsIn K mainGlobals "law" = some (some (.ref f))) (e2 : K.lookup f = some ⟨oc, od, .func (fnOf "law" "law" params body scope dV kV doc pm an cdv ct), sl⟩) (e3 : codeIn K cdv "law" = true) .. : ∃ t, My.Txt K t

set_option maxRecDepth 100000 in
set_option maxHeartbeats 0 in
theorem PySem.Challenge.cw_LID_holds : PySem.Challenge.rw_LID.Holds := by
  w_on; o_law; k_head; (case hw => w_witness2)
  k_fill
  refine L2.walk_of (l := PySem.Challenge.rw_LID) (n := 63) (k := 40) (x := "script") (CX := fun w => ..) (sp := fun _ => My.sp_law) rfl (by decide) rfl ⟨rfl, by decide, by decide⟩ (fun w h Y => PySem.W.kIn_of Y) ?F ?S ?C
  case F =>
    intro w mg fa h KX G hmg
    have T : ∃ t, My.Txt (L2.KOf KX) t := by
      dsimp only [L2.KOf]                          -- K must stand as «<heap const> w.params» for k_is
      refine' My.txt_mk ?e1 ?e2 ?e3 ..
      (case e1 => PySem.W.k_is)                    -- in the order: a name -> its address -> its object -> its parts
      (case e2 => PySem.W.k_is)
      ..
    obtain ⟨t, T⟩ := T
    have e0 := hmg.symm.trans (PySem.W.mg_of KX G T.law)
    cases e0                                       -- fa is the law's own address
    exact ⟨_, fun s u => .of_eq rfl, fun base kb nb => My.law_fn T kb nb⟩     -- if «.of_eq rfl» comes too early: refine' ⟨_, ?b, fun base kb nb => My.law_fn T kb nb⟩; exact fun s u => .of_eq rfl
  case S => exact fun w H a ns hl hO hS => ..
  case C => exact ..
(the tactic k_is has no namespace: write k_is) -/

namespace L2
open PySem PySem.Spec PyProof.Rows

def defArgs (s : Stmt) : Arguments := match s with
  | .FunctionDef _ a _ _ _ _ _ _ _ _ => a
  | _ => { posonlyargs := [], args := [], vararg := none, kwonlyargs := [], kw_defaults := [], kwarg := none, defaults := [] }
def defBody (s : Stmt) : List Stmt := match s with
  | .FunctionDef _ _ b _ _ _ _ _ _ _ => b
  | _ => []
def defScope (s : Stmt) : Scope := match s with
  | .FunctionDef _ _ _ _ _ _ sc _ _ _ => sc
  | _ => { kind := .function, names := [], isGenerator := false, isCoroutine := false }

abbrev CX0 : CXT := fun _ _ _ _ _ _ => False
abbrev E0 : XK := fun _ _ _ => False
theorem pass0 {X : Cx} : Passes CX0 X E0 := fun _ _ _ _ _ _ _ h => h.elim

structure Fun (K : PySem.W.Frag) (x qual : Str) (st : Stmt) (f : Addr) (fd : FuncData) : Prop where
  ex : ∃ (oc : Value) (od : Option Addr) (kV doc pm : Value) (an : Option Addr) (cdv ct : Value) (osl : Array (Option Value)),
    fd = PySem.W.fnOf x qual (defArgs st) (defBody st) (defScope st) .none kV doc pm an cdv ct ∧ K.lookup f = some ⟨oc, od, .func fd, osl⟩ ∧ PySem.W.codeIn K cdv qual = true
  kp : PySem.W.keepIn K (.ref f) = true
section
variable {P : Program} {w : World} {K : PySem.W.Frag} {mg : Str → Option Value} {base : Heap}
theorem Fun.ok {x qual : Str} {st : Stmt} {f : Addr} {fd : FuncData} {N ps : List Str} {k : Nat} {sp : Sp} (F : Fun K x qual st f fd) (S : FnScope N ps (defScope st)) (len : ∀ vs H Q E, sp vs H Q E → vs.length = ps.length)
    (hbody : ∀ (cdv : Value) (A : Around) (outer : List Env) (s : Shared) (H : Hp) (vs : List V) (Q : VK) (E : XK), Room k (A.deeper (envOfC qual (defScope st) s.heap.objs.size f cdv)) → sp vs H Q E →
      ∃ t, PSs (cxOf CX0 P w K mg base N qual (defScope st) f cdv A outer s H E).nox (defBody st) t ∧ t { nx := fun _ H' => Q .non H', rt := Q } (start N vs) H) : FnOk P w K mg base CX0 (k + 1) f fd ps sp := by
  obtain ⟨oc, od, kV, doc, pm, an, cdv, ct, osl, rfl, lk, hcd⟩ := F.ex
  refine fn_of lk hcd S len fun A outer s H vs Q E hr hsp => ?_
  obtain ⟨t, h, q⟩ := hbody cdv A outer s H vs Q E hr hsp
  exact ⟨t, h.nox, q⟩
theorem Fun.binds {x qual : Str} {st : Stmt} {f : Addr} {fd : FuncData} {ps : List Str} (F : Fun K x qual st f fd)
    (h : ∀ (kV doc pm : Value) (an : Option Addr) (cdv ct : Value) (us : List Value), us.length = ps.length → bindArgs (PySem.W.fnOf x qual (defArgs st) (defBody st) (defScope st) .none kV doc pm an cdv ct) ⟨us, []⟩ = pure (ps.zip us)) : Binds K fd ps [] := by
  obtain ⟨oc, od, kV, doc, pm, an, cdv, ct, osl, rfl, lk, hcd⟩ := F.ex
  exact .all (h kV doc pm an cdv ct)
theorem fun_mk {x qual : Str} {st : Stmt} {f : Addr} {oc : Value} {od an : Option Addr} {osl : Array (Option Value)} {kV doc pm cdv ct : Value} (l : K.lookup f = some ⟨oc, od, .func (PySem.W.fnOf x qual (defArgs st) (defBody st) (defScope st) .none kV doc pm an cdv ct), osl⟩)
    (c : PySem.W.codeIn K cdv qual = true) (k : PySem.W.keepIn K (.ref f) = true) : Fun K x qual st f (PySem.W.fnOf x qual (defArgs st) (defBody st) (defScope st) .none kV doc pm an cdv ct) := ⟨⟨oc, od, kV, doc, pm, an, cdv, ct, osl, rfl, l, c⟩, k⟩
end
theorem small1000 {n : Nat} (h : n ≤ 1000) : n < sizeLine := Nat.lt_of_le_of_lt h (by decide)

section
variable {X : Cx}
theorem pv (i : Nat) {x : Str} {pos : Pos} (hN : X.N[i]? = some x := by rfl) (hv : Vis X.env.scope x := by first | exact Or.inl rfl | exact Or.inr (Or.inl rfl) | exact Or.inr (Or.inr rfl)) (hd : (x == ("__debug__" : Str)) = false := by decide)
    (hcd : (x == ("__classdict__" : Str)) = false := by decide) : PE X (.Name x pos) (tVar i) := pe_var hN hv hd hcd
end

theorem iteF {A B : Prop} (h : B) : if false = true then A else B := by
  rw [if_neg Bool.false_ne_true]
  exact h
theorem iteT {A B : Prop} (h : A) : if true = true then A else B := by
  rw [if_pos rfl]
  exact h
theorem ite2 {c A B : Prop} [Decidable c] (h1 : c → A) (h2 : ¬ c → B) : if c then A else B := by
  by_cases h : c
  · rw [if_pos h]
    exact h1 h
  · rw [if_neg h]
    exact h2 h
def Same (H H' : Hp) : Prop := ∀ b o, H b = some o → H' b = some o
theorem Same.refl (H : Hp) : Same H H := fun _ _ h => h
theorem Same.trans {H H1 H2 : Hp} (a : Same H H1) (b : Same H1 H2) : Same H H2 := fun c o h => b c o (a c o h)
theorem Same.free {H H' : Hp} (e : Same H H') {l : Addr} (h : H' l = Option.none) : H l = Option.none := by
  cases q : H l with
  | none => rfl
  | some o =>
    rw [e l o q] at h
    cases h
theorem Same.seq {K : PySem.W.Frag} {H H' : Hp} {a : Addr} {xs : List V} (e : Same H H') (h : SqL K H a xs) : SqL K H' a xs := by
  rcases h with (h | ⟨o, h⟩) | h
  · exact .inl (.inl (e _ _ h))
  · exact .inl (.inr ⟨o, e _ _ h⟩)
  · exact .inr h

end L2
set_option Elab.async false
set_option linter.all false
set_option maxRecDepth 100000
namespace L2
open PySem PySem.Spec PyProof.Rows

section
variable {prog : Program} {w : World} {A : Around} {R : Result → Shared → Prop} {s : Shared}
theorem compLoop_any {elt target iter : Expr} {ifs : List Expr} {scope : Scope} {pos : Pos} {it acc : Value} {env : Env} (I : Nat → Shared → Prop)
    (turn : ∀ n s, I n s → wpAny (model prog w) A (pyNext it) (fun r s₁ => match r with
      | none => R (.ok .next) s₁
      | some v => wpAny (model prog w) A (letOwnedTupleGo target it v) (fun _ s₀ => wpAny (model prog w) A (assign target env v) (fun _ s₂ =>
          wpAny (model prog w) A (forIn ifs true fun c r => if r = true then do let ok ← isTrue c env (eval c env); pure (ForInStep.yield ok) else pure (ForInStep.yield r)) (fun ok s₃ =>
            if ok = true then wpAny (model prog w) A (eval elt env) (fun x s₄ =>
              wpAny (model prog w) A (call (.builtin "list.append") [acc, x]) (fun _ s₅ => ∃ m, m < n ∧ I m s₅) (fun _ _ => False) s₄) (fun _ _ => False) s₃
            else ∃ m, m < n ∧ I m s₃) (fun _ _ => False) s₂) (fun _ _ => False) s₀) (fun _ _ => False) s₁) (fun _ _ => False) s)
    (n : Nat) (h : I n s) :
    codeAny (model prog w) A (.compLoop (.ListComp elt [⟨target, iter, ifs, 0⟩] scope pos) 0 it acc env) R s := by
  refine codeAny_loop rfl I (fun n s hI => ?_) n h
  show wpAny _ A ((compTurn (.ListComp elt [⟨target, iter, ifs, 0⟩] scope pos) 0 it acc env).onRaise (fun x => do noteFrame x env; theTreesLotGoes x)) _ _ s
  refine wpAny_noted ?_
  rw [compTurn_list]
  have no : ∀ {X : Prop}, ∀ (e : Value) (s' : Shared), (fun _ _ => False : Value → Shared → Prop) e s' → X := fun _ _ z => False.elim z
  refine wpAny_bind (wpAny_standAt (wpAny_bind (wpAny_mono (turn n s hI) (fun r s₁ h₁ => ?_) fun e s' => no e s')))
  cases r with
  | none => exact wpAny_pure h₁
  | some v =>
    refine wpAny_bind (wpAny_mono h₁ (fun _ s₀ h₀ => ?_) fun e s' => no e s')
    refine wpAny_bind (wpAny_mono h₀ (fun _ s₂ h₂ => wpAny_bind (wpAny_mono h₂ (fun ok s₃ h₃ => ?_) fun e s' => no e s')) fun e s' => no e s')
    cases ok with
    | false => exact wpAny_pure ⟨rfl, h₃⟩
    | true =>
      exact wpAny_bind (wpAny_bind (wpAny_mono h₃ (fun x s₄ h₄ => wpAny_bind (wpAny_mono h₄ (fun _ s₅ h₅ => wpAny_pure (wpAny_pure ⟨rfl, h₅⟩)) fun e s' => no e s')) fun e s' => no e s'))
end

def cxComp (X : Cx) (NB : List Str) (scope : Scope) (s3 : Shared) (H3 : Hp) (fp : List Addr) : Cx :=
  { X with N := NB, s₀ := s3, H₀ := H3, env := compEnv scope s3.heap.objs.size X.env, outer := X.stack, stack := X.stack, ex := fp, fn := fun _ => true, pn := [], xe := fun _ _ => False }

def PTs (X : Cx) (ifs : List Expr) (t : TT) : Prop :=
  ∀ (pins : List (Addr × Obj)) (s : Shared) (σ : St) (H : Hp) (Q : Bool → Hp → Prop), Inv X pins σ H s → t σ H Q →
    wpAny (model X.prog X.w) X.A (forIn ifs true fun c r => if r = true then do let ok ← isTrue c X.env (eval c X.env); pure (ForInStep.yield ok) else pure (ForInStep.yield r)) (TP X pins σ Q) X.xe s
theorem pts_nil {X : Cx} : PTs X [] (fun _ H Q => Q true H) := fun _ _ _ H _ I h => wpAny_tests_nil ⟨H, I, h⟩
def tComp (n : Nat) (wi : TI) (g : TG) (tt : TT) (te : TE) : TE := fun σ H Q => wi σ H fun J H1 => ∀ D, H1 D = none → ∃ W : Nat → Nat → Hp → List V → Prop, (∃ m, W 0 m (upd H1 D (.lst [])) []) ∧
  ∀ i m H2 ys, W i m H2 ys → H2 D = some (.lst ys) → (J.stop i H2 ∧ Q (.ref D) H2) ∨
    (J.go i H2 ∧ ∀ σB x H3, σB.length = n → J.yld i H2 x H3 → g x σB H3 fun σ4 H4 => tt σ4 H4 fun b H5 => if b = true then te σ4 H5 (fun v H6 => H6 D = some (.lst ys) ∧ ys.length < sizeLine ∧ ∃ m', m' < m ∧ W (i + 1) m' (upd H6 D (.lst (ys ++ [v]))) (ys ++ [v]))
      else H5 D = some (.lst ys) ∧ ∃ m', m' < m ∧ W (i + 1) m' H5 ys)


theorem pe_comp {X : Cx} {elt tg iter : Expr} {ifs : List Expr} {scope : Scope} {pos : Pos} {NB : List Str} {wi : TI} {g : TG} {tt : TT} {te : TE}
    (hc : X.calm = true) (hfree : ∀ x ∈ scope.names, x.2 ≠ .free) (hcell : ∀ x ∈ scope.names, x.2 ≠ .cell) (hkind : scope.kind = .function) (hnames : ∀ x ∈ scope.names, x.2 = .local → scope.names.lookup x.1 = some .local)
    (hi : PI X tg iter wi) (hb : ∀ s3 H3 fp, PG (cxComp X NB scope s3 H3 fp) tg g ∧ PTs (cxComp X NB scope s3 H3 fp) ifs tt ∧ PE (cxComp X NB scope s3 H3 fp) elt te)
    (hs : ∀ x, foldedSetIterable iter X.env x = pure x := by intro _; rfl) :
    PE X (.ListComp elt [⟨tg, iter, ifs, 0⟩] scope pos) (tComp NB.length wi g tt te) := by
  intro pins s σ H Q I h
  refine wpAny_ListComp hfree hkind hnames (thn (hi pins s σ H _ I h) fun v s1 h1 => thn h1 fun itv s2 h2 => ?_) hs
  obtain ⟨it, fp, tn, J, H2, e, I2, T, st2, f2, q2⟩ := h2
  subst e
  have hf2 : H2 s2.heap.objs.size = none := I2.hok.fresh (Nat.le_refl _)
  obtain ⟨W, ⟨m0, w0⟩, turn⟩ := q2 _ hf2
  refine wpAny_newObj_type (hd := by size_fits) ?_
  have I3 : Inv X pins σ (upd H2 s2.heap.objs.size (.lst [])) { s2 with heap := s2.heap.push { cls := .type "list", dict := none, data := .seq ([] : List Value).toArray } } :=
    I2.laid (t' := s2.toks) (fun b u e => Heap.get?_push_of_some _ e) (Nat.le_refl _) ⟨by decide, [], 0, .nil, Heap.get?_push_size _ rfl⟩
  generalize hD : s2.heap.objs.size = D at *
  generalize hs3 : ({ s2 with heap := s2.heap.push { cls := .type "list", dict := none, data := .seq ([] : List Value).toArray } } : Shared) = s3 at *
  generalize hH3 : upd H2 D (.lst []) = H3 at *
  have h3D : H3 D = some (.lst []) := by rw [← hH3]; exact upd_same
  have fpD : ∀ b ∈ fp, b ≠ D := fun b hb => by
    obtain ⟨o, e, _⟩ := T.obj _ _ st2 b hb
    rw [← hD]; exact Nat.ne_of_lt (Heap.lt_size e)
  have k23 : ∀ b u, s2.heap.get? b = some u → s3.heap.get? b = some u := fun b u e => by rw [← hs3]; exact Heap.get?_push_of_some _ e
  have st3 : tn 0 s3.heap := T.keep _ _ _ st2 fun b _ o e => k23 b o e
  have f3 : ∀ b ∈ fp, FpOk X pins H3 b := fun b hb => ⟨by rw [← hH3, upd_ne (fpD b hb)]; exact (f2 b hb).1, (f2 b hb).2⟩
  refine wpAny_newFunctionEnv hcell (by intro y hy; simp at hy) (fun h4 hns4 hsb4 => ?_) hkind
  have k34 : ∀ b u, s3.heap.get? b = some u → h4.get? b = some u := fun b u e => hsb4.extBut b u (Nat.ne_of_lt (Heap.lt_size e)) (Heap.get?_push_of_some _ e)
  have okB : (cxComp X NB scope s3 H3 fp).Ok := by
    refine ⟨I3.ok.mod, hkind, I3.ok.glob, I3.ok.blt, Nat.le_refl _, fun x y c e _ => ?_, fun x e => ?_, fun x c _ e => ?_, I3.ok.hd, I3.ok.frames, .inl rfl, fun b hb => ⟨?_, fun x c e => ?_⟩, I3.bs, Nat.le_trans I3.ok.bsz I3.sz, fun b o e hb => ?_, fun b hb z => ?_, I3.stack, I3.stkFree⟩
    · exact absurd (show ([] : List (Str × Addr)).lookup x = some c from e) (by simp)
    · have e' : scope.names.lookup x = some .cell ∨ scope.names.lookup x = some .free := e
      rcases e' with e' | e'
      · exact absurd rfl (hcell _ (PySem.mem_of_lookup e'))
      · exact absurd rfl (hfree _ (PySem.mem_of_lookup e'))
    · exact absurd (show ([] : List (Str × Addr)).lookup x = some c from e) (by simp)
    · obtain ⟨o, e, _⟩ := T.obj _ _ st3 b hb
      exact Nat.ne_of_lt (Heap.lt_size e)
    · exact absurd (show ([] : List (Str × Addr)).lookup x = some c from e) (by simp)
    · obtain ⟨_, _, _, z, _⟩ := f3 b hb
      rcases z with z | z
      · exact I3.ok.noex b o e z
      · exact absurd (Nat.lt_of_lt_of_le (Heap.lt_size e) (Nat.le_trans I3.ok.bsz z)) (Nat.lt_irrefl _)
    · obtain ⟨_, z1, z2, _⟩ := f3 b hb
      rcases List.mem_cons.mp (I3.stkSub b z) with e | e
      · exact z1 e
      · exact z2 e
  have IB : Inv (cxComp X NB scope s3 H3 fp) [] (List.replicate NB.length none) H3 { s3 with heap := h4, toks := s3.toks + ([] : List (Str × Value)).length } := by
    refine ⟨okB, rfl, I3.bare, Un.kept k34, ⟨_, hns4, fun i x v _ e _ => ?_⟩, fun x c e => ?_, I3.hok.fresh (Nat.le_refl _), fun x c e => ?_, fun p hp => ?_, I3.hok.kept k34, by simp [cxComp]⟩
    · rw [List.getElem?_replicate] at e
      split at e <;> cases e
    · exact absurd (show ([] : List (Str × Addr)).lookup x = some c from e) (by simp)
    · exact absurd (show ([] : List (Str × Addr)).lookup x = some c from e) (by simp)
    · exact absurd (show p ∈ ([] : List (Addr × Obj)) from hp) (by simp)
  have st4 : tn 0 h4 := T.keep _ _ _ st3 fun b _ o e => k34 b o e
  have C_ne : ∀ b ∈ fp, b ≠ s3.heap.objs.size := fun b hb => (okB.exf b hb).1
  -- what stays true of the iterator's objects
  have stat : ∀ {H' : Hp}, (∀ b ∈ fp, H' b = none) → ∀ b ∈ fp, FpOk (cxComp X NB scope s3 H3 fp) [] H' b := fun hn b hb =>
    ⟨hn b hb, C_ne b hb, okB.exfs b hb, .inl hb, fun x c e => absurd (show ([] : List (Str × Addr)).lookup x = some c from e) (by simp), fun p hp => absurd (show p ∈ ([] : List (Addr × Obj)) from hp) (by simp)⟩
  obtain ⟨hg, ht, he⟩ := hb s3 H3 fp
  have fin : ∀ {σ' : St} {H' : Hp} {s' : Shared}, Inv (cxComp X NB scope s3 H3 fp) [] σ' H' s' → Q (.ref D) H' →
      ∃ m, s'.heap.Ns s3.heap.objs.size m ∧ ∀ h', Heap.SameBut s3.heap.objs.size s'.heap h' → EP X pins σ Q (.ref D) { s' with heap := h' } := fun {σ' H' s'} J q => by
    obtain ⟨m, hm, _⟩ := J.loc
    refine ⟨m, hm, fun h' sb => ⟨.ref D, H', ?_, rfl, q⟩⟩
    have neC : ∀ b o, s3.heap.get? b = some o → b ≠ s3.heap.objs.size := fun b o e => Nat.ne_of_lt (Heap.lt_size e)
    have hfr : H' s3.heap.objs.size = none := J.free
    have up : ∀ b o, b ≠ s3.heap.objs.size → s'.heap.get? b = some o → h'.get? b = some o := fun b o hb e => (sb.2 b hb).trans e
    have hok' : HOk X.prog X.w H' h' := fun b ob e => (J.hok b ob e).stay (fun c w' hc q => up c w' (by
      rintro rfl
      rcases hc with rfl | hc
      · rw [hfr] at e; cases e
      · rw [hfr] at hc; cases hc) q) (fun _ q => q) fun _ _ q => q
    have u : Un (frs X.stack) fp H3 H' s3.heap h' :=
      ⟨fun b o e n hb hx => up b o (neC b o e) (J.base.keep b o e n hb hx), fun b o e n hb hx => by
        obtain ⟨sl, e'⟩ := J.base.slot b o e n hb hx
        exact ⟨sl, up b _ (neC b o e) e'⟩, J.base.free, fun b o e hx => by
        obtain ⟨o', e'⟩ := J.base.there b o e hx
        exact ⟨o', up b _ (neC b o e) e'⟩, J.base.tups, J.base.frzs, J.base.tbls⟩
    refine I3.call' (s' := { s' with heap := h' }) (ch := fp) J.os u hok' J.bare fun b hb => ?_
    obtain ⟨z0, z1, z2, z3, z4, z5⟩ := f3 b hb
    exact ⟨z3, z1, z4, z5⟩
  have loop : ∀ s5 : Shared, s5 = { s3 with heap := h4, toks := s3.toks + ([] : List (Str × Value)).length } →
      codeAny (model X.prog X.w) X.A (.compLoop (.ListComp elt [⟨tg, iter, ifs, 0⟩] scope pos) 0 (.ref it) (.ref D) (compEnv scope s3.heap.objs.size X.env))
        (fun r s' => ∃ m, s'.heap.Ns s3.heap.objs.size m ∧ ∀ h', Heap.SameBut s3.heap.objs.size s'.heap h' →
          match r with | .ok _ => EP X pins σ Q (.ref D) { s' with heap := h' } | .error x => wpAny (model X.prog X.w) X.A (passOn "comprehension.variables-let-go" x (compEnv scope s3.heap.objs.size X.env)) (EP X pins σ Q) X.xe { s' with heap := h' }) s5 := by
    rintro s5 rfl
    refine compLoop_any (fun n s' => ∃ i σ' H' ys, Inv (cxComp X NB scope s3 H3 fp) [] σ' H' s' ∧ tn i s'.heap ∧ (∀ b ∈ fp, H' b = none) ∧ H' D = some (.lst ys) ∧ W i n H' ys) ?_ m0
      ⟨0, _, H3, [], IB, st4, fun b hb => (f3 b hb).1, h3D, by rw [← hH3] at *; exact w0⟩
    rintro n s6 ⟨i, σ6, H6, ys, I6, st6, fr6, hD6, w6⟩
    rcases turn i n H6 ys w6 hD6 with ⟨stop, qn⟩ | ⟨go, step⟩
    · refine thn (T.done (cxComp X NB scope s3 H3 fp) rfl rfl rfl hc i [] s6 σ6 H6 _ I6 (stat fr6) st6 stop) fun r s7 ⟨hr, I7⟩ => ?_
      subst hr
      exact fin I7 qn
    · refine thn (T.item (cxComp X NB scope s3 H3 fp) rfl rfl rfl hc i [] s6 σ6 H6 _ I6 (stat fr6) st6 go) fun r s7 ⟨u, hr, h7⟩ => ?_
      subst hr
      refine thn h7 fun _ s8 ⟨x, H8, I8, r8, y8, st8, fr8⟩ => ?_
      have I8' := I8.pinned (stat fr8) (T.obj _ _ st8)
      have again : ∀ {σ9 : St} {H9 : Hp} {s9 : Shared} {zs : List V} {m' : Nat}, Inv (cxComp X NB scope s3 H3 fp) ([] ++ pinsAt fp s8.heap) σ9 H9 s9 → H9 D = some (.lst zs) → m' < n → W (i + 1) m' H9 zs →
          ∃ m, m < n ∧ ∃ i σ' H' ys, Inv (cxComp X NB scope s3 H3 fp) [] σ' H' s9 ∧ tn i s9.heap ∧ (∀ b ∈ fp, H' b = none) ∧ H' D = some (.lst ys) ∧ W i m H' ys := fun {σ9 H9 s9 zs m'} I9 hz hm w9 => by
        refine ⟨m', hm, i + 1, σ9, H9, zs, I9.unpinned, T.keep _ _ _ st8 fun b hb o e => (I9.pin (b, o) (List.mem_append_right _ (List.mem_append_right _ (mem_pinsAt hb e)))).1, fun b hb => ?_, hz, w9⟩
        obtain ⟨o, e, d⟩ := T.obj _ _ st8 b hb
        exact (I9.pin (b, o) (List.mem_append_right _ (List.mem_append_right _ (mem_pinsAt hb e)))).2.1
      refine thn (hg _ s8 σ6 H8 x u _ I8' r8 (step σ6 x H8 I6.len y8)) fun _ s9 ⟨σ9, H9, I9, q9⟩ => ?_
      refine thn (ht _ s9 σ9 H9 _ I9 q9) fun ok s10 ⟨H10, I10, q10⟩ => ?_
      cases ok with
      | false =>
        rw [if_neg (by decide)] at q10 ⊢
        obtain ⟨hz, m', hm, w'⟩ := q10
        exact again I10 hz hm w'
      | true =>
        rw [if_pos rfl] at q10 ⊢
        refine thn (he _ s10 σ9 H10 _ I10 q10) fun y s11 ⟨v, H11, I11, r11, hz, hlen, m', hm, w'⟩ => ?_
        refine thn (mt_append _ s11 σ9 H11 (.ref D) [v] (.ref D) [y] (fun _ H12 => H12 = upd H11 D (.lst (ys ++ [v]))) I11 rfl (.cons r11 .nil) ⟨D, ys, v, rfl, rfl, hz, hlen, rfl⟩) fun _ s12 ⟨_, H12, I12, _, e12⟩ => ?_
        subst e12
        exact again I12 upd_same hm w'
  exact codeAny_compStart_list (loop _ rfl) (T.self X.A 0 _ _ _ st4 (loop _ rfl))
end L2
set_option Elab.async false
set_option linter.all false
set_option maxRecDepth 100000
namespace L2
open PySem PySem.Spec PyProof.Rows

mutual
inductive RdD (H : Hp) : V → PyData → Prop
  | non : RdD H .non .none
  | bl (b : Bool) : RdD H (.bl b) (.bool b)
  | int (i : Int) : RdD H (.int i) (.int i)
  | str (x : Str) : RdD H (.str x) (.str x)
  | tup {a : Addr} {xs : List V} {ds : List PyData} : H a = some (.tup xs) → RdDs H xs ds → RdD H (.ref a) (.tuple ds)
  | lst {a : Addr} {xs : List V} {ds : List PyData} : H a = some (.lst xs) → RdDs H xs ds → RdD H (.ref a) (.list ds)
inductive RdDs (H : Hp) : List V → List PyData → Prop
  | nil : RdDs H [] []
  | cons {x : V} {d : PyData} {xs : List V} {ds : List PyData} : RdD H x d → RdDs H xs ds → RdDs H (x :: xs) (d :: ds)
end
section
variable {X : Cx} {pins : List (Addr × Obj)} {σ : St} {H : Hp} {s : Shared}
mutual
theorem RdD.reads (I : Inv X pins σ H s) : ∀ {x : V} {d : PyData}, RdD H x d → ∀ {u : Value}, RelV x u → ∃ as, Reads s.heap u d as
  | _, _, .non, u, r => by cases (show u = Value.none from r); exact ⟨_, .none⟩
  | _, _, .bl b, u, r => by cases (show u = Value.bool b from r); exact ⟨_, .bool b⟩
  | _, _, .int i, u, r => by obtain ⟨t, e⟩ := (show ∃ t, u = Value.int i t from r); subst e; exact ⟨_, .int i t⟩
  | _, _, .str x, u, r => by obtain ⟨t, e⟩ := (show ∃ t, u = Value.str x t from r); subst e; exact ⟨_, .str x t⟩
  | _, _, @RdD.tup _ a xs ds e h, u, r => by
    cases (show u = Value.ref a from r)
    obtain ⟨_, its, rv, o, h1, h2, n, h3⟩ := (show ObjOk X.prog X.w H s.heap a (.tup xs) from I.hok a _ e)
    obtain ⟨as, ra⟩ := RdDs.reads I h rv
    exact ⟨_, .tuple h1 h2 h3 (by simpa using ra)⟩
  | _, _, @RdD.lst _ a xs ds e h, u, r => by
    cases (show u = Value.ref a from r)
    obtain ⟨_, its, n, rv, h1⟩ := (show ObjOk X.prog X.w H s.heap a (.lst xs) from I.hok a _ e)
    obtain ⟨as, ra⟩ := RdDs.reads I h rv
    exact ⟨_, .list h1 rfl rfl (by simpa using ra)⟩
theorem RdDs.reads (I : Inv X pins σ H s) : ∀ {xs : List V} {ds : List PyData}, RdDs H xs ds → ∀ {us : List Value}, Vals xs us → ∃ as, ReadsAll s.heap us ds as
  | _, _, .nil, us, r => by cases r; exact ⟨_, .nil⟩
  | _, _, .cons h t, us, r => by
    cases r with
    | cons r1 r2 =>
      obtain ⟨a1, q1⟩ := RdD.reads I h r1
      obtain ⟨a2, q2⟩ := RdDs.reads I t r2
      exact ⟨_, .cons q1 q2⟩
end
end
def rEqD : R2 := fun x y H Q => ∃ d e, RdD H x d ∧ RdD H y e ∧ SeqAt.shaped d = true ∧ SeqAt.shaped e = true ∧ Q (.bl (PyData.eqv d e)) H
def rNeD : R2 := fun x y H Q => ∃ d e, RdD H x d ∧ RdD H y e ∧ SeqAt.shaped d = true ∧ SeqAt.shaped e = true ∧ Q (.bl (!PyData.eqv d e)) H
section
variable {X : Cx}
theorem op_eqD (hu : X.A.units + 64 < cLine) : OpR X (compareOp .Eq) rEqD := by
  intro pins s σ H x y v u Q I rx ry h
  obtain ⟨d, e, hd, he, s1, s2, q⟩ := h
  obtain ⟨as, r1⟩ := hd.reads I rx
  obtain ⟨bs, r2⟩ := he.reads I ry
  exact eq_dataH r1 r2 s1 s2 hu ⟨.bl _, H, I, rfl, q⟩
theorem op_neD (hu : X.A.units + 64 < cLine) : OpR X (compareOp .NotEq) rNeD := by
  intro pins s σ H x y v u Q I rx ry h
  obtain ⟨d, e, hd, he, s1, s2, q⟩ := h
  obtain ⟨as, r1⟩ := hd.reads I rx
  obtain ⟨bs, r2⟩ := he.reads I ry
  exact ne_dataH r1 r2 s1 s2 hu ⟨.bl _, H, I, rfl, q⟩

def Bd (n : Nat) (i : Int) : Prop := i.natAbs < 2 ^ n
theorem Bd.mono {m n : Nat} {i : Int} (h : Bd m i) (l : m ≤ n) : Bd n i := Nat.lt_of_lt_of_le h (Nat.pow_le_pow_right (by decide) l)
theorem Bd.bits {n : Nat} {i : Int} (h : Bd n i) : Builtin.Int.intBits i ≤ n := intBits_le_iff.mpr h
theorem Bd.of_bits {n : Nat} {i : Int} (h : Builtin.Int.intBits i ≤ n) : Bd n i := intBits_le_iff.mp h
theorem Bd.mul {m n : Nat} {i j : Int} (h : Bd m i) (k : Bd n j) : Bd (m + n) (i * j) := .of_bits (intBits_mul_le h.bits k.bits)
theorem Bd.add {m n : Nat} {i j : Int} (h : Bd m i) (k : Bd n j) : Bd (max m n + 1) (i + j) := .of_bits (intBits_add_le h.bits k.bits)
theorem Bd.neg {n : Nat} {i : Int} (h : Bd n i) : Bd n (-i) := by unfold Bd; rw [Int.natAbs_neg]; exact h
theorem Bd.sub {m n : Nat} {i j : Int} (h : Bd m i) (k : Bd n j) : Bd (max m n + 1) (i - j) := by rw [Int.sub_eq_add_neg]; exact h.add k.neg
def CMulB (i j : Int) : Prop := Bd 1000000 i ∧ Bd 1000000 j
theorem op_mulB : OpR X (binaryOp .Mult) (rI CMulB fun i j => .int (i * j)) := opI fun _ _ _ _ _ _ _ hc q => mul_int q (IntMulOk.of_le hc.1.bits hc.2.bits (by decide))
def CDivB (i j : Int) : Prop := j ≠ 0 ∧ Bd 8900 j
theorem op_fdivB : OpR X (binaryOp .FloorDiv) (rI CDivB fun i j => .int (i.fdiv j)) := opI fun _ j _ _ _ _ _ hc q => floordiv_int hc.1 q (.inl (PyProof.noPylong_of_log2 (by
  have h1 : j.natAbs ≠ 0 := fun z => hc.1 (Int.natAbs_eq_zero.mp z)
  have h2 : j.natAbs < 2 ^ 9000 := Nat.lt_of_lt_of_le hc.2 (Nat.pow_le_pow_right (by decide) (by decide))
  exact (Nat.log2_lt h1).mpr h2)))

theorem call_isinst : CallR X (.builtin "isinstance") (fun xs H Q => ∃ x t n b, xs = [x, .ty n] ∧ TyOf X.K H x t ∧ PySem.W.kitOne X.K t (.type n) = some b ∧ Q (.bl b) H) := by
  intro pins s σ H xs us Q I r h
  obtain ⟨x, t, n, b, rfl, ty, e, q⟩ := h
  obtain ⟨u, w', rfl, r1, r2⟩ := vals2 r
  cases (show w' = Value.type n from r2)
  exact isinst_ok I r1 ty e fun tk => ⟨.bl b, H, I.tok tk, rfl, q⟩
end
end L2
set_option Elab.async false
set_option linter.all false
set_option maxRecDepth 100000
namespace HT
open PySem PySem.Spec PyProof.Rows L2
section
variable {prog : Program} {w : World} {A : Around} {E : Value → Shared → Prop} {s : Shared}
end
end HT
namespace L2
open PySem PySem.Spec PyProof.Rows
section
variable {X : Cx} {e st : Expr} {te : TE} {pos p2 : Pos}
theorem Vals.rev : ∀ {xs : List V} {us : List Value}, Vals xs us → Vals xs.reverse us.reverse
  | _, _, .nil => .nil
  | _, _, .cons r t => by rw [List.reverse_cons, List.reverse_cons]; exact (Vals.rev t).append (.cons r .nil)
end
end L2
namespace KM
theorem gcd_step {a b : Int} (ha : 0 ≤ a) (hb : 0 < b) : Int.gcd b (a % b) = Int.gcd a b := by
  obtain ⟨m, rfl⟩ := Int.eq_ofNat_of_zero_le ha
  obtain ⟨n, rfl⟩ := Int.eq_ofNat_of_zero_le (Int.le_of_lt hb)
  rw [← Int.natCast_emod, Int.gcd_comm (m : Int)]
  show Nat.gcd n (m % n) = Nat.gcd n m
  rw [Nat.gcd_comm n (m % n)]
  exact (Nat.gcd_rec n m).symm
theorem den_ne (q : Rat) : (q.den : Int) ≠ 0 := by have := q.den_nz; omega
theorem den_pos (q : Rat) : (0 : Int) < q.den := by have := q.den_nz; omega
def dv (t b : Int) : Int := if b < 0 then -(Int.gcd t b : Int) else (Int.gcd t b : Int)
theorem gcd_pos {t b : Int} (hb : b ≠ 0) : 0 < Int.gcd t b := Int.gcd_pos_of_ne_zero_right _ hb
theorem dv_ne {t b : Int} (hb : b ≠ 0) : dv t b ≠ 0 := by
  have := gcd_pos (t := t) hb
  unfold dv; split <;> omega
theorem dv_abs {t b : Int} : (dv t b).natAbs = Int.gcd t b := by
  unfold dv; split <;> omega
theorem dv_le {t b : Int} (hb : b ≠ 0) : (dv t b).natAbs ≤ b.natAbs := by
  rw [dv_abs]; exact Nat.le_of_dvd (by omega) (Int.gcd_dvd_natAbs_right t b)
theorem dv_num {t b : Int} (hb : b ≠ 0) : t.fdiv (dv t b) = (Rat.divInt t b).num := by
  rw [Rat.num_divInt, Int.gcd_comm b t]
  have h1 : ((Int.gcd t b : Nat) : Int) ∣ t := Int.gcd_dvd_left ..
  unfold dv
  split
  · rename_i h
    rw [Int.fdiv_eq_ediv_of_dvd (Int.neg_dvd.mpr h1), Int.ediv_neg, Int.sign_eq_neg_one_of_neg h]
    rw [show (-1 * t) = -t by omega, Int.neg_ediv_of_dvd h1]
  · rename_i h
    rw [Int.fdiv_eq_ediv_of_dvd h1, Int.sign_eq_one_of_pos (by omega), Int.one_mul]
theorem dv_den {t b : Int} (hb : b ≠ 0) : b.fdiv (dv t b) = ((Rat.divInt t b).den : Int) := by
  rw [Rat.den_divInt, if_neg hb, Int.gcd_comm b t]
  have h1 : ((Int.gcd t b : Nat) : Int) ∣ b := Int.gcd_dvd_right ..
  have h2 : Int.gcd t b ∣ b.natAbs := Int.gcd_dvd_natAbs_right t b
  unfold dv
  split
  · rename_i h
    rw [Int.fdiv_eq_ediv_of_dvd (Int.neg_dvd.mpr h1), Int.ediv_neg]
    rw [Int.natCast_ediv, show ((b.natAbs : Nat) : Int) = -b by omega, Int.neg_ediv_of_dvd h1]
  · rename_i h
    rw [Int.fdiv_eq_ediv_of_dvd h1, Int.natCast_ediv, show ((b.natAbs : Nat) : Int) = b by omega]
theorem num_le {t b : Int} (hb : b ≠ 0) : (Rat.divInt t b).num.natAbs ≤ t.natAbs := by
  rw [← dv_num hb]
  have : t.fdiv (dv t b) ∣ t := by
    have h1 : dv t b ∣ t := by
      unfold dv; split
      · exact Int.neg_dvd.mpr (Int.gcd_dvd_left ..)
      · exact Int.gcd_dvd_left ..
    obtain ⟨c, hc⟩ := h1
    rw [Int.fdiv_eq_ediv_of_dvd ⟨c, hc⟩]
    refine ⟨dv t b, ?_⟩
    exact (Int.ediv_mul_cancel ⟨c, hc⟩).symm
  by_cases h0 : t = 0
  · subst h0; simp
  · exact Nat.le_of_dvd (by omega) (Int.natAbs_dvd_natAbs.mpr this)
theorem den_le {t b : Int} (hb : b ≠ 0) : (Rat.divInt t b).den ≤ b.natAbs := by
  rw [Rat.den_divInt, if_neg hb]; exact Nat.div_le_self _ _

theorem plus_eq (a b : Rat) : Rat.divInt (a.num * b.den + b.num * a.den) (a.den * b.den) = a + b := by
  rw [Rat.add_def', ← Rat.divInt_ofNat]; simp
theorem times_eq (a b : Rat) : Rat.divInt (a.num * b.num) (a.den * b.den) = a * b := by
  rw [Rat.mul_def', ← Rat.divInt_ofNat]; simp
theorem over_eq (a b : Rat) : Rat.divInt (a.num * b.den) (a.den * b.num) = a / b := by
  rw [Rat.div_def, Rat.inv_def, ← Rat.divInt_mul_divInt, Rat.num_divInt_den]
theorem less_iff (a b : Rat) : a.num * b.den < b.num * a.den ↔ a < b := (Rat.lt_iff a b).symm
theorem int_num (n : Int) : (n : Rat).num = n := Rat.num_intCast n
theorem int_den (n : Int) : (n : Rat).den = 1 := Rat.den_intCast n

structure Ball where
  pl : Rat
  sp : Rat
  wt : Int
def ws (f : Ball → Rat) (l : List Ball) : Rat := l.foldl (fun acc b => acc + (b.wt : Rat) * f b) 0
end KM
set_option Elab.async false
set_option linter.all false
set_option maxRecDepth 100000
namespace L2
open PySem PySem.Spec PyProof.Rows

structure Cal (P : Program) (w : World) (K : PySem.W.Frag) (mg : Str → Option Value) (base : Heap) (x : Str) (k : Nat) (ps : List Str) (dvs : List V) (sp : Sp) : Prop where
  ex : ∃ f fd ds, FnOk P w K mg base CX0 k f fd ps sp ∧ mg x = some (.ref f) ∧ PySem.W.keepIn K (.ref f) = true ∧ Binds K fd ps ds ∧ Vals dvs ds
theorem Cal.mono {P : Program} {w : World} {K : PySem.W.Frag} {mg : Str → Option Value} {base : Heap} {x : Str} {j k : Nat} {ps : List Str} {dvs : List V} {sp : Sp} (c : Cal P w K mg base x j ps dvs sp) (h : j ≤ k) : Cal P w K mg base x k ps dvs sp := by
  obtain ⟨f, fd, ds, F, r⟩ := c.ex
  exact ⟨⟨f, fd, ds, F.mono h, r⟩⟩
theorem pe_c {X : Cx} {x : Str} {k : Nat} {ps : List Str} {dvs : List V} {sp : Sp} {p pos : Pos} {e : Expr} {es : List Expr} {t : TA}
    (c : Cal X.prog X.w X.K X.mg X.base x k ps dvs sp) (hr : Room k X.A) (ha : PA X (e :: es) t) (hg : Gl X x := by rfl) (hdb : (x == ("__debug__" : Str)) = false := by decide)
    (he : starEach (e :: es) X.env = (false, eval e X.env) :: starEach es X.env := by rfl) (hpl : (backTo pos (starEach es X.env)).any (·.1) = false := by rfl) :
    PE X (.Call (.Name x p) (e :: es) [] pos) (tCall sp dvs E0 t) := by
  obtain ⟨f, fd, ds, F, hm, hk, hb, hd⟩ := c.ex
  exact pe_call F hr hg hm hk hb hd pass0 ha hdb he hpl

structure Df (K : PySem.W.Frag) (mg : Str → Option Value) (x : Str) (st : Stmt) (ps : List Str) (dvs : List V) : Prop where
  ex : ∃ (f : Addr) (oc : Value) (od : Option Addr) (dV kV doc pm : Value) (an : Option Addr) (cdv ct : Value) (osl : Array (Option Value)) (ds : List Value),
    K.lookup f = some ⟨oc, od, .func (PySem.W.fnOf x x (defArgs st) (defBody st) (defScope st) dV kV doc pm an cdv ct), osl⟩ ∧ PySem.W.codeIn K cdv x = true ∧ PySem.W.keepIn K (.ref f) = true ∧ mg x = some (.ref f) ∧
    Vals dvs ds ∧ Binds K (PySem.W.fnOf x x (defArgs st) (defBody st) (defScope st) dV kV doc pm an cdv ct) ps ds
section
variable {P : Program} {w : World} {K : PySem.W.Frag} {mg : Str → Option Value} {base : Heap}
theorem Df.cal {x : Str} {st : Stmt} {N ps : List Str} {dvs : List V} {k : Nat} {sp : Sp} (D : Df K mg x st ps dvs) (S : FnScope N ps (defScope st)) (len : ∀ vs H Q E, sp vs H Q E → vs.length = ps.length)
    (hbody : ∀ (f : Addr) (cdv : Value) (A : Around) (outer : List Env) (s : Shared) (H : Hp) (vs : List V) (Q : VK) (E : XK), Room k (A.deeper (envOfC x (defScope st) s.heap.objs.size f cdv)) → sp vs H Q E →
      ∃ t, PSs (cxOf CX0 P w K mg base N x (defScope st) f cdv A outer s H E).nox (defBody st) t ∧ t { nx := fun _ H' => Q .non H', rt := Q } (start N vs) H) : Cal P w K mg base x (k + 1) ps dvs sp := by
  obtain ⟨f, oc, od, dV, kV, doc, pm, an, cdv, ct, osl, ds, lk, hcd, hk, hm, hv, hb⟩ := D.ex
  refine ⟨⟨f, _, ds, fn_of lk hcd S len fun A outer s H vs Q E hr hsp => ?_, hm, hk, hb, hv⟩⟩
  obtain ⟨t, h, q⟩ := hbody f cdv A outer s H vs Q E hr hsp
  exact ⟨t, h.nox, q⟩
theorem df_mk {x : Str} {st : Stmt} {ps : List Str} {f : Addr} {oc : Value} {od an : Option Addr} {osl : Array (Option Value)} {dV kV doc pm cdv ct : Value}
    (l : K.lookup f = some ⟨oc, od, .func (PySem.W.fnOf x x (defArgs st) (defBody st) (defScope st) dV kV doc pm an cdv ct), osl⟩) (c : PySem.W.codeIn K cdv x = true) (k : PySem.W.keepIn K (.ref f) = true) (m : mg x = some (.ref f))
    (hb : ∀ us : List Value, us.length = ps.length → bindArgs (PySem.W.fnOf x x (defArgs st) (defBody st) (defScope st) dV kV doc pm an cdv ct) ⟨us, []⟩ = pure (ps.zip us)) : Df K mg x st ps [] :=
  ⟨⟨f, oc, od, dV, kV, doc, pm, an, cdv, ct, osl, [], l, c, k, m, .nil, .all hb⟩⟩
end

def rp (q : Rat) : List V := [.int q.num, .int (q.den : Int)]
def RatAt (H : Hp) (p : Addr) (q : Rat) : Prop := H p = some (.tup (rp q))
theorem RatAt.same {H H' : Hp} {p : Addr} {q : Rat} (h : RatAt H p q) (e : Same H H') : RatAt H' p q := e _ _ h
def Sz (n : Nat) (q : Rat) : Prop := Bd n q.num ∧ Bd n (q.den : Int)
theorem Sz.mono {m n : Nat} {q : Rat} (h : Sz m q) (l : m ≤ n) : Sz n q := ⟨h.1.mono l, h.2.mono l⟩
theorem Bd.of_le {n : Nat} {i j : Int} (h : i.natAbs ≤ j.natAbs) (b : Bd n j) : Bd n i := Nat.lt_of_le_of_lt h b
theorem Sz.divInt {n : Nat} {t b : Int} (hb : b ≠ 0) (h1 : Bd n t) (h2 : Bd n b) : Sz n (Rat.divInt t b) :=
  ⟨h1.of_le (KM.num_le hb), h2.of_le (by have := KM.den_le (t := t) hb; omega)⟩
theorem Sz.add {m n : Nat} {x y : Rat} (h : Sz m x) (k : Sz n y) : Sz (m + n + 1) (x + y) := by
  rw [← KM.plus_eq]
  refine .divInt (Int.mul_ne_zero (KM.den_ne x) (KM.den_ne y)) ?_ ((h.2.mul k.2).mono (by omega))
  exact ((h.1.mul k.2).add (k.1.mul h.2)).mono (by omega)
theorem Sz.mul {m n : Nat} {x y : Rat} (h : Sz m x) (k : Sz n y) : Sz (m + n) (x * y) := by
  rw [← KM.times_eq]
  exact .divInt (Int.mul_ne_zero (KM.den_ne x) (KM.den_ne y)) (h.1.mul k.1) (h.2.mul k.2)
theorem Sz.int {n : Nat} {i : Int} (h : Bd n i) (hn : 1 ≤ n) : Sz n (i : Rat) := by
  refine ⟨by rw [KM.int_num]; exact h, ?_⟩
  rw [KM.int_den]
  exact Bd.mono (m := 1) (show (1 : Int).natAbs < 2 ^ 1 by decide) hn
theorem shaped_rp (q : Rat) : SeqAt.shaped (.tuple [.int q.num, .int (q.den : Int)]) = true := rfl
theorem RatAt.rd {H : Hp} {p : Addr} {q : Rat} (h : RatAt H p q) : RdD H (.ref p) (.tuple [.int q.num, .int (q.den : Int)]) := .tup h (.cons (.int _) (.cons (.int _) .nil))
theorem eqv_rp (x y : Rat) : PyData.eqv (.tuple [.int x.num, .int (x.den : Int)]) (.tuple [.int y.num, .int (y.den : Int)]) = decide (x = y) := by
  simp only [PyData.eqv, PyData.eqvAll, Bool.and_true]
  rw [Bool.eq_iff_iff]
  simp only [Bool.and_eq_true, beq_iff_eq, decide_eq_true_eq]
  constructor
  · rintro ⟨h1, h2⟩; exact Rat.ext h1 (by omega)
  · rintro rfl; exact ⟨rfl, rfl⟩

def spLow : Sp := fun vs H Q _ => ∃ t b, vs = [.int t, .int b] ∧ b ≠ 0 ∧ Bd 8900 b ∧ ∀ p H', Same H H' → RatAt H' p (Rat.divInt t b) → Q (.ref p) H'
def spBin (C : Rat → Rat → Prop) (f : Rat → Rat → Rat) : Sp := fun vs H Q _ => ∃ p q x y, vs = [.ref p, .ref q] ∧ RatAt H p x ∧ RatAt H q y ∧ C x y ∧ ∀ r H', Same H H' → RatAt H' r (f x y) → Q (.ref r) H'
def Sz2 (x y : Rat) : Prop := Sz 4000 x ∧ Sz 4000 y
theorem at0 {α : Type} (a b : α) : atI [a, b] 0 = some a := rfl
theorem at1 {α : Type} (a b : α) : atI [a, b] 1 = some b := rfl
theorem Same.upd {H : Hp} {p : Addr} {o : HO} (h : H p = none) : Same H (upd H p o) := fun b u e => by rw [upd_ne (ne_of_none e h)]; exact e
end L2
set_option Elab.async false
set_option linter.all false
set_option maxRecDepth 100000
namespace L2
open PySem PySem.Spec PyProof.Rows

def caps (σ : St) (js : List Nat) : St := js.map fun j => (σ[j]?).getD none
inductive Capt (X : Cx) (scope : Scope) (cl : List (Str × Addr)) : List Str → List Nat → Prop
  | nil : Capt X scope cl [] []
  | cons {x : Str} {j : Nat} {r : List Str} {js : List Nat} : X.N[j]? = some x → X.env.kindOf x = some .cell → (relabel scope X.env).names.lookup x = some .cell → (∃ c, cl.lookup x = some c) → Capt X scope cl r js → Capt X scope cl (x :: r) (j :: js)
section
variable {X : Cx} {scope : Scope} {cl : List (Str × Addr)}
theorem Capt.length : ∀ {r : List Str} {js : List Nat}, Capt X scope cl r js → r.length = js.length
  | _, _, .nil => rfl
  | _, _, .cons _ _ _ _ t => by rw [List.length_cons, List.length_cons, Capt.length t]
theorem Capt.get : ∀ {r : List Str} {js : List Nat} {k : Nat} {x : Str}, Capt X scope cl r js → r[k]? = some x → ∃ j, js[k]? = some j ∧ X.N[j]? = some x ∧ X.env.kindOf x = some .cell ∧ (relabel scope X.env).names.lookup x = some .cell ∧ ∃ c, cl.lookup x = some c
  | _, _, _, _, .nil, e => by simp at e
  | _, _, 0, _, .cons h1 h2 h3 h4 _, e => by
    simp at e; subst e
    exact ⟨_, rfl, h1, h2, h3, h4⟩
  | _, _, k + 1, x, .cons _ _ _ _ t, e => by
    obtain ⟨j, r⟩ := Capt.get (k := k) t (by simpa using e)
    exact ⟨j, by simpa using r⟩
theorem Capt.has {r : List Str} {js : List Nat} (h : Capt X scope cl r js) {x : Str} (hx : x ∈ r) : ∃ c, cl.lookup x = some c := by
  obtain ⟨k, hk⟩ := List.getElem?_of_mem hx
  obtain ⟨_, _, _, _, _, z⟩ := h.get hk
  exact z
end
def cxCompC (X : Cx) (NB FR : List Str) (scope : Scope) (cl : List (Str × Addr)) (s3 : Shared) (H3 : Hp) (fp : List Addr) : Cx :=
  { X with N := NB ++ FR, s₀ := s3, H₀ := H3, env := compEnvC scope cl s3.heap.objs.size X.env, outer := X.stack, stack := X.stack, ex := fp, fn := fun _ => false, pn := [], xe := fun _ _ => False }
def tCompC (n : Nat) (js : List Nat) (wi : TI) (g : TG) (tt : TT) (te : TE) : TE := fun σ H Q => wi σ H fun J H1 => ∀ D, H1 D = none → ∃ W : Nat → Nat → Hp → List V → Prop, (∃ m, W 0 m (upd H1 D (.lst [])) []) ∧
  ∀ i m H2 ys, W i m H2 ys → H2 D = some (.lst ys) → (J.stop i H2 ∧ Q (.ref D) H2) ∨
    (J.go i H2 ∧ ∀ zs x H3, zs.length = n → J.yld i H2 x H3 → g x (zs ++ caps σ js) H3 fun σ4 H4 => σ4.drop n = caps σ js ∧ tt σ4 H4 fun b H5 =>
      if b = true then te σ4 H5 (fun v H6 => H6 D = some (.lst ys) ∧ ys.length < sizeLine ∧ ∃ m', m' < m ∧ W (i + 1) m' (upd H6 D (.lst (ys ++ [v]))) (ys ++ [v]))
      else H5 D = some (.lst ys) ∧ ∃ m', m' < m ∧ W (i + 1) m' H5 ys)

theorem relabel_has {scope : Scope} {env : Env} {FR : List Str} {x : Str} (h : (relabel scope env).names.all (fun y => !(y.2 == .cell || y.2 == .free) || FR.contains y.1) = true)
    (e : (relabel scope env).names.lookup x = some .cell ∨ (relabel scope env).names.lookup x = some .free) : x ∈ FR := by
  have key : ∀ k : NameKind, (k == .cell || k == .free) = true → (x, k) ∈ (relabel scope env).names → x ∈ FR := fun k hk hm => by
    have z := List.all_eq_true.mp h _ hm
    simp only [hk, Bool.not_true, Bool.false_or, List.contains_iff_mem] at z
    exact z
  rcases e with e | e
  · exact key .cell rfl (PySem.mem_of_lookup e)
  · exact key .free rfl (PySem.mem_of_lookup e)

theorem comp_core {X : Cx} {elt tg iter : Expr} {ifs : List Expr} {scope : Scope} {cl : List (Str × Addr)} {pos : Pos} {NB FR : List Str} {js : List Nat} {wi : TI} {g : TG} {tt : TT} {te : TE} {Q : VK} {RR : Value → Addr → Result → Shared → Prop}
    {pins : List (Addr × Obj)} {s : Shared} {σ : St} {H : Hp} (hc : X.calm = true) (hcl : ∀ x c, cl.lookup x = some c → X.env.cells.lookup x = some c) (hcap : Capt X scope cl FR js)
    (hnm : (relabel scope X.env).names.all (fun y => !(y.2 == .cell || y.2 == .free) || FR.contains y.1) = true) (hcell : ∀ x ∈ scope.names, x.2 ≠ .cell) (hkind : scope.kind = .function)
    (hi : PI X tg iter wi) (hb : ∀ s3 H3 fp, PG (cxCompC X NB FR scope cl s3 H3 fp) tg g ∧ PTs (cxCompC X NB FR scope cl s3 H3 fp) ifs tt ∧ PE (cxCompC X NB FR scope cl s3 H3 fp) elt te)
    (I : Inv X pins σ H s) (h : tCompC NB.length js wi g tt te σ H Q)
    (hRR : ∀ D C H' s', Inv X pins σ H' s' → FpOk X pins H' C → (∃ m, s'.heap.Ns C m) → Q (.ref D) H' → RR (.ref D) C (.ok .next) s') :
    wpAny (model X.prog X.w) X.A (eval iter X.env) (fun v s1 => wpAny (model X.prog X.w) X.A (pyIter v) (fun it s2 => wpAny (model X.prog X.w) X.A (newList []) (fun acc s3 =>
      wpAny (model X.prog X.w) X.A (newFunctionEnv scope X.env.globals cl [] X.env.qual none .none (some X.env)) (fun cenv s4 =>
        codeAny (model X.prog X.w) X.A (.compStart (.ListComp elt [⟨tg, iter, ifs, 0⟩] scope pos) 0 it acc { cenv with scope := relabel scope X.env }) (RR acc cenv.locals) s4) X.xe s3) X.xe s2) X.xe s1) X.xe s := by
  refine thn (hi pins s σ H _ I h) fun v s1 h1 => thn h1 fun itv s2 h2 => ?_
  obtain ⟨it, fp, tn, J, H2, e, I2, T, st2, f2, q2⟩ := h2
  subst e
  have hf2 : H2 s2.heap.objs.size = none := I2.hok.fresh (Nat.le_refl _)
  obtain ⟨W, ⟨m0, w0⟩, turn⟩ := q2 _ hf2
  refine wpAny_newObj_type (hd := by size_fits) ?_
  have I3 : Inv X pins σ (upd H2 s2.heap.objs.size (.lst [])) { s2 with heap := s2.heap.push { cls := .type "list", dict := none, data := .seq ([] : List Value).toArray } } :=
    I2.laid (t' := s2.toks) (fun b u e => Heap.get?_push_of_some _ e) (Nat.le_refl _) ⟨by decide, [], 0, .nil, Heap.get?_push_size _ rfl⟩
  generalize hD : s2.heap.objs.size = D at *
  generalize hs3 : ({ s2 with heap := s2.heap.push { cls := .type "list", dict := none, data := .seq ([] : List Value).toArray } } : Shared) = s3 at *
  generalize hH3 : upd H2 D (.lst []) = H3 at *
  have h3D : H3 D = some (.lst []) := by rw [← hH3]; exact upd_same
  have fpD : ∀ b ∈ fp, b ≠ D := fun b hb => by
    obtain ⟨o, e, _⟩ := T.obj _ _ st2 b hb
    rw [← hD]; exact Nat.ne_of_lt (Heap.lt_size e)
  have k23 : ∀ b u, s2.heap.get? b = some u → s3.heap.get? b = some u := fun b u e => by rw [← hs3]; exact Heap.get?_push_of_some _ e
  have st3 : tn 0 s3.heap := T.keep _ _ _ st2 fun b _ o e => k23 b o e
  have f3 : ∀ b ∈ fp, FpOk X pins H3 b := fun b hb => ⟨by rw [← hH3, upd_ne (fpD b hb)]; exact (f2 b hb).1, (f2 b hb).2⟩
  refine wpAny_newFunctionEnv hcell (by intro y hy; simp at hy) (fun h4 hns4 hsb4 => ?_) hkind
  have k34 : ∀ b u, s3.heap.get? b = some u → h4.get? b = some u := fun b u e => hsb4.extBut b u (Nat.ne_of_lt (Heap.lt_size e)) (Heap.get?_push_of_some _ e)
  have okB : (cxCompC X NB FR scope cl s3 H3 fp).Ok := by
    refine ⟨I3.ok.mod, hkind, I3.ok.glob, I3.ok.blt, Nat.le_refl _, fun x y c e1 e2 => I3.ok.inj x y c (hcl _ _ e1) (hcl _ _ e2), fun x e => hcap.has (relabel_has hnm e), (fun x c e => nomatch e), I3.ok.hd, I3.ok.frames, .inl rfl, fun b hb => ⟨?_, fun x c e => ?_⟩, I3.bs, Nat.le_trans I3.ok.bsz I3.sz, fun b o e hb => ?_, fun b hb z => ?_, I3.stack, I3.stkFree⟩
    · obtain ⟨o, e, _⟩ := T.obj _ _ st3 b hb
      exact Nat.ne_of_lt (Heap.lt_size e)
    · exact (f3 b hb).2.2.2.2.1 x c (hcl _ _ e)
    · obtain ⟨_, _, _, z, _⟩ := f3 b hb
      rcases z with z | z
      · exact I3.ok.noex b o e z
      · exact absurd (Nat.lt_of_lt_of_le (Heap.lt_size e) (Nat.le_trans I3.ok.bsz z)) (Nat.lt_irrefl _)
    · obtain ⟨_, z1, z2, _⟩ := f3 b hb
      rcases List.mem_cons.mp (I3.stkSub b z) with e | e
      · exact z1 e
      · exact z2 e
  have IB : Inv (cxCompC X NB FR scope cl s3 H3 fp) [] (List.replicate NB.length none ++ caps σ js) H3 { s3 with heap := h4, toks := s3.toks + ([] : List (Str × Value)).length } := by
    refine ⟨okB, rfl, I3.bare, Un.kept k34, ⟨_, hns4, fun i x v e1 e2 e3 => ?_⟩, fun x c e => ?_, I3.hok.fresh (Nat.le_refl _), fun x c e => I3.freeC x c (hcl _ _ e), fun p hp => ?_, I3.hok.kept k34, ?_⟩
    · by_cases hi : i < NB.length
      · rw [List.getElem?_append_left (by simpa using hi), List.getElem?_replicate, if_pos hi] at e2
        cases e2
      · have e1' : FR[i - NB.length]? = some x := by
          have z : (NB ++ FR)[i]? = some x := e1
          rw [List.getElem?_append_right (by omega)] at z; exact z
        rw [List.getElem?_append_right (by simp; omega), List.length_replicate] at e2
        obtain ⟨j, hj, hN, hk, hb', c, hc'⟩ := hcap.get e1'
        have e2' : σ[j]? = some (some v) := by
          unfold caps at e2
          rw [List.getElem?_map, hj] at e2
          simp only [Option.map_some, Option.some.injEq] at e2
          cases hσ : σ[j]? with
          | none => rw [hσ] at e2; cases e2
          | some o => rw [hσ] at e2; simp only [Option.getD_some] at e2; rw [e2]
        obtain ⟨m, hn, hl⟩ := I3.loc
        obtain ⟨u, ru, lu⟩ := hl j x v hN e2' (.inr (.inl hk))
        refine ⟨u, ru, .inr ⟨.inl hb', c, hc', ?_⟩⟩
        rcases lu with ⟨z, _⟩ | ⟨_, c', z, q⟩
        · rw [hk] at z; cases z
        · rw [hcl _ _ hc'] at z; cases z
          obtain ⟨o, ho, hd⟩ := q
          exact ⟨o, k34 _ _ ho, hd⟩
    · obtain ⟨v, o, ho, hd⟩ := I3.cell x c (hcl _ _ e)
      exact ⟨v, o, k34 _ _ ho, hd⟩
    · exact absurd (show p ∈ ([] : List (Addr × Obj)) from hp) (by simp)
    · show _ = (NB ++ FR).length
      rw [List.length_append, List.length_append, List.length_replicate, hcap.length]
      unfold caps; rw [List.length_map]
  have st4 : tn 0 h4 := T.keep _ _ _ st3 fun b _ o e => k34 b o e
  have stat : ∀ {H' : Hp}, (∀ b ∈ fp, H' b = none) → ∀ b ∈ fp, FpOk (cxCompC X NB FR scope cl s3 H3 fp) [] H' b := fun hn b hb =>
    ⟨hn b hb, (okB.exf b hb).1, okB.exfs b hb, .inl hb, fun x c e => (f3 b hb).2.2.2.2.1 x c (hcl _ _ e), fun p hp => absurd (show p ∈ ([] : List (Addr × Obj)) from hp) (by simp)⟩
  obtain ⟨hg, ht, he⟩ := hb s3 H3 fp
  have fin : ∀ {σ' : St} {H' : Hp} {s' : Shared}, Inv (cxCompC X NB FR scope cl s3 H3 fp) [] σ' H' s' → Q (.ref D) H' → RR (.ref D) s3.heap.objs.size (.ok .next) s' := fun {σ' H' s'} J q => by
    have hm : ∃ m, s'.heap.Ns s3.heap.objs.size m := by
      obtain ⟨m, hm, _⟩ := J.loc
      exact ⟨m, hm⟩
    refine hRR D _ H' s' (I3.call' (ch := fp) J.os J.base J.hok J.bare fun b hb => ?_) (I3.fpOk (Nat.le_refl _) J.free) hm q
    obtain ⟨_, z1, z2, z3, z4, z5⟩ := f3 b hb
    exact ⟨z3, z1, z4, z5⟩
  have loop : ∀ s5 : Shared, s5 = { s3 with heap := h4, toks := s3.toks + ([] : List (Str × Value)).length } →
      codeAny (model X.prog X.w) X.A (.compLoop (.ListComp elt [⟨tg, iter, ifs, 0⟩] scope pos) 0 (.ref it) (.ref D) (compEnvC scope cl s3.heap.objs.size X.env)) (RR (.ref D) s3.heap.objs.size) s5 := by
    rintro s5 rfl
    refine compLoop_any (fun n s' => ∃ i zs H' ys, zs.length = NB.length ∧ Inv (cxCompC X NB FR scope cl s3 H3 fp) [] (zs ++ caps σ js) H' s' ∧ tn i s'.heap ∧ (∀ b ∈ fp, H' b = none) ∧ H' D = some (.lst ys) ∧ W i n H' ys) ?_ m0
      ⟨0, _, H3, [], List.length_replicate, IB, st4, fun b hb => (f3 b hb).1, h3D, by rw [← hH3] at *; exact w0⟩
    rintro n s6 ⟨i, zs, H6, ys, hzs, I6, st6, fr6, hD6, w6⟩
    rcases turn i n H6 ys w6 hD6 with ⟨stop, qn⟩ | ⟨go, step⟩
    · refine thn (T.done (cxCompC X NB FR scope cl s3 H3 fp) rfl rfl rfl hc i [] s6 _ H6 _ I6 (stat fr6) st6 stop) fun r s7 ⟨hr, I7⟩ => ?_
      subst hr
      exact fin I7 qn
    · refine thn (T.item (cxCompC X NB FR scope cl s3 H3 fp) rfl rfl rfl hc i [] s6 _ H6 _ I6 (stat fr6) st6 go) fun r s7 ⟨u, hr, h7⟩ => ?_
      subst hr
      refine thn h7 fun _ s8 ⟨x, H8, I8, r8, y8, st8, fr8⟩ => ?_
      have I8' := I8.pinned (stat fr8) (T.obj _ _ st8)
      have again : ∀ {σ9 : St} {H9 : Hp} {s9 : Shared} {ws : List V} {m' : Nat}, σ9.drop NB.length = caps σ js → Inv (cxCompC X NB FR scope cl s3 H3 fp) ([] ++ pinsAt fp s8.heap) σ9 H9 s9 → H9 D = some (.lst ws) → m' < n → W (i + 1) m' H9 ws →
          ∃ m, m < n ∧ ∃ i zs H' ys, zs.length = NB.length ∧ Inv (cxCompC X NB FR scope cl s3 H3 fp) [] (zs ++ caps σ js) H' s9 ∧ tn i s9.heap ∧ (∀ b ∈ fp, H' b = none) ∧ H' D = some (.lst ys) ∧ W i m H' ys := fun {σ9 H9 s9 ws m'} hdr I9 hz hm w9 => by
        have hl : σ9.length = (NB ++ FR).length := I9.len
        rw [List.length_append] at hl
        refine ⟨m', hm, i + 1, σ9.take NB.length, H9, ws, by rw [List.length_take]; omega, ?_, T.keep _ _ _ st8 fun b hb o e => (I9.pin (b, o) (List.mem_append_right _ (List.mem_append_right _ (mem_pinsAt hb e)))).1, fun b hb => ?_, hz, w9⟩
        · rw [← hdr, List.take_append_drop]; exact I9.unpinned
        · obtain ⟨o, e, d⟩ := T.obj _ _ st8 b hb
          exact (I9.pin (b, o) (List.mem_append_right _ (List.mem_append_right _ (mem_pinsAt hb e)))).2.1
      refine thn (hg _ s8 _ H8 x u _ I8' r8 (step zs x H8 hzs y8)) fun _ s9 ⟨σ9, H9, I9, hdr, q9⟩ => ?_
      refine thn (ht _ s9 σ9 H9 _ I9 q9) fun ok s10 ⟨H10, I10, q10⟩ => ?_
      cases ok with
      | false =>
        rw [if_neg (by decide)] at q10 ⊢
        obtain ⟨hz, m', hm, w'⟩ := q10
        exact again hdr I10 hz hm w'
      | true =>
        rw [if_pos rfl] at q10 ⊢
        refine thn (he _ s10 σ9 H10 _ I10 q10) fun y s11 ⟨v, H11, I11, r11, hz, hlen, m', hm, w'⟩ => ?_
        refine thn (mt_append _ s11 σ9 H11 (.ref D) [v] (.ref D) [y] (fun _ H12 => H12 = upd H11 D (.lst (ys ++ [v]))) I11 rfl (.cons r11 .nil) ⟨D, ys, v, rfl, rfl, hz, hlen, rfl⟩) fun _ s12 ⟨_, H12, I12, _, e12⟩ => ?_
        subst e12
        exact again hdr I12 upd_same hm w'
  exact codeAny_compStart_list (loop _ rfl) (T.self X.A 0 _ _ _ st4 (loop _ rfl))

section
variable {X : Cx} {elt tg iter : Expr} {ifs : List Expr} {scope : Scope} {cl : List (Str × Addr)} {pos spos py : Pos} {NB FR : List Str} {js : List Nat} {wi : TI} {g : TG} {tt : TT} {te : TE}
theorem pe_compC (hc : X.calm = true) (hclos : closureFor scope X.env = pure cl) (hcl : ∀ x c, cl.lookup x = some c → X.env.cells.lookup x = some c) (hcap : Capt X scope cl FR js)
    (hnm : (relabel scope X.env).names.all (fun y => !(y.2 == .cell || y.2 == .free) || FR.contains y.1) = true) (hcell : ∀ x ∈ scope.names, x.2 ≠ .cell) (hkind : scope.kind = .function) (hnames : ∀ x ∈ scope.names, x.2 = .local → scope.names.lookup x.1 = some .local)
    (hi : PI X tg iter wi) (hb : ∀ s3 H3 fp, PG (cxCompC X NB FR scope cl s3 H3 fp) tg g ∧ PTs (cxCompC X NB FR scope cl s3 H3 fp) ifs tt ∧ PE (cxCompC X NB FR scope cl s3 H3 fp) elt te)
    (hs : ∀ x, foldedSetIterable iter X.env x = pure x := by intro _; rfl) :
    PE X (.ListComp elt [⟨tg, iter, ifs, 0⟩] scope pos) (tCompC NB.length js wi g tt te) := by
  intro pins s σ H Q I h
  rw [eval_ListComp]
  refine wpAny_comprehension_free (use := none) rfl hs hclos hkind hnames (comp_core (RR := fun acc C => compPost (model X.prog X.w) X.A X.xe none (EP X pins σ Q) acc C) hc hcl hcap hnm hcell hkind hi hb I h ?_)
  intro D C H' s' I' ⟨f0, f1, f2, f3, f4, f5⟩ ⟨m, hm⟩ q
  exact ⟨m, hm, fun h' sb => ⟨.ref D, H', I'.turned (t' := s'.toks) (fun b o hb e => (sb.2 b hb).trans e) f0 f1 f3 f4 f5, rfl, q⟩⟩
theorem ps_setC {i : Nat} {y : Str} (hc : X.calm = true) (hclos : closureFor scope X.env = pure cl) (hcl : ∀ x c, cl.lookup x = some c → X.env.cells.lookup x = some c) (hcap : Capt X scope cl FR js)
    (hnm : (relabel scope X.env).names.all (fun y => !(y.2 == .cell || y.2 == .free) || FR.contains y.1) = true) (hcell : ∀ x ∈ scope.names, x.2 ≠ .cell) (hkind : scope.kind = .function) (hnames : ∀ x ∈ scope.names, x.2 = .local → scope.names.lookup x.1 = some .local)
    (hN : X.N.Nodup) (hiN : X.N[i]? = some y) (hy : X.env.kindOf y = some .local) (hsw : swapsWith (.ListComp elt [⟨tg, iter, ifs, 0⟩] scope pos) (some (.Name y py)) spos.line X.env = pure true)
    (hi : PI X tg iter wi) (hb : ∀ s3 H3 fp, PG (cxCompC X NB FR scope cl s3 H3 fp) tg g ∧ PTs (cxCompC X NB FR scope cl s3 H3 fp) ifs tt ∧ PE (cxCompC X NB FR scope cl s3 H3 fp) elt te)
    (hs : ∀ x, foldedSetIterable iter X.env x = pure x := by intro _; rfl) :
    PS X (.Assign [.Name y py] (.ListComp elt [⟨tg, iter, ifs, 0⟩] scope pos) spos) (tAsg (tCompC NB.length js wi g tt te) (gName i)) := by
  intro pins s σ H D I h
  rw [exec_Assign_Name_used _ _ _ _ hsw]
  refine wpAny_bind (wpAny_standAt (wpAny_bind ?_))
  show wpAny _ _ (do let _ ← comprehension (.ListComp elt [⟨tg, iter, ifs, 0⟩] scope pos) scope X.env _ (newList []) false (eval iter X.env) (some (assign (.Name y py) X.env))) _ _ s
  refine wpAny_bind (wpAny_mono (wpAny_comprehension_free (use := some (assign (.Name y py) X.env)) (Q := fun _ s' => SP X pins D .next s') rfl hs hclos hkind hnames
    (comp_core (RR := fun acc C => compPost (model X.prog X.w) X.A X.xe (some (assign (.Name y py) X.env)) (fun _ s' => SP X pins D .next s') acc C) hc hcl hcap hnm hcell hkind hi hb I h ?_)) (fun _ s' hq => wpAny_pure (wpAny_pure hq)) fun _ _ e => e)
  intro DD C H' s' I' ⟨f0, f1, f2, f3, f4, f5⟩ ⟨m, hm⟩ q
  show wpAny _ _ (assign (.Name y py) X.env (.ref DD)) _ _ s'
  refine wpAny_assign_Name (store_ok2 (v := .ref DD) I' hN hiN (.inl hy) rfl (fun s'' I'' ⟨a, sa, ha⟩ => ?_) (.inr hy))
  have hCa : C ≠ a := by
    rcases ha with rfl | ha
    · exact f1
    · exact fun z => f4 y a ha z.symm
  exact ⟨m, hm.sameBut sa hCa, fun h' sb => ⟨_, H', I''.turned (t' := s''.toks) (fun b o hb e => (sb.2 b hb).trans e) f0 f1 f3 f4 f5, q⟩⟩
end
end L2
set_option Elab.async false
set_option linter.all false
set_option maxRecDepth 100000
namespace L2
open PySem PySem.Spec PyProof.Rows

section
variable {prog : Program} {w : World} {A : Around} {E : Value → Shared → Prop} {s : Shared}
theorem nt_item {j t : Addr} {i : Nat} {vs : Array Value} {x : Value} {Q : Value → Shared → Prop} (kj : s.heap.IsTupleIter j t i) (kt : s.heap.IsTuple t vs) (kx : vs[i]? = some x)
    (q : ∀ h', h'.IsTupleIter j t (i + 1) → Heap.SameBut j s.heap h' → Q x { s with heap := h' }) : wpAny (model prog w) A (Builtin.SmallTypes.nextOf (.ref j)) Q E s := by
  obtain ⟨oj, e1, e2, e3⟩ := id kj
  obtain ⟨ot, f1, _, nt, f3⟩ := kt
  unfold Builtin.SmallTypes.nextOf
  refine wpAny_bind (wpAny_callSpecial?_slot (name := Str.ofString "__next__") kj.typeIs F.slot_tuple_iterator_next (wpAny_call_entry F.slot_tuple_iterator_next kj.typeIs F.entry_tuple_iterator_next ?_ (F.args_tuple_iterator_next_1 _)))
  show wpAny _ _ (field (.ref j) 0 >>= _) _ _ s
  refine wpAny_bind (wpAny_field e1 e3 (x := .ref t) rfl ?_)
  show wpAny _ _ (if (Value.ref t == .none) = true then _ else _) _ _ s
  rw [if_neg (show ¬ ((Value.ref t == .none) = true) from Bool.false_ne_true)]
  show wpAny _ _ (field (.ref j) 1 >>= _) _ _ s
  refine wpAny_bind (wpAny_field e1 e3 (x := .int i 0) rfl (?_ : wpAny _ _ (seqItems? (.ref t) >>= _) _ _ s))
  refine wpAny_bind (wpAny_seqItems f1 f3 ?_)
  simp only [Int.toNat_natCast, kx]
  refine wpAny_bind (wpAny_setField e1 e3 (by simp) (wpAny_pure ⟨x, rfl, wpAny_pure (q _ ⟨_, Heap.get?_update_self _ e1 (Obj.isFreed_of_fields (Obj.data_mapFields e3 _)), (Obj.cls_mapFields ..).trans e2, ?_⟩ (Heap.SameBut.update ..))⟩))
  rw [Obj.data_mapFields e3]; simp [rawInt]
theorem nt_end {j t : Addr} {i : Nat} {vs : Array Value} {Q : Value → Shared → Prop} (hh : A.handled = none) (kj : s.heap.IsTupleIter j t i) (kt : s.heap.IsTuple t vs) (kx : vs[i]? = none)
    (q : ∀ h' e, Heap.ExtBut j s.heap h' → (∃ o, h'.get? e = some o ∧ o.cls = .type "StopIteration") → E (.ref e) { s with heap := h' }) : wpAny (model prog w) A (Builtin.SmallTypes.nextOf (.ref j)) Q E s := by
  obtain ⟨oj, e1, e2, e3⟩ := id kj
  obtain ⟨ot, f1, _, nt, f3⟩ := kt
  unfold Builtin.SmallTypes.nextOf
  refine wpAny_bind (wpAny_callSpecial?_slot (name := Str.ofString "__next__") kj.typeIs F.slot_tuple_iterator_next (wpAny_call_entry F.slot_tuple_iterator_next kj.typeIs F.entry_tuple_iterator_next ?_ (F.args_tuple_iterator_next_1 _)))
  show wpAny _ _ (field (.ref j) 0 >>= _) _ _ s
  refine wpAny_bind (wpAny_field e1 e3 (x := .ref t) rfl ?_)
  show wpAny _ _ (if (Value.ref t == .none) = true then _ else _) _ _ s
  rw [if_neg (show ¬ ((Value.ref t == .none) = true) from Bool.false_ne_true)]
  show wpAny _ _ (field (.ref j) 1 >>= _) _ _ s
  refine wpAny_bind (wpAny_field e1 e3 (x := .int i 0) rfl (?_ : wpAny _ _ (seqItems? (.ref t) >>= _) _ _ s))
  refine wpAny_bind (wpAny_seqItems f1 f3 ?_)
  simp only [Int.toNat_natCast, kx]
  refine wpAny_bind (wpAny_rule (wpAny_bind (wpAny_setField e1 e3 (by simp) (?_ : wpAny _ _ (newExc (.type "StopIteration") [] >>= _) _ _ _))))
  refine wpAny_bind ?_
  simp only [newExc, newTuple]
  refine wpAny_bind (wpAny_newObj_type (wpAny_bind (m := firstArgMember _ _) (wpAny_of_eq (a := Value.none) (by first | rfl | (simp only [firstArgMember]; rfl)) (wpAny_newObj_type ?_ (by size_fits)))) (by size_fits))
  simp only [raiseNew]
  refine wpAny_bind (wpAny_handled (?_))
  first | rw [show A.in1.handled = none from hh] | rw [hh]
  exact wpAny_bind (wpAny_pure (wpAny_throw (q _ _ (((Heap.SameBut.update ..).extBut.push _).push _) ⟨_, Heap.get?_push_size _ rfl, rfl⟩)))

structure ZT (z TI TO j1 j2 t1 t2 : Addr) (f0 : Value) (i1 i2 : Nat) (h : Heap) : Prop where
  z : IsZip h z TI TO f0
  ti : IsPair h TI (.ref j1) (.ref j2)
  to : ∃ a b, IsPair h TO a b
  i1 : h.IsTupleIter j1 t1 i1
  i2 : h.IsTupleIter j2 t2 i2
structure ZNe (z TI TO j1 j2 : Addr) : Prop where
  a : TI ≠ z
  b : TO ≠ z
  c : j1 ≠ z
  d : j2 ≠ z
  e : TI ≠ TO
  f : TI ≠ j1
  g : TI ≠ j2
  k : TO ≠ j1
  l : TO ≠ j2
  m : j1 ≠ j2
section
variable {z TI TO j1 j2 t1 t2 : Addr} {i : Nat} {xs ys : Array Value}
theorem tup_ne_j {h : Heap} {vs : Array Value} {t j u : Addr} {n : Nat} (ht : h.IsTuple t vs) (hj : h.IsTupleIter j u n) : t ≠ j := fun e => by
  obtain ⟨o, e1, e2, _⟩ := ht
  obtain ⟨o', f1, f2, _⟩ := hj
  rw [e, f1] at e1; cases e1; rw [f2] at e2; simp at e2
end
end

end L2
set_option Elab.async false
set_option linter.all false
set_option maxRecDepth 100000
namespace L2
open PySem PySem.Spec PyProof.Rows
section
variable {X : Cx}
theorem bls_get : ∀ {bs : List Bool} {us : List Value} {i : Nat} {v : Value}, Vals (bs.map V.bl) us → us[i]? = some v → ∃ b, bs[i]? = some b ∧ v = .bool b
  | [], _, _, _, r, e => by cases r; simp at e
  | b :: bs, _, i, v, r, e => by
    cases r with
    | cons h t =>
      cases i with
      | zero => simp at e; subst e; exact ⟨b, rfl, h⟩
      | succ i => obtain ⟨c, e1, e2⟩ := bls_get (i := i) t (by simpa using e); exact ⟨c, by simpa using e1, e2⟩
theorem all_range : ∀ (bs : List Bool) (k : Nat), ((List.range' k bs.length).all fun i => (bs[i - k]?).getD true) = bs.all id
  | [], k => rfl
  | b :: bs, k => by
    rw [List.length_cons, List.range'_succ, List.all_cons, List.all_cons]
    simp only [Nat.sub_self, List.getElem?_cons_zero, Option.getD_some, id]
    congr 1
    rw [← all_range bs (k + 1)]
    apply Bool.eq_iff_iff.mpr
    simp only [List.all_eq_true, List.mem_range'_1]
    constructor
    · intro h i hi
      have := h i hi
      rw [show i - k = (i - (k + 1)) + 1 by omega, List.getElem?_cons_succ] at this; exact this
    · intro h i hi
      rw [show i - k = (i - (k + 1)) + 1 by omega, List.getElem?_cons_succ]; exact h i hi
theorem call_all (hc : X.calm = true) : CallR X (.builtin "all") (fun xs H Q => ∃ (p : Addr) (bs : List Bool), xs = [.ref p] ∧ SqL X.K H p (bs.map V.bl) ∧ Q (.bl (bs.all id)) H) := by
  intro pins s σ H xs us Q I r h
  obtain ⟨p, bs, rfl, hq, q⟩ := h
  obtain ⟨u, rfl, ru⟩ := vals1 r
  cases ru
  obtain ⟨its, rv, pl, _⟩ := I.list hq
  have hlt : p < s.heap.objs.size := by obtain ⟨o, n, e, _⟩ := pl; exact Heap.lt_size e
  have hl := rv.length
  rw [List.length_map] at hl
  refine call_all_walk (wpAny_pyIter_list pl.isList ⟨s.heap.objs.size, _, _, _, _, _, fun i => (bs[i]?).getD true, rfl, Walks.list (A := X.A.in1) (show X.A.in1.handled = none from I.ok.hd hc) s.heap.objs.size p (Nat.ne_of_lt hlt) its.toArray,
    ⟨⟨_, Heap.get?_push_size _ rfl, rfl, rfl⟩, pl.isList.push _⟩, fun i v s' Q' E' hv hQ' => ?_, fun h' tk k => ⟨.bl (bs.all id), H, I.kept fun b o e => k b o (by simpa using Nat.ne_of_lt (Heap.lt_size e)) (Heap.get?_push_of_some _ e), ?_, q⟩⟩)
  · obtain ⟨b, e1, rfl⟩ := bls_get rv (by simpa using hv)
    simp only [e1, Option.getD_some] at hQ'
    exact wpAny_pure hQ'
  · have := all_range bs 0
    simp only [Nat.sub_zero] at this
    rw [show its.toArray.size = bs.length by simp [hl], List.range_eq_range', this]; rfl

def KPair (K : PySem.W.Frag) (a : Addr) (i j : Int) : Prop := ∃ o t u n, K.lookup a = some o ∧ o.cls = .type "tuple" ∧ o.data = .seq #[.int i t, .int j u] n
end
end L2
set_option Elab.async false
set_option linter.all false
set_option maxRecDepth 100000
namespace HT
open PySem PyProof.Rows
section
variable {prog : Program} {w : World} {A : Around} {E : Value → Shared → Prop} {s : Shared}
end
end HT
namespace L2
open PySem PySem.Spec PyProof.Rows
section
variable {X : Cx}
end
end L2
set_option Elab.async false
set_option linter.all false
set_option maxRecDepth 100000
namespace L2
open PySem PySem.Spec PyProof.Rows
section
variable {J : It} {D : Addr} {N n : Nat} {js : List Nat} {σ : St} {g : TG} {tt : TT} {te : TE} {Q : VK} {H : Hp}
theorem comp_by (Pv : Nat → Hp → List V → Prop) (h0 : Pv 0 (upd H D (.lst [])) []) (hgo : ∀ i H ys, i < N → Pv i H ys → J.go i H) (hst : ∀ H ys, Pv N H ys → J.stop N H)
    (hs : ∀ i x zs H2 H3 ys (Nx : Hp → List V → Prop), (∀ H ys, Pv (i + 1) H ys → Nx H ys) → i < N → zs.length = n → J.yld i H2 x H3 → Pv i H2 ys → H2 D = some (.lst ys) → g x zs H3 fun σ4 H4 => tt σ4 H4 fun b H5 =>
      if b = true then te σ4 H5 (fun v H6 => H6 D = some (.lst ys) ∧ ys.length < sizeLine ∧ Nx (upd H6 D (.lst (ys ++ [v]))) (ys ++ [v])) else H5 D = some (.lst ys) ∧ Nx H5 ys)
    (hd : ∀ H ys, Pv N H ys → H D = some (.lst ys) → Q (.ref D) H) :
    ∃ W : Nat → Nat → Hp → List V → Prop, (∃ m, W 0 m (upd H D (.lst [])) []) ∧ ∀ i m H2 ys, W i m H2 ys → H2 D = some (.lst ys) → (J.stop i H2 ∧ Q (.ref D) H2) ∨
      (J.go i H2 ∧ ∀ σB x H3, σB.length = n → J.yld i H2 x H3 → g x σB H3 fun σ4 H4 => tt σ4 H4 fun b H5 => if b = true then te σ4 H5 (fun v H6 => H6 D = some (.lst ys) ∧ ys.length < sizeLine ∧ ∃ m', m' < m ∧ W (i + 1) m' (upd H6 D (.lst (ys ++ [v]))) (ys ++ [v]))
        else H5 D = some (.lst ys) ∧ ∃ m', m' < m ∧ W (i + 1) m' H5 ys) := by
  refine ⟨fun i m H ys => m = N - i ∧ i ≤ N ∧ Pv i H ys, ⟨N, by simp, Nat.zero_le _, h0⟩, ?_⟩
  rintro i m H2 ys ⟨rfl, hi, p⟩ hD
  by_cases hlt : i < N
  · exact .inr ⟨hgo i H2 ys hlt p, fun σB x H3 hB y => hs i x σB H2 H3 ys (fun H' ys' => ∃ m', m' < N - i ∧ (m' = N - (i + 1) ∧ i + 1 ≤ N ∧ Pv (i + 1) H' ys')) (fun H' ys' z => ⟨N - (i + 1), by omega, rfl, hlt, z⟩) hlt hB y p hD⟩
  · obtain rfl : i = N := by omega
    exact .inl ⟨hst H2 ys p, hd H2 ys p hD⟩
theorem compC_by (Pv : Nat → Hp → List V → Prop) (h0 : Pv 0 (upd H D (.lst [])) []) (hgo : ∀ i H ys, i < N → Pv i H ys → J.go i H) (hst : ∀ H ys, Pv N H ys → J.stop N H)
    (hs : ∀ i x zs H2 H3 ys (Nx : Hp → List V → Prop), (∀ H ys, Pv (i + 1) H ys → Nx H ys) → i < N → zs.length = n → J.yld i H2 x H3 → Pv i H2 ys → H2 D = some (.lst ys) → g x (zs ++ caps σ js) H3 fun σ4 H4 => σ4.drop n = caps σ js ∧ tt σ4 H4 fun b H5 =>
      if b = true then te σ4 H5 (fun v H6 => H6 D = some (.lst ys) ∧ ys.length < sizeLine ∧ Nx (upd H6 D (.lst (ys ++ [v]))) (ys ++ [v])) else H5 D = some (.lst ys) ∧ Nx H5 ys)
    (hd : ∀ H ys, Pv N H ys → H D = some (.lst ys) → Q (.ref D) H) :
    ∃ W : Nat → Nat → Hp → List V → Prop, (∃ m, W 0 m (upd H D (.lst [])) []) ∧ ∀ i m H2 ys, W i m H2 ys → H2 D = some (.lst ys) → (J.stop i H2 ∧ Q (.ref D) H2) ∨
      (J.go i H2 ∧ ∀ zs x H3, zs.length = n → J.yld i H2 x H3 → g x (zs ++ caps σ js) H3 fun σ4 H4 => σ4.drop n = caps σ js ∧ tt σ4 H4 fun b H5 => if b = true then te σ4 H5 (fun v H6 => H6 D = some (.lst ys) ∧ ys.length < sizeLine ∧ ∃ m', m' < m ∧ W (i + 1) m' (upd H6 D (.lst (ys ++ [v]))) (ys ++ [v]))
        else H5 D = some (.lst ys) ∧ ∃ m', m' < m ∧ W (i + 1) m' H5 ys) := by
  refine ⟨fun i m H ys => m = N - i ∧ i ≤ N ∧ Pv i H ys, ⟨N, by simp, Nat.zero_le _, h0⟩, ?_⟩
  rintro i m H2 ys ⟨rfl, hi, p⟩ hD
  by_cases hlt : i < N
  · exact .inr ⟨hgo i H2 ys hlt p, fun σB x H3 hB y => hs i x σB H2 H3 ys (fun H' ys' => ∃ m', m' < N - i ∧ (m' = N - (i + 1) ∧ i + 1 ≤ N ∧ Pv (i + 1) H' ys')) (fun H' ys' z => ⟨N - (i + 1), by omega, rfl, hlt, z⟩) hlt hB y p hD⟩
  · obtain rfl : i = N := by omega
    exact .inl ⟨hst H2 ys p, hd H2 ys p hD⟩
end
end L2
set_option Elab.async false
set_option linter.all false
set_option maxRecDepth 100000
namespace L2
open PySem PySem.Spec PyProof.Rows
section
variable {prog : Program} {w : World} {A : Around} {E : Value → Shared → Prop} {s : Shared}
end
end L2
set_option Elab.async false
set_option linter.all false
set_option maxRecDepth 100000
namespace L2
open PySem PySem.Spec PyProof.Rows
mutual
theorem RdD.same {H H' : Hp} (e : Same H H') : ∀ {v : V} {d : PyData}, RdD H v d → RdD H' v d
  | _, _, .non => .non
  | _, _, .bl b => .bl b
  | _, _, .int i => .int i
  | _, _, .str x => .str x
  | _, _, .tup h r => .tup (e _ _ h) (RdDs.same e r)
  | _, _, .lst h r => .lst (e _ _ h) (RdDs.same e r)
theorem RdDs.same {H H' : Hp} (e : Same H H') : ∀ {vs : List V} {ds : List PyData}, RdDs H vs ds → RdDs H' vs ds
  | _, _, .nil => .nil
  | _, _, .cons h t => .cons (RdD.same e h) (RdDs.same e t)
end
theorem RdDs.len {H : Hp} : ∀ {xs : List V} {ds : List PyData}, RdDs H xs ds → xs.length = ds.length
  | _, _, .nil => rfl
  | _, _, .cons _ t => by rw [List.length_cons, List.length_cons, RdDs.len t]
theorem RdDs.drop {H : Hp} : ∀ {xs : List V} {ds : List PyData} (n : Nat), RdDs H xs ds → RdDs H (xs.drop n) (ds.drop n)
  | _, _, 0, h => h
  | _, _, _ + 1, .nil => .nil
  | _, _, n + 1, .cons _ t => RdDs.drop n t
theorem RdDs.take {H : Hp} : ∀ {xs : List V} {ds : List PyData} (n : Nat), RdDs H xs ds → RdDs H (xs.take n) (ds.take n)
  | _, _, 0, _ => .nil
  | _, _, _ + 1, .nil => .nil
  | _, _, n + 1, .cons h t => .cons h (RdDs.take n t)
theorem RdDs.get {H : Hp} : ∀ {xs : List V} {ds : List PyData} {i : Nat} {d : PyData}, RdDs H xs ds → ds[i]? = some d → ∃ x, xs[i]? = some x ∧ RdD H x d
  | _, _, _, _, .nil, e => by simp at e
  | _, _, 0, _, .cons h _, e => by simp at e; subst e; exact ⟨_, rfl, h⟩
  | _, _, i + 1, _, .cons _ t, e => by
    obtain ⟨x, h1, h2⟩ := RdDs.get t (i := i) (by simpa using e)
    exact ⟨x, by simpa using h1, h2⟩
theorem RdDs.at {H : Hp} {xs : List V} {ds : List PyData} {i : Int} {d : PyData} (h : RdDs H xs ds) (e : atI ds i = some d) : ∃ x, atI xs i = some x ∧ RdD H x d := by
  unfold atI at e ⊢
  rw [h.len]
  cases hj : ixN ds.length i with
  | none => rw [hj] at e; cases e
  | some j =>
    rw [hj] at e
    exact h.get e
def del (N : List Addr) (H : Hp) : Hp := fun a => if a ∈ N then none else H a
theorem del_some {N : List Addr} {H : Hp} {a : Addr} {o : HO} (h : del N H a = some o) : H a = some o ∧ a ∉ N := by
  unfold del at h
  split at h
  · cases h
  · exact ⟨h, ‹_›⟩
theorem del_of {N : List Addr} {H : Hp} {a : Addr} {o : HO} (h : H a = some o) (n : a ∉ N) : del N H a = some o := by unfold del; rw [if_neg n]; exact h
def Ls (N : List Addr) (H : Hp) : Prop := ∀ a ∈ N, ∃ xs, H a = some (.lst xs)
theorem Ls.nil {H : Hp} : Ls [] H := fun _ m => by cases m
theorem Ls.same {N : List Addr} {H H' : Hp} (h : Ls N H) (e : Same H H') : Ls N H' := fun a m => let ⟨xs, z⟩ := h a m; ⟨xs, e _ _ z⟩
theorem Ls.ntup {N : List Addr} {H : Hp} {a : Addr} {xs : List V} (h : Ls N H) (e : H a = some (.tup xs)) : a ∉ N := fun m => by
  obtain ⟨ys, z⟩ := h a m; rw [e] at z; cases z
theorem same_del {N : List Addr} {H H' : Hp} (e : Same H H') : Same (del N H) (del N H') := fun b o z => del_of (e _ _ (del_some z).1) (del_some z).2
theorem del_sub {N : List Addr} {H : Hp} : Same (del N H) H := fun b o z => (del_some z).1
structure At (N : List Addr) (H0 H1 : Hp) : Prop where
  s : Same H0 (del N H1)
  l : Ls N H1
theorem At.go {N : List Addr} {H0 H1 H2 : Hp} (h : At N H0 H1) (e : Same H1 H2) : At N H0 H2 := ⟨h.s.trans (same_del e), h.l.same e⟩
def Da (N : List Addr) (t : TA) (σ : St) (H : Hp) (ds : List PyData) : Prop := ∀ H1, At N H H1 → ∀ Q : List V → Hp → Prop, (∀ vs H2, Same H1 H2 → RdDs (del N H2) vs ds → Q vs H2) → t σ H1 Q
section
variable {N : List Addr} {σ : St} {H : Hp} {K : PySem.W.Frag}
def cutG {α : Type} (xs : List α) (lo hi : Option Int) : List α := (xs.drop (HT.sIx xs.length 0 lo)).take (HT.sIx xs.length xs.length hi - HT.sIx xs.length 0 lo)
end
def rD (x : Rat) : PyData := .tuple [.int x.num, .int (x.den : Int)]
end L2
set_option Elab.async false
set_option linter.all false
set_option maxRecDepth 100000
namespace L2
open PySem PySem.Spec PyProof.Rows
theorem szl {n : Nat} (h : n ≤ 1000) : n ≤ sizeLine := Nat.le_of_lt (small1000 h)
theorem cutG_from {α : Type} (xs : List α) (j : Nat) : cutG xs (some (j : Int)) none = xs.drop j := by
  unfold cutG
  rw [HT.sIx_none, HT.sIx_nat]
  rcases Nat.le_total j xs.length with h | h
  · rw [Nat.min_eq_left h, List.take_of_length_le (by rw [List.length_drop]; exact Nat.le_refl _)]
  · rw [Nat.min_eq_right h, Nat.sub_self, List.take_zero, List.drop_of_length_le h]
theorem st_set {te : TE} {i : Nat} {u : TS} {D : Ends} {σ : St} {H : Hp} (h : te σ H fun v H1 => u D (σ.set i (some v)) H1) : tSeq (tAsg te (gName i)) u D σ H := h
theorem st_for {wi : TI} {g : TG} {tb : TS} {u : TS} {D : Ends} {σ : St} {H : Hp} (h : tFor wi g tb { D with nx := u D } σ H) : tSeq (tFor wi g tb) u D σ H := h
theorem st_while {c : TT} {tb : TS} {u : TS} {D : Ends} {σ : St} {H : Hp} (h : tWhile c tb { D with nx := u D } σ H) : tSeq (tWhile c tb) u D σ H := h
structure FS (H0 H1 : Hp) (l : Addr) (ds : List PyData) : Prop where
  at_ : At [l] H0 H1
  ex : ∃ xs, H1 l = some (.lst xs) ∧ RdDs (del [l] H1) xs ds
theorem FS.rd {H0 H1 : Hp} {l : Addr} {ds : List PyData} (f : FS H0 H1 l ds) : RdD H1 (.ref l) (.list ds) := by
  obtain ⟨xs, h, r⟩ := f.ex
  exact .lst h (r.same del_sub)
theorem FS.go {H0 H1 H2 : Hp} {l : Addr} {ds : List PyData} (f : FS H0 H1 l ds) (e : Same H1 H2) : FS H0 H2 l ds := by
  obtain ⟨xs, h, r⟩ := f.ex
  exact ⟨f.at_.go e, xs, e _ _ h, r.same (same_del e)⟩
theorem del_upd {H : Hp} {p : Addr} {o : HO} : del [p] (upd H p o) = del [p] H := by
  funext a
  unfold del
  by_cases h : a = p
  · rw [if_pos (by simpa using h), if_pos (by simpa using h)]
  · rw [if_neg (by simpa using h), if_neg (by simpa using h), upd_ne h]
section
variable {N : List Addr} {σ : St} {H0 : Hp} {K : PySem.W.Frag}
end
end L2
set_option Elab.async false
set_option linter.all false
set_option maxRecDepth 100000
namespace L2
open PySem PySem.Spec PyProof.Rows
inductive Bx (p : Prop) : Prop
  | mk (h : p) : Bx p
section
variable {X : Cx}
theorem bx_scons {st : Stmt} {rest : List Stmt} {t u : TS} (h1 : Bx (PS X st t)) (h2 : Bx (PSs X rest u)) : Bx (PSs X (st :: rest) (tSeq t u)) := by
  obtain ⟨h1⟩ := h1; obtain ⟨h2⟩ := h2; exact ⟨pss_cons h1 h2⟩
end
section
variable {P : Program} {w : World} {K : PySem.W.Frag} {mg : Str → Option Value} {base : Heap}
theorem Df.calB {x : Str} {st : Stmt} {N ps : List Str} {dvs : List V} {k : Nat} {sp : Sp} (D : Df K mg x st ps dvs) (S : FnScope N ps (defScope st)) (len : ∀ vs H Q E, sp vs H Q E → vs.length = ps.length)
    (hbody : ∀ (f : Addr) (cdv : Value) (A : Around) (outer : List Env) (s : Shared) (H : Hp) (vs : List V) (Q : VK) (E : XK), Room k (A.deeper (envOfC x (defScope st) s.heap.objs.size f cdv)) → sp vs H Q E →
      ∃ t, Bx (PSs (cxOf CX0 P w K mg base N x (defScope st) f cdv A outer s H E).nox (defBody st) t) ∧ t { nx := fun _ H' => Q .non H', rt := Q } (start N vs) H) : Cal P w K mg base x (k + 1) ps dvs sp :=
  D.cal S len fun f cdv A outer s H vs Q E hr h => by
    obtain ⟨t, ⟨p⟩, q⟩ := hbody f cdv A outer s H vs Q E hr h
    exact ⟨t, p, q⟩
end
end L2
set_option Elab.async false
set_option linter.all false
set_option maxRecDepth 100000
namespace L2
open PySem PySem.Spec PyProof.Rows
def TupS (H H' : Hp) : Prop := ∀ b xs, H b = some (.tup xs) → H' b = some (.tup xs)
theorem TupS.of {H H' : Hp} (h : Same H H') : TupS H H' := fun b xs e => h b _ e
theorem TupS.trans {H H1 H2 : Hp} (a : TupS H H1) (b : TupS H1 H2) : TupS H H2 := fun c xs e => b c xs (a c xs e)
theorem TupS.upd {H : Hp} {D : Addr} {ys : List V} {o : HO} (h : H D = some (.lst ys)) : TupS H (upd H D o) := fun b xs e => by rw [upd_ne (fun z => by subst z; rw [h] at e; cases e)]; exact e
structure Runs (J : It) (H : Hp) (xs : List V) : Prop where
  go : ∀ i H', i < xs.length → Same H H' → J.go i H'
  stop : ∀ H', Same H H' → J.stop xs.length H'
  yld : ∀ i x H2 H3, Same H H2 → J.yld i H2 x H3 → H3 = H2 ∧ xs[i]? = some x
theorem runs_list {K : PySem.W.Frag} {H : Hp} {a : Addr} {xs : List V} (h : H a = some (.lst xs)) : Runs (Itl K a) H xs :=
  ⟨fun i H' hi s => ⟨xs, xs[i], .of (s _ _ h), by simp [hi]⟩, fun H' s => ⟨xs, .of (s _ _ h), Nat.le_refl _⟩, fun i x H2 H3 s y => ⟨y.1, y.2 xs (.of (s _ _ h))⟩⟩
theorem runs_tup {K : PySem.W.Frag} {H : Hp} {a : Addr} {xs : List V} (h : H a = some (.tup xs)) : Runs (Itt K a) H xs :=
  ⟨fun i H' hi s => ⟨xs, xs[i], .of (s _ _ h), by simp [hi]⟩, fun H' s => ⟨xs, .of (s _ _ h), Nat.le_refl _⟩, fun i x H2 H3 s y => ⟨y.1, y.2 xs (.of (s _ _ h))⟩⟩
section
variable {J : It} {D : Addr} {n : Nat} {js : List Nat} {σ : St} {g : TG} {te : TE} {Z : Hp → Prop} {H : Hp} {xs : List V}
theorem comp_each (R : Nat → V → Hp → Prop) (hR : ∀ i v H H', TupS H H' → R i v H → R i v H') (hD : H D = none) (hJ : Runs J H xs) (hl : xs.length < sizeLine)
    (hs : ∀ i x zs H2 Q', xs[i]? = some x → zs.length = n → Same H H2 → (∀ v H6, Same H2 H6 → R i v H6 → Q' v H6) → g x zs H2 fun σ4 H4 => te σ4 H4 Q')
    (k : ∀ ys H', Same H H' → H' D = some (.lst ys) → ys.length = xs.length → (∀ i v, ys[i]? = some v → R i v H') → Z H') :
    ∃ W : Nat → Nat → Hp → List V → Prop, (∃ m, W 0 m (upd H D (.lst [])) []) ∧ ∀ i m H2 ys, W i m H2 ys → H2 D = some (.lst ys) → (J.stop i H2 ∧ Z H2) ∨
      (J.go i H2 ∧ ∀ σB x H3, σB.length = n → J.yld i H2 x H3 → g x σB H3 fun σ4 H4 => (fun _ H Q => Q true H : TT) σ4 H4 fun b H5 => if b = true then te σ4 H5 (fun v H6 => H6 D = some (.lst ys) ∧ ys.length < sizeLine ∧ ∃ m', m' < m ∧ W (i + 1) m' (upd H6 D (.lst (ys ++ [v]))) (ys ++ [v]))
        else H5 D = some (.lst ys) ∧ ∃ m', m' < m ∧ W (i + 1) m' H5 ys) := by
  refine comp_by (Q := fun _ H => Z H) (tt := fun _ H Q => Q true H) (N := xs.length) (fun i H2 ys => Same H H2 ∧ ys.length = i ∧ ∀ j v, ys[j]? = some v → R j v H2) ⟨Same.upd hD, rfl, fun j v e => by simp at e⟩ (fun i H2 ys hi p => hJ.go i H2 hi p.1) (fun H2 ys p => hJ.stop H2 p.1) ?_ (fun H2 ys p e => k ys H2 p.1 e p.2.1 p.2.2)
  rintro i x zs H2 H3 ys Nx hN hi hz hy ⟨s2, hyl, hyR⟩ hD2
  obtain ⟨rfl, hx⟩ := hJ.yld i x H2 H3 s2 hy
  refine hs i x zs H3 _ hx hz s2 fun v H6 s6 r6 => ⟨s6 _ _ hD2, by omega, hN _ _ ⟨fun c o e => ?_, by simp [hyl], fun j u e => ?_⟩⟩
  · rw [upd_ne (ne_of_none e hD)]; exact s6 _ _ (s2 _ _ e)
  · have T6 : TupS H6 (upd H6 D (.lst (ys ++ [v]))) := .upd (s6 _ _ hD2)
    by_cases hj : j < ys.length
    · rw [List.getElem?_append_left hj] at e
      exact hR _ _ _ _ ((TupS.of s6).trans T6) (hyR j u e)
    · rw [List.getElem?_append_right (by omega)] at e
      have : j - ys.length = 0 := by
        rcases Nat.eq_zero_or_pos (j - ys.length) with z | z
        · exact z
        · rw [List.getElem?_eq_none (by simp; omega)] at e; cases e
      rw [this] at e
      simp at e
      subst e
      rw [show j = i by omega]
      exact hR _ _ _ _ T6 r6
theorem compC_each (R : Nat → V → Hp → Prop) (hR : ∀ i v H H', TupS H H' → R i v H → R i v H') (hD : H D = none) (hJ : Runs J H xs) (hl : xs.length < sizeLine)
    (hs : ∀ i x zs H2 Q', xs[i]? = some x → zs.length = n → Same H H2 → (∀ v H6, Same H2 H6 → R i v H6 → Q' v H6) → g x (zs ++ caps σ js) H2 fun σ4 H4 => σ4.drop n = caps σ js ∧ te σ4 H4 Q')
    (k : ∀ ys H', Same H H' → H' D = some (.lst ys) → ys.length = xs.length → (∀ i v, ys[i]? = some v → R i v H') → Z H') :
    ∃ W : Nat → Nat → Hp → List V → Prop, (∃ m, W 0 m (upd H D (.lst [])) []) ∧ ∀ i m H2 ys, W i m H2 ys → H2 D = some (.lst ys) → (J.stop i H2 ∧ Z H2) ∨
      (J.go i H2 ∧ ∀ zs x H3, zs.length = n → J.yld i H2 x H3 → g x (zs ++ caps σ js) H3 fun σ4 H4 => σ4.drop n = caps σ js ∧ (fun _ H Q => Q true H : TT) σ4 H4 fun b H5 => if b = true then te σ4 H5 (fun v H6 => H6 D = some (.lst ys) ∧ ys.length < sizeLine ∧ ∃ m', m' < m ∧ W (i + 1) m' (upd H6 D (.lst (ys ++ [v]))) (ys ++ [v]))
        else H5 D = some (.lst ys) ∧ ∃ m', m' < m ∧ W (i + 1) m' H5 ys) := by
  refine compC_by (Q := fun _ H => Z H) (tt := fun _ H Q => Q true H) (N := xs.length) (fun i H2 ys => Same H H2 ∧ ys.length = i ∧ ∀ j v, ys[j]? = some v → R j v H2) ⟨Same.upd hD, rfl, fun j v e => by simp at e⟩ (fun i H2 ys hi p => hJ.go i H2 hi p.1) (fun H2 ys p => hJ.stop H2 p.1) ?_ (fun H2 ys p e => k ys H2 p.1 e p.2.1 p.2.2)
  rintro i x zs H2 H3 ys Nx hN hi hz hy ⟨s2, hyl, hyR⟩ hD2
  obtain ⟨rfl, hx⟩ := hJ.yld i x H2 H3 s2 hy
  refine hs i x zs H3 _ hx hz s2 fun v H6 s6 r6 => ⟨s6 _ _ hD2, by omega, hN _ _ ⟨fun c o e => ?_, by simp [hyl], fun j u e => ?_⟩⟩
  · rw [upd_ne (ne_of_none e hD)]; exact s6 _ _ (s2 _ _ e)
  · have T6 : TupS H6 (upd H6 D (.lst (ys ++ [v]))) := .upd (s6 _ _ hD2)
    by_cases hj : j < ys.length
    · rw [List.getElem?_append_left hj] at e
      exact hR _ _ _ _ ((TupS.of s6).trans T6) (hyR j u e)
    · rw [List.getElem?_append_right (by omega)] at e
      have : j - ys.length = 0 := by
        rcases Nat.eq_zero_or_pos (j - ys.length) with z | z
        · exact z
        · rw [List.getElem?_eq_none (by simp; omega)] at e; cases e
      rw [this] at e
      simp at e
      subst e
      rw [show j = i by omega]
      exact hR _ _ _ _ T6 r6
end
end L2
namespace L2
open PySem PySem.Spec PyProof.Rows
section
variable {J : It} {D : Addr} {n : Nat} {σ : St} {g : TG} {tt : TT} {te : TE} {Z : Hp → Prop} {H : Hp} {xs : List V}
end
end L2
set_option Elab.async false
set_option linter.all false
set_option maxRecDepth 100000
namespace L2
open PySem PySem.Spec PyProof.Rows
section
variable {prog : Program} {w : World} {A : Around} {E : Value → Shared → Prop} {s : Shared}
structure ZTL (z TI TO j1 j2 t1 t2 : Addr) (f0 : Value) (i1 i2 : Nat) (h : Heap) : Prop where
  z : IsZip h z TI TO f0
  ti : IsPair h TI (.ref j1) (.ref j2)
  to : ∃ a b, IsPair h TO a b
  i1 : h.IsListIter j1 t1 i1
  i2 : h.IsListIter j2 t2 i2
section
variable {z TI TO j1 j2 t1 t2 : Addr} {i : Nat} {xs ys : Array Value}
end
end

section
variable {X : Cx}
end
end L2
set_option Elab.async false
set_option linter.all false
set_option maxRecDepth 100000
namespace L2
open PySem PySem.Spec PyProof.Rows
def Ite (K : PySem.W.Frag) (l : Addr) : It :=
  ⟨fun i H => ∃ xs x, SqL K H l xs ∧ xs[i]? = some x,
   fun i H v H' => ∃ T x, v = .ref T ∧ H T = none ∧ H' = upd H T (.tup [.int i, x]) ∧ ∀ xs, SqL K H l xs → xs[i]? = some x,
   fun i H => ∃ xs, SqL K H l xs ∧ xs.length ≤ i⟩
theorem turn_enum {P : Program} {w : World} {K : PySem.W.Frag} {elts : List Expr} {kc : Nat} {tp : Pos} (e it l : Addr) (hne : e ≠ it) :
    Turn P w K (.Tuple elts kc tp) (Ite K l) [e, it] e (fun i h => (∃ old, IsEnum h e it (i : Int) old) ∧ h.IsListIter it l i) where
  mem := by simp
  obj := fun i h st b hb => by
    obtain ⟨⟨old, Z⟩, o1, e1, _, d1⟩ := st
    simp only [List.mem_cons, List.not_mem_nil, or_false] at hb
    rcases hb with rfl | rfl
    · exact ⟨_, Z, fun _ r => by cases r⟩
    · exact ⟨_, e1, fun _ r => by rw [d1] at r; cases r⟩
  keep := fun i h h' st k => by
    obtain ⟨⟨old, Z⟩, Z1⟩ := st
    exact ⟨⟨old, k e (by simp) _ Z⟩, Z1.at fun o q => k it (by simp) o q⟩
  item := by
    intro X hP hw hK hc i pins s σ H E I hf st hg
    subst hP hw hK
    obtain ⟨xs, x, h1, ex⟩ := hg
    obtain ⟨us, r1, p1, _⟩ := I.list h1
    obtain ⟨ux, eu, rx⟩ := r1.get ex
    obtain ⟨⟨old, Z⟩, Z1⟩ := st
    refine wpAny_pyNext_enum_item Z Z1 p1.isList (x := ux) (by simpa using eu) hne fun h' Zo Zi pr sz kk => ⟨_, rfl, ?_⟩
    refine wpAny_letOwnedTupleGo_enum (s := { s with heap := h', toks := s.toks + 1 }) Zo fun h2' Zz' sb => ?_
    replace sb : Heap.SameBut e h' h2' := sb
    have hTz : s.heap.objs.size ≠ e := Nat.ne_of_gt (Heap.lt_size Z)
    have kk2 : ∀ c o, c ≠ e → c ≠ it → s.heap.get? c = some o → h2'.get? c = some o := fun c o c1 c2 q => (sb.2 c c1).trans (kk c o c1 c2 q)
    have prT : h2'.get? s.heap.objs.size = some { cls := .type "tuple", data := .seq #[.int i s.toks, ux] } := (sb.2 _ hTz).trans pr
    have hT : H s.heap.objs.size = none := I.hok.fresh (Nat.le_refl _)
    have neC : ∀ b, b ∉ [e, it] → b ≠ e ∧ b ≠ it := fun b hb => by simpa using hb
    have trk : ∀ b u, H b = some u → b ≠ e ∧ b ≠ it := fun b u q => by
      refine ⟨?_, ?_⟩ <;> rintro rfl
      · rw [(hf b (by simp)).1] at q; cases q
      · rw [(hf b (by simp)).1] at q; cases q
    have ltT : ∀ b o, s.heap.get? b = some o → b ≠ s.heap.objs.size := fun b o q => Nat.ne_of_lt (Heap.lt_size q)
    have u : Un (frs X.stack) [e, it] H (upd H s.heap.objs.size (.tup [.int i, x])) s.heap h2' :=
      ⟨fun b o q n _ hb => by obtain ⟨c1, c2⟩ := neC b hb; exact kk2 b o c1 c2 q, fun b o q n _ hb => by obtain ⟨c1, c2⟩ := neC b hb; exact ⟨o.slots, kk2 b o c1 c2 q⟩,
        fun b o q n hb => by rw [upd_ne (ltT b o q)]; exact n, fun b o q hb => by obtain ⟨c1, c2⟩ := neC b hb; exact ⟨o, kk2 b o c1 c2 q⟩,
        fun b ws q => by rw [upd_ne (ne_of_none q hT)]; exact q, fun b o ws q => by rw [upd_ne (ne_of_none q hT)]; exact q, fun b ps q => ⟨#[], by rw [upd_ne (ne_of_none q hT), q]; simp⟩⟩
    have hok : HOk X.prog X.w (upd H s.heap.objs.size (.tup [.int i, x])) h2' := fun b ob q => by
      by_cases hb : b = s.heap.objs.size
      · subst hb
        rw [upd_same] at q; cases q
        exact ⟨by show 2 ≤ sizeLine; decide, [.int i s.toks, ux], .cons ⟨_, rfl⟩ (.cons rx .nil), _, prT, rfl, 0, rfl⟩
      · rw [upd_ne hb] at q
        refine (I.hok b ob q).stay (fun c v hc' qc => ?_) (fun c q => by rw [upd_ne (ne_of_none q hT)]; exact q) fun c ws q => by rw [upd_ne (ne_of_none q hT)]; exact q
        have : ∃ o, H c = some o := by
          rcases hc' with rfl | hc'
          · exact ⟨_, q⟩
          · exact ⟨_, hc'⟩
        obtain ⟨o, ho⟩ := this
        obtain ⟨c1, c2⟩ := trk c o ho
        exact kk2 c v c1 c2 qc
    refine ⟨.ref s.heap.objs.size, upd H s.heap.objs.size (.tup [.int i, x]), ?_, rfl, ⟨_, x, rfl, hT, rfl, fun xs' h => by rw [I.list_inj h h1]; exact ex⟩,
      ⟨⟨_, by rw [Int.natCast_add]; exact Zz'⟩, Zi.at fun o q => (sb.2 _ hne.symm).trans q⟩, fun b hb => ?_⟩
    · refine I.call' (s' := { s with heap := h2', toks := s.toks + 1 }) (ch := [e, it]) rfl u hok I.bare fun b hb => ?_
      obtain ⟨_, z1, z2, z3, z4, z5⟩ := hf b hb
      exact ⟨z3, z1, z4, z5⟩
    · obtain ⟨o, q⟩ : ∃ o, s.heap.get? b = some o := by
        obtain ⟨o1, e1, _⟩ := Z1
        simp only [List.mem_cons, List.not_mem_nil, or_false] at hb
        rcases hb with rfl | rfl
        · exact ⟨_, Z⟩
        · exact ⟨_, e1⟩
      rw [upd_ne (ltT b o q)]; exact (hf b hb).1
  done := by
    intro X hP hw hK hc i pins s σ H E I hf st hg
    subst hP hw hK
    obtain ⟨xs, h1, en⟩ := hg
    obtain ⟨us, r1, p1, _⟩ := I.list h1
    have l1 := r1.length
    obtain ⟨⟨old, Z⟩, Z1⟩ := st
    obtain ⟨f0, f1, f2, f3, f4, f5⟩ := hf it (by simp)
    exact wpAny_pyNext_enum_end (I.ok.hd hc) Z Z1 p1.isList (by simp; omega) fun h' eb => ⟨rfl, I.turned (t' := s.toks) (fun b o hb q => eb b o hb q) f0 f1 f3 f4 f5⟩
  self := fun _ _ _ _ _ st h => by obtain ⟨⟨old, Z⟩, _⟩ := st; exact wpAny_pyIter_enum Z h
end L2
namespace KM
theorem minus_eq (a b : Rat) : Rat.divInt (a.num * b.den - b.num * a.den) (a.den * b.den) = a - b := by
  rw [Rat.sub_def', ← Rat.divInt_ofNat]; simp
section
variable {x s : Rat}
end
section
variable {x : Rat} {f : Int}
end
end KM
section
set_option maxHeartbeats 8000000
set_option Elab.async false
set_option linter.all false
set_option maxRecDepth 100000
namespace L2
open PySem PySem.Spec PyProof.Rows
end L2
namespace L2
open PySem PySem.Spec PyProof.Rows
end L2
namespace L2
open PySem PySem.Spec PyProof.Rows
end L2
namespace L2
open PySem PySem.Spec PyProof.Rows
end L2
namespace L2
open PySem PySem.Spec PyProof.Rows
end L2
namespace L2
open PySem PySem.Spec PyProof.Rows
end L2
namespace L2
open PySem PySem.Spec PyProof.Rows
end L2
namespace L2
open PySem PySem.Spec PyProof.Rows
end L2
namespace L2
open PySem PySem.Spec PyProof.Rows
end L2
namespace L2
open PySem PySem.Spec PyProof.Rows
end L2
namespace L2
open PySem PySem.Spec PyProof.Rows
section
variable {κ : Type} [DecidableEq κ]
def valV (kvs : List (κ × V)) (k : κ) : Option V := (kvs.find? fun kv => decide (kv.1 = k)).map (·.2)
def putK (kvs : List (κ × V)) (k : κ) (v : V) : List (κ × V) :=
  if (kvs.any fun kv => decide (kv.1 = k)) = true then kvs.map (fun kv => if kv.1 = k then (kv.1, v) else kv) else kvs ++ [(k, v)]
theorem valV_pos {p : κ × V} {r : List (κ × V)} {k : κ} (e : p.1 = k) : valV (p :: r) k = some p.2 := by simp [valV, List.find?_cons, e]
theorem valV_neg {p : κ × V} {r : List (κ × V)} {k : κ} (e : ¬ p.1 = k) : valV (p :: r) k = valV r k := by simp [valV, List.find?_cons, e]
theorem valV_any (k : κ) : ∀ kvs : List (κ × V), (kvs.any fun kv => decide (kv.1 = k)) = (valV kvs k).isSome
  | [] => rfl
  | p :: r => by
    rw [List.any_cons]
    by_cases e : p.1 = k
    · simp only [valV_pos e, decide_eq_true e, Bool.true_or, Option.isSome_some]
    · rw [valV_neg e, decide_eq_false e, Bool.false_or]; exact valV_any k r
theorem length_putK (kvs : List (κ × V)) (k : κ) (v : V) : (putK kvs k v).length ≤ kvs.length + 1 := by
  unfold putK
  split
  · rw [List.length_map]; omega
  · rw [List.length_append, List.length_cons, List.length_nil]; omega
theorem RelO.isSome_eq {o : Option V} {u : Option Value} (r : RelO o u) : o.isSome = u.isSome := by
  cases o with
  | none => cases u with
    | none => rfl
    | some _ => exact (show False from r).elim
  | some _ => cases u with
    | none => exact (show False from r).elim
    | some _ => rfl
theorem KV.val {kvs : List (κ × V)} {vs : List (κ × Value)} (r : KV kvs vs) (k : κ) : RelO (valV kvs k) (valueAt vs k) := by
  unfold KV at r
  induction r with
  | nil => exact True.intro
  | @cons p q ps qs h t ih =>
    obtain ⟨h1, h2⟩ := h
    by_cases e : p.1 = k
    · have e' : q.1 = k := h1.symm.trans e
      have b : valueAt (q :: qs) k = some q.2 := by simp [valueAt, List.find?_cons, e']
      rw [valV_pos e, b]; exact h2
    · have e' : ¬ q.1 = k := fun z => e (h1.trans z)
      have b : valueAt (q :: qs) k = valueAt qs k := by simp [valueAt, List.find?_cons, e']
      rw [valV_neg e, b]; exact ih
theorem KV.any {kvs : List (κ × V)} {vs : List (κ × Value)} (r : KV kvs vs) (k : κ) : (kvs.any fun kv => decide (kv.1 = k)) = vs.any fun kv => decide (kv.1 = k) := by
  unfold KV at r
  induction r with
  | nil => rfl
  | cons h t ih => rw [List.any_cons, List.any_cons, ih, h.1]
theorem KV.repl {kvs : List (κ × V)} {vs : List (κ × Value)} (r : KV kvs vs) (k : κ) {y : V} {u : Value} (ry : RelV y u) :
    KV (kvs.map fun kv => if kv.1 = k then (kv.1, y) else kv) (vs.map fun kv => if kv.1 = k then (kv.1, u) else kv) := by
  unfold KV at r ⊢
  induction r with
  | nil => exact .nil
  | @cons p q ps qs h t ih =>
    rw [List.map_cons, List.map_cons]
    refine .cons ?_ ih
    obtain ⟨h1, h2⟩ := h
    by_cases e : p.1 = k
    · rw [if_pos e, if_pos (h1.symm.trans e)]; exact ⟨h1, ry⟩
    · rw [if_neg e, if_neg (fun z => e (h1.trans z))]; exact ⟨h1, h2⟩
theorem KV.put {kvs : List (κ × V)} {vs : List (κ × Value)} (r : KV kvs vs) (k : κ) {y : V} {u : Value} (ry : RelV y u) : KV (putK kvs k y) (stored vs k u) := by
  unfold putK stored
  rw [r.any k]
  by_cases e : (vs.any fun kv => decide (kv.1 = k)) = true
  · rw [if_pos e, if_pos e]; exact r.repl k ry
  · rw [if_neg e, if_neg e]; exact Paired.snoc r ⟨rfl, ry⟩
theorem KV.keys {kvs : List (κ × V)} {vs : List (κ × Value)} (r : KV kvs vs) : kvs.map (·.1) = vs.map (·.1) := by
  unfold KV at r
  induction r with
  | nil => rfl
  | cons h t ih => rw [List.map_cons, List.map_cons, ih, h.1]
theorem KV.length {kvs : List (κ × V)} {vs : List (κ × Value)} (r : KV kvs vs) : kvs.length = vs.length := Paired.length r
end
theorem kV_is {P : Program} {w : World} {k : Key} {u : Value} (r : RelV (kV k) u) : (mixKind P w).is k u = true := by
  cases k with
  | inl i => obtain ⟨t, e⟩ := (show ∃ t, u = Value.int i t from r); subst e; exact mixKind_int P w i t
  | inr x => obtain ⟨t, e⟩ := (show ∃ t, u = Value.str x t from r); subst e; exact mixKind_str P w x t
theorem items_are {P : Program} {w : World} : ∀ {ks : List Key} {us : List Value}, Vals (ks.map kV) us → ItemsAre (mixKind P w) ks us
  | [], _, r => by rw [List.map_nil] at r; cases r; exact .nil
  | k :: ks, _, r => by
    rw [List.map_cons] at r
    cases r with
    | cons h t => exact .cons (kV_is h) (items_are t)
abbrev KT (H : Hp) : List (List Key × V) → List (List Key × Addr × Value) → Prop := Paired fun p q => p.1 = q.1 ∧ H q.2.1 = some (.tup (p.1.map kV)) ∧ RelV p.2 q.2.2
theorem KT.val {H : Hp} {kvs : List (List Key × V)} {xs : List (List Key × Addr × Value)} (r : KT H kvs xs) (k : List Key) : RelO (valV kvs k) ((atKey xs k).map (·.2)) := by
  induction r with
  | nil => exact True.intro
  | @cons p q ps qs h t ih =>
    obtain ⟨h1, _, h2⟩ := h
    by_cases e : p.1 = k
    · have e' : q.1 = k := h1.symm.trans e
      have b : atKey (q :: qs) k = some q.2 := by simp [atKey, List.find?_cons, e']
      rw [valV_pos e, b]; exact h2
    · have e' : ¬ q.1 = k := fun z => e (h1.trans z)
      have b : atKey (q :: qs) k = atKey qs k := by simp [atKey, List.find?_cons, e']
      rw [valV_neg e, b]; exact ih
theorem KT.repl {H : Hp} {kvs : List (List Key × V)} {xs : List (List Key × Addr × Value)} (r : KT H kvs xs) (k : List Key) {y : V} {u : Value} (ry : RelV y u) :
    KT H (kvs.map fun kv => if kv.1 = k then (kv.1, y) else kv) (xs.map (putAt k u)) := by
  induction r with
  | nil => exact .nil
  | @cons p q ps qs h t ih =>
    rw [List.map_cons, List.map_cons]
    refine .cons ?_ ih
    obtain ⟨h1, h2, h3⟩ := h
    unfold putAt
    by_cases e : p.1 = k
    · rw [if_pos e, if_pos (h1.symm.trans e)]; exact ⟨h1, h2, ry⟩
    · rw [if_neg e, if_neg (fun z => e (h1.trans z))]; exact ⟨h1, h2, h3⟩
theorem KT.put {H : Hp} {kvs : List (List Key × V)} {xs : List (List Key × Addr × Value)} (r : KT H kvs xs) (k : List Key) {b : Addr} {y : V} {u : Value} (hb : H b = some (.tup (k.map kV))) (ry : RelV y u) :
    KT H (putK kvs k y) (storedH xs k b u) := by
  have e : (kvs.any fun kv => decide (kv.1 = k)) = (atKey xs k).isSome := by
    rw [valV_any, (r.val k).isSome_eq, Option.isSome_map]
  unfold putK storedH
  rw [e]
  by_cases q : (atKey xs k).isSome = true
  · rw [if_pos q, if_pos q]; exact r.repl k ry
  · rw [if_neg q, if_neg q]; exact Paired.snoc r ⟨rfl, hb, ry⟩
theorem KT.keeps {H H' : Hp} {kvs : List (List Key × V)} {xs : List (List Key × Addr × Value)} (r : KT H kvs xs) (ht : ∀ b ys, H b = some (.tup ys) → H' b = some (.tup ys)) : KT H' kvs xs :=
  Paired.mapP r fun _ _ z => ⟨z.1, ht _ _ z.2.1, z.2.2⟩
section
variable {P : Program} {w : World} {H : Hp} {h : Heap} {a : Addr}
theorem rd_of {u : HO} (ok : HOk P w H h) (e : Rd H a u) : ObjOk P w H h a u := e.ok ok
theorem dk_rd {kvs : List (Key × V)} (ok : HOk P w H h) (e : Rd H a (.dK kvs)) : kvs.length ≤ sizeLine ∧ (a == sysModules) = false ∧ ∃ vs, KV kvs vs ∧ h.DictOf (mixKind P w) a vs :=
  show ObjOk P w H h a (.dK kvs) from rd_of ok e
theorem dk_of {kvs : List (Key × V)} (ok : HOk P w H h) (e : H a = some (.dK kvs)) : kvs.length ≤ sizeLine ∧ (a == sysModules) = false ∧ ∃ vs, KV kvs vs ∧ h.DictOf (mixKind P w) a vs := dk_rd ok (.inl e)
theorem key_of {ks : List Key} (ok : HOk P w H h) (e : H a = some (.tup (ks.map kV))) : (tupleKind (mixKind P w)).is h ks a := by
  obtain ⟨_, its, r, o, h1, h2, n, h3⟩ := (show ObjOk P w H h a (.tup (ks.map kV)) from ok a _ e)
  exact ⟨o, its.toArray, n, h1, h2, h3, by simpa using items_are r⟩
theorem dt_rd {kvs : List (List Key × V)} (ok : HOk P w H h) (e : Rd H a (.dT kvs)) : kvs.length ≤ sizeLine ∧ (a == sysModules) = false ∧
    ∃ xs, KT H kvs xs ∧ h.DictOfH (tupleKind (mixKind P w)) a xs := by
  obtain ⟨z, y, xs, r, o, es, ep, h1, h2, h3, h4, h5⟩ := (show ObjOk P w H h a (.dT kvs) from rd_of ok e)
  refine ⟨z, y, xs, r, o, es, ep, h1, h2, h3, h4, fun x hx => ?_, h5⟩
  have all : ∀ {l : List (List Key × V)} {m : List (List Key × Addr × Value)}, KT H l m → ∀ x ∈ m, (tupleKind (mixKind P w)).is h x.1 x.2.1 := by
    intro l m q
    induction q with
    | nil => intro x hx; exact nomatch hx
    | @cons p q ps qs hq t ih =>
      intro x hx
      rcases List.mem_cons.mp hx with e | hx
      · subst e
        exact key_of ok (by rw [← hq.1]; exact hq.2.1)
      · exact ih x hx
  exact all r x hx
theorem dt_of {kvs : List (List Key × V)} (ok : HOk P w H h) (e : H a = some (.dT kvs)) : kvs.length ≤ sizeLine ∧ (a == sysModules) = false ∧
    ∃ xs, KT H kvs xs ∧ h.DictOfH (tupleKind (mixKind P w)) a xs := dt_rd ok (.inl e)
end
def DGet (H : Hp) (a : Addr) (y : V) (r : Option V) : Prop :=
  (∃ kvs k, Rd H a (.dK kvs) ∧ y = kV k ∧ r = valV kvs k) ∨ ∃ kvs k b, Rd H a (.dT kvs) ∧ y = .ref b ∧ H b = some (.tup (k.map kV)) ∧ r = valV kvs k
def DPut (H : Hp) (a : Addr) (y v : V) (H' : Hp) : Prop :=
  (∃ kvs k, H a = some (.dK kvs) ∧ y = kV k ∧ kvs.length < sizeLine ∧ H' = upd H a (.dK (putK kvs k v))) ∨
  ∃ kvs k b, H a = some (.dT kvs) ∧ y = .ref b ∧ H b = some (.tup (k.map kV)) ∧ kvs.length < sizeLine ∧ H' = upd H a (.dT (putK kvs k v))
theorem DGet.k {H : Hp} {a : Addr} {kvs : List (Key × V)} {k : Key} (e : H a = some (.dK kvs)) : DGet H a (kV k) (valV kvs k) := .inl ⟨kvs, k, .inl e, rfl, rfl⟩
theorem DGet.t {H : Hp} {a b : Addr} {kvs : List (List Key × V)} {k : List Key} (e : H a = some (.dT kvs)) (eb : H b = some (.tup (k.map kV))) : DGet H a (.ref b) (valV kvs k) := .inr ⟨kvs, k, b, .inl e, rfl, eb, rfl⟩
theorem DPut.k {H : Hp} {a : Addr} {kvs : List (Key × V)} {k : Key} {v : V} (e : H a = some (.dK kvs)) (hl : kvs.length < sizeLine) : DPut H a (kV k) v (upd H a (.dK (putK kvs k v))) := .inl ⟨kvs, k, e, rfl, hl, rfl⟩
theorem DPut.t {H : Hp} {a b : Addr} {kvs : List (List Key × V)} {k : List Key} {v : V} (e : H a = some (.dT kvs)) (eb : H b = some (.tup (k.map kV))) (hl : kvs.length < sizeLine) :
    DPut H a (.ref b) v (upd H a (.dT (putK kvs k v))) := .inr ⟨kvs, k, b, e, rfl, eb, hl, rfl⟩
section
variable {X : Cx} {pins : List (Addr × Obj)} {σ : St} {H : Hp} {s : Shared} {a : Addr} {y v : V} {u r : Value} {o : Option V} {A : Around} {E : Value → Shared → Prop}
theorem Inv.big (I : Inv X pins σ H s) : sysModules < s.heap.objs.size := by
  have h : mainGlobals < s.heap.objs.size := (I.mod.glob.keeps I.bk).lt
  exact Nat.lt_trans (by decide) h
theorem d_getItem {Q : Value → Shared → Prop} (hu : A.units + 1 < cLine) (I : Inv X pins σ H s) (g : DGet H a y (some v)) (ry : RelV y u) (h : ∀ w' s', Inv X pins σ H s' → RelV v w' → Q w' s') :
    wpAny (model X.prog X.w) A (getItem (.ref a) u) Q E s := by
  rcases g with ⟨kvs, k, e, ey, l⟩ | ⟨kvs, k, b, e, ey, eb, l⟩
  · subst ey
    obtain ⟨z, hd, vs, rel, dd⟩ := dk_rd I.hok e
    obtain ⟨w', hw, rw'⟩ := RelO.some_of (v := v) (o := valueAt vs k) (by rw [l]; exact rel.val k)
    exact wpAny_getItem_of (kV_is ry) dd.mapOf hw (h w' _ (I.tok _) rw')
  · subst ey
    cases (show u = Value.ref b from ry)
    obtain ⟨z, hd, xs, rel, dd⟩ := dt_rd I.hok e
    obtain ⟨w', hw, rw'⟩ := RelO.some_of (v := v) (o := (atKey xs k).map (·.2)) (by rw [l]; exact rel.val k)
    obtain ⟨p, hp, hp2⟩ := Option.map_eq_some_iff.mp hw
    refine wpAny_getItem_heap (tupleKind_room_in1 hu) (key_of I.hok eb) dd hp ?_
    rw [hp2]
    exact h w' _ (I.tok _) rw'
theorem d_in {Q : Value → Shared → Prop} (hu : A.units + 1 < cLine) (I : Inv X pins σ H s) (g : DGet H a y o) (ry : RelV y u) (h : ∀ s', Inv X pins σ H s' → Q (.bool o.isSome) s') :
    wpAny (model X.prog X.w) A (compareOp .In u (.ref a)) Q E s := by
  rcases g with ⟨kvs, k, e, ey, l⟩ | ⟨kvs, k, b, e, ey, eb, l⟩
  · subst ey
    obtain ⟨z, hd, vs, rel, dd⟩ := dk_rd I.hok e
    refine wpAny_in_of (kV_is ry) hd dd.mapOf ?_
    rw [← (rel.val k).isSome_eq, ← l]
    exact h _ (I.tok _)
  · subst ey
    cases (show u = Value.ref b from ry)
    obtain ⟨z, hd, xs, rel, dd⟩ := dt_rd I.hok e
    refine wpAny_in_heap (tupleKind_room_in1 hu) (key_of I.hok eb) hd dd ?_
    have q := (rel.val k).isSome_eq
    rw [Option.isSome_map] at q
    rw [← q, ← l]
    exact h _ (I.tok _)
theorem d_notIn {Q : Value → Shared → Prop} (hu : A.units + 1 < cLine) (I : Inv X pins σ H s) (g : DGet H a y o) (ry : RelV y u) (h : ∀ s', Inv X pins σ H s' → Q (.bool (!o.isSome)) s') :
    wpAny (model X.prog X.w) A (compareOp .NotIn u (.ref a)) Q E s := by
  rcases g with ⟨kvs, k, e, ey, l⟩ | ⟨kvs, k, b, e, ey, eb, l⟩
  · subst ey
    obtain ⟨z, hd, vs, rel, dd⟩ := dk_rd I.hok e
    refine wpAny_notIn_of (kV_is ry) hd dd.mapOf ?_
    rw [← (rel.val k).isSome_eq, ← l]
    exact h _ (I.tok _)
  · subst ey
    cases (show u = Value.ref b from ry)
    obtain ⟨z, hd, xs, rel, dd⟩ := dt_rd I.hok e
    refine wpAny_notIn_heap (tupleKind_room_in1 hu) (key_of I.hok eb) hd dd ?_
    have q := (rel.val k).isSome_eq
    rw [Option.isSome_map] at q
    rw [← q, ← l]
    exact h _ (I.tok _)
theorem d_write {h' : Heap} {t' : Nat} {ob : HO} (I : Inv X pins σ H s) (mu : Mut (H a)) (hs : Heap.SameBut a s.heap h') (he : ∃ q, h'.get? a = some q) (new : ObjOk X.prog X.w (upd H a ob) h' a ob) :
    Inv X pins σ (upd H a ob) { s with heap := h', toks := t' } :=
  I.write (x := a) (e := a) mu (.inl rfl) (fun b q hb z => (hs.2 b hb).trans z) he new
theorem dk_new {P : Program} {w : World} {H' : Hp} {h' : Heap} {kvs : List (Key × V)} {vs : List (Key × Value)} (z : kvs.length ≤ sizeLine) (hd : (a == sysModules) = false) (rel : KV kvs vs) (dd : h'.DictOf (mixKind P w) a vs) :
    ObjOk P w H' h' a (.dK kvs) := ⟨z, hd, vs, rel, dd⟩
theorem d_setItem {H' : Hp} {Q : Unit → Shared → Prop} (hu : A.units + 1 < cLine) (I : Inv X pins σ H s) (g : DPut H a y v H') (ry : RelV y u) (rv : RelV v r) (h : ∀ s', Inv X pins σ H' s' → Q () s') :
    wpAny (model X.prog X.w) A (setItem (.ref a) u r) Q E s := by
  rcases g with ⟨kvs, k, e, ey, l, eH⟩ | ⟨kvs, k, b, e, ey, eb, l, eH⟩
  · subst ey eH
    obtain ⟨z, hd, vs, rel, dd⟩ := dk_of I.hok e
    have hz : vs.length ≤ sizeLine := by rw [← rel.length]; exact z
    have hl : (putK kvs k v).length ≤ sizeLine := by have := length_putK kvs k v; omega
    refine wpAny_setItem_pairs (hsz := hz) (kV_is ry) dd fun h' dd' hs => h _ ?_
    have he : ∃ q, h'.get? a = some q := let ⟨q, _, _, hq, _⟩ := dd'; ⟨q, hq⟩
    exact d_write I (by rw [e]; exact True.intro) hs he (dk_new hl hd (rel.put k rv) dd')
  · subst ey eH
    cases (show u = Value.ref b from ry)
    obtain ⟨z, hd, xs, rel, dd⟩ := dt_of I.hok e
    have hz : xs.length ≤ sizeLine := by rw [← Paired.length rel]; exact z
    have hl : (putK kvs k v).length ≤ sizeLine := by have := length_putK kvs k v; omega
    refine wpAny_setItem_heap (hsz := hz) (tupleKind_room_in1 hu) (key_of I.hok eb) dd fun h' dd' hs => h _ ?_
    obtain ⟨q, es, ep, hq, h2, h3, h4, _, h5⟩ := dd'
    refine d_write I (by rw [e]; exact True.intro) hs ⟨q, hq⟩ ⟨hl, hd, _, (rel.put k eb rv).keeps fun c ys ec => ?_, q, es, ep, hq, h2, h3, h4, h5⟩
    rw [upd_ne (ne_of ec e (fun z => nomatch z))]
    exact ec
end
def NoSl (i : Expr) : Prop := ∀ ov iv, subscripted i false ov iv = operate [ov, iv] (getItem ov iv)
theorem subD_of {prog : Program} {w : World} {A : Around} {E : Value → Shared → Prop} {s : Shared} {env : Env} {value slice : Expr} {pos : Pos} {T id : String} {Q : Value → Shared → Prop}
    (hl : typeLookup (.type T) "__getitem__" = pure (some (.builtin id))) (hs : NoSl slice)
    (h : wpAny (model prog w) A (eval value env) (fun o s₁ => wpAny (model prog w) A (eval slice env) (fun i s₂ => s₂.TypeIs o T ∧ wpAny (model prog w) A (getItem o i) Q E s₂) E s₁) E s) :
    wpAny (model prog w) A (eval (.Subscript value slice pos) env) Q E s := by
  refine Subscript_ (wpAny_mono h (fun o s₁ h₁ => wpAny_mono h₁ (fun i s₂ h₂ => ?_) fun _ _ x => x) fun _ _ x => x)
  obtain ⟨hT, h₂⟩ := h₂
  unfold subscriptTail
  refine wpAny_bind ?_
  rw [getitemInPython_of_ne hT.not_modules]
  refine wpAny_bind (wpAny_specialOf hT hl ?_)
  have fin : wpAny (model prog w) A (subscripted slice false o i) (fun r s₃ => wpAny (model prog w) A (letTemporaryGo value o r >>= fun _ => pure r) Q E s₃) E s₂ := by
    rw [hs o i]
    exact wpAny_operating (wpAny_mono h₂ (fun r s₃ h₃ => wpAny_bind (wpAny_letTemporaryGo (wpAny_pure h₃))) fun _ _ x => x)
  first
    | exact wpAny_pure (wpAny_bind fin)
    | exact wpAny_bind (wpAny_pure (wpAny_bind fin))
    | exact wpAny_bind fin
theorem dict_typeIs {X : Cx} {pins : List (Addr × Obj)} {σ : St} {H : Hp} {s : Shared} {a : Addr} {y : V} {o : Option V} (I : Inv X pins σ H s) (g : DGet H a y o) : s.TypeIs (.ref a) "dict" := by
  rcases g with ⟨kvs, k, e, _, _⟩ | ⟨kvs, k, b, e, _, _, _⟩
  · obtain ⟨_, _, vs, _, dd⟩ := dk_rd I.hok e
    exact dd.typeIs
  · obtain ⟨_, _, xs, _, dd⟩ := dt_rd I.hok e
    exact dd.typeIs
def tDGet (td ty : TE) : TE := fun σ H Q => td σ H fun x H1 => ty σ H1 fun y H2 => ∃ a v, x = .ref a ∧ DGet H2 a y (some v) ∧ Q v H2
def tDIn (ty td : TE) : TE := fun σ H Q => ty σ H fun y H1 => td σ H1 fun x H2 => ∃ a o, x = .ref a ∧ DGet H2 a y o ∧ Q (.bl o.isSome) H2
def tDNotIn (ty td : TE) : TE := fun σ H Q => ty σ H fun y H1 => td σ H1 fun x H2 => ∃ a o, x = .ref a ∧ DGet H2 a y o ∧ Q (.bl (!o.isSome)) H2
def sDPut (td ty tv : TE) : TS := fun D σ H => tv σ H fun v H1 => td σ H1 fun x H2 => ty σ H2 fun y H3 => ∃ a H4, x = .ref a ∧ DPut H3 a y v H4 ∧ D.nx σ H4
section
variable {X : Cx} {o i e value : Expr} {pos pos' tpos : Pos} {td ty tv : TE}
theorem pe_dget (hu : X.A.units + 1 < cLine) (ho : PE X o td) (hi : PE X i ty) (hs : NoSl i) : PE X (.Subscript o i pos) (tDGet td ty) := by
  intro pins s σ H Q I h
  refine subD_of PySem.F.slot_dict_getitem.lookup hs (thn (ho pins s σ H _ I h) fun u s1 ⟨x, H1, I1, rx, q1⟩ => thn (hi pins s1 σ H1 _ I1 q1) fun iv s2 ⟨y, H2, I2, ry, a, v, ex, g, q2⟩ => ?_)
  subst ex
  obtain rfl : u = Value.ref a := rx
  exact ⟨dict_typeIs I2 g, d_getItem hu I2 g ry fun w' s3 I3 rw' => ⟨v, H2, I3, rw', q2⟩⟩
theorem pc_din (hu : X.A.units + 1 < cLine) (hi : PE X i ty) (ho : PE X o td) : PC X .In i o (tDIn ty td) := by
  intro pins s σ H Q I h
  refine thn (hi pins s σ H _ I h) fun iv s1 ⟨y, H1, I1, ry, q1⟩ => thn (ho pins s1 σ H1 _ I1 q1) fun u s2 ⟨x, H2, I2, rx, a, ov, ex, g, q2⟩ => ?_
  subst ex
  obtain rfl : u = Value.ref a := rx
  exact d_in hu I2 g ry fun s3 I3 => ⟨.bl ov.isSome, H2, I3, rfl, q2⟩
theorem pc_dnotin (hu : X.A.units + 1 < cLine) (hi : PE X i ty) (ho : PE X o td) : PC X .NotIn i o (tDNotIn ty td) := by
  intro pins s σ H Q I h
  refine thn (hi pins s σ H _ I h) fun iv s1 ⟨y, H1, I1, ry, q1⟩ => thn (ho pins s1 σ H1 _ I1 q1) fun u s2 ⟨x, H2, I2, rx, a, ov, ex, g, q2⟩ => ?_
  subst ex
  obtain rfl : u = Value.ref a := rx
  exact d_notIn hu I2 g ry fun s3 I3 => ⟨.bl (!ov.isSome), H2, I3, rfl, q2⟩
theorem ps_dput (hu : X.A.units + 1 < cLine) (ho : PE X o td) (hi : PE X i ty) (hv : PE X value tv) (hs : swapsWith value (some (.Subscript o i pos')) pos.line X.env = pure false) :
    PS X (.Assign [.Subscript o i pos'] value pos) (sDPut td ty tv) := by
  intro pins s σ H D I h
  refine wpAny_Assign_Subscript (thn (hv pins s σ H _ I h) fun r s1 ⟨v, H1, I1, rv, q1⟩ => thn (ho pins s1 σ H1 _ I1 q1) fun u s2 ⟨x, H2, I2, rx, q2⟩ => thn (hi pins s2 σ H2 _ I2 q2) fun iv s3 ⟨y, H3, I3, ry, a, H4, ex, g, q3⟩ => ?_) hs
  subst ex
  obtain rfl : u = Value.ref a := rx
  exact d_setItem hu I3 g ry rv fun s4 I4 => ⟨σ, H4, I4, q3⟩
end
theorem dk_empty {P : Program} {w : World} {H : Hp} (h : Heap) (hb : sysModules < h.objs.size) : ObjOk P w H (h.push { cls := .type "dict", data := .dict #[] }) h.objs.size (.dK []) :=
  ⟨Nat.zero_le _, beq_eq_false_iff_ne.mpr (Ne.symm (Nat.ne_of_lt hb)), [], .nil, Heap.DictOf.new h⟩
def tDNewK : TE := fun _ H Q => ∀ p, H p = none → Q (.ref p) (upd H p (.dK []))
section
variable {X : Cx} {pos : Pos}
theorem pe_dnewK : PE X (.Dict [] [] pos) tDNewK := fun pins s σ H Q I h =>
  wpAny_Dict_empty ⟨.ref s.heap.objs.size, _, I.laid (a := s.heap.objs.size) (o := .dK []) (t' := s.toks) (fun _ _ q => Heap.get?_push_of_some _ q) (Nat.le_refl _) (dk_empty s.heap I.big), rfl, h _ (I.hok.fresh (Nat.le_refl _))⟩
end
def tPairs : List (TE × TE) → St → Hp → (List (V × V) → Hp → Prop) → Prop
  | [], _, H, Q => Q [] H
  | (tk, tv) :: r, σ, H, Q => tk σ H fun x H1 => tv σ H1 fun y H2 => tPairs r σ H2 fun ps H3 => Q ((x, y) :: ps) H3
abbrev VV : List (V × V) → List (Value × Value) → Prop := Paired fun p q => RelV p.1 q.1 ∧ RelV p.2 q.2
def PPs (X : Cx) (pos : Pos) (keys : List (Option Expr)) (values : List Expr) (trs : List (TE × TE)) : Prop :=
  ∀ (pins : List (Addr × Obj)) (s : Shared) (σ : St) (H : Hp) (Q : List (V × V) → Hp → Prop), Inv X pins σ H s → tPairs trs σ H Q →
    wpAny (model X.prog X.w) X.A (evalPairs (pairTrees keys values X.env pos)) (fun vs s' => ∃ ps H', Inv X pins σ H' s' ∧ VV ps vs ∧ Q ps H') X.xe s
theorem pps_nil {X : Cx} {pos : Pos} : PPs X pos [] [] [] := fun pins s σ H Q I h => pairTrees_nil_walk ⟨[], H, I, .nil, h⟩
theorem pps_cons {X : Cx} {pos : Pos} {k v : Expr} {ks : List (Option Expr)} {vs : List Expr} {tk tv : TE} {trs : List (TE × TE)} (hk : PE X k tk) (hv : PE X v tv) (hr : PPs X pos ks vs trs) :
    PPs X pos (some k :: ks) (v :: vs) ((tk, tv) :: trs) := fun pins s σ H Q I h =>
  pairTrees_cons_walk (thn (hk pins s σ H _ I h) fun u s1 ⟨x, H1, I1, rx, q1⟩ => thn (hv pins s1 σ H1 _ I1 q1) fun w2 s2 ⟨y, H2, I2, ry, q2⟩ =>
    thn (hr pins s2 σ H2 _ I2 q2) fun ws s3 ⟨ps, H3, I3, rel, q3⟩ => ⟨(x, y) :: ps, H3, I3, .cons ⟨rx, ry⟩ rel, q3⟩)
def mergeK (kvs more : List (Key × V)) : List (Key × V) := more.foldl (fun acc kv => putK acc kv.1 kv.2) kvs
theorem KV.merge : ∀ {more : List (Key × V)} {rs : List (Key × Value)} {kvs : List (Key × V)} {vs : List (Key × Value)}, KV more rs → KV kvs vs → KV (mergeK kvs more) (merged vs rs) := by
  intro more rs kvs vs r
  unfold KV at r
  induction r generalizing kvs vs with
  | nil => intro q; exact q
  | @cons p q ps qs h t ih =>
    intro r0
    have e : KV (putK kvs p.1 p.2) (stored vs q.1 q.2) := by
      have := r0.put p.1 h.2
      rw [← h.1]; exact this
    exact ih e
theorem length_mergeK : ∀ (more kvs : List (Key × V)), (mergeK kvs more).length ≤ kvs.length + more.length
  | [], kvs => by show kvs.length ≤ kvs.length + 0; omega
  | p :: r, kvs => by
    have h1 := length_mergeK r (putK kvs p.1 p.2)
    have h2 := length_putK kvs p.1 p.2
    show (mergeK (putK kvs p.1 p.2) r).length ≤ _
    rw [List.length_cons]; omega
theorem carries_of {P : Program} {w : World} : ∀ {kvs : List (Key × V)} {ws : List (Value × Value)}, VV (kvs.map fun kv => (kV kv.1, kv.2)) ws → ∃ rs, Carries (mixKind P w) ws rs ∧ KV kvs rs
  | [], _, r => by rw [List.map_nil] at r; cases r; exact ⟨[], True.intro, .nil⟩
  | p :: kvs, _, r => by
    rw [List.map_cons] at r
    cases r with
    | @cons a b as bs h t =>
      obtain ⟨rs, c, q⟩ := carries_of (P := P) (w := w) t
      obtain ⟨b1, b2⟩ := b
      exact ⟨(p.1, b2) :: rs, ⟨kV_is h.1, rfl, c⟩, .cons ⟨rfl, h.2⟩ q⟩
def tDisp (trs : List (TE × TE)) : TE := fun σ H Q => ∀ p, H p = none → tPairs trs σ (upd H p (.dK [])) fun ps H2 => H2 p = some (.dK []) ∧ ∃ kvs : List (Key × V), ps = kvs.map (fun kv => (kV kv.1, kv.2)) ∧ kvs.length ≤ 15 ∧ Q (.ref p) (upd H2 p (.dK (mergeK [] kvs)))
theorem pe_disp {X : Cx} {pos : Pos} {keys : List (Option Expr)} {values : List Expr} {trs : List (TE × TE)} (h : PPs X pos keys values trs) (hall : keys.all (·.isSome) = true) (hl : keys.length = values.length) (h0 : keys ≠ [])
    (h15 : keys.length ≤ 15) : PE X (.Dict keys values pos) (tDisp trs) := by
  intro pins s σ H Q I q
  have hn := I.hok.fresh (Nat.le_refl s.heap.objs.size)
  have I1 := I.laid (a := s.heap.objs.size) (o := .dK []) (h' := s.heap.push { cls := .type "dict", data := .dict #[] }) (t' := s.toks) (fun _ _ q => Heap.get?_push_of_some _ q) (Nat.le_refl _) (dk_empty s.heap I.big)
  refine wpAny_Dict_walk (knd := mixKind X.prog X.w) hall hl h0 h15 (thn (h pins _ σ _ _ I1 (q _ hn)) fun ws s2 ⟨ps, H2, I2, rel, e, kvs, ep, lk, q2⟩ => ?_)
  subst ep
  obtain ⟨rs, c, rk⟩ := carries_of (P := X.prog) (w := X.w) rel
  obtain ⟨z, hd, vs0, r0, dd⟩ := dk_of I2.hok e
  cases r0
  refine ⟨rs, c, dd, fun h' dd' hs => ⟨.ref s.heap.objs.size, _, ?_, rfl, q2⟩⟩
  have hz : (mergeK [] kvs).length ≤ sizeLine := by
    have h1 := length_mergeK kvs []
    rw [List.length_nil] at h1
    rw [sizeLine_eq]; omega
  have he : ∃ q, h'.get? s.heap.objs.size = some q := let ⟨q, _, _, hq, _⟩ := dd'; ⟨q, hq⟩
  exact d_write I2 (by rw [e]; exact True.intro) hs he (dk_new hz hd (rk.merge .nil) dd')
end L2
namespace Att
open PySem PySem.W PySem.Calls PyProof.Rows
end Att
namespace L2
open PySem PySem.Spec PyProof.Rows
end L2
namespace L2
open PySem PySem.Spec PyProof.Rows
end L2
end
section
set_option maxHeartbeats 4000000
set_option Elab.async false
set_option linter.all false
set_option maxRecDepth 100000
namespace L2
open PySem PySem.Spec PyProof.Rows
theorem Inv.freeze {X : Cx} {pins : List (Addr × Obj)} {σ : St} {H : Hp} {s : Shared} {a : Addr} {kvs : List (Key × V)} {o : Obj} (I : Inv X pins σ H s) (e : H a = some (.dK kvs)) (ho : s.heap.get? a = some o) : Inv X pins σ (upd H a (.frz o (.dK kvs))) s := by
  have ne : ∀ {b : Addr} {u : HO}, H b = some u → u ≠ .dK kvs → b ≠ a := fun q n z => by subst z; rw [e] at q; cases q; exact n rfl
  have u : Un X.fs [] H (upd H a (.frz o (.dK kvs))) s.heap s.heap :=
    ⟨fun b ob q n _ _ => q, fun b ob q n _ _ => ⟨ob.slots, q⟩, fun b ob q n _ => by rw [upd_ne (fun z => by subst z; rw [e] at n; cases n)]; exact n, fun b ob q _ => ⟨ob, q⟩,
      fun b ws q => by rw [upd_ne (ne q (fun z => nomatch z))]; exact q, fun b ob ws q => by rw [upd_ne (ne q (fun z => nomatch z))]; exact q, fun b ps q => ⟨#[], by rw [upd_ne (ne q (fun z => nomatch z)), q]; simp⟩⟩
  have hok : HOk X.prog X.w (upd H a (.frz o (.dK kvs))) s.heap := fun b ob q => by
    by_cases hb : b = a
    · subst hb
      rw [upd_same] at q; cases q
      exact ⟨ho, show ObjOk X.prog X.w H s.heap b (.dK kvs) from I.hok b _ e⟩
    · rw [upd_ne hb] at q
      exact (I.hok b ob q).stay (fun c v _ qc => qc) (fun c q => by rw [upd_ne (ne q (fun z => nomatch z))]; exact q) fun c ws q => by rw [upd_ne (ne q (fun z => nomatch z))]; exact q
  exact I.un (t' := s.toks) u hok
theorem frz_at {X : Cx} {pins : List (Addr × Obj)} {σ : St} {H : Hp} {s : Shared} {d : Addr} {kvs : List (Key × V)} {o : Obj} {es : Array DictEntry} {ep : Nat} (I : Inv X pins σ H s) (e : H d = some (.frz o (.dK kvs))) (hd : o.data = .dict es ep) :
    ∃ vs, KV kvs vs ∧ s.heap.DictAt (mixKind X.prog X.w) d vs ep := by
  obtain ⟨ho, _, _, vs, rel, o', es', ep', ho', h2, h3, h4⟩ := (show ObjOk X.prog X.w H s.heap d (.frz o (.dK kvs)) from I.hok d _ e)
  rw [ho] at ho'; cases ho'
  rw [hd] at h3; cases h3
  exact ⟨vs, rel, o, es, ho, h2, hd, h4⟩
theorem KV.get {kvs : List (Key × V)} {vs : List (Key × Value)} (r : KV kvs vs) {i : Nat} {k : Key} {x : V} (e : kvs[i]? = some (k, x)) : ∃ u, vs[i]? = some (k, u) ∧ RelV x u := by
  unfold KV at r
  induction r generalizing i with
  | nil => simp at e
  | @cons p q ps qs h t ih =>
    cases i with
    | zero =>
      simp at e; subst e
      exact ⟨q.2, by simp; rw [show k = q.1 from h.1], h.2⟩
    | succ i => simpa using ih (by simpa using e)
def Itv (d : Addr) (o : Obj) (kvs : List (Key × V)) : It := ⟨fun i H => H d = some (.frz o (.dK kvs)) ∧ i < kvs.length, fun i H x H' => H' = H ∧ ∃ k, kvs[i]? = some (k, x), fun i H => H d = some (.frz o (.dK kvs)) ∧ kvs.length ≤ i⟩
theorem turn_vals {P : Program} {w : World} {K : PySem.W.Frag} {tg : Expr} (it d : Addr) {o : Obj} {kvs : List (Key × V)} {es : Array DictEntry} {ep : Nat} (hd : o.data = .dict es ep) : Turn P w K tg (Itv d o kvs) [it] it (fun i h => h.IsValIter it d i kvs.length ep) where
  mem := by simp
  obj := fun i h st b hb => by
    have e : b = it := by simpa using hb
    subst e
    obtain ⟨o, e, c, d⟩ := st
    exact ⟨o, e, fun v z => by rw [d] at z; cases z⟩
  keep := fun i h h' st k => by
    obtain ⟨o, e, r⟩ := st
    exact ⟨o, k it (by simp) o e, r⟩
  item := by
    intro X hP hw hK hc i pins s σ H E I hf st hg
    subst hP hw hK
    obtain ⟨hq, hi⟩ := hg
    obtain ⟨vs, rel, dat⟩ := frz_at I hq hd
    obtain ⟨⟨k, x⟩, ex⟩ : ∃ p, kvs[i]? = some p := ⟨_, List.getElem?_eq_getElem hi⟩
    obtain ⟨u, hu, ru⟩ := rel.get ex
    have hl := rel.length
    obtain ⟨f0, f1, f2, f3, f4, f5⟩ := hf it (by simp)
    refine wpAny_pyNext_values_item (kvs := vs) (by rw [← hl]; exact st) dat hu fun h' st' sb => ?_
    have I1 : Inv X pins σ H { s with heap := h' } := I.turned (t' := s.toks) (fun b o hb e => (sb.2 b hb).trans e) f0 f1 f3 f4 f5
    obtain ⟨o', e, c, d'⟩ := id st'
    exact ⟨u, rfl, go_of (s := { s with heap := h' }) e c d' (by decide) ⟨x, H, I1, ru, ⟨rfl, k, ex⟩, by rw [hl]; exact st', fun b hb => (hf b hb).1⟩⟩
  done := by
    intro X hP hw hK hc i pins s σ H E I hf st hg
    subst hP hw hK
    obtain ⟨hq, hi⟩ := hg
    obtain ⟨vs, rel, dat⟩ := frz_at I hq hd
    have hl := rel.length
    obtain ⟨f0, f1, f2, f3, f4, f5⟩ := hf it (by simp)
    exact wpAny_pyNext_values_end (kvs := vs) (I.ok.hd hc) (by rw [← hl]; exact st) dat (by rw [List.getElem?_eq_none_iff]; omega) fun h' eb => ⟨rfl, I.turned (t' := s.toks) (fun b o hb e => eb b o hb e) f0 f1 f3 f4 f5⟩
  self := fun _ _ _ _ _ st h => wpAny_pyIter_valiter st h
def iVals (td : TE) : TI := fun σ H R => td σ H fun x H1 => ∃ d kvs, x = .ref d ∧ H1 d = some (.dK kvs) ∧ ∀ o, R (Itv d o kvs) (upd H1 d (.frz o (.dK kvs)))
theorem pi_values {X : Cx} {tg o : Expr} {td : TE} {apos cpos : Pos} (ho : PE X o td) (hbase : attributeBase o "values" X.env (eval o X.env) = eval o X.env := by rfl) (hline : (apos.endLine == cpos.line) = true := by rfl) :
    PI X tg (.Call (.Attribute o "values" apos) [] [] cpos) (iVals td) := by
  intro pins s σ H R I h
  refine wpAny_Call_method0_late hbase hline (thn (ho pins s σ H _ I h) fun v s1 ⟨x, H1, I1, r1, d, kvs, ex, e, q⟩ => ?_)
  subst ex
  cases r1
  obtain ⟨z, hd, vs, rel, dd⟩ := dk_of I1.hok e
  refine ⟨"dict", "dict.values", PySem.F.plainAttrs_dict, PySem.F.slot_dict_values, PySem.F.type_dict_values, dd.typeIs, fun b hb => ?_, Calls.callWith_builtin rfl (PySem.evalArgs_none ?_)⟩
  · cases hb
    obtain ⟨ob, _, _, h1, h2, _⟩ := dd
    exact ⟨ob, h1, h2.2.1⟩
  refine call_meetsIn PySem.F.slot_dict_values dd.typeIs PySem.F.entry_dict_values (PySem.F.args_dict_values_1 _) (meets_dict_values (mixKind X.prog X.w) d hd) ⟨⟨vs, dd⟩, ?_⟩
  obtain ⟨ob, es, ep, h1, h2, h3, h4⟩ := id dd
  have hk : ∀ b u, s1.heap.get? b = some u → (s1.heap.push { cls := .type "dict_values", data := .fields #[.ref d] }).get? b = some u := fun b u e => Heap.get?_push_of_some _ e
  have I2 : Inv X pins σ H1 { s1 with heap := s1.heap.push { cls := .type "dict_values", data := .fields #[.ref d] } } := I1.kept (t' := s1.toks) hk
  have I3 := I2.freeze (o := ob) e (hk _ _ h1)
  refine wpAny_pyIter_values (knd := mixKind X.prog X.w) (kvs := vs) (ep := ep) (d := d) ⟨_, Heap.get?_push_size _ rfl, rfl, rfl⟩ ⟨ob, es, hk _ _ h1, h2, h3, h4⟩ ?_
  rw [← rel.length]
  refine ⟨_, [_], _, _, _, rfl, I3.kept (t' := s1.toks) fun b u e => Heap.get?_push_of_some _ e, turn_vals _ d h3, ⟨_, Heap.get?_push_size _ rfl, rfl, rfl⟩, fun b hb => ?_, q ob⟩
  have eb := List.mem_singleton.mp hb
  subst eb
  exact I3.fpOk (Nat.le_refl _) (I3.hok.fresh (Nat.le_refl _))
theorem entry_dict_itemiterator_iter' : entryFor table "dict_itemiterator.__iter__" = some Builtin.«dict_keyiterator.__iter__» :=
  entryFor_alias (id' := "dict_keyiterator.__iter__") (by kernel_rfl) rfl (by decide +kernel) (by kernel_rfl)
theorem wpAny_pyIter_itemiter {prog : Program} {w : World} {A : Around} {E : Value → Shared → Prop} {s : Shared} {it d : Addr} {i n ep : Nat} {ok ov : Value} {Q : Value → Shared → Prop} (hit : IsItemIter s.heap it d i n ep ok ov) (h : Q (.ref it) s) : wpAny (model prog w) A (pyIter (.ref it)) Q E s := by
  have hT : s.TypeIs (.ref it) "dict_itemiterator" := ⟨_, hit, rfl⟩
  refine wpAny_pyIter_slot hT F.slot_dict_itemiterator_iter (wpAny_call_entry F.slot_dict_itemiterator_iter hT entry_dict_itemiterator_iter' ?_ (F.args_dict_itemiterator_iter_1 _))
  show wpAny _ _ (ret (.ref it)) _ _ s
  exact wpAny_pure ⟨_, rfl, "dict_itemiterator", _, hT, F.slot_dict_itemiterator_next.lookup, h⟩
def Itm (d : Addr) (o : Obj) (kvs : List (Key × V)) : It := ⟨fun i H => H d = some (.frz o (.dK kvs)) ∧ i < kvs.length, fun i H v H' => ∃ T k x, v = .ref T ∧ H T = none ∧ H' = upd H T (.tup [kV k, x]) ∧ kvs[i]? = some (k, x), fun i H => H d = some (.frz o (.dK kvs)) ∧ kvs.length ≤ i⟩
theorem kV_rel {P : Program} {w : World} {k : Key} {u : Value} (h : (mixKind P w).is k u = true) : RelV (kV k) u := by
  rw [mixKind_is] at h
  rcases keyIs_shape h with ⟨i, t, rfl, rfl⟩ | ⟨x, t, rfl, rfl⟩
  · exact ⟨t, rfl⟩
  · exact ⟨t, rfl⟩
theorem turn_items {P : Program} {w : World} {K : PySem.W.Frag} {elts : List Expr} {kc : Nat} {tp : Pos} (it d : Addr) {o : Obj} {kvs : List (Key × V)} {es : Array DictEntry} {ep : Nat} (hd : o.data = .dict es ep) :
    Turn P w K (.Tuple elts kc tp) (Itm d o kvs) [it] it (fun i h => ∃ ok ov, IsItemIter h it d i kvs.length ep ok ov) where
  mem := by simp
  obj := fun i h st b hb => by
    have e : b = it := by simpa using hb
    subst e
    obtain ⟨ok, ov, Z⟩ := st
    exact ⟨_, Z, fun v r => by cases r⟩
  keep := fun i h h' st k => by
    obtain ⟨ok, ov, Z⟩ := st
    exact ⟨ok, ov, k it (by simp) _ Z⟩
  item := by
    intro X hP hw hK hc i pins s σ H E I hf st hg
    subst hP hw hK
    obtain ⟨hq, hi⟩ := hg
    obtain ⟨vs, rel, dat⟩ := frz_at I hq hd
    obtain ⟨⟨k, x⟩, ex⟩ : ∃ p, kvs[i]? = some p := ⟨_, List.getElem?_eq_getElem hi⟩
    obtain ⟨u, hu, ru⟩ := rel.get ex
    have hl := rel.length
    obtain ⟨ok, ov, Z⟩ := st
    refine wpAny_pyNext_items_item (kvs := vs) (by rw [← hl]; exact Z) dat hu fun key h' hkey Zo pr sz kk => ⟨_, rfl, ?_⟩
    refine wpAny_letOwnedTupleGo_items (s := { s with heap := h' }) Zo fun h2' Zz' sb => ?_
    replace sb : Heap.SameBut it h' h2' := sb
    have hTz : s.heap.objs.size ≠ it := Nat.ne_of_gt (Heap.lt_size Z)
    have kk2 : ∀ c o, c ≠ it → s.heap.get? c = some o → h2'.get? c = some o := fun c o c1 q => (sb.2 c c1).trans (kk c o c1 q)
    have prT : h2'.get? s.heap.objs.size = some { cls := .type "tuple", data := .seq #[key, u] } := (sb.2 _ hTz).trans pr
    have hT : H s.heap.objs.size = none := I.hok.fresh (Nat.le_refl _)
    have neC : ∀ b, b ∉ [it] → b ≠ it := fun b hb => by simpa using hb
    have trk : ∀ b u, H b = some u → b ≠ it := fun b u q => by
      rintro rfl
      rw [(hf b (by simp)).1] at q; cases q
    have ltT : ∀ b o, s.heap.get? b = some o → b ≠ s.heap.objs.size := fun b o q => Nat.ne_of_lt (Heap.lt_size q)
    have un : Un (frs X.stack) [it] H (upd H s.heap.objs.size (.tup [kV k, x])) s.heap h2' :=
      ⟨fun b o q n _ hb => kk2 b o (neC b hb) q, fun b o q n _ hb => ⟨o.slots, kk2 b o (neC b hb) q⟩,
        fun b o q n hb => by rw [upd_ne (ltT b o q)]; exact n, fun b o q hb => ⟨o, kk2 b o (neC b hb) q⟩,
        fun b ws q => by rw [upd_ne (ne_of_none q hT)]; exact q, fun b o ws q => by rw [upd_ne (ne_of_none q hT)]; exact q, fun b ps q => ⟨#[], by rw [upd_ne (ne_of_none q hT), q]; simp⟩⟩
    have hok : HOk X.prog X.w (upd H s.heap.objs.size (.tup [kV k, x])) h2' := fun b ob q => by
      by_cases hb : b = s.heap.objs.size
      · subst hb
        rw [upd_same] at q; cases q
        exact ⟨by show 2 ≤ sizeLine; decide, [key, u], .cons (kV_rel hkey) (.cons ru .nil), _, prT, rfl, 0, rfl⟩
      · rw [upd_ne hb] at q
        refine (I.hok b ob q).stay (fun c v hc' qc => ?_) (fun c q => by rw [upd_ne (ne_of_none q hT)]; exact q) fun c ws q => by rw [upd_ne (ne_of_none q hT)]; exact q
        have : ∃ o, H c = some o := by
          rcases hc' with rfl | hc'
          · exact ⟨_, q⟩
          · exact ⟨_, hc'⟩
        obtain ⟨o, ho⟩ := this
        exact kk2 c v (trk c o ho) qc
    refine ⟨.ref s.heap.objs.size, upd H s.heap.objs.size (.tup [kV k, x]), ?_, rfl, ⟨_, k, x, rfl, hT, rfl, ex⟩, ⟨_, _, by rw [hl]; exact Zz'⟩, fun b hb => ?_⟩
    · refine I.call' (s' := { s with heap := h2' }) (ch := [it]) rfl un hok I.bare fun b hb => ?_
      obtain ⟨_, z1, z2, z3, z4, z5⟩ := hf b hb
      exact ⟨z3, z1, z4, z5⟩
    · have eb : b = it := by simpa using hb
      subst eb
      rw [upd_ne hTz.symm]; exact (hf b hb).1
  done := by
    intro X hP hw hK hc i pins s σ H E I hf st hg
    subst hP hw hK
    obtain ⟨hq, hi⟩ := hg
    obtain ⟨vs, rel, dat⟩ := frz_at I hq hd
    have hl := rel.length
    obtain ⟨ok, ov, Z⟩ := st
    obtain ⟨f0, f1, f2, f3, f4, f5⟩ := hf it (by simp)
    exact wpAny_pyNext_items_end (kvs := vs) (I.ok.hd hc) (by rw [← hl]; exact Z) dat (by rw [List.getElem?_eq_none_iff]; omega) fun h' eb => ⟨rfl, I.turned (t' := s.toks) (fun b o hb e => eb b o hb e) f0 f1 f3 f4 f5⟩
  self := fun _ _ _ _ _ st h => by obtain ⟨ok, ov, Z⟩ := st; exact wpAny_pyIter_itemiter Z h
def iItems (td : TE) : TI := fun σ H R => td σ H fun x H1 => ∃ d o kvs, x = .ref d ∧ H1 d = some (.frz o (.dK kvs)) ∧ R (Itm d o kvs) H1
theorem pi_items {X : Cx} {o : Expr} {td : TE} {apos cpos tp : Pos} {elts : List Expr} {kc : Nat} (ho : PE X o td) (hbase : attributeBase o "items" X.env (eval o X.env) = eval o X.env := by rfl) (hline : (apos.endLine == cpos.line) = true := by rfl) :
    PI X (.Tuple elts kc tp) (.Call (.Attribute o "items" apos) [] [] cpos) (iItems td) := by
  intro pins s σ H R I h
  refine wpAny_Call_method0_late hbase hline (thn (ho pins s σ H _ I h) fun v s1 ⟨x, H1, I1, r1, d, ob, kvs, ex, e, q⟩ => ?_)
  subst ex
  cases r1
  obtain ⟨z, hd, vs, rel, dd⟩ := dk_rd I1.hok (.inr ⟨ob, e⟩)
  refine ⟨"dict", "dict.items", PySem.F.plainAttrs_dict, PySem.F.slot_dict_items, PySem.F.type_dict_items, dd.typeIs, fun b hb => ?_, Calls.callWith_builtin rfl (PySem.evalArgs_none ?_)⟩
  · cases hb
    obtain ⟨ob, _, _, h1, h2, _⟩ := dd
    exact ⟨ob, h1, h2.2.1⟩
  refine call_meetsIn PySem.F.slot_dict_items dd.typeIs PySem.F.entry_dict_items (PySem.F.args_dict_items_1 _) (meets_dict_items (mixKind X.prog X.w) d hd) ⟨⟨vs, dd⟩, ?_⟩
  obtain ⟨ob', es, ep, h1, h2, h3, h4⟩ := id dd
  have ho' : s1.heap.get? d = some ob := (show ObjOk X.prog X.w H1 s1.heap d (.frz ob (.dK kvs)) from I1.hok d _ e).1
  rw [ho'] at h1; cases h1
  have hk : ∀ b u, s1.heap.get? b = some u → (s1.heap.push { cls := .type "dict_items", data := .fields #[.ref d] }).get? b = some u := fun b u e => Heap.get?_push_of_some _ e
  have I2 : Inv X pins σ H1 { s1 with heap := s1.heap.push { cls := .type "dict_items", data := .fields #[.ref d] } } := I1.kept (t' := s1.toks) hk
  refine wpAny_pyIter_items (knd := mixKind X.prog X.w) (kvs := vs) (ep := ep) (d := d) ⟨_, Heap.get?_push_size _ rfl, rfl, rfl⟩ ⟨ob, es, hk _ _ ho', h2, h3, h4⟩ ?_
  rw [← rel.length]
  refine ⟨_, [_], _, _, H1, rfl, I2.kept (t' := s1.toks) fun b u e => Heap.get?_push_of_some _ e, turn_items _ d h3, ⟨_, _, Heap.get?_push_size _ rfl⟩, fun b hb => ?_, q⟩
  have eb := List.mem_singleton.mp hb
  subst eb
  exact I2.fpOk (Nat.le_refl _) (I2.hok.fresh (Nat.le_refl _))
def tDUpd (td te : TE) : TE := fun σ H Q => td σ H fun x H1 => ∃ d, x = .ref d ∧ (∃ kvs, H1 d = some (.dK kvs)) ∧ te σ H1 fun y H2 => ∃ e kvs more, y = .ref e ∧ H2 d = some (.dK kvs) ∧ Rd H2 e (.dK more) ∧ d ≠ e ∧ kvs.length + more.length ≤ sizeLine ∧ Q .non (upd H2 d (.dK (mergeK kvs more)))
theorem pe_dupd {X : Cx} {o e : Expr} {td te : TE} {apos cpos : Pos} (ho : PE X o td) (he : PE X e te) (hbase : attributeBase o "update" X.env (eval o X.env) = eval o X.env := by rfl) (hline : (apos.endLine == cpos.line) = true := by rfl)
    (htr : backTo cpos (starEach [e] X.env) = [(false, eval e X.env)] := by rfl) : PE X (.Call (.Attribute o "update" apos) [e] [] cpos) (tDUpd td te) := by
  intro pins s σ H Q I h
  refine wpAny_Call_method1_late hbase hline htr (thn (ho pins s σ H _ I h) fun v s1 ⟨x, H1, I1, r1, d, ex, ⟨kvs0, e0⟩, q1⟩ => ?_)
  subst ex
  cases r1
  obtain ⟨z, hd, vs, rel, dd⟩ := dk_of I1.hok e0
  refine ⟨"dict", "dict.update", PySem.F.plainAttrs_dict, PySem.F.slot_dict_update, PySem.F.type_dict_update, dd.typeIs, fun b hb => ?_, ?_⟩
  · cases hb
    obtain ⟨ob, _, _, h1, h2, _⟩ := dd
    exact ⟨ob, h1, h2.2.1⟩
  refine Calls.callWith_builtin rfl (Calls.evalArgs_plain (Calls.spliced_cons (thn (he pins s1 σ H1 _ I1 q1) fun u s2 ⟨y, H2, I2, r2, b, kvs, more, ey, ed, eb, hne, hl, q2⟩ => Calls.spliced_nil ?_)))
  subst ey
  cases r2
  obtain ⟨z1, hd1, vs1, rel1, dd1⟩ := dk_of I2.hok ed
  obtain ⟨z2, hd2, vs2, rel2, dd2⟩ := dk_rd I2.hok eb
  refine call_meetsIn PySem.F.slot_dict_update dd1.typeIs PySem.F.entry_dict_update (PySem.F.args_dict_update_2 _ _) (meets_dict_update (mixKind X.prog X.w) d b hne hd2) ⟨vs1, vs2, dd1, dd2, by rw [← rel1.length, ← rel2.length]; exact hl, fun h' dd' _ hs => ?_⟩
  have hex : ∃ q, h'.get? d = some q := let ⟨q, _, _, hq, _⟩ := dd'; ⟨q, hq⟩
  refine ⟨.non, _, d_write (t' := s2.toks) I2 (by rw [ed]; exact True.intro) hs hex (dk_new ?_ hd1 (KV.merge rel2 rel1) dd'), rfl, q2⟩
  exact Nat.le_trans (length_mergeK more kvs) hl
end L2
end
section
set_option maxHeartbeats 4000000
set_option Elab.async false
set_option linter.all false
set_option maxRecDepth 100000
namespace L2
open PySem PySem.Spec PyProof.Rows
section
variable {prog : Program} {w : World} {A : Around} {R : Result → Shared → Prop} {s : Shared}
theorem compLoopD_any {kx vx target iter : Expr} {ifs : List Expr} {scope : Scope} {pos : Pos} {it : Value} {D : Addr} {env : Env} (I : Nat → Shared → Prop)
    (turn : ∀ n s, I n s → wpAny (model prog w) A (pyNext it) (fun r s₁ => match r with
      | none => R (.ok .next) s₁
      | some v => wpAny (model prog w) A (letOwnedTupleGo target it v) (fun _ s₀ => wpAny (model prog w) A (assign target env v) (fun _ s₂ =>
          wpAny (model prog w) A (forIn ifs true fun c r => if r = true then do let ok ← isTrue c env (eval c env); pure (ForInStep.yield ok) else pure (ForInStep.yield r)) (fun ok s₃ =>
            if ok = true then wpAny (model prog w) A (eval kx env) (fun kv s₄ => wpAny (model prog w) A (eval vx env) (fun vv s₅ =>
              wpAny (model prog w) A (dictSet D kv vv) (fun _ s₆ => ∃ m, m < n ∧ I m s₆) (fun _ _ => False) s₅) (fun _ _ => False) s₄) (fun _ _ => False) s₃
            else ∃ m, m < n ∧ I m s₃) (fun _ _ => False) s₂) (fun _ _ => False) s₀) (fun _ _ => False) s₁) (fun _ _ => False) s)
    (n : Nat) (h : I n s) :
    codeAny (model prog w) A (.compLoop (.DictComp kx vx [⟨target, iter, ifs, 0⟩] scope pos) 0 it (.ref D) env) R s := by
  refine codeAny_loop rfl I (fun n s hI => ?_) n h
  show wpAny _ A ((compTurn (.DictComp kx vx [⟨target, iter, ifs, 0⟩] scope pos) 0 it (.ref D) env).onRaise (fun x => do noteFrame x env; theTreesLotGoes x)) _ _ s
  refine wpAny_noted ?_
  rw [compTurn_dict]
  have no : ∀ {X : Prop}, ∀ (e : Value) (s' : Shared), (fun _ _ => False : Value → Shared → Prop) e s' → X := fun _ _ z => False.elim z
  refine wpAny_bind (wpAny_standAt (wpAny_bind (wpAny_mono (turn n s hI) (fun r s₁ h₁ => ?_) fun e s' => no e s')))
  cases r with
  | none => exact wpAny_pure h₁
  | some v =>
    refine wpAny_bind (wpAny_mono h₁ (fun _ s₀ h₀ => ?_) fun e s' => no e s')
    refine wpAny_bind (wpAny_mono h₀ (fun _ s₂ h₂ => wpAny_bind (wpAny_mono h₂ (fun ok s₃ h₃ => ?_) fun e s' => no e s')) fun e s' => no e s')
    cases ok with
    | false => exact wpAny_pure ⟨rfl, h₃⟩
    | true =>
      exact wpAny_bind (wpAny_bind (wpAny_mono h₃ (fun kv s₄ h₄ => wpAny_bind (wpAny_holding (wpAny_mono h₄ (fun vv s₅ h₅ => wpAny_bind (wpAny_standAt (wpAny_holding (wpAny_mono h₅ (fun _ s₆ h₆ => wpAny_pure ⟨rfl, h₆⟩) fun e s' => no e s')))) fun e s' => no e s'))) fun e s' => no e s'))
end
def tCompD (n : Nat) (js : List Nat) (wi : TI) (g : TG) (tt : TT) (tk tv : TE) : TE := fun σ H Q => wi σ H fun J H1 => ∀ D, H1 D = none → ∃ W : Nat → Nat → Hp → List (Key × V) → Prop, (∃ m, W 0 m (upd H1 D (.dK [])) []) ∧
  ∀ i m H2 ys, W i m H2 ys → H2 D = some (.dK ys) → (J.stop i H2 ∧ Q (.ref D) H2) ∨
    (J.go i H2 ∧ ∀ zs x H3, zs.length = n → J.yld i H2 x H3 → g x (zs ++ caps σ js) H3 fun σ4 H4 => σ4.drop n = caps σ js ∧ tt σ4 H4 fun b H5 =>
      if b = true then tk σ4 H5 (fun y H6 => tv σ4 H6 fun v H7 => H7 D = some (.dK ys) ∧ ys.length < sizeLine ∧ ∃ k, y = kV k ∧ ∃ m', m' < m ∧ W (i + 1) m' (upd H7 D (.dK (putK ys k v))) (putK ys k v))
      else H5 D = some (.dK ys) ∧ ∃ m', m' < m ∧ W (i + 1) m' H5 ys)
theorem comp_coreD {X : Cx} {kx vx tg iter : Expr} {ifs : List Expr} {scope : Scope} {cl : List (Str × Addr)} {pos : Pos} {NB FR : List Str} {js : List Nat} {wi : TI} {g : TG} {tt : TT} {tk tv : TE} {Q : VK} {RR : Value → Addr → Result → Shared → Prop}
    {pins : List (Addr × Obj)} {s : Shared} {σ : St} {H : Hp} (hc : X.calm = true) (hcl : ∀ x c, cl.lookup x = some c → X.env.cells.lookup x = some c) (hcap : Capt X scope cl FR js)
    (hnm : (relabel scope X.env).names.all (fun y => !(y.2 == .cell || y.2 == .free) || FR.contains y.1) = true) (hcell : ∀ x ∈ scope.names, x.2 ≠ .cell) (hkind : scope.kind = .function)
    (hi : PI X tg iter wi) (hb : ∀ s3 H3 fp, PG (cxCompC X NB FR scope cl s3 H3 fp) tg g ∧ PTs (cxCompC X NB FR scope cl s3 H3 fp) ifs tt ∧ PE (cxCompC X NB FR scope cl s3 H3 fp) kx tk ∧ PE (cxCompC X NB FR scope cl s3 H3 fp) vx tv)
    (I : Inv X pins σ H s) (h : tCompD NB.length js wi g tt tk tv σ H Q)
    (hRR : ∀ D C H' s', Inv X pins σ H' s' → FpOk X pins H' C → (∃ m, s'.heap.Ns C m) → Q (.ref D) H' → RR (.ref D) C (.ok .next) s') :
    wpAny (model X.prog X.w) X.A (eval iter X.env) (fun v s1 => wpAny (model X.prog X.w) X.A (pyIter v) (fun it s2 => wpAny (model X.prog X.w) X.A newDict (fun acc s3 =>
      wpAny (model X.prog X.w) X.A (newFunctionEnv scope X.env.globals cl [] X.env.qual none .none (some X.env)) (fun cenv s4 =>
        codeAny (model X.prog X.w) X.A (.compStart (.DictComp kx vx [⟨tg, iter, ifs, 0⟩] scope pos) 0 it acc { cenv with scope := relabel scope X.env }) (RR acc cenv.locals) s4) X.xe s3) X.xe s2) X.xe s1) X.xe s := by
  refine thn (hi pins s σ H _ I h) fun v s1 h1 => thn h1 fun itv s2 h2 => ?_
  obtain ⟨it, fp, tn, J, H2, e, I2, T, st2, f2, q2⟩ := h2
  subst e
  have hf2 : H2 s2.heap.objs.size = none := I2.hok.fresh (Nat.le_refl _)
  obtain ⟨W, ⟨m0, w0⟩, turn⟩ := q2 _ hf2
  refine wpAny_newObj_type (hd := by size_fits) ?_
  have I3 : Inv X pins σ (upd H2 s2.heap.objs.size (.dK [])) { s2 with heap := s2.heap.push { cls := .type "dict", data := .dict #[] } } :=
    I2.laid (t' := s2.toks) (fun b u e => Heap.get?_push_of_some _ e) (Nat.le_refl _) (dk_empty s2.heap I2.big)
  generalize hD : s2.heap.objs.size = D at *
  generalize hs3 : ({ s2 with heap := s2.heap.push { cls := .type "dict", data := .dict #[] } } : Shared) = s3 at *
  generalize hH3 : upd H2 D (.dK []) = H3 at *
  have h3D : H3 D = some (.dK []) := by rw [← hH3]; exact upd_same
  have fpD : ∀ b ∈ fp, b ≠ D := fun b hb => by
    obtain ⟨o, e, _⟩ := T.obj _ _ st2 b hb
    rw [← hD]; exact Nat.ne_of_lt (Heap.lt_size e)
  have k23 : ∀ b u, s2.heap.get? b = some u → s3.heap.get? b = some u := fun b u e => by rw [← hs3]; exact Heap.get?_push_of_some _ e
  have st3 : tn 0 s3.heap := T.keep _ _ _ st2 fun b _ o e => k23 b o e
  have f3 : ∀ b ∈ fp, FpOk X pins H3 b := fun b hb => ⟨by rw [← hH3, upd_ne (fpD b hb)]; exact (f2 b hb).1, (f2 b hb).2⟩
  refine wpAny_newFunctionEnv hcell (by intro y hy; simp at hy) (fun h4 hns4 hsb4 => ?_) hkind
  have k34 : ∀ b u, s3.heap.get? b = some u → h4.get? b = some u := fun b u e => hsb4.extBut b u (Nat.ne_of_lt (Heap.lt_size e)) (Heap.get?_push_of_some _ e)
  have okB : (cxCompC X NB FR scope cl s3 H3 fp).Ok := by
    refine ⟨I3.ok.mod, hkind, I3.ok.glob, I3.ok.blt, Nat.le_refl _, fun x y c e1 e2 => I3.ok.inj x y c (hcl _ _ e1) (hcl _ _ e2), fun x e => hcap.has (relabel_has hnm e), (fun x c e => nomatch e), I3.ok.hd, I3.ok.frames, .inl rfl, fun b hb => ⟨?_, fun x c e => ?_⟩, I3.bs, Nat.le_trans I3.ok.bsz I3.sz, fun b o e hb => ?_, fun b hb z => ?_, I3.stack, I3.stkFree⟩
    · obtain ⟨o, e, _⟩ := T.obj _ _ st3 b hb
      exact Nat.ne_of_lt (Heap.lt_size e)
    · exact (f3 b hb).2.2.2.2.1 x c (hcl _ _ e)
    · obtain ⟨_, _, _, z, _⟩ := f3 b hb
      rcases z with z | z
      · exact I3.ok.noex b o e z
      · exact absurd (Nat.lt_of_lt_of_le (Heap.lt_size e) (Nat.le_trans I3.ok.bsz z)) (Nat.lt_irrefl _)
    · obtain ⟨_, z1, z2, _⟩ := f3 b hb
      rcases List.mem_cons.mp (I3.stkSub b z) with e | e
      · exact z1 e
      · exact z2 e
  have IB : Inv (cxCompC X NB FR scope cl s3 H3 fp) [] (List.replicate NB.length none ++ caps σ js) H3 { s3 with heap := h4, toks := s3.toks + ([] : List (Str × Value)).length } := by
    refine ⟨okB, rfl, I3.bare, Un.kept k34, ⟨_, hns4, fun i x v e1 e2 e3 => ?_⟩, fun x c e => ?_, I3.hok.fresh (Nat.le_refl _), fun x c e => I3.freeC x c (hcl _ _ e), fun p hp => ?_, I3.hok.kept k34, ?_⟩
    · by_cases hi : i < NB.length
      · rw [List.getElem?_append_left (by simpa using hi), List.getElem?_replicate, if_pos hi] at e2
        cases e2
      · have e1' : FR[i - NB.length]? = some x := by
          have z : (NB ++ FR)[i]? = some x := e1
          rw [List.getElem?_append_right (by omega)] at z; exact z
        rw [List.getElem?_append_right (by simp; omega), List.length_replicate] at e2
        obtain ⟨j, hj, hN, hk, hb', c, hc'⟩ := hcap.get e1'
        have e2' : σ[j]? = some (some v) := by
          unfold caps at e2
          rw [List.getElem?_map, hj] at e2
          simp only [Option.map_some, Option.some.injEq] at e2
          cases hσ : σ[j]? with
          | none => rw [hσ] at e2; cases e2
          | some o => rw [hσ] at e2; simp only [Option.getD_some] at e2; rw [e2]
        obtain ⟨m, hn, hl⟩ := I3.loc
        obtain ⟨u, ru, lu⟩ := hl j x v hN e2' (.inr (.inl hk))
        refine ⟨u, ru, .inr ⟨.inl hb', c, hc', ?_⟩⟩
        rcases lu with ⟨z, _⟩ | ⟨_, c', z, q⟩
        · rw [hk] at z; cases z
        · rw [hcl _ _ hc'] at z; cases z
          obtain ⟨o, ho, hd⟩ := q
          exact ⟨o, k34 _ _ ho, hd⟩
    · obtain ⟨v, o, ho, hd⟩ := I3.cell x c (hcl _ _ e)
      exact ⟨v, o, k34 _ _ ho, hd⟩
    · exact absurd (show p ∈ ([] : List (Addr × Obj)) from hp) (by simp)
    · show _ = (NB ++ FR).length
      rw [List.length_append, List.length_append, List.length_replicate, hcap.length]
      unfold caps; rw [List.length_map]
  have st4 : tn 0 h4 := T.keep _ _ _ st3 fun b _ o e => k34 b o e
  have stat : ∀ {H' : Hp}, (∀ b ∈ fp, H' b = none) → ∀ b ∈ fp, FpOk (cxCompC X NB FR scope cl s3 H3 fp) [] H' b := fun hn b hb =>
    ⟨hn b hb, (okB.exf b hb).1, okB.exfs b hb, .inl hb, fun x c e => (f3 b hb).2.2.2.2.1 x c (hcl _ _ e), fun p hp => absurd (show p ∈ ([] : List (Addr × Obj)) from hp) (by simp)⟩
  obtain ⟨hg, ht, hek, hev⟩ := hb s3 H3 fp
  have fin : ∀ {σ' : St} {H' : Hp} {s' : Shared}, Inv (cxCompC X NB FR scope cl s3 H3 fp) [] σ' H' s' → Q (.ref D) H' → RR (.ref D) s3.heap.objs.size (.ok .next) s' := fun {σ' H' s'} J q => by
    have hm : ∃ m, s'.heap.Ns s3.heap.objs.size m := by
      obtain ⟨m, hm, _⟩ := J.loc
      exact ⟨m, hm⟩
    refine hRR D _ H' s' (I3.call' (ch := fp) J.os J.base J.hok J.bare fun b hb => ?_) (I3.fpOk (Nat.le_refl _) J.free) hm q
    obtain ⟨_, z1, z2, z3, z4, z5⟩ := f3 b hb
    exact ⟨z3, z1, z4, z5⟩
  have loop : ∀ s5 : Shared, s5 = { s3 with heap := h4, toks := s3.toks + ([] : List (Str × Value)).length } →
      codeAny (model X.prog X.w) X.A (.compLoop (.DictComp kx vx [⟨tg, iter, ifs, 0⟩] scope pos) 0 (.ref it) (.ref D) (compEnvC scope cl s3.heap.objs.size X.env)) (RR (.ref D) s3.heap.objs.size) s5 := by
    rintro s5 rfl
    refine compLoopD_any (fun n s' => ∃ i zs H' ys, zs.length = NB.length ∧ Inv (cxCompC X NB FR scope cl s3 H3 fp) [] (zs ++ caps σ js) H' s' ∧ tn i s'.heap ∧ (∀ b ∈ fp, H' b = none) ∧ H' D = some (.dK ys) ∧ W i n H' ys) ?_ m0
      ⟨0, _, H3, [], List.length_replicate, IB, st4, fun b hb => (f3 b hb).1, h3D, by rw [← hH3] at *; exact w0⟩
    rintro n s6 ⟨i, zs, H6, ys, hzs, I6, st6, fr6, hD6, w6⟩
    rcases turn i n H6 ys w6 hD6 with ⟨stop, qn⟩ | ⟨go, step⟩
    · refine thn (T.done (cxCompC X NB FR scope cl s3 H3 fp) rfl rfl rfl hc i [] s6 _ H6 _ I6 (stat fr6) st6 stop) fun r s7 ⟨hr, I7⟩ => ?_
      subst hr
      exact fin I7 qn
    · refine thn (T.item (cxCompC X NB FR scope cl s3 H3 fp) rfl rfl rfl hc i [] s6 _ H6 _ I6 (stat fr6) st6 go) fun r s7 ⟨u, hr, h7⟩ => ?_
      subst hr
      refine thn h7 fun _ s8 ⟨x, H8, I8, r8, y8, st8, fr8⟩ => ?_
      have I8' := I8.pinned (stat fr8) (T.obj _ _ st8)
      have again : ∀ {σ9 : St} {H9 : Hp} {s9 : Shared} {ws : List (Key × V)} {m' : Nat}, σ9.drop NB.length = caps σ js → Inv (cxCompC X NB FR scope cl s3 H3 fp) ([] ++ pinsAt fp s8.heap) σ9 H9 s9 → H9 D = some (.dK ws) → m' < n → W (i + 1) m' H9 ws →
          ∃ m, m < n ∧ ∃ i zs H' ys, zs.length = NB.length ∧ Inv (cxCompC X NB FR scope cl s3 H3 fp) [] (zs ++ caps σ js) H' s9 ∧ tn i s9.heap ∧ (∀ b ∈ fp, H' b = none) ∧ H' D = some (.dK ys) ∧ W i m H' ys := fun {σ9 H9 s9 ws m'} hdr I9 hz hm w9 => by
        have hl : σ9.length = (NB ++ FR).length := I9.len
        rw [List.length_append] at hl
        refine ⟨m', hm, i + 1, σ9.take NB.length, H9, ws, by rw [List.length_take]; omega, ?_, T.keep _ _ _ st8 fun b hb o e => (I9.pin (b, o) (List.mem_append_right _ (List.mem_append_right _ (mem_pinsAt hb e)))).1, fun b hb => ?_, hz, w9⟩
        · rw [← hdr, List.take_append_drop]; exact I9.unpinned
        · obtain ⟨o, e, d⟩ := T.obj _ _ st8 b hb
          exact (I9.pin (b, o) (List.mem_append_right _ (List.mem_append_right _ (mem_pinsAt hb e)))).2.1
      refine thn (hg _ s8 _ H8 x u _ I8' r8 (step zs x H8 hzs y8)) fun _ s9 ⟨σ9, H9, I9, hdr, q9⟩ => ?_
      refine thn (ht _ s9 σ9 H9 _ I9 q9) fun ok s10 ⟨H10, I10, q10⟩ => ?_
      cases ok with
      | false =>
        rw [if_neg (by decide)] at q10 ⊢
        obtain ⟨hz, m', hm, w'⟩ := q10
        exact again hdr I10 hz hm w'
      | true =>
        rw [if_pos rfl] at q10 ⊢
        refine thn (hek _ s10 σ9 H10 _ I10 q10) fun y s11 ⟨yv, H11, I11, r11, q11⟩ => ?_
        refine thn (hev _ s11 σ9 H11 _ I11 q11) fun u s12 ⟨v, H12, I12, r12, hz, hlen, k, ek, m', hm, w'⟩ => ?_
        subst ek
        obtain ⟨z, hd, vs, rel, dd⟩ := dk_of I12.hok hz
        have hl : (putK ys k v).length ≤ sizeLine := by have := length_putK ys k v; omega
        refine wpAny_dictSet_pairs (hsz := by rw [← rel.length]; exact z) (kV_is r11) dd fun h' dd' hs => ?_
        have hex : ∃ q, h'.get? D = some q := let ⟨q, _, _, hq, _⟩ := dd'; ⟨q, hq⟩
        exact again hdr (d_write I12 (by rw [hz]; exact True.intro) hs hex (dk_new hl hd (rel.put k r12) dd')) upd_same hm w'
  exact codeAny_compStart_dict (loop _ rfl) (T.self X.A 0 _ _ _ st4 (loop _ rfl))

section
variable {X : Cx} {kx vx tg iter : Expr} {ifs : List Expr} {scope : Scope} {cl : List (Str × Addr)} {pos spos py : Pos} {NB FR : List Str} {js : List Nat} {wi : TI} {g : TG} {tt : TT} {tk tv : TE}
theorem pe_compD (hc : X.calm = true) (hclos : closureFor scope X.env = pure cl) (hcl : ∀ x c, cl.lookup x = some c → X.env.cells.lookup x = some c) (hcap : Capt X scope cl FR js)
    (hnm : (relabel scope X.env).names.all (fun y => !(y.2 == .cell || y.2 == .free) || FR.contains y.1) = true) (hcell : ∀ x ∈ scope.names, x.2 ≠ .cell) (hkind : scope.kind = .function) (hnames : ∀ x ∈ scope.names, x.2 = .local → scope.names.lookup x.1 = some .local)
    (hi : PI X tg iter wi) (hb : ∀ s3 H3 fp, PG (cxCompC X NB FR scope cl s3 H3 fp) tg g ∧ PTs (cxCompC X NB FR scope cl s3 H3 fp) ifs tt ∧ PE (cxCompC X NB FR scope cl s3 H3 fp) kx tk ∧ PE (cxCompC X NB FR scope cl s3 H3 fp) vx tv)
    (hs : ∀ x, foldedSetIterable iter X.env x = pure x := by intro _; rfl) :
    PE X (.DictComp kx vx [⟨tg, iter, ifs, 0⟩] scope pos) (tCompD NB.length js wi g tt tk tv) := by
  intro pins s σ H Q I h
  rw [arm_eval_DictComp]
  refine wpAny_comprehension_free (use := none) rfl hs hclos hkind hnames (comp_coreD (RR := fun acc C => compPost (model X.prog X.w) X.A X.xe none (EP X pins σ Q) acc C) hc hcl hcap hnm hcell hkind hi hb I h ?_)
  intro D C H' s' I' ⟨f0, f1, f2, f3, f4, f5⟩ ⟨m, hm⟩ q
  exact ⟨m, hm, fun h' sb => ⟨.ref D, H', I'.turned (t' := s'.toks) (fun b o hb e => (sb.2 b hb).trans e) f0 f1 f3 f4 f5, rfl, q⟩⟩
end
end L2
end
section
set_option maxHeartbeats 4000000
set_option Elab.async false
set_option linter.all false
set_option maxRecDepth 100000
namespace L2
open PySem PySem.Spec PyProof.Rows
open MeetsSeq MeetsSeq2 MeetsSeq3 SeqRoads2 SeqAt AutoSeq1
def isN : Value → Bool
  | .none => true
  | _ => false
theorem isN_of {X : Cx} {pins : List (Addr × Obj)} {σ : St} {H : Hp} {s : Shared} {x : V} {c : PyData} {u : Value} (I : Inv X pins σ H s) (h : RdD H x c) (r : RelV x u) : isN u = PyData.eqv c .none := by
  cases h with
  | non => cases (show u = Value.none from r); rfl
  | bl b => cases (show u = Value.bool b from r); rfl
  | int i => obtain ⟨t, rfl⟩ := (show ∃ t, u = Value.int i t from r); rfl
  | str x => obtain ⟨t, rfl⟩ := (show ∃ t, u = Value.str x t from r); rfl
  | @tup a xs ds e h => cases (show u = Value.ref a from r); rfl
  | @lst a xs ds e h => cases (show u = Value.ref a from r); rfl
theorem eqs_none {X : Cx} {pins : List (Addr × Obj)} {σ : St} {H : Hp} {s : Shared} (I : Inv X pins σ H s) (hu : X.A.units + 64 < cLine) : ∀ {xs : List V} {ds : List PyData} {us : List Value}, RdDs H xs ds → Vals xs us → (∀ c ∈ ds, c.canLay0 = true) → (∀ u ∈ us, EqAt X.A.in1 s u .none (isN u)) ∧ us.map isN = ds.map fun c => PyData.eqv c .none
  | _, _, _, .nil, .nil, _ => ⟨fun u m => (by cases m), rfl⟩
  | _, _, _, .cons (d := d) h t, .cons r rs, hs => by
    obtain ⟨h1, h2⟩ := eqs_none I hu t rs fun c m => hs c (List.mem_cons_of_mem _ m)
    obtain ⟨as, ra⟩ := h.reads I r
    have e := isN_of I h r
    refine ⟨fun u m => ?_, by rw [List.map_cons, List.map_cons, h2, e]⟩
    rcases List.mem_cons.mp m with rfl | m
    · rw [e]
      exact eqAt_reads _ .none _ _ _ _ _ _ ra .none (hs _ (List.mem_cons_self ..)) rfl (by show X.A.units + 1 + min d.depth 0 < cLine; rw [Nat.min_zero]; omega)
    · exact h1 u m
def rInN : R2 := fun x y H Q => ∃ p xs ds, x = .non ∧ y = .ref p ∧ H p = some (.lst xs) ∧ RdDs H xs ds ∧ (∀ c ∈ ds, c.canLay0 = true) ∧ Q (.bl (ds.any fun c => PyData.eqv c .none)) H
theorem any_map' {α : Type} (f : α → Bool) (l : List α) : l.any f = (l.map f).any id := by rw [List.any_map]; rfl
theorem op_inN {X : Cx} (hu : X.A.units + 64 < cLine) : OpR X (compareOp .In) rInN := by
  intro pins s σ H x y v u Q I rx ry h
  obtain ⟨p, xs, ds, rfl, rfl, hp, hd, hs, q⟩ := h
  cases ry
  cases (show v = Value.none from rx)
  obtain ⟨its, r, pl, hz⟩ := I.list (SqL.of (K := X.K) hp)
  obtain ⟨h1, h2⟩ := eqs_none I hu hd r hs
  refine SeqAt.in_listAt isN pl.isList (fun w hw => h1 w (by simpa using hw)) ⟨.bl _, H, I, rfl, ?_⟩
  rw [show its.toArray.any isN = its.any isN by simp, any_map', h2, ← any_map']
  exact q
def rIxN : V → List V → Hp → VK → Prop := fun x vs H Q => ∃ (p : Addr) (xs : List V) (ds : List PyData) (i : Nat), x = .ref p ∧ vs = [.non] ∧ H p = some (.lst xs) ∧ RdDs H xs ds ∧ (∀ c ∈ ds, c.canLay0 = true) ∧ xs.length ≤ 1000 ∧
  (∃ c, ds[i]? = some c ∧ PyData.eqv c .none = true) ∧ (∀ (j : Nat) (c : PyData), j < i → ds[j]? = some c → PyData.eqv c .none = false) ∧ Q (.int (i : Int)) H
theorem mt_indexN {X : Cx} (hu : X.A.units + 64 < cLine) : MtR X "list.index" rIxN := by
  intro pins s σ H x vs v us Q I rx rv h
  obtain ⟨p, xs, ds, i, rfl, rfl, hp, hd, hs, hxl, ⟨c, ec, hc⟩, hno, q⟩ := h
  cases rx
  obtain ⟨u, rfl, ru⟩ := rv.one
  cases (show u = Value.none from ru)
  obtain ⟨_, its, n, r, ho⟩ := (show ObjOk X.prog X.w H s.heap p (.lst xs) from I.hok p _ hp)
  obtain ⟨h1, h2⟩ := eqs_none I hu hd r hs
  have hl := r.length
  have hdl := hd.len
  have hi := (List.getElem?_eq_some_iff.mp ec).1
  have hat : ∀ (j : Nat) (hj : j < its.length) (c : PyData), ds[j]? = some c → isN its[j] = PyData.eqv c .none := fun j hj c e => by
    have := congrArg (fun l => l[j]?) h2
    simp only [List.getElem?_map, List.getElem?_eq_getElem hj, e, Option.map_some] at this
    exact Option.some.inj this
  refine call_meets F.slot_list_index ⟨_, ho, rfl⟩ F.entry_list_index (F.args_list_index_2 _ _) (list_indexAt p its.toArray n none #[] .none isN i (by simp; omega) (by omega) ?_ ?_) ⟨ho, fun w hw => h1 w (by simpa using hw), ?_⟩
  · have : isN its[i] = true := by rw [hat i (by omega) c ec]; exact hc
    simpa using this
  · intro j _ hj
    obtain ⟨c', ec'⟩ : ∃ c', ds[j]? = some c' := ⟨_, List.getElem?_eq_getElem (by omega)⟩
    have : isN its[j] = false := by rw [hat j (by omega) c' ec']; exact hno j c' hj ec'
    simpa using this
  · exact ⟨.int (i : Int), H, I.tok _, ⟨_, rfl⟩, q⟩
end L2
end
set_option Elab.async false
set_option linter.all false
set_option maxRecDepth 100000
namespace KK
open PySem L2
def top (i : Nat) : Stmt := PySem.Challenge.pw_clackrow_k54_rings_of_sightings.main.body.getD i (.Pass ⟨0, 0, 0, 0⟩)
abbrev s_is_whole : Stmt := top 4
abbrev s_greatest_divisor : Stmt := top 5
abbrev s_ratio : Stmt := top 6
abbrev s_minus : Stmt := top 7
abbrev s_times : Stmt := top 8
abbrev s_over : Stmt := top 9
abbrev s_less : Stmt := top 10
abbrev s_least_multiple : Stmt := top 12
abbrev s_common_bottom : Stmt := top 13
abbrev s_share_of : Stmt := top 16
abbrev s_does_all : Stmt := top 17
abbrev s_part_of : Stmt := top 18
abbrev s_ring_of : Stmt := top 19
abbrev s_ring_in : Stmt := top 20
abbrev s_least_weights : Stmt := top 21
abbrev s_weights_of : Stmt := top 22
abbrev s_is_step : Stmt := top 23
abbrev s_lets_ring : Stmt := top 24
abbrev s_law_cell : Stmt := top 26
abbrev s_law_dig : Stmt := top 27
abbrev s_law_next : Stmt := top 28
abbrev s_law_lowest : Stmt := top 29
abbrev s_law_far : Stmt := top 30
abbrev s_law_ratio : Stmt := top 31
abbrev s_law_sum : Stmt := top 32
abbrev s_law_product : Stmt := top 33
abbrev s_law_minus : Stmt := top 34
abbrev s_law_meeting : Stmt := top 35
abbrev s_law_sighting : Stmt := top 36
abbrev s_law_weights : Stmt := top 37
abbrev s_law_share : Stmt := top 38
abbrev s_law_does : Stmt := top 39
abbrev s_law_is_ring : Stmt := top 43
abbrev s_law_drawn : Stmt := top 44
abbrev s_law_can : Stmt := top 45
abbrev s_law : Stmt := top 46
end KK
set_option Elab.async false
set_option linter.all false
set_option maxRecDepth 100000
namespace KK
open PySem L2
structure TxB (K : PySem.W.Frag) (mg : Str → Option Value) : Prop where
  ii : PySem.W.kitOne K (.type "int") (.type "int") = some true
  ib : PySem.W.kitOne K (.type "int") (.type "bool") = some false
  nIs : mg "isinstance" = none
  nInt : mg "int" = none
  nBool : mg "bool" = none
  nAbs : mg "abs" = none
  nLen : mg "len" = none
  nMax : mg "max" = none
  nMin : mg "min" = none
  nRange : mg "range" = none
  nTuple : mg "tuple" = none
  nSum : mg "sum" = none
section
variable {P : Program} {w : World} {K : PySem.W.Frag} {mg : Str → Option Value} {base : Heap}

def spWhole : Sp := fun vs H Q _ => ∃ i, vs = [.int i] ∧ Q (.bl true) H
theorem sc_whole : FnScope ["thing"] ["thing"] (defScope s_is_whole) := ⟨rfl, rfl, rfl, by decide +kernel, rfl, by decide +kernel, by decide +kernel⟩
theorem ok_whole (D : Df K mg "is_whole" s_is_whole ["thing"] []) (T : TxB K mg) : Cal P w K mg base "is_whole" 1 ["thing"] [] spWhole := by
  refine D.cal (k := 0) sc_whole (fun vs H Q E h => by obtain ⟨i, rfl, _⟩ := h; rfl) (fun f cdv A outer s H vs Q E hr h => ?_)
  obtain ⟨i, rfl, k⟩ := h
  refine ⟨_, pss_one (ps_ret (pe_and
    (pe_callB call_isinst rfl T.nIs PyProof.Rows.boot_isinstance (pa_cons (pv 0) (pa_cons (pe_bltn (v := .ty "int") (u := .type "int") rfl T.nInt PyProof.Rows.boot_int rfl) pa_nil)))
    (pe_one (pe_not (pe_callB call_isinst rfl T.nIs PyProof.Rows.boot_isinstance (pa_cons (pv 0) (pa_cons (pe_bltn (v := .ty "bool") (u := .type "bool") rfl T.nBool (by decide +kernel) rfl) pa_nil))))))), ?_⟩
  refine ⟨_, rfl, _, _, _, true, rfl, .int i, T.ii, true, rfl, iteT ?_⟩
  exact ⟨_, rfl, _, _, _, false, rfl, .int i, T.ib, false, rfl, k⟩

def spGcd : Sp := fun vs H Q _ => ∃ a b : Int, vs = [.int a, .int b] ∧ 0 ≤ a ∧ 0 ≤ b ∧ Q (.int (Int.gcd a b : Nat)) H
theorem sc_gcd : FnScope ["one", "other"] ["one", "other"] (defScope s_greatest_divisor) := ⟨rfl, rfl, rfl, by decide +kernel, rfl, by decide +kernel, by decide +kernel⟩
theorem ok_gcd (D : Df K mg "greatest_divisor" s_greatest_divisor ["one", "other"] []) : Cal P w K mg base "greatest_divisor" 1 ["one", "other"] [] spGcd := by
  refine D.cal (k := 0) sc_gcd (fun vs H Q E h => by obtain ⟨a, b, rfl, _⟩ := h; rfl) (fun f cdv A outer s H vs Q E hr h => ?_)
  obtain ⟨a, b, rfl, ha, hb, k⟩ := h
  refine ⟨_, pss_cons (ps_while PassesOwn.never (pt_cmpR op_gt (pv 1) pe_int (nomark _))
      (pss_one (ps_par (i := 0) (j := 1) rfl sc_gcd.nd rfl rfl (by decide) rfl rfl (pa_cons (pv 1) (pa_cons (pe_op op_mod (pv 0) (pv 1)) pa_nil)) (by rfl))))
    (pss_one (ps_ret (pv 0))), ?_⟩
  refine while_by (fun σ H1 => H1 = H ∧ ∃ x y : Int, σ = [some (.int x), some (.int y)] ∧ 0 ≤ x ∧ 0 ≤ y ∧ Int.gcd x y = Int.gcd a b)
    (fun σ _ => match σ with | [_, some (.int y)] => y.toNat | _ => 0) ⟨rfl, a, b, rfl, ha, hb, rfl⟩ ?_ ?_
  · rintro σ H1 ⟨rfl, x, y, rfl, hx, hy, e⟩
    refine ⟨_, rfl, _, _, rfl, rfl, _, rfl, ite2 (fun h => ?_) (fun h => ?_)⟩
    · have h' : 0 < y := of_decide_eq_true h
      refine ⟨_, rfl, _, rfl, _, rfl, _, _, rfl, rfl, h', _, _, rfl, ⟨rfl, _, _, rfl, hy, Int.emod_nonneg _ (by omega), ?_⟩, ?_⟩
      · rw [KM.gcd_step hx h']; exact e
      · show (x % y).toNat < y.toNat
        have := Int.emod_lt_of_pos x h'
        omega
    · have h' : ¬ 0 < y := fun z => h (decide_eq_true z)
      have : y = 0 := by omega
      subst this
      refine ⟨_, rfl, ?_⟩
      have e2 : x = (Int.gcd a b : Nat) := by rw [← e, Int.gcd_zero_right]; omega
      rw [e2]; exact k
  · rintro σ H1 Q1 Q2 hq ⟨v, e, i, j, e1, e2, k1, e3, q⟩
    exact ⟨v, e, i, j, e1, e2, k1, e3, hq _ _ q⟩

theorem sc_ratio : FnScope ["top", "bottom", "divisor"] ["top", "bottom"] (defScope s_ratio) := ⟨rfl, rfl, rfl, by decide +kernel, rfl, by decide +kernel, by decide +kernel⟩
theorem abs_eq (i : Int) : (if i < 0 then -i else i) = (i.natAbs : Int) := by split <;> omega
theorem ok_ratio {dvs : List V} (D : Df K mg "ratio" s_ratio ["top", "bottom"] dvs) (T : TxB K mg) (cW : Cal P w K mg base "is_whole" 1 ["thing"] [] spWhole) (cG : Cal P w K mg base "greatest_divisor" 1 ["one", "other"] [] spGcd) :
    Cal P w K mg base "ratio" 2 ["top", "bottom"] dvs spLow := by
  refine D.cal (k := 1) sc_ratio (fun vs H Q E h => by obtain ⟨a, b, rfl, _⟩ := h; rfl) (fun f cdv A outer s H vs Q E hr h => ?_)
  obtain ⟨t, b, rfl, hb, hz, k⟩ := h
  refine ⟨_, pss_cons (ps_if (pw_or (pt_not (pt_truth (pe_c cW hr (pa_cons (pv 0) pa_nil)) fun _ => rfl)) (pw_or (pt_not (pt_truth (pe_c cW hr (pa_cons (pv 1) pa_nil)) fun _ => rfl)) (pw_or1 (pt_cmpR op_eq (pv 1) pe_int (nomark _))))).pt pss_never pss_nil)
    (pss_cons (ps_set (i := 2) sc_ratio.nd rfl (Or.inl rfl) (pe_c cG hr (pa_cons (pe_callB call_abs rfl T.nAbs PyProof.Rows.boot_abs (pa_cons (pv 0) pa_nil)) (pa_cons (pe_callB call_abs rfl T.nAbs PyProof.Rows.boot_abs (pa_cons (pv 1) pa_nil)) pa_nil))))
    (pss_cons (ps_if (pt_cmpR op_lt (pv 1) pe_int (nomark _)) (pss_one (ps_set (i := 2) sc_ratio.nd rfl (Or.inl rfl) (pe_un un_neg (pv 2)))) pss_nil)
    (pss_one (ps_ret (pe_tup (pa_cons (pe_op op_fdivB (pv 0) (pv 2)) (pa_cons (pe_op op_fdivB (pv 1) (pv 2)) pa_nil))))))), ?_⟩
  refine ⟨_, rfl, t, rfl, true, rfl, iteF ?_⟩
  refine ⟨_, rfl, b, rfl, true, rfl, iteF ?_⟩
  refine ⟨_, rfl, rfl, _, rfl, ite2 (fun h => absurd (of_decide_eq_true h) (by intro z; injection z with z; exact hb z)) (fun _ => ?_)⟩
  refine ⟨_, rfl, t, rfl, ⟨_, rfl, b, rfl, ⟨_, _, rfl, (by rw [abs_eq]; omega), (by rw [abs_eq]; omega), ?_⟩⟩⟩
  have hd := KM.dv_ne (t := t) hb
  have hdz : Bd 8900 (KM.dv t b) := hz.of_le (KM.dv_le hb)
  have fin : ∀ σ : St, σ = [some (.int t), some (.int b), some (.int (KM.dv t b))] → tRet (tTup (tCons (tOp (rI CDivB fun i j => V.int (i.fdiv j)) (tVar 0) (tVar 2)) (tCons (tOp (rI CDivB fun i j => V.int (i.fdiv j)) (tVar 1) (tVar 2)) tNil))) { nx := fun _ H' => Q .non H', rt := Q } σ H := by
    rintro σ rfl
    refine ⟨_, rfl, _, rfl, _, _, rfl, rfl, ⟨hd, hdz⟩, _, rfl, _, rfl, _, _, rfl, rfl, ⟨hd, hdz⟩, ?_⟩
    refine ⟨by show 2 ≤ sizeLine; decide, fun p hp => k p _ (Same.upd hp) ?_⟩
    show upd H p _ p = _
    rw [upd_same]
    dsimp only
    rw [KM.dv_num hb, KM.dv_den hb]; rfl
  have ge : (Int.gcd (if t < 0 then -t else t) (if b < 0 then -b else b) : Nat) = Int.gcd t b := by
    rw [abs_eq, abs_eq]; simp [Int.gcd]
  refine ⟨_, rfl, _, _, rfl, rfl, _, rfl, ite2 (fun h => ?_) (fun h => ?_)⟩
  · have h' : b < 0 := of_decide_eq_true h
    refine ⟨_, rfl, _, rfl, fin _ ?_⟩
    rw [ge]; unfold KM.dv; rw [if_pos h']; rfl
  · have h' : ¬ b < 0 := fun z => h (decide_eq_true z)
    refine fin _ ?_
    rw [ge]; unfold KM.dv; rw [if_neg h']; rfl
end
end KK
set_option Elab.async false
set_option linter.all false
set_option maxRecDepth 100000
namespace KK
open PySem L2
section
variable {P : Program} {w : World} {K : PySem.W.Frag} {mg : Str → Option Value} {base : Heap}
theorem Bd4 {x : Rat} (h : Sz 4000 x) : Bd 1000000 x.num ∧ Bd 1000000 (x.den : Int) := ⟨h.1.mono (by decide), h.2.mono (by decide)⟩
section
variable {x y : Rat} {p q : Addr} {H : Hp}
theorem rd_plus {Q : VK} (hp : RatAt H p x) (hq : RatAt H q y) (hx : Sz 4000 x) (hy : Sz 4000 y) (k : ∀ r H', Same H H' → RatAt H' r (x + y) → Q (.ref r) H') :
    tRet (tCall spLow [] E0 (tCons (tOp (rI0 fun i j => .int (i + j)) (tOp (rI CMulB fun i j => .int (i * j)) (tOp (rIxT K) (tVar 0) (tC (.int 0))) (tOp (rIxT K) (tVar 1) (tC (.int 1)))) (tOp (rI CMulB fun i j => .int (i * j)) (tOp (rIxT K) (tVar 1) (tC (.int 0))) (tOp (rIxT K) (tVar 0) (tC (.int 1)))))
      (tCons (tOp (rI CMulB fun i j => .int (i * j)) (tOp (rIxT K) (tVar 0) (tC (.int 1))) (tOp (rIxT K) (tVar 1) (tC (.int 1)))) tNil))) { nx := fun _ H' => Q .non H', rt := Q } [some (.ref p), some (.ref q)] H := by
  have bx := Bd4 hx
  have b_y := Bd4 hy
  refine ⟨_, rfl, p, _, _, _, rfl, rfl, .of hp, at0 .., _, rfl, q, _, _, _, rfl, rfl, .of hq, at1 .., _, _, rfl, rfl, ⟨bx.1, b_y.2⟩, ?_⟩
  refine ⟨_, rfl, q, _, _, _, rfl, rfl, .of hq, at0 .., _, rfl, p, _, _, _, rfl, rfl, .of hp, at1 .., _, _, rfl, rfl, ⟨b_y.1, bx.2⟩, _, _, rfl, rfl, ?_⟩
  refine ⟨_, rfl, p, _, _, _, rfl, rfl, .of hp, at1 .., _, rfl, q, _, _, _, rfl, rfl, .of hq, at1 .., _, _, rfl, rfl, ⟨bx.2, b_y.2⟩, ?_⟩
  refine ⟨_, _, rfl, Int.mul_ne_zero (KM.den_ne x) (KM.den_ne y), (hx.2.mul hy.2).mono (by decide), fun r H' e h => k r H' e ?_⟩
  rw [← KM.plus_eq]; exact h
theorem rd_times {Q : VK} (hp : RatAt H p x) (hq : RatAt H q y) (hx : Sz 4000 x) (hy : Sz 4000 y) (k : ∀ r H', Same H H' → RatAt H' r (x * y) → Q (.ref r) H') :
    tRet (tCall spLow [] E0 (tCons (tOp (rI CMulB fun i j => .int (i * j)) (tOp (rIxT K) (tVar 0) (tC (.int 0))) (tOp (rIxT K) (tVar 1) (tC (.int 0))))
      (tCons (tOp (rI CMulB fun i j => .int (i * j)) (tOp (rIxT K) (tVar 0) (tC (.int 1))) (tOp (rIxT K) (tVar 1) (tC (.int 1)))) tNil))) { nx := fun _ H' => Q .non H', rt := Q } [some (.ref p), some (.ref q)] H := by
  have bx := Bd4 hx
  have b_y := Bd4 hy
  refine ⟨_, rfl, p, _, _, _, rfl, rfl, .of hp, at0 .., _, rfl, q, _, _, _, rfl, rfl, .of hq, at0 .., _, _, rfl, rfl, ⟨bx.1, b_y.1⟩, ?_⟩
  refine ⟨_, rfl, p, _, _, _, rfl, rfl, .of hp, at1 .., _, rfl, q, _, _, _, rfl, rfl, .of hq, at1 .., _, _, rfl, rfl, ⟨bx.2, b_y.2⟩, ?_⟩
  refine ⟨_, _, rfl, Int.mul_ne_zero (KM.den_ne x) (KM.den_ne y), (hx.2.mul hy.2).mono (by decide), fun r H' e h => k r H' e ?_⟩
  rw [← KM.times_eq]; exact h
end
theorem sc_lsum : FnScope ["one", "other"] ["one", "other"] (defScope s_law_sum) := ⟨rfl, rfl, rfl, by decide +kernel, rfl, by decide +kernel, by decide +kernel⟩
theorem ok_lsum (D : Df K mg "_law_sum" s_law_sum ["one", "other"] []) (c : Cal P w K mg base "_law_lowest" 1 ["top", "bottom"] [] spLow) : Cal P w K mg base "_law_sum" 2 ["one", "other"] [] (spBin Sz2 (· + ·)) := by
  refine D.cal (k := 1) sc_lsum (fun vs H Q E h => by obtain ⟨_, _, _, _, rfl, _⟩ := h; rfl) (fun f cdv A outer s H vs Q E hr h => ?_)
  obtain ⟨p, q, x, y, rfl, hp, hq, ⟨hx, hy⟩, k⟩ := h
  exact ⟨_, pss_one (ps_ret (pe_c c hr (pa_cons (pe_op op_add (pe_op op_mulB (pe_ix ix_tup (pv 0) pe_int (fun _ _ => rfl)) (pe_ix ix_tup (pv 1) pe_int (fun _ _ => rfl))) (pe_op op_mulB (pe_ix ix_tup (pv 1) pe_int (fun _ _ => rfl)) (pe_ix ix_tup (pv 0) pe_int (fun _ _ => rfl))))
    (pa_cons (pe_op op_mulB (pe_ix ix_tup (pv 0) pe_int (fun _ _ => rfl)) (pe_ix ix_tup (pv 1) pe_int (fun _ _ => rfl))) pa_nil)))), rd_plus hp hq hx hy k⟩
theorem sc_times : FnScope ["one", "other"] ["one", "other"] (defScope s_times) := ⟨rfl, rfl, rfl, by decide +kernel, rfl, by decide +kernel, by decide +kernel⟩
theorem ok_times (D : Df K mg "times" s_times ["one", "other"] []) (c : Cal P w K mg base "ratio" 2 ["top", "bottom"] [] spLow) : Cal P w K mg base "times" 3 ["one", "other"] [] (spBin Sz2 (· * ·)) := by
  refine D.cal (k := 2) sc_times (fun vs H Q E h => by obtain ⟨_, _, _, _, rfl, _⟩ := h; rfl) (fun f cdv A outer s H vs Q E hr h => ?_)
  obtain ⟨p, q, x, y, rfl, hp, hq, ⟨hx, hy⟩, k⟩ := h
  exact ⟨_, pss_one (ps_ret (pe_c c hr (pa_cons (pe_op op_mulB (pe_ix ix_tup (pv 0) pe_int (fun _ _ => rfl)) (pe_ix ix_tup (pv 1) pe_int (fun _ _ => rfl)))
    (pa_cons (pe_op op_mulB (pe_ix ix_tup (pv 0) pe_int (fun _ _ => rfl)) (pe_ix ix_tup (pv 1) pe_int (fun _ _ => rfl))) pa_nil)))), rd_times hp hq hx hy k⟩
theorem sc_lprod : FnScope ["one", "other"] ["one", "other"] (defScope s_law_product) := ⟨rfl, rfl, rfl, by decide +kernel, rfl, by decide +kernel, by decide +kernel⟩
theorem ok_lprod (D : Df K mg "_law_product" s_law_product ["one", "other"] []) (c : Cal P w K mg base "_law_lowest" 1 ["top", "bottom"] [] spLow) : Cal P w K mg base "_law_product" 2 ["one", "other"] [] (spBin Sz2 (· * ·)) := by
  refine D.cal (k := 1) sc_lprod (fun vs H Q E h => by obtain ⟨_, _, _, _, rfl, _⟩ := h; rfl) (fun f cdv A outer s H vs Q E hr h => ?_)
  obtain ⟨p, q, x, y, rfl, hp, hq, ⟨hx, hy⟩, k⟩ := h
  exact ⟨_, pss_one (ps_ret (pe_c c hr (pa_cons (pe_op op_mulB (pe_ix ix_tup (pv 0) pe_int (fun _ _ => rfl)) (pe_ix ix_tup (pv 1) pe_int (fun _ _ => rfl)))
    (pa_cons (pe_op op_mulB (pe_ix ix_tup (pv 0) pe_int (fun _ _ => rfl)) (pe_ix ix_tup (pv 1) pe_int (fun _ _ => rfl))) pa_nil)))), rd_times hp hq hx hy k⟩
theorem sc_over : FnScope ["one", "other"] ["one", "other"] (defScope s_over) := ⟨rfl, rfl, rfl, by decide +kernel, rfl, by decide +kernel, by decide +kernel⟩
theorem ok_over (D : Df K mg "over" s_over ["one", "other"] []) (c : Cal P w K mg base "ratio" 2 ["top", "bottom"] [] spLow) : Cal P w K mg base "over" 3 ["one", "other"] [] (spBin (fun x y => Sz2 x y ∧ y ≠ 0) (· / ·)) := by
  refine D.cal (k := 2) sc_over (fun vs H Q E h => by obtain ⟨_, _, _, _, rfl, _⟩ := h; rfl) (fun f cdv A outer s H vs Q E hr h => ?_)
  obtain ⟨p, q, x, y, rfl, hp, hq, ⟨⟨hx, hy⟩, hy0⟩, k⟩ := h
  have bx := Bd4 hx
  have b_y := Bd4 hy
  refine ⟨_, pss_one (ps_ret (pe_c c hr (pa_cons (pe_op op_mulB (pe_ix ix_tup (pv 0) pe_int (fun _ _ => rfl)) (pe_ix ix_tup (pv 1) pe_int (fun _ _ => rfl)))
    (pa_cons (pe_op op_mulB (pe_ix ix_tup (pv 0) pe_int (fun _ _ => rfl)) (pe_ix ix_tup (pv 1) pe_int (fun _ _ => rfl))) pa_nil)))), ?_⟩
  refine ⟨_, rfl, p, _, _, _, rfl, rfl, .of hp, at0 .., _, rfl, q, _, _, _, rfl, rfl, .of hq, at1 .., _, _, rfl, rfl, ⟨bx.1, b_y.2⟩, ?_⟩
  refine ⟨_, rfl, p, _, _, _, rfl, rfl, .of hp, at1 .., _, rfl, q, _, _, _, rfl, rfl, .of hq, at0 .., _, _, rfl, rfl, ⟨bx.2, b_y.1⟩, ?_⟩
  refine ⟨_, _, rfl, Int.mul_ne_zero (KM.den_ne x) (fun z => hy0 (Rat.num_eq_zero.mp z)), (hx.2.mul hy.1).mono (by decide), fun r H' e h => k r H' e ?_⟩
  show RatAt H' r (x / y)
  rw [← KM.over_eq]; exact h

theorem sc_low : FnScope ["top", "bottom", "one", "other"] ["top", "bottom"] (defScope s_law_lowest) := ⟨rfl, rfl, rfl, by decide +kernel, rfl, by decide +kernel, by decide +kernel⟩
theorem ok_low (D : Df K mg "_law_lowest" s_law_lowest ["top", "bottom"] []) (T : TxB K mg) : Cal P w K mg base "_law_lowest" 1 ["top", "bottom"] [] spLow := by
  refine D.cal (k := 0) sc_low (fun vs H Q E h => by obtain ⟨a, b, rfl, _⟩ := h; rfl) (fun f cdv A outer s H vs Q E hr h => ?_)
  obtain ⟨t, b, rfl, hb, hz, k⟩ := h
  refine ⟨_, pss_cons (ps_par (i := 2) (j := 3) rfl sc_low.nd rfl rfl (by decide) rfl rfl (pa_cons (pe_callB call_abs rfl T.nAbs PyProof.Rows.boot_abs (pa_cons (pv 0) pa_nil)) (pa_cons (pe_callB call_abs rfl T.nAbs PyProof.Rows.boot_abs (pa_cons (pv 1) pa_nil)) pa_nil)) (by rfl))
    (pss_cons (ps_while PassesOwn.never (pt_cmpR op_gt (pv 3) pe_int (nomark _))
      (pss_one (ps_par (i := 2) (j := 3) rfl sc_low.nd rfl rfl (by decide) rfl rfl (pa_cons (pv 3) (pa_cons (pe_op op_mod (pv 2) (pv 3)) pa_nil)) (by rfl))))
    (pss_cons (ps_if (pt_cmpR op_lt (pv 1) pe_int (nomark _)) (pss_one (ps_set (i := 2) sc_low.nd rfl (Or.inl rfl) (pe_un un_neg (pv 2)))) pss_nil)
    (pss_one (ps_ret (pe_tup (pa_cons (pe_op op_fdivB (pv 0) (pv 2)) (pa_cons (pe_op op_fdivB (pv 1) (pv 2)) pa_nil))))))), ?_⟩
  have hd := KM.dv_ne (t := t) hb
  have hdz : Bd 8900 (KM.dv t b) := hz.of_le (KM.dv_le hb)
  have ge : (Int.gcd (if t < 0 then -t else t) (if b < 0 then -b else b) : Nat) = Int.gcd t b := by
    rw [abs_eq, abs_eq]; simp [Int.gcd]
  refine ⟨_, rfl, t, rfl, ⟨_, rfl, b, rfl, _, _, rfl, ?_⟩⟩
  have fin : ∀ (σ : St) (z : Option V), σ = [some (.int t), some (.int b), some (.int (KM.dv t b)), z] → tRet (tTup (tCons (tOp (rI CDivB fun i j => V.int (i.fdiv j)) (tVar 0) (tVar 2)) (tCons (tOp (rI CDivB fun i j => V.int (i.fdiv j)) (tVar 1) (tVar 2)) tNil))) { nx := fun _ H' => Q .non H', rt := Q } σ H := by
    rintro σ z rfl
    refine ⟨_, rfl, _, rfl, _, _, rfl, rfl, ⟨hd, hdz⟩, _, rfl, _, rfl, _, _, rfl, rfl, ⟨hd, hdz⟩, ?_⟩
    refine ⟨by show 2 ≤ sizeLine; decide, fun p hp => k p _ (Same.upd hp) ?_⟩
    show upd H p _ p = _
    rw [upd_same]
    dsimp only
    rw [KM.dv_num hb, KM.dv_den hb]; rfl
  refine while_by (fun σ H1 => H1 = H ∧ ∃ x y : Int, σ = [some (.int t), some (.int b), some (.int x), some (.int y)] ∧ 0 ≤ x ∧ 0 ≤ y ∧ Int.gcd x y = Int.gcd t b)
    (fun σ _ => match σ with | [_, _, _, some (.int y)] => y.toNat | _ => 0) ⟨rfl, _, _, rfl, (by rw [abs_eq]; omega), (by rw [abs_eq]; omega), ge⟩ ?_ ?_
  · rintro σ H1 ⟨rfl, x, y, rfl, hx, hy, e⟩
    refine ⟨_, rfl, _, _, rfl, rfl, _, rfl, ite2 (fun h => ?_) (fun h => ?_)⟩
    · have h' : 0 < y := of_decide_eq_true h
      refine ⟨_, rfl, _, rfl, _, rfl, _, _, rfl, rfl, h', _, _, rfl, ⟨rfl, _, _, rfl, hy, Int.emod_nonneg _ (by omega), ?_⟩, ?_⟩
      · rw [KM.gcd_step hx h']; exact e
      · show (x % y).toNat < y.toNat
        have := Int.emod_lt_of_pos x h'
        omega
    · have h' : ¬ 0 < y := fun z => h (decide_eq_true z)
      have : y = 0 := by omega
      subst this
      have e2 : x = (Int.gcd t b : Nat) := by rw [← e, Int.gcd_zero_right]; omega
      refine ⟨_, rfl, _, _, rfl, rfl, _, rfl, ite2 (fun h => ?_) (fun h => ?_)⟩
      · have h' : b < 0 := of_decide_eq_true h
        refine ⟨_, rfl, _, rfl, fin _ (some (.int 0)) ?_⟩
        rw [e2]; unfold KM.dv; rw [if_pos h']; rfl
      · have h' : ¬ b < 0 := fun z => h (decide_eq_true z)
        refine fin _ (some (.int 0)) ?_
        rw [e2]; unfold KM.dv; rw [if_neg h']
  · rintro σ H1 Q1 Q2 hq ⟨v, e, i, j, e1, e2, k1, e3, q⟩
    exact ⟨v, e, i, j, e1, e2, k1, e3, hq _ _ q⟩
end
end KK
section
set_option maxHeartbeats 4000000
set_option Elab.async false
set_option linter.all false
set_option maxRecDepth 100000
namespace KK
open PySem L2
def Pool (H : Hp) (p : Addr) : Prop := ∃ a b c : Int, H p = some (.lst [.int a, .int b, .int c])
structure Step (p : Addr) (H H' : Hp) : Prop where
  pool : Pool H' p
  keep : ∀ b o, H b = some o → b ≠ p → H' b = some o
theorem Step.trans {p : Addr} {H H1 H2 : Hp} (a : Step p H H1) (b : Step p H1 H2) : Step p H H2 := ⟨b.pool, fun c o e n => b.keep c o (a.keep c o e n) n⟩
theorem Step.same {p : Addr} {H H1 H2 : Hp} (a : Step p H H1) (b : Same H1 H2) : Step p H H2 := ⟨by obtain ⟨x, y, z, e⟩ := a.pool; exact ⟨x, y, z, b _ _ e⟩, fun c o e n => b c o (a.keep c o e n)⟩
theorem Step.pre {p : Addr} {H H1 H2 : Hp} (b : Step p H1 H2) (a : Same H H1) : Step p H H2 := ⟨b.pool, fun c o e n => b.keep c o (a c o e) n⟩
theorem Pool.new {H : Hp} {p l : Addr} {o : HO} (h : Pool H p) (hl : H l = none) : Pool (upd H l o) p := by obtain ⟨a, b, c, e⟩ := h; exact ⟨a, b, c, Same.upd hl _ _ e⟩
theorem Pool.ne {H : Hp} {p l : Addr} (h : Pool H p) (hl : H l = none) : l ≠ p := by obtain ⟨a, b, c, e⟩ := h; exact (ne_of_none e hl).symm
theorem Step.refl {p : Addr} {H : Hp} (h : Pool H p) : Step p H H := ⟨h, fun _ _ e _ => e⟩
theorem Step.tup {p a : Addr} {H H' : Hp} {xs : List V} (s : Step p H H') (hp : Pool H p) (h : H a = some (.tup xs)) : H' a = some (.tup xs) := by
  obtain ⟨_, _, _, e⟩ := hp
  exact s.keep a _ h (ne_of h e (by intro z; cases z))
section
variable {P : Program} {w : World} {K : PySem.W.Frag} {mg : Str → Option Value} {base : Heap}
def spCell (K : PySem.W.Frag) : Sp := fun vs H Q _ => ∃ (a : Addr) (ns : List Int) (k : Int), vs = [.ref a, .int k] ∧ SqL K H a (ns.map V.int) ∧ 0 ≤ k ∧ k < 1000 ∧ ∀ i, Q (.int i) H
theorem sc_cell : FnScope ["script", "k"] ["script", "k"] (defScope s_law_cell) := ⟨rfl, rfl, rfl, by decide +kernel, rfl, by decide +kernel, by decide +kernel⟩
theorem ok_cell (D : Df K mg "_law_cell" s_law_cell ["script", "k"] []) (T : TxB K mg) : Cal P w K mg base "_law_cell" 1 ["script", "k"] [] (spCell K) := by
  refine D.cal (k := 0) sc_cell (fun vs H Q E h => by obtain ⟨a, ns, i, rfl, _⟩ := h; rfl) (fun f cdv A outer s H vs Q E hr h => ?_)
  obtain ⟨a, ns, i, rfl, hS, h0, h1, k⟩ := h
  refine ⟨_, pss_cons (ps_if (pt_cmpR op_lt (pv 1) (pe_callB call_len_seq (by rfl) T.nLen PySem.boot_len (pa_cons (pv 0) pa_nil)) (nomark _)) (pss_one (ps_ret (pe_ix ix_list (pv 0) (pv 1) (fun _ _ => rfl)))) pss_nil)
    (pss_one (ps_ret (pe_op op_add (pe_op op_mul (pe_op op_mul pe_int (pv 1)) (pv 1)) (pe_op op_mul pe_int (pv 1))))), ?_⟩
  refine ⟨_, rfl, _, rfl, a, _, rfl, .inl hS, _, _, rfl, rfl, _, rfl, ite2 (fun h => ?_) (fun h => ?_)⟩
  · have h' : i < ((ns.map V.int).length : Int) := of_decide_eq_true h
    rw [List.length_map] at h'
    have hl : i.toNat < ns.length := by omega
    have e : (ns.map V.int)[i.toNat]? = some (.int ns[i.toNat]) := by rw [List.getElem?_map, List.getElem?_eq_getElem hl]; rfl
    have e2 := atI_nat e
    rw [show ((i.toNat : Nat) : Int) = i by omega] at e2
    exact ⟨_, rfl, _, rfl, a, _, _, _, rfl, rfl, hS, e2, k _⟩
  · exact ⟨_, rfl, _, _, rfl, rfl, .inl ⟨by decide, by decide⟩, _, rfl, _, _, rfl, rfl, .inr ⟨by omega, by omega⟩, _, rfl, _, _, rfl, rfl, .inl ⟨by decide, by decide⟩, _, _, rfl, rfl, k _⟩

def spDig : Sp := fun vs H Q _ => ∃ c : Int, vs = [.int c] ∧ ∀ p H', H p = none → Same H H' → Pool H' p → Q (.ref p) H'
theorem sc_dig : FnScope ["cell"] ["cell"] (defScope s_law_dig) := ⟨rfl, rfl, rfl, by decide +kernel, rfl, by decide +kernel, by decide +kernel⟩
theorem ok_dig (D : Df K mg "_law_dig" s_law_dig ["cell"] []) (T : TxB K mg) : Cal P w K mg base "_law_dig" 1 ["cell"] [] spDig := by
  refine D.cal (k := 0) sc_dig (fun vs H Q E h => by obtain ⟨a, rfl, _⟩ := h; rfl) (fun f cdv A outer s H vs Q E hr h => ?_)
  obtain ⟨c, rfl, k⟩ := h
  refine ⟨_, pss_one (ps_ret (pe_lst (pa_cons (pe_callB (call_max2 rfl) (by rfl) T.nMax PyProof.Rows.boot_max (pa_cons pe_int (pa_cons (pe_op op_sub (pv 0) (pe_op op_pow pe_int pe_int)) pa_nil))) (pa_cons (pe_op op_mod (pv 0) (pe_op op_pow pe_int pe_int)) (pa_cons pe_int pa_nil))))), ?_⟩
  refine ⟨_, rfl, _, _, rfl, rfl, ⟨by decide, by decide, by decide⟩, _, _, rfl, rfl, _, _, rfl, ?_⟩
  refine ⟨_, rfl, _, _, rfl, rfl, ⟨by decide, by decide, by decide⟩, _, _, rfl, rfl, (by show (0 : Int) < 10 ^ 18; decide), (by show 3 ≤ sizeLine; decide), fun p hp => ?_⟩
  exact k p _ hp (Same.upd hp) ⟨_, _, _, upd_same⟩

def spNext : Sp := fun vs H Q _ => ∃ (p : Addr) (n : Int), vs = [.ref p, .int n] ∧ 0 < n ∧ n < 1073741824 ∧ Pool H p ∧ ∀ (d : Int) H', 0 ≤ d → d < n → Step p H H' → Q (.int d) H'
theorem sc_next : FnScope ["pool", "base", "digit", "mixed", "stir"] ["pool", "base"] (defScope s_law_next) := ⟨rfl, rfl, rfl, by decide +kernel, rfl, by decide +kernel, by decide +kernel⟩
theorem step_set {H : Hp} {p : Addr} {a b c : Int} : Step p H (upd H p (.lst [.int a, .int b, .int c])) := ⟨⟨a, b, c, upd_same⟩, fun d o e n => by rw [upd_ne n]; exact e⟩
theorem ok_next (D : Df K mg "_law_next" s_law_next ["pool", "base"] []) : Cal P w K mg base "_law_next" 1 ["pool", "base"] [] spNext := by
  refine D.cal (k := 0) sc_next (fun vs H Q E h => by obtain ⟨a, b, rfl, _⟩ := h; rfl) (fun f cdv A outer s H vs Q E hr h => ?_)
  obtain ⟨p, n, rfl, n0, n1, ⟨a, b, c, hp⟩, k⟩ := h
  refine ⟨_, pss_cons (ps_if (pt_cmpR op_gt (pe_ix ix_list (pv 0) pe_int (fun _ _ => rfl)) pe_int (nomark _))
      (pss_cons (ps_set (i := 2) sc_next.nd rfl (Or.inl rfl) (pe_op op_mod (pe_ix ix_list (pv 0) pe_int (fun _ _ => rfl)) (pv 1)))
      (pss_cons (ps_asg (pe_op op_fdiv (pe_ix ix_list (pv 0) pe_int (fun _ _ => rfl)) (pv 1)) (pg_sub (pv 0) pe_int set_list))
      (pss_one (ps_ret (pv 2))))) pss_nil)
    (pss_cons (ps_asg (pe_op op_add (pe_ix ix_list (pv 0) pe_int (fun _ _ => rfl)) pe_int) (pg_sub (pv 0) pe_int set_list))
    (pss_cons (ps_set (i := 3) sc_next.nd rfl (Or.inl rfl) (pe_op op_mod (pe_op op_add (pe_ix ix_list (pv 0) pe_int (fun _ _ => rfl)) (pe_op op_mul pe_int (pe_ix ix_list (pv 0) pe_int (fun _ _ => rfl)))) pe_int))
    (pss_cons (ps_set (i := 4) sc_next.nd rfl (Or.inl rfl) (pe_op op_mod (pe_op op_mul (pe_op op_add (pv 3) pe_int) (pe_op op_add (pv 3) pe_int)) pe_int))
    (pss_one (ps_ret (pe_op op_mod (pe_op op_fdiv (pe_op op_mod (pe_op op_mul (pv 4) (pv 4)) pe_int) pe_int) (pv 1))))))), ?_⟩
  refine ⟨_, rfl, p, _, _, _, rfl, rfl, .of hp, rfl, _, _, rfl, rfl, _, rfl, ite2 (fun h => ?_) (fun h => ?_)⟩
  · refine ⟨_, rfl, p, _, _, _, rfl, rfl, .of hp, rfl, _, rfl, _, _, rfl, rfl, n0, ?_⟩
    refine ⟨_, rfl, p, _, _, _, rfl, rfl, .of hp, rfl, _, rfl, _, _, rfl, rfl, ⟨n0, n1⟩, ?_⟩
    refine ⟨_, rfl, p, _, _, 0, rfl, rfl, hp, rfl, ?_⟩
    exact ⟨_, rfl, k _ _ (Int.emod_nonneg _ (by omega)) (Int.emod_lt_of_pos _ n0) step_set⟩
  · refine ⟨_, rfl, p, _, _, _, rfl, rfl, .of hp, rfl, _, _, rfl, rfl, ?_⟩
    refine ⟨_, rfl, p, _, _, 2, rfl, rfl, hp, rfl, ?_⟩
    refine ⟨_, rfl, p, _, _, _, rfl, rfl, .of upd_same, rfl, _, rfl, p, _, _, _, rfl, rfl, .of upd_same, rfl, _, _, rfl, rfl, .inl ⟨by decide, by decide⟩, _, _, rfl, rfl, _, _, rfl, rfl, (by show (0 : Int) < 1000000007; decide), ?_⟩
    refine ⟨_, rfl, _, _, rfl, rfl, _, rfl, _, _, rfl, rfl, _, _, rfl, rfl, .inl (by constructor <;> omega), _, _, rfl, rfl, (by show (0 : Int) < 998244353; decide), ?_⟩
    refine ⟨_, rfl, _, rfl, _, _, rfl, rfl, .inl (by constructor <;> omega), _, _, rfl, rfl, (by show (0 : Int) < 2147483647; decide), _, _, rfl, rfl, ⟨by decide, by decide⟩, _, rfl, _, _, rfl, rfl, n0, ?_⟩
    exact k _ _ (Int.emod_nonneg _ (by omega)) (Int.emod_lt_of_pos _ n0) step_set

def spFar : Sp := fun vs H Q _ => ∃ (p : Addr), vs = [.ref p] ∧ Pool H p ∧ ∀ (d : Int) H', 0 ≤ d → d < 1000000000000000000000 → Step p H H' → Q (.int d) H'
theorem sc_far : FnScope ["pool", "found", "k"] ["pool"] (defScope s_law_far) := ⟨rfl, rfl, rfl, by decide +kernel, rfl, by decide +kernel, by decide +kernel⟩
theorem far_step {i : Nat} {f d : Int} (h0 : 0 ≤ f) (h1 : f < 10000000 ^ i) (d0 : 0 ≤ d) (d1 : d < 10000000) : 0 ≤ f * 10 ^ 7 + d ∧ f * 10 ^ 7 + d < 10000000 ^ (i + 1) := by
  have e : (10 : Int) ^ 7 = 10000000 := by decide
  rw [e, Int.pow_succ]
  generalize (10000000 : Int) ^ i = B at *
  omega
theorem ok_far (D : Df K mg "_law_far" s_law_far ["pool"] []) (T : TxB K mg) (cN : Cal P w K mg base "_law_next" 1 ["pool", "base"] [] spNext) : Cal P w K mg base "_law_far" 2 ["pool"] [] spFar := by
  refine D.cal (k := 1) sc_far (fun vs H Q E h => by obtain ⟨a, rfl, _⟩ := h; rfl) (fun f cdv A outer s H vs Q E hr h => ?_)
  obtain ⟨p, rfl, hp, k⟩ := h
  refine ⟨_, pss_cons (ps_set (i := 1) sc_far.nd rfl (Or.inl rfl) pe_int)
    (pss_cons (ps_for PassesOwn.never rfl (pi_range1 rfl T.nRange (pa_cons (pe_op op_add pe_int (pe_c cN hr (pa_cons (pv 0) (pa_cons pe_int pa_nil)))) pa_nil)) (pg_name (i := 2) sc_far.nd rfl (Or.inl rfl))
      (pss_one (ps_set (i := 1) sc_far.nd rfl (Or.inl rfl) (pe_op op_add (pe_op op_mul (pv 1) (pe_op op_pow pe_int pe_int)) (pe_c cN hr (pa_cons (pv 0) (pa_cons (pe_op op_pow pe_int pe_int) pa_nil)))))))
    (pss_one (ps_ret (pv 1)))), ?_⟩
  refine ⟨_, rfl, p, _, rfl, by decide, by decide, hp, fun d H1 d0 d1 s1 => ?_⟩
  refine ⟨_, _, rfl, rfl, _, rfl, (by omega), (by omega), ?_⟩
  have hn : ((1 : Int) + d).toNat ≤ 3 := by omega
  refine for_range (n := ((1 : Int) + d).toNat) (lo := 0) (fun i σ H2 => ∃ (z : Option V) (g : Int), σ = [some (.ref p), some (.int g), z] ∧ 0 ≤ g ∧ g < 10000000 ^ i ∧ Step p H H2) ⟨none, 0, rfl, by decide, by decide, s1⟩ ?_ ?_
  · rintro i σ H2 hi ⟨z, g, rfl, g0, g1, s2⟩
    refine ⟨_, rfl, _, _, rfl, rfl, ⟨by decide, by decide, by decide⟩, _, _, rfl, rfl, .inr ⟨by decide, by decide⟩, ?_⟩
    refine ⟨_, rfl, _, _, rfl, rfl, ⟨by decide, by decide, by decide⟩, p, _, rfl, by decide, by decide, s2.pool, fun e H3 e0 e1 s3 => ?_⟩
    have := far_step g0 g1 e0 e1
    exact ⟨_, _, rfl, rfl, _, _, rfl, this.1, this.2, s2.trans s3⟩
  · rintro σ H2 ⟨z, g, rfl, g0, g1, s2⟩
    refine ⟨_, rfl, k _ _ g0 ?_ s2⟩
    have : ((1 : Int) + d).toNat = 0 ∨ ((1 : Int) + d).toNat = 1 ∨ ((1 : Int) + d).toNat = 2 ∨ ((1 : Int) + d).toNat = 3 := by omega
    have e1 : (10000000 : Int) ^ 0 = 1 := by decide
    have e2 : (10000000 : Int) ^ 1 = 10000000 := by decide
    have e3 : (10000000 : Int) ^ 2 = 100000000000000 := by decide
    have e4 : (10000000 : Int) ^ 3 = 1000000000000000000000 := by decide
    rcases this with z | z | z | z <;> rw [z] at g1 <;> omega

def spRat : Sp := fun vs H Q _ => ∃ (p : Addr), vs = [.ref p] ∧ Pool H p ∧ ∀ (r : Addr) (q : Rat) H', Step p H H' → RatAt H' r q → Sz 80 q → Q (.ref r) H'
theorem sc_rat : FnScope ["pool", "bottom", "top", "way"] ["pool"] (defScope s_law_ratio) := ⟨rfl, rfl, rfl, by decide +kernel, rfl, by decide +kernel, by decide +kernel⟩
theorem menu8 {d : Int} (h0 : 0 ≤ d) (h1 : d < 8) : ∃ v : Int, atI [V.int 1, .int 1, .int 1, .int 2, .int 2, .int 3, .int 4, .int 6] d = some (.int v) ∧ 1 ≤ v ∧ v ≤ 6 := by
  have : d = 0 ∨ d = 1 ∨ d = 2 ∨ d = 3 ∨ d = 4 ∨ d = 5 ∨ d = 6 ∨ d = 7 := by omega
  rcases this with rfl | rfl | rfl | rfl | rfl | rfl | rfl | rfl
  all_goals exact ⟨_, rfl, by decide, by decide⟩
theorem menu2 {d : Int} (h0 : 0 ≤ d) (h1 : d < 2) (x y : V) : ∃ v, atI [x, y] d = some v ∧ (v = x ∨ v = y) := by
  have : d = 0 ∨ d = 1 := by omega
  rcases this with rfl | rfl
  · exact ⟨_, rfl, .inl rfl⟩
  · exact ⟨_, rfl, .inr rfl⟩
theorem ok_rat (D : Df K mg "_law_ratio" s_law_ratio ["pool"] []) (cN : Cal P w K mg base "_law_next" 1 ["pool", "base"] [] spNext) (cF : Cal P w K mg base "_law_far" 2 ["pool"] [] spFar) (cL : Cal P w K mg base "_law_lowest" 1 ["top", "bottom"] [] spLow) :
    Cal P w K mg base "_law_ratio" 3 ["pool"] [] spRat := by
  refine D.cal (k := 2) sc_rat (fun vs H Q E h => by obtain ⟨a, rfl, _⟩ := h; rfl) (fun f cdv A outer s H vs Q E hr h => ?_)
  obtain ⟨p, rfl, hp, k⟩ := h
  have hr1 : Room 1 _ := hr.mono (by decide)
  refine ⟨_, pss_cons (ps_set (i := 1) sc_rat.nd rfl (Or.inl rfl) (pe_ix ix_list (pe_lst (pa_cons pe_int (pa_cons pe_int (pa_cons pe_int (pa_cons pe_int (pa_cons pe_int (pa_cons pe_int (pa_cons pe_int (pa_cons pe_int pa_nil))))))))) (pe_c cN hr1 (pa_cons (pv 0) (pa_cons pe_int pa_nil))) (fun _ _ => rfl)))
    (pss_cons (ps_set (i := 2) sc_rat.nd rfl (Or.inl rfl) (pe_op op_sub (pe_c cN hr1 (pa_cons (pv 0) (pa_cons pe_int pa_nil))) pe_int))
    (pss_cons (ps_set (i := 3) sc_rat.nd rfl (Or.inl rfl) (pe_c cN hr1 (pa_cons (pv 0) (pa_cons pe_int pa_nil))))
    (pss_cons (ps_if (pt_cmpR op_eq (pv 3) pe_int (nomark _))
      (pss_cons (ps_set (i := 2) sc_rat.nd rfl (Or.inl rfl) (pe_op op_mul (pe_c cF hr (pa_cons (pv 0) pa_nil)) (pe_ix ix_list (pe_lst (pa_cons pe_int (pa_cons (pe_un un_neg pe_int) pa_nil))) (pe_c cN hr1 (pa_cons (pv 0) (pa_cons pe_int pa_nil))) (fun _ _ => rfl))))
      (pss_one (ps_set (i := 1) sc_rat.nd rfl (Or.inl rfl) (pe_op op_add pe_int (pe_c cN hr1 (pa_cons (pv 0) (pa_cons pe_int pa_nil))))))) pss_nil)
    (pss_cons (ps_if (pt_cmpR op_eq (pv 3) pe_int (nomark _)) (pss_one (ps_set (i := 2) sc_rat.nd rfl (Or.inl rfl) pe_int)) pss_nil)
    (pss_one (ps_ret (pe_c cL hr1 (pa_cons (pv 2) (pa_cons (pv 1) pa_nil))))))))), ?_⟩
  refine ⟨by show 8 ≤ sizeLine; decide, fun l hl => ?_⟩
  refine ⟨_, rfl, p, _, rfl, by decide, by decide, hp.new hl, fun d H1 d0 d1 s1 => ?_⟩
  obtain ⟨b, eb, b1, b2⟩ := menu8 d0 d1
  refine ⟨l, _, _, _, rfl, rfl, .of (s1.keep l _ upd_same (hp.ne hl)), eb, ?_⟩
  have S1 : Step p H H1 := s1.pre (Same.upd hl)
  refine ⟨_, rfl, p, _, rfl, by decide, by decide, S1.pool, fun d2 H2 e0 e1 s2 => ?_⟩
  refine ⟨_, _, rfl, rfl, ?_⟩
  refine ⟨_, rfl, p, _, rfl, by decide, by decide, s2.pool, fun wy H3 w0 w1 s3 => ?_⟩
  have S3 := S1.trans (s2.trans s3)
  have fin : ∀ (t b : Int) (H4 : Hp) (z : Option V), 1 ≤ b → b ≤ 12 → t.natAbs ≤ 1000000000000000000000 → Step p H H4 → tRet (tCall spLow [] E0 (tCons (tVar 2) (tCons (tVar 1) tNil))) { nx := fun _ H' => Q .non H', rt := Q } [some (.ref p), some (.int b), some (.int t), z] H4 := by
    intro t b H4 z hb1 hb2 ht S4
    have hbb : Bd 80 b := Nat.lt_of_le_of_lt (show b.natAbs ≤ 12 by omega) (by decide)
    have htt : Bd 80 t := Nat.lt_of_le_of_lt ht (by decide)
    refine ⟨_, rfl, _, rfl, _, _, rfl, (by omega), hbb.mono (by decide), fun r H' e h => k r _ H' (S4.same e) h (.divInt (by omega) htt hbb)⟩
  have cont : ∀ (t b : Int) (H4 : Hp), 1 ≤ b → b ≤ 12 → t.natAbs ≤ 1000000000000000000000 → Step p H H4 → tSeq (tIfS (tTest (tOp rEq (tVar 3) (tC (.int 1)))) (tAsg (tC (.int 0)) (gName 2)) tNext) (tRet (tCall spLow [] E0 (tCons (tVar 2) (tCons (tVar 1) tNil)))) { nx := fun _ H' => Q .non H', rt := Q } [some (.ref p), some (.int b), some (.int t), some (.int wy)] H4 := by
    intro t b H4 hb1 hb2 ht S4
    refine ⟨_, rfl, rfl, _, rfl, ite2 (fun _ => ?_) (fun _ => ?_)⟩
    · exact fin 0 b H4 (some (.int wy)) hb1 hb2 (by decide) S4
    · exact fin t b H4 (some (.int wy)) hb1 hb2 ht S4
  refine ⟨_, rfl, rfl, _, rfl, ite2 (fun _ => ?_) (fun _ => ?_)⟩
  · refine ⟨_, rfl, p, rfl, S3.pool, fun g H4 g0 g1 s4 => ?_⟩
    refine ⟨_, rfl, by show 2 ≤ sizeLine; decide, fun l2 hl2 => ?_⟩
    refine ⟨_, rfl, p, _, rfl, by decide, by decide, s4.pool.new hl2, fun d5 H5 f0 f1 s5 => ?_⟩
    obtain ⟨v, ev, hv⟩ := menu2 f0 f1 (V.int 1) (V.int (-1))
    refine ⟨l2, _, _, _, rfl, rfl, .of (s5.keep l2 _ upd_same (s4.pool.ne hl2)), ev, ?_⟩
    have S5 : Step p H H5 := S3.trans (s4.trans (s5.pre (Same.upd hl2)))
    rcases hv with rfl | rfl
    · refine ⟨_, _, rfl, rfl, .inr ⟨by decide, by decide⟩, ?_⟩
      refine ⟨_, rfl, p, _, rfl, by decide, by decide, S5.pool, fun d6 H6 h0 h1 s6 => ?_⟩
      refine ⟨_, _, rfl, rfl, ?_⟩
      exact cont _ _ H6 (by omega) (by omega) (by omega) (S5.trans s6)
    · refine ⟨_, _, rfl, rfl, .inr ⟨by decide, by decide⟩, ?_⟩
      refine ⟨_, rfl, p, _, rfl, by decide, by decide, S5.pool, fun d6 H6 h0 h1 s6 => ?_⟩
      refine ⟨_, _, rfl, rfl, ?_⟩
      exact cont _ _ H6 (by omega) (by omega) (by omega) (S5.trans s6)
  · exact cont _ _ H3 (by omega) (by omega) (by omega) S3
end
end KK
end
section
set_option maxHeartbeats 8000000
set_option Elab.async false
set_option linter.all false
set_option maxRecDepth 100000
namespace L2
open PySem PySem.Spec PyProof.Rows
section
variable {X : Cx}
theorem bx_out {p : Prop} (h : Bx p) : p := by obtain ⟨h⟩ := h; exact h
end
end L2
namespace L2
open PySem PySem.Spec PyProof.Rows
open KM in
theorem Sz.sub {m n : Nat} {x y : Rat} (h : Sz m x) (k : Sz n y) : Sz (m + n + 1) (x - y) := by
  rw [Rat.sub_eq_add_neg]
  exact h.add ⟨by rw [Rat.neg_num]; exact k.1.neg, by rw [Rat.neg_den]; exact k.2⟩
open KM in
theorem Sz.div {m n : Nat} {x y : Rat} (h : Sz m x) (k : Sz n y) (y0 : y ≠ 0) : Sz (m + n) (x / y) := by
  rw [← over_eq]
  exact .divInt (Int.mul_ne_zero (den_ne x) (fun z => y0 (Rat.num_eq_zero.mp z))) (h.1.mul k.2) (h.2.mul k.1)
section
variable {D : Addr} {n : Nat} {js : List Nat} {σ : St} {g : TG} {te : TE} {Z : Hp → Prop} {H : Hp} {N : Nat}
theorem compC_range (R : Nat → V → Hp → Prop) (hR : ∀ i v H H', TupS H H' → R i v H → R i v H') (hD : H D = none) (hl : N < sizeLine)
    (hs : ∀ (i : Nat) (zs : St) (H2 : Hp) (Q' : VK), i < N → zs.length = n → Same H H2 → (∀ v H6, Same H2 H6 → R i v H6 → Q' v H6) → g (.int (0 + (i : Int))) (zs ++ caps σ js) H2 fun σ4 H4 => σ4.drop n = caps σ js ∧ te σ4 H4 Q')
    (k : ∀ ys H', Same H H' → H' D = some (.lst ys) → ys.length = N → (∀ i v, ys[i]? = some v → R i v H') → Z H') :
    ∃ W : Nat → Nat → Hp → List V → Prop, (∃ m, W 0 m (upd H D (.lst [])) []) ∧ ∀ i m H2 ys, W i m H2 ys → H2 D = some (.lst ys) → ((Itr 0 N).stop i H2 ∧ Z H2) ∨
      ((Itr 0 N).go i H2 ∧ ∀ zs x H3, zs.length = n → (Itr 0 N).yld i H2 x H3 → g x (zs ++ caps σ js) H3 fun σ4 H4 => σ4.drop n = caps σ js ∧ (fun _ H Q => Q true H : TT) σ4 H4 fun b H5 => if b = true then te σ4 H5 (fun v H6 => H6 D = some (.lst ys) ∧ ys.length < sizeLine ∧ ∃ m', m' < m ∧ W (i + 1) m' (upd H6 D (.lst (ys ++ [v]))) (ys ++ [v]))
        else H5 D = some (.lst ys) ∧ ∃ m', m' < m ∧ W (i + 1) m' H5 ys) := by
  refine compC_by (J := Itr 0 N) (Q := fun _ H => Z H) (tt := fun _ H Q => Q true H) (N := N) (fun i H2 ys => Same H H2 ∧ ys.length = i ∧ ∀ j v, ys[j]? = some v → R j v H2) ⟨Same.upd hD, rfl, fun j v e => by simp at e⟩ (fun i H2 ys hi p => hi) (fun H2 ys p => Nat.le_refl _) ?_ (fun H2 ys p e => k ys H2 p.1 e p.2.1 p.2.2)
  rintro i x zs H2 H3 ys Nx hN hi hz ⟨rfl, rfl⟩ ⟨s2, hyl, hyR⟩ hD2
  refine hs i zs H3 _ hi hz s2 fun v H6 s6 r6 => ⟨s6 _ _ hD2, by omega, hN _ _ ⟨fun c o e => ?_, by simp [hyl], fun j u e => ?_⟩⟩
  · rw [upd_ne (ne_of_none e hD)]; exact s6 _ _ (s2 _ _ e)
  · have T6 : TupS H6 (upd H6 D (.lst (ys ++ [v]))) := .upd (s6 _ _ hD2)
    by_cases hj : j < ys.length
    · rw [List.getElem?_append_left hj] at e
      exact hR _ _ _ _ ((TupS.of s6).trans T6) (hyR j u e)
    · rw [List.getElem?_append_right (by omega)] at e
      have : j - ys.length = 0 := by
        rcases Nat.eq_zero_or_pos (j - ys.length) with z | z
        · exact z
        · rw [List.getElem?_eq_none (by simp; omega)] at e; cases e
      rw [this] at e
      simp at e
      subst e
      rw [show j = i by omega]
      exact hR _ _ _ _ T6 r6
end
end L2
namespace KK
open PySem L2 KM
theorem pg_tupK {X : Cx} {es : List Expr} {k : Nat} {pos : Pos} {t : TGs} {n : Nat} {K : PySem.W.Frag} (hK : X.K = K) (hc : X.calm = true) (h : PGs X es t)
    (hn : (assignEach es X.env).length = n := by rfl) (hst : (assignEach es X.env).findIdx? (·.1) = none := by rfl) : PG X (.Tuple es k pos) (gTup K n t) := by subst hK; exact pg_tup hc h hn hst
theorem ix_tupK {X : Cx} {K : PySem.W.Frag} (hK : X.K = K) : IxR X (rIxT K) := by subst hK; exact ix_tup
theorem ix_listK {X : Cx} {K : PySem.W.Frag} (hK : X.K = K) : IxR X (rIxL K) := by subst hK; exact ix_list
theorem bdn {n : Nat} {i : Int} (h0 : 0 ≤ i) (h1 : i < 2 ^ n) : Bd n i := by
  unfold Bd
  have : ((2 ^ n : Nat) : Int) = (2 : Int) ^ n := by push_cast; rfl
  omega
theorem bdz {n : Nat} {i : Int} (h0 : -(2 ^ n) < i) (h1 : i < 2 ^ n) : Bd n i := by
  unfold Bd
  have : ((2 ^ n : Nat) : Int) = (2 : Int) ^ n := by push_cast; rfl
  omega
theorem st_next {D : Ends} {σ : St} {H : Hp} (h : D.nx σ H) : tNext D σ H := h
theorem st_mid {t u : TS} {D : Ends} {σ : St} {H : Hp} (R : St → Hp → Prop) (h2 : ∀ σ' H', R σ' H' → u D σ' H') (h1 : ∀ nx : St → Hp → Prop, (∀ σ' H', R σ' H' → nx σ' H') → t { D with nx := nx } σ H) : tSeq t u D σ H := h1 (u D) h2
theorem step_tups {p : Addr} {H H' : Hp} (hp : Pool H p) (s : Step p H H') : TupS H H' := fun b xs e => s.tup hp e
theorem Step.free {p l : Addr} {H G : Hp} (s : Step p H G) (h : G l = none) : H l = none := by
  cases hh : H l with
  | none => rfl
  | some o =>
    by_cases e : l = p
    · subst e; obtain ⟨_, _, _, z⟩ := s.pool; rw [z] at h; cases h
    · rw [s.keep _ _ hh e] at h; cases h
theorem Step.put {p l : Addr} {H G : Hp} (s : Step p H G) (h : H l = none) (n : l ≠ p) (o : HO) : Step p H (upd G l o) :=
  ⟨by obtain ⟨q1, q2, q3, e⟩ := s.pool; exact ⟨q1, q2, q3, by rw [upd_ne (Ne.symm n)]; exact e⟩, fun b u e m => by rw [upd_ne (fun z => by rw [z, h] at e; cases e)]; exact s.keep b u e m⟩
theorem len1 {α : Type} {xs : List α} (h : xs.length = 1) : ∃ a, xs = [a] := by
  match xs, h with
  | [a], _ => exact ⟨a, rfl⟩
theorem rat_int {H : Hp} {p : Addr} {n : Int} (h : H p = some (.tup [.int n, .int 1])) : RatAt H p (n : Rat) := by
  unfold RatAt rp; rw [int_num, int_den]; exact h
theorem step_same {G0 G1 G' : Hp} {p : Addr} (s : Same G0 G1) (hp : G0 p = none) (t : Step p G1 G') : Same G0 G' := fun b o e => t.keep b o (s b o e) (ne_of_none e hp)
theorem tk_snoc {α : Type} {l : List α} {i : Nat} {x : α} (h : l[i]? = some x) : l.take (i + 1) = l.take i ++ [x] := by rw [List.take_add_one, h]; rfl
theorem vint_dec (i j : Int) : decide (V.int i = V.int j) = decide (i = j) := by
  rw [Bool.eq_iff_iff, decide_eq_true_eq, decide_eq_true_eq]
  exact ⟨fun z => by injection z, fun z => by rw [z]⟩
theorem KPair.sq {K : PySem.W.Frag} {a : Addr} {i j : Int} (h : KPair K a i j) (H : Hp) : SqT K H a [.int i, .int j] := by
  obtain ⟨o, t, u, n, e1, e2, e3⟩ := h
  exact .inr ⟨o, _, n, e1, e2, e3, by show 2 ≤ sizeLine; decide, .cons ⟨_, rfl⟩ (.cons ⟨_, rfl⟩ .nil)⟩
structure TxF (K : PySem.W.Frag) (mg : Str → Option Value) (aN : Addr) : Prop where
  nAll : mg "all" = none
  nList : mg "list" = none
  mn : mg "NOUGHT" = some (.ref aN)
  kn : KPair K aN 0 1
structure Sg where
  i : Int
  j : Int
  v : Rat
  w : Rat
  v2 : Rat
  w2 : Rat
def SgAt (H : Hp) (u : V) (s : Sg) : Prop := ∃ a p q p2 q2, u = .ref a ∧ H a = some (.tup [.int s.i, .int s.j, .ref p, .ref q, .ref p2, .ref q2]) ∧ RatAt H p s.v ∧ RatAt H q s.w ∧ RatAt H p2 s.v2 ∧ RatAt H q2 s.w2
theorem SgAt.tups {H H' : Hp} {u : V} {s : Sg} (h : SgAt H u s) (e : TupS H H') : SgAt H' u s := by
  obtain ⟨a, p, q, p2, q2, h1, h2, h3, h4, h5, h6⟩ := h
  exact ⟨a, p, q, p2, q2, h1, e _ _ h2, e _ _ h3, e _ _ h4, e _ _ h5, e _ _ h6⟩
def SgZ (s : Sg) : Prop := Sz 1500 s.v ∧ Sz 1500 s.w ∧ Sz 1500 s.v2 ∧ Sz 1500 s.w2
def shQ (s : Sg) : Option Rat := if s.v = s.w ∨ s.w2 - s.v2 ≠ s.v - s.w ∨ s.w = s.w2 then none else if 0 < (s.v - s.v2) / (s.w2 - s.w) then some ((s.v - s.v2) / (s.w2 - s.w)) else none
def ORt (H : Hp) (v : V) : Option Rat → Prop
  | none => v = .non
  | some q => ∃ a, v = .ref a ∧ RatAt H a q
theorem ORt.tups {H H' : Hp} {v : V} {o : Option Rat} (h : ORt H v o) (e : TupS H H') : ORt H' v o := by
  cases o with
  | none => exact h
  | some q => obtain ⟨a, e1, e2⟩ := h; exact ⟨a, e1, e _ _ e2⟩
theorem shQ_sz {s : Sg} (z : SgZ s) {q : Rat} (h : shQ s = some q) : Sz 6100 q := by
  unfold shQ at h
  by_cases c : s.v = s.w ∨ s.w2 - s.v2 ≠ s.v - s.w ∨ s.w = s.w2
  · rw [if_pos c] at h; cases h
  · rw [if_neg c] at h
    split at h
    · cases h
      exact ((Sz.sub z.1 z.2.2.1).div (Sz.sub z.2.2.2 z.2.1) (by intro e; exact c (.inr (.inr (by grind))))).mono (by decide)
    · cases h
theorem num_pos' {x : Rat} : 0 < x.num ↔ 0 < x := by
  have h1 : 0 ≤ x.num ↔ 0 ≤ x := Rat.num_nonneg
  have h2 : x.num = 0 ↔ x = 0 := Rat.num_eq_zero
  constructor
  · intro h
    have a := h1.mp (by omega)
    have b : x ≠ 0 := fun e => by have := h2.mpr e; omega
    grind
  · intro h
    have a := h1.mpr (by grind)
    have b : x.num ≠ 0 := fun e => by have := h2.mp e; grind
    omega
theorem mul_sgn (x y : Rat) : x.num * y.num ≤ 0 ↔ ¬ (y ≠ 0 ∧ 0 < x / y) := by
  have h1 : (0 < x.num * y.num) ↔ (y ≠ 0 ∧ 0 < x / y) := by
    have hx : 0 < x.num ↔ 0 < x := num_pos'
    have hy : 0 < y.num ↔ 0 < y := num_pos'
    have hx0 : x.num = 0 ↔ x = 0 := Rat.num_eq_zero
    have hy0 : y.num = 0 ↔ y = 0 := Rat.num_eq_zero
    rcases Int.lt_trichotomy y.num 0 with n | n | n
    · have y0 : y < 0 := by
        rcases Classical.em (0 ≤ y) with z | z
        · have := Rat.num_nonneg.mpr z; omega
        · grind
      have e : 0 < x / y ↔ x < 0 := by
        have : x / y = (-x) / (-y) := by grind
        rw [this, Rat.lt_div_iff (by grind)]
        constructor <;> intro h <;> grind
      rw [e]
      constructor
      · intro h
        refine ⟨by grind, ?_⟩
        rcases Classical.em (0 ≤ x) with z | z
        · have := Rat.num_nonneg.mpr z
          have : x.num * y.num ≤ 0 := Int.mul_nonpos_of_nonneg_of_nonpos this (by omega)
          omega
        · grind
      · rintro ⟨_, h⟩
        have : x.num < 0 := by
          rcases Int.lt_or_le x.num 0 with z | z
          · exact z
          · have := Rat.num_nonneg.mp z; grind
        exact Int.mul_pos_of_neg_of_neg this n
    · rw [n, Int.mul_zero]
      have := hy0.mp n
      constructor
      · intro h; omega
      · intro h; exact absurd this h.1
    · have y0 := hy.mp n
      have e : 0 < x / y ↔ 0 < x := by
        rw [Rat.lt_div_iff y0]
        constructor <;> intro h <;> grind
      rw [e, ← hx]
      constructor
      · intro h
        refine ⟨by grind, ?_⟩
        rcases Int.lt_or_le 0 x.num with z | z
        · exact z
        · have : x.num * y.num ≤ 0 := Int.mul_nonpos_of_nonpos_of_nonneg z (by omega)
          omega
      · rintro ⟨_, h⟩
        exact Int.mul_pos h n
  rw [← h1]
  exact ⟨fun h => by omega, fun h => by omega⟩
end KK
end
section
set_option maxHeartbeats 8000000
set_option Elab.async false
set_option linter.all false
set_option maxRecDepth 100000
namespace KK
open PySem L2 KM
section
variable {P : Program} {w : World} {K : PySem.W.Frag} {mg : Str → Option Value} {base : Heap} {aN : Addr}
theorem lt_dec (x y : Rat) : decide (x.num * y.den < y.num * x.den) = decide (x < y) := by
  rw [Bool.eq_iff_iff, decide_eq_true_eq, decide_eq_true_eq]; exact less_iff x y
def spLtK (K : PySem.W.Frag) : Sp := fun vs H Q _ => ∃ p q x y, vs = [.ref p, .ref q] ∧ SqT K H p (rp x) ∧ SqT K H q (rp y) ∧ Sz 8000 x ∧ Sz 8000 y ∧ Q (.bl (decide (x < y))) H
theorem sc_less : FnScope ["one", "other"] ["one", "other"] (defScope s_less) := ⟨rfl, rfl, rfl, by decide +kernel, rfl, by decide +kernel, by decide +kernel⟩
theorem ok_lessK (D : Df K mg "less" s_less ["one", "other"] []) : Cal P w K mg base "less" 1 ["one", "other"] [] (spLtK K) := by
  refine D.cal (k := 0) sc_less (fun vs H Q E h => by obtain ⟨_, _, _, _, rfl, _⟩ := h; rfl) (fun f cdv A outer s H vs Q E hr h => ?_)
  obtain ⟨p, q, x, y, rfl, hp, hq, hx, hy, k⟩ := h
  have b1 : Bd 1000000 x.num := hx.1.mono (by decide)
  have b2 : Bd 1000000 (x.den : Int) := hx.2.mono (by decide)
  have b3 : Bd 1000000 y.num := hy.1.mono (by decide)
  have b4 : Bd 1000000 (y.den : Int) := hy.2.mono (by decide)
  refine ⟨_, (pss_one (ps_ret (pe_cmpR op_lt (pe_op op_mulB (pe_ix ix_tup (pv 0) pe_int (fun _ _ => rfl)) (pe_ix ix_tup (pv 1) pe_int (fun _ _ => rfl))) (pe_op op_mulB (pe_ix ix_tup (pv 1) pe_int (fun _ _ => rfl)) (pe_ix ix_tup (pv 0) pe_int (fun _ _ => rfl))) (nomark _)))), ?_⟩
  refine ⟨_, rfl, p, _, _, _, rfl, rfl, hp, at0 .., _, rfl, q, _, _, _, rfl, rfl, hq, at1 .., _, _, rfl, rfl, ⟨b1, b4⟩, _, rfl, q, _, _, _, rfl, rfl, hq, at0 .., _, rfl, p, _, _, _, rfl, rfl, hp, at1 .., _, _, rfl, rfl, ⟨b3, b2⟩, _, _, rfl, rfl, ?_⟩
  show Q (.bl (decide (x.num * y.den < y.num * x.den))) H
  rw [lt_dec]; exact k
theorem sc_minus : FnScope ["one", "other"] ["one", "other"] (defScope s_minus) := ⟨rfl, rfl, rfl, by decide +kernel, rfl, by decide +kernel, by decide +kernel⟩
theorem ok_minus (D : Df K mg "minus" s_minus ["one", "other"] []) (c : Cal P w K mg base "ratio" 2 ["top", "bottom"] [] spLow) : Cal P w K mg base "minus" 3 ["one", "other"] [] (spBin Sz2 (· - ·)) := by
  refine D.cal (k := 2) sc_minus (fun vs H Q E h => by obtain ⟨_, _, _, _, rfl, _⟩ := h; rfl) (fun f cdv A outer s H vs Q E hr h => ?_)
  obtain ⟨p, q, x, y, rfl, hp, hq, ⟨hx, hy⟩, k⟩ := h
  have bx := Bd4 hx
  have b_y := Bd4 hy
  refine ⟨_, (pss_one (ps_ret (pe_c c hr (pa_cons (pe_op op_sub (pe_op op_mulB (pe_ix ix_tup (pv 0) pe_int (fun _ _ => rfl)) (pe_ix ix_tup (pv 1) pe_int (fun _ _ => rfl))) (pe_op op_mulB (pe_ix ix_tup (pv 1) pe_int (fun _ _ => rfl)) (pe_ix ix_tup (pv 0) pe_int (fun _ _ => rfl)))) (pa_cons (pe_op op_mulB (pe_ix ix_tup (pv 0) pe_int (fun _ _ => rfl)) (pe_ix ix_tup (pv 1) pe_int (fun _ _ => rfl))) pa_nil))))), ?_⟩
  refine ⟨_, rfl, p, _, _, _, rfl, rfl, .of hp, at0 .., _, rfl, q, _, _, _, rfl, rfl, .of hq, at1 .., _, _, rfl, rfl, ⟨bx.1, b_y.2⟩, _, rfl, q, _, _, _, rfl, rfl, .of hq, at0 .., _, rfl, p, _, _, _, rfl, rfl, .of hp, at1 .., _, _, rfl, rfl, ⟨b_y.1, bx.2⟩, _, _, rfl, rfl, ?_⟩
  refine ⟨_, rfl, p, _, _, _, rfl, rfl, .of hp, at1 .., _, rfl, q, _, _, _, rfl, rfl, .of hq, at1 .., _, _, rfl, rfl, ⟨bx.2, b_y.2⟩, ?_⟩
  refine ⟨_, _, rfl, Int.mul_ne_zero (den_ne x) (den_ne y), (hx.2.mul hy.2).mono (by decide), fun r H' e h => k r H' e ?_⟩
  show RatAt H' r (x - y)
  rw [← KM.minus_eq]; exact h
def spSh : Sp := fun vs H Q _ => ∃ u s, vs = [u] ∧ SgAt H u s ∧ SgZ s ∧ ∀ v H', Same H H' → ORt H' v (shQ s) → Q v H'
theorem sc_sh : FnScope ["sighting", "i", "j", "v", "w", "v2", "w2", "share"] ["sighting"] (defScope s_share_of) := ⟨rfl, rfl, rfl, by decide +kernel, rfl, by decide +kernel, by decide +kernel⟩
theorem eqv_r (x y : Rat) : PyData.eqv (.tuple [.int x.num, .int (x.den : Int)]) (.tuple [.int y.num, .int (y.den : Int)]) = decide (x = y) := eqv_rp x y
theorem ok_sh (D : Df K mg "share_of" s_share_of ["sighting"] []) (TF : TxF K mg aN) (cM : Cal P w K mg base "minus" 3 ["one", "other"] [] (spBin Sz2 (· - ·))) (cO : Cal P w K mg base "over" 3 ["one", "other"] [] (spBin (fun x y => Sz2 x y ∧ y ≠ 0) (· / ·))) (cLs : Cal P w K mg base "less" 1 ["one", "other"] [] (spLtK K)) : Cal P w K mg base "share_of" 4 ["sighting"] [] spSh := by
  refine D.calB (k := 3) sc_sh (fun vs H Q E h => by obtain ⟨_, _, rfl, _⟩ := h; rfl) (fun f cdv A outer s H vs Q E hr h => ?_)
  obtain ⟨u, g, rfl, ⟨a, p, q, p2, q2, rfl, ha, hp, hq, hp2, hq2⟩, ⟨z1, z2, z3, z4⟩, k⟩ := h
  have hr1 : Room 1 _ := hr.mono (by decide)
  have hu := hr.units
  have zz : ∀ {x y : Rat}, Sz 1500 x → Sz 1500 y → Sz2 x y := fun h h' => ⟨h.mono (by decide), h'.mono (by decide)⟩
  refine ⟨_, (bx_scons (Bx.mk (ps_asg (pv 0) (pg_tup rfl (pgs_cons (pg_name (i := 1) sc_sh.nd rfl (Or.inl rfl)) (pgs_cons (pg_name (i := 2) sc_sh.nd rfl (Or.inl rfl)) (pgs_cons (pg_name (i := 3) sc_sh.nd rfl (Or.inl rfl)) (pgs_cons (pg_name (i := 4) sc_sh.nd rfl (Or.inl rfl)) (pgs_cons (pg_name (i := 5) sc_sh.nd rfl (Or.inl rfl)) (pgs_cons (pg_name (i := 6) sc_sh.nd rfl (Or.inl rfl)) pgs_nil)))))))))
    (bx_scons (Bx.mk (ps_if (pw_or (pt_cmpR (op_eqD hu) (pv 3) (pv 4) (nomark _)) (pw_or (pt_cmpR (op_neD hu) (pe_c cM hr (pa_cons (pv 6) (pa_cons (pv 5) pa_nil))) (pe_c cM hr (pa_cons (pv 3) (pa_cons (pv 4) pa_nil))) (nomark _)) (pw_or1 (pt_cmpR (op_eqD hu) (pv 4) (pv 6) (nomark _))))).pt (pss_one (ps_ret pe_non)) pss_nil))
    (bx_scons (Bx.mk (ps_set (i := 7) sc_sh.nd rfl (Or.inl rfl) (pe_c cO hr (pa_cons (pe_c cM hr (pa_cons (pv 3) (pa_cons (pv 5) pa_nil))) (pa_cons (pe_c cM hr (pa_cons (pv 6) (pa_cons (pv 4) pa_nil))) pa_nil)))))
    (Bx.mk (pss_one (ps_ret (pe_ifExp (pt_truth (pe_c cLs hr1 (pa_cons (pe_glob (v := .ref aN) (by rfl) TF.mn rfl) (pa_cons (pv 7) pa_nil))) fun _ => rfl) (pv 7) pe_non))))))), ?_⟩
  refine ⟨_, rfl, a, _, rfl, .of ha, rfl, _, _, rfl, _, _, rfl, _, _, rfl, _, _, rfl, _, _, rfl, _, _, rfl, rfl, ?_⟩
  refine ⟨_, rfl, _, rfl, _, _, hp.rd, hq.rd, shaped_rp _, shaped_rp _, _, rfl, ?_⟩
  rw [eqv_r]
  by_cases c1 : g.v = g.w
  · rw [decide_eq_true c1]
    refine iteT (iteT (k .non H (Same.refl _) ?_))
    unfold shQ; rw [if_pos (.inl c1)]; rfl
  rw [decide_eq_false c1]
  refine iteF ?_
  refine ⟨_, rfl, _, rfl, q2, p2, _, _, rfl, hq2, hp2, zz z4 z3, fun r1 H1 e1 h1 => ?_⟩
  refine ⟨_, rfl, _, rfl, p, q, _, _, rfl, hp.same e1, hq.same e1, zz z1 z2, fun r2 H2 e2 h2 => ?_⟩
  have S2 := e1.trans e2
  refine ⟨_, _, RatAt.rd (e2 _ _ h1), h2.rd, shaped_rp _, shaped_rp _, _, rfl, ?_⟩
  rw [eqv_r]
  by_cases c2 : g.w2 - g.v2 = g.v - g.w
  rotate_left
  · rw [decide_eq_false c2]
    refine iteT (iteT (k .non H2 S2 ?_))
    unfold shQ; rw [if_pos (.inr (.inl c2))]; rfl
  rw [decide_eq_true c2]
  refine iteF ?_
  refine ⟨_, rfl, _, rfl, _, _, RatAt.rd (S2 _ _ hq), RatAt.rd (S2 _ _ hq2), shaped_rp _, shaped_rp _, _, rfl, ?_⟩
  rw [eqv_r]
  by_cases c3 : g.w = g.w2
  · rw [decide_eq_true c3]
    refine iteT (k .non H2 S2 ?_)
    unfold shQ; rw [if_pos (.inr (.inr c3))]; rfl
  rw [decide_eq_false c3]
  refine iteF ?_
  have n0 : g.w2 - g.w ≠ 0 := by grind
  have cn : ¬ (g.v = g.w ∨ g.w2 - g.v2 ≠ g.v - g.w ∨ g.w = g.w2) := by
    rintro (z | z | z)
    · exact c1 z
    · exact z c2
    · exact c3 z
  refine ⟨_, rfl, _, rfl, p, p2, _, _, rfl, S2 _ _ hp, S2 _ _ hp2, zz z1 z3, fun r3 H3 e3 h3 => ?_⟩
  have S3 := S2.trans e3
  refine ⟨_, rfl, _, rfl, q2, q, _, _, rfl, S3 _ _ hq2, S3 _ _ hq, zz z4 z2, fun r4 H4 e4 h4 => ?_⟩
  have zl := Sz.sub z1 z3
  have zw := Sz.sub z4 z2
  refine ⟨r3, r4, _, _, rfl, e4 _ _ h3, h4, ⟨⟨zl.mono (by decide), zw.mono (by decide)⟩, n0⟩, fun r5 H5 e5 h5 => ?_⟩
  have S5 := S3.trans (e4.trans e5)
  dsimp only [gName]
  have zq : Sz 6100 ((g.v - g.v2) / (g.w2 - g.w)) := (zl.div zw n0).mono (by decide)
  have z0 : Sz 8000 (0 : Rat) := Sz.mono (m := 1) ⟨show (0 : Int).natAbs < 2 ^ 1 by decide, show (1 : Int).natAbs < 2 ^ 1 by decide⟩ (by decide)
  refine ⟨_, rfl, aN, r5, 0, _, rfl, KPair.sq TF.kn H5, .of h5, z0, zq.mono (by decide), _, rfl, ?_⟩
  by_cases c4 : 0 < (g.v - g.v2) / (g.w2 - g.w)
  · rw [decide_eq_true c4]
    refine iteT ⟨_, rfl, k _ H5 S5 ?_⟩
    unfold shQ; rw [if_neg cn, if_pos c4]; exact ⟨r5, rfl, h5⟩
  · rw [decide_eq_false c4]
    refine iteF (k .non H5 S5 ?_)
    unfold shQ; rw [if_neg cn, if_neg c4]; rfl
theorem sc_mi : FnScope ["one", "other"] ["one", "other"] (defScope s_law_minus) := ⟨rfl, rfl, rfl, by decide +kernel, rfl, by decide +kernel, by decide +kernel⟩
def Sz3 (x y : Rat) : Prop := Sz 3900 x ∧ Sz 3900 y
theorem ok_mi (D : Df K mg "_law_minus" s_law_minus ["one", "other"] []) (cS : Cal P w K mg base "_law_sum" 2 ["one", "other"] [] (spBin Sz2 (· + ·))) (cPr : Cal P w K mg base "_law_product" 2 ["one", "other"] [] (spBin Sz2 (· * ·))) : Cal P w K mg base "_law_minus" 3 ["one", "other"] [] (spBin Sz3 (· - ·)) := by
  refine D.cal (k := 2) sc_mi (fun vs H Q E h => by obtain ⟨_, _, _, _, rfl, _⟩ := h; rfl) (fun f cdv A outer s H vs Q E hr h => ?_)
  obtain ⟨p, q, x, y, rfl, hp, hq, ⟨hx, hy⟩, k⟩ := h
  refine ⟨_, (pss_one (ps_ret (pe_c cS hr (pa_cons (pv 0) (pa_cons (pe_c cPr hr (pa_cons (pv 1) (pa_cons (pe_tup (pa_cons (pe_un un_neg pe_int) (pa_cons pe_int pa_nil))) pa_nil))) pa_nil))))), ?_⟩
  refine ⟨_, rfl, _, rfl, _, rfl, by show 2 ≤ sizeLine; decide, fun t ht => ?_⟩
  have s1 := Same.upd (o := .tup [.int (-1), .int 1]) ht
  have z1 : Sz 2 (((-1 : Int) : Rat)) := Sz.int (show (-1 : Int).natAbs < 2 ^ 2 by decide) (by decide)
  refine ⟨q, t, _, _, rfl, s1 _ _ hq, rat_int upd_same, ⟨hy.mono (by decide), z1.mono (by decide)⟩, fun r1 H1 e1 h1 => ?_⟩
  refine ⟨p, r1, _, _, rfl, e1 _ _ (s1 _ _ hp), h1, ⟨hx.mono (by decide), (hy.mul z1).mono (by decide)⟩, fun r2 H2 e2 h2 => k r2 H2 (s1.trans (e1.trans e2)) ?_⟩
  have e : x + y * (((-1 : Int)) : Rat) = x - y := by
    have : (((-1 : Int)) : Rat) = -1 := by rfl
    rw [this]; grind
  show RatAt H2 r2 (x - y)
  rw [← e]; exact h2
theorem sc_ls : FnScope ["sighting", "i", "j", "v", "w", "v2", "w2", "lost", "won"] ["sighting"] (defScope s_law_share) := ⟨rfl, rfl, rfl, by decide +kernel, rfl, by decide +kernel, by decide +kernel⟩
theorem ok_ls (D : Df K mg "_law_share" s_law_share ["sighting"] []) (cMi : Cal P w K mg base "_law_minus" 3 ["one", "other"] [] (spBin Sz3 (· - ·))) (cL : Cal P w K mg base "_law_lowest" 1 ["top", "bottom"] [] spLow) : Cal P w K mg base "_law_share" 4 ["sighting"] [] spSh := by
  refine D.calB (k := 3) sc_ls (fun vs H Q E h => by obtain ⟨_, _, rfl, _⟩ := h; rfl) (fun f cdv A outer s H vs Q E hr h => ?_)
  obtain ⟨u, g, rfl, ⟨a, p, q, p2, q2, rfl, ha, hp, hq, hp2, hq2⟩, ⟨z1, z2, z3, z4⟩, k⟩ := h
  have hr1 : Room 1 _ := hr.mono (by decide)
  have hu := hr.units
  have zz : ∀ {x y : Rat}, Sz 1500 x → Sz 1500 y → Sz3 x y := fun h h' => ⟨h.mono (by decide), h'.mono (by decide)⟩
  refine ⟨_, (bx_scons (Bx.mk (ps_asg (pv 0) (pg_tup rfl (pgs_cons (pg_name (i := 1) sc_ls.nd rfl (Or.inl rfl)) (pgs_cons (pg_name (i := 2) sc_ls.nd rfl (Or.inl rfl)) (pgs_cons (pg_name (i := 3) sc_ls.nd rfl (Or.inl rfl)) (pgs_cons (pg_name (i := 4) sc_ls.nd rfl (Or.inl rfl)) (pgs_cons (pg_name (i := 5) sc_ls.nd rfl (Or.inl rfl)) (pgs_cons (pg_name (i := 6) sc_ls.nd rfl (Or.inl rfl)) pgs_nil)))))))))
    (bx_scons (Bx.mk (ps_set (i := 7) sc_ls.nd rfl (Or.inl rfl) (pe_c cMi hr (pa_cons (pv 3) (pa_cons (pv 5) pa_nil)))))
    (bx_scons (Bx.mk (ps_set (i := 8) sc_ls.nd rfl (Or.inl rfl) (pe_c cMi hr (pa_cons (pv 6) (pa_cons (pv 4) pa_nil)))))
    (bx_scons (Bx.mk (ps_if (pw_or (pt_cmpR (op_eqD hu) (pv 3) (pv 4) (nomark _)) (pw_or (pt_cmpR (op_neD hu) (pe_c cMi hr (pa_cons (pv 6) (pa_cons (pv 5) pa_nil))) (pe_c cMi hr (pa_cons (pv 3) (pa_cons (pv 4) pa_nil))) (nomark _)) (pw_or1 (pt_cmpR op_le (pe_op op_mulB (pe_ix ix_tup (pv 7) pe_int (fun _ _ => rfl)) (pe_ix ix_tup (pv 8) pe_int (fun _ _ => rfl))) pe_int (nomark _))))).pt (pss_one (ps_ret pe_non)) pss_nil))
    (Bx.mk (pss_one (ps_ret (pe_c cL hr1 (pa_cons (pe_op op_mulB (pe_ix ix_tup (pv 7) pe_int (fun _ _ => rfl)) (pe_ix ix_tup (pv 8) pe_int (fun _ _ => rfl))) (pa_cons (pe_op op_mulB (pe_ix ix_tup (pv 7) pe_int (fun _ _ => rfl)) (pe_ix ix_tup (pv 8) pe_int (fun _ _ => rfl))) pa_nil)))))))))), ?_⟩
  refine ⟨_, rfl, a, _, rfl, .of ha, rfl, _, _, rfl, _, _, rfl, _, _, rfl, _, _, rfl, _, _, rfl, _, _, rfl, rfl, ?_⟩
  refine ⟨_, rfl, _, rfl, p, p2, _, _, rfl, hp, hp2, zz z1 z3, fun rl H1 e1 hl => ?_⟩
  dsimp only [gName]
  refine ⟨_, rfl, _, rfl, q2, q, _, _, rfl, e1 _ _ hq2, e1 _ _ hq, zz z4 z2, fun rw' H2 e2 hw => ?_⟩
  dsimp only [gName]
  have S2 := e1.trans e2
  have hl2 : RatAt H2 rl (g.v - g.v2) := e2 _ _ hl
  refine ⟨_, rfl, _, rfl, _, _, RatAt.rd (S2 _ _ hp), RatAt.rd (S2 _ _ hq), shaped_rp _, shaped_rp _, _, rfl, ?_⟩
  rw [eqv_r]
  by_cases c1 : g.v = g.w
  · rw [decide_eq_true c1]
    refine iteT (iteT (k .non H2 S2 ?_))
    unfold shQ; rw [if_pos (.inl c1)]; rfl
  rw [decide_eq_false c1]
  refine iteF ?_
  refine ⟨_, rfl, _, rfl, q2, p2, _, _, rfl, S2 _ _ hq2, S2 _ _ hp2, zz z4 z3, fun r1 H3 e3 h1 => ?_⟩
  have S3 := S2.trans e3
  refine ⟨_, rfl, _, rfl, p, q, _, _, rfl, S3 _ _ hp, S3 _ _ hq, zz z1 z2, fun r2 H4 e4 h2 => ?_⟩
  have S4 := S3.trans e4
  refine ⟨_, _, RatAt.rd (e4 _ _ h1), h2.rd, shaped_rp _, shaped_rp _, _, rfl, ?_⟩
  rw [eqv_r]
  by_cases c2 : g.w2 - g.v2 = g.v - g.w
  rotate_left
  · rw [decide_eq_false c2]
    refine iteT (iteT (k .non H4 S4 ?_))
    unfold shQ; rw [if_pos (.inr (.inl c2))]; rfl
  rw [decide_eq_true c2]
  refine iteF ?_
  have hl4 : RatAt H4 rl (g.v - g.v2) := e4 _ _ (e3 _ _ hl2)
  have hw4 : RatAt H4 rw' (g.w2 - g.w) := e4 _ _ (e3 _ _ hw)
  have zl := Sz.sub z1 z3
  have zw := Sz.sub z4 z2
  have bl1 : Bd 1000000 (g.v - g.v2).num := zl.1.mono (by decide)
  have bl2 : Bd 1000000 ((g.v - g.v2).den : Int) := zl.2.mono (by decide)
  have bw1 : Bd 1000000 (g.w2 - g.w).num := zw.1.mono (by decide)
  have bw2 : Bd 1000000 ((g.w2 - g.w).den : Int) := zw.2.mono (by decide)
  refine ⟨_, rfl, rl, _, _, _, rfl, rfl, .of hl4, at0 .., _, rfl, rw', _, _, _, rfl, rfl, .of hw4, at0 .., _, _, rfl, rfl, ⟨bl1, bw1⟩, _, _, rfl, rfl, _, rfl, ?_⟩
  by_cases c3 : (g.v - g.v2).num * (g.w2 - g.w).num ≤ 0
  · have c4 := (mul_sgn _ _).mp c3
    rw [show decide ((g.v - g.v2).num * (g.w2 - g.w).num ≤ 0) = true from decide_eq_true c3]
    refine iteT (k .non H4 S4 ?_)
    unfold shQ
    by_cases c5 : g.w = g.w2
    · rw [if_pos (.inr (.inr c5))]; rfl
    · rw [if_neg (by rintro (z | z | z); exact c1 z; exact z c2; exact c5 z), if_neg (fun z => c4 ⟨by grind, z⟩)]; rfl
  · have c4 : g.w2 - g.w ≠ 0 ∧ 0 < (g.v - g.v2) / (g.w2 - g.w) := Classical.byContradiction fun z => c3 ((mul_sgn _ _).mpr z)
    rw [show decide ((g.v - g.v2).num * (g.w2 - g.w).num ≤ 0) = false from decide_eq_false c3]
    refine iteF ?_
    refine ⟨_, rfl, rl, _, _, _, rfl, rfl, .of hl4, at0 .., _, rfl, rw', _, _, _, rfl, rfl, .of hw4, at1 .., _, _, rfl, rfl, ⟨bl1, bw2⟩, _, rfl, rl, _, _, _, rfl, rfl, .of hl4, at1 .., _, rfl, rw', _, _, _, rfl, rfl, .of hw4, at0 .., _, _, rfl, rfl, ⟨bl2, bw1⟩, ?_⟩
    refine ⟨_, _, rfl, Int.mul_ne_zero (den_ne _) (fun z => c4.1 (Rat.num_eq_zero.mp z)), (zl.2.mul zw.1).mono (by decide), fun r5 H5 e5 h5 => k _ H5 (S4.trans e5) ?_⟩
    unfold shQ
    rw [if_neg (by rintro (z | z | z); exact c1 z; exact z c2; exact c4.1 (by grind)), if_pos c4.2]
    refine ⟨r5, rfl, ?_⟩
    show RatAt H5 r5 ((g.v - g.v2) / (g.w2 - g.w))
    rw [← KM.over_eq]; exact h5
end
end KK
end
section
set_option maxHeartbeats 8000000
set_option Elab.async false
set_option linter.all false
set_option maxRecDepth 100000
namespace L2
open PySem PySem.Spec PyProof.Rows
theorem compC_byZ {J : It} {D : Addr} {N n : Nat} {js : List Nat} {σ : St} {g : TG} {tt : TT} {te : TE} {Z : Hp → Prop} {H : Hp} (Pv : Nat → Hp → List V → Prop) (h0 : Pv 0 (upd H D (.lst [])) []) (hgo : ∀ i H ys, i < N → Pv i H ys → J.go i H) (hst : ∀ H ys, Pv N H ys → J.stop N H)
    (hs : ∀ i x zs H2 H3 ys (Nx : Hp → List V → Prop), (∀ H ys, Pv (i + 1) H ys → Nx H ys) → i < N → zs.length = n → J.yld i H2 x H3 → Pv i H2 ys → H2 D = some (.lst ys) → g x (zs ++ caps σ js) H3 fun σ4 H4 => σ4.drop n = caps σ js ∧ tt σ4 H4 fun b H5 =>
      if b = true then te σ4 H5 (fun v H6 => H6 D = some (.lst ys) ∧ ys.length < sizeLine ∧ Nx (upd H6 D (.lst (ys ++ [v]))) (ys ++ [v])) else H5 D = some (.lst ys) ∧ Nx H5 ys)
    (hd : ∀ H ys, Pv N H ys → H D = some (.lst ys) → Z H) :
    ∃ W : Nat → Nat → Hp → List V → Prop, (∃ m, W 0 m (upd H D (.lst [])) []) ∧ ∀ i m H2 ys, W i m H2 ys → H2 D = some (.lst ys) → (J.stop i H2 ∧ Z H2) ∨
      (J.go i H2 ∧ ∀ zs x H3, zs.length = n → J.yld i H2 x H3 → g x (zs ++ caps σ js) H3 fun σ4 H4 => σ4.drop n = caps σ js ∧ tt σ4 H4 fun b H5 => if b = true then te σ4 H5 (fun v H6 => H6 D = some (.lst ys) ∧ ys.length < sizeLine ∧ ∃ m', m' < m ∧ W (i + 1) m' (upd H6 D (.lst (ys ++ [v]))) (ys ++ [v]))
        else H5 D = some (.lst ys) ∧ ∃ m', m' < m ∧ W (i + 1) m' H5 ys) := compC_by (Q := fun _ H => Z H) Pv h0 hgo hst hs hd
end L2
namespace KK
open PySem L2 KM
def SgY (s : Sg) : Prop := Sz 100 s.v ∧ Sz 100 s.w ∧ Sz 400 s.v2 ∧ Sz 400 s.w2
theorem SgY.z {s : Sg} (h : SgY s) : SgZ s := ⟨h.1.mono (by decide), h.2.1.mono (by decide), h.2.2.1.mono (by decide), h.2.2.2.mono (by decide)⟩
theorem sz_qq {t b : Int} {n : Nat} (h0 : -(2 ^ n) < t) (h1 : t < 2 ^ n) (b0 : 0 < b) (b1 : b < 2 ^ n) : Sz n (Rat.divInt t b) := .divInt (by omega) (bdz h0 h1) (bdn (by omega) b1)
section
variable {P : Program} {w : World} {K : PySem.W.Frag} {mg : Str → Option Value} {base : Heap} {aN : Addr}
def meS (i j a b : Int) (x y : Rat) : Sg := ⟨i, j, x, y, x - (x - y) * Rat.divInt (2 * b) (a + b), y + (x - y) * Rat.divInt (2 * a) (a + b)⟩
theorem me_share {i j a b : Int} {x y : Rat} (ha : 1 ≤ a) (hb : 1 ≤ b) (h : x ≠ y) : shQ (meS i j a b x y) = some ((b : Rat) / (a : Rat)) := by
  have pa : (0 : Rat) < (a : Rat) := by have : (0 : Int) < a := by omega
                                        exact_mod_cast this
  have pb : (0 : Rat) < (b : Rat) := by have : (0 : Int) < b := by omega
                                        exact_mod_cast this
  have hs : ((a : Rat) + (b : Rat)) ≠ 0 := by grind
  have e1 : Rat.divInt (2 * b) (a + b) = 2 * (b : Rat) / ((a : Rat) + (b : Rat)) := by rw [Rat.divInt_eq_div]; push_cast; rfl
  have e2 : Rat.divInt (2 * a) (a + b) = 2 * (a : Rat) / ((a : Rat) + (b : Rat)) := by rw [Rat.divInt_eq_div]; push_cast; rfl
  unfold shQ meS
  dsimp only
  rw [e1, e2]
  have hg : x - y ≠ 0 := by grind
  have q1 : y + (x - y) * (2 * (a : Rat) / ((a : Rat) + (b : Rat))) - (x - (x - y) * (2 * (b : Rat) / ((a : Rat) + (b : Rat)))) = x - y := by grind
  have q2 : (x - y) * (2 * (a : Rat) / ((a : Rat) + (b : Rat))) ≠ 0 := by grind
  have q3 : (x - (x - (x - y) * (2 * (b : Rat) / ((a : Rat) + (b : Rat))))) / (y + (x - y) * (2 * (a : Rat) / ((a : Rat) + (b : Rat))) - y) = (b : Rat) / (a : Rat) := by grind
  have q4 : (0 : Rat) < (b : Rat) / (a : Rat) := by rw [Rat.div_def]; exact Rat.mul_pos pb (Rat.inv_pos.mpr pa)
  rw [if_neg (by
    rintro (z | z | z)
    · exact h z
    · exact z q1
    · exact q2 (by grind)), q3, if_pos q4]
theorem div_ne {t u : Int} (ht : t ≠ 0) (hu : u ≠ 0) : Rat.divInt t u ≠ 0 := fun z => by
  rw [Rat.divInt_eq_div] at z
  have hu' : (u : Rat) ≠ 0 := fun y => hu (by exact_mod_cast y)
  have h2 := congrArg (· * (u : Rat)) z
  simp only [Rat.div_mul_cancel hu', Rat.zero_mul] at h2
  exact ht (by exact_mod_cast h2)
theorem mod_ne {i d N : Int} (h0 : 0 ≤ i) (h1 : i < N) (d0 : 0 ≤ d) (d1 : d < N - 1) : i ≠ (i + 1 + d) % N := by
  rcases Int.lt_or_le (i + 1 + d) N with h | h
  · rw [Int.emod_eq_of_lt (by omega) h]; omega
  · rw [← Int.sub_emod_right, Int.emod_eq_of_lt (by omega) (by omega)]; omega
def spMe : Sp := fun vs H Q _ => ∃ (i j a b : Int) (p q : Addr) (x y : Rat), vs = [.int i, .int j, .int a, .int b, .ref p, .ref q] ∧ 1 ≤ a ∧ a ≤ 1000 ∧ 1 ≤ b ∧ b ≤ 1000 ∧ RatAt H p x ∧ RatAt H q y ∧ Sz 80 x ∧ Sz 90 y ∧ ∀ t s H', Same H H' → SgAt H' (.ref t) s → SgY s → s = meS i j a b x y → Q (.ref t) H'
theorem sc_me : FnScope ["i", "j", "one", "other", "v", "w", "gap", "v2", "w2"] ["i", "j", "one", "other", "v", "w"] (defScope s_law_meeting) := ⟨rfl, rfl, rfl, by decide +kernel, rfl, by decide +kernel, by decide +kernel⟩
theorem ok_me (D : Df K mg "_law_meeting" s_law_meeting ["i", "j", "one", "other", "v", "w"] []) (cMi : Cal P w K mg base "_law_minus" 3 ["one", "other"] [] (spBin Sz3 (· - ·))) (cS : Cal P w K mg base "_law_sum" 2 ["one", "other"] [] (spBin Sz2 (· + ·))) (cPr : Cal P w K mg base "_law_product" 2 ["one", "other"] [] (spBin Sz2 (· * ·)))
    (cL : Cal P w K mg base "_law_lowest" 1 ["top", "bottom"] [] spLow) : Cal P w K mg base "_law_meeting" 4 ["i", "j", "one", "other", "v", "w"] [] spMe := by
  refine D.cal (k := 3) sc_me (fun vs H Q E h => by obtain ⟨_, _, _, _, _, _, _, _, rfl, _⟩ := h; rfl) (fun f cdv A outer s H vs Q E hr h => ?_)
  obtain ⟨i, j, a, b, p, q, x, y, rfl, a1, a2, b1, b2, hp, hq, zx, zy, k⟩ := h
  have hr1 : Room 1 _ := hr.mono (by decide)
  have hr2 : Room 2 _ := hr.mono (by decide)
  have bd : ∀ i : Int, 0 ≤ i → i < 2 ^ 12 → Bd 1000000 i := fun i h0 h1 => Bd.mono (m := 12) (bdn h0 h1) (by decide)
  refine ⟨_, (pss_cons (ps_set (i := 6) sc_me.nd rfl (Or.inl rfl) (pe_c cMi hr (pa_cons (pv 4) (pa_cons (pv 5) pa_nil))))
    (pss_cons (ps_set (i := 7) sc_me.nd rfl (Or.inl rfl) (pe_c cMi hr (pa_cons (pv 4) (pa_cons (pe_c cPr hr2 (pa_cons (pv 6) (pa_cons (pe_c cL hr1 (pa_cons (pe_op op_mulB pe_int (pv 3)) (pa_cons (pe_op op_add (pv 2) (pv 3)) pa_nil))) pa_nil))) pa_nil))))
    (pss_cons (ps_set (i := 8) sc_me.nd rfl (Or.inl rfl) (pe_c cS hr2 (pa_cons (pv 5) (pa_cons (pe_c cPr hr2 (pa_cons (pv 6) (pa_cons (pe_c cL hr1 (pa_cons (pe_op op_mulB pe_int (pv 2)) (pa_cons (pe_op op_add (pv 2) (pv 3)) pa_nil))) pa_nil))) pa_nil))))
    (pss_one (ps_ret (pe_tup (pa_cons (pv 0) (pa_cons (pv 1) (pa_cons (pv 4) (pa_cons (pv 5) (pa_cons (pv 7) (pa_cons (pv 8) pa_nil)))))))))))), ?_⟩
  refine ⟨_, rfl, _, rfl, p, q, _, _, rfl, hp, hq, ⟨zx.mono (by decide), zy.mono (by decide)⟩, fun rg H1 e1 hg => ?_⟩
  dsimp only [gName]
  have zg := Sz.sub zx zy
  refine ⟨_, rfl, _, rfl, _, rfl, _, _, rfl, rfl, ⟨bd 2 (by decide) (by decide), bd b (by omega) (by omega)⟩, _, rfl, _, rfl, _, _, rfl, rfl, ?_⟩
  refine ⟨_, _, rfl, by omega, Bd.mono (m := 12) (bdn (by omega) (by omega)) (by decide), fun r1 H2 e2 h1 => ?_⟩
  have z1 : Sz 12 (Rat.divInt (2 * b) (a + b)) := sz_qq (by omega) (by omega) (by omega) (by omega)
  refine ⟨rg, r1, _, _, rfl, e2 _ _ hg, h1, ⟨zg.mono (by decide), z1.mono (by decide)⟩, fun r2 H3 e3 h2 => ?_⟩
  have zp := zg.mul z1
  have S3 := e1.trans (e2.trans e3)
  refine ⟨p, r2, _, _, rfl, S3 _ _ hp, h2, ⟨zx.mono (by decide), zp.mono (by decide)⟩, fun rv H4 e4 hv2 => ?_⟩
  dsimp only [gName]
  have S4 := S3.trans e4
  refine ⟨_, rfl, _, rfl, _, rfl, _, _, rfl, rfl, ⟨bd 2 (by decide) (by decide), bd a (by omega) (by omega)⟩, _, rfl, _, rfl, _, _, rfl, rfl, ?_⟩
  refine ⟨_, _, rfl, by omega, Bd.mono (m := 12) (bdn (by omega) (by omega)) (by decide), fun r3 H5 e5 h3 => ?_⟩
  have z3 : Sz 12 (Rat.divInt (2 * a) (a + b)) := sz_qq (by omega) (by omega) (by omega) (by omega)
  refine ⟨rg, r3, _, _, rfl, e5 _ _ (e4 _ _ (e3 _ _ (e2 _ _ hg))), h3, ⟨zg.mono (by decide), z3.mono (by decide)⟩, fun r4 H6 e6 h4 => ?_⟩
  have zp2 := zg.mul z3
  have S6 := S4.trans (e5.trans e6)
  refine ⟨q, r4, _, _, rfl, S6 _ _ hq, h4, ⟨zy.mono (by decide), zp2.mono (by decide)⟩, fun rw' H7 e7 hw2 => ?_⟩
  dsimp only [gName]
  have S7 := S6.trans e7
  refine ⟨_, rfl, _, rfl, _, rfl, _, rfl, _, rfl, _, rfl, by show 6 ≤ sizeLine; decide, fun t ht => ?_⟩
  have s8 := Same.upd (o := .tup [.int i, .int j, .ref p, .ref q, .ref rv, .ref rw']) ht
  exact k t ⟨i, j, x, y, _, _⟩ _ (S7.trans s8) ⟨t, p, q, rv, rw', rfl, upd_same, s8 _ _ (S7 _ _ hp), s8 _ _ (S7 _ _ hq), s8 _ _ (e7 _ _ (e6 _ _ (e5 _ _ hv2))), s8 _ _ hw2⟩ ⟨zx.mono (by decide), zy.mono (by decide), (Sz.sub zx zp).mono (by decide), (zy.add zp2).mono (by decide)⟩ rfl
def spSi : Sp := fun vs H Q _ => ∃ (p lw : Addr) (ws : List Int), vs = [.ref p, .ref lw] ∧ Pool H p ∧ lw ≠ p ∧ H lw = some (.lst (ws.map V.int)) ∧ 2 ≤ ws.length ∧ ws.length ≤ 8 ∧ (∀ x ∈ ws, 1 ≤ x ∧ x ≤ 1000) ∧ ∀ t s H', Step p H H' → SgAt H' (.ref t) s → SgY s → (∃ (ni nj : Nat) (wi wj : Int), s.i = (ni : Int) ∧ s.j = (nj : Int) ∧ ni ≠ nj ∧ ws[ni]? = some wi ∧ ws[nj]? = some wj ∧ shQ s = some ((wj : Rat) / (wi : Rat))) → Sz 4 (s.v - s.w) → Q (.ref t) H'
theorem gap_sz {v z : Rat} {n : Nat} (h : Sz n z) : Sz n (v - (v + z)) := by
  have : v - (v + z) = -z := by grind
  rw [this]
  exact ⟨by rw [Rat.neg_num]; exact h.1.neg, by rw [Rat.neg_den]; exact h.2⟩
theorem sc_si : FnScope ["pool", "weights", "i", "j", "v", "w"] ["pool", "weights"] (defScope s_law_sighting) := ⟨rfl, rfl, rfl, by decide +kernel, rfl, by decide +kernel, by decide +kernel⟩
theorem ok_si (D : Df K mg "_law_sighting" s_law_sighting ["pool", "weights"] []) (T : TxB K mg) (cN : Cal P w K mg base "_law_next" 1 ["pool", "base"] [] spNext) (cRa : Cal P w K mg base "_law_ratio" 3 ["pool"] [] spRat) (cS : Cal P w K mg base "_law_sum" 2 ["one", "other"] [] (spBin Sz2 (· + ·)))
    (cL : Cal P w K mg base "_law_lowest" 1 ["top", "bottom"] [] spLow) (cMe : Cal P w K mg base "_law_meeting" 4 ["i", "j", "one", "other", "v", "w"] [] spMe) : Cal P w K mg base "_law_sighting" 5 ["pool", "weights"] [] spSi := by
  refine D.calB (k := 4) sc_si (fun vs H Q E h => by obtain ⟨_, _, _, rfl, _⟩ := h; rfl) (fun f cdv A outer s H vs Q E hr h => ?_)
  obtain ⟨p, lw, ws, rfl, hP, hne, hlw, n2, n8, hw, k⟩ := h
  have hr1 : Room 1 _ := hr.mono (by decide)
  have hr2 : Room 2 _ := hr.mono (by decide)
  have hr3 : Room 3 _ := hr.mono (by decide)
  have hl : ((ws.map V.int).length : Int) = (ws.length : Int) := by rw [List.length_map]
  refine ⟨_, (bx_scons (Bx.mk (ps_set (i := 2) sc_si.nd rfl (Or.inl rfl) (pe_c cN hr1 (pa_cons (pv 0) (pa_cons (pe_callB call_len_seq (by rfl) T.nLen PySem.boot_len (pa_cons (pv 1) pa_nil)) pa_nil)))))
    (bx_scons (Bx.mk (ps_set (i := 3) sc_si.nd rfl (Or.inl rfl) (pe_op op_mod (pe_op op_add (pe_op op_add (pv 2) pe_int) (pe_c cN hr1 (pa_cons (pv 0) (pa_cons (pe_op op_sub (pe_callB call_len_seq (by rfl) T.nLen PySem.boot_len (pa_cons (pv 1) pa_nil)) pe_int) pa_nil)))) (pe_callB call_len_seq (by rfl) T.nLen PySem.boot_len (pa_cons (pv 1) pa_nil)))))
    (bx_scons (Bx.mk (ps_set (i := 4) sc_si.nd rfl (Or.inl rfl) (pe_c cRa hr3 (pa_cons (pv 0) pa_nil))))
    (bx_scons (Bx.mk (ps_set (i := 5) sc_si.nd rfl (Or.inl rfl) (pe_c cS hr2 (pa_cons (pv 4) (pa_cons (pe_c cL hr1 (pa_cons (pe_op op_mulB (pe_ix ix_list (pe_lst (pa_cons (pe_un un_neg pe_int) (pa_cons pe_int pa_nil))) (pe_c cN hr1 (pa_cons (pv 0) (pa_cons pe_int pa_nil))) (fun _ _ => rfl)) (pe_op op_add pe_int (pe_c cN hr1 (pa_cons (pv 0) (pa_cons pe_int pa_nil))))) (pa_cons (pe_op op_add pe_int (pe_c cN hr1 (pa_cons (pv 0) (pa_cons pe_int pa_nil)))) pa_nil))) pa_nil)))))
    (Bx.mk (pss_one (ps_ret (pe_c cMe hr (pa_cons (pv 2) (pa_cons (pv 3) (pa_cons (pe_ix ix_list (pv 1) (pv 2) (fun _ _ => rfl)) (pa_cons (pe_ix ix_list (pv 1) (pv 3) (fun _ _ => rfl)) (pa_cons (pv 4) (pa_cons (pv 5) pa_nil)))))))))))))), ?_⟩
  refine ⟨_, rfl, _, rfl, lw, _, rfl, .inl (.of hlw), p, _, rfl, by omega, by omega, hP, fun i G1 i0 i1 t1 => ?_⟩
  dsimp only [gName]
  have hlw1 := t1.keep _ _ hlw hne
  refine ⟨_, rfl, _, _, rfl, rfl, _, rfl, _, rfl, lw, _, rfl, .inl (.of hlw1), _, _, rfl, rfl, p, _, rfl, by omega, by omega, t1.pool, fun d G2 d0 d1 t2 => ⟨_, _, rfl, rfl, ?_⟩⟩
  have hlw2 := t2.keep _ _ hlw1 hne
  refine ⟨_, rfl, lw, _, rfl, .inl (.of hlw2), _, _, rfl, rfl, (by show (0 : Int) < ((ws.map V.int).length : Int); omega), ?_⟩
  dsimp only [gName]
  have T2 := t1.trans t2
  obtain ⟨j, ej⟩ : ∃ j : Int, j = (i + 1 + d) % ((ws.map V.int).length : Int) := ⟨_, rfl⟩
  rw [← ej]
  have j0 : 0 ≤ j := by rw [ej]; exact Int.emod_nonneg _ (by omega)
  have j1 : j < ((ws.map V.int).length : Int) := by rw [ej]; exact Int.emod_lt_of_pos _ (by omega)
  refine ⟨_, rfl, p, rfl, T2.pool, fun rv v G3 t3 hv zv => ?_⟩
  dsimp only [gName]
  have T3 := T2.trans t3
  refine ⟨_, rfl, _, rfl, by show 2 ≤ sizeLine; decide, fun l1 hl1 => ?_⟩
  refine ⟨_, rfl, p, _, rfl, by decide, by decide, T3.pool.new hl1, fun e G4 e0 e1 t4 => ?_⟩
  obtain ⟨sg, esg, hsg⟩ : ∃ sg : Int, atI [V.int (-1), .int 1] e = some (.int sg) ∧ (sg = 1 ∨ sg = -1) := by
    have : e = 0 ∨ e = 1 := by omega
    rcases this with rfl | rfl
    · exact ⟨-1, rfl, .inr rfl⟩
    · exact ⟨1, rfl, .inl rfl⟩
  refine ⟨l1, _, _, _, rfl, rfl, .of (t4.keep l1 _ upd_same (T3.pool.ne hl1)), esg, ?_⟩
  have t34 := t4.pre (Same.upd (o := .lst [.int (-1), .int 1]) hl1)
  refine ⟨_, rfl, p, _, rfl, by decide, by decide, t4.pool, fun f1 G5 f10 f11 t5 => ⟨_, _, rfl, rfl, ?_⟩⟩
  refine ⟨_, _, rfl, rfl, ⟨Bd.mono (m := 3) (bdz (by omega) (by omega)) (by decide), Bd.mono (m := 5) (bdn (by omega) (by omega)) (by decide)⟩, ?_⟩
  refine ⟨_, rfl, p, _, rfl, by decide, by decide, t5.pool, fun f2 G6 f20 f21 t6 => ⟨_, _, rfl, rfl, ?_⟩⟩
  refine ⟨_, _, rfl, by omega, Bd.mono (m := 5) (bdn (by omega) (by omega)) (by decide), fun r1 G7 s7 h1 => ?_⟩
  have t37 := ((t34.trans t5).trans t6).same s7
  have Tu37 := step_tups T3.pool t37
  have z1 : Sz 6 (Rat.divInt (sg * (1 + f1)) (1 + f2)) := by
    rcases hsg with rfl | rfl
    · exact sz_qq (by omega) (by omega) (by omega) (by omega)
    · exact sz_qq (by omega) (by omega) (by omega) (by omega)
  have z4 : Sz 4 (Rat.divInt (sg * (1 + f1)) (1 + f2)) := by
    rcases hsg with rfl | rfl
    · exact sz_qq (by omega) (by omega) (by omega) (by omega)
    · exact sz_qq (by omega) (by omega) (by omega) (by omega)
  refine ⟨rv, r1, _, _, rfl, Tu37 _ _ hv, h1, ⟨zv.mono (by decide), z1.mono (by decide)⟩, fun rw' G8 s8 hw' => ?_⟩
  dsimp only [gName]
  have t38 := t37.same s8
  have T8 := T3.trans t38
  have hlw8 := t38.keep _ _ (t3.keep _ _ hlw2 hne) hne
  have hv8 : RatAt G8 rv v := s8 _ _ (Tu37 _ _ hv)
  obtain ⟨ni, rfl⟩ : ∃ n : Nat, i = (n : Int) := ⟨i.toNat, by omega⟩
  obtain ⟨nj, rfl⟩ : ∃ n : Nat, j = (n : Int) := ⟨j.toNat, by omega⟩
  obtain ⟨wi, ewi⟩ : ∃ x, ws[ni]? = some x := ⟨_, List.getElem?_eq_getElem (by omega)⟩
  obtain ⟨wj, ewj⟩ : ∃ x, ws[nj]? = some x := ⟨_, List.getElem?_eq_getElem (by omega)⟩
  have ai : atI (ws.map V.int) (ni : Int) = some (.int wi) := atI_nat (by rw [List.getElem?_map, ewi]; rfl)
  have aj : atI (ws.map V.int) (nj : Int) = some (.int wj) := atI_nat (by rw [List.getElem?_map, ewj]; rfl)
  have hi := hw wi (List.mem_of_getElem? ewi)
  have hj := hw wj (List.mem_of_getElem? ewj)
  refine ⟨_, rfl, _, rfl, _, rfl, _, rfl, lw, _, _, _, rfl, rfl, .of hlw8, ai, _, rfl, _, rfl, lw, _, _, _, rfl, rfl, .of hlw8, aj, _, rfl, _, rfl, ?_⟩
  refine ⟨_, _, wi, wj, rv, rw', v, _, rfl, hi.1, hi.2, hj.1, hj.2, hv8, hw', zv, (zv.add z1).mono (by decide), fun t s H' e hs zs es => k t s H' (T8.same e) hs zs ⟨ni, nj, wi, wj, by rw [es]; rfl, by rw [es]; rfl, ?_, ewi, ewj, by rw [es]; exact me_share hi.1 hj.1 (by have : Rat.divInt (sg * (1 + f1)) (1 + f2) ≠ 0 := div_ne (by rcases hsg with rfl | rfl <;> omega) (by omega); grind)⟩ (by rw [es]; exact gap_sz z4)⟩
  intro z
  subst z
  exact mod_ne (by omega) (by omega) d0 (by omega) ej
end
end KK
end
section
set_option maxHeartbeats 8000000
set_option Elab.async false
set_option linter.all false
set_option maxRecDepth 100000
namespace KK
open PySem L2 KM
def LsG (G : Hp) (vs : List V) : Prop := ∀ v ∈ vs, ∃ s, SgAt G v s ∧ SgZ s
theorem LsG.tups {G G' : Hp} {vs : List V} (h : LsG G vs) (e : TupS G G') : LsG G' vs := fun v m => let ⟨s, a, b⟩ := h v m; ⟨s, a.tups e, b⟩
theorem LsG.append {G : Hp} {us vs : List V} (h : LsG G us) (k : LsG G vs) : LsG G (us ++ vs) := fun v m => by
  rcases List.mem_append.mp m with z | z
  · exact h v z
  · exact k v z
theorem LsG.nil {G : Hp} : LsG G [] := fun v m => by cases m
theorem LsG.cons {G : Hp} {v : V} {vs : List V} {s : Sg} (h1 : SgAt G v s) (h2 : SgZ s) (h : LsG G vs) : LsG G (v :: vs) := fun u m => by
  rcases List.mem_cons.mp m with rfl | m
  · exact ⟨s, h1, h2⟩
  · exact h u m
section
variable {P : Program} {w : World} {K : PySem.W.Frag} {mg : Str → Option Value} {base : Heap} {aN : Addr}
def spWe : Sp := fun vs H Q _ => ∃ (p : Addr) (n : Nat), vs = [.ref p, .int (n : Int)] ∧ n ≤ 8 ∧ Pool H p ∧ ∀ (l : Addr) (ws : List Int) H', Step p H H' → H l = none → H' l = some (.lst (ws.map V.int)) → ws.length = n → (∀ x ∈ ws, 1 ≤ x ∧ x ≤ 1000) → Q (.ref l) H'
theorem sc_we : FnScope ["pool", "many"] ["pool", "many"] (defScope s_law_weights) := ⟨rfl, rfl, rfl, by decide +kernel, rfl, by decide +kernel, by decide +kernel⟩
theorem ok_we (D : Df K mg "_law_weights" s_law_weights ["pool", "many"] []) (T : TxB K mg) (cN : Cal P w K mg base "_law_next" 1 ["pool", "base"] [] spNext) : Cal P w K mg base "_law_weights" 2 ["pool", "many"] [] spWe := by
  refine D.cal (k := 1) sc_we (fun vs H Q E h => by obtain ⟨_, _, rfl, _⟩ := h; rfl) (fun f cdv A outer s H vs Q E hr h => ?_)
  obtain ⟨p, n, rfl, n8, hP, k⟩ := h
  refine ⟨_, (pss_one (ps_ret (pe_compC (NB := ["k"]) (FR := ["pool"]) (js := [0]) rfl rfl (fun _ _ h => h) (.cons rfl rfl rfl ⟨_, rfl⟩ .nil) rfl (by decide +kernel) rfl (by decide +kernel) (pi_range1 rfl T.nRange (pa_cons (pv 1) pa_nil)) (by intro _ _ _; refine ⟨?_, ?_, ?_⟩; (exact (pg_name (i := 0) (show List.Nodup (["k", "pool"] : List Str) by decide +kernel) rfl (Or.inl rfl))); (exact pts_nil); (exact (pe_ix (ix_listK (K := K) rfl) (pe_lst (pa_cons (pe_op op_add pe_int (pe_c cN hr (pa_cons (pv 1) (pa_cons pe_int pa_nil)))) (pa_cons (pe_op op_add pe_int (pe_c cN hr (pa_cons (pv 1) (pa_cons pe_int pa_nil)))) pa_nil))) (pe_c cN hr (pa_cons (pv 1) (pa_cons pe_int pa_nil))) (fun _ _ => rfl))))))), ?_⟩
  refine ⟨_, rfl, (n : Int), rfl, by omega, by omega, fun Dc hDc => ?_⟩
  have hDp : Dc ≠ p := hP.ne hDc
  refine compC_byZ (js := [0]) (J := Itr 0 ((n : Int)).toNat) (g := gName 0) (tt := fun _ H Q => Q true H) (te := _) (N := n) (n := 1) (fun i G ys => Step p H G ∧ ∃ ws : List Int, ys = ws.map V.int ∧ ws.length = i ∧ ∀ x ∈ ws, 1 ≤ x ∧ x ≤ 1000)
    ⟨⟨hP.new hDc, fun b o e _ => Same.upd hDc _ _ e⟩, [], rfl, rfl, fun v hv => by cases hv⟩ (fun i G ys hi z => by show i < ((n : Int)).toNat; omega) (fun G ys z => by show ((n : Int)).toNat ≤ n; omega) ?_ ?_
  · rintro i x zs G_ G ys Nx hN hi hz1 ⟨rfl, rfl⟩ ⟨tG, ws, rfl, hwl, hwv⟩ hGD
    obtain ⟨y1, rfl⟩ := len1 hz1
    refine ⟨rfl, iteT ?_⟩
    refine ⟨_, rfl, p, _, rfl, by decide, by decide, tG.pool, fun d1 G2 a1 b1 t2 => ⟨_, _, rfl, rfl, ?_⟩⟩
    refine ⟨_, rfl, p, _, rfl, by decide, by decide, t2.pool, fun d2 G3 a2 b2 t3 => ⟨_, _, rfl, rfl, by show 2 ≤ sizeLine; decide, fun l1 hl1 => ?_⟩⟩
    refine ⟨_, rfl, p, _, rfl, by decide, by decide, t3.pool.new hl1, fun d3 G4 a3 b3 t4 => ?_⟩
    obtain ⟨x, ex, hx⟩ : ∃ x : Int, atI [V.int (1 + d1), .int (1 + d2)] d3 = some (.int x) ∧ 1 ≤ x ∧ x ≤ 1000 := by
      have : d3 = 0 ∨ d3 = 1 := by omega
      rcases this with rfl | rfl
      · exact ⟨1 + d1, rfl, by omega, by omega⟩
      · exact ⟨1 + d2, rfl, by omega, by omega⟩
    refine ⟨l1, _, _, _, rfl, rfl, .of (t4.keep l1 _ upd_same (t3.pool.ne hl1)), ex, ?_⟩
    have tt := (t2.trans t3).trans (t4.pre (Same.upd hl1))
    have h3 := tt.keep _ _ hGD hDp
    refine ⟨h3, small1000 (by simp; omega), hN _ _ ⟨(tG.trans tt).put hDc hDp _, ws ++ [x], by simp, by simp [hwl], fun v hv => ?_⟩⟩
    rcases List.mem_append.mp hv with z | z
    · exact hwv v z
    · have : v = x := by simpa using z
      rw [this]; exact hx
  · rintro G ys ⟨tG, ws, rfl, hwl, hwv⟩ hGD
    exact k Dc ws G tG hDc hGD hwl hwv
end
end KK
end
section
set_option maxHeartbeats 8000000
set_option Elab.async false
set_option linter.all false
set_option maxRecDepth 100000
namespace L2
open PySem PySem.Spec PyProof.Rows
def SqK (k : Bool) (K : PySem.W.Frag) (H : Hp) (t : Addr) (xs : List V) : Prop := match k with | true => SqT K H t xs | false => SqL K H t xs
def Itk (k : Bool) (K : PySem.W.Frag) (a : Addr) : It := match k with | true => Itt K a | false => Itl K a
def iSeq (K : PySem.W.Frag) (tl : TE) : TI := fun σ H R => tl σ H fun x H1 => ∃ k a, x = .ref a ∧ (∃ xs, SqK k K H1 a xs) ∧ R (Itk k K a) H1
theorem pi_seq {X : Cx} {tg l : Expr} {tl : TE} (hl : PE X l tl) : PI X tg l (iSeq X.K tl) := by
  intro pins s σ H R I h
  refine thn (hl pins s σ H _ I h) fun v s1 ⟨x, H1, I1, r1, q1⟩ => ?_
  obtain ⟨k, a, e, ⟨xs, hq⟩, q⟩ := q1
  subst e
  cases r1
  cases k
  · obtain ⟨its, rv, p, hz⟩ := I1.list hq
    refine wpAny_pyIter_list p.isList ?_
    refine ⟨s1.heap.objs.size, [s1.heap.objs.size], _, _, H1, rfl, I1.kept (t' := s1.toks) fun b o e => Heap.get?_push_of_some _ e, turn_list a _, ⟨_, Heap.get?_push_size _ rfl, rfl, rfl⟩, fun b hb => ?_, q⟩
    have e : b = s1.heap.objs.size := by simpa using hb
    subst e
    exact I1.fpOk (Nat.le_refl _) (I1.hok.fresh (Nat.le_refl _))
  · obtain ⟨its, rv, p, hz⟩ := I1.tuple hq
    refine wpAny_pyIter_tuple (show s1.heap.IsTuple a its.toArray from p) ?_
    refine ⟨s1.heap.objs.size, [s1.heap.objs.size], _, _, H1, rfl, I1.kept (t' := s1.toks) fun b o e => Heap.get?_push_of_some _ e, turn_tuple a _, ⟨_, Heap.get?_push_size _ rfl, rfl, rfl⟩, fun b hb => ?_, q⟩
    have e : b = s1.heap.objs.size := by simpa using hb
    subst e
    exact I1.fpOk (Nat.le_refl _) (I1.hok.fresh (Nat.le_refl _))
def HSq (k : Bool) (H : Hp) (a : Addr) (xs : List V) : Prop := match k with | true => H a = some (.tup xs) | false => H a = some (.lst xs)
theorem HSq.sq {k : Bool} {K : PySem.W.Frag} {H : Hp} {a : Addr} {xs : List V} (h : HSq k H a xs) : SqK k K H a xs := by
  cases k
  · exact SqL.of h
  · exact SqT.of h
theorem HSq.same {k : Bool} {H H' : Hp} {a : Addr} {xs : List V} (h : HSq k H a xs) (e : Same H H') : HSq k H' a xs := by
  cases k <;> exact e _ _ h
theorem HSq.ne {k : Bool} {H : Hp} {a b : Addr} {xs : List V} (h : HSq k H a xs) (e : H b = none) : a ≠ b := fun z => by
  cases k
  · have h : H a = some (.lst xs) := h
    rw [z, e] at h; cases h
  · have h : H a = some (.tup xs) := h
    rw [z, e] at h; cases h
theorem HSq.upd {k : Bool} {H : Hp} {a l : Addr} {xs : List V} {o : HO} (h : HSq k H a xs) (n : a ≠ l) : HSq k (upd H l o) a xs := by
  cases k
  · show L2.upd H l o a = _; rw [upd_ne n]; exact h
  · show L2.upd H l o a = _; rw [upd_ne n]; exact h
theorem for_seq {k : Bool} {K : PySem.W.Frag} {a : Addr} {xs : List V} {g : TG} {tb : TS} {D : Ends} {σ : St} {H : Hp} (Pv : Nat → St → Hp → Prop) (h0 : Pv 0 σ H) (hl : ∀ i σ H, Pv i σ H → SqK k K H a xs)
    (hs : ∀ (i : Nat) (x : V) (σ : St) (H : Hp), xs[i]? = some x → Pv i σ H → g x σ H fun σ2 H2 => tb { D with nx := Pv (i + 1), ct := Pv (i + 1), bk := D.nx } σ2 H2)
    (hd : ∀ σ H, Pv xs.length σ H → D.nx σ H) :
    ∃ W : Nat → Nat → St → Hp → Prop, (∃ m, W 0 m σ H) ∧ ∀ i m σ H, W i m σ H →
      ((Itk k K a).stop i H ∧ D.nx σ H) ∨ ((Itk k K a).go i H ∧ ∃ N : St → Hp → Prop, (∀ σ' H', N σ' H' → ∃ m', m' < m ∧ W (i + 1) m' σ' H') ∧ ∀ x H', (Itk k K a).yld i H x H' → g x σ H' fun σ2 H2 => tb { D with nx := N, ct := N, bk := D.nx } σ2 H2) := by
  refine ⟨fun i m σ H => m = xs.length - i ∧ i ≤ xs.length ∧ Pv i σ H, ⟨xs.length, by simp, Nat.zero_le _, h0⟩, ?_⟩
  rintro i m σ H ⟨rfl, hi, p⟩
  have q1 := hl i σ H p
  by_cases hlt : i < xs.length
  · refine .inr ⟨?_, Pv (i + 1), fun σ' H' p' => ⟨xs.length - (i + 1), by omega, rfl, hlt, p'⟩, fun x H' y => ?_⟩
    · cases k
      · exact ⟨xs, xs[i], q1, by simp⟩
      · exact ⟨xs, xs[i], q1, by simp⟩
    · cases k
      · obtain ⟨rfl, e1⟩ := y; exact hs i x σ _ (e1 xs q1) p
      · obtain ⟨rfl, e1⟩ := y; exact hs i x σ _ (e1 xs q1) p
  · have e : i = xs.length := by omega
    subst e
    refine .inl ⟨?_, hd σ H p⟩
    cases k
    · exact ⟨xs, q1, Nat.le_refl _⟩
    · exact ⟨xs, q1, Nat.le_refl _⟩
theorem runs_seq {k : Bool} {K : PySem.W.Frag} {H : Hp} {a : Addr} {xs : List V} (h : HSq k H a xs) : Runs (Itk k K a) H xs := by
  cases k
  · exact runs_list h
  · exact runs_tup h
def rIxE (K : PySem.W.Frag) : R2 := fun x y H Q => ∃ k p xs i v, x = .ref p ∧ y = .int i ∧ SqK k K H p xs ∧ atI xs i = some v ∧ Q v H
theorem ix_seqK {X : Cx} {K : PySem.W.Frag} (hK : X.K = K) : IxR X (rIxE K) := by
  subst hK
  intro value slice pins s σ H x y v u Q I rx ry h hs
  obtain ⟨k, p, xs, i, z, e1, e2, hq, e3, q⟩ := h
  cases k
  · exact ix_list _ _ pins s σ H x y v u Q I rx ry ⟨p, xs, i, z, e1, e2, hq, e3, q⟩ hs
  · exact ix_tup _ _ pins s σ H x y v u Q I rx ry ⟨p, xs, i, z, e1, e2, hq, e3, q⟩ hs
def ipM : TIp := fun x y H Q => ∃ i j, x = .int i ∧ y = .int j ∧ CMulB i j ∧ Q (.int (i * j)) H
theorem ip_mul {X : Cx} : PIp X .Mult ipM := by
  intro pins s σ H x y v u Q I r1 r2 h
  obtain ⟨i, j, e1, e2, hc, q⟩ := h
  subst e1; subst e2
  obtain ⟨t, rfl⟩ := r1
  obtain ⟨t', rfl⟩ := r2
  exact imul_int ⟨.int _, H, I.tok _, ⟨_, rfl⟩, q⟩ (IntMulOk.of_le hc.1.bits hc.2.bits (by decide))
def tAsg2 (te : TE) (g g' : TG) : TS := fun D σ H => te σ H fun x H1 => g x σ H1 fun σ2 H2 => g' x σ2 H2 D.nx
theorem ps_asg2 {X : Cx} {pos : Pos} {tg tg' e : Expr} {te : TE} {g g' : TG} (he : PE X e te) (hg : PG X tg g) (hg' : PG X tg' g') (hs : swapsWithSole [tg, tg'] e pos.line X.env = pure false := by rfl) (hw : swappedStores [tg, tg'] e X.env = pure none := by rfl)
    (h1 : (assignEach [tg, tg'] X.env).map (·.2) = [assign tg X.env, assign tg' X.env] := by rfl) : PS X (.Assign [tg, tg'] e pos) (tAsg2 te g g') := by
  intro pins s σ H D I h
  refine wpAny_Assign_stores (thn (he pins s σ H _ I h) fun v s1 ⟨x, H1, I1, r1, q1⟩ => ?_) hs hw
  rw [h1]
  refine wpAny_bind (wpAny_holding (thn (hg pins s1 σ H1 x v _ I1 r1 q1) fun _ s2 ⟨σ2, H2, I2, q2⟩ => ?_))
  exact thn (hg' pins s2 σ2 H2 x v _ I2 r1 q2) fun _ s3 q => q
end L2
namespace KK
open PySem L2 KM
theorem cl_fst {a b : Str} {m n : Addr} (x : Str) (c : Addr) (e : List.lookup x [(a, m)] = some c) : List.lookup x [(a, m), (b, n)] = some c := by
  simp only [List.lookup] at e ⊢
  cases h1 : (x == a) with
  | true => rw [h1] at e; exact e
  | false => rw [h1] at e; cases e
theorem cl_snd {a b : Str} {m n : Addr} (h : a ≠ b) (x : Str) (c : Addr) (e : List.lookup x [(b, n)] = some c) : List.lookup x [(a, m), (b, n)] = some c := by
  simp only [List.lookup] at e ⊢
  cases h1 : (x == b) with
  | true =>
    cases h2 : (x == a) with
    | true => exact absurd ((eq_of_beq h2).symm.trans (eq_of_beq h1)) h
    | false => rw [h1] at e; exact e
  | false => rw [h1] at e; cases e
end KK
end
section
set_option maxHeartbeats 8000000
set_option Elab.async false
set_option linter.all false
set_option maxRecDepth 100000
namespace L2
open PySem PySem.Spec PyProof.Rows
theorem pi_seqK {X : Cx} {K : PySem.W.Frag} {tg l : Expr} {tl : TE} (hK : X.K = K) (hl : PE X l tl) : PI X tg l (iSeq K tl) := by subst hK; exact pi_seq hl
end L2
namespace KK
open PySem L2 KM
def SgL (H : Hp) (vs : List V) (ss : List Sg) : Prop := vs.length = ss.length ∧ ∀ (i : Nat) s, ss[i]? = some s → ∃ v, vs[i]? = some v ∧ SgAt H v s ∧ SgZ s
theorem SgL.tups {H H' : Hp} {vs : List V} {ss : List Sg} (h : SgL H vs ss) (e : TupS H H') : SgL H' vs ss := ⟨h.1, fun i s m => by obtain ⟨v, a, b, c⟩ := h.2 i s m; exact ⟨v, a, b.tups e, c⟩⟩
theorem LsG.list {G : Hp} : ∀ {vs : List V}, LsG G vs → ∃ ss, SgL G vs ss
  | [], _ => ⟨[], rfl, fun i s m => by simp at m⟩
  | v :: vs, h => by
    obtain ⟨s, a, b⟩ := h v (List.mem_cons_self ..)
    obtain ⟨ss, c, d⟩ := LsG.list (vs := vs) (fun u m => h u (List.mem_cons_of_mem _ m))
    refine ⟨s :: ss, by simp [c], fun i s' m => ?_⟩
    cases i with
    | zero => simp at m; subst m; exact ⟨v, rfl, a, b⟩
    | succ i => simpa using d i s' (by simpa using m)
def PrL (H : Hp) (us : List V) (rs : List (Int × Int)) : Prop := us.length = rs.length ∧ ∀ (i : Nat) r, rs[i]? = some r → ∃ t, us[i]? = some (.ref t) ∧ H t = some (.tup [.int r.1, .int r.2])
theorem PrL.tups {H H' : Hp} {us : List V} {rs : List (Int × Int)} (h : PrL H us rs) (e : TupS H H') : PrL H' us rs := ⟨h.1, fun i s m => by obtain ⟨t, a, b⟩ := h.2 i s m; exact ⟨t, a, e _ _ b⟩⟩
def stepB (ss : List Sg) (r : Int × Int) : Bool := decide (0 ≤ r.1 ∧ r.1 < (ss.length : Int)) && (decide (0 ≤ r.2 ∧ r.2 ≤ 1) && ((ss[r.1.toNat]?).bind shQ).isSome)
def endB (ss : List Sg) (r : Int × Int) : Int × Int := match ss[r.1.toNat]? with | some s => if r.2 = 0 then (s.i, s.j) else (s.j, s.i) | none => (0, 0)
def facB (ss : List Sg) (r : Int × Int) : Int × Int := match (ss[r.1.toNat]?).bind shQ with | some q => if r.2 = 0 then (q.num, (q.den : Int)) else ((q.den : Int), q.num) | none => (1, 1)
def preI (n k : Nat) : Nat := if k = 0 then n - 1 else k - 1
def linkB (es : List (Int × Int)) : Bool := (List.range es.length).all fun k => decide ((es[preI es.length k]?.getD (0, 0)).2 = (es[k]?.getD (0, 0)).1)
def prodB (fs : List (Int × Int)) : Int × Int := fs.foldl (fun t f => (t.1 * f.1, t.2 * f.2)) (1, 1)
def ringB (ss : List Sg) (rs : List (Int × Int)) : Bool := rs.all (stepB ss) && (linkB (rs.map (endB ss)) && decide ((prodB (rs.map (facB ss))).1 ≠ (prodB (rs.map (facB ss))).2))
end KK
end
set_option Elab.async false
set_option linter.all false
set_option maxRecDepth 100000
namespace L2
open PySem PySem.Spec PyProof.Rows
section
variable {prog : Program} {w : World} {A : Around} {E : Value → Shared → Prop} {s : Shared} {l : Addr} {xs : Array (Int × Tok)}
theorem min_intTup {Q : Value → Shared → Prop} (hh : A.handled = none) (hl : s.heap.IsTuple l (intItems xs)) (hne : 0 < xs.size)
    (h : ∀ v h' tk, (intItems xs)[argBest (fun i j => decide (numAt xs i < numAt xs j)) (xs.size - 1)]? = some v → (∀ b o, s.heap.get? b = some o → h'.get? b = some o) → Q v { s with heap := h', toks := tk }) :
    wpAny (model prog w) A (call (.builtin "min") [.ref l]) Q E s := by
  have hlt : l < s.heap.objs.size := by obtain ⟨_, e, _⟩ := hl; exact Heap.lt_size e
  refine call_min_walk (wpAny_pyIter_tuple hl ?_)
  refine ⟨_, [_, l], [_], _, _, _, _, rfl, Walks.tuple (A := A.in1) hh _ l (Nat.ne_of_lt hlt) (intItems xs), ⟨⟨_, Heap.get?_push_size _ rfl, rfl, rfl⟩, hl.push _⟩, fun b hb => ?_, by simpa [intItems] using hne, CmpOf.ints_lt (numAt xs) (fun _ _ => intItems_at), fun v h' tk hP hk => ?_⟩
  · show b < (s.heap.push _).objs.size
    rw [Heap.size_push]
    rcases List.mem_cons.mp hb with rfl | hb
    · exact Nat.lt_succ_self _
    · rcases List.mem_cons.mp hb with rfl | hb
      · exact Nat.lt_succ_of_lt hlt
      · cases hb
  · refine h v h' tk (by simpa [intItems] using hP) fun b o e => hk b o (fun hm => ?_) (Heap.get?_push_of_some _ e)
    rcases List.mem_cons.mp hm with e1 | hm
    · exact absurd (e1 ▸ Heap.lt_size e) (Nat.lt_irrefl _)
    · cases hm
end
section
variable {X : Cx}
theorem call_minT (hc : X.calm = true) : CallR X (.builtin "min") (fun xs H Q => ∃ (p : Addr) (ns : List Int), xs = [.ref p] ∧ SqT X.K H p (ns.map V.int) ∧ 0 < ns.length ∧ ∀ M, M ∈ ns → (∀ a, a ∈ ns → M ≤ a) → Q (.int M) H) := by
  intro pins s σ H xs us Q I r h
  obtain ⟨p, ns, rfl, hq, hne, q⟩ := h
  obtain ⟨u, rfl, ru⟩ := vals1 r
  cases ru
  obtain ⟨its, rv, pl, _⟩ := I.tuple hq
  have hi : IntsAre its ns := intsAre_of rv
  obtain ⟨ys, e⟩ := hi.allInts.items
  have hl : s.heap.IsTuple p its.toArray := pl
  rw [e] at hl
  have hns : ns = ys.toList.map (·.1) := by
    rw [← hi.numsOf, ← nums_intItems, ← e]
  have hsz : 0 < ys.size := by
    have h3 := hne; rw [hns, List.length_map, Array.length_toList] at h3; exact h3
  refine min_intTup (I.ok.hd hc) hl hsz fun v h' tk hv hk => ?_
  obtain ⟨t, rfl⟩ := intItems_at hv
  obtain ⟨h1, h2⟩ := argBest_lt (numAt ys) (ys.size - 1)
  refine ⟨.int _, H, I.kept hk, ⟨_, rfl⟩, q _ ?_ fun a ha => ?_⟩
  · rw [hns, numAt_eq]; exact getD_mem (by rw [List.length_map, Array.length_toList]; omega)
  · rw [hns] at ha
    obtain ⟨j, hj, rfl⟩ := mem_getD ha
    rw [List.length_map, Array.length_toList] at hj
    rw [← numAt_eq]; exact h2 j (by omega)
end

theorem vals_rep {z : V} {v : Value} (r : RelV z v) : ∀ n : Nat, Vals (List.replicate n z) (List.replicate n v)
  | 0 => .nil
  | n + 1 => .cons r (vals_rep r n)
end L2
section
set_option maxHeartbeats 8000000
set_option Elab.async false
set_option linter.all false
set_option maxRecDepth 100000
namespace L2
open PySem PySem.Spec PyProof.Rows
open AutoSeq1 (wpAny_loadPart')
theorem draws_tuple {prog : Program} {w : World} {A : Around} (hh : A.handled = none) (it l : Addr) (hne : l ≠ it) (items : Array Value) :
    Draws prog w A it [it, l] items.size (fun i v => items[i]? = some v) (fun i h => h.IsTupleIter it l i ∧ h.IsTuple l items) where
  live := fun _ _ st => let ⟨o, ho, _⟩ := st.1; ⟨o, ho⟩
  frame := fun _ _ _ st hk => ⟨st.1.at fun o e => hk it (by simp) o e, st.2.at fun o e => hk l (by simp) o e⟩
  item := fun i s Q E hi st hQ => by
    refine nt_item st.1 st.2 (x := items[i]) (by simp [hi]) fun h' hit' hs' => ?_
    exact hQ _ h' s.toks (by simp [hi]) ⟨hit', st.2.extBut hs'.extBut hne⟩ hs'
  done := fun s Q E st hE => nt_end hh st.1 st.2 (by simp) hE
theorem meets_enum_tup (l : Addr) (items : Array Value) (n : Nat) (dct : Option Addr) (sl : Array (Option Value)) :
    Meets (Builtin.«enumerate.__new__» ⟨[.type "enumerate", .ref l], []⟩) (fun _ R s => s.heap.get? l = some { cls := .type "tuple", dict := dct, data := .seq items n, slots := sl } ∧
      R (.ok (.ret (.ref (s.heap.push { cls := .type "tuple_iterator", data := .fields #[.ref l, .int 0 0] }).objs.size)))
        { s with heap := (s.heap.push { cls := .type "tuple_iterator", data := .fields #[.ref l, .int 0 0] }).push { cls := .type "enumerate", data := .fields #[.none, .bool false, .ref s.heap.objs.size, rawInt 0, .none, .none] } }) :=
  .of_wp fun prog w A R s h => by
    obtain ⟨hp, g, d, tk, os⟩ := s; obtain ⟨hl, h⟩ := h
    have hsub := sub_enumerate
    have hL : Heap.IsTuple (Shared.heap ⟨hp, g, d, tk, os⟩) l items := ⟨_, hl, rfl, n, rfl⟩
    wp_walk using wpAny_loadPart' hl
    refine wpAny_stack_any fun st => wpAny_pure ?_
    split
    · rename_i c _ _ _ _ _
      cases (c == Value.type "enumerate")
      · wp_walk using wpAny_loadPart' hl, wpAny_pyIter_tuple hL
        exact ⟨_, rfl, h⟩
      · wp_walk using wpAny_loadPart' hl, wpAny_pyIter_tuple hL
        exact ⟨_, rfl, h⟩
    · wp_walk using wpAny_loadPart' hl, wpAny_pyIter_tuple hL
      exact ⟨_, rfl, h⟩
def IteK (k : Bool) (K : PySem.W.Frag) (l : Addr) : It :=
  ⟨fun i H => ∃ xs x, SqK k K H l xs ∧ xs[i]? = some x,
   fun i H v H' => ∃ T x, v = .ref T ∧ H T = none ∧ H' = upd H T (.tup [.int i, x]) ∧ ∀ xs, SqK k K H l xs → xs[i]? = some x,
   fun i H => ∃ xs, SqK k K H l xs ∧ xs.length ≤ i⟩
theorem turn_enumT {P : Program} {w : World} {K : PySem.W.Frag} {elts : List Expr} {kc : Nat} {tp : Pos} (e it l : Addr) (hne : e ≠ it) :
    Turn P w K (.Tuple elts kc tp) (IteK true K l) [e, it] e (fun i h => (∃ old, IsEnum h e it (i : Int) old) ∧ h.IsTupleIter it l i) where
  mem := by simp
  obj := fun i h st b hb => by
    obtain ⟨⟨old, Z⟩, o1, e1, _, d1⟩ := st
    simp only [List.mem_cons, List.not_mem_nil, or_false] at hb
    rcases hb with rfl | rfl
    · exact ⟨_, Z, fun _ r => by cases r⟩
    · exact ⟨_, e1, fun _ r => by rw [d1] at r; cases r⟩
  keep := fun i h h' st k => by
    obtain ⟨⟨old, Z⟩, Z1⟩ := st
    exact ⟨⟨old, k e (by simp) _ Z⟩, Z1.at fun o q => k it (by simp) o q⟩
  item := by
    intro X hP hw hK hc i pins s σ H E I hf st hg
    subst hP hw hK
    obtain ⟨xs, x, h1, ex⟩ := hg
    replace h1 : SqT X.K H l xs := h1
    obtain ⟨us, r1, p1, _⟩ := I.tuple h1
    replace p1 : s.heap.IsTuple l us.toArray := p1
    obtain ⟨ux, eu, rx⟩ := r1.get ex
    obtain ⟨⟨old, Z⟩, Z1⟩ := st
    have nl : l ≠ it := tup_ne_j p1 Z1
    have ne : e ≠ l := fun z => by
      obtain ⟨o, e1, e2, _⟩ := p1
      rw [← z, Z] at e1; cases e1; simp at e2
    refine wpAny_pyNext_enum_itemD (draws_tuple (A := X.A.in1) (I.ok.hd hc) it l nl us.toArray) Z ⟨Z1, p1⟩ (by have := (List.getElem?_eq_some_iff.mp eu).1; simpa using this) hne (by simp [hne, ne]) fun ux' h' tk hux Zo Zi pr sz kk => ⟨_, rfl, ?_⟩
    have eux : ux' = ux := by
      have hux : us.toArray[i]? = some ux' := hux
      rw [List.getElem?_toArray, eu] at hux
      cases hux; rfl
    subst eux
    refine wpAny_letOwnedTupleGo_enum (s := { s with heap := h', toks := tk + 1 }) Zo fun h2' Zz' sb => ?_
    replace sb : Heap.SameBut e h' h2' := sb
    have hTz : s.heap.objs.size ≠ e := Nat.ne_of_gt (Heap.lt_size Z)
    have kk2 : ∀ c o, c ≠ e → c ≠ it → s.heap.get? c = some o → h2'.get? c = some o := fun c o c1 c2 q => (sb.2 c c1).trans (kk c o c1 c2 q)
    have prT : h2'.get? s.heap.objs.size = some { cls := .type "tuple", data := .seq #[.int i tk, ux'] } := (sb.2 _ hTz).trans pr
    have hT : H s.heap.objs.size = none := I.hok.fresh (Nat.le_refl _)
    have neC : ∀ b, b ∉ [e, it] → b ≠ e ∧ b ≠ it := fun b hb => by simpa using hb
    have trk : ∀ b u, H b = some u → b ≠ e ∧ b ≠ it := fun b u q => by
      refine ⟨?_, ?_⟩ <;> rintro rfl
      · rw [(hf b (by simp)).1] at q; cases q
      · rw [(hf b (by simp)).1] at q; cases q
    have ltT : ∀ b o, s.heap.get? b = some o → b ≠ s.heap.objs.size := fun b o q => Nat.ne_of_lt (Heap.lt_size q)
    have u : Un (frs X.stack) [e, it] H (upd H s.heap.objs.size (.tup [.int i, x])) s.heap h2' :=
      ⟨fun b o q n _ hb => by obtain ⟨c1, c2⟩ := neC b hb; exact kk2 b o c1 c2 q, fun b o q n _ hb => by obtain ⟨c1, c2⟩ := neC b hb; exact ⟨o.slots, kk2 b o c1 c2 q⟩,
        fun b o q n hb => by rw [upd_ne (ltT b o q)]; exact n, fun b o q hb => by obtain ⟨c1, c2⟩ := neC b hb; exact ⟨o, kk2 b o c1 c2 q⟩,
        fun b ws q => by rw [upd_ne (ne_of_none q hT)]; exact q, fun b o ws q => by rw [upd_ne (ne_of_none q hT)]; exact q, fun b ps q => ⟨#[], by rw [upd_ne (ne_of_none q hT), q]; simp⟩⟩
    have hok : HOk X.prog X.w (upd H s.heap.objs.size (.tup [.int i, x])) h2' := fun b ob q => by
      by_cases hb : b = s.heap.objs.size
      · subst hb
        rw [upd_same] at q; cases q
        exact ⟨by show 2 ≤ sizeLine; decide, [.int i tk, ux'], .cons ⟨_, rfl⟩ (.cons rx .nil), _, prT, rfl, 0, rfl⟩
      · rw [upd_ne hb] at q
        refine (I.hok b ob q).stay (fun c v hc' qc => ?_) (fun c q => by rw [upd_ne (ne_of_none q hT)]; exact q) fun c ws q => by rw [upd_ne (ne_of_none q hT)]; exact q
        have : ∃ o, H c = some o := by
          rcases hc' with rfl | hc'
          · exact ⟨_, q⟩
          · exact ⟨_, hc'⟩
        obtain ⟨o, ho⟩ := this
        obtain ⟨c1, c2⟩ := trk c o ho
        exact kk2 c v c1 c2 qc
    refine ⟨.ref s.heap.objs.size, upd H s.heap.objs.size (.tup [.int i, x]), ?_, rfl, ⟨_, x, rfl, hT, rfl, fun xs' h => by rw [I.tuple_inj h h1]; exact ex⟩,
      ⟨⟨_, by rw [Int.natCast_add]; exact Zz'⟩, Zi.1.at fun o q => (sb.2 _ hne.symm).trans q⟩, fun b hb => ?_⟩
    · refine I.call' (s' := { s with heap := h2', toks := tk + 1 }) (ch := [e, it]) rfl u hok I.bare fun b hb => ?_
      obtain ⟨_, z1, z2, z3, z4, z5⟩ := hf b hb
      exact ⟨z3, z1, z4, z5⟩
    · obtain ⟨o, q⟩ : ∃ o, s.heap.get? b = some o := by
        obtain ⟨o1, e1, _⟩ := Z1
        simp only [List.mem_cons, List.not_mem_nil, or_false] at hb
        rcases hb with rfl | rfl
        · exact ⟨_, Z⟩
        · exact ⟨_, e1⟩
      rw [upd_ne (ltT b o q)]; exact (hf b hb).1
  done := by
    intro X hP hw hK hc i pins s σ H E I hf st hg
    subst hP hw hK
    obtain ⟨xs, h1, en⟩ := hg
    replace h1 : SqT X.K H l xs := h1
    obtain ⟨us, r1, p1, _⟩ := I.tuple h1
    replace p1 : s.heap.IsTuple l us.toArray := p1
    have l1 := r1.length
    obtain ⟨⟨old, Z⟩, Z1⟩ := st
    obtain ⟨f0, f1, f2, f3, f4, f5⟩ := hf it (by simp)
    have hT : s.TypeIs (.ref e) "enumerate" := ⟨_, Z, rfl⟩
    unfold pyNext
    refine wpAny_bind (wpAny_attempt (wpAny_callSpecial?_slot (name := Str.ofString "__next__") hT F.slot_enumerate_next
      (wpAny_call_entry F.slot_enumerate_next hT F.entry_enumerate_next ?_ (F.args_enumerate_next_1 _))))
    show wpAny _ _ (field (.ref e) 2 >>= _) _ _ _
    refine wpAny_bind (wpAny_field Z rfl (x := .ref it) rfl ?_)
    refine wpAny_bind (nt_end (I.ok.hd hc) Z1 p1 (by simp; omega) fun h' x he' hx' => ?_)
    obtain ⟨o, ho, hc'⟩ := hx'
    refine wpAny_bind (wpAny_isInstance (T := "StopIteration") (b := true) ⟨o, ho, hc'⟩ isSubtype_stop ?_)
    exact wpAny_pure ⟨rfl, I.turned (t' := s.toks) (fun b o hb q => he' b o hb q) f0 f1 f3 f4 f5⟩
  self := fun _ _ _ _ _ st h => by obtain ⟨⟨old, Z⟩, _⟩ := st; exact wpAny_pyIter_enum Z h
def iEnumK (K : PySem.W.Frag) (t : TA) : TI := fun σ H R => t σ H fun vs H1 => ∃ k l xs, vs = [.ref l] ∧ HSq k H1 l xs ∧ R (IteK k K l) H1
theorem pi_enumK {X : Cx} {a : Expr} {ta : TA} {p pos tp : Pos} {elts : List Expr} {kc : Nat} (hg : Gl X "enumerate") (hm : X.mg "enumerate" = none) (ha : PA X [a] ta) (hs : starEach [a] X.env = [(false, eval a X.env)] := by rfl) :
    PI X (.Tuple elts kc tp) (.Call (.Name "enumerate" p) [a] [] pos) (iEnumK X.K ta) := by
  intro pins s σ H R I h
  refine Call_ (ld_blt I hg hm (by decide +kernel : bootBuiltins "enumerate" = some (.type "enumerate")) (PyProof.Rows.callWith_type1 (thn (ha pos pins s σ H _ I h) fun us s1 ⟨vs, H1, I1, r1, q1⟩ => ?_) (by rw [hs]; rfl) (by rfl)))
  obtain ⟨k, l, xs, e, hl, q⟩ := q1
  subst e
  obtain ⟨u1, rfl, ru1⟩ := vals1 r1
  cases (show u1 = Value.ref l from ru1)
  cases k with
  | false =>
    replace hl : H1 l = some (.lst xs) := hl
    obtain ⟨z, its, n, rv, hol⟩ := (show ObjOk X.prog X.w H1 s1.heap l (.lst xs) from I1.hok l _ hl)
    refine callType_new F.called_enumerate (by decide) (F.typeCall_enumerate_1 _) (F.newCall_enumerate_1 _) (fun obj => F.args_object_init_2 obj _) F.entry_enumerate_new (meets_enumerate_new l its.toArray n) ⟨hol, ?_⟩
    have z1 : (s1.heap.push { cls := .type "list_iterator", data := .fields #[.ref l, .int 0 0] }).objs.size = s1.heap.objs.size + 1 := Heap.size_push ..
    have g1 : IsEnum ((s1.heap.push { cls := .type "list_iterator", data := .fields #[.ref l, .int 0 0] }).push { cls := .type "enumerate", data := .fields #[.none, .bool false, .ref s1.heap.objs.size, rawInt 0, .none, .none] }) (s1.heap.push { cls := .type "list_iterator", data := .fields #[.ref l, .int 0 0] }).objs.size s1.heap.objs.size 0 .none := Heap.get?_push_size _ rfl
    have g2 : ((s1.heap.push { cls := .type "list_iterator", data := .fields #[.ref l, .int 0 0] }).push { cls := .type "enumerate", data := .fields #[.none, .bool false, .ref s1.heap.objs.size, rawInt 0, .none, .none] }).IsListIter s1.heap.objs.size l 0 := ⟨_, Heap.get?_push_of_some _ (Heap.get?_push_size _ rfl), rfl, rfl⟩
    have g3 : ∀ c o, s1.heap.get? c = some o → ((s1.heap.push { cls := .type "list_iterator", data := .fields #[.ref l, .int 0 0] }).push { cls := .type "enumerate", data := .fields #[.none, .bool false, .ref s1.heap.objs.size, rawInt 0, .none, .none] }).get? c = some o := fun c o e => Heap.get?_push_of_some _ (Heap.get?_push_of_some _ e)
    rw [z1] at g1 ⊢
    show _ ∧ _
    refine ⟨⟨_, g1, rfl⟩, wpAny_pyIter_enum g1 ⟨s1.heap.objs.size + 1, [s1.heap.objs.size + 1, s1.heap.objs.size], _, IteK false X.K l, H1, rfl, I1.kept (t' := s1.toks) g3, turn_enum (s1.heap.objs.size + 1) s1.heap.objs.size l (Nat.succ_ne_self _), ⟨⟨_, g1⟩, g2⟩, fun b hb => ?_, q⟩⟩
    have hb' : s1.heap.objs.size ≤ b := by
      simp only [List.mem_cons, List.not_mem_nil, or_false] at hb
      rcases hb with rfl | rfl
      · exact Nat.le_add_right _ _
      · exact Nat.le_refl _
    exact I1.fpOk hb' (I1.hok.fresh hb')
  | true =>
    replace hl : H1 l = some (.tup xs) := hl
    obtain ⟨z, its, rv, o, ho, oc, n, od⟩ := (show ObjOk X.prog X.w H1 s1.heap l (.tup xs) from I1.hok l _ hl)
    obtain ⟨c, dct, dt, sl⟩ := o
    replace oc : c = .type "tuple" := oc
    replace od : dt = .seq its.toArray n := od
    subst oc od
    refine callType_new F.called_enumerate (by decide) (F.typeCall_enumerate_1 _) (F.newCall_enumerate_1 _) (fun obj => F.args_object_init_2 obj _) F.entry_enumerate_new (meets_enum_tup l its.toArray n dct sl) ⟨ho, ?_⟩
    have z1 : (s1.heap.push { cls := .type "tuple_iterator", data := .fields #[.ref l, .int 0 0] }).objs.size = s1.heap.objs.size + 1 := Heap.size_push ..
    have g1 : IsEnum ((s1.heap.push { cls := .type "tuple_iterator", data := .fields #[.ref l, .int 0 0] }).push { cls := .type "enumerate", data := .fields #[.none, .bool false, .ref s1.heap.objs.size, rawInt 0, .none, .none] }) (s1.heap.push { cls := .type "tuple_iterator", data := .fields #[.ref l, .int 0 0] }).objs.size s1.heap.objs.size 0 .none := Heap.get?_push_size _ rfl
    have g2 : ((s1.heap.push { cls := .type "tuple_iterator", data := .fields #[.ref l, .int 0 0] }).push { cls := .type "enumerate", data := .fields #[.none, .bool false, .ref s1.heap.objs.size, rawInt 0, .none, .none] }).IsTupleIter s1.heap.objs.size l 0 := ⟨_, Heap.get?_push_of_some _ (Heap.get?_push_size _ rfl), rfl, rfl⟩
    have g3 : ∀ c o, s1.heap.get? c = some o → ((s1.heap.push { cls := .type "tuple_iterator", data := .fields #[.ref l, .int 0 0] }).push { cls := .type "enumerate", data := .fields #[.none, .bool false, .ref s1.heap.objs.size, rawInt 0, .none, .none] }).get? c = some o := fun c o e => Heap.get?_push_of_some _ (Heap.get?_push_of_some _ e)
    rw [z1] at g1 ⊢
    show _ ∧ _
    refine ⟨⟨_, g1, rfl⟩, wpAny_pyIter_enum g1 ⟨s1.heap.objs.size + 1, [s1.heap.objs.size + 1, s1.heap.objs.size], _, _, H1, rfl, I1.kept (t' := s1.toks) g3, turn_enumT (s1.heap.objs.size + 1) s1.heap.objs.size l (Nat.succ_ne_self _), ⟨⟨_, g1⟩, g2⟩, fun b hb => ?_, q⟩⟩
    have hb' : s1.heap.objs.size ≤ b := by
      simp only [List.mem_cons, List.not_mem_nil, or_false] at hb
      rcases hb with rfl | rfl
      · exact Nat.le_add_right _ _
      · exact Nat.le_refl _
    exact I1.fpOk hb' (I1.hok.fresh hb')
end L2
end
section
set_option maxHeartbeats 8000000
set_option Elab.async false
set_option linter.all false
set_option maxRecDepth 100000
namespace L2
open PySem PySem.Spec PyProof.Rows
def ItrS (lo c : Int) (n : Nat) : It := ⟨fun i _ => i < n, fun i H x H' => H' = H ∧ x = .int (lo + i * c), fun i _ => n ≤ i⟩
theorem turn_rangeS {P : Program} {w : World} {K : PySem.W.Frag} {tg : Expr} (it : Addr) (lo c : Int) (n : Nat) : Turn P w K tg (ItrS lo c n) [it] it (fun i h => IsRangeIter h it (lo + (i : Nat) * c) ((n : Int) - (i : Nat)) c) where
  mem := by simp
  obj := fun i h st b hb => by
    have e : b = it := by simpa using hb
    subst e
    exact ⟨_, st, fun v z => by
      have z' : Data.fields _ = Data.cell v := z
      cases z'⟩
  keep := fun i h h' st k => k it (by simp) _ st
  item := by
    intro X hP hw hK hc i pins s σ H E I hf st hg
    subst hP hw hK
    obtain ⟨f0, f1, f2, f3, f4, f5⟩ := hf it (by simp)
    have W := Walks.range (prog := X.prog) (w := X.w) (I.ok.hd hc) it lo c n
    refine W.item i s _ _ hg st fun v h' tk hv st' kk => ?_
    obtain ⟨t, rfl⟩ := hv
    have I1 : Inv X pins σ H { s with heap := h', toks := tk } := I.turned (fun b o hb e => kk b o (by simpa using hb) e) f0 f1 f3 f4 f5
    exact ⟨_, rfl, go_of (s := { s with heap := h', toks := tk }) (n := "range_iterator") st' rfl rfl (by decide) ⟨.int (lo + i * c), H, I1, ⟨t, rfl⟩, ⟨rfl, rfl⟩, st', fun b hb => (hf b hb).1⟩⟩
  done := by
    intro X hP hw hK hc i pins s σ H E I hf st hg
    subst hP hw hK
    obtain ⟨f0, f1, f2, f3, f4, f5⟩ := hf it (by simp)
    exact wpAny_pyNext_range_end (I.ok.hd hc) st (by have : n ≤ i := hg; omega) fun h' eb => ⟨rfl, I.turned (t' := s.toks) (fun b o hb e => eb b o hb e) f0 f1 f3 f4 f5⟩
  self := fun _ _ _ _ _ st h => wpAny_pyIter_rangeiter st h
def nRng (i j c : Int) : Nat := (Builtin.Range.rangeSize i j c).toNat
theorem rng_sz {i j c : Int} (h1 : 0 ≤ i) (h2 : i ≤ 1000) (h3 : 0 ≤ j) (h4 : j ≤ 1000) (h5 : 1 ≤ c) (h6 : c ≤ 1000) : 0 ≤ Builtin.Range.rangeSize i j c ∧ Builtin.Range.rangeSize i j c ≤ 1001 := by
  unfold Builtin.Range.rangeSize
  rw [if_pos (by omega)]
  split
  · have a1 := Int.ediv_nonneg (show 0 ≤ j - i - 1 by omega) (show 0 ≤ c by omega)
    have a2 := Int.ediv_le_self (a := j - i - 1) c (by omega)
    omega
  · omega
def iRng3 (ta : TA) : TI := fun σ H R => ta σ H fun vs H1 => ∃ i j c : Int, vs = [.int i, .int j, .int c] ∧ (0 ≤ i ∧ i ≤ 1000 ∧ 0 ≤ j ∧ j ≤ 1000 ∧ 1 ≤ c ∧ c ≤ 1000) ∧ R (ItrS i c (nRng i j c)) H1
section
variable {X : Cx} {tg : Expr}
theorem pi_range3 {a b d : Expr} {ta : TA} {p pos : Pos} (hg : Gl X "range") (hm : X.mg "range" = none) (ha : PA X [a, b, d] ta) (hs : starEach [a, b, d] X.env = [(false, eval a X.env), (false, eval b X.env), (false, eval d X.env)] := by rfl) (hs2 : starEach [b, d] X.env = [(false, eval b X.env), (false, eval d X.env)] := by rfl) :
    PI X tg (.Call (.Name "range" p) [a, b, d] [] pos) (iRng3 ta) := by
  intro pins s σ H R I h
  refine Call_ (ld_blt I hg hm boot_range (PyProof.Rows.callWith_type1 (thn (ha pos pins s σ H _ I h) fun us s1 ⟨vs, H1, I1, r1, q1⟩ => ?_) (by rw [hs, hs2]) (by rw [hs2]; rfl)))
  obtain ⟨i, j, c, e, ⟨q1, q2, q3, q4, q5, q6⟩, q⟩ := q1
  subst e
  cases r1 with
  | cons r rr =>
    cases rr with
    | cons r' rr =>
      cases rr with
      | cons r'' rr =>
        cases rr
        obtain ⟨t, rfl⟩ := r
        obtain ⟨t', rfl⟩ := r'
        obtain ⟨t'', rfl⟩ := r''
        obtain ⟨z1, z2⟩ := rng_sz q1 q2 q3 q4 q5 q6
        refine call_range_3 (by omega) ?_ (Or.inl (PyProof.noPylong_small (by omega)))
        refine wpAny_pyIter_range (IsRange.new ..) ?_ ?_
        · unfold Builtin.Range.small
          simp only [Builtin.Range.rangeFitsLong, Bool.and_eq_true, Bool.or_eq_true, decide_eq_true_eq, beq_iff_eq]
          refine ⟨?_, ?_⟩
          · omega
          · right
            rw [if_pos (by omega), Bool.and_eq_true, decide_eq_true_eq, decide_eq_true_eq]
            omega
        have I2 : Inv X pins σ H1 { s1 with heap := s1.heap.push { cls := .type "range", data := .fields #[.int i t, .int j t', .int c t''] }, toks := s1.toks } := I1.kept fun b o e => Heap.get?_push_of_some _ e
        refine ⟨(s1.heap.push { cls := .type "range", data := .fields #[.int i t, .int j t', .int c t''] }).objs.size, [(s1.heap.push { cls := .type "range", data := .fields #[.int i t, .int j t', .int c t''] }).objs.size], _, _, H1, rfl,
          I2.kept (t' := s1.toks) fun b o e => Heap.get?_push_of_some _ e, turn_rangeS _ i c (nRng i j c), ?_, fun b hb => ?_, q⟩
        · have e1 : i + ((0 : Nat) : Int) * c = i := by simp
          have e2 : ((nRng i j c : Nat) : Int) - ((0 : Nat) : Int) = Builtin.Range.rangeSize i j c := by unfold nRng; omega
          show IsRangeIter _ _ (i + ((0 : Nat) : Int) * c) (((nRng i j c : Nat) : Int) - ((0 : Nat) : Int)) c
          rw [e1, e2]
          exact Heap.get?_push_size _ rfl
        · have e : b = (s1.heap.push { cls := .type "range", data := .fields #[.int i t, .int j t', .int c t''] }).objs.size := by simpa using hb
          subst e
          exact I2.fpOk (Nat.le_refl _) (I2.hok.fresh (Nat.le_refl _))
end
theorem for_rangeS {n : Nat} {lo c : Int} {g : TG} {tb : TS} {D : Ends} {σ : St} {H : Hp} (Pv : Nat → St → Hp → Prop) (h0 : Pv 0 σ H)
    (hs : ∀ (i : Nat) (σ : St) (H : Hp), i < n → Pv i σ H → g (.int (lo + (i : Int) * c)) σ H fun σ2 H2 => tb { D with nx := Pv (i + 1), ct := Pv (i + 1), bk := D.nx } σ2 H2)
    (hd : ∀ σ H, Pv n σ H → D.nx σ H) :
    ∃ W : Nat → Nat → St → Hp → Prop, (∃ m, W 0 m σ H) ∧ ∀ i m σ H, W i m σ H →
      ((ItrS lo c n).stop i H ∧ D.nx σ H) ∨ ((ItrS lo c n).go i H ∧ ∃ N : St → Hp → Prop, (∀ σ' H', N σ' H' → ∃ m', m' < m ∧ W (i + 1) m' σ' H') ∧ ∀ x H', (ItrS lo c n).yld i H x H' → g x σ H' fun σ2 H2 => tb { D with nx := N, ct := N, bk := D.nx } σ2 H2) := by
  refine ⟨fun i m σ H => m = n - i ∧ i ≤ n ∧ Pv i σ H, ⟨n, by simp, Nat.zero_le _, h0⟩, ?_⟩
  rintro i m σ H ⟨rfl, hi, p⟩
  by_cases hlt : i < n
  · refine .inr ⟨hlt, Pv (i + 1), fun σ' H' p' => ⟨n - (i + 1), by omega, rfl, hlt, p'⟩, fun x H' y => ?_⟩
    obtain ⟨rfl, rfl⟩ := y
    exact hs i σ _ hlt p
  · obtain rfl : i = n := by omega
    exact .inl ⟨Nat.le_refl _, hd σ H p⟩
end L2
end
section
set_option maxHeartbeats 8000000
set_option Elab.async false
set_option linter.all false
set_option maxRecDepth 100000
namespace L2
open PySem PySem.Spec PyProof.Rows
theorem fold_rep (v : Value) : ∀ (n : Nat) (acc : List Value), List.foldl (fun x1 x2 => x1 ++ x2) acc.toArray (List.replicate n #[v]) = (acc ++ List.replicate n v).toArray
  | 0, acc => by simp
  | n + 1, acc => by
    rw [List.replicate_succ, List.foldl_cons]
    have : acc.toArray ++ #[v] = (acc ++ [v]).toArray := by simp
    rw [this, fold_rep v n (acc ++ [v]), List.append_assoc]
    rfl
def rRepL : R2 := fun x y H Q => ∃ (a : Addr) (z : V) (n : Nat), x = .ref a ∧ y = .int (n : Int) ∧ H a = some (.lst [z]) ∧ n ≤ 1000 ∧ ∀ p, H p = none → Q (.ref p) (upd H p (.lst (List.replicate n z)))
theorem op_repL {X : Cx} : OpR X (binaryOp .Mult) rRepL := by
  intro pins s σ H x y v u Q I rx ry h
  obtain ⟨a, z, n, rfl, rfl, ha, h2, q⟩ := h
  cases rx
  obtain ⟨t, rfl⟩ := ry
  obtain ⟨hz, its, k, rv, hl⟩ := (show ObjOk X.prog X.w H s.heap a (.lst [z]) from I.hok a _ ha)
  obtain ⟨v0, rfl, rz⟩ := vals1 rv
  generalize harr : ([v0] : List Value).toArray = arr at hl
  generalize hx : (n : Int) = x
  have hxn : x.toNat = n := by omega
  have ez : arr.size * x.toNat = n := by rw [hxn, ← harr]; show 1 * n = n; omega
  have e : List.foldl (fun x1 x2 => x1 ++ x2) #[] (List.replicate (if arr.isEmpty = true then 0 else x.toNat) arr) = (List.replicate n v0).toArray := by
    rw [← harr, if_neg (by simp), hxn]
    have := fold_rep v0 n []
    rw [List.nil_append] at this
    exact this
  have c0 : ¬ (!Builtin.List.listFitsIndex x) = true := by simp [Builtin.List.listFitsIndex]; omega
  have c2 : ¬ Builtin.List.listTooLong (arr.size * x.toNat) = true := by
    rw [ez]
    unfold Builtin.List.listTooLong
    rw [decide_eq_true_eq]
    exact Nat.not_lt.mpr (szl h2)
  have c1 : arr.size * x.toNat ≤ 1000 := by rw [ez]; exact h2
  refine wpAny_binaryOp_repeat_ref (T := "list") (U := "int") (by decide) ⟨_, hl, rfl⟩ (fun s' => typeIs_int s' x t) noFill_list_mul F.fills_int_mul F.slot_int_rmul repeat_list F.slot_int_index.lookup
    (call_meets F.slot_int_rmul (typeIs_int s x t) F.entry_int_rmul (F.args_int_rmul_2 _ _) (int___rmul___int_list x t a arr k)
      ⟨hl, rfl, ⟨_, hl, rfl⟩, call_meets F.slot_list_mul ⟨_, hl, rfl⟩ F.entry_list_mul (F.args_list_mul_2 _ _)
        (AutoListH.list___mul___list_int_3 a arr k x t c0 (by omega) c2) ⟨hl, ?_⟩⟩)
  rw [e]
  refine ⟨.ref s.heap.objs.size, _, I.laid (t' := s.toks) (o := .lst (List.replicate n z)) (fun b ob q => Heap.get?_push_of_some _ q) (Nat.le_refl _) ?_, rfl, q _ (I.hok.fresh (Nat.le_refl _))⟩
  exact ⟨by rw [List.length_replicate]; exact szl h2, _, 0, vals_rep rz n, Heap.get?_push_size _ rfl⟩
end L2
end
set_option linter.all false
namespace LB
def one (l : Nat → Nat) (e : Nat × Nat) : Nat → Nat := fun v => if v = e.1 ∨ v = e.2 then min (l e.1) (l e.2) else l v
def turn (E : List (Nat × Nat)) (l : Nat → Nat) : Nat → Nat := E.foldl one l
end LB
section
set_option maxHeartbeats 8000000
set_option Elab.async false
set_option linter.all false
set_option maxRecDepth 100000
namespace KK
open PySem L2 KM
def wAt (ws : List Int) (i : Int) : Int := ws.getD i.toNat 0
def shB (ws : List Int) (s : Sg) : Bool := decide (shQ s = some (Rat.divInt (wAt ws s.j) (wAt ws s.i)))
def doesB (ws : List Int) (ss : List Sg) : Bool := ws.all (fun w => decide (1 ≤ w)) && ss.all (shB ws)
def InW (n : Nat) (s : Sg) : Prop := ∃ ni nj : Nat, s.i = (ni : Int) ∧ s.j = (nj : Int) ∧ ni < n ∧ nj < n
def GdS (ws : List Int) (s : Sg) : Prop := ∃ (ni nj : Nat) (wi wj : Int), s.i = (ni : Int) ∧ s.j = (nj : Int) ∧ ni ≠ nj ∧ ws[ni]? = some wi ∧ ws[nj]? = some wj ∧ shQ s = some ((wj : Rat) / (wi : Rat))
theorem wAt_of {ws : List Int} {i : Int} {n : Nat} {x : Int} (h : i = (n : Int)) (e : ws[n]? = some x) : wAt ws i = x := by
  subst h
  unfold wAt
  rw [Int.toNat_natCast, List.getD_eq_getElem?_getD, e]; rfl
theorem GdS.inW {ws : List Int} {s : Sg} (h : GdS ws s) : InW ws.length s := by
  obtain ⟨ni, nj, wi, wj, e1, e2, _, e3, e4, _⟩ := h
  exact ⟨ni, nj, e1, e2, (List.getElem?_eq_some_iff.mp e3).1, (List.getElem?_eq_some_iff.mp e4).1⟩
theorem GdS.shB {ws : List Int} {s : Sg} (h : GdS ws s) : shB ws s = true := by
  obtain ⟨ni, nj, wi, wj, e1, e2, _, e3, e4, e5⟩ := h
  unfold KK.shB
  rw [wAt_of e1 e3, wAt_of e2 e4, e5, Rat.divInt_eq_div]
  exact decide_eq_true rfl
theorem shQ_some {s : Sg} {q : Rat} (h : shQ s = some q) : s.v ≠ s.w ∧ s.w2 - s.v2 = s.v - s.w ∧ s.w ≠ s.w2 ∧ q = (s.v - s.v2) / (s.w2 - s.w) ∧ 0 < q := by
  unfold shQ at h
  by_cases c : s.v = s.w ∨ s.w2 - s.v2 ≠ s.v - s.w ∨ s.w = s.w2
  · rw [if_pos c] at h; cases h
  · rw [if_neg c] at h
    split at h
    · cases h
      refine ⟨fun z => c (.inl z), Classical.byContradiction fun z => c (.inr (.inl z)), fun z => c (.inr (.inr z)), rfl, ‹_›⟩
    · cases h
section
variable {ws : List Int} {s : Sg} {m : Rat}
end
theorem share_is {q : Rat} {wi wj : Int} (hi : wi ≠ 0) : (wj * (q.den : Int) = wi * q.num) ↔ q = Rat.divInt wj wi := by
  have hd : (q.den : Int) ≠ 0 := den_ne q
  conv => rhs; rw [← Rat.num_divInt_den q]
  rw [Rat.divInt_eq_divInt_iff hd hi]
  constructor <;> intro h <;> grind
end KK
end
section
set_option maxHeartbeats 8000000
set_option Elab.async false
set_option linter.all false
set_option maxRecDepth 100000
namespace KK
open PySem L2 KM
theorem list_of_map {α : Type} {ys : List V} {rs : List α} {f : α → V} (h : ys.length = rs.length) (k : ∀ (i : Nat) v, ys[i]? = some v → ∃ r, rs[i]? = some r ∧ v = f r) : ys = rs.map f := by
  refine List.ext_getElem? fun i => ?_
  rw [List.getElem?_map]
  cases e : ys[i]? with
  | none =>
    rw [List.getElem?_eq_none_iff] at e
    rw [List.getElem?_eq_none (by omega)]; rfl
  | some v =>
    obtain ⟨r, er, rfl⟩ := k i v e
    rw [er]; rfl
def oD : Option Rat → PyData
  | none => .none
  | some q => rD q
theorem ORt.rd {H : Hp} {v : V} {o : Option Rat} (h : ORt H v o) : RdD H v (oD o) := by
  cases o with
  | none => cases (show v = .non from h); exact .non
  | some q => obtain ⟨a, rfl, e⟩ := h; exact e.rd
theorem oD_eqv (o : Option Rat) (x : Rat) : PyData.eqv (oD o) (rD x) = decide (o = some x) := by
  cases o with
  | none => rfl
  | some q =>
    show PyData.eqv (.tuple [.int q.num, .int (q.den : Int)]) (.tuple [.int x.num, .int (x.den : Int)]) = _
    rw [eqv_rp, Bool.eq_iff_iff, decide_eq_true_eq, decide_eq_true_eq]
    exact ⟨fun z => by rw [z], fun z => by cases z; rfl⟩
theorem oD_sh (o : Option Rat) : SeqAt.shaped (oD o) = true := by cases o <;> rfl
theorem SgL.at {H : Hp} {vs : List V} {ss : List Sg} (h : SgL H vs ss) {i : Nat} {x : V} (e : vs[i]? = some x) : ∃ s, ss[i]? = some s ∧ SgAt H x s ∧ SgZ s := by
  have hi : i < vs.length := (List.getElem?_eq_some_iff.mp e).1
  obtain ⟨s, es⟩ : ∃ s, ss[i]? = some s := ⟨_, List.getElem?_eq_getElem (h := by rw [← h.1]; exact hi)⟩
  obtain ⟨v, a, b, c⟩ := h.2 i s es
  rw [a] at e; cases e
  exact ⟨s, es, b, c⟩
theorem at_map {ws : List Int} {i : Int} {n : Nat} (h : i = (n : Int)) (l : n < ws.length) : ∃ w, ws[n]? = some w ∧ w ∈ ws ∧ wAt ws i = w ∧ atI (ws.map V.int) i = some (.int w) := by
  have e : ws[n]? = some ws[n] := List.getElem?_eq_getElem l
  refine ⟨ws[n], e, List.getElem_mem l, wAt_of h e, ?_⟩
  rw [h]; exact atI_nat (by rw [List.getElem?_map, e]; rfl)
section
variable {P : Program} {w : World} {K : PySem.W.Frag} {mg : Str → Option Value} {base : Heap} {aN : Addr}
def WsZ (ws : List Int) : Prop := 1 ≤ ws.length ∧ ws.length ≤ 8 ∧ ∀ w ∈ ws, Bd 4000 w
def spDo : Sp := fun vs H Q _ => ∃ (aw as : Addr) (k : Bool) (xs : List V) (ws : List Int) (ss : List Sg), vs = [.ref aw, .ref as] ∧ H aw = some (.tup (ws.map V.int)) ∧ HSq k H as xs ∧ SgL H xs ss ∧ (∀ s ∈ ss, InW ws.length s) ∧ WsZ ws ∧ xs.length ≤ 500 ∧ ∀ H', Same H H' → Q (.bl (doesB ws ss)) H'
theorem sc_do : FnScope ["weights", "sightings"] ["weights", "sightings"] (defScope s_does_all) := ⟨rfl, rfl, rfl, by decide +kernel, rfl, by decide +kernel, by decide +kernel⟩
theorem ok_do (D : Df K mg "does_all" s_does_all ["weights", "sightings"] []) (TF : TxF K mg aN) (cR : Cal P w K mg base "ratio" 2 ["top", "bottom"] [] spLow) (cSh : Cal P w K mg base "share_of" 4 ["sighting"] [] spSh) : Cal P w K mg base "does_all" 5 ["weights", "sightings"] [] spDo := by
  refine D.calB (k := 4) sc_do (fun vs H Q E h => by obtain ⟨_, _, _, _, _, _, rfl, _⟩ := h; rfl) (fun f cdv A outer s H vs Q E hr h => ?_)
  obtain ⟨aw, as, kk, xs, ws, ss, rfl, haw, has, hss, hin, ⟨w1, wl, hb⟩, xl, k⟩ := h
  have hr2 : Room 2 _ := hr.mono (by decide)
  have hu := hr.units
  refine ⟨_, (bx_scons (Bx.mk (ps_if (pt_not (pt_truth (pe_callB (call_all rfl) (by rfl) TF.nAll (by decide +kernel) (pa_cons (pe_comp (NB := ["weight"]) rfl (by decide +kernel) (by decide +kernel) rfl (by decide +kernel) (pi_tup (pv 0)) (by intro _ _ _; refine ⟨?_, ?_, ?_⟩; (exact (pg_name (i := 0) (show List.Nodup (["weight"] : List Str) by decide +kernel) rfl (Or.inl rfl))); (exact pts_nil); (exact (pe_cmpR op_ge (pv 0) pe_int (nomark _))))) pa_nil)) fun _ => rfl)) (pss_one (ps_ret pe_bl)) pss_nil))
    (Bx.mk (pss_one (ps_ret (pe_callB (call_all rfl) (by rfl) TF.nAll (by decide +kernel) (pa_cons (pe_compC (NB := ["sighting"]) (FR := ["weights"]) (js := [0]) rfl rfl (fun _ _ h => h) (.cons rfl rfl rfl ⟨_, rfl⟩ .nil) rfl (by decide +kernel) rfl (by decide +kernel) (pi_seqK (K := K) rfl (pv 1)) (by intro _ _ _; refine ⟨?_, ?_, ?_⟩; (exact (pg_name (i := 0) (show List.Nodup (["sighting", "weights"] : List Str) by decide +kernel) rfl (Or.inl rfl))); (exact pts_nil); (exact (pe_cmpR (op_eqD hu) (pe_c cSh hr (pa_cons (pv 0) pa_nil)) (pe_c cR hr2 (pa_cons (pe_ix (ix_tupK (K := K) rfl) (pv 1) (pe_ix (ix_tupK (K := K) rfl) (pv 0) pe_int (fun _ _ => rfl)) (fun _ _ => rfl)) (pa_cons (pe_ix (ix_tupK (K := K) rfl) (pv 1) (pe_ix (ix_tupK (K := K) rfl) (pv 0) pe_int (fun _ _ => rfl)) (fun _ _ => rfl)) pa_nil))) (nomark _))))) pa_nil)))))), ?_⟩
  refine ⟨_, rfl, aw, rfl, ⟨_, .of haw⟩, fun D1 hD1 => ?_⟩
  refine comp_each (n := 1) (xs := ws.map V.int) (fun i v _ => ∃ w, ws[i]? = some w ∧ v = .bl (decide (1 ≤ w))) (fun i v H H' _ h => h) hD1 (runs_tup haw) (small1000 (by rw [List.length_map]; omega)) ?_ ?_
  · intro i x zs H2 Q' ex hz s2 hq'
    rw [List.getElem?_map] at ex
    obtain ⟨w, ew, rfl⟩ := Option.map_eq_some_iff.mp ex
    obtain ⟨z1, rfl⟩ := len1 hz
    exact ⟨_, rfl, _, _, rfl, rfl, hq' _ _ (Same.refl _) ⟨w, ew, rfl⟩⟩
  intro ys H1 s1 hD1' hyl hyR
  have ey := list_of_map (f := fun w => V.bl (decide ((1 : Int) ≤ w))) (rs := ws) (by rw [hyl, List.length_map]) hyR
  refine ⟨D1, ws.map (fun w => decide ((1 : Int) ≤ w)), rfl, SqL.of (by rw [hD1', ey, List.map_map]; rfl), _, rfl, ?_⟩
  have e0 : (ws.map (fun w => decide ((1 : Int) ≤ w))).all id = ws.all (fun w => decide (1 ≤ w)) := by rw [List.all_map]; rfl
  rw [e0]
  cases c1 : ws.all (fun w => decide (1 ≤ w)) with
  | false =>
    refine iteT ?_
    have := k H1 s1
    unfold doesB at this
    rw [c1] at this
    exact this
  | true =>
  refine iteF ?_
  have hpos : ∀ w ∈ ws, 1 ≤ w := fun w m => of_decide_eq_true (List.all_eq_true.mp c1 w m)
  have haw1 := s1 _ _ haw
  have has1 := has.same s1
  have hss1 := hss.tups (.of s1)
  clear ey e0 hyR hyl hD1' hD1
  refine ⟨_, rfl, kk, as, rfl, ⟨xs, has1.sq⟩, fun D2 hD2 => ?_⟩
  refine compC_each (n := 1) (xs := xs) (fun i v _ => ∃ s, ss[i]? = some s ∧ v = .bl (shB ws s)) (fun i v H H' _ h => h) hD2 (runs_seq has1) (small1000 (by omega)) ?_ ?_
  · intro i x zs H2 Q' ex hz s2 hq'
    obtain ⟨z1, rfl⟩ := len1 hz
    obtain ⟨sg, es, hx, zg⟩ := hss1.at ex
    obtain ⟨ni, nj, ei, ej, li, lj⟩ := hin sg (List.mem_of_getElem? es)
    obtain ⟨wi, ewi, mi, ai, ti⟩ := at_map ei li
    obtain ⟨wj, ewj, mj, aj, tj⟩ := at_map ej lj
    refine ⟨rfl, ?_⟩
    refine ⟨_, rfl, x, sg, rfl, hx.tups (.of s2), zg, fun u H3 s3 o3 => ?_⟩
    have S3 := s2.trans s3
    have haw3 := S3 _ _ haw1
    obtain ⟨p1, q1, q2, q3, q4, rfl, hsg, _⟩ := hx
    have hsg3 := S3 _ _ hsg
    refine ⟨_, rfl, _, rfl, p1, _, 1, .int sg.j, rfl, rfl, .of hsg3, rfl, aw, _, sg.j, .int wj, rfl, rfl, .of haw3, tj, ?_⟩
    refine ⟨_, rfl, _, rfl, p1, _, 0, .int sg.i, rfl, rfl, .of hsg3, rfl, aw, _, sg.i, .int wi, rfl, rfl, .of haw3, ti, ?_⟩
    have := hpos wi mi
    refine ⟨wj, wi, rfl, by omega, (hb wi mi).mono (by decide), fun r H4 s4 h4 => ?_⟩
    refine ⟨_, _, (o3.tups (.of s4)).rd, h4.rd, oD_sh _, shaped_rp _, hq' _ _ (s3.trans s4) ⟨sg, es, ?_⟩⟩
    rw [show PyData.tuple [.int (Rat.divInt wj wi).num, .int ((Rat.divInt wj wi).den : Int)] = rD (Rat.divInt wj wi) from rfl, oD_eqv]
    unfold shB
    rw [ai, aj]
  intro bs H2 s2 hD2' hbl hbR
  have eb := list_of_map (f := fun s => V.bl (shB ws s)) (rs := ss) (by rw [hbl, hss.1]) hbR
  refine ⟨D2, ss.map (shB ws), rfl, SqL.of (by rw [hD2', eb, List.map_map]; rfl), ?_⟩
  have e0 : (ss.map (shB ws)).all id = ss.all (shB ws) := by rw [List.all_map]; rfl
  rw [e0]
  have := k H2 (s1.trans s2)
  unfold doesB at this
  rw [c1, Bool.true_and] at this
  exact this
theorem sc_ld : FnScope ["weights", "sightings", "sighting", "share", "due"] ["weights", "sightings"] (defScope s_law_does) := ⟨rfl, rfl, rfl, by decide +kernel, rfl, by decide +kernel, by decide +kernel⟩
def spLd : Sp := fun vs H Q _ => ∃ (aw as : Addr) (xs : List V) (ws : List Int) (ss : List Sg), vs = [.ref aw, .ref as] ∧ H aw = some (.tup (ws.map V.int)) ∧ H as = some (.lst xs) ∧ SgL H xs ss ∧ (∀ s ∈ ss, InW ws.length s) ∧ WsZ ws ∧ xs.length ≤ 500 ∧ ∀ H', Same H H' → Q (.bl (doesB ws ss)) H'
theorem ok_ld (D : Df K mg "_law_does" s_law_does ["weights", "sightings"] []) (T : TxB K mg) (cSl : Cal P w K mg base "_law_share" 4 ["sighting"] [] spSh) : Cal P w K mg base "_law_does" 5 ["weights", "sightings"] [] spLd := by
  refine D.calB (k := 4) sc_ld (fun vs H Q E h => by obtain ⟨_, _, _, _, _, rfl, _⟩ := h; rfl) (fun f cdv A outer s H vs Q E hr h => ?_)
  obtain ⟨aw, as, xs, ws, ss, rfl, haw, has, hss, hin, ⟨w1, wl, hb⟩, xl, k⟩ := h
  refine ⟨_, (bx_scons (Bx.mk (ps_if (pt_cmpR op_lt (pe_callB (call_minT rfl) (by rfl) T.nMin PyProof.Rows.boot_min (pa_cons (pv 0) pa_nil)) pe_int (nomark _)) (pss_one (ps_ret pe_bl)) pss_nil))
    (bx_scons (Bx.mk (ps_for PassesOwn.never rfl (pi_seqK (K := K) rfl (pv 1)) (pg_name (i := 2) sc_ld.nd rfl (Or.inl rfl)) (pss_cons (ps_set (i := 3) sc_ld.nd rfl (Or.inl rfl) (pe_c cSl hr (pa_cons (pv 2) pa_nil)))
    (pss_cons (ps_if (pt_cmpR op_isN (pv 3) pe_non (nomark _)) (pss_one (ps_ret pe_bl)) pss_nil)
    (pss_cons (ps_set (i := 4) sc_ld.nd rfl (Or.inl rfl) (pe_op op_mulB (pe_ix ix_tup (pv 0) (pe_ix ix_tup (pv 2) pe_int (fun _ _ => rfl)) (fun _ _ => rfl)) (pe_ix ix_tup (pv 3) pe_int (fun _ _ => rfl))))
    (pss_one (ps_if (pt_cmpR op_ne (pe_op op_mulB (pe_ix ix_tup (pv 0) (pe_ix ix_tup (pv 2) pe_int (fun _ _ => rfl)) (fun _ _ => rfl)) (pe_ix ix_tup (pv 3) pe_int (fun _ _ => rfl))) (pv 4) (nomark _)) (pss_one (ps_ret pe_bl)) pss_nil)))))))
    (Bx.mk (pss_one (ps_ret pe_bl))))), ?_⟩
  refine ⟨_, rfl, aw, ws, rfl, .of haw, by omega, fun M mM hM => ⟨_, _, rfl, rfl, _, rfl, ?_⟩⟩
  by_cases c0 : M < 1
  · rw [decide_eq_true c0]
    refine iteT ?_
    have e : ws.all (fun w => decide (1 ≤ w)) = false := by
      rw [List.all_eq_false]
      exact ⟨M, mM, fun z => by have := of_decide_eq_true z; omega⟩
    have := k H (Same.refl _)
    unfold doesB at this
    rw [e] at this
    exact this
  rw [decide_eq_false c0]
  refine iteF ?_
  have hpos : ∀ w ∈ ws, 1 ≤ w := fun w m => by have := hM w m; omega
  have c1 : ws.all (fun w => decide (1 ≤ w)) = true := List.all_eq_true.mpr fun w m => decide_eq_true (hpos w m)
  have k' : ∀ H', Same H H' → Q (.bl (ss.all (shB ws))) H' := fun H' s' => by
    have := k H' s'
    unfold doesB at this
    rw [c1, Bool.true_and] at this
    exact this
  clear k c1
  refine st_next ?_
  dsimp only
  refine st_for ?_
  refine ⟨_, rfl, false, as, rfl, ⟨xs, SqL.of has⟩, ?_⟩
  refine for_seq (k := false) (K := K) (a := as) (xs := xs) (fun i σ G => ∃ z, z.length = 3 ∧ σ = some (.ref aw) :: some (.ref as) :: z ∧ Same H G ∧ ∀ s ∈ ss.take i, shB ws s = true) ⟨_, rfl, rfl, Same.refl _, fun s m => by simp at m⟩ (fun i σ G ⟨_, _, _, s4, _⟩ => SqL.of (s4 _ _ has)) ?_ ?_
  · rintro i x σ G ex ⟨z, hz, rfl, s1, hall⟩
    match z, hz with
    | [z1, z2, z3], _ =>
    obtain ⟨sg, es, hx, zg⟩ := hss.at ex
    obtain ⟨ni, nj, ei, ej, li, lj⟩ := hin sg (List.mem_of_getElem? es)
    obtain ⟨wi, ewi, mi, ai, ti⟩ := at_map ei li
    obtain ⟨wj, ewj, mj, aj, tj⟩ := at_map ej lj
    have hno : shB ws sg = false → ss.all (shB ws) = false := fun z => List.all_eq_false.mpr ⟨sg, List.mem_of_getElem? es, by rw [z]; decide⟩
    refine ⟨_, rfl, x, sg, rfl, hx.tups (.of s1), zg, fun u G2 s2 o2 => ?_⟩
    dsimp only [gName]
    have S2 := s1.trans s2
    have haw2 := S2 _ _ haw
    obtain ⟨p1, q1, q2, q3, q4, rfl, hsg, _⟩ := hx
    have hsg2 := S2 _ _ hsg
    refine ⟨_, rfl, rfl, _, rfl, ?_⟩
    cases esh : shQ sg with
    | none =>
      rw [esh] at o2
      cases (show u = .non from o2)
      rw [decide_eq_true rfl]
      refine iteT ?_
      have := k' G2 S2
      rw [hno (by unfold shB; rw [esh]; exact decide_eq_false (fun z => by cases z))] at this
      exact this
    | some q =>
      rw [esh] at o2
      obtain ⟨ru, rfl, hru⟩ := o2
      rw [decide_eq_false (fun z => by cases z)]
      refine iteF ?_
      have zq := shQ_sz zg esh
      have b1 : Bd 1000000 q.num := zq.1.mono (by decide)
      have b2 : Bd 1000000 (q.den : Int) := zq.2.mono (by decide)
      have b3 : Bd 1000000 wi := (hb wi mi).mono (by decide)
      have b4 : Bd 1000000 wj := (hb wj mj).mono (by decide)
      refine ⟨_, rfl, _, rfl, p1, _, 0, .int sg.i, rfl, rfl, .of hsg2, rfl, aw, _, sg.i, .int wi, rfl, rfl, .of haw2, ti, _, rfl, ru, _, _, _, rfl, rfl, .of hru, at0 .., _, _, rfl, rfl, ⟨b3, b1⟩, ?_⟩
      dsimp only [gName]
      refine ⟨_, rfl, _, rfl, p1, _, 1, .int sg.j, rfl, rfl, .of hsg2, rfl, aw, _, sg.j, .int wj, rfl, rfl, .of haw2, tj, _, rfl, ru, _, _, _, rfl, rfl, .of hru, at1 .., _, _, rfl, rfl, ⟨b4, b2⟩, _, rfl, rfl, _, rfl, ?_⟩
      rw [vint_dec]
      have hwi := hpos wi mi
      by_cases c : wj * (q.den : Int) = wi * q.num
      · rw [decide_eq_true c]
        refine iteF ⟨_, rfl, rfl, S2, fun s' m => ?_⟩
        rw [tk_snoc es] at m
        rcases List.mem_append.mp m with z | z
        · exact hall s' z
        · have : s' = sg := by simpa using z
          subst this
          unfold shB
          rw [esh, ai, aj, (share_is (by omega)).mp c]
          exact decide_eq_true rfl
      · rw [decide_eq_false c]
        refine iteT ?_
        have := k' G2 S2
        rw [hno (by
          unfold shB; rw [esh, ai, aj]
          exact decide_eq_false fun z => c ((share_is (by omega)).mpr (Option.some.inj z)))] at this
        exact this
  · rintro σ G ⟨z, hz, rfl, s1, hall⟩
    rw [List.take_of_length_le (by rw [hss.1]; exact Nat.le_refl _)] at hall
    have := k' G s1
    rw [List.all_eq_true.mpr hall] at this
    exact this
end
end KK
end
section
set_option maxHeartbeats 8000000
set_option Elab.async false
set_option linter.all false
set_option maxRecDepth 100000
namespace KK
open PySem L2 KM
structure En where
  b : Nat
  h : Rat
  path : List (Int × Int)
def keys (ms : List En) : List Nat := ms.map (·.b)
theorem keys_app (ms : List En) (e : En) : keys (ms ++ [e]) = keys ms ++ [e.b] := by unfold keys; rw [List.map_append]; rfl
inductive Walk (ss : List Sg) (qs : List Rat) (root : Nat) : Nat → Rat → List (Int × Int) → Prop
  | nil : Walk ss qs root root 1 []
  | fwd {b : Nat} {h q : Rat} {p : List (Int × Int)} {k j : Nat} {s : Sg} : Walk ss qs root b h p → ss[k]? = some s → qs[k]? = some q → s.i = (b : Int) → s.j = (j : Int) → Walk ss qs root j (h * q) (p ++ [((k : Int), 0)])
  | bwd {b : Nat} {h q : Rat} {p : List (Int × Int)} {k i : Nat} {s : Sg} : Walk ss qs root b h p → ss[k]? = some s → qs[k]? = some q → s.j = (b : Int) → s.i = (i : Int) → Walk ss qs root i (h / q) (p ++ [((k : Int), 1)])
def closedAt (ss : List Sg) (ks : List Nat) (b : Nat) : Prop := ∀ s ∈ ss, (s.i = (b : Int) → s.j.toNat ∈ ks) ∧ (s.j = (b : Int) → s.i.toNat ∈ ks)
theorem closedAt.mono {ss : List Sg} {ks ks' : List Nat} {b : Nat} (h : closedAt ss ks b) (m : ∀ x ∈ ks, x ∈ ks') : closedAt ss ks' b := fun s hs => ⟨fun e => m _ ((h s hs).1 e), fun e => m _ ((h s hs).2 e)⟩
structure Rch (n : Nat) (ss : List Sg) (qs : List Rat) (root : Nat) (ms : List En) : Prop where
  nd : (keys ms).Nodup
  lt : ∀ e ∈ ms, e.b < n
  rt : root ∈ keys ms
  walk : ∀ e ∈ ms, Walk ss qs root e.b e.h e.path
  len : ∀ e ∈ ms, e.path.length + 1 ≤ ms.length
  sz : ∀ e ∈ ms, Sz (50 * e.path.length + 2) e.h
  pos : ∀ e ∈ ms, 0 < e.h
theorem nodup_len {n : Nat} : ∀ {l : List Nat}, l.Nodup → (∀ x ∈ l, x < n) → l.length ≤ n := by
  induction n with
  | zero =>
    intro l _ h
    cases l with
    | nil => exact Nat.le_refl _
    | cons x l => exact absurd (h x (List.mem_cons_self ..)) (Nat.not_lt_zero _)
  | succ n ih =>
    intro l hn h
    have h1 : (l.erase n).length ≤ n := by
      refine ih (hn.erase n) fun x hx => ?_
      have h2 := h x (List.mem_of_mem_erase hx)
      have h3 : x ≠ n := fun z => by
        subst z
        exact hn.not_mem_erase hx
      omega
    have h2 := List.length_erase_le (a := n) (l := l)
    by_cases hm : n ∈ l
    · rw [List.length_erase_of_mem hm] at h1
      omega
    · rw [List.erase_of_not_mem hm] at h1
      omega
theorem Rch.card {n : Nat} {ss : List Sg} {qs : List Rat} {root : Nat} {ms : List En} (r : Rch n ss qs root ms) : ms.length ≤ n := by
  have := nodup_len (n := n) r.nd fun x hx => by
    obtain ⟨e, m, rfl⟩ := List.mem_map.mp hx
    exact r.lt e m
  unfold keys at this
  rw [List.length_map] at this
  exact this
theorem Rch.start {n : Nat} {ss : List Sg} {qs : List Rat} {root : Nat} (h : root < n) : Rch n ss qs root [⟨root, 1, []⟩] := by
  have one : ∀ e ∈ ([⟨root, 1, []⟩] : List En), e = ⟨root, 1, []⟩ := fun e m => by simpa using m
  refine ⟨by unfold keys; simp, fun e m => ?_, by unfold keys; simp, fun e m => ?_, fun e m => ?_, fun e m => ?_, fun e m => ?_⟩
  · rw [one e m]; exact h
  · rw [one e m]; exact .nil
  · rw [one e m]; exact Nat.le_refl _
  · rw [one e m]; exact ⟨show (1 : Int).natAbs < 2 ^ 2 by decide, show (1 : Int).natAbs < 2 ^ 2 by decide⟩
  · rw [one e m]; exact (by decide : (0 : Rat) < 1)
theorem Rch.add {n : Nat} {ss : List Sg} {qs : List Rat} {root : Nat} {ms : List En} (r : Rch n ss qs root ms) {e e' : En} (he : e ∈ ms) (hb : e'.b ∉ keys ms) (hl : e'.b < n) (hw : Walk ss qs root e'.b e'.h e'.path) (hp : e'.path.length = e.path.length + 1) (hz : Sz (50 * e'.path.length + 2) e'.h) (h0 : 0 < e'.h) : Rch n ss qs root (ms ++ [e']) := by
  have sp : ∀ {x : En}, x ∈ ms ++ [e'] → x ∈ ms ∨ x = e' := fun m => by
    rcases List.mem_append.mp m with z | z
    · exact .inl z
    · exact .inr (by simpa using z)
  refine ⟨?_, fun x m => ?_, ?_, fun x m => ?_, fun x m => ?_, fun x m => ?_, fun x m => ?_⟩
  · rw [keys_app, List.nodup_append]
    refine ⟨r.nd, by simp, fun a ha b hb' z => ?_⟩
    have : b = e'.b := by simpa using hb'
    subst this
    exact hb (z ▸ ha)
  · rcases sp m with z | rfl
    · exact r.lt x z
    · exact hl
  · rw [keys_app]; exact List.mem_append_left _ r.rt
  · rcases sp m with z | rfl
    · exact r.walk x z
    · exact hw
  · rw [List.length_append, List.length_singleton]
    rcases sp m with z | rfl
    · have := r.len x z; omega
    · have := r.len e he; omega
  · rcases sp m with z | rfl
    · exact r.sz x z
    · exact hz
  · rcases sp m with z | rfl
    · exact r.pos x z
    · exact h0
def Prt (n : Nat) (ss : List Sg) (qs : List Rat) (root : Nat) (ms : List En) : Prop := Rch n ss qs root ms ∧ ∀ b ∈ keys ms, closedAt ss (keys ms) b
theorem Prt.iff {n : Nat} {ss : List Sg} {qs : List Rat} {root : Nat} {ms : List En} (r : Prt n ss qs root ms) {s : Sg} (m : s ∈ ss) {i j : Nat} (ei : s.i = (i : Int)) (ej : s.j = (j : Int)) : i ∈ keys ms ↔ j ∈ keys ms := by
  constructor
  · intro h
    have := (r.2 i h s m).1 ei
    rw [ej, Int.toNat_natCast] at this; exact this
  · intro h
    have := (r.2 j h s m).2 ej
    rw [ei, Int.toNat_natCast] at this; exact this
end KK
end
section
set_option maxHeartbeats 8000000
set_option Elab.async false
set_option linter.all false
set_option maxRecDepth 100000
namespace KK
open PySem L2 KM
def stF (ss : List Sg) (qs : List Rat) (e : En) (i : Nat) (st : List En × List Nat) : List En × List Nat :=
  match ss[i]?, qs[i]? with
  | some s, some q => if s.i = (e.b : Int) ∧ s.j.toNat ∉ keys st.1 then (st.1 ++ [⟨s.j.toNat, e.h * q, e.path ++ [((i : Int), 0)]⟩], st.2 ++ [s.j.toNat])
      else if s.j = (e.b : Int) ∧ s.i.toNat ∉ keys st.1 then (st.1 ++ [⟨s.i.toNat, e.h / q, e.path ++ [((i : Int), 1)]⟩], st.2 ++ [s.i.toNat]) else st
  | _, _ => st
def lpF (ss : List Sg) (qs : List Rat) (e : En) : Nat → List En × List Nat → List En × List Nat
  | 0, st => st
  | i + 1, st => stF ss qs e i (lpF ss qs e i st)
def findE (ms : List En) (b : Nat) : Option En := ms.find? fun e => decide (e.b = b)
def turnF (ss : List Sg) (qs : List Rat) (st : List En × List Nat) : List En × List Nat :=
  match st.2.getLast? with
  | none => st
  | some b => match findE st.1 b with
    | none => st
    | some e => lpF ss qs e ss.length (st.1, st.2.dropLast)
def runF (ss : List Sg) (qs : List Rat) : Nat → List En × List Nat → List En × List Nat
  | 0, st => st
  | t + 1, st => turnF ss qs (runF ss qs t st)
def PaF (ss : List Sg) (qs : List Rat) (root : Nat) (ms : List En) : Prop := ∃ t, runF ss qs t ([⟨root, 1, []⟩], [root]) = (ms, [])
theorem runF_stay {ss : List Sg} {qs : List Rat} {st : List En × List Nat} {t : Nat} {ms : List En} (h : runF ss qs t st = (ms, [])) : ∀ u, runF ss qs (t + u) st = (ms, [])
  | 0 => h
  | u + 1 => by
    show turnF ss qs (runF ss qs (t + u) st) = _
    rw [runF_stay h u]; rfl
theorem PaF.det {ss : List Sg} {qs : List Rat} {root : Nat} {ms ms' : List En} (h : PaF ss qs root ms) (h' : PaF ss qs root ms') : ms = ms' := by
  obtain ⟨t, ht⟩ := h
  obtain ⟨t', ht'⟩ := h'
  have a := runF_stay ht t'
  have b := runF_stay ht' t
  rw [Nat.add_comm] at b
  rw [a] at b
  exact congrArg Prod.fst b
theorem findE_of {ms : List En} {e : En} (nd : (keys ms).Nodup) (m : e ∈ ms) : findE ms e.b = some e := by
  induction ms with
  | nil => cases m
  | cons x ms ih =>
    have nd' : x.b ∉ keys ms ∧ (keys ms).Nodup := List.nodup_cons.mp nd
    unfold findE
    rw [List.find?_cons]
    rcases List.mem_cons.mp m with rfl | m
    · rw [decide_eq_true rfl]
    · have : ¬ x.b = e.b := fun z => nd'.1 (List.mem_map.mpr ⟨e, m, z.symm⟩)
      rw [decide_eq_false this]
      exact ih nd'.2 m
section
variable {ss : List Sg} {qs : List Rat} {e : En} {i : Nat} {st : List En × List Nat} {ms : List En} {ws : List Nat} {s : Sg} {q : Rat}
theorem lpF_skip (es : ss[i]? = some s) (h : lpF ss qs e i st = (ms, ws)) (c1 : s.i = (e.b : Int) → s.j.toNat ∈ keys ms) (c2 : s.j = (e.b : Int) → s.i.toNat ∈ keys ms) : lpF ss qs e (i + 1) st = (ms, ws) := by
  show stF ss qs e i (lpF ss qs e i st) = _
  rw [h]
  unfold stF
  rw [es]
  cases qs[i]? with
  | none => rfl
  | some q =>
    dsimp only
    rw [if_neg (fun z => z.2 (c1 z.1)), if_neg (fun z => z.2 (c2 z.1))]
theorem lpF_fwd (es : ss[i]? = some s) (eq : qs[i]? = some q) (h : lpF ss qs e i st = (ms, ws)) (c1 : s.i = (e.b : Int)) (c2 : s.j.toNat ∉ keys ms) : lpF ss qs e (i + 1) st = (ms ++ [⟨s.j.toNat, e.h * q, e.path ++ [((i : Int), 0)]⟩], ws ++ [s.j.toNat]) := by
  show stF ss qs e i (lpF ss qs e i st) = _
  rw [h]
  unfold stF
  rw [es, eq]
  dsimp only
  rw [if_pos ⟨c1, c2⟩]
theorem lpF_bwd (es : ss[i]? = some s) (eq : qs[i]? = some q) (h : lpF ss qs e i st = (ms, ws)) (c1 : ¬ s.i = (e.b : Int)) (c3 : s.j = (e.b : Int)) (c2 : s.i.toNat ∉ keys ms) : lpF ss qs e (i + 1) st = (ms ++ [⟨s.i.toNat, e.h / q, e.path ++ [((i : Int), 1)]⟩], ws ++ [s.i.toNat]) := by
  show stF ss qs e i (lpF ss qs e i st) = _
  rw [h]
  unfold stF
  rw [es, eq]
  dsimp only
  rw [if_neg (fun z => c1 z.1), if_pos ⟨c3, c2⟩]
theorem runF_turn {t : Nat} {ms' : List En} {ws' : List Nat} (h : runF ss qs t st = (ms, ws ++ [e.b])) (fe : findE ms e.b = some e) (l : lpF ss qs e ss.length (ms, ws) = (ms', ws')) : runF ss qs (t + 1) st = (ms', ws') := by
  show turnF ss qs (runF ss qs t st) = _
  rw [h]
  unfold turnF
  dsimp only
  rw [List.getLast?_concat]
  dsimp only
  rw [fe]
  dsimp only
  rw [List.dropLast_concat]
  exact l
end
def cov (ss : List Sg) (qs : List Rat) : Nat → Nat → Prop
  | 0, _ => False
  | i + 1, b => cov ss qs i b ∨ (¬ cov ss qs i i ∧ ∃ ms, PaF ss qs i ms ∧ b ∈ keys ms)
end KK
end
section
set_option maxHeartbeats 8000000
set_option Elab.async false
set_option linter.all false
set_option maxRecDepth 100000
namespace KK
open PySem L2 KM
theorem Bd9 {i : Int} (h : Bd 8900 i) : Bd 1000000 i := h.mono (by decide)
def RatsI (H : Hp) (us : List V) (qs : List Rat) : Prop := us.length = qs.length ∧ ∀ (i : Nat) (v : V), us[i]? = some v → ∃ a q, v = V.ref a ∧ qs[i]? = some q ∧ RatAt H a q
theorem eq_map {α : Type} {f : α → V} {ys : List V} {qs : List α} (h : ys.length = qs.length) (k : ∀ (i : Nat) (v : V), ys[i]? = some v → ∃ q, qs[i]? = some q ∧ v = f q) : ys = qs.map f := by
  refine List.ext_getElem? fun i => ?_
  by_cases hi : i < ys.length
  · obtain ⟨q, e1, e2⟩ := k i ys[i] (by simp [hi])
    rw [List.getElem?_map, e1, List.getElem?_eq_getElem hi, e2]; rfl
  · rw [List.getElem?_eq_none (by omega), List.getElem?_eq_none (by rw [List.length_map]; omega)]
theorem len2 {σ : St} (h : σ.length = 2) : ∃ a b, σ = [a, b] := by
  match σ, h with
  | [a, b], _ => exact ⟨a, b, rfl⟩
theorem small20 {n : Nat} (h : n ≤ 20) : n < sizeLine := Nat.lt_of_le_of_lt h (by decide)
section
variable {P : Program} {w : World} {K : PySem.W.Frag} {mg : Str → Option Value} {base : Heap}
def lcmL (ks : List Int) : Int := ks.foldl (fun c n => c / (Int.gcd c n : Int) * n) 1
theorem lcm_step {c n : Int} (hc : 0 < c) (hn : 0 < n) : 0 < c / (Int.gcd c n : Int) * n := by
  refine Int.mul_pos ?_ hn
  have hg : 0 < (Int.gcd c n : Int) := by have := Int.gcd_pos_of_ne_zero_left n (a := c) (by omega); omega
  exact Int.ediv_pos_of_pos_of_dvd hc (by omega) (Int.gcd_dvd_left c n)
theorem lcm_le {c n : Int} (hc : 0 < c) (hn : 0 < n) : c / (Int.gcd c n : Int) * n ≤ c * n := by
  have hg : 0 < (Int.gcd c n : Int) := by have := Int.gcd_pos_of_ne_zero_left n (a := c) (by omega); omega
  exact Int.mul_le_mul_of_nonneg_right (Int.ediv_le_self _ (by omega)) (by omega)
theorem bd_lcm {m n : Nat} {c k : Int} (hc : 0 < c) (hk : 0 < k) (h : Bd m c) (h' : Bd n k) : Bd (m + n) (c / (Int.gcd c k : Int) * k) :=
  (h.mul h').of_le (by have := lcm_le hc hk; have := lcm_step hc hk; omega)
def Pos (n : Nat) (ks : List Int) : Prop := ∀ k ∈ ks, 0 < k ∧ Bd n k
def spLcm : Sp := fun vs H Q _ => ∃ p ks, vs = [.ref p] ∧ H p = some (.lst (ks.map V.int)) ∧ Pos 400 ks ∧ ks.length ≤ 20 ∧ Q (.int (lcmL ks)) H
theorem sc_lcm : FnScope ["numbers", "common", "number"] ["numbers"] (defScope s_least_multiple) := ⟨rfl, rfl, rfl, by decide +kernel, rfl, by decide +kernel, by decide +kernel⟩
theorem ok_lcm (D : Df K mg "least_multiple" s_least_multiple ["numbers"] []) (cG : Cal P w K mg base "greatest_divisor" 1 ["one", "other"] [] spGcd) : Cal P w K mg base "least_multiple" 2 ["numbers"] [] spLcm := by
  refine D.cal (k := 1) sc_lcm (fun vs H Q E h => by obtain ⟨_, _, rfl, _⟩ := h; rfl) (fun f cdv A outer s H vs Q E hr h => ?_)
  obtain ⟨p, ks, rfl, hp, hk, hl, k⟩ := h
  refine ⟨_, (pss_cons (ps_set (i := 1) sc_lcm.nd rfl (Or.inl rfl) pe_int)
    (pss_cons (ps_for PassesOwn.never rfl (pi_list (pv 0)) (pg_name (i := 2) sc_lcm.nd rfl (Or.inl rfl)) (pss_one (ps_set (i := 1) sc_lcm.nd rfl (Or.inl rfl) (pe_op op_mulB (pe_op op_fdivB (pv 1) (pe_c cG hr (pa_cons (pv 1) (pa_cons (pv 2) pa_nil)))) (pv 2)))))
    (pss_one (ps_ret (pv 1))))), ?_⟩
  refine ⟨_, rfl, p, rfl, ⟨_, SqL.of hp⟩, for_list (xs := ks.map V.int) (fun i σ H1 => H1 = H ∧ ∃ z, σ = [some (.ref p), some (.int (lcmL (ks.take i))), z] ∧ 0 < lcmL (ks.take i) ∧ Bd (1 + 400 * i) (lcmL (ks.take i))) ⟨rfl, none, rfl, (by show (0:Int) < 1; decide), (show (1 : Int).natAbs < 2 ^ 1 by decide)⟩ ?_ ?_ ?_⟩
  · rintro i σ H1 _ ⟨rfl, _⟩; exact .of hp
  · rintro i x σ H1 hx ⟨rfl, z, rfl, h1, h2⟩
    have hi : i < ks.length := by
      have := (List.getElem?_eq_some_iff.mp hx).1
      simpa using this
    obtain ⟨n, hn, rfl⟩ : ∃ n, ks[i]? = some n ∧ V.int n = x := by simpa using hx
    have hn' := hk n (List.mem_of_getElem? hn)
    have et : lcmL (ks.take (i + 1)) = lcmL (ks.take i) / (Int.gcd (lcmL (ks.take i)) n : Int) * n := by
      rw [List.take_add_one, hn]; simp [lcmL, List.foldl_append]
    have hg : 0 < (Int.gcd (lcmL (ks.take i)) n : Int) := by have := Int.gcd_pos_of_ne_zero_left n (a := lcmL (ks.take i)) (by omega); omega
    have b1 : Bd 8900 (lcmL (ks.take i)) := h2.mono (by omega)
    have hgb : Bd 8900 (Int.gcd (lcmL (ks.take i)) n : Int) := b1.of_le (by have := Int.le_of_dvd h1 (Int.gcd_dvd_left (lcmL (ks.take i)) n); omega)
    have hq : Bd 8900 ((lcmL (ks.take i)).fdiv (Int.gcd (lcmL (ks.take i)) n : Int)) := by
      rw [Int.fdiv_eq_ediv_of_nonneg _ (by omega)]
      exact b1.of_le (by have := Int.ediv_le_self (Int.gcd (lcmL (ks.take i)) n : Int) (a := lcmL (ks.take i)) (by omega); have := Int.ediv_nonneg (a := lcmL (ks.take i)) (b := (Int.gcd (lcmL (ks.take i)) n : Int)) (by omega) (by omega); omega)
    refine ⟨_, rfl, _, rfl, _, rfl, ⟨_, _, rfl, by omega, by omega, ?_⟩⟩
    refine ⟨_, _, rfl, rfl, ⟨by omega, hgb⟩, _, rfl, _, _, rfl, rfl, ⟨Bd9 hq, hn'.2.mono (by decide)⟩, ?_⟩
    refine ⟨rfl, some (.int n), ?_, ?_, ?_⟩
    · rw [et, ← Int.fdiv_eq_ediv_of_nonneg _ (by omega)]; rfl
    · rw [et]; exact lcm_step h1 hn'.1
    · rw [et]; exact (bd_lcm h1 hn'.1 h2 hn'.2).mono (by omega)
  · rintro σ H1 ⟨rfl, z, rfl, _⟩
    refine ⟨_, rfl, ?_⟩
    rw [List.length_map, List.take_length]; exact k
def lcmD (qs : List Rat) : Int := lcmL (qs.map fun q => (q.den : Int))
def spCB : Sp := fun vs H Q _ => ∃ p us qs, vs = [.ref p] ∧ H p = some (.lst us) ∧ RatsI H us qs ∧ (∀ q ∈ qs, Bd 400 (q.den : Int)) ∧ qs.length ≤ 20 ∧ ∀ H', Same H H' → Q (.int (lcmD qs)) H'
theorem sc_cb : FnScope ["ratios"] ["ratios"] (defScope s_common_bottom) := ⟨rfl, rfl, rfl, by decide +kernel, rfl, by decide +kernel, by decide +kernel⟩
theorem ok_cb (D : Df K mg "common_bottom" s_common_bottom ["ratios"] []) (cL : Cal P w K mg base "least_multiple" 2 ["numbers"] [] spLcm) : Cal P w K mg base "common_bottom" 3 ["ratios"] [] spCB := by
  refine D.cal (k := 2) sc_cb (fun vs H Q E h => by obtain ⟨_, _, _, rfl, _⟩ := h; rfl) (fun f cdv A outer s H vs Q E hr h => ?_)
  obtain ⟨p, us, qs, rfl, hp, hR, hb, hl, k⟩ := h
  refine ⟨_, (pss_one (ps_ret (pe_c cL hr (pa_cons (pe_comp (NB := ["top", "bottom"]) rfl (by decide +kernel) (by decide +kernel) rfl (by decide +kernel) (pi_list (pv 0)) (by intro _ _ _; refine ⟨?_, ?_, ?_⟩; (exact (pg_tupK (K := K) (n := 2) rfl rfl (pgs_cons (pg_name (i := 0) (show List.Nodup (["top", "bottom"] : List Str) by decide +kernel) rfl (Or.inl rfl)) (pgs_cons (pg_name (i := 1) (show List.Nodup (["top", "bottom"] : List Str) by decide +kernel) rfl (Or.inl rfl)) pgs_nil)))); (exact pts_nil); (exact (pv 1)))) pa_nil)))), ?_⟩
  refine ⟨_, rfl, p, rfl, ⟨_, SqL.of hp⟩, fun Da hD => ?_⟩
  refine comp_each (J := Itl K p) (n := 2) (g := gTup K 2 (gCons (gName 0) (gCons (gName 1) gNil))) (te := tVar 1) (xs := us) (fun i v _ => ∃ q : Rat, qs[i]? = some q ∧ v = .int (q.den : Int)) (fun _ _ _ _ _ z => z) hD (runs_list hp) (small20 (by rw [hR.1]; exact hl)) ?_ ?_
  · intro i x zs H2 Q' hx hz s2 hk
    obtain ⟨a, q, rfl, hq, ha⟩ := hR.2 i x hx
    obtain ⟨z1, z2, rfl⟩ := len2 hz
    exact ⟨a, _, rfl, SqT.of (s2 _ _ ha), rfl, _, _, rfl, _, _, rfl, rfl, _, rfl, hk _ _ (Same.refl _) ⟨q, hq, rfl⟩⟩
  · intro ys H' s' hy hyl hyR
    have e := eq_map (f := fun q : Rat => V.int (q.den : Int)) (hyl.trans hR.1) hyR
    refine ⟨Da, qs.map fun q : Rat => (q.den : Int), rfl, ?_, fun n hn => ?_, by simpa using hl, k H' s'⟩
    · rw [hy, e, List.map_map]; rfl
    · obtain ⟨q, hq, rfl⟩ := List.mem_map.mp hn
      exact ⟨by have := q.den_pos; omega, hb q hq⟩
end
end KK
end
section
set_option maxHeartbeats 8000000
set_option Elab.async false
set_option linter.all false
set_option maxRecDepth 100000
namespace KK
open PySem L2 KM
theorem for_enum {k : Bool} {K : PySem.W.Frag} {a : Addr} {xs : List V} {g : TG} {tb : TS} {D : Ends} {σ : St} {H : Hp} (Pv : Nat → St → Hp → Prop) (h0 : Pv 0 σ H) (hl : ∀ i σ H, Pv i σ H → SqK k K H a xs)
    (hs : ∀ (i : Nat) (x : V) (σ : St) (H : Hp) (T : Addr), xs[i]? = some x → Pv i σ H → H T = none → g (.ref T) σ (upd H T (.tup [.int i, x])) fun σ2 H2 => tb { D with nx := Pv (i + 1), ct := Pv (i + 1), bk := D.nx } σ2 H2)
    (hd : ∀ σ H, Pv xs.length σ H → D.nx σ H) :
    ∃ W : Nat → Nat → St → Hp → Prop, (∃ m, W 0 m σ H) ∧ ∀ i m σ H, W i m σ H →
      ((IteK k K a).stop i H ∧ D.nx σ H) ∨ ((IteK k K a).go i H ∧ ∃ N : St → Hp → Prop, (∀ σ' H', N σ' H' → ∃ m', m' < m ∧ W (i + 1) m' σ' H') ∧ ∀ x H', (IteK k K a).yld i H x H' → g x σ H' fun σ2 H2 => tb { D with nx := N, ct := N, bk := D.nx } σ2 H2) := by
  refine ⟨fun i m σ H => m = xs.length - i ∧ i ≤ xs.length ∧ Pv i σ H, ⟨xs.length, by simp, Nat.zero_le _, h0⟩, ?_⟩
  rintro i m σ H ⟨rfl, hi, p⟩
  have q1 := hl i σ H p
  by_cases hlt : i < xs.length
  · refine .inr ⟨⟨xs, xs[i], q1, by simp⟩, Pv (i + 1), fun σ' H' p' => ⟨xs.length - (i + 1), by omega, rfl, hlt, p'⟩, fun x H' y => ?_⟩
    obtain ⟨T, u, rfl, hT, rfl, e1⟩ := y
    exact hs i u σ H T (e1 xs q1) p hT
  · have e : i = xs.length := by omega
    subst e
    exact .inl ⟨⟨xs, q1, Nat.le_refl _⟩, hd σ H p⟩

theorem PrL.snoc {H : Hp} {us : List V} {rs : List (Int × Int)} {t : Addr} {r : Int × Int} (h : PrL H us rs) (e : H t = some (.tup [.int r.1, .int r.2])) : PrL H (us ++ [.ref t]) (rs ++ [r]) := by
  refine ⟨by simp [h.1], fun i q m => ?_⟩
  by_cases hi : i < rs.length
  · rw [List.getElem?_append_left hi] at m
    obtain ⟨u, a, b⟩ := h.2 i q m
    exact ⟨u, by rw [List.getElem?_append_left (by rw [h.1]; exact hi)]; exact a, b⟩
  · rw [List.getElem?_append_right (by omega)] at m
    have h0 : i - rs.length = 0 := by
      have := (List.getElem?_eq_some_iff.mp m).1
      simp at this; omega
    rw [h0] at m
    have : r = q := by simpa using m
    subst this
    exact ⟨t, by rw [List.getElem?_append_right (by rw [h.1]; omega), h.1, h0]; rfl, e⟩
theorem PrL.same {H H' : Hp} {us : List V} {rs : List (Int × Int)} (h : PrL H us rs) (e : Same H H') : PrL H' us rs := h.tups (.of e)
theorem PrL.nil {H : Hp} : PrL H [] [] := ⟨rfl, fun i q e => by simp at e⟩
structure TxG (K : PySem.W.Frag) (mg : Str → Option Value) : Prop where
  nEn : mg "enumerate" = none
def EnAt (H : Hp) (v : V) (e : En) : Prop := ∃ t r l us, v = .ref t ∧ H t = some (.tup [.ref r, .ref l]) ∧ RatAt H r e.h ∧ H l = some (.lst us) ∧ PrL H us e.path
theorem EnAt.same {H H' : Hp} {v : V} {e : En} (h : EnAt H v e) (s : Same H H') : EnAt H' v e := by
  obtain ⟨t, r, l, us, a, b, c, d, f⟩ := h
  exact ⟨t, r, l, us, a, s _ _ b, s _ _ c, s _ _ d, f.same s⟩
def kI (n : Nat) : Key := Sum.inl (n : Int)
theorem kI_inj {a b : Nat} (h : kI a = kI b) : a = b := by
  unfold kI at h
  injection h with h
  omega
inductive PtAt (H : Hp) : List (Key × V) → List En → Prop
  | nil : PtAt H [] []
  | cons {v : V} {e : En} {kvs : List (Key × V)} {ms : List En} : EnAt H v e → PtAt H kvs ms → PtAt H ((kI e.b, v) :: kvs) (e :: ms)
theorem PtAt.same {H H' : Hp} (s : Same H H') : ∀ {kvs : List (Key × V)} {ms : List En}, PtAt H kvs ms → PtAt H' kvs ms
  | _, _, .nil => .nil
  | _, _, .cons h t => .cons (h.same s) (PtAt.same s t)
theorem PtAt.len {H : Hp} : ∀ {kvs : List (Key × V)} {ms : List En}, PtAt H kvs ms → kvs.length = ms.length
  | _, _, .nil => rfl
  | _, _, .cons _ t => by rw [List.length_cons, List.length_cons, PtAt.len t]
theorem PtAt.snoc {H : Hp} {v : V} {e : En} (h : EnAt H v e) : ∀ {kvs : List (Key × V)} {ms : List En}, PtAt H kvs ms → PtAt H (kvs ++ [(kI e.b, v)]) (ms ++ [e])
  | _, _, .nil => .cons h .nil
  | _, _, .cons h' t => .cons h' (PtAt.snoc h t)
theorem PtAt.none {H : Hp} {b : Nat} : ∀ {kvs : List (Key × V)} {ms : List En}, PtAt H kvs ms → b ∉ keys ms → valV kvs (kI b) = none
  | _, _, .nil, _ => rfl
  | _, _, .cons (e := e) (ms := ms) _ t, hb => by
    have hb' : ¬ (b = e.b ∨ b ∈ keys ms) := by rw [← List.mem_cons]; exact hb
    rw [valV_neg (fun z => hb' (.inl (kI_inj z).symm))]
    exact PtAt.none t fun z => hb' (.inr z)
theorem PtAt.val {H : Hp} {x : En} : ∀ {kvs : List (Key × V)} {ms : List En}, PtAt H kvs ms → (keys ms).Nodup → x ∈ ms → ∃ v, valV kvs (kI x.b) = some v ∧ EnAt H v x
  | _, _, .nil, _, m => by cases m
  | _, _, .cons (v := v) (e := e) (ms := ms) h t, nd, m => by
    have nd' : e.b ∉ keys ms ∧ (keys ms).Nodup := List.nodup_cons.mp nd
    by_cases hb : e.b = x.b
    · rcases List.mem_cons.mp m with rfl | m
      · exact ⟨v, valV_pos rfl, h⟩
      · exact absurd (hb ▸ List.mem_map.mpr ⟨x, m, rfl⟩) nd'.1
    · rcases List.mem_cons.mp m with rfl | m
      · exact absurd rfl hb
      · obtain ⟨u, e1, e2⟩ := PtAt.val t nd'.2 m
        exact ⟨u, by rw [valV_neg (fun z => hb (kI_inj z))]; exact e1, e2⟩
theorem PtAt.isSome {H : Hp} {kvs : List (Key × V)} {ms : List En} (h : PtAt H kvs ms) (nd : (keys ms).Nodup) (b : Nat) : (valV kvs (kI b)).isSome = decide (b ∈ keys ms) := by
  by_cases m : b ∈ keys ms
  · obtain ⟨e, m', rfl⟩ := List.mem_map.mp m
    obtain ⟨v, e1, _⟩ := h.val nd m'
    rw [e1, decide_eq_true m]; rfl
  · rw [h.none m, decide_eq_false m]; rfl
theorem putK_new {kvs : List (Key × V)} {k : Key} {v : V} (h : valV kvs k = none) : putK kvs k v = kvs ++ [(k, v)] := by
  unfold putK
  rw [valV_any, h]; rfl
def QsL (H : Hp) (ys : List V) (qs : List Rat) : Prop := ys.length = qs.length ∧ ∀ (i : Nat) q, qs[i]? = some q → ∃ a, ys[i]? = some (.ref a) ∧ RatAt H a q
theorem QsL.tups {H H' : Hp} {ys : List V} {qs : List Rat} (h : QsL H ys qs) (e : TupS H H') : QsL H' ys qs := ⟨h.1, fun i q m => by obtain ⟨a, x, y⟩ := h.2 i q m; exact ⟨a, x, e _ _ y⟩⟩
theorem del2_d {H : Hp} {d w : Addr} {o : HO} : del [d, w] (upd H d o) = del [d, w] H := by
  funext a
  unfold del
  by_cases h : a ∈ [d, w]
  · rw [if_pos h, if_pos h]
  · rw [if_neg h, if_neg h, upd_ne (fun z => h (by rw [z]; simp))]
theorem del2_w {H : Hp} {d w : Addr} {o : HO} : del [d, w] (upd H w o) = del [d, w] H := by
  funext a
  unfold del
  by_cases h : a ∈ [d, w]
  · rw [if_pos h, if_pos h]
  · rw [if_neg h, if_neg h, upd_ne (fun z => h (by rw [z]; simp))]
theorem Rch.ent {n : Nat} {ss : List Sg} {qs : List Rat} {root : Nat} {ms : List En} (r : Rch n ss qs root ms) {b : Nat} (h : b ∈ keys ms) : ∃ e ∈ ms, e.b = b := by
  obtain ⟨e, m, z⟩ := List.mem_map.mp h
  exact ⟨e, m, z⟩
section
variable {P : Program} {w : World} {K : PySem.W.Frag} {mg : Str → Option Value} {base : Heap} {aN : Addr}
def QsZ (qs : List Rat) : Prop := ∀ q ∈ qs, 0 < q ∧ Sz 50 q
def wV (ws : List Nat) : List V := ws.map fun w : Nat => V.int (w : Int)
theorem wV_app (ws : List Nat) (b : Nat) : wV (ws ++ [b]) = wV ws ++ [.int (b : Int)] := by unfold wV; rw [List.map_append]; rfl
theorem same_del2 {H : Hp} {d wl : Addr} {o : HO} (h : H wl = none) : Same (del [d] H) (del [d, wl] (upd H wl o)) := fun b u z => by
  obtain ⟨e, n⟩ := del_some z
  have n1 : b ≠ d := by simpa using n
  have n2 : b ≠ wl := ne_of_none e h
  exact del_of (by rw [upd_ne n2]; exact e) (by simp [n1, n2])
theorem del2_1 {H : Hp} {d wl : Addr} : Same (del [d, wl] H) (del [d] H) := fun b u z => by
  obtain ⟨e, n⟩ := del_some z
  have : b ≠ d := fun y => n (by rw [y]; simp)
  exact del_of e (by simpa using this)
structure LpI (H G1 : Hp) (d wl : Addr) (n : Nat) (ss : List Sg) (qs : List Rat) (root ball M : Nat) (e : En) (i : Nat) (G : Hp) (kvs : List (Key × V)) (ms : List En) (ws : List Nat) : Prop where
  sH : Same H G
  gd : G d = some (.dK kvs)
  gw : G wl = some (.lst (wV ws))
  pt : PtAt (del [d, wl] G) kvs ms
  rc : Rch n ss qs root ms
  kp : Same (del [d, wl] G1) (del [d, wl] G)
  ww : ∀ w ∈ ws, w ∈ keys ms
  cl : ∀ b ∈ keys ms, b ∉ ws → b ≠ ball → closedAt ss (keys ms) b
  dn : ∀ s ∈ ss.take i, (s.i = (ball : Int) → s.j.toNat ∈ keys ms) ∧ (s.j = (ball : Int) → s.i.toNat ∈ keys ms)
  me : 2 * (n - ms.length) + ws.length ≤ M
  en : e ∈ ms
theorem LpI.skip {H G1 : Hp} {d wl : Addr} {n : Nat} {ss : List Sg} {qs : List Rat} {root ball M : Nat} {e : En} {i : Nat} {G G5 : Hp} {kvs : List (Key × V)} {ms : List En} {ws : List Nat} {sg : Sg} (h : LpI H G1 d wl n ss qs root ball M e i G kvs ms ws) (s : Same G G5) (es : ss[i]? = some sg)
    (c : (sg.i = (ball : Int) → sg.j.toNat ∈ keys ms) ∧ (sg.j = (ball : Int) → sg.i.toNat ∈ keys ms)) : LpI H G1 d wl n ss qs root ball M e (i + 1) G5 kvs ms ws :=
  ⟨h.sH.trans s, s _ _ h.gd, s _ _ h.gw, h.pt.same (same_del s), h.rc, h.kp.trans (same_del s), h.ww, h.cl, fun x m => by
    rw [tk_snoc es] at m
    rcases List.mem_append.mp m with z | z
    · exact h.dn x z
    · have : x = sg := by simpa using z
      rw [this]; exact c, h.me, h.en⟩
theorem LpI.add {H G1 : Hp} {d wl : Addr} {n : Nat} {ss : List Sg} {qs : List Rat} {root ball M : Nat} {e e' : En} {v : V} {i : Nat} {G G5 : Hp} {kvs : List (Key × V)} {ms : List En} {ws : List Nat} {sg : Sg} (h : LpI H G1 d wl n ss qs root ball M e i G kvs ms ws) (hd : H d = none) (hw : H wl = none) (hne : d ≠ wl) (s : Same G G5) (es : ss[i]? = some sg)
    (hb : e'.b ∉ keys ms) (hl : e'.b < n) (hwk : Walk ss qs root e'.b e'.h e'.path) (hp : e'.path.length = e.path.length + 1) (hz : Sz (50 * e'.path.length + 2) e'.h) (h0 : 0 < e'.h) (he : EnAt (del [d, wl] G5) v e')
    (c : (sg.i = (ball : Int) → sg.j.toNat ∈ keys ms ++ [e'.b]) ∧ (sg.j = (ball : Int) → sg.i.toNat ∈ keys ms ++ [e'.b])) :
    LpI H G1 d wl n ss qs root ball M e (i + 1) (upd (upd G5 d (.dK (kvs ++ [(kI e'.b, v)]))) wl (.lst (wV ws ++ [.int (e'.b : Int)]))) (kvs ++ [(kI e'.b, v)]) (ms ++ [e']) (ws ++ [e'.b]) := by
  have ed : del [d, wl] (upd (upd G5 d (.dK (kvs ++ [(kI e'.b, v)]))) wl (.lst (wV ws ++ [.int (e'.b : Int)]))) = del [d, wl] G5 := by rw [del2_w, del2_d]
  have rc' := h.rc.add h.en hb hl hwk hp hz h0
  refine ⟨fun b o z => ?_, by rw [upd_ne hne]; exact upd_same, by rw [upd_same, wV_app], by rw [ed]; exact PtAt.snoc he (h.pt.same (same_del s)), rc', by rw [ed]; exact h.kp.trans (same_del s), fun w m => ?_, fun b m nb nb' => ?_, fun x m => ?_, ?_, List.mem_append_left _ h.en⟩
  · rw [upd_ne (ne_of_none z hw), upd_ne (ne_of_none z hd)]
    exact s _ _ (h.sH _ _ z)
  · rw [keys_app]
    rcases List.mem_append.mp m with z | z
    · exact List.mem_append_left _ (h.ww w z)
    · exact List.mem_append_right _ z
  · rw [keys_app] at m ⊢
    rcases List.mem_append.mp m with z | z
    · exact (h.cl b z (fun y => nb (List.mem_append_left _ y)) nb').mono fun x y => List.mem_append_left _ y
    · exact absurd (List.mem_append_right _ z) nb
  · rw [keys_app]
    rw [tk_snoc es] at m
    rcases List.mem_append.mp m with z | z
    · exact ⟨fun y => List.mem_append_left _ ((h.dn x z).1 y), fun y => List.mem_append_left _ ((h.dn x z).2 y)⟩
    · have : x = sg := by simpa using z
      rw [this]; exact c
  · have := h.me
    have := rc'.card
    rw [List.length_append, List.length_singleton] at *
    rw [List.length_append, List.length_singleton]
    omega
end
end KK
end
section
set_option maxHeartbeats 8000000
set_option Elab.async false
set_option linter.all false
set_option maxRecDepth 100000
namespace KK
open PySem L2 KM
section
variable {P : Program} {w : World} {K : PySem.W.Frag} {mg : Str → Option Value} {base : Heap} {aN : Addr}
def spPa : Sp := fun vs H Q _ => ∃ (kk : Bool) (root n : Nat) (as al : Addr) (xs ys : List V) (ss : List Sg) (qs : List Rat), vs = [.int (root : Int), .ref as, .ref al] ∧ HSq kk H as xs ∧ SgL H xs ss ∧ H al = some (.lst ys) ∧ QsL H ys qs ∧ ss.length = qs.length ∧ QsZ qs ∧ (∀ s ∈ ss, InW n s) ∧ root < n ∧ n ≤ 8 ∧ xs.length ≤ 500 ∧
  ∀ d kvs ms H', Same H H' → H d = none → H' d = some (.dK kvs) → PtAt (del [d] H') kvs ms → Prt n ss qs root ms → PaF ss qs root ms → Q (.ref d) H'
theorem sc_pa : FnScope ["root", "sightings", "shares", "reached", "waiting", "ball", "heavy", "path", "number", "sighting", "i", "j"] ["root", "sightings", "shares"] (defScope s_part_of) := ⟨rfl, rfl, rfl, by decide +kernel, rfl, by decide +kernel, by decide +kernel⟩
def muPa (n : Nat) (d wl : Addr) : St → Hp → Nat := fun _ H => match H d, H wl with | some (.dK kvs), some (.lst ws) => 2 * (n - kvs.length) + ws.length | _, _ => 0
theorem part6 {a b c d e f : V} : ¬ (HT.sIx [a, b, c, d, e, f].length 0 none = 0 ∧ HT.sIx [a, b, c, d, e, f].length [a, b, c, d, e, f].length (some 2) = [a, b, c, d, e, f].length) := by
  show ¬ (HT.sIx 6 0 none = 0 ∧ HT.sIx 6 6 (some 2) = 6)
  decide
theorem cut6 {a b c d e f : V} : cutV [a, b, c, d, e, f] none (some 2) = [a, b] := rfl
theorem ok_pa (D : Df K mg "part_of" s_part_of ["root", "sightings", "shares"] []) (T : TxB K mg) (TG : TxG K mg) (cR1 : Cal P w K mg base "ratio" 2 ["top", "bottom"] [.int 1] spLow) (cT : Cal P w K mg base "times" 3 ["one", "other"] [] (spBin Sz2 (· * ·))) (cO : Cal P w K mg base "over" 3 ["one", "other"] [] (spBin (fun x y => Sz2 x y ∧ y ≠ 0) (· / ·))) : Cal P w K mg base "part_of" 4 ["root", "sightings", "shares"] [] spPa := by
  refine D.calB (k := 3) sc_pa (fun vs H Q E h => by obtain ⟨_, _, _, _, _, _, _, _, _, rfl, _⟩ := h; rfl) (fun f cdv A outer s H vs Q E hr h => ?_)
  obtain ⟨kk, root, n, as, al, xs, ys, ss, qs, rfl, has, hss, hal, hqs, hlq, hqz, hin, hrn, n8, hxl, k⟩ := h
  have hr2 : Room 2 _ := hr.mono (by decide)
  have hu := hr.units
  have hu1 : (A.deeper (PyProof.Rows.envOfC "part_of" (defScope s_part_of) s.heap.objs.size f cdv)).units + 1 < cLine := by omega
  refine ⟨_, (bx_scons (Bx.mk (ps_set (i := 3) sc_pa.nd rfl (Or.inl rfl) (pe_disp (pps_cons (pv 0) (pe_tup (pa_cons (pe_c cR1 hr2 (pa_cons pe_int pa_nil)) (pa_cons (pe_lst pa_nil) pa_nil))) pps_nil) rfl rfl (fun z => nomatch z) (by show 1 ≤ 15; decide))))
    (bx_scons (Bx.mk (ps_set (i := 4) sc_pa.nd rfl (Or.inl rfl) (pe_lst (pa_cons (pv 0) pa_nil))))
    (bx_scons (Bx.mk (ps_while PassesOwn.never (pt_cmpR op_gt (pe_callB call_len_seq (by rfl) T.nLen PySem.boot_len (pa_cons (pv 4) pa_nil)) pe_int (nomark _)) (pss_cons (ps_set (i := 5) sc_pa.nd rfl (Or.inl rfl) (pe_bm0 PySem.F.plainAttrs_list PySem.F.slot_list_pop PySem.F.type_list_pop mt_pop (pv 4)))
    (pss_cons (ps_asg (pe_dget hu1 (pv 3) (pv 5) (fun _ _ => rfl)) (pg_tup rfl (pgs_cons (pg_name (i := 6) sc_pa.nd rfl (Or.inl rfl)) (pgs_cons (pg_name (i := 7) sc_pa.nd rfl (Or.inl rfl)) pgs_nil))))
    (pss_one (ps_for PassesOwn.never rfl (pi_enumK rfl TG.nEn (pa_cons (pv 1) pa_nil)) (pg_tup rfl (pgs_cons (pg_name (i := 8) sc_pa.nd rfl (Or.inl rfl)) (pgs_cons (pg_name (i := 9) sc_pa.nd rfl (Or.inl rfl)) pgs_nil))) (pss_cons (ps_asg (pe_slice sl_tup (pv 9) po_none (po_some pe_int)) (pg_tup rfl (pgs_cons (pg_name (i := 10) sc_pa.nd rfl (Or.inl rfl)) (pgs_cons (pg_name (i := 11) sc_pa.nd rfl (Or.inl rfl)) pgs_nil))))
    (pss_one (ps_if (pw_and (pt_cmpR op_eq (pv 10) (pv 5) (nomark _)) (pw_and1 (pt_cmp (pc_dnotin hu1 (pv 11) (pv 3)) rfl))).pt (pss_cons (ps_dput hu1 (pv 3) (pv 11) (pe_tup (pa_cons (pe_c cT hr (pa_cons (pv 6) (pa_cons (pe_ix ix_list (pv 2) (pv 8) (fun _ _ => rfl)) pa_nil))) (pa_cons (pe_op op_cat (pv 7) (pe_lst (pa_cons (pe_tup (pa_cons (pv 8) (pa_cons pe_int pa_nil))) pa_nil))) pa_nil))) rfl) (pss_one (ps_expr (pe_bm PySem.F.plainAttrs_list PySem.F.slot_list_append PySem.F.type_list_append mt_append (pv 4) (pa_cons (pv 11) pa_nil))))) (pss_one (ps_if (pw_and (pt_cmpR op_eq (pv 11) (pv 5) (nomark _)) (pw_and1 (pt_cmp (pc_dnotin hu1 (pv 10) (pv 3)) rfl))).pt (pss_cons (ps_dput hu1 (pv 3) (pv 10) (pe_tup (pa_cons (pe_c cO hr (pa_cons (pv 6) (pa_cons (pe_ix ix_list (pv 2) (pv 8) (fun _ _ => rfl)) pa_nil))) (pa_cons (pe_op op_cat (pv 7) (pe_lst (pa_cons (pe_tup (pa_cons (pv 8) (pa_cons pe_int pa_nil))) pa_nil))) pa_nil))) rfl) (pss_one (ps_expr (pe_bm PySem.F.plainAttrs_list PySem.F.slot_list_append PySem.F.type_list_append mt_append (pv 4) (pa_cons (pv 10) pa_nil))))) pss_nil)))))))))))
    (Bx.mk (pss_one (ps_ret (pv 3))))))), ?_⟩
  intro d hd
  have g0 : upd H d (.dK []) d = some (.dK []) := upd_same
  have s0 : Same H (upd H d (.dK [])) := Same.upd hd
  generalize upd H d (.dK []) = G0 at g0 s0
  refine ⟨_, rfl, _, _, rfl, by decide, bdn (by decide) (by decide) |>.mono (m := 1) (by decide), fun r1 H1 s1 h1 => ?_⟩
  refine ⟨by show 0 ≤ sizeLine; decide, fun l1 hl1 => ?_⟩
  have s2 := Same.upd (o := .lst []) hl1
  have g2 : upd H1 l1 (.lst []) l1 = some (.lst []) := upd_same
  generalize upd H1 l1 (.lst []) = H2 at s2 g2
  refine ⟨by show 2 ≤ sizeLine; decide, fun t1 ht1 => ?_⟩
  have s3 := Same.upd (o := .tup [.ref r1, .ref l1]) ht1
  have g3 : upd H2 t1 (.tup [.ref r1, .ref l1]) t1 = some (.tup [.ref r1, .ref l1]) := upd_same
  generalize upd H2 t1 (.tup [.ref r1, .ref l1]) = H3 at s3 g3
  have gd3 : H3 d = some (.dK []) := s3 _ _ (s2 _ _ (s1 _ _ g0))
  have S3 : Same H H3 := s0.trans (s1.trans (s2.trans s3))
  refine ⟨gd3, [(kI root, .ref t1)], rfl, by show 1 ≤ 15; decide, ?_⟩
  have em : mergeK [] [(kI root, V.ref t1)] = [(kI root, V.ref t1)] := rfl
  rw [em]
  have nd3 : ∀ {b : Addr} {o : HO}, H3 b = some o → o ≠ .dK [] → b ∉ [d] := fun {b o} e n z => by
    have : b = d := by simpa using z
    rw [this, gd3] at e; cases e; exact n rfl
  have hen : EnAt (del [d] H3) (.ref t1) ⟨root, 1, []⟩ := ⟨t1, r1, l1, [], rfl, del_of g3 (nd3 g3 (fun z => nomatch z)), del_of (s3 _ _ (s2 _ _ h1)) (nd3 (s3 _ _ (s2 _ _ h1)) (fun z => nomatch z)), del_of (s3 _ _ g2) (nd3 (s3 _ _ g2) (fun z => nomatch z)), .nil⟩
  have S4 : Same H (upd H3 d (.dK [(kI root, .ref t1)])) := fun b o e => by rw [upd_ne (ne_of_none e hd)]; exact S3 _ _ e
  have g4 : upd H3 d (.dK [(kI root, .ref t1)]) d = some (.dK [(kI root, .ref t1)]) := upd_same
  have hen4 : EnAt (del [d] (upd H3 d (.dK [(kI root, .ref t1)]))) (.ref t1) ⟨root, 1, []⟩ := by rw [del_upd]; exact hen
  generalize upd H3 d (.dK [(kI root, .ref t1)]) = H4 at S4 g4 hen4
  clear hen nd3 S3 gd3 g3 s3 g2 s2 h1 s1 g0 s0 ht1 hl1 em
  dsimp only [gName]
  refine ⟨_, rfl, by show 1 ≤ sizeLine; decide, fun wl hwl => ?_⟩
  have hne : d ≠ wl := fun z => by rw [← z, g4] at hwl; cases hwl
  have hwH : H wl = none := S4.free hwl
  have hen5 := hen4.same (same_del2 (o := .lst (wV [root])) hwl)
  have S5 := S4.trans (Same.upd (o := .lst (wV [root])) hwl)
  have g5d : upd H4 wl (.lst (wV [root])) d = some (.dK [(kI root, .ref t1)]) := by rw [upd_ne hne]; exact g4
  have g5w : upd H4 wl (.lst (wV [root])) wl = some (.lst (wV [root])) := upd_same
  show tSeq _ _ _ _ (upd H4 wl (.lst (wV [root])))
  generalize upd H4 wl (.lst (wV [root])) = H5 at hen5 S5 g5d g5w
  clear g4 hen4 S4 hwl
  refine st_while ?_
  refine while_by (fun σ G => ∃ kvs ms ws z, z.length = 7 ∧ σ = some (.int (root : Int)) :: some (.ref as) :: some (.ref al) :: some (.ref d) :: some (.ref wl) :: z ∧ Same H G ∧ G d = some (.dK kvs) ∧ G wl = some (.lst (wV ws)) ∧ PtAt (del [d, wl] G) kvs ms ∧ Rch n ss qs root ms ∧ (∀ x ∈ ws, x ∈ keys ms) ∧ (∀ b ∈ keys ms, b ∉ ws → closedAt ss (keys ms) b) ∧ 2 * (n - ms.length) + ws.length ≤ 2 * n ∧ ∃ t, runF ss qs t ([⟨root, 1, []⟩], [root]) = (ms, ws)) (muPa n d wl)
    ⟨_, _, [root], [none, none, none, none, none, none, none], rfl, rfl, S5, g5d, g5w, .cons hen5 .nil, .start hrn, fun x m => by unfold keys; simpa using m, fun b m nb => absurd (by unfold keys at m; simpa using m) nb, by show 2 * (n - 1) + 1 ≤ 2 * n; omega, 0, rfl⟩ ?_ ?_
  rotate_left
  · rintro σ G Q1 Q2 hq ⟨v, e, p, ys, e1, h1, i, j, e2, e3, k1, e4, q⟩
    exact ⟨v, e, p, ys, e1, h1, i, j, e2, e3, k1, e4, hq _ _ q⟩
  clear S5 g5d g5w hen5
  rintro σ G ⟨kvs, ms, ws, z, hz, rfl, SG, gd, gw, hpt, hR, hww, hcl, hml, hrt⟩
  match z, hz with
  | [z5, z6, z7, z8, z9, z10, z11], _ =>
  refine ⟨_, rfl, wl, _, rfl, .inl (.of gw), _, _, rfl, rfl, _, rfl, ite2 (fun h => ?_) (fun h => ?_)⟩
  rotate_left
  · have h' : ¬ (0 : Int) < ((wV ws).length : Int) := fun z => h (decide_eq_true z)
    have e0 : ws = [] := by
      cases ws with
      | nil => rfl
      | cons x l => exfalso; apply h'; unfold wV; simp
    subst e0
    exact ⟨_, rfl, k d kvs ms G SG hd gd (hpt.same del2_1) ⟨hR, fun b m => hcl b m (by simp)⟩ hrt⟩
  have h' : (0 : Int) < ((wV ws).length : Int) := of_decide_eq_true h
  rcases List.eq_nil_or_concat ws with e0 | ⟨ws', ball, e0⟩
  · subst e0; exact absurd h' (by decide)
  have e0 : ws = ws' ++ [ball] := by rw [e0]; simp
  subst e0
  clear h h'
  have hmu : muPa n d wl [some (.int (root : Int)), some (.ref as), some (.ref al), some (.ref d), some (.ref wl), z5, z6, z7, z8, z9, z10, z11] G = 2 * (n - ms.length) + (ws'.length + 1) := by
    unfold muPa
    rw [gd, gw]
    show 2 * (n - kvs.length) + (wV (ws' ++ [ball])).length = _
    rw [hpt.len]; unfold wV; simp
  rw [hmu]
  refine ⟨_, rfl, .inl ⟨rfl, _, SqL.of gw⟩, wl, _, .int (ball : Int), rfl, rfl, gw, by rw [wV_app]; simp, ?_⟩
  rw [wV_app, List.dropLast_concat]
  have gd1 : upd G wl (.lst (wV ws')) d = some (.dK kvs) := by rw [upd_ne hne]; exact gd
  have gw1 : upd G wl (.lst (wV ws')) wl = some (.lst (wV ws')) := upd_same
  have SG1 : Same H (upd G wl (.lst (wV ws'))) := fun b o e => by rw [upd_ne (ne_of_none e hwH)]; exact SG _ _ e
  have hpt1 : PtAt (del [d, wl] (upd G wl (.lst (wV ws')))) kvs ms := by rw [del2_w]; exact hpt
  generalize upd G wl (.lst (wV ws')) = G1 at gd1 gw1 SG1 hpt1
  clear hpt gw gd SG hmu
  dsimp only [gName]
  obtain ⟨e, me, eb⟩ := hR.ent (hww ball (by simp))
  subst eb
  obtain ⟨v, ev, t, r, l, us, rfl, ht, hrr, hl, hus⟩ := hpt1.val hR.nd me
  have hget : DGet G1 d (.int (e.b : Int)) (some (.ref t)) := by
    have := DGet.k (k := kI e.b) gd1
    rw [ev] at this; exact this
  refine ⟨_, rfl, _, rfl, d, _, rfl, hget, t, _, rfl, .of (del_some ht).1, rfl, _, _, rfl, _, _, rfl, rfl, ?_⟩
  have ew := hR.len e me
  have en8 := hR.card
  have ez := hR.sz e me
  have epos := hR.pos e me
  have ewk := hR.walk e me
  refine ⟨_, rfl, kk, as, xs, rfl, has.same SG1, ?_⟩
  have hfe := findE_of hR.nd me
  obtain ⟨MS, hMS⟩ : ∃ x, x = ms := ⟨_, rfl⟩
  obtain ⟨WS, hWS⟩ : ∃ x, x = ws' := ⟨_, rfl⟩
  obtain ⟨M, hM⟩ : ∃ M, M = 2 * (n - ms.length) + ws'.length := ⟨_, rfl⟩
  refine for_enum (k := kk) (K := K) (a := as) (xs := xs) (fun i σ G => ∃ kvs ms ws z, z.length = 4 ∧ σ = some (.int (root : Int)) :: some (.ref as) :: some (.ref al) :: some (.ref d) :: some (.ref wl) :: some (.int (e.b : Int)) :: some (.ref r) :: some (.ref l) :: z ∧ LpI H G1 d wl n ss qs root e.b M e i G kvs ms ws ∧ lpF ss qs e i (MS, WS) = (ms, ws)) ?_ (fun i σ G ⟨_, _, _, _, _, _, q, _⟩ => (has.same q.sH).sq) ?_ ?_
  · exact ⟨kvs, ms, ws', [z8, z9, z10, z11], rfl, rfl, ⟨SG1, gd1, gw1, hpt1, hR, Same.refl _, fun x m => hww x (List.mem_append_left _ m), fun b m nb nb' => hcl b m (fun y => by
      rcases List.mem_append.mp y with y | y
      · exact nb y
      · exact nb' (by simpa using y)), fun x m => by simp at m, Nat.le_of_eq hM.symm, me⟩, by rw [hMS, hWS]; rfl⟩
  · rintro i x σ G T ex ⟨kvs', ms', ws'', z, hz, rfl, L, hF⟩ hT
    match z, hz with
    | [y8, y9, y10, y11], _ =>
    obtain ⟨sg, es, hx, zg⟩ := hss.at ex
    obtain ⟨ni, nj, ei, ej, li, lj⟩ := hin sg (List.mem_of_getElem? es)
    obtain ⟨a, p1, p2, p3, p4, rfl, ha, _⟩ := hx
    have s2 := Same.upd (o := .tup [.int (i : Int), .ref a]) hT
    refine ⟨T, _, rfl, .of upd_same, rfl, _, _, rfl, _, _, rfl, rfl, ?_⟩
    generalize upd G T (.tup [.int (i : Int), .ref a]) = G2 at s2
    refine ⟨_, rfl, 2, rfl, a, _, rfl, .of (s2 _ _ (L.sH _ _ ha)), part6, fun p hp => ?_⟩
    rw [cut6]
    have s3 := Same.upd (o := .tup [.int sg.i, .int sg.j]) hp
    have g3 : upd G2 p (.tup [.int sg.i, .int sg.j]) p = some (.tup [.int sg.i, .int sg.j]) := upd_same
    generalize upd G2 p (.tup [.int sg.i, .int sg.j]) = G3 at s3 g3
    refine ⟨p, _, rfl, .of g3, rfl, _, _, rfl, _, _, rfl, rfl, ?_⟩
    have S3 := s2.trans s3
    have gd3 := S3 _ _ L.gd
    have gw3 := S3 _ _ L.gw
    have hnd := L.rc.nd
    have gj : DGet G3 d (.int sg.j) (valV kvs' (kI nj)) := by rw [ej]; exact DGet.k (k := kI nj) gd3
    have gi : DGet G3 d (.int sg.i) (valV kvs' (kI ni)) := by rw [ei]; exact DGet.k (k := kI ni) gd3
    have hi8 : ss.length ≤ 500 := by rw [← hss.1]; exact hxl
    have hil := (List.getElem?_eq_some_iff.mp es).1
    obtain ⟨q, eq⟩ : ∃ q, qs[i]? = some q := ⟨_, List.getElem?_eq_getElem (by omega)⟩
    obtain ⟨hq0, hqz'⟩ := hqz q (List.mem_of_getElem? eq)
    obtain ⟨aq, eaq, haq⟩ := hqs.2 i q eq
    have haq3 : RatAt G3 aq q := S3 _ _ (L.sH _ _ haq)
    have hal3 := S3 _ _ (L.sH _ _ hal)
    have e3 : ∀ {b : Addr} {o : HO}, del [d, wl] G1 b = some o → G3 b = some o := fun h => S3 _ _ (del_some (L.kp _ _ h)).1
    have hr3 : RatAt G3 r e.h := e3 hrr
    have hl3 := e3 hl
    have hus3 : PrL (del [d, wl] G3) us e.path := (hus.same L.kp).same (same_del S3)
    have lus : us.length ≤ 8 := by rw [hus.1]; omega
    have kv8 : kvs'.length ≤ 8 := by have := L.pt.len; have := L.rc.card; omega
    have vi := L.pt.isSome hnd ni
    have vj := L.pt.isSome hnd nj
    have skp : (sg.i = (e.b : Int) → nj ∈ keys ms') → (sg.j = (e.b : Int) → ni ∈ keys ms') → ∀ z : List (Option V), z.length = 4 → ∃ kvs ms_1 ws z', z'.length = 4 ∧ (some (V.int (root : Int)) :: some (.ref as) :: some (.ref al) :: some (.ref d) :: some (.ref wl) :: some (.int (e.b : Int)) :: some (.ref r) :: some (.ref l) :: z : St) = some (.int (root : Int)) :: some (.ref as) :: some (.ref al) :: some (.ref d) :: some (.ref wl) :: some (.int (e.b : Int)) :: some (.ref r) :: some (.ref l) :: z' ∧ LpI H G1 d wl n ss qs root e.b M e (i + 1) G3 kvs ms_1 ws ∧ lpF ss qs e (i + 1) (MS, WS) = (ms_1, ws) := fun h1 h2 z hz =>
      ⟨kvs', ms', ws'', z, hz, rfl, L.skip S3 es ⟨fun y => by rw [ej, Int.toNat_natCast]; exact h1 y, fun y => by rw [ei, Int.toNat_natCast]; exact h2 y⟩, lpF_skip es hF (fun y => by rw [ej, Int.toNat_natCast]; exact h1 y) (fun y => by rw [ei, Int.toNat_natCast]; exact h2 y)⟩
    refine ⟨_, rfl, _, rfl, rfl, _, rfl, ?_⟩
    rw [vint_dec]
    by_cases c1 : sg.i = (e.b : Int)
    · rw [decide_eq_true c1]
      refine iteT ?_
      have hbi : ni = e.b := by omega
      have hbk : ni ∈ keys ms' := by rw [hbi]; exact List.mem_map.mpr ⟨e, L.en, rfl⟩
      refine ⟨_, rfl, _, rfl, d, _, rfl, gj, _, rfl, ?_⟩
      rw [vj]
      by_cases c2 : nj ∈ keys ms'
      · rw [decide_eq_true c2]
        refine iteF ?_
        refine ⟨_, rfl, _, rfl, rfl, _, rfl, ?_⟩
        rw [vint_dec]
        by_cases c3 : sg.j = (e.b : Int)
        · rw [decide_eq_true c3]
          refine iteT ?_
          refine ⟨_, rfl, _, rfl, d, _, rfl, gi, _, rfl, ?_⟩
          rw [vi, decide_eq_true hbk]
          exact iteF (skp (fun _ => c2) (fun _ => hbk) [some (.int (i : Int)), some (.ref a), some (.int sg.i), some (.int sg.j)] rfl)
        · rw [decide_eq_false c3]
          exact iteF (iteF (skp (fun _ => c2) (fun y => absurd y c3) [some (.int (i : Int)), some (.ref a), some (.int sg.i), some (.int sg.j)] rfl))
      · rw [decide_eq_false c2]
        refine iteT ?_
        refine ⟨_, rfl, _, rfl, _, rfl, al, ys, (i : Int), _, rfl, rfl, .of hal3, atI_nat eaq, r, aq, e.h, q, rfl, hr3, haq3, ⟨ez.mono (by omega), hqz'.mono (by decide)⟩, fun r2 G4 s4 h4 => ?_⟩
        refine ⟨_, rfl, _, rfl, by show 2 ≤ sizeLine; decide, fun t2 ht2 => ?_⟩
        have s5 := Same.upd (o := .tup [.int (i : Int), .int 0]) ht2
        have g5 : upd G4 t2 (.tup [.int (i : Int), .int 0]) t2 = some (.tup [.int (i : Int), .int 0]) := upd_same
        generalize upd G4 t2 (.tup [.int (i : Int), .int 0]) = G5 at s5 g5
        refine ⟨by show 1 ≤ sizeLine; decide, fun l2 hl2 => ?_⟩
        have s6 := Same.upd (o := .lst [.ref t2]) hl2
        refine ⟨l, l2, us, [.ref t2], rfl, rfl, s6 _ _ (s5 _ _ (s4 _ _ hl3)), upd_same, szl (by simp; omega), fun l3 hl3' => ?_⟩
        have s7 := Same.upd (o := .lst (us ++ [.ref t2])) hl3'
        have g7 : upd (upd G5 l2 (.lst [.ref t2])) l3 (.lst (us ++ [.ref t2])) l3 = some (.lst (us ++ [.ref t2])) := upd_same
        have S57 := s6.trans s7
        generalize upd (upd G5 l2 (.lst [.ref t2])) l3 (.lst (us ++ [.ref t2])) = G7 at s7 g7 S57
        refine ⟨by show 2 ≤ sizeLine; decide, fun t3 ht3 => ?_⟩
        have s8 := Same.upd (o := .tup [.ref r2, .ref l3]) ht3
        have g8 : upd G7 t3 (.tup [.ref r2, .ref l3]) t3 = some (.tup [.ref r2, .ref l3]) := upd_same
        generalize upd G7 t3 (.tup [.ref r2, .ref l3]) = G8 at s8 g8
        have S48 : Same G4 G8 := s5.trans (S57.trans s8)
        have S38 : Same G3 G8 := s4.trans S48
        have gd8 := S38 _ _ gd3
        have gw8 := S38 _ _ gw3
        have hl3H : G3 l3 = none := (s4.trans (s5.trans s6)).free hl3'
        refine ⟨_, rfl, _, rfl, d, upd G8 d (.dK (putK kvs' (kI nj) (.ref t3))), rfl, by rw [ej]; exact DPut.k (k := kI nj) gd8 (small1000 (by omega)), ?_⟩
        rw [putK_new (L.pt.none c2)]
        have gw9 : upd G8 d (.dK (kvs' ++ [(kI nj, .ref t3)])) wl = some (.lst (wV ws'')) := by rw [upd_ne hne.symm]; exact gw8
        refine ⟨_, rfl, .inl ⟨rfl, _, SqL.of gw9⟩, _, rfl, wl, _, _, rfl, rfl, gw9, small1000 (by unfold wV; rw [List.length_map]; have := L.me; rw [List.length_append, List.length_singleton] at hml; omega), ?_⟩
        have n1 : ∀ {b : Addr} {o : HO}, G8 b = some o → (∀ kv, o ≠ .dK kv) → (∀ u, o = .lst u → G3 b = none) → b ∉ [d, wl] := fun {b o} hb n m z => by
          simp only [List.mem_cons, List.not_mem_nil, or_false] at z
          rcases z with rfl | rfl
          · rw [gd8] at hb; cases hb; exact n _ rfl
          · rw [gw8] at hb; cases hb
            have := m _ rfl
            rw [gw3] at this; cases this
        have t8 : ∀ {b : Addr} {xs : List V}, G8 b = some (.tup xs) → del [d, wl] G8 b = some (.tup xs) := fun hb => del_of hb (n1 hb (fun _ z => nomatch z) (fun _ z => nomatch z))
        rw [ej]
        refine ⟨_, _, _, _, rfl, rfl, L.add (e' := ⟨nj, e.h * q, e.path ++ [((i : Int), 0)]⟩) hd hwH hne (S3.trans S38) es c2 lj (.fwd ewk es eq c1 ej) (by simp) ?_ (Rat.mul_pos epos hq0) ⟨t3, r2, l3, us ++ [.ref t2], rfl, t8 g8, t8 (S48 _ _ h4), del_of (s8 _ _ g7) (n1 (s8 _ _ g7) (fun _ z => nomatch z) (fun _ _ => hl3H)), ?_⟩ ⟨fun _ => by rw [ej]; simp, fun y => by rw [ei, Int.toNat_natCast]; exact List.mem_append_left _ hbk⟩, by have := lpF_fwd es eq hF c1 (by rw [ej, Int.toNat_natCast]; exact c2); rw [ej, Int.toNat_natCast] at this; exact this⟩
        · have : (e.path ++ [((i : Int), (0 : Int))]).length = e.path.length + 1 := by simp
          show Sz (50 * (e.path ++ [((i : Int), (0 : Int))]).length + 2) (e.h * q)
          rw [this]
          exact (ez.mul hqz').mono (by omega)
        · exact ((hus3.same (same_del S38))).snoc (t8 (S57.trans s8 _ _ g5))
    · rw [decide_eq_false c1]
      refine iteF (iteF ?_)
      refine ⟨_, rfl, _, rfl, rfl, _, rfl, ?_⟩
      rw [vint_dec]
      by_cases c3 : sg.j = (e.b : Int)
      rotate_left
      · rw [decide_eq_false c3]
        exact iteF (iteF (skp (fun y => absurd y c1) (fun y => absurd y c3) [some (.int (i : Int)), some (.ref a), some (.int sg.i), some (.int sg.j)] rfl))
      rw [decide_eq_true c3]
      refine iteT ?_
      refine ⟨_, rfl, _, rfl, d, _, rfl, gi, _, rfl, ?_⟩
      rw [vi]
      by_cases c2 : ni ∈ keys ms'
      · rw [decide_eq_true c2]
        exact iteF (skp (fun y => absurd y c1) (fun _ => c2) [some (.int (i : Int)), some (.ref a), some (.int sg.i), some (.int sg.j)] rfl)
      · rw [decide_eq_false c2]
        refine iteT ?_
        have hqn : q ≠ 0 := by intro z; rw [z] at hq0; exact absurd hq0 (by decide)
        have hdp : 0 < e.h / q := by rw [Rat.div_def]; exact Rat.mul_pos epos (Rat.inv_pos.mpr hq0)
        refine ⟨_, rfl, _, rfl, _, rfl, al, ys, (i : Int), _, rfl, rfl, .of hal3, atI_nat eaq, r, aq, e.h, q, rfl, hr3, haq3, ⟨⟨ez.mono (by omega), hqz'.mono (by decide)⟩, hqn⟩, fun r2 G4 s4 h4 => ?_⟩
        refine ⟨_, rfl, _, rfl, by show 2 ≤ sizeLine; decide, fun t2 ht2 => ?_⟩
        have s5 := Same.upd (o := .tup [.int (i : Int), .int 1]) ht2
        have g5 : upd G4 t2 (.tup [.int (i : Int), .int 1]) t2 = some (.tup [.int (i : Int), .int 1]) := upd_same
        generalize upd G4 t2 (.tup [.int (i : Int), .int 1]) = G5 at s5 g5
        refine ⟨by show 1 ≤ sizeLine; decide, fun l2 hl2 => ?_⟩
        have s6 := Same.upd (o := .lst [.ref t2]) hl2
        refine ⟨l, l2, us, [.ref t2], rfl, rfl, s6 _ _ (s5 _ _ (s4 _ _ hl3)), upd_same, szl (by simp; omega), fun l3 hl3' => ?_⟩
        have s7 := Same.upd (o := .lst (us ++ [.ref t2])) hl3'
        have g7 : upd (upd G5 l2 (.lst [.ref t2])) l3 (.lst (us ++ [.ref t2])) l3 = some (.lst (us ++ [.ref t2])) := upd_same
        have S57 := s6.trans s7
        generalize upd (upd G5 l2 (.lst [.ref t2])) l3 (.lst (us ++ [.ref t2])) = G7 at s7 g7 S57
        refine ⟨by show 2 ≤ sizeLine; decide, fun t3 ht3 => ?_⟩
        have s8 := Same.upd (o := .tup [.ref r2, .ref l3]) ht3
        have g8 : upd G7 t3 (.tup [.ref r2, .ref l3]) t3 = some (.tup [.ref r2, .ref l3]) := upd_same
        generalize upd G7 t3 (.tup [.ref r2, .ref l3]) = G8 at s8 g8
        have S48 : Same G4 G8 := s5.trans (S57.trans s8)
        have S38 : Same G3 G8 := s4.trans S48
        have gd8 := S38 _ _ gd3
        have gw8 := S38 _ _ gw3
        have hl3H : G3 l3 = none := (s4.trans (s5.trans s6)).free hl3'
        refine ⟨_, rfl, _, rfl, d, upd G8 d (.dK (putK kvs' (kI ni) (.ref t3))), rfl, by rw [ei]; exact DPut.k (k := kI ni) gd8 (small1000 (by omega)), ?_⟩
        rw [putK_new (L.pt.none c2)]
        have gw9 : upd G8 d (.dK (kvs' ++ [(kI ni, .ref t3)])) wl = some (.lst (wV ws'')) := by rw [upd_ne hne.symm]; exact gw8
        refine ⟨_, rfl, .inl ⟨rfl, _, SqL.of gw9⟩, _, rfl, wl, _, _, rfl, rfl, gw9, small1000 (by unfold wV; rw [List.length_map]; have := L.me; rw [List.length_append, List.length_singleton] at hml; omega), ?_⟩
        have n1 : ∀ {b : Addr} {o : HO}, G8 b = some o → (∀ kv, o ≠ .dK kv) → (∀ u, o = .lst u → G3 b = none) → b ∉ [d, wl] := fun {b o} hb n m z => by
          simp only [List.mem_cons, List.not_mem_nil, or_false] at z
          rcases z with rfl | rfl
          · rw [gd8] at hb; cases hb; exact n _ rfl
          · rw [gw8] at hb; cases hb
            have := m _ rfl
            rw [gw3] at this; cases this
        have t8 : ∀ {b : Addr} {xs : List V}, G8 b = some (.tup xs) → del [d, wl] G8 b = some (.tup xs) := fun hb => del_of hb (n1 hb (fun _ z => nomatch z) (fun _ z => nomatch z))
        rw [ei]
        refine ⟨_, _, _, _, rfl, rfl, L.add (e' := ⟨ni, e.h / q, e.path ++ [((i : Int), 1)]⟩) hd hwH hne (S3.trans S38) es c2 li (.bwd ewk es eq c3 ei) (by simp) ?_ hdp ⟨t3, r2, l3, us ++ [.ref t2], rfl, t8 g8, t8 (S48 _ _ h4), del_of (s8 _ _ g7) (n1 (s8 _ _ g7) (fun _ z => nomatch z) (fun _ _ => hl3H)), ?_⟩ ⟨fun y => absurd y c1, fun _ => by rw [ei]; simp⟩, by have := lpF_bwd es eq hF c1 c3 (by rw [ei, Int.toNat_natCast]; exact c2); rw [ei, Int.toNat_natCast] at this; exact this⟩
        · have : (e.path ++ [((i : Int), (1 : Int))]).length = e.path.length + 1 := by simp
          show Sz (50 * (e.path ++ [((i : Int), (1 : Int))]).length + 2) (e.h / q)
          rw [this]
          exact (ez.div hqz' hqn).mono (by omega)
        · exact ((hus3.same (same_del S38))).snoc (t8 (S57.trans s8 _ _ g5))
  · rintro σ G ⟨kvs', ms', ws'', z, hz, rfl, L, hF⟩
    match z, hz with
    | [y8, y9, y10, y11], _ =>
    refine ⟨⟨kvs', ms', ws'', _, rfl, rfl, L.sH, L.gd, L.gw, L.pt, L.rc, L.ww, fun b m nb => ?_, ?_, ?_⟩, ?_⟩
    · by_cases hb : b = e.b
      · subst hb
        have := L.dn
        rw [List.take_of_length_le (by rw [hss.1]; exact Nat.le_refl _)] at this
        exact this
      · exact L.cl b m nb hb
    · have := L.me
      rw [List.length_append, List.length_singleton] at hml
      omega
    · obtain ⟨t, ht⟩ := hrt
      refine ⟨t + 1, runF_turn ht hfe ?_⟩
      rw [← hMS, ← hWS, ← hss.1]
      exact hF
    · unfold muPa
      rw [L.gd, L.gw]
      show 2 * (n - kvs'.length) + (wV ws'').length < _
      rw [L.pt.len]
      unfold wV
      rw [List.length_map]
      have := L.me
      omega
end
end KK
end
section
set_option maxHeartbeats 8000000
set_option Elab.async false
set_option linter.all false
set_option maxRecDepth 100000
namespace L2
open PySem PySem.Spec PyProof.Rows
section
variable {X : Cx} {e st : Expr} {te : TE} {pos p2 : Pos}
def tRevL (K : PySem.W.Frag) (te ts : TE) : TE := fun σ H Q => te σ H fun x H1 => ts σ H1 fun y H2 => ∃ a xs, x = .ref a ∧ y = .int (-1) ∧ SqL K H2 a xs ∧ ∀ p, H2 p = none → Q (.ref p) (upd H2 p (.lst xs.reverse))
theorem pe_revL {ts : TE} (he : PE X e te) (hs : PE X st ts) : PE X (.Subscript e (.Slice none none (some st) p2) pos) (tRevL X.K te ts) := by
  intro pins s σ H Q I h
  refine Subscript_ (thn (he pins s σ H _ I h) fun v s1 ⟨x, H1, I1, r1, q1⟩ => ?_)
  refine wpAny_Slice ?_
  rw [evalPart_none]
  refine wpAny_pure (wpAny_pure ?_)
  rw [evalPart_some]
  refine thn (hs pins s1 σ H1 _ I1 q1) fun u s3 ⟨y, H3, I3, r3, q3⟩ => ?_
  obtain ⟨a, xs, rfl, rfl, hx, q⟩ := q3
  cases r1
  obtain ⟨t, rfl⟩ := r3
  have I4 : Inv X pins σ H3 { s3 with heap := s3.heap.push { cls := .type "slice", data := .fields #[.none, .none, .int (-1) t] } } := I3.kept (t' := s3.toks) fun b ob q => Heap.get?_push_of_some _ q
  obtain ⟨its, r, ht, hz⟩ := I4.list hx
  have hlen := r.length
  show wpAny (model X.prog X.w) X.A (subscriptTail e (.Slice none none (some st) p2) (.ref a) (.ref s3.heap.objs.size)) (EP X pins σ Q) X.xe { s3 with heap := s3.heap.push { cls := .type "slice", data := .fields #[.none, .none, .int (-1) t] } }
  refine tail_any (ops := [.ref a, .ref s3.heap.objs.size]) ht.isList.typeIs slot_list_getitem.lookup (wpAny_getItem_list_slice ht.isList (Heap.IsSliceOf.new ..) .none .none (.int (-1) t) (by simp) ?_ (by rw [List.size_toArray] <;> omega)) (by with_unfolding_all rfl)
  rw [PySem.W.krv_pick]
  refine ⟨.ref _, _, I4.laid (t' := s3.toks) (o := .lst xs.reverse) (fun b ob q => Heap.get?_push_of_some _ q) (Nat.le_refl _) ?_, rfl, q _ (I4.hok.fresh (Nat.le_refl _))⟩
  exact ⟨by rw [List.length_reverse]; exact hz, _, 0, r.rev, Heap.get?_push_size _ rfl⟩
end
theorem cutV_1 (xs : List V) : cutV xs (some 1) none = xs.drop 1 := cutG_from xs 1
end L2
namespace KK
open PySem L2 KM
def cpre : List (Int × Int) → List (Int × Int) → List (Int × Int) × List (Int × Int)
  | a :: as, b :: bs => if a = b then cpre as bs else (a :: as, b :: bs)
  | as, bs => (as, bs)
theorem cpre_eq (a : Int × Int) (as bs : List (Int × Int)) : cpre (a :: as) (a :: bs) = cpre as bs := by
  rw [cpre]; rw [if_pos rfl]
theorem cpre_ne {a b : Int × Int} (as bs : List (Int × Int)) (h : a ≠ b) : cpre (a :: as) (b :: bs) = (a :: as, b :: bs) := by
  rw [cpre]; rw [if_neg h]
theorem cpre_nil1 (bs : List (Int × Int)) : cpre [] bs = ([], bs) := by
  cases bs <;> rfl
theorem cpre_nil2 (as : List (Int × Int)) : cpre as [] = (as, []) := by
  cases as <;> rfl
def ringR (pa pb : List (Int × Int)) (k : Nat) : List (Int × Int) := ((cpre pa pb).1 ++ [((k : Int), 0)]) ++ (cpre pa pb).2.reverse.map fun r => (r.1, 1 - r.2)
theorem PrL.at {H : Hp} {us : List V} {rs : List (Int × Int)} (h : PrL H us rs) {i : Nat} {x : V} (e : us[i]? = some x) : ∃ r t, rs[i]? = some r ∧ x = .ref t ∧ H t = some (.tup [.int r.1, .int r.2]) := by
  have hi : i < us.length := (List.getElem?_eq_some_iff.mp e).1
  obtain ⟨r, er⟩ : ∃ r, rs[i]? = some r := ⟨_, List.getElem?_eq_getElem (h := by rw [← h.1]; exact hi)⟩
  obtain ⟨t, a, b⟩ := h.2 i r er
  rw [a] at e
  exact ⟨r, t, er, (Option.some.inj e).symm, b⟩
theorem PrL.drop {H : Hp} {us : List V} {rs : List (Int × Int)} (h : PrL H us rs) (n : Nat) : PrL H (us.drop n) (rs.drop n) := ⟨by simp [h.1], fun i q e => by
  rw [List.getElem?_drop] at e ⊢
  exact h.2 _ q e⟩
theorem PrL.rev {H : Hp} {us : List V} {rs : List (Int × Int)} (h : PrL H us rs) : PrL H us.reverse rs.reverse := ⟨by simp [h.1], fun i q e => by
  have hi : i < rs.length := by
    have := (List.getElem?_eq_some_iff.mp e).1
    rw [List.length_reverse] at this; exact this
  rw [List.getElem?_reverse hi] at e
  rw [List.getElem?_reverse (by rw [h.1]; exact hi), h.1]
  exact h.2 _ q e⟩
theorem PrL.append {H : Hp} {us vs : List V} {rs qs : List (Int × Int)} (h : PrL H us rs) (h' : PrL H vs qs) : PrL H (us ++ vs) (rs ++ qs) := by
  refine ⟨by simp [h.1, h'.1], fun i q m => ?_⟩
  by_cases hi : i < rs.length
  · rw [List.getElem?_append_left hi] at m
    obtain ⟨u, a, b⟩ := h.2 i q m
    exact ⟨u, by rw [List.getElem?_append_left (by rw [h.1]; exact hi)]; exact a, b⟩
  · rw [List.getElem?_append_right (by omega)] at m
    obtain ⟨u, a, b⟩ := h'.2 _ q m
    exact ⟨u, by rw [List.getElem?_append_right (by rw [h.1]; omega), h.1]; exact a, b⟩
theorem eqv_pr (a b : Int × Int) : PyData.eqv (.tuple [.int a.1, .int a.2]) (.tuple [.int b.1, .int b.2]) = decide (a = b) := by
  simp only [PyData.eqv, PyData.eqvAll, Bool.and_true]
  rw [Bool.eq_iff_iff]
  simp only [Bool.and_eq_true, beq_iff_eq, decide_eq_true_eq]
  constructor
  · rintro ⟨h1, h2⟩; exact Prod.ext h1 h2
  · rintro rfl; exact ⟨rfl, rfl⟩
theorem atZ {α : Type} {xs : List α} {x : α} (h : xs[0]? = some x) : atI xs 0 = some x := atI_nat h
section
variable {P : Program} {w : World} {K : PySem.W.Frag} {mg : Str → Option Value} {base : Heap} {aN : Addr}
def spRo : Sp := fun vs H Q _ => ∃ (d : Addr) (v : V) (k : Nat) (kvs : List (Key × V)) (ms : List En) (sg : Sg) (ei ej : En), vs = [.ref d, v, .int (k : Int)] ∧ H d = some (.dK kvs) ∧ PtAt (del [d] H) kvs ms ∧ (keys ms).Nodup ∧ SgAt H v sg ∧ ei ∈ ms ∧ ej ∈ ms ∧ sg.i = (ei.b : Int) ∧ sg.j = (ej.b : Int) ∧ ei.path.length ≤ 8 ∧ ej.path.length ≤ 8 ∧
  ∀ l us H', Same H H' → H' l = some (.lst us) → PrL H' us (ringR ei.path ej.path k) → Q (.ref l) H'
theorem sc_ro : FnScope ["part", "sighting", "number", "there", "back"] ["part", "sighting", "number"] (defScope s_ring_of) := ⟨rfl, rfl, rfl, by decide +kernel, rfl, by decide +kernel, by decide +kernel⟩
theorem ok_ro (D : Df K mg "ring_of" s_ring_of ["part", "sighting", "number"] []) (T : TxB K mg) : Cal P w K mg base "ring_of" 1 ["part", "sighting", "number"] [] spRo := by
  refine D.calB (k := 0) sc_ro (fun vs H Q E h => by obtain ⟨_, _, _, _, _, _, _, _, rfl, _⟩ := h; rfl) (fun f cdv A outer s H vs Q E hr h => ?_)
  obtain ⟨d, v, kn, kvs, ms, sg, ei, ej, rfl, hd, hpt, hnd, hv, mi, mj, e_i, e_j, l_i, l_j, k⟩ := h
  have hu := hr.units
  have hu1 : (A.deeper (PyProof.Rows.envOfC "ring_of" (defScope s_ring_of) s.heap.objs.size f cdv)).units + 1 < cLine := by omega
  obtain ⟨a, p1, p2, p3, p4, rfl, ha, _⟩ := hv
  obtain ⟨vi, evi, ti, ri, li, ui, rfl, hti, hri, hli, hui⟩ := hpt.val hnd mi
  obtain ⟨vj, evj, tj, rj, lj, uj, rfl, htj, hrj, hlj, huj⟩ := hpt.val hnd mj
  have gi : DGet H d (.int sg.i) (some (.ref ti)) := by
    have := DGet.k (k := kI ei.b) hd
    rw [evi] at this; rw [e_i]; exact this
  have gj : DGet H d (.int sg.j) (some (.ref tj)) := by
    have := DGet.k (k := kI ej.b) hd
    rw [evj] at this; rw [e_j]; exact this
  refine ⟨_, (bx_scons (Bx.mk (ps_par (i := 3) (j := 4) rfl sc_ro.nd rfl rfl (by decide) rfl rfl (pa_cons (pe_ix ix_tup (pe_dget hu1 (pv 0) (pe_ix ix_tup (pv 1) pe_int (fun _ _ => rfl)) (fun _ _ => rfl)) pe_int (fun _ _ => rfl)) (pa_cons (pe_ix ix_tup (pe_dget hu1 (pv 0) (pe_ix ix_tup (pv 1) pe_int (fun _ _ => rfl)) (fun _ _ => rfl)) pe_int (fun _ _ => rfl)) pa_nil)) (by rfl)))
    (bx_scons (Bx.mk (ps_while PassesOwn.never (pw_and (pt_cmpR op_gt (pe_callB call_len_seq (by rfl) T.nLen PySem.boot_len (pa_cons (pv 3) pa_nil)) pe_int (nomark _)) (pw_and (pt_cmpR op_gt (pe_callB call_len_seq (by rfl) T.nLen PySem.boot_len (pa_cons (pv 4) pa_nil)) pe_int (nomark _)) (pw_and1 (pt_cmpR (op_eqD hu) (pe_ix ix_list (pv 3) pe_int (fun _ _ => rfl)) (pe_ix ix_list (pv 4) pe_int (fun _ _ => rfl)) (nomark _))))).pt (pss_one (ps_par (i := 3) (j := 4) rfl sc_ro.nd rfl rfl (by decide) rfl rfl (pa_cons (pe_slice sl_list (pv 3) (po_some pe_int) po_none) (pa_cons (pe_slice sl_list (pv 4) (po_some pe_int) po_none) pa_nil)) (by rfl)))))
    (Bx.mk (pss_one (ps_ret (pe_op op_cat (pe_op op_cat (pv 3) (pe_lst (pa_cons (pe_tup (pa_cons (pv 2) (pa_cons pe_int pa_nil))) pa_nil))) (pe_comp (NB := ["one", "way"]) rfl (by decide +kernel) (by decide +kernel) rfl (by decide +kernel) (pi_list (pe_revL (pv 4) (pe_un un_neg pe_int))) (by intro _ _ _; refine ⟨?_, ?_, ?_⟩; (exact (pg_tupK (K := K) (n := 2) rfl rfl (pgs_cons (pg_name (i := 0) (show List.Nodup (["one", "way"] : List Str) by decide +kernel) rfl (Or.inl rfl)) (pgs_cons (pg_name (i := 1) (show List.Nodup (["one", "way"] : List Str) by decide +kernel) rfl (Or.inl rfl)) pgs_nil)))); (exact pts_nil); (exact (pe_tup (pa_cons (pv 0) (pa_cons (pe_op op_sub pe_int (pv 1)) pa_nil)))))))))))), ?_⟩
  refine ⟨_, rfl, _, rfl, a, _, 0, .int sg.i, rfl, rfl, .of ha, rfl, d, .ref ti, rfl, gi, ti, _, 1, .ref li, rfl, rfl, .of (del_some hti).1, rfl, ?_⟩
  refine ⟨_, rfl, _, rfl, a, _, 1, .int sg.j, rfl, rfl, .of ha, rfl, d, .ref tj, rfl, gj, tj, _, 1, .ref lj, rfl, rfl, .of (del_some htj).1, rfl, ?_⟩
  refine ⟨_, _, rfl, ?_⟩
  refine st_while ?_
  refine while_by (fun σ G => ∃ ta tb ua ub as bs, σ = [some (.ref d), some (.ref a), some (.int (kn : Int)), some (.ref ta), some (.ref tb)] ∧ Same H G ∧ G ta = some (.lst ua) ∧ PrL G ua as ∧ G tb = some (.lst ub) ∧ PrL G ub bs ∧ cpre as bs = cpre ei.path ej.path ∧ as.length ≤ 8 ∧ bs.length ≤ 8)
    (fun σ G => match σ with | [_, _, _, some (.ref ta), _] => (match G ta with | some (.lst u) => u.length | _ => 0) | _ => 0) ⟨li, lj, ui, uj, _, _, rfl, Same.refl _, (del_some hli).1, hui.same del_sub, (del_some hlj).1, huj.same del_sub, rfl, l_i, l_j⟩ ?_ ?_
  rotate_left
  · rintro σ G Q1 Q2 hq ⟨v, e, p, ys, e1, h1, i, j, e2, e3, k1, e4, q⟩
    refine ⟨v, e, p, ys, e1, h1, i, j, e2, e3, k1, e4, ?_⟩
    cases k1 with
    | false => exact hq _ _ q
    | true =>
      obtain ⟨v', e', p', ys', e1', h1', i', j', e2', e3', k1', e4', q'⟩ := (show ∃ v', _ from q)
      refine iteT ⟨v', e', p', ys', e1', h1', i', j', e2', e3', k1', e4', ?_⟩
      cases k1' with
      | false => exact hq _ _ q'
      | true =>
        obtain ⟨x1, x2, x3, x4, x5, x6, x7, x8, x9, x10, y1, y2, y3, y4, y5, y6, y7, y8, y9, y10, d1, d2, r1, r2, s1, s2, kk, ek, q2⟩ := (show ∃ x1, _ from q')
        exact iteT ⟨x1, x2, x3, x4, x5, x6, x7, x8, x9, x10, y1, y2, y3, y4, y5, y6, y7, y8, y9, y10, d1, d2, r1, r2, s1, s2, kk, ek, hq _ _ q2⟩
  rintro σ G ⟨ta, tb, ua, ub, as, bs, rfl, SG, ga, hpa, gb, hpb, hcp, las, lbs⟩
  have fin : cpre as bs = (as, bs) → ∀ (nx : St → Hp → Prop), tRet (tOp rCat (tOp rCat (tVar 3) (tLst (tCons (tTup (tCons (tVar 2) (tCons (tC (.int 0)) tNil))) tNil))) (tComp 2 (iList K (tRevL K (tVar 4) (tUn (rU fun i => .int (-i)) (tC (.int 1))))) (gTup K 2 (gCons (gName 0) (gCons (gName 1) gNil))) (fun _ H Q => Q true H) (tTup (tCons (tVar 0) (tCons (tOp (rI0 fun i j => .int (i - j)) (tC (.int 1)) (tVar 1)) tNil))))) { nx := nx, rt := Q } [some (.ref d), some (.ref a), some (.int (kn : Int)), some (.ref ta), some (.ref tb)] G := by
    intro hc nx
    rw [hcp] at hc
    refine ⟨_, rfl, _, rfl, by show 2 ≤ sizeLine; decide, fun t1 ht1 => ?_⟩
    have s1 := Same.upd (o := .tup [.int (kn : Int), .int 0]) ht1
    have g1 : upd G t1 (.tup [.int (kn : Int), .int 0]) t1 = some (.tup [.int (kn : Int), .int 0]) := upd_same
    generalize upd G t1 (.tup [.int (kn : Int), .int 0]) = G1 at s1 g1
    refine ⟨by show 1 ≤ sizeLine; decide, fun l1 hl1 => ?_⟩
    have s2 := Same.upd (o := .lst [.ref t1]) hl1
    have ll := hpa.1
    refine ⟨ta, l1, ua, [.ref t1], rfl, rfl, s2 _ _ (s1 _ _ ga), upd_same, szl (by simp; omega), fun l2 hl2 => ?_⟩
    have s3 := Same.upd (o := .lst (ua ++ [.ref t1])) hl2
    have g3 : upd (upd G1 l1 (.lst [.ref t1])) l2 (.lst (ua ++ [.ref t1])) l2 = some (.lst (ua ++ [.ref t1])) := upd_same
    have S13 := s2.trans s3
    generalize upd (upd G1 l1 (.lst [.ref t1])) l2 (.lst (ua ++ [.ref t1])) = G3 at s3 g3 S13
    have S3 := s1.trans S13
    have hp3 : PrL G3 (ua ++ [.ref t1]) (as ++ [((kn : Int), 0)]) := (hpa.same S3).snoc (S13 _ _ g1)
    refine ⟨_, rfl, 1, rfl, tb, ub, rfl, rfl, .of (S3 _ _ gb), fun rb hrb => ?_⟩
    have s4 := Same.upd (o := .lst ub.reverse) hrb
    have g4 : upd G3 rb (.lst ub.reverse) rb = some (.lst ub.reverse) := upd_same
    generalize upd G3 rb (.lst ub.reverse) = G4 at s4 g4
    have hpb4 : PrL G4 ub.reverse bs.reverse := ((hpb.same S3).same s4).rev
    have lb := hpb.1
    refine ⟨rb, rfl, ⟨_, SqL.of g4⟩, fun Dc hDc => ?_⟩
    refine comp_each (J := Itl K rb) (n := 2) (xs := ub.reverse) (fun i x G => ∃ r t, bs.reverse[i]? = some r ∧ x = .ref t ∧ G t = some (.tup [.int r.1, .int (1 - r.2)])) (fun i v H H' e ⟨r, t, a, b, c⟩ => ⟨r, t, a, b, e _ _ c⟩) hDc (runs_list g4) (szl (by simp; omega)) ?_ ?_
    · intro i x zs H2 Q' ex hz s5 hq'
      obtain ⟨r, t, er, rfl, ht⟩ := hpb4.at ex
      obtain ⟨y1, y2, rfl⟩ := len2 hz
      refine ⟨t, _, rfl, SqT.of (s5 _ _ ht), rfl, _, _, rfl, _, _, rfl, rfl, ?_⟩
      refine ⟨_, rfl, _, rfl, _, _, rfl, rfl, by show 2 ≤ sizeLine; decide, fun t2 ht2 => hq' _ _ (Same.upd ht2) ⟨r, t2, er, rfl, upd_same⟩⟩
    · intro ys H5 s5 g5 hyl hyR
      have S5 := s4.trans s5
      refine ⟨l2, Dc, _, ys, rfl, rfl, S5 _ _ g3, g5, szl (by rw [hyl]; simp; omega), fun l6 hl6 => ?_⟩
      have s6 := Same.upd (o := .lst (ua ++ [.ref t1] ++ ys)) hl6
      refine k l6 _ _ (SG.trans (S3.trans (S5.trans s6))) upd_same ?_
      have hy : PrL H5 ys (bs.reverse.map fun r => (r.1, 1 - r.2)) := by
        refine ⟨by rw [hyl]; simp [lb], fun i q m => ?_⟩
        rw [List.getElem?_map] at m
        obtain ⟨r, er, rfl⟩ := Option.map_eq_some_iff.mp m
        have hi := (List.getElem?_eq_some_iff.mp er).1
        obtain ⟨x, exx⟩ : ∃ x, ys[i]? = some x := ⟨_, List.getElem?_eq_getElem (h := by rw [hyl, List.length_reverse, lb]; simpa using hi)⟩
        obtain ⟨r', t, er', rfl, ht⟩ := hyR i x exx
        rw [er] at er'; cases er'
        exact ⟨t, exx, ht⟩
      have := ((hp3.same S5).append hy).same s6
      unfold ringR
      rw [hc]
      exact this
  have la := hpa.1
  have lb := hpb.1
  refine ⟨_, rfl, ta, ua, rfl, .inl (.of ga), _, _, rfl, rfl, _, rfl, ?_⟩
  cases as with
  | nil =>
    have : ¬ (0 : Int) < (ua.length : Int) := by rw [la]; decide
    rw [decide_eq_false this]
    exact iteF (iteF (fin (cpre_nil1 _) _))
  | cons a0 as =>
  have : (0 : Int) < (ua.length : Int) := by rw [la, List.length_cons]; omega
  rw [decide_eq_true this]
  refine iteT ?_
  refine ⟨_, rfl, tb, ub, rfl, .inl (.of gb), _, _, rfl, rfl, _, rfl, ?_⟩
  cases bs with
  | nil =>
    have : ¬ (0 : Int) < (ub.length : Int) := by rw [lb]; decide
    rw [decide_eq_false this]
    exact iteF (iteF (fin (cpre_nil2 _) _))
  | cons b0 bs =>
  have : (0 : Int) < (ub.length : Int) := by rw [lb, List.length_cons]; omega
  rw [decide_eq_true this]
  refine iteT ?_
  obtain ⟨xa, exa, hxa⟩ := hpa.2 0 a0 rfl
  obtain ⟨xb, exb, hxb⟩ := hpb.2 0 b0 rfl
  refine ⟨_, rfl, ta, ua, 0, _, rfl, rfl, .of ga, atZ exa, _, rfl, tb, ub, 0, _, rfl, rfl, .of gb, atZ exb, _, _, .tup hxa (.cons (.int _) (.cons (.int _) .nil)), .tup hxb (.cons (.int _) (.cons (.int _) .nil)), rfl, rfl, _, rfl, ?_⟩
  rw [eqv_pr]
  by_cases c : a0 = b0
  rotate_left
  · rw [decide_eq_false c]
    exact iteF (fin (cpre_ne _ _ c) _)
  subst c
  rw [decide_eq_true rfl]
  refine iteT ?_
  refine ⟨_, rfl, 1, rfl, ta, ua, rfl, .of ga, fun q1 hq1 => ?_⟩
  rw [cutV_1]
  have s1 := Same.upd (o := .lst (ua.drop 1)) hq1
  have g1 : upd G q1 (.lst (ua.drop 1)) q1 = some (.lst (ua.drop 1)) := upd_same
  generalize upd G q1 (.lst (ua.drop 1)) = G1 at s1 g1
  refine ⟨_, rfl, 1, rfl, tb, ub, rfl, .of (s1 _ _ gb), fun q2 hq2 => ?_⟩
  rw [cutV_1]
  have s2 := Same.upd (o := .lst (ub.drop 1)) hq2
  have g2 : upd G1 q2 (.lst (ub.drop 1)) q2 = some (.lst (ub.drop 1)) := upd_same
  generalize upd G1 q2 (.lst (ub.drop 1)) = G2 at s2 g2
  have S2 := s1.trans s2
  rw [cpre_eq] at hcp
  refine ⟨_, _, rfl, ⟨q1, q2, _, _, as, bs, rfl, SG.trans S2, s2 _ _ g1, (hpa.same S2).drop 1, g2, (hpb.same S2).drop 1, hcp, by simp at las; omega, by simp at lbs; omega⟩, ?_⟩
  show (match G2 q1 with | some (.lst u) => u.length | _ => 0) < (match G ta with | some (.lst u) => u.length | _ => 0)
  rw [s2 _ _ g1, ga]
  show (ua.drop 1).length < ua.length
  rw [List.length_drop]; omega
end
end KK
end
section
set_option maxHeartbeats 8000000
set_option Elab.async false
set_option linter.all false
set_option maxRecDepth 100000
namespace KK
open PySem L2 KM
section
variable {P : Program} {w : World} {K : PySem.W.Frag} {mg : Str → Option Value} {base : Heap} {aN : Addr}
def CnS (ss : List Sg) (qs : List Rat) (ms : List En) (k : Nat) : Prop := ∀ s q ei ej, ss[k]? = some s → qs[k]? = some q → ei ∈ ms → ej ∈ ms → s.i = (ei.b : Int) → s.j = (ej.b : Int) → ei.h * q = ej.h
def spRi : Sp := fun vs H Q _ => ∃ (kk : Bool) (n root : Nat) (d as al : Addr) (kvs : List (Key × V)) (ms : List En) (xs ys : List V) (ss : List Sg) (qs : List Rat), vs = [.ref d, .ref as, .ref al] ∧ H d = some (.dK kvs) ∧ PtAt (del [d] H) kvs ms ∧ Prt n ss qs root ms ∧ HSq kk H as xs ∧ SgL H xs ss ∧ H al = some (.lst ys) ∧ QsL H ys qs ∧ ss.length = qs.length ∧ QsZ qs ∧ (∀ s ∈ ss, InW n s) ∧ n ≤ 8 ∧ xs.length ≤ 500 ∧
  (∀ H', Same H H' → (∀ k, CnS ss qs ms k) → Q .non H') ∧
  (∀ l us H' k s q ei ej, Same H H' → H' l = some (.lst us) → PrL H' us (ringR ei.path ej.path k) → ss[k]? = some s → qs[k]? = some q → ei ∈ ms → ej ∈ ms → s.i = (ei.b : Int) → s.j = (ej.b : Int) → ei.h * q ≠ ej.h → (∀ k', k' < k → CnS ss qs ms k') → Q (.ref l) H')
theorem sc_ri : FnScope ["part", "sightings", "shares", "number", "sighting", "i", "j"] ["part", "sightings", "shares"] (defScope s_ring_in) := ⟨rfl, rfl, rfl, by decide +kernel, rfl, by decide +kernel, by decide +kernel⟩
theorem ok_ri (D : Df K mg "ring_in" s_ring_in ["part", "sightings", "shares"] []) (TG : TxG K mg) (cT : Cal P w K mg base "times" 3 ["one", "other"] [] (spBin Sz2 (· * ·))) (cRo : Cal P w K mg base "ring_of" 1 ["part", "sighting", "number"] [] spRo) : Cal P w K mg base "ring_in" 4 ["part", "sightings", "shares"] [] spRi := by
  refine D.calB (k := 3) sc_ri (fun vs H Q E h => by obtain ⟨_, _, _, _, _, _, _, _, _, _, _, _, rfl, _⟩ := h; rfl) (fun f cdv A outer s H vs Q E hr3 h => ?_)
  obtain ⟨kk, n, root, d, as, al, kvs, ms, xs, ys, ss, qs, rfl, hd, hpt, hP, has, hss, hal, hqs, hlq, hqz, hin, n8, hxl, k1, k2⟩ := h
  have hu := hr3.units
  have hu1 : (A.deeper (PyProof.Rows.envOfC "ring_in" (defScope s_ring_in) s.heap.objs.size f cdv)).units + 1 < cLine := by omega
  have hr : Room 1 _ := hr3.mono (by decide)
  refine ⟨_, (bx_scons (Bx.mk (ps_for PassesOwn.never rfl (pi_enumK rfl TG.nEn (pa_cons (pv 1) pa_nil)) (pg_tup rfl (pgs_cons (pg_name (i := 3) sc_ri.nd rfl (Or.inl rfl)) (pgs_cons (pg_name (i := 4) sc_ri.nd rfl (Or.inl rfl)) pgs_nil))) (pss_cons (ps_asg (pe_slice sl_tup (pv 4) po_none (po_some pe_int)) (pg_tup rfl (pgs_cons (pg_name (i := 5) sc_ri.nd rfl (Or.inl rfl)) (pgs_cons (pg_name (i := 6) sc_ri.nd rfl (Or.inl rfl)) pgs_nil))))
    (pss_one (ps_if (pw_and (pt_cmp (pc_din hu1 (pv 5) (pv 0)) rfl) (pw_and1 (pt_cmpR (op_neD hu) (pe_c cT hr3 (pa_cons (pe_ix ix_tup (pe_dget hu1 (pv 0) (pv 5) (fun _ _ => rfl)) pe_int (fun _ _ => rfl)) (pa_cons (pe_ix ix_list (pv 2) (pv 3) (fun _ _ => rfl)) pa_nil))) (pe_ix ix_tup (pe_dget hu1 (pv 0) (pv 6) (fun _ _ => rfl)) pe_int (fun _ _ => rfl)) (nomark _)))).pt (pss_one (ps_ret (pe_c cRo hr (pa_cons (pv 0) (pa_cons (pv 4) (pa_cons (pv 3) pa_nil)))))) pss_nil)))))
    (Bx.mk (pss_one (ps_ret pe_non)))), ?_⟩
  refine st_for ?_
  refine ⟨_, rfl, kk, as, xs, rfl, has, ?_⟩
  refine for_enum (k := kk) (K := K) (a := as) (xs := xs) (fun i σ G => ∃ z, z.length = 4 ∧ σ = some (.ref d) :: some (.ref as) :: some (.ref al) :: z ∧ Same H G ∧ ∀ k, k < i → CnS ss qs ms k) ⟨[none, none, none, none], rfl, rfl, Same.refl _, fun k h => absurd h (Nat.not_lt_zero _)⟩ (fun i σ G ⟨_, _, _, q, _⟩ => (has.same q).sq) ?_ ?_
  rotate_left
  · rintro σ G ⟨z, hz, rfl, SG, hc⟩
    refine k1 G SG fun k s q ei ej e1 => ?_
    exact hc k (by rw [hss.1]; exact (List.getElem?_eq_some_iff.mp e1).1) s q ei ej e1
  rintro i x σ G T ex ⟨z, hz, rfl, SG, hc⟩ hT
  match z, hz with
  | [y1, y2, y3, y4], _ =>
  obtain ⟨sg, es, hx, zg⟩ := hss.at ex
  obtain ⟨ni, nj, ei, ej, li, lj⟩ := hin sg (List.mem_of_getElem? es)
  obtain ⟨a, p1, p2, p3, p4, rfl, ha, hx'⟩ := id hx
  have s2 := Same.upd (o := .tup [.int (i : Int), .ref a]) hT
  refine ⟨T, _, rfl, .of upd_same, rfl, _, _, rfl, _, _, rfl, rfl, ?_⟩
  generalize upd G T (.tup [.int (i : Int), .ref a]) = G2 at s2
  refine ⟨_, rfl, 2, rfl, a, _, rfl, .of (s2 _ _ (SG _ _ ha)), part6, fun p hp => ?_⟩
  rw [cut6]
  have s3 := Same.upd (o := .tup [.int sg.i, .int sg.j]) hp
  have g3 : upd G2 p (.tup [.int sg.i, .int sg.j]) p = some (.tup [.int sg.i, .int sg.j]) := upd_same
  generalize upd G2 p (.tup [.int sg.i, .int sg.j]) = G3 at s3 g3
  refine ⟨p, _, rfl, .of g3, rfl, _, _, rfl, _, _, rfl, rfl, ?_⟩
  have S3 := SG.trans (s2.trans s3)
  have gd3 := S3 _ _ hd
  have hnd := hP.1.nd
  have hil := (List.getElem?_eq_some_iff.mp es).1
  obtain ⟨q, eq⟩ : ∃ q, qs[i]? = some q := ⟨_, List.getElem?_eq_getElem (by omega)⟩
  obtain ⟨hq0, hqz'⟩ := hqz q (List.mem_of_getElem? eq)
  obtain ⟨aq, eaq, haq⟩ := hqs.2 i q eq
  have gi : DGet G3 d (.int sg.i) (valV kvs (kI ni)) := by rw [ei]; exact DGet.k (k := kI ni) gd3
  have gj : DGet G3 d (.int sg.j) (valV kvs (kI nj)) := by rw [ej]; exact DGet.k (k := kI nj) gd3
  have nxt : CnS ss qs ms i → ∀ k, k < i + 1 → CnS ss qs ms k := fun h k hk => by
    by_cases e : k = i
    · rw [e]; exact h
    · exact hc k (by omega)
  refine ⟨_, rfl, _, rfl, d, _, rfl, gi, _, rfl, ?_⟩
  rw [hpt.isSome hnd ni]
  by_cases c1 : ni ∈ keys ms
  rotate_left
  · rw [decide_eq_false c1]
    refine iteF (iteF ⟨_, rfl, rfl, S3, nxt fun s' q' e1 e2 h1 h2 h3 h4 h5 h6 => ?_⟩)
    rw [es] at h1; cases h1
    exact absurd (List.mem_map.mpr ⟨e1, h3, by omega⟩) c1
  rw [decide_eq_true c1]
  refine iteT ?_
  have c2 := (hP.iff (List.mem_of_getElem? es) ei ej).mp c1
  obtain ⟨ee, mi, bi⟩ := hP.1.ent c1
  obtain ⟨ff, mj, bj⟩ := hP.1.ent c2
  obtain ⟨vi, evi, ti, ri, lpi, ui, rfl, hti, hri, hli, hui⟩ := hpt.val hnd mi
  obtain ⟨vj, evj, tj, rj, lpj, uj, rfl, htj, hrj, hlj, huj⟩ := hpt.val hnd mj
  rw [bi] at evi
  rw [bj] at evj
  rw [evi] at gi
  rw [evj] at gj
  have zi := hP.1.sz ee mi
  have wi := hP.1.len ee mi
  have zj := hP.1.sz ff mj
  have wj := hP.1.len ff mj
  have c8 := hP.1.card
  have e3 : ∀ {b : Addr} {o : HO}, del [d] H b = some o → G3 b = some o := fun h => S3 _ _ (del_some h).1
  have hri3 : RatAt G3 ri ee.h := e3 hri
  have hrj3 : RatAt G3 rj ff.h := e3 hrj
  refine ⟨_, rfl, _, rfl, d, .ref ti, rfl, gi, ti, _, 0, .ref ri, rfl, rfl, .of (e3 hti), rfl, _, rfl, _, rfl, al, ys, (i : Int), _, rfl, rfl, .of (S3 _ _ hal), atI_nat eaq, ri, aq, ee.h, q, rfl, hri3, S3 _ _ haq, ⟨zi.mono (by omega), hqz'.mono (by decide)⟩, fun r2 G4 s4 h4 => ?_⟩
  have gj4 : DGet G4 d (.int sg.j) (some (.ref tj)) := by
    have := DGet.k (k := kI nj) (s4 _ _ gd3)
    rw [evj] at this; rw [ej]; exact this
  refine ⟨_, rfl, _, rfl, d, .ref tj, rfl, gj4, tj, _, 0, .ref rj, rfl, rfl, .of (s4 _ _ (e3 htj)), rfl, _, _, h4.rd, RatAt.rd (s4 _ _ hrj3), shaped_rp _, shaped_rp _, _, rfl, ?_⟩
  rw [eqv_r]
  have S4 := S3.trans s4
  by_cases c3 : ee.h * q = ff.h
  · rw [decide_eq_true c3]
    refine iteF ⟨_, rfl, rfl, S4, nxt fun s' q' e1 e2 h1 h2 h3 h4 h5 h6 => ?_⟩
    rw [es] at h1; cases h1
    rw [eq] at h2; cases h2
    have uq : ∀ {x y : En}, x ∈ ms → y ∈ ms → x.b = y.b → x = y := fun {x y} hx hy hb => by
      obtain ⟨i1, hi1⟩ := List.getElem?_of_mem hx
      obtain ⟨i2, hi2⟩ := List.getElem?_of_mem hy
      have k1 : (keys ms)[i1]? = some x.b := by unfold keys; rw [List.getElem?_map, hi1]; rfl
      have k2 : (keys ms)[i2]? = some x.b := by unfold keys; rw [List.getElem?_map, hi2, hb]; rfl
      have l1 := (List.getElem?_eq_some_iff.mp k1).1
      have l2 := (List.getElem?_eq_some_iff.mp k2).1
      have e1 := (List.getElem?_eq_some_iff.mp k1).2
      have e2 := (List.getElem?_eq_some_iff.mp k2).2
      have : i1 = i2 := (List.getElem_inj hnd).mp (e1.trans e2.symm)
      subst this
      rw [hi1] at hi2; cases hi2; rfl
    rw [uq h3 mi (by omega), uq h4 mj (by omega)]
    exact c3
  · rw [decide_eq_false c3]
    refine iteT ?_
    refine ⟨_, rfl, _, rfl, _, rfl, d, .ref a, i, kvs, ms, sg, ee, ff, rfl, S4 _ _ hd, hpt.same (same_del S4), hnd, hx.tups (.of S4), mi, mj, by rw [ei, bi], by rw [ej, bj], by omega, by omega, fun l us H' s' hl hus => ?_⟩
    exact k2 l us H' i sg q ee ff (S4.trans s') hl hus es eq mi mj (by rw [ei, bi]) (by rw [ej, bj]) c3 hc
end
end KK
end
section
set_option maxHeartbeats 8000000
set_option Elab.async false
set_option linter.all false
set_option maxRecDepth 100000
namespace L2
open PySem PySem.Spec PyProof.Rows
theorem compD_byZ {J : It} {D : Addr} {N n : Nat} {js : List Nat} {σ : St} {g : TG} {tt : TT} {tk tv : TE} {Z : Hp → Prop} {H : Hp} (Pv : Nat → Hp → List (Key × V) → Prop) (h0 : Pv 0 (upd H D (.dK [])) []) (hgo : ∀ i H ys, i < N → Pv i H ys → J.go i H) (hst : ∀ H ys, Pv N H ys → J.stop N H)
    (hs : ∀ i x zs H2 H3 ys (Nx : Hp → List (Key × V) → Prop), (∀ H ys, Pv (i + 1) H ys → Nx H ys) → i < N → zs.length = n → J.yld i H2 x H3 → Pv i H2 ys → H2 D = some (.dK ys) → g x (zs ++ caps σ js) H3 fun σ4 H4 => σ4.drop n = caps σ js ∧ tt σ4 H4 fun b H5 =>
      if b = true then tk σ4 H5 (fun y H6 => tv σ4 H6 fun v H7 => H7 D = some (.dK ys) ∧ ys.length < sizeLine ∧ ∃ k, y = kV k ∧ Nx (upd H7 D (.dK (putK ys k v))) (putK ys k v)) else H5 D = some (.dK ys) ∧ Nx H5 ys)
    (hd : ∀ H ys, Pv N H ys → H D = some (.dK ys) → Z H) :
    ∃ W : Nat → Nat → Hp → List (Key × V) → Prop, (∃ m, W 0 m (upd H D (.dK [])) []) ∧ ∀ i m H2 ys, W i m H2 ys → H2 D = some (.dK ys) → (J.stop i H2 ∧ Z H2) ∨
      (J.go i H2 ∧ ∀ zs x H3, zs.length = n → J.yld i H2 x H3 → g x (zs ++ caps σ js) H3 fun σ4 H4 => σ4.drop n = caps σ js ∧ tt σ4 H4 fun b H5 => if b = true then tk σ4 H5 (fun y H6 => tv σ4 H6 fun v H7 => H7 D = some (.dK ys) ∧ ys.length < sizeLine ∧ ∃ k, y = kV k ∧ ∃ m', m' < m ∧ W (i + 1) m' (upd H7 D (.dK (putK ys k v))) (putK ys k v))
        else H5 D = some (.dK ys) ∧ ∃ m', m' < m ∧ W (i + 1) m' H5 ys) := by
  refine ⟨fun i m H ys => m = N - i ∧ i ≤ N ∧ Pv i H ys, ⟨N, by simp, Nat.zero_le _, h0⟩, ?_⟩
  rintro i m H2 ys ⟨rfl, hi, p⟩ hD
  by_cases hlt : i < N
  · exact .inr ⟨hgo i H2 ys hlt p, fun σB x H3 hB y => hs i x σB H2 H3 ys (fun H' ys' => ∃ m', m' < N - i ∧ (m' = N - (i + 1) ∧ i + 1 ≤ N ∧ Pv (i + 1) H' ys')) (fun H' ys' z => ⟨N - (i + 1), by omega, rfl, hlt, z⟩) hlt hB y p hD⟩
  · obtain rfl : i = N := by omega
    exact .inl ⟨hst H2 ys p, hd H2 ys p hD⟩
theorem runs_vals {d : Addr} {o : Obj} {kvs : List (Key × V)} {H : Hp} (h : H d = some (.frz o (.dK kvs))) : Runs (Itv d o kvs) H (kvs.map (·.2)) :=
  ⟨fun i H' hi s => ⟨s _ _ h, by simpa using hi⟩, fun H' s => ⟨s _ _ h, by simp⟩, fun i x H2 H3 s y => by
    obtain ⟨e, k, ek⟩ := y
    exact ⟨e, by rw [List.getElem?_map, ek]; rfl⟩⟩
end L2
namespace KK
open PySem L2 KM
theorem lcm_dl {c n : Int} (hc : 0 < c) (hn : 0 < n) : c ∣ c / (Int.gcd c n : Int) * n := by
  obtain ⟨m, hm⟩ := Int.gcd_dvd_right c n
  refine ⟨m, ?_⟩
  have e1 : c / (Int.gcd c n : Int) * (Int.gcd c n : Int) = c := Int.ediv_mul_cancel (Int.gcd_dvd_left c n)
  calc c / (Int.gcd c n : Int) * n = c / (Int.gcd c n : Int) * ((Int.gcd c n : Int) * m) := by rw [← hm]
    _ = c / (Int.gcd c n : Int) * (Int.gcd c n : Int) * m := by rw [Int.mul_assoc]
    _ = c * m := by rw [e1]
theorem lcm_dr {c n : Int} : n ∣ c / (Int.gcd c n : Int) * n := ⟨_, Int.mul_comm _ _⟩
theorem lcm_fold {m : Nat} : ∀ (ks : List Int) (c : Int), 0 < c → Pos m ks → 0 < ks.foldl (fun c n => c / (Int.gcd c n : Int) * n) c ∧ c ∣ ks.foldl (fun c n => c / (Int.gcd c n : Int) * n) c ∧ ∀ k ∈ ks, k ∣ ks.foldl (fun c n => c / (Int.gcd c n : Int) * n) c
  | [], c, hc, _ => ⟨hc, Int.dvd_refl _, fun k h => by cases h⟩
  | n :: ks, c, hc, hp => by
    have hn := (hp n (List.mem_cons_self ..)).1
    obtain ⟨h1, h2, h3⟩ := lcm_fold ks _ (lcm_step hc hn) fun k h => hp k (List.mem_cons_of_mem _ h)
    refine ⟨h1, Int.dvd_trans (lcm_dl hc hn) h2, fun k h => ?_⟩
    rcases List.mem_cons.mp h with rfl | h
    · exact Int.dvd_trans lcm_dr h2
    · exact h3 k h
theorem lcm_bd {m : Nat} : ∀ (ks : List Int) (c : Int) (a : Nat), 0 < c → Pos m ks → Bd a c → Bd (a + m * ks.length) (ks.foldl (fun c n => c / (Int.gcd c n : Int) * n) c)
  | [], c, a, _, _, h => h.mono (by simp)
  | n :: ks, c, a, hc, hp, h => by
    have hn := hp n (List.mem_cons_self ..)
    have := lcm_bd ks _ (a + m) (lcm_step hc hn.1) (fun k h => hp k (List.mem_cons_of_mem _ h)) (bd_lcm hc hn.1 h hn.2)
    refine Bd.mono this ?_
    rw [List.length_cons, Nat.mul_succ]; omega
def Lm (ms : List En) : Int := lcmD (ms.map (·.h))
def wt (ms : List En) (e : En) : Int := e.h.num * (Lm ms).fdiv (e.h.den : Int)
def wKV (ms : List En) (l : List En) : List (Key × V) := l.map fun e => (kI e.b, V.int (wt ms e))
theorem Lm_facts {n : Nat} {ss : List Sg} {qs : List Rat} {root : Nat} {ms : List En} (r : Rch n ss qs root ms) (n8 : n ≤ 8) : 0 < Lm ms ∧ Bd 3000 (Lm ms) ∧ ∀ e ∈ ms, (e.h.den : Int) ∣ Lm ms := by
  have hp : Pos 360 ((ms.map (·.h)).map fun q => (q.den : Int)) := fun k h => by
    obtain ⟨q, hq, rfl⟩ := List.mem_map.mp h
    obtain ⟨e, he, rfl⟩ := List.mem_map.mp hq
    have := r.sz e he
    have := r.len e he
    have := r.card
    exact ⟨by have := e.h.den_pos; omega, (r.sz e he).2.mono (by omega)⟩
  obtain ⟨h1, _, h3⟩ := lcm_fold _ 1 (by decide) hp
  have h4 := lcm_bd _ 1 1 (by decide) hp (show (1 : Int).natAbs < 2 ^ 1 by decide)
  have hc := r.card
  refine ⟨h1, Bd.mono h4 ?_, fun e he => h3 _ (List.mem_map.mpr ⟨_, List.mem_map.mpr ⟨e, he, rfl⟩, rfl⟩)⟩
  rw [List.length_map, List.length_map]
  have : 360 * ms.length ≤ 360 * 8 := Nat.mul_le_mul_left _ (by omega)
  omega
theorem wt_facts {n : Nat} {ss : List Sg} {qs : List Rat} {root : Nat} {ms : List En} (r : Rch n ss qs root ms) (n8 : n ≤ 8) {e : En} (he : e ∈ ms) : 1 ≤ wt ms e ∧ Bd 3400 (wt ms e) ∧ (wt ms e : Rat) = e.h * (Lm ms : Rat) ∧ Bd 3000 ((Lm ms).fdiv (e.h.den : Int)) := by
  obtain ⟨h1, h2, h3⟩ := Lm_facts r n8
  have hd := h3 e he
  have dp : (0 : Int) < (e.h.den : Int) := by have := e.h.den_pos; omega
  obtain ⟨m, hm⟩ := hd
  have ef : (Lm ms).fdiv (e.h.den : Int) = m := by rw [hm, Int.mul_fdiv_cancel_left _ (by omega)]
  have mp : 0 < m := by
    rcases Int.lt_or_le 0 m with z | z
    · exact z
    · have : (e.h.den : Int) * m ≤ 0 := Int.mul_nonpos_of_nonneg_of_nonpos (by omega) z
      omega
  have np : 0 < e.h.num := num_pos'.mpr (r.pos e he)
  have mb : Bd 3000 m := h2.of_le (by
    have : m ≤ (e.h.den : Int) * m := by
      have := Int.mul_le_mul_of_nonneg_right (show (1 : Int) ≤ (e.h.den : Int) by omega) (show 0 ≤ m by omega)
      omega
    rw [hm]; omega)
  have hw : wt ms e = e.h.num * m := by unfold wt; rw [ef]
  refine ⟨?_, ?_, ?_, by rw [ef]; exact mb⟩
  · rw [hw]
    have := Int.mul_pos np mp
    omega
  · rw [hw]
    have := r.sz e he
    have := r.len e he
    have := r.card
    exact ((r.sz e he).1.mul mb).mono (by omega)
  · rw [hw, hm]
    have e1 : e.h = (e.h.num : Rat) / ((e.h.den : Int) : Rat) := by
      rw [← Rat.divInt_eq_div, Rat.num_divInt_den]
    have hn : (((e.h.den : Int)) : Rat) ≠ 0 := by
      intro z
      have : (e.h.den : Int) = 0 := by exact_mod_cast z
      omega
    have key : ∀ (h a b : Rat), h = a / b → b ≠ 0 → h * b = a := fun h a b e n => by rw [e]; exact Rat.div_mul_cancel n
    have e2 := key _ _ _ e1 hn
    rw [Rat.intCast_mul, Rat.intCast_mul, ← Rat.mul_assoc, e2]
theorem wKV_none {ms : List En} {b : Nat} : ∀ {l : List En}, b ∉ keys l → valV (wKV ms l) (kI b) = none
  | [], _ => rfl
  | e :: l, h => by
    have h' : ¬ (b = e.b ∨ b ∈ keys l) := by rw [← List.mem_cons]; exact h
    show valV ((kI e.b, V.int (wt ms e)) :: wKV ms l) (kI b) = none
    rw [valV_neg (fun z => h' (.inl (kI_inj z).symm))]
    exact wKV_none fun z => h' (.inr z)
theorem PtAt.get {H : Hp} : ∀ {kvs : List (Key × V)} {ms : List En}, PtAt H kvs ms → ∀ {i : Nat} {k : Key} {v : V}, kvs[i]? = some (k, v) → ∃ e, ms[i]? = some e ∧ k = kI e.b ∧ EnAt H v e
  | _, _, .nil, i, k, v, e => by simp at e
  | _, _, .cons (v := w0) (e := x) h t, 0, k, v, e => by
    have e : (kI x.b, w0) = (k, v) := by simpa using e
    cases e
    exact ⟨x, rfl, rfl, h⟩
  | _, _, .cons h t, i + 1, k, v, e => by
    obtain ⟨x, h1, h2⟩ := PtAt.get t (by simpa using e)
    exact ⟨x, by simpa using h1, h2⟩
section
variable {P : Program} {w : World} {K : PySem.W.Frag} {mg : Str → Option Value} {base : Heap} {aN : Addr}
def K1 (d : Addr) (H H' : Hp) : Prop := ∀ b o, b ≠ d → H b = some o → H' b = some o
def spLw : Sp := fun vs H Q _ => ∃ (n root : Nat) (d : Addr) (kvs : List (Key × V)) (ms : List En) (ss : List Sg) (qs : List Rat), vs = [.ref d] ∧ H d = some (.dK kvs) ∧ PtAt (del [d] H) kvs ms ∧ Rch n ss qs root ms ∧ n ≤ 8 ∧
  ∀ dw H', K1 d H H' → H dw = none → H' dw = some (.dK (wKV ms ms)) → Q (.ref dw) H'
theorem sc_lw : FnScope ["part", "bottom"] ["part"] (defScope s_least_weights) := ⟨rfl, rfl, rfl, by decide +kernel, rfl, by decide +kernel, by decide +kernel⟩
theorem ok_lw (D : Df K mg "least_weights" s_least_weights ["part"] []) (cB : Cal P w K mg base "common_bottom" 3 ["ratios"] [] spCB) : Cal P w K mg base "least_weights" 4 ["part"] [] spLw := by
  refine D.calB (k := 3) sc_lw (fun vs H Q E h => by obtain ⟨_, _, _, _, _, _, _, rfl, _⟩ := h; rfl) (fun f cdv A outer s H vs Q E hr h => ?_)
  obtain ⟨n, root, d, kvs, ms, ss, qs, rfl, hd, hpt, hR, n8, k⟩ := h
  have hlen := hpt.len
  have hcard := hR.card
  refine ⟨_, (bx_scons (Bx.mk (ps_set (i := 1) sc_lw.nd rfl (Or.inr rfl) (pe_c cB hr (pa_cons (pe_comp (NB := ["heavy", "path"]) rfl (by decide +kernel) (by decide +kernel) rfl (by decide +kernel) (pi_values (pv 0)) (by intro _ _ _; refine ⟨?_, ?_, ?_⟩; (exact (pg_tupK (K := K) (n := 2) rfl rfl (pgs_cons (pg_name (i := 0) (show List.Nodup (["heavy", "path"] : List Str) by decide +kernel) rfl (Or.inl rfl)) (pgs_cons (pg_name (i := 1) (show List.Nodup (["heavy", "path"] : List Str) by decide +kernel) rfl (Or.inl rfl)) pgs_nil)))); (exact pts_nil); (exact (pv 0)))) pa_nil))))
    (Bx.mk (pss_one (ps_ret (pe_compD (NB := ["ball", "heavy", "path"]) (FR := ["bottom"]) (js := [1]) rfl rfl (fun _ _ h => h) (.cons rfl rfl rfl ⟨_, rfl⟩ .nil) rfl (by decide +kernel) rfl (by decide +kernel) (pi_items (pv 0)) (by intro _ _ _; refine ⟨?_, ?_, ?_, ?_⟩; (exact (pg_tupK (K := K) (n := 2) rfl rfl (pgs_cons (pg_name (i := 0) (show List.Nodup (["ball", "heavy", "path", "bottom"] : List Str) by decide +kernel) rfl (Or.inl rfl)) (pgs_cons (pg_tupK (K := K) (n := 2) rfl rfl (pgs_cons (pg_name (i := 1) (show List.Nodup (["ball", "heavy", "path", "bottom"] : List Str) by decide +kernel) rfl (Or.inl rfl)) (pgs_cons (pg_name (i := 2) (show List.Nodup (["ball", "heavy", "path", "bottom"] : List Str) by decide +kernel) rfl (Or.inl rfl)) pgs_nil))) pgs_nil)))); (exact pts_nil); (exact (pv 0)); (exact (pe_op op_mulB (pe_ix (ix_tupK (K := K) rfl) (pv 1) pe_int (fun _ _ => rfl)) (pe_op op_fdivB (pv 3) (pe_ix (ix_tupK (K := K) rfl) (pv 1) pe_int (fun _ _ => rfl))))))))))), ?_⟩
  refine ⟨_, rfl, d, kvs, rfl, hd, fun ob => ?_⟩
  have gf : upd H d (.frz ob (.dK kvs)) d = some (.frz ob (.dK kvs)) := upd_same
  have sf : Same (del [d] H) (upd H d (.frz ob (.dK kvs))) := fun b o e => by
    obtain ⟨e1, e2⟩ := del_some e
    rw [upd_ne (by simpa using e2)]; exact e1
  have kf : K1 d H (upd H d (.frz ob (.dK kvs))) := fun b o n e => by rw [upd_ne n]; exact e
  have hf0 : ∀ {b : Addr}, upd H d (.frz ob (.dK kvs)) b = none → H b = none := fun {b} e => by
    by_cases hb : b = d
    · subst hb; rw [upd_same] at e; cases e
    · rw [upd_ne hb] at e; exact e
  generalize upd H d (.frz ob (.dK kvs)) = Hf at gf sf kf hf0
  have hpf : PtAt Hf kvs ms := hpt.same sf
  intro D1 hD1
  refine comp_each (n := 2) (xs := kvs.map (·.2)) (fun i v G => ∃ a e, v = .ref a ∧ ms[i]? = some e ∧ RatAt G a e.h) (fun i v H H' e ⟨a, x, h1, h2, h3⟩ => ⟨a, x, h1, h2, e _ _ h3⟩) hD1 (runs_vals gf) (szl (by rw [List.length_map]; omega)) ?_ ?_
  · intro i x zs H2 Q' ex hz s2 hq'
    rw [List.getElem?_map] at ex
    obtain ⟨⟨kk, v⟩, ekv, rfl⟩ := Option.map_eq_some_iff.mp ex
    obtain ⟨e, ee, _, t, r, l, us, rfl, ht, hr', _⟩ := hpf.get ekv
    obtain ⟨y1, y2, rfl⟩ := len2 hz
    exact ⟨t, _, rfl, SqT.of (s2 _ _ ht), rfl, _, _, rfl, _, _, rfl, rfl, _, rfl, hq' _ _ (Same.refl _) ⟨r, e, rfl, ee, s2 _ _ hr'⟩⟩
  intro ys H1 s1 g1 hyl hyR
  rw [List.length_map] at hyl
  refine ⟨D1, ys, ms.map (·.h), rfl, g1, ⟨by rw [List.length_map]; omega, fun i v e => ?_⟩, fun q hq => ?_, by rw [List.length_map]; omega, fun H2 s2 => ?_⟩
  · obtain ⟨a, x, h1, h2, h3⟩ := hyR i v e
    exact ⟨a, x.h, h1, by rw [List.getElem?_map, h2]; rfl, h3⟩
  · obtain ⟨e, he, rfl⟩ := List.mem_map.mp hq
    have := hR.len e he
    exact (hR.sz e he).2.mono (by omega)
  have S2 := s1.trans s2
  show _
  refine ⟨_, rfl, d, ob, kvs, rfl, S2 _ _ gf, fun D2 hD2 => ?_⟩
  obtain ⟨L1, L2, L3⟩ := Lm_facts hR n8
  refine compD_byZ (js := [1]) (J := Itm d ob kvs) (g := gTup K 2 (gCons (gName 0) (gCons (gTup K 2 (gCons (gName 1) (gCons (gName 2) gNil))) gNil))) (tt := fun _ H Q => Q true H) (tk := tVar 0) (tv := _) (N := ms.length) (n := 3) (fun i G ys => Same H2 G ∧ ys = wKV ms (ms.take i)) ⟨Same.upd hD2, rfl⟩ (fun i G ys hi z => ⟨z.1 _ _ (S2 _ _ gf), by omega⟩) (fun G ys z => ⟨z.1 _ _ (S2 _ _ gf), by omega⟩) ?_ ?_
  · rintro i x zs G G3 ys Nx hN hi hz ⟨T, kk, v, rfl, hT, rfl, ekv⟩ ⟨sG, rfl⟩ hGD
    obtain ⟨e, ee, ek, t, r, l, us, rfl, ht, hr', _⟩ := hpf.get ekv
    subst ek
    match zs, hz with
    | [y1, y2, y3], _ =>
    have s4 := Same.upd (o := .tup [kV (kI e.b), .ref t]) hT
    have g4 : upd G T (.tup [kV (kI e.b), .ref t]) T = some (.tup [kV (kI e.b), .ref t]) := upd_same
    generalize upd G T (.tup [kV (kI e.b), .ref t]) = G4 at s4 g4
    have S4 := S2.trans (sG.trans s4)
    have hr4 : RatAt G4 r e.h := S4 _ _ hr'
    have he := List.mem_of_getElem? ee
    obtain ⟨w1, w2, w3, w4⟩ := wt_facts hR n8 he
    have hsz := hR.sz e he
    have hln := hR.len e he
    refine ⟨T, _, rfl, .of g4, rfl, _, _, rfl, _, _, rfl, t, _, rfl, SqT.of (S4 _ _ ht), rfl, _, _, rfl, _, _, rfl, rfl, rfl, rfl, iteT ?_⟩
    refine ⟨_, rfl, _, rfl, r, _, _, _, rfl, rfl, .of hr4, at0 .., _, rfl, _, rfl, r, _, _, _, rfl, rfl, .of hr4, at1 .., _, _, rfl, rfl, ⟨den_ne _, hsz.2.mono (by omega)⟩, _, _, rfl, rfl, ⟨hsz.1.mono (by omega), w4.mono (by decide)⟩, s4 _ _ hGD, small1000 (by unfold wKV; rw [List.length_map, List.length_take]; omega), kI e.b, rfl, hN _ _ ⟨fun b o z => ?_, ?_⟩⟩
    · rw [upd_ne (ne_of_none z hD2)]; exact s4 _ _ (sG _ _ z)
    · rw [putK_new (wKV_none (fun z => ?_)), tk_snoc ee]
      · unfold wKV; rw [List.map_append]; rfl
      · have hnd := hR.nd
        have : keys ms = keys (ms.take i) ++ keys (ms.drop i) := by unfold keys; rw [← List.map_append, List.take_append_drop]
        rw [this, List.nodup_append] at hnd
        refine hnd.2.2 _ z _ ?_ rfl
        unfold keys
        refine List.mem_map.mpr ⟨e, ?_, rfl⟩
        exact List.mem_of_getElem? (i := 0) (by rw [List.getElem?_drop]; simpa using ee)
  · rintro G ys ⟨sG, rfl⟩ hGD
    rw [List.take_length] at hGD
    refine k D2 G (fun b o n e => sG _ _ (S2 _ _ (kf b o n e))) (hf0 (S2.free hD2)) hGD
end
end KK
end
section
set_option maxHeartbeats 8000000
set_option Elab.async false
set_option linter.all false
set_option maxRecDepth 100000
namespace KK
open PySem L2 KM
def oddAt (ss : List Sg) (k : Nat) : Prop := (∃ s, ss[k]? = some s ∧ shQ s = none) ∧ ∀ j s, j < k → ss[j]? = some s → shQ s ≠ none
def QsOf (ss : List Sg) (qs : List Rat) : Prop := ss.length = qs.length ∧ ∀ (i : Nat) s q, ss[i]? = some s → qs[i]? = some q → shQ s = some q
def RingW (n : Nat) (ss : List Sg) (rs : List (Int × Int)) : Prop := ∃ qs root ms k s q ei ej, QsOf ss qs ∧ Prt n ss qs root ms ∧ ss[k]? = some s ∧ qs[k]? = some q ∧ ei ∈ ms ∧ ej ∈ ms ∧ s.i = (ei.b : Int) ∧ s.j = (ej.b : Int) ∧ ei.h * q ≠ ej.h ∧ rs = ringR ei.path ej.path k
def RingD (n : Nat) (ss : List Sg) (rs : List (Int × Int)) : Prop := ∃ qs root ms k s q ei ej, QsOf ss qs ∧ Prt n ss qs root ms ∧ ss[k]? = some s ∧ qs[k]? = some q ∧ ei ∈ ms ∧ ej ∈ ms ∧ s.i = (ei.b : Int) ∧ s.j = (ej.b : Int) ∧ ei.h * q ≠ ej.h ∧ rs = ringR ei.path ej.path k ∧ PaF ss qs root ms ∧ (∀ k', k' < k → CnS ss qs ms k') ∧ ¬ cov ss qs root root ∧ ∀ r, r < root → ¬ cov ss qs r r → ∀ ms, PaF ss qs r ms → ∀ k, CnS ss qs ms k
def PrtW (n : Nat) (ss : List Sg) (qs : List Rat) (b : Nat) (x : Int) : Prop := ∃ root ms e, Prt n ss qs root ms ∧ (∀ k, CnS ss qs ms k) ∧ e ∈ ms ∧ e.b = b ∧ x = wt ms e
def WgtW (n : Nat) (ss : List Sg) (ws : List Int) : Prop := ws.length = n ∧ WsZ ws ∧ doesB ws ss = true ∧ ∃ qs, QsOf ss qs ∧ ∀ b x, ws[b]? = some x → PrtW n ss qs b x
theorem valV_putK {kvs : List (Key × V)} {k k' : Key} {v : V} : valV (putK kvs k v) k' = if k' = k then some v else valV kvs k' := by
  unfold putK
  by_cases h : (kvs.any fun kv => decide (kv.1 = k)) = true
  · rw [if_pos h]
    induction kvs with
    | nil => simp at h
    | cons p r ih =>
      rw [List.map_cons]
      by_cases e : p.1 = k
      · rw [if_pos e]
        by_cases e' : k' = k
        · rw [if_pos e', valV_pos (by rw [e']; exact e)]
        · rw [if_neg e']
          have n1 : ¬ p.1 = k' := fun z => e' (z.symm.trans e)
          rw [valV_neg (p := (p.1, v)) n1, valV_neg n1]
          clear ih h
          induction r with
          | nil => rfl
          | cons p2 r ih2 =>
            rw [List.map_cons]
            by_cases e2 : p2.1 = k
            · rw [if_pos e2]
              have n2 : ¬ p2.1 = k' := fun z => e' (z.symm.trans e2)
              rw [valV_neg (p := (p2.1, v)) n2, valV_neg n2]; exact ih2
            · rw [if_neg e2]
              by_cases e3 : p2.1 = k'
              · rw [valV_pos e3, valV_pos e3]
              · rw [valV_neg e3, valV_neg e3]; exact ih2
      · rw [if_neg e]
        have h' : (r.any fun kv => decide (kv.1 = k)) = true := by
          rw [List.any_cons, decide_eq_false e, Bool.false_or] at h; exact h
        by_cases e3 : p.1 = k'
        · rw [valV_pos e3, valV_pos e3, if_neg (fun z => e (e3.trans z))]
        · rw [valV_neg e3, valV_neg e3]; exact ih h'
  · rw [if_neg h]
    have hn : valV kvs k = none := by
      rw [valV_any] at h
      cases hh : valV kvs k with
      | none => rfl
      | some x => rw [hh] at h; exact absurd rfl h
    clear h
    induction kvs with
    | nil =>
      by_cases e : k' = k
      · rw [if_pos e]; exact valV_pos e.symm
      · rw [if_neg e]; exact valV_neg (fun z => e z.symm)
    | cons p r ih =>
      by_cases e3 : p.1 = k'
      · have : k' ≠ k := fun z => by rw [valV_pos (e3.trans z)] at hn; cases hn
        rw [if_neg this, List.cons_append, valV_pos e3, valV_pos e3]
      · have hn' : valV r k = none := by
          by_cases e4 : p.1 = k
          · rw [valV_pos e4] at hn; cases hn
          · rw [valV_neg e4] at hn; exact hn
        rw [List.cons_append, valV_neg e3, valV_neg e3]; exact ih hn'
theorem valV_merge {ms : List En} : ∀ (l : List En) (W : List (Key × V)) (b : Nat), (keys l).Nodup → (b ∉ keys l → valV (mergeK W (wKV ms l)) (kI b) = valV W (kI b)) ∧ (∀ e ∈ l, e.b = b → valV (mergeK W (wKV ms l)) (kI b) = some (.int (wt ms e)))
  | [], W, b, _ => ⟨fun _ => rfl, fun e h => by cases h⟩
  | x :: l, W, b, nd => by
    have nd' : x.b ∉ keys l ∧ (keys l).Nodup := List.nodup_cons.mp nd
    obtain ⟨h1, h2⟩ := valV_merge l (putK W (kI x.b) (.int (wt ms x))) b nd'.2
    have em : mergeK W (wKV ms (x :: l)) = mergeK (putK W (kI x.b) (.int (wt ms x))) (wKV ms l) := rfl
    rw [em]
    refine ⟨fun h => ?_, fun e h eb => ?_⟩
    · have h' : ¬ (b = x.b ∨ b ∈ keys l) := by rw [← List.mem_cons]; exact h
      rw [h1 fun z => h' (.inr z), valV_putK, if_neg (fun z => h' (.inl (kI_inj z)))]
    · rcases List.mem_cons.mp h with rfl | h
      · subst eb
        rw [h1 nd'.1, valV_putK, if_pos rfl]
      · exact h2 e h eb
structure Wts (n : Nat) (ss : List Sg) (qs : List Rat) (W : List (Key × V)) : Prop where
  val : ∀ b v, valV W (kI b) = some v → ∃ x, v = .int x ∧ 1 ≤ x ∧ Bd 3400 x ∧ PrtW n ss qs b x
  iff : ∀ s ∈ ss, ∀ i j : Nat, s.i = (i : Int) → s.j = (j : Int) → ((valV W (kI i)).isSome ↔ (valV W (kI j)).isSome)
  eq : ∀ (k : Nat) s q (i j : Nat) x y, ss[k]? = some s → qs[k]? = some q → s.i = (i : Int) → s.j = (j : Int) → valV W (kI i) = some (.int x) → valV W (kI j) = some (.int y) → (x : Rat) * q = (y : Rat)
theorem Wts.nil {n : Nat} {ss : List Sg} {qs : List Rat} : Wts n ss qs [] := ⟨fun b v h => (by cases h), fun s _ i j _ _ => Iff.rfl, fun k s q i j x y _ _ _ _ h => (by cases h)⟩
theorem Wts.add {n : Nat} {ss : List Sg} {qs : List Rat} {root : Nat} {W : List (Key × V)} {ms : List En} (h : Wts n ss qs W) (r : Prt n ss qs root ms) (c : ∀ k, CnS ss qs ms k) (n8 : n ≤ 8) : Wts n ss qs (mergeK W (wKV ms ms)) ∧ (valV (mergeK W (wKV ms ms)) (kI root)).isSome ∧ ∀ b, (valV W (kI b)).isSome → (valV (mergeK W (wKV ms ms)) (kI b)).isSome := by
  have hm := fun b => valV_merge (ms := ms) ms W b r.1.nd
  have inn : ∀ {b : Nat}, b ∈ keys ms → ∃ e ∈ ms, e.b = b ∧ valV (mergeK W (wKV ms ms)) (kI b) = some (.int (wt ms e)) := fun {b} hb => by
    obtain ⟨e, he, eb⟩ := r.1.ent hb
    exact ⟨e, he, eb, (hm b).2 e he eb⟩
  refine ⟨⟨fun b v e => ?_, fun s hs i j ei ej => ?_, fun k s q i j x y e1 e2 ei ej h1 h2 => ?_⟩, ?_, fun b hb => ?_⟩
  · by_cases hb : b ∈ keys ms
    · obtain ⟨e', he, eb, ev⟩ := inn hb
      rw [ev] at e; cases e
      obtain ⟨w1, w2, _, _⟩ := wt_facts r.1 n8 he
      exact ⟨_, rfl, w1, w2, root, ms, e', r, c, he, eb, rfl⟩
    · rw [(hm b).1 hb] at e
      exact h.val b v e
  · have hi := r.iff hs ei ej
    by_cases hb : i ∈ keys ms
    · obtain ⟨_, _, _, ev⟩ := inn hb
      obtain ⟨_, _, _, ev'⟩ := inn (hi.mp hb)
      rw [ev, ev']; exact Iff.rfl
    · rw [(hm i).1 hb, (hm j).1 (fun z => hb (hi.mpr z))]
      exact h.iff s hs i j ei ej
  · have hi := r.iff (List.mem_of_getElem? e1) ei ej
    by_cases hb : i ∈ keys ms
    · obtain ⟨e', he, eb, ev⟩ := inn hb
      obtain ⟨f', hf, fb, fv⟩ := inn (hi.mp hb)
      rw [ev] at h1; cases h1
      rw [fv] at h2; cases h2
      have := c k s q e' f' e1 e2 he hf (by rw [ei, eb]) (by rw [ej, fb])
      rw [(wt_facts r.1 n8 he).2.2.1, (wt_facts r.1 n8 hf).2.2.1, ← this]
      grind
    · rw [(hm i).1 hb] at h1
      rw [(hm j).1 (fun z => hb (hi.mpr z))] at h2
      exact h.eq k s q i j x y e1 e2 ei ej h1 h2
  · obtain ⟨_, _, _, ev⟩ := inn r.1.rt
    rw [ev]; rfl
  · by_cases hb' : b ∈ keys ms
    · obtain ⟨_, _, _, ev⟩ := inn hb'
      rw [ev]; rfl
    · rw [(hm b).1 hb']; exact hb
theorem Wts.does {n : Nat} {ss : List Sg} {qs : List Rat} {W : List (Key × V)} {ws : List Int} (h : Wts n ss qs W) (hq : QsOf ss qs) (hin : ∀ s ∈ ss, InW n s) (hl : ws.length = n) (hw : ∀ b x, ws[b]? = some x → valV W (kI b) = some (.int x)) : doesB ws ss = true := by
  have h1 : ∀ w ∈ ws, 1 ≤ w := fun w hw' => by
    obtain ⟨b, hb⟩ := List.getElem?_of_mem hw'
    obtain ⟨x, e, h1, _⟩ := h.val b _ (hw b w hb)
    cases e; exact h1
  unfold doesB
  rw [Bool.and_eq_true]
  refine ⟨List.all_eq_true.mpr fun w hw' => decide_eq_true (h1 w hw'), List.all_eq_true.mpr fun s hs => ?_⟩
  obtain ⟨k, hk⟩ := List.getElem?_of_mem hs
  obtain ⟨q, eq⟩ : ∃ q, qs[k]? = some q := ⟨_, List.getElem?_eq_getElem (by rw [← hq.1]; exact (List.getElem?_eq_some_iff.mp hk).1)⟩
  obtain ⟨i, j, ei, ej, li, lj⟩ := hin s hs
  obtain ⟨x, ex⟩ : ∃ x, ws[i]? = some x := ⟨_, List.getElem?_eq_getElem (by omega)⟩
  obtain ⟨y, ey⟩ : ∃ y, ws[j]? = some y := ⟨_, List.getElem?_eq_getElem (by omega)⟩
  have := h.eq k s q i j x y hk eq ei ej (hw i x ex) (hw j y ey)
  have x1 := h1 x (List.mem_of_getElem? ex)
  unfold shB
  rw [wAt_of ei ex, wAt_of ej ey, hq.2 k s q hk eq, Rat.divInt_eq_div]
  refine decide_eq_true (congrArg some ?_)
  have xn : (x : Rat) ≠ 0 := by
    intro z
    have : x = 0 := by exact_mod_cast z
    omega
  rw [← this]
  grind
section
variable {P : Program} {w : World} {K : PySem.W.Frag} {mg : Str → Option Value} {base : Heap} {aN : Addr}
def spWo : Sp := fun vs H Q _ => ∃ (kd : Bool) (n : Nat) (as : Addr) (xs : List V) (ss : List Sg), vs = [.int (n : Int), .ref as] ∧ HSq kd H as xs ∧ SgL H xs ss ∧ (∀ s ∈ ss, InW n s) ∧ (∀ s ∈ ss, ∀ q, shQ s = some q → Sz 50 q) ∧ 1 ≤ n ∧ n ≤ 8 ∧ xs.length ≤ 500 ∧
  (∀ t k H', Same H H' → H' t = some (.tup [.str "odd", .int ((k : Nat) : Int)]) → oddAt ss k → Q (.ref t) H') ∧
  (∀ t l us rs H', Same H H' → H' t = some (.tup [.str "ring", .ref l]) → H' l = some (.lst us) → PrL H' us rs → RingD n ss rs → Q (.ref t) H') ∧
  (∀ t a ws H', Same H H' → H' t = some (.tup [.str "weights", .ref a]) → H' a = some (.tup (ws.map V.int)) → WgtW n ss ws → Q (.ref t) H')
theorem sc_wo : FnScope ["n", "sightings", "shares", "weights", "root", "part", "ring"] ["n", "sightings"] (defScope s_weights_of) := ⟨rfl, rfl, rfl, by decide +kernel, rfl, by decide +kernel, by decide +kernel⟩
theorem rdds_or {H : Hp} : ∀ {ys : List V} {ss : List Sg}, ys.length = ss.length → (∀ (i : Nat) v, ys[i]? = some v → ∃ s, ss[i]? = some s ∧ ORt H v (shQ s)) → RdDs H ys (ss.map fun s => oD (shQ s))
  | [], [], _, _ => .nil
  | [], _ :: _, h, _ => by simp at h
  | _ :: _, [], h, _ => by simp at h
  | y :: ys, s :: ss, h, k => by
    obtain ⟨s', e, o⟩ := k 0 y rfl
    have : s = s' := by simpa using e
    subst this
    exact .cons o.rd (rdds_or (by simpa using h) fun i v e => by simpa using k (i + 1) v (by simpa using e))
theorem oD_lay (o : Option Rat) : (oD o).canLay0 = true := by cases o <;> rfl
theorem oD_non (o : Option Rat) : PyData.eqv (oD o) .none = o.isNone := by cases o <;> rfl
theorem all_or_first {ss : List Sg} : (∀ s ∈ ss, shQ s ≠ none) ∨ ∃ k, oddAt ss k := by
  induction ss with
  | nil => exact .inl fun s h => by cases h
  | cons s ss ih =>
    by_cases h : shQ s = none
    · exact .inr ⟨0, ⟨s, rfl, h⟩, fun j x hj => absurd hj (Nat.not_lt_zero _)⟩
    · rcases ih with h' | ⟨k, ⟨x, e, hx⟩, hk⟩
      · exact .inl fun x hx => by
          rcases List.mem_cons.mp hx with rfl | hx
          · exact h
          · exact h' x hx
      · refine .inr ⟨k + 1, ⟨x, by simpa using e, hx⟩, fun j y hj e' => ?_⟩
        cases j with
        | zero => have : s = y := by simpa using e'
                  rw [← this]; exact h
        | succ j => exact hk j y (by omega) (by simpa using e')
theorem ok_wo (D : Df K mg "weights_of" s_weights_of ["n", "sightings"] []) (T : TxB K mg) (cSh : Cal P w K mg base "share_of" 4 ["sighting"] [] spSh) (cPa : Cal P w K mg base "part_of" 4 ["root", "sightings", "shares"] [] spPa) (cRi : Cal P w K mg base "ring_in" 4 ["part", "sightings", "shares"] [] spRi) (cLw : Cal P w K mg base "least_weights" 4 ["part"] [] spLw) : Cal P w K mg base "weights_of" 5 ["n", "sightings"] [] spWo := by
  refine D.calB (k := 4) sc_wo (fun vs H Q E h => by obtain ⟨_, _, _, _, _, rfl, _⟩ := h; rfl) (fun f cdv A outer s H vs Q E hr h => ?_)
  obtain ⟨kd, n, as, xs, ss, rfl, has, hss, hin, hsz, n1, n8, hxl, k1, k2, k3⟩ := h
  have hu := hr.units
  have hu1 : (A.deeper (PyProof.Rows.envOfC "weights_of" (defScope s_weights_of) s.heap.objs.size f cdv)).units + 1 < cLine := by omega
  refine ⟨_, (bx_scons (Bx.mk (ps_setC (i := 2) (NB := ["sighting"]) (FR := []) (js := []) rfl rfl (fun _ _ h => by cases h) .nil rfl (by decide +kernel) rfl (by decide +kernel) sc_wo.nd rfl rfl (by rfl) (pi_seqK (K := K) rfl (pv 1)) (by intro _ _ _; refine ⟨?_, ?_, ?_⟩; (exact (pg_name (i := 0) (show List.Nodup (["sighting"] : List Str) by decide +kernel) rfl (Or.inl rfl))); (exact pts_nil); (exact (pe_c cSh hr (pa_cons (pv 0) pa_nil))))))
    (bx_scons (Bx.mk (ps_if (pt_cmpR (op_inN hu) pe_non (pv 2) rfl) (pss_one (ps_ret (pe_tup (pa_cons pe_str (pa_cons (pe_bm PySem.F.plainAttrs_list PySem.F.slot_list_index PySem.F.type_list_index (mt_indexN hu) (pv 2) (pa_cons pe_non pa_nil)) pa_nil))))) pss_nil))
    (bx_scons (Bx.mk (ps_set (i := 3) sc_wo.nd rfl (Or.inr rfl) pe_dnewK))
    (bx_scons (Bx.mk (ps_for PassesOwn.never rfl (pi_range1 rfl T.nRange (pa_cons (pv 0) pa_nil)) (pg_name (i := 4) sc_wo.nd rfl (Or.inl rfl)) (pss_one (ps_if (pt_cmp (pc_dnotin hu1 (pv 4) (pv 3)) rfl) (pss_cons (ps_set (i := 5) sc_wo.nd rfl (Or.inl rfl) (pe_c cPa hr (pa_cons (pv 4) (pa_cons (pv 1) (pa_cons (pv 2) pa_nil)))))
    (pss_cons (ps_set (i := 6) sc_wo.nd rfl (Or.inl rfl) (pe_c cRi hr (pa_cons (pv 5) (pa_cons (pv 1) (pa_cons (pv 2) pa_nil)))))
    (pss_cons (ps_if (pt_cmpR op_notN (pv 6) pe_non (nomark _)) (pss_one (ps_ret (pe_tup (pa_cons pe_str (pa_cons (pv 6) pa_nil))))) pss_nil)
    (pss_one (ps_expr (pe_dupd (pv 3) (pe_c cLw hr (pa_cons (pv 5) pa_nil)))))))) pss_nil))))
    (Bx.mk (pss_one (ps_ret (pe_tup (pa_cons pe_str (pa_cons (pe_callTy call_tuple_of (by rfl) T.nTuple PyProof.Rows.boot_tuple (pa_cons (pe_compC (NB := ["ball"]) (FR := ["weights"]) (js := [3]) rfl rfl (fun _ _ h => h) (.cons rfl rfl rfl ⟨_, rfl⟩ .nil) rfl (by decide +kernel) rfl (by decide +kernel) (pi_range1 rfl T.nRange (pa_cons (pv 0) pa_nil)) (by intro _ _ _; refine ⟨?_, ?_, ?_⟩; (exact (pg_name (i := 0) (show List.Nodup (["ball", "weights"] : List Str) by decide +kernel) rfl (Or.inl rfl))); (exact pts_nil); (exact (pe_dget hu1 (pv 1) (pv 0) (fun _ _ => rfl))))) pa_nil)) pa_nil)))))))))), ?_⟩
  refine ⟨_, rfl, kd, as, rfl, ⟨xs, has.sq⟩, fun al hal => ?_⟩
  refine compC_each (js := []) (n := 1) (xs := xs) (fun i v G => ∃ s, ss[i]? = some s ∧ ORt G v (shQ s)) (fun i v H H' e ⟨s, a, b⟩ => ⟨s, a, b.tups e⟩) hal (runs_seq (k := kd) has) (small1000 (by omega)) ?_ ?_
  · intro i x zs H2 Q' ex hz s2 hq'
    obtain ⟨z1, rfl⟩ := len1 hz
    obtain ⟨sg, es, hx, zg⟩ := hss.at ex
    exact ⟨rfl, _, rfl, x, sg, rfl, hx.tups (.of s2), zg, fun u H3 s3 o3 => hq' _ _ s3 ⟨sg, es, o3⟩⟩
  intro ys H1 s1 g1 hyl hyR
  have hyl' : ys.length = ss.length := by rw [hyl, hss.1]
  have hrd := rdds_or hyl' hyR
  dsimp only [gName]
  refine ⟨_, rfl, al, ys, _, rfl, rfl, g1, hrd, fun c hc => ?_, _, rfl, ?_⟩
  · obtain ⟨sg, _, rfl⟩ := List.mem_map.mp hc
    exact oD_lay _
  have ean : (ss.map fun s => oD (shQ s)).any (fun c => PyData.eqv c .none) = ss.any fun s => (shQ s).isNone := by
    rw [List.any_map]
    congr 1
    funext s
    exact oD_non _
  rw [ean]
  rcases all_or_first (ss := ss) with hno | ⟨kk, ⟨so, eo, ho⟩, hfirst⟩
  rotate_left
  · have : (ss.any fun s => (shQ s).isNone) = true := List.any_eq_true.mpr ⟨so, List.mem_of_getElem? eo, by rw [ho]; rfl⟩
    rw [this]
    refine iteT ?_
    refine ⟨_, rfl, .inl ⟨rfl, _, SqL.of g1⟩, al, ys, _, kk, rfl, rfl, g1, hrd, fun c hc => ?_, by omega, ⟨oD (shQ so), by rw [List.getElem?_map, eo]; rfl, by rw [ho]; rfl⟩, fun j c hj ec => ?_, by show 2 ≤ sizeLine; decide, fun t ht => ?_⟩
    · obtain ⟨sg, _, rfl⟩ := List.mem_map.mp hc
      exact oD_lay _
    · rw [List.getElem?_map] at ec
      obtain ⟨sg, es, rfl⟩ := Option.map_eq_some_iff.mp ec
      rw [oD_non]
      cases hh : shQ sg with
      | none => exact absurd hh (hfirst j sg hj es)
      | some q => rfl
    · exact k1 t kk _ (s1.trans (Same.upd ht)) upd_same ⟨⟨so, eo, ho⟩, hfirst⟩
  have : (ss.any fun s => (shQ s).isNone) = false := by
    rw [List.any_eq_false]
    intro s hs
    cases hh : shQ s with
    | none => exact absurd hh (hno s hs)
    | some q => simp
  rw [this]
  refine iteF ?_
  -- the shares
  obtain ⟨qs, hqs1, hqs2⟩ : ∃ qs : List Rat, QsOf ss qs ∧ QsL H1 ys qs := by
    refine ⟨ss.map fun s => (shQ s).getD 0, ⟨by simp, fun i s q e1 e2 => ?_⟩, ⟨by simp [hyl'], fun i q e => ?_⟩⟩
    · rw [List.getElem?_map, e1] at e2
      have e2 : (shQ s).getD 0 = q := by simpa using e2
      cases hh : shQ s with
      | none => exact absurd hh (hno s (List.mem_of_getElem? e1))
      | some q' => rw [hh] at e2; rw [← e2]; rfl
    · rw [List.getElem?_map] at e
      obtain ⟨sg, es, rfl⟩ := Option.map_eq_some_iff.mp e
      obtain ⟨v, ev⟩ : ∃ v, ys[i]? = some v := ⟨_, List.getElem?_eq_getElem (h := by rw [hyl']; exact (List.getElem?_eq_some_iff.mp es).1)⟩
      obtain ⟨s', es', o⟩ := hyR i v ev
      rw [es] at es'; cases es'
      cases hh : shQ sg with
      | none => exact absurd hh (hno sg (List.mem_of_getElem? es))
      | some q' =>
        rw [hh] at o
        obtain ⟨a, rfl, ha⟩ := o
        exact ⟨a, ev, ha⟩
  have hqz : QsZ qs := fun q hq => by
    obtain ⟨i, hi⟩ := List.getElem?_of_mem hq
    obtain ⟨sg, es⟩ : ∃ sg, ss[i]? = some sg := ⟨_, List.getElem?_eq_getElem (by rw [hqs1.1]; exact (List.getElem?_eq_some_iff.mp hi).1)⟩
    have hh := hqs1.2 i sg q es hi
    exact ⟨(shQ_some hh).2.2.2.2, hsz sg (List.mem_of_getElem? es) q hh⟩
  have has1 := has.same s1
  have hss1 := hss.tups (.of s1)
  clear hrd hyR ean this
  refine st_next ?_
  dsimp only
  intro dw hdw
  have hdwH : H dw = none := s1.free hdw
  have s2 := Same.upd (o := .dK []) hdw
  have g2 : upd H1 dw (.dK []) dw = some (.dK []) := upd_same
  generalize upd H1 dw (.dK []) = H2 at s2 g2
  dsimp only [gName]
  refine st_for ?_
  refine ⟨_, rfl, (n : Int), rfl, by omega, by omega, ?_⟩
  refine for_range (n := ((n : Int) - 0).toNat) (lo := 0) (fun i σ G => ∃ W z, z.length = 3 ∧ σ = some (.int (n : Int)) :: some (.ref as) :: some (.ref al) :: some (.ref dw) :: z ∧ Same H1 G ∧ G dw = some (.dK W) ∧ Wts n ss qs W ∧ W.length ≤ 8 * i ∧ (∀ r, r < i → (valV W (kI r)).isSome) ∧ (∀ b : Nat, (valV W (kI b)).isSome ↔ cov ss qs i b) ∧ ∀ r, r < i → ¬ cov ss qs r r → ∀ ms, PaF ss qs r ms → ∀ k, CnS ss qs ms k) ⟨[], [none, none, none], rfl, rfl, s2, g2, .nil, Nat.le_refl _, fun r h => absurd h (Nat.not_lt_zero _), fun b => ⟨fun h => (by cases h), fun h => (by cases h)⟩, fun r h => absurd h (Nat.not_lt_zero _)⟩ ?_ ?_
  · clear s2 g2
    rintro i σ G hi ⟨W, z, hz, rfl, SG, gdw, hW, hWl, hWr, hcv, hgo⟩
    match z, hz with
    | [y4, y5, y6], _ =>
    have hin' : i < n := by omega
    have gD : DGet G dw (.int (0 + (i : Int))) (valV W (kI i)) := by rw [Int.zero_add]; exact DGet.k (k := kI i) gdw
    refine ⟨_, rfl, _, rfl, dw, _, rfl, gD, _, rfl, ?_⟩
    cases hv : valV W (kI i) with
    | some v =>
      have ci : cov ss qs i i := (hcv i).mp (by rw [hv]; rfl)
      refine iteF ⟨W, _, rfl, rfl, SG, gdw, hW, by omega, fun r hr' => ?_, fun b => ?_, fun r hr' nc => ?_⟩
      · by_cases e : r = i
        · rw [e, hv]; rfl
        · exact hWr r (by omega)
      · rw [hcv b]
        exact ⟨fun h => .inl h, fun h => h.elim id fun h => absurd ci h.1⟩
      · by_cases e : r = i
        · rw [e] at nc; exact absurd ci nc
        · exact hgo r (by omega) nc
    | none =>
    have ci : ¬ cov ss qs i i := fun z => by
      have := (hcv i).mpr z
      rw [hv] at this; cases this
    refine iteT ?_
    refine ⟨_, rfl, _, rfl, _, rfl, kd, i, n, as, al, xs, ys, ss, qs, by rw [Int.zero_add]; rfl, has1.same SG, hss1.tups (.of SG), SG _ _ g1, hqs2.tups (.of SG), hqs1.1, hqz, hin, hin', n8, hxl, fun d kvs ms G2 s2 hd gd hpt hP hPF => ?_⟩
    dsimp only [gName]
    have S2 := SG.trans s2
    have gdw2 := s2 _ _ gdw
    have hdne : dw ≠ d := fun z => by rw [z, hd] at gdw; cases gdw
    refine ⟨_, rfl, _, rfl, _, rfl, kd, n, i, d, as, al, kvs, ms, xs, ys, ss, qs, rfl, gd, hpt, hP, has1.same S2, hss1.tups (.of S2), S2 _ _ g1, hqs2.tups (.of S2), hqs1.1, hqz, hin, n8, hxl, fun G3 s3 hcn => ?_, fun l us G3 kk sg q ei ej s3 gl hus e1 e2 m1 m2 b1 b2 hne hmn => ?_⟩
    · dsimp only [gName]
      refine ⟨_, rfl, rfl, _, rfl, ?_⟩
      rw [decide_eq_true (rfl : (V.non) = V.non)]
      refine iteF ?_
      have S3 := S2.trans s3
      have gdw3 := s3 _ _ gdw2
      refine ⟨_, rfl, dw, rfl, ⟨W, gdw3⟩, _, rfl, n, i, d, kvs, ms, ss, qs, rfl, s3 _ _ gd, hpt.same (same_del s3), hP.1, n8, fun dl G4 k4 hdl gdl => ?_⟩
      have gdw4 := k4 dw _ hdne gdw3
      have hdl' : dw ≠ dl := fun z => by rw [z, hdl] at gdw3; cases gdw3
      have hlk : (wKV ms ms).length ≤ 8 := by unfold wKV; rw [List.length_map]; have := hP.1.card; omega
      refine ⟨dl, W, _, rfl, gdw4, .inl gdl, hdl', szl (by omega), ?_⟩
      obtain ⟨a1, a2, a3⟩ := hW.add hP hcn n8
      have a4 : ∀ b, b ∈ keys ms → (valV (mergeK W (wKV ms ms)) (kI b)).isSome  := fun b hb => by
        obtain ⟨e, he, eb⟩ := hP.1.ent hb
        rw [(valV_merge (ms := ms) ms W b hP.1.nd).2 e he eb]; rfl
      refine ⟨mergeK W (wKV ms ms), _, rfl, rfl, fun b o e => ?_, upd_same, a1, ?_, fun r hr' => ?_, fun b => ?_, fun r hr' nc ms' hp' => ?_⟩
      · have nb : b ≠ d := fun z => by
          have := SG _ _ e
          rw [z, hd] at this; cases this
        rw [upd_ne (ne_of_none e hdw)]
        exact k4 b o nb (S3 _ _ e)
      · have := length_mergeK (wKV ms ms) W
        omega
      · by_cases e : r = i
        · rw [e]; exact a2
        · exact a3 r (hWr r (by omega))
      · have hm := valV_merge (ms := ms) ms W b hP.1.nd
        constructor
        · intro h
          by_cases hb : b ∈ keys ms
          · exact .inr ⟨ci, ms, hPF, hb⟩
          · refine .inl ((hcv b).mp ?_)
            rw [hm.1 hb] at h
            exact h
        · intro h
          rcases h with h | ⟨_, ms', hp', hb⟩
          · exact a3 b ((hcv b).mpr h)
          · rw [hp'.det hPF] at hb
            exact a4 b hb
      · by_cases e : r = i
        · subst e
          rw [hp'.det hPF]; exact hcn
        · exact hgo r (by omega) nc ms' hp'
    · dsimp only [gName]
      refine ⟨_, rfl, rfl, _, rfl, ?_⟩
      rw [decide_eq_false (show ¬ V.ref l = V.non from fun z => nomatch z)]
      refine iteT ?_
      refine ⟨_, rfl, by show 2 ≤ sizeLine; decide, fun t ht => ?_⟩
      have s4 := Same.upd (o := .tup [.str "ring", .ref l]) ht
      exact k2 t l us _ _ (s1.trans (S2.trans (s3.trans s4))) upd_same (s4 _ _ gl) (hus.same s4) ⟨qs, i, ms, kk, sg, q, ei, ej, hqs1, hP, e1, e2, m1, m2, b1, b2, hne, rfl, hPF, hmn, ci, hgo⟩
  · clear s2 g2
    rintro σ G ⟨W, z, hz, rfl, SG, gdw, hW, hWl, hWr, _, _⟩
    have eN : ((n : Int) - 0).toNat = n := by omega
    rw [eN] at hWr
    refine ⟨_, rfl, (n : Int), rfl, by omega, by omega, fun Dc hDc => ?_⟩
    have eN' : ((n : Int)).toNat = n := by omega
    refine compC_range (n := 1) (N := ((n : Int)).toNat) (fun i v _ => ∃ x, v = .int x ∧ valV W (kI i) = some (.int x)) (fun i v H H' _ h => h) hDc (szl (by omega)) ?_ ?_
    · intro i zs H3 Q' hi hz1 s3 hq'
      obtain ⟨z1, rfl⟩ := len1 hz1
      have hi' : i < n := by omega
      obtain ⟨v, hv⟩ := Option.isSome_iff_exists.mp (hWr i hi')
      obtain ⟨x, rfl, _⟩ := hW.val i v hv
      have gD : DGet H3 dw (.int (0 + (i : Int))) (some (.int x)) := by
        have := DGet.k (k := kI i) (s3 _ _ gdw)
        rw [hv] at this; rw [Int.zero_add]; exact this
      exact ⟨rfl, _, rfl, _, rfl, dw, _, rfl, gD, hq' _ _ (Same.refl _) ⟨x, rfl, hv⟩⟩
    · intro bv H3 s3 g3 hbl hbR
      rw [eN'] at hbl
      obtain ⟨ws, ew⟩ : ∃ ws : List Int, bv = ws.map V.int := by
        refine ⟨bv.map fun v => match v with | .int x => x | _ => 0, ?_⟩
        refine List.ext_getElem? fun i => ?_
        rw [List.map_map, List.getElem?_map]
        cases e : bv[i]? with
        | none => rfl
        | some v => obtain ⟨x, rfl, _⟩ := hbR i v e; rfl
      subst ew
      rw [List.length_map] at hbl
      have hws : ∀ (b : Nat) (x : Int), ws[b]? = some x → valV W (kI b) = some (.int x) := fun b x e => by
        obtain ⟨y, e1, e2⟩ := hbR b (.int x) (by rw [List.getElem?_map, e]; rfl)
        cases e1; exact e2
      refine ⟨Dc, _, rfl, .inl ⟨.of g3, fun ta hta => ⟨by show 2 ≤ sizeLine; decide, fun t ht => ?_⟩⟩⟩
      have s4 := Same.upd (o := .tup (ws.map V.int)) hta
      have s5 := Same.upd (o := .tup [.str "weights", .ref ta]) ht
      refine k3 t ta ws _ (s1.trans (SG.trans (s3.trans (s4.trans s5)))) upd_same (s5 _ _ upd_same) ⟨hbl, ⟨by omega, by omega, fun x hx => ?_⟩, hW.does hqs1 hin hbl hws, qs, hqs1, fun b x e => ?_⟩
      · obtain ⟨b, hb⟩ := List.getElem?_of_mem hx
        obtain ⟨y, e1, _, e2, _⟩ := hW.val b _ (hws b x hb)
        cases e1; exact e2.mono (by decide)
      · obtain ⟨y, e1, _, _, e2⟩ := hW.val b _ (hws b x e)
        cases e1; exact e2
end
end KK
end
section
set_option maxHeartbeats 8000000
set_option Elab.async false
set_option linter.all false
set_option maxRecDepth 100000
namespace KK
open PySem L2 KM
section
variable {P : Program} {w : World} {K : PySem.W.Frag} {mg : Str → Option Value} {base : Heap} {aN : Addr}
def spIs (K : PySem.W.Frag) : Sp := fun vs H Q _ => ∃ k a xs ss n w, vs = [.ref a, .int n, .int w] ∧ SqK k K H a xs ∧ SgL H xs ss ∧ xs.length ≤ 1000 ∧ ∀ H', Same H H' → Q (.bl (stepB ss (n, w))) H'
theorem sc_is : FnScope ["sightings", "number", "way"] ["sightings", "number", "way"] (defScope s_is_step) := ⟨rfl, rfl, rfl, by decide +kernel, rfl, by decide +kernel, by decide +kernel⟩
theorem ok_is (D : Df K mg "is_step" s_is_step ["sightings", "number", "way"] []) (T : TxB K mg) (cSh : Cal P w K mg base "share_of" 4 ["sighting"] [] spSh) : Cal P w K mg base "is_step" 5 ["sightings", "number", "way"] [] (spIs K) := by
  refine D.cal (k := 4) sc_is (fun vs H Q E h => by obtain ⟨_, _, _, _, _, _, rfl, _⟩ := h; rfl) (fun f cdv A outer s H vs Q E hr h => ?_)
  obtain ⟨kk, a, xs, ss, n, w, rfl, hq, hs, hl, k⟩ := h
  refine ⟨_, (pss_one (ps_ret (pe_and (pe_chain op_le op_lt pe_int (pv 1) (pe_callB call_len_seq (by rfl) T.nLen PySem.boot_len (pa_cons (pv 0) pa_nil))) (pe_and (pe_chain op_le op_le pe_int (pv 2) pe_int) (pe_one (pe_cmpR op_notN (pe_c cSh hr (pa_cons (pe_ix (ix_seqK (K := K) rfl) (pv 0) (pv 1) (fun _ _ => rfl)) pa_nil)) pe_non (nomark _))))))), ?_⟩
  have hsq : SqL K H a xs ∨ SqT K H a xs := by
    cases kk
    · exact .inl hq
    · exact .inr hq
  have kf : (¬ (0 ≤ n ∧ n < (ss.length : Int)) ∨ ¬ (0 ≤ w ∧ w ≤ 1)) → Q (.bl false) H := fun z => by
    have e : stepB ss (n, w) = false := by
      unfold stepB
      rcases z with z | z
      · rw [decide_eq_false z]; rfl
      · rw [decide_eq_false z]; simp
    have := k H (Same.refl _)
    rw [e] at this
    exact this
  refine ⟨_, rfl, _, _, rfl, rfl, _, rfl, ?_⟩
  by_cases c1 : 0 ≤ n
  rotate_left
  · rw [decide_eq_false c1]
    exact iteF ⟨false, rfl, iteF (kf (.inl fun z => c1 z.1))⟩
  rw [decide_eq_true c1]
  refine iteT ⟨_, rfl, a, xs, rfl, hsq, _, _, rfl, rfl, _, rfl, ?_⟩
  by_cases c2 : n < (xs.length : Int)
  rotate_left
  · rw [decide_eq_false c2]
    exact iteF (kf (.inl fun z => c2 (by rw [hs.1]; exact z.2)))
  rw [decide_eq_true c2]
  refine iteT ⟨_, rfl, _, _, rfl, rfl, _, rfl, ?_⟩
  by_cases c3 : 0 ≤ w
  rotate_left
  · rw [decide_eq_false c3]
    exact iteF ⟨false, rfl, iteF (kf (.inr fun z => c3 z.1))⟩
  rw [decide_eq_true c3]
  refine iteT ⟨_, _, rfl, rfl, _, rfl, ?_⟩
  by_cases c4 : w ≤ 1
  rotate_left
  · rw [decide_eq_false c4]
    exact iteF (kf (.inr fun z => c4 z.2))
  rw [decide_eq_true c4]
  have hl' := hs.1
  obtain ⟨sg, esg⟩ : ∃ sg, ss[n.toNat]? = some sg := ⟨_, List.getElem?_eq_getElem (h := by omega)⟩
  obtain ⟨v, ev, hv, zv⟩ := hs.2 _ _ esg
  have en : ((n.toNat : Nat) : Int) = n := by omega
  refine iteT ⟨_, rfl, _, rfl, kk, a, xs, n, v, rfl, rfl, hq, (by rw [← en]; exact atI_nat ev), v, sg, rfl, hv, zv, fun u H' s1 o1 => ⟨rfl, ?_⟩⟩
  have e : stepB ss (n, w) = (shQ sg).isSome := by
    unfold stepB
    rw [decide_eq_true (show 0 ≤ n ∧ n < (ss.length : Int) by omega), decide_eq_true (show 0 ≤ w ∧ w ≤ 1 from ⟨c3, c4⟩), esg]
    rfl
  have := k H' s1
  rw [e] at this
  cases hq : shQ sg with
  | none =>
    rw [hq] at o1 this
    cases (show u = .non from o1)
    exact this
  | some q =>
    rw [hq] at o1 this
    obtain ⟨r, rfl, _⟩ := o1
    exact this
end
end KK
end
section
set_option maxHeartbeats 8000000
set_option Elab.async false
set_option linter.all false
set_option maxRecDepth 100000
namespace KK
open PySem L2 KM
theorem stepB_at {H : Hp} {vs : List V} {ss : List Sg} (h : SgL H vs ss) {q : Int × Int} (hb : stepB ss q = true) : ∃ sg v, ss[q.1.toNat]? = some sg ∧ vs[q.1.toNat]? = some v ∧ SgAt H v sg ∧ ((q.1.toNat : Nat) : Int) = q.1 ∧ (q.2 = 0 ∨ q.2 = 1) ∧ SgZ sg ∧ ∃ x, shQ sg = some x := by
  unfold stepB at hb
  rw [Bool.and_eq_true, Bool.and_eq_true] at hb
  obtain ⟨h1, h2, h3⟩ := hb
  have h1 := of_decide_eq_true h1
  have h2 := of_decide_eq_true h2
  obtain ⟨x, hx⟩ := Option.isSome_iff_exists.mp h3
  obtain ⟨sg, e, hx⟩ := Option.bind_eq_some_iff.mp hx
  obtain ⟨v, a, b, c⟩ := h.2 _ _ e
  exact ⟨sg, v, e, a, b, by omega, by omega, c, x, hx⟩
theorem atI_pre {α : Type} {xs : List α} {i : Nat} (h : i < xs.length) : atI xs ((0 : Int) + (i : Int) - 1) = xs[preI xs.length i]? := by
  unfold preI
  split
  · rename_i z
    subst z
    have e : ixN xs.length ((0 : Int) + ((0 : Nat) : Int) - 1) = some (xs.length - 1) := by
      unfold ixN
      rw [if_neg (by decide)]
      rw [if_pos (by omega)]
      congr 1; omega
    unfold atI
    rw [e]; rfl
  · rename_i z
    have e : ((0 : Int) + (i : Int) - 1) = ((i - 1 : Nat) : Int) := by omega
    rw [e]
    obtain ⟨v, ev⟩ : ∃ v, xs[i - 1]? = some v := ⟨_, List.getElem?_eq_getElem (h := by omega)⟩
    rw [ev]; exact atI_nat ev
section
variable {P : Program} {w : World} {K : PySem.W.Frag} {mg : Str → Option Value} {base : Heap} {aN : Addr}
def spLr : Sp := fun vs H Q _ => ∃ n k1 k2 a r xs ss us rs, vs = [.int n, .ref a, .ref r] ∧ HSq k1 H a xs ∧ SgL H xs ss ∧ xs.length ≤ 1000 ∧ HSq k2 H r us ∧ PrL H us rs ∧ us.length ≤ 40 ∧ ∀ H', Same H H' → Q (.bl (ringB ss rs)) H'
theorem sc_lr : FnScope ["n", "sightings", "ring", "steps", "top", "bottom", "number", "way", "share"] ["n", "sightings", "ring"] (defScope s_lets_ring) := ⟨rfl, rfl, rfl, by decide +kernel, rfl, by decide +kernel, by decide +kernel⟩
theorem ok_lr (D : Df K mg "lets_ring" s_lets_ring ["n", "sightings", "ring"] []) (T : TxB K mg) (TF : TxF K mg aN) (cSh : Cal P w K mg base "share_of" 4 ["sighting"] [] spSh) (cIs : Cal P w K mg base "is_step" 5 ["sightings", "number", "way"] [] (spIs K)) : Cal P w K mg base "lets_ring" 6 ["n", "sightings", "ring"] [] spLr := by
  refine D.calB (k := 5) sc_lr (fun vs H Q E h => by obtain ⟨_, _, _, _, _, _, _, _, _, rfl, _⟩ := h; rfl) (fun f cdv A outer s H vs Q E hr h => ?_)
  obtain ⟨n, k1, k2, a, r, xs, ss, us, rs, rfl, ha, hss, hxl, hrr, hrs, hul, k⟩ := h
  have hr4 : Room 4 _ := hr.mono (by decide)
  refine ⟨_, (bx_scons (Bx.mk (ps_if (pt_not (pt_truth (pe_callB (call_all rfl) (by rfl) TF.nAll (by decide +kernel) (pa_cons (pe_compC (NB := ["number", "way"]) (FR := ["sightings"]) (js := [1]) rfl rfl (cl_snd (a := "steps") (b := "sightings") (by decide)) (.cons rfl rfl rfl ⟨_, rfl⟩ .nil) rfl (by decide +kernel) rfl (by decide +kernel) (pi_seqK (K := K) rfl (pv 2)) (by intro _ _ _; refine ⟨?_, ?_, ?_⟩; (exact (pg_tupK (K := K) (n := 2) rfl rfl (pgs_cons (pg_name (i := 0) (show List.Nodup (["number", "way", "sightings"] : List Str) by decide +kernel) rfl (Or.inl rfl)) (pgs_cons (pg_name (i := 1) (show List.Nodup (["number", "way", "sightings"] : List Str) by decide +kernel) rfl (Or.inl rfl)) pgs_nil)))); (exact pts_nil); (exact (pe_c cIs hr (pa_cons (pv 2) (pa_cons (pv 0) (pa_cons (pv 1) pa_nil))))))) pa_nil)) fun _ => rfl)) (pss_one (ps_ret pe_bl)) pss_nil))
    (bx_scons (Bx.mk (ps_set (i := 3) sc_lr.nd rfl (Or.inr rfl) (pe_compC (NB := ["number", "way"]) (FR := ["sightings"]) (js := [1]) rfl rfl (cl_snd (a := "steps") (b := "sightings") (by decide)) (.cons rfl rfl rfl ⟨_, rfl⟩ .nil) rfl (by decide +kernel) rfl (by decide +kernel) (pi_seqK (K := K) rfl (pv 2)) (by intro _ _ _; refine ⟨?_, ?_, ?_⟩; (exact (pg_tupK (K := K) (n := 2) rfl rfl (pgs_cons (pg_name (i := 0) (show List.Nodup (["number", "way", "sightings"] : List Str) by decide +kernel) rfl (Or.inl rfl)) (pgs_cons (pg_name (i := 1) (show List.Nodup (["number", "way", "sightings"] : List Str) by decide +kernel) rfl (Or.inl rfl)) pgs_nil)))); (exact pts_nil); (exact (pe_tup (pa_cons (pe_ix (ix_tupK (K := K) rfl) (pe_ix (ix_seqK (K := K) rfl) (pv 2) (pv 0) (fun _ _ => rfl)) (pv 1) (fun _ _ => rfl)) (pa_cons (pe_ix (ix_tupK (K := K) rfl) (pe_ix (ix_seqK (K := K) rfl) (pv 2) (pv 0) (fun _ _ => rfl)) (pe_op op_sub pe_int (pv 1)) (fun _ _ => rfl)) pa_nil))))))))
    (bx_scons (Bx.mk (ps_if (pt_not (pt_truth (pe_callB (call_all rfl) (by rfl) TF.nAll (by decide +kernel) (pa_cons (pe_compC (NB := ["at"]) (FR := ["steps"]) (js := [3]) rfl rfl cl_fst (.cons rfl rfl rfl ⟨_, rfl⟩ .nil) rfl (by decide +kernel) rfl (by decide +kernel) (pi_range1 rfl T.nRange (pa_cons (pe_callB call_len_seq (by rfl) T.nLen PySem.boot_len (pa_cons (pv 3) pa_nil)) pa_nil)) (by intro _ _ _; refine ⟨?_, ?_, ?_⟩; (exact (pg_name (i := 0) (show List.Nodup (["at", "steps"] : List Str) by decide +kernel) rfl (Or.inl rfl))); (exact pts_nil); (exact (pe_cmpR op_eq (pe_ix (ix_tupK (K := K) rfl) (pe_ix (ix_listK (K := K) rfl) (pv 1) (pv 0) (fun _ _ => rfl)) pe_int (fun _ _ => rfl)) (pe_ix (ix_tupK (K := K) rfl) (pe_ix (ix_listK (K := K) rfl) (pv 1) (pe_op op_sub (pv 0) pe_int) (fun _ _ => rfl)) pe_int (fun _ _ => rfl)) (nomark _))))) pa_nil)) fun _ => rfl)) (pss_one (ps_ret pe_bl)) pss_nil))
    (bx_scons (Bx.mk (ps_asg2 pe_int (pg_name (i := 4) sc_lr.nd rfl (Or.inl rfl)) (pg_name (i := 5) sc_lr.nd rfl (Or.inl rfl))))
    (bx_scons (Bx.mk (ps_for PassesOwn.never rfl (pi_seqK (K := K) rfl (pv 2)) (pg_tup rfl (pgs_cons (pg_name (i := 6) sc_lr.nd rfl (Or.inl rfl)) (pgs_cons (pg_name (i := 7) sc_lr.nd rfl (Or.inl rfl)) pgs_nil))) (pss_cons (ps_set (i := 8) sc_lr.nd rfl (Or.inl rfl) (pe_c cSh hr4 (pa_cons (pe_ix (ix_seqK (K := K) rfl) (pv 1) (pv 6) (fun _ _ => rfl)) pa_nil)))
    (pss_cons (ps_aug (i := 4) sc_lr.nd rfl (Or.inl rfl) (pe_ix (ix_tupK (K := K) rfl) (pv 8) (pv 7) (fun _ _ => rfl)) ip_mul)
    (pss_one (ps_aug (i := 5) sc_lr.nd rfl (Or.inl rfl) (pe_ix (ix_tupK (K := K) rfl) (pv 8) (pe_op op_sub pe_int (pv 7)) (fun _ _ => rfl)) ip_mul))))))
    (Bx.mk (pss_one (ps_ret (pe_cmpR op_ne (pv 4) (pv 5) (nomark _)))))))))), ?_⟩
  refine ⟨_, rfl, k2, r, rfl, ⟨us, hrr.sq⟩, fun D1 hD1 => ?_⟩
  refine compC_each (n := 2) (xs := us) (fun i v _ => ∃ q, rs[i]? = some q ∧ v = .bl (stepB ss q)) (fun i v H H' _ h => h) hD1 (runs_seq hrr) (szl (by omega)) ?_ ?_
  · intro i x zs H2 Q' ex hz s2 hq'
    obtain ⟨q, t, eq, rfl, ht⟩ := hrs.at ex
    match zs, hz with
    | [z1, z2], _ =>
    refine ⟨t, _, rfl, .of (s2 _ _ ht), rfl, _, _, rfl, _, _, rfl, rfl, rfl, ?_⟩
    refine ⟨_, rfl, _, rfl, _, rfl, k1, a, xs, ss, q.1, q.2, rfl, (ha.same s2).sq, hss.tups (.of s2), hxl, fun H6 s6 => hq' _ _ s6 ⟨q, eq, rfl⟩⟩
  intro ys H1 s1 hD1' hyl hyR
  have ey := list_of_map (f := fun q => V.bl (stepB ss q)) (by rw [hyl, hrs.1]) hyR
  refine ⟨D1, rs.map (stepB ss), rfl, SqL.of (by rw [hD1', ey, List.map_map]; rfl), _, rfl, ?_⟩
  have e0 : (rs.map (stepB ss)).all id = rs.all (stepB ss) := by rw [List.all_map]; rfl
  rw [e0]
  cases c1 : rs.all (stepB ss) with
  | false =>
    refine iteT ?_
    have := k H1 s1
    unfold ringB at this
    rw [c1] at this
    exact this
  | true =>
  refine iteF ?_
  have hall : ∀ q ∈ rs, stepB ss q = true := List.all_eq_true.mp c1
  have ha1 := ha.same s1
  have hr1 := hrr.same s1
  have hss1 := hss.tups (.of s1)
  have hrs1 := hrs.tups (.of s1)
  clear ey e0 hyR hyl hD1' hD1 ha hrr hss hrs
  -- steps
  refine ⟨_, rfl, k2, r, rfl, ⟨us, hr1.sq⟩, fun D2 hD2 => ?_⟩
  refine compC_each (n := 2) (xs := us) (fun i v G => ∃ q t, rs[i]? = some q ∧ v = .ref t ∧ G t = some (.tup [.int (endB ss q).1, .int (endB ss q).2])) (fun i v H H' e ⟨q, t, a, b, c⟩ => ⟨q, t, a, b, e _ _ c⟩) hD2 (runs_seq hr1) (szl (by omega)) ?_ ?_
  · intro i x zs H2 Q' ex hz s2 hq'
    obtain ⟨q, t, eq, rfl, ht⟩ := hrs1.at ex
    match zs, hz with
    | [z1, z2], _ =>
    obtain ⟨sg, v, esg, ev, hv, en, hw, zg, x0, hx0⟩ := stepB_at hss1 (hall q (List.mem_of_getElem? eq))
    obtain ⟨p1, p2, p3, p4, p5, rfl, hsg, _⟩ := hv
    refine ⟨t, _, rfl, .of (s2 _ _ ht), rfl, _, _, rfl, _, _, rfl, rfl, rfl, ?_⟩
    have sq := (ha1.same s2).sq (K := K)
    have ai : atI xs q.1 = some (.ref p1) := by rw [← en]; exact atI_nat ev
    have hsg2 := s2 _ _ hsg
    obtain ⟨q1, q2⟩ := q
    have hw : q2 = 0 ∨ q2 = 1 := hw
    have ee : endB ss (q1, q2) = if q2 = 0 then (sg.i, sg.j) else (sg.j, sg.i) := by unfold endB; rw [show ss[(q1, q2).1.toNat]? = some sg from esg]
    rcases hw with rfl | rfl
    · refine ⟨_, rfl, _, rfl, k1, a, xs, q1, _, rfl, rfl, sq, ai, _, rfl, p1, _, 0, .int sg.i, rfl, rfl, .of hsg2, rfl, ?_⟩
      refine ⟨_, rfl, _, rfl, k1, a, xs, q1, _, rfl, rfl, sq, ai, _, rfl, _, _, rfl, rfl, p1, _, 1 - 0, .int sg.j, rfl, rfl, .of hsg2, rfl, ?_⟩
      refine ⟨by show 2 ≤ sizeLine; decide, fun t2 ht2 => ?_⟩
      exact hq' _ _ (Same.upd ht2) ⟨(q1, 0), t2, eq, rfl, by rw [ee]; exact upd_same⟩
    · refine ⟨_, rfl, _, rfl, k1, a, xs, q1, _, rfl, rfl, sq, ai, _, rfl, p1, _, 1, .int sg.j, rfl, rfl, .of hsg2, rfl, ?_⟩
      refine ⟨_, rfl, _, rfl, k1, a, xs, q1, _, rfl, rfl, sq, ai, _, rfl, _, _, rfl, rfl, p1, _, 1 - 1, .int sg.i, rfl, rfl, .of hsg2, rfl, ?_⟩
      refine ⟨by show 2 ≤ sizeLine; decide, fun t2 ht2 => ?_⟩
      exact hq' _ _ (Same.upd ht2) ⟨(q1, 1), t2, eq, rfl, by rw [ee]; exact upd_same⟩
  intro ys H2 s2 hD2' hyl hyR
  dsimp only [gName]
  have hPE : PrL H2 ys (rs.map (endB ss)) := by
    refine ⟨by rw [hyl, hrs1.1, List.length_map], fun i e h => ?_⟩
    rw [List.getElem?_map] at h
    obtain ⟨q, eq, rfl⟩ := Option.map_eq_some_iff.mp h
    obtain ⟨v, ev⟩ : ∃ v, ys[i]? = some v := ⟨_, List.getElem?_eq_getElem (h := by rw [hyl, hrs1.1]; exact (List.getElem?_eq_some_iff.mp eq).1)⟩
    obtain ⟨q', t, eq', rfl, ht⟩ := hyR i v ev
    rw [eq] at eq'; cases eq'
    exact ⟨t, ev, ht⟩
  have ha2 := ha1.same s2
  have hr2 := hr1.same s2
  have hss2 := hss1.tups (.of s2)
  have hrs2 := hrs1.tups (.of s2)
  have S2 := s1.trans s2
  have hyl' : ys.length = rs.length := by rw [hyl, hrs1.1]
  have hrl : rs.length ≤ 40 := by rw [← hrs1.1]; exact hul
  generalize hes : rs.map (endB ss) = es at hPE
  have hel : ys.length = es.length := hPE.1
  clear hyR hyl hD2 ha1 hr1 hss1 hrs1 s1 s2
  -- joined
  refine ⟨_, rfl, D2, ys, rfl, .inl (SqL.of hD2'), _, rfl, by omega, by omega, fun D3 hD3 => ?_⟩
  refine compC_range (n := 1) (N := ((ys.length : Int)).toNat) (fun i v _ => v = .bl (decide ((es[preI es.length i]?.getD (0, 0)).2 = (es[i]?.getD (0, 0)).1))) (fun i v H H' _ h => h) hD3 (szl (by omega)) ?_ ?_
  · intro i zs H3 Q' hi hz s3 hq'
    obtain ⟨z1, rfl⟩ := len1 hz
    refine ⟨rfl, ?_⟩
    have hi' : i < es.length := by omega
    obtain ⟨t1, e1, g1⟩ := hPE.2 i es[i] (List.getElem?_eq_getElem hi')
    have hp' : preI es.length i < es.length := by unfold preI; split <;> omega
    obtain ⟨t2, e2, g2⟩ := hPE.2 (preI es.length i) es[preI es.length i] (List.getElem?_eq_getElem hp')
    have a1 : atI ys ((0 : Int) + (i : Int)) = some (.ref t1) := by rw [Int.zero_add]; exact atI_nat e1
    have a2 : atI ys ((0 : Int) + (i : Int) - 1) = some (.ref t2) := by
      rw [← e2, ← hel]; exact atI_pre (by omega)
    refine ⟨_, rfl, _, rfl, D2, ys, _, _, rfl, rfl, .of (s3 _ _ hD2'), a1, t1, _, 0, _, rfl, rfl, .of (s3 _ _ g1), rfl, ?_⟩
    refine ⟨_, rfl, _, rfl, _, _, rfl, rfl, D2, ys, _, _, rfl, rfl, .of (s3 _ _ hD2'), a2, t2, _, 1, _, rfl, rfl, .of (s3 _ _ g2), rfl, ?_⟩
    refine ⟨rfl, hq' _ _ (Same.refl _) ?_⟩
    rw [List.getElem?_eq_getElem hp', List.getElem?_eq_getElem hi', Option.getD_some, Option.getD_some]
    exact congrArg V.bl (by rw [Bool.eq_iff_iff]; simp; exact eq_comm)
  intro bsv H3 s3 hD3' hbl hbR
  have eb : bsv = (List.range es.length).map (fun i => V.bl (decide ((es[preI es.length i]?.getD (0, 0)).2 = (es[i]?.getD (0, 0)).1))) := by
    refine list_of_map (by rw [hbl, List.length_range]; omega) fun i v e => ⟨i, ?_, hbR i v e⟩
    have := (List.getElem?_eq_some_iff.mp e).1
    rw [List.getElem?_range (by omega)]
  refine ⟨D3, (List.range es.length).map (fun i => decide ((es[preI es.length i]?.getD (0, 0)).2 = (es[i]?.getD (0, 0)).1)), rfl, SqL.of (by rw [hD3', eb, List.map_map]; rfl), _, rfl, ?_⟩
  have e0 : ((List.range es.length).map (fun i => decide ((es[preI es.length i]?.getD (0, 0)).2 = (es[i]?.getD (0, 0)).1))).all id = linkB es := by rw [List.all_map]; rfl
  rw [e0]
  have S3 := S2.trans s3
  cases c2 : linkB es with
  | false =>
    refine iteT ?_
    have := k H3 S3
    unfold ringB at this
    rw [hes, c1, c2] at this
    exact this
  | true =>
  refine iteF ?_
  have ha3 := ha2.same s3
  have hr3 := hr2.same s3
  have hss3 := hss2.tups (.of s3)
  have hrs3 := hrs2.tups (.of s3)
  have k' : ∀ H', Same H3 H' → Q (.bl (decide ((prodB (rs.map (facB ss))).1 ≠ (prodB (rs.map (facB ss))).2))) H' := fun H' s' => by
    have := k H' (S3.trans s')
    unfold ringB at this
    rw [hes, c1, c2] at this
    exact this
  clear k e0 eb hbR hbl hD3' ha2 hr2 hss2 hrs2 hD2' hes hel hPE c2 S3 s3 S2 hD3
  refine ⟨_, rfl, k2, r, rfl, ⟨us, hr3.sq⟩, ?_⟩
  refine for_seq (k := k2) (K := K) (a := r) (xs := us) (fun i σ G => ∃ z t, z.length = 3 ∧ t = prodB ((rs.map (facB ss)).take i) ∧ σ = some (.int n) :: some (.ref a) :: some (.ref r) :: some (.ref D2) :: some (.int t.1) :: some (.int t.2) :: z ∧ Bd (6100 * i + 1) t.1 ∧ Bd (6100 * i + 1) t.2 ∧ Same H3 G)
    ⟨_, (1, 1), rfl, rfl, rfl, show (1 : Int).natAbs < 2 ^ 1 by decide, show (1 : Int).natAbs < 2 ^ 1 by decide, Same.refl _⟩ (fun i σ G ⟨_, _, _, _, _, _, _, s4⟩ => (hr3.same s4).sq) ?_ ?_
  · rintro i x σ G ex ⟨z, t, hz, et, rfl, b1, b2, s4⟩
    match z, hz with
    | [z1, z2, z3], _ =>
    obtain ⟨q, tq, eq, rfl, htq⟩ := hrs3.at ex
    obtain ⟨sg, v, esg, ev, hv, en, hw, zg, x0, hx0⟩ := stepB_at hss3 (hall q (List.mem_of_getElem? eq))
    have i40 : i < 40 := by
      have := (List.getElem?_eq_some_iff.mp ex).1
      omega
    have ai : atI xs q.1 = some v := by rw [← en]; exact atI_nat ev
    obtain ⟨q1, q2⟩ := q
    have hw : q2 = 0 ∨ q2 = 1 := hw
    refine ⟨tq, _, rfl, .of (s4 _ _ htq), rfl, _, _, rfl, _, _, rfl, rfl, ?_⟩
    refine ⟨_, rfl, _, rfl, k1, a, xs, q1, _, rfl, rfl, (ha3.same s4).sq, ai, v, sg, rfl, hv.tups (.of s4), zg, fun u G5 s5 o5 => ?_⟩
    rw [hx0] at o5
    obtain ⟨ru, rfl, hru⟩ := o5
    have zx := shQ_sz zg hx0
    have ef : facB ss (q1, q2) = if q2 = 0 then (x0.num, (x0.den : Int)) else ((x0.den : Int), x0.num) := by
      unfold facB
      rw [show ss[(q1, q2).1.toNat]? = some sg from esg]
      show (match shQ sg with | some q => if q2 = 0 then (q.num, (q.den : Int)) else ((q.den : Int), q.num) | none => (1, 1)) = _
      rw [hx0]
    have en : prodB ((rs.map (facB ss)).take (i + 1)) = (t.1 * (facB ss (q1, q2)).1, t.2 * (facB ss (q1, q2)).2) := by
      rw [tk_snoc (x := facB ss (q1, q2)) (by rw [List.getElem?_map, eq]; rfl), et]
      unfold prodB
      rw [List.foldl_append]; rfl
    have B : Bd 1000000 t.1 ∧ Bd 1000000 t.2 := ⟨b1.mono (by omega), b2.mono (by omega)⟩
    have Bx0 : Bd 1000000 x0.num ∧ Bd 1000000 (x0.den : Int) := ⟨zx.1.mono (by decide), zx.2.mono (by decide)⟩
    have c1' : Bd (6100 * (i + 1) + 1) (t.1 * x0.num) := Bd.mono (b1.mul zx.1) (by omega)
    have c2' : Bd (6100 * (i + 1) + 1) (t.2 * x0.num) := Bd.mono (b2.mul zx.1) (by omega)
    have c3' : Bd (6100 * (i + 1) + 1) (t.1 * (x0.den : Int)) := Bd.mono (b1.mul zx.2) (by omega)
    have c4' : Bd (6100 * (i + 1) + 1) (t.2 * (x0.den : Int)) := Bd.mono (b2.mul zx.2) (by omega)
    rcases hw with rfl | rfl
    · refine ⟨_, rfl, _, rfl, _, rfl, ru, _, 0, _, rfl, rfl, .of hru, rfl, _, _, rfl, rfl, ⟨B.1, Bx0.1⟩, ?_⟩
      refine ⟨_, rfl, _, rfl, _, rfl, _, _, rfl, rfl, ru, _, 1 - 0, _, rfl, rfl, .of hru, rfl, _, _, rfl, rfl, ⟨B.2, Bx0.2⟩, ?_⟩
      exact ⟨_, _, rfl, by rw [en, ef], rfl, c1', c4', s4.trans s5⟩
    · refine ⟨_, rfl, _, rfl, _, rfl, ru, _, 1, _, rfl, rfl, .of hru, rfl, _, _, rfl, rfl, ⟨B.1, Bx0.2⟩, ?_⟩
      refine ⟨_, rfl, _, rfl, _, rfl, _, _, rfl, rfl, ru, _, 1 - 1, _, rfl, rfl, .of hru, rfl, _, _, rfl, rfl, ⟨B.2, Bx0.1⟩, ?_⟩
      exact ⟨_, _, rfl, by rw [en, ef], rfl, c3', c2', s4.trans s5⟩
  · rintro σ G ⟨z, t, hz, et, rfl, b1, b2, s4⟩
    rw [List.take_of_length_le (by rw [List.length_map, hrs3.1]; exact Nat.le_refl _)] at et
    refine ⟨_, rfl, _, rfl, rfl, ?_⟩
    have := k' G s4
    rw [← et] at this
    rw [vint_dec, show (!decide (t.1 = t.2)) = decide (t.1 ≠ t.2) by simp]
    exact this
end
end KK
end
section
set_option maxHeartbeats 8000000
set_option Elab.async false
set_option linter.all false
set_option maxRecDepth 100000
namespace KK
open PySem L2 KM
def Lay (n : Nat) (d : PyData) : Prop := PyData.canLay0 d = true ∧ PyData.depth d ≤ n
theorem lays {n : Nat} : ∀ {ds : List PyData}, (∀ d ∈ ds, Lay n d) → PyData.canLayAll0 ds = true ∧ PyData.depthAll ds ≤ n
  | [], _ => ⟨rfl, Nat.zero_le _⟩
  | d :: ds, h => by
    obtain ⟨h1, h2⟩ := lays (ds := ds) fun e m => h e (List.mem_cons_of_mem _ m)
    obtain ⟨h3, h4⟩ := h d (List.mem_cons_self ..)
    refine ⟨?_, ?_⟩
    · show (PyData.canLay0 d && _) = true
      rw [h1, h3]; rfl
    · show max (PyData.depth d) _ ≤ n
      omega
theorem Lay.tup {n : Nat} {ds : List PyData} (h : ∀ d ∈ ds, Lay n d) : Lay (n + 1) (.tuple ds) := ⟨(lays h).1, Nat.succ_le_succ (lays h).2⟩
theorem Lay.mono {m n : Nat} {d : PyData} (h : Lay m d) (e : m ≤ n) : Lay n d := ⟨h.1, Nat.le_trans h.2 e⟩
theorem Lay.int (i : Int) : Lay 0 (.int i) := ⟨rfl, Nat.le_refl _⟩
theorem Lay.non : Lay 0 .none := ⟨rfl, Nat.le_refl _⟩
theorem Lay.shaped {n : Nat} {d : PyData} (h : Lay n d) (e : n ≤ 64) : SeqAt.shaped d = true := by
  show (_ && _) = true
  rw [h.1, decide_eq_true (Nat.le_trans h.2 e)]; rfl
theorem Lay.self {n : Nat} {d : PyData} (h : Lay n d) : PyData.eqv d d = true := SeqAt.eqv_refl _ h.1
theorem Lay.lst {n : Nat} {ds : List PyData} (h : ∀ d ∈ ds, Lay n d) : Lay (n + 1) (.list ds) := ⟨(lays h).1, Nat.succ_le_succ (lays h).2⟩
def prD (e : Int × Int) : PyData := .tuple [.int e.1, .int e.2]
theorem lay_pr (e : Int × Int) : Lay 1 (prD e) := Lay.tup fun d m => by
  rcases List.mem_cons.mp m with rfl | m
  · exact .int _
  · rcases List.mem_cons.mp m with rfl | m
    · exact .int _
    · cases m
theorem lay_prs (es : List (Int × Int)) : Lay 2 (.list (es.map prD)) := Lay.lst fun d m => by obtain ⟨e, _, rfl⟩ := List.mem_map.mp m; exact lay_pr e
theorem PrL.rds {H : Hp} : ∀ {us : List V} {rs : List (Int × Int)}, PrL H us rs → RdDs H us (rs.map prD)
  | [], [], _ => .nil
  | [], _ :: _, h => by have := h.1; simp at this
  | _ :: _, [], h => by have := h.1; simp at this
  | u :: us, r :: rs, h => by
    obtain ⟨t, a, b⟩ := h.2 0 r rfl
    have a : u = .ref t := by simpa using a
    subst a
    exact .cons (.tup b (.cons (.int _) (.cons (.int _) .nil))) (PrL.rds ⟨by simpa using h.1, fun i q e => by simpa using h.2 (i + 1) q (by simpa using e)⟩)
theorem stepB_n {ss : List Sg} {q : Int × Int} (hb : stepB ss q = true) : 0 ≤ q.1 ∧ q.1 < (ss.length : Int) ∧ 0 ≤ q.2 ∧ q.2 ≤ 1 := by
  unfold stepB at hb
  rw [Bool.and_eq_true, Bool.and_eq_true] at hb
  have h1 := of_decide_eq_true hb.1
  have h2 := of_decide_eq_true hb.2.1
  exact ⟨h1.1, h1.2, h2⟩
theorem inV_01 (w : Int) : (if true = true then !inV (.int w) [.int 0, .int 1] else inV (.int w) [.int 0, .int 1]) = !decide (w = 0 ∨ w = 1) := by
  rw [if_pos rfl]
  congr 1
  unfold inV
  simp only [List.any_cons, List.any_nil, Bool.or_false]
  by_cases h0 : w = 0
  · subst h0; rfl
  by_cases h1 : w = 1
  · subst h1; rfl
  rw [decide_eq_false (by omega)]
  have e0 : eqV (.int 0) (.int w) = false := by simp [eqV]; omega
  have e1 : eqV (.int 1) (.int w) = false := by simp [eqV]; omega
  rw [e0, e1]; rfl
section
variable {P : Program} {w : World} {K : PySem.W.Frag} {mg : Str → Option Value} {base : Heap} {aN : Addr}
def spIr : Sp := fun vs H Q _ => ∃ a r xs ss us rs, vs = [.ref a, .ref r] ∧ H a = some (.lst xs) ∧ SgL H xs ss ∧ xs.length ≤ 1000 ∧ H r = some (.lst us) ∧ PrL H us rs ∧ us.length ≤ 40 ∧ ∀ H', Same H H' → Q (.bl (ringB ss rs)) H'
theorem sc_ir : FnScope ["sightings", "ring", "ends", "top", "bottom", "number", "way", "share"] ["sightings", "ring"] (defScope s_law_is_ring) := ⟨rfl, rfl, rfl, by decide +kernel, rfl, by decide +kernel, by decide +kernel⟩
theorem ok_ir (D : Df K mg "_law_is_ring" s_law_is_ring ["sightings", "ring"] []) (T : TxB K mg) (TF : TxF K mg aN) (cSh : Cal P w K mg base "_law_share" 4 ["sighting"] [] spSh) : Cal P w K mg base "_law_is_ring" 5 ["sightings", "ring"] [] spIr := by
  refine D.calB (k := 4) sc_ir (fun vs H Q E h => by obtain ⟨_, _, _, _, _, _, rfl, _⟩ := h; rfl) (fun f cdv A outer s H vs Q E hr h => ?_)
  obtain ⟨a, r, xs, ss, us, rs, rfl, ha, hss, hxl, hrr, hrs, hul, k⟩ := h
  have hu := hr.units
  refine ⟨_, (bx_scons (Bx.mk (ps_set (i := 2) sc_ir.nd rfl (Or.inr rfl) (pe_lst pa_nil)))
    (bx_scons (Bx.mk (ps_asg (pe_tup (pa_cons pe_int (pa_cons pe_int pa_nil))) (pg_tup rfl (pgs_cons (pg_name (i := 3) sc_ir.nd rfl (Or.inl rfl)) (pgs_cons (pg_name (i := 4) sc_ir.nd rfl (Or.inl rfl)) pgs_nil)))))
    (bx_scons (Bx.mk (ps_for PassesOwn.never rfl (pi_seqK (K := K) rfl (pv 1)) (pg_tup rfl (pgs_cons (pg_name (i := 5) sc_ir.nd rfl (Or.inl rfl)) (pgs_cons (pg_name (i := 6) sc_ir.nd rfl (Or.inl rfl)) pgs_nil))) (pss_cons (ps_if (pw_or (pt_not (pt_chain op_le op_lt pe_int (pv 5) (pe_callB call_len_seq (by rfl) T.nLen PySem.boot_len (pa_cons (pv 0) pa_nil)))) (pw_or (pt_cmpR op_notIn_seq (pv 6) (pe_tup (pa_cons pe_int (pa_cons pe_int pa_nil))) rfl) (pw_or1 (pt_cmpR op_isN (pe_c cSh hr (pa_cons (pe_ix ix_list (pv 0) (pv 5) (fun _ _ => rfl)) pa_nil)) pe_non (nomark _))))).pt (pss_one (ps_ret pe_bl)) pss_nil)
    (pss_cons (ps_set (i := 7) sc_ir.nd rfl (Or.inl rfl) (pe_c cSh hr (pa_cons (pe_ix ix_list (pv 0) (pv 5) (fun _ _ => rfl)) pa_nil)))
    (pss_cons (ps_expr (pe_bm PySem.F.plainAttrs_list PySem.F.slot_list_append PySem.F.type_list_append mt_append (pv 2) (pa_cons (pe_tup (pa_cons (pe_ix ix_tup (pe_ix ix_list (pv 0) (pv 5) (fun _ _ => rfl)) (pv 6) (fun _ _ => rfl)) (pa_cons (pe_ix ix_tup (pe_ix ix_list (pv 0) (pv 5) (fun _ _ => rfl)) (pe_op op_sub pe_int (pv 6)) (fun _ _ => rfl)) pa_nil))) pa_nil)))
    (pss_one (ps_par (i := 3) (j := 4) rfl sc_ir.nd rfl rfl (by decide) rfl rfl (pa_cons (pe_op op_mulB (pv 3) (pe_ix ix_tup (pv 7) (pv 6) (fun _ _ => rfl))) (pa_cons (pe_op op_mulB (pv 4) (pe_ix ix_tup (pv 7) (pe_op op_sub pe_int (pv 6)) (fun _ _ => rfl))) pa_nil)) (by rfl))))))))
    (bx_scons (Bx.mk (ps_if (pw_or (pt_cmpR (op_eqD hu) (pv 2) (pe_lst pa_nil) (nomark _)) (pw_or1 (pt_cmpR op_eq (pv 3) (pv 4) (nomark _)))).pt (pss_one (ps_ret pe_bl)) pss_nil))
    (Bx.mk (pss_one (ps_ret (pe_callB (call_all rfl) (by rfl) TF.nAll (by decide +kernel) (pa_cons (pe_compC (NB := ["at"]) (FR := ["ends"]) (js := [2]) rfl rfl (fun _ _ h => h) (.cons rfl rfl rfl ⟨_, rfl⟩ .nil) rfl (by decide +kernel) rfl (by decide +kernel) (pi_range1 rfl T.nRange (pa_cons (pe_callB call_len_seq (by rfl) T.nLen PySem.boot_len (pa_cons (pv 2) pa_nil)) pa_nil)) (by intro _ _ _; refine ⟨?_, ?_, ?_⟩; (exact (pg_name (i := 0) (show List.Nodup (["at", "ends"] : List Str) by decide +kernel) rfl (Or.inl rfl))); (exact pts_nil); (exact (pe_cmpR op_eq (pe_ix (ix_tupK (K := K) rfl) (pe_ix (ix_listK (K := K) rfl) (pv 1) (pe_op op_sub (pv 0) pe_int) (fun _ _ => rfl)) pe_int (fun _ _ => rfl)) (pe_ix (ix_tupK (K := K) rfl) (pe_ix (ix_listK (K := K) rfl) (pv 1) (pv 0) (fun _ _ => rfl)) pe_int (fun _ _ => rfl)) (nomark _))))) pa_nil))))))))), ?_⟩
  refine ⟨by show 0 ≤ sizeLine; decide, fun le hle => ?_⟩
  have s0 := Same.upd (o := .lst []) hle
  have hle0 : upd H le (.lst []) le = some (.lst []) := upd_same
  generalize upd H le (.lst []) = G0 at s0 hle0
  refine ⟨by show 2 ≤ sizeLine; decide, fun tp htp => ?_⟩
  refine ⟨tp, _, rfl, .of upd_same, rfl, _, _, rfl, _, _, rfl, rfl, ?_⟩
  have s1 := Same.upd (o := .tup [.int 1, .int 1]) htp
  have hle1 := s1 _ _ hle0
  have S1 := s0.trans s1
  generalize upd G0 tp (.tup [.int 1, .int 1]) = G1 at s1 hle1 S1
  clear s0 s1 hle0 htp
  dsimp only [gName]
  refine st_for ?_
  refine ⟨_, rfl, false, r, rfl, ⟨us, SqL.of (S1 _ _ hrr)⟩, ?_⟩
  have kf : ∀ q ∈ rs, ¬ stepB ss q = true → ∀ G', Same H G' → Q (.bl false) G' := fun q m hb G' s' => by
    have e : ringB ss rs = false := by
      unfold ringB
      rw [Bool.and_eq_false_iff]
      refine .inl ?_
      cases e : rs.all (stepB ss) with
      | false => rfl
      | true => exact absurd (List.all_eq_true.mp e q m) hb
    have := k G' s'
    rw [e] at this
    exact this
  refine for_seq (k := false) (K := K) (a := r) (xs := us) (fun i σ G => ∃ z t ys, z.length = 3 ∧ t = prodB ((rs.map (facB ss)).take i) ∧ σ = some (.ref a) :: some (.ref r) :: some (.ref le) :: some (.int t.1) :: some (.int t.2) :: z ∧ Bd (6100 * i + 1) t.1 ∧ Bd (6100 * i + 1) t.2 ∧ Same H G ∧ G le = some (.lst ys) ∧ PrL G ys ((rs.map (endB ss)).take i) ∧ ∀ q ∈ rs.take i, stepB ss q = true)
    ⟨_, (1, 1), [], rfl, rfl, rfl, show (1 : Int).natAbs < 2 ^ 1 by decide, show (1 : Int).natAbs < 2 ^ 1 by decide, S1, hle1, ⟨rfl, fun i q e => by simp at e⟩, fun q m => by simp at m⟩ (fun i σ G ⟨_, _, _, _, _, _, _, _, s4, _⟩ => SqL.of (s4 _ _ hrr)) ?_ ?_
  · rintro i x σ G ex ⟨z, t, ys, hz, et, rfl, b1, b2, s4, hys, hPy, hall⟩
    match z, hz with
    | [z1, z2, z3], _ =>
    obtain ⟨q, tq, eq, rfl, htq⟩ := hrs.at ex
    have mq := List.mem_of_getElem? eq
    have i40 : i < 40 := by
      have := (List.getElem?_eq_some_iff.mp ex).1
      omega
    refine ⟨tq, _, rfl, .of (s4 _ _ htq), rfl, _, _, rfl, _, _, rfl, rfl, ?_⟩
    refine ⟨_, rfl, _, _, rfl, rfl, _, rfl, ?_⟩
    by_cases c1 : 0 ≤ q.1
    rotate_left
    · rw [decide_eq_false c1]
      exact iteF ⟨false, rfl, iteT (iteT (kf q mq (fun h => c1 (stepB_n h).1) _ s4))⟩
    rw [decide_eq_true c1]
    refine iteT ⟨_, rfl, a, xs, rfl, .inl (.of (s4 _ _ ha)), _, _, rfl, rfl, _, rfl, ?_⟩
    by_cases c2 : q.1 < (xs.length : Int)
    rotate_left
    · rw [decide_eq_false c2]
      exact iteT (iteT (kf q mq (fun h => c2 (by rw [hss.1]; exact (stepB_n h).2.1)) _ s4))
    rw [decide_eq_true c2]
    refine iteF ?_
    refine ⟨_, rfl, by show 2 ≤ sizeLine; decide, fun tt htt => ⟨tt, _, rfl, .inr (.of upd_same), rfl, rfl, _, rfl, ?_⟩⟩
    have s5 := s4.trans (Same.upd (o := .tup [.int 0, .int 1]) htt)
    have Tu5 : TupS G (upd G tt (.tup [.int 0, .int 1])) := .of (Same.upd htt)
    have hys5 := Same.upd (o := .tup [.int 0, .int 1]) htt _ _ hys
    have hPy5 := hPy.tups Tu5
    generalize upd G tt (.tup [.int 0, .int 1]) = G5 at s5 Tu5 hys5 hPy5
    rw [inV_01]
    by_cases c3 : q.2 = 0 ∨ q.2 = 1
    rotate_left
    · rw [decide_eq_false c3]
      exact iteT (iteT (kf q mq (fun h => c3 (by have := (stepB_n h).2.2; omega)) _ s5))
    rw [decide_eq_true c3]
    refine iteF ?_
    obtain ⟨sg, esg⟩ : ∃ sg, ss[q.1.toNat]? = some sg := ⟨_, List.getElem?_eq_getElem (h := by rw [← hss.1]; omega)⟩
    obtain ⟨v, ev, hv, zg⟩ := hss.2 _ _ esg
    have en : ((q.1.toNat : Nat) : Int) = q.1 := by omega
    have ai : atI xs q.1 = some v := by rw [← en]; exact atI_nat ev
    have hss' : stepB ss q = (shQ sg).isSome := by
      unfold stepB
      rw [decide_eq_true (show 0 ≤ q.1 ∧ q.1 < (ss.length : Int) by rw [← hss.1]; exact ⟨c1, c2⟩), decide_eq_true (show 0 ≤ q.2 ∧ q.2 ≤ 1 by omega), esg]
      rfl
    refine ⟨_, rfl, _, rfl, a, xs, q.1, v, rfl, rfl, .of (s5 _ _ ha), ai, v, sg, rfl, hv.tups (.of s5), zg, fun u G6 s6 o6 => ⟨rfl, _, rfl, ?_⟩⟩
    have S6 := s5.trans s6
    cases hx0 : shQ sg with
    | none =>
      rw [hx0] at o6 hss'
      cases (show u = .non from o6)
      exact iteT (kf q mq (by rw [hss']; decide) _ S6)
    | some x0 =>
    rw [hx0] at o6 hss'
    obtain ⟨ru, rfl, _⟩ := o6
    refine iteF ?_
    refine ⟨_, rfl, _, rfl, a, xs, q.1, v, rfl, rfl, .of (S6 _ _ ha), ai, v, sg, rfl, hv.tups (.of S6), zg, fun u G7 s7 o7 => ?_⟩
    rw [hx0] at o7
    obtain ⟨ru, rfl, hru⟩ := o7
    have S7 := S6.trans s7
    have hys7 := s7 _ _ (s6 _ _ hys5)
    have hPy7 := (hPy5.tups (.of s6)).tups (.of s7)
    have zx := shQ_sz zg hx0
    clear hys5 hPy5 Tu5 s6 s7 hys hPy
    obtain ⟨q1, q2⟩ := q
    have c3 : q2 = 0 ∨ q2 = 1 := c3
    obtain ⟨p1, p2, p3, p4, p5, rfl, hsg, _⟩ := hv
    have hsg7 := S7 _ _ hsg
    have sqa := SqL.of (K := K) (S7 _ _ ha)
    have ee : endB ss (q1, q2) = if q2 = 0 then (sg.i, sg.j) else (sg.j, sg.i) := by unfold endB; rw [show ss[(q1, q2).1.toNat]? = some sg from esg]
    have ef : facB ss (q1, q2) = if q2 = 0 then (x0.num, (x0.den : Int)) else ((x0.den : Int), x0.num) := by
      unfold facB
      rw [show ss[(q1, q2).1.toNat]? = some sg from esg]
      show (match shQ sg with | some q => if q2 = 0 then (q.num, (q.den : Int)) else ((q.den : Int), q.num) | none => (1, 1)) = _
      rw [hx0]
    have en : prodB ((rs.map (facB ss)).take (i + 1)) = (t.1 * (facB ss (q1, q2)).1, t.2 * (facB ss (q1, q2)).2) := by
      rw [tk_snoc (x := facB ss (q1, q2)) (by rw [List.getElem?_map, eq]; rfl), et]
      unfold prodB
      rw [List.foldl_append]; rfl
    have et' : (rs.map (endB ss)).take (i + 1) = (rs.map (endB ss)).take i ++ [endB ss (q1, q2)] := tk_snoc (by rw [List.getElem?_map, eq]; rfl)
    have ha' : ∀ q ∈ rs.take (i + 1), stepB ss q = true := fun q m => by
      rw [tk_snoc eq] at m
      rcases List.mem_append.mp m with z | z
      · exact hall q z
      · have : q = (q1, q2) := by simpa using z
        rw [this, hss']; rfl
    have B : Bd 1000000 t.1 ∧ Bd 1000000 t.2 := ⟨b1.mono (by omega), b2.mono (by omega)⟩
    have Bx0 : Bd 1000000 x0.num ∧ Bd 1000000 (x0.den : Int) := ⟨zx.1.mono (by decide), zx.2.mono (by decide)⟩
    have c1' : Bd (6100 * (i + 1) + 1) (t.1 * x0.num) := Bd.mono (b1.mul zx.1) (by omega)
    have c2' : Bd (6100 * (i + 1) + 1) (t.2 * x0.num) := Bd.mono (b2.mul zx.1) (by omega)
    have c3' : Bd (6100 * (i + 1) + 1) (t.1 * (x0.den : Int)) := Bd.mono (b1.mul zx.2) (by omega)
    have c4' : Bd (6100 * (i + 1) + 1) (t.2 * (x0.den : Int)) := Bd.mono (b2.mul zx.2) (by omega)
    have hyl : ys.length ≤ 40 := by rw [hPy7.1, List.length_take]; omega
    have fin : ∀ (e : Int × Int) (t3 : Addr) (G8 : Hp), e = endB ss (q1, q2) → Same G7 G8 → G8 t3 = some (.tup [.int e.1, .int e.2]) → Same H (upd G8 le (.lst (ys ++ [.ref t3]))) ∧ upd G8 le (.lst (ys ++ [.ref t3])) le = some (.lst (ys ++ [.ref t3])) ∧ PrL (upd G8 le (.lst (ys ++ [.ref t3]))) (ys ++ [.ref t3]) ((rs.map (endB ss)).take (i + 1)) := fun e t3 G8 he s8 h8 => by
      have g8 := s8 _ _ hys7
      have U8 : TupS G8 (upd G8 le (.lst (ys ++ [.ref t3]))) := .upd g8
      refine ⟨fun b o eb => ?_, upd_same, ?_⟩
      · rw [upd_ne (ne_of_none eb hle)]; exact s8 _ _ (S7 _ _ eb)
      · rw [et', ← he]
        exact (hPy7.tups ((TupS.of s8).trans U8)).snoc (U8 _ _ h8)
    rcases c3 with rfl | rfl
    · refine ⟨_, rfl, .inl ⟨rfl, _, SqL.of hys7⟩, ?_⟩
      refine ⟨_, rfl, _, rfl, a, xs, q1, _, rfl, rfl, sqa, ai, _, rfl, p1, _, 0, .int sg.i, rfl, rfl, .of hsg7, rfl, ?_⟩
      refine ⟨_, rfl, _, rfl, a, xs, q1, _, rfl, rfl, sqa, ai, _, rfl, _, _, rfl, rfl, p1, _, 1 - 0, .int sg.j, rfl, rfl, .of hsg7, rfl, ?_⟩
      refine ⟨by show 2 ≤ sizeLine; decide, fun t3 ht3 => ?_⟩
      have s8 := Same.upd (o := .tup [.int sg.i, .int sg.j]) ht3
      have h8 : upd G7 t3 (.tup [.int sg.i, .int sg.j]) t3 = some (.tup [.int sg.i, .int sg.j]) := upd_same
      generalize upd G7 t3 (.tup [.int sg.i, .int sg.j]) = G8 at s8 h8
      refine ⟨le, ys, _, rfl, rfl, s8 _ _ hys7, small1000 (by omega), ?_⟩
      obtain ⟨f1, f2, f3⟩ := fin (sg.i, sg.j) t3 G8 (by rw [ee]; rfl) s8 h8
      have hru9 : RatAt (upd G8 le (.lst (ys ++ [.ref t3]))) ru x0 := TupS.upd (s8 _ _ hys7) _ _ (s8 _ _ hru)
      refine ⟨_, rfl, _, rfl, _, rfl, ru, _, 0, _, rfl, rfl, .of hru9, rfl, _, _, rfl, rfl, ⟨B.1, Bx0.1⟩, ?_⟩
      refine ⟨_, rfl, _, rfl, _, rfl, _, _, rfl, rfl, ru, _, 1 - 0, _, rfl, rfl, .of hru9, rfl, _, _, rfl, rfl, ⟨B.2, Bx0.2⟩, _, _, rfl, ?_⟩
      exact ⟨_, _, _, rfl, by rw [en, ef], rfl, c1', c4', f1, f2, f3, ha'⟩
    · refine ⟨_, rfl, .inl ⟨rfl, _, SqL.of hys7⟩, ?_⟩
      refine ⟨_, rfl, _, rfl, a, xs, q1, _, rfl, rfl, sqa, ai, _, rfl, p1, _, 1, .int sg.j, rfl, rfl, .of hsg7, rfl, ?_⟩
      refine ⟨_, rfl, _, rfl, a, xs, q1, _, rfl, rfl, sqa, ai, _, rfl, _, _, rfl, rfl, p1, _, 1 - 1, .int sg.i, rfl, rfl, .of hsg7, rfl, ?_⟩
      refine ⟨by show 2 ≤ sizeLine; decide, fun t3 ht3 => ?_⟩
      have s8 := Same.upd (o := .tup [.int sg.j, .int sg.i]) ht3
      have h8 : upd G7 t3 (.tup [.int sg.j, .int sg.i]) t3 = some (.tup [.int sg.j, .int sg.i]) := upd_same
      generalize upd G7 t3 (.tup [.int sg.j, .int sg.i]) = G8 at s8 h8
      refine ⟨le, ys, _, rfl, rfl, s8 _ _ hys7, small1000 (by omega), ?_⟩
      obtain ⟨f1, f2, f3⟩ := fin (sg.j, sg.i) t3 G8 (by rw [ee]; rfl) s8 h8
      have hru9 : RatAt (upd G8 le (.lst (ys ++ [.ref t3]))) ru x0 := TupS.upd (s8 _ _ hys7) _ _ (s8 _ _ hru)
      refine ⟨_, rfl, _, rfl, _, rfl, ru, _, 1, _, rfl, rfl, .of hru9, rfl, _, _, rfl, rfl, ⟨B.1, Bx0.2⟩, ?_⟩
      refine ⟨_, rfl, _, rfl, _, rfl, _, _, rfl, rfl, ru, _, 1 - 1, _, rfl, rfl, .of hru9, rfl, _, _, rfl, rfl, ⟨B.2, Bx0.1⟩, _, _, rfl, ?_⟩
      exact ⟨_, _, _, rfl, by rw [en, ef], rfl, c3', c2', f1, f2, f3, ha'⟩
  · rintro σ G ⟨z, t, ys, hz, et, rfl, b1, b2, s4, hys, hPy, hall⟩
    have hul' := hrs.1
    rw [List.take_of_length_le (by rw [List.length_map]; omega)] at et hPy
    rw [List.take_of_length_le (by omega)] at hall
    have hel := hPy.1
    rw [List.length_map] at hel
    have call : rs.all (stepB ss) = true := List.all_eq_true.mpr hall
    -- ends == []
    refine ⟨_, rfl, by show 0 ≤ sizeLine; decide, fun l0 hl0 => ?_⟩
    have s5 := Same.upd (o := .lst []) hl0
    have hl5 : upd G l0 (.lst []) l0 = some (.lst []) := upd_same
    have hys5 := s5 _ _ hys
    have hPy5 := hPy.tups (.of s5)
    have S5 := s4.trans s5
    generalize upd G l0 (.lst []) = G5 at s5 hl5 hys5 hPy5 S5
    refine ⟨_, _, .lst hys5 hPy5.rds, .lst hl5 .nil, (lay_prs _).shaped (by decide), rfl, _, rfl, ?_⟩
    by_cases cn : rs = []
    · subst cn
      rw [show PyData.eqv (.list (List.map prD (List.map (endB ss) []))) (.list []) = true from rfl]
      refine iteT (iteT ?_)
      have := k G5 S5
      rw [show ringB ss [] = false from rfl] at this
      exact this
    have e1 : PyData.eqv (.list (List.map prD (List.map (endB ss) rs))) (.list []) = false := by
      cases rs with
      | nil => exact absurd rfl cn
      | cons a b => rfl
    rw [e1]
    refine iteF ?_
    refine ⟨_, rfl, _, rfl, rfl, _, rfl, ?_⟩
    rw [vint_dec]
    have k' := k
    unfold ringB at k'
    rw [call, ← et] at k'
    by_cases c5 : t.1 = t.2
    · rw [decide_eq_true c5]
      refine iteT ?_
      have := k' G5 S5
      rw [decide_eq_false (show ¬ t.1 ≠ t.2 from fun z => z c5), Bool.and_false] at this
      exact this
    rw [decide_eq_false c5]
    refine iteF ?_
    rw [decide_eq_true (show t.1 ≠ t.2 from c5), Bool.and_true] at k'
    generalize hes : rs.map (endB ss) = es at hPy5 k'
    have hel' : ys.length = es.length := hPy5.1
    refine ⟨_, rfl, le, ys, rfl, .inl (SqL.of hys5), _, rfl, by omega, by omega, fun D3 hD3 => ?_⟩
    refine compC_range (n := 1) (N := ((ys.length : Int)).toNat) (fun i v _ => v = .bl (decide ((es[preI es.length i]?.getD (0, 0)).2 = (es[i]?.getD (0, 0)).1))) (fun i v H H' _ h => h) hD3 (szl (by omega)) ?_ ?_
    · intro i zs H3 Q' hi hz s3 hq'
      obtain ⟨z1, rfl⟩ := len1 hz
      refine ⟨rfl, ?_⟩
      have hi' : i < es.length := by omega
      obtain ⟨t1, e1, g1⟩ := hPy5.2 i es[i] (List.getElem?_eq_getElem hi')
      have hp' : preI es.length i < es.length := by unfold preI; split <;> omega
      obtain ⟨t2, e2, g2⟩ := hPy5.2 (preI es.length i) es[preI es.length i] (List.getElem?_eq_getElem hp')
      have a1 : atI ys ((0 : Int) + (i : Int)) = some (.ref t1) := by rw [Int.zero_add]; exact atI_nat e1
      have a2 : atI ys ((0 : Int) + (i : Int) - 1) = some (.ref t2) := by
        rw [← e2, ← hel']; exact atI_pre (by omega)
      refine ⟨_, rfl, _, rfl, _, _, rfl, rfl, le, ys, _, _, rfl, rfl, .of (s3 _ _ hys5), a2, t2, _, 1, _, rfl, rfl, .of (s3 _ _ g2), rfl, ?_⟩
      refine ⟨_, rfl, _, rfl, le, ys, _, _, rfl, rfl, .of (s3 _ _ hys5), a1, t1, _, 0, _, rfl, rfl, .of (s3 _ _ g1), rfl, ?_⟩
      refine ⟨rfl, hq' _ _ (Same.refl _) ?_⟩
      rw [List.getElem?_eq_getElem hp', List.getElem?_eq_getElem hi', Option.getD_some, Option.getD_some]
      exact congrArg V.bl (vint_dec _ _)
    intro bsv H3 s3 hD3' hbl hbR
    have eb : bsv = (List.range es.length).map (fun i => V.bl (decide ((es[preI es.length i]?.getD (0, 0)).2 = (es[i]?.getD (0, 0)).1))) := by
      refine list_of_map (by rw [hbl, List.length_range]; omega) fun i v e => ⟨i, ?_, hbR i v e⟩
      have := (List.getElem?_eq_some_iff.mp e).1
      rw [List.getElem?_range (by omega)]
    refine ⟨D3, (List.range es.length).map (fun i => decide ((es[preI es.length i]?.getD (0, 0)).2 = (es[i]?.getD (0, 0)).1)), rfl, SqL.of (by rw [hD3', eb, List.map_map]; rfl), ?_⟩
    have e0 : ((List.range es.length).map (fun i => decide ((es[preI es.length i]?.getD (0, 0)).2 = (es[i]?.getD (0, 0)).1))).all id = linkB es := by rw [List.all_map]; rfl
    rw [e0]
    exact k' H3 (S5.trans s3)
end
end KK
end
section
set_option maxHeartbeats 8000000
set_option Elab.async false
set_option linter.all false
set_option maxRecDepth 100000
namespace KK
open PySem L2 KM
theorem ratne {x : Int} (h : 1 ≤ x) : (x : Rat) ≠ 0 := by
  intro z
  have : x = 0 := by exact_mod_cast z
  omega
theorem Prt.root {n : Nat} {ss : List Sg} {qs : List Rat} {root : Nat} {ms : List En} {ws : List Int} (r : Prt n ss qs root ms) (hl : ws.length = n) : ∃ e ∈ ms, e.b = root ∧ ∃ x, ws[root]? = some x := by
  obtain ⟨e, m, eb⟩ := List.mem_map.mp r.1.rt
  have := r.1.lt e m
  exact ⟨e, m, eb, _, List.getElem?_eq_getElem (by rw [hl, ← eb]; exact this)⟩
end KK
end
section
set_option maxHeartbeats 8000000
set_option Elab.async false
set_option linter.all false
set_option maxRecDepth 100000
namespace KK
open PySem L2 KM
def StP (ss : List Sg) (r : Int × Int) (a b : Nat) (f : Rat) : Prop := ∃ (k : Nat) (s : Sg) (q : Rat), r.1 = (k : Int) ∧ ss[k]? = some s ∧ shQ s = some q ∧ ((r.2 = 0 ∧ s.i = (a : Int) ∧ s.j = (b : Int) ∧ f = q) ∨ (r.2 = 1 ∧ s.j = (a : Int) ∧ s.i = (b : Int) ∧ f = 1 / q))
inductive Pth (ss : List Sg) : Nat → Nat → Rat → List (Int × Int) → Prop
  | nil (a : Nat) : Pth ss a a 1 []
  | cons {a b c : Nat} {f x : Rat} {r : Int × Int} {rs : List (Int × Int)} : StP ss r a b f → Pth ss b c x rs → Pth ss a c (f * x) (r :: rs)
theorem StP.det {ss : List Sg} {r : Int × Int} {a b b' : Nat} {f f' : Rat} (h : StP ss r a b f) (h' : StP ss r a b' f') : b = b' ∧ f = f' := by
  obtain ⟨k, s, q, e1, e2, e3, h⟩ := h
  obtain ⟨k', s', q', e1', e2', e3', h'⟩ := h'
  obtain rfl : k = k' := by omega
  rw [e2] at e2'; cases e2'
  rw [e3] at e3'; cases e3'
  rcases h with ⟨c1, c2, c3, rfl⟩ | ⟨c1, c2, c3, rfl⟩ <;> rcases h' with ⟨d1, d2, d3, rfl⟩ | ⟨d1, d2, d3, rfl⟩
  · exact ⟨by omega, rfl⟩
  · omega
  · omega
  · exact ⟨by omega, rfl⟩
theorem StP.pos {ss : List Sg} {r : Int × Int} {a b : Nat} {f : Rat} (h : StP ss r a b f) : f ≠ 0 := by
  obtain ⟨k, s, q, _, _, e3, h⟩ := h
  have q0 : 0 < q := (shQ_some e3).2.2.2.2
  have qn : q ≠ 0 := fun z => by rw [z] at q0; exact absurd q0 (by decide)
  rcases h with ⟨_, _, _, rfl⟩ | ⟨_, _, _, rfl⟩
  · exact qn
  · intro z
    have : q * (1 / q) = 1 := by grind
    rw [z] at this; simp at this
theorem Pth.pos {ss : List Sg} {a b : Nat} {x : Rat} {p : List (Int × Int)} (h : Pth ss a b x p) : x ≠ 0 := by
  induction h with
  | nil => decide
  | cons s _ ih => exact fun z => by rcases Rat.mul_eq_zero.mp z with z | z; exact s.pos z; exact ih z
theorem StP.flip {ss : List Sg} {r : Int × Int} {a b : Nat} {f : Rat} (h : StP ss r a b f) : StP ss (r.1, 1 - r.2) b a (1 / f) := by
  have f0 := h.pos
  obtain ⟨k, s, q, e1, e2, e3, h⟩ := h
  refine ⟨k, s, q, e1, e2, e3, ?_⟩
  rcases h with ⟨c1, c2, c3, rfl⟩ | ⟨c1, c2, c3, rfl⟩
  · exact .inr ⟨by show 1 - r.2 = 1; omega, c3, c2, rfl⟩
  · refine .inl ⟨by show 1 - r.2 = 0; omega, c3, c2, ?_⟩
    have qn : q ≠ 0 := fun z => by rw [z] at f0; exact f0 (by decide +kernel)
    grind
theorem Pth.append {ss : List Sg} {a b c : Nat} {x y : Rat} {p r : List (Int × Int)} (h : Pth ss a b x p) (h' : Pth ss b c y r) : Pth ss a c (x * y) (p ++ r) := by
  induction h with
  | nil => rw [Rat.one_mul]; exact h'
  | cons s _ ih => rw [Rat.mul_assoc]; exact .cons s (ih h')
theorem Pth.one {ss : List Sg} {a b : Nat} {f : Rat} {r : Int × Int} (h : StP ss r a b f) : Pth ss a b f [r] := by
  have := Pth.cons h (.nil b)
  rw [Rat.mul_one] at this; exact this
theorem Pth.split {ss : List Sg} : ∀ {p r : List (Int × Int)} {a c : Nat} {z : Rat}, Pth ss a c z (p ++ r) → ∃ b x y, Pth ss a b x p ∧ Pth ss b c y r ∧ z = x * y
  | [], r, a, c, z, h => ⟨a, 1, z, .nil a, h, by rw [Rat.one_mul]⟩
  | e :: p, r, a, c, z, h => by
    cases h with
    | cons s t =>
      obtain ⟨b, x, y, h1, h2, rfl⟩ := Pth.split t
      exact ⟨b, _, y, .cons s h1, h2, by rw [Rat.mul_assoc]⟩
theorem Pth.det {ss : List Sg} : ∀ {p : List (Int × Int)} {a b b' : Nat} {x x' : Rat}, Pth ss a b x p → Pth ss a b' x' p → b = b' ∧ x = x'
  | [], _, _, _, _, _, .nil _, .nil _ => ⟨rfl, rfl⟩
  | _ :: p, _, _, _, _, _, .cons s t, .cons s' t' => by
    obtain ⟨rfl, rfl⟩ := s.det s'
    obtain ⟨rfl, rfl⟩ := Pth.det t t'
    exact ⟨rfl, rfl⟩
theorem Pth.rev {ss : List Sg} {a b : Nat} {x : Rat} {p : List (Int × Int)} (h : Pth ss a b x p) : Pth ss b a (1 / x) (p.reverse.map fun r => (r.1, 1 - r.2)) := by
  induction h with
  | nil => rw [show (1 : Rat) / 1 = 1 by decide +kernel]; exact .nil _
  | @cons a b c f x r rs s t ih =>
    rw [List.reverse_cons, List.map_append]
    have := ih.append (Pth.one s.flip)
    have f0 := s.pos
    have x0 := t.pos
    rw [show 1 / (f * x) = 1 / x * (1 / f) by grind]
    exact this
theorem Walk.pth {ss : List Sg} {qs : List Rat} {root b : Nat} {h : Rat} {p : List (Int × Int)} (hq : QsOf ss qs) (w : Walk ss qs root b h p) : Pth ss root b h p := by
  induction w with
  | nil => exact .nil _
  | @fwd b h q p k j s _ e1 e2 e3 e4 ih => exact ih.append (Pth.one ⟨k, s, q, rfl, e1, hq.2 k s q e1 e2, .inl ⟨rfl, e3, e4, rfl⟩⟩)
  | @bwd b h q p k i s _ e1 e2 e3 e4 ih =>
    have := ih.append (Pth.one (r := ((k : Int), 1)) (f := 1 / q) (b := i) ⟨k, s, q, rfl, e1, hq.2 k s q e1 e2, .inr ⟨rfl, e3, e4, rfl⟩⟩)
    rw [show h * (1 / q) = h / q by grind] at this
    exact this
theorem StP.mono {ss tt : List Sg} (hm : ∀ (k : Nat) s, tt[k]? = some s → ss[k]? = some s) {r : Int × Int} {a b : Nat} {f : Rat} (h : StP tt r a b f) : StP ss r a b f := by
  obtain ⟨k, s, q, e1, e2, h⟩ := h
  exact ⟨k, s, q, e1, hm k s e2, h⟩
theorem Pth.mono {ss tt : List Sg} (hm : ∀ (k : Nat) s, tt[k]? = some s → ss[k]? = some s) {a b : Nat} {x : Rat} {p : List (Int × Int)} (h : Pth tt a b x p) : Pth ss a b x p := by
  induction h with
  | nil => exact .nil _
  | cons s _ ih => exact .cons (s.mono hm) ih
theorem cpre_split : ∀ (pa pb : List (Int × Int)), ∃ c, pa = c ++ (cpre pa pb).1 ∧ pb = c ++ (cpre pa pb).2
  | [], pb => ⟨[], by rw [cpre_nil1]; exact ⟨rfl, rfl⟩⟩
  | a :: pa, [] => ⟨[], by rw [cpre_nil2]; exact ⟨rfl, rfl⟩⟩
  | a :: pa, b :: pb => by
    by_cases h : a = b
    · subst h
      obtain ⟨c, h1, h2⟩ := cpre_split pa pb
      refine ⟨a :: c, ?_⟩
      rw [cpre_eq]
      exact ⟨congrArg (a :: ·) h1, congrArg (a :: ·) h2⟩
    · exact ⟨[], by rw [cpre_ne _ _ h]; exact ⟨rfl, rfl⟩⟩
theorem ring_pth {n : Nat} {ss : List Sg} {rs : List (Int × Int)} (h : RingW n ss rs) : ∃ m z, Pth ss m m z rs ∧ z ≠ 1 ∧ rs ≠ [] := by
  obtain ⟨qs, root, ms, k, s, q, ei, ej, hq, r, e1, e2, mi, mj, bi, bj, hne, rfl⟩ := h
  have wi := (r.1.walk ei mi).pth hq
  have wj := (r.1.walk ej mj).pth hq
  obtain ⟨c, ca, cb⟩ := cpre_split ei.path ej.path
  rw [ca] at wi
  rw [cb] at wj
  obtain ⟨m, x, x', h1, h2, e3⟩ := Pth.split wi
  obtain ⟨m', y, y', h3, h4, e4⟩ := Pth.split wj
  obtain ⟨rfl, rfl⟩ := h1.det h3
  have st : StP ss ((k : Int), 0) ei.b ej.b q := ⟨k, s, q, rfl, e1, hq.2 k s q e1 e2, .inl ⟨rfl, bi, bj, rfl⟩⟩
  have x0 := h1.pos
  have y0 := h4.pos
  refine ⟨m, _, (h2.append (.one st)).append h4.rev, fun z => hne ?_, by unfold ringR; simp⟩
  rw [e3, e4]
  have : x' * q = y' := by grind
  rw [Rat.mul_assoc, this]
theorem StP.step {ss : List Sg} {r : Int × Int} {a b : Nat} {f : Rat} (h : StP ss r a b f) : stepB ss r = true ∧ endB ss r = ((a : Int), (b : Int)) ∧ ((facB ss r).2 : Int) ≠ 0 ∧ ((facB ss r).1 : Rat) = ((facB ss r).2 : Rat) * f := by
  have f0 := h.pos
  obtain ⟨k, s, q, e1, e2, e3, h⟩ := h
  have kt : r.1.toNat = k := by omega
  have kl := (List.getElem?_eq_some_iff.mp e2).1
  have q0 : 0 < q := (shQ_some e3).2.2.2.2
  have qn : q ≠ 0 := fun z => by rw [z] at q0; exact absurd q0 (by decide)
  have np : 0 < q.num := num_pos'.mpr q0
  have dp := q.den_pos
  have eq : q = (q.num : Rat) / ((q.den : Int) : Rat) := by rw [← Rat.divInt_eq_div, Rat.num_divInt_den]
  have dn : (((q.den : Int)) : Rat) ≠ 0 := ratne (by omega)
  have nn : ((q.num : Int) : Rat) ≠ 0 := ratne (by omega)
  have key : ∀ (h a b : Rat), h = a / b → b ≠ 0 → h * b = a := fun h a b e n => by rw [e]; exact Rat.div_mul_cancel n
  have e5 := key _ _ _ eq dn
  have w01 : r.2 = 0 ∨ r.2 = 1 := by rcases h with ⟨c, _⟩ | ⟨c, _⟩; exact .inl c; exact .inr c
  refine ⟨?_, ?_, ?_, ?_⟩
  · unfold stepB
    rw [decide_eq_true (show 0 ≤ r.1 ∧ r.1 < (ss.length : Int) by omega), decide_eq_true (show 0 ≤ r.2 ∧ r.2 ≤ 1 by omega), kt, e2]
    show (shQ s).isSome = true
    rw [e3]; rfl
  · unfold endB
    rw [kt, e2]
    dsimp only
    rcases h with ⟨c1, c2, c3, _⟩ | ⟨c1, c2, c3, _⟩
    · rw [if_pos c1, c2, c3]
    · rw [if_neg (by omega), c2, c3]
  · unfold facB
    rw [kt, e2]
    show (match shQ s with | some q => _ | none => _ : Int × Int).2 ≠ 0
    rw [e3]
    dsimp only
    rcases w01 with c | c
    · rw [if_pos c]; dsimp only; omega
    · rw [if_neg (by omega)]; dsimp only; omega
  · unfold facB
    rw [kt, e2]
    show (((match shQ s with | some q => _ | none => _ : Int × Int).1 : Int) : Rat) = (((match shQ s with | some q => _ | none => _ : Int × Int).2 : Int) : Rat) * f
    rw [e3]
    dsimp only
    rcases h with ⟨c1, _, _, rfl⟩ | ⟨c1, _, _, rfl⟩
    · rw [if_pos c1]; dsimp only; rw [Rat.mul_comm]; exact e5.symm
    · rw [if_neg (by omega)]; dsimp only; grind
theorem Pth.all {ss : List Sg} {a b : Nat} {x : Rat} {p : List (Int × Int)} (h : Pth ss a b x p) : p.all (stepB ss) = true := by
  induction h with
  | nil => rfl
  | cons s _ ih => rw [List.all_cons, s.step.1, ih]; rfl
theorem Pth.fac {ss : List Sg} {a b : Nat} {x : Rat} {p : List (Int × Int)} (h : Pth ss a b x p) : ∀ t0 b0 : Int, b0 ≠ 0 → ((p.map (facB ss)).foldl (fun t f => (t.1 * f.1, t.2 * f.2)) (t0, b0)).2 ≠ 0 ∧ (((p.map (facB ss)).foldl (fun t f => (t.1 * f.1, t.2 * f.2)) (t0, b0)).1 : Rat) * (b0 : Rat) = (t0 : Rat) * (((p.map (facB ss)).foldl (fun t f => (t.1 * f.1, t.2 * f.2)) (t0, b0)).2 : Rat) * x := by
  induction h with
  | nil => intro t0 b0 h0; exact ⟨h0, by show (t0 : Rat) * (b0 : Rat) = (t0 : Rat) * (b0 : Rat) * 1; rw [Rat.mul_one]⟩
  | @cons a b c f x r rs s _ ih =>
    intro t0 b0 h0
    obtain ⟨_, _, f2, f1⟩ := s.step
    have := ih (t0 * (facB ss r).1) (b0 * (facB ss r).2) (Int.mul_ne_zero h0 f2)
    rw [List.map_cons, List.foldl_cons]
    generalize (List.foldl (fun t f => (t.1 * f.1, t.2 * f.2)) (t0 * (facB ss r).1, b0 * (facB ss r).2) (rs.map (facB ss))) = Y at this
    refine ⟨this.1, ?_⟩
    have h2 := this.2
    rw [Rat.intCast_mul, Rat.intCast_mul, f1] at h2
    have fn : (((facB ss r).2 : Int) : Rat) ≠ 0 := fun z => f2 (by exact_mod_cast z)
    grind
theorem Pth.link {ss : List Sg} {a c : Nat} {x : Rat} {p : List (Int × Int)} (h : Pth ss a c x p) (hp : p ≠ []) : (((p.map (endB ss))[0]?).getD (0, 0)).1 = (a : Int) ∧ (((p.map (endB ss))[p.length - 1]?).getD (0, 0)).2 = (c : Int) ∧ ∀ k, k + 1 < p.length → (((p.map (endB ss))[k]?).getD (0, 0)).2 = (((p.map (endB ss))[k + 1]?).getD (0, 0)).1 := by
  induction h with
  | nil => exact absurd rfl hp
  | @cons a b c f x r rs s t ih =>
    obtain ⟨_, e, _, _⟩ := s.step
    cases rs with
    | nil =>
      cases t
      refine ⟨?_, ?_, fun k hk => ?_⟩
      · show (endB ss r).1 = _; rw [e]
      · show (endB ss r).2 = _; rw [e]
      · exact absurd hk (by simp)
    | cons r' rs =>
      obtain ⟨i1, i2, i3⟩ := ih (by simp)
      refine ⟨?_, ?_, fun k hk => ?_⟩
      · show (endB ss r).1 = _; rw [e]
      · rw [← i2]
        show (((endB ss r :: (r' :: rs).map (endB ss))[(rs.length + 1 + 1) - 1]?).getD (0, 0)).2 = _
        rw [show (rs.length + 1 + 1) - 1 = ((r' :: rs).length - 1) + 1 by simp, List.getElem?_cons_succ]
      · cases k with
        | zero =>
          show (endB ss r).2 = _
          rw [e, List.map_cons, List.getElem?_cons_succ, i1]
        | succ k =>
          rw [List.map_cons, List.getElem?_cons_succ, List.getElem?_cons_succ]
          exact i3 k (by simpa using hk)
theorem pth_ring {ss : List Sg} {m : Nat} {z : Rat} {rs : List (Int × Int)} (h : Pth ss m m z rs) (hz : z ≠ 1) (hr : rs ≠ []) : ringB ss rs = true := by
  unfold ringB
  rw [h.all, Bool.true_and, Bool.and_eq_true]
  have rl : 0 < rs.length := List.length_pos_iff.mpr hr
  refine ⟨?_, ?_⟩
  · unfold linkB
    rw [List.all_eq_true]
    intro k hk
    have hk := List.mem_range.mp hk
    rw [List.length_map] at hk ⊢
    obtain ⟨l1, l2, l3⟩ := h.link hr
    refine decide_eq_true ?_
    unfold preI
    by_cases h0 : k = 0
    · rw [if_pos h0, h0, l1, l2]
    · rw [if_neg h0]
      have := l3 (k - 1) (by omega)
      rw [show k - 1 + 1 = k by omega] at this
      exact this
  · have := h.fac 1 1 (by decide)
    unfold prodB
    refine decide_eq_true fun e => hz ?_
    obtain ⟨f1, f2⟩ := this
    rw [e] at f2
    have fn : (((rs.map (facB ss)).foldl (fun t f => (t.1 * f.1, t.2 * f.2)) ((1 : Int), (1 : Int))).2 : Rat) ≠ 0 := fun z => f1 (by exact_mod_cast z)
    generalize (((rs.map (facB ss)).foldl (fun t f => (t.1 * f.1, t.2 * f.2)) ((1 : Int), (1 : Int))).2 : Rat) = Y at f2 fn
    have f2 : Y * 1 = 1 * Y * z := f2
    grind
end KK
end
section
set_option maxHeartbeats 8000000
set_option Elab.async false
set_option linter.all false
set_option maxRecDepth 100000
namespace KK
open PySem L2 KM
theorem RingD.ring {n : Nat} {ss : List Sg} {rs : List (Int × Int)} (h : RingD n ss rs) : RingW n ss rs := by
  obtain ⟨qs, root, ms, k, s, q, ei, ej, a, b, c, d, e, f, g, i, j, l, _⟩ := h
  exact ⟨qs, root, ms, k, s, q, ei, ej, a, b, c, d, e, f, g, i, j, l⟩
theorem QsOf.det {ss : List Sg} {qs qs' : List Rat} (h : QsOf ss qs) (h' : QsOf ss qs') : qs = qs' := by
  refine List.ext_getElem? fun i => ?_
  by_cases hi : i < ss.length
  · obtain ⟨s, es⟩ : ∃ s, ss[i]? = some s := ⟨_, List.getElem?_eq_getElem hi⟩
    obtain ⟨q, eq⟩ : ∃ q, qs[i]? = some q := ⟨_, List.getElem?_eq_getElem (by rw [← h.1]; exact hi)⟩
    obtain ⟨q', eq'⟩ : ∃ q, qs'[i]? = some q := ⟨_, List.getElem?_eq_getElem (by rw [← h'.1]; exact hi)⟩
    have a := h.2 i s q es eq
    rw [h'.2 i s q' es eq'] at a
    rw [eq, eq']; exact a.symm
  · rw [List.getElem?_eq_none (by rw [← h.1]; omega), List.getElem?_eq_none (by rw [← h'.1]; omega)]
theorem en_uniq {ms : List En} (nd : (keys ms).Nodup) {x y : En} (hx : x ∈ ms) (hy : y ∈ ms) (hb : x.b = y.b) : x = y := by
  have a := findE_of nd hx
  have b := findE_of nd hy
  rw [hb, b] at a
  exact (Option.some.inj a).symm
theorem RingD.det {n : Nat} {ss : List Sg} {rs rs' : List (Int × Int)} (h : RingD n ss rs) (h' : RingD n ss rs') : rs = rs' := by
  obtain ⟨qs, root, ms, k, s, q, ei, ej, hq, r, e1, e2, mi, mj, bi, bj, hne, rfl, hp, hk, hc, hg⟩ := h
  obtain ⟨qs', root', ms', k', s', q', ei', ej', hq', r', e1', e2', mi', mj', bi', bj', hne', rfl, hp', hk', hc', hg'⟩ := h'
  obtain rfl := hq.det hq'
  have er : root = root' := by
    rcases Nat.lt_trichotomy root root' with z | z | z
    · exact absurd (hg' root z hc ms hp k s q ei ej e1 e2 mi mj bi bj) hne
    · exact z
    · exact absurd (hg root' z hc' ms' hp' k' s' q' ei' ej' e1' e2' mi' mj' bi' bj') hne'
  subst er
  obtain rfl := hp.det hp'
  have ek : k = k' := by
    rcases Nat.lt_trichotomy k k' with z | z | z
    · exact absurd (hk' k z s q ei ej e1 e2 mi mj bi bj) hne
    · exact z
    · exact absurd (hk k' z s' q' ei' ej' e1' e2' mi' mj' bi' bj') hne'
  subst ek
  rw [e1] at e1'; cases e1'
  rw [en_uniq r.1.nd mi mi' (by omega), en_uniq r.1.nd mj mj' (by omega)]
def ConsF (ss : List Sg) (f : Nat → Rat) : Prop := (∀ v, 0 < f v) ∧ ∀ s ∈ ss, ∀ (i j : Nat) q, s.i = (i : Int) → s.j = (j : Int) → shQ s = some q → f j = f i * q
theorem ratpos {x : Rat} (h : 0 < x) : x ≠ 0 := fun z => by rw [z] at h; exact absurd h (by decide)
theorem walk_f {ss : List Sg} {qs : List Rat} {f : Nat → Rat} (hf : ConsF ss f) (hq : QsOf ss qs) {root b : Nat} {h : Rat} {p : List (Int × Int)} (w : Walk ss qs root b h p) : f b = f root * h := by
  induction w with
  | nil => rw [Rat.mul_one]
  | @fwd b h q p k j s _ e1 e2 e3 e4 ih =>
    rw [hf.2 s (List.mem_of_getElem? e1) b j q e3 e4 (hq.2 k s q e1 e2), ih]; grind
  | @bwd b h q p k i s _ e1 e2 e3 e4 ih =>
    have hs := hq.2 k s q e1 e2
    have a := hf.2 s (List.mem_of_getElem? e1) i b q e4 e3 hs
    have q0 := ratpos (shQ_some hs).2.2.2.2
    rw [ih] at a
    grind
theorem ring_cons {n : Nat} {ss : List Sg} {rs : List (Int × Int)} (h : RingW n ss rs) (f : Nat → Rat) : ¬ ConsF ss f := fun hf => by
  obtain ⟨qs, root, ms, k, s, q, ei, ej, hq, r, e1, e2, mi, mj, bi, bj, hne, _⟩ := h
  have wi := walk_f hf hq (r.1.walk ei mi)
  have wj := walk_f hf hq (r.1.walk ej mj)
  have a := hf.2 s (List.mem_of_getElem? e1) _ _ q bi bj (hq.2 k s q e1 e2)
  have f0 := ratpos (hf.1 root)
  rw [wi, wj] at a
  apply hne
  grind
theorem does_cons {n : Nat} {ss : List Sg} {ws : List Int} (hs : ∀ s ∈ ss, InW n s) (hl : ws.length = n) (hd : doesB ws ss = true) : ∃ f, ConsF ss f := by
  unfold doesB at hd
  rw [Bool.and_eq_true, List.all_eq_true, List.all_eq_true] at hd
  obtain ⟨h1, h2⟩ := hd
  have w1 : ∀ (v : Nat) x, ws[v]? = some x → 1 ≤ x := fun v x e => of_decide_eq_true (h1 x (List.mem_of_getElem? e))
  refine ⟨fun v => if v < n then ((wAt ws (v : Int) : Int) : Rat) else 1, fun v => ?_, fun s hs' i j q ei ej eq => ?_⟩
  · dsimp only
    by_cases hv : v < n
    · rw [if_pos hv]
      obtain ⟨x, ex⟩ : ∃ x, ws[v]? = some x := ⟨_, List.getElem?_eq_getElem (by omega)⟩
      rw [wAt_of rfl ex]
      have := w1 v x ex
      exact_mod_cast (show (0 : Int) < x by omega)
    · rw [if_neg hv]; decide
  · dsimp only
    obtain ⟨a, b, ea, eb, la, lb⟩ := hs s hs'
    obtain rfl : a = i := by omega
    obtain rfl : b = j := by omega
    rw [if_pos la, if_pos lb]
    have := of_decide_eq_true (h2 s hs')
    rw [eq] at this
    have this : q = Rat.divInt (wAt ws s.j) (wAt ws s.i) := Option.some.inj this
    rw [ea, eb, Rat.divInt_eq_div] at this
    obtain ⟨x, ex⟩ : ∃ x, ws[a]? = some x := ⟨_, List.getElem?_eq_getElem (by omega)⟩
    have x1 := w1 a x ex
    rw [wAt_of rfl ex] at this ⊢
    have xn := ratne x1
    rw [this]; grind
theorem wgt_cons {n : Nat} {ss : List Sg} {ws : List Int} (hs : ∀ s ∈ ss, InW n s) (h : WgtW n ss ws) : ∃ f, ConsF ss f := does_cons hs h.1 h.2.2.1
end KK
end
section
set_option maxHeartbeats 8000000
set_option Elab.async false
set_option linter.all false
set_option maxRecDepth 100000
namespace KK
open PySem L2 KM
def cntK (n : Nat) (k : Nat → Option Rat) : Nat := (List.range n).countP fun v => (k v).isSome
def updK (k : Nat → Option Rat) (j : Nat) (y : Rat) : Nat → Option Rat := fun v => if v = j then some y else k v
theorem updK_same {k : Nat → Option Rat} {j : Nat} {y : Rat} : updK k j y j = some y := if_pos rfl
theorem updK_ne {k : Nat → Option Rat} {j v : Nat} {y : Rat} (h : v ≠ j) : updK k j y v = k v := if_neg h
theorem cntK_le (n : Nat) (k : Nat → Option Rat) : cntK n k ≤ n := by
  have := List.countP_le_length (p := fun v => (k v).isSome) (l := List.range n)
  rw [List.length_range] at this; exact this
theorem cntK_succ (n : Nat) (k : Nat → Option Rat) : cntK (n + 1) k = cntK n k + (if (k n).isSome = true then 1 else 0) := by
  unfold cntK
  rw [List.range_succ, List.countP_append, List.countP_singleton]
theorem cntK_out {k : Nat → Option Rat} {j : Nat} {y : Rat} : ∀ {n : Nat}, n ≤ j → cntK n (updK k j y) = cntK n k
  | 0, _ => rfl
  | n + 1, h => by rw [cntK_succ, cntK_succ, cntK_out (by omega), updK_ne (by omega)]
theorem cntK_upd {k : Nat → Option Rat} {j : Nat} {y : Rat} (h0 : k j = none) : ∀ {n : Nat}, j < n → cntK n (updK k j y) = cntK n k + 1
  | 0, h => absurd h (Nat.not_lt_zero _)
  | n + 1, h => by
    rw [cntK_succ, cntK_succ]
    by_cases e : n = j
    · subst e
      rw [cntK_out (Nat.le_refl _), updK_same, h0]; rfl
    · rw [cntK_upd h0 (by omega), updK_ne e]; omega
structure OldC (n : Nat) (ss : List Sg) (k : Nat → Option Rat) : Prop where
  cl : ∀ s ∈ ss, ∀ i j : Nat, s.i = (i : Int) → s.j = (j : Int) → ((k i).isSome ↔ (k j).isSome)
  eq : ∀ f, ConsF ss f → ∀ s ∈ ss, ∀ (i j : Nat) q x y, s.i = (i : Int) → s.j = (j : Int) → shQ s = some q → k i = some x → k j = some y → y = x * q
  ok : ∀ v x, k v = some x → 0 < x ∧ Sz (50 * cntK n k + 2) x
structure KnB (n : Nat) (ss : List Sg) (O : Nat → Option Rat) (ball : Nat) (k : Nat → Option Rat) : Prop where
  old : ∀ v, (O v).isSome → k v = O v
  new : ∀ f, ConsF ss f → ∀ v x, O v = none → k v = some x → x = f v / f ball
  ok : ∀ v x, k v = some x → 0 < x ∧ Sz (50 * cntK n k + 2) x
theorem opt_none {o : Option Rat} (h : ¬ o.isSome = true) : o = none := by cases o with | none => rfl | some x => exact absurd rfl h
theorem OldC.start {n : Nat} {ss : List Sg} {O : Nat → Option Rat} (h : OldC n ss O) {ball : Nat} (h0 : O ball = none) (hb : ball < n) : KnB n ss O ball (updK O ball 1) := by
  refine ⟨fun v hv => updK_ne fun z => ?_, fun f hf v x hv e => ?_, fun v x e => ?_⟩
  · rw [z, h0] at hv; cases hv
  · by_cases z : v = ball
    · subst z
      rw [updK_same] at e; cases e
      have := ratpos (hf.1 v)
      grind
    · rw [updK_ne z, hv] at e; cases e
  · rw [cntK_upd h0 hb]
    by_cases z : v = ball
    · subst z
      rw [updK_same] at e; cases e
      exact ⟨by decide, Sz.mono (m := 2) ⟨show (1 : Int).natAbs < 2 ^ 2 by decide, show (1 : Int).natAbs < 2 ^ 2 by decide⟩ (by omega)⟩
    · rw [updK_ne z] at e
      obtain ⟨a, b⟩ := h.ok v x e
      exact ⟨a, b.mono (by omega)⟩
section
variable {n : Nat} {ss : List Sg} {O : Nat → Option Rat} {ball : Nat} {k : Nat → Option Rat} {s : Sg} {i j : Nat} {q x : Rat}
theorem KnB.put (h : KnB n ss O ball k) {v0 : Nat} {y : Rat} (hv0 : k v0 = none) (hn : v0 < n) (hO : O v0 = none) (hy : 0 < y) (hz : Sz (50 * cntK n k + 52) y) (hf : ∀ f, ConsF ss f → y = f v0 / f ball) : KnB n ss O ball (updK k v0 y) := by
  refine ⟨fun v hv => ?_, fun f hc v x ho e => ?_, fun v x e => ?_⟩
  · rw [updK_ne fun z => by rw [z, hO] at hv; cases hv]; exact h.old v hv
  · by_cases z : v = v0
    · subst z
      rw [updK_same] at e; cases e
      exact hf f hc
    · rw [updK_ne z] at e
      exact h.new f hc v x ho e
  · rw [cntK_upd hv0 hn]
    by_cases z : v = v0
    · subst z
      rw [updK_same] at e; cases e
      exact ⟨hy, hz.mono (by omega)⟩
    · rw [updK_ne z] at e
      obtain ⟨a, b⟩ := h.ok v x e
      exact ⟨a, b.mono (by omega)⟩
theorem KnB.free (h : KnB n ss O ball k) {v : Nat} (e : k v = none) : O v = none := by
  cases ho : O v with
  | none => rfl
  | some x =>
    have := h.old v (by rw [ho]; rfl)
    rw [e, ho] at this; cases this
theorem KnB.fwd (c : OldC n ss O) (h : KnB n ss O ball k) (m : s ∈ ss) (ei : s.i = (i : Int)) (ej : s.j = (j : Int)) (hq : shQ s = some q) (hz : Sz 50 q) (e1 : k i = some x) (e2 : k j = none) (hj : j < n) : KnB n ss O ball (updK k j (x * q)) := by
  have oj := h.free e2
  have oi : O i = none := opt_none fun z => by
    have := (c.cl s m i j ei ej).mp z
    rw [oj] at this; cases this
  obtain ⟨x0, xz⟩ := h.ok i x e1
  have q0 := (shQ_some hq).2.2.2.2
  refine h.put e2 hj oj (Rat.mul_pos x0 q0) ((xz.mul hz).mono (by omega)) fun f hf => ?_
  rw [h.new f hf i x oi e1, hf.2 s m i j q ei ej hq]
  have := ratpos (hf.1 ball)
  grind
theorem KnB.bwd (c : OldC n ss O) (h : KnB n ss O ball k) (m : s ∈ ss) (ei : s.i = (i : Int)) (ej : s.j = (j : Int)) (hq : shQ s = some q) (hz : Sz 50 (1 / q)) (e1 : k j = some x) (e2 : k i = none) (hi : i < n) : KnB n ss O ball (updK k i (x * (1 / q))) := by
  have oi := h.free e2
  have oj : O j = none := opt_none fun z => by
    have := (c.cl s m i j ei ej).mpr z
    rw [oi] at this; cases this
  obtain ⟨x0, xz⟩ := h.ok j x e1
  have q0 := (shQ_some hq).2.2.2.2
  have qn := ratpos q0
  have qp : 0 < 1 / q := by rw [Rat.div_def, Rat.one_mul]; exact Rat.inv_pos.mpr q0
  refine h.put e2 hi oi (Rat.mul_pos x0 qp) ((xz.mul hz).mono (by omega)) fun f hf => ?_
  rw [h.new f hf j x oj e1, hf.2 s m i j q ei ej hq]
  have := ratpos (hf.1 ball)
  grind
theorem KnB.done (c : OldC n ss O) (h : KnB n ss O ball k) (hc : ∀ s ∈ ss, ∀ i j : Nat, s.i = (i : Int) → s.j = (j : Int) → ((k i).isSome ↔ (k j).isSome)) : OldC n ss k := by
  refine ⟨hc, fun f hf s m i j q x y ei ej hq ex ey => ?_, h.ok⟩
  have hcl := c.cl s m i j ei ej
  by_cases oi : (O i).isSome = true
  · have oj := hcl.mp oi
    exact c.eq f hf s m i j q x y ei ej hq (by rw [← h.old i oi]; exact ex) (by rw [← h.old j oj]; exact ey)
  · have a := h.new f hf i x (opt_none oi) ex
    have b := h.new f hf j y (opt_none fun z => oi (hcl.mpr z)) ey
    rw [a, b, hf.2 s m i j q ei ej hq]
    have := ratpos (hf.1 ball)
    grind
end
theorem OldC.nil {n : Nat} {ss : List Sg} : OldC n ss fun _ => none := ⟨fun _ _ _ _ _ _ => Iff.rfl, fun f _ s _ i j q x y _ _ _ e => (by cases e), fun v x e => (by cases e)⟩
theorem OldC.cons {n : Nat} {ss : List Sg} {k : Nat → Option Rat} (h : OldC n ss k) (hs : ∀ s ∈ ss, InW n s) (ha : ∀ v, v < n → (k v).isSome = true) (he : ∀ s ∈ ss, ∀ (i j : Nat) q x y, s.i = (i : Int) → s.j = (j : Int) → shQ s = some q → k i = some x → k j = some y → y = x * q) : ∃ f, ConsF ss f := by
  refine ⟨fun v => (k v).getD 1, fun v => ?_, fun s m i j q ei ej hq => ?_⟩
  · dsimp only
    cases e : k v with
    | none => decide
    | some x => exact (h.ok v x e).1
  · dsimp only
    obtain ⟨a, b, ea, eb, la, lb⟩ := hs s m
    obtain rfl : a = i := by omega
    obtain rfl : b = j := by omega
    obtain ⟨x, ex⟩ := Option.isSome_iff_exists.mp (ha a la)
    obtain ⟨y, ey⟩ := Option.isSome_iff_exists.mp (ha b lb)
    rw [ex, ey]
    exact he s m a b q x y ei ej hq ex ey
end KK
end
section
set_option maxHeartbeats 8000000
set_option Elab.async false
set_option linter.all false
set_option maxRecDepth 100000
namespace KK
open PySem L2 KM
theorem ixN_n {n j : Nat} (h : j < n) : ixN n (j : Int) = some j := by
  unfold ixN
  rw [if_pos (by omega)]
  simp; omega
theorem updK_some {k : Nat → Option Rat} {j v : Nat} {y : Rat} (h : (k v).isSome = true) : (updK k j y v).isSome = true := by
  by_cases e : v = j
  · rw [e, updK_same]; rfl
  · rw [updK_ne e]; exact h
def ShA (H : Hp) (v : V) (s : Sg) (q : Rat) : Prop := ∃ t r, v = .ref t ∧ H t = some (.tup [.int s.i, .int s.j, .ref r]) ∧ RatAt H r q
theorem ShA.tups {H H' : Hp} {v : V} {s : Sg} {q : Rat} (h : ShA H v s q) (e : TupS H H') : ShA H' v s q := by
  obtain ⟨t, r, a, b, c⟩ := h
  exact ⟨t, r, a, e _ _ b, e _ _ c⟩
def ShL (H : Hp) (vs : List V) (ss : List Sg) : Prop := vs.length = ss.length ∧ ∀ (i : Nat) s, ss[i]? = some s → ∃ v q, vs[i]? = some v ∧ shQ s = some q ∧ ShA H v s q
theorem ShL.tups {H H' : Hp} {vs : List V} {ss : List Sg} (h : ShL H vs ss) (e : TupS H H') : ShL H' vs ss := ⟨h.1, fun i s m => by obtain ⟨v, q, a, b, c⟩ := h.2 i s m; exact ⟨v, q, a, b, c.tups e⟩⟩
theorem ShL.at {H : Hp} {vs : List V} {ss : List Sg} (h : ShL H vs ss) {i : Nat} {x : V} (e : vs[i]? = some x) : ∃ s q, ss[i]? = some s ∧ shQ s = some q ∧ ShA H x s q := by
  have hi : i < vs.length := (List.getElem?_eq_some_iff.mp e).1
  obtain ⟨s, es⟩ : ∃ s, ss[i]? = some s := ⟨_, List.getElem?_eq_getElem (h := by rw [← h.1]; exact hi)⟩
  obtain ⟨v, q, a, b, c⟩ := h.2 i s es
  rw [a] at e; cases e
  exact ⟨s, q, es, b, c⟩
def KnL (H : Hp) (n : Nat) (vs : List V) (k : Nat → Option Rat) : Prop := vs.length = n ∧ ∀ v, v < n → ∃ u, vs[v]? = some u ∧ ORt H u (k v)
theorem KnL.tups {H H' : Hp} {n : Nat} {vs : List V} {k : Nat → Option Rat} (h : KnL H n vs k) (e : TupS H H') : KnL H' n vs k := ⟨h.1, fun v hv => by obtain ⟨u, a, b⟩ := h.2 v hv; exact ⟨u, a, b.tups e⟩⟩
theorem KnL.put {H : Hp} {n : Nat} {vs : List V} {k : Nat → Option Rat} (h : KnL H n vs k) {j : Nat} {y : Rat} {a : Addr} (hj : j < n) (ha : RatAt H a y) : KnL H n (vs.set j (.ref a)) (updK k j y) := by
  refine ⟨by rw [List.length_set]; exact h.1, fun v hv => ?_⟩
  by_cases e : v = j
  · subst e
    exact ⟨.ref a, by rw [List.getElem?_set_self (by rw [h.1]; exact hv)], by rw [updK_same]; exact ⟨a, rfl, ha⟩⟩
  · obtain ⟨u, b, c⟩ := h.2 v hv
    exact ⟨u, by rw [List.getElem?_set_ne (fun z => e z.symm)]; exact b, by rw [updK_ne e]; exact c⟩
theorem ORt.isN {H : Hp} {u : V} {o : Option Rat} (h : ORt H u o) : decide (u = .non) = !o.isSome := by
  cases o with
  | none => have h : u = .non := h
            rw [h]; rfl
  | some q =>
    obtain ⟨a, rfl, _⟩ := h
    rw [decide_eq_false (fun z => nomatch z)]; rfl
theorem inv_nd {q : Rat} (h : 0 < q) : (1 / q).num = (q.den : Int) ∧ ((1 / q).den : Int) = q.num := by
  have np : 0 < q.num := num_pos'.mpr h
  have e1 : (1 / q) = q⁻¹ := by rw [Rat.div_def, Rat.one_mul]
  refine ⟨?_, ?_⟩
  · rw [e1, Rat.num_inv, Int.sign_eq_one_of_pos np, Int.one_mul]
  · rw [e1, Rat.den_inv, if_neg (by intro z; rw [z] at np; exact absurd np (by decide))]
    omega
theorem rat_inv {H : Hp} {a : Addr} {q : Rat} (h : 0 < q) (e : H a = some (.tup [.int (q.den : Int), .int q.num])) : RatAt H a (1 / q) := by
  show H a = some (.tup [.int (1 / q).num, .int ((1 / q).den : Int)])
  rw [(inv_nd h).1, (inv_nd h).2]; exact e
theorem sz_inv {n : Nat} {q : Rat} (h : 0 < q) (z : Sz n q) : Sz n (1 / q) := ⟨by rw [(inv_nd h).1]; exact z.2, by rw [(inv_nd h).2]; exact z.1⟩
theorem KnL.cnt {H : Hp} {n : Nat} {vs : List V} {k : Nat → Option Rat} (h : KnL H n vs k) : vs.countP (fun u => !decide (u = .non)) = cntK n k := by
  have e : vs = (List.range n).map fun v => vs.getD v .non := by
    refine List.ext_getElem? fun i => ?_
    rw [List.getElem?_map]
    by_cases hi : i < n
    · obtain ⟨u, a, _⟩ := h.2 i hi
      rw [List.getElem?_range hi, a]
      show _ = some (vs.getD i .non)
      rw [List.getD_eq_getElem?_getD, a]; rfl
    · rw [List.getElem?_eq_none (by rw [h.1]; omega), List.getElem?_eq_none (by rw [List.length_range]; omega)]; rfl
  unfold cntK
  rw [e, List.countP_map]
  refine List.countP_congr fun v hv => ?_
  obtain ⟨u, a, b⟩ := h.2 v (List.mem_range.mp hv)
  show (!decide (vs.getD v .non = .non)) = true ↔ _
  rw [List.getD_eq_getElem?_getD, a]
  show (!decide (u = .non)) = true ↔ _
  rw [b.isN, Bool.not_not]
def muCa (lk : Addr) (n : Nat) : St → Hp → Nat := fun σ H => match H lk, σ with
  | some (.lst vs), _ :: _ :: _ :: _ :: _ :: some (.bl g) :: _ => 2 * (n - vs.countP fun u => !decide (u = .non)) + (if g then 1 else 0)
  | _, _ => 0
theorem K1.tup {lk : Addr} {H G : Hp} {vs : List V} (h : K1 lk H G) (e : H lk = some (.lst vs)) : TupS H G := fun b xs hb => h b _ (fun z => by rw [z, e] at hb; cases hb) hb
def canB (k : Nat → Option Rat) (s : Sg) : Bool := match k s.i.toNat, k s.j.toNat, shQ s with
  | some x, some y, some q => decide (y = x * q)
  | _, _, _ => false
theorem canB_of {k : Nat → Option Rat} {s : Sg} {i j : Nat} {x y q : Rat} (ei : s.i = (i : Int)) (ej : s.j = (j : Int)) (ex : k i = some x) (ey : k j = some y) (hq : shQ s = some q) : canB k s = decide (y = x * q) := by
  unfold canB
  rw [ei, ej, Int.toNat_natCast, Int.toNat_natCast, ex, ey, hq]
section
variable {P : Program} {w : World} {K : PySem.W.Frag} {mg : Str → Option Value} {base : Heap} {aN : Addr}
def spCa : Sp := fun vs H Q _ => ∃ (kd : Bool) (n : Nat) (as : Addr) (xs : List V) (ss : List Sg), vs = [.int (n : Int), .ref as] ∧ HSq kd H as xs ∧ SgL H xs ss ∧ (∀ s ∈ ss, InW n s) ∧ (∀ s ∈ ss, ∃ q, shQ s = some q ∧ Sz 50 q) ∧ 1 ≤ n ∧ n ≤ 8 ∧ xs.length ≤ 500 ∧
  ∀ b H', Same H H' → (b = true ↔ ∃ f, ConsF ss f) → Q (.bl b) H'
theorem sc_ca : FnScope ["n", "sightings", "known", "shares", "ball", "going", "i", "j", "share"] ["n", "sightings"] (defScope s_law_can) := ⟨rfl, rfl, rfl, by decide +kernel, rfl, by decide +kernel, by decide +kernel⟩
theorem ok_ca (D : Df K mg "_law_can" s_law_can ["n", "sightings"] []) (T : TxB K mg) (TF : TxF K mg aN) (cPr : Cal P w K mg base "_law_product" 2 ["one", "other"] [] (spBin Sz2 (· * ·))) (cSl : Cal P w K mg base "_law_share" 4 ["sighting"] [] spSh) : Cal P w K mg base "_law_can" 5 ["n", "sightings"] [] spCa := by
  refine D.calB (k := 4) sc_ca (fun vs H Q E h => by obtain ⟨_, _, _, _, _, rfl, _⟩ := h; rfl) (fun f cdv A outer s H vs Q E hr h => ?_)
  obtain ⟨kd, n, as, xs, ss, rfl, has, hss, hin, hsz, n1, n8, hxl, k⟩ := h
  have hr2 : Room 2 _ := hr.mono (by decide)
  have hu := hr.units
  refine ⟨_, (bx_scons (Bx.mk (ps_set (i := 2) sc_ca.nd rfl (Or.inr rfl) (pe_op op_repL (pe_lst (pa_cons pe_non pa_nil)) (pv 0))))
    (bx_scons (Bx.mk (ps_setC (i := 3) (NB := ["one"]) (FR := []) (js := []) rfl rfl (fun _ _ h => by cases h) .nil rfl (by decide +kernel) rfl (by decide +kernel) sc_ca.nd rfl rfl (by rfl) (pi_seqK (K := K) rfl (pv 1)) (by intro _ _ _; refine ⟨?_, ?_, ?_⟩; (exact (pg_name (i := 0) (show List.Nodup (["one"] : List Str) by decide +kernel) rfl (Or.inl rfl))); (exact pts_nil); (exact (pe_tup (pa_cons (pe_ix (ix_tupK (K := K) rfl) (pv 0) pe_int (fun _ _ => rfl)) (pa_cons (pe_ix (ix_tupK (K := K) rfl) (pv 0) pe_int (fun _ _ => rfl)) (pa_cons (pe_c cSl hr (pa_cons (pv 0) pa_nil)) pa_nil))))))))
    (bx_scons (Bx.mk (ps_for PassesOwn.never rfl (pi_range1 rfl T.nRange (pa_cons (pv 0) pa_nil)) (pg_name (i := 4) sc_ca.nd rfl (Or.inl rfl)) (bx_out (bx_scons (Bx.mk (ps_set (i := 5) sc_ca.nd rfl (Or.inl rfl) (pe_cmpR op_isN (pe_ix ix_list (pv 2) (pv 4) (fun _ _ => rfl)) pe_non (nomark _))))
    (bx_scons (Bx.mk (ps_if (pt_truth (pv 5) fun _ => rfl) (pss_one (ps_asg (pe_tup (pa_cons pe_int (pa_cons pe_int pa_nil))) (pg_sub (pv 2) (pv 4) set_list))) pss_nil))
    (Bx.mk (pss_one (ps_while PassesOwn.never (pt_truth (pv 5) fun _ => rfl) (bx_out (bx_scons (Bx.mk (ps_set (i := 5) sc_ca.nd rfl (Or.inl rfl) pe_bl))
    (Bx.mk (pss_one (ps_for PassesOwn.never rfl (pi_seqK (K := K) rfl (pv 3)) (pg_tup rfl (pgs_cons (pg_name (i := 6) sc_ca.nd rfl (Or.inl rfl)) (pgs_cons (pg_name (i := 7) sc_ca.nd rfl (Or.inl rfl)) (pgs_cons (pg_name (i := 8) sc_ca.nd rfl (Or.inl rfl)) pgs_nil)))) (bx_out (bx_scons (Bx.mk (ps_if (pw_and (pt_cmpR op_notN (pe_ix ix_list (pv 2) (pv 6) (fun _ _ => rfl)) pe_non (nomark _)) (pw_and1 (pt_cmpR op_isN (pe_ix ix_list (pv 2) (pv 7) (fun _ _ => rfl)) pe_non (nomark _)))).pt (pss_cons (ps_asg (pe_c cPr hr2 (pa_cons (pe_ix ix_list (pv 2) (pv 6) (fun _ _ => rfl)) (pa_cons (pv 8) pa_nil))) (pg_sub (pv 2) (pv 7) set_list))
    (pss_one (ps_set (i := 5) sc_ca.nd rfl (Or.inl rfl) pe_bl))) pss_nil))
    (Bx.mk (pss_one (ps_if (pw_and (pt_cmpR op_notN (pe_ix ix_list (pv 2) (pv 7) (fun _ _ => rfl)) pe_non (nomark _)) (pw_and1 (pt_cmpR op_isN (pe_ix ix_list (pv 2) (pv 6) (fun _ _ => rfl)) pe_non (nomark _)))).pt (pss_cons (ps_asg (pe_c cPr hr2 (pa_cons (pe_ix ix_list (pv 2) (pv 7) (fun _ _ => rfl)) (pa_cons (pe_tup (pa_cons (pe_ix ix_tup (pv 8) pe_int (fun _ _ => rfl)) (pa_cons (pe_ix ix_tup (pv 8) pe_int (fun _ _ => rfl)) pa_nil))) pa_nil))) (pg_sub (pv 2) (pv 6) set_list))
    (pss_one (ps_set (i := 5) sc_ca.nd rfl (Or.inl rfl) pe_bl))) pss_nil))))))))))))))))))
    (Bx.mk (pss_one (ps_ret (pe_callB (call_all rfl) (by rfl) TF.nAll (by decide +kernel) (pa_cons (pe_compC (NB := ["i", "j", "share"]) (FR := ["known"]) (js := [2]) rfl rfl (fun _ _ h => h) (.cons rfl rfl rfl ⟨_, rfl⟩ .nil) rfl (by decide +kernel) rfl (by decide +kernel) (pi_seqK (K := K) rfl (pv 3)) (by intro _ _ _; refine ⟨?_, ?_, ?_⟩; (exact (pg_tupK (K := K) (n := 3) rfl rfl (pgs_cons (pg_name (i := 0) (show List.Nodup (["i", "j", "share", "known"] : List Str) by decide +kernel) rfl (Or.inl rfl)) (pgs_cons (pg_name (i := 1) (show List.Nodup (["i", "j", "share", "known"] : List Str) by decide +kernel) rfl (Or.inl rfl)) (pgs_cons (pg_name (i := 2) (show List.Nodup (["i", "j", "share", "known"] : List Str) by decide +kernel) rfl (Or.inl rfl)) pgs_nil))))); (exact pts_nil); (exact (pe_cmpR (op_eqD hu) (pe_ix (ix_listK (K := K) rfl) (pv 3) (pv 1) (fun _ _ => rfl)) (pe_c cPr hr2 (pa_cons (pe_ix (ix_listK (K := K) rfl) (pv 3) (pv 0) (fun _ _ => rfl)) (pa_cons (pv 2) pa_nil))) (nomark _))))) pa_nil)))))))), ?_⟩
  refine ⟨by show 1 ≤ sizeLine; decide, fun l0 hl0 => ?_⟩
  refine ⟨_, rfl, l0, .non, n, rfl, rfl, upd_same, by omega, fun lk hlk => ?_⟩
  have S1 := (Same.upd (o := .lst [.non]) hl0).trans (Same.upd (o := .lst (List.replicate n .non)) hlk)
  have hlkH : H lk = none := (Same.upd (o := .lst [.non]) hl0).free hlk
  have g1 : upd (upd H l0 (.lst [.non])) lk (.lst (List.replicate n .non)) lk = some (.lst (List.replicate n .non)) := upd_same
  generalize upd (upd H l0 (.lst [.non])) lk (.lst (List.replicate n .non)) = H1 at S1 g1
  clear hlk hl0
  dsimp only [gName]
  have has1 := has.same S1
  refine ⟨_, rfl, kd, as, rfl, ⟨xs, has1.sq⟩, fun al hal => ?_⟩
  refine compC_each (js := []) (n := 1) (xs := xs) (fun i v G => ∃ s q, ss[i]? = some s ∧ shQ s = some q ∧ ShA G v s q) (fun i v H H' e ⟨s, q, a, b, c⟩ => ⟨s, q, a, b, c.tups e⟩) hal (runs_seq (k := kd) has1) (small1000 (by omega)) ?_ ?_
  · intro i x zs H2 Q' ex hz s2 hq'
    obtain ⟨z1, rfl⟩ := len1 hz
    obtain ⟨sg, es, hx, zg⟩ := hss.at ex
    have hx2 := hx.tups (.of (S1.trans s2))
    obtain ⟨a, p1, p2, p3, p4, rfl, ha, _⟩ := id hx2
    obtain ⟨q, eq, _⟩ := hsz sg (List.mem_of_getElem? es)
    refine ⟨rfl, _, rfl, a, _, 0, .int sg.i, rfl, rfl, .of ha, rfl, _, rfl, a, _, 1, .int sg.j, rfl, rfl, .of ha, rfl, _, rfl, _, sg, rfl, hx2, zg, fun u H3 s3 o3 => ⟨by show 3 ≤ sizeLine; decide, fun t ht => ?_⟩⟩
    rw [eq] at o3
    obtain ⟨r, rfl, hr'⟩ := o3
    exact hq' _ _ (s3.trans (Same.upd ht)) ⟨sg, q, es, eq, t, r, rfl, upd_same, Same.upd ht _ _ hr'⟩
  intro ys H2 s2 g2 hyl hyR
  have hyl' : ys.length = ss.length := by rw [hyl, hss.1]
  have hsh : ShL H2 ys ss := ⟨hyl', fun i s m => by
    obtain ⟨v, ev⟩ : ∃ v, ys[i]? = some v := ⟨_, List.getElem?_eq_getElem (by rw [hyl']; exact (List.getElem?_eq_some_iff.mp m).1)⟩
    obtain ⟨s', q, a, b, c⟩ := hyR i v ev
    rw [m] at a; cases a
    exact ⟨v, q, ev, b, c⟩⟩
  have gk2 := s2 _ _ g1
  have hne : al ≠ lk := fun z => by rw [z, g1] at hal; cases hal
  clear hyR hyl g1
  dsimp only [gName]
  refine st_for ?_
  refine ⟨_, rfl, (n : Int), rfl, by omega, by omega, ?_⟩
  refine for_range (n := ((n : Int) - 0).toNat) (lo := 0) (fun b σ G => ∃ vs kk z, z.length = 5 ∧ σ = some (.int (n : Int)) :: some (.ref as) :: some (.ref lk) :: some (.ref al) :: z ∧ K1 lk H2 G ∧ G lk = some (.lst vs) ∧ KnL G n vs kk ∧ OldC n ss kk ∧ ∀ v, v < b → (kk v).isSome = true)
    ⟨_, fun _ => none, [none, none, none, none, none], rfl, rfl, fun _ _ _ h => h, gk2, ⟨by simp, fun v hv => ⟨.non, by rw [List.getElem?_replicate, if_pos hv], rfl⟩⟩, .nil, fun v h => absurd h (Nat.not_lt_zero _)⟩ ?_ ?_
  · rintro b σ G hb ⟨vs, kk, z, hz, rfl, SG, gk, hkn, hC, hall⟩
    have hb' : b < n := by omega
    match z, hz with
    | [z4, z5, z6, z7, z8], _ =>
    have hil : ys.length ≤ 500 := by rw [hyl', ← hss.1]; exact hxl
    obtain ⟨u, au, ou⟩ := hkn.2 b hb'
    refine ⟨_, rfl, _, rfl, lk, vs, (0 + (b : Int)), u, rfl, rfl, .of gk, by rw [Int.zero_add]; exact atI_nat au, rfl, ?_⟩
    rw [ou.isN]
    dsimp only [gName]
    refine st_mid (fun σ' G' => ∃ vs' kk' g, σ' = [some (.int (n : Int)), some (.ref as), some (.ref lk), some (.ref al), some (.int (0 + (b : Int))), some (.bl g), z6, z7, z8] ∧ K1 lk H2 G' ∧ G' lk = some (.lst vs') ∧ KnL G' n vs' kk' ∧ (kk' b).isSome = true ∧ (∀ v, v < b → (kk' v).isSome = true) ∧ (g = true → KnB n ss kk b kk') ∧ (g = false → OldC n ss kk')) ?_ ?_
    rotate_left
    · intro nx hnx
      cases e : kk b with
      | some x => exact ⟨_, rfl, false, rfl, iteF (hnx _ _ ⟨vs, kk, false, rfl, SG, gk, hkn, by rw [e]; rfl, hall, fun z => (by cases z), fun _ => hC⟩)⟩
      | none =>
        refine ⟨_, rfl, true, rfl, iteT ?_⟩
        refine ⟨by show 2 ≤ sizeLine; decide, fun t ht => ?_⟩
        have s1 := Same.upd (o := .tup [.int 1, .int 1]) ht
        have gt : upd G t (.tup [.int 1, .int 1]) t = some (.tup [.int 1, .int 1]) := upd_same
        generalize upd G t (.tup [.int 1, .int 1]) = G1 at s1 gt
        refine ⟨_, rfl, _, rfl, lk, vs, (0 + (b : Int)), b, rfl, rfl, s1 _ _ gk, by rw [Int.zero_add, hkn.1]; exact ixN_n hb', ?_⟩
        have UL : TupS G1 (upd G1 lk (.lst (vs.set b (.ref t)))) := .upd (s1 _ _ gk)
        refine hnx _ _ ⟨vs.set b (.ref t), updK kk b 1, true, rfl, fun c o nc e' => by rw [upd_ne nc]; exact s1 _ _ (SG c o nc e'), upd_same, ((hkn.tups (.of s1)).put hb' (show RatAt G1 t 1 from gt)).tups UL, by rw [updK_same]; rfl, fun v hv => by rw [updK_ne (by omega)]; exact hall v hv, fun _ => hC.start e hb', fun z => (by cases z)⟩
    clear hkn gk SG hall au ou
    rintro σ' G1 ⟨vs1, kk1, g1, rfl, SG1, gk1, hkn1, hbs1, hall1, hT1, hF1⟩
    refine while_by (fun σ G => ∃ vs' kk' g z, z.length = 3 ∧ σ = some (.int (n : Int)) :: some (.ref as) :: some (.ref lk) :: some (.ref al) :: some (.int (0 + (b : Int))) :: some (.bl g) :: z ∧ K1 lk H2 G ∧ G lk = some (.lst vs') ∧ KnL G n vs' kk' ∧ (kk' b).isSome = true ∧ (∀ v, v < b → (kk' v).isSome = true) ∧ (g = true → KnB n ss kk b kk') ∧ (g = false → OldC n ss kk')) (muCa lk n) ⟨vs1, kk1, g1, _, rfl, rfl, SG1, gk1, hkn1, hbs1, hall1, hT1, hF1⟩ ?_ ?_
    rotate_left
    · rintro σ G Q1 Q2 hq ⟨v, e, kx, tv, q⟩
      exact ⟨v, e, kx, tv, hq _ _ q⟩
    clear hT1 hF1 hall1 hbs1 hkn1 gk1 SG1
    rintro σ G2 ⟨vs2, kk2, g2', z, hz, rfl, SG2, gk2', hkn2, hbs2, hall2, hT2, hF2⟩
    match z, hz with
    | [w6, w7, w8], _ =>
    cases g2' with
    | false =>
      exact ⟨_, rfl, false, rfl, iteF ⟨vs2, kk2, _, rfl, rfl, SG2, gk2', hkn2, hF2 rfl, fun v hv => by
        by_cases e : v = b
        · rw [e]; exact hbs2
        · exact hall2 v (by omega)⟩⟩
    | true =>
    have hB2 := hT2 rfl
    refine ⟨_, rfl, true, rfl, iteT ?_⟩
    refine st_set ?_
    refine ⟨_, rfl, false, al, rfl, ⟨ys, SqL.of (SG2 al _ hne g2)⟩, ?_⟩
    refine for_seq (k := false) (K := K) (a := al) (xs := ys) (fun i σ G => ∃ vs' kk' g z, z.length = 3 ∧ σ = some (.int (n : Int)) :: some (.ref as) :: some (.ref lk) :: some (.ref al) :: some (.int (0 + (b : Int))) :: some (.bl g) :: z ∧ K1 lk H2 G ∧ G lk = some (.lst vs') ∧ KnL G n vs' kk' ∧ (kk' b).isSome = true ∧ (∀ v, v < b → (kk' v).isSome = true) ∧ KnB n ss kk b kk' ∧ (g = false → kk' = kk2 ∧ ∀ s ∈ ss.take i, ∀ i j : Nat, s.i = (i : Int) → s.j = (j : Int) → ((kk' i).isSome ↔ (kk' j).isSome)) ∧ (g = true → cntK n kk2 < cntK n kk'))
      ⟨vs2, kk2, false, _, rfl, rfl, SG2, gk2', hkn2, hbs2, hall2, hB2, fun _ => ⟨rfl, fun s m => by simp at m⟩, fun z => (by cases z)⟩ (fun i σ G ⟨_, _, _, _, _, _, q, _⟩ => SqL.of (q al _ hne g2)) ?_ ?_
    rotate_left
    · rintro σ G3 ⟨vs3, kk3, g3, z, hz, rfl, SG3, gk3, hkn3, hbs3, hall3, hB3, hf3, ht3⟩
      refine ⟨⟨vs3, kk3, g3, z, hz, rfl, SG3, gk3, hkn3, hbs3, hall3, fun _ => hB3, fun e => ?_⟩, ?_⟩
      · refine hB3.done hC fun s m => (hf3 e).2 s ?_
        rw [List.take_of_length_le (by rw [hyl']; exact Nat.le_refl _)]; exact m
      · unfold muCa
        rw [gk3, gk2']
        dsimp only
        rw [hkn3.cnt, hkn2.cnt]
        have c3 := cntK_le n kk3
        have c2 := cntK_le n kk2
        cases g3 with
        | false => rw [(hf3 rfl).1]; show 2 * (n - cntK n kk2) + 0 < 2 * (n - cntK n kk2) + 1; omega
        | true => have := ht3 rfl; show 2 * (n - cntK n kk3) + 1 < 2 * (n - cntK n kk2) + 1; omega
    rintro i x σ G3 ex ⟨vs3, kk3, g3, z, hz, rfl, SG3, gk3, hkn3, hbs3, hall3, hB3, hf3, ht3⟩
    match z, hz with
    | [v6, v7, v8], _ =>
    have hsh3 := hsh.tups (SG3.tup gk2)
    obtain ⟨sg, q, es, hq, t, r, rfl, ht, hr3⟩ := hsh3.at ex
    obtain ⟨ni, nj, ei, ej, li, lj⟩ := hin sg (List.mem_of_getElem? es)
    obtain ⟨q', hq2, zq⟩ := hsz sg (List.mem_of_getElem? es)
    rw [hq] at hq2; cases hq2
    have hm := List.mem_of_getElem? es
    have hq0 := (shQ_some hq).2.2.2.2
    refine ⟨t, _, rfl, .of ht, rfl, _, _, rfl, _, _, rfl, _, _, rfl, rfl, ?_⟩
    refine st_mid (fun σ' G' => ∃ vs' kk' g, σ' = [some (.int (n : Int)), some (.ref as), some (.ref lk), some (.ref al), some (.int (0 + (b : Int))), some (.bl g), some (.int sg.i), some (.int sg.j), some (.ref r)] ∧ K1 lk H2 G' ∧ G' lk = some (.lst vs') ∧ RatAt G' r q ∧ KnL G' n vs' kk' ∧ (kk' b).isSome = true ∧ (∀ v, v < b → (kk' v).isSome = true) ∧ KnB n ss kk b kk' ∧ (g = false → kk' = kk2 ∧ (∀ s ∈ ss.take i, ∀ i j : Nat, s.i = (i : Int) → s.j = (j : Int) → ((kk' i).isSome ↔ (kk' j).isSome)) ∧ ((kk' ni).isSome = true → (kk' nj).isSome = true)) ∧ (g = true → cntK n kk2 < cntK n kk')) ?_ ?_
    rotate_left
    · intro nx hnx
      obtain ⟨ui, aui, oui⟩ := hkn3.2 ni li
      obtain ⟨uj, auj, ouj⟩ := hkn3.2 nj lj
      have ai : atI vs3 sg.i = some ui := by rw [ei]; exact atI_nat aui
      have aj : atI vs3 sg.j = some uj := by rw [ej]; exact atI_nat auj
      refine ⟨_, rfl, _, rfl, lk, vs3, sg.i, ui, rfl, rfl, .of gk3, ai, rfl, _, rfl, ?_⟩
      rw [oui.isN, Bool.not_not]
      cases e1 : kk3 ni with
      | none => exact iteF (iteF (hnx _ _ ⟨vs3, kk3, g3, rfl, SG3, gk3, hr3, hkn3, hbs3, hall3, hB3, fun e => ⟨(hf3 e).1, (hf3 e).2, fun z => by rw [e1] at z; cases z⟩, ht3⟩))
      | some x =>
        refine iteT ?_
        refine ⟨_, rfl, _, rfl, lk, vs3, sg.j, uj, rfl, rfl, .of gk3, aj, rfl, _, rfl, ?_⟩
        rw [ouj.isN]
        cases e2 : kk3 nj with
        | some y => exact iteF (hnx _ _ ⟨vs3, kk3, g3, rfl, SG3, gk3, hr3, hkn3, hbs3, hall3, hB3, fun e => ⟨(hf3 e).1, (hf3 e).2, fun _ => by rw [e2]; rfl⟩, ht3⟩)
        | none =>
          refine iteT ?_
          rw [e1] at oui
          obtain ⟨a1, rfl, ha1⟩ := oui
          have xz := (hB3.ok ni x e1).2
          have cn := cntK_le n kk3
          have hle : cntK n kk2 ≤ cntK n kk3 := by
            cases g3 with
            | false => rw [(hf3 rfl).1]; exact Nat.le_refl _
            | true => exact Nat.le_of_lt (ht3 rfl)
          refine ⟨_, rfl, _, rfl, lk, vs3, sg.i, _, rfl, rfl, .of gk3, ai, _, rfl, a1, r, x, q, rfl, ha1, hr3, ⟨xz.mono (by omega), zq.mono (by decide)⟩, fun r4 G4 s4 h4 => ?_⟩
          refine ⟨_, rfl, _, rfl, lk, vs3, sg.j, nj, rfl, rfl, s4 _ _ gk3, by rw [ej, hkn3.1]; exact ixN_n lj, ?_⟩
          have UL : TupS G4 (upd G4 lk (.lst (vs3.set nj (.ref r4)))) := .upd (s4 _ _ gk3)
          exact hnx _ _ ⟨vs3.set nj (.ref r4), updK kk3 nj (x * q), true, rfl, fun c o nc e' => by rw [upd_ne nc]; exact s4 _ _ (SG3 c o nc e'), upd_same, UL _ _ (s4 _ _ hr3), ((hkn3.tups (.of s4)).put lj h4).tups UL, updK_some hbs3, fun v hv => updK_some (hall3 v hv), hB3.fwd hC hm ei ej hq zq e1 e2 lj, fun z => (by cases z), fun _ => by rw [cntK_upd e2 lj]; omega⟩
    clear hf3 ht3 hB3 hall3 hbs3 hkn3 gk3 SG3 hsh3 ht hr3
    rintro σ' G4 ⟨vs4, kk4, g4, rfl, SG4, gk4, hr4, hkn4, hbs4, hall4, hB4, hf4, ht4⟩
    obtain ⟨ui, aui, oui⟩ := hkn4.2 ni li
    obtain ⟨uj, auj, ouj⟩ := hkn4.2 nj lj
    have ai : atI vs4 sg.i = some ui := by rw [ei]; exact atI_nat aui
    have aj : atI vs4 sg.j = some uj := by rw [ej]; exact atI_nat auj
    have fin : (g4 = false → ((kk4 nj).isSome = true → (kk4 ni).isSome = true)) → g4 = false → kk4 = kk2 ∧ ∀ s ∈ ss.take (i + 1), ∀ i j : Nat, s.i = (i : Int) → s.j = (j : Int) → ((kk4 i).isSome ↔ (kk4 j).isSome) := fun hh e => by
      refine ⟨(hf4 e).1, fun s ms => ?_⟩
      rw [tk_snoc es] at ms
      rcases List.mem_append.mp ms with ms | ms
      · exact (hf4 e).2.1 s ms
      · have : s = sg := by simpa using ms
        subst this
        intro i' j' ei' ej'
        obtain rfl : ni = i' := by omega
        obtain rfl : nj = j' := by omega
        exact ⟨(hf4 e).2.2, hh e⟩
    refine ⟨_, rfl, _, rfl, lk, vs4, sg.j, uj, rfl, rfl, .of gk4, aj, rfl, _, rfl, ?_⟩
    rw [ouj.isN, Bool.not_not]
    cases e1 : kk4 nj with
    | none => exact iteF (iteF ⟨vs4, kk4, g4, _, rfl, rfl, SG4, gk4, hkn4, hbs4, hall4, hB4, fin fun _ z => (by rw [e1] at z; cases z), ht4⟩)
    | some x =>
      refine iteT ?_
      refine ⟨_, rfl, _, rfl, lk, vs4, sg.i, ui, rfl, rfl, .of gk4, ai, rfl, _, rfl, ?_⟩
      rw [oui.isN]
      cases e2 : kk4 ni with
      | some y => exact iteF ⟨vs4, kk4, g4, _, rfl, rfl, SG4, gk4, hkn4, hbs4, hall4, hB4, fin fun _ _ => (by rw [e2]; rfl), ht4⟩
      | none =>
        refine iteT ?_
        rw [e1] at ouj
        obtain ⟨a1, rfl, ha1⟩ := ouj
        have xz := (hB4.ok nj x e1).2
        have cn := cntK_le n kk4
        have hle : cntK n kk2 ≤ cntK n kk4 := by
          cases g4 with
          | false => rw [(hf4 rfl).1]; exact Nat.le_refl _
          | true => exact Nat.le_of_lt (ht4 rfl)
        have zi : Sz 50 (1 / q) := sz_inv hq0 zq
        refine ⟨_, rfl, _, rfl, lk, vs4, sg.j, _, rfl, rfl, .of gk4, aj, _, rfl, r, _, 1, .int (q.den : Int), rfl, rfl, .of hr4, rfl, _, rfl, r, _, 0, .int q.num, rfl, rfl, .of hr4, rfl, by show 2 ≤ sizeLine; decide, fun t5 ht5 => ?_⟩
        have s5 := Same.upd (o := .tup [.int (q.den : Int), .int q.num]) ht5
        have g5 : upd G4 t5 (.tup [.int (q.den : Int), .int q.num]) t5 = some (.tup [.int (q.den : Int), .int q.num]) := upd_same
        generalize upd G4 t5 (.tup [.int (q.den : Int), .int q.num]) = G5 at s5 g5
        refine ⟨a1, t5, x, 1 / q, rfl, s5 _ _ ha1, rat_inv hq0 g5, ⟨xz.mono (by omega), zi.mono (by decide)⟩, fun r6 G6 s6 h6 => ?_⟩
        have S6 := s5.trans s6
        refine ⟨_, rfl, _, rfl, lk, vs4, sg.i, ni, rfl, rfl, S6 _ _ gk4, by rw [ei, hkn4.1]; exact ixN_n li, ?_⟩
        have UL : TupS G6 (upd G6 lk (.lst (vs4.set ni (.ref r6)))) := .upd (S6 _ _ gk4)
        exact ⟨vs4.set ni (.ref r6), updK kk4 ni (x * (1 / q)), true, _, rfl, rfl, fun c o nc e' => by rw [upd_ne nc]; exact S6 _ _ (SG4 c o nc e'), upd_same, ((hkn4.tups (.of S6)).put li h6).tups UL, updK_some hbs4, fun v hv => updK_some (hall4 v hv), hB4.bwd hC hm ei ej hq zi e1 e2 li, fun z => (by cases z), fun _ => by rw [cntK_upd e2 li]; omega⟩
  · rintro σ G ⟨vs, kk, z, hz, rfl, SG, gk, hkn, hC, hall⟩
    have hall : ∀ v, v < n → (kk v).isSome = true := fun v hv => hall v (by omega)
    have TU := SG.tup gk2
    have hshG := hsh.tups TU
    have gal : G al = some (.lst ys) := SG al _ hne g2
    have hil : ys.length ≤ 500 := by rw [hyl', ← hss.1]; exact hxl
    refine ⟨_, rfl, false, al, rfl, ⟨ys, SqL.of gal⟩, fun D2 hD2 => ?_⟩
    refine compC_each (js := [2]) (n := 3) (xs := ys) (fun i v _ => ∃ s, ss[i]? = some s ∧ v = .bl (canB kk s)) (fun i v H H' _ h => h) hD2 (runs_seq (k := false) gal) (small1000 (by omega)) ?_ ?_
    · intro i x zs H3 Q' ex hz1 s3 hq'
      match zs, hz1 with
      | [y1, y2, y3], _ =>
      obtain ⟨sg, q, es, hq, t, r, rfl, ht, hr'⟩ := hshG.at ex
      obtain ⟨ni, nj, ei, ej, li, lj⟩ := hin sg (List.mem_of_getElem? es)
      obtain ⟨q', hq2, zq⟩ := hsz sg (List.mem_of_getElem? es)
      rw [hq] at hq2; cases hq2
      obtain ⟨x, ex'⟩ := Option.isSome_iff_exists.mp (hall ni li)
      obtain ⟨y, ey'⟩ := Option.isSome_iff_exists.mp (hall nj lj)
      obtain ⟨ui, aui, oui⟩ := hkn.2 ni li
      obtain ⟨uj, auj, ouj⟩ := hkn.2 nj lj
      rw [ex'] at oui
      rw [ey'] at ouj
      obtain ⟨ai, rfl, hai⟩ := oui
      obtain ⟨aj, rfl, haj⟩ := ouj
      have xz := (hC.ok ni x ex').2
      have cn := cntK_le n kk
      refine ⟨t, _, rfl, .of (s3 _ _ ht), rfl, _, _, rfl, _, _, rfl, _, _, rfl, rfl, rfl, ?_⟩
      refine ⟨_, rfl, _, rfl, lk, vs, sg.j, _, rfl, rfl, .of (s3 _ _ gk), by rw [ej]; exact atI_nat auj, ?_⟩
      refine ⟨_, rfl, _, rfl, lk, vs, sg.i, _, rfl, rfl, .of (s3 _ _ gk), by rw [ei]; exact atI_nat aui, ?_⟩
      refine ⟨_, rfl, ai, r, x, q, rfl, s3 _ _ hai, s3 _ _ hr', ⟨xz.mono (by omega), zq.mono (by decide)⟩, fun r4 H4 s4 h4 => ?_⟩
      refine ⟨_, _, RatAt.rd ((s3.trans s4) _ _ haj), h4.rd, shaped_rp _, shaped_rp _, hq' _ _ s4 ⟨sg, es, ?_⟩⟩
      rw [eqv_r, canB_of ei ej ex' ey' hq]
    intro bs H3 s3 hD3 hbl hbR
    have eb := list_of_map (f := fun s => V.bl (canB kk s)) (rs := ss) (by rw [hbl, hyl']) hbR
    refine ⟨D2, ss.map (canB kk), rfl, SqL.of (by rw [hD3, eb, List.map_map]; rfl), ?_⟩
    refine k _ _ (fun b o e => s3 _ _ (SG b o (ne_of_none e hlkH) ((S1.trans s2) _ _ e))) ?_
    rw [List.all_map, List.all_eq_true]
    constructor
    · intro h
      refine hC.cons hin hall fun s m i j q x y ei ej hq ex ey => ?_
      have := h s m
      have this : canB kk s = true := this
      rw [canB_of ei ej ex ey hq] at this
      exact of_decide_eq_true this
    · rintro ⟨f, hf⟩ s m
      obtain ⟨ni, nj, ei, ej, li, lj⟩ := hin s m
      obtain ⟨q, hq, _⟩ := hsz s m
      obtain ⟨x, ex⟩ := Option.isSome_iff_exists.mp (hall ni li)
      obtain ⟨y, ey⟩ := Option.isSome_iff_exists.mp (hall nj lj)
      show canB kk s = true
      rw [canB_of ei ej ex ey hq]
      exact decide_eq_true (hC.eq f hf s m ni nj q x y ei ej hq ex ey)
end
end KK
end
section
set_option maxHeartbeats 8000000
set_option Elab.async false
set_option linter.all false
set_option maxRecDepth 100000
namespace KK
open PySem L2 KM
theorem SgL.snoc {H : Hp} {vs : List V} {ss : List Sg} {v : V} {s : Sg} (h : SgL H vs ss) (a : SgAt H v s) (z : SgZ s) : SgL H (vs ++ [v]) (ss ++ [s]) := by
  refine ⟨by simp [h.1], fun i s' m => ?_⟩
  by_cases hi : i < ss.length
  · rw [List.getElem?_append_left hi] at m
    obtain ⟨u, b, c⟩ := h.2 i s' m
    exact ⟨u, by rw [List.getElem?_append_left (by rw [h.1]; exact hi)]; exact b, c⟩
  · rw [List.getElem?_append_right (by omega)] at m
    have h0 : i - ss.length = 0 := by
      have := (List.getElem?_eq_some_iff.mp m).1
      simp at this; omega
    rw [h0] at m
    have : s = s' := by simpa using m
    subst this
    exact ⟨v, by rw [List.getElem?_append_right (by rw [h.1]; omega), h.1, h0]; rfl, a, z⟩
theorem SgL.nil {H : Hp} : SgL H [] [] := ⟨rfl, fun i s m => by simp at m⟩
theorem gd_sh {ws : List Int} (hw : ∀ x ∈ ws, 1 ≤ x ∧ x ≤ 1000) {s : Sg} (h : GdS ws s) : ∃ q, shQ s = some q ∧ Sz 50 q := by
  obtain ⟨ni, nj, wi, wj, _, _, _, a3, a4, a5⟩ := h
  have b1 := hw wi (List.mem_of_getElem? a3)
  have b2 := hw wj (List.mem_of_getElem? a4)
  refine ⟨_, a5, ?_⟩
  rw [← Rat.divInt_eq_div]
  exact sz_qq (by omega) (by omega) (by omega) (by omega)
def SgP (n : Nat) (s : Sg) : Prop := InW n s ∧ ∃ q, shQ s = some q ∧ Sz 50 q
section
variable {P : Program} {w : World} {K : PySem.W.Frag} {mg : Str → Option Value} {base : Heap} {aN : Addr}
def spDr (K : PySem.W.Frag) : Sp := fun vs H Q _ => ∃ (a : Addr) (ns : List Int) (n : Nat), vs = [.ref a, .int (n : Int)] ∧ SqL K H a (ns.map V.int) ∧ ns.length ≤ 63 ∧ 2 ≤ n ∧ n ≤ 8 ∧
  ∀ (t lw ls : Addr) (ws : List Int) (xs : List V) (ss : List Sg) H', Same H H' → H' t = some (.tup [.ref lw, .ref ls]) → H' lw = some (.lst (ws.map V.int)) → ws.length = n → (∀ x ∈ ws, 1 ≤ x ∧ x ≤ 1000) → H' ls = some (.lst xs) → SgL H' xs ss → xs.length ≤ 41 → (∀ s ∈ ss, SgP n s) → Q (.ref t) H'
theorem sc_dr : FnScope ["script", "n", "weights", "some", "k", "pool", "other"] ["script", "n"] (defScope s_law_drawn) := ⟨rfl, rfl, rfl, by decide +kernel, rfl, by decide +kernel, by decide +kernel⟩
theorem ok_dr (D : Df K mg "_law_drawn" s_law_drawn ["script", "n"] []) (T : TxB K mg) (TF : TxF K mg aN) (cC : Cal P w K mg base "_law_cell" 1 ["script", "k"] [] (spCell K)) (cD : Cal P w K mg base "_law_dig" 1 ["cell"] [] spDig) (cN : Cal P w K mg base "_law_next" 1 ["pool", "base"] [] spNext)
    (cWe : Cal P w K mg base "_law_weights" 2 ["pool", "many"] [] spWe) (cSi : Cal P w K mg base "_law_sighting" 5 ["pool", "weights"] [] spSi) : Cal P w K mg base "_law_drawn" 6 ["script", "n"] [] (spDr K) := by
  refine D.calB (k := 5) sc_dr (fun vs H Q E h => by obtain ⟨_, _, _, rfl, _⟩ := h; rfl) (fun f cdv A outer s H vs Q E hr h => ?_)
  obtain ⟨a, ns, n, rfl, hS, hlen, n1, n8, k⟩ := h
  have hr1 : Room 1 _ := hr.mono (by decide)
  have hr2 : Room 2 _ := hr.mono (by decide)
  refine ⟨_, (bx_scons (Bx.mk (ps_set (i := 2) sc_dr.nd rfl (Or.inl rfl) (pe_c cWe hr2 (pa_cons (pe_c cD hr1 (pa_cons (pe_op op_add (pe_c cC hr1 (pa_cons (pv 0) (pa_cons pe_int pa_nil))) pe_int) pa_nil)) (pa_cons (pv 1) pa_nil)))))
    (bx_scons (Bx.mk (ps_set (i := 3) sc_dr.nd rfl (Or.inl rfl) (pe_lst pa_nil)))
    (bx_scons (Bx.mk (ps_for PassesOwn.never rfl (pi_range2 rfl T.nRange (pa_cons pe_int (pa_cons (pe_callB (call_max2 rfl) (by rfl) T.nMax PyProof.Rows.boot_max (pa_cons pe_int (pa_cons (pe_callB (call_min2 rfl) (by rfl) T.nMin PyProof.Rows.boot_min (pa_cons pe_int (pa_cons (pe_callB call_len_seq (by rfl) T.nLen PySem.boot_len (pa_cons (pv 0) pa_nil)) pa_nil))) pa_nil))) pa_nil))) (pg_name (i := 4) sc_dr.nd rfl (Or.inl rfl)) (bx_out (bx_scons (Bx.mk (ps_set (i := 5) sc_dr.nd rfl (Or.inl rfl) (pe_c cD hr1 (pa_cons (pe_c cC hr1 (pa_cons (pv 0) (pa_cons (pv 4) pa_nil))) pa_nil))))
    (bx_scons (Bx.mk (ps_set (i := 6) sc_dr.nd rfl (Or.inl rfl) (pe_callTy call_list_of (by rfl) TF.nList PyProof.Rows.boot_list (pa_cons (pv 2) pa_nil))))
    (bx_scons (Bx.mk (ps_if (pt_cmpR op_eq (pe_c cN hr1 (pa_cons (pv 5) (pa_cons pe_int pa_nil))) pe_int (nomark _)) (pss_one (ps_asg (pe_op op_add pe_int (pe_c cN hr1 (pa_cons (pv 5) (pa_cons pe_int pa_nil)))) (pg_sub (pv 6) (pe_c cN hr1 (pa_cons (pv 5) (pa_cons (pv 1) pa_nil))) set_list))) pss_nil))
    (Bx.mk (pss_one (ps_expr (pe_bm PySem.F.plainAttrs_list PySem.F.slot_list_append PySem.F.type_list_append mt_append (pv 3) (pa_cons (pe_c cSi hr (pa_cons (pv 5) (pa_cons (pv 6) pa_nil))) pa_nil)))))))))))
    (Bx.mk (pss_one (ps_ret (pe_tup (pa_cons (pv 2) (pa_cons (pv 3) pa_nil))))))))), ?_⟩
  -- weights
  refine ⟨_, rfl, a, ns, 0, rfl, hS, by decide, by decide, fun c1 => ⟨_, _, rfl, rfl, _, rfl, fun p1 H2 hp1 s2 hP1 => ?_⟩⟩
  refine ⟨_, rfl, p1, n, rfl, n8, hP1, fun lw ws H3 t3 hlw1 hlw3 hwl hwv => ?_⟩
  have S3 := step_same s2 hp1 t3
  have hS3 := S3.seq hS
  clear hlw1 t3 hP1 s2 hp1
  dsimp only [gName]
  refine ⟨by show 0 ≤ sizeLine; decide, fun ls hls => ?_⟩
  have s5 := Same.upd (o := .lst []) hls
  have g5 : upd H3 ls (.lst []) ls = some (.lst []) := upd_same
  generalize upd H3 ls (.lst []) = H5 at s5 g5
  dsimp only [gName]
  refine st_for ?_
  refine ⟨_, rfl, a, _, rfl, .inl (s5.seq hS3), _, _, rfl, _, _, rfl, _, _, rfl, ?_⟩
  obtain ⟨m, em⟩ : ∃ m : Int, m = (if (if ((ns.map V.int).length : Int) < 41 then ((ns.map V.int).length : Int) else 41) > 9 then (if ((ns.map V.int).length : Int) < 41 then ((ns.map V.int).length : Int) else 41) else 9) := ⟨_, rfl⟩
  have m0 : 9 ≤ m ∧ m ≤ 41 := by
    rw [em]; split <;> split at * <;> omega
  rw [← em]
  refine ⟨⟨by decide, by decide, by omega, by omega⟩, ?_⟩
  refine for_range (n := (m - 1).toNat) (lo := 1) (fun i σ G => ∃ z xs ss, z.length = 3 ∧ σ = some (.ref a) :: some (.int (n : Int)) :: some (.ref lw) :: some (.ref ls) :: z ∧ Same H3 G ∧ G ls = some (.lst xs) ∧ SgL G xs ss ∧ xs.length ≤ i ∧ ∀ s ∈ ss, SgP n s)
    ⟨[none, none, none], [], [], rfl, rfl, s5, g5, .nil, Nat.le_refl _, fun s m => by cases m⟩ ?_ ?_
  rotate_left
  · rintro σ G ⟨z, xs, ss, hz, rfl, S0, gs0, hss0, hxl0, hgd0⟩
    refine ⟨_, rfl, _, rfl, by show 2 ≤ sizeLine; decide, fun t ht => ?_⟩
    have s6 := Same.upd (o := .tup [.ref lw, .ref ls]) ht
    exact k t lw ls ws xs ss _ (S3.trans (S0.trans s6)) upd_same ((S0.trans s6) _ _ hlw3) hwl hwv (s6 _ _ gs0) (hss0.tups (.of s6)) (by omega) hgd0
  clear s5 g5 em
  rintro i σ G0 hi ⟨z, vs, ss, hz, rfl, S0, hl0, hL0, hvl, hgd⟩
  match z, hz with
  | [z1, z2, z3], _ =>
  refine ⟨_, rfl, _, rfl, a, ns, _, rfl, S0.seq hS3, by omega, by omega, fun c => ⟨c, rfl, fun p G1 hp s1 hP1 => ?_⟩⟩
  dsimp only [gName]
  have hpl : ls ≠ p := by rintro rfl; rw [hl0] at hp; cases hp
  have S1 := S0.trans s1
  have hpH : H3 p = none := S0.free hp
  refine ⟨_, rfl, lw, _, rfl, .inl (.of (S1 _ _ hlw3)), fun lo hlo => ?_⟩
  have s2 := Same.upd (o := .lst (ws.map V.int)) hlo
  have hlo2 : upd G1 lo (.lst (ws.map V.int)) lo = some (.lst (ws.map V.int)) := upd_same
  have hlop : lo ≠ p := hP1.ne hlo
  have hP2 : Pool (upd G1 lo (.lst (ws.map V.int))) p := hP1.new hlo
  have hloH : H3 lo = none := S1.free hlo
  have S2 := S1.trans s2
  have hl2 := s2 _ _ (s1 _ _ hl0)
  have hL2 := (hL0.tups (.of s1)).tups (.of s2)
  have hlol : ls ≠ lo := by rintro rfl; rw [s1 _ _ hl0] at hlo; cases hlo
  clear hlo hP1 hl0 hL0 s1 S0 S1 hp
  generalize upd G1 lo (.lst (ws.map V.int)) = G2 at s2 hlo2 hP2 S2 hl2 hL2
  clear s2
  dsimp only [gName]
  refine st_mid (fun σ' G => ∃ ws' : List Int, σ' = [some (.ref a), some (.int (n : Int)), some (.ref lw), some (.ref ls), some (.int (1 + (i : Int))), some (.ref p), some (.ref lo)] ∧ Pool G p ∧ Same H3 G ∧ TupS G2 G ∧ G ls = some (.lst vs) ∧ G lo = some (.lst (ws'.map V.int)) ∧ ws'.length = n ∧ ∀ x ∈ ws', 1 ≤ x ∧ x ≤ 1000) ?_ ?_
  rotate_left
  · intro nx hnx
    refine ⟨_, rfl, p, _, rfl, by decide, by decide, hP2, fun d G3 d0 d1 t3 => ⟨rfl, _, rfl, ?_⟩⟩
    refine ite2 (fun _ => ?_) (fun _ => ?_)
    rotate_left
    · exact hnx _ _ ⟨ws, rfl, t3.pool, step_same S2 hpH t3, step_tups hP2 t3, t3.keep _ _ hl2 hpl, t3.keep _ _ hlo2 hlop, hwl, hwv⟩
    refine ⟨_, rfl, p, _, rfl, by decide, by decide, t3.pool, fun e G4 e0 e1 t4 => ⟨_, _, rfl, rfl, ?_⟩⟩
    refine ⟨_, rfl, _, rfl, _, rfl, p, _, rfl, by omega, by omega, t4.pool, fun g G5 g0 g1 t5 => ?_⟩
    have T5 := t3.trans (t4.trans t5)
    have eg : ((g.toNat : Nat) : Int) = g := by omega
    refine ⟨lo, _, _, g.toNat, rfl, rfl, T5.keep _ _ hlo2 hlop, by rw [← eg]; exact ixN_n (by simp; omega), ?_⟩
    have hs5 := step_same S2 hpH T5
    refine hnx _ _ ⟨ws.set g.toNat (1 + e), rfl, ?_, fun b o eb => ?_, (step_tups hP2 T5).trans (.upd (T5.keep _ _ hlo2 hlop)), ?_, ?_, by simp [hwl], fun x hx => ?_⟩
    · obtain ⟨q1, q2, q3, q⟩ := T5.pool
      exact ⟨q1, q2, q3, by rw [upd_ne (Ne.symm hlop)]; exact q⟩
    · rw [upd_ne (ne_of_none eb hloH)]; exact hs5 _ _ eb
    · rw [upd_ne hlol]; exact T5.keep _ _ hl2 hpl
    · rw [upd_same, List.map_set]
    · rcases List.mem_or_eq_of_mem_set hx with z | z
      · exact hwv x z
      · rw [z]; omega
  rintro σ' G3 ⟨ws', rfl, hP3, S3, Tu3, hl3, hlo3, hwl3, hwv3⟩
  have hL3 := hL2.tups Tu3
  clear Tu3 hL2 hl2 hlo2 hP2 S2
  refine ⟨_, rfl, .inl ⟨rfl, _, SqL.of hl3⟩, ?_⟩
  refine ⟨_, rfl, _, rfl, p, lo, ws', rfl, hP3, hlop, hlo3, by omega, by omega, hwv3, fun t sg G4 t4 hsg zsg gsg _ => ?_⟩
  have hl4 := t4.keep _ _ hl3 hpl
  refine ⟨ls, vs, _, rfl, rfl, hl4, small1000 (by omega), ?_⟩
  have UL : TupS G4 (upd G4 ls (.lst (vs ++ [.ref t]))) := .upd hl4
  refine ⟨_, vs ++ [.ref t], ss ++ [sg], rfl, rfl, fun b o eb => ?_, upd_same, ((hL3.tups (step_tups hP3 t4)).tups UL).snoc (hsg.tups UL) zsg.z, by simp; omega, fun s' hs' => ?_⟩
  · rw [upd_ne (ne_of_none eb hls)]; exact step_same S3 hpH t4 _ _ eb
  · rcases List.mem_append.mp hs' with y | y
    · exact hgd s' y
    · have : s' = sg := by simpa using y
      subst this
      have hgS : GdS ws' s' := gsg
      exact ⟨by rw [← hwl3]; exact hgS.inW, gd_sh hwv3 hgS⟩
end
end KK
end
section
set_option maxHeartbeats 8000000
set_option Elab.async false
set_option linter.all false
set_option maxRecDepth 100000
namespace KK
open PySem L2 KM
theorem SgL.take {H : Hp} {vs : List V} {ss : List Sg} (h : SgL H vs ss) (n : Nat) : SgL H (vs.take n) (ss.take n) := by
  refine ⟨by rw [List.length_take, List.length_take, h.1], fun i s m => ?_⟩
  rw [List.getElem?_take] at m
  split at m
  · rename_i hi
    obtain ⟨v, a, b⟩ := h.2 i s m
    exact ⟨v, by rw [List.getElem?_take, if_pos hi]; exact a, b⟩
  · cases m
theorem cut_take {vs : List V} {n : Nat} : cutV vs none (some (n : Int)) = vs.take n := by
  unfold cutV
  have e1 : HT.sIx vs.length 0 none = 0 := rfl
  rw [e1, List.drop_zero, Nat.sub_zero]
  by_cases h : n ≤ vs.length
  · have : HT.sIx vs.length vs.length (some (n : Int)) = n := by rw [HT.sIx_nat]; omega
    rw [this]
  · have : HT.sIx vs.length vs.length (some (n : Int)) = vs.length := by rw [HT.sIx_nat]; omega
    rw [this, List.take_length, List.take_of_length_le (by omega)]
theorem ring_len {n : Nat} {ss : List Sg} {rs : List (Int × Int)} (n8 : n ≤ 8) (h : RingW n ss rs) : rs.length ≤ 40 := by
  obtain ⟨qs, root, ms, k, s, q, ei, ej, hq, r, e1, e2, mi, mj, bi, bj, hne, rfl⟩ := h
  have a1 := r.1.len ei mi
  have a2 := r.1.len ej mj
  have a3 := r.1.card
  obtain ⟨c, ca, cb⟩ := cpre_split ei.path ej.path
  have l1 : (cpre ei.path ej.path).1.length ≤ ei.path.length := by rw [congrArg List.length ca, List.length_append]; omega
  have l2 : (cpre ei.path ej.path).2.length ≤ ej.path.length := by rw [congrArg List.length cb, List.length_append]; omega
  unfold ringR
  rw [List.length_append, List.length_append, List.length_map, List.length_reverse, List.length_singleton]
  omega
def rgD (rs : List (Int × Int)) : PyData := .tuple [.str "ring", .list (rs.map prD)]
theorem lay_rg (rs : List (Int × Int)) : Lay 3 (rgD rs) := Lay.tup fun d m => by
  simp only [List.mem_cons, List.not_mem_nil, or_false] at m
  rcases m with rfl | rfl
  · exact ⟨by decide +kernel, by decide +kernel⟩
  · exact lay_prs rs
theorem rd_rg {H : Hp} {t l : Addr} {us : List V} {rs : List (Int × Int)} (h : H t = some (.tup [.str "ring", .ref l])) (k : H l = some (.lst us)) (p : PrL H us rs) : RdD H (.ref t) (rgD rs) := .tup h (.cons (.str _) (.cons (.lst k p.rds) .nil))
def WoR (n : Nat) (ss : List Sg) (G : Hp) (t : Addr) : Prop :=
  (∃ a lv, G t = some (.tup [.str "weights", .ref a]) ∧ G a = some (.tup (lv.map V.int)) ∧ WgtW n ss lv) ∨
  (∃ l us rs, G t = some (.tup [.str "ring", .ref l]) ∧ G l = some (.lst us) ∧ PrL G us rs ∧ RingD n ss rs)
theorem wo_use {n : Nat} {as : Addr} {xs : List V} {ss : List Sg} {H : Hp} {Q : VK} {E : XK} (kd : Bool) (has : HSq kd H as xs) (hss : SgL H xs ss) (n1 : 1 ≤ n) (n8 : n ≤ 8) (hg : ∀ s ∈ ss, SgP n s) (hxl : xs.length ≤ 500)
    (k : ∀ t H', Same H H' → WoR n ss H' t → Q (.ref t) H') : spWo [.int (n : Int), .ref as] H Q E :=
  ⟨kd, n, as, xs, ss, rfl, has, hss, fun s m => (hg s m).1, fun s m q e => (by obtain ⟨q', e', z⟩ := (hg s m).2; rw [e] at e'; cases e'; exact z), n1, n8, hxl,
    fun t kk H' _ _ ho => (by
      obtain ⟨⟨s, es, hs⟩, _⟩ := ho
      obtain ⟨q', e', z⟩ := (hg s (List.mem_of_getElem? es)).2
      rw [e'] at hs; cases hs),
    fun t l us rs H' s h1 h2 h3 h4 => k t H' s (.inr ⟨l, us, rs, h1, h2, h3, h4⟩), fun t a ws H' s h1 h2 h3 => k t H' s (.inl ⟨a, ws, h1, h2, h3⟩)⟩
section
variable {P : Program} {w : World} {K : PySem.W.Frag} {mg : Str → Option Value} {base : Heap} {aN : Addr}
def spLaw (K : PySem.W.Frag) : Sp := fun vs H Q _ => ∃ (a : Addr) (ns : List Int), vs = [.ref a] ∧ SqL K H a (ns.map V.int) ∧ ns.length ≤ 63 ∧ ∀ H', Q (.bl true) H'
theorem sc_law : FnScope ["script", "n", "weights", "some", "at", "found", "kept"] ["script"] (defScope s_law) := ⟨rfl, rfl, rfl, by decide +kernel, rfl, by decide +kernel, by decide +kernel⟩
theorem ok_law {fl : Addr} {fdl : FuncData} (D : Fun K "law" "law" s_law fl fdl) (T : TxB K mg) (TF : TxF K mg aN) (cC : Cal P w K mg base "_law_cell" 1 ["script", "k"] [] (spCell K)) (cD : Cal P w K mg base "_law_dig" 1 ["cell"] [] spDig) (cN : Cal P w K mg base "_law_next" 1 ["pool", "base"] [] spNext)
    (cDr : Cal P w K mg base "_law_drawn" 6 ["script", "n"] [] (spDr K)) (cCa : Cal P w K mg base "_law_can" 5 ["n", "sightings"] [] spCa) (cLd : Cal P w K mg base "_law_does" 5 ["weights", "sightings"] [] spLd) (cIr : Cal P w K mg base "_law_is_ring" 5 ["sightings", "ring"] [] spIr) (cLr : Cal P w K mg base "lets_ring" 6 ["n", "sightings", "ring"] [] spLr) (cWo : Cal P w K mg base "weights_of" 5 ["n", "sightings"] [] spWo) (cDo : Cal P w K mg base "does_all" 5 ["weights", "sightings"] [] spDo) : FnOk P w K mg base CX0 7 fl fdl ["script"] (spLaw K) := by
  refine D.ok (k := 6) sc_law (fun vs H Q E h => by obtain ⟨a, us, rfl, _⟩ := h; rfl) (fun cdv A outer s H vs Q E hr6 h => ?_)
  obtain ⟨a, ns, rfl, hS, hlen, k⟩ := h
  have hr1 : Room 1 _ := hr6.mono (by decide)
  have hr2 : Room 2 _ := hr6.mono (by decide)
  have hr : Room 5 _ := hr6.mono (by decide)
  have hu := hr.units
  refine ⟨_, bx_out (bx_scons (Bx.mk (ps_set (i := 1) sc_law.nd rfl (Or.inl rfl) (pe_op op_add pe_int (pe_c cN hr1 (pa_cons (pe_c cD hr1 (pa_cons (pe_c cC hr1 (pa_cons (pv 0) (pa_cons pe_int pa_nil))) pa_nil)) (pa_cons pe_int pa_nil))))))
    (bx_scons (Bx.mk (ps_asg (pe_c cDr hr6 (pa_cons (pv 0) (pa_cons (pv 1) pa_nil))) (pg_tup rfl (pgs_cons (pg_name (i := 2) sc_law.nd rfl (Or.inl rfl)) (pgs_cons (pg_name (i := 3) sc_law.nd rfl (Or.inl rfl)) pgs_nil)))))
    (bx_scons (Bx.mk (ps_for PassesOwn.never rfl (pi_range3 rfl T.nRange (pa_cons pe_int (pa_cons (pe_op op_add (pe_callB call_len_seq (by rfl) T.nLen PySem.boot_len (pa_cons (pv 3) pa_nil)) pe_int) (pa_cons (pe_op op_add pe_int (pe_op op_fdivB (pe_callB call_len_seq (by rfl) T.nLen PySem.boot_len (pa_cons (pv 3) pa_nil)) pe_int)) pa_nil)))) (pg_name (i := 4) sc_law.nd rfl (Or.inl rfl)) (bx_out (bx_scons (Bx.mk (ps_set (i := 5) sc_law.nd rfl (Or.inl rfl) (pe_c cWo hr (pa_cons (pv 1) (pa_cons (pe_slice sl_list (pv 3) po_none (po_some (pv 4))) pa_nil)))))
    (bx_scons (Bx.mk (ps_if (pt_cmpR op_ne (pe_ix ix_tup (pv 5) pe_int (fun _ _ => rfl)) (pe_ix ix_list (pe_lst (pa_cons pe_str (pa_cons pe_str pa_nil))) (pe_callTy call_int1 (by rfl) T.nInt PyProof.Rows.boot_int (pa_cons (pe_c cCa hr (pa_cons (pv 1) (pa_cons (pe_slice sl_list (pv 3) po_none (po_some (pv 4))) pa_nil))) pa_nil)) (fun _ _ => rfl)) (nomark _)) (pss_one (ps_ret pe_bl)) pss_nil))
    (bx_scons (Bx.mk (ps_if (pw_and (pt_cmpR op_eq (pe_ix ix_tup (pv 5) pe_int (fun _ _ => rfl)) pe_str (nomark _)) (pw_and1 (pt_not (pt_truth (pe_c cLd hr (pa_cons (pe_ix ix_tup (pv 5) pe_int (fun _ _ => rfl)) (pa_cons (pe_slice sl_list (pv 3) po_none (po_some (pv 4))) pa_nil))) fun _ => rfl)))).pt (pss_one (ps_ret pe_bl)) pss_nil))
    (bx_scons (Bx.mk (ps_if (pw_and (pt_cmpR op_eq (pe_ix ix_tup (pv 5) pe_int (fun _ _ => rfl)) pe_str (nomark _)) (pw_and1 (pt_not (pt_truth (pe_c cDo hr (pa_cons (pe_ix ix_tup (pv 5) pe_int (fun _ _ => rfl)) (pa_cons (pe_slice sl_list (pv 3) po_none (po_some (pv 4))) pa_nil))) fun _ => rfl)))).pt (pss_one (ps_ret pe_bl)) pss_nil))
    (Bx.mk (pss_one (ps_if (pt_cmpR op_eq (pe_ix ix_tup (pv 5) pe_int (fun _ _ => rfl)) pe_str (nomark _)) (bx_out (bx_scons (Bx.mk (ps_set (i := 6) sc_law.nd rfl (Or.inl rfl) (pe_callTy call_list_of (by rfl) TF.nList PyProof.Rows.boot_list (pa_cons (pe_ix ix_tup (pv 5) pe_int (fun _ _ => rfl)) pa_nil))))
    (bx_scons (Bx.mk (ps_if (pw_or (pt_not (pt_truth (pe_c cIr hr (pa_cons (pe_slice sl_list (pv 3) po_none (po_some (pv 4))) (pa_cons (pv 6) pa_nil))) fun _ => rfl)) (pw_or1 (pt_not (pt_truth (pe_c cLr hr6 (pa_cons (pv 1) (pa_cons (pe_slice sl_list (pv 3) po_none (po_some (pv 4))) (pa_cons (pe_callTy call_tuple_of (by rfl) T.nTuple PyProof.Rows.boot_tuple (pa_cons (pv 6) pa_nil)) pa_nil)))) fun _ => rfl)))).pt (pss_one (ps_ret pe_bl)) pss_nil))
    (bx_scons (Bx.mk (ps_if (pt_not (pt_truth (pe_c cLr hr6 (pa_cons (pv 1) (pa_cons (pv 3) (pa_cons (pv 6) pa_nil)))) fun _ => rfl)) (pss_one (ps_ret pe_bl)) pss_nil))
    (bx_scons (Bx.mk (ps_expr (pe_bm0 PySem.F.plainAttrs_list PySem.F.slot_list_clear PySem.F.type_list_clear mt_clear (pe_ix ix_tup (pv 5) pe_int (fun _ _ => rfl)))))
    (Bx.mk (pss_one (ps_if (pw_or (pt_cmpR (op_neD hu) (pe_c cWo hr (pa_cons (pv 1) (pa_cons (pe_slice sl_list (pv 3) po_none (po_some (pv 4))) pa_nil))) (pe_tup (pa_cons pe_str (pa_cons (pv 6) pa_nil))) (nomark _)) (pw_or1 (pt_truth (pe_c cDo hr (pa_cons (pe_callTy call_tuple_of (by rfl) T.nTuple PyProof.Rows.boot_tuple (pa_cons (pv 2) pa_nil)) (pa_cons (pe_slice sl_list (pv 3) po_none (po_some (pv 4))) pa_nil))) fun _ => rfl))).pt (pss_one (ps_ret pe_bl)) pss_nil)))))))) pss_nil))))))))))
    (Bx.mk (pss_one (ps_ret pe_bl)))))), ?_⟩
  refine ⟨_, rfl, a, ns, 0, rfl, hS, by decide, by decide, fun c0 => ⟨c0, rfl, fun p0 H0 hp0 s0 hP0 => ?_⟩⟩
  refine ⟨p0, _, rfl, by decide, by decide, hP0, fun d H1 d0 d1 t1 => ⟨_, _, rfl, rfl, ?_⟩⟩
  have S1 := step_same s0 hp0 t1
  dsimp only [gName]
  obtain ⟨n, en⟩ : ∃ n : Nat, (n : Int) = 2 + d := ⟨(2 + d).toNat, by omega⟩
  rw [← en]
  have n2 : 2 ≤ n := by omega
  have n8 : n ≤ 8 := by omega
  clear en d0 d1 t1 hP0 s0 hp0
  refine ⟨_, rfl, _, rfl, a, ns, n, rfl, S1.seq hS, hlen, n2, n8, fun t lw ls ws xs ss H2 s2 ht hlw hwl hwv hls hss hxl hgd => ?_⟩
  have hw1 : ∀ w ∈ ws, 1 ≤ w := fun w m => (hwv w m).1
  clear S1 s2 hS
  refine ⟨t, _, rfl, .of ht, rfl, _, _, rfl, _, _, rfl, rfl, ?_⟩
  clear ht
  dsimp only
  refine st_for ?_
  refine ⟨_, rfl, ls, _, rfl, .inl (.of hls), _, _, rfl, rfl, _, rfl, ls, _, rfl, .inl (.of hls), _, _, rfl, rfl, ⟨by decide, Bd.mono (m := 4) (show (9 : Int).natAbs < 2 ^ 4 by decide) (by decide)⟩, _, _, rfl, rfl, _, _, _, rfl, ?_, ?_⟩
  · have h1 : ((xs.length : Int)).fdiv 9 = (xs.length : Int) / 9 := Int.fdiv_eq_ediv_of_nonneg _ (by decide)
    rw [h1]; omega
  have hc1 : 1 ≤ 1 + ((xs.length : Int)).fdiv 9 := by
    have h1 : ((xs.length : Int)).fdiv 9 = (xs.length : Int) / 9 := Int.fdiv_eq_ediv_of_nonneg _ (by decide)
    rw [h1]; omega
  generalize nRng 0 ((xs.length : Int) + 1) (1 + ((xs.length : Int)).fdiv 9) = N
  generalize 1 + ((xs.length : Int)).fdiv 9 = c at hc1
  refine for_rangeS (n := N) (lo := 0) (c := c) (fun i σ G => ∃ z, z.length = 3 ∧ σ = some (.ref a) :: some (.int (n : Int)) :: some (.ref lw) :: some (.ref ls) :: z ∧ TupS H2 G ∧ G lw = some (.lst (ws.map V.int)) ∧ G ls = some (.lst xs)) ⟨[none, none, none], rfl, rfl, .of (Same.refl _), hlw, hls⟩ ?_ ?_
  rotate_left
  · rintro σ G ⟨z, hz, rfl, _⟩
    exact k G
  rintro i σ G hi ⟨z, hz, rfl, T0, gw0, gs0⟩
  obtain ⟨m, em⟩ : ∃ m : Nat, 0 + (i : Int) * c = (m : Int) := ⟨((i : Int) * c).toNat, by have := Int.mul_nonneg (show 0 ≤ (i : Int) by omega) (show 0 ≤ c by omega); omega⟩
  rw [em]
  clear em hi
  match z, hz with
  | [z1, z2, z3], _ =>
  have hgT : ∀ s ∈ ss.take m, SgP n s := fun s hs => hgd s (List.mem_of_mem_take hs)
  have hinT : ∀ s ∈ ss.take m, InW n s := fun s hs => (hgT s hs).1
  have hszT : ∀ s ∈ ss.take m, ∃ q, shQ s = some q ∧ Sz 50 q := fun s hs => (hgT s hs).2
  have hxT : (xs.take m).length ≤ 41 := by rw [List.length_take]; omega
  have hss0 := hss.tups T0
  refine ⟨_, rfl, _, rfl, _, rfl, _, rfl, ls, xs, rfl, .of gs0, fun p1 hp1 => ?_⟩
  rw [cut_take]
  have s1 := Same.upd (o := .lst (xs.take m)) hp1
  have g1 : upd G p1 (.lst (xs.take m)) p1 = some (.lst (xs.take m)) := upd_same
  generalize upd G p1 (.lst (xs.take m)) = G1 at s1 g1
  dsimp only [tNil]
  refine wo_use false g1 ((hss0.tups (.of s1)).take m) (by omega) n8 hgT (by omega) fun t2 G2 s2 hW => ?_
  have S2 := s1.trans s2
  clear s1 s2 g1 hp1
  dsimp only [gName]
  rcases hW with ⟨a2, lv, ht2, ha2, hw2⟩ | ⟨l2, us, rs, ht2, hl2, hus, hrd⟩
  · refine ⟨_, rfl, t2, _, 0, .str "weights", rfl, rfl, .of ht2, rfl, ?_⟩
    refine ⟨by show 2 ≤ sizeLine; decide, fun l3 hl3 => ?_⟩
    have s3 := Same.upd (o := .lst [.str "ring", .str "weights"]) hl3
    have g3 : upd G2 l3 (.lst [.str "ring", .str "weights"]) l3 = some (.lst [.str "ring", .str "weights"]) := upd_same
    generalize upd G2 l3 (.lst [.str "ring", .str "weights"]) = G3 at s3 g3
    have S3 := S2.trans s3
    refine ⟨_, rfl, _, rfl, _, rfl, _, rfl, ls, xs, rfl, .of (S3 _ _ gs0), fun p4 hp4 => ?_⟩
    rw [cut_take]
    have s4 := Same.upd (o := .lst (xs.take m)) hp4
    have g4 : upd G3 p4 (.lst (xs.take m)) p4 = some (.lst (xs.take m)) := upd_same
    generalize upd G3 p4 (.lst (xs.take m)) = G4 at s4 g4
    have S4 := S3.trans s4
    refine ⟨false, n, p4, xs.take m, ss.take m, rfl, g4, (hss0.tups (.of S4)).take m, hinT, hszT, by omega, n8, by omega, fun b G5 s5 hb => ?_⟩
    obtain rfl : b = true := hb.mpr (wgt_cons hinT hw2)
    refine .inr ⟨true, rfl, l3, _, 1, .str "weights", rfl, rfl, .of (s5 _ _ (s4 _ _ g3)), rfl, rfl, _, rfl, ?_⟩
    rw [decide_eq_true (rfl : V.str "weights" = V.str "weights")]
    refine iteF ?_
    have S5 := S4.trans s5
    have ht5 := (s3.trans (s4.trans s5)) _ _ ht2
    have ha5 := (s3.trans (s4.trans s5)) _ _ ha2
    obtain ⟨hvl, hvz, hvd, _⟩ := hw2
    have hinL : ∀ s ∈ ss.take m, InW lv.length s := by rw [hvl]; exact hinT
    clear s3 s4 s5 g3 g4 hl3 hp4
    refine ⟨_, rfl, t2, _, 0, .str "weights", rfl, rfl, .of ht5, rfl, rfl, _, rfl, ?_⟩
    rw [decide_eq_true (rfl : V.str "weights" = V.str "weights")]
    refine iteT ?_
    refine ⟨_, rfl, t2, _, 1, .ref a2, rfl, rfl, .of ht5, rfl, _, rfl, _, rfl, _, rfl, ls, xs, rfl, .of (S5 _ _ gs0), fun p6 hp6 => ?_⟩
    rw [cut_take]
    have s6 := Same.upd (o := .lst (xs.take m)) hp6
    have g6 : upd G5 p6 (.lst (xs.take m)) p6 = some (.lst (xs.take m)) := upd_same
    generalize upd G5 p6 (.lst (xs.take m)) = G6 at s6 g6
    have S6 := S5.trans s6
    refine ⟨a2, p6, xs.take m, lv, ss.take m, rfl, s6 _ _ ha5, g6, (hss0.tups (.of S6)).take m, hinL, hvz, by omega, fun G7 s7 => ⟨true, by rw [hvd]; rfl, iteF ?_⟩⟩
    have S7 := S6.trans s7
    have ht7 := (s6.trans s7) _ _ ht5
    have ha7 := (s6.trans s7) _ _ ha5
    clear s6 s7 g6 hp6
    refine ⟨_, rfl, t2, _, 0, .str "weights", rfl, rfl, .of ht7, rfl, rfl, _, rfl, ?_⟩
    rw [decide_eq_true (rfl : V.str "weights" = V.str "weights")]
    refine iteT ?_
    refine ⟨_, rfl, t2, _, 1, .ref a2, rfl, rfl, .of ht7, rfl, _, rfl, _, rfl, _, rfl, ls, xs, rfl, .of (S7 _ _ gs0), fun p6 hp6 => ?_⟩
    rw [cut_take]
    have s8 := Same.upd (o := .lst (xs.take m)) hp6
    have g8 : upd G7 p6 (.lst (xs.take m)) p6 = some (.lst (xs.take m)) := upd_same
    generalize upd G7 p6 (.lst (xs.take m)) = G8 at s8 g8
    have S8 := S7.trans s8
    refine ⟨a2, p6, false, xs.take m, lv, ss.take m, rfl, s8 _ _ ha7, g8, (hss0.tups (.of S8)).take m, hinL, hvz, by omega, fun G9 s9 => ⟨true, by rw [hvd]; rfl, iteF ?_⟩⟩
    have S9 := S8.trans s9
    refine ⟨_, rfl, t2, _, 0, .str "weights", rfl, rfl, .of (s9 _ _ (s8 _ _ ht7)), rfl, rfl, _, rfl, ?_⟩
    rw [decide_eq_false (show ¬ V.str "weights" = V.str "ring" by decide)]
    refine iteF ?_
    exact ⟨_, rfl, rfl, T0.trans (.of S9), S9 _ _ gw0, S9 _ _ gs0⟩
  · obtain ⟨m0, z0, hpth, hz1, hrs⟩ := ring_pth hrd.ring
    have hB1 : ringB (ss.take m) rs = true := pth_ring hpth hz1 hrs
    have hB2 : ringB ss rs = true := pth_ring (hpth.mono fun k s e => by
      rw [List.getElem?_take] at e
      split at e
      · exact e
      · cases e) hz1 hrs
    have hnc : ¬ ∃ f, ConsF (ss.take m) f := fun ⟨f, hf⟩ => ring_cons hrd.ring f hf
    have hdF : doesB ws (ss.take m) = false := by
      cases e : doesB ws (ss.take m) with
      | false => rfl
      | true => exact absurd (does_cons hinT hwl e) hnc
    have hur : us.length ≤ 40 := by rw [hus.1]; exact ring_len n8 hrd.ring
    refine ⟨_, rfl, t2, _, 0, .str "ring", rfl, rfl, .of ht2, rfl, ?_⟩
    refine ⟨by show 2 ≤ sizeLine; decide, fun l3 hl3 => ?_⟩
    have s3 := Same.upd (o := .lst [.str "ring", .str "weights"]) hl3
    have g3 : upd G2 l3 (.lst [.str "ring", .str "weights"]) l3 = some (.lst [.str "ring", .str "weights"]) := upd_same
    generalize upd G2 l3 (.lst [.str "ring", .str "weights"]) = G3 at s3 g3
    have S3 := S2.trans s3
    refine ⟨_, rfl, _, rfl, _, rfl, _, rfl, ls, xs, rfl, .of (S3 _ _ gs0), fun p4 hp4 => ?_⟩
    rw [cut_take]
    have s4 := Same.upd (o := .lst (xs.take m)) hp4
    have g4 : upd G3 p4 (.lst (xs.take m)) p4 = some (.lst (xs.take m)) := upd_same
    generalize upd G3 p4 (.lst (xs.take m)) = G4 at s4 g4
    have S4 := S3.trans s4
    refine ⟨false, n, p4, xs.take m, ss.take m, rfl, g4, (hss0.tups (.of S4)).take m, hinT, hszT, by omega, n8, by omega, fun b G5 s5 hb => ?_⟩
    obtain rfl : b = false := by
      cases b with
      | false => rfl
      | true => exact absurd (hb.mp rfl) hnc
    refine .inr ⟨false, rfl, l3, _, 0, .str "ring", rfl, rfl, .of (s5 _ _ (s4 _ _ g3)), rfl, rfl, _, rfl, ?_⟩
    rw [decide_eq_true (rfl : V.str "ring" = V.str "ring")]
    refine iteF ?_
    have S5 := S4.trans s5
    have S25 := s3.trans (s4.trans s5)
    have ht5 := S25 _ _ ht2
    have hl5 := S25 _ _ hl2
    have hus5 := hus.same S25
    clear s3 s4 s5 g3 g4 hl3 hp4 S25
    refine ⟨_, rfl, t2, _, 0, .str "ring", rfl, rfl, .of ht5, rfl, rfl, _, rfl, ?_⟩
    rw [decide_eq_false (show ¬ V.str "ring" = V.str "weights" by decide)]
    refine iteF (iteF ?_)
    refine ⟨_, rfl, t2, _, 0, .str "ring", rfl, rfl, .of ht5, rfl, rfl, _, rfl, ?_⟩
    rw [decide_eq_false (show ¬ V.str "ring" = V.str "weights" by decide)]
    refine iteF (iteF ?_)
    refine ⟨_, rfl, t2, _, 0, .str "ring", rfl, rfl, .of ht5, rfl, rfl, _, rfl, ?_⟩
    rw [decide_eq_true (rfl : V.str "ring" = V.str "ring")]
    refine iteT ?_
    refine ⟨_, rfl, t2, _, 1, .ref l2, rfl, rfl, .of ht5, rfl, l2, _, rfl, .inl (.of hl5), fun kl hkl => ?_⟩
    have s6 := Same.upd (o := .lst us) hkl
    have g6 : upd G5 kl (.lst us) kl = some (.lst us) := upd_same
    have hkl2 : kl ≠ l2 := fun z => by rw [z, hl5] at hkl; cases hkl
    generalize upd G5 kl (.lst us) = G6 at s6 g6
    have S6 := S5.trans s6
    dsimp only [gName]
    refine ⟨_, rfl, _, rfl, _, rfl, ls, xs, rfl, .of (S6 _ _ gs0), fun p7 hp7 => ?_⟩
    rw [cut_take]
    have s7 := Same.upd (o := .lst (xs.take m)) hp7
    have g7 : upd G6 p7 (.lst (xs.take m)) p7 = some (.lst (xs.take m)) := upd_same
    generalize upd G6 p7 (.lst (xs.take m)) = G7 at s7 g7
    have S7 := S6.trans s7
    refine ⟨_, rfl, p7, kl, xs.take m, ss.take m, us, rs, rfl, g7, (hss0.tups (.of S7)).take m, by omega, s7 _ _ g6, hus5.same (s6.trans s7), hur, fun G8 s8 => ⟨true, by rw [hB1]; rfl, iteF ?_⟩⟩
    have S8 := S7.trans s8
    refine ⟨_, rfl, _, rfl, _, rfl, _, rfl, ls, xs, rfl, .of (S8 _ _ gs0), fun p9 hp9 => ?_⟩
    rw [cut_take]
    have s9 := Same.upd (o := .lst (xs.take m)) hp9
    have g9 : upd G8 p9 (.lst (xs.take m)) p9 = some (.lst (xs.take m)) := upd_same
    generalize upd G8 p9 (.lst (xs.take m)) = G9 at s9 g9
    have k9 := (s7.trans (s8.trans s9)) _ _ g6
    refine ⟨_, rfl, kl, _, rfl, .inl ⟨.of k9, fun tk htk => ?_⟩⟩
    have s10 := Same.upd (o := .tup us) htk
    have g10 : upd G9 tk (.tup us) tk = some (.tup us) := upd_same
    generalize upd G9 tk (.tup us) = G10 at s10 g10
    have S10 := S8.trans (s9.trans s10)
    have S60 := s7.trans (s8.trans (s9.trans s10))
    refine ⟨(n : Int), false, true, p9, tk, xs.take m, ss.take m, us, rs, rfl, s10 _ _ g9, (hss0.tups (.of S10)).take m, by omega, g10, hus5.same (s6.trans S60), hur, fun G11 s11 => ⟨true, by rw [hB1]; rfl, iteF ?_⟩⟩
    have S11 := S10.trans s11
    have S61 := S60.trans s11
    refine ⟨_, rfl, _, rfl, _, rfl, (n : Int), false, false, ls, kl, xs, ss, us, rs, rfl, S11 _ _ gs0, hss0.tups (.of S11), by omega, S61 _ _ g6, hus5.same (s6.trans S61), hur, fun G12 s12 => ⟨true, by rw [hB2]; rfl, iteF ?_⟩⟩
    have S12 := S11.trans s12
    have S62 := S61.trans s12
    have ht12 := (s6.trans S62) _ _ ht5
    have hl12 := (s6.trans S62) _ _ hl5
    have hk12 := S62 _ _ g6
    have hus12 := hus5.same (s6.trans S62)
    have gs12 := S12 _ _ gs0
    have gw12 := S12 _ _ gw0
    have hss12 := hss0.tups (.of S12)
    have T12 : TupS H2 G12 := T0.trans (.of S12)
    obtain ⟨r0, er0⟩ : ∃ r, rs[0]? = some r := ⟨_, List.getElem?_eq_getElem (List.length_pos_iff.mpr hrs)⟩
    obtain ⟨t0, eu0, ht0⟩ := hus12.2 0 r0 er0
    have nls : ls ≠ l2 := fun z => by
      rw [z, hl12] at gs12
      cases gs12
      obtain ⟨sg, _, hx, _⟩ := hss12.at eu0
      obtain ⟨a', _, _, _, _, e', h', _⟩ := hx
      cases e'
      rw [ht0] at h'; simp at h'
    have nlw : lw ≠ l2 := fun z => by
      rw [z, hl12] at gw12
      cases gw12
      rw [List.getElem?_map] at eu0
      obtain ⟨w0, _, e'⟩ := Option.map_eq_some_iff.mp eu0
      cases e'
    refine ⟨_, rfl, t2, _, 1, .ref l2, rfl, rfl, .of ht12, rfl, .inl ⟨rfl, us, SqL.of hl12⟩, l2, us, rfl, rfl, hl12, ?_⟩
    have UL : TupS G12 (upd G12 l2 (.lst [])) := .upd hl12
    have gs13 : upd G12 l2 (.lst []) ls = some (.lst xs) := by rw [upd_ne nls]; exact gs12
    have gw13 : upd G12 l2 (.lst []) lw = some (.lst (ws.map V.int)) := by rw [upd_ne nlw]; exact gw12
    have gk13 : upd G12 l2 (.lst []) kl = some (.lst us) := by rw [upd_ne hkl2]; exact hk12
    have hus13 := hus12.tups UL
    have hss13 := hss12.tups UL
    have T13 := T12.trans UL
    generalize upd G12 l2 (.lst []) = G13 at UL gs13 gw13 gk13 hus13 hss13 T13
    refine ⟨_, rfl, _, rfl, _, rfl, _, rfl, ls, xs, rfl, .of gs13, fun p14 hp14 => ?_⟩
    rw [cut_take]
    have s14 := Same.upd (o := .lst (xs.take m)) hp14
    have g14 : upd G13 p14 (.lst (xs.take m)) p14 = some (.lst (xs.take m)) := upd_same
    generalize upd G13 p14 (.lst (xs.take m)) = G14 at s14 g14
    dsimp only [tNil]
    refine wo_use false g14 ((hss13.tups (.of s14)).take m) (by omega) n8 hgT (by omega) fun t15 G15 s15 hW15 => ?_
    rcases hW15 with ⟨_, _, _, _, hw15⟩ | ⟨l15, us15, rs15, ht15, hl15, hus15, hrd15⟩
    · exact absurd (wgt_cons hinT hw15) hnc
    obtain rfl := hrd.det hrd15
    refine ⟨_, rfl, by show 2 ≤ sizeLine; decide, fun t16 ht16 => ?_⟩
    have s16 := Same.upd (o := .tup [.str "ring", .ref kl]) ht16
    have g16 : upd G15 t16 (.tup [.str "ring", .ref kl]) t16 = some (.tup [.str "ring", .ref kl]) := upd_same
    generalize upd G15 t16 (.tup [.str "ring", .ref kl]) = G16 at s16 g16
    have S36 := s14.trans (s15.trans s16)
    refine ⟨_, _, rd_rg (s16 _ _ ht15) (s16 _ _ hl15) (hus15.same s16), rd_rg g16 (S36 _ _ gk13) (hus13.same S36), (lay_rg _).shaped (by decide), (lay_rg _).shaped (by decide), _, rfl, ?_⟩
    rw [(lay_rg rs).self]
    refine iteF ?_
    refine ⟨_, rfl, lw, _, rfl, .inl ⟨.of (S36 _ _ gw13), fun tw htw => ?_⟩⟩
    have s17 := Same.upd (o := .tup (ws.map V.int)) htw
    have g17 : upd G16 tw (.tup (ws.map V.int)) tw = some (.tup (ws.map V.int)) := upd_same
    generalize upd G16 tw (.tup (ws.map V.int)) = G17 at s17 g17
    have S37 := S36.trans s17
    refine ⟨_, rfl, _, rfl, _, rfl, ls, xs, rfl, .of (S37 _ _ gs13), fun p18 hp18 => ?_⟩
    rw [cut_take]
    have s18 := Same.upd (o := .lst (xs.take m)) hp18
    have g18 : upd G17 p18 (.lst (xs.take m)) p18 = some (.lst (xs.take m)) := upd_same
    generalize upd G17 p18 (.lst (xs.take m)) = G18 at s18 g18
    have S38 := S37.trans s18
    refine ⟨tw, p18, false, xs.take m, ws, ss.take m, rfl, s18 _ _ g17, g18, (hss13.tups (.of S38)).take m, by rw [hwl]; exact hinT, ⟨by omega, by omega, fun w hw => Bd.mono (m := 10) (bdn (by have := hwv w hw; omega) (by have := hwv w hw; omega)) (by decide)⟩, by omega, fun G19 s19 => ⟨false, by rw [hdF]; rfl, iteF ?_⟩⟩
    have S39 := S38.trans s19
    exact ⟨_, rfl, rfl, T13.trans (.of S39), S39 _ _ gw13, S39 _ _ gs13⟩
end
end KK
end
set_option linter.all false
def PySem.W.Fast.tw3201608108423100300 : Nat := 0
def PySem.W.Fast.tw5395282103650910575 : Nat := 0
def PySem.W.Fast.tw16525071407536522532 : Nat := 0
def PySem.W.Fast.tw5599350028286160106 : Nat := 0
def PySem.W.Fast.tw9258113455666300905 : Nat := 0
def PySem.W.Fast.tw15210272106052130640 : Nat := 0
def PySem.W.Fast.tw5578464238603786047 : Nat := 0
def PySem.W.Fast.tw7993307055173837354 : Nat := 0
def PySem.W.Fast.tw1090699897704685358 : Nat := 0
def PySem.W.Fast.tw8420459438597622498 : Nat := 0
section
set_option maxHeartbeats 8000000
set_option Elab.async false
set_option linter.all false
set_option maxRecDepth 100000
namespace KK
open PySem L2 KM
theorem kit_ii (K : PySem.W.Frag) : PySem.W.kitOne K (.type "int") (.type "int") = some true := by
  unfold PySem.W.kitOne; rw [if_pos (by decide +kernel)]
theorem kit_ib (K : PySem.W.Frag) : PySem.W.kitOne K (.type "int") (.type "bool") = some false := by
  with_unfolding_all rfl
theorem all_mk {l : PySem.W.OpenLaw} {w : World} {K : PySem.W.Frag} {h : Heap} {mg : Str → Option Value} {fa : Addr} (X : K.In h) (G : h.Ns mainGlobals mg) (hfa : mg "law" = some (.ref fa))
    {f0 : Addr} {od0 an0 : Option Addr} {sl0 : Array (Option Value)} {oc0 kV0 dc0 pm0 cd0 ct0 : Value}
    (a0 : PySem.W.nsIn K mainGlobals "is_whole" = some (some (.ref f0))) (l0 : K.lookup f0 = some ⟨oc0, od0, .func (PySem.W.fnOf "is_whole" "is_whole" (defArgs s_is_whole) (defBody s_is_whole) (defScope s_is_whole) .none kV0 dc0 pm0 an0 cd0 ct0), sl0⟩) (c0 : PySem.W.codeIn K cd0 "is_whole" = true) (k0 : PySem.W.keepIn K (.ref f0) = true)
    {f1 : Addr} {od1 an1 : Option Addr} {sl1 : Array (Option Value)} {oc1 kV1 dc1 pm1 cd1 ct1 : Value}
    (a1 : PySem.W.nsIn K mainGlobals "greatest_divisor" = some (some (.ref f1))) (l1 : K.lookup f1 = some ⟨oc1, od1, .func (PySem.W.fnOf "greatest_divisor" "greatest_divisor" (defArgs s_greatest_divisor) (defBody s_greatest_divisor) (defScope s_greatest_divisor) .none kV1 dc1 pm1 an1 cd1 ct1), sl1⟩) (c1 : PySem.W.codeIn K cd1 "greatest_divisor" = true) (k1 : PySem.W.keepIn K (.ref f1) = true)
    {f2 : Addr} {od2 an2 : Option Addr} {sl2 : Array (Option Value)} {oc2 kV2 dc2 pm2 cd2 ct2 : Value} {Td2 : Addr} {ocd2 : Value} {odd2 : Option Addr} {tkd2 : Tok} {nd2 : Nat} {sld2 : Array (Option Value)}
    (a2 : PySem.W.nsIn K mainGlobals "ratio" = some (some (.ref f2))) (l2 : K.lookup f2 = some ⟨oc2, od2, .func (PySem.W.fnOf "ratio" "ratio" (defArgs s_ratio) (defBody s_ratio) (defScope s_ratio) (.ref Td2) kV2 dc2 pm2 an2 cd2 ct2), sl2⟩) (c2 : PySem.W.codeIn K cd2 "ratio" = true) (k2 : PySem.W.keepIn K (.ref f2) = true)
    (ld2 : K.lookup Td2 = some ⟨ocd2, odd2, .seq #[.int 1 tkd2] nd2, sld2⟩)
    {f3 : Addr} {od3 an3 : Option Addr} {sl3 : Array (Option Value)} {oc3 kV3 dc3 pm3 cd3 ct3 : Value}
    (a3 : PySem.W.nsIn K mainGlobals "minus" = some (some (.ref f3))) (l3 : K.lookup f3 = some ⟨oc3, od3, .func (PySem.W.fnOf "minus" "minus" (defArgs s_minus) (defBody s_minus) (defScope s_minus) .none kV3 dc3 pm3 an3 cd3 ct3), sl3⟩) (c3 : PySem.W.codeIn K cd3 "minus" = true) (k3 : PySem.W.keepIn K (.ref f3) = true)
    {f4 : Addr} {od4 an4 : Option Addr} {sl4 : Array (Option Value)} {oc4 kV4 dc4 pm4 cd4 ct4 : Value}
    (a4 : PySem.W.nsIn K mainGlobals "times" = some (some (.ref f4))) (l4 : K.lookup f4 = some ⟨oc4, od4, .func (PySem.W.fnOf "times" "times" (defArgs s_times) (defBody s_times) (defScope s_times) .none kV4 dc4 pm4 an4 cd4 ct4), sl4⟩) (c4 : PySem.W.codeIn K cd4 "times" = true) (k4 : PySem.W.keepIn K (.ref f4) = true)
    {f5 : Addr} {od5 an5 : Option Addr} {sl5 : Array (Option Value)} {oc5 kV5 dc5 pm5 cd5 ct5 : Value}
    (a5 : PySem.W.nsIn K mainGlobals "over" = some (some (.ref f5))) (l5 : K.lookup f5 = some ⟨oc5, od5, .func (PySem.W.fnOf "over" "over" (defArgs s_over) (defBody s_over) (defScope s_over) .none kV5 dc5 pm5 an5 cd5 ct5), sl5⟩) (c5 : PySem.W.codeIn K cd5 "over" = true) (k5 : PySem.W.keepIn K (.ref f5) = true)
    {f6 : Addr} {od6 an6 : Option Addr} {sl6 : Array (Option Value)} {oc6 kV6 dc6 pm6 cd6 ct6 : Value}
    (a6 : PySem.W.nsIn K mainGlobals "less" = some (some (.ref f6))) (l6 : K.lookup f6 = some ⟨oc6, od6, .func (PySem.W.fnOf "less" "less" (defArgs s_less) (defBody s_less) (defScope s_less) .none kV6 dc6 pm6 an6 cd6 ct6), sl6⟩) (c6 : PySem.W.codeIn K cd6 "less" = true) (k6 : PySem.W.keepIn K (.ref f6) = true)
    {f7 : Addr} {od7 an7 : Option Addr} {sl7 : Array (Option Value)} {oc7 kV7 dc7 pm7 cd7 ct7 : Value}
    (a7 : PySem.W.nsIn K mainGlobals "least_multiple" = some (some (.ref f7))) (l7 : K.lookup f7 = some ⟨oc7, od7, .func (PySem.W.fnOf "least_multiple" "least_multiple" (defArgs s_least_multiple) (defBody s_least_multiple) (defScope s_least_multiple) .none kV7 dc7 pm7 an7 cd7 ct7), sl7⟩) (c7 : PySem.W.codeIn K cd7 "least_multiple" = true) (k7 : PySem.W.keepIn K (.ref f7) = true)
    {f8 : Addr} {od8 an8 : Option Addr} {sl8 : Array (Option Value)} {oc8 kV8 dc8 pm8 cd8 ct8 : Value}
    (a8 : PySem.W.nsIn K mainGlobals "common_bottom" = some (some (.ref f8))) (l8 : K.lookup f8 = some ⟨oc8, od8, .func (PySem.W.fnOf "common_bottom" "common_bottom" (defArgs s_common_bottom) (defBody s_common_bottom) (defScope s_common_bottom) .none kV8 dc8 pm8 an8 cd8 ct8), sl8⟩) (c8 : PySem.W.codeIn K cd8 "common_bottom" = true) (k8 : PySem.W.keepIn K (.ref f8) = true)
    {f9 : Addr} {od9 an9 : Option Addr} {sl9 : Array (Option Value)} {oc9 kV9 dc9 pm9 cd9 ct9 : Value}
    (a9 : PySem.W.nsIn K mainGlobals "share_of" = some (some (.ref f9))) (l9 : K.lookup f9 = some ⟨oc9, od9, .func (PySem.W.fnOf "share_of" "share_of" (defArgs s_share_of) (defBody s_share_of) (defScope s_share_of) .none kV9 dc9 pm9 an9 cd9 ct9), sl9⟩) (c9 : PySem.W.codeIn K cd9 "share_of" = true) (k9 : PySem.W.keepIn K (.ref f9) = true)
    {f10 : Addr} {od10 an10 : Option Addr} {sl10 : Array (Option Value)} {oc10 kV10 dc10 pm10 cd10 ct10 : Value}
    (a10 : PySem.W.nsIn K mainGlobals "does_all" = some (some (.ref f10))) (l10 : K.lookup f10 = some ⟨oc10, od10, .func (PySem.W.fnOf "does_all" "does_all" (defArgs s_does_all) (defBody s_does_all) (defScope s_does_all) .none kV10 dc10 pm10 an10 cd10 ct10), sl10⟩) (c10 : PySem.W.codeIn K cd10 "does_all" = true) (k10 : PySem.W.keepIn K (.ref f10) = true)
    {f11 : Addr} {od11 an11 : Option Addr} {sl11 : Array (Option Value)} {oc11 kV11 dc11 pm11 cd11 ct11 : Value}
    (a11 : PySem.W.nsIn K mainGlobals "part_of" = some (some (.ref f11))) (l11 : K.lookup f11 = some ⟨oc11, od11, .func (PySem.W.fnOf "part_of" "part_of" (defArgs s_part_of) (defBody s_part_of) (defScope s_part_of) .none kV11 dc11 pm11 an11 cd11 ct11), sl11⟩) (c11 : PySem.W.codeIn K cd11 "part_of" = true) (k11 : PySem.W.keepIn K (.ref f11) = true)
    {f12 : Addr} {od12 an12 : Option Addr} {sl12 : Array (Option Value)} {oc12 kV12 dc12 pm12 cd12 ct12 : Value}
    (a12 : PySem.W.nsIn K mainGlobals "ring_of" = some (some (.ref f12))) (l12 : K.lookup f12 = some ⟨oc12, od12, .func (PySem.W.fnOf "ring_of" "ring_of" (defArgs s_ring_of) (defBody s_ring_of) (defScope s_ring_of) .none kV12 dc12 pm12 an12 cd12 ct12), sl12⟩) (c12 : PySem.W.codeIn K cd12 "ring_of" = true) (k12 : PySem.W.keepIn K (.ref f12) = true)
    {f13 : Addr} {od13 an13 : Option Addr} {sl13 : Array (Option Value)} {oc13 kV13 dc13 pm13 cd13 ct13 : Value}
    (a13 : PySem.W.nsIn K mainGlobals "ring_in" = some (some (.ref f13))) (l13 : K.lookup f13 = some ⟨oc13, od13, .func (PySem.W.fnOf "ring_in" "ring_in" (defArgs s_ring_in) (defBody s_ring_in) (defScope s_ring_in) .none kV13 dc13 pm13 an13 cd13 ct13), sl13⟩) (c13 : PySem.W.codeIn K cd13 "ring_in" = true) (k13 : PySem.W.keepIn K (.ref f13) = true)
    {f14 : Addr} {od14 an14 : Option Addr} {sl14 : Array (Option Value)} {oc14 kV14 dc14 pm14 cd14 ct14 : Value}
    (a14 : PySem.W.nsIn K mainGlobals "least_weights" = some (some (.ref f14))) (l14 : K.lookup f14 = some ⟨oc14, od14, .func (PySem.W.fnOf "least_weights" "least_weights" (defArgs s_least_weights) (defBody s_least_weights) (defScope s_least_weights) .none kV14 dc14 pm14 an14 cd14 ct14), sl14⟩) (c14 : PySem.W.codeIn K cd14 "least_weights" = true) (k14 : PySem.W.keepIn K (.ref f14) = true)
    {f15 : Addr} {od15 an15 : Option Addr} {sl15 : Array (Option Value)} {oc15 kV15 dc15 pm15 cd15 ct15 : Value}
    (a15 : PySem.W.nsIn K mainGlobals "weights_of" = some (some (.ref f15))) (l15 : K.lookup f15 = some ⟨oc15, od15, .func (PySem.W.fnOf "weights_of" "weights_of" (defArgs s_weights_of) (defBody s_weights_of) (defScope s_weights_of) .none kV15 dc15 pm15 an15 cd15 ct15), sl15⟩) (c15 : PySem.W.codeIn K cd15 "weights_of" = true) (k15 : PySem.W.keepIn K (.ref f15) = true)
    {f16 : Addr} {od16 an16 : Option Addr} {sl16 : Array (Option Value)} {oc16 kV16 dc16 pm16 cd16 ct16 : Value}
    (a16 : PySem.W.nsIn K mainGlobals "is_step" = some (some (.ref f16))) (l16 : K.lookup f16 = some ⟨oc16, od16, .func (PySem.W.fnOf "is_step" "is_step" (defArgs s_is_step) (defBody s_is_step) (defScope s_is_step) .none kV16 dc16 pm16 an16 cd16 ct16), sl16⟩) (c16 : PySem.W.codeIn K cd16 "is_step" = true) (k16 : PySem.W.keepIn K (.ref f16) = true)
    {f17 : Addr} {od17 an17 : Option Addr} {sl17 : Array (Option Value)} {oc17 kV17 dc17 pm17 cd17 ct17 : Value}
    (a17 : PySem.W.nsIn K mainGlobals "lets_ring" = some (some (.ref f17))) (l17 : K.lookup f17 = some ⟨oc17, od17, .func (PySem.W.fnOf "lets_ring" "lets_ring" (defArgs s_lets_ring) (defBody s_lets_ring) (defScope s_lets_ring) .none kV17 dc17 pm17 an17 cd17 ct17), sl17⟩) (c17 : PySem.W.codeIn K cd17 "lets_ring" = true) (k17 : PySem.W.keepIn K (.ref f17) = true)
    {f18 : Addr} {od18 an18 : Option Addr} {sl18 : Array (Option Value)} {oc18 kV18 dc18 pm18 cd18 ct18 : Value}
    (a18 : PySem.W.nsIn K mainGlobals "_law_cell" = some (some (.ref f18))) (l18 : K.lookup f18 = some ⟨oc18, od18, .func (PySem.W.fnOf "_law_cell" "_law_cell" (defArgs s_law_cell) (defBody s_law_cell) (defScope s_law_cell) .none kV18 dc18 pm18 an18 cd18 ct18), sl18⟩) (c18 : PySem.W.codeIn K cd18 "_law_cell" = true) (k18 : PySem.W.keepIn K (.ref f18) = true)
    {f19 : Addr} {od19 an19 : Option Addr} {sl19 : Array (Option Value)} {oc19 kV19 dc19 pm19 cd19 ct19 : Value}
    (a19 : PySem.W.nsIn K mainGlobals "_law_dig" = some (some (.ref f19))) (l19 : K.lookup f19 = some ⟨oc19, od19, .func (PySem.W.fnOf "_law_dig" "_law_dig" (defArgs s_law_dig) (defBody s_law_dig) (defScope s_law_dig) .none kV19 dc19 pm19 an19 cd19 ct19), sl19⟩) (c19 : PySem.W.codeIn K cd19 "_law_dig" = true) (k19 : PySem.W.keepIn K (.ref f19) = true)
    {f20 : Addr} {od20 an20 : Option Addr} {sl20 : Array (Option Value)} {oc20 kV20 dc20 pm20 cd20 ct20 : Value}
    (a20 : PySem.W.nsIn K mainGlobals "_law_next" = some (some (.ref f20))) (l20 : K.lookup f20 = some ⟨oc20, od20, .func (PySem.W.fnOf "_law_next" "_law_next" (defArgs s_law_next) (defBody s_law_next) (defScope s_law_next) .none kV20 dc20 pm20 an20 cd20 ct20), sl20⟩) (c20 : PySem.W.codeIn K cd20 "_law_next" = true) (k20 : PySem.W.keepIn K (.ref f20) = true)
    {f21 : Addr} {od21 an21 : Option Addr} {sl21 : Array (Option Value)} {oc21 kV21 dc21 pm21 cd21 ct21 : Value}
    (a21 : PySem.W.nsIn K mainGlobals "_law_lowest" = some (some (.ref f21))) (l21 : K.lookup f21 = some ⟨oc21, od21, .func (PySem.W.fnOf "_law_lowest" "_law_lowest" (defArgs s_law_lowest) (defBody s_law_lowest) (defScope s_law_lowest) .none kV21 dc21 pm21 an21 cd21 ct21), sl21⟩) (c21 : PySem.W.codeIn K cd21 "_law_lowest" = true) (k21 : PySem.W.keepIn K (.ref f21) = true)
    {f22 : Addr} {od22 an22 : Option Addr} {sl22 : Array (Option Value)} {oc22 kV22 dc22 pm22 cd22 ct22 : Value}
    (a22 : PySem.W.nsIn K mainGlobals "_law_far" = some (some (.ref f22))) (l22 : K.lookup f22 = some ⟨oc22, od22, .func (PySem.W.fnOf "_law_far" "_law_far" (defArgs s_law_far) (defBody s_law_far) (defScope s_law_far) .none kV22 dc22 pm22 an22 cd22 ct22), sl22⟩) (c22 : PySem.W.codeIn K cd22 "_law_far" = true) (k22 : PySem.W.keepIn K (.ref f22) = true)
    {f23 : Addr} {od23 an23 : Option Addr} {sl23 : Array (Option Value)} {oc23 kV23 dc23 pm23 cd23 ct23 : Value}
    (a23 : PySem.W.nsIn K mainGlobals "_law_ratio" = some (some (.ref f23))) (l23 : K.lookup f23 = some ⟨oc23, od23, .func (PySem.W.fnOf "_law_ratio" "_law_ratio" (defArgs s_law_ratio) (defBody s_law_ratio) (defScope s_law_ratio) .none kV23 dc23 pm23 an23 cd23 ct23), sl23⟩) (c23 : PySem.W.codeIn K cd23 "_law_ratio" = true) (k23 : PySem.W.keepIn K (.ref f23) = true)
    {f24 : Addr} {od24 an24 : Option Addr} {sl24 : Array (Option Value)} {oc24 kV24 dc24 pm24 cd24 ct24 : Value}
    (a24 : PySem.W.nsIn K mainGlobals "_law_sum" = some (some (.ref f24))) (l24 : K.lookup f24 = some ⟨oc24, od24, .func (PySem.W.fnOf "_law_sum" "_law_sum" (defArgs s_law_sum) (defBody s_law_sum) (defScope s_law_sum) .none kV24 dc24 pm24 an24 cd24 ct24), sl24⟩) (c24 : PySem.W.codeIn K cd24 "_law_sum" = true) (k24 : PySem.W.keepIn K (.ref f24) = true)
    {f25 : Addr} {od25 an25 : Option Addr} {sl25 : Array (Option Value)} {oc25 kV25 dc25 pm25 cd25 ct25 : Value}
    (a25 : PySem.W.nsIn K mainGlobals "_law_product" = some (some (.ref f25))) (l25 : K.lookup f25 = some ⟨oc25, od25, .func (PySem.W.fnOf "_law_product" "_law_product" (defArgs s_law_product) (defBody s_law_product) (defScope s_law_product) .none kV25 dc25 pm25 an25 cd25 ct25), sl25⟩) (c25 : PySem.W.codeIn K cd25 "_law_product" = true) (k25 : PySem.W.keepIn K (.ref f25) = true)
    {f26 : Addr} {od26 an26 : Option Addr} {sl26 : Array (Option Value)} {oc26 kV26 dc26 pm26 cd26 ct26 : Value}
    (a26 : PySem.W.nsIn K mainGlobals "_law_minus" = some (some (.ref f26))) (l26 : K.lookup f26 = some ⟨oc26, od26, .func (PySem.W.fnOf "_law_minus" "_law_minus" (defArgs s_law_minus) (defBody s_law_minus) (defScope s_law_minus) .none kV26 dc26 pm26 an26 cd26 ct26), sl26⟩) (c26 : PySem.W.codeIn K cd26 "_law_minus" = true) (k26 : PySem.W.keepIn K (.ref f26) = true)
    {f27 : Addr} {od27 an27 : Option Addr} {sl27 : Array (Option Value)} {oc27 kV27 dc27 pm27 cd27 ct27 : Value}
    (a27 : PySem.W.nsIn K mainGlobals "_law_meeting" = some (some (.ref f27))) (l27 : K.lookup f27 = some ⟨oc27, od27, .func (PySem.W.fnOf "_law_meeting" "_law_meeting" (defArgs s_law_meeting) (defBody s_law_meeting) (defScope s_law_meeting) .none kV27 dc27 pm27 an27 cd27 ct27), sl27⟩) (c27 : PySem.W.codeIn K cd27 "_law_meeting" = true) (k27 : PySem.W.keepIn K (.ref f27) = true)
    {f28 : Addr} {od28 an28 : Option Addr} {sl28 : Array (Option Value)} {oc28 kV28 dc28 pm28 cd28 ct28 : Value}
    (a28 : PySem.W.nsIn K mainGlobals "_law_sighting" = some (some (.ref f28))) (l28 : K.lookup f28 = some ⟨oc28, od28, .func (PySem.W.fnOf "_law_sighting" "_law_sighting" (defArgs s_law_sighting) (defBody s_law_sighting) (defScope s_law_sighting) .none kV28 dc28 pm28 an28 cd28 ct28), sl28⟩) (c28 : PySem.W.codeIn K cd28 "_law_sighting" = true) (k28 : PySem.W.keepIn K (.ref f28) = true)
    {f29 : Addr} {od29 an29 : Option Addr} {sl29 : Array (Option Value)} {oc29 kV29 dc29 pm29 cd29 ct29 : Value}
    (a29 : PySem.W.nsIn K mainGlobals "_law_weights" = some (some (.ref f29))) (l29 : K.lookup f29 = some ⟨oc29, od29, .func (PySem.W.fnOf "_law_weights" "_law_weights" (defArgs s_law_weights) (defBody s_law_weights) (defScope s_law_weights) .none kV29 dc29 pm29 an29 cd29 ct29), sl29⟩) (c29 : PySem.W.codeIn K cd29 "_law_weights" = true) (k29 : PySem.W.keepIn K (.ref f29) = true)
    {f30 : Addr} {od30 an30 : Option Addr} {sl30 : Array (Option Value)} {oc30 kV30 dc30 pm30 cd30 ct30 : Value}
    (a30 : PySem.W.nsIn K mainGlobals "_law_share" = some (some (.ref f30))) (l30 : K.lookup f30 = some ⟨oc30, od30, .func (PySem.W.fnOf "_law_share" "_law_share" (defArgs s_law_share) (defBody s_law_share) (defScope s_law_share) .none kV30 dc30 pm30 an30 cd30 ct30), sl30⟩) (c30 : PySem.W.codeIn K cd30 "_law_share" = true) (k30 : PySem.W.keepIn K (.ref f30) = true)
    {f31 : Addr} {od31 an31 : Option Addr} {sl31 : Array (Option Value)} {oc31 kV31 dc31 pm31 cd31 ct31 : Value}
    (a31 : PySem.W.nsIn K mainGlobals "_law_does" = some (some (.ref f31))) (l31 : K.lookup f31 = some ⟨oc31, od31, .func (PySem.W.fnOf "_law_does" "_law_does" (defArgs s_law_does) (defBody s_law_does) (defScope s_law_does) .none kV31 dc31 pm31 an31 cd31 ct31), sl31⟩) (c31 : PySem.W.codeIn K cd31 "_law_does" = true) (k31 : PySem.W.keepIn K (.ref f31) = true)
    {f32 : Addr} {od32 an32 : Option Addr} {sl32 : Array (Option Value)} {oc32 kV32 dc32 pm32 cd32 ct32 : Value}
    (a32 : PySem.W.nsIn K mainGlobals "_law_is_ring" = some (some (.ref f32))) (l32 : K.lookup f32 = some ⟨oc32, od32, .func (PySem.W.fnOf "_law_is_ring" "_law_is_ring" (defArgs s_law_is_ring) (defBody s_law_is_ring) (defScope s_law_is_ring) .none kV32 dc32 pm32 an32 cd32 ct32), sl32⟩) (c32 : PySem.W.codeIn K cd32 "_law_is_ring" = true) (k32 : PySem.W.keepIn K (.ref f32) = true)
    {f33 : Addr} {od33 an33 : Option Addr} {sl33 : Array (Option Value)} {oc33 kV33 dc33 pm33 cd33 ct33 : Value}
    (a33 : PySem.W.nsIn K mainGlobals "_law_drawn" = some (some (.ref f33))) (l33 : K.lookup f33 = some ⟨oc33, od33, .func (PySem.W.fnOf "_law_drawn" "_law_drawn" (defArgs s_law_drawn) (defBody s_law_drawn) (defScope s_law_drawn) .none kV33 dc33 pm33 an33 cd33 ct33), sl33⟩) (c33 : PySem.W.codeIn K cd33 "_law_drawn" = true) (k33 : PySem.W.keepIn K (.ref f33) = true)
    {f34 : Addr} {od34 an34 : Option Addr} {sl34 : Array (Option Value)} {oc34 kV34 dc34 pm34 cd34 ct34 : Value}
    (a34 : PySem.W.nsIn K mainGlobals "_law_can" = some (some (.ref f34))) (l34 : K.lookup f34 = some ⟨oc34, od34, .func (PySem.W.fnOf "_law_can" "_law_can" (defArgs s_law_can) (defBody s_law_can) (defScope s_law_can) .none kV34 dc34 pm34 an34 cd34 ct34), sl34⟩) (c34 : PySem.W.codeIn K cd34 "_law_can" = true) (k34 : PySem.W.keepIn K (.ref f34) = true)
    {f35 : Addr} {od35 an35 : Option Addr} {sl35 : Array (Option Value)} {oc35 kV35 dc35 pm35 cd35 ct35 : Value}
    (a35 : PySem.W.nsIn K mainGlobals "law" = some (some (.ref f35))) (l35 : K.lookup f35 = some ⟨oc35, od35, .func (PySem.W.fnOf "law" "law" (defArgs s_law) (defBody s_law) (defScope s_law) .none kV35 dc35 pm35 an35 cd35 ct35), sl35⟩) (c35 : PySem.W.codeIn K cd35 "law" = true) (k35 : PySem.W.keepIn K (.ref f35) = true)
    (z_isinstance : PySem.W.nsIn K mainGlobals "isinstance" = some none)
    (z_int : PySem.W.nsIn K mainGlobals "int" = some none)
    (z_bool : PySem.W.nsIn K mainGlobals "bool" = some none)
    (z_abs : PySem.W.nsIn K mainGlobals "abs" = some none)
    (z_len : PySem.W.nsIn K mainGlobals "len" = some none)
    (z_max : PySem.W.nsIn K mainGlobals "max" = some none)
    (z_min : PySem.W.nsIn K mainGlobals "min" = some none)
    (z_range : PySem.W.nsIn K mainGlobals "range" = some none)
    (z_tuple : PySem.W.nsIn K mainGlobals "tuple" = some none)
    (z_sum : PySem.W.nsIn K mainGlobals "sum" = some none)
    (z_all : PySem.W.nsIn K mainGlobals "all" = some none)
    (z_list : PySem.W.nsIn K mainGlobals "list" = some none)
    (z_enumerate : PySem.W.nsIn K mainGlobals "enumerate" = some none)
    {a_NOUGHT : Addr} {t1_NOUGHT t2_NOUGHT : Tok} {n_NOUGHT : Nat} {od_NOUGHT : Option Addr} {sl_NOUGHT : Array (Option Value)} (v_NOUGHT : PySem.W.nsIn K mainGlobals "NOUGHT" = some (some (.ref a_NOUGHT))) (l_NOUGHT : K.lookup a_NOUGHT = some ⟨.type "tuple", od_NOUGHT, .seq #[.int 0 t1_NOUGHT, .int 1 t2_NOUGHT] n_NOUGHT, sl_NOUGHT⟩) :
    ∃ fd : FuncData, (∀ (s : Shared) (v : Value), BindsTo s fd ⟨[v], []⟩ [("script", v)]) ∧ ∀ base : Heap, K.In base → base.Ns mainGlobals mg → FnOk l.prog w K mg base CX0 7 fa fd ["script"] (spLaw K) := by
  have e := hfa.symm.trans (PySem.W.mg_of X G a35)
  cases e
  have d_is_whole : Df K mg "is_whole" s_is_whole ["thing"] [] := df_mk l0 c0 k0 (PySem.W.mg_of X G a0) fun us hl => match us, hl with | [_], _ => rfl
  have d_greatest_divisor : Df K mg "greatest_divisor" s_greatest_divisor ["one", "other"] [] := df_mk l1 c1 k1 (PySem.W.mg_of X G a1) fun us hl => match us, hl with | [_, _], _ => rfl
  have d_ratio : Df K mg "ratio" s_ratio ["top", "bottom"] [] := ⟨⟨f2, _, _, _, _, _, _, _, _, _, _, [], l2, c2, k2, PySem.W.mg_of X G a2, .nil, fun s us KX hl => match us, hl with | [_, _], _ => .of_defaults rfl (KX _ _ ld2) rfl rfl rfl⟩⟩
  have dd_ratio : Df K mg "ratio" s_ratio ["top", "bottom"] [.int 1] := ⟨⟨f2, _, _, _, _, _, _, _, _, _, _, [.int 1 tkd2], l2, c2, k2, PySem.W.mg_of X G a2, .cons ⟨_, rfl⟩ .nil, fun s us KX hl => have hl2 : us.length = 1 := (by simpa using hl); match us, hl2 with | [_], _ => .of_defaults rfl (KX _ _ ld2) rfl rfl rfl⟩⟩
  have d_minus : Df K mg "minus" s_minus ["one", "other"] [] := df_mk l3 c3 k3 (PySem.W.mg_of X G a3) fun us hl => match us, hl with | [_, _], _ => rfl
  have d_times : Df K mg "times" s_times ["one", "other"] [] := df_mk l4 c4 k4 (PySem.W.mg_of X G a4) fun us hl => match us, hl with | [_, _], _ => rfl
  have d_over : Df K mg "over" s_over ["one", "other"] [] := df_mk l5 c5 k5 (PySem.W.mg_of X G a5) fun us hl => match us, hl with | [_, _], _ => rfl
  have d_less : Df K mg "less" s_less ["one", "other"] [] := df_mk l6 c6 k6 (PySem.W.mg_of X G a6) fun us hl => match us, hl with | [_, _], _ => rfl
  have d_least_multiple : Df K mg "least_multiple" s_least_multiple ["numbers"] [] := df_mk l7 c7 k7 (PySem.W.mg_of X G a7) fun us hl => match us, hl with | [_], _ => rfl
  have d_common_bottom : Df K mg "common_bottom" s_common_bottom ["ratios"] [] := df_mk l8 c8 k8 (PySem.W.mg_of X G a8) fun us hl => match us, hl with | [_], _ => rfl
  have d_share_of : Df K mg "share_of" s_share_of ["sighting"] [] := df_mk l9 c9 k9 (PySem.W.mg_of X G a9) fun us hl => match us, hl with | [_], _ => rfl
  have d_does_all : Df K mg "does_all" s_does_all ["weights", "sightings"] [] := df_mk l10 c10 k10 (PySem.W.mg_of X G a10) fun us hl => match us, hl with | [_, _], _ => rfl
  have d_part_of : Df K mg "part_of" s_part_of ["root", "sightings", "shares"] [] := df_mk l11 c11 k11 (PySem.W.mg_of X G a11) fun us hl => match us, hl with | [_, _, _], _ => rfl
  have d_ring_of : Df K mg "ring_of" s_ring_of ["part", "sighting", "number"] [] := df_mk l12 c12 k12 (PySem.W.mg_of X G a12) fun us hl => match us, hl with | [_, _, _], _ => rfl
  have d_ring_in : Df K mg "ring_in" s_ring_in ["part", "sightings", "shares"] [] := df_mk l13 c13 k13 (PySem.W.mg_of X G a13) fun us hl => match us, hl with | [_, _, _], _ => rfl
  have d_least_weights : Df K mg "least_weights" s_least_weights ["part"] [] := df_mk l14 c14 k14 (PySem.W.mg_of X G a14) fun us hl => match us, hl with | [_], _ => rfl
  have d_weights_of : Df K mg "weights_of" s_weights_of ["n", "sightings"] [] := df_mk l15 c15 k15 (PySem.W.mg_of X G a15) fun us hl => match us, hl with | [_, _], _ => rfl
  have d_is_step : Df K mg "is_step" s_is_step ["sightings", "number", "way"] [] := df_mk l16 c16 k16 (PySem.W.mg_of X G a16) fun us hl => match us, hl with | [_, _, _], _ => rfl
  have d_lets_ring : Df K mg "lets_ring" s_lets_ring ["n", "sightings", "ring"] [] := df_mk l17 c17 k17 (PySem.W.mg_of X G a17) fun us hl => match us, hl with | [_, _, _], _ => rfl
  have d_law_cell : Df K mg "_law_cell" s_law_cell ["script", "k"] [] := df_mk l18 c18 k18 (PySem.W.mg_of X G a18) fun us hl => match us, hl with | [_, _], _ => rfl
  have d_law_dig : Df K mg "_law_dig" s_law_dig ["cell"] [] := df_mk l19 c19 k19 (PySem.W.mg_of X G a19) fun us hl => match us, hl with | [_], _ => rfl
  have d_law_next : Df K mg "_law_next" s_law_next ["pool", "base"] [] := df_mk l20 c20 k20 (PySem.W.mg_of X G a20) fun us hl => match us, hl with | [_, _], _ => rfl
  have d_law_lowest : Df K mg "_law_lowest" s_law_lowest ["top", "bottom"] [] := df_mk l21 c21 k21 (PySem.W.mg_of X G a21) fun us hl => match us, hl with | [_, _], _ => rfl
  have d_law_far : Df K mg "_law_far" s_law_far ["pool"] [] := df_mk l22 c22 k22 (PySem.W.mg_of X G a22) fun us hl => match us, hl with | [_], _ => rfl
  have d_law_ratio : Df K mg "_law_ratio" s_law_ratio ["pool"] [] := df_mk l23 c23 k23 (PySem.W.mg_of X G a23) fun us hl => match us, hl with | [_], _ => rfl
  have d_law_sum : Df K mg "_law_sum" s_law_sum ["one", "other"] [] := df_mk l24 c24 k24 (PySem.W.mg_of X G a24) fun us hl => match us, hl with | [_, _], _ => rfl
  have d_law_product : Df K mg "_law_product" s_law_product ["one", "other"] [] := df_mk l25 c25 k25 (PySem.W.mg_of X G a25) fun us hl => match us, hl with | [_, _], _ => rfl
  have d_law_minus : Df K mg "_law_minus" s_law_minus ["one", "other"] [] := df_mk l26 c26 k26 (PySem.W.mg_of X G a26) fun us hl => match us, hl with | [_, _], _ => rfl
  have d_law_meeting : Df K mg "_law_meeting" s_law_meeting ["i", "j", "one", "other", "v", "w"] [] := df_mk l27 c27 k27 (PySem.W.mg_of X G a27) fun us hl => match us, hl with | [_, _, _, _, _, _], _ => rfl
  have d_law_sighting : Df K mg "_law_sighting" s_law_sighting ["pool", "weights"] [] := df_mk l28 c28 k28 (PySem.W.mg_of X G a28) fun us hl => match us, hl with | [_, _], _ => rfl
  have d_law_weights : Df K mg "_law_weights" s_law_weights ["pool", "many"] [] := df_mk l29 c29 k29 (PySem.W.mg_of X G a29) fun us hl => match us, hl with | [_, _], _ => rfl
  have d_law_share : Df K mg "_law_share" s_law_share ["sighting"] [] := df_mk l30 c30 k30 (PySem.W.mg_of X G a30) fun us hl => match us, hl with | [_], _ => rfl
  have d_law_does : Df K mg "_law_does" s_law_does ["weights", "sightings"] [] := df_mk l31 c31 k31 (PySem.W.mg_of X G a31) fun us hl => match us, hl with | [_, _], _ => rfl
  have d_law_is_ring : Df K mg "_law_is_ring" s_law_is_ring ["sightings", "ring"] [] := df_mk l32 c32 k32 (PySem.W.mg_of X G a32) fun us hl => match us, hl with | [_, _], _ => rfl
  have d_law_drawn : Df K mg "_law_drawn" s_law_drawn ["script", "n"] [] := df_mk l33 c33 k33 (PySem.W.mg_of X G a33) fun us hl => match us, hl with | [_, _], _ => rfl
  have d_law_can : Df K mg "_law_can" s_law_can ["n", "sightings"] [] := df_mk l34 c34 k34 (PySem.W.mg_of X G a34) fun us hl => match us, hl with | [_, _], _ => rfl
  have T : TxB K mg := ⟨kit_ii K, kit_ib K, PySem.W.mg_none_of X G z_isinstance, PySem.W.mg_none_of X G z_int, PySem.W.mg_none_of X G z_bool, PySem.W.mg_none_of X G z_abs, PySem.W.mg_none_of X G z_len, PySem.W.mg_none_of X G z_max, PySem.W.mg_none_of X G z_min, PySem.W.mg_none_of X G z_range, PySem.W.mg_none_of X G z_tuple, PySem.W.mg_none_of X G z_sum⟩
  have F := fun_mk (st := s_law) l35 c35 k35
  refine ⟨PySem.W.fnOf "law" "law" (defArgs s_law) (defBody s_law) (defScope s_law) .none kV35 dc35 pm35 an35 cd35 ct35, fun s v => .of_eq rfl, fun base hKb hGb => ?_⟩
  have TF : TxF K mg a_NOUGHT := ⟨PySem.W.mg_none_of X G z_all, PySem.W.mg_none_of X G z_list, PySem.W.mg_of X G v_NOUGHT, ⟨_, _, _, _, l_NOUGHT, rfl, rfl⟩⟩
  have TG : TxG K mg := ⟨PySem.W.mg_none_of X G z_enumerate⟩
  have cW := ok_whole (P := l.prog) (w := w) (base := base) d_is_whole T
  have cG := ok_gcd (P := l.prog) (w := w) (base := base) d_greatest_divisor
  have cR := ok_ratio d_ratio T cW cG
  have cR1 := ok_ratio dd_ratio T cW cG
  have cM := ok_minus d_minus cR
  have cT := ok_times d_times cR
  have cO := ok_over d_over cR
  have cLs := ok_lessK (P := l.prog) (w := w) (base := base) d_less
  have cSh := ok_sh d_share_of TF cM cO cLs
  have cDo := ok_do d_does_all TF cR cSh
  have cLc := ok_lcm d_least_multiple cG
  have cB := ok_cb d_common_bottom cLc
  have cPa := ok_pa d_part_of T TG cR1 cT cO
  have cRo := ok_ro (P := l.prog) (w := w) (base := base) d_ring_of T
  have cRi := ok_ri d_ring_in TG cT cRo
  have cLw := ok_lw d_least_weights cB
  have cWo := ok_wo d_weights_of T cSh cPa cRi cLw
  have cIs := ok_is d_is_step T cSh
  have cLr := ok_lr d_lets_ring T TF cSh cIs
  have cC := ok_cell (P := l.prog) (w := w) (base := base) d_law_cell T
  have cD := ok_dig (P := l.prog) (w := w) (base := base) d_law_dig T
  have cN := ok_next (P := l.prog) (w := w) (base := base) d_law_next
  have cL := ok_low (P := l.prog) (w := w) (base := base) d_law_lowest T
  have cFa := ok_far d_law_far T cN
  have cRa := ok_rat d_law_ratio cN cFa cL
  have cS := ok_lsum d_law_sum cL
  have cPr := ok_lprod d_law_product cL
  have cMi := ok_mi d_law_minus cS cPr
  have cMe := ok_me d_law_meeting cMi cS cPr cL
  have cSi := ok_si d_law_sighting T cN cRa cS cL cMe
  have cWe := ok_we d_law_weights T cN
  have cSl := ok_ls d_law_share cMi cL
  have cLd := ok_ld d_law_does T cSl
  have cIr := ok_ir d_law_is_ring T TF cSl
  have cCa := ok_ca d_law_can T TF cPr cSl
  have cDr := ok_dr d_law_drawn T TF cC cD cN cWe cSi
  exact ok_law F T TF cC cD cN cDr cCa cLd cIr cLr cWo cDo
theorem walk {l : PySem.W.OpenLaw} {q : Program} {loose : List Str} {XP : (Str → Option Value) → Heap → Prop} {YP : World → Heap → Prop} {d : DefRec} {K : Params → PySem.W.Frag} (hn : l.most = some 63) (hdf : d.params.defaults = [])
    (hY : ∀ (w : World) (h : Heap), YP w h → (K w.params).In h)
    (F : ∀ (w : World) (mg : Str → Option Value) (fa : Addr) (h : Heap), (K w.params).In h → h.Ns mainGlobals mg → mg d.name = some (.ref fa) →
      ∃ fd : FuncData, (∀ (s : Shared) (u : Value), BindsTo s fd ⟨[u], []⟩ [("script", u)]) ∧ ∀ base : Heap, (K w.params).In base → base.Ns mainGlobals mg → FnOk l.prog w (K w.params) mg base CX0 7 fa fd ["script"] (spLaw (K w.params))) :
    PySem.W.WalkO q loose XP YP l.row.toRowW d [] (fun f vs => PySem.call f vs) :=
  L2.walk_of (n := 63) (k := 7) (x := "script") (CX := fun _ => CX0) (sp := fun w => spLaw (K w.params)) hn (by decide) hdf ⟨rfl, by decide, by decide⟩ hY F (fun _ _ a ns hl _ hS => ⟨a, ns, rfl, hS, hl, fun _ => rfl⟩) fun _ _ _ _ _ z => z
end KK
open PySem PySem.W PyProof.Rows
set_option maxRecDepth 100000 in
set_option maxHeartbeats 0 in
theorem PySem.Challenge.cw_clackrow_k54_rings_of_sightings_holds : PySem.Challenge.rw_clackrow_k54_rings_of_sightings.Holds := by
  w_on; o_law; k_head; (case hw => w_witness2)
  k_fill
  refine KK.walk (l := PySem.Challenge.rw_clackrow_k54_rings_of_sightings) rfl rfl (fun w h Y => PySem.W.kIn_of Y) ?F
  case F =>
    intro w mg fa h KX G hmg
    refine' KK.all_mk KX G hmg ?a0 ?l0 ?c0 ?k0 ?a1 ?l1 ?c1 ?k1 ?a2 ?l2 ?c2 ?k2 ?ld2 ?a3 ?l3 ?c3 ?k3 ?a4 ?l4 ?c4 ?k4 ?a5 ?l5 ?c5 ?k5 ?a6 ?l6 ?c6 ?k6 ?a7 ?l7 ?c7 ?k7 ?a8 ?l8 ?c8 ?k8 ?a9 ?l9 ?c9 ?k9 ?a10 ?l10 ?c10 ?k10 ?a11 ?l11 ?c11 ?k11 ?a12 ?l12 ?c12 ?k12 ?a13 ?l13 ?c13 ?k13 ?a14 ?l14 ?c14 ?k14 ?a15 ?l15 ?c15 ?k15 ?a16 ?l16 ?c16 ?k16 ?a17 ?l17 ?c17 ?k17 ?a18 ?l18 ?c18 ?k18 ?a19 ?l19 ?c19 ?k19 ?a20 ?l20 ?c20 ?k20 ?a21 ?l21 ?c21 ?k21 ?a22 ?l22 ?c22 ?k22 ?a23 ?l23 ?c23 ?k23 ?a24 ?l24 ?c24 ?k24 ?a25 ?l25 ?c25 ?k25 ?a26 ?l26 ?c26 ?k26 ?a27 ?l27 ?c27 ?k27 ?a28 ?l28 ?c28 ?k28 ?a29 ?l29 ?c29 ?k29 ?a30 ?l30 ?c30 ?k30 ?a31 ?l31 ?c31 ?k31 ?a32 ?l32 ?c32 ?k32 ?a33 ?l33 ?c33 ?k33 ?a34 ?l34 ?c34 ?k34 ?a35 ?l35 ?c35 ?k35 ?z_isinstance ?z_int ?z_bool ?z_abs ?z_len ?z_max ?z_min ?z_range ?z_tuple ?z_sum ?z_all ?z_list ?z_enumerate ?v_NOUGHT ?l_NOUGHT
    (case a0 => k_is)
    (case l0 => k_is)
    (case c0 => k_is)
    (case k0 => k_is)
    (case a1 => k_is)
    (case l1 => k_is)
    (case c1 => k_is)
    (case k1 => k_is)
    (case a2 => k_is)
    (case l2 => k_is)
    (case c2 => k_is)
    (case k2 => k_is)
    (case ld2 => k_is)
    (case a3 => k_is)
    (case l3 => k_is)
    (case c3 => k_is)
    (case k3 => k_is)
    (case a4 => k_is)
    (case l4 => k_is)
    (case c4 => k_is)
    (case k4 => k_is)
    (case a5 => k_is)
    (case l5 => k_is)
    (case c5 => k_is)
    (case k5 => k_is)
    (case a6 => k_is)
    (case l6 => k_is)
    (case c6 => k_is)
    (case k6 => k_is)
    (case a7 => k_is)
    (case l7 => k_is)
    (case c7 => k_is)
    (case k7 => k_is)
    (case a8 => k_is)
    (case l8 => k_is)
    (case c8 => k_is)
    (case k8 => k_is)
    (case a9 => k_is)
    (case l9 => k_is)
    (case c9 => k_is)
    (case k9 => k_is)
    (case a10 => k_is)
    (case l10 => k_is)
    (case c10 => k_is)
    (case k10 => k_is)
    (case a11 => k_is)
    (case l11 => k_is)
    (case c11 => k_is)
    (case k11 => k_is)
    (case a12 => k_is)
    (case l12 => k_is)
    (case c12 => k_is)
    (case k12 => k_is)
    (case a13 => k_is)
    (case l13 => k_is)
    (case c13 => k_is)
    (case k13 => k_is)
    (case a14 => k_is)
    (case l14 => k_is)
    (case c14 => k_is)
    (case k14 => k_is)
    (case a15 => k_is)
    (case l15 => k_is)
    (case c15 => k_is)
    (case k15 => k_is)
    (case a16 => k_is)
    (case l16 => k_is)
    (case c16 => k_is)
    (case k16 => k_is)
    (case a17 => k_is)
    (case l17 => k_is)
    (case c17 => k_is)
    (case k17 => k_is)
    (case a18 => k_is)
    (case l18 => k_is)
    (case c18 => k_is)
    (case k18 => k_is)
    (case a19 => k_is)
    (case l19 => k_is)
    (case c19 => k_is)
    (case k19 => k_is)
    (case a20 => k_is)
    (case l20 => k_is)
    (case c20 => k_is)
    (case k20 => k_is)
    (case a21 => k_is)
    (case l21 => k_is)
    (case c21 => k_is)
    (case k21 => k_is)
    (case a22 => k_is)
    (case l22 => k_is)
    (case c22 => k_is)
    (case k22 => k_is)
    (case a23 => k_is)
    (case l23 => k_is)
    (case c23 => k_is)
    (case k23 => k_is)
    (case a24 => k_is)
    (case l24 => k_is)
    (case c24 => k_is)
    (case k24 => k_is)
    (case a25 => k_is)
    (case l25 => k_is)
    (case c25 => k_is)
    (case k25 => k_is)
    (case a26 => k_is)
    (case l26 => k_is)
    (case c26 => k_is)
    (case k26 => k_is)
    (case a27 => k_is)
    (case l27 => k_is)
    (case c27 => k_is)
    (case k27 => k_is)
    (case a28 => k_is)
    (case l28 => k_is)
    (case c28 => k_is)
    (case k28 => k_is)
    (case a29 => k_is)
    (case l29 => k_is)
    (case c29 => k_is)
    (case k29 => k_is)
    (case a30 => k_is)
    (case l30 => k_is)
    (case c30 => k_is)
    (case k30 => k_is)
    (case a31 => k_is)
    (case l31 => k_is)
    (case c31 => k_is)
    (case k31 => k_is)
    (case a32 => k_is)
    (case l32 => k_is)
    (case c32 => k_is)
    (case k32 => k_is)
    (case a33 => k_is)
    (case l33 => k_is)
    (case c33 => k_is)
    (case k33 => k_is)
    (case a34 => k_is)
    (case l34 => k_is)
    (case c34 => k_is)
    (case k34 => k_is)
    (case a35 => k_is)
    (case l35 => k_is)
    (case c35 => k_is)
    (case k35 => k_is)
    (case z_isinstance => k_is)
    (case z_int => k_is)
    (case z_bool => k_is)
    (case z_abs => k_is)
    (case z_len => k_is)
    (case z_max => k_is)
    (case z_min => k_is)
    (case z_range => k_is)
    (case z_tuple => k_is)
    (case z_sum => k_is)
    (case z_all => k_is)
    (case z_list => k_is)
    (case z_enumerate => k_is)
    (case v_NOUGHT => k_is)
    (case l_NOUGHT => k_is)
end
