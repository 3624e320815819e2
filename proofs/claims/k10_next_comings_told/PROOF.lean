import PyProof.Rows.All
import Wide.All
import OpenK.AllK
import Wide.FinOn
import Lean
import PyProof.EqAt
import PyProof.EqKinds
import PyProof.TupleCall
import PyProof.CompFree
import PyProof.Rows.SumAny
import PyProof.ZipIter
import PyProof.ConsumeWalk
import PySem.Challenge.RW_clackrow_k10_next_comings_told
set_option Elab.async false
set_option linter.all false
set_option maxRecDepth 100000
namespace L2
open PySem PySem.Spec PyProof.Rows

abbrev Key := Sum Int Str
def keyIs : Key → Value → Bool
  | .inl k, v => Value.isInt k v
  | .inr x, v => Value.isStrOf x v
def keyH (w : World) : Key → Int
  | .inl k => hashInt k
  | .inr x => hashStr w x
theorem keyIs_shape : ∀ {k : Key} {v : Value}, keyIs k v = true → (∃ i t, k = Sum.inl i ∧ v = Value.int i t) ∨ (∃ x t, k = Sum.inr x ∧ v = Value.str x t)
  | .inl i, v, h => by
    obtain ⟨t, e⟩ := Value.isInt_shape (k := i) (v := v) h
    exact .inl ⟨i, t, rfl, e⟩
  | .inr x, v, h => by
    obtain ⟨t, e⟩ := Value.isStrOf_shape (x := x) (v := v) h
    exact .inr ⟨x, t, rfl, e⟩
theorem key_ll (a b : Int) : decide ((Sum.inl a : Key) = Sum.inl b) = (a == b) := by
  by_cases e : a = b
  · subst e; simp
  · have h : ¬ (Sum.inl a : Key) = Sum.inl b := fun q => e (Sum.inl.inj q)
    rw [decide_eq_false h]
    exact (beq_eq_false_iff_ne.mpr e).symm
theorem key_rr (a b : Str) : decide ((Sum.inr a : Key) = Sum.inr b) = decide (a = b) := by
  by_cases e : a = b
  · subst e; simp
  · have h : ¬ (Sum.inr a : Key) = Sum.inr b := fun q => e (Sum.inr.inj q)
    rw [decide_eq_false h, decide_eq_false e]
theorem key_lr (a : Int) (b : Str) : decide ((Sum.inl a : Key) = Sum.inr b) = false := decide_eq_false (fun q => nomatch q)
theorem key_rl (a : Str) (b : Int) : decide ((Sum.inr a : Key) = Sum.inl b) = false := decide_eq_false (fun q => nomatch q)

def mixKind (prog : Program) (w : World) : PySem.KeyKind prog w Key where
  is := keyIs
  hash := keyH w
  inj := fun v a b ha hb => by
    rcases keyIs_shape ha with ⟨i, t, rfl, rfl⟩ | ⟨x, t, rfl, rfl⟩
    · rcases keyIs_shape hb with ⟨j, u, rfl, e⟩ | ⟨y, u, rfl, e⟩
      · injection e with e1 _; rw [e1]
      · exact nomatch e
    · rcases keyIs_shape hb with ⟨j, u, rfl, e⟩ | ⟨y, u, rfl, e⟩
      · exact nomatch e
      · injection e with e1 _; rw [e1]
  byValue := fun k v h => by
    rcases keyIs_shape h with ⟨i, t, rfl, rfl⟩ | ⟨x, t, rfl, rfl⟩ <;> rfl
  pyHash := fun hv h => by
    rcases keyIs_shape hv with ⟨i, t, rfl, rfl⟩ | ⟨x, t, rfl, rfl⟩
    · exact wpAny_pyHash_int h
    · exact wpAny_pyHash_str h
  eqBool := fun hu hv h => by
    rcases keyIs_shape hu with ⟨i, t, rfl, rfl⟩ | ⟨x, t, rfl, rfl⟩
    · rcases keyIs_shape hv with ⟨j, u, rfl, rfl⟩ | ⟨y, u, rfl, rfl⟩
      · rw [key_ll] at h; exact wpAny_eqBool_int h
      · rw [key_lr] at h; exact SeqAt.EqAt.int_str i t y u _ _ _ _ h
    · rcases keyIs_shape hv with ⟨j, u, rfl, rfl⟩ | ⟨y, u, rfl, rfl⟩
      · rw [key_rl] at h; exact SeqAt.EqAt.str_int x t j u _ _ _ _ h
      · rw [key_rr] at h; exact wpAny_eqBool_str h
  «strs» := fun k x t v h => by
    rcases keyIs_shape h with ⟨i, u, rfl, e⟩ | ⟨y, u, rfl, e⟩
    · exact nomatch e
    · injection e with e1 _
      subst e1
      cases v <;> rfl

end L2

namespace L2
open PySem PySem.Spec PyProof.Rows

inductive V where
  | non | bl (b : Bool) | int (i : Int) | str (x : Str) | byt (b : Array UInt8) | flt (b : UInt64) | ref (a : Addr) | ty (n : String)
  deriving DecidableEq

def RelV : V → Value → Prop
  | .non, u => u = Value.none
  | .bl b, u => u = Value.bool b
  | .int i, u => ∃ t, u = Value.int i t
  | .str x, u => ∃ t, u = Value.str x t
  | .byt b, u => ∃ t, u = Value.bytes b t
  | .flt b, u => ∃ t, u = Value.float b t
  | .ref a, u => u = Value.ref a
  | .ty n, u => u = Value.type n

abbrev Vals : List V → List Value → Prop := Paired RelV
theorem Vals.length {xs : List V} {us : List Value} (r : Vals xs us) : xs.length = us.length := Paired.length r
theorem Vals.get : ∀ {xs : List V} {us : List Value} {i : Nat} {x : V}, Vals xs us → xs[i]? = some x → ∃ u, us[i]? = some u ∧ RelV x u
  | _, _, _, _, .nil, e => by simp at e
  | _, _, 0, _, .cons r _, e => by simp at e; subst e; exact ⟨_, rfl, r⟩
  | _, _, i + 1, x, .cons _ t, e => by
    obtain ⟨u, h1, h2⟩ := Vals.get (i := i) (x := x) t (by simpa using e)
    exact ⟨u, by simpa using h1, h2⟩
theorem Vals.set {x : V} {u : Value} (r : RelV x u) : ∀ {xs : List V} {us : List Value} (i : Nat), Vals xs us → Vals (xs.set i x) (us.set i u)
  | _, _, _, .nil => .nil
  | _, _, 0, .cons _ t => .cons r t
  | _, _, i + 1, .cons q t => .cons q (Vals.set r i t)
theorem Vals.append : ∀ {xs ys : List V} {us ws : List Value}, Vals xs us → Vals ys ws → Vals (xs ++ ys) (us ++ ws)
  | _, _, _, _, .nil, s => s
  | _, _, _, _, .cons r t, s => .cons r (Vals.append t s)
theorem Vals.take : ∀ {xs : List V} {us : List Value} (n : Nat), Vals xs us → Vals (xs.take n) (us.take n)
  | _, _, 0, _ => .nil
  | _, _, _ + 1, .nil => .nil
  | _, _, n + 1, .cons r t => .cons r (Vals.take n t)
theorem Vals.drop : ∀ {xs : List V} {us : List Value} (n : Nat), Vals xs us → Vals (xs.drop n) (us.drop n)
  | _, _, 0, r => r
  | _, _, _ + 1, .nil => .nil
  | _, _, n + 1, .cons _ t => Vals.drop n t
def RelO : Option V → Option Value → Prop
  | some v, some u => RelV v u
  | none, none => True
  | _, _ => False
def KV {κ : Type} : List (κ × V) → List (κ × Value) → Prop := Paired fun (p : κ × V) (q : κ × Value) => p.1 = q.1 ∧ RelV p.2 q.2

def kV : Key → V
  | .inl i => .int i
  | .inr x => .str x

inductive HO where
  /-- a list -/
  | lst (xs : List V)
  /-- a tuple (never changes) -/
  | tup (xs : List V)
  /-- a dict whose keys are ints and texts; one whose keys are tuples of ints and texts (the empty one is both) -/
  | dK (kvs : List (Key × V)) | dT (kvs : List (List Key × V))
  /-- a set of ints: its members, its size -/
  | set (S : Int → Bool) (n : Nat)
  /-- an instance of the class at C, its dict at dx, its attributes -/
  | ins (C dx : Addr) (fs : List (Str × V))
  /-- the dict of the instance at x -/
  | own (x : Addr)
  /-- the dict of an exception -/
  | xd (fs : List (Str × V))
  /-- a bound method, f of x -/
  | met (f x : Addr)
  /-- a range object lo, lo + 1, .. below hi -/
  | rng (lo hi : Int)
  /-- a thing that is known to the object (the script; a dict while a loop walks it): read, never written while it is so -/
  | frz (o : Obj) (u : HO)
  /-- a code object's table -/
  | tbl (ps : Array Value)
  /-- any other thing, by what is true of its one object (a def of one's own: SetO a S n := HO.ext fun h => ..) -/
  | ext (φ : Heap → Prop)

abbrev Hp := Addr → Option HO
def upd (H : Hp) (a : Addr) (o : HO) : Hp := fun b => if b = a then some o else H b
theorem upd_same {H : Hp} {a : Addr} {o : HO} : upd H a o a = some o := by unfold upd; rw [if_pos rfl]
theorem upd_ne {H : Hp} {a b : Addr} {o : HO} (h : b ≠ a) : upd H a o b = H b := by unfold upd; rw [if_neg h]
theorem ne_of {H : Hp} {a b : Addr} {o u : HO} (h : H a = some o) (h' : H b = some u) (d : o ≠ u) : a ≠ b := by
  intro e; subst e; rw [h] at h'; exact d (Option.some.inj h')
theorem ne_of_none {H : Hp} {a b : Addr} {o : HO} (h : H a = some o) (h' : H b = none) : a ≠ b := by
  intro e; subst e; rw [h] at h'; cases h'

section
variable (P : Program) (w : World)
def ObjOk (H : Hp) (h : Heap) (a : Addr) : HO → Prop
  | .lst xs => xs.length ≤ sizeLine ∧ ∃ (its : List Value) (n : Nat), Vals xs its ∧ h.get? a = some { cls := .type "list", data := .seq its.toArray n }
  | .tup xs => xs.length ≤ sizeLine ∧ ∃ its : List Value, Vals xs its ∧ IsTup h a its.toArray
  | .dK kvs => kvs.length ≤ sizeLine ∧ (a == sysModules) = false ∧ ∃ vs, KV kvs vs ∧ h.DictOf (mixKind P w) a vs
  | .dT kvs => kvs.length ≤ sizeLine ∧ (a == sysModules) = false ∧ ∃ xs : List (List Key × Addr × Value),
      Paired (fun (p : List Key × V) (q : List Key × Addr × Value) => p.1 = q.1 ∧ H q.2.1 = some (.tup (p.1.map kV)) ∧ RelV p.2 q.2.2) kvs xs ∧
      ∃ o es ep, h.get? a = some o ∧ o.ExactDict ∧ o.data = .dict es ep ∧ es.toList = xs.map (entryOfKey (tupleKind (mixKind P w))) ∧ (xs.map (·.1)).Nodup
  | .set S n => h.SetOf (intKind P w) a S n
  | .ins C dx fs => H dx = some (.own a) ∧ fs.length ≤ 1000 ∧ dx ≠ a ∧ h.get? a = some (PySem.W.instObj C dx) ∧
      ∃ mA, h.Ns1 dx mA ∧ (∀ f, RelO (fs.lookup f) (mA f)) ∧ PySem.Within mA (fs.map (·.1))
  | .own _ => ∃ o, h.get? a = some o
  | .xd fs => ∃ mA, h.Ns1 a mA ∧ ∀ f, RelO (fs.lookup f) (mA f)
  | .rng lo hi => ∃ t u v, h.get? a = some { cls := .type "range", data := .fields #[.int lo t, .int hi u, .int 1 v] }
  | .frz o u => h.get? a = some o ∧ ObjOk H h a u
  | .tbl ps => h.get? a = some { cls := .none, data := .fields ps }
  | .met f x => h.get? a = some (PySem.W.methodObj (.ref f) (.ref x))
  | .ext φ => φ h ∧ (∃ o, h.get? a = some o) ∧ ∀ h1 h2 : Heap, φ h1 → (∀ o, h1.get? a = some o → h2.get? a = some o) → φ h2
def HOk (H : Hp) (h : Heap) : Prop := ∀ a o, H a = some o → ObjOk P w H h a o
end

section
variable {P : Program} {w : World} {H H' : Hp} {h h' : Heap} {a : Addr} {o : HO}
theorem ObjOk.lt (x : ObjOk P w H h a o) : a < h.objs.size := by
  cases o with
  | lst xs => obtain ⟨_, _, _, _, e⟩ := x; exact Heap.lt_size e
  | tup xs => obtain ⟨_, _, _, p⟩ := x; exact p.lt
  | dK kvs => obtain ⟨_, _, _, _, o, _, _, e, _⟩ := x; exact Heap.lt_size e
  | dT kvs => obtain ⟨_, _, _, _, o, _, _, e, _⟩ := x; exact Heap.lt_size e
  | set S n => obtain ⟨o, _, _, _, e, _⟩ := x; exact Heap.lt_size e
  | ins C dx fs => obtain ⟨_, _, _, e, _⟩ := x; exact Heap.lt_size e
  | own y => obtain ⟨_, e⟩ := x; exact Heap.lt_size e
  | xd fs => obtain ⟨_, ⟨_, _, _, e, _⟩, _⟩ := x; exact Heap.lt_size e
  | rng lo hi => obtain ⟨_, _, _, e⟩ := x; exact Heap.lt_size e
  | frz ob u => obtain ⟨e, _⟩ := x; exact Heap.lt_size e
  | tbl ps => exact Heap.lt_size (show h.get? a = some _ from x)
  | met f y => exact Heap.lt_size (show h.get? a = some _ from x)
  | ext φ => obtain ⟨_, ⟨_, e⟩, _⟩ := x; exact Heap.lt_size e
theorem Paired.mapP {α β : Type} {F G : α → β → Prop} : ∀ {l₁ : List α} {l₂ : List β}, Paired F l₁ l₂ → (∀ a b, F a b → G a b) → Paired G l₁ l₂
  | _, _, .nil, _ => .nil
  | _, _, .cons r t, f => .cons (f _ _ r) (Paired.mapP t f)
theorem ObjOk.stay (x : ObjOk P w H h a o) (k : ∀ b u, (b = a ∨ H b = some (.own a)) → h.get? b = some u → h'.get? b = some u)
    (ho : ∀ b, H b = some (.own a) → H' b = some (.own a)) (ht : ∀ b xs, H b = some (.tup xs) → H' b = some (.tup xs)) : ObjOk P w H' h' a o := by
  induction o with
  | lst xs => obtain ⟨z, its, n, r, e⟩ := x; exact ⟨z, its, n, r, k _ _ (.inl rfl) e⟩
  | tup xs => obtain ⟨z, its, r, ob, e, c⟩ := x; exact ⟨z, its, r, ob, k _ _ (.inl rfl) e, c⟩
  | dK kvs => obtain ⟨z, y, vs, r, ob, es, ep, e, c⟩ := x; exact ⟨z, y, vs, r, ob, es, ep, k _ _ (.inl rfl) e, c⟩
  | dT kvs =>
    obtain ⟨z, y, xs, r, ob, es, ep, e, c⟩ := x
    exact ⟨z, y, xs, Paired.mapP r fun p q z => ⟨z.1, ht _ _ z.2.1, z.2.2⟩, ob, es, ep, k _ _ (.inl rfl) e, c⟩
  | set S n => obtain ⟨ob, es, ep, t, e, c⟩ := x; exact ⟨ob, es, ep, t, k _ _ (.inl rfl) e, c⟩
  | ins C dx fs =>
    obtain ⟨d, z, ne, e, mA, ⟨od, es, ep, e2, c⟩, r⟩ := x
    exact ⟨ho _ d, z, ne, k _ _ (.inl rfl) e, mA, ⟨od, es, ep, k _ _ (.inr d) e2, c⟩, r⟩
  | own y => obtain ⟨ob, e⟩ := x; exact ⟨ob, k _ _ (.inl rfl) e⟩
  | xd fs => obtain ⟨mA, ⟨od, es, ep, e, c⟩, r⟩ := x; exact ⟨mA, ⟨od, es, ep, k _ _ (.inl rfl) e, c⟩, r⟩
  | rng lo hi => obtain ⟨t, u, v, e⟩ := x; exact ⟨t, u, v, k _ _ (.inl rfl) e⟩
  | frz ob u ih => obtain ⟨e, q⟩ := x; exact ⟨k _ _ (.inl rfl) e, ih q⟩
  | tbl ps =>
    have e : h.get? a = some { cls := .none, data := .fields ps } := x
    show h'.get? a = some { cls := .none, data := .fields ps }
    exact k a _ (.inl rfl) e
  | met f y =>
    have e : h.get? a = some (PySem.W.methodObj (.ref f) (.ref y)) := x
    show h'.get? a = some (PySem.W.methodObj (.ref f) (.ref y))
    exact k a _ (.inl rfl) e
  | ext φ => obtain ⟨p, ⟨o, e⟩, st⟩ := x; exact ⟨st _ _ p fun o q => k _ _ (.inl rfl) q, ⟨o, k _ _ (.inl rfl) e⟩, st⟩
theorem HOk.lt (x : HOk P w H h) (e : H a = some o) : a < h.objs.size := (x a o e).lt
theorem HOk.fresh (x : HOk P w H h) (e : h.objs.size ≤ a) : H a = none := by
  cases q : H a with
  | none => rfl
  | some u => exact absurd (Nat.lt_of_lt_of_le (x.lt q) e) (Nat.lt_irrefl _)
theorem HOk.kept (x : HOk P w H h) (k : ∀ b u, h.get? b = some u → h'.get? b = some u) : HOk P w H h' := fun a o e =>
  (x a o e).stay (fun b u _ q => k b u q) (fun _ q => q) fun _ _ q => q
theorem HOk.laid (x : HOk P w H h) (k : ∀ b u, h.get? b = some u → h'.get? b = some u) (hp : h.objs.size ≤ a) (new : ObjOk P w (upd H a o) h' a o) : HOk P w (upd H a o) h' := fun b u e => by
  have hn := x.fresh hp
  by_cases hb : b = a
  · subst hb; rw [upd_same] at e; cases e; exact new
  · rw [upd_ne hb] at e
    exact (x b u e).stay (fun c v _ q => k c v q) (fun c q => by rw [upd_ne (ne_of_none q hn)]; exact q) fun c xs q => by rw [upd_ne (ne_of_none q hn)]; exact q
end

def Rd (H : Hp) (a : Addr) (u : HO) : Prop := H a = some u ∨ ∃ o, H a = some (.frz o u)
theorem Rd.of {H : Hp} {a : Addr} {u : HO} (h : H a = some u) : Rd H a u := .inl h
theorem Rd.ok {P : Program} {w : World} {H : Hp} {h : Heap} {a : Addr} {u : HO} (r : Rd H a u) (x : HOk P w H h) : ObjOk P w H h a u := by
  rcases r with r | ⟨o, r⟩
  · exact x a u r
  · obtain ⟨_, q⟩ := x a _ r
    exact q
def Mut : Option HO → Prop
  | some (.lst _) => True
  | some (.dK _) => True
  | some (.dT _) => True
  | some (.set _ _) => True
  | some (.ins _ _ _) => True
  | some (.ext _) => True
  | _ => False
section
variable {P : Program} {w : World} {H : Hp} {h h' : Heap} {x e : Addr} {o' : HO}
theorem HOk.write (ok : HOk P w H h) (mu : Mut (H x)) (he : e = x ∨ H e = some (.own x)) (k : ∀ b u, b ≠ e → h.get? b = some u → h'.get? b = some u) (heo : ∃ u, h'.get? e = some u)
    (new : ObjOk P w (upd H x o') h' x o') : HOk P w (upd H x o') h' := fun b u q => by
  have nown : ∀ c y, H c = some (.own y) → c ≠ x := fun c y r z => by subst z; rw [r] at mu; exact mu
  have ntup : ∀ c xs, H c = some (.tup xs) → c ≠ x := fun c xs r z => by subst z; rw [r] at mu; exact mu
  by_cases hb : b = x
  · subst hb; rw [upd_same] at q; cases q; exact new
  · rw [upd_ne hb] at q
    by_cases hbe : b = e
    · have q' : H b = some (.own x) := by
        rcases he with z | z
        · exact absurd (hbe.trans z) hb
        · rw [hbe]; exact z
      rw [q] at q'; cases q'
      obtain ⟨v, hv⟩ := heo
      exact ⟨v, by rw [hbe]; exact hv⟩
    · refine (ok b u q).stay (fun c v hc r => k c v ?_ r) (fun c r => by rw [upd_ne (nown c b r)]; exact r) fun c xs r => by rw [upd_ne (ntup c xs r)]; exact r
      rcases hc with rfl | hc
      · exact hbe
      · rintro rfl
        rcases he with z | z
        · exact nown c b hc z
        · rw [hc] at z; cases z; exact hb rfl
end

structure Un (fs ex : List Addr) (H H' : Hp) (h h' : Heap) : Prop where
  keep : ∀ b o, h.get? b = some o → H b = none → b ∉ fs → b ∉ ex → h'.get? b = some o
  slot : ∀ b o, h.get? b = some o → H b = none → b ∈ fs → b ∉ ex → ∃ sl, h'.get? b = some { o with slots := sl }
  free : ∀ b o, h.get? b = some o → H b = none → b ∉ ex → H' b = none
  there : ∀ b o, h.get? b = some o → b ∉ ex → ∃ o', h'.get? b = some o'
  tups : ∀ b xs, H b = some (.tup xs) → H' b = some (.tup xs)
  frzs : ∀ b o u, H b = some (.frz o u) → H' b = some (.frz o u)
  tbls : ∀ b ps, H b = some (.tbl ps) → ∃ more, H' b = some (.tbl (ps ++ more))
section
variable {fs fs' ex ex' : List Addr} {H H1 H2 : Hp} {h h1 h2 h' : Heap} {a x e : Addr} {o : HO}
theorem Un.any (u : Un fs ex H H1 h h1) {b : Addr} {ob : Obj} (q : h.get? b = some ob) (n : H b = none) (hx : b ∉ ex) : ∃ sl, h1.get? b = some { ob with slots := sl } := by
  by_cases hb : b ∈ fs
  · exact u.slot b ob q n hb hx
  · exact ⟨ob.slots, u.keep b ob q n hb hx⟩
theorem Un.trans (a : Un fs ex H H1 h h1) (b : Un fs ex H1 H2 h1 h2) : Un fs ex H H2 h h2 where
  keep := fun c ob q n hc hx => b.keep c ob (a.keep c ob q n hc hx) (a.free c ob q n hx) hc hx
  slot := fun c ob q n hc hx => by
    obtain ⟨sl, e1⟩ := a.slot c ob q n hc hx
    obtain ⟨sl', e2⟩ := b.slot c _ e1 (a.free c ob q n hx) hc hx
    exact ⟨sl', e2⟩
  free := fun c ob q n hx => by
    obtain ⟨o', e1⟩ := a.there c ob q hx
    exact b.free c o' e1 (a.free c ob q n hx) hx
  there := fun c ob q hx => by
    obtain ⟨o', e1⟩ := a.there c ob q hx
    exact b.there c o' e1 hx
  tups := fun c xs q => b.tups c xs (a.tups c xs q)
  frzs := fun c ob xs q => b.frzs c ob xs (a.frzs c ob xs q)
  tbls := fun c ps q => by
    obtain ⟨m1, e1⟩ := a.tbls c ps q
    obtain ⟨m2, e2⟩ := b.tbls c _ e1
    exact ⟨m1 ++ m2, by rw [e2, Array.append_assoc]⟩
theorem Un.kept (k : ∀ b u, h.get? b = some u → h'.get? b = some u) : Un fs ex H H h h' :=
  ⟨fun b ob q _ _ _ => k b ob q, fun b ob q _ _ _ => ⟨ob.slots, k b ob q⟩, fun _ _ _ n _ => n, fun b ob q _ => ⟨ob, k b ob q⟩, fun _ _ q => q, fun _ _ _ q => q, fun _ ps q => ⟨#[], by rw [q]; simp⟩⟩
theorem Un.refl : Un fs ex H H h h := Un.kept fun _ _ q => q
theorem Un.laid (k : ∀ b u, h.get? b = some u → h'.get? b = some u) (hp : h.objs.size ≤ a) (hn : H a = none) : Un fs ex H (upd H a o) h h' where
  keep := fun b u q _ _ _ => k b u q
  slot := fun b u q _ _ _ => ⟨u.slots, k b u q⟩
  free := fun b u q n _ => by rw [upd_ne (Nat.ne_of_lt (Nat.lt_of_lt_of_le (Heap.lt_size q) hp))]; exact n
  there := fun b u q _ => ⟨u, k b u q⟩
  tups := fun b xs q => by rw [upd_ne (ne_of_none q hn)]; exact q
  frzs := fun b u xs q => by rw [upd_ne (ne_of_none q hn)]; exact q
  tbls := fun b ps q => ⟨#[], by rw [upd_ne (ne_of_none q hn), q]; simp⟩
theorem Un.write (mu : Mut (H x)) (he : e = x ∨ H e = some (.own x)) (k : ∀ b u, b ≠ e → h.get? b = some u → h'.get? b = some u) (heo : ∃ u, h'.get? e = some u) : Un fs ex H (upd H x o) h h' := by
  have hx : ∀ b, H b = none → b ≠ x := fun b n z => by subst z; rw [n] at mu; exact mu
  have hb : ∀ b, H b = none → b ≠ e := fun b n z => by
    subst z
    rcases he with r | r
    · exact hx b n r
    · rw [n] at r; cases r
  have hm : ∀ b u, H b = some u → ¬ Mut (some u) → b ≠ x := fun b u q nm z => by subst z; rw [q] at mu; exact nm mu
  refine ⟨fun b u q n _ _ => k b u (hb b n) q, fun b u q n _ _ => ⟨u.slots, k b u (hb b n) q⟩, fun b u q n _ => by rw [upd_ne (hx b n)]; exact n, fun b u q _ => ?_,
    fun b xs q => by rw [upd_ne (hm b _ q fun z => z)]; exact q, fun b u xs q => by rw [upd_ne (hm b _ q fun z => z)]; exact q, fun b ps q => ⟨#[], by rw [upd_ne (hm b _ q fun z => z), q]; simp⟩⟩
  by_cases hbe : b = e
  · subst hbe; exact heo
  · exact ⟨u, k b u hbe q⟩
theorem Un.mono (u : Un fs ex H H1 h h1) (hs : ∀ b ∈ fs, b ∈ fs') (hx : ∀ b ∈ ex, b ∈ ex') : Un fs' ex' H H1 h h1 :=
  ⟨fun b ob q n hb he => u.keep b ob q n (fun z => hb (hs b z)) fun z => he (hx b z), fun _ _ q n _ he => u.any q n fun z => he (hx _ z), fun b ob q n he => u.free b ob q n fun z => he (hx b z), fun b ob q he => u.there b ob q fun z => he (hx b z), u.tups, u.frzs, u.tbls⟩
end

def trk (h : Heap) (H : Hp) : List Addr := (List.range h.objs.size).filter fun a => (H a).isSome
def hidT (h : Heap) (H : Hp) : Heap := PySem.W.hideAll h (trk h H)
theorem hidT_size (h : Heap) (H : Hp) : (hidT h H).objs.size = h.objs.size := PySem.W.hideAll_size _ _
theorem hidT_get {h : Heap} {H : Hp} {b : Addr} {o : Obj} (e : h.get? b = some o) (n : H b = none) : (hidT h H).get? b = some o :=
  PySem.W.hideAll_get _ e fun hm => by
    have q : (H b).isSome = true := (List.mem_filter.mp hm).2
    rw [n] at q; simp at q
theorem of_hidT {h : Heap} {H : Hp} {b : Addr} {o : Obj} (e : (hidT h H).get? b = some o) : h.get? b = some o ∧ H b = none := by
  have e' : h.get? b = some o := PySem.W.of_hideAll (trk h H) e
  refine ⟨e', ?_⟩
  cases q : H b with
  | none => rfl
  | some x =>
    have hm : b ∈ trk h H := List.mem_filter.mpr ⟨List.mem_range.mpr (Heap.lt_size e'), by simp [q]⟩
    have z : (hidT h H).get? b = none := PySem.W.hideAll_none (trk h H) hm
    rw [z] at e; cases e

def allNews (g h : Heap) (L : Addr) : List (Addr × Obj) := (List.range h.objs.size).filterMap fun a => if a = L ∨ (g.get? a).isSome = true then none else (h.get? a).map fun o => (a, o)
def rest (g h : Heap) (L d : Addr) : List (Addr × Obj) := (allNews g h L).filter fun p => decide (p.1 ≠ d)
end L2

namespace L2
open PySem PySem.Spec PyProof.Rows

structure Mod (K : PySem.W.Frag) (mg : Str → Option Value) (base : Heap) : Prop where
  kin : K.In base
  glob : base.Ns mainGlobals mg
  blt : ∃ mb, base.Ns builtinsNs mb ∧ ∀ x : Str, x ≠ "__name__" → mb x = bootBuiltins x
  nolimit : base.NoLimit

structure Cx where
  prog : Program
  w : World
  K : PySem.W.Frag
  mg : Str → Option Value
  base : Heap
  A : Around
  N : List Str
  s₀ : Shared
  H₀ : Hp
  env : Env
  outer : List Env
  stack : List Env
  ex : List Addr
  fn : Str → Bool
  calm : Bool
  pn : List (Addr × Obj)
  xe : Value → Shared → Prop
def frs (l : List Env) : List Addr := l.filterMap (·.frame)
abbrev Cx.fs (X : Cx) : List Addr := frs X.outer

def Vis (sc : Scope) (x : Str) : Prop := sc.names.lookup x = some .local ∨ sc.names.lookup x = some .cell ∨ sc.names.lookup x = some .free
def Loc (sc : Scope) (x : Str) : Prop := sc.names.lookup x = some .local ∨ sc.names.lookup x = some .cell
def Look (env : Env) (h : Heap) (m : Str → Option Value) (x : Str) (u : Value) : Prop :=
  (env.kindOf x = some .local ∧ m x = some u) ∨ ((env.kindOf x = some .cell ∨ env.kindOf x = some .free) ∧ ∃ c, env.cells.lookup x = some c ∧ h.IsCell c (some u))

structure Cx.Ok (X : Cx) : Prop where
  mod : Mod X.K X.mg X.base
  kind : X.env.scope.kind = .function
  glob : X.env.globals = mainGlobals
  blt : X.env.builtins = builtinsNs
  above : X.s₀.heap.objs.size ≤ X.env.locals
  inj : ∀ x y c, X.env.cells.lookup x = some c → X.env.cells.lookup y = some c → x = y
  has : ∀ x, (X.env.kindOf x = some .cell ∨ X.env.kindOf x = some .free) → ∃ c, X.env.cells.lookup x = some c
  cab : ∀ x c, X.fn x = true → X.env.cells.lookup x = some c → X.s₀.heap.objs.size ≤ c
  hd : X.calm = true → X.A.handled = none
  frames : X.A.frames = some X.stack
  stk : X.stack = X.outer ∨ (X.stack = X.env :: X.outer ∧ X.env.frame = some X.env.locals)
  exf : ∀ b ∈ X.ex, b ≠ X.env.locals ∧ ∀ x c, X.env.cells.lookup x = some c → c ≠ b
  bs : ∀ b o, X.base.get? b = some o → X.s₀.heap.get? b = some o ∧ X.H₀ b = none
  bsz : X.base.objs.size ≤ X.s₀.heap.objs.size
  noex : ∀ b o, X.base.get? b = some o → b ∉ X.ex
  exfs : ∀ b ∈ X.ex, b ∉ X.fs
  funs : X.s₀.heap.FunFrames X.base X.outer
  frf : ∀ b ∈ X.fs, X.H₀ b = none

structure Inv (X : Cx) (pins : List (Addr × Obj)) (σ : List (Option V)) (H : Hp) (s : Shared) : Prop where
  ok : X.Ok
  os : s.os = X.s₀.os
  bare : AllBare s.gens
  base : Un X.fs X.ex X.H₀ H X.s₀.heap s.heap
  loc : ∃ m, s.heap.Ns X.env.locals m ∧ ∀ (i : Nat) (x : Str) (v : V), X.N[i]? = some x → σ[i]? = some (some v) → Vis X.env.scope x → ∃ u, RelV v u ∧ Look X.env s.heap m x u
  cell : ∀ x c, X.env.cells.lookup x = some c → ∃ v, s.heap.IsCell c v
  free : H X.env.locals = none
  freeC : ∀ x c, X.env.cells.lookup x = some c → H c = none
  pin : ∀ p ∈ X.pn ++ pins, s.heap.get? p.1 = some p.2 ∧ H p.1 = none ∧ p.1 ≠ X.env.locals ∧ p.1 ∉ X.fs ∧ ∀ v, p.2.data ≠ .cell v
  hok : HOk X.prog X.w H s.heap
  len : σ.length = X.N.length

section
variable {X : Cx} {pins : List (Addr × Obj)} {σ : List (Option V)} {H H' : Hp} {s : Shared} {h' : Heap}

theorem Cx.Ok.nofr (ok : X.Ok) {b : Addr} {o : Obj} (e : X.base.get? b = some o) : b ∉ X.fs := fun hb => by
  have := (ok.funs.mem hb).1
  rw [e] at this; cases this
theorem Inv.bs (I : Inv X pins σ H s) : ∀ b o, X.base.get? b = some o → s.heap.get? b = some o ∧ H b = none := fun b o e =>
  ⟨I.base.keep b o (I.ok.bs b o e).1 (I.ok.bs b o e).2 (I.ok.nofr e) (I.ok.noex b o e), I.base.free b o (I.ok.bs b o e).1 (I.ok.bs b o e).2 (I.ok.noex b o e)⟩
theorem Inv.bk (I : Inv X pins σ H s) : ∀ b o, X.base.get? b = some o → s.heap.get? b = some o := fun b o e => (I.bs b o e).1
theorem Inv.mod (I : Inv X pins σ H s) : Mod X.K X.mg X.base := I.ok.mod
theorem Inv.kIn (I : Inv X pins σ H s) : X.K.In s.heap := I.ok.mod.kin.keeps I.bk
theorem Inv.nolimit (I : Inv X pins σ H s) : s.heap.NoLimit := I.ok.mod.nolimit.keeps I.bk
theorem Inv.fr (I : Inv X pins σ H s) : ∃ m, Fr X.base X.env.locals s.heap m :=
  let ⟨m, hn, _⟩ := I.loc
  ⟨m, hn, I.bk, Nat.le_trans I.ok.bsz I.ok.above⟩
theorem Inv.lt (I : Inv X pins σ H s) : X.env.locals < s.heap.objs.size := let ⟨_, hn, _⟩ := I.loc; hn.lt
theorem Inv.sz (I : Inv X pins σ H s) : X.s₀.heap.objs.size ≤ s.heap.objs.size := Nat.le_trans I.ok.above (Nat.le_of_lt I.lt)
theorem Inv.nofs (I : Inv X pins σ H s) {a : Addr} (h : s.heap.objs.size ≤ a) : a ∉ X.fs := fun hb => by
  obtain ⟨_, o, ho, _⟩ := I.ok.funs.mem hb
  exact absurd (Nat.lt_of_lt_of_le (Heap.lt_size ho) (Nat.le_trans I.sz h)) (Nat.lt_irrefl _)
theorem Inv.cne (I : Inv X pins σ H s) : ∀ x c, X.env.cells.lookup x = some c → c ≠ X.env.locals := fun x c e z => by
  obtain ⟨v, o, ho, hd⟩ := I.cell x c e
  obtain ⟨m, ⟨o', es, ep, ho', hd', _⟩, _⟩ := I.loc
  rw [z, ho'] at ho; cases ho; rw [hd'] at hd; cases hd
theorem Inv.funs (I : Inv X pins σ H s) : s.heap.FunFrames X.base X.outer := by
  have all : ∀ (l : List Env), (∀ b ∈ frs l, b ∈ X.fs) → X.s₀.heap.FunFrames X.base l → s.heap.FunFrames X.base l := by
    intro l
    induction l with
    | nil => intro _ _; trivial
    | cons env r ih =>
      intro hs hl
      obtain ⟨hk, ⟨L, o, hf, hn, ho, hd⟩, hr⟩ := hl
      have hL : L ∈ X.fs := hs L (by unfold frs; rw [List.filterMap_cons, hf]; exact List.mem_cons_self)
      obtain ⟨sl, e⟩ := I.base.slot L o ho (I.ok.frf L hL) hL fun z => I.ok.exfs L z hL
      exact ⟨hk, ⟨L, _, hf, hn, e, hd⟩, ih (fun b hb => hs b (by unfold frs; rw [List.filterMap_cons, hf]; exact List.mem_cons_of_mem _ hb)) hr⟩
  exact all X.outer (fun _ hb => hb) I.ok.funs

theorem Inv.stack (I : Inv X pins σ H s) : s.heap.FunFrames X.base X.stack := by
  rcases I.ok.stk with e | ⟨e, hf⟩
  · rw [e]; exact I.funs
  · rw [e]
    obtain ⟨m, hn, _⟩ := I.loc
    refine .cons (by rw [I.ok.kind]; decide) hf hn ?_ I.funs
    exact Heap.get?_none_of_le (Nat.le_trans I.ok.bsz I.ok.above)
theorem Inv.stkSub (I : Inv X pins σ H s) : ∀ b ∈ frs X.stack, b ∈ X.env.locals :: X.fs := fun b hb => by
  rcases I.ok.stk with e | ⟨e, hf⟩
  · rw [e] at hb; exact List.mem_cons_of_mem _ hb
  · rw [e] at hb
    unfold frs at hb
    rw [List.filterMap_cons, hf] at hb
    exact hb
theorem Inv.stkFree (I : Inv X pins σ H s) : ∀ b ∈ frs X.stack, H b = none := fun b hb => by
  rcases List.mem_cons.mp (I.stkSub b hb) with e | hb
  · rw [e]; exact I.free
  · obtain ⟨_, o, ho, _⟩ := I.ok.funs.mem hb
    exact I.base.free b o ho (I.ok.frf b hb) fun z => I.ok.exfs b z hb

theorem Inv.step {g' : Array GenState} {t' : Nat} {d' : Drawn} {ch : List Addr} (I : Inv X pins σ H s)
    (hch : ∀ b ∈ ch, (b ∈ X.ex ∨ X.s₀.heap.objs.size ≤ b) ∧ b ≠ X.env.locals ∧ (∀ x c, X.env.cells.lookup x = some c → c ≠ b) ∧ ∀ p ∈ X.pn ++ pins, p.1 ≠ b)
    (keep : ∀ b o, b ≠ X.env.locals → b ∉ X.fs → b ∉ ch → s.heap.get? b = some o → H b = none → h'.get? b = some o)
    (slot : ∀ b o, b ≠ X.env.locals → b ∈ X.fs → b ∉ ch → s.heap.get? b = some o → H b = none → ∃ sl, h'.get? b = some { o with slots := sl }) (free : ∀ b o, b ∉ ch → s.heap.get? b = some o → H b = none → H' b = none)
    (there : ∀ b o, b ∉ ch → s.heap.get? b = some o → ∃ o', h'.get? b = some o')
    (tups : ∀ b xs, H b = some (.tup xs) → H' b = some (.tup xs)) (frzs : ∀ b o u, H b = some (.frz o u) → H' b = some (.frz o u)) (tbls : ∀ b ps, H b = some (.tbl ps) → ∃ more, H' b = some (.tbl (ps ++ more)))
    (ns : ∀ m, s.heap.Ns X.env.locals m → h'.Ns X.env.locals m) (hok : HOk X.prog X.w H' h') (hg : AllBare g') :
    Inv X pins σ H' { s with heap := h', gens := g', drawn := d', toks := t' } := by
  have neL : ∀ b o, X.s₀.heap.get? b = some o → b ≠ X.env.locals := fun b o e => Nat.ne_of_lt (Nat.lt_of_lt_of_le (Heap.lt_size e) I.ok.above)
  have neC : ∀ b o, X.s₀.heap.get? b = some o → b ∉ X.ex → b ∉ ch := fun b o e hx hb => by
    rcases (hch b hb).1 with z | z
    · exact hx z
    · exact absurd (Nat.lt_of_lt_of_le (Heap.lt_size e) z) (Nat.lt_irrefl _)
  have cellK : ∀ x c, X.env.cells.lookup x = some c → ∀ v, s.heap.IsCell c v → h'.IsCell c v := fun x c e v ⟨o, ho, hd⟩ => by
    have nch : c ∉ ch := fun z => (hch c z).2.2.1 x c e rfl
    by_cases hc : c ∈ X.fs
    · obtain ⟨sl, q⟩ := slot c o (I.cne x c e) hc nch ho (I.freeC x c e)
      exact ⟨_, q, hd⟩
    · exact ⟨o, keep c o (I.cne x c e) hc nch ho (I.freeC x c e), hd⟩
  refine ⟨I.ok, I.os, hg, ⟨fun b o e n hb hx => ?_, fun b o e n hb hx => ?_, fun b o e n hx => ?_, fun b o e hx => ?_, fun b xs e => tups b xs (I.base.tups b xs e), fun b o xs e => frzs b o xs (I.base.frzs b o xs e), fun b ps e => ?_⟩, ?_, fun x c e => ?_, ?_, fun x c e => ?_, fun p hp => ?_, hok, I.len⟩
  · exact keep b o (neL b o e) hb (neC b o e hx) (I.base.keep b o e n hb hx) (I.base.free b o e n hx)
  · obtain ⟨sl, e1⟩ := I.base.slot b o e n hb hx
    obtain ⟨sl', e2⟩ := slot b _ (neL b o e) hb (neC b o e hx) e1 (I.base.free b o e n hx)
    exact ⟨sl', e2⟩
  · obtain ⟨o', e1⟩ := I.base.there b o e hx
    exact free b o' (neC b o e hx) e1 (I.base.free b o e n hx)
  · obtain ⟨o', e1⟩ := I.base.there b o e hx
    exact there b o' (neC b o e hx) e1
  · obtain ⟨m1, e1⟩ := I.base.tbls b ps e
    obtain ⟨m2, e2⟩ := tbls b _ e1
    exact ⟨m1 ++ m2, by rw [e2, Array.append_assoc]⟩
  · obtain ⟨m, hn, hl⟩ := I.loc
    refine ⟨m, ns m hn, fun i x v e1 e2 e3 => ?_⟩
    obtain ⟨u, r, l⟩ := hl i x v e1 e2 e3
    refine ⟨u, r, ?_⟩
    rcases l with l | ⟨k, c, e, z⟩
    · exact .inl l
    · exact .inr ⟨k, c, e, cellK x c e _ z⟩
  · obtain ⟨v, z⟩ := I.cell x c e
    exact ⟨v, cellK x c e v z⟩
  · obtain ⟨m, ⟨o, _, _, ho, _⟩, _⟩ := I.loc
    exact free _ o (fun z => (hch _ z).2.1 rfl) ho I.free
  · obtain ⟨v, o, ho, hd⟩ := I.cell x c e
    exact free c o (fun z => (hch c z).2.2.1 x c e rfl) ho (I.freeC x c e)
  · obtain ⟨e, n, ne, nf, d⟩ := I.pin p hp
    have nch : p.1 ∉ ch := fun z => (hch p.1 z).2.2.2 p hp rfl
    exact ⟨keep p.1 p.2 ne nf nch e n, free p.1 p.2 nch e n, ne, nf, d⟩
theorem Inv.un {t' : Nat} (I : Inv X pins σ H s) (u : Un X.fs [] H H' s.heap h') (hok : HOk X.prog X.w H' h') : Inv X pins σ H' { s with heap := h', toks := t' } := by
  obtain ⟨m, ⟨o, es, ep, ho, r⟩, _⟩ := id I.loc
  obtain ⟨sl, hL⟩ := u.any ho I.free (by simp)
  exact I.step (g' := s.gens) (d' := s.drawn) (ch := []) (fun _ z => nomatch z) (fun b o _ hb _ e n => u.keep b o e n hb (by simp)) (fun b o _ hb _ e n => u.slot b o e n hb (by simp)) (fun b o _ e n => u.free b o e n (by simp)) (fun b o _ e => u.there b o e (by simp)) u.tups u.frzs u.tbls (fun m' hm => by
    obtain ⟨o', es', ep', ho', r'⟩ := hm
    rw [ho] at ho'; cases ho'
    exact ⟨_, es', ep', hL, r'⟩) hok I.bare
theorem Inv.call {g' : Array GenState} {t' : Nat} {d' : Drawn} {ch : List Addr} (I : Inv X pins σ H s) (u : Un (frs X.stack) ch H H' s.heap h') (hok : HOk X.prog X.w H' h') (hg : AllBare g')
    (hch : ∀ b ∈ ch, (b ∈ X.ex ∨ X.s₀.heap.objs.size ≤ b) ∧ b ≠ X.env.locals ∧ (∀ x c, X.env.cells.lookup x = some c → c ≠ b) ∧ ∀ p ∈ X.pn ++ pins, p.1 ≠ b) :
    Inv X pins σ H' { s with heap := h', gens := g', drawn := d', toks := t' } := by
  obtain ⟨m, ⟨o, es, ep, ho, r⟩, _⟩ := id I.loc
  obtain ⟨sl, hL⟩ := u.any ho I.free fun z => (hch _ z).2.1 rfl
  exact I.step (ch := ch) hch (fun b o hL hb hc e n => u.keep b o e n (fun z => (List.mem_cons.mp (I.stkSub b z)).elim hL hb) hc) (fun b o _ _ hc e n => u.any e n hc) (fun b o hc e n => u.free b o e n hc) (fun b o hc e => u.there b o e hc) u.tups u.frzs u.tbls (fun m' hm => by
    obtain ⟨o', es', ep', ho', r'⟩ := hm
    rw [ho] at ho'; cases ho'
    exact ⟨_, es', ep', hL, r'⟩) hok hg
theorem Inv.turned {t' : Nat} {it : Addr} (I : Inv X pins σ H s) (k : ∀ b o, b ≠ it → s.heap.get? b = some o → h'.get? b = some o) (hn : H it = none) (hL : it ≠ X.env.locals)
    (h1 : it ∈ X.ex ∨ X.s₀.heap.objs.size ≤ it) (h2 : ∀ x c, X.env.cells.lookup x = some c → c ≠ it) (h3 : ∀ p ∈ X.pn ++ pins, p.1 ≠ it) : Inv X pins σ H { s with heap := h', toks := t' } := by
  have nit : ∀ b u, H b = some u → b ≠ it := fun b u e z => by rw [z, hn] at e; cases e
  refine I.step (g' := s.gens) (d' := s.drawn) (ch := [it]) (fun b hb => ?_) (fun b o _ _ hc e _ => k b o (fun z => hc (by simp [z])) e) (fun b o _ _ hc e _ => ⟨o.slots, k b o (fun z => hc (by simp [z])) e⟩) (fun _ _ _ _ n => n)
    (fun b o hc e => ⟨o, k b o (fun z => hc (by simp [z])) e⟩) (fun _ _ e => e) (fun _ _ _ e => e) (fun b ps e => ⟨#[], by rw [e]; simp⟩) (fun m hm => ?_) (fun b u e => ?_) I.bare
  · have e : b = it := by simpa using hb
    subst e
    exact ⟨h1, hL, h2, h3⟩
  · obtain ⟨o, es, ep, ho, r⟩ := hm
    exact ⟨o, es, ep, k _ o (Ne.symm hL) ho, r⟩
  · refine (I.hok b u e).stay (fun c v hc q => k c v ?_ q) (fun _ q => q) fun _ _ q => q
    rcases hc with z | z
    · rw [z]; exact nit b u e
    · exact nit c _ z
theorem Inv.tok (I : Inv X pins σ H s) (t : Nat) : Inv X pins σ H { s with toks := t } := I.un (h' := s.heap) (t' := t) Un.refl I.hok
theorem Inv.kept {t' : Nat} (I : Inv X pins σ H s) (k : ∀ b u, s.heap.get? b = some u → h'.get? b = some u) : Inv X pins σ H { s with heap := h', toks := t' } := I.un (Un.kept k) (I.hok.kept k)
theorem Inv.laid {a : Addr} {o : HO} {t' : Nat} (I : Inv X pins σ H s) (k : ∀ b u, s.heap.get? b = some u → h'.get? b = some u) (hp : s.heap.objs.size ≤ a) (new : ObjOk X.prog X.w (upd H a o) h' a o) :
    Inv X pins σ (upd H a o) { s with heap := h', toks := t' } := I.un (Un.laid k hp (I.hok.fresh hp)) (I.hok.laid k hp new)
theorem Inv.write {x e : Addr} {o : HO} {t' : Nat} (I : Inv X pins σ H s) (mu : Mut (H x)) (he : e = x ∨ H e = some (.own x)) (k : ∀ b u, b ≠ e → s.heap.get? b = some u → h'.get? b = some u) (heo : ∃ u, h'.get? e = some u)
    (new : ObjOk X.prog X.w (upd H x o) h' x o) : Inv X pins σ (upd H x o) { s with heap := h', toks := t' } := I.un (Un.write mu he k heo) (I.hok.write mu he k heo new)
theorem Inv.pins_of {pins' : List (Addr × Obj)} (I : Inv X pins σ H s) (h : ∀ p ∈ pins', s.heap.get? p.1 = some p.2 ∧ H p.1 = none ∧ p.1 ≠ X.env.locals ∧ p.1 ∉ X.fs ∧ ∀ v, p.2.data ≠ .cell v) : Inv X pins' σ H s :=
  ⟨I.ok, I.os, I.bare, I.base, I.loc, I.cell, I.free, I.freeC, fun p hp => (List.mem_append.mp hp).elim (fun z => I.pin p (List.mem_append_left _ z)) (h p), I.hok, I.len⟩

theorem nodup_ix {N : List Str} (hN : N.Nodup) {i j : Nat} {x : Str} (a : N[i]? = some x) (b : N[j]? = some x) : i = j := by
  obtain ⟨h1, e1⟩ := List.getElem?_eq_some_iff.mp a
  obtain ⟨h2, e2⟩ := List.getElem?_eq_some_iff.mp b
  exact (List.getElem_inj hN).mp (e1.trans e2.symm)

theorem store_ok2 {M : Model} {A : Around} {E : Value → Shared → Prop} {i : Nat} {x : Str} {v : V} {u : Value} {Q : Unit → Shared → Prop} (I : Inv X pins σ H s) (hN : X.N.Nodup) (hi : X.N[i]? = some x) (hx : Loc X.env.scope x) (r : RelV v u)
    (h : ∀ s', Inv X pins (σ.set i (some v)) H s' → (∃ a, Heap.SameBut a s.heap s'.heap ∧ (a = X.env.locals ∨ X.env.cells.lookup x = some a)) → Q () s') (hf : X.fn x = true ∨ X.env.scope.names.lookup x = some .local := by first | exact .inl rfl | exact .inr rfl | assumption) : wpAny M A (storeName X.env x u) Q E s := by
  obtain ⟨m, hn, hl⟩ := id I.loc
  have hcls : (X.env.scope.kind == .class || (X.env.scope.kind == .module && X.env.locals != X.env.globals)) = false := by rw [I.ok.kind]; rfl
  have hiσ : i < σ.length := by rw [I.len]; exact (List.getElem?_eq_some_iff.mp hi).1
  have cne := I.cne
  have tracked : ∀ {a : Addr} {h' : Heap}, (∃ o, s.heap.get? a = some o ∧ H a = none) → Heap.SameBut a s.heap h' → HOk X.prog X.w H h' := fun {a h'} ha hs b ob e => by
    obtain ⟨_, _, hfree⟩ := ha
    refine (I.hok b ob e).stay (fun c w' hc q => (hs.2 c ?_).trans q) (fun _ q => q) fun _ _ q => q
    rintro rfl
    rcases hc with rfl | hc
    · rw [hfree] at e; cases e
    · rw [hfree] at hc; cases hc
  rcases hx with hk | hk
  · refine wpAny_storeName_local hk hn (fun h' hn' hs => ?_) hcls
    obtain ⟨oL, _, _, hoL, _⟩ := id hn
    refine h _ ⟨I.ok, I.os, I.bare, ⟨fun b o e n hb hx => ?_, fun b o e n hb hx => ?_, I.base.free, fun b o e hx => ?_, I.base.tups, I.base.frzs, I.base.tbls⟩, ⟨_, hn', fun j y v' e1 e2 e3 => ?_⟩, fun y c e => ?_, I.free, I.freeC, fun p hp => ?_, tracked ⟨oL, hoL, I.free⟩ hs, by simpa using I.len⟩ ⟨_, hs, .inl rfl⟩
    · exact (hs.2 b (Nat.ne_of_lt (Nat.lt_of_lt_of_le (Heap.lt_size e) I.ok.above))).trans (I.base.keep b o e n hb hx)
    · obtain ⟨sl, e1⟩ := I.base.slot b o e n hb hx
      exact ⟨sl, (hs.2 b (Nat.ne_of_lt (Nat.lt_of_lt_of_le (Heap.lt_size e) I.ok.above))).trans e1⟩
    · obtain ⟨o', e1⟩ := I.base.there b o e hx
      exact ⟨o', (hs.2 b (Nat.ne_of_lt (Nat.lt_of_lt_of_le (Heap.lt_size e) I.ok.above))).trans e1⟩
    · by_cases hj : j = i
      · subst hj
        rw [hi] at e1; cases e1
        rw [List.getElem?_set_self hiσ] at e2
        cases e2
        exact ⟨u, r, .inl ⟨hk, by simp⟩⟩
      · rw [List.getElem?_set_ne (Ne.symm hj)] at e2
        obtain ⟨u', r', q⟩ := hl j y v' e1 e2 e3
        refine ⟨u', r', ?_⟩
        rcases q with ⟨k, e⟩ | ⟨k, c, e, z⟩
        · refine .inl ⟨k, ?_⟩
          have : y ≠ x := fun e => hj (nodup_ix hN e1 (e ▸ hi))
          simp [this, e]
        · exact .inr ⟨k, c, e, z.sameBut hs (cne y c e)⟩
    · obtain ⟨w', z⟩ := I.cell y c e
      exact ⟨w', z.sameBut hs (cne y c e)⟩
    · obtain ⟨e, n, ne, nf, d⟩ := I.pin p hp
      exact ⟨(hs.2 p.1 ne).trans e, n, ne, nf, d⟩
  · have hfn : X.fn x = true := by
      rcases hf with z | z
      · exact z
      · rw [z] at hk; cases hk
    obtain ⟨c, hc⟩ := I.ok.has x (.inl hk)
    obtain ⟨w', z⟩ := I.cell x c hc
    refine wpAny_storeName_cell I.ok.kind hk hc z (fun h' hc' hs => ?_)
    obtain ⟨oc, hoc, hocd⟩ := id z
    refine h { s with heap := h' } ⟨I.ok, I.os, I.bare, ⟨fun b o e n hb hx => ?_, fun b o e n hb hx => ?_, I.base.free, fun b o e hx => ?_, I.base.tups, I.base.frzs, I.base.tbls⟩, ⟨m, hn.sameBut hs (Ne.symm (cne x c hc)), fun j y v' e1 e2 e3 => ?_⟩, fun y c' e => ?_, I.free, I.freeC, fun p hp => ?_, tracked ⟨oc, hoc, I.freeC x c hc⟩ hs, by simpa using I.len⟩ ⟨c, hs, .inr hc⟩
    · exact (hs.2 b (Nat.ne_of_lt (Nat.lt_of_lt_of_le (Heap.lt_size e) (I.ok.cab x c hfn hc)))).trans (I.base.keep b o e n hb hx)
    · obtain ⟨sl, e1⟩ := I.base.slot b o e n hb hx
      exact ⟨sl, (hs.2 b (Nat.ne_of_lt (Nat.lt_of_lt_of_le (Heap.lt_size e) (I.ok.cab x c hfn hc)))).trans e1⟩
    · obtain ⟨o', e1⟩ := I.base.there b o e hx
      exact ⟨o', (hs.2 b (Nat.ne_of_lt (Nat.lt_of_lt_of_le (Heap.lt_size e) (I.ok.cab x c hfn hc)))).trans e1⟩
    · by_cases hj : j = i
      · subst hj
        rw [hi] at e1; cases e1
        rw [List.getElem?_set_self hiσ] at e2
        cases e2
        exact ⟨u, r, .inr ⟨.inl hk, c, hc, hc'⟩⟩
      · rw [List.getElem?_set_ne (Ne.symm hj)] at e2
        obtain ⟨u', r', q⟩ := hl j y v' e1 e2 e3
        refine ⟨u', r', ?_⟩
        rcases q with q | ⟨k, c', e, z'⟩
        · exact .inl q
        · refine .inr ⟨k, c', e, z'.sameBut hs ?_⟩
          rintro rfl
          exact hj (nodup_ix hN e1 (I.ok.inj _ _ _ e hc ▸ hi))
    · by_cases hcc : c' = c
      · subst hcc; exact ⟨_, hc'⟩
      · obtain ⟨w2, z2⟩ := I.cell y c' e
        exact ⟨w2, z2.sameBut hs hcc⟩
    · obtain ⟨e, n, ne, nf, d⟩ := I.pin p hp
      refine ⟨(hs.2 p.1 ?_).trans e, n, ne, nf, d⟩
      intro q
      rw [q, hoc] at e
      have q' : oc = p.2 := Option.some.inj e
      exact d w' (by rw [← q']; exact hocd)
theorem store_ok {M : Model} {A : Around} {E : Value → Shared → Prop} {i : Nat} {x : Str} {v : V} {u : Value} {Q : Unit → Shared → Prop} (I : Inv X pins σ H s) (hN : X.N.Nodup) (hi : X.N[i]? = some x) (hx : Loc X.env.scope x) (r : RelV v u)
    (h : ∀ s', Inv X pins (σ.set i (some v)) H s' → Q () s') (hf : X.fn x = true ∨ X.env.scope.names.lookup x = some .local := by first | exact .inl rfl | exact .inr rfl | assumption) : wpAny M A (storeName X.env x u) Q E s :=
  store_ok2 I hN hi hx r (fun s' I' _ => h s' I') hf
theorem Inv.call' {s' : Shared} {ch : List Addr} (I : Inv X pins σ H s) (ho : s'.os = s.os) (u : Un (frs X.stack) ch H H' s.heap s'.heap) (hok : HOk X.prog X.w H' s'.heap) (hg : AllBare s'.gens)
    (hch : ∀ b ∈ ch, (b ∈ X.ex ∨ X.s₀.heap.objs.size ≤ b) ∧ b ≠ X.env.locals ∧ (∀ x c, X.env.cells.lookup x = some c → c ≠ b) ∧ ∀ p ∈ X.pn ++ pins, p.1 ≠ b) : Inv X pins σ H' s' := by
  obtain ⟨h', g', d', t', o'⟩ := s'
  have e : o' = s.os := ho
  subst e
  exact I.call (g' := g') (t' := t') (d' := d') u hok hg hch
end

abbrev XK := Value → Option Addr → Hp → Prop
abbrev St := List (Option V)
abbrev VK := V → Hp → Prop
abbrev TE := St → Hp → VK → Prop
abbrev TT := St → Hp → (Bool → Hp → Prop) → Prop
abbrev TA := St → Hp → (List V → Hp → Prop) → Prop
structure Ends where
  nx : St → Hp → Prop
  rt : VK
  bk : St → Hp → Prop := fun _ _ => False
  ct : St → Hp → Prop := fun _ _ => False
abbrev TS := Ends → St → Hp → Prop

def EP (X : Cx) (pins : List (Addr × Obj)) (σ : St) (Q : VK) (u : Value) (s' : Shared) : Prop := ∃ v H', Inv X pins σ H' s' ∧ RelV v u ∧ Q v H'
def TP (X : Cx) (pins : List (Addr × Obj)) (σ : St) (Q : Bool → Hp → Prop) (b : Bool) (s' : Shared) : Prop := ∃ H', Inv X pins σ H' s' ∧ Q b H'
def AP (X : Cx) (pins : List (Addr × Obj)) (σ : St) (Q : List V → Hp → Prop) (us : List Value) (s' : Shared) : Prop := ∃ vs H', Inv X pins σ H' s' ∧ Vals vs us ∧ Q vs H'
def SP (X : Cx) (pins : List (Addr × Obj)) (D : Ends) (f : Flow) (s' : Shared) : Prop :=
  match f with
  | .next => ∃ σ' H', Inv X pins σ' H' s' ∧ D.nx σ' H'
  | .brk => ∃ σ' H', Inv X pins σ' H' s' ∧ D.bk σ' H'
  | .cont => ∃ σ' H', Inv X pins σ' H' s' ∧ D.ct σ' H'
  | .ret u => ∃ v σ' H', Inv X pins σ' H' s' ∧ RelV v u ∧ D.rt v H'

def PE (X : Cx) (e : Expr) (t : TE) : Prop :=
  ∀ (pins : List (Addr × Obj)) (s : Shared) (σ : St) (H : Hp) (Q : VK), Inv X pins σ H s → t σ H Q → wpAny (model X.prog X.w) X.A (eval e X.env) (EP X pins σ Q) X.xe s
def PT (X : Cx) (e : Expr) (t : TT) : Prop :=
  ∀ (pins : List (Addr × Obj)) (s : Shared) (σ : St) (H : Hp) (Q : Bool → Hp → Prop), Inv X pins σ H s → t σ H Q → wpAny (model X.prog X.w) X.A (isTrue e X.env (eval e X.env)) (TP X pins σ Q) X.xe s
def PW (X : Cx) (e : Expr) (t : TT) : Prop :=
  ∀ (whole : Sem Value) (pins : List (Addr × Obj)) (s : Shared) (σ : St) (H : Hp) (Q : Bool → Hp → Prop), Inv X pins σ H s → t σ H Q → wpAny (model X.prog X.w) X.A (isTrue e X.env whole) (TP X pins σ Q) X.xe s
theorem PW.pt {X : Cx} {e : Expr} {t : TT} (h : PW X e t) : PT X e t := h _
def PA (X : Cx) (es : List Expr) (t : TA) : Prop :=
  ∀ (pos : Pos) (pins : List (Addr × Obj)) (s : Shared) (σ : St) (H : Hp) (Q : List V → Hp → Prop), Inv X pins σ H s → t σ H Q → wpAny (model X.prog X.w) X.A (spliced (backTo pos (starEach es X.env))) (AP X pins σ Q) X.xe s
def PS (X : Cx) (st : Stmt) (t : TS) : Prop :=
  ∀ (pins : List (Addr × Obj)) (s : Shared) (σ : St) (H : Hp) (D : Ends), Inv X pins σ H s → t D σ H → wpAny (model X.prog X.w) X.A (exec st X.env) (SP X pins D) X.xe s
def PSs (X : Cx) (st : List Stmt) (t : TS) : Prop :=
  ∀ (pins : List (Addr × Obj)) (s : Shared) (σ : St) (H : Hp) (D : Ends), Inv X pins σ H s → t D σ H → wpAny (model X.prog X.w) X.A (execs st X.env) (SP X pins D) X.xe s
theorem thn {α : Type} {t : Sem α} {Q Q' : α → Shared → Prop} {M : Model} {A : Around} {E : Value → Shared → Prop} {s : Shared} (h : wpAny M A t Q E s) (hQ : ∀ a s, Q a s → Q' a s) : wpAny M A t Q' E s := wpAny_mono h hQ fun _ _ x => x
end L2

namespace L2
open PySem PySem.Spec PyProof.Rows
section
variable {X : Cx}

def tVar (i : Nat) : TE := fun σ H Q => ∃ v, σ[i]? = some (some v) ∧ Q v H
def tC (v : V) : TE := fun _ H Q => Q v H
theorem pe_var {i : Nat} {x : Str} {pos : Pos} (hN : X.N[i]? = some x) (hv : Vis X.env.scope x) (hd : (x == ("__debug__" : Str)) = false := by decide) (hcd : (x == ("__classdict__" : Str)) = false := by decide) : PE X (.Name x pos) (tVar i) := by
  intro pins s σ H Q I h
  obtain ⟨v, e, h⟩ := h
  obtain ⟨m, hn, hl⟩ := I.loc
  obtain ⟨u, r, l⟩ := hl i x v hN e hv
  have fin : EP X pins σ Q u s := ⟨v, H, I, r, h⟩
  rcases l with ⟨hk, hm⟩ | ⟨hk, c, hc, hcell⟩
  · exact wpAny_Name (wpAny_loadName_local I.ok.kind hk hn hm fin) hd
  · rcases hk with hk | hk
    · exact wpAny_Name (wpAny_loadName_cell I.ok.kind hk hc hcell fin) hd
    · exact wpAny_Name (wpAny_loadName_free I.ok.kind hk hc hcell fin hcd) hd
theorem pe_int {i j pos} : PE X (.Constant (.int i) j pos) (tC (.int i)) := fun _ _ _ H _ I h => wpAny_Constant_int ⟨.int i, H, I.tok _, ⟨_, rfl⟩, h⟩
theorem pe_bl {b j pos} : PE X (.Constant (.bool b) j pos) (tC (.bl b)) := fun _ _ _ H _ I h => Constant_bool ⟨.bl b, H, I, rfl, h⟩
theorem pe_non {j pos} : PE X (.Constant .none j pos) (tC .non) := fun _ _ _ H _ I h => Constant_none ⟨.non, H, I, rfl, h⟩
theorem pe_str {x j pos} : PE X (.Constant (.str x) j pos) (tC (.str x)) := fun _ _ _ H _ I h => Calls.Constant_str ⟨.str x, H, I.tok _, ⟨_, rfl⟩, h⟩

def Gl (X : Cx) (x : Str) : Prop := X.env.kindOf x = some .globalImplicit
theorem ld_glob {E : Value → Shared → Prop} {pins : List (Addr × Obj)} {s : Shared} {σ : St} {H : Hp} {x : Str} {u : Value} {pos : Pos} {Q : Value → Shared → Prop} (I : Inv X pins σ H s) (hg : Gl X x) (hm : X.mg x = some u) (h : Q u s)
    (hd : (x == ("__debug__" : Str)) = false := by decide) : wpAny (model X.prog X.w) X.A (eval (.Name x pos) X.env) Q E s :=
  Calls.Name_function_global I.ok.kind hg (Calls.loadGlobal_global (by rw [I.ok.glob]; exact I.mod.glob.keeps I.bk) hm h) hd
theorem ld_blt {E : Value → Shared → Prop} {pins : List (Addr × Obj)} {s : Shared} {σ : St} {H : Hp} {x : Str} {u : Value} {pos : Pos} {Q : Value → Shared → Prop} (I : Inv X pins σ H s) (hg : Gl X x) (hm : X.mg x = none) (hv : bootBuiltins x = some u) (h : Q u s)
    (hn : x ≠ "__name__" := by decide) (hd : (x == ("__debug__" : Str)) = false := by decide) : wpAny (model X.prog X.w) X.A (eval (.Name x pos) X.env) Q E s := by
  obtain ⟨mb, h1, h2⟩ := I.mod.blt
  exact Calls.Name_function_global I.ok.kind hg (Calls.loadGlobal_builtin (by rw [I.ok.glob]; exact I.mod.glob.keeps I.bk) hm (by rw [I.ok.blt]; exact h1.keeps I.bk) ((h2 x hn).trans hv) h) hd
theorem pe_bltn {x : Str} {v : V} {u : Value} {pos : Pos} (hg : Gl X x) (hm : X.mg x = none) (hv : bootBuiltins x = some u) (r : RelV v u) (hn : x ≠ "__name__" := by decide) (hd : (x == ("__debug__" : Str)) = false := by decide) : PE X (.Name x pos) (tC v) :=
  fun _ _ _ H _ I h => ld_blt I hg hm hv ⟨v, H, I, r, h⟩ hn hd

variable {a b : Expr} {ta tb : TE} {pos : Pos}
variable {tA tB' : TT} {rest : List Expr}
def tAnd (t u : TT) : TT := fun σ H Q => t σ H fun c H1 => if c = true then u σ H1 Q else Q false H1
def tOr (t u : TT) : TT := fun σ H Q => t σ H fun c H1 => if c = true then Q true H1 else u σ H1 Q
def tNot (t : TT) : TT := fun σ H Q => t σ H fun c H1 => Q (!c) H1
theorem pw_and1 (ha : PT X a tA) : PW X (.BoolOp .And [a] pos) tA := by
  intro wh pins s σ H Q I h
  refine isTrue_and (thn (ha pins s σ H Q I h) fun c s1 e => ?_)
  cases c with
  | true => exact isTrue_and_nil e
  | false => exact e
theorem pw_or1 (ha : PT X a tA) : PW X (.BoolOp .Or [a] pos) tA := by
  intro wh pins s σ H Q I h
  refine isTrue_or (thn (ha pins s σ H Q I h) fun c s1 e => ?_)
  cases c with
  | false => exact isTrue_or_nil e
  | true => exact e
theorem pw_and (ha : PT X a tA) (hb : PW X (.BoolOp .And (b :: rest) pos) tB') : PW X (.BoolOp .And (a :: b :: rest) pos) (tAnd tA tB') := by
  intro wh pins s σ H Q I h
  refine isTrue_and (thn (ha pins s σ H _ I h) fun c s1 ⟨H1, I1, q1⟩ => ?_)
  cases c with
  | true => exact hb wh pins s1 σ H1 Q I1 q1
  | false => exact ⟨H1, I1, q1⟩
theorem pw_or (ha : PT X a tA) (hb : PW X (.BoolOp .Or (b :: rest) pos) tB') : PW X (.BoolOp .Or (a :: b :: rest) pos) (tOr tA tB') := by
  intro wh pins s σ H Q I h
  refine isTrue_or (thn (ha pins s σ H _ I h) fun c s1 ⟨H1, I1, q1⟩ => ?_)
  cases c with
  | true => exact ⟨H1, I1, q1⟩
  | false => exact hb wh pins s1 σ H1 Q I1 q1
theorem pt_not (ha : PT X a tA) : PT X (.UnaryOp .Not a pos) (tNot tA) := by
  intro pins s σ H Q I h
  exact isTrue_not (ha pins s σ H (fun c H1 => Q (!c) H1) I h)
def tAndV (ta tb : TE) : TE := fun σ H Q => ta σ H fun x H1 => ∃ c, x = .bl c ∧ if c = true then tb σ H1 Q else Q (.bl false) H1
def tNotV (ta : TE) : TE := fun σ H Q => ta σ H fun x H1 => ∃ c, x = .bl c ∧ Q (.bl (!c)) H1
theorem pe_one {op} {t : TE} (h : PE X a t) : PE X (.BoolOp op [a] pos) t := fun pins s σ H Q I hw => BoolOp_one (h pins s σ H Q I hw)
theorem pe_and (ha : PE X a ta) (hb : PE X (.BoolOp .And (b :: rest) pos) tb) : PE X (.BoolOp .And (a :: b :: rest) pos) (tAndV ta tb) := by
  intro pins s σ H Q I h
  refine BoolOp_and (thn (ha pins s σ H _ I h) fun v s1 ⟨x, H1, I1, r1, q1⟩ => ?_)
  obtain ⟨c, rfl, q1⟩ := q1
  cases r1
  refine wpAny_truthy_bool ?_
  cases c with
  | true => exact hb pins s1 σ H1 Q I1 q1
  | false => exact ⟨.bl false, H1, I1, rfl, q1⟩
theorem pe_not (ha : PE X a ta) : PE X (.UnaryOp .Not a pos) (tNotV ta) := by
  intro pins s σ H Q I h
  refine UnaryOp_ (thn (ha pins s σ H _ I h) fun v s1 ⟨x, H1, I1, r1, q1⟩ => ?_)
  obtain ⟨c, rfl, q1⟩ := q1
  cases r1
  exact not_of (wpAny_truthy_bool ⟨.bl (!c), H1, I1, rfl, q1⟩)
def tIf (t : TT) (ta tb : TE) : TE := fun σ H Q => t σ H fun c H1 => if c = true then ta σ H1 Q else tb σ H1 Q
theorem pe_ifExp {c : Expr} (hc : PT X c tA) (ha : PE X a ta) (hb : PE X b tb) : PE X (.IfExp c a b pos) (tIf tA ta tb) := by
  intro pins s σ H Q I h
  refine wpAny_IfExp (thn (hc pins s σ H _ I h) fun d s1 ⟨H1, I1, q1⟩ => ?_)
  cases d with
  | true => exact ha pins s1 σ H1 Q I1 q1
  | false => exact hb pins s1 σ H1 Q I1 q1
end
end L2

namespace L2
open PySem PySem.Spec PyProof.Rows

def SqL (K : PySem.W.Frag) (H : Hp) (a : Addr) (xs : List V) : Prop :=
  Rd H a (.lst xs) ∨
    ∃ (o : Obj) (its : Array Value) (n : Nat), K.lookup a = some o ∧ o.cls = .type "list" ∧ o.dict = none ∧ o.data = .seq its n ∧ its.size ≤ sizeLine ∧ Vals xs its.toList
def SqT (K : PySem.W.Frag) (H : Hp) (a : Addr) (xs : List V) : Prop :=
  Rd H a (.tup xs) ∨
    ∃ (o : Obj) (its : Array Value) (n : Nat), K.lookup a = some o ∧ o.cls = .type "tuple" ∧ o.data = .seq its n ∧ its.size ≤ sizeLine ∧ Vals xs its.toList
def absV : Value → Option V
  | .none => some .non
  | .bool b => some (.bl b)
  | .int i _ => some (.int i)
  | .str x _ => some (.str x)
  | .bytes b _ => some (.byt b)
  | .float b _ => some (.flt b)
  | .ref a => some (.ref a)
  | .type n => some (.ty n)
  | _ => none
theorem RelV.abs {x : V} {u : Value} (r : RelV x u) : absV u = some x := by
  cases x with
  | non => cases r; rfl
  | bl _ => cases r; rfl
  | int _ => obtain ⟨t, rfl⟩ := r; rfl
  | str _ => obtain ⟨t, rfl⟩ := r; rfl
  | byt _ => obtain ⟨t, rfl⟩ := r; rfl
  | flt _ => obtain ⟨t, rfl⟩ := r; rfl
  | ref _ => cases r; rfl
  | ty _ => cases r; rfl
theorem RelV.inj {x y : V} {u : Value} (r : RelV x u) (q : RelV y u) : x = y := Option.some.inj (r.abs.symm.trans q.abs)
theorem Vals.inj : ∀ {xs ys : List V} {us : List Value}, Vals xs us → Vals ys us → xs = ys
  | _, _, _, .nil, .nil => rfl
  | _, _, _, .cons r t, .cons r' t' => by rw [r.inj r', Vals.inj t t']
section
variable {X : Cx} {pins : List (Addr × Obj)} {σ : St} {H : Hp} {s : Shared} {a : Addr} {xs ys : List V}
theorem SqL.of {K : PySem.W.Frag} (h : H a = some (.lst xs)) : SqL K H a xs := .inl (.inl h)
theorem SqT.of {K : PySem.W.Frag} (h : H a = some (.tup xs)) : SqT K H a xs := .inl (.inl h)
theorem Inv.list (I : Inv X pins σ H s) (h : SqL X.K H a xs) : ∃ its : List Value, Vals xs its ∧ PlainL s.heap a its.toArray ∧ xs.length ≤ sizeLine := by
  rcases h with h | ⟨o, its, n, hk, hc, hd, hs, hz, r⟩
  · obtain ⟨z, its, n, r, e⟩ := h.ok I.hok
    exact ⟨its, r, ⟨_, n, e, rfl, rfl, rfl⟩, z⟩
  · refine ⟨its.toList, r, ⟨o, n, I.kIn a o hk, hc, hd, by simpa using hs⟩, ?_⟩
    have e := r.length
    simp only [Array.length_toList] at e
    omega
theorem Inv.tuple (I : Inv X pins σ H s) (h : SqT X.K H a xs) : ∃ its : List Value, Vals xs its ∧ IsTup s.heap a its.toArray ∧ xs.length ≤ sizeLine := by
  rcases h with h | ⟨o, its, n, hk, hc, hs, hz, r⟩
  · obtain ⟨z, its, r, p⟩ := h.ok I.hok
    exact ⟨its, r, p, z⟩
  · refine ⟨its.toList, r, ⟨o, I.kIn a o hk, hc, n, by simpa using hs⟩, ?_⟩
    have e := r.length
    simp only [Array.length_toList] at e
    omega
theorem Inv.list_inj (I : Inv X pins σ H s) (h : SqL X.K H a xs) (h' : SqL X.K H a ys) : xs = ys := by
  obtain ⟨its, r, ⟨o, n, e, _, _, d⟩, _⟩ := I.list h
  obtain ⟨its', r', ⟨o', n', e', _, _, d'⟩, _⟩ := I.list h'
  rw [e] at e'; cases e'
  rw [d] at d'
  injection d' with d1 _
  have : its = its' := by simpa using congrArg Array.toList d1
  subst this
  exact r.inj r'
theorem Inv.tuple_inj (I : Inv X pins σ H s) (h : SqT X.K H a xs) (h' : SqT X.K H a ys) : xs = ys := by
  obtain ⟨its, r, ⟨o, e, _, n, d⟩, _⟩ := I.tuple h
  obtain ⟨its', r', ⟨o', e', _, n', d'⟩, _⟩ := I.tuple h'
  rw [e] at e'; cases e'
  rw [d] at d'
  injection d' with d1 _
  have : its = its' := by simpa using congrArg Array.toList d1
  subst this
  exact r.inj r'
end

abbrev Cx.wish (X : Cx) (E : Value → Shared → Prop) : Cx := { X with xe := E }
abbrev Cx.nox (X : Cx) : Cx := X.wish fun _ _ => False
theorem Cx.Ok.wish {X : Cx} (ok : X.Ok) (E : Value → Shared → Prop) : (X.wish E).Ok :=
  ⟨ok.mod, ok.kind, ok.glob, ok.blt, ok.above, ok.inj, ok.has, ok.cab, ok.hd, ok.frames, ok.stk, ok.exf, ok.bs, ok.bsz, ok.noex, ok.exfs, ok.funs, ok.frf⟩
theorem Cx.Ok.unwish {X : Cx} {E : Value → Shared → Prop} (ok : (X.wish E).Ok) : X.Ok :=
  ⟨ok.mod, ok.kind, ok.glob, ok.blt, ok.above, ok.inj, ok.has, ok.cab, ok.hd, ok.frames, ok.stk, ok.exf, ok.bs, ok.bsz, ok.noex, ok.exfs, ok.funs, ok.frf⟩
section
variable {X : Cx} {pins : List (Addr × Obj)} {σ : St} {H : Hp} {s : Shared} {E : Value → Shared → Prop}
theorem Inv.wish (I : Inv X pins σ H s) (E : Value → Shared → Prop) : Inv (X.wish E) pins σ H s := ⟨I.ok.wish E, I.os, I.bare, I.base, I.loc, I.cell, I.free, I.freeC, I.pin, I.hok, I.len⟩
theorem Inv.unwish (I : Inv (X.wish E) pins σ H s) : Inv X pins σ H s := ⟨I.ok.unwish, I.os, I.bare, I.base, I.loc, I.cell, I.free, I.freeC, I.pin, I.hok, I.len⟩
theorem SP.unwish {D : Ends} {f : Flow} {s' : Shared} (h : SP (X.wish E) pins D f s') : SP X pins D f s' := by
  cases f with
  | next => obtain ⟨σ', H', I, q⟩ := h; exact ⟨σ', H', I.unwish, q⟩
  | brk => obtain ⟨σ', H', I, q⟩ := h; exact ⟨σ', H', I.unwish, q⟩
  | cont => obtain ⟨σ', H', I, q⟩ := h; exact ⟨σ', H', I.unwish, q⟩
  | ret u => obtain ⟨v, σ', H', I, r, q⟩ := h; exact ⟨v, σ', H', I.unwish, r, q⟩
theorem PE.nox {e : Expr} {t : TE} (h : PE X.nox e t) : PE X e t := fun pins s σ H Q I hw =>
  wpAny_mono (h pins s σ H Q (I.wish _) hw) (fun _ _ ⟨v, H', I', r, q⟩ => ⟨v, H', I'.unwish, r, q⟩) fun _ _ z => False.elim z
theorem PT.nox {e : Expr} {t : TT} (h : PT X.nox e t) : PT X e t := fun pins s σ H Q I hw =>
  wpAny_mono (h pins s σ H Q (I.wish _) hw) (fun _ _ ⟨H', I', q⟩ => ⟨H', I'.unwish, q⟩) fun _ _ z => False.elim z
theorem PSs.nox {st : List Stmt} {t : TS} (h : PSs X.nox st t) : PSs X st t := fun pins s σ H D I hw =>
  wpAny_mono (h pins s σ H D (I.wish _) hw) (fun _ _ q => q.unwish) fun _ _ z => False.elim z
end

section
variable {X : Cx} {st : Stmt} {rest : List Stmt} {t u : TS} {e : Expr} {te : TE} {pos : Pos}
def tNext : TS := fun D σ H => D.nx σ H
def tSeq (t u : TS) : TS := fun D σ H => t { D with nx := u D } σ H
theorem pss_nil : PSs X [] tNext := fun _ _ σ H _ I h => wpAny_execs_nil ⟨σ, H, I, h⟩
theorem pss_cons (h1 : PS X st t) (h2 : PSs X rest u) : PSs X (st :: rest) (tSeq t u) := by
  intro pins s σ H D I h
  refine wpAny_execs_cons (thn (h1 pins s σ H { D with nx := u D } I h) fun f s1 q => ?_)
  cases f with
  | next =>
    obtain ⟨σ', H', I', q⟩ := q
    exact h2 pins s1 σ' H' D I' q
  | ret v => exact q
  | brk => exact q
  | cont => exact q
theorem pss_one (h1 : PS X st t) : PSs X [st] t := by
  intro pins s σ H D I h
  refine wpAny_execs_cons (thn (h1 pins s σ H D I h) fun f s1 q => ?_)
  cases f with
  | next => exact wpAny_execs_nil q
  | ret v => exact q
  | brk => exact q
  | cont => exact q
theorem Inv.quiet {pins : List (Addr × Obj)} {σ : St} {H : Hp} {s : Shared} (I : Inv X pins σ H s) : interactive X.env = false := by simp [interactive, I.ok.kind]
def tDrop (te : TE) : TS := fun D σ H => te σ H fun _ H1 => D.nx σ H1
theorem ps_expr (he : PE X e te) (hs : swapsWith e none pos.line X.env = pure false := by rfl) : PS X (.Expr e pos) (tDrop te) := by
  intro pins s σ H D I h
  exact wpAny_Expr_any (thn (he pins s σ H _ I h) fun v s1 ⟨x, H1, I1, r1, q1⟩ => ⟨σ, H1, I1, q1⟩) I.quiet hs
def tRet (te : TE) : TS := fun D σ H => te σ H D.rt
theorem ps_ret (he : PE X e te) : PS X (.Return (some e) pos) (tRet te) := by
  intro pins s σ H D I h
  exact wpAny_Return_some (thn (he pins s σ H _ I h) fun v s1 ⟨x, H1, I1, r1, q1⟩ => ⟨x, σ, H1, I1, r1, q1⟩)
def tIfS (c : TT) (t u : TS) : TS := fun D σ H => c σ H fun b H1 => if b = true then t D σ H1 else u D σ H1
theorem ps_if {c : Expr} {a b : List Stmt} {tc : TT} (hc : PT X c tc) (ha : PSs X a t) (hb : PSs X b u) : PS X (.If c a b pos) (tIfS tc t u) := by
  intro pins s σ H D I h
  refine wpAny_If (thn (hc pins s σ H _ I h) fun d s1 ⟨H1, I1, q1⟩ => ?_)
  cases d with
  | true => exact ha pins s1 σ H1 D I1 q1
  | false => exact hb pins s1 σ H1 D I1 q1
def tNever : TS := fun _ _ _ => False
theorem pss_never {sts : List Stmt} : PSs X sts tNever := fun _ _ _ _ _ _ h => h.elim
end

abbrev TG := V → St → Hp → (St → Hp → Prop) → Prop
abbrev TGs := List V → St → Hp → (St → Hp → Prop) → Prop
def PG (X : Cx) (target : Expr) (t : TG) : Prop :=
  ∀ (pins : List (Addr × Obj)) (s : Shared) (σ : St) (H : Hp) (v : V) (u : Value) (Q : St → Hp → Prop), Inv X pins σ H s → RelV v u → t v σ H Q →
    wpAny (model X.prog X.w) X.A (assign target X.env u) (fun _ s' => ∃ σ' H', Inv X pins σ' H' s' ∧ Q σ' H') X.xe s
def PGs (X : Cx) (ts : List Expr) (t : TGs) : Prop :=
  ∀ (pins : List (Addr × Obj)) (s : Shared) (σ : St) (H : Hp) (vs : List V) (us : List Value) (Q : St → Hp → Prop), Inv X pins σ H s → Vals vs us → t vs σ H Q →
    wpAny (model X.prog X.w) X.A (assignInOrder ((assignEach ts X.env).map (·.2)) us) (fun _ s' => ∃ σ' H', Inv X pins σ' H' s' ∧ Q σ' H') X.xe s
abbrev TSet := V → V → V → Hp → (Hp → Prop) → Prop
def PSet (X : Cx) (t : TSet) : Prop :=
  ∀ (pins : List (Addr × Obj)) (s : Shared) (σ : St) (H : Hp) (o i v : V) (ov iv u : Value) (Q : Hp → Prop), Inv X pins σ H s → RelV o ov → RelV i iv → RelV v u → t o i v H Q →
    wpAny (model X.prog X.w) X.A (setItem ov iv u) (fun _ s' => ∃ H', Inv X pins σ H' s' ∧ Q H') X.xe s
section
variable {X : Cx} {pos : Pos}
def gName (i : Nat) : TG := fun v σ H Q => Q (σ.set i (some v)) H
theorem pg_name {i : Nat} {x : Str} (hN : X.N.Nodup) (hi : X.N[i]? = some x) (hx : Loc X.env.scope x) (hf : X.fn x = true ∨ X.env.scope.names.lookup x = some .local := by first | exact .inl rfl | exact .inr rfl | assumption) : PG X (.Name x pos) (gName i) := by
  intro pins s σ H v u Q I r h
  exact wpAny_assign_Name (store_ok I hN hi hx r (fun s' I' => ⟨_, H, I', h⟩) hf)
def gNil : TGs := fun vs σ H Q => vs = [] ∧ Q σ H
def gCons (t : TG) (u : TGs) : TGs := fun vs σ H Q => ∃ v r, vs = v :: r ∧ t v σ H fun σ' H' => u r σ' H' Q
theorem pgs_nil : PGs X [] gNil := by
  intro pins s σ H vs us Q I r h
  obtain ⟨e, h⟩ := h
  subst e
  cases r
  exact assignInOrder_nil ⟨σ, H, I, h⟩
theorem pgs_cons {e : Expr} {es : List Expr} {t : TG} {u : TGs} (h1 : PG X e t) (h2 : PGs X es u)
    (hs : (assignEach (e :: es) X.env).map (·.2) = assign e X.env :: (assignEach es X.env).map (·.2) := by rfl) : PGs X (e :: es) (gCons t u) := by
  intro pins s σ H vs us Q I r h
  obtain ⟨v, vr, e1, h⟩ := h
  subst e1
  cases r with
  | cons r rr =>
    rw [hs]
    refine assignInOrder_cons (thn (h1 pins s σ H _ _ _ I r h) fun _ s1 ⟨σ1, H1, I1, q1⟩ => ?_)
    exact h2 pins s1 σ1 H1 _ _ Q I1 rr q1
def gTup (K : PySem.W.Frag) (n : Nat) (t : TGs) : TG := fun v σ H Q => ∃ a xs, v = .ref a ∧ SqT K H a xs ∧ xs.length = n ∧ t xs σ H Q
theorem pg_tup {es : List Expr} {k : Nat} {t : TGs} {n : Nat} (hc : X.calm = true) (h : PGs X es t)
    (hn : (assignEach es X.env).length = n := by rfl) (hst : (assignEach es X.env).findIdx? (·.1) = none := by rfl) : PG X (.Tuple es k pos) (gTup X.K n t) := by
  intro pins s σ H v u Q I r hw
  obtain ⟨a, xs, e1, hq, hl, hw⟩ := hw
  subst e1
  cases r
  obtain ⟨its, rv, ht, hz⟩ := I.tuple hq
  refine assign_Tuple_tuple (I.ok.hd hc) ht (by simp [hn, ← hl, rv.length]) hst fun h' hx => ?_
  have I1 : Inv X pins σ H { s with heap := h' } := I.kept (t' := s.toks) fun b o e => hx b o (Nat.ne_of_lt (Heap.lt_size e)) e
  exact h pins _ σ H xs _ Q I1 (by simpa using rv) hw
def gSub (to ti : TE) (t : TSet) : TG := fun v σ H Q => to σ H fun o H1 => ti σ H1 fun i H2 => t o i v H2 fun H3 => Q σ H3
theorem pg_sub {o i : Expr} {to ti : TE} {t : TSet} (ho : PE X o to) (hi : PE X i ti) (hs : PSet X t)
    (ha : ∀ v, assign (.Subscript o i pos) X.env v = (do
      let ov ← holding [v] (eval o X.env)
      let iv ← holding [v, ov] (eval i X.env)
      standAt pos
      holding [v, ov, iv] (setItem ov iv v)
      release [v, ov, iv] []) := by intro _; rfl) : PG X (.Subscript o i pos) (gSub to ti t) := by
  intro pins s σ H v u Q I r h
  rw [ha]
  refine wpAny_bind (wpAny_holding (thn (ho pins s σ H _ I h) fun ov s1 ⟨x, H1, I1, r1, q1⟩ => ?_))
  refine wpAny_bind (wpAny_holding (thn (hi pins s1 σ H1 _ I1 q1) fun iv s2 ⟨y, H2, I2, r2, q2⟩ => ?_))
  refine wpAny_bind (wpAny_standAt (wpAny_bind (wpAny_holding (thn (hs pins s2 σ H2 x y v ov iv u _ I2 r1 r2 r q2) fun _ s3 ⟨H3, I3, q3⟩ => ?_))))
  exact wpAny_release ⟨σ, H3, I3, q3⟩
def tAsg (te : TE) (g : TG) : TS := fun D σ H => te σ H fun x H1 => g x σ H1 D.nx
theorem ps_asg {tg e : Expr} {te : TE} {g : TG} (he : PE X e te) (hg : PG X tg g) (hs : swapsWithSole [tg] e pos.line X.env = pure false := by rfl) (hw : swappedStores [tg] e X.env = pure none := by rfl)
    (h1 : (assignEach [tg] X.env).map (·.2) = [assign tg X.env] := by rfl) : PS X (.Assign [tg] e pos) (tAsg te g) := by
  intro pins s σ H D I h
  refine wpAny_Assign_stores (thn (he pins s σ H _ I h) fun v s1 ⟨x, H1, I1, r1, q1⟩ => ?_) hs hw
  rw [h1]
  exact thn (hg pins s1 σ H1 x v _ I1 r1 q1) fun _ s2 q => q
theorem ps_set {i : Nat} {x : Str} {e : Expr} {te : TE} {pos' : Pos} (hN : X.N.Nodup) (hi : X.N[i]? = some x) (hx : Loc X.env.scope x) (he : PE X e te) (hs : swapsWith e (some (.Name x pos')) pos.line X.env = pure false := by rfl) (hf : X.fn x = true ∨ X.env.scope.names.lookup x = some .local := by first | exact .inl rfl | exact .inr rfl | assumption) :
    PS X (.Assign [.Name x pos'] e pos) (tAsg te (gName i)) := by
  intro pins s σ H D I h
  refine wpAny_Assign_Name (thn (he pins s σ H _ I h) fun v s1 ⟨y, H1, I1, r1, q1⟩ => ?_) hs
  exact store_ok I1 hN hi hx r1 (fun s2 I2 => ⟨_, H1, I2, q1⟩) hf
def tPar (i j : Nat) (ta : TA) : TS := fun D σ H => ta σ H fun vs H1 => ∃ v w, vs = [v, w] ∧ D.nx ((σ.set i (some v)).set j (some w)) H1
theorem ps_par {i j : Nat} {x y : Str} {a b : Expr} {ta : TA} {px py pt : Pos} {kt k2 pt2} (hc : X.calm = true) (hN : X.N.Nodup) (hi : X.N[i]? = some x) (hj : X.N[j]? = some y) (hij : i ≠ j)
    (hx : X.env.scope.names.lookup x = some .local) (hy : X.env.scope.names.lookup y = some .local) (ha : PA X [a, b] ta)
    (hw : swappedStores [.Tuple [.Name x px, .Name y py] kt pt] (.Tuple [a, b] k2 pt2) X.env = pure (some [x, y]))
    (hs : swapsWithSole [.Tuple [.Name x px, .Name y py] kt pt] (.Tuple [a, b] k2 pt2) pos.line X.env = pure false := by rfl) :
    PS X (.Assign [.Tuple [.Name x px, .Name y py] kt pt] (.Tuple [a, b] k2 pt2) pos) (tPar i j ta) := by
  intro pins s σ H D I h
  rw [exec_Assign_arm]
  refine wpAny_bind (wpAny_standAt ?_)
  rw [hs]
  refine wpAny_bind (wpAny_pure ?_)
  rw [if_neg (by decide)]
  refine wpAny_bind (Tuple_ (thn (ha _ pins s σ H _ I h) fun us s1 ⟨vs, H1, I1, r1, q1⟩ => ?_))
  obtain ⟨v, w, e1, q1⟩ := q1
  subst e1
  obtain ⟨u1, u2, rfl, rv, rw'⟩ : ∃ u1 u2, us = [u1, u2] ∧ RelV v u1 ∧ RelV w u2 := by
    cases r1 with
    | cons p q =>
      cases q with
      | cons p' q' =>
        cases q'
        exact ⟨_, _, rfl, p, p'⟩
  refine wpAny_newObj_type ?_ (by show 2 ≤ sizeLine; decide)
  have I2 : Inv X pins σ H1 { s1 with heap := s1.heap.push { cls := .type "tuple", data := .seq [u1, u2].toArray } } := I1.kept (t' := s1.toks) fun b o e => Heap.get?_push_of_some _ e
  rw [hw]
  refine wpAny_bind (wpAny_pure ?_)
  show wpAny (model X.prog X.w) X.A (do rule "assign.swapped-stores"; let items ← unpackItems (.ref s1.heap.objs.size) 2 none; assignInOrder [fun v => bindName X.env y v, fun v => bindName X.env x v] items.reverse; pure Flow.next) _ _ _
  refine wpAny_bind (wpAny_rule (wpAny_bind (unpackItems_tuple (items := #[u1, u2]) (I.ok.hd hc) (IsTup.new s1.heap _) fun h' hx' => ?_)))
  have I3 := I2.kept (h' := h') (t' := s1.toks) fun b o e => hx' b o (Nat.ne_of_lt (Heap.lt_size e)) e
  show wpAny _ _ (assignInOrder [fun v => bindName X.env y v, fun v => bindName X.env x v] [u2, u1] >>= fun _ => pure Flow.next) _ _ _
  refine wpAny_bind (assignInOrder_cons (wpAny_bindName (store_ok I3 hN hj (.inl hy) rw' (fun s2 I4 => ?_) (.inr hy))))
  refine assignInOrder_cons (wpAny_bindName (store_ok I4 hN hi (.inl hx) rv (fun s3 I5 => assignInOrder_nil (wpAny_pure ?_)) (.inr hx)))
  rw [List.set_comm _ _ (Ne.symm hij)] at I5
  exact ⟨_, H1, I5, q1⟩
end

section
variable {X : Cx} {pos : Pos}
def tWhile (c : TT) (tb : TS) : TS := fun D σ H => ∃ W : Nat → St → Hp → Prop, (∃ m, W m σ H) ∧ ∀ m σ H, W m σ H →
  c σ H fun b H1 => if b = true then ∃ N : St → Hp → Prop, (∀ σ' H', N σ' H' → ∃ m', m' < m ∧ W m' σ' H') ∧ tb { D with nx := N, ct := N, bk := D.nx } σ H1 else D.nx σ H1
theorem ps_while {c : Expr} {body : List Stmt} {tc : TT} {tb : TS} (hp : PassesOwn (model X.prog X.w) X.A X.env X.xe) (hc : PT X c tc) (hb : PSs X body tb) : PS X (.While c body [] pos) (tWhile tc tb) := by
  intro pins s σ H D I h
  obtain ⟨W, ⟨m0, w0⟩, turn⟩ := h
  refine wpAny_While (codeAny_whileLoop (fun n s' => ∃ σ' H', Inv X pins σ' H' s' ∧ W n σ' H') ?_ m0 ⟨σ, H, I, w0⟩)
  rintro n s1 ⟨σ1, H1, I1, w1⟩
  refine wpAny_passesOwn hp (thn (hc pins s1 σ1 H1 _ I1 (turn n σ1 H1 w1)) fun b s2 ⟨H2, I2, q2⟩ => ?_)
  cases b with
  | true =>
    obtain ⟨N, hN, q2⟩ := q2
    rw [if_pos rfl]
    refine wpAny_passesOwn hp (thn (hb pins s2 σ1 H2 _ I2 q2) fun f s3 q3 => ?_)
    cases f with
    | next =>
      obtain ⟨σ3, H3, I3, n3⟩ := q3
      obtain ⟨m', hm, w3⟩ := hN σ3 H3 n3
      exact ⟨m', hm, σ3, H3, I3, w3⟩
    | cont =>
      obtain ⟨σ3, H3, I3, n3⟩ := q3
      obtain ⟨m', hm, w3⟩ := hN σ3 H3 n3
      exact ⟨m', hm, σ3, H3, I3, w3⟩
    | brk => exact q3
    | ret v => exact q3
  | false =>
    rw [if_neg Bool.false_ne_true]
    exact wpAny_execs_nil ⟨σ1, H2, I2, q2⟩
end

structure It where
  go : Nat → Hp → Prop
  yld : Nat → Hp → V → Hp → Prop
  stop : Nat → Hp → Prop
def FpOk (X : Cx) (pins : List (Addr × Obj)) (H : Hp) (b : Addr) : Prop :=
  H b = none ∧ b ≠ X.env.locals ∧ b ∉ X.fs ∧ (b ∈ X.ex ∨ X.s₀.heap.objs.size ≤ b) ∧ (∀ x c, X.env.cells.lookup x = some c → c ≠ b) ∧ ∀ p ∈ X.pn ++ pins, p.1 ≠ b
theorem Inv.fpOk {X : Cx} {pins : List (Addr × Obj)} {σ : St} {H H' : Hp} {s : Shared} {b : Addr} (I : Inv X pins σ H s) (hb : s.heap.objs.size ≤ b) (hn : H' b = none) : FpOk X pins H' b := by
  refine ⟨hn, Nat.ne_of_gt (Nat.lt_of_lt_of_le I.lt hb), I.nofs hb, .inr (Nat.le_trans I.sz hb), fun x c e z => ?_, fun p hp z => ?_⟩
  · obtain ⟨v, q⟩ := I.cell x c e
    exact absurd (Nat.lt_of_lt_of_le q.lt (by rw [z]; exact hb)) (Nat.lt_irrefl _)
  · exact absurd (Nat.lt_of_lt_of_le (Heap.lt_size (I.pin p hp).1) (by rw [z]; exact hb)) (Nat.lt_irrefl _)
structure Turn (P : Program) (w : World) (K : PySem.W.Frag) (tg : Expr) (J : It) (fp : List Addr) (it : Addr) (tn : Nat → Heap → Prop) : Prop where
  mem : it ∈ fp
  obj : ∀ i h, tn i h → ∀ b ∈ fp, ∃ o, h.get? b = some o ∧ ∀ v, o.data ≠ .cell v
  keep : ∀ i h h', tn i h → (∀ b ∈ fp, ∀ o, h.get? b = some o → h'.get? b = some o) → tn i h'
  item : ∀ (X : Cx), X.prog = P → X.w = w → X.K = K → X.calm = true → ∀ (i : Nat) (pins : List (Addr × Obj)) (s : Shared) (σ : St) (H : Hp) (E : Value → Shared → Prop), Inv X pins σ H s → (∀ b ∈ fp, FpOk X pins H b) → tn i s.heap → J.go i H →
    wpAny (model P w) X.A (pyNext (.ref it)) (fun r s1 => ∃ u, r = some u ∧
      wpAny (model P w) X.A (letOwnedTupleGo tg (.ref it) u) (fun _ s2 => ∃ x H', Inv X pins σ H' s2 ∧ RelV x u ∧ J.yld i H x H' ∧ tn (i + 1) s2.heap ∧ ∀ b ∈ fp, H' b = none) E s1) E s
  done : ∀ (X : Cx), X.prog = P → X.w = w → X.K = K → X.calm = true → ∀ (i : Nat) (pins : List (Addr × Obj)) (s : Shared) (σ : St) (H : Hp) (E : Value → Shared → Prop), Inv X pins σ H s → (∀ b ∈ fp, FpOk X pins H b) → tn i s.heap → J.stop i H →
    wpAny (model P w) X.A (pyNext (.ref it)) (fun r s1 => r = none ∧ Inv X pins σ H s1) E s
  self : ∀ (A : Around) (i : Nat) (s : Shared) (Q : Value → Shared → Prop) (E : Value → Shared → Prop), tn i s.heap → Q (.ref it) s → wpAny (model P w) A (pyIter (.ref it)) Q E s
abbrev TI := St → Hp → (It → Hp → Prop) → Prop
def PIE (X : Cx) (pins : List (Addr × Obj)) (σ : St) (tg : Expr) (R : It → Hp → Prop) (itv : Value) (s2 : Shared) : Prop :=
  ∃ (it : Addr) (fp : List Addr) (tn : Nat → Heap → Prop) (J : It) (H' : Hp), itv = .ref it ∧ Inv X pins σ H' s2 ∧ Turn X.prog X.w X.K tg J fp it tn ∧ tn 0 s2.heap ∧ (∀ b ∈ fp, FpOk X pins H' b) ∧ R J H'
def PI (X : Cx) (tg iter : Expr) (wi : TI) : Prop :=
  ∀ (pins : List (Addr × Obj)) (s : Shared) (σ : St) (H : Hp) (R : It → Hp → Prop), Inv X pins σ H s → wi σ H R →
    wpAny (model X.prog X.w) X.A (eval iter X.env) (fun v s1 => wpAny (model X.prog X.w) X.A (pyIter v) (PIE X pins σ tg R) X.xe s1) X.xe s

theorem go_of {M : Model} {A : Around} {E : Value → Shared → Prop} {s : Shared} {tg : Expr} {it : Addr} {u : Value} {o : Obj} {n : String} {vs : Array Value} {Q : Unit → Shared → Prop} (ho : s.heap.get? it = some o) (hc : o.cls = .type n) (hd : o.data = .fields vs)
    (hn : ["enumerate", "zip", "dict_itemiterator", "dict_reverseitemiterator", "odict_iterator", "itertools.zip_longest", "itertools.pairwise"].contains n = false) (hQ : Q () s) : wpAny M A (letOwnedTupleGo tg (.ref it) u) Q E s := by
  unfold letOwnedTupleGo
  cases tg <;> first
    | exact wpAny_pure hQ
    | (cases u <;> first
        | exact wpAny_pure hQ
        | (refine wpAny_bind (wpAny_load ho ?_)
           rw [hc, hd]
           show wpAny M A (if (["enumerate", "zip", "dict_itemiterator", "dict_reverseitemiterator", "odict_iterator", "itertools.zip_longest", "itertools.pairwise"].contains n && vs[0]? == some (rawInt _)) = true then _ else _) Q E s
           rw [if_neg (by intro h; rw [hn, Bool.false_and] at h; cases h)]
           exact wpAny_pure hQ))

def Itl (K : PySem.W.Frag) (a : Addr) : It :=
  ⟨fun i H => ∃ xs x, SqL K H a xs ∧ xs[i]? = some x, fun i H x H' => H' = H ∧ ∀ xs, SqL K H a xs → xs[i]? = some x, fun i H => ∃ xs, SqL K H a xs ∧ xs.length ≤ i⟩
def Itt (K : PySem.W.Frag) (a : Addr) : It :=
  ⟨fun i H => ∃ xs x, SqT K H a xs ∧ xs[i]? = some x, fun i H x H' => H' = H ∧ ∀ xs, SqT K H a xs → xs[i]? = some x, fun i H => ∃ xs, SqT K H a xs ∧ xs.length ≤ i⟩
def Itr (lo : Int) (n : Nat) : It := ⟨fun i _ => i < n, fun i H x H' => H' = H ∧ x = .int (lo + i), fun i _ => n ≤ i⟩
theorem turn_list {P : Program} {w : World} {K : PySem.W.Frag} {tg : Expr} (a it : Addr) : Turn P w K tg (Itl K a) [it] it (fun i h => h.IsListIter it a i) where
  mem := by simp
  obj := fun i h st b hb => by
    have e : b = it := by simpa using hb
    subst e
    obtain ⟨o, e, c, d⟩ := st
    exact ⟨o, e, fun v z => by rw [d] at z; cases z⟩
  keep := fun i h h' st k => st.at fun o e => k it (by simp) o e
  item := by
    intro X hP hw hK hc i pins s σ H E I hf st hg
    subst hP hw hK
    obtain ⟨xs, x, hq, hx⟩ := hg
    obtain ⟨its, rv, p, hz⟩ := I.list hq
    obtain ⟨u, hu, ru⟩ := rv.get hx
    obtain ⟨f0, f1, f2, f3, f4, f5⟩ := hf it (by simp)
    refine wpAny_pyNext_list_item st p.isList (x := u) (by simpa using hu) fun h' st' sb => ?_
    have I1 : Inv X pins σ H { s with heap := h' } := I.turned (t' := s.toks) (fun b o hb e => (sb.2 b hb).trans e) f0 f1 f3 f4 f5
    obtain ⟨o, e, c, d⟩ := id st'
    exact ⟨u, rfl, go_of (s := { s with heap := h' }) e c d (by decide) ⟨x, H, I1, ru, ⟨rfl, fun ys hy => by rw [I.list_inj hy hq]; exact hx⟩, st', fun b hb => (hf b hb).1⟩⟩
  done := by
    intro X hP hw hK hc i pins s σ H E I hf st hg
    subst hP hw hK
    obtain ⟨xs, hq, hx⟩ := hg
    obtain ⟨its, rv, p, hz⟩ := I.list hq
    obtain ⟨f0, f1, f2, f3, f4, f5⟩ := hf it (by simp)
    have hl := rv.length
    exact wpAny_pyNext_list_end (I.ok.hd hc) st p.isList (by simp; omega) fun h' eb => ⟨rfl, I.turned (t' := s.toks) (fun b o hb e => eb b o hb e) f0 f1 f3 f4 f5⟩
  self := fun _ _ _ _ _ st h => wpAny_pyIter_listiter st h
theorem turn_tuple {P : Program} {w : World} {K : PySem.W.Frag} {tg : Expr} (a it : Addr) : Turn P w K tg (Itt K a) [it] it (fun i h => h.IsTupleIter it a i) where
  mem := by simp
  obj := fun i h st b hb => by
    have e : b = it := by simpa using hb
    subst e
    obtain ⟨o, e, c, d⟩ := st
    exact ⟨o, e, fun v z => by rw [d] at z; cases z⟩
  keep := fun i h h' st k => st.at fun o e => k it (by simp) o e
  item := by
    intro X hP hw hK hc i pins s σ H E I hf st hg
    subst hP hw hK
    obtain ⟨xs, x, hq, hx⟩ := hg
    obtain ⟨its, rv, p, hz⟩ := I.tuple hq
    obtain ⟨u, hu, ru⟩ := rv.get hx
    obtain ⟨f0, f1, f2, f3, f4, f5⟩ := hf it (by simp)
    refine wpAny_pyNext_tuple_item st (show s.heap.IsTuple a its.toArray from p) (x := u) (by simpa using hu) fun h' st' sb => ?_
    have I1 : Inv X pins σ H { s with heap := h' } := I.turned (t' := s.toks) (fun b o hb e => (sb.2 b hb).trans e) f0 f1 f3 f4 f5
    obtain ⟨o, e, c, d⟩ := id st'
    exact ⟨u, rfl, go_of (s := { s with heap := h' }) e c d (by decide) ⟨x, H, I1, ru, ⟨rfl, fun ys hy => by rw [I.tuple_inj hy hq]; exact hx⟩, st', fun b hb => (hf b hb).1⟩⟩
  done := by
    intro X hP hw hK hc i pins s σ H E I hf st hg
    subst hP hw hK
    obtain ⟨xs, hq, hx⟩ := hg
    obtain ⟨its, rv, p, hz⟩ := I.tuple hq
    obtain ⟨f0, f1, f2, f3, f4, f5⟩ := hf it (by simp)
    have hl := rv.length
    exact wpAny_pyNext_tuple_end (I.ok.hd hc) st (show s.heap.IsTuple a its.toArray from p) (by simp; omega) fun h' eb => ⟨rfl, I.turned (t' := s.toks) (fun b o hb e => eb b o hb e) f0 f1 f3 f4 f5⟩
  self := fun _ _ _ _ _ st h => wpAny_pyIter_tupleiter st h
theorem turn_range {P : Program} {w : World} {K : PySem.W.Frag} {tg : Expr} (it : Addr) (lo : Int) (n : Nat) : Turn P w K tg (Itr lo n) [it] it (fun i h => IsRangeIter h it (lo + (i : Nat) * 1) ((n : Int) - (i : Nat)) 1) where
  mem := by simp
  obj := fun i h st b hb => by
    have e : b = it := by simpa using hb
    subst e
    exact ⟨_, st, fun v z => by
      have z' : Data.fields _ = Data.cell v := z
      cases z'⟩
  keep := fun i h h' st k => k it (by simp) _ st
  item := by
    intro X hP hw hK hc i pins s σ H E I hf st hg
    subst hP hw hK
    obtain ⟨f0, f1, f2, f3, f4, f5⟩ := hf it (by simp)
    have W := Walks.range (prog := X.prog) (w := X.w) (I.ok.hd hc) it lo 1 n
    refine W.item i s _ _ hg st fun v h' tk hv st' kk => ?_
    obtain ⟨t, rfl⟩ := hv
    have I1 : Inv X pins σ H { s with heap := h', toks := tk } := I.turned (fun b o hb e => kk b o (by simpa using hb) e) f0 f1 f3 f4 f5
    refine ⟨_, rfl, go_of (s := { s with heap := h', toks := tk }) (n := "range_iterator") st' rfl rfl (by decide) ⟨.int (lo + i), H, I1, ⟨t, ?_⟩, ⟨rfl, rfl⟩, st', fun b hb => (hf b hb).1⟩⟩
    rw [Int.mul_one]
  done := by
    intro X hP hw hK hc i pins s σ H E I hf st hg
    subst hP hw hK
    obtain ⟨f0, f1, f2, f3, f4, f5⟩ := hf it (by simp)
    exact wpAny_pyNext_range_end (I.ok.hd hc) st (by have : n ≤ i := hg; omega) fun h' eb => ⟨rfl, I.turned (t' := s.toks) (fun b o hb e => eb b o hb e) f0 f1 f3 f4 f5⟩
  self := fun _ _ _ _ _ st h => wpAny_pyIter_rangeiter st h
end L2

namespace L2
open PySem PySem.Spec PyProof.Rows
section
variable {X : Cx} {tg : Expr}
def iList (K : PySem.W.Frag) (tl : TE) : TI := fun σ H R => tl σ H fun x H1 => ∃ a, x = .ref a ∧ (∃ xs, SqL K H1 a xs) ∧ R (Itl K a) H1
def iTup (K : PySem.W.Frag) (tl : TE) : TI := fun σ H R => tl σ H fun x H1 => ∃ a, x = .ref a ∧ (∃ xs, SqT K H1 a xs) ∧ R (Itt K a) H1
theorem pi_list {l : Expr} {tl : TE} (hl : PE X l tl) : PI X tg l (iList X.K tl) := by
  intro pins s σ H R I h
  refine thn (hl pins s σ H _ I h) fun v s1 ⟨x, H1, I1, r1, q1⟩ => ?_
  obtain ⟨a, e, ⟨xs, hq⟩, q⟩ := q1
  subst e
  cases r1
  obtain ⟨its, rv, p, hz⟩ := I1.list hq
  refine wpAny_pyIter_list p.isList ?_
  refine ⟨s1.heap.objs.size, [s1.heap.objs.size], _, _, H1, rfl, I1.kept (t' := s1.toks) fun b o e => Heap.get?_push_of_some _ e, turn_list a _, ⟨_, Heap.get?_push_size _ rfl, rfl, rfl⟩, fun b hb => ?_, q⟩
  have e : b = s1.heap.objs.size := by simpa using hb
  subst e
  exact I1.fpOk (Nat.le_refl _) (I1.hok.fresh (Nat.le_refl _))
theorem pi_tup {l : Expr} {tl : TE} (hl : PE X l tl) : PI X tg l (iTup X.K tl) := by
  intro pins s σ H R I h
  refine thn (hl pins s σ H _ I h) fun v s1 ⟨x, H1, I1, r1, q1⟩ => ?_
  obtain ⟨a, e, ⟨xs, hq⟩, q⟩ := q1
  subst e
  cases r1
  obtain ⟨its, rv, p, hz⟩ := I1.tuple hq
  refine wpAny_pyIter_tuple (show s1.heap.IsTuple a its.toArray from p) ?_
  refine ⟨s1.heap.objs.size, [s1.heap.objs.size], _, _, H1, rfl, I1.kept (t' := s1.toks) fun b o e => Heap.get?_push_of_some _ e, turn_tuple a _, ⟨_, Heap.get?_push_size _ rfl, rfl, rfl⟩, fun b hb => ?_, q⟩
  have e : b = s1.heap.objs.size := by simpa using hb
  subst e
  exact I1.fpOk (Nat.le_refl _) (I1.hok.fresh (Nat.le_refl _))
theorem range_it {pins : List (Addr × Obj)} {σ : St} {H : Hp} {s : Shared} {R : It → Hp → Prop} {E : Value → Shared → Prop} {lo hi : Int} {t u v : Tok} {tk : Nat} (I : Inv X pins σ H s) (h1 : -(2 ^ 62) ≤ lo) (h2 : lo < 2 ^ 62) (h3 : -(2 ^ 62) ≤ hi) (h4 : hi < 2 ^ 62)
    (q : R (Itr lo (hi - lo).toNat) H) : wpAny (model X.prog X.w) X.A (pyIter (.ref s.heap.objs.size)) (PIE X pins σ tg R) E { s with heap := s.heap.push { cls := .type "range", data := .fields #[.int lo t, .int hi u, .int 1 v] }, toks := tk } := by
  refine wpAny_pyIter_range (IsRange.new ..) (small_one h1 h2 h3 h4) ?_
  have I1 : Inv X pins σ H { s with heap := s.heap.push { cls := .type "range", data := .fields #[.int lo t, .int hi u, .int 1 v] }, toks := tk } := I.kept fun b o e => Heap.get?_push_of_some _ e
  refine ⟨(s.heap.push { cls := .type "range", data := .fields #[.int lo t, .int hi u, .int 1 v] }).objs.size, [(s.heap.push { cls := .type "range", data := .fields #[.int lo t, .int hi u, .int 1 v] }).objs.size], _, _, H, rfl,
    I1.kept (t' := tk) fun b o e => Heap.get?_push_of_some _ e, turn_range _ lo (hi - lo).toNat, ?_, fun b hb => ?_, q⟩
  · have e1 : lo + ((0 : Nat) : Int) * 1 = lo := by simp
    have e2 : (((hi - lo).toNat : Nat) : Int) - ((0 : Nat) : Int) = Builtin.Range.rangeSize lo hi 1 := by rw [rangeSize_one]; split <;> omega
    show IsRangeIter _ _ (lo + ((0 : Nat) : Int) * 1) ((((hi - lo).toNat : Nat) : Int) - ((0 : Nat) : Int)) 1
    rw [e1, e2]
    exact Heap.get?_push_size _ rfl
  · have e : b = (s.heap.push { cls := .type "range", data := .fields #[.int lo t, .int hi u, .int 1 v] }).objs.size := by simpa using hb
    subst e
    exact I1.fpOk (Nat.le_refl _) (I1.hok.fresh (Nat.le_refl _))
def iRng1 (ta : TA) : TI := fun σ H R => ta σ H fun vs H1 => ∃ j : Int, vs = [.int j] ∧ -(2 ^ 62) ≤ j ∧ j < 2 ^ 62 ∧ R (Itr 0 j.toNat) H1
theorem pi_range1 {a : Expr} {ta : TA} {p pos : Pos} (hg : Gl X "range") (hm : X.mg "range" = none) (ha : PA X [a] ta) (hs : starEach [a] X.env = [(false, eval a X.env)] := by rfl) : PI X tg (.Call (.Name "range" p) [a] [] pos) (iRng1 ta) := by
  intro pins s σ H R I h
  refine Call_ (ld_blt I hg hm boot_range (PyProof.Rows.callWith_type1 (thn (ha pos pins s σ H _ I h) fun us s1 ⟨vs, H1, I1, r1, q1⟩ => ?_) hs rfl))
  obtain ⟨j, e, q1, q2, q⟩ := q1
  subst e
  cases r1 with
  | cons r rr =>
    cases rr
    obtain ⟨t, rfl⟩ := r
    exact call_range_1 (range_it I1 (by omega) (by omega) q1 q2 (by simpa using q))
def tFor (wi : TI) (g : TG) (tb : TS) : TS := fun D σ H => wi σ H fun J H1 => ∃ W : Nat → Nat → St → Hp → Prop, (∃ m, W 0 m σ H1) ∧ ∀ i m σ H, W i m σ H →
  (J.stop i H ∧ D.nx σ H) ∨ (J.go i H ∧ ∃ N : St → Hp → Prop, (∀ σ' H', N σ' H' → ∃ m', m' < m ∧ W (i + 1) m' σ' H') ∧ ∀ x H', J.yld i H x H' → g x σ H' fun σ2 H2 => tb { D with nx := N, ct := N, bk := D.nx } σ2 H2)
def pinsAt (fp : List Addr) (h : Heap) : List (Addr × Obj) := fp.filterMap fun b => (h.get? b).map fun o => (b, o)
theorem mem_pinsAt {fp : List Addr} {h : Heap} {b : Addr} {o : Obj} (hb : b ∈ fp) (e : h.get? b = some o) : (b, o) ∈ pinsAt fp h := List.mem_filterMap.mpr ⟨b, hb, by rw [e]; rfl⟩
theorem of_pinsAt {fp : List Addr} {h : Heap} {p : Addr × Obj} (hp : p ∈ pinsAt fp h) : p.1 ∈ fp ∧ h.get? p.1 = some p.2 := by
  obtain ⟨b, hb, e⟩ := List.mem_filterMap.mp hp
  cases q : h.get? b with
  | none => rw [q] at e; cases e
  | some o =>
    rw [q] at e
    have e' : (b, o) = p := Option.some.inj e
    subst e'
    exact ⟨hb, q⟩
theorem Inv.pinned {pins : List (Addr × Obj)} {σ : St} {H : Hp} {s : Shared} {fp : List Addr} (I : Inv X pins σ H s) (hf : ∀ b ∈ fp, FpOk X pins H b) (ho : ∀ b ∈ fp, ∃ o, s.heap.get? b = some o ∧ ∀ v, o.data ≠ .cell v) : Inv X (pins ++ pinsAt fp s.heap) σ H s :=
  I.pins_of fun p hp => (List.mem_append.mp hp).elim (fun z => I.pin p (List.mem_append_right _ z)) fun z => by
    obtain ⟨hb, e⟩ := of_pinsAt z
    obtain ⟨f0, f1, f2, _⟩ := hf p.1 hb
    obtain ⟨o, e', d⟩ := ho p.1 hb
    rw [e] at e'; cases e'
    exact ⟨e, f0, f1, f2, d⟩
theorem Inv.unpinned {pins pl : List (Addr × Obj)} {σ : St} {H : Hp} {s : Shared} (I : Inv X (pins ++ pl) σ H s) : Inv X pins σ H s := I.pins_of fun p hp => I.pin p (List.mem_append_right _ (List.mem_append_left _ hp))
theorem ps_for {iter : Expr} {body : List Stmt} {wi : TI} {g : TG} {tb : TS} {pos : Pos} (hp : PassesOwn (model X.prog X.w) X.A X.env X.xe) (hc : X.calm = true) (hi : PI X tg iter wi) (hg : PG X tg g) (hb : PSs X body tb)
    (hs : ∀ x, foldedSetIterable iter X.env x = pure x := by intro _; rfl) : PS X (.For tg iter body [] pos) (tFor wi g tb) := by
  intro pins s σ H D I h
  refine wpAny_For (thn (hi pins s σ H _ I h) fun v s1 h1 => thn h1 fun itv s2 h2 => ?_) hs
  obtain ⟨it, fp, tn, J, H2, e, I2, T, st2, f2, W, ⟨m0, w0⟩, turn⟩ := h2
  subst e
  -- what stays true of the iterator's objects through the loop
  have stat : ∀ {H' : Hp}, (∀ b ∈ fp, H' b = none) → ∀ b ∈ fp, FpOk X pins H' b := fun hn b hb => ⟨hn b hb, (f2 b hb).2⟩
  refine codeAny_forLoop_any (fun n s' => ∃ i σ' H', Inv X pins σ' H' s' ∧ tn i s'.heap ∧ (∀ b ∈ fp, H' b = none) ∧ W i n σ' H') ?_ m0 ⟨0, σ, H2, I2, st2, fun b hb => (f2 b hb).1, w0⟩
  rintro n s3 ⟨i, σ3, H3, I3, st3, fr3, w3⟩
  rcases turn i n σ3 H3 w3 with ⟨stop, qn⟩ | ⟨go, N, hN, step⟩
  · refine wpAny_passesOwn hp (thn (T.done X rfl rfl rfl hc i pins s3 σ3 H3 X.xe I3 (stat fr3) st3 stop) fun r s4 ⟨hr, I4⟩ => ?_)
    subst hr
    exact wpAny_execs_nil ⟨σ3, H3, I4, qn⟩
  · refine wpAny_passesOwn hp (thn (T.item X rfl rfl rfl hc i pins s3 σ3 H3 X.xe I3 (stat fr3) st3 go) fun r s4 ⟨u, hr, h4⟩ => ?_)
    subst hr
    refine wpAny_passesOwn hp (thn h4 fun _ s5 ⟨x, H5, I5, r5, y5, st5, fr5⟩ => ?_)
    have I5' := I5.pinned (stat fr5) (T.obj _ _ st5)
    refine wpAny_passesOwn hp (thn (hg _ s5 σ3 H5 x u _ I5' r5 (step x H5 y5)) fun _ s6 ⟨σ6, H6, I6, q6⟩ => ?_)
    refine wpAny_passesOwn hp (thn (hb _ s6 σ6 H6 _ I6 q6) fun f s7 q7 => ?_)
    have again : ∀ {σ7 : St} {H7 : Hp}, Inv X (pins ++ pinsAt fp s5.heap) σ7 H7 s7 → N σ7 H7 → ∃ m, m < n ∧ ∃ i σ' H', Inv X pins σ' H' s7 ∧ tn i s7.heap ∧ (∀ b ∈ fp, H' b = none) ∧ W i m σ' H' := fun {σ7 H7} I7 n7 => by
      obtain ⟨m', hm, w7⟩ := hN σ7 H7 n7
      refine ⟨m', hm, i + 1, σ7, H7, I7.unpinned, T.keep _ _ _ st5 fun b hb o e => (I7.pin (b, o) (List.mem_append_right _ (List.mem_append_right _ (mem_pinsAt hb e)))).1, fun b hb => ?_, w7⟩
      obtain ⟨o, e, d⟩ := T.obj _ _ st5 b hb
      exact (I7.pin (b, o) (List.mem_append_right _ (List.mem_append_right _ (mem_pinsAt hb e)))).2.1
    cases f with
    | next => obtain ⟨σ7, H7, I7, n7⟩ := q7; exact again I7 n7
    | cont => obtain ⟨σ7, H7, I7, n7⟩ := q7; exact again I7 n7
    | brk => obtain ⟨σ7, H7, I7, q7⟩ := q7; exact ⟨σ7, H7, I7.unpinned, q7⟩
    | ret v => obtain ⟨x7, σ7, H7, I7, r7, q7⟩ := q7; exact ⟨x7, σ7, H7, I7.unpinned, r7, q7⟩
end

theorem for_list {K : PySem.W.Frag} {a : Addr} {xs : List V} {g : TG} {tb : TS} {D : Ends} {σ : St} {H : Hp} (Pv : Nat → St → Hp → Prop) (h0 : Pv 0 σ H) (hl : ∀ i σ H, i ≤ xs.length → Pv i σ H → SqL K H a xs)
    (hs : ∀ i x σ H, xs[i]? = some x → Pv i σ H → g x σ H fun σ2 H2 => tb { D with nx := Pv (i + 1), ct := Pv (i + 1), bk := D.nx } σ2 H2) (hd : ∀ σ H, Pv xs.length σ H → D.nx σ H) :
    ∃ W : Nat → Nat → St → Hp → Prop, (∃ m, W 0 m σ H) ∧ ∀ i m σ H, W i m σ H →
      ((Itl K a).stop i H ∧ D.nx σ H) ∨ ((Itl K a).go i H ∧ ∃ N : St → Hp → Prop, (∀ σ' H', N σ' H' → ∃ m', m' < m ∧ W (i + 1) m' σ' H') ∧ ∀ x H', (Itl K a).yld i H x H' → g x σ H' fun σ2 H2 => tb { D with nx := N, ct := N, bk := D.nx } σ2 H2) := by
  refine ⟨fun i m σ H => m = xs.length - i ∧ i ≤ xs.length ∧ Pv i σ H, ⟨xs.length, by simp, Nat.zero_le _, h0⟩, ?_⟩
  rintro i m σ H ⟨rfl, hi, p⟩
  have q := hl i σ H hi p
  by_cases hlt : i < xs.length
  · refine .inr ⟨⟨xs, xs[i], q, by simp [hlt]⟩, Pv (i + 1), fun σ' H' p' => ⟨xs.length - (i + 1), by omega, rfl, hlt, p'⟩, fun x H' y => ?_⟩
    obtain ⟨e, y⟩ := y
    subst e
    exact hs i x σ _ (y xs q) p
  · have e : i = xs.length := by omega
    subst e
    exact .inl ⟨⟨xs, q, Nat.le_refl _⟩, hd σ H p⟩
theorem for_tup {K : PySem.W.Frag} {a : Addr} {xs : List V} {g : TG} {tb : TS} {D : Ends} {σ : St} {H : Hp} (Pv : Nat → St → Hp → Prop) (h0 : Pv 0 σ H) (hl : ∀ i σ H, i ≤ xs.length → Pv i σ H → SqT K H a xs)
    (hs : ∀ i x σ H, xs[i]? = some x → Pv i σ H → g x σ H fun σ2 H2 => tb { D with nx := Pv (i + 1), ct := Pv (i + 1), bk := D.nx } σ2 H2) (hd : ∀ σ H, Pv xs.length σ H → D.nx σ H) :
    ∃ W : Nat → Nat → St → Hp → Prop, (∃ m, W 0 m σ H) ∧ ∀ i m σ H, W i m σ H →
      ((Itt K a).stop i H ∧ D.nx σ H) ∨ ((Itt K a).go i H ∧ ∃ N : St → Hp → Prop, (∀ σ' H', N σ' H' → ∃ m', m' < m ∧ W (i + 1) m' σ' H') ∧ ∀ x H', (Itt K a).yld i H x H' → g x σ H' fun σ2 H2 => tb { D with nx := N, ct := N, bk := D.nx } σ2 H2) := by
  refine ⟨fun i m σ H => m = xs.length - i ∧ i ≤ xs.length ∧ Pv i σ H, ⟨xs.length, by simp, Nat.zero_le _, h0⟩, ?_⟩
  rintro i m σ H ⟨rfl, hi, p⟩
  have q := hl i σ H hi p
  by_cases hlt : i < xs.length
  · refine .inr ⟨⟨xs, xs[i], q, by simp [hlt]⟩, Pv (i + 1), fun σ' H' p' => ⟨xs.length - (i + 1), by omega, rfl, hlt, p'⟩, fun x H' y => ?_⟩
    obtain ⟨e, y⟩ := y
    subst e
    exact hs i x σ _ (y xs q) p
  · have e : i = xs.length := by omega
    subst e
    exact .inl ⟨⟨xs, q, Nat.le_refl _⟩, hd σ H p⟩
theorem for_range {lo : Int} {n : Nat} {g : TG} {tb : TS} {D : Ends} {σ : St} {H : Hp} (Pv : Nat → St → Hp → Prop) (h0 : Pv 0 σ H)
    (hs : ∀ i σ H, i < n → Pv i σ H → g (.int (lo + i)) σ H fun σ2 H2 => tb { D with nx := Pv (i + 1), ct := Pv (i + 1), bk := D.nx } σ2 H2) (hd : ∀ σ H, Pv n σ H → D.nx σ H) :
    ∃ W : Nat → Nat → St → Hp → Prop, (∃ m, W 0 m σ H) ∧ ∀ i m σ H, W i m σ H →
      ((Itr lo n).stop i H ∧ D.nx σ H) ∨ ((Itr lo n).go i H ∧ ∃ N : St → Hp → Prop, (∀ σ' H', N σ' H' → ∃ m', m' < m ∧ W (i + 1) m' σ' H') ∧ ∀ x H', (Itr lo n).yld i H x H' → g x σ H' fun σ2 H2 => tb { D with nx := N, ct := N, bk := D.nx } σ2 H2) := by
  refine ⟨fun i m σ H => m = n - i ∧ i ≤ n ∧ Pv i σ H, ⟨n, by simp, Nat.zero_le _, h0⟩, ?_⟩
  rintro i m σ H ⟨rfl, hi, p⟩
  by_cases hlt : i < n
  · refine .inr ⟨hlt, Pv (i + 1), fun σ' H' p' => ⟨n - (i + 1), by omega, rfl, hlt, p'⟩, fun x H' y => ?_⟩
    obtain ⟨e, y⟩ := y
    subst e y
    exact hs i σ _ hlt p
  · have e : i = n := by omega
    subst e
    exact .inl ⟨Nat.le_refl _, hd σ H p⟩
theorem while_by {c : TT} {tb : TS} {D : Ends} {σ : St} {H : Hp} (Pv : St → Hp → Prop) (μ : St → Hp → Nat) (h0 : Pv σ H)
    (hs : ∀ σ H, Pv σ H → c σ H fun b H1 => if b = true then tb { D with nx := fun σ' H' => Pv σ' H' ∧ μ σ' H' < μ σ H, ct := fun σ' H' => Pv σ' H' ∧ μ σ' H' < μ σ H, bk := D.nx } σ H1 else D.nx σ H1)
    (mono : ∀ σ H Q Q', (∀ b H1, Q b H1 → Q' b H1) → c σ H Q → c σ H Q') : tWhile c tb D σ H := by
  refine ⟨fun m σ H => m = μ σ H ∧ Pv σ H, ⟨_, rfl, h0⟩, ?_⟩
  rintro m σ H ⟨rfl, p⟩
  refine mono σ H _ _ (fun b H1 q => ?_) (hs σ H p)
  cases b with
  | true => exact ⟨_, fun σ' H' ⟨p', l⟩ => ⟨_, l, rfl, p'⟩, q⟩
  | false => exact q
end L2

namespace L2
open PySem PySem.Spec PyProof.Rows

abbrev R2 := V → V → Hp → VK → Prop
def OpR (X : Cx) (f : Value → Value → Sem Value) (r : R2) : Prop :=
  ∀ (pins : List (Addr × Obj)) (s : Shared) (σ : St) (H : Hp) (x y : V) (v u : Value) (Q : VK), Inv X pins σ H s → RelV x v → RelV y u → r x y H Q →
    wpAny (model X.prog X.w) X.A (f v u) (EP X pins σ Q) X.xe s
def UnR (X : Cx) (f : Value → Sem Value) (r : V → Hp → VK → Prop) : Prop :=
  ∀ (pins : List (Addr × Obj)) (s : Shared) (σ : St) (H : Hp) (x : V) (v : Value) (Q : VK), Inv X pins σ H s → RelV x v → r x H Q →
    wpAny (model X.prog X.w) X.A (f v) (EP X pins σ Q) X.xe s
def CallR (X : Cx) (f : Value) (r : List V → Hp → VK → Prop) : Prop :=
  ∀ (pins : List (Addr × Obj)) (s : Shared) (σ : St) (H : Hp) (xs : List V) (us : List Value) (Q : VK), Inv X pins σ H s → Vals xs us → r xs H Q →
    wpAny (model X.prog X.w) X.A (call f us) (EP X pins σ Q) X.xe s
def TruR (X : Cx) (r : V → Hp → (Bool → Hp → Prop) → Prop) : Prop :=
  ∀ (pins : List (Addr × Obj)) (s : Shared) (σ : St) (H : Hp) (x : V) (v : Value) (Q : Bool → Hp → Prop), Inv X pins σ H s → RelV x v → r x H Q →
    wpAny (model X.prog X.w) X.A (truthy v) (TP X pins σ Q) X.xe s

def tOp (r : R2) (ta tb : TE) : TE := fun σ H Q => ta σ H fun x H1 => tb σ H1 fun y H2 => r x y H2 Q
def tUn (r : V → Hp → VK → Prop) (ta : TE) : TE := fun σ H Q => ta σ H fun x H1 => r x H1 Q
def rI (C : Int → Int → Prop) (g : Int → Int → V) : R2 := fun x y H Q => ∃ i j, x = .int i ∧ y = .int j ∧ C i j ∧ Q (g i j) H
def rI0 (g : Int → Int → V) : R2 := fun x y H Q => ∃ i j, x = .int i ∧ y = .int j ∧ Q (g i j) H
def rU (g : Int → V) : V → Hp → VK → Prop := fun x H Q => ∃ i, x = .int i ∧ Q (g i) H

section
variable {X : Cx} {a b c : Expr} {ta tb tc : TE} {pos : Pos}

theorem binT (ha : PE X a ta) (hb : PE X b tb) {pins : List (Addr × Obj)} {s : Shared} {σ : St} {H : Hp} {R : V → V → Hp → Prop} (I : Inv X pins σ H s)
    (h : ta σ H fun x H1 => tb σ H1 fun y H2 => R x y H2) {Q : Value → Shared → Prop} {f : Value → Value → Sem Value}
    (hf : ∀ v u s2 x y H2, Inv X pins σ H2 s2 → RelV x v → RelV y u → R x y H2 → wpAny (model X.prog X.w) X.A (f v u) Q X.xe s2) :
    wpAny (model X.prog X.w) X.A (eval a X.env) (fun v s₁ => wpAny (model X.prog X.w) X.A (eval b X.env) (fun u s₂ => wpAny (model X.prog X.w) X.A (f v u) Q X.xe s₂) X.xe s₁) X.xe s := by
  refine thn (ha pins s σ H _ I h) fun v s1 ⟨x, H1, I1, r1, q1⟩ => ?_
  refine thn (hb pins s1 σ H1 _ I1 q1) fun u s2 ⟨y, H2, I2, r2, q2⟩ => ?_
  exact hf v u s2 x y H2 I2 r1 r2 q2

theorem pe_op {op : Operator} {r : R2} (ho : OpR X (binaryOp op) r) (ha : PE X a ta) (hb : PE X b tb) : PE X (.BinOp a op b pos) (tOp r ta tb) := by
  intro pins s σ H Q I h
  exact wpAny_BinOp (binT ha hb I h fun v u s2 x y H2 I2 rx ry q => ho pins s2 σ H2 x y v u Q I2 rx ry q)
theorem pe_un {op : UnaryOp} {r : V → Hp → VK → Prop} (ho : UnR X (unaryOp op) r) (ha : PE X a ta) : PE X (.UnaryOp op a pos) (tUn r ta) := by
  intro pins s σ H Q I h
  exact UnaryOp_ (thn (ha pins s σ H _ I h) fun v s1 ⟨x, H1, I1, r1, q1⟩ => ho pins s1 σ H1 x v Q I1 r1 q1)
theorem opI {f : Value → Value → Sem Value} {C : Int → Int → Prop} {g : Int → Int → Int}
    (rule : ∀ (i j : Int) (t u : Tok) (s : Shared) (Q : Value → Shared → Prop) (E : Value → Shared → Prop), C i j → Q (.int (g i j) s.toks) { s with toks := s.toks + 1 } → wpAny (model X.prog X.w) X.A (f (.int i t) (.int j u)) Q E s) :
    OpR X f (rI C fun i j => .int (g i j)) := by
  intro pins s σ H x y v u Q I rx ry h
  obtain ⟨i, j, rfl, rfl, hc, q⟩ := h
  obtain ⟨t, rfl⟩ := rx
  obtain ⟨t', rfl⟩ := ry
  exact rule i j t t' s _ _ hc ⟨.int (g i j), H, I.tok _, ⟨_, rfl⟩, q⟩
theorem opI0 {f : Value → Value → Sem Value} {g : Int → Int → Int}
    (rule : ∀ (i j : Int) (t u : Tok) (s : Shared) (Q : Value → Shared → Prop) (E : Value → Shared → Prop), Q (.int (g i j) s.toks) { s with toks := s.toks + 1 } → wpAny (model X.prog X.w) X.A (f (.int i t) (.int j u)) Q E s) :
    OpR X f (rI0 fun i j => .int (g i j)) := by
  intro pins s σ H x y v u Q I rx ry h
  obtain ⟨i, j, rfl, rfl, q⟩ := h
  obtain ⟨t, rfl⟩ := rx
  obtain ⟨t', rfl⟩ := ry
  exact rule i j t t' s _ _ ⟨.int (g i j), H, I.tok _, ⟨_, rfl⟩, q⟩
theorem opB0 {f : Value → Value → Sem Value} {g : Int → Int → Bool}
    (rule : ∀ (i j : Int) (t u : Tok) (s : Shared) (Q : Value → Shared → Prop) (E : Value → Shared → Prop), Q (.bool (g i j)) s → wpAny (model X.prog X.w) X.A (f (.int i t) (.int j u)) Q E s) :
    OpR X f (rI0 fun i j => .bl (g i j)) := by
  intro pins s σ H x y v u Q I rx ry h
  obtain ⟨i, j, rfl, rfl, q⟩ := h
  obtain ⟨t, rfl⟩ := rx
  obtain ⟨t', rfl⟩ := ry
  exact rule i j t t' s _ _ ⟨.bl (g i j), H, I, rfl, q⟩

def CDiv (i j : Int) : Prop := 0 < j ∧ j < 1073741824
def CPow (i j : Int) : Prop := 0 ≤ j ∧ j ≤ 1000000 ∧ i.natAbs < 2 ^ 64
def CMul (i j : Int) : Prop := (-(2 ^ 64) < i ∧ i < 2 ^ 64) ∨ (-(2 ^ 64) < j ∧ j < 2 ^ 64)
theorem CMul.ok {i j : Int} (h : CMul i j) : IntMulOk i j := by
  rcases h with ⟨h1, h2⟩ | ⟨h1, h2⟩
  · exact .of_left (intBits_le_64 h1 h2)
  · exact .of_right (intBits_le_64 h1 h2)
theorem op_add : OpR X (binaryOp .Add) (rI0 fun i j => .int (i + j)) := opI0 fun _ _ _ _ _ _ _ q => add_int q
theorem op_sub : OpR X (binaryOp .Sub) (rI0 fun i j => .int (i - j)) := opI0 fun _ _ _ _ _ _ _ q => sub_int q
theorem op_mul : OpR X (binaryOp .Mult) (rI CMul fun i j => .int (i * j)) := opI fun _ _ _ _ _ _ _ hc q => mul_int q hc.ok
theorem op_fdiv : OpR X (binaryOp .FloorDiv) (rI CDiv fun i j => .int (i / j)) := opI fun i j _ _ _ _ _ hc q => by
  have h1 : (0 : Int) < j := hc.1
  have h2 : j < 1073741824 := hc.2
  exact floordiv_int (by omega) (by rw [Int.fdiv_eq_ediv_of_nonneg i (by omega)]; exact q) (.inl (PyProof.noPylong_small (by omega)))
theorem op_mod : OpR X (binaryOp .Mod) (rI (fun _ j => 0 < j) fun i j => .int (i % j)) := opI fun i j _ _ _ _ _ hc q => by
  have h1 : (0 : Int) < j := hc
  exact mod_int' (by omega) (by rw [Int.fmod_eq_emod_of_nonneg i (by omega)]; exact q)
theorem op_pow : OpR X (binaryOp .Pow) (rI CPow fun i j => .int (i ^ j.toNat)) := opI fun _ _ _ _ _ _ _ hc q => pow_int_small hc.1 hc.2.1 hc.2.2 q
theorem unI {f : Value → Sem Value} {g : Int → Int}
    (rule : ∀ (i : Int) (t : Tok) (s : Shared) (Q : Value → Shared → Prop) (E : Value → Shared → Prop), Q (.int (g i) s.toks) { s with toks := s.toks + 1 } → wpAny (model X.prog X.w) X.A (f (.int i t)) Q E s) :
    UnR X f (rU fun i => .int (g i)) := by
  intro pins s σ H x v Q I rx h
  obtain ⟨i, rfl, q⟩ := h
  obtain ⟨t, rfl⟩ := rx
  exact rule i t s _ _ ⟨.int (g i), H, I.tok _, ⟨_, rfl⟩, q⟩
theorem un_neg : UnR X (unaryOp .USub) (rU fun i => .int (-i)) := unI fun _ _ _ _ _ q => neg_int q
end

def scal : V → V → Bool
  | .non, .non => true | .non, .int _ => true | .int _, .non => true | .non, .bl _ => true | .bl _, .non => true | .non, .str _ => true | .str _, .non => true
  | .int _, .int _ => true | .bl _, .bl _ => true | .str _, .str _ => true | .byt _, .byt _ => true
  | .int _, .str _ => true | .str _, .int _ => true | .bl _, .str _ => true | .str _, .bl _ => true
  | _, _ => false
def rEq : R2 := fun x y H Q => scal x y = true ∧ Q (.bl (decide (x = y))) H
def rNe : R2 := fun x y H Q => scal x y = true ∧ Q (.bl (!decide (x = y))) H

theorem dec_int {i j : Int} : decide (V.int i = V.int j) = (i == j) := by
  rw [Bool.eq_iff_iff]
  simp
theorem dec_bl {i j : Bool} : decide (V.bl i = V.bl j) = (i == j) := by
  rw [Bool.eq_iff_iff]
  simp
theorem dec_str {i j : Str} : decide (V.str i = V.str j) = (i == j) := by
  rw [Bool.eq_iff_iff]
  simp
theorem dec_byt {i j : Array UInt8} : decide (V.byt i = V.byt j) = (i.toList == j.toList) := by
  rw [Bool.eq_iff_iff]
  cases i
  cases j
  simp

section
variable {X : Cx} {a b c : Expr} {ta tb tc : TE} {pos : Pos}
theorem fin_bl {pins : List (Addr × Obj)} {σ : St} {H : Hp} {s : Shared} {Q : VK} {k k' : Bool} (I : Inv X pins σ H s) (q : Q (.bl k) H) (e : k = k') : EP X pins σ Q (.bool k') s := by
  subst e
  exact ⟨.bl k, H, I, rfl, q⟩
theorem op_eq : OpR X (compareOp .Eq) rEq := by
  intro pins s σ H x y v u Q I rx ry h
  obtain ⟨hs, q⟩ := h
  cases x with
  | non =>
    cases rx
    cases y with
    | non => cases ry; exact PySem.EqNone.eq_none_none (fin_bl I q (by simp))
    | bl j => cases ry; exact PySem.EqNone.eq_none_bool (fin_bl I q (by simp))
    | int j => obtain ⟨t', rfl⟩ := ry; exact PySem.EqNone.eq_none_int (fin_bl I q (by simp))
    | str j => obtain ⟨t', rfl⟩ := ry; exact PySem.EqNone.eq_none_str (fin_bl I q (by simp))
    | _ => exact absurd (show false = true from hs) Bool.false_ne_true
  | bl i =>
    cases rx
    cases y with
    | non => cases ry; exact PySem.EqNone.eq_bool_none (fin_bl I q (by simp))
    | bl j => cases ry; exact eq_bool (fin_bl I q dec_bl)
    | str j => obtain ⟨t', rfl⟩ := ry; exact PySem.EqMixed.eq_bool_str (fin_bl I q (by simp))
    | _ => exact absurd (show false = true from hs) Bool.false_ne_true
  | int i =>
    obtain ⟨t, rfl⟩ := rx
    cases y with
    | non => cases ry; exact PySem.EqNone.eq_int_none (fin_bl I q (by simp))
    | int j => obtain ⟨t', rfl⟩ := ry; exact eq_int (fin_bl I q dec_int)
    | str j => obtain ⟨t', rfl⟩ := ry; exact PySem.EqMixed.eq_int_str (fin_bl I q (by simp))
    | _ => exact absurd (show false = true from hs) Bool.false_ne_true
  | str i =>
    obtain ⟨t, rfl⟩ := rx
    cases y with
    | non => cases ry; exact PySem.EqNone.eq_str_none (fin_bl I q (by simp))
    | bl j => cases ry; exact PySem.EqMixed.eq_str_bool (fin_bl I q (by simp))
    | int j => obtain ⟨t', rfl⟩ := ry; exact PySem.EqMixed.eq_str_int (fin_bl I q (by simp))
    | str j => obtain ⟨t', rfl⟩ := ry; exact eq_str (fin_bl I q dec_str)
    | _ => exact absurd (show false = true from hs) Bool.false_ne_true
  | byt i =>
    obtain ⟨t, rfl⟩ := rx
    cases y with
    | byt j => obtain ⟨t', rfl⟩ := ry; exact PySem.W.eq_bytes (fin_bl I q dec_byt)
    | _ => exact absurd (show false = true from hs) Bool.false_ne_true
  | _ => cases y <;> exact absurd (show false = true from hs) Bool.false_ne_true
theorem op_ne : OpR X (compareOp .NotEq) rNe := by
  intro pins s σ H x y v u Q I rx ry h
  obtain ⟨hs, q⟩ := h
  cases x with
  | non =>
    cases rx
    cases y with
    | non => cases ry; exact PySem.EqNone.ne_none_none (fin_bl I q (by simp))
    | bl j => cases ry; exact PySem.EqNone.ne_none_bool (fin_bl I q (by simp))
    | int j => obtain ⟨t', rfl⟩ := ry; exact PySem.EqNone.ne_none_int (fin_bl I q (by simp))
    | str j => obtain ⟨t', rfl⟩ := ry; exact PySem.EqNone.ne_none_str (fin_bl I q (by simp))
    | _ => exact absurd (show false = true from hs) Bool.false_ne_true
  | bl i =>
    cases rx
    cases y with
    | non => cases ry; exact PySem.EqNone.ne_bool_none (fin_bl I q (by simp))
    | bl j => cases ry; exact ne_bool (fin_bl I q (congrArg not dec_bl))
    | str j => obtain ⟨t', rfl⟩ := ry; exact PySem.EqMixed.ne_bool_str (fin_bl I q (by simp))
    | _ => exact absurd (show false = true from hs) Bool.false_ne_true
  | int i =>
    obtain ⟨t, rfl⟩ := rx
    cases y with
    | non => cases ry; exact PySem.EqNone.ne_int_none (fin_bl I q (by simp))
    | int j => obtain ⟨t', rfl⟩ := ry; exact ne_int (fin_bl I q (congrArg not dec_int))
    | str j => obtain ⟨t', rfl⟩ := ry; exact PySem.EqMixed.ne_int_str (fin_bl I q (by simp))
    | _ => exact absurd (show false = true from hs) Bool.false_ne_true
  | str i =>
    obtain ⟨t, rfl⟩ := rx
    cases y with
    | non => cases ry; exact PySem.EqNone.ne_str_none (fin_bl I q (by simp))
    | bl j => cases ry; exact PySem.EqMixed.ne_str_bool (fin_bl I q (by simp))
    | int j => obtain ⟨t', rfl⟩ := ry; exact PySem.EqMixed.ne_str_int (fin_bl I q (by simp))
    | str j => obtain ⟨t', rfl⟩ := ry; exact ne_str (fin_bl I q (congrArg not dec_str))
    | _ => exact absurd (show false = true from hs) Bool.false_ne_true
  | byt i =>
    obtain ⟨t, rfl⟩ := rx
    cases y with
    | byt j => obtain ⟨t', rfl⟩ := ry; exact PySem.W.ne_bytes (fin_bl I q (congrArg not dec_byt))
    | _ => exact absurd (show false = true from hs) Bool.false_ne_true
  | _ => cases y <;> exact absurd (show false = true from hs) Bool.false_ne_true

theorem op_lt : OpR X (compareOp .Lt) (rI0 fun i j => .bl (decide (i < j))) := opB0 fun _ _ _ _ _ _ _ q => lt_int q
theorem op_gt : OpR X (compareOp .Gt) (rI0 fun i j => .bl (decide (j < i))) := opB0 fun _ _ _ _ _ _ _ q => gt_int q
theorem op_isN : OpR X (compareOp .Is) (fun x y H Q => y = .non ∧ Q (.bl (decide (x = .non))) H) := by
  intro pins s σ H x y v u Q I rx ry h
  obtain ⟨rfl, q⟩ := h
  cases ry
  refine is_none_gen (fin_bl I q ?_)
  cases x <;> first
    | (cases rx; rfl)
    | (obtain ⟨t, rfl⟩ := rx; rfl)
theorem op_notN : OpR X (compareOp .IsNot) (fun x y H Q => y = .non ∧ Q (.bl (!decide (x = .non))) H) := by
  intro pins s σ H x y v u Q I rx ry h
  obtain ⟨rfl, q⟩ := h
  cases ry
  refine isnot_none_gen (fin_bl I q ?_)
  cases x <;> first
    | (cases rx; rfl)
    | (obtain ⟨t, rfl⟩ := rx; rfl)

theorem OpR.or {f : Value → Value → Sem Value} {r r' : R2} (h : OpR X f r) (h' : OpR X f r') : OpR X f (fun x y H Q => r x y H Q ∨ r' x y H Q) := by
  intro pins s σ H x y v u Q I rx ry q
  rcases q with q | q
  · exact h pins s σ H x y v u Q I rx ry q
  · exact h' pins s σ H x y v u Q I rx ry q

theorem nomark (b : Expr) {op : CmpOp} (h : op ≠ .In := by decide) (h2 : op ≠ .NotIn := by decide) : behindInMarks op b = false := by
  have e1 : (op == CmpOp.In) = false := by cases op <;> first | rfl | exact absurd rfl h
  have e2 : (op == CmpOp.NotIn) = false := by cases op <;> first | rfl | exact absurd rfl h2
  cases b <;> simp [behindInMarks, e1, e2]
theorem pe_cmpR {op : CmpOp} {r : R2} (ho : OpR X (compareOp op) r) (ha : PE X a ta) (hb : PE X b tb) (hm : behindInMarks op b = false) : PE X (.Compare a [op] [b] pos) (tOp r ta tb) := by
  intro pins s σ H Q I h
  exact wpAny_Compare1 (binT ha hb I h fun v u s2 x y H2 I2 rx ry q => ho pins s2 σ H2 x y v u Q I2 rx ry q) hm
def tTest (t : TE) : TT := fun σ H Q => t σ H fun x H' => ∃ k, x = .bl k ∧ Q k H'
theorem pt_cmpR {op : CmpOp} {r : R2} (ho : OpR X (compareOp op) r) (ha : PE X a ta) (hb : PE X b tb) (hm : behindInMarks op b = false) : PT X (.Compare a [op] [b] pos) (tTest (tOp r ta tb)) := by
  intro pins s σ H Q I h
  refine wpAny_isTrue_Compare1 (thn (ha pins s σ H _ I h) fun v s1 ⟨x, H1, I1, r1, q1⟩ => thn (hb pins s1 σ H1 _ I1 q1) fun u s2 ⟨y, H2, I2, r2, q2⟩ =>
    thn (ho pins s2 σ H2 x y v u _ I2 r1 r2 q2) fun c s3 ⟨z, H3, I3, r3, k, e, q3⟩ => ?_) hm
  subst e
  cases r3
  exact wpAny_truthy_bool ⟨H3, I3, q3⟩
def TruV (K : PySem.W.Frag) (x : V) (H : Hp) (k : Bool) : Prop :=
  match x with
  | .non => k = false
  | .bl b => k = b
  | .int i => k = (i != 0)
  | .str y => y.length ≤ sizeLine ∧ k = ((y.length : Int) != 0)
  | .byt y => y.size ≤ sizeLine ∧ k = ((y.size : Int) != 0)
  | .ref p => (∃ xs, SqL K H p xs ∧ k = !xs.isEmpty) ∨ (∃ xs, SqT K H p xs ∧ k = !xs.isEmpty) ∨ ∃ kvs, H p = some (.dK kvs) ∧ k = !kvs.isEmpty
  | _ => False
theorem isEmpty_kv {κ : Type} {kvs : List (κ × V)} {vs : List (κ × Value)} (r : KV kvs vs) : (!vs.isEmpty) = !kvs.isEmpty := by
  cases r <;> rfl
theorem isEmpty_of {xs : List V} {its : List Value} (r : Vals xs its) : (!its.toArray.isEmpty) = !xs.isEmpty := by
  cases r <;> simp
theorem line63 : (sizeLine : Nat) < 2 ^ 63 := by rw [sizeLine_eq]; decide
theorem tru_ok : TruR X (fun x H Q => ∃ k, TruV X.K x H k ∧ Q k H) := by
  intro pins s σ H x v Q I rx h
  obtain ⟨k, e, q⟩ := h
  have hl := line63
  have hs : sizeLine = 16777216 := sizeLine_eq
  cases x with
  | non =>
    cases rx
    have e' : k = false := e
    subst e'
    exact truthy_none ⟨H, I, q⟩
  | bl b =>
    cases rx
    have e' : k = b := e
    subst e'
    exact wpAny_truthy_bool ⟨H, I, q⟩
  | int i =>
    obtain ⟨t, rfl⟩ := rx
    have e' : k = (i != 0) := e
    subst e'
    exact PySem.P.truthy_int ⟨H, I, q⟩
  | str y =>
    obtain ⟨t, rfl⟩ := rx
    obtain ⟨hy, e'⟩ : y.length ≤ sizeLine ∧ k = ((y.length : Int) != 0) := e
    subst e'
    exact PySem.P.truthy_str (by omega) ⟨H, I.tok _, q⟩
  | byt y =>
    obtain ⟨t, rfl⟩ := rx
    obtain ⟨hy, e'⟩ : y.size ≤ sizeLine ∧ k = ((y.size : Int) != 0) := e
    subst e'
    exact PySem.W.truthy_bytes (by omega) ⟨H, I.tok _, q⟩
  | ref p =>
    cases rx
    have e' : (∃ xs, SqL X.K H p xs ∧ k = !xs.isEmpty) ∨ (∃ xs, SqT X.K H p xs ∧ k = !xs.isEmpty) ∨ ∃ kvs, H p = some (.dK kvs) ∧ k = !kvs.isEmpty := e
    rcases e' with ⟨xs, hx, e'⟩ | ⟨xs, hx, e'⟩ | ⟨kvs, hx, e'⟩
    · subst e'
      obtain ⟨its, r, pl, hz⟩ := I.list hx
      have hlen := r.length
      exact wpAny_truthy_list pl.isList (by simp only [List.size_toArray]; omega) ⟨H, I.tok _, by rw [isEmpty_of r]; exact q⟩
    · subst e'
      obtain ⟨its, r, pl, hz⟩ := I.tuple hx
      have hlen := r.length
      exact truthy_tuple pl (by simp only [List.size_toArray]; omega) ⟨H, I.tok _, by rw [isEmpty_of r]; exact q⟩
    · subst e'
      obtain ⟨hz, hS, vs, r, m⟩ : kvs.length ≤ sizeLine ∧ (p == sysModules) = false ∧ ∃ vs, KV kvs vs ∧ s.heap.DictOf (mixKind X.prog X.w) p vs := I.hok p _ hx
      have hlen : kvs.length = vs.length := Paired.length r
      exact wpAny_truthy_dict hS m (by omega) ⟨H, I.tok _, by rw [isEmpty_kv r]; exact q⟩
  | _ => exact (show False from e).elim
theorem pt_truth (ha : PE X a ta) (he : ∀ whole, isTrue a X.env whole = (do let v ← whole; standAt a.pos; holding [v] (truthy v))) :
    PT X a (fun σ H Q => ta σ H fun x H' => ∃ k, TruV X.K x H' k ∧ Q k H') := by
  intro pins s σ H Q I h
  exact isTrue_plain (thn (ha pins s σ H _ I h) fun v s1 ⟨x, H1, I1, r1, q1⟩ => tru_ok pins s1 σ H1 x v Q I1 r1 q1) (he _)

theorem vals1 {x : V} {us : List Value} (r : Vals [x] us) : ∃ u, us = [u] ∧ RelV x u := by
  cases r with
  | cons r1 r2 => cases r2; exact ⟨_, rfl, r1⟩
theorem vals2 {x y : V} {us : List Value} (r : Vals [x, y] us) : ∃ u w', us = [u, w'] ∧ RelV x u ∧ RelV y w' := by
  cases r with
  | cons r1 r2 =>
    cases r2 with
    | cons r3 r4 => cases r4; exact ⟨_, _, rfl, r1, r3⟩
theorem call_abs : CallR X (.builtin "abs") (fun xs H Q => ∃ i, xs = [.int i] ∧ Q (.int (if i < 0 then -i else i)) H) := by
  intro pins s σ H xs us Q I r h
  obtain ⟨i, rfl, q⟩ := h
  obtain ⟨u, rfl, t, rfl⟩ := vals1 r
  exact call_abs_int fun u tk => ⟨.int (if i < 0 then -i else i), H, I.tok _, ⟨_, rfl⟩, q⟩
theorem call_max2 (hc : X.calm = true) : CallR X (.builtin "max") (fun xs H Q => ∃ i j, xs = [.int i, .int j] ∧ Q (.int (if j > i then j else i)) H) := by
  intro pins s σ H xs us Q I r h
  obtain ⟨i, j, rfl, q⟩ := h
  obtain ⟨u, w', rfl, ⟨t, rfl⟩, ⟨t', rfl⟩⟩ := vals2 r
  refine max_two_ints (I.ok.hd hc) fun h' tk k => ⟨_, H, I.kept k, ?_, q⟩
  by_cases hj : j > i
  · rw [if_pos hj, if_pos hj]; exact ⟨_, rfl⟩
  · rw [if_neg hj, if_neg hj]; exact ⟨_, rfl⟩
theorem call_min2 (hc : X.calm = true) : CallR X (.builtin "min") (fun xs H Q => ∃ i j, xs = [.int i, .int j] ∧ Q (.int (if j < i then j else i)) H) := by
  intro pins s σ H xs us Q I r h
  obtain ⟨i, j, rfl, q⟩ := h
  obtain ⟨u, w', rfl, ⟨t, rfl⟩, ⟨t', rfl⟩⟩ := vals2 r
  refine min_two_ints (I.ok.hd hc) fun h' tk k => ⟨_, H, I.kept k, ?_, q⟩
  by_cases hj : j < i
  · rw [if_pos hj, if_pos hj]; exact ⟨_, rfl⟩
  · rw [if_neg hj, if_neg hj]; exact ⟨_, rfl⟩
theorem call_int1 : CallR X (.type "int") (fun xs H Q => (∃ i, xs = [.int i] ∧ Q (.int i) H) ∨ ∃ k, xs = [.bl k] ∧ Q (.int (if k then 1 else 0)) H) := by
  intro pins s σ H xs us Q I r h
  rcases h with ⟨i, rfl, q⟩ | ⟨k, rfl, q⟩
  · obtain ⟨u, rfl, t, rfl⟩ := vals1 r
    exact call_int_int ⟨.int i, H, I, ⟨_, rfl⟩, q⟩
  · obtain ⟨u, rfl, r1⟩ := vals1 r
    cases r1
    exact call_int_bool ⟨.int (if k then 1 else 0), H, I.tok _, ⟨_, rfl⟩, q⟩
end
end L2

namespace L2
open PySem PySem.Spec PyProof.Rows

structure ObjM (h : Heap) (x dx C : Addr) (mA : Str → Option Value) : Prop where
  obj : h.get? x = some (PySem.W.instObj C dx)
  ns : h.Ns1 dx mA
  ne : dx ≠ x

theorem lookIn_ns {h : Heap} {dx : Addr} {mA : Str → Option Value} (n : h.Ns1 dx mA) : ∃ od, h.get? dx = some od ∧ ∀ name, PySem.W.lookIn name od = some (mA name) := by
  obtain ⟨o, es, ep, ho, hd, hk, _, hm⟩ := n
  refine ⟨o, ho, fun name => ?_⟩
  have e := hm name
  unfold nsFind findBy at e
  rw [← Array.find?_toList] at e
  unfold PySem.W.lookIn
  rw [hd]
  dsimp only
  split
  · rename_i y q
    rw [q] at e
    exact congrArg some e
  · rename_i q
    rw [q] at e
    have a : es.toList.any (·.refKey) = false := by
      rw [List.any_eq_false]
      intro y hy
      obtain ⟨z, t, hkey⟩ := hk y (Array.mem_toList_iff.mp hy)
      simp [DictEntry.refKey, hkey]
    have a' : ¬ es.toList.any (·.refKey) = true := by rw [a]; exact Bool.false_ne_true
    rw [if_neg a']
    exact congrArg some e

theorem ObjM.look {h : Heap} {x dx C : Addr} {mA : Str → Option Value} (I : ObjM h x dx C mA) : ∃ od, PySem.W.InstAt h x (PySem.W.instObj C dx) C (some od) ∧ ∀ name, PySem.W.lookIn name od = some (mA name) :=
  let ⟨od, ho, hl⟩ := lookIn_ns I.ns
  ⟨od, ⟨I.obj, rfl, rfl, ho⟩, hl⟩

section
variable {prog : Program} {w : World} {A : Around} {E : Value → Shared → Prop} {s : Shared} {K : PySem.W.Frag} {x dx C f : Addr} {mA : Str → Option Value} {name : Str} {v : Value}

theorem get_map {expr : Bool} {Q : Value → Shared → Prop} (X : K.In s.heap) (I : ObjM s.heap x dx C mA) (hg : PySem.W.plainGet K C name = true) (hh : PySem.W.hasDictIn K C = true)
    (ha : PySem.W.findIn K (.ref C) name = some none) (hv : mA name = some v) (hv' : PySem.W.handedIn v = true) (h : Q v { s with toks := s.toks + 1 }) :
    wpAny (model prog w) A (getAttr (.ref x) name expr) Q E s := by
  obtain ⟨od, J, hl⟩ := I.look
  exact PySem.W.get_value X J (PySem.W.plainGet_of hg).1 (PySem.W.findObj_own hh ha rfl (by rw [hl, hv])) hv' h

theorem set_map {ns : List Str} {Q : Unit → Shared → Prop} (X : K.In s.heap) (I : ObjM s.heap x dx C mA)
    (hs : PySem.W.findIn K (.ref C) "__setattr__" = some (some (.builtin "object.__setattr__"))) (hp : PySem.W.plainOver K C = true) (ht : PySem.W.takerIn K C name = some none) (hh : PySem.W.hasDictIn K C = true)
    (hw : PySem.Within mA ns) (hsz : ns.length ≤ sizeLine)
    (h : ∀ h', ObjM h' x dx C (fun y => if y = name then some v else mA y) → Heap.SameBut dx s.heap h' → Q () { s with heap := h', toks := s.toks + 2 }) :
    wpAny (model prog w) A (setAttr (.ref x) name v) Q E s := by
  obtain ⟨od, J, hl⟩ := I.look
  refine PySem.W.set_plain X J hs (PySem.W.osa_open (s := { s with toks := s.toks + 1 }) (r := none) X J hp ht fun b => ?_)
  obtain ⟨cd, hc, hd'⟩ := PySem.W.any_some hh
  have hx : s.heap.get? x = some ⟨.ref C, some dx, .plain, #[]⟩ := I.obj
  refine wpAny_bind (wpAny_pure (wpAny_bind (wpAny_bind (wpAny_loadPart hx (wpAny_bind (PySem.W.Looks.here (s := { s with toks := s.toks + 1 }) (PySem.W.looks_clsIn X hc) ?_))))))
  rw [hd']
  refine wpAny_pure (a := some dx) (wpAny_bind (wpAny_pure (wpAny_bind ?_)))
  refine wpAny_nsSet1 (s := { s with toks := s.toks + 1 }) I.ns fun h' hn2 hs2 => ?_
  obtain ⟨oD, esD, epD, hoD, hdD, hcD⟩ := hn2.count (PySem.Within.cons name v hw)
  refine wpAny_bind (wpAny_lookBehind hoD (by rw [hdD]; exact pastItsLine_dict (Nat.le_trans hcD (by rw [List.length_cons]; omega))) ?_)
  exact wpAny_pure (h _ ⟨(hs2.2 _ (Ne.symm I.ne)).trans I.obj, hn2, I.ne⟩ hs2)

theorem make_map {R : Result → Shared → Prop} {vs : List Value} {kw : List (Str × Value)} (X : K.In s.heap) (hm : PySem.W.makesIn K C = true)
    (hi : PySem.W.findIn K (.ref C) "__init__" = some (some (.ref f))) (hf : PySem.W.typeIn K (.ref f) = some (.type "function"))
    (h : codeAny (model prog w) (A.under (.builtin "type.__call__" ⟨.ref C :: vs, kw⟩)) (.call (.ref f) ⟨.ref (s.heap.objs.size + 1) :: vs, kw⟩) (PySem.W.InitBack (s.heap.objs.size + 1) R)
      { s with heap := (s.heap.push PySem.W.emptyDict).push (PySem.W.instObj C s.heap.objs.size) }) :
    codeAny (model prog w) A (.call (.ref C) ⟨vs, kw⟩) R s := by
  obtain ⟨hh, g, d, t, os⟩ := s
  exact PySem.W.make_core (PySem.W.makes_of X hm) (PySem.W.looks_findIn X hi) (fun self => PySem.W.bind_fn X self hf) (.inl rfl) h
end

def putF (f : Str) (v : V) : List (Str × V) → List (Str × V)
  | [] => [(f, v)]
  | (g, x) :: r => if g = f then (g, v) :: r else (g, x) :: putF f v r
theorem lookup_putF (f g : Str) (v : V) : ∀ fs : List (Str × V), (putF f v fs).lookup g = if g = f then some v else fs.lookup g
  | [] => by
    show List.lookup g [(f, v)] = _
    by_cases h : g = f
    · have hb : (g == f) = true := beq_iff_eq.mpr h
      simp only [List.lookup, hb, if_pos h]
    · have hb : (g == f) = false := beq_eq_false_iff_ne.mpr h
      simp only [List.lookup, hb, if_neg h]
  | (k, x) :: r => by
    have ih := lookup_putF f g v r
    rw [show putF f v ((k, x) :: r) = (if k = f then (k, v) :: r else (k, x) :: putF f v r) from rfl]
    by_cases hk : k = f
    · rw [if_pos hk]
      by_cases h : g = k
      · have hb : (g == k) = true := beq_iff_eq.mpr h
        simp only [List.lookup, hb, if_pos (h.trans hk)]
      · have hb : (g == k) = false := beq_eq_false_iff_ne.mpr h
        simp only [List.lookup, hb, if_neg (fun e : g = f => h (e.trans hk.symm))]
    · rw [if_neg hk]
      by_cases h : g = k
      · have hb : (g == k) = true := beq_iff_eq.mpr h
        simp only [List.lookup, hb, if_neg (fun e : g = f => hk (h.symm.trans e))]
      · have hb : (g == k) = false := beq_eq_false_iff_ne.mpr h
        simp only [List.lookup, hb]
        exact ih
theorem keys_putF (f : Str) (v : V) : ∀ fs : List (Str × V), f ∈ (putF f v fs).map (·.1) ∧ ∀ g, g ∈ fs.map (·.1) → g ∈ (putF f v fs).map (·.1)
  | [] => ⟨by simp [putF], fun g h => by simp at h⟩
  | (k, x) :: r => by
    obtain ⟨i1, i2⟩ := keys_putF f v r
    rw [show putF f v ((k, x) :: r) = (if k = f then (k, v) :: r else (k, x) :: putF f v r) from rfl]
    by_cases hk : k = f
    · rw [if_pos hk]
      subst hk
      exact ⟨by simp, fun g h => by simpa using h⟩
    · rw [if_neg hk]
      refine ⟨?_, fun g h => ?_⟩
      · rw [List.map_cons]
        exact List.mem_cons_of_mem _ i1
      · rw [List.map_cons] at h ⊢
        rcases List.mem_cons.mp h with e | e
        · exact List.mem_cons.mpr (.inl e)
        · exact List.mem_cons_of_mem _ (i2 g e)
theorem length_putF (f : Str) (v : V) : ∀ fs : List (Str × V), (putF f v fs).length ≤ fs.length + 1
  | [] => by simp [putF]
  | (k, x) :: r => by
    have ih := length_putF f v r
    rw [show putF f v ((k, x) :: r) = (if k = f then (k, v) :: r else (k, x) :: putF f v r) from rfl]
    by_cases hk : k = f
    · rw [if_pos hk, List.length_cons, List.length_cons]; omega
    · rw [if_neg hk, List.length_cons, List.length_cons]; omega

theorem RelO.some_of {v : V} {o : Option Value} (r : RelO (some v) o) : ∃ u, o = some u ∧ RelV v u := by
  cases o with
  | none => exact (show False from r).elim
  | some u => exact ⟨u, rfl, r⟩
theorem handed_of {v : V} {u : Value} (r : RelV v u) : PySem.W.handedIn u = true := by
  cases v with
  | non => cases (show u = Value.none from r); rfl
  | bl b => cases (show u = Value.bool b from r); rfl
  | int i => obtain ⟨t, e⟩ := (show ∃ t, u = Value.int i t from r); cases e; rfl
  | str x => obtain ⟨t, e⟩ := (show ∃ t, u = Value.str x t from r); cases e; rfl
  | byt b => obtain ⟨t, e⟩ := (show ∃ t, u = Value.bytes b t from r); cases e; rfl
  | flt b => obtain ⟨t, e⟩ := (show ∃ t, u = Value.float b t from r); cases e; rfl
  | ref a => cases (show u = Value.ref a from r); rfl
  | ty n => cases (show u = Value.type n from r); rfl

section
variable {P : Program} {w : World} {H H' : Hp} {h h' : Heap} {a C dx : Addr} {fs fs' : List (Str × V)}
theorem ins_get (hok : HOk P w H h) (e : H a = some (.ins C dx fs)) : ∃ mA, ObjM h a dx C mA ∧ (∀ f, RelO (fs.lookup f) (mA f)) ∧ PySem.Within mA (fs.map (·.1)) ∧ fs.length ≤ 1000 ∧ H dx = some (.own a) := by
  obtain ⟨d, z, ne, ob, mA, n, r, q⟩ := (show ObjOk P w H h a (.ins C dx fs) from hok a _ e)
  exact ⟨mA, ⟨ob, n, ne⟩, r, q, z, d⟩
end

structure Cls (K : PySem.W.Frag) (C : Addr) : Prop where
  pg : PySem.W.plainGet K C Str.empty = true
  hd : PySem.W.hasDictIn K C = true
  po : PySem.W.plainOver K C = true
  sa : PySem.W.findIn K (.ref C) "__setattr__" = some (some (.builtin "object.__setattr__"))
theorem Cls.get {K : PySem.W.Frag} {C : Addr} (c : Cls K C) (f : Str) : PySem.W.plainGet K C f = true := c.pg
def NoAttr (K : PySem.W.Frag) (C : Addr) (f : Str) : Prop := PySem.W.findIn K (.ref C) f = some none
theorem NoAttr.taker {K : PySem.W.Frag} {C : Addr} {f : Str} (n : NoAttr K C f) : PySem.W.takerIn K C f = some none := by
  unfold PySem.W.takerIn
  rw [show PySem.W.findIn K (.ref C) f = some none from n]
  rfl
structure Con (K : PySem.W.Frag) (C : Addr) (f : Str) (v : V) (u : Value) : Prop where
  at_ : PySem.W.findIn K (.ref C) f = some (some u)
  rel : RelV v u
  get : PySem.W.specialIn K u "__get__" = some none
  cp : PySem.W.copiedNames.contains f = false
structure Meth (K : PySem.W.Frag) (C : Addr) (m : Str) (f : Addr) : Prop where
  at_ : PySem.W.findIn K (.ref C) m = some (some (.ref f))
  fn : PySem.W.isFn K (.ref f) = true
  kp : PySem.W.keepIn K (.ref f) = true

section
variable {X : Cx} {pins : List (Addr × Obj)} {σ : St} {H : Hp} {s : Shared} {a C dx : Addr} {fs : List (Str × V)} {f : Str} {v : V} {A : Around} {E : Value → Shared → Prop}

theorem getattr_ok {b : Bool} {Q : Value → Shared → Prop} (I : Inv X pins σ H s) (e : H a = some (.ins C dx fs)) (c : Cls X.K C) (n : NoAttr X.K C f) (l : fs.lookup f = some v)
    (h : ∀ u s', Inv X pins σ H s' → RelV v u → Q u s') : wpAny (model X.prog X.w) A (getAttr (.ref a) f b) Q E s := by
  obtain ⟨mA, O, r, _, _, _⟩ := ins_get I.hok e
  obtain ⟨u, hu, ru⟩ := RelO.some_of (v := v) (o := mA f) (by rw [← l]; exact r f)
  exact get_map I.kIn O (c.get f) c.hd n hu (handed_of ru) (h u _ (I.tok _) ru)

theorem setattr_ok {y : V} {u : Value} {Q : Unit → Shared → Prop} (I : Inv X pins σ H s) (e : H a = some (.ins C dx fs)) (c : Cls X.K C) (n : NoAttr X.K C f) (hl : fs.length < 1000) (ry : RelV y u)
    (h : ∀ s', Inv X pins σ (upd H a (.ins C dx (putF f y fs))) s' → Q () s') : wpAny (model X.prog X.w) A (setAttr (.ref a) f u) Q E s := by
  obtain ⟨mA, O, r, wi, _, ho⟩ := ins_get I.hok e
  have hz : (fs.map (·.1)).length ≤ sizeLine := by rw [List.length_map, sizeLine_eq]; omega
  refine set_map I.kIn O c.sa c.po n.taker c.hd wi hz fun h' O' sb => h _ ?_
  have hd : ∃ o, h'.get? dx = some o := let ⟨o, _, _, e', _⟩ := O'.ns; ⟨o, e'⟩
  refine I.write (x := a) (e := dx) (by rw [e]; exact True.intro) (.inr ho) (fun b q hb z => (sb.2 b hb).trans z) hd ?_
  refine ⟨by rw [upd_ne O.ne]; exact ho, ?_, O.ne, O'.obj, _, O'.ns, fun g => ?_, fun g hg => ?_⟩
  · have := length_putF f y fs; omega
  · show RelO ((putF f y fs).lookup g) (if g = f then some u else mA g)
    rw [lookup_putF]
    by_cases q : g = f
    · rw [if_pos q, if_pos q]; exact ry
    · rw [if_neg q, if_neg q]; exact r g
  · by_cases q : g = f
    · rw [q]; exact (keys_putF f y fs).1
    · refine (keys_putF f y fs).2 g (wi g fun z => hg ?_)
      show (if g = f then some u else mA g) = none
      rw [if_neg q]; exact z

theorem Inv.made (I : Inv X pins σ H s) : Inv X pins σ (upd (upd H s.heap.objs.size (.own (s.heap.objs.size + 1))) (s.heap.objs.size + 1) (.ins C s.heap.objs.size []))
    { s with heap := (s.heap.push PySem.W.emptyDict).push (PySem.W.instObj C s.heap.objs.size) } := by
  have e1 : (s.heap.push PySem.W.emptyDict).get? s.heap.objs.size = some PySem.W.emptyDict := Heap.get?_push_size s.heap rfl
  have e2 : ((s.heap.push PySem.W.emptyDict).push (PySem.W.instObj C s.heap.objs.size)).get? (s.heap.objs.size + 1) = some (PySem.W.instObj C s.heap.objs.size) := by
    have := Heap.get?_push_size (s.heap.push PySem.W.emptyDict) (o := PySem.W.instObj C s.heap.objs.size) rfl
    rwa [Heap.size_push] at this
  have e3 : (s.heap.push PySem.W.emptyDict).Ns s.heap.objs.size (fun _ => none) := ⟨PySem.W.emptyDict, #[], _, e1, rfl, (fun e he => absurd he (by simp)), fun _ => rfl⟩
  have I1 := I.laid (a := s.heap.objs.size) (o := .own (s.heap.objs.size + 1)) (h' := s.heap.push PySem.W.emptyDict) (t' := s.toks) (fun b u q => Heap.get?_push_of_some _ q) (Nat.le_refl _) ⟨_, e1⟩
  refine I1.laid (a := s.heap.objs.size + 1) (o := .ins C s.heap.objs.size []) (t' := s.toks) (fun b u q => Heap.get?_push_of_some _ q) (Nat.le_of_eq (Heap.size_push _ _)) ?_
  have ne : s.heap.objs.size ≠ s.heap.objs.size + 1 := Nat.ne_of_lt (Nat.lt_succ_self _)
  refine ⟨by rw [upd_ne ne, upd_same], Nat.zero_le _, ne, e2, fun _ => none, (Heap.Ns1.of_empty e3).at fun o q => Heap.get?_push_of_some _ q, fun _ => True.intro, fun y hy => absurd rfl hy⟩

theorem attr_of {prog : Program} {w : World} {env : Env} {e : Expr} {f : Str} {pos : Pos} {s : Shared} {Q : Value → Shared → Prop} (hb : attributeBase e f env (eval e env) = eval e env)
    (h : wpAny (model prog w) A (eval e env) (fun o s₁ => wpAny (model prog w) A (getAttr o f true) Q E s₁) E s) : wpAny (model prog w) A (eval (.Attribute e f pos) env) Q E s :=
  Attribute_any_ h (by rw [arm_eval_Attribute, hb])
end

def tFld (K : PySem.W.Frag) (ta : TE) (f : Str) : TE := fun σ H Q => ta σ H fun x H1 => ∃ a C dx fs v, x = .ref a ∧ H1 a = some (.ins C dx fs) ∧ Cls K C ∧ NoAttr K C f ∧ fs.lookup f = some v ∧ Q v H1
def sFld (K : PySem.W.Frag) (ta tv : TE) (f : Str) : TS := fun D σ H => tv σ H fun y H1 => ta σ H1 fun x H2 => ∃ a C dx fs, x = .ref a ∧ H2 a = some (.ins C dx fs) ∧ Cls K C ∧ NoAttr K C f ∧ fs.length < 1000 ∧
  D.nx σ (upd H2 a (.ins C dx (putF f y fs)))
section
variable {X : Cx} {o e value : Expr} {f : Str} {pos pos' tpos : Pos} {ta tv : TE}
theorem pe_fld (he : PE X e ta) (hb : attributeBase e f X.env (eval e X.env) = eval e X.env) : PE X (.Attribute e f pos) (tFld X.K ta f) := by
  intro pins s σ H Q I h
  refine attr_of hb (thn (he pins s σ H _ I h) fun u s1 ⟨x, H1, I1, rx, a, C, dx, fs, v, ex, ea, c, n, l, q⟩ => ?_)
  subst ex
  obtain rfl : u = Value.ref a := rx
  exact getattr_ok I1 ea c n l fun u' s2 I2 ru => ⟨v, H1, I2, ru, q⟩
theorem ps_fld (ha : PE X o ta) (hv : PE X value tv) (hs : swapsWith value (some (.Attribute o f pos')) pos.line X.env = pure false) : PS X (.Assign [.Attribute o f pos'] value pos) (sFld X.K ta tv f) := by
  intro pins s σ H D I h
  refine plainObj_wpAny_Assign_Attribute (thn (hv pins s σ H _ I h) fun u s1 ⟨y, H1, I1, ry, q⟩ => thn (ha pins s1 σ H1 _ I1 q) fun ov s2 ⟨x, H2, I2, rx, a, C, dx, fs, ex, ea, c, n, l, q2⟩ => ?_) hs
  subst ex
  obtain rfl : ov = Value.ref a := rx
  exact setattr_ok I2 ea c n l ry fun s3 I3 => ⟨σ, _, I3, q2⟩
end

section
variable {X : Cx} {pins : List (Addr × Obj)} {σ : St} {H : Hp} {s : Shared} {A : Around} {E : Value → Shared → Prop} {Q : Value → Shared → Prop} {c : Value} {b : Bool}
inductive TyOf (K : PySem.W.Frag) (H : Hp) : V → Value → Prop where
  | non : TyOf K H .non (.type "NoneType")
  | bl (x : Bool) : TyOf K H (.bl x) (.type "bool")
  | int (i : Int) : TyOf K H (.int i) (.type "int")
  | str (x : Str) : TyOf K H (.str x) (.type "str")
  | flt (x : UInt64) : TyOf K H (.flt x) (.type "float")
  | lst {a : Addr} {xs : List V} (e : H a = some (.lst xs)) : TyOf K H (.ref a) (.type "list")
  | frz {a : Addr} {o : Obj} {xs : List V} (e : H a = some (.frz o (.lst xs))) : TyOf K H (.ref a) (.type "list")
  | tup {a : Addr} {xs : List V} (e : H a = some (.tup xs)) : TyOf K H (.ref a) (.type "tuple")
  | dK {a : Addr} {kvs : List (Key × V)} (e : H a = some (.dK kvs)) : TyOf K H (.ref a) (.type "dict")
  | dT {a : Addr} {kvs : List (List Key × V)} (e : H a = some (.dT kvs)) : TyOf K H (.ref a) (.type "dict")
  | ins {a C dx : Addr} {fs : List (Str × V)} (e : H a = some (.ins C dx fs)) (cl : Cls K C) (ha : PySem.W.findIn K (.ref C) "__class__" = some (some (.builtin "object.__class__")))
      (hn : PySem.W.specialIn K (.builtin "object.__class__") "__get__" = some (some (.builtin "getset_descriptor.__get__"))) (htk : PySem.W.takesIn K (.builtin "object.__class__") = some true)
      (hm : PySem.W.mroIn K C (.type "object") = some true) : TyOf K H (.ref a) (.ref C)
theorem isinst_ok {x : V} {u t : Value} (I : Inv X pins σ H s) (rx : RelV x u) (ty : TyOf X.K H x t) (e : PySem.W.kitOne X.K t c = some b) (h : ∀ tk, Q (.bool b) { s with toks := tk }) :
    wpAny (model X.prog X.w) A (call (.builtin "isinstance") [u, c]) Q E s := by
  cases ty with
  | non => cases (show u = Value.none from rx); exact PySem.W.kia_one PySem.W.kitx_none I.kIn True.intro e (fun z => nomatch z) h
  | bl y => cases (show u = Value.bool y from rx); exact PySem.W.kia_one PySem.W.kitx_bool I.kIn True.intro e (fun z => nomatch z) h
  | int i => obtain ⟨t, q⟩ := (show ∃ t, u = Value.int i t from rx); cases q; exact PySem.W.kia_one PySem.W.kitx_int I.kIn True.intro e (fun z => nomatch z) h
  | str y => obtain ⟨t, q⟩ := (show ∃ t, u = Value.str y t from rx); cases q; exact PySem.W.kia_one PySem.W.kitx_str I.kIn True.intro e (fun z => nomatch z) h
  | flt y => obtain ⟨t, q⟩ := (show ∃ t, u = Value.float y t from rx); cases q; exact PySem.W.kia_one PySem.W.kitx_float I.kIn True.intro e (fun z => nomatch z) h
  | @lst a xs ea =>
    cases (show u = Value.ref a from rx)
    obtain ⟨_, _, n, _, h1⟩ := (show ObjOk X.prog X.w H s.heap a (.lst xs) from I.hok a _ ea)
    exact PySem.W.kia_one PySem.W.kitx_list I.kIn ⟨_, h1, rfl⟩ e (fun z => nomatch z) h
  | @frz a ob xs ea =>
    cases (show u = Value.ref a from rx)
    obtain ⟨_, _, _, n, _, h1⟩ := (show ObjOk X.prog X.w H s.heap a (.frz ob (.lst xs)) from I.hok a _ ea)
    exact PySem.W.kia_one PySem.W.kitx_list I.kIn ⟨_, h1, rfl⟩ e (fun z => nomatch z) h
  | @tup a xs ea =>
    cases (show u = Value.ref a from rx)
    obtain ⟨_, _, _, p⟩ := (show ObjOk X.prog X.w H s.heap a (.tup xs) from I.hok a _ ea)
    obtain ⟨o, h1, h2, _⟩ := p
    exact PySem.W.kia_one PySem.W.kitx_tuple I.kIn ⟨o, h1, h2⟩ e (fun z => nomatch z) h
  | @dK a kvs ea =>
    cases (show u = Value.ref a from rx)
    obtain ⟨_, _, vs, _, p⟩ := (show ObjOk X.prog X.w H s.heap a (.dK kvs) from I.hok a _ ea)
    obtain ⟨o, es, ep, h1, h2, _⟩ := p
    exact PySem.W.kia_one PySem.W.kitx_dict I.kIn ⟨o, h1, h2.1⟩ e (fun z => nomatch z) h
  | @dT a kvs ea =>
    cases (show u = Value.ref a from rx)
    obtain ⟨_, _, xs, _, o, es, ep, h1, h2, _⟩ := (show ObjOk X.prog X.w H s.heap a (.dT kvs) from I.hok a _ ea)
    exact PySem.W.kia_one PySem.W.kitx_dict I.kIn ⟨o, h1, h2.1⟩ e (fun z => nomatch z) h
  | @ins a C dx fs ea cl ha hn htk hm =>
    cases (show u = Value.ref a from rx)
    obtain ⟨mA, O, _⟩ := ins_get I.hok ea
    obtain ⟨od, J, _⟩ := O.look
    exact PySem.W.kia_one (PySem.W.kitx_own (cl.get _) cl.hd ha hn htk hm) I.kIn J e (fun z => nomatch z) h
end
end L2

namespace L2
open PySem PySem.Spec PyProof.Rows

structure Room (k : Nat) (A : Around) : Prop where
  hd : A.handled = none
  dp : A.depth + 3 * k + 5 < recursionLimit
  un : A.units + 16 * k + 200 < cLine
theorem Room.mono {j k : Nat} {A : Around} (r : Room k A) (h : j ≤ k) : Room j A := ⟨r.hd, by have := r.dp; omega, by have := r.un; omega⟩
theorem Room.deeper {k : Nat} {A : Around} (r : Room (k + 1) A) (env : Env) : Room k (A.deeper env) :=
  ⟨r.hd, by have := r.dp; show A.depth + 1 + 3 * k + 5 < _; omega, by have := r.un; show A.units + 3 + 16 * k + 200 < _; omega⟩
theorem Room.in1 {k : Nat} {A : Around} (r : Room (k + 1) A) : Room k A.in1 :=
  ⟨r.hd, by have := r.dp; show A.depth + 3 * k + 5 < _; omega, by have := r.un; show A.units + 1 + 16 * k + 200 < _; omega⟩
theorem make_depth {A : Around} {C : Addr} {us : List Value} {kw : List (Str × Value)} : (A.under (.builtin "type.__call__" ⟨.ref C :: us, kw⟩)).depth = A.depth + 1 := by
  first | rfl | simp [Around.under, Code.weight, Code.isCreation, Code.isGuard, Code.isCaller, Code.frames, Code.isFrame, guardIds]
theorem make_units {A : Around} {C : Addr} {us : List Value} {kw : List (Str × Value)} : (A.under (.builtin "type.__call__" ⟨.ref C :: us, kw⟩)).units = A.units + 1 := by
  first | rfl | simp [Around.under, Code.cUnits, Code.frames, Code.isFrame]
theorem Room.make {k : Nat} {A : Around} (r : Room (k + 1) A) (C : Addr) (us : List Value) (kw : List (Str × Value)) : Room k (A.under (.builtin "type.__call__" ⟨.ref C :: us, kw⟩)) :=
  ⟨r.hd, by have := r.dp; rw [make_depth]; omega, by have := r.un; rw [make_units]; omega⟩
theorem Room.depth {k : Nat} {A : Around} (r : Room k A) : A.depth < recursionLimit := by have := r.dp; omega
theorem Room.units {k : Nat} {A : Around} (r : Room k A) : A.units + 64 < cLine := by have := r.un; omega
def tNil : TA := fun _ H Q => Q [] H
def tCons (ta : TE) (tr : TA) : TA := fun σ H Q => ta σ H fun x H1 => tr σ H1 fun xs H2 => Q (x :: xs) H2
section
variable {X : Cx} {e : Expr} {es : List Expr} {te : TE} {t : TA} {pos : Pos}
theorem pa_nil : PA X [] tNil := fun _ _ _ _ H Q I h => Calls.spliced_nil ⟨[], H, I, .nil, h⟩
theorem pa_cons (ha : PE X e te) (hr : PA X es t) (hs : starEach (e :: es) X.env = (false, eval e X.env) :: starEach es X.env := by rfl) : PA X (e :: es) (tCons te t) := by
  intro pos pins s σ H Q I h
  rw [hs]
  show wpAny _ _ (spliced ((false, eval e X.env) :: backTo pos (starEach es X.env))) _ _ s
  refine Calls.spliced_cons (thn (ha pins s σ H _ I h) fun u s1 ⟨x, H1, I1, r1, q1⟩ => ?_)
  exact thn (hr pos pins s1 σ H1 _ I1 q1) fun us s2 ⟨xs, H2, I2, r2, q2⟩ => ⟨x :: xs, H2, I2, .cons r1 r2, q2⟩

def tTup (t : TA) : TE := fun σ H Q => t σ H fun xs H1 => xs.length ≤ sizeLine ∧ ∀ p, H1 p = none → Q (.ref p) (upd H1 p (.tup xs))
def tLst (t : TA) : TE := fun σ H Q => t σ H fun xs H1 => xs.length ≤ sizeLine ∧ ∀ p, H1 p = none → Q (.ref p) (upd H1 p (.lst xs))
theorem pe_tup {x1} (h : PA X es t) : PE X (.Tuple es x1 pos) (tTup t) := by
  intro pins s σ H Q I hq
  refine wpAny_Tuple_spliced (thn (h pos pins s σ H _ I hq) fun us s1 ⟨xs, H1, I1, r, z, q⟩ => ⟨by rw [← r.length]; exact z, ?_⟩)
  have hf : H1 s1.heap.objs.size = none := I1.hok.fresh (Nat.le_refl _)
  refine ⟨.ref s1.heap.objs.size, upd H1 s1.heap.objs.size (.tup xs), I1.laid (t' := s1.toks) (fun b u e => Heap.get?_push_of_some _ e) (Nat.le_refl _) ?_, rfl, q _ hf⟩
  exact ⟨z, us, r, ⟨_, Heap.get?_push_size _ rfl, rfl, _, rfl⟩⟩
theorem pe_lst (h : PA X es t) : PE X (.List es pos) (tLst t) := by
  intro pins s σ H Q I hq
  refine wpAny_List_spliced (thn (h pos pins s σ H _ I hq) fun us s1 ⟨xs, H1, I1, r, z, q⟩ => ⟨by rw [← r.length]; exact z, ?_⟩)
  have hf : H1 s1.heap.objs.size = none := I1.hok.fresh (Nat.le_refl _)
  refine ⟨.ref s1.heap.objs.size, upd H1 s1.heap.objs.size (.lst xs), I1.laid (t' := s1.toks) (fun b u e => Heap.get?_push_of_some _ e) (Nat.le_refl _) ?_, rfl, q _ hf⟩
  exact ⟨z, us, 0, r, Heap.get?_push_size _ rfl⟩
end

abbrev Sp := List V → Hp → VK → XK → Prop
abbrev CXT := List Env → Hp → Shared → XK → Value → Shared → Prop

structure Env0 (P : Program) (w : World) (K : PySem.W.Frag) (mg : Str → Option Value) (base : Heap) (A : Around) (outer : List Env) (s : Shared) (H : Hp) : Prop where
  frames : A.frames = some outer
  mod : Mod K mg base
  bs : ∀ b o, base.get? b = some o → s.heap.get? b = some o ∧ H b = none
  bsz : base.objs.size ≤ s.heap.objs.size
  funs : s.heap.FunFrames base outer
  frf : ∀ b ∈ frs outer, H b = none
  hok : HOk P w H s.heap
  bare : AllBare s.gens
def CE (outer : List Env) (P : Program) (w : World) (H : Hp) (s : Shared) (Q : VK) (u : Value) (s' : Shared) : Prop :=
  ∃ v H', s'.os = s.os ∧ AllBare s'.gens ∧ Un (frs outer) [] H H' s.heap s'.heap ∧ HOk P w H' s'.heap ∧ RelV v u ∧ Q v H'
def CR (CX : CXT) (outer : List Env) (P : Program) (w : World) (H : Hp) (s : Shared) (Q : VK) (E : XK) (r : Result) (s' : Shared) : Prop :=
  match r with
  | .ok (.ret u) => CE outer P w H s Q u s'
  | .ok _ => False
  | .error e => CX outer H s E e s'
structure FnOk (P : Program) (w : World) (K : PySem.W.Frag) (mg : Str → Option Value) (base : Heap) (CX : CXT) (k : Nat) (f : Addr) (fd : FuncData) (ps : List Str) (sp : Sp) : Prop where
  len : ∀ vs H Q E, sp vs H Q E → vs.length = ps.length
  run : ∀ (A : Around) (outer : List Env) (s : Shared) (H : Hp) (args : Args) (us : List Value) (vs : List V) (Q : VK) (E : XK), Room k A → Env0 P w K mg base A outer s H → BindsTo s fd args (ps.zip us) → Vals vs us → sp vs H Q E →
    codeAny (model P w) A (.call (.ref f) args) (CR CX outer P w H s Q E) s
theorem FnOk.mono {P : Program} {w : World} {K : PySem.W.Frag} {mg : Str → Option Value} {base : Heap} {CX : CXT} {j k : Nat} {f : Addr} {fd : FuncData} {ps : List Str} {sp : Sp} (F : FnOk P w K mg base CX j f fd ps sp) (h : j ≤ k) :
    FnOk P w K mg base CX k f fd ps sp := ⟨F.len, fun A outer s H args us vs Q E hr => F.run A outer s H args us vs Q E (hr.mono h)⟩
theorem FnOk.imp {P : Program} {w : World} {K : PySem.W.Frag} {mg : Str → Option Value} {base : Heap} {CX : CXT} {k : Nat} {f : Addr} {fd : FuncData} {ps : List Str} {sp sp' : Sp} (F : FnOk P w K mg base CX k f fd ps sp)
    (h : ∀ vs H Q E, sp' vs H Q E → sp vs H Q E) : FnOk P w K mg base CX k f fd ps sp' :=
  ⟨fun vs H Q E q => F.len vs H Q E (h _ _ _ _ q), fun A outer s H args us vs Q E hr he hb hv hs => F.run A outer s H args us vs Q E hr he hb hv (h _ _ _ _ hs)⟩

theorem Env0.make {P : Program} {w : World} {K : PySem.W.Frag} {mg : Str → Option Value} {base : Heap} {A : Around} {outer : List Env} {s : Shared} {H : Hp} (e : Env0 P w K mg base A outer s H) (C : Addr) (us : List Value) (kw : List (Str × Value)) :
    Env0 P w K mg base (A.under (.builtin "type.__call__" ⟨.ref C :: us, kw⟩)) outer s H := ⟨by first | exact e.frames | (simpa [Around.under, Code.envs, Code.isFrame, pushEnvs] using e.frames), e.mod, e.bs, e.bsz, e.funs, e.frf, e.hok, e.bare⟩
theorem Env0.in1 {P : Program} {w : World} {K : PySem.W.Frag} {mg : Str → Option Value} {base : Heap} {A : Around} {outer : List Env} {s : Shared} {H : Hp} (e : Env0 P w K mg base A outer s H) :
    Env0 P w K mg base A.in1 outer s H := ⟨e.frames, e.mod, e.bs, e.bsz, e.funs, e.frf, e.hok, e.bare⟩

section
variable {X : Cx} {pins : List (Addr × Obj)} {σ : St} {H : Hp} {s s' : Shared}
theorem Inv.env0 (I : Inv X pins σ H s) : Env0 X.prog X.w X.K X.mg X.base X.A X.stack s H :=
  ⟨I.ok.frames, I.ok.mod, I.bs, Nat.le_trans I.ok.bsz I.sz, I.stack, I.stkFree, I.hok, I.bare⟩
theorem Inv.after {Q : VK} {u : Value} (I : Inv X pins σ H s) (h : CE X.stack X.prog X.w H s Q u s') : EP X pins σ Q u s' := by
  obtain ⟨v, H', os, bare, un, hok, r, q⟩ := h
  obtain ⟨hh, g, d, t, os'⟩ := s'
  obtain rfl : os' = s.os := os
  exact ⟨v, H', I.call (h' := hh) (g' := g) (d' := d) (t' := t) (ch := []) un hok bare (fun b z => absurd z (by simp)), r, q⟩
end

def tCall (sp : Sp) (dvs : List V) (E : XK) (t : TA) : TE := fun σ H Q => t σ H fun vs H1 => sp (vs ++ dvs) H1 Q E
def tMake (C : Addr) (sp : Sp) (dvs : List V) (E : XK) (t : TA) : TE := fun σ H Q => t σ H fun vs H1 => ∀ x dx, H1 x = none → H1 dx = none → dx ≠ x →
  sp (.ref x :: (vs ++ dvs)) (upd (upd H1 dx (.own x)) x (.ins C dx [])) (fun v H2 => v = .non ∧ Q (.ref x) H2) E

def Binds (K : PySem.W.Frag) (fd : FuncData) (ps : List Str) (ds : List Value) : Prop :=
  ∀ (s : Shared) (us : List Value), K.In s.heap → (us ++ ds).length = ps.length → BindsTo s fd ⟨us, []⟩ (ps.zip (us ++ ds))
theorem Binds.all {K : PySem.W.Frag} {fd : FuncData} {ps : List Str} (h : ∀ us : List Value, us.length = ps.length → bindArgs fd ⟨us, []⟩ = pure (ps.zip us)) : Binds K fd ps [] := fun s us _ hl => by
  rw [List.append_nil] at hl ⊢
  exact .of_eq (h us hl)

def Passes (CX : CXT) (X : Cx) (E : XK) : Prop := ∀ (pins : List (Addr × Obj)) (σ : St) (H : Hp) (s : Shared) (e : Value) (s' : Shared), Inv X pins σ H s → CX X.stack H s E e s' → X.xe e s'

section
variable {X : Cx} {CX : CXT} {k : Nat} {f C : Addr} {fd : FuncData} {ps : List Str} {sp : Sp} {dvs : List V} {ds : List Value} {E : XK} {x m : Str} {p pos apos : Pos} {e o : Expr} {es : List Expr} {ta : TE} {t : TA}

theorem run_fn {pins : List (Addr × Obj)} {σ : St} {H : Hp} {s : Shared} {Q : VK} {us : List Value} {vs : List V} (F : FnOk X.prog X.w X.K X.mg X.base CX k f fd ps sp) (hr : Room k X.A) (hb : Binds X.K fd ps ds) (hd : Vals dvs ds) (hx : Passes CX X E)
    (I : Inv X pins σ H s) (r : Vals vs us) (h : sp (vs ++ dvs) H Q E) : wpAny (model X.prog X.w) X.A (call (.ref f) us) (EP X pins σ Q) X.xe s := by
  have r2 : Vals (vs ++ dvs) (us ++ ds) := r.append hd
  have hl : (us ++ ds).length = ps.length := by rw [← r2.length]; exact F.len _ _ _ _ h
  refine wpAny_call (codeAny_mono (F.run X.A X.stack s H ⟨us, []⟩ (us ++ ds) (vs ++ dvs) Q E hr I.env0 (hb s us I.kIn hl) r2 h) fun r s' hq => ?_)
  cases r with
  | error e => exact hx pins σ H s e s' I hq
  | ok fl =>
    cases fl with
    | ret u => exact I.after hq
    | next => exact False.elim hq
    | brk => exact False.elim hq
    | cont => exact False.elim hq

theorem pe_call (F : FnOk X.prog X.w X.K X.mg X.base CX k f fd ps sp) (hr : Room k X.A) (hg : Gl X x) (hm : X.mg x = some (.ref f)) (hk : PySem.W.keepIn X.K (.ref f) = true) (hb : Binds X.K fd ps ds) (hd : Vals dvs ds) (hx : Passes CX X E)
    (ha : PA X (e :: es) t) (hdb : (x == ("__debug__" : Str)) = false := by decide) (he : starEach (e :: es) X.env = (false, eval e X.env) :: starEach es X.env := by rfl) (hpl : (backTo pos (starEach es X.env)).any (·.1) = false := by rfl) :
    PE X (.Call (.Name x p) (e :: es) [] pos) (tCall sp dvs E t) := by
  intro pins s σ H Q I h
  refine wpAny_Call_Name_kw (ld_glob I hg hm ?_ hdb)
  refine PySem.W.callWith_K (h₀ := X.base) I.ok.mod.kin hk (thn (ha pos pins s σ H _ I h) fun us s1 ⟨vs, H1, I1, r, q⟩ => ⟨I1.kIn, ?_⟩) he hpl
  exact run_fn F hr hb hd hx I1 r q
structure Mk (K : PySem.W.Frag) (C f : Addr) : Prop where
  makes : PySem.W.makesIn K C = true
  init : PySem.W.findIn K (.ref C) "__init__" = some (some (.ref f))
  fn : PySem.W.isFn K (.ref f) = true
  kp : PySem.W.keepIn K (.ref C) = true

theorem run_make {pins : List (Addr × Obj)} {σ : St} {H : Hp} {s : Shared} {Q : VK} {us : List Value} {vs : List V} (M : Mk X.K C f) (F : FnOk X.prog X.w X.K X.mg X.base CX k f fd ps sp) (hr : Room (k + 1) X.A) (hb : Binds X.K fd ps ds) (hd : Vals dvs ds)
    (hx : Passes CX X E) (I : Inv X pins σ H s) (r : Vals vs us)
    (h : ∀ x dx, H x = none → H dx = none → dx ≠ x → sp (.ref x :: (vs ++ dvs)) (upd (upd H dx (.own x)) x (.ins C dx [])) (fun v H2 => v = .non ∧ Q (.ref x) H2) E) :
    wpAny (model X.prog X.w) X.A (call (.ref C) us) (EP X pins σ Q) X.xe s := by
  have hq := h (s.heap.objs.size + 1) s.heap.objs.size (I.hok.fresh (Nat.le_succ _)) (I.hok.fresh (Nat.le_refl _)) (Nat.ne_of_lt (Nat.lt_succ_self _))
  have I2 := Inv.made (C := C) I
  have r2 : Vals (V.ref (s.heap.objs.size + 1) :: (vs ++ dvs)) (Value.ref (s.heap.objs.size + 1) :: (us ++ ds)) := .cons rfl (r.append hd)
  have hl : (Value.ref (s.heap.objs.size + 1) :: us ++ ds).length = ps.length := by
    have e := r2.length
    rw [F.len _ _ _ _ hq] at e
    exact e.symm
  refine wpAny_call (make_map (f := f) I.kIn M.makes M.init (beq_iff_eq.mp M.fn) (codeAny_mono (F.run _ X.stack _ _ ⟨Value.ref (s.heap.objs.size + 1) :: us, []⟩ (Value.ref (s.heap.objs.size + 1) :: (us ++ ds)) _ _ E (hr.make C us [])
    (I2.env0.make C us []) (hb _ (Value.ref (s.heap.objs.size + 1) :: us) I2.kIn hl) r2 hq) fun r s' hq' => ?_))
  cases r with
  | error e => exact hx pins σ _ _ e s' I2 hq'
  | ok fl =>
    cases fl with
    | ret u =>
      obtain ⟨v, H', I3, rv, ev, q3⟩ := I2.after hq'
      subst ev
      exact ⟨rv, ⟨V.ref (s.heap.objs.size + 1), H', I3, rfl, q3⟩⟩
    | next => exact False.elim hq'
    | brk => exact False.elim hq'
    | cont => exact False.elim hq'
theorem pe_make (M : Mk X.K C f) (F : FnOk X.prog X.w X.K X.mg X.base CX k f fd ps sp) (hr : Room (k + 1) X.A) (hg : Gl X x) (hm : X.mg x = some (.ref C)) (hb : Binds X.K fd ps ds) (hd : Vals dvs ds) (hx : Passes CX X E)
    (ha : PA X (e :: es) t) (hdb : (x == ("__debug__" : Str)) = false := by decide) (he : starEach (e :: es) X.env = (false, eval e X.env) :: starEach es X.env := by rfl) (hpl : (backTo pos (starEach es X.env)).any (·.1) = false := by rfl) :
    PE X (.Call (.Name x p) (e :: es) [] pos) (tMake C sp dvs E t) := by
  intro pins s σ H Q I h
  refine wpAny_Call_Name_kw (ld_glob I hg hm ?_ hdb)
  refine PySem.W.callWith_K (h₀ := X.base) I.ok.mod.kin M.kp (thn (ha pos pins s σ H _ I h) fun us s1 ⟨vs, H1, I1, r, q⟩ => ⟨I1.kIn, ?_⟩) he hpl
  exact run_make M F hr hb hd hx I1 r q
end

section
variable {X : Cx} {CX : CXT} {k : Nat} {f C : Addr} {fd : FuncData} {ps ks : List Str} {sp : Sp} {E : XK} {x m : Str} {p pos apos kpos : Pos} {e o : Expr} {es : List Expr} {kws : List Keyword} {te ta : TE} {t tk : TA} {nm : Option Str}
structure KBinds (K : PySem.W.Frag) (fd : FuncData) (ps ks : List Str) (g : List Value → List Value → List Value) (gV : List V → List V → List V) : Prop where
  to : ∀ (s : Shared) (us ws : List Value), K.In s.heap → (g us ws).length = ps.length → BindsTo s fd ⟨us, ks.zip ws⟩ (ps.zip (g us ws))
  rel : ∀ {vs : List V} {us : List Value} {zs : List V} {ws : List Value}, Vals vs us → Vals zs ws → Vals (gV vs zs) (g us ws)
variable {g : List Value → List Value → List Value} {gV : List V → List V → List V}
end

structure FnScope (N P : List Str) (sc : Scope) : Prop where
  kind : sc.kind = .function
  co : sc.isCoroutine = false
  gen : sc.isGenerator = false
  nd : N.Nodup
  pre : N.take P.length = P
  par : ∀ x ∈ P, sc.names.lookup x = some .local ∨ sc.names.lookup x = some .cell
  nofree : ∀ y ∈ sc.names, y.2 ≠ .free

theorem bindL_out {kindOf : Str → Option NameKind} {x : Str} : ∀ {binds : List (Str × Value)} {m : Str → Option Value}, (∀ v, (x, v) ∉ binds) → bindL kindOf binds m x = m x
  | [], _, _ => rfl
  | (n, v) :: r, m, h => by
    unfold bindL
    rw [bindL_out fun w hw => h w (List.mem_cons_of_mem _ hw)]
    split
    · have : x ≠ n := by rintro rfl; exact h v List.mem_cons_self
      simp [this]
    · rfl
theorem bindC_out {kindOf : Str → Option NameKind} {x : Str} : ∀ {binds : List (Str × Value)} {m : Str → Option Value}, (∀ v, (x, v) ∉ binds) → bindC kindOf binds m x = m x
  | [], _, _ => rfl
  | (n, v) :: r, m, h => by
    unfold bindC
    rw [bindC_out fun w hw => h w (List.mem_cons_of_mem _ hw)]
    split
    · rfl
    · have : x ≠ n := by rintro rfl; exact h v List.mem_cons_self
      simp [this]
theorem bindL_get {kindOf : Str → Option NameKind} {x : Str} {v : Value} : ∀ {P : List Str} {vs : List Value} {i : Nat} {m : Str → Option Value}, P.Nodup → P[i]? = some x → vs[i]? = some v → kindOf x = some .local →
    bindL kindOf (P.zip vs) m x = some v
  | [], _, _, _, _, h, _, _ => by simp at h
  | _ :: _, [], _, _, _, _, h, _ => by simp at h
  | p :: P, w :: vs, 0, m, nd, h1, h2, hk => by
    simp at h1 h2; subst h1; subst h2
    show bindL kindOf ((p, w) :: P.zip vs) m p = _
    unfold bindL
    rw [bindL_out fun v hv => (List.nodup_cons.mp nd).1 (List.of_mem_zip hv).1, if_pos hk]
    simp
  | p :: P, w :: vs, i + 1, m, nd, h1, h2, hk => by
    show bindL kindOf ((p, w) :: P.zip vs) m x = _
    unfold bindL
    exact bindL_get (i := i) (List.nodup_cons.mp nd).2 (by simpa using h1) (by simpa using h2) hk
theorem bindC_get {kindOf : Str → Option NameKind} {x : Str} {v : Value} : ∀ {P : List Str} {vs : List Value} {i : Nat} {m : Str → Option Value}, P.Nodup → P[i]? = some x → vs[i]? = some v → kindOf x ≠ some .local →
    bindC kindOf (P.zip vs) m x = some v
  | [], _, _, _, _, h, _, _ => by simp at h
  | _ :: _, [], _, _, _, _, h, _ => by simp at h
  | p :: P, w :: vs, 0, m, nd, h1, h2, hk => by
    simp at h1 h2; subst h1; subst h2
    show bindC kindOf ((p, w) :: P.zip vs) m p = _
    unfold bindC
    rw [bindC_out fun v hv => (List.nodup_cons.mp nd).1 (List.of_mem_zip hv).1, if_neg hk]
    simp
  | p :: P, w :: vs, i + 1, m, nd, h1, h2, hk => by
    show bindC kindOf ((p, w) :: P.zip vs) m x = _
    unfold bindC
    exact bindC_get (i := i) (List.nodup_cons.mp nd).2 (by simpa using h1) (by simpa using h2) hk

def start (N : List Str) (vs : List V) : St := vs.map some ++ List.replicate (N.length - vs.length) none

def cxOf (CX : CXT) (P : Program) (w : World) (K : PySem.W.Frag) (mg : Str → Option Value) (base : Heap) (N : List Str) (qual : Str) (scope : Scope) (f : Addr) (cd : Value) (A : Around) (outer : List Env) (s : Shared) (H : Hp) (E : XK) : Cx where
  prog := P
  w := w
  K := K
  mg := mg
  base := base
  A := A.deeper (envOfC qual scope s.heap.objs.size f cd)
  N := N
  s₀ := s
  H₀ := H
  env := envOfC qual scope s.heap.objs.size f cd
  outer := outer
  stack := envOfC qual scope s.heap.objs.size f cd :: outer
  ex := []
  calm := true
  fn := fun _ => true
  pn := []
  xe := fun e s' => wpAny (model P w) (A.deeper (envOfC qual scope s.heap.objs.size f cd)) (leaving (envOfC qual scope s.heap.objs.size f cd) e) (fun _ s'' => CX outer H s E e s'') (fun e' s'' => CX outer H s E e' s'') s'

theorem cell_has {sc : Scope} {n : Nat} {x : Str} (h : sc.names.lookup x = some .cell) : ∃ c, (cellsFrom n sc.names []).lookup x = some c := by
  have q := PySem.W.cellsFrom_some sc.names n [] (.inl h)
  exact Option.isSome_iff_exists.mp q

theorem inv_start {CX : CXT} {P : Program} {w : World} {K : PySem.W.Frag} {mg : Str → Option Value} {base : Heap} {N ps : List Str} {qual : Str} {scope : Scope} {f : Addr} {cd : Value} {A : Around} {outer : List Env} {s s1 : Shared} {H : Hp} {E : XK} {us : List Value} {vs : List V}
    (S : FnScope N ps scope) (hd : A.handled = none) (e0 : Env0 P w K mg base A outer s H) (hl : vs.length = ps.length) (r : Vals vs us)
    (x : InCallC s s.heap.objs.size (bindL (envOfC qual scope s.heap.objs.size f cd).kindOf (ps.zip us) fun _ => none) (cellsFrom (s.heap.objs.size + 1) scope.names []) (bindC (envOfC qual scope s.heap.objs.size f cd).kindOf (ps.zip us) fun _ => none) s1) :
    Inv (cxOf CX P w K mg base N qual scope f cd A outer s H E) [] (start N vs) H s1 := by
  have hpl : ps.length ≤ N.length := by have := congrArg List.length S.pre; rw [List.length_take] at this; omega
  obtain ⟨h1, tk, rfl, hk⟩ := x.done
  have noA : ∀ b : Addr, b ∉ (cxOf CX P w K mg base N qual scope f cd A outer s H E).ex := fun b z => absurd (show b ∈ ([] : List Addr) from z) (by simp)
  refine ⟨⟨e0.mod, S.kind, rfl, rfl, Nat.le_refl _, fun y z c h1 h2 => ?_, fun y hy => ?_, fun y c _ h => ?_, fun _ => hd, Around.frames_deeper e0.frames, .inr ⟨rfl, rfl⟩, fun b z => absurd z (noA b), e0.bs, e0.bsz, fun b _ _ => noA b, fun b z => absurd z (noA b), e0.funs, e0.frf⟩,
    rfl, e0.bare, Un.kept hk, ⟨_, x.toInCall.ns, fun i y v h1 h2 h3 => ?_⟩, fun y c h => ⟨_, x.cell y c h⟩, e0.hok.fresh (Nat.le_refl _), fun y c h => ?_, fun p hp => absurd (show p ∈ ([] : List (Addr × Obj)) from hp) (by simp), e0.hok.kept hk, ?_⟩
  · exact name_of_addr x.apart (PySem.mem_of_lookup h1) (PySem.mem_of_lookup h2)
  · have hy : scope.names.lookup y = some .cell ∨ scope.names.lookup y = some .free := hy
    rcases hy with hy | hy
    · exact cell_has hy
    · exact absurd rfl (S.nofree _ (PySem.mem_of_lookup hy))
  · exact Nat.le_of_lt (x.above y c (PySem.mem_of_lookup h))
  · have hi : i < vs.length := by
      unfold start at h2
      by_cases hi : i < vs.length
      · exact hi
      · rw [List.getElem?_append_right (by simpa using hi)] at h2
        rw [List.getElem?_replicate] at h2
        split at h2 <;> cases h2
    have ha : vs[i]? = some v := by
      unfold start at h2
      rw [List.getElem?_append_left (by simpa using hi), List.getElem?_map] at h2
      cases e : vs[i]? with
      | none => rw [e] at h2; cases h2
      | some a => rw [e] at h2; cases h2; rfl
    obtain ⟨u, hu, rv⟩ := r.get ha
    have hp : ps[i]? = some y := by
      rw [← S.pre, List.getElem?_take_of_lt (by omega)]; exact h1
    have ndP : ps.Nodup := by rw [← S.pre]; exact S.nd.sublist (List.take_sublist _ _)
    refine ⟨u, rv, ?_⟩
    rcases S.par y (List.mem_of_getElem? hp) with k | k
    · exact .inl ⟨k, bindL_get ndP hp hu k⟩
    · obtain ⟨c, e⟩ := cell_has (n := s.heap.objs.size + 1) k
      refine .inr ⟨.inl k, c, e, ?_⟩
      have q := x.cell y c e
      rw [bindC_get ndP hp hu (by show scope.names.lookup y ≠ _; rw [k]; decide)] at q
      exact q
  · exact e0.hok.fresh (Nat.le_of_lt (x.above y c (PySem.mem_of_lookup h)))
  · unfold start
    show _ = N.length
    rw [List.length_append, List.length_map, List.length_replicate]
    omega

theorem fn_of {CX : CXT} {P : Program} {w : World} {K : PySem.W.Frag} {mg : Str → Option Value} {base : Heap} {k : Nat} {f : Addr} {name qual : Str} {params : Arguments} {body : List Stmt} {scope : Scope} {dV kV doc pm cdv ct oc : Value} {an od : Option Addr}
    {osl : Array (Option Value)} {N ps : List Str} {sp : Sp} (lk : K.lookup f = some ⟨oc, od, .func (PySem.W.fnOf name qual params body scope dV kV doc pm an cdv ct), osl⟩) (hcd : PySem.W.codeIn K cdv qual = true) (S : FnScope N ps scope)
    (len : ∀ vs H Q E, sp vs H Q E → vs.length = ps.length)
    (hbody : ∀ (A : Around) (outer : List Env) (s : Shared) (H : Hp) (vs : List V) (Q : VK) (E : XK), Room k (A.deeper (envOfC qual scope s.heap.objs.size f cdv)) → sp vs H Q E →
      ∃ t, PSs (cxOf CX P w K mg base N qual scope f cdv A outer s H E) body t ∧ t { nx := fun _ H' => Q .non H', rt := Q } (start N vs) H) :
    FnOk P w K mg base CX (k + 1) f (PySem.W.fnOf name qual params body scope dV kV doc pm an cdv ct) ps sp := by
  refine ⟨len, fun A outer s H args us vs Q E hr e0 hb r hsp => ?_⟩
  have hl := len _ _ _ _ hsp
  have KX : K.In s.heap := e0.mod.kin.keeps fun b o e => (e0.bs b o e).1
  have lim : s.heap.NoLimit := e0.mod.nolimit.keeps fun b o e => (e0.bs b o e).1
  have hkind : ∀ y ∈ ps.zip us, scope.names.lookup y.1 = some .local ∨ (scope.names.lookup y.1 = some .cell ∧ ((cellsFrom (s.heap.objs.size + 1) scope.names []).lookup y.1).isSome = true) := fun ⟨n, v⟩ hy => by
    rcases S.par n (List.of_mem_zip hy).1 with q | q
    · exact .inl q
    · exact .inr ⟨q, PySem.W.cellsFrom_some _ _ _ (.inl q)⟩
  refine codeAny_call_function hr.depth (KX _ _ lk) rfl S.co S.gen rfl (PySem.W.codeRec_of KX hcd) (hb _ _ _ _ ?_)
  refine wpAny_newFunctionEnv_cells S.kind hkind fun env he s1 x => ?_
  subst he
  refine ⟨lim.keeps x.toInCall.keep, codeAny_func ?_⟩
  obtain ⟨t, ht, hq⟩ := hbody A outer s H vs Q E (hr.deeper _) hsp
  have I : Inv (cxOf CX P w K mg base N qual scope f cdv A outer s H E) [] (start N vs) H s1 := inv_start S hr.hd e0 hl r x
  refine wpAny_mono (ht [] s1 (start N vs) H _ I hq) (fun fl s' hs => ?_) fun e s' hs => hs
  have fin : ∀ {σ' : St} {H' : Hp} {v : V} {u : Value}, Inv (cxOf CX P w K mg base N qual scope f cdv A outer s H E) [] σ' H' s' → RelV v u → Q v H' → CE outer P w H s Q u s' :=
    fun {σ' H' v u} J rv q => ⟨v, H', J.os, J.bare, J.base, J.hok, rv, q⟩
  cases fl with
  | ret u =>
    obtain ⟨v, σ', H', J, rv, q⟩ := hs
    exact fin J rv q
  | next =>
    obtain ⟨σ', H', J, q⟩ := hs
    exact fin (v := V.non) (u := Value.none) J rfl q
  | brk =>
    obtain ⟨_, _, _, q⟩ := hs
    exact False.elim q
  | cont =>
    obtain ⟨_, _, _, q⟩ := hs
    exact False.elim q
end L2

namespace L2
open PySem PySem.Spec PyProof.Rows
section
variable {X : Cx} {x : Str} {p pos : Pos} {e : Expr} {es : List Expr} {t : TA} {id T : String} {r : List V → Hp → VK → Prop}

def tCB (r : List V → Hp → VK → Prop) (t : TA) : TE := fun σ H Q => t σ H fun vs H1 => r vs H1 Q
theorem pe_callB (hc : CallR X (.builtin id) r) (hg : Gl X x) (hm : X.mg x = none) (hv : bootBuiltins x = some (.builtin id)) (ha : PA X (e :: es) t) (hn : x ≠ "__name__" := by decide) (hdb : (x == ("__debug__" : Str)) = false := by decide)
    (he : starEach (e :: es) X.env = (false, eval e X.env) :: starEach es X.env := by rfl) (hpl : (backTo pos (starEach es X.env)).any (·.1) = false := by rfl) : PE X (.Call (.Name x p) (e :: es) [] pos) (tCB r t) := by
  intro pins s σ H Q I h
  refine wpAny_Call_Name_kw (ld_blt I hg hm hv ?_ hn hdb)
  exact PyProof.Rows.callWith_builtin1 (thn (ha pos pins s σ H _ I h) fun us s1 ⟨vs, H1, I1, r1, q1⟩ => hc pins s1 σ H1 vs us Q I1 r1 q1) he hpl
theorem pe_callTy (hc : CallR X (.type T) r) (hg : Gl X x) (hm : X.mg x = none) (hv : bootBuiltins x = some (.type T)) (ha : PA X (e :: es) t) (hn : x ≠ "__name__" := by decide) (hdb : (x == ("__debug__" : Str)) = false := by decide)
    (he : starEach (e :: es) X.env = (false, eval e X.env) :: starEach es X.env := by rfl) (hpl : (backTo pos (starEach es X.env)).any (·.1) = false := by rfl) : PE X (.Call (.Name x p) (e :: es) [] pos) (tCB r t) := by
  intro pins s σ H Q I h
  refine wpAny_Call_Name_kw (ld_blt I hg hm hv ?_ hn hdb)
  exact PyProof.Rows.callWith_type1 (thn (ha pos pins s σ H _ I h) fun us s1 ⟨vs, H1, I1, r1, q1⟩ => hc pins s1 σ H1 vs us Q I1 r1 q1) he hpl
end
end L2

namespace HT
open PySem PyProof.Rows

section
open PySem.SeqAt
open PySem.AutoSeq1 (wpAny_loadPart')
open PySem.MeetsSeq PySem.MeetsSeq2 PySem.MeetsSeq3

end

section
variable {prog : Program} {w : World} {A : Around} {E : Value → Shared → Prop} {s : Shared}

theorem cat_tup {t b : Addr} {vs ws : List Value} {Q : Value → Shared → Prop} (ht : IsTup s.heap t vs.toArray) (hb : IsTup s.heap b ws.toArray) (hv : vs ≠ [])
    (h1 : ws = [] → Q (.ref t) s) (h2 : ws ≠ [] → Q (.ref s.heap.objs.size) { s with heap := s.heap.push { cls := .type "tuple", data := .seq (vs ++ ws).toArray } })
    (hsz : vs.length + ws.length ≤ sizeLine) : wpAny (model prog w) A (binaryOp .Add (.ref t) (.ref b)) Q E s := by
  obtain ⟨⟨cls, dd, data, sl⟩, ho, hc, n, hd⟩ := id ht
  obtain ⟨⟨cls2, dd2, data2, sl2⟩, ho2, hc2, n2, hd2⟩ := id hb
  simp only at hc hd hc2 hd2
  subst hc hd hc2 hd2
  have e : vs.toArray ++ ws.toArray = (vs ++ ws).toArray := by simp
  by_cases hw : ws = []
  · exact concat_meets ⟨_, ho, rfl⟩ ⟨_, ho2, rfl⟩ noFill_tuple_add seq_tuple_add PySem.F.slot_tuple_add PySem.F.entry_tuple_add (PySem.F.args_tuple_add_2 _ _)
      (tuple_addW1 t b vs.toArray ws.toArray n n2 dd dd2 sl sl2 (by simpa using hv) (by simp [hw])) ⟨ho, ho2, h1 hw⟩
  · refine concat_meets ⟨_, ho, rfl⟩ ⟨_, ho2, rfl⟩ noFill_tuple_add seq_tuple_add PySem.F.slot_tuple_add PySem.F.entry_tuple_add (PySem.F.args_tuple_add_2 _ _)
      (tuple_addW2 t b vs.toArray ws.toArray n n2 dd dd2 sl sl2 (by simpa using hv) (by simpa using hw) (by rw [List.size_toArray, List.size_toArray]; exact hsz)) ⟨ho, ho2, ?_⟩
    rw [e]
    exact h2 hw

def sIx (n d : Nat) : Option Int → Nat
  | none => d
  | some v => if v < 0 then (v + (n : Int)).toNat else min v.toNat n
theorem sIx_none (n d : Nat) : sIx n d none = d := rfl
theorem sIx_nat (n d k : Nat) : sIx n d (some (k : Int)) = min k n := by
  show (if (k : Int) < 0 then ((k : Int) + (n : Int)).toNat else min (k : Int).toNat n) = min k n
  rw [if_neg (by omega), Int.toNat_natCast]
theorem sIx_le (n d : Nat) (hd : d ≤ n) (o : Option Int) : sIx n d o ≤ n := by
  cases o with
  | none => exact hd
  | some v =>
    show (if v < 0 then (v + (n : Int)).toNat else min v.toNat n) ≤ n
    by_cases hv : v < 0
    · rw [if_pos hv]; omega
    · rw [if_neg hv]; exact Nat.min_le_right _ _
theorem clip_eq (v : Int) (n d : Nat) : (if v < 0 then max (v + (n : Int)) 0 else min v (n : Int)) = ((sIx n d (some v) : Nat) : Int) := by
  show (if v < 0 then max (v + (n : Int)) 0 else min v (n : Int)) = (((if v < 0 then (v + (n : Int)).toNat else min v.toNat n) : Nat) : Int)
  by_cases hv : v < 0
  · simp only [if_pos hv]; omega
  · simp only [if_neg hv]; omega
theorem adjust_gen (lo hi : Option Int) (n : Nat) : Builtin.Slice.sliceAdjust lo hi 1 (n : Int) = (((sIx n 0 lo : Nat) : Int), ((sIx n n hi : Nat) : Int)) := by
  have h1 : ¬ ((1 : Int) < 0) := by omega
  unfold Builtin.Slice.sliceAdjust
  simp only [h1, if_false]
  refine Prod.ext ?_ ?_
  · cases lo with
    | none => rfl
    | some v => exact clip_eq v n 0
  · cases hi with
    | none => rfl
    | some v => exact clip_eq v n n
theorem places_gen (i j : Nat) : Builtin.Slice.slicePlaces (i : Int) (j : Int) 1 = j - i := by
  unfold Builtin.Slice.slicePlaces
  have h1 : (1 : Int) > 0 := by omega
  simp only [h1, if_true, Int.ediv_one]
  split <;> omega
theorem slicePart_ {v : Value} {o : Option Int} {Q : Option Int → Shared → Prop} (p : IsPart v o) (h : Q o s) : wpAny (model prog w) A (Builtin.Slice.slicePartIndex v) Q E s := by
  cases p with
  | none => exact slicePart_none h
  | int i t => exact slicePart_int h
theorem sliceApplied_gen {sl : Addr} {vl vu : Value} {lo hi : Option Int} {n : Nat} {Q : Int × Int × Nat → Shared → Prop} (hs : s.heap.IsSliceOf sl vl vu .none) (pl : IsPart vl lo) (pu : IsPart vu hi)
    (h : Q (((sIx n 0 lo : Nat) : Int), 1, sIx n n hi - sIx n 0 lo) s) : wpAny (model prog w) A (Builtin.Slice.sliceApplied (.ref sl) (pure (n : Int))) Q E s := by
  obtain ⟨os, hos, hcs, hds⟩ := id hs
  unfold Builtin.Slice.sliceApplied Builtin.Slice.sliceFields
  refine wpAny_bind (wpAny_bind (wpAny_field hos hds (x := vl) rfl (wpAny_bind (wpAny_field hos hds (x := vu) rfl (wpAny_bind (wpAny_field hos hds (x := .none) rfl (wpAny_pure ?_)))))))
  refine wpAny_bind (slicePart_none ?_)
  show wpAny _ _ (if ((1 : Int) == 0) = true then _ else _) _ _ s
  rw [if_neg (by decide)]
  refine wpAny_bind (slicePart_ pl (wpAny_bind (slicePart_ pu (wpAny_bind (wpAny_pure ?_)))))
  show wpAny _ _ (match Builtin.Slice.sliceAdjust lo hi 1 (n : Int) with | (lo, hi) => pure (lo, (1 : Int), Builtin.Slice.slicePlaces lo hi 1)) _ _ s
  rw [adjust_gen lo hi n]
  show wpAny _ _ (pure (((sIx n 0 lo : Nat) : Int), (1 : Int), Builtin.Slice.slicePlaces ((sIx n 0 lo : Nat) : Int) ((sIx n n hi : Nat) : Int) 1)) _ _ s
  rw [places_gen]
  exact wpAny_pure h
theorem pick_gen (xs : Array Value) (i k : Nat) : ((List.range k).filterMap fun (m : Nat) => xs[((i : Int) + (m : Int) * 1).toNat]?).toArray = ((xs.toList.drop i).take k).toArray := by
  have e : (fun (m : Nat) => xs[((i : Int) + (m : Int) * 1).toNat]?) = fun m => xs[i + m]? := by
    funext m
    have : ((i : Int) + (m : Int) * 1).toNat = i + m := by omega
    rw [this]
  rw [e]
  have := pick_run xs i k
  rw [List.filterMap_map] at this
  have e2 : ((fun x => xs[x]?) ∘ fun x => i + x) = fun m => xs[i + m]? := rfl
  rw [e2] at this
  rw [this]

theorem getItem_tuple_cut {t sl : Addr} {items : Array Value} {vl vu : Value} {lo hi : Option Int} {Q : Value → Shared → Prop} (ht : IsTup s.heap t items) (hs : s.heap.IsSliceOf sl vl vu .none) (pl : IsPart vl lo) (pu : IsPart vu hi)
    (hw : ¬ (sIx items.size 0 lo = 0 ∧ sIx items.size items.size hi = items.size))
    (h : Q (.ref s.heap.objs.size) { s with heap := s.heap.push { cls := .type "tuple", data := .seq ((items.toList.drop (sIx items.size 0 lo)).take (sIx items.size items.size hi - sIx items.size 0 lo)).toArray } })
    (hsz : items.size ≤ sizeLine) : wpAny (model prog w) A (getItem (.ref t) (.ref sl)) Q E s := by
  have htake : sizeOk (.seq ((items.toList.drop (sIx items.size 0 lo)).take (sIx items.size items.size hi - sIx items.size 0 lo)).toArray) := by
    show ((items.toList.drop (sIx items.size 0 lo)).take (sIx items.size items.size hi - sIx items.size 0 lo)).toArray.size ≤ sizeLine
    rw [List.size_toArray, List.length_take, List.length_drop, Array.length_toList]
    omega
  have hj : sIx items.size items.size hi ≤ items.size := sIx_le _ _ (Nat.le_refl _) hi
  obtain ⟨os, hos, hcs, hds⟩ := id hs
  have hTs : s.TypeIs (.ref sl) "slice" := ⟨os, hos, hcs⟩
  unfold getItem
  try with_reducible refine wpAny_holding ?_
  first | refine wpAny_bind (wpAny_pure ?_) | skip
  refine wpAny_bind (wpAny_sequenceKey ht.typeIs (by decide) ?_)
  refine wpAny_bind (wpAny_callSpecial?_slot (name := Str.ofString "__getitem__") ht.typeIs PyProof.Rows.slot_tuple_getitem
    (wpAny_call_entry PyProof.Rows.slot_tuple_getitem ht.typeIs entry_tuple_getitem ?_ (args_tuple_getitem _ _)))
  show wpAny _ _ (Builtin.Tuple.tupleItemsOf (.ref t) >>= _) _ _ s
  refine wpAny_bind (tupleItemsOf_ ht ?_)
  refine wpAny_bind (wpAny_typeOf hTs ?_)
  rw [if_pos (by decide)]
  refine wpAny_bind (sliceApplied_gen hs pl pu ?_)
  have hno : ¬ ((((sIx items.size 0 lo : Nat) : Int) == 0 && (1 : Int) == 1 && (sIx items.size items.size hi - sIx items.size 0 lo) == items.size) = true) := by
    intro q
    rw [Bool.and_eq_true, Bool.and_eq_true] at q
    have q1 : ((sIx items.size 0 lo : Nat) : Int) = 0 := eq_of_beq q.1.1
    have q2 : sIx items.size items.size hi - sIx items.size 0 lo = items.size := eq_of_beq q.2
    exact hw ⟨by omega, by omega⟩
  show wpAny _ _ (if (((sIx items.size 0 lo : Nat) : Int) == 0 && (1 : Int) == 1 && (sIx items.size items.size hi - sIx items.size 0 lo) == items.size) = true then _ else _) _ _ s
  rw [if_neg hno, pick_gen]
  first
    | exact wpAny_bind (m := Builtin.Tuple.tupleExact _) (wpAny_newObj_type (wpAny_pure ⟨_, rfl, wpAny_pure h⟩) htake)
    | exact wpAny_bind (m := Builtin.Tuple.tupleExact _) (wpAny_newObj_type (wpAny_bind (wpAny_pure (wpAny_pure ⟨_, rfl, wpAny_pure h⟩))) htake)
    | exact wpAny_bind (wpAny_bind (m := Builtin.Tuple.tupleExact _) (wpAny_newObj_type (wpAny_pure (wpAny_pure ⟨_, rfl, wpAny_pure h⟩)) htake))
    | exact wpAny_bind (wpAny_bind (m := Builtin.Tuple.tupleExact _) (wpAny_newObj_type (wpAny_pure ⟨_, rfl, wpAny_pure h⟩) htake))
end
end HT

namespace L2
open PySem PySem.Spec PyProof.Rows

abbrev TO := St → Hp → (Option Int → Hp → Prop) → Prop
def PO (X : Cx) (e : Option Expr) (t : TO) : Prop :=
  ∀ (pins : List (Addr × Obj)) (s : Shared) (σ : St) (H : Hp) (Q : Option Int → Hp → Prop), Inv X pins σ H s → t σ H Q →
    wpAny (model X.prog X.w) X.A (evalPart e X.env) (fun u s' => ∃ o H', Inv X pins σ H' s' ∧ IsPart u o ∧ Q o H') X.xe s
def tNoPart : TO := fun _ H Q => Q none H
def tPart (t : TE) : TO := fun σ H Q => t σ H fun x H1 => ∃ i, x = .int i ∧ Q (some i) H1

section
variable {X : Cx} {e : Expr} {te : TE} {lo hi : Option Expr} {tl th : TO} {pos p2 : Pos}

theorem po_none : PO X none tNoPart := by
  intro pins s σ H Q I h
  rw [evalPart_none]
  exact wpAny_pure ⟨none, H, I, .none, h⟩
theorem po_some (h : PE X e te) : PO X (some e) (tPart te) := by
  intro pins s σ H Q I hw
  rw [evalPart_some]
  refine thn (h pins s σ H _ I hw) fun u s1 ⟨x, H1, I1, r1, q1⟩ => ?_
  obtain ⟨i, rfl, q⟩ := q1
  obtain ⟨t, rfl⟩ := r1
  exact ⟨some i, H1, I1, .int i t, q⟩

def SlR (X : Cx) (r : V → Option Int → Option Int → Hp → VK → Prop) : Prop :=
  ∀ (pins : List (Addr × Obj)) (s : Shared) (σ : St) (H : Hp) (x : V) (v vl vu : Value) (lo hi : Option Int) (sl : Addr) (Q : VK), Inv X pins σ H s → RelV x v → s.heap.IsSliceOf sl vl vu .none → IsPart vl lo → IsPart vu hi → r x lo hi H Q →
    ∃ T id, typeLookup (.type T) "__getitem__" = pure (some (.builtin id)) ∧ s.TypeIs v T ∧ wpAny (model X.prog X.w) X.A (getItem v (.ref sl)) (EP X pins σ Q) X.xe s
theorem SlR.or {r r' : V → Option Int → Option Int → Hp → VK → Prop} (h : SlR X r) (h' : SlR X r') : SlR X (fun x lo hi H Q => r x lo hi H Q ∨ r' x lo hi H Q) := by
  intro pins s σ H x v vl vu lo hi sl Q I rx hs pl pu q
  rcases q with q | q
  · exact h pins s σ H x v vl vu lo hi sl Q I rx hs pl pu q
  · exact h' pins s σ H x v vl vu lo hi sl Q I rx hs pl pu q
def tSl (r : V → Option Int → Option Int → Hp → VK → Prop) (te : TE) (tl th : TO) : TE := fun σ H Q => te σ H fun x H1 => tl σ H1 fun l H2 => th σ H2 fun u H3 => r x l u H3 Q
theorem pe_slice {r : V → Option Int → Option Int → Hp → VK → Prop} (hr : SlR X r) (he : PE X e te) (hl : PO X lo tl) (hu : PO X hi th) : PE X (.Subscript e (.Slice lo hi none p2) pos) (tSl r te tl th) := by
  intro pins s σ H Q I h
  refine Subscript_ (thn (he pins s σ H _ I h) fun v s1 ⟨x, H1, I1, r1, q1⟩ => ?_)
  refine wpAny_Slice (thn (hl pins s1 σ H1 _ I1 q1) fun vl s2 ⟨l, H2, I2, pl, q2⟩ => thn (hu pins s2 σ H2 _ I2 q2) fun vu s3 ⟨u, H3, I3, pu, q3⟩ => ?_)
  rw [evalPart_none]
  refine wpAny_pure ?_
  have I4 : Inv X pins σ H3 { s3 with heap := s3.heap.push { cls := .type "slice", data := .fields #[vl, vu, .none] } } := I3.kept (t' := s3.toks) fun b ob q => Heap.get?_push_of_some _ q
  obtain ⟨T, id, hT, ht, hg⟩ := hr pins { s3 with heap := s3.heap.push { cls := .type "slice", data := .fields #[vl, vu, .none] } } σ H3 x v vl vu l u s3.heap.objs.size Q I4 r1 (Heap.IsSliceOf.new ..) pl pu q3
  show wpAny (model X.prog X.w) X.A (subscriptTail e (.Slice lo hi none p2) v (.ref s3.heap.objs.size)) (EP X pins σ Q) X.xe { s3 with heap := s3.heap.push { cls := .type "slice", data := .fields #[vl, vu, .none] } }
  exact tail_any (ops := [.ref s3.heap.objs.size, v]) ht hT hg (by with_unfolding_all rfl)

def cutV (xs : List V) (lo hi : Option Int) : List V := (xs.drop (HT.sIx xs.length 0 lo)).take (HT.sIx xs.length xs.length hi - HT.sIx xs.length 0 lo)
theorem cutV_length (xs : List V) (lo hi : Option Int) : (cutV xs lo hi).length ≤ xs.length := by
  unfold cutV
  rw [List.length_take, List.length_drop]
  omega
def rSlT (K : PySem.W.Frag) : V → Option Int → Option Int → Hp → VK → Prop := fun x lo hi H Q => ∃ a xs, x = .ref a ∧ SqT K H a xs ∧
  ¬ (HT.sIx xs.length 0 lo = 0 ∧ HT.sIx xs.length xs.length hi = xs.length) ∧ ∀ p, H p = none → Q (.ref p) (upd H p (.tup (cutV xs lo hi)))
theorem sl_tup : SlR X (rSlT X.K) := by
  intro pins s σ H x v vl vu lo hi sl Q I rx hs pl pu h
  obtain ⟨a, xs, rfl, hx, hw, q⟩ := h
  cases rx
  obtain ⟨its, r, ht, hz⟩ := I.tuple hx
  have hlen : its.toArray.size = xs.length := by rw [List.size_toArray]; exact r.length.symm
  refine ⟨"tuple", _, PyProof.Rows.slot_tuple_getitem.lookup, ht.typeIs, ?_⟩
  refine HT.getItem_tuple_cut ht hs pl pu (by rw [hlen]; exact hw) ?_ (by rw [hlen]; exact hz)
  rw [hlen]
  refine ⟨.ref s.heap.objs.size, _, I.laid (t' := s.toks) (o := .tup (cutV xs lo hi)) (fun b ob q => Heap.get?_push_of_some _ q) (Nat.le_refl _) ?_, rfl, q _ (I.hok.fresh (Nat.le_refl _))⟩
  exact ⟨Nat.le_trans (cutV_length xs lo hi) hz, _, (r.drop (HT.sIx xs.length 0 lo)).take (HT.sIx xs.length xs.length hi - HT.sIx xs.length 0 lo), IsTup.new _ _⟩

def rCatT (K : PySem.W.Frag) : R2 := fun x y H Q => ∃ a b xs ys, x = .ref a ∧ y = .ref b ∧ SqT K H a xs ∧ SqT K H b ys ∧ xs ≠ [] ∧ xs.length + ys.length ≤ sizeLine ∧
  (ys = [] → Q (.ref a) H) ∧ (ys ≠ [] → ∀ p, H p = none → Q (.ref p) (upd H p (.tup (xs ++ ys))))
theorem Vals.nil_iff {xs : List V} {us : List Value} (r : Vals xs us) : us = [] ↔ xs = [] := by
  cases r with
  | nil => simp
  | cons _ _ => simp
theorem op_catT : OpR X (binaryOp .Add) (rCatT X.K) := by
  intro pins s σ H x y v u Q I rx ry h
  obtain ⟨a, b, xs, ys, rfl, rfl, ha, hb, hx, hz, q1, q2⟩ := h
  cases rx
  cases ry
  obtain ⟨its, r1, p1, _⟩ := I.tuple ha
  obtain ⟨its2, r2, p2, _⟩ := I.tuple hb
  refine HT.cat_tup p1 p2 (fun z => hx (r1.nil_iff.mp z)) (fun z => ⟨.ref a, H, I, rfl, q1 (r2.nil_iff.mp z)⟩) (fun z => ?_) (by rw [← r1.length, ← r2.length]; exact hz)
  refine ⟨.ref s.heap.objs.size, _, I.laid (t' := s.toks) (o := .tup (xs ++ ys)) (fun b ob q => Heap.get?_push_of_some _ q) (Nat.le_refl _) ?_, rfl, q2 (fun w => z (r2.nil_iff.mpr w)) _ (I.hok.fresh (Nat.le_refl _))⟩
  exact ⟨by rw [List.length_append]; exact hz, _, r1.append r2, IsTup.new _ _⟩
end
end L2

namespace L2
open PySem PySem.Spec PyProof.Rows

def ixN (n : Nat) (i : Int) : Option Nat := if 0 ≤ i then (if i < n then some i.toNat else none) else if -(n : Int) ≤ i then some (i + n).toNat else none
def atI {α : Type} (xs : List α) (i : Int) : Option α := (ixN xs.length i).bind fun j => xs[j]?
theorem ixN_seq {n : Nat} {i : Int} {j : Nat} (h : ixN n i = some j) : seqIndex? i n = some j ∧ j < n ∧ -(n : Int) ≤ i ∧ i < n := by
  unfold ixN at h
  by_cases h0 : 0 ≤ i
  · rw [if_pos h0] at h
    by_cases h1 : i < n
    · rw [if_pos h1] at h
      have e : i.toNat = j := Option.some.inj h
      exact ⟨by rw [seqIndex_of h0 h1, e], by omega, by omega, h1⟩
    · rw [if_neg h1] at h; cases h
  · rw [if_neg h0] at h
    by_cases h1 : -(n : Int) ≤ i
    · rw [if_pos h1] at h
      have e : (i + n).toNat = j := Option.some.inj h
      exact ⟨by rw [seqIndex_neg (by omega) h1, e], by omega, h1, by omega⟩
    · rw [if_neg h1] at h; cases h
theorem atI_get {α : Type} {xs : List α} {i : Int} {v : α} (h : atI xs i = some v) : ∃ j, seqIndex? i xs.length = some j ∧ xs[j]? = some v ∧ j < xs.length ∧ -(xs.length : Int) ≤ i ∧ i < xs.length := by
  unfold atI at h
  cases e : ixN xs.length i with
  | none => rw [e] at h; cases h
  | some j =>
    rw [e] at h
    obtain ⟨h1, h2, h3, h4⟩ := ixN_seq e
    exact ⟨j, h1, h, h2, h3, h4⟩
theorem atI_nat {α : Type} {xs : List α} {j : Nat} {v : α} (h : xs[j]? = some v) : atI xs (j : Int) = some v := by
  have hj : j < xs.length := (List.getElem?_eq_some_iff.mp h).1
  have e : ixN xs.length (j : Int) = some j := by
    unfold ixN
    rw [if_pos (by omega), if_pos (by omega)]; simp
  unfold atI; rw [e]; exact h
theorem atI_last {α : Type} (xs : List α) (v : α) : atI (xs ++ [v]) (-1) = some v := by
  have hl : (xs ++ [v]).length = xs.length + 1 := by simp
  have e : ixN (xs ++ [v]).length (-1) = some xs.length := by
    unfold ixN
    rw [hl, if_neg (by decide), if_pos (by omega)]
    congr 1
    omega
  unfold atI
  rw [e]
  show (xs ++ [v])[xs.length]? = some v
  simp

def PlainIx (b : Expr) : Prop := ∀ o i, subscripted b false o i = operate [o, i] (getItem o i)
def IxR (X : Cx) (r : R2) : Prop :=
  ∀ (value slice : Expr) (pins : List (Addr × Obj)) (s : Shared) (σ : St) (H : Hp) (x y : V) (v u : Value) (Q : VK), Inv X pins σ H s → RelV x v → RelV y u → r x y H Q →
    subscripted slice false v u = operate [v, u] (getItem v u) → wpAny (model X.prog X.w) X.A (subscriptTail value slice v u) (EP X pins σ Q) X.xe s
def MtR (X : Cx) (id : String) (r : V → List V → Hp → VK → Prop) : Prop :=
  ∀ (pins : List (Addr × Obj)) (s : Shared) (σ : St) (H : Hp) (x : V) (xs : List V) (v : Value) (us : List Value) (Q : VK), Inv X pins σ H s → RelV x v → Vals xs us → r x xs H Q →
    wpAny (model X.prog X.w) X.A (call (.builtin id) (v :: us)) (EP X pins σ Q) X.xe s
section
variable {X : Cx} {a b : Expr} {ta tb : TE} {pos : Pos}
theorem IxR.or {r r' : R2} (h : IxR X r) (h' : IxR X r') : IxR X (fun x y H Q => r x y H Q ∨ r' x y H Q) := by
  intro value slice pins s σ H x y v u Q I rx ry q hs
  rcases q with q | q
  · exact h value slice pins s σ H x y v u Q I rx ry q hs
  · exact h' value slice pins s σ H x y v u Q I rx ry q hs
theorem MtR.or {id : String} {r r' : V → List V → Hp → VK → Prop} (h : MtR X id r) (h' : MtR X id r') : MtR X id (fun x xs H Q => r x xs H Q ∨ r' x xs H Q) := by
  intro pins s σ H x xs v us Q I rx rs q
  rcases q with q | q
  · exact h pins s σ H x xs v us Q I rx rs q
  · exact h' pins s σ H x xs v us Q I rx rs q
theorem pe_ix {r : R2} (hr : IxR X r) (ha : PE X a ta) (hb : PE X b tb) (hs : PlainIx b) : PE X (.Subscript a b pos) (tOp r ta tb) := by
  intro pins s σ H Q I h
  exact Subscript_ (binT ha hb I h fun v u s2 x y H2 I2 rx ry q => hr a b pins s2 σ H2 x y v u Q I2 rx ry q (hs _ _))

def rIxL (K : PySem.W.Frag) : R2 := fun x y H Q => ∃ p xs i v, x = .ref p ∧ y = .int i ∧ SqL K H p xs ∧ atI xs i = some v ∧ Q v H
def rIxT (K : PySem.W.Frag) : R2 := fun x y H Q => ∃ p xs i v, x = .ref p ∧ y = .int i ∧ SqT K H p xs ∧ atI xs i = some v ∧ Q v H
theorem ix_list : IxR X (rIxL X.K) := by
  intro value slice pins s σ H x y v u Q I rx ry h hs
  obtain ⟨p, xs, i, z, rfl, rfl, hq, he, q⟩ := h
  cases rx
  obtain ⟨t, rfl⟩ := ry
  obtain ⟨its, r, pl, hz⟩ := I.list hq
  obtain ⟨j, h1, h2, h3, h4, h5⟩ := atI_get he
  obtain ⟨w, ew, rw'⟩ := r.get h2
  have hl := r.length
  have hn := line63
  have fin : EP X pins σ Q w s := ⟨z, H, I, rw', q⟩
  by_cases h0 : 0 ≤ i
  · have hj : i.toNat = j := by
      rw [seqIndex_of h0 h5] at h1
      exact Option.some.inj h1
    exact item_listR pl.isList h0 (by omega) (by rw [hj]; simpa using ew) fin hs
  · have hj : (i + (its.toArray.size : Int)).toNat = j := by
      rw [seqIndex_neg (by omega) h4] at h1
      rw [List.size_toArray, ← hl]
      exact Option.some.inj h1
    exact subscriptTail_builtinR (x := w) pl.isList.typeIs slot_list_getitem.lookup
      (wpAny_getItem_list_neg (Q := fun r s' => r = w ∧ EP X pins σ Q r s') pl.isList (by omega) (by rw [List.size_toArray] <;> omega) (by omega) (by rw [hj]; simpa using ew) ⟨rfl, fin⟩) hs
theorem ix_tup : IxR X (rIxT X.K) := by
  intro value slice pins s σ H x y v u Q I rx ry h hs
  obtain ⟨p, xs, i, z, rfl, rfl, hq, he, q⟩ := h
  cases rx
  obtain ⟨t, rfl⟩ := ry
  obtain ⟨its, r, pl, hz⟩ := I.tuple hq
  obtain ⟨j, h1, h2, h3, h4, h5⟩ := atI_get he
  obtain ⟨w, ew, rw'⟩ := r.get h2
  have hl := r.length
  have hn := line63
  have fin : EP X pins σ Q w s := ⟨z, H, I, rw', q⟩
  exact subscriptTail_builtinR (x := w) pl.typeIs slot_tuple_getitem.lookup
    (getItem_tuple (j := j) (Q := fun r s' => r = w ∧ EP X pins σ Q r s') pl (by omega) (by omega) (by rw [List.size_toArray, ← hl]; exact h1) (by simpa using ew) ⟨rfl, fin⟩) hs
theorem mapSeq_set (its : List Value) (n j : Nat) (u : Value) : Obj.mapSeq (·.setIfInBounds j u) { cls := .type "list", data := .seq its.toArray n } = { cls := .type "list", data := .seq (its.set j u).toArray n } := by
  simp [Obj.mapSeq]
theorem Inv.lst {pins : List (Addr × Obj)} {σ : St} {H : Hp} {s : Shared} {p : Addr} {xs : List V} (I : Inv X pins σ H s) (h : H p = some (.lst xs)) :
    ∃ (its : List Value) (n : Nat), Vals xs its ∧ s.heap.get? p = some { cls := .type "list", data := .seq its.toArray n } ∧ xs.length ≤ sizeLine := by
  obtain ⟨z, its, n, r, e⟩ := I.hok p _ h
  exact ⟨its, n, r, e, z⟩
theorem Inv.lstUpd {pins : List (Addr × Obj)} {σ : St} {H : Hp} {s : Shared} {p : Addr} {xs ys : List V} {its its' : List Value} {n n' : Nat} {f : Obj → Obj} (I : Inv X pins σ H s) (h : H p = some (.lst xs))
    (ho : s.heap.get? p = some { cls := .type "list", data := .seq its.toArray n }) (hf : f { cls := .type "list", data := .seq its.toArray n } = { cls := .type "list", data := .seq its'.toArray n' }) (r : Vals ys its') (hz : ys.length ≤ sizeLine) (t : Nat) :
    Inv X pins σ (upd H p (.lst ys)) { s with heap := s.heap.update p f, toks := t } := by
  have e : (s.heap.update p f).get? p = some { cls := .type "list", data := .seq its'.toArray n' } := by
    rw [Heap.get?_update_self f ho (by rw [hf] <;> rfl), hf]
  refine I.write (x := p) (e := p) (by rw [h]; trivial) (.inl rfl) (fun b u hb q => (Heap.get?_update_other _ _ (Ne.symm hb)).trans q) ⟨_, e⟩ ?_
  exact ⟨hz, its', n', r, e⟩
def rSetL : V → V → V → Hp → (Hp → Prop) → Prop := fun o i v H Q => ∃ p xs k j, o = .ref p ∧ i = .int k ∧ H p = some (.lst xs) ∧ ixN xs.length k = some j ∧ Q (upd H p (.lst (xs.set j v)))
theorem set_list : PSet X rSetL := by
  intro pins s σ H o i v ov iv u Q I ro ri rv h
  obtain ⟨p, xs, k, j, rfl, rfl, hp, hj, q⟩ := h
  cases ro
  obtain ⟨t, rfl⟩ := ri
  obtain ⟨its, n, r, ho, hz⟩ := I.lst hp
  obtain ⟨h1, h2, h3, h4⟩ := ixN_seq hj
  have hl := r.length
  have hn := line63
  have I' : Inv X pins σ (upd H p (.lst (xs.set j v))) { s with heap := s.heap.update p (Obj.mapSeq (·.setIfInBounds j u)) } :=
    I.lstUpd hp ho (mapSeq_set its n j u) (r.set rv j) (by rw [List.length_set]; exact hz) s.toks
  by_cases h0 : 0 ≤ k
  · have hk : k.toNat = j := by
      rw [seqIndex_of h0 h4] at h1
      exact Option.some.inj h1
    exact PySem.W.ki_setAt ho h0 (by omega) (by rw [List.size_toArray, ← hl]; exact h4) (by rw [hk]; exact ⟨_, I', q⟩)
  · have hk : (k + (its.toArray.size : Int)).toNat = j := by
      rw [seqIndex_neg (by omega) h3] at h1
      rw [List.size_toArray, ← hl]
      exact Option.some.inj h1
    exact PySem.W.ki_setBack ho (by omega) (by rw [List.size_toArray, ← hl]; exact h3) (by omega) (by rw [hk]; exact ⟨_, I', q⟩)

theorem slice_bounds (lo hi : Option Int) (n : Nat) : (sliceBounds lo hi none n).1 = ((HT.sIx n 0 lo : Nat) : Int) ∧ (sliceBounds lo hi none n).2.1 = ((HT.sIx n n hi : Nat) : Int) ∧ (sliceBounds lo hi none n).2.2 = 1 := by
  refine ⟨?_, ?_, rfl⟩
  · cases lo with
    | none => simp [sliceBounds, HT.sIx]
    | some i =>
      simp only [sliceBounds, HT.sIx, Option.getD_none, show (1 : Int) > 0 by decide, if_true]
      by_cases h : i < 0
      · simp only [h, if_true] <;> omega
      · simp only [h, if_false] <;> omega
  · cases hi with
    | none => simp [sliceBounds, HT.sIx]
    | some i =>
      simp only [sliceBounds, HT.sIx, Option.getD_none, show (1 : Int) > 0 by decide, if_true]
      by_cases h : i < 0
      · simp only [h, if_true] <;> omega
      · simp only [h, if_false] <;> omega
theorem slicePick_cut (its : List Value) (lo hi : Option Int) : slicePick its.toArray lo hi none = ((its.drop (HT.sIx its.length 0 lo)).take (HT.sIx its.length its.length hi - HT.sIx its.length 0 lo)).toArray := by
  obtain ⟨h1, h2, h3⟩ := slice_bounds lo hi its.toArray.size
  unfold slicePick
  rw [h1, h2, h3]
  simp only [sliceRange_one, pick_run, List.size_toArray] <;> rfl
def rSlL (K : PySem.W.Frag) : V → Option Int → Option Int → Hp → VK → Prop := fun x lo hi H Q => ∃ a xs, x = .ref a ∧ SqL K H a xs ∧ ∀ p, H p = none → Q (.ref p) (upd H p (.lst (cutV xs lo hi)))
theorem sl_list : SlR X (rSlL X.K) := by
  intro pins s σ H x v vl vu lo hi sl Q I rx hs pl pu h
  obtain ⟨a, xs, rfl, hx, q⟩ := h
  cases rx
  obtain ⟨its, r, ht, hz⟩ := I.list hx
  have hlen := r.length
  refine ⟨"list", _, slot_list_getitem.lookup, ht.isList.typeIs, ?_⟩
  refine wpAny_getItem_list_slice ht.isList hs pl pu .none (by simp) ?_ (by rw [List.size_toArray] <;> omega)
  rw [slicePick_cut, ← hlen]
  refine ⟨.ref s.heap.objs.size, _, I.laid (t' := s.toks) (o := .lst (cutV xs lo hi)) (fun b ob q => Heap.get?_push_of_some _ q) (Nat.le_refl _) ?_, rfl, q _ (I.hok.fresh (Nat.le_refl _))⟩
  exact ⟨Nat.le_trans (cutV_length xs lo hi) hz, _, 0, (r.drop (HT.sIx xs.length 0 lo)).take (HT.sIx xs.length xs.length hi - HT.sIx xs.length 0 lo), Heap.get?_push_size _ rfl⟩

theorem call_len_seq : CallR X (.builtin "len") (fun xs H Q => ∃ p ys, xs = [.ref p] ∧ (SqL X.K H p ys ∨ SqT X.K H p ys) ∧ Q (.int ys.length) H) := by
  intro pins s σ H xs us Q I r h
  obtain ⟨p, ys, rfl, hq, q⟩ := h
  obtain ⟨u, rfl, rx⟩ := vals1 r
  cases rx
  have hn := line63
  rcases hq with hq | hq
  · obtain ⟨its, r', pl, hz⟩ := I.list hq
    have hlen := r'.length
    exact Calls.call_len_list pl.isList (by simp only [List.size_toArray] <;> omega) ⟨.int ys.length, H, I.tok _, ⟨s.toks + 1, by rw [List.size_toArray, hlen]⟩, q⟩
  · obtain ⟨its, r', pl, hz⟩ := I.tuple hq
    have hlen := r'.length
    exact len_tuple pl (by simp only [List.size_toArray] <;> omega) ⟨.int ys.length, H, I.tok _, ⟨s.toks + 1, by rw [List.size_toArray, hlen]⟩, q⟩
theorem CallR.or {f : Value} {r r' : List V → Hp → VK → Prop} (h : CallR X f r) (h' : CallR X f r') : CallR X f (fun xs H Q => r xs H Q ∨ r' xs H Q) := by
  intro pins s σ H xs us Q I rs q
  rcases q with q | q
  · exact h pins s σ H xs us Q I rs q
  · exact h' pins s σ H xs us Q I rs q
theorem call_list_of : CallR X (.type "list") (fun xs H Q => ∃ p ys, xs = [.ref p] ∧ (SqL X.K H p ys ∨ SqT X.K H p ys) ∧ ∀ l, H l = none → Q (.ref l) (upd H l (.lst ys))) := by
  intro pins s σ H xs us Q I r h
  obtain ⟨p, ys, rfl, hq, q⟩ := h
  obtain ⟨u, rfl, rx⟩ := vals1 r
  cases rx
  have fin : ∀ (its : List Value), Vals ys its → ys.length ≤ sizeLine → ∀ (h' : Heap) (c' : Nat), (∀ b o', s.heap.get? b = some o' → h'.get? b = some o') →
      h'.get? s.heap.objs.size = some { cls := .type "list", dict := none, data := .seq its.toArray c', slots := #[] } → EP X pins σ Q (.ref s.heap.objs.size) { s with heap := h' } := fun its r' hz h' c' kp e =>
    ⟨.ref s.heap.objs.size, _, I.laid (t' := s.toks) kp (Nat.le_refl _) (show ObjOk X.prog X.w _ h' _ (.lst ys) from ⟨hz, its, c', r', e⟩), rfl, q _ (I.hok.fresh (Nat.le_refl _))⟩
  rcases hq with hq | hq
  · obtain ⟨its, r', pl, hz⟩ := I.list hq
    have hlen := r'.length
    obtain ⟨o, ho, hc, n, hd⟩ := pl.isList
    exact call_list_seq p (.inl rfl) ho hc hd (fun h' c' kp e => fin its r' hz h' c' kp e) (by simp only [List.size_toArray] <;> omega)
  · obtain ⟨its, r', pl, hz⟩ := I.tuple hq
    have hlen := r'.length
    obtain ⟨o, ho, hc, n, hd⟩ := pl
    exact call_list_seq p (.inr rfl) ho hc hd (fun h' c' kp e => fin its r' hz h' c' kp e) (by simp only [List.size_toArray] <;> omega)
theorem call_tuple_of : CallR X (.type "tuple") (fun xs H Q => ∃ p ys, xs = [.ref p] ∧ ((SqL X.K H p ys ∧ ∀ l, H l = none → Q (.ref l) (upd H l (.tup ys))) ∨ (SqT X.K H p ys ∧ Q (.ref p) H))) := by
  intro pins s σ H xs us Q I r h
  obtain ⟨p, ys, rfl, h⟩ := h
  obtain ⟨u, rfl, rx⟩ := vals1 r
  cases rx
  rcases h with ⟨hq, q⟩ | ⟨hq, q⟩
  · obtain ⟨its, r', pl, hz⟩ := I.list hq
    have hlen := r'.length
    refine call_tuple_list pl.isList (fun h' kp => ?_) (by simp only [List.size_toArray] <;> omega)
    have I1 : Inv X pins σ H { s with heap := h' } := I.kept (t' := s.toks) kp
    have I2 : Inv X pins σ (upd H h'.objs.size (.tup ys)) { s with heap := h'.push { cls := .type "tuple", data := .seq its.toArray } } :=
      I1.laid (t' := s.toks) (fun b o e => Heap.get?_push_of_some _ e) (Nat.le_refl _) (show ObjOk X.prog X.w _ _ _ (.tup ys) from ⟨hz, its, r', IsTup.new _ _⟩)
    exact ⟨.ref h'.objs.size, _, I2, rfl, q _ (I1.hok.fresh (Nat.le_refl _))⟩
  · obtain ⟨its, r', pl, hz⟩ := I.tuple hq
    exact call_tuple_same pl ⟨.ref p, H, I, rfl, q⟩

def tyV (K : PySem.W.Frag) (T : String) (x : V) (H : Hp) : Prop := match x with
  | .str _ => T = "str"
  | .int _ => T = "int"
  | .ref p => (T = "list" ∧ ∃ xs, SqL K H p xs) ∨ (T = "tuple" ∧ ∃ o, K.lookup p = some o ∧ o.cls = .type "tuple" ∧ o.dict = none) ∨
      (T = "dict" ∧ ((∃ kvs, H p = some (.dK kvs)) ∨ ∃ kvs, H p = some (.dT kvs))) ∨ (T = "set" ∧ ∃ S n, H p = some (.set S n))
  | _ => False
theorem tyV_is {pins : List (Addr × Obj)} {σ : St} {H : Hp} {s : Shared} {T : String} {x : V} {v : Value} (I : Inv X pins σ H s) (r : RelV x v) (ty : tyV X.K T x H) :
    s.TypeIs v T ∧ ∀ a, v = .ref a → ∃ ob, s.heap.get? a = some ob ∧ ob.dict = none := by
  cases x with
  | str z =>
    obtain ⟨t, rfl⟩ := r
    cases (show T = "str" from ty)
    exact ⟨typeIs_str s z t, fun _ e => nomatch e⟩
  | int i =>
    obtain ⟨t, rfl⟩ := r
    cases (show T = "int" from ty)
    exact ⟨typeIs_int s i t, fun _ e => nomatch e⟩
  | ref p =>
    cases r
    rcases ty with ⟨rfl, xs, hq⟩ | ⟨rfl, o, hk, hc, hd⟩ | ⟨rfl, hk⟩ | ⟨rfl, S, n, hk⟩
    · obtain ⟨its, _, pl, _⟩ := I.list hq
      refine ⟨pl.isList.typeIs, fun a e => ?_⟩
      cases e
      obtain ⟨o, n, e, c, hd, _⟩ := pl
      exact ⟨o, e, hd⟩
    · refine ⟨⟨o, I.kIn p o hk, hc⟩, fun a e => ?_⟩
      cases e
      exact ⟨o, I.kIn _ o hk, hd⟩
    · have z : ∃ o, s.heap.get? p = some o ∧ o.ExactDict := by
        rcases hk with ⟨kvs, hk⟩ | ⟨kvs, hk⟩
        · obtain ⟨_, _, _, _, o, _, _, e, ex, _⟩ := I.hok p _ hk
          exact ⟨o, e, ex⟩
        · obtain ⟨_, _, _, _, o, _, _, e, ex, _⟩ := I.hok p _ hk
          exact ⟨o, e, ex⟩
      obtain ⟨o, e, ex⟩ := z
      refine ⟨⟨o, e, ex.1⟩, fun a e2 => ?_⟩
      cases e2
      exact ⟨o, e, ex.2.1⟩
    · obtain ⟨o, _, _, _, e, ex, _⟩ := I.hok p _ hk
      refine ⟨⟨o, e, ex.1⟩, fun a e2 => ?_⟩
      cases e2
      exact ⟨o, e, ex.2.1⟩
  | _ => exact False.elim ty
def tBM (K : PySem.W.Frag) (T : String) (r : V → List V → Hp → VK → Prop) (to : TE) (t : TA) : TE := fun σ H Q => to σ H fun x H1 => tyV K T x H1 ∧ t σ H1 fun xs H2 => r x xs H2 Q
variable {o e : Expr} {es : List Expr} {to : TE} {t : TA} {name : Str} {apos cpos : Pos} {T id : String} {r : V → List V → Hp → VK → Prop}
theorem pe_bm (pa : PlainAttrs T) (slot : Slot T name id) (hty : typeOf (.builtin id) = pure (.type "method_descriptor")) (hm : MtR X id r) (ho : PE X o to) (ha : PA X (e :: es) t)
    (hbase : attributeBase o name X.env (eval o X.env) = eval o X.env := by rfl)
    (hfew : ((backTo cpos (starEach (e :: es) X.env)).all (fun x => !x.1) && (backToKw cpos (keywordEach [] X.env)).all (fun x => x.1.isSome)
      && decide ((e :: es).length + ([] : List Keyword).length + (if ([] : List Keyword).isEmpty then 0 else 1) < 30)) = true := by rfl)
    (hline : (apos.endLine == cpos.line) = true := by rfl) (hs : starEach (e :: es) X.env = (false, eval e X.env) :: starEach es X.env := by rfl) (hplain : (backTo cpos (starEach es X.env)).any (·.1) = false := by rfl) :
    PE X (.Call (.Attribute o name apos) (e :: es) [] cpos) (tBM X.K T r to t) := by
  intro pins s σ H Q I h
  refine wpAny_Call_method_late hbase hfew hline rfl (thn (ho pins s σ H _ I h) fun v s1 ⟨x, H1, I1, r1, ty, q1⟩ => ?_)
  obtain ⟨h1, h2⟩ := tyV_is I1 r1 ty
  refine ⟨T, id, pa, slot, hty, h1, h2, ?_⟩
  have hA := ha cpos pins s1 σ H1 _ I1 q1
  rw [hs] at hA ⊢
  refine Calls.callWith_builtin (by show (false || (backTo cpos (starEach es X.env)).any (·.1)) = false; rw [hplain] <;> rfl) (Calls.evalArgs_plain ?_)
  exact thn hA fun us s2 ⟨vs, H2, I2, r2, q2⟩ => hm pins s2 σ H2 x vs v us Q I2 r1 r2 q2
/- xs.append(e), list.index on a module's tuple .. are MtR facts of 06m -/
end
end L2

namespace L2
open PySem PySem.Spec PyProof.Rows

def MtM (X : Cx) (id : String) (r : V → List V → Hp → VK → Prop) : Prop :=
  ∀ (pins : List (Addr × Obj)) (s : Shared) (σ : St) (H : Hp) (x : V) (xs : List V) (v : Value) (us : List Value) (Q : VK), Inv X pins σ H s → RelV x v → Vals xs us → r x xs H Q →
    wpAny (model X.prog X.w) X.A (call (.builtin id) (v :: us)) (EP X pins σ Q) X.xe s

theorem Vals.one : ∀ {x : V} {us : List Value}, Vals [x] us → ∃ u, us = [u] ∧ RelV x u
  | _, _, .cons r .nil => ⟨_, rfl, r⟩
theorem Vals.two : ∀ {x y : V} {us : List Value}, Vals [x, y] us → ∃ u v, us = [u, v] ∧ RelV x u ∧ RelV y v
  | _, _, _, .cons r (.cons q .nil) => ⟨_, _, rfl, r, q⟩
theorem Vals.zero : ∀ {us : List Value}, Vals [] us → us = []
  | _, .nil => rfl
theorem Vals.reverse {xs : List V} {us : List Value} (h : Vals xs us) : Vals xs.reverse us.reverse := by
  induction h with
  | nil => exact .nil
  | cons r t ih => rw [List.reverse_cons, List.reverse_cons]; exact Vals.append ih (.cons r .nil)
theorem Vals.rep {xs : List V} {us : List Value} (h : Vals xs us) : ∀ k : Nat, Vals (List.replicate k xs).flatten (List.replicate k us).flatten
  | 0 => .nil
  | k + 1 => by
    rw [List.replicate_succ, List.replicate_succ, List.flatten_cons, List.flatten_cons]
    exact Vals.append h (Vals.rep h k)
theorem foldl_rep (its : List Value) : ∀ (k : Nat) (acc : List Value),
    List.foldl (fun x1 x2 => x1 ++ x2) acc.toArray (List.replicate k its.toArray) = (acc ++ (List.replicate k its).flatten).toArray
  | 0, acc => by simp
  | k + 1, acc => by
    have e : acc.toArray ++ its.toArray = (acc ++ its).toArray := by simp
    have e2 : (acc ++ its) ++ (List.replicate k its).flatten = acc ++ (List.replicate (k + 1) its).flatten := by
      rw [List.replicate_succ, List.flatten_cons, List.append_assoc]
    rw [← e2, ← foldl_rep its k (acc ++ its), ← e, List.replicate_succ, List.foldl_cons]

section
variable {X : Cx} {pins : List (Addr × Obj)} {σ : St} {H : Hp} {s : Shared} {l b : Addr} {xs ys zs : List V}

theorem Inv.lset {its its' : List Value} {n : Nat} {f : Array Value → Array Value} {t' : Nat} (I : Inv X pins σ H s) (hH : H l = some (.lst xs))
    (e : s.heap.get? l = some { cls := .type "list", data := .seq its.toArray n }) (hf : f its.toArray = its'.toArray) (hv : Vals ys its') (hz : ys.length ≤ sizeLine) :
    Inv X pins σ (upd H l (.lst ys)) { s with heap := s.heap.update l (Obj.mapSeq f), toks := t' } := by
  have q := PySem.IsL.update e f
  rw [hf] at q
  refine I.write (x := l) (e := l) (by rw [hH]; exact trivial) (.inl rfl) (fun b' u hb hu => (Heap.get?_update_other s.heap (Obj.mapSeq f) (Ne.symm hb)).trans hu) ⟨_, q⟩ ?_
  exact ⟨hz, its', _, hv, q⟩
theorem Inv.lnew {its : List Value} {t' : Nat} (I : Inv X pins σ H s) (hv : Vals ys its) (hz : ys.length ≤ sizeLine) :
    Inv X pins σ (upd H s.heap.objs.size (.lst ys)) { s with heap := s.heap.push { cls := .type "list", data := .seq its.toArray }, toks := t' } :=
  I.laid (fun _ _ q => Heap.get?_push_of_some _ q) (Nat.le_refl _) ⟨hz, its, 0, hv, Heap.get?_push_size _ rfl⟩
theorem Inv.fresh (I : Inv X pins σ H s) : H s.heap.objs.size = none := I.hok.fresh (Nat.le_refl _)
theorem Inv.lstM (I : Inv X pins σ H s) (hH : H l = some (.lst xs)) : xs.length ≤ sizeLine ∧ ∃ (its : List Value) (n : Nat), Vals xs its ∧ xs.length = its.length ∧ s.heap.get? l = some { cls := .type "list", data := .seq its.toArray n } := by
  obtain ⟨z, its, n, r, e⟩ := I.hok l _ hH
  exact ⟨z, its, n, r, r.length, e⟩

theorem notLongL {n : Nat} (h : n ≤ sizeLine) : Builtin.List.listTooLong n = false := by
  unfold Builtin.List.listTooLong
  exact decide_eq_false (by omega)
end

section
variable {X : Cx}

def rAppend : V → List V → Hp → VK → Prop := fun x vs H Q => ∃ l xs y, x = .ref l ∧ vs = [y] ∧ H l = some (.lst xs) ∧ xs.length < sizeLine ∧ Q .non (upd H l (.lst (xs ++ [y])))
theorem mt_append : MtM X "list.append" rAppend := by
  intro pins s σ H x vs v us Q I rx rv h
  obtain ⟨l, xs, y, rfl, rfl, hH, hz, q⟩ := h
  cases rx
  obtain ⟨u, rfl, ru⟩ := rv.one
  obtain ⟨z, its, n, r, hl, e⟩ := I.lstM hH
  refine call_meets F.slot_list_append ⟨_, e, rfl⟩ F.entry_list_append (F.args_list_append_2 _ _) (PySem.list_append l its.toArray n u (by rw [List.size_toArray]; omega)) ⟨e, ?_⟩
  refine ⟨.non, _, I.lset (its' := its ++ [u]) hH e (by simp) (r.append (.cons ru .nil)) ?_, rfl, q⟩
  rw [List.length_append, List.length_singleton]
  omega

def rCat : R2 := fun x y H Q => ∃ l b xs zs, x = .ref l ∧ y = .ref b ∧ H l = some (.lst xs) ∧ H b = some (.lst zs) ∧ xs.length + zs.length ≤ sizeLine ∧ ∀ p, H p = none → Q (.ref p) (upd H p (.lst (xs ++ zs)))
theorem op_cat : OpR X (binaryOp .Add) rCat := by
  intro pins s σ H x y v u Q I rx ry h
  obtain ⟨l, b, xs, zs, rfl, rfl, hH, hB, hz, q⟩ := h
  cases rx
  cases ry
  obtain ⟨z, its, n, r, hl, e⟩ := I.lstM hH
  obtain ⟨z2, its2, n2, r2, hl2, e2⟩ := I.lstM hB
  refine PySem.P.add_list e e2 ?_ (by rw [List.size_toArray, List.size_toArray]; omega)
  have ea : its.toArray ++ its2.toArray = (its ++ its2).toArray := by simp
  rw [ea]
  exact ⟨.ref _, _, I.lnew (t' := s.toks) (r.append r2) (by rw [List.length_append]; omega), rfl, q _ I.fresh⟩
def rRep : R2 := fun x y H Q => ∃ l k xs, x = .ref l ∧ y = .int k ∧ H l = some (.lst xs) ∧ -(2 ^ 63) ≤ k ∧ k < 2 ^ 63 ∧ xs.length * k.toNat ≤ sizeLine ∧
  ∀ p, H p = none → Q (.ref p) (upd H p (.lst (List.replicate k.toNat xs).flatten))
theorem len_rep {α : Type} (xs : List α) (k : Nat) : (List.replicate k xs).flatten.length = k * xs.length := by
  induction k with
  | zero => simp
  | succ k ih => rw [List.replicate_succ, List.flatten_cons, List.length_append, ih, Nat.succ_mul, Nat.add_comm]
theorem op_rep : OpR X (binaryOp .Mult) rRep := by
  intro pins s σ H x y v u Q I rx ry h
  obtain ⟨l, k, xs, rfl, rfl, hH, h1, h2, hz, q⟩ := h
  cases rx
  obtain ⟨t, rfl⟩ := ry
  obtain ⟨z, its, n, r, hl, e⟩ := I.lstM hH
  have hlen : its.toArray.size * k.toNat ≤ sizeLine := by rw [List.size_toArray, ← hl]; exact hz
  have hcap : ¬ its.toArray.size * k.toNat > (2 ^ 63 - 1) / 8 := by
    have : (sizeLine : Nat) ≤ (2 ^ 63 - 1) / 8 := by decide
    omega
  have hfit : ¬ (!Builtin.List.listFitsIndex k) = true := by
    rw [fitsIndex_both h1 h2]
    exact Bool.false_ne_true
  have hlong : ¬ Builtin.List.listTooLong (its.toArray.size * k.toNat) = true := by
    rw [notLongL hlen]
    exact Bool.false_ne_true
  have hnew : List.foldl (fun x1 x2 => x1 ++ x2) #[] (List.replicate (if its.toArray.isEmpty = true then 0 else k.toNat) its.toArray) = (List.replicate k.toNat its).flatten.toArray := by
    have f0 : ∀ m : Nat, List.foldl (fun x1 x2 => x1 ++ x2) #[] (List.replicate m its.toArray) = (List.replicate m its).flatten.toArray := fun m => by
      have := foldl_rep its m []
      rw [List.nil_append] at this
      exact this
    rw [f0]
    cases its with
    | nil => simp
    | cons a r' => rw [if_neg (by simp)]
  refine wpAny_binaryOp_repeat_ref (T := "list") (U := "int") (by decide) ⟨_, e, rfl⟩ (fun s' => typeIs_int s' k t) noFill_list_mul F.fills_int_mul F.slot_int_rmul repeat_list F.slot_int_index.lookup
    (call_meets F.slot_int_rmul (typeIs_int s k t) F.entry_int_rmul (F.args_int_rmul_2 _ _) (int___rmul___int_list k t l its.toArray n)
      ⟨e, rfl, ⟨_, e, rfl⟩, call_meets F.slot_list_mul ⟨_, e, rfl⟩ F.entry_list_mul (F.args_list_mul_2 _ _) (AutoListH.list___mul___list_int_3 l its.toArray n k t hfit hcap hlong) ⟨e, ?_⟩⟩)
  rw [hnew]
  exact ⟨.ref _, _, I.lnew (t' := s.toks) (r.rep k.toNat) (by rw [len_rep, Nat.mul_comm]; exact hz), rfl, q _ I.fresh⟩

end

section
variable {prog : Program} {w : World} {A : Around} {E : Value → Shared → Prop} {s : Shared}
end

section
variable {X : Cx}
end
end L2

namespace Att
open PySem PySem.W PySem.Calls PyProof.Rows

theorem ints_of_wellAll {P : Params} {h : Heap} : ∀ (ns : List Int) (vs : List Value), WellAll P h vs (ns.map WData.int) → IntsAre vs ns := by
  intro ns
  induction ns with
  | nil =>
    intro vs w
    rw [List.map_nil] at w
    cases w
    exact .nil
  | cons n ns ih =>
    intro vs w
    rw [List.map_cons] at w
    cases w with
    | cons a b =>
      cases a
      exact .cons _ _ (ih _ b)

theorem script_of {l : OpenLaw} {n : Nat} (hn : l.most = some n) {P : Params} {h : Heap} {args : List WData} {vals : List Value}
    (hpre : l.row.toRowW.claim.pre args = true) (hwl : WellAll P h vals args) :
    ∃ a vs ns, vals = [Value.ref a] ∧ args = [WData.list (ns.map WData.int)] ∧ h.get? a = some { cls := .type "list", data := .seq vs.toArray } ∧ IntsAre vs ns ∧ ns.length ≤ n := by
  have hsh : WShape.hasAll [] args [.list .int] = true := (pre_splitW hpre).1
  have hc : l.pre.holds [] { args := args } = true := (pre_splitW hpre).2
  obtain ⟨d, r, rfl, h1, h2⟩ := hasAllW_cons hsh
  obtain rfl := hasAllW_nil h2
  obtain ⟨xs, rfl, h3⟩ := hasW_list h1
  obtain ⟨ns, rfl⟩ := items_int h3
  have hlen : ns.length ≤ n := by
    unfold OpenLaw.pre at hc
    have h4 : (WTm.not (.lt (.lit (.int (n : Int))) (.len (.arg 0)))).holds [] { args := [.list (ns.map .int)] } = true := by
      have h4 := (holds_andW hc).1
      rw [hn] at h4
      exact h4
    have h5 := condW_of h4 (w_not (w_lt w_lit (w_len_list (w_arg rfl))))
    rw [List.length_map] at h5
    refine Nat.le_of_not_lt fun q => ?_
    have q' : (n : Int) < ((ns.length : Nat) : Int) := by omega
    first
      | (rw [decide_eq_true q'] at h5; exact absurd h5 (by decide))
      | (simp at h5; omega)
  cases hwl with
  | cons w1 w2 =>
    cases w2
    cases w1 with
    | list ho hall => exact ⟨_, _, ns, rfl, rfl, ho, ints_of_wellAll ns _ hall, hlen⟩

theorem post_true (l : OpenLaw) (args : List WData) : l.row.toRowW.claim.post args (.bool true) args = true :=
  postW_of (r := l.row.toRowW) (X := (true == true))
    (show WShape.has [] (.bool true) .bool = true by first | rfl | decide | simp [WShape.has, WShape.arms, WShape.armsAll])
    (show (WTm.eq .res (.lit (.bool true))).value [] { args := args, res := some (.bool true), after := args } = some (.bool (true == true)) from w_eq_bool (w_res rfl) w_lit) rfl

theorem attach_call {l : OpenLaw} {n : Nat} {q : Program} {loose : List Str} {XP : (Str → Option Value) → Heap → Prop} {YP : World → Heap → Prop} {d : DefRec}
    (hn : l.most = some n) (hdf : d.params.defaults = [])
    (call : ∀ (w : World) (s₀ s₁ : Shared) (mg mb : Str → Option Value) (fa : Addr) (o : Obj) (pm cd doc : Value) (a : Addr) (vs : List Value) (ns : List Int),
      Ground q loose [] XP w s₀ mg mb s₁.heap → YP w s₁.heap →
      s₁.heap.get? fa = some o → o.data = .func (docDef d.name d.params d.body d.scope pm cd doc) → s₁.heap.CodeRec cd d.name → mg d.name = some (.ref fa) →
      s₁.heap.get? a = some { cls := .type "list", data := .seq vs.toArray } → IntsAre vs ns → ns.length ≤ n → s₁.gens = #[] →
      codeAny (model l.prog w) callerA (.call (.ref fa) ⟨[.ref a], []⟩) (fun r s' => r = .ok (.ret (.bool true)) ∧ OldK s₁.heap s'.heap ∧ s'.os = s₁.os ∧ AllBare s'.gens) s₁) :
    WalkO q loose XP YP l.row.toRowW d [] (fun f vs => PySem.call f vs) := by
  intro w s₀ s₁ mg mb G Y fa o pm cd doc dV kV ho hd hcd hD hmg hg args vals as hpre hlay hrd hwl hlo
  obtain rfl : dV = .none := Dflts.none hD hdf
  obtain rfl : kV = .none := Dflts.noKw hD
  obtain ⟨a, vs, ns, rfl, rfl, hobj, hints, hlen⟩ := script_of hn hpre hwl
  refine enter_call (codeAny_mono (call w s₀ s₁ mg mb fa o pm cd doc a vs ns G Y ho (fd_plain hd) hcd hmg hobj hints hlen hg) fun r s' hq => ?_)
  obtain ⟨rfl, h2, h3, h4⟩ := hq
  exact ⟨.inl ⟨.bool true, .bool true, [], rfl, fun _ => rfl, .bool true, post_true l _, fun _ => ⟨List.Pairwise.nil, fun _ hm => (nomatch hm)⟩⟩, h2, h3, h4⟩

section
variable {prog : Program} {w : World} {A : Around} {E : Value → Shared → Prop} {s : Shared} {K : Frag}

end
end Att

namespace L2
open PySem PySem.Spec PyProof.Rows

theorem vals_ints : ∀ {vs : List Value} {ns : List Int}, IntsAre vs ns → Vals (ns.map V.int) vs
  | _, _, .nil => .nil
  | _, _, .cons n t h => .cons ⟨t, rfl⟩ (vals_ints h)

def Only (H : Hp) : Prop := ∀ b, H b = none ∨ ∃ o xs, H b = some (.frz o (.lst xs))

theorem law_call {P : Program} {w : World} {K : PySem.W.Frag} {mg mb : Str → Option Value} {CX : CXT} {k : Nat} {fa a : Addr} {fd : FuncData} {x : Str} {sp : Sp} {s₁ : Shared} {vs : List Value} {ns : List Int}
    (KX : K.In s₁.heap) (hns : s₁.heap.Ns mainGlobals mg) (hb : s₁.heap.Ns builtinsNs mb) (hbb : ∀ x : Str, x ≠ "__name__" → mb x = bootBuiltins x) (hlim : s₁.heap.NoLimit) (hg : s₁.gens = #[])
    (ha : s₁.heap.get? a = some { cls := .type "list", data := .seq vs.toArray }) (hi : IntsAre vs ns) (hl : ns.length ≤ sizeLine) (hr : Room k callerA)
    (F : ∀ base : Heap, K.In base → base.Ns mainGlobals mg → FnOk P w K mg base CX k fa fd [x] sp) (hbind : ∀ (s : Shared) (u : Value), BindsTo s fd ⟨[u], []⟩ [(x, u)])
    (hsp : ∀ H : Hp, Only H → SqL K H a (ns.map V.int) → sp [.ref a] H (fun v _ => v = .bl true) fun _ _ _ => False)
    (hCX : ∀ H e s', CX [] H s₁ (fun _ _ _ => False) e s' → False) :
    codeAny (model P w) callerA (.call (.ref fa) ⟨[.ref a], []⟩) (fun r s' => r = .ok (.ret (.bool true)) ∧ OldK s₁.heap s'.heap ∧ s'.os = s₁.os ∧ AllBare s'.gens) s₁ := by
  have rv := vals_ints hi
  have lenV := hi.length
  -- from an abstract heap in which nothing but the script may be tracked
  have core : ∀ H : Hp, Only H → SqL K H a (ns.map V.int) → HOk P w H s₁.heap → (∀ b, H b ≠ none → b = a) → (H a ≠ none → K.lookup a = none) →
      codeAny (model P w) callerA (.call (.ref fa) ⟨[.ref a], []⟩) (fun r s' => r = .ok (.ret (.bool true)) ∧ OldK s₁.heap s'.heap ∧ s'.os = s₁.os ∧ AllBare s'.gens) s₁ := by
    intro H hO hS hok hA hK
    have base_of : ∀ {b : Addr} {o : Obj}, s₁.heap.get? b = some o → H b = none → (hidT s₁.heap H).get? b = some o := fun e n => hidT_get e n
    have noA : ∀ {b : Addr} {o : Obj} {es : Array DictEntry} {ep : Nat}, s₁.heap.get? b = some o → o.data = .dict es ep → H b = none := fun {b o es ep} e d => by
      cases q : H b with
      | none => rfl
      | some u =>
        have e' : b = a := hA b (by rw [q]; simp)
        subst e'
        rw [ha] at e; cases e
        have d' : Data.seq vs.toArray _ = Data.dict es ep := d
        cases d'
    have nsK : ∀ {b : Addr} {m : Str → Option Value}, s₁.heap.Ns b m → (hidT s₁.heap H).Ns b m := fun {b m} ⟨o, es, ep, e, d, r⟩ => ⟨o, es, ep, base_of e (noA e d), d, r⟩
    have hKb : K.In (hidT s₁.heap H) := fun b o e => base_of (KX b o e) (by
      cases q : H b with
      | none => rfl
      | some u =>
        have e' : b = a := hA b (by rw [q]; simp)
        subst e'
        rw [hK (by rw [q]; simp)] at e; cases e)
    have hM : Mod K mg (hidT s₁.heap H) := ⟨hKb, nsK hns, ⟨mb, nsK hb, hbb⟩, let ⟨mc, h1, h2⟩ := hlim; ⟨mc, nsK h1, h2⟩⟩
    have e0 : Env0 P w K mg (hidT s₁.heap H) callerA [] s₁ H := ⟨rfl, hM, fun b o e => of_hidT e, Nat.le_of_eq (hidT_size _ _), trivial, fun b hb => absurd (show b ∈ ([] : List Addr) from hb) (by simp), hok, .of_eq hg⟩
    refine codeAny_mono ((F _ hKb (nsK hns)).run callerA [] s₁ H ⟨[.ref a], []⟩ [.ref a] [.ref a] _ _ hr e0 (hbind s₁ (.ref a)) (.cons rfl .nil) (hsp H hO hS)) fun r s' h => ?_
    cases r with
    | error e => exact (hCX H e s' h).elim
    | ok fl =>
      cases fl with
      | next => exact False.elim h
      | brk => exact False.elim h
      | cont => exact False.elim h
      | ret u =>
        obtain ⟨v, H', os, bare, un, hok', r', q⟩ := h
        have q' : v = .bl true := q
        subst q'
        obtain rfl : u = Value.bool true := r'
        refine ⟨rfl, OldK.of_keep fun b o e => ?_, os, bare⟩
        cases q : H b with
        | none => exact un.keep b o e q (by intro z; exact absurd (show b ∈ ([] : List Addr) from z) (by simp)) (by simp)
        | some u =>
          rcases hO b with z | ⟨ob, xs, z⟩
          · rw [q] at z; cases z
          · have z2 := un.frzs b ob _ z
            obtain ⟨e1, _⟩ := hok b _ z
            obtain ⟨e2, _⟩ := hok' b _ z2
            rw [e] at e1; cases e1
            exact e2
  cases hk : K.lookup a with
  | some o =>
    -- the script is one of the module's own objects
    have e := KX a o hk
    rw [ha] at e
    cases e
    refine core (fun _ => none) (fun _ => .inl rfl) (.inr ⟨_, vs.toArray, _, hk, rfl, rfl, rfl, by rw [List.size_toArray, lenV]; exact hl, by simpa using rv⟩) (fun b u z => by have z' : (none : Option HO) = some u := z; cases z') (fun b z => absurd rfl z) fun z => absurd rfl z
  | none =>
    refine core (fun b => if b = a then some (.frz { cls := .type "list", data := .seq vs.toArray } (.lst (ns.map V.int))) else none) (fun b => ?_) (.inl (.inr ⟨{ cls := .type "list", data := .seq vs.toArray }, if_pos rfl⟩)) (fun b u z => ?_) (fun b z => ?_) fun _ => hk
    · by_cases hb : b = a
      · exact .inr ⟨_, _, if_pos hb⟩
      · exact .inl (if_neg hb)
    · by_cases hb : b = a
      · have z' := (if_pos hb).symm.trans z
        cases z'
        subst hb
        exact ⟨ha, by rw [List.length_map]; exact hl, vs, _, rv, ha⟩
      · have z' := (if_neg hb).symm.trans z
        cases z'
    · by_cases hb : b = a
      · exact hb
      · exact absurd (if_neg hb) z
end L2

namespace L2
open PySem PySem.Spec PyProof.Rows

abbrev KOf {K : PySem.W.Frag} {h : Heap} (_ : K.In h) : PySem.W.Frag := K

theorem walk_of {l : PySem.W.OpenLaw} {n k : Nat} {q : Program} {loose : List Str} {XP : (Str → Option Value) → Heap → Prop} {YP : World → Heap → Prop} {d : DefRec} {K : Params → PySem.W.Frag} {CX : World → CXT} {sp : World → Sp} {x : Str}
    (hn : l.most = some n) (hn2 : n ≤ sizeLine) (hdf : d.params.defaults = []) (hr : Room k callerA)
    (hY : ∀ (w : World) (h : Heap), YP w h → (K w.params).In h)
    (F : ∀ (w : World) (mg : Str → Option Value) (fa : Addr) (h : Heap), (K w.params).In h → h.Ns mainGlobals mg → mg d.name = some (.ref fa) →
      ∃ fd : FuncData, (∀ (s : Shared) (u : Value), BindsTo s fd ⟨[u], []⟩ [(x, u)]) ∧
        ∀ base : Heap, (K w.params).In base → base.Ns mainGlobals mg → FnOk l.prog w (K w.params) mg base (CX w) k fa fd [x] (sp w))
    (hsp : ∀ (w : World) (H : Hp) (a : Addr) (ns : List Int), ns.length ≤ n → Only H → SqL (K w.params) H a (ns.map V.int) → sp w [.ref a] H (fun v _ => v = .bl true) fun _ _ _ => False)
    (hCX : ∀ (w : World) (H : Hp) (s : Shared) (e : Value) (s' : Shared), CX w [] H s (fun _ _ _ => False) e s' → False) :
    PySem.W.WalkO q loose XP YP l.row.toRowW d [] (fun f vs => PySem.call f vs) := by
  refine Att.attach_call hn hdf fun w s₀ s₁ mg mb fa o pm cd doc a vs ns G Y ho hd hcd hmg hobj hints hlen hg => ?_
  have KX := hY w _ Y
  obtain ⟨fd, hb, hF⟩ := F w mg fa _ KX G.T.g hmg
  exact law_call KX G.T.g G.T.b G.T.builtins G.T.nolimit hg hobj hints (Nat.le_trans hlen hn2) hr hF hb (fun H hO hS => hsp w H a ns hlen hO hS) fun H e s' => hCX w H s₁ e s'
end L2

/- THE LAST THEOREM (shape; LID, My.* are yours):
   My.Adr: a structure of the addresses that your layer names (classes, functions); My.Txt K t: a structure (Prop) of the equations over K;
   My.txt_mk : {K} {implicit addresses ..} (e1 : nsIn K mainGlobals "law" = some (some (.ref f))) (e2 : K.lookup f = some ⟨oc, od, .func (fnOf "law" "law" params body scope dV kV doc pm an cdv ct), sl⟩) (e3 : codeIn K cdv "law" = true) .. : ∃ t, My.Txt K t

set_option maxRecDepth 100000 in
set_option maxHeartbeats 0 in
theorem PySem.Challenge.cw_LID_holds : PySem.Challenge.rw_LID.Holds := by
  w_on; o_law; k_head; (case hw => w_witness2)
  k_fill
  refine L2.walk_of (l := PySem.Challenge.rw_LID) (n := 63) (k := 40) (x := "script") (CX := fun w => ..) (sp := fun _ => My.sp_law) rfl (by decide) rfl ⟨rfl, by decide, by decide⟩ (fun w h Y => PySem.W.kIn_of Y) ?F ?S ?C
  case F =>
    intro w mg fa h KX G hmg
    have T : ∃ t, My.Txt (L2.KOf KX) t := by
      dsimp only [L2.KOf]                          -- K must stand as «<heap const> w.params» for k_is
      refine' My.txt_mk ?e1 ?e2 ?e3 ..
      (case e1 => PySem.W.k_is)                    -- in the order: a name -> its address -> its object -> its parts
      (case e2 => PySem.W.k_is)
      ..
    obtain ⟨t, T⟩ := T
    have e0 := hmg.symm.trans (PySem.W.mg_of KX G T.law)
    cases e0                                       -- fa is the law's own address
    exact ⟨_, fun s u => .of_eq rfl, fun base kb nb => My.law_fn T kb nb⟩     -- if «.of_eq rfl» comes too early: refine' ⟨_, ?b, fun base kb nb => My.law_fn T kb nb⟩; exact fun s u => .of_eq rfl
  case S => exact fun w H a ns hl hO hS => ..
  case C => exact ..
(the tactic k_is has no namespace: write k_is) -/

namespace L2
open PySem PySem.Spec PyProof.Rows

def inClass (s : Stmt) (j : Nat) : Stmt := match s with
  | .ClassDef _ _ _ body _ _ _ _ _ _ _ => body.getD j (.Pass ⟨0, 0, 0, 0⟩)
  | _ => .Pass ⟨0, 0, 0, 0⟩
def defArgs (s : Stmt) : Arguments := match s with
  | .FunctionDef _ a _ _ _ _ _ _ _ _ => a
  | _ => { posonlyargs := [], args := [], vararg := none, kwonlyargs := [], kw_defaults := [], kwarg := none, defaults := [] }
def defBody (s : Stmt) : List Stmt := match s with
  | .FunctionDef _ _ b _ _ _ _ _ _ _ => b
  | _ => []
def defScope (s : Stmt) : Scope := match s with
  | .FunctionDef _ _ _ _ _ _ sc _ _ _ => sc
  | _ => { kind := .function, names := [], isGenerator := false, isCoroutine := false }

abbrev CX0 : CXT := fun _ _ _ _ _ _ => False
abbrev E0 : XK := fun _ _ _ => False
theorem pass0 {X : Cx} : Passes CX0 X E0 := fun _ _ _ _ _ _ _ h => h.elim

structure Fun (K : PySem.W.Frag) (x qual : Str) (st : Stmt) (f : Addr) (fd : FuncData) : Prop where
  ex : ∃ (oc : Value) (od : Option Addr) (kV doc pm : Value) (an : Option Addr) (cdv ct : Value) (osl : Array (Option Value)),
    fd = PySem.W.fnOf x qual (defArgs st) (defBody st) (defScope st) .none kV doc pm an cdv ct ∧ K.lookup f = some ⟨oc, od, .func fd, osl⟩ ∧ PySem.W.codeIn K cdv qual = true
  kp : PySem.W.keepIn K (.ref f) = true
section
variable {P : Program} {w : World} {K : PySem.W.Frag} {mg : Str → Option Value} {base : Heap}
theorem Fun.ok {x qual : Str} {st : Stmt} {f : Addr} {fd : FuncData} {N ps : List Str} {k : Nat} {sp : Sp} (F : Fun K x qual st f fd) (S : FnScope N ps (defScope st)) (len : ∀ vs H Q E, sp vs H Q E → vs.length = ps.length)
    (hbody : ∀ (cdv : Value) (A : Around) (outer : List Env) (s : Shared) (H : Hp) (vs : List V) (Q : VK) (E : XK), Room k (A.deeper (envOfC qual (defScope st) s.heap.objs.size f cdv)) → sp vs H Q E →
      ∃ t, PSs (cxOf CX0 P w K mg base N qual (defScope st) f cdv A outer s H E).nox (defBody st) t ∧ t { nx := fun _ H' => Q .non H', rt := Q } (start N vs) H) : FnOk P w K mg base CX0 (k + 1) f fd ps sp := by
  obtain ⟨oc, od, kV, doc, pm, an, cdv, ct, osl, rfl, lk, hcd⟩ := F.ex
  refine fn_of lk hcd S len fun A outer s H vs Q E hr hsp => ?_
  obtain ⟨t, h, q⟩ := hbody cdv A outer s H vs Q E hr hsp
  exact ⟨t, h.nox, q⟩
theorem Fun.binds {x qual : Str} {st : Stmt} {f : Addr} {fd : FuncData} {ps : List Str} (F : Fun K x qual st f fd)
    (h : ∀ (kV doc pm : Value) (an : Option Addr) (cdv ct : Value) (us : List Value), us.length = ps.length → bindArgs (PySem.W.fnOf x qual (defArgs st) (defBody st) (defScope st) .none kV doc pm an cdv ct) ⟨us, []⟩ = pure (ps.zip us)) : Binds K fd ps [] := by
  obtain ⟨oc, od, kV, doc, pm, an, cdv, ct, osl, rfl, lk, hcd⟩ := F.ex
  exact .all (h kV doc pm an cdv ct)
theorem fun_mk {x qual : Str} {st : Stmt} {f : Addr} {oc : Value} {od an : Option Addr} {osl : Array (Option Value)} {kV doc pm cdv ct : Value} (l : K.lookup f = some ⟨oc, od, .func (PySem.W.fnOf x qual (defArgs st) (defBody st) (defScope st) .none kV doc pm an cdv ct), osl⟩)
    (c : PySem.W.codeIn K cdv qual = true) (k : PySem.W.keepIn K (.ref f) = true) : Fun K x qual st f (PySem.W.fnOf x qual (defArgs st) (defBody st) (defScope st) .none kV doc pm an cdv ct) := ⟨⟨oc, od, kV, doc, pm, an, cdv, ct, osl, rfl, l, c⟩, k⟩
end
theorem small1000 {n : Nat} (h : n ≤ 1000) : n < sizeLine := Nat.lt_of_le_of_lt h (by decide)

section
variable {X : Cx}
theorem pv (i : Nat) {x : Str} {pos : Pos} (hN : X.N[i]? = some x := by rfl) (hv : Vis X.env.scope x := by first | exact Or.inl rfl | exact Or.inr (Or.inl rfl) | exact Or.inr (Or.inr rfl)) (hd : (x == ("__debug__" : Str)) = false := by decide)
    (hcd : (x == ("__classdict__" : Str)) = false := by decide) : PE X (.Name x pos) (tVar i) := pe_var hN hv hd hcd
end

theorem iteF {A B : Prop} (h : B) : if false = true then A else B := by
  rw [if_neg Bool.false_ne_true]
  exact h
theorem iteT {A B : Prop} (h : A) : if true = true then A else B := by
  rw [if_pos rfl]
  exact h
theorem ite2 {c A B : Prop} [Decidable c] (h1 : c → A) (h2 : ¬ c → B) : if c then A else B := by
  by_cases h : c
  · rw [if_pos h]
    exact h1 h
  · rw [if_neg h]
    exact h2 h
def Same (H H' : Hp) : Prop := ∀ b o, H b = some o → H' b = some o
theorem Same.refl (H : Hp) : Same H H := fun _ _ h => h
theorem Same.trans {H H1 H2 : Hp} (a : Same H H1) (b : Same H1 H2) : Same H H2 := fun c o h => b c o (a c o h)
theorem Same.free {H H' : Hp} (e : Same H H') {l : Addr} (h : H' l = Option.none) : H l = Option.none := by
  cases q : H l with
  | none => rfl
  | some o =>
    rw [e l o q] at h
    cases h
theorem Same.seq {K : PySem.W.Frag} {H H' : Hp} {a : Addr} {xs : List V} (e : Same H H') (h : SqL K H a xs) : SqL K H' a xs := by
  rcases h with (h | ⟨o, h⟩) | h
  · exact .inl (.inl (e _ _ h))
  · exact .inl (.inr ⟨o, e _ _ h⟩)
  · exact .inr h

end L2
set_option Elab.async false
set_option linter.all false
set_option maxRecDepth 100000
namespace L2
open PySem PySem.Spec PyProof.Rows

section
variable {prog : Program} {w : World} {A : Around} {R : Result → Shared → Prop} {s : Shared}
theorem compLoop_any {elt target iter : Expr} {ifs : List Expr} {scope : Scope} {pos : Pos} {it acc : Value} {env : Env} (I : Nat → Shared → Prop)
    (turn : ∀ n s, I n s → wpAny (model prog w) A (pyNext it) (fun r s₁ => match r with
      | none => R (.ok .next) s₁
      | some v => wpAny (model prog w) A (letOwnedTupleGo target it v) (fun _ s₀ => wpAny (model prog w) A (assign target env v) (fun _ s₂ =>
          wpAny (model prog w) A (forIn ifs true fun c r => if r = true then do let ok ← isTrue c env (eval c env); pure (ForInStep.yield ok) else pure (ForInStep.yield r)) (fun ok s₃ =>
            if ok = true then wpAny (model prog w) A (eval elt env) (fun x s₄ =>
              wpAny (model prog w) A (call (.builtin "list.append") [acc, x]) (fun _ s₅ => ∃ m, m < n ∧ I m s₅) (fun _ _ => False) s₄) (fun _ _ => False) s₃
            else ∃ m, m < n ∧ I m s₃) (fun _ _ => False) s₂) (fun _ _ => False) s₀) (fun _ _ => False) s₁) (fun _ _ => False) s)
    (n : Nat) (h : I n s) :
    codeAny (model prog w) A (.compLoop (.ListComp elt [⟨target, iter, ifs, 0⟩] scope pos) 0 it acc env) R s := by
  refine codeAny_loop rfl I (fun n s hI => ?_) n h
  show wpAny _ A ((compTurn (.ListComp elt [⟨target, iter, ifs, 0⟩] scope pos) 0 it acc env).onRaise (fun x => do noteFrame x env; theTreesLotGoes x)) _ _ s
  refine wpAny_noted ?_
  rw [compTurn_list]
  have no : ∀ {X : Prop}, ∀ (e : Value) (s' : Shared), (fun _ _ => False : Value → Shared → Prop) e s' → X := fun _ _ z => False.elim z
  refine wpAny_bind (wpAny_standAt (wpAny_bind (wpAny_mono (turn n s hI) (fun r s₁ h₁ => ?_) fun e s' => no e s')))
  cases r with
  | none => exact wpAny_pure h₁
  | some v =>
    refine wpAny_bind (wpAny_mono h₁ (fun _ s₀ h₀ => ?_) fun e s' => no e s')
    refine wpAny_bind (wpAny_mono h₀ (fun _ s₂ h₂ => wpAny_bind (wpAny_mono h₂ (fun ok s₃ h₃ => ?_) fun e s' => no e s')) fun e s' => no e s')
    cases ok with
    | false => exact wpAny_pure ⟨rfl, h₃⟩
    | true =>
      exact wpAny_bind (wpAny_bind (wpAny_mono h₃ (fun x s₄ h₄ => wpAny_bind (wpAny_mono h₄ (fun _ s₅ h₅ => wpAny_pure (wpAny_pure ⟨rfl, h₅⟩)) fun e s' => no e s')) fun e s' => no e s'))
end

def cxComp (X : Cx) (NB : List Str) (scope : Scope) (s3 : Shared) (H3 : Hp) (fp : List Addr) : Cx :=
  { X with N := NB, s₀ := s3, H₀ := H3, env := compEnv scope s3.heap.objs.size X.env, outer := X.stack, stack := X.stack, ex := fp, fn := fun _ => true, pn := [], xe := fun _ _ => False }

def PTs (X : Cx) (ifs : List Expr) (t : TT) : Prop :=
  ∀ (pins : List (Addr × Obj)) (s : Shared) (σ : St) (H : Hp) (Q : Bool → Hp → Prop), Inv X pins σ H s → t σ H Q →
    wpAny (model X.prog X.w) X.A (forIn ifs true fun c r => if r = true then do let ok ← isTrue c X.env (eval c X.env); pure (ForInStep.yield ok) else pure (ForInStep.yield r)) (TP X pins σ Q) X.xe s
theorem pts_nil {X : Cx} : PTs X [] (fun _ H Q => Q true H) := fun _ _ _ H _ I h => wpAny_tests_nil ⟨H, I, h⟩
theorem pts_one {X : Cx} {c : Expr} {t : TT} (h : PT X c t) : PTs X [c] t := fun pins s σ H Q I q => wpAny_tests_one (h pins s σ H Q I q)

def tComp (n : Nat) (wi : TI) (g : TG) (tt : TT) (te : TE) : TE := fun σ H Q => wi σ H fun J H1 => ∀ D, H1 D = none → ∃ W : Nat → Nat → Hp → List V → Prop, (∃ m, W 0 m (upd H1 D (.lst [])) []) ∧
  ∀ i m H2 ys, W i m H2 ys → H2 D = some (.lst ys) → (J.stop i H2 ∧ Q (.ref D) H2) ∨
    (J.go i H2 ∧ ∀ σB x H3, σB.length = n → J.yld i H2 x H3 → g x σB H3 fun σ4 H4 => tt σ4 H4 fun b H5 => if b = true then te σ4 H5 (fun v H6 => H6 D = some (.lst ys) ∧ ys.length < sizeLine ∧ ∃ m', m' < m ∧ W (i + 1) m' (upd H6 D (.lst (ys ++ [v]))) (ys ++ [v]))
      else H5 D = some (.lst ys) ∧ ∃ m', m' < m ∧ W (i + 1) m' H5 ys)


theorem pe_comp {X : Cx} {elt tg iter : Expr} {ifs : List Expr} {scope : Scope} {pos : Pos} {NB : List Str} {wi : TI} {g : TG} {tt : TT} {te : TE}
    (hc : X.calm = true) (hfree : ∀ x ∈ scope.names, x.2 ≠ .free) (hcell : ∀ x ∈ scope.names, x.2 ≠ .cell) (hkind : scope.kind = .function) (hnames : ∀ x ∈ scope.names, x.2 = .local → scope.names.lookup x.1 = some .local)
    (hi : PI X tg iter wi) (hb : ∀ s3 H3 fp, PG (cxComp X NB scope s3 H3 fp) tg g ∧ PTs (cxComp X NB scope s3 H3 fp) ifs tt ∧ PE (cxComp X NB scope s3 H3 fp) elt te)
    (hs : ∀ x, foldedSetIterable iter X.env x = pure x := by intro _; rfl) :
    PE X (.ListComp elt [⟨tg, iter, ifs, 0⟩] scope pos) (tComp NB.length wi g tt te) := by
  intro pins s σ H Q I h
  refine wpAny_ListComp hfree hkind hnames (thn (hi pins s σ H _ I h) fun v s1 h1 => thn h1 fun itv s2 h2 => ?_) hs
  obtain ⟨it, fp, tn, J, H2, e, I2, T, st2, f2, q2⟩ := h2
  subst e
  have hf2 : H2 s2.heap.objs.size = none := I2.hok.fresh (Nat.le_refl _)
  obtain ⟨W, ⟨m0, w0⟩, turn⟩ := q2 _ hf2
  refine wpAny_newObj_type (hd := by size_fits) ?_
  have I3 : Inv X pins σ (upd H2 s2.heap.objs.size (.lst [])) { s2 with heap := s2.heap.push { cls := .type "list", dict := none, data := .seq ([] : List Value).toArray } } :=
    I2.laid (t' := s2.toks) (fun b u e => Heap.get?_push_of_some _ e) (Nat.le_refl _) ⟨by decide, [], 0, .nil, Heap.get?_push_size _ rfl⟩
  generalize hD : s2.heap.objs.size = D at *
  generalize hs3 : ({ s2 with heap := s2.heap.push { cls := .type "list", dict := none, data := .seq ([] : List Value).toArray } } : Shared) = s3 at *
  generalize hH3 : upd H2 D (.lst []) = H3 at *
  have h3D : H3 D = some (.lst []) := by rw [← hH3]; exact upd_same
  have fpD : ∀ b ∈ fp, b ≠ D := fun b hb => by
    obtain ⟨o, e, _⟩ := T.obj _ _ st2 b hb
    rw [← hD]; exact Nat.ne_of_lt (Heap.lt_size e)
  have k23 : ∀ b u, s2.heap.get? b = some u → s3.heap.get? b = some u := fun b u e => by rw [← hs3]; exact Heap.get?_push_of_some _ e
  have st3 : tn 0 s3.heap := T.keep _ _ _ st2 fun b _ o e => k23 b o e
  have f3 : ∀ b ∈ fp, FpOk X pins H3 b := fun b hb => ⟨by rw [← hH3, upd_ne (fpD b hb)]; exact (f2 b hb).1, (f2 b hb).2⟩
  refine wpAny_newFunctionEnv hcell (by intro y hy; simp at hy) (fun h4 hns4 hsb4 => ?_) hkind
  have k34 : ∀ b u, s3.heap.get? b = some u → h4.get? b = some u := fun b u e => hsb4.extBut b u (Nat.ne_of_lt (Heap.lt_size e)) (Heap.get?_push_of_some _ e)
  have okB : (cxComp X NB scope s3 H3 fp).Ok := by
    refine ⟨I3.ok.mod, hkind, I3.ok.glob, I3.ok.blt, Nat.le_refl _, fun x y c e _ => ?_, fun x e => ?_, fun x c _ e => ?_, I3.ok.hd, I3.ok.frames, .inl rfl, fun b hb => ⟨?_, fun x c e => ?_⟩, I3.bs, Nat.le_trans I3.ok.bsz I3.sz, fun b o e hb => ?_, fun b hb z => ?_, I3.stack, I3.stkFree⟩
    · exact absurd (show ([] : List (Str × Addr)).lookup x = some c from e) (by simp)
    · have e' : scope.names.lookup x = some .cell ∨ scope.names.lookup x = some .free := e
      rcases e' with e' | e'
      · exact absurd rfl (hcell _ (PySem.mem_of_lookup e'))
      · exact absurd rfl (hfree _ (PySem.mem_of_lookup e'))
    · exact absurd (show ([] : List (Str × Addr)).lookup x = some c from e) (by simp)
    · obtain ⟨o, e, _⟩ := T.obj _ _ st3 b hb
      exact Nat.ne_of_lt (Heap.lt_size e)
    · exact absurd (show ([] : List (Str × Addr)).lookup x = some c from e) (by simp)
    · obtain ⟨_, _, _, z, _⟩ := f3 b hb
      rcases z with z | z
      · exact I3.ok.noex b o e z
      · exact absurd (Nat.lt_of_lt_of_le (Heap.lt_size e) (Nat.le_trans I3.ok.bsz z)) (Nat.lt_irrefl _)
    · obtain ⟨_, z1, z2, _⟩ := f3 b hb
      rcases List.mem_cons.mp (I3.stkSub b z) with e | e
      · exact z1 e
      · exact z2 e
  have IB : Inv (cxComp X NB scope s3 H3 fp) [] (List.replicate NB.length none) H3 { s3 with heap := h4, toks := s3.toks + ([] : List (Str × Value)).length } := by
    refine ⟨okB, rfl, I3.bare, Un.kept k34, ⟨_, hns4, fun i x v _ e _ => ?_⟩, fun x c e => ?_, I3.hok.fresh (Nat.le_refl _), fun x c e => ?_, fun p hp => ?_, I3.hok.kept k34, by simp [cxComp]⟩
    · rw [List.getElem?_replicate] at e
      split at e <;> cases e
    · exact absurd (show ([] : List (Str × Addr)).lookup x = some c from e) (by simp)
    · exact absurd (show ([] : List (Str × Addr)).lookup x = some c from e) (by simp)
    · exact absurd (show p ∈ ([] : List (Addr × Obj)) from hp) (by simp)
  have st4 : tn 0 h4 := T.keep _ _ _ st3 fun b _ o e => k34 b o e
  have C_ne : ∀ b ∈ fp, b ≠ s3.heap.objs.size := fun b hb => (okB.exf b hb).1
  -- what stays true of the iterator's objects
  have stat : ∀ {H' : Hp}, (∀ b ∈ fp, H' b = none) → ∀ b ∈ fp, FpOk (cxComp X NB scope s3 H3 fp) [] H' b := fun hn b hb =>
    ⟨hn b hb, C_ne b hb, okB.exfs b hb, .inl hb, fun x c e => absurd (show ([] : List (Str × Addr)).lookup x = some c from e) (by simp), fun p hp => absurd (show p ∈ ([] : List (Addr × Obj)) from hp) (by simp)⟩
  obtain ⟨hg, ht, he⟩ := hb s3 H3 fp
  have fin : ∀ {σ' : St} {H' : Hp} {s' : Shared}, Inv (cxComp X NB scope s3 H3 fp) [] σ' H' s' → Q (.ref D) H' →
      ∃ m, s'.heap.Ns s3.heap.objs.size m ∧ ∀ h', Heap.SameBut s3.heap.objs.size s'.heap h' → EP X pins σ Q (.ref D) { s' with heap := h' } := fun {σ' H' s'} J q => by
    obtain ⟨m, hm, _⟩ := J.loc
    refine ⟨m, hm, fun h' sb => ⟨.ref D, H', ?_, rfl, q⟩⟩
    have neC : ∀ b o, s3.heap.get? b = some o → b ≠ s3.heap.objs.size := fun b o e => Nat.ne_of_lt (Heap.lt_size e)
    have hfr : H' s3.heap.objs.size = none := J.free
    have up : ∀ b o, b ≠ s3.heap.objs.size → s'.heap.get? b = some o → h'.get? b = some o := fun b o hb e => (sb.2 b hb).trans e
    have hok' : HOk X.prog X.w H' h' := fun b ob e => (J.hok b ob e).stay (fun c w' hc q => up c w' (by
      rintro rfl
      rcases hc with rfl | hc
      · rw [hfr] at e; cases e
      · rw [hfr] at hc; cases hc) q) (fun _ q => q) fun _ _ q => q
    have u : Un (frs X.stack) fp H3 H' s3.heap h' :=
      ⟨fun b o e n hb hx => up b o (neC b o e) (J.base.keep b o e n hb hx), fun b o e n hb hx => by
        obtain ⟨sl, e'⟩ := J.base.slot b o e n hb hx
        exact ⟨sl, up b _ (neC b o e) e'⟩, J.base.free, fun b o e hx => by
        obtain ⟨o', e'⟩ := J.base.there b o e hx
        exact ⟨o', up b _ (neC b o e) e'⟩, J.base.tups, J.base.frzs, J.base.tbls⟩
    refine I3.call' (s' := { s' with heap := h' }) (ch := fp) J.os u hok' J.bare fun b hb => ?_
    obtain ⟨z0, z1, z2, z3, z4, z5⟩ := f3 b hb
    exact ⟨z3, z1, z4, z5⟩
  have loop : ∀ s5 : Shared, s5 = { s3 with heap := h4, toks := s3.toks + ([] : List (Str × Value)).length } →
      codeAny (model X.prog X.w) X.A (.compLoop (.ListComp elt [⟨tg, iter, ifs, 0⟩] scope pos) 0 (.ref it) (.ref D) (compEnv scope s3.heap.objs.size X.env))
        (fun r s' => ∃ m, s'.heap.Ns s3.heap.objs.size m ∧ ∀ h', Heap.SameBut s3.heap.objs.size s'.heap h' →
          match r with | .ok _ => EP X pins σ Q (.ref D) { s' with heap := h' } | .error x => wpAny (model X.prog X.w) X.A (passOn "comprehension.variables-let-go" x (compEnv scope s3.heap.objs.size X.env)) (EP X pins σ Q) X.xe { s' with heap := h' }) s5 := by
    rintro s5 rfl
    refine compLoop_any (fun n s' => ∃ i σ' H' ys, Inv (cxComp X NB scope s3 H3 fp) [] σ' H' s' ∧ tn i s'.heap ∧ (∀ b ∈ fp, H' b = none) ∧ H' D = some (.lst ys) ∧ W i n H' ys) ?_ m0
      ⟨0, _, H3, [], IB, st4, fun b hb => (f3 b hb).1, h3D, by rw [← hH3] at *; exact w0⟩
    rintro n s6 ⟨i, σ6, H6, ys, I6, st6, fr6, hD6, w6⟩
    rcases turn i n H6 ys w6 hD6 with ⟨stop, qn⟩ | ⟨go, step⟩
    · refine thn (T.done (cxComp X NB scope s3 H3 fp) rfl rfl rfl hc i [] s6 σ6 H6 _ I6 (stat fr6) st6 stop) fun r s7 ⟨hr, I7⟩ => ?_
      subst hr
      exact fin I7 qn
    · refine thn (T.item (cxComp X NB scope s3 H3 fp) rfl rfl rfl hc i [] s6 σ6 H6 _ I6 (stat fr6) st6 go) fun r s7 ⟨u, hr, h7⟩ => ?_
      subst hr
      refine thn h7 fun _ s8 ⟨x, H8, I8, r8, y8, st8, fr8⟩ => ?_
      have I8' := I8.pinned (stat fr8) (T.obj _ _ st8)
      have again : ∀ {σ9 : St} {H9 : Hp} {s9 : Shared} {zs : List V} {m' : Nat}, Inv (cxComp X NB scope s3 H3 fp) ([] ++ pinsAt fp s8.heap) σ9 H9 s9 → H9 D = some (.lst zs) → m' < n → W (i + 1) m' H9 zs →
          ∃ m, m < n ∧ ∃ i σ' H' ys, Inv (cxComp X NB scope s3 H3 fp) [] σ' H' s9 ∧ tn i s9.heap ∧ (∀ b ∈ fp, H' b = none) ∧ H' D = some (.lst ys) ∧ W i m H' ys := fun {σ9 H9 s9 zs m'} I9 hz hm w9 => by
        refine ⟨m', hm, i + 1, σ9, H9, zs, I9.unpinned, T.keep _ _ _ st8 fun b hb o e => (I9.pin (b, o) (List.mem_append_right _ (List.mem_append_right _ (mem_pinsAt hb e)))).1, fun b hb => ?_, hz, w9⟩
        obtain ⟨o, e, d⟩ := T.obj _ _ st8 b hb
        exact (I9.pin (b, o) (List.mem_append_right _ (List.mem_append_right _ (mem_pinsAt hb e)))).2.1
      refine thn (hg _ s8 σ6 H8 x u _ I8' r8 (step σ6 x H8 I6.len y8)) fun _ s9 ⟨σ9, H9, I9, q9⟩ => ?_
      refine thn (ht _ s9 σ9 H9 _ I9 q9) fun ok s10 ⟨H10, I10, q10⟩ => ?_
      cases ok with
      | false =>
        rw [if_neg (by decide)] at q10 ⊢
        obtain ⟨hz, m', hm, w'⟩ := q10
        exact again I10 hz hm w'
      | true =>
        rw [if_pos rfl] at q10 ⊢
        refine thn (he _ s10 σ9 H10 _ I10 q10) fun y s11 ⟨v, H11, I11, r11, hz, hlen, m', hm, w'⟩ => ?_
        refine thn (mt_append _ s11 σ9 H11 (.ref D) [v] (.ref D) [y] (fun _ H12 => H12 = upd H11 D (.lst (ys ++ [v]))) I11 rfl (.cons r11 .nil) ⟨D, ys, v, rfl, rfl, hz, hlen, rfl⟩) fun _ s12 ⟨_, H12, I12, _, e12⟩ => ?_
        subst e12
        exact again I12 upd_same hm w'
  exact codeAny_compStart_list (loop _ rfl) (T.self X.A 0 _ _ _ st4 (loop _ rfl))
end L2
set_option Elab.async false
set_option linter.all false
set_option maxRecDepth 100000
namespace L2
open PySem PySem.Spec PyProof.Rows

mutual
inductive RdD (H : Hp) : V → PyData → Prop
  | non : RdD H .non .none
  | bl (b : Bool) : RdD H (.bl b) (.bool b)
  | int (i : Int) : RdD H (.int i) (.int i)
  | str (x : Str) : RdD H (.str x) (.str x)
  | tup {a : Addr} {xs : List V} {ds : List PyData} : H a = some (.tup xs) → RdDs H xs ds → RdD H (.ref a) (.tuple ds)
  | lst {a : Addr} {xs : List V} {ds : List PyData} : H a = some (.lst xs) → RdDs H xs ds → RdD H (.ref a) (.list ds)
inductive RdDs (H : Hp) : List V → List PyData → Prop
  | nil : RdDs H [] []
  | cons {x : V} {d : PyData} {xs : List V} {ds : List PyData} : RdD H x d → RdDs H xs ds → RdDs H (x :: xs) (d :: ds)
end
section
variable {X : Cx} {pins : List (Addr × Obj)} {σ : St} {H : Hp} {s : Shared}
mutual
theorem RdD.reads (I : Inv X pins σ H s) : ∀ {x : V} {d : PyData}, RdD H x d → ∀ {u : Value}, RelV x u → ∃ as, Reads s.heap u d as
  | _, _, .non, u, r => by cases (show u = Value.none from r); exact ⟨_, .none⟩
  | _, _, .bl b, u, r => by cases (show u = Value.bool b from r); exact ⟨_, .bool b⟩
  | _, _, .int i, u, r => by obtain ⟨t, e⟩ := (show ∃ t, u = Value.int i t from r); subst e; exact ⟨_, .int i t⟩
  | _, _, .str x, u, r => by obtain ⟨t, e⟩ := (show ∃ t, u = Value.str x t from r); subst e; exact ⟨_, .str x t⟩
  | _, _, @RdD.tup _ a xs ds e h, u, r => by
    cases (show u = Value.ref a from r)
    obtain ⟨_, its, rv, o, h1, h2, n, h3⟩ := (show ObjOk X.prog X.w H s.heap a (.tup xs) from I.hok a _ e)
    obtain ⟨as, ra⟩ := RdDs.reads I h rv
    exact ⟨_, .tuple h1 h2 h3 (by simpa using ra)⟩
  | _, _, @RdD.lst _ a xs ds e h, u, r => by
    cases (show u = Value.ref a from r)
    obtain ⟨_, its, n, rv, h1⟩ := (show ObjOk X.prog X.w H s.heap a (.lst xs) from I.hok a _ e)
    obtain ⟨as, ra⟩ := RdDs.reads I h rv
    exact ⟨_, .list h1 rfl rfl (by simpa using ra)⟩
theorem RdDs.reads (I : Inv X pins σ H s) : ∀ {xs : List V} {ds : List PyData}, RdDs H xs ds → ∀ {us : List Value}, Vals xs us → ∃ as, ReadsAll s.heap us ds as
  | _, _, .nil, us, r => by cases r; exact ⟨_, .nil⟩
  | _, _, .cons h t, us, r => by
    cases r with
    | cons r1 r2 =>
      obtain ⟨a1, q1⟩ := RdD.reads I h r1
      obtain ⟨a2, q2⟩ := RdDs.reads I t r2
      exact ⟨_, .cons q1 q2⟩
end
end
def rEqD : R2 := fun x y H Q => ∃ d e, RdD H x d ∧ RdD H y e ∧ SeqAt.shaped d = true ∧ SeqAt.shaped e = true ∧ Q (.bl (PyData.eqv d e)) H
def rNeD : R2 := fun x y H Q => ∃ d e, RdD H x d ∧ RdD H y e ∧ SeqAt.shaped d = true ∧ SeqAt.shaped e = true ∧ Q (.bl (!PyData.eqv d e)) H
section
variable {X : Cx}
theorem op_eqD (hu : X.A.units + 64 < cLine) : OpR X (compareOp .Eq) rEqD := by
  intro pins s σ H x y v u Q I rx ry h
  obtain ⟨d, e, hd, he, s1, s2, q⟩ := h
  obtain ⟨as, r1⟩ := hd.reads I rx
  obtain ⟨bs, r2⟩ := he.reads I ry
  exact eq_dataH r1 r2 s1 s2 hu ⟨.bl _, H, I, rfl, q⟩
theorem op_neD (hu : X.A.units + 64 < cLine) : OpR X (compareOp .NotEq) rNeD := by
  intro pins s σ H x y v u Q I rx ry h
  obtain ⟨d, e, hd, he, s1, s2, q⟩ := h
  obtain ⟨as, r1⟩ := hd.reads I rx
  obtain ⟨bs, r2⟩ := he.reads I ry
  exact ne_dataH r1 r2 s1 s2 hu ⟨.bl _, H, I, rfl, q⟩

def Bd (n : Nat) (i : Int) : Prop := i.natAbs < 2 ^ n
theorem Bd.mono {m n : Nat} {i : Int} (h : Bd m i) (l : m ≤ n) : Bd n i := Nat.lt_of_lt_of_le h (Nat.pow_le_pow_right (by decide) l)
theorem Bd.bits {n : Nat} {i : Int} (h : Bd n i) : Builtin.Int.intBits i ≤ n := intBits_le_iff.mpr h
theorem Bd.of_bits {n : Nat} {i : Int} (h : Builtin.Int.intBits i ≤ n) : Bd n i := intBits_le_iff.mp h
theorem Bd.mul {m n : Nat} {i j : Int} (h : Bd m i) (k : Bd n j) : Bd (m + n) (i * j) := .of_bits (intBits_mul_le h.bits k.bits)
theorem Bd.add {m n : Nat} {i j : Int} (h : Bd m i) (k : Bd n j) : Bd (max m n + 1) (i + j) := .of_bits (intBits_add_le h.bits k.bits)
theorem Bd.neg {n : Nat} {i : Int} (h : Bd n i) : Bd n (-i) := by unfold Bd; rw [Int.natAbs_neg]; exact h
theorem Bd.sub {m n : Nat} {i j : Int} (h : Bd m i) (k : Bd n j) : Bd (max m n + 1) (i - j) := by rw [Int.sub_eq_add_neg]; exact h.add k.neg
def CMulB (i j : Int) : Prop := Bd 1000000 i ∧ Bd 1000000 j
theorem op_mulB : OpR X (binaryOp .Mult) (rI CMulB fun i j => .int (i * j)) := opI fun _ _ _ _ _ _ _ hc q => mul_int q (IntMulOk.of_le hc.1.bits hc.2.bits (by decide))
def CDivB (i j : Int) : Prop := j ≠ 0 ∧ Bd 8900 j
theorem op_fdivB : OpR X (binaryOp .FloorDiv) (rI CDivB fun i j => .int (i.fdiv j)) := opI fun _ j _ _ _ _ _ hc q => floordiv_int hc.1 q (.inl (PyProof.noPylong_of_log2 (by
  have h1 : j.natAbs ≠ 0 := fun z => hc.1 (Int.natAbs_eq_zero.mp z)
  have h2 : j.natAbs < 2 ^ 9000 := Nat.lt_of_lt_of_le hc.2 (Nat.pow_le_pow_right (by decide) (by decide))
  exact (Nat.log2_lt h1).mpr h2)))

theorem call_isinst : CallR X (.builtin "isinstance") (fun xs H Q => ∃ x t n b, xs = [x, .ty n] ∧ TyOf X.K H x t ∧ PySem.W.kitOne X.K t (.type n) = some b ∧ Q (.bl b) H) := by
  intro pins s σ H xs us Q I r h
  obtain ⟨x, t, n, b, rfl, ty, e, q⟩ := h
  obtain ⟨u, w', rfl, r1, r2⟩ := vals2 r
  cases (show w' = Value.type n from r2)
  exact isinst_ok I r1 ty e fun tk => ⟨.bl b, H, I.tok tk, rfl, q⟩
end
end L2
set_option Elab.async false
set_option linter.all false
set_option maxRecDepth 100000
namespace HT
open PySem PySem.Spec PyProof.Rows L2
section
variable {prog : Program} {w : World} {A : Around} {E : Value → Shared → Prop} {s : Shared}
end
end HT
namespace L2
open PySem PySem.Spec PyProof.Rows
section
variable {X : Cx} {e st : Expr} {te : TE} {pos p2 : Pos}
theorem Vals.rev : ∀ {xs : List V} {us : List Value}, Vals xs us → Vals xs.reverse us.reverse
  | _, _, .nil => .nil
  | _, _, .cons r t => by rw [List.reverse_cons, List.reverse_cons]; exact (Vals.rev t).append (.cons r .nil)
end
end L2
namespace KM
theorem gcd_step {a b : Int} (ha : 0 ≤ a) (hb : 0 < b) : Int.gcd b (a % b) = Int.gcd a b := by
  obtain ⟨m, rfl⟩ := Int.eq_ofNat_of_zero_le ha
  obtain ⟨n, rfl⟩ := Int.eq_ofNat_of_zero_le (Int.le_of_lt hb)
  rw [← Int.natCast_emod, Int.gcd_comm (m : Int)]
  show Nat.gcd n (m % n) = Nat.gcd n m
  rw [Nat.gcd_comm n (m % n)]
  exact (Nat.gcd_rec n m).symm
theorem den_ne (q : Rat) : (q.den : Int) ≠ 0 := by have := q.den_nz; omega
theorem den_pos (q : Rat) : (0 : Int) < q.den := by have := q.den_nz; omega
def dv (t b : Int) : Int := if b < 0 then -(Int.gcd t b : Int) else (Int.gcd t b : Int)
theorem gcd_pos {t b : Int} (hb : b ≠ 0) : 0 < Int.gcd t b := Int.gcd_pos_of_ne_zero_right _ hb
theorem dv_ne {t b : Int} (hb : b ≠ 0) : dv t b ≠ 0 := by
  have := gcd_pos (t := t) hb
  unfold dv; split <;> omega
theorem dv_abs {t b : Int} : (dv t b).natAbs = Int.gcd t b := by
  unfold dv; split <;> omega
theorem dv_le {t b : Int} (hb : b ≠ 0) : (dv t b).natAbs ≤ b.natAbs := by
  rw [dv_abs]; exact Nat.le_of_dvd (by omega) (Int.gcd_dvd_natAbs_right t b)
theorem dv_num {t b : Int} (hb : b ≠ 0) : t.fdiv (dv t b) = (Rat.divInt t b).num := by
  rw [Rat.num_divInt, Int.gcd_comm b t]
  have h1 : ((Int.gcd t b : Nat) : Int) ∣ t := Int.gcd_dvd_left ..
  unfold dv
  split
  · rename_i h
    rw [Int.fdiv_eq_ediv_of_dvd (Int.neg_dvd.mpr h1), Int.ediv_neg, Int.sign_eq_neg_one_of_neg h]
    rw [show (-1 * t) = -t by omega, Int.neg_ediv_of_dvd h1]
  · rename_i h
    rw [Int.fdiv_eq_ediv_of_dvd h1, Int.sign_eq_one_of_pos (by omega), Int.one_mul]
theorem dv_den {t b : Int} (hb : b ≠ 0) : b.fdiv (dv t b) = ((Rat.divInt t b).den : Int) := by
  rw [Rat.den_divInt, if_neg hb, Int.gcd_comm b t]
  have h1 : ((Int.gcd t b : Nat) : Int) ∣ b := Int.gcd_dvd_right ..
  have h2 : Int.gcd t b ∣ b.natAbs := Int.gcd_dvd_natAbs_right t b
  unfold dv
  split
  · rename_i h
    rw [Int.fdiv_eq_ediv_of_dvd (Int.neg_dvd.mpr h1), Int.ediv_neg]
    rw [Int.natCast_ediv, show ((b.natAbs : Nat) : Int) = -b by omega, Int.neg_ediv_of_dvd h1]
  · rename_i h
    rw [Int.fdiv_eq_ediv_of_dvd h1, Int.natCast_ediv, show ((b.natAbs : Nat) : Int) = b by omega]
theorem num_le {t b : Int} (hb : b ≠ 0) : (Rat.divInt t b).num.natAbs ≤ t.natAbs := by
  rw [← dv_num hb]
  have : t.fdiv (dv t b) ∣ t := by
    have h1 : dv t b ∣ t := by
      unfold dv; split
      · exact Int.neg_dvd.mpr (Int.gcd_dvd_left ..)
      · exact Int.gcd_dvd_left ..
    obtain ⟨c, hc⟩ := h1
    rw [Int.fdiv_eq_ediv_of_dvd ⟨c, hc⟩]
    refine ⟨dv t b, ?_⟩
    exact (Int.ediv_mul_cancel ⟨c, hc⟩).symm
  by_cases h0 : t = 0
  · subst h0; simp
  · exact Nat.le_of_dvd (by omega) (Int.natAbs_dvd_natAbs.mpr this)
theorem den_le {t b : Int} (hb : b ≠ 0) : (Rat.divInt t b).den ≤ b.natAbs := by
  rw [Rat.den_divInt, if_neg hb]; exact Nat.div_le_self _ _

theorem plus_eq (a b : Rat) : Rat.divInt (a.num * b.den + b.num * a.den) (a.den * b.den) = a + b := by
  rw [Rat.add_def', ← Rat.divInt_ofNat]; simp
theorem times_eq (a b : Rat) : Rat.divInt (a.num * b.num) (a.den * b.den) = a * b := by
  rw [Rat.mul_def', ← Rat.divInt_ofNat]; simp
theorem over_eq (a b : Rat) : Rat.divInt (a.num * b.den) (a.den * b.num) = a / b := by
  rw [Rat.div_def, Rat.inv_def, ← Rat.divInt_mul_divInt, Rat.num_divInt_den]
theorem less_iff (a b : Rat) : a.num * b.den < b.num * a.den ↔ a < b := (Rat.lt_iff a b).symm
theorem int_num (n : Int) : (n : Rat).num = n := Rat.num_intCast n
theorem int_den (n : Int) : (n : Rat).den = 1 := Rat.den_intCast n

structure Ball where
  pl : Rat
  sp : Rat
  wt : Int
def ws (f : Ball → Rat) (l : List Ball) : Rat := l.foldl (fun acc b => acc + (b.wt : Rat) * f b) 0
end KM
set_option Elab.async false
set_option linter.all false
set_option maxRecDepth 100000
namespace L2
open PySem PySem.Spec PyProof.Rows

structure Cal (P : Program) (w : World) (K : PySem.W.Frag) (mg : Str → Option Value) (base : Heap) (x : Str) (k : Nat) (ps : List Str) (dvs : List V) (sp : Sp) : Prop where
  ex : ∃ f fd ds, FnOk P w K mg base CX0 k f fd ps sp ∧ mg x = some (.ref f) ∧ PySem.W.keepIn K (.ref f) = true ∧ Binds K fd ps ds ∧ Vals dvs ds
theorem Cal.mono {P : Program} {w : World} {K : PySem.W.Frag} {mg : Str → Option Value} {base : Heap} {x : Str} {j k : Nat} {ps : List Str} {dvs : List V} {sp : Sp} (c : Cal P w K mg base x j ps dvs sp) (h : j ≤ k) : Cal P w K mg base x k ps dvs sp := by
  obtain ⟨f, fd, ds, F, r⟩ := c.ex
  exact ⟨⟨f, fd, ds, F.mono h, r⟩⟩
theorem Cal.imp {P : Program} {w : World} {K : PySem.W.Frag} {mg : Str → Option Value} {base : Heap} {x : Str} {k : Nat} {ps : List Str} {dvs : List V} {sp sp' : Sp} (c : Cal P w K mg base x k ps dvs sp) (h : ∀ vs H Q E, sp' vs H Q E → sp vs H Q E) : Cal P w K mg base x k ps dvs sp' := by
  obtain ⟨f, fd, ds, F, r⟩ := c.ex
  exact ⟨⟨f, fd, ds, F.imp h, r⟩⟩
theorem pe_c {X : Cx} {x : Str} {k : Nat} {ps : List Str} {dvs : List V} {sp : Sp} {p pos : Pos} {e : Expr} {es : List Expr} {t : TA}
    (c : Cal X.prog X.w X.K X.mg X.base x k ps dvs sp) (hr : Room k X.A) (ha : PA X (e :: es) t) (hg : Gl X x := by rfl) (hdb : (x == ("__debug__" : Str)) = false := by decide)
    (he : starEach (e :: es) X.env = (false, eval e X.env) :: starEach es X.env := by rfl) (hpl : (backTo pos (starEach es X.env)).any (·.1) = false := by rfl) :
    PE X (.Call (.Name x p) (e :: es) [] pos) (tCall sp dvs E0 t) := by
  obtain ⟨f, fd, ds, F, hm, hk, hb, hd⟩ := c.ex
  exact pe_call F hr hg hm hk hb hd pass0 ha hdb he hpl

structure Df (K : PySem.W.Frag) (mg : Str → Option Value) (x : Str) (st : Stmt) (ps : List Str) (dvs : List V) : Prop where
  ex : ∃ (f : Addr) (oc : Value) (od : Option Addr) (dV kV doc pm : Value) (an : Option Addr) (cdv ct : Value) (osl : Array (Option Value)) (ds : List Value),
    K.lookup f = some ⟨oc, od, .func (PySem.W.fnOf x x (defArgs st) (defBody st) (defScope st) dV kV doc pm an cdv ct), osl⟩ ∧ PySem.W.codeIn K cdv x = true ∧ PySem.W.keepIn K (.ref f) = true ∧ mg x = some (.ref f) ∧
    Vals dvs ds ∧ Binds K (PySem.W.fnOf x x (defArgs st) (defBody st) (defScope st) dV kV doc pm an cdv ct) ps ds
section
variable {P : Program} {w : World} {K : PySem.W.Frag} {mg : Str → Option Value} {base : Heap}
theorem Df.cal {x : Str} {st : Stmt} {N ps : List Str} {dvs : List V} {k : Nat} {sp : Sp} (D : Df K mg x st ps dvs) (S : FnScope N ps (defScope st)) (len : ∀ vs H Q E, sp vs H Q E → vs.length = ps.length)
    (hbody : ∀ (f : Addr) (cdv : Value) (A : Around) (outer : List Env) (s : Shared) (H : Hp) (vs : List V) (Q : VK) (E : XK), Room k (A.deeper (envOfC x (defScope st) s.heap.objs.size f cdv)) → sp vs H Q E →
      ∃ t, PSs (cxOf CX0 P w K mg base N x (defScope st) f cdv A outer s H E).nox (defBody st) t ∧ t { nx := fun _ H' => Q .non H', rt := Q } (start N vs) H) : Cal P w K mg base x (k + 1) ps dvs sp := by
  obtain ⟨f, oc, od, dV, kV, doc, pm, an, cdv, ct, osl, ds, lk, hcd, hk, hm, hv, hb⟩ := D.ex
  refine ⟨⟨f, _, ds, fn_of lk hcd S len fun A outer s H vs Q E hr hsp => ?_, hm, hk, hb, hv⟩⟩
  obtain ⟨t, h, q⟩ := hbody f cdv A outer s H vs Q E hr hsp
  exact ⟨t, h.nox, q⟩
theorem df_mk {x : Str} {st : Stmt} {ps : List Str} {f : Addr} {oc : Value} {od an : Option Addr} {osl : Array (Option Value)} {dV kV doc pm cdv ct : Value}
    (l : K.lookup f = some ⟨oc, od, .func (PySem.W.fnOf x x (defArgs st) (defBody st) (defScope st) dV kV doc pm an cdv ct), osl⟩) (c : PySem.W.codeIn K cdv x = true) (k : PySem.W.keepIn K (.ref f) = true) (m : mg x = some (.ref f))
    (hb : ∀ us : List Value, us.length = ps.length → bindArgs (PySem.W.fnOf x x (defArgs st) (defBody st) (defScope st) dV kV doc pm an cdv ct) ⟨us, []⟩ = pure (ps.zip us)) : Df K mg x st ps [] :=
  ⟨⟨f, oc, od, dV, kV, doc, pm, an, cdv, ct, osl, [], l, c, k, m, .nil, .all hb⟩⟩
end

def rp (q : Rat) : List V := [.int q.num, .int (q.den : Int)]
def RatAt (H : Hp) (p : Addr) (q : Rat) : Prop := H p = some (.tup (rp q))
theorem RatAt.same {H H' : Hp} {p : Addr} {q : Rat} (h : RatAt H p q) (e : Same H H') : RatAt H' p q := e _ _ h
def Sz (n : Nat) (q : Rat) : Prop := Bd n q.num ∧ Bd n (q.den : Int)
theorem Sz.mono {m n : Nat} {q : Rat} (h : Sz m q) (l : m ≤ n) : Sz n q := ⟨h.1.mono l, h.2.mono l⟩
theorem Bd.of_le {n : Nat} {i j : Int} (h : i.natAbs ≤ j.natAbs) (b : Bd n j) : Bd n i := Nat.lt_of_le_of_lt h b
theorem Sz.divInt {n : Nat} {t b : Int} (hb : b ≠ 0) (h1 : Bd n t) (h2 : Bd n b) : Sz n (Rat.divInt t b) :=
  ⟨h1.of_le (KM.num_le hb), h2.of_le (by have := KM.den_le (t := t) hb; omega)⟩
theorem Sz.add {m n : Nat} {x y : Rat} (h : Sz m x) (k : Sz n y) : Sz (m + n + 1) (x + y) := by
  rw [← KM.plus_eq]
  refine .divInt (Int.mul_ne_zero (KM.den_ne x) (KM.den_ne y)) ?_ ((h.2.mul k.2).mono (by omega))
  exact ((h.1.mul k.2).add (k.1.mul h.2)).mono (by omega)
theorem Sz.mul {m n : Nat} {x y : Rat} (h : Sz m x) (k : Sz n y) : Sz (m + n) (x * y) := by
  rw [← KM.times_eq]
  exact .divInt (Int.mul_ne_zero (KM.den_ne x) (KM.den_ne y)) (h.1.mul k.1) (h.2.mul k.2)
theorem Sz.int {n : Nat} {i : Int} (h : Bd n i) (hn : 1 ≤ n) : Sz n (i : Rat) := by
  refine ⟨by rw [KM.int_num]; exact h, ?_⟩
  rw [KM.int_den]
  exact Bd.mono (m := 1) (show (1 : Int).natAbs < 2 ^ 1 by decide) hn
theorem shaped_rp (q : Rat) : SeqAt.shaped (.tuple [.int q.num, .int (q.den : Int)]) = true := rfl
theorem RatAt.rd {H : Hp} {p : Addr} {q : Rat} (h : RatAt H p q) : RdD H (.ref p) (.tuple [.int q.num, .int (q.den : Int)]) := .tup h (.cons (.int _) (.cons (.int _) .nil))
theorem eqv_rp (x y : Rat) : PyData.eqv (.tuple [.int x.num, .int (x.den : Int)]) (.tuple [.int y.num, .int (y.den : Int)]) = decide (x = y) := by
  simp only [PyData.eqv, PyData.eqvAll, Bool.and_true]
  rw [Bool.eq_iff_iff]
  simp only [Bool.and_eq_true, beq_iff_eq, decide_eq_true_eq]
  constructor
  · rintro ⟨h1, h2⟩; exact Rat.ext h1 (by omega)
  · rintro rfl; exact ⟨rfl, rfl⟩

def spLow : Sp := fun vs H Q _ => ∃ t b, vs = [.int t, .int b] ∧ b ≠ 0 ∧ Bd 8900 b ∧ ∀ p H', Same H H' → RatAt H' p (Rat.divInt t b) → Q (.ref p) H'
def spBin (C : Rat → Rat → Prop) (f : Rat → Rat → Rat) : Sp := fun vs H Q _ => ∃ p q x y, vs = [.ref p, .ref q] ∧ RatAt H p x ∧ RatAt H q y ∧ C x y ∧ ∀ r H', Same H H' → RatAt H' r (f x y) → Q (.ref r) H'
def Sz2 (x y : Rat) : Prop := Sz 4000 x ∧ Sz 4000 y
theorem at0 {α : Type} (a b : α) : atI [a, b] 0 = some a := rfl
theorem at1 {α : Type} (a b : α) : atI [a, b] 1 = some b := rfl
theorem Same.upd {H : Hp} {p : Addr} {o : HO} (h : H p = none) : Same H (upd H p o) := fun b u e => by rw [upd_ne (ne_of_none e h)]; exact e
end L2
set_option Elab.async false
set_option linter.all false
set_option maxRecDepth 100000
namespace L2
open PySem PySem.Spec PyProof.Rows
def TrX (h B : Heap) (e : Addr) (cls a0 : Value) (dct : Option Addr) (fl : Value) : Prop :=
  ∃ oe vs T oT ts, h.get? e = some oe ∧ oe.cls = cls ∧ oe.dict = dct ∧ oe.data = .fields vs ∧ vs[0]? = some a0 ∧ vs[1]? = some (.ref T) ∧ B.get? T = none ∧ T ≠ e ∧ h.get? T = some oT ∧ oT.data = .fields ts ∧ ts[3]? = some fl
theorem mapF_dict (o : Obj) (f : Array Value → Array Value) : (Obj.mapFields f o).dict = o.dict := by
  unfold Obj.mapFields; split <;> rfl
section
variable {M : Model} {A : Around} {E : Value → Shared → Prop} {s : Shared} {B : Heap} {env : Env} {outer l : List Env} {L e : Addr} {oe : Obj} {vs : Array Value} {a0 cls fl : Value} {dct : Option Addr} {Q : Unit → Shared → Prop}
theorem entry_x {head : Value} {hadNext : Bool} (hfr : A.frames = some (env :: outer)) (hl : s.heap.FunFrames B (env :: outer)) (hf : env.frame = some L) (he : s.heap.get? e = some oe) (hB : B.StaysIn s.heap) (hn : B.get? e = none) (hd : oe.data = .fields vs) (hz : 1 < vs.size) (h0 : vs[0]? = some a0)
    (q : ∀ h', B.StaysIn h' → h'.FunFrames B (env :: outer) → TrX h' B e oe.cls a0 oe.dict (rawInt L) → s.heap.UpToSlots h' → Q () { s with heap := h' }) :
    wpAny M A (do let a ← frameOf env; let pl ← entryPlaceOf L hadNext; let b ← EntryCells.newEntry head a .none (rawInt L) .none pl; setField (.ref e) 1 b) Q E s := by
  have nf : e ∉ (env :: outer).filterMap (·.frame) := fun m => by
    obtain ⟨_, o, ho, hnf⟩ := hl.mem m
    rw [he] at ho; cases ho; exact hnf vs hd
  refine wpAny_bind (wpAny_frameOf_fun hfr hl hf fun g1 k1 => wpAny_bind (wpAny_entryPlaceOf fun pl hpl => ?_))
  unfold EntryCells.newEntry newFields
  have e1 : g1.get? e = some oe := (k1.2.1 e nf).trans he
  have B1 : B.StaysIn g1 := fun b o z => (k1.2.1 b fun m => by rw [(hl.mem m).1] at z; cases z).trans (hB b o z)
  have fr : g1.objs.size ≠ e := Nat.ne_of_gt (Heap.lt_size e1)
  have d3 := Obj.data_mapFields hd (·.setIfInBounds 1 (Value.ref g1.objs.size))
  refine wpAny_bind (wpAny_newObj_type (wpAny_setField (Heap.get?_push_of_some _ e1) hd hz (q _ (fun b o z => ?_) (hl.of_keeps fun b o hb nn => ?_) ?_ fun b o hb nn => ?_)) (hpl.sizeOk5 _ _ _ _ _))
  · have ne : e ≠ b := fun r => by rw [← r, hn] at z; cases z
    rw [Heap.get?_update_other _ _ ne]
    exact Heap.get?_push_of_some _ (B1 b o z)
  · obtain ⟨sl, z⟩ := k1.2.2 b o hb
    have ne : e ≠ b := fun r => by rw [← r, he] at hb; cases hb; exact nn vs hd
    exact ⟨{ o with slots := sl }, by rw [Heap.get?_update_other _ _ ne]; exact Heap.get?_push_of_some _ z, rfl⟩
  · refine ⟨_, _, g1.objs.size, _, _, Heap.get?_update_self _ (Heap.get?_push_of_some _ e1) (Obj.isFreed_of_fields d3), Obj.cls_mapFields _ _, mapF_dict _ _, d3, ?_, by simp [hz], B1.fresh, fr, (Heap.get?_update_other _ _ (Ne.symm fr)).trans (Heap.get?_push_size g1 rfl), rfl, ?_⟩
    · rw [Array.getElem?_setIfInBounds_ne (by decide)]; exact h0
    · first | (simp; done) | (rcases hpl with rfl | ⟨_, _, _, _, _, _, _, rfl⟩ <;> simp)
  · obtain ⟨sl, z⟩ := k1.2.2 b o hb
    have ne : e ≠ b := fun r => by rw [← r, he] at hb; cases hb; exact nn vs hd
    exact ⟨sl, by rw [Heap.get?_update_other _ _ ne]; exact Heap.get?_push_of_some _ z⟩
theorem note_first (hfr : A.frames = some (env :: outer)) (hl : s.heap.FunFrames B (env :: outer)) (hf : env.frame = some L) (he : s.heap.get? e = some oe) (hB : B.StaysIn s.heap) (hn : B.get? e = none) (hd : oe.data = .fields vs) (h1 : vs[1]? = some .none) (h0 : vs[0]? = some a0)
    (q : ∀ h', B.StaysIn h' → h'.FunFrames B (env :: outer) → TrX h' B e oe.cls a0 oe.dict (rawInt L) → s.heap.UpToSlots h' → Q () { s with heap := h' }) : wpAny M A (noteFrame (.ref e) env) Q E s := by
  unfold noteFrame
  simp only [hf]
  refine wpAny_bind (wpAny_field he hd h1 ?_)
  rw [if_neg (by decide)]
  exact entry_x hfr hl hf he hB hn hd (Array.getElem?_eq_some_iff.mp h1).1 h0 q
theorem note_next (hfr : A.frames = some (env :: outer)) (hl : s.heap.FunFrames B (env :: outer)) (hf : env.frame = some L) (ht : TrX s.heap B e cls a0 dct .none) (hB : B.StaysIn s.heap) (hn : B.get? e = none)
    (q : ∀ h', B.StaysIn h' → h'.FunFrames B (env :: outer) → TrX h' B e cls a0 dct (rawInt L) → s.heap.UpToSlots h' → Q () { s with heap := h' }) : wpAny M A (noteFrame (.ref e) env) Q E s := by
  obtain ⟨oe, vs, T, oT, ts, he, rfl, rfl, hd, h0, h1, nT, Te, hT, dT, h3⟩ := ht
  unfold noteFrame
  simp only [hf]
  refine wpAny_bind (wpAny_field he hd h1 ?_)
  rw [if_pos (show (Value.ref T != Value.none) = true from by simp)]
  refine wpAny_bind (wpAny_field hT dT h3 ?_)
  rw [if_neg (show ¬ ((Value.none == rawInt L) = true) from by simp [rawInt])]
  have oth : ∀ b, b ≠ T → (s.heap.update T (Obj.mapFields (·.setIfInBounds 3 Value.none))).get? b = s.heap.get? b := fun b hb => Heap.get?_update_other _ _ (Ne.symm hb)
  have nr : ∀ b o, s.heap.get? b = some o → (∀ vs, o.data ≠ .fields vs) → b ≠ T := fun b o hb nn r => by rw [r, hT] at hb; cases hb; exact nn ts dT
  refine wpAny_bind (wpAny_setField hT dT (Array.getElem?_eq_some_iff.mp h3).1 (entry_x hfr (hl.of_keeps fun b o hb nn => ⟨o, (oth b (nr b o hb nn)).trans hb, rfl⟩) hf ((oth e (Ne.symm Te)).trans he) (fun b o z => (oth b fun r => by rw [r, nT] at z; cases z).trans (hB b o z)) hn hd (Array.getElem?_eq_some_iff.mp h1).1 h0 fun h' x1 x2 x3 x4 => q h' x1 x2 x3 fun b o hb nn => x4 b o ((oth b (nr b o hb nn)).trans hb) nn))
theorem flight_x (hB : B.StaysIn s.heap) (hl : s.heap.FunFrames B l) (ht : TrX s.heap B e cls a0 dct fl)
    (q : ∀ h', B.StaysIn h' → h'.FunFrames B l → TrX h' B e cls a0 dct .none → s.heap.UpToSlots h' → Q () { s with heap := h' }) : wpAny M A (setFlight (.ref e) none) Q E s := by
  obtain ⟨oe, vs, T, oT, ts, he, hc, hdc, hd, h0, h1, nT, Te, hT, dT, h3⟩ := ht
  have z3 : 3 < ts.size := (Array.getElem?_eq_some_iff.mp h3).1
  have oth : ∀ b, b ≠ T → (s.heap.update T (Obj.mapFields (·.setIfInBounds 3 ((none : Option Addr).elim Value.none fun f => rawInt f)))).get? b = s.heap.get? b := fun b hb => Heap.get?_update_other _ _ (Ne.symm hb)
  have nr : ∀ b o, s.heap.get? b = some o → (∀ vs, o.data ≠ .fields vs) → b ≠ T := fun b o hb nn r => by rw [r, hT] at hb; cases hb; exact nn ts dT
  unfold setFlight
  refine wpAny_bind (wpAny_field he hd h1 ?_)
  rw [if_pos (show (Value.ref T != Value.none) = true from by simp)]
  exact wpAny_setField hT dT z3 (q _ (fun b o z => (oth b fun r => by rw [r, nT] at z; cases z).trans (hB b o z)) (hl.of_keeps fun b o hb nn => ⟨o, (oth b (nr b o hb nn)).trans hb, rfl⟩)
    ⟨oe, vs, T, _, _, (oth e (Ne.symm Te)).trans he, hc, hdc, hd, h0, h1, nT, Te, Heap.get?_update_self _ hT (Obj.isFreed_of_fields (Obj.data_mapFields dT _)), Obj.data_mapFields dT _, by simp [z3]⟩ fun b o hb nn => ⟨o.slots, (oth b (nr b o hb nn)).trans hb⟩)
end
def FlX (B : Heap) (l : List Env) (e : Addr) (cls a0 : Value) (dct : Option Addr) (h : Heap) : Prop := B.StaysIn h ∧ B.get? e = none ∧ h.FunFrames B l ∧ TrX h B e cls a0 dct .none
def HeX (B : Heap) (l : List Env) (e : Addr) (cls a0 : Value) (dct : Option Addr) (h : Heap) : Prop := B.StaysIn h ∧ B.get? e = none ∧ h.FunFrames B l ∧ ∃ fl, TrX h B e cls a0 dct fl
section
variable {M : Model} {A : Around} {E : Value → Shared → Prop} {s : Shared} {B h : Heap} {env : Env} {outer l : List Env} {L e : Addr} {a0 cls : Value} {dct : Option Addr} {Q : Unit → Shared → Prop}
theorem FlX.held (x : FlX B l e cls a0 dct h) : HeX B l e cls a0 dct h := ⟨x.1, x.2.1, x.2.2.1, _, x.2.2.2⟩
theorem FlX.there (x : FlX B l e cls a0 dct h) : ∃ ob, h.get? e = some ob ∧ ob.cls = cls := by
  obtain ⟨_, _, _, oe, _, _, _, _, he, hc, _⟩ := x
  exact ⟨oe, he, hc⟩
theorem FlX.first (x : FlX B l e cls a0 dct h) : ∃ oe vs, h.get? e = some oe ∧ oe.cls = cls ∧ oe.dict = dct ∧ oe.data = .fields vs := by
  obtain ⟨_, _, _, oe, vs, _, _, _, he, hc, hdc, hd, _⟩ := x
  exact ⟨oe, vs, he, hc, hdc, hd⟩
theorem looks_x (hfr : A.frames = some (env :: outer)) (hf : env.frame = some L) (x : FlX B (env :: outer) e cls a0 dct s.heap) (q : ∀ h', HeX B (env :: outer) e cls a0 dct h' → s.heap.UpToSlots h' → Q () { s with heap := h' }) : wpAny M A (noteFrame (.ref e) env) Q E s :=
  note_next hfr x.2.2.1 hf x.2.2.2 x.1 x.2.1 fun h' x1 x2 x3 x4 => q h' ⟨x1, x.2.1, x2, _, x3⟩ x4
theorem lands_x (x : HeX B l e cls a0 dct s.heap) (q : ∀ h', FlX B l e cls a0 dct h' → s.heap.UpToSlots h' → Q () { s with heap := h' }) : wpAny M A (setFlight (.ref e) none) Q E s := by
  obtain ⟨x1, x2, x3, fl, x4⟩ := x
  exact flight_x x1 x3 x4 fun h' y1 y2 y3 y4 => q h' ⟨y1, x2, y2, y3⟩ y4
theorem leaves_x (hfr : A.frames = some (env :: outer)) (hf : env.frame = some L) (x : FlX B (env :: outer) e cls a0 dct s.heap) (q : ∀ h', FlX B outer e cls a0 dct h' → s.heap.UpToSlots h' → Q () { s with heap := h' }) : wpAny M A (leaving env (.ref e)) Q E s := by
  unfold leaving
  refine wpAny_bind (looks_x hfr hf x fun h' y up => lands_x (s := { s with heap := h' }) y fun h2 z up2 => ?_)
  obtain ⟨z1, z2, ⟨_, _, z3⟩, z4⟩ := z
  exact q h2 ⟨z1, z2, z3, z4⟩ (up.trans up2)
end
end L2
set_option Elab.async false
set_option linter.all false
set_option maxRecDepth 100000
namespace L2
open PySem PySem.Spec PyProof.Rows

structure Fly (P : Program) (w : World) (l : List Env) (H : Hp) (s : Shared) (C : Addr) (H' : Hp) (a : Addr) (s' : Shared) (B : Heap) (a0 : Value) (dct : Option Addr) : Prop where
  os : s'.os = s.os
  bare : AllBare s'.gens
  un : Un (frs l) [] H H' s.heap s'.heap
  hok : HOk P w H' s'.heap
  fly : FlX B l a (.ref C) a0 dct s'.heap
  kb : ∀ b o, s.heap.get? b = some o → b ∉ frs l → (∃ o', B.get? b = some o') ∧ (H b = none → B.get? b = some o)
  kt : ∀ b u, H' b = some u → ∃ o, B.get? b = some o
abbrev CX1 (P : Program) (w : World) : CXT := fun outer H s E e s' => ∃ a C H' B a0 dct, e = .ref a ∧ Fly P w outer H s C H' a s' B a0 dct ∧ E (.ref C) dct H'

section
variable {P : Program} {w : World} {H H' : Hp} {h h' B : Heap} {a : Addr} {o : HO}
theorem ObjOk.obj (x : ObjOk P w H h a o) : ∃ u, h.get? a = some u := by
  cases o with
  | lst xs => obtain ⟨_, _, _, _, e⟩ := x; exact ⟨_, e⟩
  | tup xs => obtain ⟨_, _, _, ob, e, _⟩ := x; exact ⟨_, e⟩
  | dK kvs => obtain ⟨_, _, _, _, o, _, _, e, _⟩ := x; exact ⟨_, e⟩
  | dT kvs => obtain ⟨_, _, _, _, o, _, _, e, _⟩ := x; exact ⟨_, e⟩
  | set S n => obtain ⟨o, _, _, _, e, _⟩ := x; exact ⟨_, e⟩
  | ins C dx fs => obtain ⟨_, _, _, e, _⟩ := x; exact ⟨_, e⟩
  | own y => obtain ⟨_, e⟩ := x; exact ⟨_, e⟩
  | xd fs => obtain ⟨_, ⟨_, _, _, e, _⟩, _⟩ := x; exact ⟨_, e⟩
  | rng lo hi => obtain ⟨_, _, _, e⟩ := x; exact ⟨_, e⟩
  | frz ob u => obtain ⟨e, _⟩ := x; exact ⟨_, e⟩
  | tbl ps => exact ⟨_, (show h.get? a = some _ from x)⟩
  | met f y => exact ⟨_, (show h.get? a = some _ from x)⟩
  | ext φ => obtain ⟨_, ⟨_, e⟩, _⟩ := x; exact ⟨_, e⟩
theorem hok_of (x : HOk P w H h) (k1 : B.StaysIn h) (k2 : B.StaysIn h') (kt : ∀ b u, H b = some u → ∃ o, B.get? b = some o) : HOk P w H h' := fun a o e =>
  (x a o e).stay (fun b u hb q => by
    have ht : ∃ v, H b = some v := by
      rcases hb with rfl | hb
      · exact ⟨_, e⟩
      · exact ⟨_, hb⟩
    obtain ⟨v, hv⟩ := ht
    obtain ⟨ob, hob⟩ := kt b v hv
    rw [k1 b ob hob] at q; cases q; exact k2 b _ hob) (fun _ q => q) fun _ _ q => q
end

section
variable {P : Program} {w : World} {l : List Env} {H H' : Hp} {s s' : Shared} {C a : Addr} {B h' : Heap} {a0 : Value} {dct : Option Addr}
theorem Fly.move (F : Fly P w l H s C H' a s' B a0 dct) (fl : FlX B l a (.ref C) a0 dct h') (up : s'.heap.UpToSlots h') : Fly P w l H s C H' a { s' with heap := h' } B a0 dct where
  os := F.os
  bare := F.bare
  un := {
    keep := fun b o q n hb _ => fl.1 b o ((F.kb b o q hb).2 n)
    slot := fun b o q n hb hx => by
      obtain ⟨sl, e⟩ := F.un.slot b o q n hb hx
      obtain ⟨_, o', ho', hd⟩ := F.fly.2.2.1.mem hb
      have z : some o' = some { o with slots := sl } := ho'.symm.trans e
      cases z
      obtain ⟨sl', e'⟩ := up b _ e hd
      exact ⟨sl', e'⟩
    free := F.un.free
    there := fun b o q _ => by
      by_cases hb : b ∈ frs l
      · obtain ⟨_, o', ho', _⟩ := fl.2.2.1.mem hb
        exact ⟨o', ho'⟩
      · obtain ⟨o', ho'⟩ := (F.kb b o q hb).1
        exact ⟨o', fl.1 b o' ho'⟩
    tups := F.un.tups
    frzs := F.un.frzs
    tbls := F.un.tbls }
  hok := hok_of F.hok F.fly.1 fl.1 F.kt
  fly := fl
  kb := F.kb
  kt := F.kt
theorem Fly.untracked (F : Fly P w l H s C H' a s' B a0 dct) : H' a = none := by
  cases q : H' a with
  | none => rfl
  | some u =>
    obtain ⟨o, e⟩ := F.kt a u q
    rw [F.fly.2.1] at e; cases e
end

section
variable {X : Cx} {pins : List (Addr × Obj)} {σ : St} {H H' : Hp} {s : Shared}
theorem Inv.notfr (I : Inv X pins σ H s) {b : Addr} {o : Obj} (e : X.s₀.heap.get? b = some o) (hb : b ∉ X.fs) : b ∉ frs X.stack := fun z => by
  rcases List.mem_cons.mp (I.stkSub b z) with r | r
  · exact absurd (Nat.lt_of_lt_of_le (Heap.lt_size e) I.ok.above) (by rw [r]; exact Nat.lt_irrefl _)
  · exact hb r
theorem fly_mk {g : Array GenState} {d : Drawn} {t : Nat} {C a : Addr} {B h1 h' : Heap} {a0 : Value} {dct : Option Addr} (I : Inv X pins σ H s) (hex : X.ex = []) (hfr : ∀ b ∈ X.fs, b ∈ frs X.stack) (u : Un (frs X.stack) [] H H' s.heap h1)
    (kb : ∀ b o, s.heap.get? b = some o → b ∉ frs X.stack → (∃ o', B.get? b = some o') ∧ (H b = none → B.get? b = some o)) (kt : ∀ b u, H' b = some u → ∃ o, B.get? b = some o)
    (hok : HOk X.prog X.w H' h1) (k1 : B.StaysIn h1) (hfun : h1.FunFrames B X.stack) (up : h1.UpToSlots h') (fl : FlX B X.outer a (.ref C) a0 dct h') (hg : AllBare g) :
    Fly X.prog X.w X.outer X.H₀ X.s₀ C H' a { s with heap := h', gens := g, drawn := d, toks := t } B a0 dct where
  os := I.os
  bare := hg
  un := {
    keep := fun b o q n hb hx => by
      have hx' : b ∉ X.ex := by rw [hex]; exact hx
      exact fl.1 b o ((kb b o (I.base.keep b o q n hb hx') (I.notfr q hb)).2 (I.base.free b o q n hx'))
    slot := fun b o q n hb hx => by
      have hx' : b ∉ X.ex := by rw [hex]; exact hx
      obtain ⟨sl, e⟩ := I.base.slot b o q n hb hx'
      obtain ⟨sl1, e1⟩ := u.slot b _ e (I.base.free b o q n hx') (hfr b hb) hx
      obtain ⟨_, o', ho', hd⟩ := hfun.mem (hfr b hb)
      have z := ho'.symm.trans e1
      cases z
      obtain ⟨sl2, e2⟩ := up b _ e1 hd
      exact ⟨sl2, e2⟩
    free := fun b o q n hx => by
      have hx' : b ∉ X.ex := by rw [hex]; exact hx
      obtain ⟨o', e⟩ := I.base.there b o q hx'
      exact u.free b o' e (I.base.free b o q n hx') hx
    there := fun b o q hx => by
      have hx' : b ∉ X.ex := by rw [hex]; exact hx
      by_cases hb : b ∈ X.fs
      · obtain ⟨_, o', ho', _⟩ := fl.2.2.1.mem hb
        exact ⟨o', ho'⟩
      · obtain ⟨o', e⟩ := I.base.there b o q hx'
        obtain ⟨o2, e2⟩ := (kb b o' e (I.notfr q hb)).1
        exact ⟨o2, fl.1 b o2 e2⟩
    tups := fun b xs q => u.tups b xs (I.base.tups b xs q)
    frzs := fun b o xs q => u.frzs b o xs (I.base.frzs b o xs q)
    tbls := fun b ps q => by
      obtain ⟨m1, e1⟩ := I.base.tbls b ps q
      obtain ⟨m2, e2⟩ := u.tbls b _ e1
      exact ⟨m1 ++ m2, by rw [e2, Array.append_assoc]⟩ }
  hok := hok_of hok k1 fl.1 kt
  fly := fl
  kb := fun b o q hb => by
    have hx' : b ∉ X.ex := by rw [hex]; exact List.not_mem_nil
    obtain ⟨o', e⟩ := I.base.there b o q hx'
    have z := kb b o' e (I.notfr q hb)
    exact ⟨z.1, fun n => (kb b o (I.base.keep b o q n hb hx') (I.notfr q hb)).2 (I.base.free b o q n hx')⟩
  kt := kt
end

abbrev XJ := Addr → Option Addr → St → Hp → Prop
def Bears (X : Cx) (J : XJ) : Prop := ∀ (pins : List (Addr × Obj)) (σ : St) (H : Hp) (s : Shared) (a C : Addr) (H' : Hp) (s' : Shared) (B : Heap) (a0 : Value) (dct : Option Addr),
  Inv X pins σ H s → Fly X.prog X.w X.stack H s C H' a s' B a0 dct → J C dct σ H' → X.xe (.ref a) s'
def EJ (E : XK) : XJ := fun C d _ H' => E (.ref C) d H'
section
variable {P : Program} {w : World} {K : PySem.W.Frag} {mg : Str → Option Value} {base : Heap} {N : List Str} {qual : Str} {scope : Scope} {f : Addr} {cd : Value} {A : Around} {outer : List Env} {s : Shared} {H : Hp} {E : XK}
theorem bears_def : Bears (cxOf (CX1 P w) P w K mg base N qual scope f cd A outer s H E) (EJ E) := by
  intro pins σ H1 s1 a C H' s' B a0 dct I F q
  obtain ⟨hh, g, d, t, os'⟩ := s'
  have e : os' = s1.os := F.os
  subst e
  refine leaves_x (L := s.heap.objs.size) I.ok.frames rfl F.fly fun h' fl up => ?_
  refine ⟨a, C, H', B, a0, dct, rfl, ?_, q⟩
  have z := fly_mk (g := g) (d := d) (t := t) I rfl (fun b hb => List.mem_cons_of_mem _ hb) F.un F.kb F.kt F.hok F.fly.1 F.fly.2.2.1 up fl F.bare
  exact z
end

def tCallX (sp : Sp) (dvs : List V) (J : XJ) (t : TA) : TE := fun σ H Q => t σ H fun vs H1 => sp (vs ++ dvs) H1 Q fun c d H' => ∃ C, c = .ref C ∧ J C d σ H'
structure Cal1 (P : Program) (w : World) (K : PySem.W.Frag) (mg : Str → Option Value) (base : Heap) (x : Str) (k : Nat) (ps : List Str) (dvs : List V) (sp : Sp) : Prop where
  ex : ∃ f fd ds, FnOk P w K mg base (CX1 P w) k f fd ps sp ∧ mg x = some (.ref f) ∧ PySem.W.keepIn K (.ref f) = true ∧ Binds K fd ps ds ∧ Vals dvs ds
section
variable {X : Cx} {k : Nat} {f : Addr} {fd : FuncData} {ps : List Str} {sp : Sp} {dvs : List V} {ds : List Value} {J : XJ} {x : Str} {p pos : Pos} {e : Expr} {es : List Expr} {t : TA}
theorem run_fnX {pins : List (Addr × Obj)} {σ : St} {H : Hp} {s : Shared} {Q : VK} {us : List Value} {vs : List V} (F : FnOk X.prog X.w X.K X.mg X.base (CX1 X.prog X.w) k f fd ps sp) (hr : Room k X.A) (hb : Binds X.K fd ps ds) (hd : Vals dvs ds) (hx : Bears X J)
    (I : Inv X pins σ H s) (r : Vals vs us) (h : sp (vs ++ dvs) H Q fun c d H' => ∃ C, c = .ref C ∧ J C d σ H') : wpAny (model X.prog X.w) X.A (call (.ref f) us) (EP X pins σ Q) X.xe s := by
  have r2 : Vals (vs ++ dvs) (us ++ ds) := r.append hd
  have hl : (us ++ ds).length = ps.length := by rw [← r2.length]; exact F.len _ _ _ _ h
  refine wpAny_call (codeAny_mono (F.run X.A X.stack s H ⟨us, []⟩ (us ++ ds) (vs ++ dvs) Q _ hr I.env0 (hb s us I.kIn hl) r2 h) fun r s' hq => ?_)
  cases r with
  | error e =>
    obtain ⟨a, C, H', B, a0, dct, rfl, F, C', hC, q⟩ := hq
    cases hC
    exact hx pins σ H s a C H' s' B a0 dct I F q
  | ok fl =>
    cases fl with
    | ret u => exact I.after hq
    | next => exact False.elim hq
    | brk => exact False.elim hq
    | cont => exact False.elim hq
theorem pe_cx (c : Cal1 X.prog X.w X.K X.mg X.base x k ps dvs sp) (hr : Room k X.A) (hx : Bears X J) (ha : PA X (e :: es) t) (hg : Gl X x := by rfl) (hdb : (x == ("__debug__" : Str)) = false := by decide)
    (he : starEach (e :: es) X.env = (false, eval e X.env) :: starEach es X.env := by rfl) (hpl : (backTo pos (starEach es X.env)).any (·.1) = false := by rfl) :
    PE X (.Call (.Name x p) (e :: es) [] pos) (tCallX sp dvs J t) := by
  obtain ⟨f, fd, ds, F, hm, hk, hb, hd⟩ := c.ex
  intro pins s σ H Q I h
  refine wpAny_Call_Name_kw (ld_glob I hg hm ?_ hdb)
  refine PySem.W.callWith_K (h₀ := X.base) I.ok.mod.kin hk (thn (ha pos pins s σ H _ I h) fun us s1 ⟨vs, H1, I1, r, q⟩ => ⟨I1.kIn, ?_⟩) he hpl
  exact run_fnX F hr hb hd hx I1 r q
end
section
variable {P : Program} {w : World} {K : PySem.W.Frag} {mg : Str → Option Value} {base : Heap}
theorem Df.cal1 {x : Str} {st : Stmt} {N ps : List Str} {dvs : List V} {k : Nat} {sp : Sp} (D : Df K mg x st ps dvs) (S : FnScope N ps (defScope st)) (len : ∀ vs H Q E, sp vs H Q E → vs.length = ps.length)
    (hbody : ∀ (f : Addr) (cdv : Value) (A : Around) (outer : List Env) (s : Shared) (H : Hp) (vs : List V) (Q : VK) (E : XK), Room k (A.deeper (envOfC x (defScope st) s.heap.objs.size f cdv)) → sp vs H Q E →
      ∃ t, PSs (cxOf (CX1 P w) P w K mg base N x (defScope st) f cdv A outer s H E) (defBody st) t ∧ t { nx := fun _ H' => Q .non H', rt := Q } (start N vs) H) : Cal1 P w K mg base x (k + 1) ps dvs sp := by
  obtain ⟨f, oc, od, dV, kV, doc, pm, an, cdv, ct, osl, ds, lk, hcd, hk, hm, hv, hb⟩ := D.ex
  exact ⟨⟨f, _, ds, fn_of lk hcd S len fun A outer s H vs Q E hr hsp => hbody f cdv A outer s H vs Q E hr hsp, hm, hk, hb, hv⟩⟩
theorem Cal1.imp {x : Str} {k : Nat} {ps : List Str} {dvs : List V} {sp sp' : Sp} (c : Cal1 P w K mg base x k ps dvs sp) (h : ∀ vs H Q E, sp' vs H Q E → sp vs H Q E) : Cal1 P w K mg base x k ps dvs sp' := by
  obtain ⟨f, fd, ds, F, r⟩ := c.ex
  exact ⟨⟨f, fd, ds, F.imp h, r⟩⟩
theorem Cal1.mono {x : Str} {j k : Nat} {ps : List Str} {dvs : List V} {sp : Sp} (c : Cal1 P w K mg base x j ps dvs sp) (h : j ≤ k) : Cal1 P w K mg base x k ps dvs sp := by
  obtain ⟨f, fd, ds, F, r⟩ := c.ex
  exact ⟨⟨f, fd, ds, F.mono h, r⟩⟩
end
end L2
set_option Elab.async false
set_option linter.all false
set_option maxRecDepth 100000
namespace L2
open PySem PySem.Spec PyProof.Rows

section
variable {X : Cx} {J : XJ} {x : Str} {C : Addr} {bmB bmN : List Value} {newId Bn inN B nid initId : String} {np cpos pos : Pos} {e : Expr} {es : List Expr} {t : TA}
end

section
variable {X : Cx} {pins : List (Addr × Obj)} {σ : St} {H : Hp} {s : Shared}
theorem goes_ok {M : Model} {A : Around} {E : Value → Shared → Prop} {i : Nat} {n : Str} {pos : Pos} {Q : Unit → Shared → Prop} (I : Inv X pins σ H s) (hN : X.N.Nodup) (hi : X.N[i]? = some n) (hk : X.env.kindOf n = some .local)
    (h : ∀ s', Inv X pins (σ.set i none) H s' → Q () s') : wpAny M A (do bindName X.env n .none; unbindBehindTheSuite X.env n pos) Q E s := by
  obtain ⟨m, hn, hl⟩ := id I.loc
  have hcls : (X.env.scope.kind == .class || (X.env.scope.kind == .module && X.env.locals != X.env.globals)) = false := by rw [I.ok.kind]; rfl
  have hiσ : i < σ.length := by rw [I.len]; exact (List.getElem?_eq_some_iff.mp hi).1
  have neL : ∀ b o, X.s₀.heap.get? b = some o → b ≠ X.env.locals := fun b o e => Nat.ne_of_lt (Nat.lt_of_lt_of_le (Heap.lt_size e) I.ok.above)
  refine wpAny_nameGoes_keeps hk hn hcls fun h' v hn' hs => h _ ⟨I.ok, I.os, I.bare, ⟨fun b o e n hb hx => (hs.2 b (neL b o e)).trans (I.base.keep b o e n hb hx), fun b o e n hb hx => ?_, I.base.free, fun b o e hx => ?_, I.base.tups, I.base.frzs, I.base.tbls⟩,
    ⟨_, hn', fun j y v' e1 e2 e3 => ?_⟩, fun y c e => ?_, I.free, I.freeC, fun p hp => ?_, fun b ob e => ?_, by simpa using I.len⟩
  · obtain ⟨sl, e1⟩ := I.base.slot b o e n hb hx
    exact ⟨sl, (hs.2 b (neL b o e)).trans e1⟩
  · obtain ⟨o', e1⟩ := I.base.there b o e hx
    exact ⟨o', (hs.2 b (neL b o e)).trans e1⟩
  · by_cases hj : j = i
    · subst hj
      rw [List.getElem?_set_self hiσ] at e2
      cases e2
    · rw [List.getElem?_set_ne (Ne.symm hj)] at e2
      obtain ⟨u', r', q⟩ := hl j y v' e1 e2 e3
      refine ⟨u', r', ?_⟩
      rcases q with ⟨k, e⟩ | ⟨k, c, e, z⟩
      · refine .inl ⟨k, ?_⟩
        have : y ≠ n := fun e => hj (nodup_ix hN e1 (e ▸ hi))
        simp [this, e]
      · exact .inr ⟨k, c, e, z.sameBut hs (I.cne y c e)⟩
  · obtain ⟨w', z⟩ := I.cell y c e
    exact ⟨w', z.sameBut hs (I.cne y c e)⟩
  · obtain ⟨e, n, ne, nf, d⟩ := I.pin p hp
    exact ⟨(hs.2 p.1 ne).trans e, n, ne, nf, d⟩
  · refine (I.hok b ob e).stay (fun c w' hc q => (hs.2 c fun z => ?_).trans q) (fun _ q => q) fun _ _ q => q
    subst z
    rcases hc with rfl | hc
    · rw [I.free] at e; cases e
    · rw [I.free] at hc; cases hc
end

abbrev Cx.tried (X : Cx) (pins : List (Addr × Obj)) (W : Value → Shared → Prop) : Cx := { X with pn := X.pn ++ pins, xe := W }
abbrev Cx.suite (X : Cx) (pins : List (Addr × Obj)) (a : Addr) (oe : Obj) : Cx := { X with A := X.A.mark (some (.ref a)), calm := false, pn := X.pn ++ (pins ++ [(a, oe)]), xe := fun _ _ => False }
abbrev Cx.testing (X : Cx) (a : Addr) : Cx := { X with A := X.A.mark (some (.ref a)), calm := false }
section
variable {X : Cx} {pins : List (Addr × Obj)} {σ : St} {H : Hp} {s : Shared}
theorem Inv.tried (I : Inv X pins σ H s) (W : Value → Shared → Prop) : Inv (X.tried pins W) [] σ H s :=
  ⟨⟨I.ok.mod, I.ok.kind, I.ok.glob, I.ok.blt, I.ok.above, I.ok.inj, I.ok.has, I.ok.cab, I.ok.hd, I.ok.frames, I.ok.stk, I.ok.exf, I.ok.bs, I.ok.bsz, I.ok.noex, I.ok.exfs, I.ok.funs, I.ok.frf⟩,
    I.os, I.bare, I.base, I.loc, I.cell, I.free, I.freeC, fun p hp => I.pin p (by rw [List.append_nil] at hp; exact hp), I.hok, I.len⟩
theorem Inv.untried {pins' : List (Addr × Obj)} {W : Value → Shared → Prop} (ok : X.Ok) (I : Inv (X.tried pins W) pins' σ H s) : Inv X pins σ H s :=
  ⟨ok, I.os, I.bare, I.base, I.loc, I.cell, I.free, I.freeC, fun p hp => I.pin p (List.mem_append_left _ hp), I.hok, I.len⟩
theorem Inv.test (I : Inv X pins σ H s) (a : Addr) : Inv (X.testing a) pins σ H s :=
  ⟨⟨I.ok.mod, I.ok.kind, I.ok.glob, I.ok.blt, I.ok.above, I.ok.inj, I.ok.has, I.ok.cab, (fun h => nomatch h), I.ok.frames, I.ok.stk, I.ok.exf, I.ok.bs, I.ok.bsz, I.ok.noex, I.ok.exfs, I.ok.funs, I.ok.frf⟩,
    I.os, I.bare, I.base, I.loc, I.cell, I.free, I.freeC, I.pin, I.hok, I.len⟩
theorem Inv.suite {a : Addr} {oe : Obj} {vs : Array Value} (I : Inv X pins σ H s) (e : s.heap.get? a = some oe) (hd : oe.data = .fields vs) (hn : H a = none) : Inv (X.suite pins a oe) [] σ H s :=
  ⟨⟨I.ok.mod, I.ok.kind, I.ok.glob, I.ok.blt, I.ok.above, I.ok.inj, I.ok.has, I.ok.cab, (fun h => nomatch h), I.ok.frames, I.ok.stk, I.ok.exf, I.ok.bs, I.ok.bsz, I.ok.noex, I.ok.exfs, I.ok.funs, I.ok.frf⟩,
    I.os, I.bare, I.base, I.loc, I.cell, I.free, I.freeC, (fun p hp => by
      rw [List.append_nil] at hp
      have hp' : p ∈ X.pn ++ pins ∨ p ∈ [(a, oe)] := by
        rcases List.mem_append.mp hp with z | z
        · exact .inl (List.mem_append_left _ z)
        · rcases List.mem_append.mp z with z | z
          · exact .inl (List.mem_append_right _ z)
          · exact .inr z
      rcases hp' with z | z
      · exact I.pin p z
      · obtain rfl : p = (a, oe) := by simpa using z
        refine ⟨e, hn, fun q => ?_, fun q => ?_, fun v q => ?_⟩
        · obtain ⟨m, ⟨o, es, ep, ho, hd', _⟩, _⟩ := I.loc
          rw [← show a = X.env.locals from q, e] at ho
          cases ho
          rw [hd] at hd'; cases hd'
        · obtain ⟨_, o, ho, hnf⟩ := I.funs.mem q
          rw [show s.heap.get? a = some oe from e] at ho
          cases ho
          exact hnf vs hd
        · have q' : oe.data = .cell v := q
          rw [hd] at q'; cases q'), I.hok, I.len⟩
theorem Inv.unsuite {a : Addr} {oe : Obj} (ok : X.Ok) (I : Inv (X.suite pins a oe) [] σ H s) : Inv X pins σ H s :=
  ⟨ok, I.os, I.bare, I.base, I.loc, I.cell, I.free, I.freeC, fun p hp => I.pin p (by
    rw [List.append_nil]
    rcases List.mem_append.mp hp with z | z
    · exact List.mem_append_left _ z
    · exact List.mem_append_right _ (List.mem_append_left _ z)), I.hok, I.len⟩
end
def Ends.gone (i : Nat) (D : Ends) : Ends := { nx := fun σ H => D.nx (σ.set i none) H, rt := D.rt, bk := fun σ H => D.bk (σ.set i none) H, ct := fun σ H => D.ct (σ.set i none) H }
def tTry (i : Nat) (C : Addr) (tb : XJ → TS) (ts : Addr → Option Addr → TS) : TS := fun D σ H =>
  tb (fun C' d σ' H' => C' = C ∧ ∀ a, H' a = none → ts a d (D.gone i) (σ'.set i (some (.ref a))) H') D σ H
section
variable {X : Cx} {i : Nat} {x n : Str} {C : Addr} {bmB : List Value} {newId : String} {np hpos pos : Pos} {body suite : List Stmt} {b₀ : Stmt} {tb : XJ → TS} {ts : Addr → Option Addr → TS}
end

section
variable {X : Cx} {pins : List (Addr × Obj)} {σ : St} {H : Hp} {s : Shared}
end
end L2
set_option Elab.async false
set_option linter.all false
set_option maxRecDepth 100000
namespace L2
open PySem PySem.Spec PyProof.Rows PySem.W
section
variable {prog : Program} {w : World} {A : Around} {E : Value → Shared → Prop} {s : Shared} {K : PySem.W.Frag} {x D : Addr} {ox : Obj} {od : Option Obj}
theorem bexc_check {M : Model} {nameV : Value} {Q : Unit → Shared → Prop} (X : K.In s.heap) (I : InstAt s.heap x ox D od) (hb : subIn K (.ref D) (.type "BaseException") = some true) (q : Q () s) : wpAny M A (checkBuiltinCall "BaseException.__getattribute__" ⟨[.ref x, nameV], []⟩) Q E s := by
  have k1 : builtinKind "BaseException.__getattribute__" = some .slot := by decide +kernel
  have k2 : splitId "BaseException.__getattribute__" = some ("BaseException", "__getattribute__") := by decide +kernel
  have k3 := F.args_bexc_ga (.ref x) nameV
  have L : Looks M s.heap (isInstance (.ref x) (.type "BaseException")) true := (I.type (M := M)).andThen (looks_subIn X hb)
  obtain ⟨hh, g, d, t, os⟩ := s
  simp only [checkBuiltinCall, k1, k2]
  refine wpAny_bind (L.at ?_)
  repeat (any_goals (first | assumption | wp_step))
structure ExcK (K : PySem.W.Frag) (D : Addr) : Prop where
  ga : findIn K (.ref D) "__getattribute__" = some (some (.builtin "BaseException.__getattribute__"))
  no : findIn K (.ref D) "__getattr__" = some none
  bx : subIn K (.ref D) (.type "BaseException") = some true
  ob : mroIn K D (.type "object") = some true
  ds : hasDictIn K D = true
  ca : findIn K (.ref D) "__class__" = some (some (.builtin "object.__class__"))
  sp : specialIn K (.builtin "object.__class__") "__get__" = some (some (.builtin "getset_descriptor.__get__"))
  tk : takesIn K (.builtin "object.__class__") = some true
end
section
variable {X : Cx}
end
end L2
set_option Elab.async false
set_option linter.all false
set_option maxRecDepth 100000
namespace L2
open PySem PySem.Spec PyProof.Rows

def caps (σ : St) (js : List Nat) : St := js.map fun j => (σ[j]?).getD none
inductive Capt (X : Cx) (scope : Scope) (cl : List (Str × Addr)) : List Str → List Nat → Prop
  | nil : Capt X scope cl [] []
  | cons {x : Str} {j : Nat} {r : List Str} {js : List Nat} : X.N[j]? = some x → X.env.kindOf x = some .cell → (relabel scope X.env).names.lookup x = some .cell → (∃ c, cl.lookup x = some c) → Capt X scope cl r js → Capt X scope cl (x :: r) (j :: js)
section
variable {X : Cx} {scope : Scope} {cl : List (Str × Addr)}
theorem Capt.length : ∀ {r : List Str} {js : List Nat}, Capt X scope cl r js → r.length = js.length
  | _, _, .nil => rfl
  | _, _, .cons _ _ _ _ t => by rw [List.length_cons, List.length_cons, Capt.length t]
theorem Capt.get : ∀ {r : List Str} {js : List Nat} {k : Nat} {x : Str}, Capt X scope cl r js → r[k]? = some x → ∃ j, js[k]? = some j ∧ X.N[j]? = some x ∧ X.env.kindOf x = some .cell ∧ (relabel scope X.env).names.lookup x = some .cell ∧ ∃ c, cl.lookup x = some c
  | _, _, _, _, .nil, e => by simp at e
  | _, _, 0, _, .cons h1 h2 h3 h4 _, e => by
    simp at e; subst e
    exact ⟨_, rfl, h1, h2, h3, h4⟩
  | _, _, k + 1, x, .cons _ _ _ _ t, e => by
    obtain ⟨j, r⟩ := Capt.get (k := k) t (by simpa using e)
    exact ⟨j, by simpa using r⟩
theorem Capt.has {r : List Str} {js : List Nat} (h : Capt X scope cl r js) {x : Str} (hx : x ∈ r) : ∃ c, cl.lookup x = some c := by
  obtain ⟨k, hk⟩ := List.getElem?_of_mem hx
  obtain ⟨_, _, _, _, _, z⟩ := h.get hk
  exact z
end
def cxCompC (X : Cx) (NB FR : List Str) (scope : Scope) (cl : List (Str × Addr)) (s3 : Shared) (H3 : Hp) (fp : List Addr) : Cx :=
  { X with N := NB ++ FR, s₀ := s3, H₀ := H3, env := compEnvC scope cl s3.heap.objs.size X.env, outer := X.stack, stack := X.stack, ex := fp, fn := fun _ => false, pn := [], xe := fun _ _ => False }
def tCompC (n : Nat) (js : List Nat) (wi : TI) (g : TG) (tt : TT) (te : TE) : TE := fun σ H Q => wi σ H fun J H1 => ∀ D, H1 D = none → ∃ W : Nat → Nat → Hp → List V → Prop, (∃ m, W 0 m (upd H1 D (.lst [])) []) ∧
  ∀ i m H2 ys, W i m H2 ys → H2 D = some (.lst ys) → (J.stop i H2 ∧ Q (.ref D) H2) ∨
    (J.go i H2 ∧ ∀ zs x H3, zs.length = n → J.yld i H2 x H3 → g x (zs ++ caps σ js) H3 fun σ4 H4 => σ4.drop n = caps σ js ∧ tt σ4 H4 fun b H5 =>
      if b = true then te σ4 H5 (fun v H6 => H6 D = some (.lst ys) ∧ ys.length < sizeLine ∧ ∃ m', m' < m ∧ W (i + 1) m' (upd H6 D (.lst (ys ++ [v]))) (ys ++ [v]))
      else H5 D = some (.lst ys) ∧ ∃ m', m' < m ∧ W (i + 1) m' H5 ys)

theorem relabel_has {scope : Scope} {env : Env} {FR : List Str} {x : Str} (h : (relabel scope env).names.all (fun y => !(y.2 == .cell || y.2 == .free) || FR.contains y.1) = true)
    (e : (relabel scope env).names.lookup x = some .cell ∨ (relabel scope env).names.lookup x = some .free) : x ∈ FR := by
  have key : ∀ k : NameKind, (k == .cell || k == .free) = true → (x, k) ∈ (relabel scope env).names → x ∈ FR := fun k hk hm => by
    have z := List.all_eq_true.mp h _ hm
    simp only [hk, Bool.not_true, Bool.false_or, List.contains_iff_mem] at z
    exact z
  rcases e with e | e
  · exact key .cell rfl (PySem.mem_of_lookup e)
  · exact key .free rfl (PySem.mem_of_lookup e)

theorem comp_core {X : Cx} {elt tg iter : Expr} {ifs : List Expr} {scope : Scope} {cl : List (Str × Addr)} {pos : Pos} {NB FR : List Str} {js : List Nat} {wi : TI} {g : TG} {tt : TT} {te : TE} {Q : VK} {RR : Value → Addr → Result → Shared → Prop}
    {pins : List (Addr × Obj)} {s : Shared} {σ : St} {H : Hp} (hc : X.calm = true) (hcl : ∀ x c, cl.lookup x = some c → X.env.cells.lookup x = some c) (hcap : Capt X scope cl FR js)
    (hnm : (relabel scope X.env).names.all (fun y => !(y.2 == .cell || y.2 == .free) || FR.contains y.1) = true) (hcell : ∀ x ∈ scope.names, x.2 ≠ .cell) (hkind : scope.kind = .function)
    (hi : PI X tg iter wi) (hb : ∀ s3 H3 fp, PG (cxCompC X NB FR scope cl s3 H3 fp) tg g ∧ PTs (cxCompC X NB FR scope cl s3 H3 fp) ifs tt ∧ PE (cxCompC X NB FR scope cl s3 H3 fp) elt te)
    (I : Inv X pins σ H s) (h : tCompC NB.length js wi g tt te σ H Q)
    (hRR : ∀ D C H' s', Inv X pins σ H' s' → FpOk X pins H' C → (∃ m, s'.heap.Ns C m) → Q (.ref D) H' → RR (.ref D) C (.ok .next) s') :
    wpAny (model X.prog X.w) X.A (eval iter X.env) (fun v s1 => wpAny (model X.prog X.w) X.A (pyIter v) (fun it s2 => wpAny (model X.prog X.w) X.A (newList []) (fun acc s3 =>
      wpAny (model X.prog X.w) X.A (newFunctionEnv scope X.env.globals cl [] X.env.qual none .none (some X.env)) (fun cenv s4 =>
        codeAny (model X.prog X.w) X.A (.compStart (.ListComp elt [⟨tg, iter, ifs, 0⟩] scope pos) 0 it acc { cenv with scope := relabel scope X.env }) (RR acc cenv.locals) s4) X.xe s3) X.xe s2) X.xe s1) X.xe s := by
  refine thn (hi pins s σ H _ I h) fun v s1 h1 => thn h1 fun itv s2 h2 => ?_
  obtain ⟨it, fp, tn, J, H2, e, I2, T, st2, f2, q2⟩ := h2
  subst e
  have hf2 : H2 s2.heap.objs.size = none := I2.hok.fresh (Nat.le_refl _)
  obtain ⟨W, ⟨m0, w0⟩, turn⟩ := q2 _ hf2
  refine wpAny_newObj_type (hd := by size_fits) ?_
  have I3 : Inv X pins σ (upd H2 s2.heap.objs.size (.lst [])) { s2 with heap := s2.heap.push { cls := .type "list", dict := none, data := .seq ([] : List Value).toArray } } :=
    I2.laid (t' := s2.toks) (fun b u e => Heap.get?_push_of_some _ e) (Nat.le_refl _) ⟨by decide, [], 0, .nil, Heap.get?_push_size _ rfl⟩
  generalize hD : s2.heap.objs.size = D at *
  generalize hs3 : ({ s2 with heap := s2.heap.push { cls := .type "list", dict := none, data := .seq ([] : List Value).toArray } } : Shared) = s3 at *
  generalize hH3 : upd H2 D (.lst []) = H3 at *
  have h3D : H3 D = some (.lst []) := by rw [← hH3]; exact upd_same
  have fpD : ∀ b ∈ fp, b ≠ D := fun b hb => by
    obtain ⟨o, e, _⟩ := T.obj _ _ st2 b hb
    rw [← hD]; exact Nat.ne_of_lt (Heap.lt_size e)
  have k23 : ∀ b u, s2.heap.get? b = some u → s3.heap.get? b = some u := fun b u e => by rw [← hs3]; exact Heap.get?_push_of_some _ e
  have st3 : tn 0 s3.heap := T.keep _ _ _ st2 fun b _ o e => k23 b o e
  have f3 : ∀ b ∈ fp, FpOk X pins H3 b := fun b hb => ⟨by rw [← hH3, upd_ne (fpD b hb)]; exact (f2 b hb).1, (f2 b hb).2⟩
  refine wpAny_newFunctionEnv hcell (by intro y hy; simp at hy) (fun h4 hns4 hsb4 => ?_) hkind
  have k34 : ∀ b u, s3.heap.get? b = some u → h4.get? b = some u := fun b u e => hsb4.extBut b u (Nat.ne_of_lt (Heap.lt_size e)) (Heap.get?_push_of_some _ e)
  have okB : (cxCompC X NB FR scope cl s3 H3 fp).Ok := by
    refine ⟨I3.ok.mod, hkind, I3.ok.glob, I3.ok.blt, Nat.le_refl _, fun x y c e1 e2 => I3.ok.inj x y c (hcl _ _ e1) (hcl _ _ e2), fun x e => hcap.has (relabel_has hnm e), (fun x c e => nomatch e), I3.ok.hd, I3.ok.frames, .inl rfl, fun b hb => ⟨?_, fun x c e => ?_⟩, I3.bs, Nat.le_trans I3.ok.bsz I3.sz, fun b o e hb => ?_, fun b hb z => ?_, I3.stack, I3.stkFree⟩
    · obtain ⟨o, e, _⟩ := T.obj _ _ st3 b hb
      exact Nat.ne_of_lt (Heap.lt_size e)
    · exact (f3 b hb).2.2.2.2.1 x c (hcl _ _ e)
    · obtain ⟨_, _, _, z, _⟩ := f3 b hb
      rcases z with z | z
      · exact I3.ok.noex b o e z
      · exact absurd (Nat.lt_of_lt_of_le (Heap.lt_size e) (Nat.le_trans I3.ok.bsz z)) (Nat.lt_irrefl _)
    · obtain ⟨_, z1, z2, _⟩ := f3 b hb
      rcases List.mem_cons.mp (I3.stkSub b z) with e | e
      · exact z1 e
      · exact z2 e
  have IB : Inv (cxCompC X NB FR scope cl s3 H3 fp) [] (List.replicate NB.length none ++ caps σ js) H3 { s3 with heap := h4, toks := s3.toks + ([] : List (Str × Value)).length } := by
    refine ⟨okB, rfl, I3.bare, Un.kept k34, ⟨_, hns4, fun i x v e1 e2 e3 => ?_⟩, fun x c e => ?_, I3.hok.fresh (Nat.le_refl _), fun x c e => I3.freeC x c (hcl _ _ e), fun p hp => ?_, I3.hok.kept k34, ?_⟩
    · by_cases hi : i < NB.length
      · rw [List.getElem?_append_left (by simpa using hi), List.getElem?_replicate, if_pos hi] at e2
        cases e2
      · have e1' : FR[i - NB.length]? = some x := by
          have z : (NB ++ FR)[i]? = some x := e1
          rw [List.getElem?_append_right (by omega)] at z; exact z
        rw [List.getElem?_append_right (by simp; omega), List.length_replicate] at e2
        obtain ⟨j, hj, hN, hk, hb', c, hc'⟩ := hcap.get e1'
        have e2' : σ[j]? = some (some v) := by
          unfold caps at e2
          rw [List.getElem?_map, hj] at e2
          simp only [Option.map_some, Option.some.injEq] at e2
          cases hσ : σ[j]? with
          | none => rw [hσ] at e2; cases e2
          | some o => rw [hσ] at e2; simp only [Option.getD_some] at e2; rw [e2]
        obtain ⟨m, hn, hl⟩ := I3.loc
        obtain ⟨u, ru, lu⟩ := hl j x v hN e2' (.inr (.inl hk))
        refine ⟨u, ru, .inr ⟨.inl hb', c, hc', ?_⟩⟩
        rcases lu with ⟨z, _⟩ | ⟨_, c', z, q⟩
        · rw [hk] at z; cases z
        · rw [hcl _ _ hc'] at z; cases z
          obtain ⟨o, ho, hd⟩ := q
          exact ⟨o, k34 _ _ ho, hd⟩
    · obtain ⟨v, o, ho, hd⟩ := I3.cell x c (hcl _ _ e)
      exact ⟨v, o, k34 _ _ ho, hd⟩
    · exact absurd (show p ∈ ([] : List (Addr × Obj)) from hp) (by simp)
    · show _ = (NB ++ FR).length
      rw [List.length_append, List.length_append, List.length_replicate, hcap.length]
      unfold caps; rw [List.length_map]
  have st4 : tn 0 h4 := T.keep _ _ _ st3 fun b _ o e => k34 b o e
  have stat : ∀ {H' : Hp}, (∀ b ∈ fp, H' b = none) → ∀ b ∈ fp, FpOk (cxCompC X NB FR scope cl s3 H3 fp) [] H' b := fun hn b hb =>
    ⟨hn b hb, (okB.exf b hb).1, okB.exfs b hb, .inl hb, fun x c e => (f3 b hb).2.2.2.2.1 x c (hcl _ _ e), fun p hp => absurd (show p ∈ ([] : List (Addr × Obj)) from hp) (by simp)⟩
  obtain ⟨hg, ht, he⟩ := hb s3 H3 fp
  have fin : ∀ {σ' : St} {H' : Hp} {s' : Shared}, Inv (cxCompC X NB FR scope cl s3 H3 fp) [] σ' H' s' → Q (.ref D) H' → RR (.ref D) s3.heap.objs.size (.ok .next) s' := fun {σ' H' s'} J q => by
    have hm : ∃ m, s'.heap.Ns s3.heap.objs.size m := by
      obtain ⟨m, hm, _⟩ := J.loc
      exact ⟨m, hm⟩
    refine hRR D _ H' s' (I3.call' (ch := fp) J.os J.base J.hok J.bare fun b hb => ?_) (I3.fpOk (Nat.le_refl _) J.free) hm q
    obtain ⟨_, z1, z2, z3, z4, z5⟩ := f3 b hb
    exact ⟨z3, z1, z4, z5⟩
  have loop : ∀ s5 : Shared, s5 = { s3 with heap := h4, toks := s3.toks + ([] : List (Str × Value)).length } →
      codeAny (model X.prog X.w) X.A (.compLoop (.ListComp elt [⟨tg, iter, ifs, 0⟩] scope pos) 0 (.ref it) (.ref D) (compEnvC scope cl s3.heap.objs.size X.env)) (RR (.ref D) s3.heap.objs.size) s5 := by
    rintro s5 rfl
    refine compLoop_any (fun n s' => ∃ i zs H' ys, zs.length = NB.length ∧ Inv (cxCompC X NB FR scope cl s3 H3 fp) [] (zs ++ caps σ js) H' s' ∧ tn i s'.heap ∧ (∀ b ∈ fp, H' b = none) ∧ H' D = some (.lst ys) ∧ W i n H' ys) ?_ m0
      ⟨0, _, H3, [], List.length_replicate, IB, st4, fun b hb => (f3 b hb).1, h3D, by rw [← hH3] at *; exact w0⟩
    rintro n s6 ⟨i, zs, H6, ys, hzs, I6, st6, fr6, hD6, w6⟩
    rcases turn i n H6 ys w6 hD6 with ⟨stop, qn⟩ | ⟨go, step⟩
    · refine thn (T.done (cxCompC X NB FR scope cl s3 H3 fp) rfl rfl rfl hc i [] s6 _ H6 _ I6 (stat fr6) st6 stop) fun r s7 ⟨hr, I7⟩ => ?_
      subst hr
      exact fin I7 qn
    · refine thn (T.item (cxCompC X NB FR scope cl s3 H3 fp) rfl rfl rfl hc i [] s6 _ H6 _ I6 (stat fr6) st6 go) fun r s7 ⟨u, hr, h7⟩ => ?_
      subst hr
      refine thn h7 fun _ s8 ⟨x, H8, I8, r8, y8, st8, fr8⟩ => ?_
      have I8' := I8.pinned (stat fr8) (T.obj _ _ st8)
      have again : ∀ {σ9 : St} {H9 : Hp} {s9 : Shared} {ws : List V} {m' : Nat}, σ9.drop NB.length = caps σ js → Inv (cxCompC X NB FR scope cl s3 H3 fp) ([] ++ pinsAt fp s8.heap) σ9 H9 s9 → H9 D = some (.lst ws) → m' < n → W (i + 1) m' H9 ws →
          ∃ m, m < n ∧ ∃ i zs H' ys, zs.length = NB.length ∧ Inv (cxCompC X NB FR scope cl s3 H3 fp) [] (zs ++ caps σ js) H' s9 ∧ tn i s9.heap ∧ (∀ b ∈ fp, H' b = none) ∧ H' D = some (.lst ys) ∧ W i m H' ys := fun {σ9 H9 s9 ws m'} hdr I9 hz hm w9 => by
        have hl : σ9.length = (NB ++ FR).length := I9.len
        rw [List.length_append] at hl
        refine ⟨m', hm, i + 1, σ9.take NB.length, H9, ws, by rw [List.length_take]; omega, ?_, T.keep _ _ _ st8 fun b hb o e => (I9.pin (b, o) (List.mem_append_right _ (List.mem_append_right _ (mem_pinsAt hb e)))).1, fun b hb => ?_, hz, w9⟩
        · rw [← hdr, List.take_append_drop]; exact I9.unpinned
        · obtain ⟨o, e, d⟩ := T.obj _ _ st8 b hb
          exact (I9.pin (b, o) (List.mem_append_right _ (List.mem_append_right _ (mem_pinsAt hb e)))).2.1
      refine thn (hg _ s8 _ H8 x u _ I8' r8 (step zs x H8 hzs y8)) fun _ s9 ⟨σ9, H9, I9, hdr, q9⟩ => ?_
      refine thn (ht _ s9 σ9 H9 _ I9 q9) fun ok s10 ⟨H10, I10, q10⟩ => ?_
      cases ok with
      | false =>
        rw [if_neg (by decide)] at q10 ⊢
        obtain ⟨hz, m', hm, w'⟩ := q10
        exact again hdr I10 hz hm w'
      | true =>
        rw [if_pos rfl] at q10 ⊢
        refine thn (he _ s10 σ9 H10 _ I10 q10) fun y s11 ⟨v, H11, I11, r11, hz, hlen, m', hm, w'⟩ => ?_
        refine thn (mt_append _ s11 σ9 H11 (.ref D) [v] (.ref D) [y] (fun _ H12 => H12 = upd H11 D (.lst (ys ++ [v]))) I11 rfl (.cons r11 .nil) ⟨D, ys, v, rfl, rfl, hz, hlen, rfl⟩) fun _ s12 ⟨_, H12, I12, _, e12⟩ => ?_
        subst e12
        exact again hdr I12 upd_same hm w'
  exact codeAny_compStart_list (loop _ rfl) (T.self X.A 0 _ _ _ st4 (loop _ rfl))

section
variable {X : Cx} {elt tg iter : Expr} {ifs : List Expr} {scope : Scope} {cl : List (Str × Addr)} {pos spos py : Pos} {NB FR : List Str} {js : List Nat} {wi : TI} {g : TG} {tt : TT} {te : TE}
theorem pe_compC (hc : X.calm = true) (hclos : closureFor scope X.env = pure cl) (hcl : ∀ x c, cl.lookup x = some c → X.env.cells.lookup x = some c) (hcap : Capt X scope cl FR js)
    (hnm : (relabel scope X.env).names.all (fun y => !(y.2 == .cell || y.2 == .free) || FR.contains y.1) = true) (hcell : ∀ x ∈ scope.names, x.2 ≠ .cell) (hkind : scope.kind = .function) (hnames : ∀ x ∈ scope.names, x.2 = .local → scope.names.lookup x.1 = some .local)
    (hi : PI X tg iter wi) (hb : ∀ s3 H3 fp, PG (cxCompC X NB FR scope cl s3 H3 fp) tg g ∧ PTs (cxCompC X NB FR scope cl s3 H3 fp) ifs tt ∧ PE (cxCompC X NB FR scope cl s3 H3 fp) elt te)
    (hs : ∀ x, foldedSetIterable iter X.env x = pure x := by intro _; rfl) :
    PE X (.ListComp elt [⟨tg, iter, ifs, 0⟩] scope pos) (tCompC NB.length js wi g tt te) := by
  intro pins s σ H Q I h
  rw [eval_ListComp]
  refine wpAny_comprehension_free (use := none) rfl hs hclos hkind hnames (comp_core (RR := fun acc C => compPost (model X.prog X.w) X.A X.xe none (EP X pins σ Q) acc C) hc hcl hcap hnm hcell hkind hi hb I h ?_)
  intro D C H' s' I' ⟨f0, f1, f2, f3, f4, f5⟩ ⟨m, hm⟩ q
  exact ⟨m, hm, fun h' sb => ⟨.ref D, H', I'.turned (t' := s'.toks) (fun b o hb e => (sb.2 b hb).trans e) f0 f1 f3 f4 f5, rfl, q⟩⟩
theorem ps_setC {i : Nat} {y : Str} (hc : X.calm = true) (hclos : closureFor scope X.env = pure cl) (hcl : ∀ x c, cl.lookup x = some c → X.env.cells.lookup x = some c) (hcap : Capt X scope cl FR js)
    (hnm : (relabel scope X.env).names.all (fun y => !(y.2 == .cell || y.2 == .free) || FR.contains y.1) = true) (hcell : ∀ x ∈ scope.names, x.2 ≠ .cell) (hkind : scope.kind = .function) (hnames : ∀ x ∈ scope.names, x.2 = .local → scope.names.lookup x.1 = some .local)
    (hN : X.N.Nodup) (hiN : X.N[i]? = some y) (hy : X.env.kindOf y = some .local) (hsw : swapsWith (.ListComp elt [⟨tg, iter, ifs, 0⟩] scope pos) (some (.Name y py)) spos.line X.env = pure true)
    (hi : PI X tg iter wi) (hb : ∀ s3 H3 fp, PG (cxCompC X NB FR scope cl s3 H3 fp) tg g ∧ PTs (cxCompC X NB FR scope cl s3 H3 fp) ifs tt ∧ PE (cxCompC X NB FR scope cl s3 H3 fp) elt te)
    (hs : ∀ x, foldedSetIterable iter X.env x = pure x := by intro _; rfl) :
    PS X (.Assign [.Name y py] (.ListComp elt [⟨tg, iter, ifs, 0⟩] scope pos) spos) (tAsg (tCompC NB.length js wi g tt te) (gName i)) := by
  intro pins s σ H D I h
  rw [exec_Assign_Name_used _ _ _ _ hsw]
  refine wpAny_bind (wpAny_standAt (wpAny_bind ?_))
  show wpAny _ _ (do let _ ← comprehension (.ListComp elt [⟨tg, iter, ifs, 0⟩] scope pos) scope X.env _ (newList []) false (eval iter X.env) (some (assign (.Name y py) X.env))) _ _ s
  refine wpAny_bind (wpAny_mono (wpAny_comprehension_free (use := some (assign (.Name y py) X.env)) (Q := fun _ s' => SP X pins D .next s') rfl hs hclos hkind hnames
    (comp_core (RR := fun acc C => compPost (model X.prog X.w) X.A X.xe (some (assign (.Name y py) X.env)) (fun _ s' => SP X pins D .next s') acc C) hc hcl hcap hnm hcell hkind hi hb I h ?_)) (fun _ s' hq => wpAny_pure (wpAny_pure hq)) fun _ _ e => e)
  intro DD C H' s' I' ⟨f0, f1, f2, f3, f4, f5⟩ ⟨m, hm⟩ q
  show wpAny _ _ (assign (.Name y py) X.env (.ref DD)) _ _ s'
  refine wpAny_assign_Name (store_ok2 (v := .ref DD) I' hN hiN (.inl hy) rfl (fun s'' I'' ⟨a, sa, ha⟩ => ?_) (.inr hy))
  have hCa : C ≠ a := by
    rcases ha with rfl | ha
    · exact f1
    · exact fun z => f4 y a ha z.symm
  exact ⟨m, hm.sameBut sa hCa, fun h' sb => ⟨_, H', I''.turned (t' := s''.toks) (fun b o hb e => (sb.2 b hb).trans e) f0 f1 f3 f4 f5, q⟩⟩
end
end L2
set_option Elab.async false
set_option linter.all false
set_option maxRecDepth 100000
namespace L2
open PySem PySem.Spec PyProof.Rows

section
variable {prog : Program} {w : World} {A : Around} {E : Value → Shared → Prop} {s : Shared}
structure ZT (z TI TO j1 j2 t1 t2 : Addr) (f0 : Value) (i1 i2 : Nat) (h : Heap) : Prop where
  z : IsZip h z TI TO f0
  ti : IsPair h TI (.ref j1) (.ref j2)
  to : ∃ a b, IsPair h TO a b
  i1 : h.IsTupleIter j1 t1 i1
  i2 : h.IsTupleIter j2 t2 i2
structure ZNe (z TI TO j1 j2 : Addr) : Prop where
  a : TI ≠ z
  b : TO ≠ z
  c : j1 ≠ z
  d : j2 ≠ z
  e : TI ≠ TO
  f : TI ≠ j1
  g : TI ≠ j2
  k : TO ≠ j1
  l : TO ≠ j2
  m : j1 ≠ j2
section
variable {z TI TO j1 j2 t1 t2 : Addr} {i : Nat} {xs ys : Array Value}
end
end

end L2
set_option Elab.async false
set_option linter.all false
set_option maxRecDepth 100000
namespace L2
open PySem PySem.Spec PyProof.Rows
section
variable {X : Cx}
theorem nne {a b : Nat} (h : a < b) : a ≠ b := Nat.ne_of_lt h
end
end L2
set_option Elab.async false
set_option linter.all false
set_option maxRecDepth 100000
namespace HT
open PySem PyProof.Rows
section
variable {prog : Program} {w : World} {A : Around} {E : Value → Shared → Prop} {s : Shared}
theorem whole_cut {t sl : Addr} {items : Array Value} {vl vu : Value} {lo hi : Option Int} {Q : Value → Shared → Prop} (ht : IsTup s.heap t items) (hs : s.heap.IsSliceOf sl vl vu .none) (pl : IsPart vl lo) (pu : IsPart vu hi)
    (hw : sIx items.size 0 lo = 0 ∧ sIx items.size items.size hi = items.size) (h : Q (.ref t) s) : wpAny (model prog w) A (getItem (.ref t) (.ref sl)) Q E s := by
  obtain ⟨os, hos, hcs, hds⟩ := id hs
  have hTs : s.TypeIs (.ref sl) "slice" := ⟨os, hos, hcs⟩
  unfold getItem
  try with_reducible refine wpAny_holding ?_
  first | refine wpAny_bind (wpAny_pure ?_) | skip
  refine wpAny_bind (wpAny_sequenceKey ht.typeIs (by decide) ?_)
  refine wpAny_bind (wpAny_callSpecial?_slot (name := Str.ofString "__getitem__") ht.typeIs PyProof.Rows.slot_tuple_getitem
    (wpAny_call_entry PyProof.Rows.slot_tuple_getitem ht.typeIs entry_tuple_getitem ?_ (args_tuple_getitem _ _)))
  show wpAny _ _ (Builtin.Tuple.tupleItemsOf (.ref t) >>= _) _ _ s
  refine wpAny_bind (tupleItemsOf_ ht ?_)
  refine wpAny_bind (wpAny_typeOf hTs ?_)
  rw [if_pos (by decide)]
  refine wpAny_bind (sliceApplied_gen hs pl pu ?_)
  show wpAny _ _ (if (((sIx items.size 0 lo : Nat) : Int) == 0 && (1 : Int) == 1 && (sIx items.size items.size hi - sIx items.size 0 lo) == items.size) = true then _ else _) _ _ s
  rw [if_pos (by rw [hw.1, hw.2]; simp)]
  refine wpAny_bind ?_
  unfold Builtin.Tuple.tupleIsExact
  refine wpAny_bind (wpAny_typeOf ht.typeIs (wpAny_pure ?_))
  rw [if_pos (by decide)]
  first
    | exact wpAny_bind (wpAny_rule (wpAny_pure ⟨_, rfl, wpAny_pure h⟩))
    | exact wpAny_bind (wpAny_rule (wpAny_bind (wpAny_pure (wpAny_pure ⟨_, rfl, wpAny_pure h⟩))))
    | exact wpAny_bind (wpAny_rule (wpAny_bind (wpAny_pure ⟨_, rfl, wpAny_pure h⟩)))
end
end HT
namespace L2
open PySem PySem.Spec PyProof.Rows
section
variable {X : Cx}
def rSlW (K : PySem.W.Frag) : V → Option Int → Option Int → Hp → VK → Prop := fun x lo hi H Q => ∃ a xs, x = .ref a ∧ SqT K H a xs ∧ (HT.sIx xs.length 0 lo = 0 ∧ HT.sIx xs.length xs.length hi = xs.length) ∧ Q x H
theorem sl_whole : SlR X (rSlW X.K) := by
  intro pins s σ H x v vl vu lo hi sl Q I rx hs pl pu h
  obtain ⟨a, xs, rfl, hx, hw, q⟩ := h
  cases rx
  obtain ⟨its, r, ht, hz⟩ := I.tuple hx
  have hlen : its.toArray.size = xs.length := by rw [List.size_toArray]; exact r.length.symm
  exact ⟨"tuple", _, PyProof.Rows.slot_tuple_getitem.lookup, ht.typeIs, HT.whole_cut ht hs pl pu (by rw [hlen]; exact hw) ⟨.ref a, H, I, rfl, q⟩⟩
end
end L2
set_option Elab.async false
set_option linter.all false
set_option maxRecDepth 100000
namespace L2
open PySem PySem.Spec PyProof.Rows
section
variable {J : It} {D : Addr} {N n : Nat} {js : List Nat} {σ : St} {g : TG} {tt : TT} {te : TE} {Q : VK} {H : Hp}
theorem comp_by (Pv : Nat → Hp → List V → Prop) (h0 : Pv 0 (upd H D (.lst [])) []) (hgo : ∀ i H ys, i < N → Pv i H ys → J.go i H) (hst : ∀ H ys, Pv N H ys → J.stop N H)
    (hs : ∀ i x zs H2 H3 ys (Nx : Hp → List V → Prop), (∀ H ys, Pv (i + 1) H ys → Nx H ys) → i < N → zs.length = n → J.yld i H2 x H3 → Pv i H2 ys → H2 D = some (.lst ys) → g x zs H3 fun σ4 H4 => tt σ4 H4 fun b H5 =>
      if b = true then te σ4 H5 (fun v H6 => H6 D = some (.lst ys) ∧ ys.length < sizeLine ∧ Nx (upd H6 D (.lst (ys ++ [v]))) (ys ++ [v])) else H5 D = some (.lst ys) ∧ Nx H5 ys)
    (hd : ∀ H ys, Pv N H ys → H D = some (.lst ys) → Q (.ref D) H) :
    ∃ W : Nat → Nat → Hp → List V → Prop, (∃ m, W 0 m (upd H D (.lst [])) []) ∧ ∀ i m H2 ys, W i m H2 ys → H2 D = some (.lst ys) → (J.stop i H2 ∧ Q (.ref D) H2) ∨
      (J.go i H2 ∧ ∀ σB x H3, σB.length = n → J.yld i H2 x H3 → g x σB H3 fun σ4 H4 => tt σ4 H4 fun b H5 => if b = true then te σ4 H5 (fun v H6 => H6 D = some (.lst ys) ∧ ys.length < sizeLine ∧ ∃ m', m' < m ∧ W (i + 1) m' (upd H6 D (.lst (ys ++ [v]))) (ys ++ [v]))
        else H5 D = some (.lst ys) ∧ ∃ m', m' < m ∧ W (i + 1) m' H5 ys) := by
  refine ⟨fun i m H ys => m = N - i ∧ i ≤ N ∧ Pv i H ys, ⟨N, by simp, Nat.zero_le _, h0⟩, ?_⟩
  rintro i m H2 ys ⟨rfl, hi, p⟩ hD
  by_cases hlt : i < N
  · exact .inr ⟨hgo i H2 ys hlt p, fun σB x H3 hB y => hs i x σB H2 H3 ys (fun H' ys' => ∃ m', m' < N - i ∧ (m' = N - (i + 1) ∧ i + 1 ≤ N ∧ Pv (i + 1) H' ys')) (fun H' ys' z => ⟨N - (i + 1), by omega, rfl, hlt, z⟩) hlt hB y p hD⟩
  · obtain rfl : i = N := by omega
    exact .inl ⟨hst H2 ys p, hd H2 ys p hD⟩
theorem compC_by (Pv : Nat → Hp → List V → Prop) (h0 : Pv 0 (upd H D (.lst [])) []) (hgo : ∀ i H ys, i < N → Pv i H ys → J.go i H) (hst : ∀ H ys, Pv N H ys → J.stop N H)
    (hs : ∀ i x zs H2 H3 ys (Nx : Hp → List V → Prop), (∀ H ys, Pv (i + 1) H ys → Nx H ys) → i < N → zs.length = n → J.yld i H2 x H3 → Pv i H2 ys → H2 D = some (.lst ys) → g x (zs ++ caps σ js) H3 fun σ4 H4 => σ4.drop n = caps σ js ∧ tt σ4 H4 fun b H5 =>
      if b = true then te σ4 H5 (fun v H6 => H6 D = some (.lst ys) ∧ ys.length < sizeLine ∧ Nx (upd H6 D (.lst (ys ++ [v]))) (ys ++ [v])) else H5 D = some (.lst ys) ∧ Nx H5 ys)
    (hd : ∀ H ys, Pv N H ys → H D = some (.lst ys) → Q (.ref D) H) :
    ∃ W : Nat → Nat → Hp → List V → Prop, (∃ m, W 0 m (upd H D (.lst [])) []) ∧ ∀ i m H2 ys, W i m H2 ys → H2 D = some (.lst ys) → (J.stop i H2 ∧ Q (.ref D) H2) ∨
      (J.go i H2 ∧ ∀ zs x H3, zs.length = n → J.yld i H2 x H3 → g x (zs ++ caps σ js) H3 fun σ4 H4 => σ4.drop n = caps σ js ∧ tt σ4 H4 fun b H5 => if b = true then te σ4 H5 (fun v H6 => H6 D = some (.lst ys) ∧ ys.length < sizeLine ∧ ∃ m', m' < m ∧ W (i + 1) m' (upd H6 D (.lst (ys ++ [v]))) (ys ++ [v]))
        else H5 D = some (.lst ys) ∧ ∃ m', m' < m ∧ W (i + 1) m' H5 ys) := by
  refine ⟨fun i m H ys => m = N - i ∧ i ≤ N ∧ Pv i H ys, ⟨N, by simp, Nat.zero_le _, h0⟩, ?_⟩
  rintro i m H2 ys ⟨rfl, hi, p⟩ hD
  by_cases hlt : i < N
  · exact .inr ⟨hgo i H2 ys hlt p, fun σB x H3 hB y => hs i x σB H2 H3 ys (fun H' ys' => ∃ m', m' < N - i ∧ (m' = N - (i + 1) ∧ i + 1 ≤ N ∧ Pv (i + 1) H' ys')) (fun H' ys' z => ⟨N - (i + 1), by omega, rfl, hlt, z⟩) hlt hB y p hD⟩
  · obtain rfl : i = N := by omega
    exact .inl ⟨hst H2 ys p, hd H2 ys p hD⟩
end
end L2
set_option Elab.async false
set_option linter.all false
set_option maxRecDepth 100000
namespace L2
open PySem PySem.Spec PyProof.Rows
section
variable {prog : Program} {w : World} {A : Around} {E : Value → Shared → Prop} {s : Shared}
theorem cat_tup0 {t b : Addr} {ws : List Value} {Q : Value → Shared → Prop} (ht : IsTup s.heap t ([] : List Value).toArray) (hb : IsTup s.heap b ws.toArray) (h0 : Q (.ref b) s) : wpAny (model prog w) A (binaryOp .Add (.ref t) (.ref b)) Q E s := by
  obtain ⟨⟨cls, dd, data, sl⟩, ho, hc, n, hd⟩ := id ht
  obtain ⟨⟨cls2, dd2, data2, sl2⟩, ho2, hc2, n2, hd2⟩ := id hb
  simp only at hc hd hc2 hd2
  subst hc hd hc2 hd2
  exact concat_meets ⟨_, ho, rfl⟩ ⟨_, ho2, rfl⟩ noFill_tuple_add seq_tuple_add PySem.F.slot_tuple_add PySem.F.entry_tuple_add (PySem.F.args_tuple_add_2 _ _)
      (tuple_addW0 t b ([] : List Value).toArray ws.toArray n n2 dd dd2 sl sl2 (by simp)) ⟨ho, ho2, h0⟩
end
def rCatA (K : PySem.W.Frag) : R2 := fun x y H Q => ∃ a b xs ys, x = .ref a ∧ y = .ref b ∧ SqT K H a xs ∧ SqT K H b ys ∧ xs.length + ys.length ≤ sizeLine ∧ (xs = [] → Q (.ref b) H) ∧
  (xs ≠ [] → ys = [] → Q (.ref a) H) ∧ (xs ≠ [] → ys ≠ [] → ∀ p, H p = none → Q (.ref p) (upd H p (.tup (xs ++ ys))))
theorem op_catA {X : Cx} : OpR X (binaryOp .Add) (rCatA X.K) := by
  intro pins s σ H x y v u Q I rx ry h
  have h' := h
  obtain ⟨a, b, xs, ys, rfl, rfl, ha, hb, hz, q0, q1, q2⟩ := h'
  by_cases hx : xs = []
  · cases rx
    cases ry
    obtain ⟨its, r1, p1, _⟩ := I.tuple ha
    obtain ⟨its2, r2, p2, _⟩ := I.tuple hb
    subst hx
    cases r1
    exact cat_tup0 p1 p2 ⟨.ref b, H, I, rfl, q0 rfl⟩
  · exact op_catT pins s σ H _ _ v u Q I rx ry ⟨a, b, xs, ys, rfl, rfl, ha, hb, hx, hz, q1 hx, q2 hx⟩
end L2
set_option Elab.async false
set_option linter.all false
set_option maxRecDepth 100000
namespace L2
open PySem PySem.Spec PyProof.Rows
mutual
theorem RdD.same {H H' : Hp} (e : Same H H') : ∀ {v : V} {d : PyData}, RdD H v d → RdD H' v d
  | _, _, .non => .non
  | _, _, .bl b => .bl b
  | _, _, .int i => .int i
  | _, _, .str x => .str x
  | _, _, .tup h r => .tup (e _ _ h) (RdDs.same e r)
  | _, _, .lst h r => .lst (e _ _ h) (RdDs.same e r)
theorem RdDs.same {H H' : Hp} (e : Same H H') : ∀ {vs : List V} {ds : List PyData}, RdDs H vs ds → RdDs H' vs ds
  | _, _, .nil => .nil
  | _, _, .cons h t => .cons (RdD.same e h) (RdDs.same e t)
end
theorem RdDs.len {H : Hp} : ∀ {xs : List V} {ds : List PyData}, RdDs H xs ds → xs.length = ds.length
  | _, _, .nil => rfl
  | _, _, .cons _ t => by rw [List.length_cons, List.length_cons, RdDs.len t]
theorem RdDs.drop {H : Hp} : ∀ {xs : List V} {ds : List PyData} (n : Nat), RdDs H xs ds → RdDs H (xs.drop n) (ds.drop n)
  | _, _, 0, h => h
  | _, _, _ + 1, .nil => .nil
  | _, _, n + 1, .cons _ t => RdDs.drop n t
theorem RdDs.take {H : Hp} : ∀ {xs : List V} {ds : List PyData} (n : Nat), RdDs H xs ds → RdDs H (xs.take n) (ds.take n)
  | _, _, 0, _ => .nil
  | _, _, _ + 1, .nil => .nil
  | _, _, n + 1, .cons h t => .cons h (RdDs.take n t)
theorem RdDs.get {H : Hp} : ∀ {xs : List V} {ds : List PyData} {i : Nat} {d : PyData}, RdDs H xs ds → ds[i]? = some d → ∃ x, xs[i]? = some x ∧ RdD H x d
  | _, _, _, _, .nil, e => by simp at e
  | _, _, 0, _, .cons h _, e => by simp at e; subst e; exact ⟨_, rfl, h⟩
  | _, _, i + 1, _, .cons _ t, e => by
    obtain ⟨x, h1, h2⟩ := RdDs.get t (i := i) (by simpa using e)
    exact ⟨x, by simpa using h1, h2⟩
theorem RdDs.at {H : Hp} {xs : List V} {ds : List PyData} {i : Int} {d : PyData} (h : RdDs H xs ds) (e : atI ds i = some d) : ∃ x, atI xs i = some x ∧ RdD H x d := by
  unfold atI at e ⊢
  rw [h.len]
  cases hj : ixN ds.length i with
  | none => rw [hj] at e; cases e
  | some j =>
    rw [hj] at e
    exact h.get e
def del (N : List Addr) (H : Hp) : Hp := fun a => if a ∈ N then none else H a
theorem del_some {N : List Addr} {H : Hp} {a : Addr} {o : HO} (h : del N H a = some o) : H a = some o ∧ a ∉ N := by
  unfold del at h
  split at h
  · cases h
  · exact ⟨h, ‹_›⟩
theorem del_of {N : List Addr} {H : Hp} {a : Addr} {o : HO} (h : H a = some o) (n : a ∉ N) : del N H a = some o := by unfold del; rw [if_neg n]; exact h
def Ls (N : List Addr) (H : Hp) : Prop := ∀ a ∈ N, ∃ xs, H a = some (.lst xs)
theorem Ls.nil {H : Hp} : Ls [] H := fun _ m => by cases m
theorem Ls.same {N : List Addr} {H H' : Hp} (h : Ls N H) (e : Same H H') : Ls N H' := fun a m => let ⟨xs, z⟩ := h a m; ⟨xs, e _ _ z⟩
theorem Ls.ntup {N : List Addr} {H : Hp} {a : Addr} {xs : List V} (h : Ls N H) (e : H a = some (.tup xs)) : a ∉ N := fun m => by
  obtain ⟨ys, z⟩ := h a m; rw [e] at z; cases z
theorem same_del {N : List Addr} {H H' : Hp} (e : Same H H') : Same (del N H) (del N H') := fun b o z => del_of (e _ _ (del_some z).1) (del_some z).2
theorem del_sub {N : List Addr} {H : Hp} : Same (del N H) H := fun b o z => (del_some z).1
structure At (N : List Addr) (H0 H1 : Hp) : Prop where
  s : Same H0 (del N H1)
  l : Ls N H1
theorem At.go {N : List Addr} {H0 H1 H2 : Hp} (h : At N H0 H1) (e : Same H1 H2) : At N H0 H2 := ⟨h.s.trans (same_del e), h.l.same e⟩
def Da (N : List Addr) (t : TA) (σ : St) (H : Hp) (ds : List PyData) : Prop := ∀ H1, At N H H1 → ∀ Q : List V → Hp → Prop, (∀ vs H2, Same H1 H2 → RdDs (del N H2) vs ds → Q vs H2) → t σ H1 Q
section
variable {N : List Addr} {σ : St} {H : Hp} {K : PySem.W.Frag}
def cutG {α : Type} (xs : List α) (lo hi : Option Int) : List α := (xs.drop (HT.sIx xs.length 0 lo)).take (HT.sIx xs.length xs.length hi - HT.sIx xs.length 0 lo)
end
def rD (x : Rat) : PyData := .tuple [.int x.num, .int (x.den : Int)]
theorem rat_rd {H : Hp} {p : Addr} {x : Rat} (h : RatAt H p x) : RdD H (.ref p) (rD x) := h.rd
end L2
set_option Elab.async false
set_option linter.all false
set_option maxRecDepth 100000
namespace L2
open PySem PySem.Spec PyProof.Rows
theorem szl {n : Nat} (h : n ≤ 1000) : n ≤ sizeLine := Nat.le_of_lt (small1000 h)
theorem cutG_to {α : Type} (xs : List α) (j : Nat) : cutG xs none (some (j : Int)) = xs.take j := by
  unfold cutG
  rw [HT.sIx_none, HT.sIx_nat, List.drop_zero, Nat.sub_zero]
  rcases Nat.le_total j xs.length with h | h
  · rw [Nat.min_eq_left h]
  · rw [Nat.min_eq_right h, List.take_of_length_le (Nat.le_refl _), List.take_of_length_le h]
theorem cutG_from {α : Type} (xs : List α) (j : Nat) : cutG xs (some (j : Int)) none = xs.drop j := by
  unfold cutG
  rw [HT.sIx_none, HT.sIx_nat]
  rcases Nat.le_total j xs.length with h | h
  · rw [Nat.min_eq_left h, List.take_of_length_le (by rw [List.length_drop]; exact Nat.le_refl _)]
  · rw [Nat.min_eq_right h, Nat.sub_self, List.take_zero, List.drop_of_length_le h]
theorem st_set {te : TE} {i : Nat} {u : TS} {D : Ends} {σ : St} {H : Hp} (h : te σ H fun v H1 => u D (σ.set i (some v)) H1) : tSeq (tAsg te (gName i)) u D σ H := h
theorem st_for {wi : TI} {g : TG} {tb : TS} {u : TS} {D : Ends} {σ : St} {H : Hp} (h : tFor wi g tb { D with nx := u D } σ H) : tSeq (tFor wi g tb) u D σ H := h
theorem st_while {c : TT} {tb : TS} {u : TS} {D : Ends} {σ : St} {H : Hp} (h : tWhile c tb { D with nx := u D } σ H) : tSeq (tWhile c tb) u D σ H := h
structure FS (H0 H1 : Hp) (l : Addr) (ds : List PyData) : Prop where
  at_ : At [l] H0 H1
  ex : ∃ xs, H1 l = some (.lst xs) ∧ RdDs (del [l] H1) xs ds
theorem FS.rd {H0 H1 : Hp} {l : Addr} {ds : List PyData} (f : FS H0 H1 l ds) : RdD H1 (.ref l) (.list ds) := by
  obtain ⟨xs, h, r⟩ := f.ex
  exact .lst h (r.same del_sub)
theorem FS.go {H0 H1 H2 : Hp} {l : Addr} {ds : List PyData} (f : FS H0 H1 l ds) (e : Same H1 H2) : FS H0 H2 l ds := by
  obtain ⟨xs, h, r⟩ := f.ex
  exact ⟨f.at_.go e, xs, e _ _ h, r.same (same_del e)⟩
section
variable {N : List Addr} {σ : St} {H0 : Hp} {K : PySem.W.Frag}
end
end L2
set_option Elab.async false
set_option linter.all false
set_option maxRecDepth 100000
namespace L2
open PySem PySem.Spec PyProof.Rows
inductive Bx (p : Prop) : Prop
  | mk (h : p) : Bx p
section
variable {X : Cx}
theorem bx_nil : Bx (PA X [] tNil) := ⟨pa_nil⟩
theorem bx_cons {e : Expr} {es : List Expr} {te : TE} {t : TA} (ha : Bx (PE X e te)) (hr : Bx (PA X es t)) (hs : starEach (e :: es) X.env = (false, eval e X.env) :: starEach es X.env := by rfl) : Bx (PA X (e :: es) (tCons te t)) := by
  obtain ⟨ha⟩ := ha; obtain ⟨hr⟩ := hr; exact ⟨pa_cons ha hr hs⟩
theorem bx_tup {es : List Expr} {t : TA} {x1 : Nat} {pos : Pos} (h : Bx (PA X es t)) : Bx (PE X (.Tuple es x1 pos) (tTup t)) := by
  obtain ⟨h⟩ := h; exact ⟨pe_tup h⟩
theorem bx_lst {es : List Expr} {t : TA} {pos : Pos} (h : Bx (PA X es t)) : Bx (PE X (.List es pos) (tLst t)) := by
  obtain ⟨h⟩ := h; exact ⟨pe_lst h⟩
theorem bx_set {i : Nat} {x : Str} {e : Expr} {te : TE} {pos pos' : Pos} (hN : X.N.Nodup) (hi : X.N[i]? = some x) (hx : Loc X.env.scope x) (he : Bx (PE X e te)) (hs : swapsWith e (some (.Name x pos')) pos.line X.env = pure false := by rfl)
    (hf : X.fn x = true ∨ X.env.scope.names.lookup x = some .local := by first | exact .inl rfl | exact .inr rfl | assumption) : Bx (PS X (.Assign [.Name x pos'] e pos) (tAsg te (gName i))) := by
  obtain ⟨he⟩ := he; exact ⟨ps_set hN hi hx he hs hf⟩
theorem bx_scons {st : Stmt} {rest : List Stmt} {t u : TS} (h1 : Bx (PS X st t)) (h2 : Bx (PSs X rest u)) : Bx (PSs X (st :: rest) (tSeq t u)) := by
  obtain ⟨h1⟩ := h1; obtain ⟨h2⟩ := h2; exact ⟨pss_cons h1 h2⟩
end
section
variable {P : Program} {w : World} {K : PySem.W.Frag} {mg : Str → Option Value} {base : Heap}
theorem Df.calB {x : Str} {st : Stmt} {N ps : List Str} {dvs : List V} {k : Nat} {sp : Sp} (D : Df K mg x st ps dvs) (S : FnScope N ps (defScope st)) (len : ∀ vs H Q E, sp vs H Q E → vs.length = ps.length)
    (hbody : ∀ (f : Addr) (cdv : Value) (A : Around) (outer : List Env) (s : Shared) (H : Hp) (vs : List V) (Q : VK) (E : XK), Room k (A.deeper (envOfC x (defScope st) s.heap.objs.size f cdv)) → sp vs H Q E →
      ∃ t, Bx (PSs (cxOf CX0 P w K mg base N x (defScope st) f cdv A outer s H E).nox (defBody st) t) ∧ t { nx := fun _ H' => Q .non H', rt := Q } (start N vs) H) : Cal P w K mg base x (k + 1) ps dvs sp :=
  D.cal S len fun f cdv A outer s H vs Q E hr h => by
    obtain ⟨t, ⟨p⟩, q⟩ := hbody f cdv A outer s H vs Q E hr h
    exact ⟨t, p, q⟩
end
end L2
set_option Elab.async false
set_option linter.all false
set_option maxRecDepth 100000
namespace L2
open PySem PySem.Spec PyProof.Rows

abbrev vMro : List Value := [.type "ValueError", .type "Exception", .type "BaseException", .type "object"]
section
variable {prog : Program} {w : World} {A : Around} {E : Value → Shared → Prop} {h : Heap} {g : Array GenState} {d : Drawn} {t : Nat} {os : OsState}
variable {nm qn : Str} {C N : Addr} {bs bm : List Value} {hd : Bool} {sn : List Str} {sub : List Value} {ab : Bool} {col : Option Bool} {dd : Option Addr} {k0 k1 k2 k3 k5 : Option Value}
theorem xinit_entry (T : OwnTail h vMro bm) {mN : Str → Option Value} {us : List Value} {fI : Addr} {oI : Obj} {Q : Fin → Shared → Prop} (hC : h.get? C = some (excClassObj nm qn C N bs bm hd sn sub ab col dd k0 k1 k2 k3 k5 "ValueError.__new__")) (hn : h.Ns N mN)
    (hi : mN "__init__" = some (.ref fI)) (hf : h.get? fI = some oI) (hfc : oI.cls = .type "function") (hz : us.length ≤ sizeLine)
    (hq : ∀ h2 e, Heap.MadeExcOf h h2 e (.ref C) us → wpAny (model prog w) A (call (.ref fI) (.ref e :: us)) (fun r s2 => r = .none ∧ Q (.done (.ret (.ref e))) s2) E ⟨h2, g, d, t, os⟩) :
    wpAny (model prog w) A (Builtin.«type.__call__» ⟨.ref C :: us, []⟩) Q E ⟨h, g, d, t, os⟩ := by
  have FV := PySem.F.excBase_ValueError
  repeat (first | (with_reducible refine wpAny_loadPart_at hC ?_) | (with_reducible refine wpAny_madeBy_exc hC ?_) | wp_step)
  refine codeAny_call_builtin_code (Code.quiet_builtin _ FV.quiet) (wpAny_check_new_subU FV (by decide +kernel) T hC ?_)
  refine codeAny_exc_new_subU FV (by decide +kernel) FV T hC ?_ hz
  show wpAny _ _ _ _ _ _
  generalize ho : ({ cls := .ref C, data := .fields #[.ref h.objs.size, .none, .none, .none, .bool false, .none] } : Obj) = oe
  generalize ht : ({ cls := .type "tuple", data := .seq us.toArray } : Obj) = ot
  have kp : ∀ b o, h.get? b = some o → ((h.push ot).push oe).get? b = some o := fun b o q => Heap.get?_push_of_some oe (Heap.get?_push_of_some ot q)
  have hC2 := kp _ _ hC
  have hf2 := kp _ _ hf
  have hn2 : ((h.push ot).push oe).Ns N mN := let ⟨o, es, ep, e, r⟩ := hn; ⟨o, es, ep, kp _ _ e, r⟩
  have hg : ((h.push ot).push oe).get? (h.objs.size + 1) = some oe := by
    have := Heap.get?_push_size (h.push ot) (o := oe) (by rw [← ho]; rfl)
    rwa [Heap.size_push] at this
  have hgt : ((h.push ot).push oe).get? h.objs.size = some ot := Heap.get?_push_of_some oe (Heap.get?_push_size h (by rw [← ht]; rfl))
  have hcls : oe.cls = .ref C := by rw [← ho]
  have hsub : (Value.ref C :: bm).contains (.ref C) = true := by simp
  unfold isInstance
  repeat (first | (with_reducible refine wpAny_loadPart_at hg ?_; rw [hcls]) | (with_reducible refine wpAny_isSubtype_exc hC2 ?_; rw [hsub]) | wp_step)
  show wpAny _ _ (typeLookup (.ref C) _) _ _ _
  refine wpAny_typeLookup_tail hC2 hn2 (T.keeps kp) FV.mroIs FV.init.lookup ?_
  rw [hi]
  refine wpAny_holding (wpAny_bind ?_)
  unfold bindSpecial
  refine wpAny_bind (wpAny_typeOf (T := "function") ⟨_, hf2, hfc⟩ ?_)
  rw [if_pos (by decide)]
  refine wpAny_pure (wpAny_bind (wpAny_mono (hq _ (h.objs.size + 1) ⟨kp, Heap.get?_none_of_le (Nat.le_succ _), h.objs.size, by rw [hg, ← ho], Heap.get?_none_of_le (Nat.le_refl _), by rw [hgt, ← ht]⟩) (fun r s2 hr => ?_) fun _ _ x => x))
  obtain ⟨rfl, hQ⟩ := hr
  wp_walk
  exact hQ
theorem xinit_call (T : OwnTail h vMro bm) {mN : Str → Option Value} {us : List Value} {fI : Addr} {oI : Obj} {Q : Value → Shared → Prop} (hC : h.get? C = some (excClassObj nm qn C N bs bm hd sn sub ab col dd k0 k1 k2 k3 k5 "ValueError.__new__")) (hn : h.Ns N mN)
    (hi : mN "__init__" = some (.ref fI)) (hf : h.get? fI = some oI) (hfc : oI.cls = .type "function") (hz : us.length ≤ sizeLine)
    (hq : ∀ h2 e, Heap.MadeExcOf h h2 e (.ref C) us → wpAny (model prog w) (A.under (.builtin "type.__call__" ⟨.ref C :: us, []⟩)) (call (.ref fI) (.ref e :: us)) (fun r s2 => r = .none ∧ Q (.ref e) s2) E ⟨h2, g, d, t, os⟩) :
    wpAny (model prog w) A (call (.ref C) us) Q E ⟨h, g, d, t, os⟩ := by
  have c1 := tc_lookup
  have c2 := tc_bind (.ref C)
  have hT : (⟨h, g, d, t, os⟩ : Shared).TypeIs (.ref C) "type" := ⟨_, hC, rfl⟩
  refine wpAny_call (codeAny_of_tree ?_)
  show wpAny _ _ (callAny (.ref C) _) _ _ _
  repeat (any_goals (first | assumption | (with_reducible refine wpAny_loadPart_at hC ?_) | wp_step))
  refine ⟨rfl, ?_⟩
  exact codeAny_call_builtin_at (Code.quiet_builtin _ (by decide +kernel)) entry_typeCall (wpAny_check_type_call_sub hC (xinit_entry T hC hn hi hf hfc hz fun h2 e hm => hq h2 e hm))
end
end L2
set_option Elab.async false
set_option linter.all false
set_option maxRecDepth 100000
namespace L2
open PySem PySem.Spec PyProof.Rows PySem.W

def XO (a C : Addr) (dct : Option Addr) : HO := .ext fun h => ∃ ox vs, h.get? a = some ox ∧ ox.cls = .ref C ∧ ox.data = .fields vs ∧ ox.dict = dct ∧ (∃ t0, vs[0]? = some (.ref t0)) ∧ vs[1]? = some .none
theorem xo_ok {P : Program} {w : World} {H : Hp} {h : Heap} {a C : Addr} {dct : Option Addr} {ox : Obj} {vs : Array Value} (e : h.get? a = some ox) (c : ox.cls = .ref C) (d : ox.data = .fields vs) (k : ox.dict = dct) {t0 : Addr} (h0 : vs[0]? = some (.ref t0)) (hv : vs[1]? = some .none) : ObjOk P w H h a (XO a C dct) :=
  ⟨⟨ox, vs, e, c, d, k, ⟨t0, h0⟩, hv⟩, ⟨ox, e⟩, fun h1 h2 ⟨o, us, e1, r⟩ q => ⟨o, us, q _ e1, r⟩⟩
theorem xo_get {P : Program} {w : World} {H : Hp} {h : Heap} {a C : Addr} {dct : Option Addr} (x : HOk P w H h) (e : H a = some (XO a C dct)) : ∃ ox vs, h.get? a = some ox ∧ ox.cls = .ref C ∧ ox.data = .fields vs ∧ ox.dict = dct ∧ (∃ t0, vs[0]? = some (.ref t0)) ∧ vs[1]? = some .none :=
  (show ObjOk P w H h a (XO a C dct) from x a _ e).1
section
variable {P : Program} {w : World} {H : Hp} {h h2 : Heap} {a : Addr} {o : HO}
theorem hok_none (x : HOk P w H h) (e : h.get? a = none) : H a = none := by
  cases q : H a with
  | none => rfl
  | some u =>
    obtain ⟨ob, z⟩ := ObjOk.obj (x a u q)
    rw [e] at z; cases z
theorem hok_laidN (x : HOk P w H h) (k : ∀ b u, h.get? b = some u → h2.get? b = some u) (e : h.get? a = none) (new : ObjOk P w (upd H a o) h2 a o) : HOk P w (upd H a o) h2 := fun b u q => by
  have hn := hok_none x e
  by_cases hb : b = a
  · subst hb; rw [upd_same] at q; cases q; exact new
  · rw [upd_ne hb] at q
    exact (x b u q).stay (fun c v _ z => k c v z) (fun c z => by rw [upd_ne (ne_of_none z hn)]; exact z) fun c xs z => by rw [upd_ne (ne_of_none z hn)]; exact z
theorem un_laidN {fs ex : List Addr} (k : ∀ b u, h.get? b = some u → h2.get? b = some u) (e : h.get? a = none) (hn : H a = none) : Un fs ex H (upd H a o) h h2 where
  keep := fun b u q _ _ _ => k b u q
  slot := fun b u q _ _ _ => ⟨u.slots, k b u q⟩
  free := fun b u q n _ => by rw [upd_ne (fun z => by subst z; rw [e] at q; cases q)]; exact n
  there := fun b u q _ => ⟨u, k b u q⟩
  tups := fun b xs q => by rw [upd_ne (ne_of_none q hn)]; exact q
  frzs := fun b u xs q => by rw [upd_ne (ne_of_none q hn)]; exact q
  tbls := fun b ps q => ⟨#[], by rw [upd_ne (ne_of_none q hn), q]; simp⟩
end
section
variable {X : Cx} {pins : List (Addr × Obj)} {σ : St} {H : Hp} {s : Shared} {h2 : Heap}
theorem inv_laidN {a : Addr} {o : HO} {t2 : Nat} (I : Inv X pins σ H s) (k : ∀ b u, s.heap.get? b = some u → h2.get? b = some u) (e : s.heap.get? a = none) (new : ObjOk X.prog X.w (upd H a o) h2 a o) :
    Inv X pins σ (upd H a o) { s with heap := h2, toks := t2 } := I.un (un_laidN k e (hok_none I.hok e)) (hok_laidN I.hok k e new)
theorem inv_made {C e : Addr} {us : List Value} {t2 : Nat} (I : Inv X pins σ H s) (m : Heap.MadeExcOf s.heap h2 e (.ref C) us) : Inv X pins σ (upd H e (XO e C none)) { s with heap := h2, toks := t2 } := by
  obtain ⟨tt, h1, _, _⟩ := m.there
  exact inv_laidN I m.keeps m.new (xo_ok h1 rfl rfl rfl (t0 := tt) rfl rfl)
end

section
variable {X : Cx} {x : Str} {C : Addr} {p pos : Pos} {e : Expr} {es : List Expr} {t : TA}
end

section
variable {X : Cx}
end
end L2
set_option Elab.async false
set_option linter.all false
set_option maxRecDepth 100000
namespace L2
open PySem PySem.Spec PyProof.Rows PySem.W

section
variable {prog : Program} {w : World} {A : Around} {E : Value → Shared → Prop} {s : Shared} {K : PySem.W.Frag} {x D : Addr} {ox : Obj} {od : Option Obj} {name : Str} {v : Value}
theorem exc_get {expr : Bool} {Q : Value → Shared → Prop} (X : K.In s.heap) (I : InstAt s.heap x ox D od) (Z : ExcK K D) (hf : findObj K D od name = some (.value v)) (hh : handedIn v = true)
    (h : Q v { s with toks := s.toks + 1 }) : wpAny (model prog w) A (getAttr (.ref x) name expr) Q E s := by
  have L0 := I.type (M := model prog w)
  have L1 := looks_findIn (M := model prog w) X Z.ga
  have L2 := looks_findIn (M := model prog w) X Z.no
  have L3 := looks_find (M := model prog w) X I hf
  have GA := F.attr_ValueError.ga
  obtain ⟨hp, g, d, t, os⟩ := s
  unfold getAttr getAttrBy
  refine wpAny_bind (wpAny_mkText (wpAny_holding (wpAny_bind (L0.at (wpAny_bind (L1.at ?_))))))
  dsimp only
  rw [if_neg (show ¬ ((onTheHeap (.ref D) && Value.builtin "BaseException.__getattribute__" == Value.builtin "object.__getattribute__") = true) by
    rw [show (Value.builtin "BaseException.__getattribute__" == Value.builtin "object.__getattribute__") = false by decide +kernel]; simp)]
  unfold getAttrByItsOwn
  refine wpAny_bind (?_ : wpAny _ _ (typeLookup (.ref D) "__getattr__") _ _ _)
  refine L2.at ?_
  refine wpAny_bind (wpAny_attempt (wpAny_holding ?_))
  unfold callGetattribute
  rw [if_neg (show ¬ ((expr && onTheHeap (.builtin "BaseException.__getattribute__")) = true) by rw [show onTheHeap (.builtin "BaseException.__getattribute__") = false from rfl, Bool.and_false]; decide)]
  unfold boundAndCalled
  refine wpAny_bind (wpAny_of_eq (GA.bind _) ?_)
  refine wpAny_call (codeAny_call_builtin GA.plain F.entry_bexc_ga (bexc_check X I Z.bx ?_))
  unfold Builtin.«object.__getattribute__»
  refine wpAny_bind (wpAny_pure (wpAny_bind (wpAny_pure (wpAny_bind (L0.at (wpAny_bind (L3.at ?_)))))))
  refine wpAny_pure ?_
  show wpAny _ _ (handedOut v) _ _ _
  rw [handedOut_of hh]
  exact wpAny_pure h
end
section
variable {X : Cx} {o e value : Expr} {f : Str} {pos pos' : Pos} {ta tv : TE}
end
end L2
set_option Elab.async false
set_option linter.all false
set_option maxRecDepth 100000
namespace L2
open PySem PySem.Spec PyProof.Rows PySem.W

def onlyV : List Value → Bool
  | .ref _ :: r => onlyV r
  | l => l == vMro
theorem refuse_onlyV (self : Value) : ∀ {l : List Value}, onlyV l = true → refuseLoop self "__setattr__" l = pure ()
  | l, e => by
    unfold onlyV at e
    split at e
    · rw [refuseLoop_ref]; exact refuse_onlyV self e
    · rw [show l = vMro from beq_iff_eq.mp e]; exact PySem.F.store_ValueError.passes self
section
variable {prog : Program} {w : World} {A : Around} {s : Shared} {K : PySem.W.Frag} {x C : Addr} {ox : Obj} {od : Option Obj} {name : Str} {v : Value}
theorem osa_exc {tk : Tok} {cd : ClassData} {R : Result → Shared → Prop} (X : K.In s.heap) (I : InstAt s.heap x ox C od) (hc : clsIn K C = some cd) (ho : onlyV cd.mro = true) (hob : mroIn K C (.type "object") = some true) (ha : findIn K (.ref C) name = some none)
    (h : wpAny (model prog w) A.in1 (Builtin.ObjectAttr.storeInOwnDict (.ref x) (.ref C) (.str name tk) name v false)
      (fun fin s2 => match fin with | .done f => R (.ok f) s2 | .again c2 => c2.quiet = true ∧ codeAny (model prog w) A c2 R s2) (fun e s2 => R (.error e) s2) s) :
    codeAny (model prog w) A (.call (.builtin "object.__setattr__") ⟨[.ref x, .str name tk, v], []⟩) R s := by
  have SF := PySem.F.store_object
  have sub : Looks (model prog w) s.heap (isInstance (.ref x) (.type "object")) true := I.type.andThen (looks_mroIn X hob)
  refine codeAny_call_builtin SF.slot.plain SF.entry (@check_slot (model prog w) _ _ s "object.__setattr__" "object" "__setattr__" (.ref x) [.str name tk, v] [] _ SF.kind SF.split sub (SF.args (.ref x) (.str name tk) v) ?_)
  have hm : Looks (model prog w) s.heap (mroOf (.ref C)) cd.mro := (looks_clsIn X hc).andThen .now
  have L3 : Looks (model prog w) s.heap (Builtin.ObjectAttr.storeTaker? none) none := .now
  rw [osa_eq, refuse_eq]
  refine wpAny_bind (wpAny_bind (I.type.here (wpAny_bind (hm.here ?_))))
  rw [refuse_onlyV _ ho]
  refine wpAny_pure (wpAny_bind (I.type.here (wpAny_bind ((looks_findIn X ha).here (wpAny_bind (L3.here ?_))))))
  exact h
theorem set_exc {E : Value → Shared → Prop} {Q : Unit → Shared → Prop} {vs : Array Value} {cd : ClassData} (X : K.In s.heap) (hx : s.heap.get? x = some ox) (hcl : ox.cls = .ref C) (hdt : ox.data = .fields vs) (hdn : ox.dict = none) (hc : clsIn K C = some cd) (hh : cd.hasDict = true) (ho : onlyV cd.mro = true)
    (hob : mroIn K C (.type "object") = some true) (hs : findIn K (.ref C) "__setattr__" = some (some (.builtin "object.__setattr__"))) (ha : findIn K (.ref C) name = some none)
    (h : ∀ h2, h2.get? x = some { ox with dict := some s.heap.objs.size } → h2.Ns1 s.heap.objs.size (fun y => if y = name then some v else none) → (∀ b o, b ≠ x → s.heap.get? b = some o → h2.get? b = some o) → Q () { s with heap := h2, toks := s.toks + 2 }) :
    wpAny (model prog w) A (setAttr (.ref x) name v) Q E s := by
  have I : InstAt s.heap x ox C none := ⟨hx, hcl, by unfold notCls; rw [hdt], by rw [hdn]; trivial⟩
  refine set_plain X I hs (osa_exc (s := { s with toks := s.toks + 1 }) X I hc ho hob ha ?_)
  obtain ⟨hp, g, d, t, os⟩ := s
  obtain ⟨oc, odi, oda, osl⟩ := ox
  dsimp only at hcl hdt hdn hx h
  subst hcl hdt hdn
  have hx1 : (hp.push { cls := .type "dict", data := .dict #[] }).get? x = some ⟨.ref C, none, .fields vs, osl⟩ := Heap.get?_push_of_some _ hx
  have hxs : x ≠ hp.objs.size := Nat.ne_of_lt (Heap.lt_size hx)
  refine wpAny_bind (wpAny_pure (wpAny_bind (wpAny_bind (wpAny_loadPart hx (wpAny_bind (PySem.W.Looks.here (s := ⟨hp, g, d, t + 1, os⟩) (looks_clsIn X hc) ?_))))))
  rw [hh]
  rw [if_neg (by decide), if_neg (by simp [typeHasDict])]
  refine wpAny_bind (wpAny_alloc' ?_)
  refine wpAny_bind (wpAny_update' hx1 ?_)
  refine wpAny_pure ?_
  have u1 : ((hp.push { cls := .type "dict", data := .dict #[] }).update x fun o => { cls := o.cls, dict := some hp.objs.size, data := o.data, slots := o.slots }).get? hp.objs.size = some { cls := .type "dict", data := .dict #[] } := (Heap.get?_update_ne _ _ _ _ hxs.symm).trans (Heap.get?_push_at rfl rfl)
  have u2 : ((hp.push { cls := .type "dict", data := .dict #[] }).update x fun o => { cls := o.cls, dict := some hp.objs.size, data := o.data, slots := o.slots }).get? x = some ⟨.ref C, some hp.objs.size, .fields vs, osl⟩ := Heap.get?_update_self _ hx1 rfl
  have u3 : ∀ b o, b ≠ x → hp.get? b = some o → ((hp.push { cls := .type "dict", data := .dict #[] }).update x fun o => { cls := o.cls, dict := some hp.objs.size, data := o.data, slots := o.slots }).get? b = some o := fun b o hb q => (Heap.get?_update_ne _ _ _ _ hb).trans (Heap.get?_push_of_some _ q)
  generalize ((hp.push { cls := .type "dict", data := .dict #[] }).update x fun o => { cls := o.cls, dict := some hp.objs.size, data := o.data, slots := o.slots }) = h1 at u1 u2 u3
  have u4 : h1.Ns hp.objs.size (fun _ => none) := ⟨_, #[], _, u1, rfl, fun e he => absurd he (by simp), fun _ => rfl⟩
  show wpAny _ _ (Builtin.ObjectAttr.storeInDict hp.objs.size (.str name t) name v) _ _ _
  unfold Builtin.ObjectAttr.storeInDict Builtin.ObjectAttr.newKeyGuard
  refine wpAny_bind (wpAny_pure (wpAny_bind (wpAny_nsSet1 (Heap.Ns1.of_empty u4) fun h2 n2 s2 => ?_)))
  obtain ⟨oD, eD, pD, g1, g2, g3⟩ := n2.count (Within.cons name v Within.nil)
  refine wpAny_bind (wpAny_lookBehind g1 (by rw [g2]; exact pastItsLine_dict (Nat.le_trans g3 (by rw [List.length_cons, List.length_nil, sizeLine_eq]; omega))) ?_)
  exact wpAny_pure (h h2 ((s2.2 x hxs).trans u2) n2 fun b o hb q => (s2.2 b (Nat.ne_of_lt (Heap.lt_size q))).trans (u3 b o hb q))
end
end L2
set_option Elab.async false
set_option linter.all false
set_option maxRecDepth 100000
namespace L2
open PySem PySem.Spec PyProof.Rows PySem.W
structure XSet (K : PySem.W.Frag) (C : Addr) (cd : ClassData) : Prop where
  hc : clsIn K C = some cd
  hh : cd.hasDict = true
  ho : onlyV cd.mro = true
  ob : mroIn K C (.type "object") = some true
  sa : findIn K (.ref C) "__setattr__" = some (some (.builtin "object.__setattr__"))
section
variable {X : Cx} {pins : List (Addr × Obj)} {σ : St} {H : Hp} {s : Shared} {h2 : Heap}
theorem inv_xset {a C dx : Addr} {fs : List (Str × V)} {mA : Str → Option Value} {t2 : Nat} {ox : Obj} {vs : Array Value} (I : Inv X pins σ H s) (ea : H a = some (XO a C none)) (hd : s.heap.objs.size ≤ dx) (e1 : h2.get? a = some ox) (c1 : ox.cls = .ref C) (d1 : ox.data = .fields vs) (k1 : ox.dict = some dx) {t0 : Addr} (h0 : vs[0]? = some (.ref t0)) (hv : vs[1]? = some .none)
    (n1 : h2.Ns1 dx mA) (r1 : ∀ f, RelO (fs.lookup f) (mA f)) (k : ∀ b o, b ≠ a → s.heap.get? b = some o → h2.get? b = some o) :
    Inv X pins σ (upd (upd H dx (.xd fs)) a (XO a C (some dx))) { s with heap := h2, toks := t2 } := by
  have hn : H dx = none := I.hok.fresh hd
  have nda : dx ≠ a := fun z => by subst z; rw [hn] at ea; cases ea
  have lt : ∀ b o, s.heap.get? b = some o → b ≠ dx := fun b o q => Nat.ne_of_lt (Nat.lt_of_lt_of_le (Heap.lt_size q) hd)
  have na : ∀ b, H b = none → b ≠ a := fun b n z => by subst z; rw [n] at ea; cases ea
  have two : ∀ b u, H b = some u → b ≠ a → upd (upd H dx (.xd fs)) a (XO a C (some dx)) b = some u := fun b u q z => by rw [upd_ne z, upd_ne (ne_of_none q hn)]; exact q
  refine I.un ⟨fun b u q n _ _ => k b u (na b n) q, fun b u q n _ _ => ⟨u.slots, k b u (na b n) q⟩, fun b u q n _ => by rw [upd_ne (na b n), upd_ne (lt b u q)]; exact n, fun b u q _ => ?_,
    fun b xs q => two b _ q (fun z => by subst z; rw [ea] at q; cases q), fun b u xs q => two b _ q (fun z => by subst z; rw [ea] at q; cases q), fun b ps q => ⟨#[], by rw [two b _ q (fun z => by subst z; rw [ea] at q; cases q)]; simp⟩⟩ ?_
  · by_cases hb : b = a
    · subst hb; exact ⟨_, e1⟩
    · exact ⟨u, k b u hb q⟩
  · intro b u q
    by_cases hb : b = a
    · subst hb; rw [upd_same] at q; cases q; exact xo_ok e1 c1 d1 k1 h0 hv
    · rw [upd_ne hb] at q
      by_cases hbd : b = dx
      · subst hbd; rw [upd_same] at q; cases q; exact ⟨mA, n1, r1⟩
      · rw [upd_ne hbd] at q
        have hown : ∀ c y, H c = some (.own y) → c ≠ a := fun c y r z => by subst z; rw [ea] at r; cases r
        refine (I.hok b u q).stay (fun c v hc r => k c v ?_ r) (fun c r => two c _ r (hown c b r)) fun c xs r => two c _ r (fun z => by subst z; rw [ea] at r; cases r)
        rcases hc with rfl | hc
        · exact hb
        · exact hown c b hc
theorem inv_xwrite {a C : Addr} {t2 : Nat} {ox : Obj} {vs : Array Value} (I : Inv X pins σ H s) (ea : H a = some (XO a C none)) (e1 : h2.get? a = some ox) (c1 : ox.cls = .ref C) (d1 : ox.data = .fields vs) (k1 : ox.dict = none) {t0 : Addr} (h0 : vs[0]? = some (.ref t0)) (hv : vs[1]? = some .none)
    (k : ∀ b o, b ≠ a → s.heap.get? b = some o → h2.get? b = some o) : Inv X pins σ (upd H a (XO a C none)) { s with heap := h2, toks := t2 } :=
  I.write (x := a) (e := a) (by rw [ea]; exact trivial) (.inl rfl) k ⟨_, e1⟩ (xo_ok e1 c1 d1 k1 h0 hv)
end
def sXF (K : PySem.W.Frag) (ta tv : TE) (f : Str) : TS := fun D σ H => tv σ H fun y H1 => ta σ H1 fun x H2 => ∃ a C cd, x = .ref a ∧ H2 a = some (XO a C none) ∧ XSet K C cd ∧ NoAttr K C f ∧
  ∀ dx, H2 dx = none → D.nx σ (upd (upd H2 dx (.xd [(f, y)])) a (XO a C (some dx)))
theorem ps_xf {X : Cx} {o value : Expr} {f : Str} {pos pos' : Pos} {ta tv : TE} (ha : PE X o ta) (hv : PE X value tv) (hs : swapsWith value (some (.Attribute o f pos')) pos.line X.env = pure false) : PS X (.Assign [.Attribute o f pos'] value pos) (sXF X.K ta tv f) := by
  intro pins s σ H D I h
  refine plainObj_wpAny_Assign_Attribute (thn (hv pins s σ H _ I h) fun u s1 ⟨y, H1, I1, ry, q⟩ => thn (ha pins s1 σ H1 _ I1 q) fun ov s2 ⟨x, H2, I2, rx, a, C, cd, ex, ea, S, n, q2⟩ => ?_) hs
  subst ex
  obtain rfl : ov = Value.ref a := rx
  obtain ⟨ox, vs, g1, g2, g3, g4, ⟨t0, h0⟩, hv1⟩ := xo_get I2.hok ea
  refine set_exc I2.kIn g1 g2 g3 g4 S.hc S.hh S.ho S.ob S.sa n fun h2 e1 n1 k1 => ?_
  refine ⟨σ, _, inv_xset (fs := [(f, y)]) I2 ea (Nat.le_refl _) e1 g2 g3 rfl h0 hv1 n1 (fun g => ?_) k1, q2 _ I2.fresh⟩
  show RelO (List.lookup g [(f, y)]) (if g = f then some u else none)
  by_cases z : g = f
  · rw [if_pos z, show List.lookup g [(f, y)] = some y by simp [List.lookup, z]]; exact ry
  · rw [if_neg z, show List.lookup g [(f, y)] = none by simp [List.lookup, beq_eq_false_iff_ne.mpr z]]; exact trivial
end L2
set_option Elab.async false
set_option linter.all false
set_option maxRecDepth 100000
namespace L2
open PySem PySem.Spec PyProof.Rows PySem.W
def XB (h : Heap) (C : Addr) : Prop := ∃ nm qn N bs bm hd sn sub ab col dd k0 k1 k2 k3 k5 ni, h.get? C = some (excClassObj nm qn C N bs bm hd sn sub ab col dd k0 k1 k2 k3 k5 ni) ∧ OwnTail h vMro bm
section
variable {prog : Program} {w : World} {A : Around} {E : Value → Shared → Prop} {s : Shared}
theorem base_init {a C : Addr} {y : Value} {t0 : Addr} {vs : Array Value} {osl : Array (Option Value)} {Q : Value → Shared → Prop} (hx : s.heap.get? a = some ⟨.ref C, none, .fields vs, osl⟩) (B : XB s.heap C) (h0 : vs[0]? = some (.ref t0))
    (h : ∀ h2 us t1, h2.get? a = some ⟨.ref C, none, .fields us, osl⟩ → us[0]? = some (.ref t1) → us[1]? = vs[1]? → (∀ b o, b ≠ a → s.heap.get? b = some o → h2.get? b = some o) → Q .none { s with heap := h2 }) :
    wpAny (model prog w) A (call (.builtin "ValueError.__init__") [.ref a, y]) Q E s := by
  have FV := PySem.F.excBase_ValueError
  obtain ⟨nm, qn, N, bs, bm, hd, sn, sub, ab, col, dd, k0, k1, k2, k3, k5, ni, hC, T⟩ := B
  obtain ⟨hp, g, d, t, os⟩ := s
  dsimp only at hx hC T h
  refine wpAny_call (codeAny_call_builtin FV.init.plain FV.initEntry (wpAny_check_init_subU FV T hC hx rfl ?_))
  wp_walk
  rw [h0]
  wp_walk
  rw [if_pos (by cases q : vs.size with | zero => (rw [Array.getElem?_eq_none (by omega)] at h0; cases h0) | succ n => omega)]
  have hx1 : (hp.push { cls := .type "tuple", data := .seq #[y] }).get? a = some ⟨.ref C, none, .fields vs, osl⟩ := Heap.get?_push_of_some _ hx
  refine wpAny_update' hx1 ?_
  wp_walk
  have hz : 0 < vs.size := by cases q : vs.size with | zero => (rw [Array.getElem?_eq_none (by omega)] at h0; cases h0) | succ n => omega
  exact h _ (vs.setIfInBounds 0 (.ref hp.objs.size)) hp.objs.size (Heap.get?_update_self _ hx1 rfl) (by rw [Array.getElem?_setIfInBounds_self_of_lt hz]) (by rw [Array.getElem?_setIfInBounds_ne (by decide)]) fun b o hb q => (Heap.get?_update_ne _ _ _ _ hb).trans (Heap.get?_push_of_some _ q)
end
end L2
set_option Elab.async false
set_option linter.all false
set_option maxRecDepth 100000
namespace L2
open PySem PySem.Spec PyProof.Rows PySem.W
theorem XB.keeps {h h2 : Heap} {C : Addr} (B : XB h C) (k : ∀ b o, h.get? b = some o → h2.get? b = some o) : XB h2 C := by
  obtain ⟨nm, qn, N, bs, bm, hd, sn, sub, ab, col, dd, k0, k1, k2, k3, k5, ni, hC, T⟩ := B
  exact ⟨nm, qn, N, bs, bm, hd, sn, sub, ab, col, dd, k0, k1, k2, k3, k5, ni, k _ _ hC, T.keeps k⟩
structure XUp (K : PySem.W.Frag) (C0 : Addr) (mc : Value) : Prop where
  rd : readsIn K C0 mc = true
  ga : specialIn K (.ref C0) "__getattribute__" = some (some (.builtin "type.__getattribute__"))
  it : findCls K (.ref C0) mc "__init__" = some (.val (.builtin "ValueError.__init__"))
def tXI (B : Heap) (t : TA) : TE := fun σ H Q => t σ H fun vs H1 => ∃ a C y, vs = [.ref a, y] ∧ H1 a = some (XO a C none) ∧ XB B C ∧ Q .non (upd H1 a (XO a C none))
section
variable {X : Cx} {x : Str} {C C0 f : Addr} {mc : Value} {p pos apos : Pos} {e : Expr} {es : List Expr} {t : TA}
theorem pe_xi {pl : Sem Bool} (U : XUp X.K C0 mc) (hm : X.mg x = some (.ref C0)) (ha : PA X (e :: es) t) (hg : Gl X x := by rfl) (hdb : (x == ("__debug__" : Str)) = false := by decide)
    (hst : starEach (e :: es) X.env = (false, eval e X.env) :: starEach es X.env := by rfl) (hpl : (backTo pos (starEach es X.env)).any (·.1) = false := by rfl)
    (ht : eval (.Call (.Attribute (.Name x p) "__init__" apos) (e :: es) [] pos) X.env = (do
      let ov ← eval (.Name x p) X.env
      standAt apos.atName
      let (f, first) ← holding [ov] (getMethod ov "__init__" pl)
      callWith pos f first (backTo pos (starEach (e :: es) X.env)) (backToKw pos (keywordEach [] X.env))) := by rfl) :
    PE X (.Call (.Attribute (.Name x p) "__init__" apos) (e :: es) [] pos) (tXI X.base t) := by
  intro pins s σ H Q I h
  refine methodCall_KW (pl := pl) (ld_glob I hg hm ?_ hdb) ht
  refine method_cls I.kIn U.ga (cls_value I.kIn U.rd U.it rfl ?_)
  refine callWith_builtin1 (thn (ha pos pins _ σ H _ (I.tok _) h) fun us s1 ⟨vs, H1, I1, r, a, C, y, ev, ea, B, q⟩ => ?_) hst hpl
  subst ev
  obtain ⟨u, w, rfl, r1, r2⟩ := vals2 r
  cases (show u = Value.ref a from r1)
  obtain ⟨⟨oc, odi, oda, osl⟩, vs, g1, g2, g3, g4, ⟨t0, h0⟩, hv1⟩ := xo_get I1.hok ea
  dsimp only at g2 g3 g4
  subst g2 g3 g4
  refine base_init g1 (B.keeps I1.bk) h0 fun h2 us t1 e1 e2 e3 k1 => ?_
  exact ⟨.non, _, inv_xwrite (t2 := s1.toks) I1 ea e1 rfl rfl rfl e2 (e3.trans hv1) k1, rfl, q⟩
structure XMk (K : PySem.W.Frag) (B : Heap) (C f : Addr) : Prop where
  obj : ∃ nm qn N bs bm hd sn sub ab col dd k0 k1 k2 k3 k5 mN, B.get? C = some (excClassObj nm qn C N bs bm hd sn sub ab col dd k0 k1 k2 k3 k5 "ValueError.__new__") ∧ B.Ns N mN ∧ mN "__init__" = some (.ref f) ∧ OwnTail B vMro bm
  fn : ∃ oI, B.get? f = some oI ∧ oI.cls = .type "function"
  kp : keepIn K (.ref C) = true
end
end L2
set_option Elab.async false
set_option linter.all false
set_option maxRecDepth 100000
namespace L2
open PySem PySem.Spec PyProof.Rows PySem.W

def del1 (a : Addr) (H : Hp) : Hp := fun b => if b = a then none else H b
theorem del1_same {a : Addr} {H : Hp} : del1 a H a = none := if_pos rfl
theorem del1_ne {a b : Addr} {H : Hp} (h : b ≠ a) : del1 a H b = H b := if_neg h
section
variable {P : Program} {w : World} {H H1 : Hp} {h h1 : Heap} {a C : Addr} {dct : Option Addr} {fs : List Addr}
theorem hok_del (x : HOk P w H h) (ea : H a = some (XO a C dct)) : HOk P w (del1 a H) h := fun b u q => by
  by_cases hb : b = a
  · subst hb; rw [del1_same] at q; cases q
  · rw [del1_ne hb] at q
    exact (x b u q).stay (fun _ _ _ r => r) (fun c r => by rw [del1_ne (fun z => by subst z; rw [ea] at r; cases r)]; exact r) fun c xs r => by rw [del1_ne (fun z => by subst z; rw [ea] at r; cases r)]; exact r
theorem un_del (u : Un fs [] H H1 h h1) (n : H a = none) : Un fs [] H (del1 a H1) h h1 where
  keep := u.keep
  slot := u.slot
  free := fun b o q n hx => by
    by_cases hb : b = a
    · subst hb; exact del1_same
    · rw [del1_ne hb]; exact u.free b o q n hx
  there := u.there
  tups := fun b xs q => by rw [del1_ne (ne_of_none q n)]; exact u.tups b xs q
  frzs := fun b o xs q => by rw [del1_ne (ne_of_none q n)]; exact u.frzs b o xs q
  tbls := fun b ps q => by rw [del1_ne (ne_of_none q n)]; exact u.tbls b ps q
end
section
variable {M : Model} {A : Around} {E : Value → Shared → Prop} {s : Shared} {B : Heap} {env : Env} {outer : List Env} {L e : Addr} {a0 : Value} {oe : Obj} {vs : Array Value} {Q : Unit → Shared → Prop}
theorem leaves_any (hfr : A.frames = some (env :: outer)) (hf : env.frame = some L) (hB : B.StaysIn s.heap) (hl : s.heap.FunFrames B (env :: outer)) (hn : B.get? e = none) (he : s.heap.get? e = some oe) (hd : oe.data = .fields vs) (h1 : vs[1]? = some .none) (h0 : vs[0]? = some a0)
    (q : ∀ h', FlX B outer e oe.cls a0 oe.dict h' → s.heap.UpToSlots h' → Q () { s with heap := h' }) : wpAny M A (leaving env (.ref e)) Q E s := by
  unfold leaving
  refine wpAny_bind (note_first (a0 := a0) hfr hl hf he hB hn hd h1 h0 fun h' x1 x2 x3 x4 => ?_)
  refine lands_x (s := { s with heap := h' }) ⟨x1, hn, x2, _, x3⟩ fun h2 z up2 => ?_
  obtain ⟨z1, z2, ⟨_, _, z3⟩, z4⟩ := z
  exact q h2 ⟨z1, z2, z3, z4⟩ (x4.trans up2)
end
def BearsMade (X : Cx) (J : XJ) : Prop := ∀ (pins : List (Addr × Obj)) (σ : St) (H : Hp) (s : Shared) (a C : Addr) (H' : Hp) (s' : Shared) (dct : Option Addr),
  Inv X pins σ H s → s.heap.get? a = none → s'.os = s.os → AllBare s'.gens → Un (frs X.stack) [] H H' s.heap s'.heap → HOk X.prog X.w H' s'.heap → H' a = some (XO a C dct) → J C dct σ (del1 a H') → X.xe (.ref a) s'
section
variable {P : Program} {w : World} {K : PySem.W.Frag} {mg : Str → Option Value} {base : Heap} {N : List Str} {qual : Str} {scope : Scope} {f : Addr} {cd : Value} {A : Around} {outer : List Env} {s : Shared} {H : Hp} {E : XK}
theorem bearsMade_def : BearsMade (cxOf (CX1 P w) P w K mg base N qual scope f cd A outer s H E) (EJ E) := by
  intro pins σ H1 s1 a C H' s' dct I new eos bare un hok ea q
  obtain ⟨hh, g, d, t, os'⟩ := s'
  have e : os' = s1.os := eos
  subst e
  have I' := I.call' (s' := ⟨hh, g, d, t, s1.os⟩) rfl un hok bare (fun b z => absurd z (by simp))
  obtain ⟨ox, vs, g1, g2, g3, g4, ⟨t0, h0⟩, hv⟩ := xo_get hok ea
  have hH1 : H1 a = none := hok_none I.hok new
  generalize hl : a :: frs (cxOf (CX1 P w) P w K mg base N qual scope f cd A outer s H E).stack = l
  have hin : ∀ b o, hh.get? b = some o → b ∉ l → (PySem.W.hideAll hh l).get? b = some o := fun b o e n => PySem.W.hideAll_get _ e n
  have hst : (PySem.W.hideAll hh l).StaysIn hh := fun b o q => PySem.W.of_hideAll _ q
  have hff : hh.FunFrames (PySem.W.hideAll hh l) (cxOf (CX1 P w) P w K mg base N qual scope f cd A outer s H E).stack :=
    PySem.W.funFrames_hide I'.stack fun env he b hb => by rw [← hl]; exact List.mem_cons_of_mem _ (List.mem_filterMap.mpr ⟨env, he, hb⟩)
  have hna : (PySem.W.hideAll hh l).get? a = none := PySem.W.hideAll_none _ (by rw [← hl]; exact List.mem_cons_self)
  have nl : ∀ b, b ≠ a → b ∉ frs (cxOf (CX1 P w) P w K mg base N qual scope f cd A outer s H E).stack → b ∉ l := fun b x y z => by
    rw [← hl] at z
    rcases List.mem_cons.mp z with r | r
    · exact x r
    · exact y r
  refine leaves_any (L := s.heap.objs.size) (B := PySem.W.hideAll hh l) (s := ⟨hh, g, d, t, s1.os⟩) I.ok.frames rfl hst hff hna g1 g3 hv h0 fun h' fl up => ?_
  rw [g2, g4] at fl
  have ud := un_del (a := a) un hH1
  have z := fly_mk (g := g) (d := d) (t := t) (h1 := hh) (C := C) I rfl (fun b hb => List.mem_cons_of_mem _ hb) ud (fun b o e n => by
      have hb : b ≠ a := fun z => by subst z; rw [new] at e; cases e
      obtain ⟨o', ho'⟩ := un.there b o e List.not_mem_nil
      exact ⟨⟨o', hin b o' ho' (nl b hb n)⟩, fun hn => hin b o (un.keep b o e hn n List.not_mem_nil) (nl b hb n)⟩)
    (fun b u e => by
      by_cases hb : b = a
      · subst hb; rw [del1_same] at e; cases e
      · rw [del1_ne hb] at e
        obtain ⟨o, ho⟩ := (hok b u e).obj
        exact ⟨o, hin b o ho (nl b hb fun z => by rw [I'.stkFree b z] at e; cases e)⟩) (hok_del hok ea) hst hff up fl bare
  exact ⟨a, C, del1 a H', _, _, _, rfl, z, q⟩
end
section
variable {M : Model} {A : Around} {E : Value → Shared → Prop} {s : Shared} {env : Env}
theorem raise_any {x : Expr} {pos : Pos} {Q : Flow → Shared → Prop} (hh : A.handled = none)
    (h : wpAny M A (eval x env) (fun v s₁ => ∃ e C ox, v = .ref e ∧ s₁.heap.get? e = some ox ∧ ox.cls = .ref C ∧ (∃ vs, ox.data = .fields vs ∧ vs[1]? = some .none) ∧ XB s₁.heap C ∧ E (.ref e) s₁) E s) :
    wpAny M A (exec (.Raise (some x) none pos) env) Q E s := by
  rw [arm_exec_Raise]
  simp only [evalOpt, Option.map]
  refine wpAny_bind (wpAny_standAt ?_)
  unfold raiseStmt
  refine wpAny_bind (wpAny_bind (wpAny_mono h (fun v s₁ h₁ => wpAny_bind (wpAny_standAt (wpAny_pure ?_))) fun _ _ x => x))
  obtain ⟨e, C, ox, rfl, he, hc, ⟨vs, hdt, hv⟩, ⟨nm, qn, N, bs, bm, hd, sn, sub, ab, col, dd, k0, k1, k2, k3, k5, ni, hC, T⟩, hE⟩ := h₁
  have hcB : (Value.ref C :: bm).contains (.type "BaseException") = true := by rw [List.contains_cons, T.hasType (show vMro.contains (.type "BaseException") = true by decide +kernel), Bool.or_true]
  obtain ⟨hp, g, d, tk, os⟩ := s₁
  obtain ⟨oc, odi, oda, osl⟩ := ox
  dsimp only at hc hdt
  subst hc hdt
  repeat (first | (with_reducible refine wpAny_field he rfl hv ?_) | with_reducible refine wpAny_loadPart_at he ?_ | with_reducible refine wpAny_loadPart_at hC ?_ | (with_reducible refine wpAny_isSubtype_exc hC ?_; rw [hcB]) | wp_step)
  exact wpAny_raiseNew_none hh hE
end
def tRaiseX (C : Addr) (sp : Sp) (J : XJ) (t : TA) : TS := fun _ σ H => t σ H fun vs H1 => vs.length ≤ sizeLine ∧ ∀ p, H1 p = none → sp (.ref p :: vs) (upd H1 p (XO p C none)) (fun v H2 => v = .non ∧ ∃ dct, H2 p = some (XO p C dct) ∧ J C dct σ (del1 p H2)) E0
section
variable {X : Cx} {J : XJ} {x : Str} {C f : Addr} {np cpos pos : Pos} {e : Expr} {es : List Expr} {t : TA}
theorem ps_raiseX {k : Nat} {fd : FuncData} {ps : List Str} {sp : Sp} (M : XMk X.K X.base C f) (F : FnOk X.prog X.w X.K X.mg X.base CX0 k f fd ps sp) (hr : Room (k + 1) X.A) (hm : X.mg x = some (.ref C)) (hb : Binds X.K fd ps []) (hh : X.A.handled = none) (hJ : BearsMade X J) (ha : PA X (e :: es) t)
    (hg : Gl X x := by rfl) (hdb : (x == ("__debug__" : Str)) = false := by decide) (he : starEach (e :: es) X.env = (false, eval e X.env) :: starEach es X.env := by rfl) (hpl : (backTo cpos (starEach es X.env)).any (·.1) = false := by rfl) :
    PS X (.Raise (some (.Call (.Name x np) (e :: es) [] cpos)) none pos) (tRaiseX C sp J t) := by
  intro pins s σ H D I h
  refine raise_any hh ?_
  refine wpAny_Call_Name_kw (ld_glob I hg hm ?_ hdb)
  refine callWith_K (h₀ := X.base) I.ok.mod.kin M.kp (thn (ha cpos pins s σ H _ I h) fun us s1 ⟨vs, H1, I1, r, z, q⟩ => ⟨I1.kIn, ?_⟩) he hpl
  obtain ⟨nm, qn, N, bs, bm, hd, sn, sub, ab, col, dd, k0, k1, k2, k3, k5, mN, hC, hN, hi, T⟩ := M.obj
  obtain ⟨oI, hf, hfc⟩ := M.fn
  have hC1 := I1.bk _ _ hC
  have hN1 := hN.keeps I1.bk
  have T1 := T.keeps I1.bk
  have hf1 := I1.bk _ _ hf
  obtain ⟨hh, g, d, tk, os⟩ := s1
  refine xinit_call T1 hC1 hN1 hi hf1 hfc (by show us.length ≤ sizeLine; rw [← r.length]; exact z) fun h2 a hma => ?_
  have I2 := inv_made (t2 := tk) I1 hma
  have hq := q a (hok_none I1.hok hma.new)
  have r2 : Vals (V.ref a :: vs) (Value.ref a :: us) := .cons rfl r
  have hl : (Value.ref a :: us ++ []).length = ps.length := by
    have e := r2.length
    rw [F.len _ _ _ _ hq] at e
    rw [List.append_nil]; exact e.symm
  refine wpAny_call (codeAny_mono (F.run _ X.stack _ _ ⟨Value.ref a :: us, []⟩ (Value.ref a :: us) _ _ E0 (hr.make C us []) (I2.env0.make C us []) (by have := hb _ (Value.ref a :: us) I2.kIn hl; rwa [List.append_nil] at this) r2 hq) fun r3 s3 hq3 => ?_)
  cases r3 with
  | error e => exact (show False from hq3).elim
  | ok fl =>
    cases fl with
    | ret u =>
      obtain ⟨v, H3, os3, bare3, un3, hok3, rv, ev, dct, ea, q3⟩ := hq3
      subst ev
      have I3 := I2.call' os3 un3 hok3 bare3 (fun b z => absurd z (by simp))
      obtain ⟨ox, vs', g1, g2, g3, _, _, hv⟩ := xo_get hok3 ea
      have un1 : Un (frs X.stack) [] H1 (upd H1 a (XO a C none)) hh h2 := un_laidN hma.keeps hma.new (hok_none I1.hok hma.new)
      refine ⟨rv, a, C, ox, rfl, g1, g2, ⟨vs', g3, hv⟩, ⟨nm, qn, N, bs, bm, hd, sn, sub, ab, col, dd, k0, k1, k2, k3, k5, _, I3.bk _ _ hC, T.keeps I3.bk⟩, ?_⟩
      exact hJ pins σ H1 _ a C H3 s3 dct I1 hma.new os3 bare3 (un1.trans un3) hok3 ea q3
    | next => exact False.elim hq3
    | brk => exact False.elim hq3
    | cont => exact False.elim hq3
end
def tPF (a : Addr) (d : Option Addr) (ta : TE) (f : Str) : TE := fun σ H Q => ta σ H fun x H1 => ∃ dx fs v, x = .ref a ∧ d = some dx ∧ H1 dx = some (.xd fs) ∧ fs.lookup f = some v ∧ Q v H1
section
variable {X : Cx} {e : Expr} {f : Str} {pos : Pos} {ta : TE}
theorem pe_pf {a : Addr} {oe : Obj} {C : Addr} {d : Option Addr} {vs : Array Value} (hp : (a, oe) ∈ X.pn) (hc : oe.cls = .ref C) (hdd : oe.dict = d) (hd : oe.data = .fields vs) (Z : ExcK X.K C) (n : NoAttr X.K C f) (he : PE X e ta) (hb : attributeBase e f X.env (eval e X.env) = eval e X.env) :
    PE X (.Attribute e f pos) (tPF a d ta f) := by
  intro pins s σ H Q I h
  refine attr_of hb (thn (he pins s σ H _ I h) fun u s1 ⟨x, H1, I1, rx, dx, fs, v, ex, ed, edx, l, q⟩ => ?_)
  subst ex
  obtain rfl : u = Value.ref a := rx
  obtain ⟨mA, hn, hr⟩ := (show ObjOk X.prog X.w H1 s1.heap dx (.xd fs) from I1.hok dx _ edx)
  obtain ⟨od, hod, hl⟩ := lookIn_ns hn
  obtain ⟨u, hu, ru⟩ := RelO.some_of (v := v) (o := mA f) (by rw [← l]; exact hr f)
  have g1 := (I1.pin _ (List.mem_append_left _ hp)).1
  have hI : InstAt s1.heap a oe C (some od) := ⟨g1, hc, by unfold notCls; rw [hd], by rw [hdd, ed]; exact hod⟩
  exact exc_get I1.kIn hI Z (findObj_own Z.ds n rfl (by rw [hl, hu])) (handed_of ru) ⟨v, H1, I1.tok _, ru, q⟩
end
end L2
set_option Elab.async false
set_option linter.all false
set_option maxRecDepth 100000
namespace L2
open PySem PySem.Spec PyProof.Rows
def TupS (H H' : Hp) : Prop := ∀ b xs, H b = some (.tup xs) → H' b = some (.tup xs)
theorem TupS.of {H H' : Hp} (h : Same H H') : TupS H H' := fun b xs e => h b _ e
theorem TupS.trans {H H1 H2 : Hp} (a : TupS H H1) (b : TupS H1 H2) : TupS H H2 := fun c xs e => b c xs (a c xs e)
theorem TupS.upd {H : Hp} {D : Addr} {ys : List V} {o : HO} (h : H D = some (.lst ys)) : TupS H (upd H D o) := fun b xs e => by rw [upd_ne (fun z => by subst z; rw [h] at e; cases e)]; exact e
structure Runs (J : It) (H : Hp) (xs : List V) : Prop where
  go : ∀ i H', i < xs.length → Same H H' → J.go i H'
  stop : ∀ H', Same H H' → J.stop xs.length H'
  yld : ∀ i x H2 H3, Same H H2 → J.yld i H2 x H3 → H3 = H2 ∧ xs[i]? = some x
theorem runs_list {K : PySem.W.Frag} {H : Hp} {a : Addr} {xs : List V} (h : H a = some (.lst xs)) : Runs (Itl K a) H xs :=
  ⟨fun i H' hi s => ⟨xs, xs[i], .of (s _ _ h), by simp [hi]⟩, fun H' s => ⟨xs, .of (s _ _ h), Nat.le_refl _⟩, fun i x H2 H3 s y => ⟨y.1, y.2 xs (.of (s _ _ h))⟩⟩
theorem runs_tup {K : PySem.W.Frag} {H : Hp} {a : Addr} {xs : List V} (h : H a = some (.tup xs)) : Runs (Itt K a) H xs :=
  ⟨fun i H' hi s => ⟨xs, xs[i], .of (s _ _ h), by simp [hi]⟩, fun H' s => ⟨xs, .of (s _ _ h), Nat.le_refl _⟩, fun i x H2 H3 s y => ⟨y.1, y.2 xs (.of (s _ _ h))⟩⟩
section
variable {J : It} {D : Addr} {n : Nat} {js : List Nat} {σ : St} {g : TG} {te : TE} {Z : Hp → Prop} {H : Hp} {xs : List V}
theorem comp_each (R : Nat → V → Hp → Prop) (hR : ∀ i v H H', TupS H H' → R i v H → R i v H') (hD : H D = none) (hJ : Runs J H xs) (hl : xs.length < sizeLine)
    (hs : ∀ i x zs H2 Q', xs[i]? = some x → zs.length = n → Same H H2 → (∀ v H6, Same H2 H6 → R i v H6 → Q' v H6) → g x zs H2 fun σ4 H4 => te σ4 H4 Q')
    (k : ∀ ys H', Same H H' → H' D = some (.lst ys) → ys.length = xs.length → (∀ i v, ys[i]? = some v → R i v H') → Z H') :
    ∃ W : Nat → Nat → Hp → List V → Prop, (∃ m, W 0 m (upd H D (.lst [])) []) ∧ ∀ i m H2 ys, W i m H2 ys → H2 D = some (.lst ys) → (J.stop i H2 ∧ Z H2) ∨
      (J.go i H2 ∧ ∀ σB x H3, σB.length = n → J.yld i H2 x H3 → g x σB H3 fun σ4 H4 => (fun _ H Q => Q true H : TT) σ4 H4 fun b H5 => if b = true then te σ4 H5 (fun v H6 => H6 D = some (.lst ys) ∧ ys.length < sizeLine ∧ ∃ m', m' < m ∧ W (i + 1) m' (upd H6 D (.lst (ys ++ [v]))) (ys ++ [v]))
        else H5 D = some (.lst ys) ∧ ∃ m', m' < m ∧ W (i + 1) m' H5 ys) := by
  refine comp_by (Q := fun _ H => Z H) (tt := fun _ H Q => Q true H) (N := xs.length) (fun i H2 ys => Same H H2 ∧ ys.length = i ∧ ∀ j v, ys[j]? = some v → R j v H2) ⟨Same.upd hD, rfl, fun j v e => by simp at e⟩ (fun i H2 ys hi p => hJ.go i H2 hi p.1) (fun H2 ys p => hJ.stop H2 p.1) ?_ (fun H2 ys p e => k ys H2 p.1 e p.2.1 p.2.2)
  rintro i x zs H2 H3 ys Nx hN hi hz hy ⟨s2, hyl, hyR⟩ hD2
  obtain ⟨rfl, hx⟩ := hJ.yld i x H2 H3 s2 hy
  refine hs i x zs H3 _ hx hz s2 fun v H6 s6 r6 => ⟨s6 _ _ hD2, by omega, hN _ _ ⟨fun c o e => ?_, by simp [hyl], fun j u e => ?_⟩⟩
  · rw [upd_ne (ne_of_none e hD)]; exact s6 _ _ (s2 _ _ e)
  · have T6 : TupS H6 (upd H6 D (.lst (ys ++ [v]))) := .upd (s6 _ _ hD2)
    by_cases hj : j < ys.length
    · rw [List.getElem?_append_left hj] at e
      exact hR _ _ _ _ ((TupS.of s6).trans T6) (hyR j u e)
    · rw [List.getElem?_append_right (by omega)] at e
      have : j - ys.length = 0 := by
        rcases Nat.eq_zero_or_pos (j - ys.length) with z | z
        · exact z
        · rw [List.getElem?_eq_none (by simp; omega)] at e; cases e
      rw [this] at e
      simp at e
      subst e
      rw [show j = i by omega]
      exact hR _ _ _ _ T6 r6
theorem compC_each (R : Nat → V → Hp → Prop) (hR : ∀ i v H H', TupS H H' → R i v H → R i v H') (hD : H D = none) (hJ : Runs J H xs) (hl : xs.length < sizeLine)
    (hs : ∀ i x zs H2 Q', xs[i]? = some x → zs.length = n → Same H H2 → (∀ v H6, Same H2 H6 → R i v H6 → Q' v H6) → g x (zs ++ caps σ js) H2 fun σ4 H4 => σ4.drop n = caps σ js ∧ te σ4 H4 Q')
    (k : ∀ ys H', Same H H' → H' D = some (.lst ys) → ys.length = xs.length → (∀ i v, ys[i]? = some v → R i v H') → Z H') :
    ∃ W : Nat → Nat → Hp → List V → Prop, (∃ m, W 0 m (upd H D (.lst [])) []) ∧ ∀ i m H2 ys, W i m H2 ys → H2 D = some (.lst ys) → (J.stop i H2 ∧ Z H2) ∨
      (J.go i H2 ∧ ∀ zs x H3, zs.length = n → J.yld i H2 x H3 → g x (zs ++ caps σ js) H3 fun σ4 H4 => σ4.drop n = caps σ js ∧ (fun _ H Q => Q true H : TT) σ4 H4 fun b H5 => if b = true then te σ4 H5 (fun v H6 => H6 D = some (.lst ys) ∧ ys.length < sizeLine ∧ ∃ m', m' < m ∧ W (i + 1) m' (upd H6 D (.lst (ys ++ [v]))) (ys ++ [v]))
        else H5 D = some (.lst ys) ∧ ∃ m', m' < m ∧ W (i + 1) m' H5 ys) := by
  refine compC_by (Q := fun _ H => Z H) (tt := fun _ H Q => Q true H) (N := xs.length) (fun i H2 ys => Same H H2 ∧ ys.length = i ∧ ∀ j v, ys[j]? = some v → R j v H2) ⟨Same.upd hD, rfl, fun j v e => by simp at e⟩ (fun i H2 ys hi p => hJ.go i H2 hi p.1) (fun H2 ys p => hJ.stop H2 p.1) ?_ (fun H2 ys p e => k ys H2 p.1 e p.2.1 p.2.2)
  rintro i x zs H2 H3 ys Nx hN hi hz hy ⟨s2, hyl, hyR⟩ hD2
  obtain ⟨rfl, hx⟩ := hJ.yld i x H2 H3 s2 hy
  refine hs i x zs H3 _ hx hz s2 fun v H6 s6 r6 => ⟨s6 _ _ hD2, by omega, hN _ _ ⟨fun c o e => ?_, by simp [hyl], fun j u e => ?_⟩⟩
  · rw [upd_ne (ne_of_none e hD)]; exact s6 _ _ (s2 _ _ e)
  · have T6 : TupS H6 (upd H6 D (.lst (ys ++ [v]))) := .upd (s6 _ _ hD2)
    by_cases hj : j < ys.length
    · rw [List.getElem?_append_left hj] at e
      exact hR _ _ _ _ ((TupS.of s6).trans T6) (hyR j u e)
    · rw [List.getElem?_append_right (by omega)] at e
      have : j - ys.length = 0 := by
        rcases Nat.eq_zero_or_pos (j - ys.length) with z | z
        · exact z
        · rw [List.getElem?_eq_none (by simp; omega)] at e; cases e
      rw [this] at e
      simp at e
      subst e
      rw [show j = i by omega]
      exact hR _ _ _ _ T6 r6
end
end L2
namespace L2
open PySem PySem.Spec PyProof.Rows
section
variable {J : It} {D : Addr} {n : Nat} {σ : St} {g : TG} {tt : TT} {te : TE} {Z : Hp → Prop} {H : Hp} {xs : List V}
theorem comp_sel (p : V → Bool) (hD : H D = none) (hJ : Runs J H xs) (hl : xs.length < sizeLine)
    (hs : ∀ (i : Nat) (x : V) (zs : St) (H2 : Hp) (A : VK) (B : Hp → Prop), xs[i]? = some x → zs.length = n → Same H H2 → (p x = true → A x H2) → (p x = false → B H2) → g x zs H2 fun σ4 H4 => tt σ4 H4 fun b H5 => if b = true then te σ4 H5 A else B H5)
    (k : ∀ H', Same H H' → H' D = some (.lst (xs.filter p)) → Z H') :
    ∃ W : Nat → Nat → Hp → List V → Prop, (∃ m, W 0 m (upd H D (.lst [])) []) ∧ ∀ i m H2 ys, W i m H2 ys → H2 D = some (.lst ys) → (J.stop i H2 ∧ Z H2) ∨
      (J.go i H2 ∧ ∀ σB x H3, σB.length = n → J.yld i H2 x H3 → g x σB H3 fun σ4 H4 => tt σ4 H4 fun b H5 => if b = true then te σ4 H5 (fun v H6 => H6 D = some (.lst ys) ∧ ys.length < sizeLine ∧ ∃ m', m' < m ∧ W (i + 1) m' (upd H6 D (.lst (ys ++ [v]))) (ys ++ [v]))
        else H5 D = some (.lst ys) ∧ ∃ m', m' < m ∧ W (i + 1) m' H5 ys) := by
  refine comp_by (Q := fun _ H => Z H) (tt := tt) (N := xs.length) (fun i H2 ys => Same H H2 ∧ ys = (xs.take i).filter p) ⟨Same.upd hD, rfl⟩ (fun i H2 ys hi p => hJ.go i H2 hi p.1) (fun H2 ys p => hJ.stop H2 p.1) ?_ (fun H2 ys q e => k H2 q.1 (by rw [e, q.2, List.take_length]))
  rintro i x zs H2 H3 ys Nx hN hi hz hy ⟨s2, rfl⟩ hD2
  obtain ⟨rfl, hx⟩ := hJ.yld i x H2 H3 s2 hy
  have et : xs.take (i + 1) = xs.take i ++ [x] := by rw [List.take_add_one, hx]; rfl
  refine hs i x zs H3 _ _ hx hz s2 (fun hp => ⟨hD2, ?_, hN _ _ ⟨fun c o e => ?_, ?_⟩⟩) (fun hp => ⟨hD2, hN _ _ ⟨s2, ?_⟩⟩)
  · have := List.length_filter_le p (xs.take i)
    have := List.length_take_le i xs
    omega
  · rw [upd_ne (ne_of_none e hD)]; exact s2 _ _ e
  · rw [et, List.filter_append]; simp [hp]
  · rw [et, List.filter_append]; simp [hp]
end
end L2
set_option Elab.async false
set_option linter.all false
set_option maxRecDepth 100000
namespace L2
open PySem PySem.Spec PyProof.Rows
section
variable {prog : Program} {w : World} {A : Around} {E : Value → Shared → Prop} {s : Shared}
theorem nl_item {j t : Addr} {i : Nat} {vs : Array Value} {x : Value} {Q : Value → Shared → Prop} (kj : s.heap.IsListIter j t i) (kt : s.heap.IsList t vs) (kx : vs[i]? = some x)
    (q : ∀ h', h'.IsListIter j t (i + 1) → Heap.SameBut j s.heap h' → Q x { s with heap := h' }) : wpAny (model prog w) A (Builtin.SmallTypes.nextOf (.ref j)) Q E s := by
  obtain ⟨oj, e1, e2, e3⟩ := id kj
  obtain ⟨ot, f1, _, nt, f3⟩ := kt
  unfold Builtin.SmallTypes.nextOf
  refine wpAny_bind (wpAny_callSpecial?_slot (name := Str.ofString "__next__") kj.typeIs slot_listiter_next (wpAny_call_entry slot_listiter_next kj.typeIs entry_listiter_next ?_ (args_listiter_next _)))
  show wpAny _ _ (field (.ref j) 0 >>= _) _ _ s
  refine wpAny_bind (wpAny_field e1 e3 (x := .ref t) rfl ?_)
  show wpAny _ _ (if (Value.ref t == .none) = true then _ else _) _ _ s
  rw [if_neg (show ¬ ((Value.ref t == .none) = true) from Bool.false_ne_true)]
  show wpAny _ _ (field (.ref j) 1 >>= _) _ _ s
  refine wpAny_bind (wpAny_field e1 e3 (x := .int i 0) rfl (?_ : wpAny _ _ (seqItems? (.ref t) >>= _) _ _ s))
  refine wpAny_bind (wpAny_seqItems f1 f3 ?_)
  simp only [Int.toNat_natCast, kx]
  refine wpAny_bind (wpAny_setField e1 e3 (by simp) (wpAny_pure ⟨x, rfl, wpAny_pure (q _ ⟨_, Heap.get?_update_self _ e1 (Obj.isFreed_of_fields (Obj.data_mapFields e3 _)), (Obj.cls_mapFields ..).trans e2, ?_⟩ (Heap.SameBut.update ..))⟩))
  rw [Obj.data_mapFields e3]; simp [rawInt]
theorem nl_end {j t : Addr} {i : Nat} {vs : Array Value} {Q : Value → Shared → Prop} (hh : A.handled = none) (kj : s.heap.IsListIter j t i) (kt : s.heap.IsList t vs) (kx : vs[i]? = none)
    (q : ∀ h' e, Heap.ExtBut j s.heap h' → (∃ o, h'.get? e = some o ∧ o.cls = .type "StopIteration") → E (.ref e) { s with heap := h' }) : wpAny (model prog w) A (Builtin.SmallTypes.nextOf (.ref j)) Q E s := by
  obtain ⟨oj, e1, e2, e3⟩ := id kj
  obtain ⟨ot, f1, _, nt, f3⟩ := kt
  unfold Builtin.SmallTypes.nextOf
  refine wpAny_bind (wpAny_callSpecial?_slot (name := Str.ofString "__next__") kj.typeIs slot_listiter_next (wpAny_call_entry slot_listiter_next kj.typeIs entry_listiter_next ?_ (args_listiter_next _)))
  show wpAny _ _ (field (.ref j) 0 >>= _) _ _ s
  refine wpAny_bind (wpAny_field e1 e3 (x := .ref t) rfl ?_)
  show wpAny _ _ (if (Value.ref t == .none) = true then _ else _) _ _ s
  rw [if_neg (show ¬ ((Value.ref t == .none) = true) from Bool.false_ne_true)]
  show wpAny _ _ (field (.ref j) 1 >>= _) _ _ s
  refine wpAny_bind (wpAny_field e1 e3 (x := .int i 0) rfl (?_ : wpAny _ _ (seqItems? (.ref t) >>= _) _ _ s))
  refine wpAny_bind (wpAny_seqItems f1 f3 ?_)
  simp only [Int.toNat_natCast, kx]
  refine wpAny_bind (wpAny_rule (wpAny_bind (wpAny_setField e1 e3 (by simp) (?_ : wpAny _ _ (newExc (.type "StopIteration") [] >>= _) _ _ _))))
  refine wpAny_bind ?_
  simp only [newExc, newTuple]
  refine wpAny_bind (wpAny_newObj_type (wpAny_bind (m := firstArgMember _ _) (wpAny_of_eq (a := Value.none) (by first | rfl | (simp only [firstArgMember]; rfl)) (wpAny_newObj_type ?_ (by size_fits)))) (by size_fits))
  simp only [raiseNew]
  refine wpAny_bind (wpAny_handled (?_))
  first | rw [show A.in1.handled = none from hh] | rw [hh]
  exact wpAny_bind (wpAny_pure (wpAny_throw (q _ _ (((Heap.SameBut.update ..).extBut.push _).push _) ⟨_, Heap.get?_push_size _ rfl, rfl⟩)))

structure ZTL (z TI TO j1 j2 t1 t2 : Addr) (f0 : Value) (i1 i2 : Nat) (h : Heap) : Prop where
  z : IsZip h z TI TO f0
  ti : IsPair h TI (.ref j1) (.ref j2)
  to : ∃ a b, IsPair h TO a b
  i1 : h.IsListIter j1 t1 i1
  i2 : h.IsListIter j2 t2 i2
section
variable {z TI TO j1 j2 t1 t2 : Addr} {i : Nat} {xs ys : Array Value}
theorem lst_ne_z {h : Heap} {f0 : Value} {vs : Array Value} {t : Addr} (ht : h.IsList t vs) (hz : IsZip h z TI TO f0) : t ≠ z := fun e => by
  obtain ⟨o, e1, e2, _⟩ := ht
  rw [e, hz] at e1; cases e1; simp at e2
theorem lst_ne_j {h : Heap} {vs : Array Value} {t j u : Addr} {n : Nat} (ht : h.IsList t vs) (hj : h.IsListIter j u n) : t ≠ j := fun e => by
  obtain ⟨o, e1, e2, _⟩ := ht
  obtain ⟨o', f1, f2, _⟩ := hj
  rw [e, f1] at e1; cases e1; rw [f2] at e2; simp at e2
theorem zl_item {x y : Value} {Q : Option Value → Shared → Prop} (D : ZNe z TI TO j1 j2) (Z : ZTL z TI TO j1 j2 t1 t2 .none i i s.heap) (k1 : s.heap.IsList t1 xs) (k2 : s.heap.IsList t2 ys) (n1 : t1 ≠ TO) (n2 : t2 ≠ TO) (ex : xs[i]? = some x) (ey : ys[i]? = some y)
    (q : ∀ h', ZTL z TI TO j1 j2 t1 t2 (rawInt s.heap.objs.size) (i + 1) (i + 1) h' → IsPair h' s.heap.objs.size x y → h'.objs.size = s.heap.objs.size + 1 →
      (∀ c o, c ≠ z → c ≠ TO → c ≠ j1 → c ≠ j2 → s.heap.get? c = some o → h'.get? c = some o) → Q (some (.ref s.heap.objs.size)) { s with heap := h' }) : wpAny (model prog w) A (pyNext (.ref z)) Q E s := by
  obtain ⟨Zz, Zi, ⟨a, b, Zo⟩, Z1, Z2⟩ := Z
  have ty : s.TypeIs (.ref z) "zip" := ⟨_, Zz, rfl⟩
  unfold pyNext
  refine wpAny_bind (wpAny_attempt (wpAny_callSpecial?_slot (name := Str.ofString "__next__") ty F.slot_zip_next (wpAny_call_entry F.slot_zip_next ty F.entry_zip_next ?_ (F.args_zip_next_1 _))))
  show wpAny _ _ (field (.ref z) 2 >>= _) _ _ s
  refine wpAny_bind (wpAny_field Zz rfl (x := .bool false) rfl (?_ : wpAny _ _ (field (.ref z) 3 >>= _) _ _ s))
  refine wpAny_bind (wpAny_field Zz rfl (x := .ref TI) rfl (wpAny_bind (wpAny_seqItems Zi rfl (?_ : wpAny _ _ (Builtin.SmallTypes.ownedTupleIsFree (.ref z) >>= _) _ _ s))))
  refine wpAny_bind ?_; unfold Builtin.SmallTypes.ownedTupleIsFree
  refine wpAny_bind (wpAny_field Zz rfl (x := .none) rfl (wpAny_pure ?_))
  simp only [if_true]
  refine wpAny_bind (wpAny_rule (wpAny_bind (wpAny_field Zz rfl (x := .ref TO) rfl (wpAny_bind (wpAny_setField_rec Zz (by simp) fun g1 Zz1 m1 => ?_)))))
  replace Zz1 : IsZip g1 z TI TO .ellipsis := Zz1
  refine wpAny_bind ?_; simp only [List.zipIdx_cons, List.zipIdx_nil, List.forIn_cons, List.forIn_nil]
  refine wpAny_bind (wpAny_bind (wpAny_onRaise (?_ : wpAny _ _ (Builtin.SmallTypes.nextOf (.ref j1) >>= _) _ _ _)))
  refine wpAny_bind (nl_item (Z1.extBut m1.extBut D.c) (k1.extBut m1.extBut (lst_ne_z k1 Zz)) ex fun g2 Z12 m2 => wpAny_pure ?_)
  have Zo2 : IsPair g2 TO a b := m2.extBut _ _ D.k (m1.extBut _ _ D.b Zo)
  refine wpAny_bind (wpAny_seqItems Zo2 rfl (wpAny_bind (wpAny_updateSeq_pair Zo2 fun g3 Zo3 m3 => wpAny_bind (wpAny_letGo (wpAny_pure ?_)))))
  replace Zo3 : IsPair g3 TO x b := Zo3
  refine wpAny_bind (wpAny_bind (wpAny_onRaise (?_ : wpAny _ _ (Builtin.SmallTypes.nextOf (.ref j2) >>= _) _ _ _)))
  refine wpAny_bind (nl_item (((Z2.extBut m1.extBut D.d).extBut m2.extBut D.m.symm).extBut m3.extBut D.l.symm) (((k2.extBut m1.extBut (lst_ne_z k2 Zz)).extBut m2.extBut (lst_ne_j k2 Z1)).extBut m3.extBut n2) ey fun g4 Z24 m4 => wpAny_pure ?_)
  have Zo4 : IsPair g4 TO x b := m4.extBut _ _ D.l Zo3
  refine wpAny_bind (wpAny_seqItems Zo4 rfl (wpAny_bind (wpAny_updateSeq_pair Zo4 fun g5 Zo5 m5 => wpAny_bind (wpAny_letGo (wpAny_pure (wpAny_pure ?_))))))
  replace Zo5 : IsPair g5 TO x y := Zo5
  refine wpAny_bind (wpAny_seqItems Zo5 rfl (wpAny_bind (wpAny_newTuple ?_)))
  have sz : g5.objs.size = s.heap.objs.size := by rw [m5.1, m4.1, m3.1, m2.1, m1.1]
  have Zz5 : IsZip g5 z TI TO .ellipsis := m5.extBut _ _ D.b.symm (m4.extBut _ _ D.d.symm (m3.extBut _ _ D.b.symm (m2.extBut _ _ D.c.symm Zz1)))
  have kp : ∀ c o, c ≠ z → c ≠ TO → c ≠ j1 → c ≠ j2 → s.heap.get? c = some o → g5.get? c = some o := fun c o c1 c2 c3 c4 e => m5.extBut _ _ c2 (m4.extBut _ _ c4 (m3.extBut _ _ c2 (m2.extBut _ _ c3 (m1.extBut _ _ c1 e))))
  have Z15 : g5.IsListIter j1 t1 (i + 1) := ((Z12.extBut m3.extBut D.k.symm).extBut m4.extBut D.m).extBut m5.extBut D.k.symm
  have Z25 : g5.IsListIter j2 t2 (i + 1) := Z24.extBut m5.extBut D.l.symm
  have zlt : g5.objs.size ≠ z := Nat.ne_of_gt (Heap.lt_size Zz5)
  show wpAny _ _ (Builtin.SmallTypes.ownedTupleHandOut (.ref z) (.ref g5.objs.size) >>= _) _ _ _
  refine wpAny_bind ?_; unfold Builtin.SmallTypes.ownedTupleHandOut
  refine wpAny_bind (wpAny_setField_rec (Heap.get?_push_of_some _ Zz5) (by simp) fun g7 Zz7 m7 => ?_)
  replace Zz7 : IsZip g7 z TI TO (rawInt g5.objs.size) := Zz7
  refine wpAny_setField_rec Zz7 (by simp) fun g8 Zz8 m8 => ?_
  replace Zz8 : IsZip g8 z TI TO (rawInt g5.objs.size) := Zz8
  have up : ∀ c o, c ≠ z → g5.get? c = some o → g8.get? c = some o := fun c o c1 e => m8.extBut _ _ c1 (m7.extBut _ _ c1 (Heap.get?_push_of_some _ e))
  have T8 : IsPair g8 g5.objs.size x y := m8.extBut _ _ zlt (m7.extBut _ _ zlt (Heap.get?_push_size _ rfl))
  have s8 : g8.objs.size = g5.objs.size + 1 := by rw [m8.1, m7.1, Heap.size_push]
  refine wpAny_pure ⟨_, rfl, wpAny_pure ?_⟩
  rw [sz] at Zz8 T8 s8
  show Q (some (.ref g5.objs.size)) _
  rw [sz]
  exact q g8 ⟨Zz8, up _ _ D.a (kp _ _ D.a D.e D.f D.g Zi), ⟨_, _, up _ _ D.b Zo5⟩, Z15.at fun o e => up _ o D.c e, Z25.at fun o e => up _ o D.d e⟩ T8 s8 fun c o c1 c2 c3 c4 e => up c o c1 (kp c o c1 c2 c3 c4 e)
theorem zl_end {Q : Option Value → Shared → Prop} (hh : A.handled = none) (D : ZNe z TI TO j1 j2) (Z : ZTL z TI TO j1 j2 t1 t2 .none i i s.heap) (k1 : s.heap.IsList t1 xs) (k2 : s.heap.IsList t2 ys) (n2 : t2 ≠ TO) (en : xs[i]? = none ∨ ys[i]? = none)
    (q : ∀ h', (∀ c o, c ≠ z → c ≠ TO → c ≠ j1 → c ≠ j2 → s.heap.get? c = some o → h'.get? c = some o) → Q none { s with heap := h' }) : wpAny (model prog w) A (pyNext (.ref z)) Q E s := by
  obtain ⟨Zz, Zi, ⟨a, b, Zo⟩, Z1, Z2⟩ := Z
  have ty : s.TypeIs (.ref z) "zip" := ⟨_, Zz, rfl⟩
  have fin : ∀ (g' : Heap) (e : Addr), (∀ c o, c ≠ z → c ≠ TO → c ≠ j1 → c ≠ j2 → s.heap.get? c = some o → g'.get? c = some o) → (∃ o, g'.get? e = some o ∧ o.cls = .type "StopIteration") →
      wpAny (model prog w) A (do if ← isInstance (.ref e) (.type "StopIteration") then pure none else throw (.ref e) : Sem (Option Value)) Q E { s with heap := g' } := fun g' e kk ⟨o, ho, hc⟩ =>
    wpAny_bind (wpAny_isInstance (T := "StopIteration") (b := true) ⟨o, ho, hc⟩ isSubtype_stop (wpAny_pure (q g' kk)))
  unfold pyNext
  refine wpAny_bind (wpAny_attempt (wpAny_callSpecial?_slot (name := Str.ofString "__next__") ty F.slot_zip_next (wpAny_call_entry F.slot_zip_next ty F.entry_zip_next ?_ (F.args_zip_next_1 _))))
  show wpAny _ _ (field (.ref z) 2 >>= _) _ _ s
  refine wpAny_bind (wpAny_field Zz rfl (x := .bool false) rfl (?_ : wpAny _ _ (field (.ref z) 3 >>= _) _ _ s))
  refine wpAny_bind (wpAny_field Zz rfl (x := .ref TI) rfl (wpAny_bind (wpAny_seqItems Zi rfl (?_ : wpAny _ _ (Builtin.SmallTypes.ownedTupleIsFree (.ref z) >>= _) _ _ s))))
  refine wpAny_bind ?_; unfold Builtin.SmallTypes.ownedTupleIsFree
  refine wpAny_bind (wpAny_field Zz rfl (x := .none) rfl (wpAny_pure ?_))
  simp only [if_true]
  refine wpAny_bind (wpAny_rule (wpAny_bind (wpAny_field Zz rfl (x := .ref TO) rfl (wpAny_bind (wpAny_setField_rec Zz (by simp) fun g1 Zz1 m1 => ?_)))))
  replace Zz1 : IsZip g1 z TI TO .ellipsis := Zz1
  refine wpAny_bind ?_; simp only [List.zipIdx_cons, List.zipIdx_nil, List.forIn_cons, List.forIn_nil]
  refine wpAny_bind (wpAny_bind (wpAny_onRaise (?_ : wpAny _ _ (Builtin.SmallTypes.nextOf (.ref j1) >>= _) _ _ _)))
  cases ex : xs[i]? with
  | none =>
    refine wpAny_bind (nl_end hh (Z1.extBut m1.extBut D.c) (k1.extBut m1.extBut (lst_ne_z k1 Zz)) ex fun g2 e m2 ⟨oe, e1, e2⟩ => ?_)
    have Zz2 : IsZip g2 z TI TO .ellipsis := m2 _ _ D.c.symm Zz1
    have ne : e ≠ z := fun r => by subst r; rw [Zz2] at e1; cases e1; simp at e2
    exact wpAny_setField_rec Zz2 (by simp) fun g3 _ m3 => fin g3 e (fun c o c1 _ c3 _ r => m3.extBut _ _ c1 (m2 _ _ c3 (m1.extBut _ _ c1 r))) ⟨oe, m3.extBut _ _ ne e1, e2⟩
  | some x =>
    have ey : ys[i]? = none := by
      rcases en with r | r
      · rw [ex] at r; cases r
      · exact r
    refine wpAny_bind (nl_item (Z1.extBut m1.extBut D.c) (k1.extBut m1.extBut (lst_ne_z k1 Zz)) ex fun g2 Z12 m2 => wpAny_pure ?_)
    have Zo2 : IsPair g2 TO a b := m2.extBut _ _ D.k (m1.extBut _ _ D.b Zo)
    refine wpAny_bind (wpAny_seqItems Zo2 rfl (wpAny_bind (wpAny_updateSeq_pair Zo2 fun g3 Zo3 m3 => wpAny_bind (wpAny_letGo (wpAny_pure ?_)))))
    refine wpAny_bind (wpAny_bind (wpAny_onRaise (?_ : wpAny _ _ (Builtin.SmallTypes.nextOf (.ref j2) >>= _) _ _ _)))
    refine wpAny_bind (nl_end hh (((Z2.extBut m1.extBut D.d).extBut m2.extBut D.m.symm).extBut m3.extBut D.l.symm) (((k2.extBut m1.extBut (lst_ne_z k2 Zz)).extBut m2.extBut (lst_ne_j k2 Z1)).extBut m3.extBut n2) ey fun g4 e m4 ⟨oe, e1, e2⟩ => ?_)
    have Zz4 : IsZip g4 z TI TO .ellipsis := m4 _ _ D.d.symm (m3.extBut _ _ D.b.symm (m2.extBut _ _ D.c.symm Zz1))
    have ne : e ≠ z := fun r => by subst r; rw [Zz4] at e1; cases e1; simp at e2
    exact wpAny_setField_rec Zz4 (by simp) fun g5 _ m5 => fin g5 e (fun c o c1 c2 c3 c4 r => m5.extBut _ _ c1 (m4 _ _ c4 (m3.extBut _ _ c2 (m2.extBut _ _ c3 (m1.extBut _ _ c1 r))))) ⟨oe, m5.extBut _ _ ne e1, e2⟩
end
end

def ItzL (K : PySem.W.Frag) (t1 t2 : Addr) : It :=
  ⟨fun i H => ∃ xs ys x y, SqL K H t1 xs ∧ SqL K H t2 ys ∧ xs[i]? = some x ∧ ys[i]? = some y,
   fun i H v H' => ∃ T x y, v = .ref T ∧ H T = none ∧ H' = upd H T (.tup [x, y]) ∧ (∀ xs, SqL K H t1 xs → xs[i]? = some x) ∧ ∀ ys, SqL K H t2 ys → ys[i]? = some y,
   fun i H => ∃ xs ys, SqL K H t1 xs ∧ SqL K H t2 ys ∧ (xs.length ≤ i ∨ ys.length ≤ i)⟩
theorem turn_zipL {P : Program} {w : World} {K : PySem.W.Frag} {elts : List Expr} {kc : Nat} {tp : Pos} (z TI TO j1 j2 t1 t2 : Addr) (D : ZNe z TI TO j1 j2) (n1 : t1 ≠ TO) (n2 : t2 ≠ TO) :
    Turn P w K (.Tuple elts kc tp) (ItzL K t1 t2) [z, TI, TO, j1, j2] z (fun i h => ZTL z TI TO j1 j2 t1 t2 .none i i h) where
  mem := by simp
  obj := fun i h st b hb => by
    obtain ⟨Zz, Zi, ⟨u, v, Zo⟩, ⟨o1, e1, _, d1⟩, ⟨o2, e2, _, d2⟩⟩ := st
    simp only [List.mem_cons, List.not_mem_nil, or_false] at hb
    rcases hb with rfl | rfl | rfl | rfl | rfl
    · exact ⟨_, Zz, fun _ r => by cases r⟩
    · exact ⟨_, Zi, fun _ r => by cases r⟩
    · exact ⟨_, Zo, fun _ r => by cases r⟩
    · exact ⟨_, e1, fun _ r => by rw [d1] at r; cases r⟩
    · exact ⟨_, e2, fun _ r => by rw [d2] at r; cases r⟩
  keep := fun i h h' st k => by
    obtain ⟨Zz, Zi, ⟨u, v, Zo⟩, Z1, Z2⟩ := st
    exact ⟨k z (by simp) _ Zz, k TI (by simp) _ Zi, ⟨u, v, k TO (by simp) _ Zo⟩, Z1.at fun o e => k j1 (by simp) o e, Z2.at fun o e => k j2 (by simp) o e⟩
  item := by
    intro X hP hw hK hc i pins s σ H E I hf st hg
    subst hP hw hK
    obtain ⟨xs, ys, x, y, h1, h2, ex, ey⟩ := hg
    obtain ⟨us, r1, p1', _⟩ := I.list h1
    have p1 := p1'.isList
    obtain ⟨vs, r2, p2', _⟩ := I.list h2
    have p2 := p2'.isList
    obtain ⟨ux, eu, rx⟩ := r1.get ex
    obtain ⟨uy, ev, ry⟩ := r2.get ey
    refine zl_item D st (xs := us.toArray) (ys := vs.toArray) p1 p2 n1 n2 (x := ux) (y := uy) (by simpa using eu) (by simpa using ev) fun h' st' pr sz kk => ⟨_, rfl, ?_⟩
    obtain ⟨Zz, Zi, ⟨ua, ub, Zo⟩, Z1, Z2⟩ := st'
    refine wpAny_letOwnedTupleGo_zip Zz fun h2' Zz' sb => ?_
    have hTz : s.heap.objs.size ≠ z := Nat.ne_of_gt (Heap.lt_size st.z)
    have kk2 : ∀ c o, c ≠ z → c ≠ TO → c ≠ j1 → c ≠ j2 → s.heap.get? c = some o → h2'.get? c = some o := fun c o c1 c2 c3 c4 e => (sb.2 c c1).trans (kk c o c1 c2 c3 c4 e)
    have prT : h2'.get? s.heap.objs.size = some { cls := .type "tuple", data := .seq #[ux, uy] } := (sb.2 _ hTz).trans pr
    have hT : H s.heap.objs.size = none := I.hok.fresh (Nat.le_refl _)
    have neC : ∀ b, b ∉ [z, TO, j1, j2] → b ≠ z ∧ b ≠ TO ∧ b ≠ j1 ∧ b ≠ j2 := fun b hb => by simpa using hb
    have trk : ∀ b u, H b = some u → b ≠ z ∧ b ≠ TO ∧ b ≠ j1 ∧ b ≠ j2 := fun b u e => by
      refine ⟨?_, ?_, ?_, ?_⟩ <;> rintro rfl
      · rw [(hf b (by simp)).1] at e; cases e
      · rw [(hf b (by simp)).1] at e; cases e
      · rw [(hf b (by simp)).1] at e; cases e
      · rw [(hf b (by simp)).1] at e; cases e
    have ltT : ∀ b o, s.heap.get? b = some o → b ≠ s.heap.objs.size := fun b o e => Nat.ne_of_lt (Heap.lt_size e)
    have u : Un (frs X.stack) [z, TO, j1, j2] H (upd H s.heap.objs.size (.tup [x, y])) s.heap h2' :=
      ⟨fun b o e n _ hb => by obtain ⟨c1, c2, c3, c4⟩ := neC b hb; exact kk2 b o c1 c2 c3 c4 e, fun b o e n _ hb => by obtain ⟨c1, c2, c3, c4⟩ := neC b hb; exact ⟨o.slots, kk2 b o c1 c2 c3 c4 e⟩,
        fun b o e n hb => by rw [upd_ne (ltT b o e)]; exact n, fun b o e hb => by obtain ⟨c1, c2, c3, c4⟩ := neC b hb; exact ⟨o, kk2 b o c1 c2 c3 c4 e⟩,
        fun b ws e => by rw [upd_ne (ne_of_none e hT)]; exact e, fun b o ws e => by rw [upd_ne (ne_of_none e hT)]; exact e, fun b ps e => ⟨#[], by rw [upd_ne (ne_of_none e hT), e]; simp⟩⟩
    have hok : HOk X.prog X.w (upd H s.heap.objs.size (.tup [x, y])) h2' := fun b ob e => by
      by_cases hb : b = s.heap.objs.size
      · subst hb
        rw [upd_same] at e; cases e
        exact ⟨by show 2 ≤ sizeLine; decide, [ux, uy], .cons rx (.cons ry .nil), _, prT, rfl, 0, rfl⟩
      · rw [upd_ne hb] at e
        refine (I.hok b ob e).stay (fun c v hc' qc => ?_) (fun c q => by rw [upd_ne (ne_of_none q hT)]; exact q) fun c ws q => by rw [upd_ne (ne_of_none q hT)]; exact q
        have : ∃ o, H c = some o := by
          rcases hc' with rfl | hc'
          · exact ⟨_, e⟩
          · exact ⟨_, hc'⟩
        obtain ⟨o, ho⟩ := this
        obtain ⟨c1, c2, c3, c4⟩ := trk c o ho
        exact kk2 c v c1 c2 c3 c4 qc
    refine ⟨.ref s.heap.objs.size, upd H s.heap.objs.size (.tup [x, y]), ?_, rfl, ⟨_, x, y, rfl, hT, rfl, fun xs' h => by rw [I.list_inj h h1]; exact ex, fun ys' h => by rw [I.list_inj h h2]; exact ey⟩,
      ⟨Zz', (sb.2 _ D.a).trans Zi, ⟨_, _, (sb.2 _ D.b).trans Zo⟩, Z1.at fun o e => (sb.2 _ D.c).trans e, Z2.at fun o e => (sb.2 _ D.d).trans e⟩, fun b hb => ?_⟩
    · refine I.call' (s' := { s with heap := h2' }) (ch := [z, TO, j1, j2]) rfl u hok I.bare fun b hb => ?_
      obtain ⟨_, z1, z2, z3, z4, z5⟩ := hf b (by simp only [List.mem_cons, List.not_mem_nil, or_false] at hb ⊢; rcases hb with r | r | r | r <;> simp [r])
      exact ⟨z3, z1, z4, z5⟩
    · obtain ⟨o, e, _⟩ : ∃ o, s.heap.get? b = some o ∧ True := by
        obtain ⟨Zz, Zi, ⟨u, v, Zo⟩, ⟨o1, e1, _, d1⟩, ⟨o2, e2, _, d2⟩⟩ := st
        simp only [List.mem_cons, List.not_mem_nil, or_false] at hb
        rcases hb with rfl | rfl | rfl | rfl | rfl
        · exact ⟨_, Zz, trivial⟩
        · exact ⟨_, Zi, trivial⟩
        · exact ⟨_, Zo, trivial⟩
        · exact ⟨_, e1, trivial⟩
        · exact ⟨_, e2, trivial⟩
      rw [upd_ne (ltT b o e)]; exact (hf b hb).1
  done := by
    intro X hP hw hK hc i pins s σ H E I hf st hg
    subst hP hw hK
    obtain ⟨xs, ys, h1, h2, en⟩ := hg
    obtain ⟨us, r1, p1', _⟩ := I.list h1
    have p1 := p1'.isList
    obtain ⟨vs, r2, p2', _⟩ := I.list h2
    have p2 := p2'.isList
    have l1 := r1.length
    have l2 := r2.length
    refine zl_end (I.ok.hd hc) D st (xs := us.toArray) (ys := vs.toArray) p1 p2 n2 (by rcases en with r | r; exact .inl (by simp; omega); exact .inr (by simp; omega)) fun h' kk => ⟨rfl, ?_⟩
    have neC : ∀ b, b ∉ [z, TO, j1, j2] → b ≠ z ∧ b ≠ TO ∧ b ≠ j1 ∧ b ≠ j2 := fun b hb => by simpa using hb
    have u : Un (frs X.stack) [z, TO, j1, j2] H H s.heap h' :=
      ⟨fun b o e n _ hb => by obtain ⟨c1, c2, c3, c4⟩ := neC b hb; exact kk b o c1 c2 c3 c4 e, fun b o e n _ hb => by obtain ⟨c1, c2, c3, c4⟩ := neC b hb; exact ⟨o.slots, kk b o c1 c2 c3 c4 e⟩,
        fun b o e n hb => n, fun b o e hb => by obtain ⟨c1, c2, c3, c4⟩ := neC b hb; exact ⟨o, kk b o c1 c2 c3 c4 e⟩, fun b ws e => e, fun b o ws e => e, fun b ps e => ⟨#[], by rw [e]; simp⟩⟩
    have hok : HOk X.prog X.w H h' := fun b ob e => by
      refine (I.hok b ob e).stay (fun c v hc' qc => ?_) (fun c q => q) fun c ws q => q
      have : ∃ o, H c = some o := by
        rcases hc' with rfl | hc'
        · exact ⟨_, e⟩
        · exact ⟨_, hc'⟩
      obtain ⟨o, ho⟩ := this
      have nn : ∀ d ∈ [z, TI, TO, j1, j2], c ≠ d := fun d hd r => by subst r; rw [(hf c hd).1] at ho; cases ho
      exact kk c v (nn _ (by simp)) (nn _ (by simp)) (nn _ (by simp)) (nn _ (by simp)) qc
    refine I.call' (s' := { s with heap := h' }) (ch := [z, TO, j1, j2]) rfl u hok I.bare fun b hb => ?_
    obtain ⟨_, z1, z2, z3, z4, z5⟩ := hf b (by simp only [List.mem_cons, List.not_mem_nil, or_false] at hb ⊢; rcases hb with r | r | r | r <;> simp [r])
    exact ⟨z3, z1, z4, z5⟩
  self := fun _ _ _ _ _ st h => wpAny_pyIter_zip st.z h

def zq1 (h : Heap) (t : Addr) : Heap := h.push { cls := .type "list_iterator", data := .fields #[.ref t, .int 0 0] }
theorem zq1_size (h : Heap) (t : Addr) : (zq1 h t).objs.size = h.objs.size + 1 := Heap.size_push ..
def zq5 (h : Heap) (t u : Addr) : Heap := (((zq1 (zq1 h t) u).push { cls := .type "tuple", data := .seq #[.ref h.objs.size, .ref (zq1 h t).objs.size] }).push { cls := .type "tuple", data := .seq #[.none, .none] }).push
  { cls := .type "zip", data := .fields #[.none, .bool false, .bool false, .ref (h.objs.size + 2), .ref (h.objs.size + 3)] }
theorem zip_newL (t u : Addr) (xs ys : Array Value) : Meets (Builtin.«zip.__new__» ⟨[.type "zip", .ref t, .ref u], []⟩) (fun _ R s => s.heap.IsList t xs ∧ s.heap.IsList u ys ∧ R (.ok (.ret (.ref (s.heap.objs.size + 4)))) { s with heap := zq5 s.heap t u }) :=
  .of_wp fun prog w A R s h => by
    obtain ⟨hp, g, d, tk, os⟩ := s; obtain ⟨k1, k2, h⟩ := h
    have hs := sub_zip
    have z1 : (hp.push { cls := .type "list_iterator", data := .fields #[.ref t, .int 0 0] }).objs.size = hp.objs.size + 1 := Heap.size_push ..
    have K1 : Heap.IsList (Shared.heap ⟨hp, g, d, tk, os⟩) t xs := k1
    have K2 : Heap.IsList (Shared.heap ⟨hp.push { cls := .type "list_iterator", data := .fields #[.ref t, .int 0 0] }, g, d, tk, os⟩) u ys := k2.push _
    wp_walk using wpAny_pyIter_list K1, wpAny_pyIter_list K2
    refine ⟨_, rfl, ?_⟩
    unfold zq5 zq1 at h
    simp only [Heap.size_push] at h ⊢
    exact h
section
variable {X : Cx}
def iZipL (K : PySem.W.Frag) (t : TA) : TI := fun σ H R => t σ H fun vs H1 => ∃ t1 t2, vs = [.ref t1, .ref t2] ∧ (∃ xs, SqL K H1 t1 xs) ∧ (∃ ys, SqL K H1 t2 ys) ∧ R (ItzL K t1 t2) H1
theorem zq5_get {h : Heap} {t u : Addr} : IsZip (zq5 h t u) (h.objs.size + 4) (h.objs.size + 2) (h.objs.size + 3) .none ∧ IsPair (zq5 h t u) (h.objs.size + 2) (.ref h.objs.size) (.ref (h.objs.size + 1)) ∧ IsPair (zq5 h t u) (h.objs.size + 3) .none .none ∧
    (zq5 h t u).IsListIter h.objs.size t 0 ∧ (zq5 h t u).IsListIter (h.objs.size + 1) u 0 ∧ ∀ c o, h.get? c = some o → (zq5 h t u).get? c = some o := by
  have z1 := zq1_size h t
  have z2 : (zq1 (zq1 h t) u).objs.size = h.objs.size + 2 := by rw [zq1_size, z1]
  have z3 : ((zq1 (zq1 h t) u).push { cls := .type "tuple", data := .seq #[.ref h.objs.size, .ref (zq1 h t).objs.size] }).objs.size = h.objs.size + 3 := by rw [Heap.size_push, z2]
  have z4 : (((zq1 (zq1 h t) u).push { cls := .type "tuple", data := .seq #[.ref h.objs.size, .ref (zq1 h t).objs.size] }).push { cls := .type "tuple", data := .seq #[.none, .none] }).objs.size = h.objs.size + 4 := by rw [Heap.size_push, z3]
  unfold zq5
  refine ⟨?_, ?_, ?_, ?_, ?_, fun c o e => ?_⟩
  · rw [← z4]; exact Heap.get?_push_size _ rfl
  · refine Heap.get?_push_of_some _ (Heap.get?_push_of_some _ ?_)
    rw [← z2, ← z1]; exact Heap.get?_push_size _ rfl
  · refine Heap.get?_push_of_some _ ?_
    rw [← z3]; exact Heap.get?_push_size _ rfl
  · exact ⟨_, Heap.get?_push_of_some _ (Heap.get?_push_of_some _ (Heap.get?_push_of_some _ (Heap.get?_push_of_some _ (Heap.get?_push_size _ rfl)))), rfl, rfl⟩
  · refine ⟨{ cls := .type "list_iterator", data := .fields #[.ref u, .int 0 0] }, Heap.get?_push_of_some _ (Heap.get?_push_of_some _ (Heap.get?_push_of_some _ ?_)), rfl, rfl⟩
    rw [← z1]; exact Heap.get?_push_size _ rfl
  · exact Heap.get?_push_of_some _ (Heap.get?_push_of_some _ (Heap.get?_push_of_some _ (Heap.get?_push_of_some _ (Heap.get?_push_of_some _ e))))
theorem pi_zipL {a b : Expr} {ta : TA} {p pos tp : Pos} {elts : List Expr} {kc : Nat} (hg : Gl X "zip") (hm : X.mg "zip" = none) (ha : PA X [a, b] ta) (hs : starEach [a, b] X.env = [(false, eval a X.env), (false, eval b X.env)] := by rfl) (hs2 : starEach [b] X.env = [(false, eval b X.env)] := by rfl) :
    PI X (.Tuple elts kc tp) (.Call (.Name "zip" p) [a, b] [] pos) (iZipL X.K ta) := by
  intro pins s σ H R I h
  refine Call_ (ld_blt I hg hm (by decide +kernel : bootBuiltins "zip" = some (.type "zip")) (PyProof.Rows.callWith_type1 (thn (ha pos pins s σ H _ I h) fun us s1 ⟨vs, H1, I1, r1, q1⟩ => ?_) (by rw [hs, hs2]) (by rw [hs2]; rfl)))
  obtain ⟨t1, t2, e, ⟨xs, k1⟩, ⟨ys, k2⟩, q⟩ := q1
  subst e
  obtain ⟨u1, u2, rfl, ru1, ru2⟩ := vals2 r1
  cases (show u1 = Value.ref t1 from ru1)
  cases (show u2 = Value.ref t2 from ru2)
  obtain ⟨as, ra, pa', _⟩ := I1.list k1
  have pa := pa'.isList
  obtain ⟨bs, rb, pb', _⟩ := I1.list k2
  have pb := pb'.isList
  refine callType_new F.called_zip (by decide) (F.typeCall_zip_2 _ _) (F.newCall_zip_2 _ _) (fun obj => F.args_object_init_3 obj _ _) F.entry_zip_new (zip_newL t1 t2 as.toArray bs.toArray) ⟨pa, pb, ?_⟩
  obtain ⟨g1, g2, g3, g4, g5, g6⟩ := zq5_get (h := s1.heap) (t := t1) (u := t2)
  have l1 : t1 < s1.heap.objs.size := by obtain ⟨o, e, _⟩ := pa; exact Heap.lt_size e
  have l2 : t2 < s1.heap.objs.size := by obtain ⟨o, e, _⟩ := pb; exact Heap.lt_size e
  show _ ∧ _
  refine ⟨⟨_, g1, rfl⟩, wpAny_pyIter_zip g1 ⟨_, [s1.heap.objs.size + 4, s1.heap.objs.size + 2, s1.heap.objs.size + 3, s1.heap.objs.size, s1.heap.objs.size + 1], _, _, H1, rfl, I1.kept (t' := s1.toks) g6,
    turn_zipL (s1.heap.objs.size + 4) (s1.heap.objs.size + 2) (s1.heap.objs.size + 3) s1.heap.objs.size (s1.heap.objs.size + 1) t1 t2 ?_ ?_ ?_, ⟨g1, g2, ⟨_, _, g3⟩, g4, g5⟩, fun b hb => ?_, q⟩⟩
  · constructor <;> (intro z; simp only [Nat.add_right_inj, Nat.add_eq_left, Nat.left_eq_add] at z; try omega)
  · exact nne (Nat.lt_of_lt_of_le l1 (Nat.le_add_right _ _))
  · exact nne (Nat.lt_of_lt_of_le l2 (Nat.le_add_right _ _))
  · have hb' : s1.heap.objs.size ≤ b := by
      simp only [List.mem_cons, List.not_mem_nil, or_false] at hb
      rcases hb with rfl | rfl | rfl | rfl | rfl
      · exact Nat.le_add_right _ _
      · exact Nat.le_add_right _ _
      · exact Nat.le_add_right _ _
      · exact Nat.le_refl _
      · exact Nat.le_add_right _ _
    exact I1.fpOk hb' (I1.hok.fresh hb')

end
end L2
set_option Elab.async false
set_option linter.all false
set_option maxRecDepth 100000
namespace L2
open PySem PySem.Spec PyProof.Rows
def Ite (K : PySem.W.Frag) (l : Addr) : It :=
  ⟨fun i H => ∃ xs x, SqL K H l xs ∧ xs[i]? = some x,
   fun i H v H' => ∃ T x, v = .ref T ∧ H T = none ∧ H' = upd H T (.tup [.int i, x]) ∧ ∀ xs, SqL K H l xs → xs[i]? = some x,
   fun i H => ∃ xs, SqL K H l xs ∧ xs.length ≤ i⟩
theorem turn_enum {P : Program} {w : World} {K : PySem.W.Frag} {elts : List Expr} {kc : Nat} {tp : Pos} (e it l : Addr) (hne : e ≠ it) :
    Turn P w K (.Tuple elts kc tp) (Ite K l) [e, it] e (fun i h => (∃ old, IsEnum h e it (i : Int) old) ∧ h.IsListIter it l i) where
  mem := by simp
  obj := fun i h st b hb => by
    obtain ⟨⟨old, Z⟩, o1, e1, _, d1⟩ := st
    simp only [List.mem_cons, List.not_mem_nil, or_false] at hb
    rcases hb with rfl | rfl
    · exact ⟨_, Z, fun _ r => by cases r⟩
    · exact ⟨_, e1, fun _ r => by rw [d1] at r; cases r⟩
  keep := fun i h h' st k => by
    obtain ⟨⟨old, Z⟩, Z1⟩ := st
    exact ⟨⟨old, k e (by simp) _ Z⟩, Z1.at fun o q => k it (by simp) o q⟩
  item := by
    intro X hP hw hK hc i pins s σ H E I hf st hg
    subst hP hw hK
    obtain ⟨xs, x, h1, ex⟩ := hg
    obtain ⟨us, r1, p1, _⟩ := I.list h1
    obtain ⟨ux, eu, rx⟩ := r1.get ex
    obtain ⟨⟨old, Z⟩, Z1⟩ := st
    refine wpAny_pyNext_enum_item Z Z1 p1.isList (x := ux) (by simpa using eu) hne fun h' Zo Zi pr sz kk => ⟨_, rfl, ?_⟩
    refine wpAny_letOwnedTupleGo_enum (s := { s with heap := h', toks := s.toks + 1 }) Zo fun h2' Zz' sb => ?_
    replace sb : Heap.SameBut e h' h2' := sb
    have hTz : s.heap.objs.size ≠ e := Nat.ne_of_gt (Heap.lt_size Z)
    have kk2 : ∀ c o, c ≠ e → c ≠ it → s.heap.get? c = some o → h2'.get? c = some o := fun c o c1 c2 q => (sb.2 c c1).trans (kk c o c1 c2 q)
    have prT : h2'.get? s.heap.objs.size = some { cls := .type "tuple", data := .seq #[.int i s.toks, ux] } := (sb.2 _ hTz).trans pr
    have hT : H s.heap.objs.size = none := I.hok.fresh (Nat.le_refl _)
    have neC : ∀ b, b ∉ [e, it] → b ≠ e ∧ b ≠ it := fun b hb => by simpa using hb
    have trk : ∀ b u, H b = some u → b ≠ e ∧ b ≠ it := fun b u q => by
      refine ⟨?_, ?_⟩ <;> rintro rfl
      · rw [(hf b (by simp)).1] at q; cases q
      · rw [(hf b (by simp)).1] at q; cases q
    have ltT : ∀ b o, s.heap.get? b = some o → b ≠ s.heap.objs.size := fun b o q => Nat.ne_of_lt (Heap.lt_size q)
    have u : Un (frs X.stack) [e, it] H (upd H s.heap.objs.size (.tup [.int i, x])) s.heap h2' :=
      ⟨fun b o q n _ hb => by obtain ⟨c1, c2⟩ := neC b hb; exact kk2 b o c1 c2 q, fun b o q n _ hb => by obtain ⟨c1, c2⟩ := neC b hb; exact ⟨o.slots, kk2 b o c1 c2 q⟩,
        fun b o q n hb => by rw [upd_ne (ltT b o q)]; exact n, fun b o q hb => by obtain ⟨c1, c2⟩ := neC b hb; exact ⟨o, kk2 b o c1 c2 q⟩,
        fun b ws q => by rw [upd_ne (ne_of_none q hT)]; exact q, fun b o ws q => by rw [upd_ne (ne_of_none q hT)]; exact q, fun b ps q => ⟨#[], by rw [upd_ne (ne_of_none q hT), q]; simp⟩⟩
    have hok : HOk X.prog X.w (upd H s.heap.objs.size (.tup [.int i, x])) h2' := fun b ob q => by
      by_cases hb : b = s.heap.objs.size
      · subst hb
        rw [upd_same] at q; cases q
        exact ⟨by show 2 ≤ sizeLine; decide, [.int i s.toks, ux], .cons ⟨_, rfl⟩ (.cons rx .nil), _, prT, rfl, 0, rfl⟩
      · rw [upd_ne hb] at q
        refine (I.hok b ob q).stay (fun c v hc' qc => ?_) (fun c q => by rw [upd_ne (ne_of_none q hT)]; exact q) fun c ws q => by rw [upd_ne (ne_of_none q hT)]; exact q
        have : ∃ o, H c = some o := by
          rcases hc' with rfl | hc'
          · exact ⟨_, q⟩
          · exact ⟨_, hc'⟩
        obtain ⟨o, ho⟩ := this
        obtain ⟨c1, c2⟩ := trk c o ho
        exact kk2 c v c1 c2 qc
    refine ⟨.ref s.heap.objs.size, upd H s.heap.objs.size (.tup [.int i, x]), ?_, rfl, ⟨_, x, rfl, hT, rfl, fun xs' h => by rw [I.list_inj h h1]; exact ex⟩,
      ⟨⟨_, by rw [Int.natCast_add]; exact Zz'⟩, Zi.at fun o q => (sb.2 _ hne.symm).trans q⟩, fun b hb => ?_⟩
    · refine I.call' (s' := { s with heap := h2', toks := s.toks + 1 }) (ch := [e, it]) rfl u hok I.bare fun b hb => ?_
      obtain ⟨_, z1, z2, z3, z4, z5⟩ := hf b hb
      exact ⟨z3, z1, z4, z5⟩
    · obtain ⟨o, q⟩ : ∃ o, s.heap.get? b = some o := by
        obtain ⟨o1, e1, _⟩ := Z1
        simp only [List.mem_cons, List.not_mem_nil, or_false] at hb
        rcases hb with rfl | rfl
        · exact ⟨_, Z⟩
        · exact ⟨_, e1⟩
      rw [upd_ne (ltT b o q)]; exact (hf b hb).1
  done := by
    intro X hP hw hK hc i pins s σ H E I hf st hg
    subst hP hw hK
    obtain ⟨xs, h1, en⟩ := hg
    obtain ⟨us, r1, p1, _⟩ := I.list h1
    have l1 := r1.length
    obtain ⟨⟨old, Z⟩, Z1⟩ := st
    obtain ⟨f0, f1, f2, f3, f4, f5⟩ := hf it (by simp)
    exact wpAny_pyNext_enum_end (I.ok.hd hc) Z Z1 p1.isList (by simp; omega) fun h' eb => ⟨rfl, I.turned (t' := s.toks) (fun b o hb q => eb b o hb q) f0 f1 f3 f4 f5⟩
  self := fun _ _ _ _ _ st h => by obtain ⟨⟨old, Z⟩, _⟩ := st; exact wpAny_pyIter_enum Z h
def iEnum (K : PySem.W.Frag) (t : TA) : TI := fun σ H R => t σ H fun vs H1 => ∃ l xs, vs = [.ref l] ∧ H1 l = some (.lst xs) ∧ R (Ite K l) H1
theorem pi_enum {X : Cx} {a : Expr} {ta : TA} {p pos tp : Pos} {elts : List Expr} {kc : Nat} (hg : Gl X "enumerate") (hm : X.mg "enumerate" = none) (ha : PA X [a] ta) (hs : starEach [a] X.env = [(false, eval a X.env)] := by rfl) :
    PI X (.Tuple elts kc tp) (.Call (.Name "enumerate" p) [a] [] pos) (iEnum X.K ta) := by
  intro pins s σ H R I h
  refine Call_ (ld_blt I hg hm (by decide +kernel : bootBuiltins "enumerate" = some (.type "enumerate")) (PyProof.Rows.callWith_type1 (thn (ha pos pins s σ H _ I h) fun us s1 ⟨vs, H1, I1, r1, q1⟩ => ?_) (by rw [hs]; rfl) (by rfl)))
  obtain ⟨l, xs, e, hl, q⟩ := q1
  subst e
  obtain ⟨u1, rfl, ru1⟩ := vals1 r1
  cases (show u1 = Value.ref l from ru1)
  obtain ⟨z, its, n, rv, hol⟩ := (show ObjOk X.prog X.w H1 s1.heap l (.lst xs) from I1.hok l _ hl)
  refine callType_new F.called_enumerate (by decide) (F.typeCall_enumerate_1 _) (F.newCall_enumerate_1 _) (fun obj => F.args_object_init_2 obj _) F.entry_enumerate_new (meets_enumerate_new l its.toArray n) ⟨hol, ?_⟩
  have z1 : (s1.heap.push { cls := .type "list_iterator", data := .fields #[.ref l, .int 0 0] }).objs.size = s1.heap.objs.size + 1 := Heap.size_push ..
  have g1 : IsEnum ((s1.heap.push { cls := .type "list_iterator", data := .fields #[.ref l, .int 0 0] }).push { cls := .type "enumerate", data := .fields #[.none, .bool false, .ref s1.heap.objs.size, rawInt 0, .none, .none] }) (s1.heap.push { cls := .type "list_iterator", data := .fields #[.ref l, .int 0 0] }).objs.size s1.heap.objs.size 0 .none := Heap.get?_push_size _ rfl
  have g2 : ((s1.heap.push { cls := .type "list_iterator", data := .fields #[.ref l, .int 0 0] }).push { cls := .type "enumerate", data := .fields #[.none, .bool false, .ref s1.heap.objs.size, rawInt 0, .none, .none] }).IsListIter s1.heap.objs.size l 0 := ⟨_, Heap.get?_push_of_some _ (Heap.get?_push_size _ rfl), rfl, rfl⟩
  have g3 : ∀ c o, s1.heap.get? c = some o → ((s1.heap.push { cls := .type "list_iterator", data := .fields #[.ref l, .int 0 0] }).push { cls := .type "enumerate", data := .fields #[.none, .bool false, .ref s1.heap.objs.size, rawInt 0, .none, .none] }).get? c = some o := fun c o e => Heap.get?_push_of_some _ (Heap.get?_push_of_some _ e)
  rw [z1] at g1 ⊢
  show _ ∧ _
  refine ⟨⟨_, g1, rfl⟩, wpAny_pyIter_enum g1 ⟨s1.heap.objs.size + 1, [s1.heap.objs.size + 1, s1.heap.objs.size], _, _, H1, rfl, I1.kept (t' := s1.toks) g3, turn_enum (s1.heap.objs.size + 1) s1.heap.objs.size l (Nat.succ_ne_self _), ⟨⟨_, g1⟩, g2⟩, fun b hb => ?_, q⟩⟩
  have hb' : s1.heap.objs.size ≤ b := by
    simp only [List.mem_cons, List.not_mem_nil, or_false] at hb
    rcases hb with rfl | rfl
    · exact Nat.le_add_right _ _
    · exact Nat.le_refl _
  exact I1.fpOk hb' (I1.hok.fresh hb')
end L2
set_option Elab.async false
set_option linter.all false
set_option maxRecDepth 100000
namespace L2
open PySem PySem.Spec PyProof.Rows
section
variable {prog : Program} {w : World} {A : Around} {E : Value → Shared → Prop} {s : Shared}
structure ZTM (z TI TO j1 j2 t1 t2 : Addr) (f0 : Value) (i1 i2 : Nat) (h : Heap) : Prop where
  z : IsZip h z TI TO f0
  ti : IsPair h TI (.ref j1) (.ref j2)
  to : ∃ a b, IsPair h TO a b
  i1 : h.IsListIter j1 t1 i1
  i2 : h.IsTupleIter j2 t2 i2
section
variable {z TI TO j1 j2 t1 t2 : Addr} {i : Nat} {xs ys : Array Value}
end
end

section
variable {X : Cx}
end
end L2
set_option Elab.async false
set_option linter.all false
set_option maxRecDepth 100000
namespace L2
open PySem PySem.Spec PyProof.Rows
structure RunsZ (J : It) (H : Hp) (N : Nat) (xs ys : List V) : Prop where
  go : ∀ i H', i < N → Same H H' → J.go i H'
  stop : ∀ H', Same H H' → J.stop N H'
  yld : ∀ i v H2 H3, Same H H2 → J.yld i H2 v H3 → ∃ T x y, v = .ref T ∧ H2 T = none ∧ H3 = upd H2 T (.tup [x, y]) ∧ xs[i]? = some x ∧ ys[i]? = some y
section
variable {J : It} {D : Addr} {n N : Nat} {js : List Nat} {σ : St} {g : TG} {tt : TT} {te : TE} {Z : Hp → Prop} {H : Hp} {xs ys : List V}
end
end L2
section
set_option maxHeartbeats 4000000
set_option Elab.async false
set_option linter.all false
set_option maxRecDepth 100000
namespace L2
open PySem PySem.Spec PyProof.Rows
def KIt (k : Bool) (h : Heap) (j t : Addr) (i : Nat) : Prop := match k with | true => h.IsTupleIter j t i | false => h.IsListIter j t i
def KSq (k : Bool) (h : Heap) (t : Addr) (xs : Array Value) : Prop := match k with | true => h.IsTuple t xs | false => h.IsList t xs
theorem KIt.at {k : Bool} {h h' : Heap} {j t : Addr} {i : Nat} (x : KIt k h j t i) (e : ∀ o, h.get? j = some o → h'.get? j = some o) : KIt k h' j t i := by
  cases k
  · exact Heap.IsListIter.at x e
  · exact Heap.IsTupleIter.at x e
theorem KIt.ob {k : Bool} {h : Heap} {j t : Addr} {i : Nat} (x : KIt k h j t i) : ∃ o, h.get? j = some o ∧ ∀ v, o.data ≠ .cell v := by
  cases k
  · obtain ⟨o, e, _, d⟩ := x; exact ⟨o, e, fun _ r => by rw [d] at r; cases r⟩
  · obtain ⟨o, e, _, d⟩ := x; exact ⟨o, e, fun _ r => by rw [d] at r; cases r⟩
theorem KSq.keep {k : Bool} {h h' : Heap} {t : Addr} {xs : Array Value} (x : KSq k h t xs) (e : ∀ o, h.get? t = some o → h'.get? t = some o) : KSq k h' t xs := by
  cases k
  · obtain ⟨o, ho, r⟩ := x; exact ⟨o, e _ ho, r⟩
  · obtain ⟨o, ho, r⟩ := x; exact ⟨o, e _ ho, r⟩
theorem KSq.push {k : Bool} {h : Heap} {t : Addr} {xs : Array Value} {ob : Obj} (x : KSq k h t xs) : KSq k (h.push ob) t xs := x.keep fun _ e => Heap.get?_push_of_some _ e
theorem KSq.lt {k : Bool} {h : Heap} {t : Addr} {xs : Array Value} (x : KSq k h t xs) : t < h.objs.size := by
  cases k
  · obtain ⟨o, ho, r⟩ := x; exact Heap.lt_size ho
  · obtain ⟨o, ho, r⟩ := x; exact Heap.lt_size ho
section
variable {prog : Program} {w : World} {A : Around} {E : Value → Shared → Prop} {s : Shared}
end
structure ZN2 (z TI TO j1 j2 : Addr) : Prop where
  z_TI : z ≠ TI
  z_TO : z ≠ TO
  z_j1 : z ≠ j1
  z_j2 : z ≠ j2
  TI_TO : TI ≠ TO
  TI_j1 : TI ≠ j1
  TI_j2 : TI ≠ j2
  TO_j1 : TO ≠ j1
  TO_j2 : TO ≠ j2
  j1_j2 : j1 ≠ j2
abbrev IsT2 (h : Heap) (T : Addr) (a1 a2 : Value) : Prop := h.get? T = some { cls := .type "tuple", data := .seq #[a1, a2] }
section
variable {prog : Program} {w : World} {A : Around} {E : Value → Shared → Prop} {s : Shared}
structure ZS2 (z TI TO j1 j2 t1 t2 : Addr) (k1 k2 : Bool) (f0 : Value) (i : Nat) (h : Heap) : Prop where
  z : IsZip h z TI TO f0
  ti : IsT2 h TI (.ref j1) (.ref j2)
  to : ∃ a1 a2, IsT2 h TO a1 a2
  i1 : KIt k1 h j1 t1 i
  i2 : KIt k2 h j2 t2 i
variable {z TI TO j1 j2 t1 t2 : Addr} {k1 k2 : Bool} {i : Nat} {xs1 xs2 : Array Value}
end
section
variable {X : Cx}
end
structure ZN3 (z TI TO j1 j2 j3 : Addr) : Prop where
  z_TI : z ≠ TI
  z_TO : z ≠ TO
  z_j1 : z ≠ j1
  z_j2 : z ≠ j2
  z_j3 : z ≠ j3
  TI_TO : TI ≠ TO
  TI_j1 : TI ≠ j1
  TI_j2 : TI ≠ j2
  TI_j3 : TI ≠ j3
  TO_j1 : TO ≠ j1
  TO_j2 : TO ≠ j2
  TO_j3 : TO ≠ j3
  j1_j2 : j1 ≠ j2
  j1_j3 : j1 ≠ j3
  j2_j3 : j2 ≠ j3
abbrev IsT3 (h : Heap) (T : Addr) (a1 a2 a3 : Value) : Prop := h.get? T = some { cls := .type "tuple", data := .seq #[a1, a2, a3] }
section
variable {prog : Program} {w : World} {A : Around} {E : Value → Shared → Prop} {s : Shared}
structure ZS3 (z TI TO j1 j2 j3 t1 t2 t3 : Addr) (k1 k2 k3 : Bool) (f0 : Value) (i : Nat) (h : Heap) : Prop where
  z : IsZip h z TI TO f0
  ti : IsT3 h TI (.ref j1) (.ref j2) (.ref j3)
  to : ∃ a1 a2 a3, IsT3 h TO a1 a2 a3
  i1 : KIt k1 h j1 t1 i
  i2 : KIt k2 h j2 t2 i
  i3 : KIt k3 h j3 t3 i
variable {z TI TO j1 j2 j3 t1 t2 t3 : Addr} {k1 k2 k3 : Bool} {i : Nat} {xs1 xs2 xs3 : Array Value}
end
section
variable {X : Cx}
end
def HSq (k : Bool) (H : Hp) (a : Addr) (xs : List V) : Prop := match k with | true => H a = some (.tup xs) | false => H a = some (.lst xs)
theorem HSq.same {k : Bool} {H H' : Hp} {a : Addr} {xs : List V} (h : HSq k H a xs) (e : Same H H') : HSq k H' a xs := by
  cases k <;> exact e _ _ h
theorem HSq.ne {k : Bool} {H : Hp} {a b : Addr} {xs : List V} (h : HSq k H a xs) (e : H b = none) : a ≠ b := fun z => by
  cases k
  · have h : H a = some (.lst xs) := h
    rw [z, e] at h; cases h
  · have h : H a = some (.tup xs) := h
    rw [z, e] at h; cases h
theorem HSq.upd {k : Bool} {H : Hp} {a l : Addr} {xs : List V} {o : HO} (h : HSq k H a xs) (n : a ≠ l) : HSq k (upd H l o) a xs := by
  cases k
  · show L2.upd H l o a = _; rw [upd_ne n]; exact h
  · show L2.upd H l o a = _; rw [upd_ne n]; exact h
end L2
end
namespace KM
theorem minus_eq (a b : Rat) : Rat.divInt (a.num * b.den - b.num * a.den) (a.den * b.den) = a - b := by
  rw [Rat.sub_def', ← Rat.divInt_ofNat]; simp
theorem divInt_lt {a b d : Int} (hd : 0 < d) : Rat.divInt a d < Rat.divInt b d ↔ a < b := by
  rw [Rat.divInt_eq_div, Rat.divInt_eq_div]
  have h : (0 : Rat) < d := Rat.intCast_pos.mpr hd
  rw [Rat.div_lt_iff h, Rat.div_mul_cancel (by grind)]; exact Rat.intCast_lt_intCast
theorem divInt_zero' (d : Int) : Rat.divInt 0 d = 0 := by simp
theorem divInt_nn {a d : Int} (hd : 0 < d) (h : 0 ≤ a) : 0 ≤ Rat.divInt a d := by
  have := divInt_lt (a := a) (b := 0) hd
  rw [divInt_zero'] at this
  rw [← Rat.not_lt, this]; omega
section
variable {x s : Rat}
end
section
variable {x : Rat} {f : Int}
end
end KM
section
set_option maxHeartbeats 4000000
set_option Elab.async false
set_option linter.all false
set_option maxRecDepth 100000
namespace KM
def mo (l r : Rat × Rat) : Rat := (r.1 - l.1) / (l.2 - r.2)
def stepR (f : Option Rat) (p : (Rat × Rat) × (Rat × Rat)) : Option Rat :=
  if p.2.2 < p.1.2 then (match f with
    | none => some (mo p.1 p.2)
    | some u => if mo p.1 p.2 < u then some (mo p.1 p.2) else some u) else f
def soonR (ch : List (Rat × Rat)) : Option Rat := (ch.zip ch.tail).foldl stepR none
theorem mul_den (x : Rat) : x * ((x.den : Int) : Rat) = ((x.num : Int) : Rat) := by
  have h := Rat.num_divInt_den x
  rw [Rat.divInt_eq_div] at h
  have hd : ((x.den : Int) : Rat) ≠ 0 := by
    intro z
    exact den_ne x (by exact_mod_cast z)
  have e : x * ((x.den : Int) : Rat) = ((x.num : Int) : Rat) / ((x.den : Int) : Rat) * ((x.den : Int) : Rat) := by rw [h]
  rw [e]; grind
theorem byq {x : Rat} {b : Int} (h : (x.den : Int) ∣ b) : ((x.num * b.fdiv (x.den : Int) : Int) : Rat) = x * (b : Rat) := by
  obtain ⟨k, rfl⟩ := h
  rw [Int.mul_fdiv_cancel_left _ (den_ne x)]
  have e := mul_den x
  rw [Rat.intCast_mul, Rat.intCast_mul, ← Rat.mul_assoc, e]
theorem momq (tk : Rat) {a b : Int} (hb : b ≠ 0) : Rat.divInt (a * tk.num) (b * (tk.den : Int)) = (a : Rat) * tk / (b : Rat) := by
  have e := mul_den tk
  have hd : ((tk.den : Int) : Rat) ≠ 0 := by
    intro z
    exact den_ne tk (by exact_mod_cast z)
  have hb' : ((b : Int) : Rat) ≠ 0 := by
    intro z
    exact hb (by exact_mod_cast z)
  rw [Rat.divInt_eq_div, Rat.intCast_mul, Rat.intCast_mul, ← e]
  grind
theorem mo_scale {l r : Rat × Rat} {p s : Rat} (hp : 0 < p) (hs : 0 < s) (h : r.2 < l.2) : (r.1 * p - l.1 * p) * (s / p) / (l.2 * s - r.2 * s) = mo l r := by
  unfold mo
  have h1 : l.2 - r.2 ≠ 0 := by grind
  have h2 : l.2 * s - r.2 * s = (l.2 - r.2) * s := by grind
  rw [h2]
  have h3 : p ≠ 0 := by grind
  have h4 : s ≠ 0 := by grind
  have h5 : (l.2 - r.2) * s ≠ 0 := by
    intro z
    rcases Rat.mul_eq_zero.mp z with y | y
    · exact h1 y
    · exact h4 y
  grind
theorem frac_lt {a b c d t : Rat} (hb : 0 < b) (hd : 0 < d) (ht : 0 < t) : a * t / b < c * t / d ↔ a * d < c * b := by
  rw [Rat.div_lt_iff hb]
  have e : c * t / d * b = (c * b * t) / d := by
    have : d ≠ 0 := by grind
    grind
  rw [e, Rat.lt_div_iff hd]
  have e2 : a * t * d = a * d * t := by grind
  rw [e2, Rat.mul_lt_mul_right ht]
theorem mem_zipt {α : Type} {L : List α} {p : α × α} (h : p ∈ L.zip L.tail) : ∃ i, L[i]? = some p.1 ∧ L[i + 1]? = some p.2 := by
  obtain ⟨i, hi⟩ := List.getElem?_of_mem h
  rw [List.getElem?_zip_eq_some] at hi
  refine ⟨i, hi.1, ?_⟩
  have := hi.2
  rw [List.getElem?_tail] at this
  exact this
def lineL (pl m : Rat) (ss : List Rat) : List (Rat × Rat) := ss.map fun s => (pl - s * m, s)
end KM
end
set_option Elab.async false
set_option linter.all false
set_option maxRecDepth 100000
namespace KK
open PySem L2
def top (i : Nat) : Stmt := PySem.Challenge.pw_clackrow_k10_next_comings_told.main.body.getD i (.Pass ⟨0, 0, 0, 0⟩)
abbrev s_is_whole : Stmt := top 5
abbrev s_greatest_divisor : Stmt := top 6
abbrev s_ratio : Stmt := top 7
abbrev s_minus : Stmt := top 8
abbrev s_over : Stmt := top 9
abbrev s_less : Stmt := top 10
abbrev s_least_multiple : Stmt := top 13
abbrev s_common_bottom : Stmt := top 14
abbrev s_track_of : Stmt := top 15
abbrev s_moment_of : Stmt := top 16
abbrev s_shut_moment : Stmt := top 17
abbrev s_soonest : Stmt := top 18
abbrev s_spot_at : Stmt := top 19
abbrev s_side_at : Stmt := top 20
abbrev s_groups_at : Stmt := top 21
abbrev s_wall_of : Stmt := top 22
abbrev s_came_to_wall : Stmt := top 23
abbrev s_first_ticks : Stmt := top 25
abbrev s_next_coming : Stmt := top 26
abbrev s_law_cell : Stmt := top 28
abbrev s_law_left : Stmt := top 29
abbrev s_law_next : Stmt := top 30
abbrev s_law_wide : Stmt := top 31
abbrev s_law_low : Stmt := top 32
abbrev s_law_add : Stmt := top 33
abbrev s_law_off : Stmt := top 34
abbrev s_law_by : Stmt := top 35
abbrev s_law_part : Stmt := top 36
abbrev s_law_below : Stmt := top 37
abbrev s_law_ratio : Stmt := top 38
abbrev s_law_speed : Stmt := top 39
abbrev s_law_gap : Stmt := top 40
abbrev s_law_weights : Stmt := top 41
abbrev s_law_row : Stmt := top 42
abbrev s_law_bound : Stmt := top 43
abbrev s_law_box : Stmt := top 44
abbrev s_law_bundle : Stmt := top 45
abbrev s_law_focused : Stmt := top 46
abbrev s_law_double : Stmt := top 47
abbrev s_law_on : Stmt := top 48
abbrev s_law_closing : Stmt := top 49
abbrev s_law_soonest : Stmt := top 50
abbrev s_law_groups : Stmt := top 51
abbrev s_law_drawn : Stmt := top 52
abbrev s_law_due : Stmt := top 53
abbrev s_law_asked : Stmt := top 54
abbrev s_law : Stmt := top 55
abbrev s_shut_init : Stmt := inClass (top 3) 0
abbrev s_course_init : Stmt := inClass (top 12) 0
end KK
set_option Elab.async false
set_option linter.all false
set_option maxRecDepth 100000
namespace KK
open PySem L2
structure TxB (K : PySem.W.Frag) (mg : Str → Option Value) : Prop where
  ii : PySem.W.kitOne K (.type "int") (.type "int") = some true
  ib : PySem.W.kitOne K (.type "int") (.type "bool") = some false
  nIs : mg "isinstance" = none
  nInt : mg "int" = none
  nBool : mg "bool" = none
  nAbs : mg "abs" = none
  nLen : mg "len" = none
  nMax : mg "max" = none
  nMin : mg "min" = none
  nRange : mg "range" = none
  nTuple : mg "tuple" = none
  nSum : mg "sum" = none
section
variable {P : Program} {w : World} {K : PySem.W.Frag} {mg : Str → Option Value} {base : Heap}

def spWhole : Sp := fun vs H Q _ => ∃ i, vs = [.int i] ∧ Q (.bl true) H
theorem sc_whole : FnScope ["thing"] ["thing"] (defScope s_is_whole) := ⟨rfl, rfl, rfl, by decide +kernel, rfl, by decide +kernel, by decide +kernel⟩
theorem ok_whole (D : Df K mg "is_whole" s_is_whole ["thing"] []) (T : TxB K mg) : Cal P w K mg base "is_whole" 1 ["thing"] [] spWhole := by
  refine D.cal (k := 0) sc_whole (fun vs H Q E h => by obtain ⟨i, rfl, _⟩ := h; rfl) (fun f cdv A outer s H vs Q E hr h => ?_)
  obtain ⟨i, rfl, k⟩ := h
  refine ⟨_, pss_one (ps_ret (pe_and
    (pe_callB call_isinst rfl T.nIs PyProof.Rows.boot_isinstance (pa_cons (pv 0) (pa_cons (pe_bltn (v := .ty "int") (u := .type "int") rfl T.nInt PyProof.Rows.boot_int rfl) pa_nil)))
    (pe_one (pe_not (pe_callB call_isinst rfl T.nIs PyProof.Rows.boot_isinstance (pa_cons (pv 0) (pa_cons (pe_bltn (v := .ty "bool") (u := .type "bool") rfl T.nBool (by decide +kernel) rfl) pa_nil))))))), ?_⟩
  refine ⟨_, rfl, _, _, _, true, rfl, .int i, T.ii, true, rfl, iteT ?_⟩
  exact ⟨_, rfl, _, _, _, false, rfl, .int i, T.ib, false, rfl, k⟩

def spGcd : Sp := fun vs H Q _ => ∃ a b : Int, vs = [.int a, .int b] ∧ 0 ≤ a ∧ 0 ≤ b ∧ Q (.int (Int.gcd a b : Nat)) H
theorem sc_gcd : FnScope ["one", "other"] ["one", "other"] (defScope s_greatest_divisor) := ⟨rfl, rfl, rfl, by decide +kernel, rfl, by decide +kernel, by decide +kernel⟩
theorem ok_gcd (D : Df K mg "greatest_divisor" s_greatest_divisor ["one", "other"] []) : Cal P w K mg base "greatest_divisor" 1 ["one", "other"] [] spGcd := by
  refine D.cal (k := 0) sc_gcd (fun vs H Q E h => by obtain ⟨a, b, rfl, _⟩ := h; rfl) (fun f cdv A outer s H vs Q E hr h => ?_)
  obtain ⟨a, b, rfl, ha, hb, k⟩ := h
  refine ⟨_, pss_cons (ps_while PassesOwn.never (pt_cmpR op_gt (pv 1) pe_int (nomark _))
      (pss_one (ps_par (i := 0) (j := 1) rfl sc_gcd.nd rfl rfl (by decide) rfl rfl (pa_cons (pv 1) (pa_cons (pe_op op_mod (pv 0) (pv 1)) pa_nil)) (by rfl))))
    (pss_one (ps_ret (pv 0))), ?_⟩
  refine while_by (fun σ H1 => H1 = H ∧ ∃ x y : Int, σ = [some (.int x), some (.int y)] ∧ 0 ≤ x ∧ 0 ≤ y ∧ Int.gcd x y = Int.gcd a b)
    (fun σ _ => match σ with | [_, some (.int y)] => y.toNat | _ => 0) ⟨rfl, a, b, rfl, ha, hb, rfl⟩ ?_ ?_
  · rintro σ H1 ⟨rfl, x, y, rfl, hx, hy, e⟩
    refine ⟨_, rfl, _, _, rfl, rfl, _, rfl, ite2 (fun h => ?_) (fun h => ?_)⟩
    · have h' : 0 < y := of_decide_eq_true h
      refine ⟨_, rfl, _, rfl, _, rfl, _, _, rfl, rfl, h', _, _, rfl, ⟨rfl, _, _, rfl, hy, Int.emod_nonneg _ (by omega), ?_⟩, ?_⟩
      · rw [KM.gcd_step hx h']; exact e
      · show (x % y).toNat < y.toNat
        have := Int.emod_lt_of_pos x h'
        omega
    · have h' : ¬ 0 < y := fun z => h (decide_eq_true z)
      have : y = 0 := by omega
      subst this
      refine ⟨_, rfl, ?_⟩
      have e2 : x = (Int.gcd a b : Nat) := by rw [← e, Int.gcd_zero_right]; omega
      rw [e2]; exact k
  · rintro σ H1 Q1 Q2 hq ⟨v, e, i, j, e1, e2, k1, e3, q⟩
    exact ⟨v, e, i, j, e1, e2, k1, e3, hq _ _ q⟩

theorem sc_ratio : FnScope ["top", "bottom", "divisor"] ["top", "bottom"] (defScope s_ratio) := ⟨rfl, rfl, rfl, by decide +kernel, rfl, by decide +kernel, by decide +kernel⟩
theorem abs_eq (i : Int) : (if i < 0 then -i else i) = (i.natAbs : Int) := by split <;> omega
theorem ok_ratio {dvs : List V} (D : Df K mg "ratio" s_ratio ["top", "bottom"] dvs) (T : TxB K mg) (cW : Cal P w K mg base "is_whole" 1 ["thing"] [] spWhole) (cG : Cal P w K mg base "greatest_divisor" 1 ["one", "other"] [] spGcd) :
    Cal P w K mg base "ratio" 2 ["top", "bottom"] dvs spLow := by
  refine D.cal (k := 1) sc_ratio (fun vs H Q E h => by obtain ⟨a, b, rfl, _⟩ := h; rfl) (fun f cdv A outer s H vs Q E hr h => ?_)
  obtain ⟨t, b, rfl, hb, hz, k⟩ := h
  refine ⟨_, pss_cons (ps_if (pw_or (pt_not (pt_truth (pe_c cW hr (pa_cons (pv 0) pa_nil)) fun _ => rfl)) (pw_or (pt_not (pt_truth (pe_c cW hr (pa_cons (pv 1) pa_nil)) fun _ => rfl)) (pw_or1 (pt_cmpR op_eq (pv 1) pe_int (nomark _))))).pt pss_never pss_nil)
    (pss_cons (ps_set (i := 2) sc_ratio.nd rfl (Or.inl rfl) (pe_c cG hr (pa_cons (pe_callB call_abs rfl T.nAbs PyProof.Rows.boot_abs (pa_cons (pv 0) pa_nil)) (pa_cons (pe_callB call_abs rfl T.nAbs PyProof.Rows.boot_abs (pa_cons (pv 1) pa_nil)) pa_nil))))
    (pss_cons (ps_if (pt_cmpR op_lt (pv 1) pe_int (nomark _)) (pss_one (ps_set (i := 2) sc_ratio.nd rfl (Or.inl rfl) (pe_un un_neg (pv 2)))) pss_nil)
    (pss_one (ps_ret (pe_tup (pa_cons (pe_op op_fdivB (pv 0) (pv 2)) (pa_cons (pe_op op_fdivB (pv 1) (pv 2)) pa_nil))))))), ?_⟩
  refine ⟨_, rfl, t, rfl, true, rfl, iteF ?_⟩
  refine ⟨_, rfl, b, rfl, true, rfl, iteF ?_⟩
  refine ⟨_, rfl, rfl, _, rfl, ite2 (fun h => absurd (of_decide_eq_true h) (by intro z; injection z with z; exact hb z)) (fun _ => ?_)⟩
  refine ⟨_, rfl, t, rfl, ⟨_, rfl, b, rfl, ⟨_, _, rfl, (by rw [abs_eq]; omega), (by rw [abs_eq]; omega), ?_⟩⟩⟩
  have hd := KM.dv_ne (t := t) hb
  have hdz : Bd 8900 (KM.dv t b) := hz.of_le (KM.dv_le hb)
  have fin : ∀ σ : St, σ = [some (.int t), some (.int b), some (.int (KM.dv t b))] → tRet (tTup (tCons (tOp (rI CDivB fun i j => V.int (i.fdiv j)) (tVar 0) (tVar 2)) (tCons (tOp (rI CDivB fun i j => V.int (i.fdiv j)) (tVar 1) (tVar 2)) tNil))) { nx := fun _ H' => Q .non H', rt := Q } σ H := by
    rintro σ rfl
    refine ⟨_, rfl, _, rfl, _, _, rfl, rfl, ⟨hd, hdz⟩, _, rfl, _, rfl, _, _, rfl, rfl, ⟨hd, hdz⟩, ?_⟩
    refine ⟨by show 2 ≤ sizeLine; decide, fun p hp => k p _ (Same.upd hp) ?_⟩
    show upd H p _ p = _
    rw [upd_same]
    dsimp only
    rw [KM.dv_num hb, KM.dv_den hb]; rfl
  have ge : (Int.gcd (if t < 0 then -t else t) (if b < 0 then -b else b) : Nat) = Int.gcd t b := by
    rw [abs_eq, abs_eq]; simp [Int.gcd]
  refine ⟨_, rfl, _, _, rfl, rfl, _, rfl, ite2 (fun h => ?_) (fun h => ?_)⟩
  · have h' : b < 0 := of_decide_eq_true h
    refine ⟨_, rfl, _, rfl, fin _ ?_⟩
    rw [ge]; unfold KM.dv; rw [if_pos h']; rfl
  · have h' : ¬ b < 0 := fun z => h (decide_eq_true z)
    refine fin _ ?_
    rw [ge]; unfold KM.dv; rw [if_neg h']; rfl
end
end KK
set_option Elab.async false
set_option linter.all false
set_option maxRecDepth 100000
namespace KK
open PySem L2
section
variable {P : Program} {w : World} {K : PySem.W.Frag} {mg : Str → Option Value} {base : Heap}
theorem Bd4 {x : Rat} (h : Sz 4000 x) : Bd 1000000 x.num ∧ Bd 1000000 (x.den : Int) := ⟨h.1.mono (by decide), h.2.mono (by decide)⟩
section
variable {x y : Rat} {p q : Addr} {H : Hp}
theorem rd_plus {Q : VK} (hp : RatAt H p x) (hq : RatAt H q y) (hx : Sz 4000 x) (hy : Sz 4000 y) (k : ∀ r H', Same H H' → RatAt H' r (x + y) → Q (.ref r) H') :
    tRet (tCall spLow [] E0 (tCons (tOp (rI0 fun i j => .int (i + j)) (tOp (rI CMulB fun i j => .int (i * j)) (tOp (rIxT K) (tVar 0) (tC (.int 0))) (tOp (rIxT K) (tVar 1) (tC (.int 1)))) (tOp (rI CMulB fun i j => .int (i * j)) (tOp (rIxT K) (tVar 1) (tC (.int 0))) (tOp (rIxT K) (tVar 0) (tC (.int 1)))))
      (tCons (tOp (rI CMulB fun i j => .int (i * j)) (tOp (rIxT K) (tVar 0) (tC (.int 1))) (tOp (rIxT K) (tVar 1) (tC (.int 1)))) tNil))) { nx := fun _ H' => Q .non H', rt := Q } [some (.ref p), some (.ref q)] H := by
  have bx := Bd4 hx
  have b_y := Bd4 hy
  refine ⟨_, rfl, p, _, _, _, rfl, rfl, .of hp, at0 .., _, rfl, q, _, _, _, rfl, rfl, .of hq, at1 .., _, _, rfl, rfl, ⟨bx.1, b_y.2⟩, ?_⟩
  refine ⟨_, rfl, q, _, _, _, rfl, rfl, .of hq, at0 .., _, rfl, p, _, _, _, rfl, rfl, .of hp, at1 .., _, _, rfl, rfl, ⟨b_y.1, bx.2⟩, _, _, rfl, rfl, ?_⟩
  refine ⟨_, rfl, p, _, _, _, rfl, rfl, .of hp, at1 .., _, rfl, q, _, _, _, rfl, rfl, .of hq, at1 .., _, _, rfl, rfl, ⟨bx.2, b_y.2⟩, ?_⟩
  refine ⟨_, _, rfl, Int.mul_ne_zero (KM.den_ne x) (KM.den_ne y), (hx.2.mul hy.2).mono (by decide), fun r H' e h => k r H' e ?_⟩
  rw [← KM.plus_eq]; exact h
theorem rd_times {Q : VK} (hp : RatAt H p x) (hq : RatAt H q y) (hx : Sz 4000 x) (hy : Sz 4000 y) (k : ∀ r H', Same H H' → RatAt H' r (x * y) → Q (.ref r) H') :
    tRet (tCall spLow [] E0 (tCons (tOp (rI CMulB fun i j => .int (i * j)) (tOp (rIxT K) (tVar 0) (tC (.int 0))) (tOp (rIxT K) (tVar 1) (tC (.int 0))))
      (tCons (tOp (rI CMulB fun i j => .int (i * j)) (tOp (rIxT K) (tVar 0) (tC (.int 1))) (tOp (rIxT K) (tVar 1) (tC (.int 1)))) tNil))) { nx := fun _ H' => Q .non H', rt := Q } [some (.ref p), some (.ref q)] H := by
  have bx := Bd4 hx
  have b_y := Bd4 hy
  refine ⟨_, rfl, p, _, _, _, rfl, rfl, .of hp, at0 .., _, rfl, q, _, _, _, rfl, rfl, .of hq, at0 .., _, _, rfl, rfl, ⟨bx.1, b_y.1⟩, ?_⟩
  refine ⟨_, rfl, p, _, _, _, rfl, rfl, .of hp, at1 .., _, rfl, q, _, _, _, rfl, rfl, .of hq, at1 .., _, _, rfl, rfl, ⟨bx.2, b_y.2⟩, ?_⟩
  refine ⟨_, _, rfl, Int.mul_ne_zero (KM.den_ne x) (KM.den_ne y), (hx.2.mul hy.2).mono (by decide), fun r H' e h => k r H' e ?_⟩
  rw [← KM.times_eq]; exact h
end
theorem sc_over : FnScope ["one", "other"] ["one", "other"] (defScope s_over) := ⟨rfl, rfl, rfl, by decide +kernel, rfl, by decide +kernel, by decide +kernel⟩
theorem ok_over (D : Df K mg "over" s_over ["one", "other"] []) (c : Cal P w K mg base "ratio" 2 ["top", "bottom"] [] spLow) : Cal P w K mg base "over" 3 ["one", "other"] [] (spBin (fun x y => Sz2 x y ∧ y ≠ 0) (· / ·)) := by
  refine D.cal (k := 2) sc_over (fun vs H Q E h => by obtain ⟨_, _, _, _, rfl, _⟩ := h; rfl) (fun f cdv A outer s H vs Q E hr h => ?_)
  obtain ⟨p, q, x, y, rfl, hp, hq, ⟨⟨hx, hy⟩, hy0⟩, k⟩ := h
  have bx := Bd4 hx
  have b_y := Bd4 hy
  refine ⟨_, pss_one (ps_ret (pe_c c hr (pa_cons (pe_op op_mulB (pe_ix ix_tup (pv 0) pe_int (fun _ _ => rfl)) (pe_ix ix_tup (pv 1) pe_int (fun _ _ => rfl)))
    (pa_cons (pe_op op_mulB (pe_ix ix_tup (pv 0) pe_int (fun _ _ => rfl)) (pe_ix ix_tup (pv 1) pe_int (fun _ _ => rfl))) pa_nil)))), ?_⟩
  refine ⟨_, rfl, p, _, _, _, rfl, rfl, .of hp, at0 .., _, rfl, q, _, _, _, rfl, rfl, .of hq, at1 .., _, _, rfl, rfl, ⟨bx.1, b_y.2⟩, ?_⟩
  refine ⟨_, rfl, p, _, _, _, rfl, rfl, .of hp, at1 .., _, rfl, q, _, _, _, rfl, rfl, .of hq, at0 .., _, _, rfl, rfl, ⟨bx.2, b_y.1⟩, ?_⟩
  refine ⟨_, _, rfl, Int.mul_ne_zero (KM.den_ne x) (fun z => hy0 (Rat.num_eq_zero.mp z)), (hx.2.mul hy.1).mono (by decide), fun r H' e h => k r H' e ?_⟩
  show RatAt H' r (x / y)
  rw [← KM.over_eq]; exact h

end
end KK
section
set_option maxHeartbeats 4000000
set_option Elab.async false
set_option linter.all false
set_option maxRecDepth 100000
namespace KK
open PySem L2
def Pool (H : Hp) (p : Addr) : Prop := ∃ a b c : Int, H p = some (.lst [.int a, .int b, .int c])
structure Step (p : Addr) (H H' : Hp) : Prop where
  pool : Pool H' p
  keep : ∀ b o, H b = some o → b ≠ p → H' b = some o
theorem Step.trans {p : Addr} {H H1 H2 : Hp} (a : Step p H H1) (b : Step p H1 H2) : Step p H H2 := ⟨b.pool, fun c o e n => b.keep c o (a.keep c o e n) n⟩
theorem Step.same {p : Addr} {H H1 H2 : Hp} (a : Step p H H1) (b : Same H1 H2) : Step p H H2 := ⟨by obtain ⟨x, y, z, e⟩ := a.pool; exact ⟨x, y, z, b _ _ e⟩, fun c o e n => b c o (a.keep c o e n)⟩
theorem Step.pre {p : Addr} {H H1 H2 : Hp} (b : Step p H1 H2) (a : Same H H1) : Step p H H2 := ⟨b.pool, fun c o e n => b.keep c o (a c o e) n⟩
theorem Pool.new {H : Hp} {p l : Addr} {o : HO} (h : Pool H p) (hl : H l = none) : Pool (upd H l o) p := by obtain ⟨a, b, c, e⟩ := h; exact ⟨a, b, c, Same.upd hl _ _ e⟩
theorem Pool.ne {H : Hp} {p l : Addr} (h : Pool H p) (hl : H l = none) : l ≠ p := by obtain ⟨a, b, c, e⟩ := h; exact (ne_of_none e hl).symm
theorem Step.refl {p : Addr} {H : Hp} (h : Pool H p) : Step p H H := ⟨h, fun _ _ e _ => e⟩
theorem Step.tup {p a : Addr} {H H' : Hp} {xs : List V} (s : Step p H H') (hp : Pool H p) (h : H a = some (.tup xs)) : H' a = some (.tup xs) := by
  obtain ⟨_, _, _, e⟩ := hp
  exact s.keep a _ h (ne_of h e (by intro z; cases z))
theorem Step.rat {p a : Addr} {H H' : Hp} {q : Rat} (s : Step p H H') (hp : Pool H p) (h : RatAt H a q) : RatAt H' a q := s.tup hp h
section
variable {P : Program} {w : World} {K : PySem.W.Frag} {mg : Str → Option Value} {base : Heap}
def spDig : Sp := fun vs H Q _ => ∃ c : Int, vs = [.int c] ∧ ∀ p H', H p = none → Same H H' → Pool H' p → Q (.ref p) H'
theorem sc_dig : FnScope ["cell"] ["cell"] (defScope s_law_left) := ⟨rfl, rfl, rfl, by decide +kernel, rfl, by decide +kernel, by decide +kernel⟩
theorem ok_dig (D : Df K mg "_law_left" s_law_left ["cell"] []) (T : TxB K mg) : Cal P w K mg base "_law_left" 1 ["cell"] [] spDig := by
  refine D.cal (k := 0) sc_dig (fun vs H Q E h => by obtain ⟨a, rfl, _⟩ := h; rfl) (fun f cdv A outer s H vs Q E hr h => ?_)
  obtain ⟨c, rfl, k⟩ := h
  refine ⟨_, pss_one (ps_ret (pe_lst (pa_cons (pe_callB (call_max2 rfl) (by rfl) T.nMax PyProof.Rows.boot_max (pa_cons pe_int (pa_cons (pe_op op_sub (pv 0) (pe_op op_pow pe_int pe_int)) pa_nil))) (pa_cons (pe_op op_mod (pv 0) (pe_op op_pow pe_int pe_int)) (pa_cons pe_int pa_nil))))), ?_⟩
  refine ⟨_, rfl, _, _, rfl, rfl, ⟨by decide, by decide, by decide⟩, _, _, rfl, rfl, _, _, rfl, ?_⟩
  refine ⟨_, rfl, _, _, rfl, rfl, ⟨by decide, by decide, by decide⟩, _, _, rfl, rfl, (by show (0 : Int) < 10 ^ 18; decide), (by show 3 ≤ sizeLine; decide), fun p hp => ?_⟩
  exact k p _ hp (Same.upd hp) ⟨_, _, _, upd_same⟩

def spNext : Sp := fun vs H Q _ => ∃ (p : Addr) (n : Int), vs = [.ref p, .int n] ∧ 0 < n ∧ n < 1073741824 ∧ Pool H p ∧ ∀ (d : Int) H', 0 ≤ d → d < n → Step p H H' → Q (.int d) H'
theorem sc_next : FnScope ["pool", "base", "digit", "mixed", "stir"] ["pool", "base"] (defScope s_law_next) := ⟨rfl, rfl, rfl, by decide +kernel, rfl, by decide +kernel, by decide +kernel⟩
theorem step_set {H : Hp} {p : Addr} {a b c : Int} : Step p H (upd H p (.lst [.int a, .int b, .int c])) := ⟨⟨a, b, c, upd_same⟩, fun d o e n => by rw [upd_ne n]; exact e⟩
theorem ok_next (D : Df K mg "_law_next" s_law_next ["pool", "base"] []) : Cal P w K mg base "_law_next" 1 ["pool", "base"] [] spNext := by
  refine D.cal (k := 0) sc_next (fun vs H Q E h => by obtain ⟨a, b, rfl, _⟩ := h; rfl) (fun f cdv A outer s H vs Q E hr h => ?_)
  obtain ⟨p, n, rfl, n0, n1, ⟨a, b, c, hp⟩, k⟩ := h
  refine ⟨_, pss_cons (ps_if (pt_cmpR op_gt (pe_ix ix_list (pv 0) pe_int (fun _ _ => rfl)) pe_int (nomark _))
      (pss_cons (ps_set (i := 2) sc_next.nd rfl (Or.inl rfl) (pe_op op_mod (pe_ix ix_list (pv 0) pe_int (fun _ _ => rfl)) (pv 1)))
      (pss_cons (ps_asg (pe_op op_fdiv (pe_ix ix_list (pv 0) pe_int (fun _ _ => rfl)) (pv 1)) (pg_sub (pv 0) pe_int set_list))
      (pss_one (ps_ret (pv 2))))) pss_nil)
    (pss_cons (ps_asg (pe_op op_add (pe_ix ix_list (pv 0) pe_int (fun _ _ => rfl)) pe_int) (pg_sub (pv 0) pe_int set_list))
    (pss_cons (ps_set (i := 3) sc_next.nd rfl (Or.inl rfl) (pe_op op_mod (pe_op op_add (pe_ix ix_list (pv 0) pe_int (fun _ _ => rfl)) (pe_op op_mul pe_int (pe_ix ix_list (pv 0) pe_int (fun _ _ => rfl)))) pe_int))
    (pss_cons (ps_set (i := 4) sc_next.nd rfl (Or.inl rfl) (pe_op op_mod (pe_op op_mul (pe_op op_add (pv 3) pe_int) (pe_op op_add (pv 3) pe_int)) pe_int))
    (pss_one (ps_ret (pe_op op_mod (pe_op op_fdiv (pe_op op_mod (pe_op op_mul (pv 4) (pv 4)) pe_int) pe_int) (pv 1))))))), ?_⟩
  refine ⟨_, rfl, p, _, _, _, rfl, rfl, .of hp, rfl, _, _, rfl, rfl, _, rfl, ite2 (fun h => ?_) (fun h => ?_)⟩
  · refine ⟨_, rfl, p, _, _, _, rfl, rfl, .of hp, rfl, _, rfl, _, _, rfl, rfl, n0, ?_⟩
    refine ⟨_, rfl, p, _, _, _, rfl, rfl, .of hp, rfl, _, rfl, _, _, rfl, rfl, ⟨n0, n1⟩, ?_⟩
    refine ⟨_, rfl, p, _, _, 0, rfl, rfl, hp, rfl, ?_⟩
    exact ⟨_, rfl, k _ _ (Int.emod_nonneg _ (by omega)) (Int.emod_lt_of_pos _ n0) step_set⟩
  · refine ⟨_, rfl, p, _, _, _, rfl, rfl, .of hp, rfl, _, _, rfl, rfl, ?_⟩
    refine ⟨_, rfl, p, _, _, 2, rfl, rfl, hp, rfl, ?_⟩
    refine ⟨_, rfl, p, _, _, _, rfl, rfl, .of upd_same, rfl, _, rfl, p, _, _, _, rfl, rfl, .of upd_same, rfl, _, _, rfl, rfl, .inl ⟨by decide, by decide⟩, _, _, rfl, rfl, _, _, rfl, rfl, (by show (0 : Int) < 1000000007; decide), ?_⟩
    refine ⟨_, rfl, _, _, rfl, rfl, _, rfl, _, _, rfl, rfl, _, _, rfl, rfl, .inl (by constructor <;> omega), _, _, rfl, rfl, (by show (0 : Int) < 998244353; decide), ?_⟩
    refine ⟨_, rfl, _, rfl, _, _, rfl, rfl, .inl (by constructor <;> omega), _, _, rfl, rfl, (by show (0 : Int) < 2147483647; decide), _, _, rfl, rfl, ⟨by decide, by decide⟩, _, rfl, _, _, rfl, rfl, n0, ?_⟩
    exact k _ _ (Int.emod_nonneg _ (by omega)) (Int.emod_lt_of_pos _ n0) step_set

end
end KK
end
section
set_option maxHeartbeats 4000000
set_option Elab.async false
set_option linter.all false
set_option maxRecDepth 100000
namespace KK
open PySem L2 KM
inductive BallsAt (H : Hp) : List V → List Ball → Prop
  | nil : BallsAt H [] []
  | cons {a p q : Addr} {b : Ball} {vs : List V} {bs : List Ball} : H a = some (.tup [.ref p, .ref q, .int b.wt]) → RatAt H p b.pl → RatAt H q b.sp → BallsAt H vs bs → BallsAt H (.ref a :: vs) (b :: bs)
theorem BallsAt.mono {H H' : Hp} (m : ∀ b xs, H b = some (.tup xs) → H' b = some (.tup xs)) : ∀ {vs : List V} {bs : List Ball}, BallsAt H vs bs → BallsAt H' vs bs
  | _, _, .nil => .nil
  | _, _, .cons h1 h2 h3 t => .cons (m _ _ h1) (m _ _ h2) (m _ _ h3) (BallsAt.mono m t)
theorem BallsAt.same {H H' : Hp} {vs : List V} {bs : List Ball} (h : BallsAt H vs bs) (e : Same H H') : BallsAt H' vs bs := h.mono fun b xs z => e b _ z
theorem BallsAt.step {H H' : Hp} {p : Addr} {vs : List V} {bs : List Ball} (h : BallsAt H vs bs) (s : Step p H H') (hp : Pool H p) : BallsAt H' vs bs := h.mono fun b xs z => s.tup hp z
theorem BallsAt.length {H : Hp} : ∀ {vs : List V} {bs : List Ball}, BallsAt H vs bs → vs.length = bs.length
  | _, _, .nil => rfl
  | _, _, .cons _ _ _ t => by rw [List.length_cons, List.length_cons, BallsAt.length t]
theorem BallsAt.append {H : Hp} {us : List V} {cs : List Ball} (k : BallsAt H us cs) : ∀ {vs : List V} {bs : List Ball}, BallsAt H vs bs → BallsAt H (vs ++ us) (bs ++ cs)
  | _, _, .nil => k
  | _, _, .cons h1 h2 h3 t => .cons h1 h2 h3 (BallsAt.append k t)
theorem BallsAt.one {H : Hp} {a p q : Addr} {b : Ball} (h1 : H a = some (.tup [.ref p, .ref q, .int b.wt])) (h2 : RatAt H p b.pl) (h3 : RatAt H q b.sp) : BallsAt H [.ref a] [b] := .cons h1 h2 h3 .nil
theorem BallsAt.rev {H : Hp} : ∀ {vs : List V} {bs : List Ball}, BallsAt H vs bs → BallsAt H vs.reverse bs.reverse
  | _, _, .nil => .nil
  | _, _, .cons h1 h2 h3 t => by rw [List.reverse_cons, List.reverse_cons]; exact BallsAt.append (.one h1 h2 h3) (BallsAt.rev t)
theorem BallsAt.get {H : Hp} : ∀ {vs : List V} {bs : List Ball} {i : Nat} {v : V}, BallsAt H vs bs → vs[i]? = some v → ∃ (a p q : Addr) (b : Ball), bs[i]? = some b ∧ v = .ref a ∧ H a = some (.tup [.ref p, .ref q, .int b.wt]) ∧ RatAt H p b.pl ∧ RatAt H q b.sp
  | _, _, _, _, .nil, e => by simp at e
  | _, _, 0, _, .cons h1 h2 h3 _, e => by
    simp at e; subst e
    exact ⟨_, _, _, _, rfl, rfl, h1, h2, h3⟩
  | _, _, i + 1, v, .cons _ _ _ t, e => by
    obtain ⟨a, p, q, b, e1, r⟩ := BallsAt.get (i := i) t (by simpa using e)
    exact ⟨a, p, q, b, by simpa using e1, r⟩
theorem BallsAt.last {H : Hp} {vs : List V} {bs : List Ball} {b : Ball} (h : BallsAt H vs (bs ++ [b])) : ∃ (us : List V) (a p q : Addr), vs = us ++ [.ref a] ∧ H a = some (.tup [.ref p, .ref q, .int b.wt]) ∧ RatAt H p b.pl ∧ RatAt H q b.sp := by
  have hl := h.length
  rw [List.length_append, List.length_singleton] at hl
  have hi : bs.length < vs.length := by omega
  obtain ⟨a, p, q, c, e1, e2, r⟩ := h.get (i := bs.length) (List.getElem?_eq_getElem hi)
  rw [List.getElem?_append_right (Nat.le_refl _)] at e1
  simp at e1; subst e1
  refine ⟨vs.take bs.length, a, p, q, ?_, r⟩
  rw [← e2]
  have := List.take_append_getElem hi
  rw [this, List.take_of_length_le (by omega)]
def lexR (b c : Ball) : Prop := b.pl < c.pl ∨ (b.pl = c.pl ∧ b.sp < c.sp)
theorem lexR.trans {a b c : Ball} (h : lexR a b) (k : lexR b c) : lexR a c := by
  unfold lexR at *
  rcases h with h | ⟨h1, h2⟩ <;> rcases k with k | ⟨k1, k2⟩
  · exact .inl (by grind)
  · exact .inl (by grind)
  · exact .inl (by grind)
  · exact .inr ⟨by grind, by grind⟩
structure Good (bs : List Ball) : Prop where
  wt : ∀ b ∈ bs, 1 ≤ b.wt ∧ b.wt ≤ 1000
  sz : ∀ b ∈ bs, Sz 300 b.pl ∧ Sz 80 b.sp
  pw : bs.Pairwise lexR
theorem Good.nil : Good [] := ⟨(fun _ h => nomatch h), (fun _ h => nomatch h), List.Pairwise.nil⟩
theorem Good.snoc {bs : List Ball} {b : Ball} (G : Good bs) (hw : 1 ≤ b.wt ∧ b.wt ≤ 1000) (hs : Sz 300 b.pl ∧ Sz 80 b.sp) (h : ∀ cs c, bs = cs ++ [c] → lexR c b) : Good (bs ++ [b]) := by
  refine ⟨fun x hx => ?_, fun x hx => ?_, ?_⟩
  · rcases List.mem_append.mp hx with z | z
    · exact G.wt x z
    · simp at z; subst z; exact hw
  · rcases List.mem_append.mp hx with z | z
    · exact G.sz x z
    · simp at z; subst z; exact hs
  · rw [List.pairwise_append]
    refine ⟨G.pw, List.pairwise_singleton _ _, fun x hx y hy => ?_⟩
    simp at hy; subst hy
    rcases List.eq_nil_or_concat bs with e | ⟨cs, c, e⟩
    · subst e; exact (nomatch hx)
    · have e' : bs = cs ++ [c] := by simpa using e
      have hc := h cs c e'
      subst e'
      rcases List.mem_append.mp hx with z | z
      · have := (List.pairwise_append.mp G.pw).2.2 x z c (by simp)
        exact this.trans hc
      · simp at z; subst z; exact hc
section
variable {P : Program} {w : World} {K : PySem.W.Frag} {mg : Str → Option Value} {base : Heap}
end
end KK
end
section
set_option maxHeartbeats 4000000
set_option Elab.async false
set_option linter.all false
set_option maxRecDepth 100000
namespace L2
open PySem PySem.Spec PyProof.Rows
section
variable {X : Cx}
theorem bx_op {op : Operator} {r : R2} {a b : Expr} {ta tb : TE} {pos : Pos} (ho : OpR X (binaryOp op) r) (ha : Bx (PE X a ta)) (hb : Bx (PE X b tb)) : Bx (PE X (.BinOp a op b pos) (tOp r ta tb)) := by obtain ⟨ha⟩ := ha; obtain ⟨hb⟩ := hb; exact ⟨pe_op ho ha hb⟩
theorem bx_ix {r : R2} {a b : Expr} {ta tb : TE} {pos : Pos} (hr : IxR X r) (ha : Bx (PE X a ta)) (hb : Bx (PE X b tb)) (hs : PlainIx b) : Bx (PE X (.Subscript a b pos) (tOp r ta tb)) := by obtain ⟨ha⟩ := ha; obtain ⟨hb⟩ := hb; exact ⟨pe_ix hr ha hb hs⟩
theorem bx_out {p : Prop} (h : Bx p) : p := by obtain ⟨h⟩ := h; exact h
end
end L2
namespace KK
open PySem L2 KM
theorem pg_tupK {X : Cx} {es : List Expr} {k : Nat} {pos : Pos} {t : TGs} {n : Nat} {K : PySem.W.Frag} (hK : X.K = K) (hc : X.calm = true) (h : PGs X es t)
    (hn : (assignEach es X.env).length = n := by rfl) (hst : (assignEach es X.env).findIdx? (·.1) = none := by rfl) : PG X (.Tuple es k pos) (gTup K n t) := by subst hK; exact pg_tup hc h hn hst
theorem ix_tupK {X : Cx} {K : PySem.W.Frag} (hK : X.K = K) : IxR X (rIxT K) := by subst hK; exact ix_tup
theorem ix_listK {X : Cx} {K : PySem.W.Frag} (hK : X.K = K) : IxR X (rIxL K) := by subst hK; exact ix_list
theorem less_rat (x y : Rat) : decide (x.num * (y.den : Int) < y.num * (x.den : Int)) = decide (x < y) := by
  by_cases h : x < y
  · rw [decide_eq_true h, decide_eq_true ((KM.less_iff x y).mpr h)]
  · rw [decide_eq_false h, decide_eq_false fun z => h ((KM.less_iff x y).mp z)]
theorem bdn {n : Nat} {i : Int} (h0 : 0 ≤ i) (h1 : i < 2 ^ n) : Bd n i := by
  unfold Bd
  have : ((2 ^ n : Nat) : Int) = (2 : Int) ^ n := by push_cast; rfl
  omega
theorem bdz {n : Nat} {i : Int} (h0 : -(2 ^ n) < i) (h1 : i < 2 ^ n) : Bd n i := by
  unfold Bd
  have : ((2 ^ n : Nat) : Int) = (2 : Int) ^ n := by push_cast; rfl
  omega
section
variable {P : Program} {w : World} {K : PySem.W.Frag} {mg : Str → Option Value} {base : Heap}
theorem sc_minus : FnScope ["one", "other"] ["one", "other"] (defScope s_minus) := ⟨rfl, rfl, rfl, by decide +kernel, rfl, by decide +kernel, by decide +kernel⟩
theorem ok_minus (D : Df K mg "minus" s_minus ["one", "other"] []) (c : Cal P w K mg base "ratio" 2 ["top", "bottom"] [] spLow) : Cal P w K mg base "minus" 3 ["one", "other"] [] (spBin Sz2 (· - ·)) := by
  refine D.cal (k := 2) sc_minus (fun vs H Q E h => by obtain ⟨_, _, _, _, rfl, _⟩ := h; rfl) (fun f cdv A outer s H vs Q E hr h => ?_)
  obtain ⟨p, q, x, y, rfl, hp, hq, ⟨hx, hy⟩, k⟩ := h
  have bx := Bd4 hx
  have b_y := Bd4 hy
  refine ⟨_, (pss_one (ps_ret (pe_c c hr (pa_cons (pe_op op_sub (pe_op op_mulB (pe_ix ix_tup (pv 0) pe_int (fun _ _ => rfl)) (pe_ix ix_tup (pv 1) pe_int (fun _ _ => rfl))) (pe_op op_mulB (pe_ix ix_tup (pv 1) pe_int (fun _ _ => rfl)) (pe_ix ix_tup (pv 0) pe_int (fun _ _ => rfl)))) (pa_cons (pe_op op_mulB (pe_ix ix_tup (pv 0) pe_int (fun _ _ => rfl)) (pe_ix ix_tup (pv 1) pe_int (fun _ _ => rfl))) pa_nil))))), ?_⟩
  refine ⟨_, rfl, p, _, _, _, rfl, rfl, .of hp, at0 .., _, rfl, q, _, _, _, rfl, rfl, .of hq, at1 .., _, _, rfl, rfl, ⟨bx.1, b_y.2⟩, _, rfl, q, _, _, _, rfl, rfl, .of hq, at0 .., _, rfl, p, _, _, _, rfl, rfl, .of hp, at1 .., _, _, rfl, rfl, ⟨b_y.1, bx.2⟩, _, _, rfl, rfl, ?_⟩
  refine ⟨_, rfl, p, _, _, _, rfl, rfl, .of hp, at1 .., _, rfl, q, _, _, _, rfl, rfl, .of hq, at1 .., _, _, rfl, rfl, ⟨bx.2, b_y.2⟩, ?_⟩
  refine ⟨_, _, rfl, Int.mul_ne_zero (den_ne x) (den_ne y), (hx.2.mul hy.2).mono (by decide), fun r H' e h => k r H' e ?_⟩
  show RatAt H' r (x - y)
  rw [← KM.minus_eq]; exact h
end
section
variable {P : Program} {w : World} {K : PySem.W.Frag} {mg : Str → Option Value} {base : Heap}
theorem sc_low : FnScope ["top", "bottom", "one", "other"] ["top", "bottom"] (defScope s_law_low) := ⟨rfl, rfl, rfl, by decide +kernel, rfl, by decide +kernel, by decide +kernel⟩
theorem ok_low (D : Df K mg "_law_low" s_law_low ["top", "bottom"] []) (T : TxB K mg) : Cal P w K mg base "_law_low" 1 ["top", "bottom"] [] spLow := by
  refine D.cal (k := 0) sc_low (fun vs H Q E h => by obtain ⟨a, b, rfl, _⟩ := h; rfl) (fun f cdv A outer s H vs Q E hr h => ?_)
  obtain ⟨t, b, rfl, hb, hz, k⟩ := h
  refine ⟨_, (pss_cons (ps_par (i := 2) (j := 3) rfl sc_low.nd rfl rfl (by decide) rfl rfl (pa_cons (pe_callB call_abs (by rfl) T.nAbs PyProof.Rows.boot_abs (pa_cons (pv 0) pa_nil)) (pa_cons (pe_callB call_abs (by rfl) T.nAbs PyProof.Rows.boot_abs (pa_cons (pv 1) pa_nil)) pa_nil)) (by rfl))
    (pss_cons (ps_while PassesOwn.never (pt_cmpR op_ne (pv 3) pe_int (nomark _)) (pss_one (ps_par (i := 2) (j := 3) rfl sc_low.nd rfl rfl (by decide) rfl rfl (pa_cons (pv 3) (pa_cons (pe_op op_mod (pv 2) (pv 3)) pa_nil)) (by rfl))))
    (pss_cons (ps_if (pt_cmpR op_lt (pv 1) pe_int (nomark _)) (pss_one (ps_set (i := 2) sc_low.nd rfl (Or.inl rfl) (pe_op op_sub pe_int (pv 2)))) pss_nil)
    (pss_one (ps_ret (pe_tup (pa_cons (pe_op op_fdivB (pv 0) (pv 2)) (pa_cons (pe_op op_fdivB (pv 1) (pv 2)) pa_nil)))))))), ?_⟩
  have hd := KM.dv_ne (t := t) hb
  have hdz : Bd 8900 (KM.dv t b) := hz.of_le (KM.dv_le hb)
  have ge : (Int.gcd (if t < 0 then -t else t) (if b < 0 then -b else b) : Nat) = Int.gcd t b := by
    rw [abs_eq, abs_eq]; simp [Int.gcd]
  refine ⟨_, rfl, t, rfl, ⟨_, rfl, b, rfl, _, _, rfl, ?_⟩⟩
  have fin : ∀ (σ : St) (z : Option V), σ = [some (.int t), some (.int b), some (.int (KM.dv t b)), z] → tRet (tTup (tCons (tOp (rI CDivB fun i j => V.int (i.fdiv j)) (tVar 0) (tVar 2)) (tCons (tOp (rI CDivB fun i j => V.int (i.fdiv j)) (tVar 1) (tVar 2)) tNil))) { nx := fun _ H' => Q .non H', rt := Q } σ H := by
    rintro σ z rfl
    refine ⟨_, rfl, _, rfl, _, _, rfl, rfl, ⟨hd, hdz⟩, _, rfl, _, rfl, _, _, rfl, rfl, ⟨hd, hdz⟩, ?_⟩
    refine ⟨by show 2 ≤ sizeLine; decide, fun p hp => k p _ (Same.upd hp) ?_⟩
    show upd H p _ p = _
    rw [upd_same]
    dsimp only
    rw [KM.dv_num hb, KM.dv_den hb]; rfl
  refine while_by (fun σ H1 => H1 = H ∧ ∃ x y : Int, σ = [some (.int t), some (.int b), some (.int x), some (.int y)] ∧ 0 ≤ x ∧ 0 ≤ y ∧ Int.gcd x y = Int.gcd t b)
    (fun σ _ => match σ with | [_, _, _, some (.int y)] => y.toNat | _ => 0) ⟨rfl, _, _, rfl, (by rw [abs_eq]; omega), (by rw [abs_eq]; omega), ge⟩ ?_ ?_
  · rintro σ H1 ⟨rfl, x, y, rfl, hx, hy, e⟩
    refine ⟨_, rfl, rfl, _, rfl, ite2 (fun h => ?_) (fun h => ?_)⟩
    · have h' : 0 < y := by
        have : y ≠ 0 := fun z => by subst z; simp at h
        omega
      refine ⟨_, rfl, _, rfl, _, rfl, _, _, rfl, rfl, h', _, _, rfl, ⟨rfl, _, _, rfl, hy, Int.emod_nonneg _ (by omega), ?_⟩, ?_⟩
      · rw [KM.gcd_step hx h']; exact e
      · show (x % y).toNat < y.toNat
        have := Int.emod_lt_of_pos x h'
        omega
    · have : y = 0 := by simpa using h
      subst this
      have e2 : x = (Int.gcd t b : Nat) := by rw [← e, Int.gcd_zero_right]; omega
      refine ⟨_, rfl, _, _, rfl, rfl, _, rfl, ite2 (fun h => ?_) (fun h => ?_)⟩
      · have h' : b < 0 := of_decide_eq_true h
        refine ⟨_, rfl, 0, _, rfl, rfl, fin _ (some (.int 0)) ?_⟩
        rw [e2]; unfold KM.dv; rw [if_pos h', ← Int.zero_sub]; rfl
      · have h' : ¬ b < 0 := fun z => h (decide_eq_true z)
        refine fin _ (some (.int 0)) ?_
        rw [e2]; unfold KM.dv; rw [if_neg h']
  · rintro σ H1 Q1 Q2 hq ⟨v, e, e1, k1, e3, q⟩
    exact ⟨v, e, e1, k1, e3, hq _ _ q⟩

theorem sc_ladd : FnScope ["a", "b"] ["a", "b"] (defScope s_law_add) := ⟨rfl, rfl, rfl, by decide +kernel, rfl, by decide +kernel, by decide +kernel⟩
theorem ok_ladd (D : Df K mg "_law_add" s_law_add ["a", "b"] []) (cL : Cal P w K mg base "_law_low" 1 ["top", "bottom"] [] spLow) : Cal P w K mg base "_law_add" 2 ["a", "b"] [] (spBin Sz2 (· + ·)) := by
  refine D.cal (k := 1) sc_ladd (fun vs H Q E h => by obtain ⟨_, _, _, _, rfl, _⟩ := h; rfl) (fun f cdv A outer s H vs Q E hr h => ?_)
  obtain ⟨p, q, x, y, rfl, hp, hq, ⟨hx, hy⟩, k⟩ := h
  exact ⟨_, (pss_one (ps_ret (pe_c cL hr (pa_cons (pe_op op_add (pe_op op_mulB (pe_ix ix_tup (pv 0) pe_int (fun _ _ => rfl)) (pe_ix ix_tup (pv 1) pe_int (fun _ _ => rfl))) (pe_op op_mulB (pe_ix ix_tup (pv 1) pe_int (fun _ _ => rfl)) (pe_ix ix_tup (pv 0) pe_int (fun _ _ => rfl)))) (pa_cons (pe_op op_mulB (pe_ix ix_tup (pv 0) pe_int (fun _ _ => rfl)) (pe_ix ix_tup (pv 1) pe_int (fun _ _ => rfl))) pa_nil))))), rd_plus hp hq hx hy k⟩
theorem sc_lby : FnScope ["a", "b"] ["a", "b"] (defScope s_law_by) := ⟨rfl, rfl, rfl, by decide +kernel, rfl, by decide +kernel, by decide +kernel⟩
theorem ok_lby (D : Df K mg "_law_by" s_law_by ["a", "b"] []) (cL : Cal P w K mg base "_law_low" 1 ["top", "bottom"] [] spLow) : Cal P w K mg base "_law_by" 2 ["a", "b"] [] (spBin Sz2 (· * ·)) := by
  refine D.cal (k := 1) sc_lby (fun vs H Q E h => by obtain ⟨_, _, _, _, rfl, _⟩ := h; rfl) (fun f cdv A outer s H vs Q E hr h => ?_)
  obtain ⟨p, q, x, y, rfl, hp, hq, ⟨hx, hy⟩, k⟩ := h
  exact ⟨_, (pss_one (ps_ret (pe_c cL hr (pa_cons (pe_op op_mulB (pe_ix ix_tup (pv 0) pe_int (fun _ _ => rfl)) (pe_ix ix_tup (pv 1) pe_int (fun _ _ => rfl))) (pa_cons (pe_op op_mulB (pe_ix ix_tup (pv 0) pe_int (fun _ _ => rfl)) (pe_ix ix_tup (pv 1) pe_int (fun _ _ => rfl))) pa_nil))))), rd_times hp hq hx hy k⟩
theorem sc_loff : FnScope ["a", "b"] ["a", "b"] (defScope s_law_off) := ⟨rfl, rfl, rfl, by decide +kernel, rfl, by decide +kernel, by decide +kernel⟩
theorem ok_loff (D : Df K mg "_law_off" s_law_off ["a", "b"] []) (cL : Cal P w K mg base "_law_low" 1 ["top", "bottom"] [] spLow) : Cal P w K mg base "_law_off" 2 ["a", "b"] [] (spBin Sz2 (· - ·)) := by
  refine D.cal (k := 1) sc_loff (fun vs H Q E h => by obtain ⟨_, _, _, _, rfl, _⟩ := h; rfl) (fun f cdv A outer s H vs Q E hr h => ?_)
  obtain ⟨p, q, x, y, rfl, hp, hq, ⟨hx, hy⟩, k⟩ := h
  have bx := Bd4 hx
  have b_y := Bd4 hy
  refine ⟨_, (pss_one (ps_ret (pe_c cL hr (pa_cons (pe_op op_sub (pe_op op_mulB (pe_ix ix_tup (pv 0) pe_int (fun _ _ => rfl)) (pe_ix ix_tup (pv 1) pe_int (fun _ _ => rfl))) (pe_op op_mulB (pe_ix ix_tup (pv 1) pe_int (fun _ _ => rfl)) (pe_ix ix_tup (pv 0) pe_int (fun _ _ => rfl)))) (pa_cons (pe_op op_mulB (pe_ix ix_tup (pv 0) pe_int (fun _ _ => rfl)) (pe_ix ix_tup (pv 1) pe_int (fun _ _ => rfl))) pa_nil))))), ?_⟩
  refine ⟨_, rfl, p, _, _, _, rfl, rfl, .of hp, at0 .., _, rfl, q, _, _, _, rfl, rfl, .of hq, at1 .., _, _, rfl, rfl, ⟨bx.1, b_y.2⟩, _, rfl, q, _, _, _, rfl, rfl, .of hq, at0 .., _, rfl, p, _, _, _, rfl, rfl, .of hp, at1 .., _, _, rfl, rfl, ⟨b_y.1, bx.2⟩, _, _, rfl, rfl, ?_⟩
  refine ⟨_, rfl, p, _, _, _, rfl, rfl, .of hp, at1 .., _, rfl, q, _, _, _, rfl, rfl, .of hq, at1 .., _, _, rfl, rfl, ⟨bx.2, b_y.2⟩, ?_⟩
  refine ⟨_, _, rfl, Int.mul_ne_zero (den_ne x) (den_ne y), (hx.2.mul hy.2).mono (by decide), fun r H' e h => k r H' e ?_⟩
  show RatAt H' r (x - y)
  rw [← KM.minus_eq]; exact h
def spLt : Sp := fun vs H Q _ => ∃ p q x y, vs = [.ref p, .ref q] ∧ RatAt H p x ∧ RatAt H q y ∧ Sz2 x y ∧ Q (.bl (decide (x < y))) H
theorem sc_lbel : FnScope ["a", "b"] ["a", "b"] (defScope s_law_below) := ⟨rfl, rfl, rfl, by decide +kernel, rfl, by decide +kernel, by decide +kernel⟩
theorem ok_lbel (D : Df K mg "_law_below" s_law_below ["a", "b"] []) : Cal P w K mg base "_law_below" 1 ["a", "b"] [] spLt := by
  refine D.cal (k := 0) sc_lbel (fun vs H Q E h => by obtain ⟨_, _, _, _, rfl, _⟩ := h; rfl) (fun f cdv A outer s H vs Q E hr h => ?_)
  obtain ⟨p, q, x, y, rfl, hp, hq, ⟨hx, hy⟩, k⟩ := h
  have bx := Bd4 hx
  have b_y := Bd4 hy
  refine ⟨_, (pss_one (ps_ret (pe_cmpR op_lt (pe_op op_mulB (pe_ix ix_tup (pv 0) pe_int (fun _ _ => rfl)) (pe_ix ix_tup (pv 1) pe_int (fun _ _ => rfl))) (pe_op op_mulB (pe_ix ix_tup (pv 1) pe_int (fun _ _ => rfl)) (pe_ix ix_tup (pv 0) pe_int (fun _ _ => rfl))) (nomark _)))), ?_⟩
  refine ⟨_, rfl, p, _, _, _, rfl, rfl, .of hp, at0 .., _, rfl, q, _, _, _, rfl, rfl, .of hq, at1 .., _, _, rfl, rfl, ⟨bx.1, b_y.2⟩, _, rfl, q, _, _, _, rfl, rfl, .of hq, at0 .., _, rfl, p, _, _, _, rfl, rfl, .of hp, at1 .., _, _, rfl, rfl, ⟨b_y.1, bx.2⟩, _, _, rfl, rfl, ?_⟩
  show Q (.bl (decide (x.num * (y.den : Int) < y.num * (x.den : Int)))) H
  rw [less_rat]; exact k
end
end KK
end
section
set_option maxHeartbeats 4000000
set_option Elab.async false
set_option linter.all false
set_option maxRecDepth 100000
namespace KK
open PySem L2 KM
section
variable {P : Program} {w : World} {K : PySem.W.Frag} {mg : Str → Option Value} {base : Heap}
def spCellI (K : PySem.W.Frag) : Sp := fun vs H Q _ => ∃ (a : Addr) (ns : List Int) (k : Int), vs = [.ref a, .int k] ∧ SqL K H a (ns.map V.int) ∧ 0 ≤ k ∧ ∀ i, Q (.int i) H
theorem sc_cell : FnScope ["script", "k"] ["script", "k"] (defScope s_law_cell) := ⟨rfl, rfl, rfl, by decide +kernel, rfl, by decide +kernel, by decide +kernel⟩
theorem ok_cell (D : Df K mg "_law_cell" s_law_cell ["script", "k"] []) (T : TxB K mg) : Cal P w K mg base "_law_cell" 1 ["script", "k"] [] (spCellI K) := by
  refine D.cal (k := 0) sc_cell (fun vs H Q E h => by obtain ⟨a, ns, i, rfl, _⟩ := h; rfl) (fun f cdv A outer s H vs Q E hr h => ?_)
  obtain ⟨a, ns, i, rfl, hS, h0, k⟩ := h
  refine ⟨_, (pss_cons (ps_if (pt_cmpR op_lt (pv 1) (pe_callB call_len_seq (by rfl) T.nLen PySem.boot_len (pa_cons (pv 0) pa_nil)) (nomark _)) (pss_one (ps_ret (pe_ix ix_list (pv 0) (pv 1) (fun _ _ => rfl)))) pss_nil)
    (pss_one (ps_ret pe_int))), ?_⟩
  refine ⟨_, rfl, _, rfl, a, _, rfl, .inl hS, _, _, rfl, rfl, _, rfl, ite2 (fun h => ?_) (fun h => k _)⟩
  have h' : i < ((ns.map V.int).length : Int) := of_decide_eq_true h
  rw [List.length_map] at h'
  have hl : i.toNat < ns.length := by omega
  have e : (ns.map V.int)[i.toNat]? = some (.int ns[i.toNat]) := by rw [List.getElem?_map, List.getElem?_eq_getElem hl]; rfl
  have e2 := atI_nat e
  rw [show ((i.toNat : Nat) : Int) = i by omega] at e2
  exact ⟨_, rfl, _, rfl, a, _, _, _, rfl, rfl, hS, e2, k _⟩
def spWide : Sp := fun vs H Q _ => ∃ (p : Addr) (n : Int), vs = [.ref p, .int n] ∧ 100000000 ≤ n ∧ Pool H p ∧ ∀ (d : Int) H', 0 ≤ d → d < n → Step p H H' → Q (.int d) H'
theorem sc_wi : FnScope ["pool", "base", "found", "k"] ["pool", "base"] (defScope s_law_wide) := ⟨rfl, rfl, rfl, by decide +kernel, rfl, by decide +kernel, by decide +kernel⟩
theorem ok_wi (D : Df K mg "_law_wide" s_law_wide ["pool", "base"] []) (T : TxB K mg) (cN : Cal P w K mg base "_law_next" 1 ["pool", "base"] [] spNext) : Cal P w K mg base "_law_wide" 2 ["pool", "base"] [] spWide := by
  refine D.cal (k := 1) sc_wi (fun vs H Q E h => by obtain ⟨_, _, rfl, _⟩ := h; rfl) (fun f cdv A outer s H vs Q E hr h => ?_)
  obtain ⟨p, n, rfl, hn, hP, k⟩ := h
  refine ⟨_, (pss_cons (ps_if (pt_cmpR op_lt (pv 1) (pe_op op_pow pe_int pe_int) (nomark _)) (pss_one (ps_ret (pe_c cN hr (pa_cons (pv 0) (pa_cons (pv 1) pa_nil))))) pss_nil)
    (pss_cons (ps_set (i := 2) sc_wi.nd rfl (Or.inl rfl) pe_int)
    (pss_cons (ps_for PassesOwn.never rfl (pi_range1 rfl T.nRange (pa_cons pe_int pa_nil)) (pg_name (i := 3) sc_wi.nd rfl (Or.inl rfl)) (pss_one (ps_set (i := 2) sc_wi.nd rfl (Or.inl rfl) (pe_op op_add (pe_op op_mulB (pv 2) (pe_op op_pow pe_int pe_int)) (pe_c cN hr (pa_cons (pv 0) (pa_cons (pe_op op_pow pe_int pe_int) pa_nil)))))))
    (pss_one (ps_ret (pe_op op_mod (pv 2) (pv 1))))))), ?_⟩
  refine ⟨_, rfl, _, _, rfl, rfl, ⟨by decide, by decide, by decide⟩, _, _, rfl, rfl, _, rfl, ite2 (fun h => ?_) (fun h => ?_)⟩
  · exact absurd (of_decide_eq_true h) (by show ¬ n < 10 ^ 8; have : (10 : Int) ^ 8 = 100000000 := by decide
                                           omega)
  refine ⟨_, rfl, by decide, by decide, ?_⟩
  refine for_range (n := (4 : Int).toNat) (lo := 0) (fun i σ G => ∃ (z : Option V) (g : Int), σ = [some (.ref p), some (.int n), some (.int g), z] ∧ Bd (30 + 40 * i) g ∧ Step p H G) ⟨none, 0, rfl, Bd.mono (m := 1) (show (0 : Int).natAbs < 2 ^ 1 by decide) (by decide), Step.refl hP⟩ ?_ ?_
  · rintro i σ G hi ⟨z, g, rfl, hg, tG⟩
    have hi4 : i < 4 := hi
    refine ⟨_, rfl, _, _, rfl, rfl, ⟨by decide, by decide, by decide⟩, _, _, rfl, rfl, ⟨hg.mono (by omega), Bd.mono (m := 30) (bdn (by decide) (by decide)) (by decide)⟩, ?_⟩
    refine ⟨_, rfl, _, _, rfl, rfl, ⟨by decide, by decide, by decide⟩, p, _, rfl, by decide, by decide, tG.pool, fun d G2 d0 d1 t2 => ⟨_, _, rfl, rfl, _, _, rfl, ?_, tG.trans t2⟩⟩
    have e : ((2 : Int) ^ (28 : Int).toNat) = 268435456 := by decide
    have d1' : d < 268435456 := by rw [← e]; exact d1
    have b1 : Bd 30 ((2 : Int) ^ (28 : Int).toNat) := bdn (by decide) (by decide)
    have b2 : Bd 30 d := bdn d0 (by omega)
    exact ((hg.mul b1).add b2).mono (by omega)
  · rintro σ G ⟨z, g, rfl, hg, tG⟩
    exact ⟨_, rfl, _, rfl, _, _, rfl, rfl, by omega, k _ _ (Int.emod_nonneg _ (by omega)) (Int.emod_lt_of_pos _ (by omega)) tG⟩
def spRa : Sp := fun vs H Q _ => ∃ (p : Addr) (n : Int), vs = [.ref p, .int n] ∧ 0 ≤ n ∧ n ≤ 1000000 ∧ Pool H p ∧ ∀ r x H', Step p H H' → RatAt H' r x → Sz 80 x → Q (.ref r) H'
theorem menu8r {d : Int} (h0 : 0 ≤ d) (h1 : d < 8) : ∃ v : Int, atI [V.int 1, .int 1, .int 1, .int 2, .int 3, .int 4, .int 6, .int ((10 : Int) ^ (5 : Int).toNat)] d = some (.int v) ∧ 1 ≤ v ∧ v ≤ 100000 := by
  have : d = 0 ∨ d = 1 ∨ d = 2 ∨ d = 3 ∨ d = 4 ∨ d = 5 ∨ d = 6 ∨ d = 7 := by omega
  rcases this with rfl | rfl | rfl | rfl | rfl | rfl | rfl | rfl
  all_goals exact ⟨_, rfl, by decide, by decide⟩
theorem sc_ra : FnScope ["pool", "size", "bottom"] ["pool", "size"] (defScope s_law_ratio) := ⟨rfl, rfl, rfl, by decide +kernel, rfl, by decide +kernel, by decide +kernel⟩
theorem ok_ra (D : Df K mg "_law_ratio" s_law_ratio ["pool", "size"] []) (cN : Cal P w K mg base "_law_next" 1 ["pool", "base"] [] spNext) (cWi : Cal P w K mg base "_law_wide" 2 ["pool", "base"] [] spWide) (cL : Cal P w K mg base "_law_low" 1 ["top", "bottom"] [] spLow) : Cal P w K mg base "_law_ratio" 3 ["pool", "size"] [] spRa := by
  refine D.calB (k := 2) sc_ra (fun vs H Q E h => by obtain ⟨_, _, rfl, _⟩ := h; rfl) (fun f cdv A outer s H vs Q E hr h => ?_)
  obtain ⟨p, n, rfl, n0, n1, hP, k⟩ := h
  have hr1 : Room 1 _ := hr.mono (by decide)
  refine ⟨_, (bx_scons (bx_set (i := 2) sc_ra.nd rfl (Or.inl rfl) (bx_ix ix_list (bx_lst (bx_cons (Bx.mk pe_int) (bx_cons (Bx.mk pe_int) (bx_cons (Bx.mk pe_int) (bx_cons (Bx.mk pe_int) (bx_cons (Bx.mk pe_int) (bx_cons (Bx.mk pe_int) (bx_cons (Bx.mk pe_int) (bx_cons (Bx.mk (pe_op op_pow pe_int pe_int)) bx_nil))))))))) (Bx.mk (pe_c cN hr1 (pa_cons (pv 0) (pa_cons pe_int pa_nil)))) (fun _ _ => rfl))) (Bx.mk (pss_cons (ps_if (pt_cmpR op_eq (pe_c cN hr1 (pa_cons (pv 0) (pa_cons pe_int pa_nil))) pe_int (nomark _)) (pss_one (ps_ret (pe_c cL hr1 (pa_cons (pe_op op_sub (pe_c cWi hr (pa_cons (pv 0) (pa_cons (pe_op op_add (pe_op op_mulB pe_int (pe_op op_pow pe_int pe_int)) pe_int) pa_nil))) (pe_op op_pow pe_int pe_int)) (pa_cons (pv 2) pa_nil))))) pss_nil)
    (pss_one (ps_ret (pe_c cL hr1 (pa_cons (pe_op op_sub (pe_c cN hr1 (pa_cons (pv 0) (pa_cons (pe_op op_add (pe_op op_mulB pe_int (pv 1)) pe_int) pa_nil))) (pv 1)) (pa_cons (pv 2) pa_nil)))))))), ?_⟩
  refine ⟨_, _, rfl, rfl, ⟨by decide, by decide, by decide⟩, by show 8 ≤ sizeLine; decide, fun l1 hl1 => ?_⟩
  refine ⟨_, rfl, p, _, rfl, by decide, by decide, hP.new hl1, fun d1 G1 a1 b1 t1 => ?_⟩
  obtain ⟨v, ev, v0, v1⟩ := menu8r a1 b1
  refine ⟨l1, _, _, _, rfl, rfl, .of (t1.keep l1 _ upd_same (hP.ne hl1)), ev, ?_⟩
  have T1 : Step p H G1 := t1.pre (Same.upd hl1)
  have vb : Bd 8900 v := Bd.mono (m := 20) (bdn (by omega) (by omega)) (by decide)
  refine ⟨_, rfl, p, _, rfl, by decide, by decide, t1.pool, fun d2 G2 a2 b2 t2 => ⟨rfl, _, rfl, ite2 (fun h => ?_) (fun h => ?_)⟩⟩
  · refine ⟨_, rfl, _, _, rfl, rfl, ⟨by decide, by decide, by decide⟩, _, _, rfl, rfl, ⟨Bd.mono (m := 2) (bdn (by decide) (by decide)) (by decide), Bd.mono (m := 80) (bdn (by decide) (by decide)) (by decide)⟩, _, _, rfl, rfl, p, _, rfl, by decide, t2.pool, fun d3 G3 a3 b3 t3 => ?_⟩
    refine ⟨_, _, rfl, rfl, ⟨by decide, by decide, by decide⟩, _, _, rfl, rfl, _, rfl, _, _, rfl, by omega, vb, fun r H' e h => k r _ H' (((T1.trans t2).trans t3).same e) h (.divInt (by omega) ?_ (Bd.mono (m := 20) (bdn (by omega) (by omega)) (by decide)))⟩
    have e20 : ((10 : Int) ^ (20 : Int).toNat) = 100000000000000000000 := by decide
    have b3' : d3 < 2 * ((10 : Int) ^ (20 : Int).toNat) + 1 := b3
    show Bd 80 (d3 - (10 : Int) ^ (20 : Int).toNat)
    rw [e20] at b3' ⊢
    exact Bd.mono (m := 68) (bdz (by omega) (by omega)) (by decide)
  · refine ⟨_, rfl, _, rfl, _, _, rfl, rfl, ⟨Bd.mono (m := 2) (bdn (by decide) (by decide)) (by decide), Bd.mono (m := 30) (bdn (by omega) (by omega)) (by decide)⟩, _, _, rfl, rfl, p, _, rfl, by omega, by omega, t2.pool, fun d3 G3 a3 b3 t3 => ?_⟩
    refine ⟨_, rfl, _, _, rfl, rfl, _, rfl, _, _, rfl, by omega, vb, fun r H' e h => k r _ H' (((T1.trans t2).trans t3).same e) h (.divInt (by omega) ?_ (Bd.mono (m := 20) (bdn (by omega) (by omega)) (by decide)))⟩
    exact Bd.mono (m := 30) (bdz (by omega) (by omega)) (by decide)
def spSp : Sp := fun vs H Q _ => ∃ (p : Addr), vs = [.ref p] ∧ Pool H p ∧ ∀ r x H', Step p H H' → RatAt H' r x → Sz 5 x → Q (.ref r) H'
theorem menu4s {d : Int} (h0 : 0 ≤ d) (h1 : d < 4) : ∃ v : Int, atI [V.int 1, .int 1, .int 2, .int 3] d = some (.int v) ∧ 1 ≤ v ∧ v ≤ 3 := by
  have : d = 0 ∨ d = 1 ∨ d = 2 ∨ d = 3 := by omega
  rcases this with rfl | rfl | rfl | rfl
  all_goals exact ⟨_, rfl, by decide, by decide⟩
theorem menu4g {d : Int} (h0 : 0 ≤ d) (h1 : d < 4) : ∃ v : Int, atI [V.int 1, .int 2, .int 3, .int 6] d = some (.int v) ∧ 1 ≤ v ∧ v ≤ 6 := by
  have : d = 0 ∨ d = 1 ∨ d = 2 ∨ d = 3 := by omega
  rcases this with rfl | rfl | rfl | rfl
  all_goals exact ⟨_, rfl, by decide, by decide⟩
theorem sc_sp : FnScope ["pool"] ["pool"] (defScope s_law_speed) := ⟨rfl, rfl, rfl, by decide +kernel, rfl, by decide +kernel, by decide +kernel⟩
theorem ok_sp (D : Df K mg "_law_speed" s_law_speed ["pool"] []) (cN : Cal P w K mg base "_law_next" 1 ["pool", "base"] [] spNext) (cL : Cal P w K mg base "_law_low" 1 ["top", "bottom"] [] spLow) : Cal P w K mg base "_law_speed" 2 ["pool"] [] spSp := by
  refine D.cal (k := 1) sc_sp (fun vs H Q E h => by obtain ⟨_, rfl, _⟩ := h; rfl) (fun f cdv A outer s H vs Q E hr h => ?_)
  obtain ⟨p, rfl, hP, k⟩ := h
  refine ⟨_, (pss_one (ps_ret (pe_c cL hr (pa_cons (pe_op op_sub (pe_c cN hr (pa_cons (pv 0) (pa_cons pe_int pa_nil))) pe_int) (pa_cons (pe_ix ix_list (pe_lst (pa_cons pe_int (pa_cons pe_int (pa_cons pe_int (pa_cons pe_int pa_nil))))) (pe_c cN hr (pa_cons (pv 0) (pa_cons pe_int pa_nil))) (fun _ _ => rfl)) pa_nil))))), ?_⟩
  refine ⟨_, rfl, p, _, rfl, by decide, by decide, hP, fun d1 G1 a1 b1 t1 => ⟨_, _, rfl, rfl, by show 4 ≤ sizeLine; decide, fun l1 hl1 => ?_⟩⟩
  refine ⟨_, rfl, p, _, rfl, by decide, by decide, t1.pool.new hl1, fun d2 G2 a2 b2 t2 => ?_⟩
  obtain ⟨v, ev, v0, v1⟩ := menu4s a2 b2
  refine ⟨l1, _, _, _, rfl, rfl, .of (t2.keep l1 _ upd_same (t1.pool.ne hl1)), ev, ?_⟩
  refine ⟨_, _, rfl, by omega, Bd.mono (m := 5) (bdn (by omega) (by omega)) (by decide), fun r H' e h => k r _ H' ((t1.trans (t2.pre (Same.upd hl1))).same e) h (.divInt (by omega) (bdz (by omega) (by omega)) (bdn (by omega) (by omega)))⟩
def spGa : Sp := fun vs H Q _ => ∃ (p : Addr), vs = [.ref p] ∧ Pool H p ∧ ∀ r x H', Step p H H' → RatAt H' r x → Sz 5 x → 0 ≤ x → Q (.ref r) H'
theorem sc_ga : FnScope ["pool"] ["pool"] (defScope s_law_gap) := ⟨rfl, rfl, rfl, by decide +kernel, rfl, by decide +kernel, by decide +kernel⟩
theorem ok_ga (D : Df K mg "_law_gap" s_law_gap ["pool"] []) (cN : Cal P w K mg base "_law_next" 1 ["pool", "base"] [] spNext) (cL : Cal P w K mg base "_law_low" 1 ["top", "bottom"] [] spLow) : Cal P w K mg base "_law_gap" 2 ["pool"] [] spGa := by
  refine D.cal (k := 1) sc_ga (fun vs H Q E h => by obtain ⟨_, rfl, _⟩ := h; rfl) (fun f cdv A outer s H vs Q E hr h => ?_)
  obtain ⟨p, rfl, hP, k⟩ := h
  refine ⟨_, (pss_cons (ps_if (pt_cmpR op_eq (pe_c cN hr (pa_cons (pv 0) (pa_cons pe_int pa_nil))) pe_int (nomark _)) (pss_one (ps_ret (pe_tup (pa_cons pe_int (pa_cons pe_int pa_nil))))) pss_nil)
    (pss_one (ps_ret (pe_c cL hr (pa_cons (pe_op op_add pe_int (pe_c cN hr (pa_cons (pv 0) (pa_cons pe_int pa_nil)))) (pa_cons (pe_ix ix_list (pe_lst (pa_cons pe_int (pa_cons pe_int (pa_cons pe_int (pa_cons pe_int pa_nil))))) (pe_c cN hr (pa_cons (pv 0) (pa_cons pe_int pa_nil))) (fun _ _ => rfl)) pa_nil)))))), ?_⟩
  refine ⟨_, rfl, p, _, rfl, by decide, by decide, hP, fun d0 G0 a0 b0 t0 => ⟨rfl, _, rfl, ite2 (fun h => ?_) (fun h => ?_)⟩⟩
  · refine ⟨by show 2 ≤ sizeLine; decide, fun r hr => k r 0 _ (t0.same (Same.upd hr)) upd_same ⟨show (0 : Int).natAbs < 2 ^ 5 by decide, show (1 : Int).natAbs < 2 ^ 5 by decide⟩ (by decide)⟩
  · refine ⟨_, rfl, p, _, rfl, by decide, by decide, t0.pool, fun d1 G1 a1 b1 t1 => ⟨_, _, rfl, rfl, by show 4 ≤ sizeLine; decide, fun l1 hl1 => ?_⟩⟩
    refine ⟨_, rfl, p, _, rfl, by decide, by decide, t1.pool.new hl1, fun d2 G2 a2 b2 t2 => ?_⟩
    obtain ⟨v, ev, v0, v1⟩ := menu4g a2 b2
    refine ⟨l1, _, _, _, rfl, rfl, .of (t2.keep l1 _ upd_same (t1.pool.ne hl1)), ev, ?_⟩
    refine ⟨_, _, rfl, by omega, Bd.mono (m := 5) (bdn (by omega) (by omega)) (by decide), fun r H' e h => k r _ H' (((t0.trans t1).trans (t2.pre (Same.upd hl1))).same e) h (.divInt (by omega) (bdz (by omega) (by omega)) (bdn (by omega) (by omega))) (divInt_nn (by omega) (by omega))⟩
end
end KK
end
section
set_option maxHeartbeats 8000000
set_option Elab.async false
set_option linter.all false
set_option maxRecDepth 100000
namespace L2
open PySem PySem.Spec PyProof.Rows
theorem compC_byZ {J : It} {D : Addr} {N n : Nat} {js : List Nat} {σ : St} {g : TG} {tt : TT} {te : TE} {Z : Hp → Prop} {H : Hp} (Pv : Nat → Hp → List V → Prop) (h0 : Pv 0 (upd H D (.lst [])) []) (hgo : ∀ i H ys, i < N → Pv i H ys → J.go i H) (hst : ∀ H ys, Pv N H ys → J.stop N H)
    (hs : ∀ i x zs H2 H3 ys (Nx : Hp → List V → Prop), (∀ H ys, Pv (i + 1) H ys → Nx H ys) → i < N → zs.length = n → J.yld i H2 x H3 → Pv i H2 ys → H2 D = some (.lst ys) → g x (zs ++ caps σ js) H3 fun σ4 H4 => σ4.drop n = caps σ js ∧ tt σ4 H4 fun b H5 =>
      if b = true then te σ4 H5 (fun v H6 => H6 D = some (.lst ys) ∧ ys.length < sizeLine ∧ Nx (upd H6 D (.lst (ys ++ [v]))) (ys ++ [v])) else H5 D = some (.lst ys) ∧ Nx H5 ys)
    (hd : ∀ H ys, Pv N H ys → H D = some (.lst ys) → Z H) :
    ∃ W : Nat → Nat → Hp → List V → Prop, (∃ m, W 0 m (upd H D (.lst [])) []) ∧ ∀ i m H2 ys, W i m H2 ys → H2 D = some (.lst ys) → (J.stop i H2 ∧ Z H2) ∨
      (J.go i H2 ∧ ∀ zs x H3, zs.length = n → J.yld i H2 x H3 → g x (zs ++ caps σ js) H3 fun σ4 H4 => σ4.drop n = caps σ js ∧ tt σ4 H4 fun b H5 => if b = true then te σ4 H5 (fun v H6 => H6 D = some (.lst ys) ∧ ys.length < sizeLine ∧ ∃ m', m' < m ∧ W (i + 1) m' (upd H6 D (.lst (ys ++ [v]))) (ys ++ [v]))
        else H5 D = some (.lst ys) ∧ ∃ m', m' < m ∧ W (i + 1) m' H5 ys) := compC_by (Q := fun _ H => Z H) Pv h0 hgo hst hs hd
end L2
namespace KK
open PySem L2 KM
theorem st_next {D : Ends} {σ : St} {H : Hp} (h : D.nx σ H) : tNext D σ H := h
theorem st_mid {t u : TS} {D : Ends} {σ : St} {H : Hp} (R : St → Hp → Prop) (h2 : ∀ σ' H', R σ' H' → u D σ' H') (h1 : ∀ nx : St → Hp → Prop, (∀ σ' H', R σ' H' → nx σ' H') → t { D with nx := nx } σ H) : tSeq t u D σ H := h1 (u D) h2
theorem step_tups {p : Addr} {H H' : Hp} (hp : Pool H p) (s : Step p H H') : TupS H H' := fun b xs e => s.tup hp e
theorem Step.free {p l : Addr} {H G : Hp} (s : Step p H G) (h : G l = none) : H l = none := by
  cases hh : H l with
  | none => rfl
  | some o =>
    by_cases e : l = p
    · subst e; obtain ⟨_, _, _, z⟩ := s.pool; rw [z] at h; cases h
    · rw [s.keep _ _ hh e] at h; cases h
theorem Step.put {p l : Addr} {H G : Hp} (s : Step p H G) (h : H l = none) (n : l ≠ p) (o : HO) : Step p H (upd G l o) :=
  ⟨by obtain ⟨q1, q2, q3, e⟩ := s.pool; exact ⟨q1, q2, q3, by rw [upd_ne (Ne.symm n)]; exact e⟩, fun b u e m => by rw [upd_ne (fun z => by rw [z, h] at e; cases e)]; exact s.keep b u e m⟩
theorem len1 {α : Type} {xs : List α} (h : xs.length = 1) : ∃ a, xs = [a] := by
  match xs, h with
  | [a], _ => exact ⟨a, rfl⟩
theorem menu3w {d : Int} (h0 : 0 ≤ d) (h1 : d < 3) : ∃ v : Int, atI [V.int 1, .int 5, .int 1000] d = some (.int v) ∧ 1 ≤ v ∧ v ≤ 1000 := by
  have : d = 0 ∨ d = 1 ∨ d = 2 := by omega
  rcases this with rfl | rfl | rfl
  all_goals exact ⟨_, rfl, by decide, by decide⟩
theorem rep_one {α : Type} (v : α) : ∀ n : Nat, (List.replicate n [v]).flatten = List.replicate n v
  | 0 => rfl
  | n + 1 => by rw [List.replicate_succ, List.flatten_cons, rep_one v n, List.replicate_succ]; rfl
section
variable {P : Program} {w : World} {K : PySem.W.Frag} {mg : Str → Option Value} {base : Heap}
def spWe : Sp := fun vs H Q _ => ∃ (p : Addr) (n : Nat), vs = [.ref p, .int (n : Int)] ∧ 1 ≤ n ∧ n ≤ 8 ∧ Pool H p ∧ ∀ l (ws : List Int) H', Step p H H' → H l = none → H' l = some (.lst (ws.map V.int)) → ws.length = n → (∀ x ∈ ws, 1 ≤ x ∧ x ≤ 1000) → Q (.ref l) H'
theorem sc_we : FnScope ["pool", "many", "sort"] ["pool", "many"] (defScope s_law_weights) := ⟨rfl, rfl, rfl, by decide +kernel, rfl, by decide +kernel, by decide +kernel⟩
theorem ok_we (D : Df K mg "_law_weights" s_law_weights ["pool", "many"] []) (T : TxB K mg) (cN : Cal P w K mg base "_law_next" 1 ["pool", "base"] [] spNext) : Cal P w K mg base "_law_weights" 2 ["pool", "many"] [] spWe := by
  refine D.cal (k := 1) sc_we (fun vs H Q E h => by obtain ⟨_, _, rfl, _⟩ := h; rfl) (fun f cdv A outer s H vs Q E hr h => ?_)
  obtain ⟨p, n, rfl, n1, n8, hP, k⟩ := h
  refine ⟨_, (pss_cons (ps_set (i := 2) sc_we.nd rfl (Or.inr rfl) (pe_c cN hr (pa_cons (pv 0) (pa_cons pe_int pa_nil))))
    (pss_cons (ps_if (pt_cmpR op_eq (pv 2) pe_int (nomark _)) (pss_one (ps_ret (pe_op op_rep (bx_out (bx_lst (bx_cons (bx_ix ix_list (bx_lst (bx_cons (Bx.mk pe_int) (bx_cons (Bx.mk pe_int) (bx_cons (Bx.mk pe_int) bx_nil)))) (Bx.mk (pe_c cN hr (pa_cons (pv 0) (pa_cons pe_int pa_nil)))) (fun _ _ => rfl)) bx_nil))) (pv 1)))) pss_nil)
    (pss_one (ps_ret (pe_compC (NB := ["k"]) (FR := ["pool", "sort"]) (js := [0, 2]) rfl rfl (fun _ _ h => h) (.cons rfl rfl rfl ⟨_, rfl⟩ (.cons rfl rfl rfl ⟨_, rfl⟩ .nil)) rfl (by decide +kernel) rfl (by decide +kernel) (pi_range1 rfl T.nRange (pa_cons (pv 1) pa_nil)) (by intro _ _ _; refine ⟨?_, ?_, ?_⟩; (exact (pg_name (i := 0) (show List.Nodup (["k", "pool", "sort"] : List Str) by decide +kernel) rfl (Or.inl rfl))); (exact pts_nil); (exact (pe_op op_add pe_int (pe_c cN hr (pa_cons (pv 1) (pa_cons (pe_ix (ix_listK (K := K) rfl) (pe_lst (pa_cons pe_int (pa_cons pe_int pa_nil))) (pe_op op_sub (pv 2) pe_int) (fun _ _ => rfl)) pa_nil))))))))))), ?_⟩
  refine ⟨_, rfl, p, _, rfl, by decide, by decide, hP, fun so G1 a1 b1 t1 => ?_⟩
  refine ⟨_, rfl, rfl, _, rfl, ite2 (fun h => ?_) (fun h => ?_)⟩
  · refine ⟨by show 3 ≤ sizeLine; decide, fun l1 hl1 => ?_⟩
    refine ⟨_, rfl, p, _, rfl, by decide, by decide, t1.pool.new hl1, fun d2 G2 a2 b2 t2 => ?_⟩
    obtain ⟨v, ev, v0, v1⟩ := menu3w a2 b2
    refine ⟨l1, _, _, _, rfl, rfl, .of (t2.keep l1 _ upd_same (t1.pool.ne hl1)), ev, by show 1 ≤ sizeLine; decide, fun l2 hl2 => ?_⟩
    have T2 : Step p H G2 := t1.trans (t2.pre (Same.upd hl1))
    refine ⟨_, rfl, l2, _, _, rfl, rfl, upd_same, by omega, by omega, ?_, fun l3 hl3 => ?_⟩
    · refine szl ?_
      show 1 * ((n : Int).toNat) ≤ 1000
      omega
    have T3 := T2.same (Same.upd (o := .lst [.int v]) hl2)
    refine k l3 (List.replicate n v) _ (T3.same (Same.upd hl3)) (T3.free hl3) ?_ (by simp) (fun x m => by have := List.eq_of_mem_replicate m; omega)
    rw [upd_same, show ((n : Int)).toNat = n by omega, rep_one]; simp
  · have hs : so = 1 ∨ so = 2 := by
      have : so ≠ 0 := fun z => by subst z; exact h (by decide)
      omega
    refine ⟨_, rfl, (n : Int), rfl, by omega, by omega, fun Dc hDc => ?_⟩
    have hDp : Dc ≠ p := t1.pool.ne hDc
    refine compC_byZ (js := [0, 2]) (J := Itr 0 ((n : Int)).toNat) (g := gName 0) (tt := fun _ H Q => Q true H) (te := _) (N := n) (n := 1) (fun i G ys => Step p G1 G ∧ ∃ ws : List Int, ys = ws.map V.int ∧ ws.length = i ∧ ∀ x ∈ ws, 1 ≤ x ∧ x ≤ 1000)
      ⟨⟨t1.pool.new hDc, fun b o e _ => Same.upd hDc _ _ e⟩, [], rfl, rfl, fun v hv => by cases hv⟩ (fun i G ys hi z => by show i < ((n : Int)).toNat; omega) (fun G ys z => by show ((n : Int)).toNat ≤ n; omega) ?_ ?_
    · rintro i x zs G_ G ys Nx hN hi hz1 ⟨rfl, rfl⟩ ⟨tG, ws, rfl, hwl, hwv⟩ hGD
      obtain ⟨y1, rfl⟩ := len1 hz1
      refine ⟨rfl, iteT ?_⟩
      refine ⟨_, rfl, by show 2 ≤ sizeLine; decide, fun l1 hl1 => ?_⟩
      obtain ⟨mx, emx, m0, m1⟩ : ∃ mx : Int, atI [V.int 9, .int 1000] (so - 1) = some (.int mx) ∧ 9 ≤ mx ∧ mx ≤ 1000 := by
        rcases hs with rfl | rfl
        · exact ⟨9, rfl, by decide, by decide⟩
        · exact ⟨1000, rfl, by decide, by decide⟩
      refine ⟨_, rfl, _, _, rfl, rfl, l1, _, _, _, rfl, rfl, .of upd_same, emx, ?_⟩
      refine ⟨p, mx, rfl, by omega, by omega, tG.pool.new hl1, fun d2 G3 a2 b2 t3 => ⟨_, _, rfl, rfl, ?_⟩⟩
      have t3' : Step p G G3 := t3.pre (Same.upd hl1)
      have h3 := t3'.keep _ _ hGD hDp
      refine ⟨h3, small1000 (by simp; omega), hN _ _ ⟨(tG.trans t3').put hDc hDp _, ws ++ [1 + d2], by simp, by simp [hwl], fun v hv => ?_⟩⟩
      rcases List.mem_append.mp hv with z | z
      · exact hwv v z
      · have : v = 1 + d2 := by simpa using z
        omega
    · rintro G ys ⟨tG, ws, rfl, hwl, hwv⟩ hGD
      exact k Dc ws G (t1.trans tG) (t1.free hDc) hGD hwl hwv
end
end KK
end
section
set_option maxHeartbeats 8000000
set_option Elab.async false
set_option linter.all false
set_option maxRecDepth 100000
namespace KK
open PySem L2 KM
theorem eqv0 (x : Rat) : PyData.eqv (.tuple [.int x.num, .int (x.den : Int)]) (.tuple [.int 0, .int 1]) = decide (x = 0) := eqv_rp x 0
section
variable {P : Program} {w : World} {K : PySem.W.Frag} {mg : Str → Option Value} {base : Heap}
def spRow : Sp := fun vs H Q _ => ∃ (p : Addr) (mo : Int), vs = [.ref p, .int mo] ∧ 1 ≤ mo ∧ mo ≤ 8 ∧ Pool H p ∧ ∀ r us bs H', Step p H H' → H' r = some (.tup us) → BallsAt H' us bs → Good bs → 1 ≤ bs.length → bs.length ≤ 8 → Q (.ref r) H'
theorem sc_ro : FnScope ["pool", "most", "many", "weights", "place", "row", "k", "speed", "gap"] ["pool", "most"] (defScope s_law_row) := ⟨rfl, rfl, rfl, by decide +kernel, rfl, by decide +kernel, by decide +kernel⟩
theorem ok_ro (D : Df K mg "_law_row" s_law_row ["pool", "most"] []) (T : TxB K mg) (cN : Cal P w K mg base "_law_next" 1 ["pool", "base"] [] spNext) (cWe : Cal P w K mg base "_law_weights" 2 ["pool", "many"] [] spWe) (cRa : Cal P w K mg base "_law_ratio" 3 ["pool", "size"] [] spRa)
    (cSp : Cal P w K mg base "_law_speed" 2 ["pool"] [] spSp) (cGa : Cal P w K mg base "_law_gap" 2 ["pool"] [] spGa) (cA : Cal P w K mg base "_law_add" 2 ["a", "b"] [] (spBin Sz2 (· + ·))) (cBl : Cal P w K mg base "_law_below" 1 ["a", "b"] [] spLt) : Cal P w K mg base "_law_row" 4 ["pool", "most"] [] spRow := by
  refine D.cal (k := 3) sc_ro (fun vs H Q E h => by obtain ⟨_, _, rfl, _⟩ := h; rfl) (fun f cdv A outer s H vs Q E hr h => ?_)
  obtain ⟨p, mo, rfl, o1, o8, hP, k⟩ := h
  have hr1 : Room 1 _ := hr.mono (by decide)
  have hr2 : Room 2 _ := hr.mono (by decide)
  have hu := hr.units
  refine ⟨_, (pss_cons (ps_set (i := 2) sc_ro.nd rfl (Or.inl rfl) (pe_op op_add pe_int (pe_c cN hr1 (pa_cons (pv 0) (pa_cons (pv 1) pa_nil)))))
    (pss_cons (ps_set (i := 3) sc_ro.nd rfl (Or.inl rfl) (pe_c cWe hr2 (pa_cons (pv 0) (pa_cons (pv 2) pa_nil))))
    (pss_cons (ps_set (i := 4) sc_ro.nd rfl (Or.inl rfl) (pe_c cRa hr (pa_cons (pv 0) (pa_cons pe_int pa_nil))))
    (pss_cons (ps_set (i := 5) sc_ro.nd rfl (Or.inl rfl) (pe_lst pa_nil))
    (pss_cons (ps_for PassesOwn.never rfl (pi_range1 rfl T.nRange (pa_cons (pv 2) pa_nil)) (pg_name (i := 6) sc_ro.nd rfl (Or.inl rfl)) (pss_cons (ps_set (i := 7) sc_ro.nd rfl (Or.inl rfl) (pe_c cSp hr2 (pa_cons (pv 0) pa_nil)))
    (pss_cons (ps_if (pt_cmpR op_gt (pv 6) pe_int (nomark _)) (pss_cons (ps_set (i := 8) sc_ro.nd rfl (Or.inl rfl) (pe_c cGa hr2 (pa_cons (pv 0) pa_nil)))
    (pss_cons (ps_set (i := 4) sc_ro.nd rfl (Or.inl rfl) (pe_c cA hr2 (pa_cons (pv 4) (pa_cons (pv 8) pa_nil))))
    (pss_cons (ps_if (pt_cmpR op_eq (pe_c cN hr1 (pa_cons (pv 0) (pa_cons pe_int pa_nil))) pe_int (nomark _)) (pss_one (ps_set (i := 7) sc_ro.nd rfl (Or.inl rfl) (pe_ix ix_tup (pe_ix ix_list (pv 5) (pe_un un_neg pe_int) (fun _ _ => rfl)) pe_int (fun _ _ => rfl)))) pss_nil)
    (pss_one (ps_if (pw_and (pt_cmpR (op_eqD hu) (pv 8) (pe_tup (pa_cons pe_int (pa_cons pe_int pa_nil))) (nomark _)) (pw_and1 (pt_not (pt_truth (pe_c cBl hr1 (pa_cons (pe_ix ix_tup (pe_ix ix_list (pv 5) (pe_un un_neg pe_int) (fun _ _ => rfl)) pe_int (fun _ _ => rfl)) (pa_cons (pv 7) pa_nil))) fun _ => rfl)))).pt (pss_one (ps_set (i := 7) sc_ro.nd rfl (Or.inl rfl) (pe_c cA hr2 (pa_cons (pe_ix ix_tup (pe_ix ix_list (pv 5) (pe_un un_neg pe_int) (fun _ _ => rfl)) pe_int (fun _ _ => rfl)) (pa_cons (pe_tup (pa_cons (pe_op op_add pe_int (pe_c cN hr1 (pa_cons (pv 0) (pa_cons pe_int pa_nil)))) (pa_cons pe_int pa_nil))) pa_nil))))) pss_nil))))) pss_nil)
    (pss_one (ps_expr (pe_bm PySem.F.plainAttrs_list PySem.F.slot_list_append PySem.F.type_list_append mt_append (pv 5) (pa_cons (pe_tup (pa_cons (pv 4) (pa_cons (pv 7) (pa_cons (pe_ix ix_list (pv 3) (pv 6) (fun _ _ => rfl)) pa_nil)))) pa_nil)))))))
    (pss_one (ps_ret (pe_callTy call_tuple_of (by rfl) T.nTuple PyProof.Rows.boot_tuple (pa_cons (pv 5) pa_nil))))))))), ?_⟩
  refine ⟨_, rfl, _, rfl, p, _, rfl, by omega, by omega, hP, fun d1 G1 a1 b1 t1 => ⟨_, _, rfl, rfl, ?_⟩⟩
  obtain ⟨n, hn⟩ : ∃ n : Nat, (n : Int) = 1 + d1 := ⟨(1 + d1).toNat, by omega⟩
  dsimp only [gName]
  rw [← hn]
  refine ⟨_, rfl, _, rfl, p, n, rfl, by omega, by omega, t1.pool, fun lw ws G2 t2 hlw hw hwl hwv => ?_⟩
  refine ⟨_, rfl, p, _, rfl, by decide, by decide, t2.pool, fun pp pl G3 t3 hpp zpl => ?_⟩
  refine ⟨by show 0 ≤ sizeLine; exact Nat.zero_le _, fun lr hlr => ?_⟩
  have T3 := (t1.trans t2).trans t3
  have hlwp : lw ≠ p := t1.pool.ne hlw
  have hw3 := t3.keep _ _ hw hlwp
  have hrp : lr ≠ p := T3.pool.ne hlr
  have hrH := T3.free hlr
  have hlwr : lw ≠ lr := fun z => by rw [z, hlr] at hw3; cases hw3
  dsimp only [gName]
  refine st_for ?_
  refine ⟨_, rfl, (n : Int), rfl, by omega, by omega, ?_⟩
  refine for_range (n := ((n : Int)).toNat) (lo := 0) (fun i σ G => ∃ pp pl us bs z6 z7 z8, σ = [some (.ref p), some (.int mo), some (.int (n : Int)), some (.ref lw), some (.ref pp), some (.ref lr), z6, z7, z8] ∧ Step p H G ∧ G lw = some (.lst (ws.map V.int)) ∧ RatAt G pp pl ∧ Sz (80 + 10 * i) pl ∧ G lr = some (.lst us) ∧ BallsAt G us bs ∧ bs.length = i ∧ Good bs ∧
      (∀ cs c, bs = cs ++ [c] → c.pl = pl ∧ Sz (5 + 8 * i) c.sp))
    ⟨pp, pl, [], [], none, none, none, rfl, T3.same (Same.upd hlr), Same.upd hlr _ _ hw3, Same.upd hlr _ _ hpp, zpl, upd_same, .nil, rfl, Good.nil, fun cs c e => by simp at e⟩ ?_ ?_
  · rintro i σ G hi ⟨pp, pl, us, bs, z6, z7, z8, rfl, TG, hwG, hppG, zplG, hlrG, hB, hbl, hGo, hlast⟩
    have hin : i < n := by omega
    refine ⟨_, rfl, p, rfl, TG.pool, fun rs sp G4 t4 hrs zsp => ?_⟩
    have T4 := TG.trans t4
    have Tu4 := step_tups TG.pool t4
    dsimp only [gName]
    refine st_mid (fun σ' G' => ∃ pp' pl' rs' sp' z8', σ' = [some (.ref p), some (.int mo), some (.int (n : Int)), some (.ref lw), some (.ref pp'), some (.ref lr), some (.int (0 + (i : Int))), some (.ref rs'), z8'] ∧ Step p H G' ∧ G' lw = some (.lst (ws.map V.int)) ∧ RatAt G' pp' pl' ∧ Sz (80 + 10 * (i + 1)) pl' ∧ G' lr = some (.lst us) ∧ BallsAt G' us bs ∧
      RatAt G' rs' sp' ∧ Sz (5 + 8 * (i + 1)) sp' ∧ ∀ wt cs c, bs = cs ++ [c] → lexR c ⟨pl', sp', wt⟩) ?_ ?_
    · rintro σ' G5 ⟨pp', pl', rs', sp', z8', rfl, T5, hw5, hpp5, zpl5, hlr5, hB5, hrs5, zsp5, hlex⟩
      obtain ⟨wt, ewt⟩ : ∃ wt, ws[i]? = some wt := ⟨_, List.getElem?_eq_getElem (by omega)⟩
      have hwt := hwv wt (List.mem_of_getElem? ewt)
      have ewv : (ws.map V.int)[i]? = some (.int wt) := by rw [List.getElem?_map, ewt]; rfl
      have eat : atI (ws.map V.int) (0 + (i : Int)) = some (.int wt) := by rw [Int.zero_add]; exact atI_nat ewv
      refine ⟨_, rfl, .inl ⟨rfl, _, SqL.of hlr5⟩, _, rfl, _, rfl, _, rfl, _, rfl, lw, _, _, _, rfl, rfl, .of hw5, eat, by show 3 ≤ sizeLine; decide, fun t ht => ?_⟩
      refine ⟨lr, us, _, rfl, rfl, Same.upd ht _ _ hlr5, small1000 (by rw [hB.length]; omega), ?_⟩
      have Tt : TupS G5 (upd (upd G5 t (.tup [.ref pp', .ref rs', .int wt])) lr (.lst (us ++ [.ref t]))) := (TupS.of (Same.upd ht)).trans (.upd (Same.upd ht _ _ hlr5))
      refine ⟨pp', pl', us ++ [.ref t], bs ++ [⟨pl', sp', wt⟩], _, _, _, rfl, (T5.same (Same.upd ht)).put hrH hrp _, ?_, Tt _ _ hpp5, zpl5, upd_same, ?_, by simp [hbl], hGo.snoc hwt ⟨zpl5.mono (by omega), zsp5.mono (by omega)⟩ (hlex wt), ?_⟩
      · rw [upd_ne hlwr]; exact Same.upd ht _ _ hw5
      · exact BallsAt.append (.one (b := ⟨pl', sp', wt⟩) (TupS.upd (Same.upd ht _ _ hlr5) _ _ upd_same) (Tt _ _ hpp5) (Tt _ _ hrs5)) (hB5.mono Tt)
      · intro cs c e
        have e2 := List.append_inj_right' e rfl
        have : c = ⟨pl', sp', wt⟩ := by injection e2 with e3; exact e3.symm
        subst this
        exact ⟨rfl, zsp5⟩
    · intro nx hnx
      refine ⟨_, rfl, _, _, rfl, rfl, _, rfl, ite2 (fun h => ?_) (fun h => ?_)⟩
      · have hi0 : 0 < i := by have z : (0 : Int) < 0 + (i : Int) := of_decide_eq_true h
                               omega
        obtain ⟨cs, c, hcs⟩ : ∃ cs c, bs = cs ++ [c] := by
          rcases List.eq_nil_or_concat bs with e | ⟨cs, c, e⟩
          · rw [e] at hbl; simp at hbl; omega
          · exact ⟨cs, c, by simpa using e⟩
        obtain ⟨hcpl, zc⟩ := hlast cs c hcs
        have hB' := hB
        rw [hcs] at hB'
        obtain ⟨us0, la, lp, lq, eus, hla, hlp, hlq⟩ := hB'.last
        have elast : atI us (-1) = some (.ref la) := by rw [eus]; exact atI_last _ _
        -- gap, place
        refine ⟨_, rfl, p, rfl, T4.pool, fun rg ga G5 t5 hrg zga gnn => ?_⟩
        have Tu5 := step_tups T4.pool t5
        refine ⟨_, rfl, _, rfl, pp, rg, pl, ga, rfl, Tu5 _ _ (Tu4 _ _ hppG), hrg, ⟨zplG.mono (by omega), zga.mono (by decide)⟩, fun pp' G6 e6 hpp' => ?_⟩
        have T6 := (T4.trans t5).same e6
        have Tu6 : TupS G G6 := (Tu4.trans Tu5).trans (.of e6)
        have hw6 := e6 _ _ (t5.keep _ _ (t4.keep _ _ hwG hlwp) hlwp)
        have hlr6 := e6 _ _ (t5.keep _ _ (t4.keep _ _ hlrG hrp) hrp)
        have hrs6 : RatAt G6 rs sp := e6 _ _ (Tu5 _ _ hrs)
        have zpl' : Sz (80 + 10 * (i + 1)) (pl + ga) := (zplG.add zga).mono (by omega)
        have hrg6 : RatAt G6 rg ga := e6 _ _ hrg
        dsimp only [gName]
        refine st_mid (fun σ' G' => ∃ rs' sp', σ' = [some (.ref p), some (.int mo), some (.int (n : Int)), some (.ref lw), some (.ref pp'), some (.ref lr), some (.int (0 + (i : Int))), some (.ref rs'), some (.ref rg)] ∧ Step p H G' ∧ G' lw = some (.lst (ws.map V.int)) ∧ TupS G6 G' ∧ G' lr = some (.lst us) ∧ RatAt G' rs' sp' ∧ Sz (5 + 8 * i) sp') ?_ ?_
        · rintro σ' G7 ⟨rs', sp', rfl, T7, hw7, Tu7, hlr7, hrs7, zs7⟩
          have hrg7 := Tu7 _ _ hrg6
          have hla7 := Tu7 _ _ (Tu6 _ _ hla)
          have hlq7 : RatAt G7 lq c.sp := Tu7 _ _ (Tu6 _ _ hlq)
          refine ⟨_, rfl, by show 2 ≤ sizeLine; decide, fun tz htz => ?_⟩
          refine ⟨_, _, RatAt.rd (Same.upd htz _ _ hrg7), .tup upd_same (.cons (.int 0) (.cons (.int 1) .nil)), shaped_rp _, rfl, _, rfl, ?_⟩
          rw [eqv0]
          have Tu8 : TupS G7 (upd G7 tz (.tup [.int 0, .int 1])) := .of (Same.upd htz)
          have T8 := T7.same (Same.upd (o := .tup [.int 0, .int 1]) htz)
          have hw8 := Same.upd (o := .tup [.int 0, .int 1]) htz _ _ hw7
          have hlr8 := Same.upd (o := .tup [.int 0, .int 1]) htz _ _ hlr7
          generalize upd G7 tz (.tup [.int 0, .int 1]) = G8 at *
          have hla8 := Tu8 _ _ hla7
          have hpp8 : RatAt G8 pp' (pl + ga) := Tu8 _ _ (Tu7 _ _ hpp')
          have hB8 : BallsAt G8 us bs := hB.mono (Tu6.trans (Tu7.trans Tu8))
          have out : ∀ rs'' sp'' G', Step p H G' → G' lw = some (.lst (ws.map V.int)) → TupS G8 G' → G' lr = some (.lst us) → RatAt G' rs'' sp'' → Sz (5 + 8 * (i + 1)) sp'' → (ga = 0 → c.sp < sp'') → nx [some (.ref p), some (.int mo), some (.int (n : Int)), some (.ref lw), some (.ref pp'), some (.ref lr), some (.int (0 + (i : Int))), some (.ref rs''), some (.ref rg)] G' := fun rs'' sp'' G' T' hw' Tu' hlr' hrs' zs' hx =>
            hnx _ _ ⟨pp', pl + ga, rs'', sp'', _, rfl, T', hw', Tu' _ _ hpp8, zpl', hlr', hB8.mono Tu', hrs', zs', fun wt cs' c' e => by
              have : c' = c := by
                rw [hcs] at e
                have := List.append_inj_right' e rfl
                injection this with e3; exact e3.symm
              subst this
              by_cases hg : ga = 0
              · exact .inr ⟨by show c'.pl = pl + ga; rw [hcpl, hg]; grind, hx hg⟩
              · exact .inl (by show c'.pl < pl + ga; rw [hcpl]; grind)⟩
          by_cases hg : ga = 0
          · rw [decide_eq_true hg]
            refine iteT ⟨_, rfl, _, rfl, lr, _, _, _, rfl, rfl, .of hlr8, elast, la, _, _, _, rfl, rfl, .of hla8, rfl, _, rfl, lq, rs', c.sp, sp', rfl, Tu8 _ _ hlq7, Tu8 _ _ hrs7, ⟨zc.mono (by omega), zs7.mono (by omega)⟩, _, rfl, ?_⟩
            by_cases hlt : c.sp < sp'
            · rw [decide_eq_true hlt]
              exact iteF (out rs' sp' G8 T8 hw8 (.of (Same.refl _)) hlr8 (Tu8 _ _ hrs7) (zs7.mono (by omega)) fun _ => hlt)
            · rw [decide_eq_false hlt]
              refine iteT ⟨_, rfl, _, rfl, lr, _, _, _, rfl, rfl, .of hlr8, elast, la, _, _, _, rfl, rfl, .of hla8, rfl, ?_⟩
              refine ⟨_, rfl, p, _, rfl, by decide, by decide, T8.pool, fun d9 G9 a9 b9 t9 => ⟨_, _, rfl, rfl, by show 2 ≤ sizeLine; decide, fun ta hta => ?_⟩⟩
              have Tu9 := step_tups T8.pool t9
              have hone : RatAt (upd G9 ta (.tup [.int (1 + d9), .int 1])) ta ((1 + d9 : Int) : Rat) := by
                show upd G9 ta (.tup [.int (1 + d9), .int 1]) ta = some (.tup (rp ((1 + d9 : Int) : Rat)))
                rw [upd_same]; unfold rp; rw [KM.int_num, KM.int_den]; rfl
              have zone : Sz 4 ((1 + d9 : Int) : Rat) := .int (bdn (by omega) (by omega)) (by decide)
              refine ⟨lq, ta, c.sp, _, rfl, Same.upd hta _ _ (Tu9 _ _ (Tu8 _ _ hlq7)), hone, ⟨zc.mono (by omega), zone.mono (by decide)⟩, fun rn GA eA hrn => ?_⟩
              refine out rn _ GA (((T8.trans t9).same (Same.upd hta)).same eA) (eA _ _ (Same.upd hta _ _ (t9.keep _ _ hw8 hlwp))) ((Tu9.trans (.of (Same.upd hta))).trans (.of eA)) (eA _ _ (Same.upd hta _ _ (t9.keep _ _ hlr8 hrp))) hrn ((zc.add zone).mono (by omega)) fun _ => ?_
              have : (0 : Rat) < ((1 + d9 : Int) : Rat) := Rat.intCast_pos.mpr (by omega)
              show c.sp < c.sp + ((1 + d9 : Int) : Rat)
              grind
          · rw [decide_eq_false hg]
            exact iteF (iteF (out rs' sp' G8 T8 hw8 (.of (Same.refl _)) hlr8 (Tu8 _ _ hrs7) (zs7.mono (by omega)) fun z => absurd z hg))
        · intro nx2 hnx2
          refine ⟨_, rfl, p, _, rfl, by decide, by decide, T6.pool, fun d7 G7 a7 b7 t7 => ⟨rfl, _, rfl, ite2 (fun h => ?_) (fun h => ?_)⟩⟩
          · have Tu7 := step_tups T6.pool t7
            have hlr7 := t7.keep _ _ hlr6 hrp
            have hlaZ := Tu7 _ _ (Tu6 _ _ hla)
            exact ⟨_, rfl, _, rfl, lr, _, _, _, rfl, rfl, .of hlr7, elast, la, _, _, _, rfl, rfl, .of hlaZ, rfl, hnx2 _ _ ⟨lq, c.sp, rfl, T6.trans t7, t7.keep _ _ hw6 hlwp, Tu7, hlr7, Tu7 _ _ (Tu6 _ _ hlq), zc⟩⟩
          · have Tu7 := step_tups T6.pool t7
            exact hnx2 _ _ ⟨rs, sp, rfl, T6.trans t7, t7.keep _ _ hw6 hlwp, Tu7, t7.keep _ _ hlr6 hrp, Tu7 _ _ hrs6, zsp.mono (by omega)⟩
      · have hi0 : i = 0 := by
          rcases Nat.eq_zero_or_pos i with z | z
          · exact z
          · exact absurd (decide_eq_true (show (0 : Int) < 0 + (i : Int) by omega)) h
        exact hnx _ _ ⟨pp, pl, rs, sp, _, rfl, T4, t4.keep _ _ hwG hlwp, Tu4 _ _ hppG, zplG.mono (by omega), t4.keep _ _ hlrG hrp, hB.mono Tu4, hrs, zsp.mono (by omega), fun wt cs c e => by
          rw [e] at hbl; simp at hbl; omega⟩
  · rintro σ G ⟨pp, pl, us, bs, z6, z7, z8, rfl, TG, hwG, hppG, zplG, hlrG, hB, hbl, hGo, hlast⟩
    refine ⟨_, rfl, lr, us, rfl, .inl ⟨.of hlrG, fun r hr' => k r us bs _ (TG.same (Same.upd hr')) upd_same (hB.same (Same.upd hr')) hGo (by omega) (by omega)⟩⟩
end
end KK
end
section
set_option maxHeartbeats 8000000
set_option Elab.async false
set_option linter.all false
set_option maxRecDepth 100000
namespace KK
open PySem L2 KM
theorem rp_sd {sd : Int} (h : sd = 1 ∨ sd = -1) : rp (sd : Rat) = [.int sd, .int 1] := by unfold rp; rw [KM.int_num, KM.int_den]; rfl
theorem sz_sd {sd : Int} (h : sd = 1 ∨ sd = -1) : Sz 2 (sd : Rat) := .int (by rcases h with rfl | rfl <;> (show (_ : Int).natAbs < 2 ^ 2; decide)) (by decide)
section
variable {P : Program} {w : World} {K : PySem.W.Frag} {mg : Str → Option Value} {base : Heap}
def spBo : Sp := fun vs H Q _ => ∃ (p a bp bq : Addr) (b : Ball) (sd : Int), vs = [.ref p, .ref a, .int sd] ∧ (sd = 1 ∨ sd = -1) ∧ H a = some (.tup [.ref bp, .ref bq, .int b.wt]) ∧ RatAt H bp b.pl ∧ RatAt H bq b.sp ∧ Sz 300 b.pl ∧ Sz 80 b.sp ∧ Pool H p ∧ (∀ H', Step p H H' → Q .non H') ∧
  ∀ r rp rq x y H', Step p H H' → H' r = some (.tup [.ref rp, .ref rq]) → RatAt H' rp x → RatAt H' rq y → Sz 310 x → Sz 80 y → (∃ g : Rat, 0 ≤ g ∧ x = b.pl + (sd : Rat) * g ∧ (g = 0 → (sd : Rat) * b.sp ≤ (sd : Rat) * y)) → Q (.ref r) H'
theorem sc_bo : FnScope ["pool", "ball", "side", "gap", "speed"] ["pool", "ball", "side"] (defScope s_law_bound) := ⟨rfl, rfl, rfl, by decide +kernel, rfl, by decide +kernel, by decide +kernel⟩
theorem ok_bo (D : Df K mg "_law_bound" s_law_bound ["pool", "ball", "side"] []) (cN : Cal P w K mg base "_law_next" 1 ["pool", "base"] [] spNext) (cSp : Cal P w K mg base "_law_speed" 2 ["pool"] [] spSp) (cGa : Cal P w K mg base "_law_gap" 2 ["pool"] [] spGa)
    (cA : Cal P w K mg base "_law_add" 2 ["a", "b"] [] (spBin Sz2 (· + ·))) (cBy : Cal P w K mg base "_law_by" 2 ["a", "b"] [] (spBin Sz2 (· * ·))) (cBl : Cal P w K mg base "_law_below" 1 ["a", "b"] [] spLt) : Cal P w K mg base "_law_bound" 3 ["pool", "ball", "side"] [] spBo := by
  refine D.cal (k := 2) sc_bo (fun vs H Q E h => by obtain ⟨_, _, _, _, _, _, rfl, _⟩ := h; rfl) (fun f cdv A outer s H vs Q E hr2 h => ?_)
  obtain ⟨p, a, bp, bq, b, sd, rfl, hsd, ha, hbp, hbq, zb1, zb2, hP, kn, ks⟩ := h
  have hr1 : Room 1 _ := hr2.mono (by decide)
  have hu := hr2.units
  refine ⟨_, (pss_cons (ps_if (pt_cmpR op_eq (pe_c cN hr1 (pa_cons (pv 0) (pa_cons pe_int pa_nil))) pe_int (nomark _)) (pss_one (ps_ret pe_non)) pss_nil)
    (pss_cons (ps_set (i := 3) sc_bo.nd rfl (Or.inl rfl) (pe_c cGa hr2 (pa_cons (pv 0) pa_nil)))
    (pss_cons (bx_out (bx_set (i := 4) sc_bo.nd rfl (Or.inl rfl) (bx_ix ix_list (bx_lst (bx_cons (bx_tup (bx_cons (Bx.mk pe_int) (bx_cons (Bx.mk pe_int) bx_nil))) (bx_cons (bx_tup (bx_cons (Bx.mk pe_int) (bx_cons (Bx.mk pe_int) bx_nil))) (bx_cons (Bx.mk (pe_c cSp hr2 (pa_cons (pv 0) pa_nil))) bx_nil)))) (Bx.mk (pe_c cN hr1 (pa_cons (pv 0) (pa_cons pe_int pa_nil)))) (fun _ _ => rfl))))
    (pss_cons (ps_if (pw_and (pt_cmpR (op_eqD hu) (pv 3) (pe_tup (pa_cons pe_int (pa_cons pe_int pa_nil))) (nomark _)) (pw_and1 (pt_truth (pe_c cBl hr1 (pa_cons (pe_c cBy hr2 (pa_cons (pe_tup (pa_cons (pv 2) (pa_cons pe_int pa_nil))) (pa_cons (pv 4) pa_nil))) (pa_cons (pe_c cBy hr2 (pa_cons (pe_tup (pa_cons (pv 2) (pa_cons pe_int pa_nil))) (pa_cons (pe_ix ix_tup (pv 1) pe_int (fun _ _ => rfl)) pa_nil))) pa_nil))) fun _ => rfl))).pt (pss_one (ps_set (i := 4) sc_bo.nd rfl (Or.inl rfl) (pe_ix ix_tup (pv 1) pe_int (fun _ _ => rfl)))) pss_nil)
    (pss_one (ps_ret (pe_tup (pa_cons (pe_c cA hr2 (pa_cons (pe_ix ix_tup (pv 1) pe_int (fun _ _ => rfl)) (pa_cons (pe_c cBy hr2 (pa_cons (pe_tup (pa_cons (pv 2) (pa_cons pe_int pa_nil))) (pa_cons (pv 3) pa_nil))) pa_nil))) (pa_cons (pv 4) pa_nil))))))))), ?_⟩
  refine ⟨_, rfl, p, _, rfl, by decide, by decide, hP, fun d1 G1 a1 b1 t1 => ⟨rfl, _, rfl, ite2 (fun h => kn G1 t1) (fun h => ?_)⟩⟩
  have Tu1 := step_tups hP t1
  refine ⟨_, rfl, p, rfl, t1.pool, fun rg ga G2 t2 hrg zga gnn => ?_⟩
  have Tu2 := step_tups t1.pool t2
  have T2 := t1.trans t2
  -- speed
  refine ⟨by show 2 ≤ sizeLine; decide, fun q1 h1 => ?_⟩
  refine ⟨by show 2 ≤ sizeLine; decide, fun q2 h2 => ?_⟩
  have T2' := T2.same ((Same.upd (o := .tup [.int 0, .int 1]) h1).trans (Same.upd (o := .tup [.int 0, .int 1]) h2))
  refine ⟨_, rfl, p, rfl, T2'.pool, fun r3 x3 G3 t3 hr3 z3 => ?_⟩
  have Tu3 : TupS G2 G3 := (TupS.of ((Same.upd (o := .tup [.int 0, .int 1]) h1).trans (Same.upd (o := .tup [.int 0, .int 1]) h2))).trans (step_tups T2'.pool t3)
  have g1 : RatAt G3 q1 0 := step_tups T2'.pool t3 _ _ (Same.upd h2 _ _ upd_same)
  have g2 : RatAt G3 q2 0 := step_tups T2'.pool t3 _ _ upd_same
  have T3 := T2'.trans t3
  refine ⟨by show 3 ≤ sizeLine; decide, fun l3 hl3 => ?_⟩
  refine ⟨_, rfl, p, _, rfl, by decide, by decide, T3.pool.new hl3, fun d4 G4 a4 b4 t4 => ?_⟩
  have Tu4 : TupS G3 G4 := (TupS.of (Same.upd hl3)).trans (step_tups (T3.pool.new hl3) t4)
  have T4 : Step p H G4 := T3.trans (t4.pre (Same.upd hl3))
  obtain ⟨rs, sp, ers, hrs, zsp⟩ : ∃ rs sp, atI [V.ref q1, .ref q2, .ref r3] d4 = some (.ref rs) ∧ RatAt G3 rs sp ∧ Sz 5 sp := by
    have zz : Sz 5 (0 : Rat) := ⟨show (0 : Int).natAbs < 2 ^ 5 by decide, show (1 : Int).natAbs < 2 ^ 5 by decide⟩
    have : d4 = 0 ∨ d4 = 1 ∨ d4 = 2 := by omega
    rcases this with rfl | rfl | rfl
    · exact ⟨q1, 0, rfl, g1, zz⟩
    · exact ⟨q2, 0, rfl, g2, zz⟩
    · exact ⟨r3, x3, rfl, hr3, z3⟩
  refine ⟨l3, _, _, _, rfl, rfl, .of (t4.keep l3 _ upd_same (T3.pool.ne hl3)), ers, ?_⟩
  have TuH : TupS H G4 := ((Tu1.trans Tu2).trans Tu3).trans Tu4
  have ha4 := TuH _ _ ha
  have hbp4 : RatAt G4 bp b.pl := TuH _ _ hbp
  have hbq4 : RatAt G4 bq b.sp := TuH _ _ hbq
  have hrg4 : RatAt G4 rg ga := Tu4 _ _ (Tu3 _ _ hrg)
  have hrs4 : RatAt G4 rs sp := Tu4 _ _ hrs
  dsimp only [gName]
  refine st_mid (fun σ' G' => ∃ rs' sp', σ' = [some (.ref p), some (.ref a), some (.int sd), some (.ref rg), some (.ref rs')] ∧ Step p H G' ∧ TupS G4 G' ∧ RatAt G' rs' sp' ∧ Sz 80 sp' ∧ (ga = 0 → (sd : Rat) * b.sp ≤ (sd : Rat) * sp')) ?_ ?_
  · rintro σ' G5 ⟨rs', sp', rfl, T5, Tu5, hrs5, zs5, hle⟩
    have ha5 := Tu5 _ _ ha4
    refine ⟨_, rfl, a, _, _, _, rfl, rfl, .of ha5, rfl, _, rfl, by show 2 ≤ sizeLine; decide, fun ts hts => ?_⟩
    have hsd5 : RatAt (upd G5 ts (.tup [.int sd, .int 1])) ts (sd : Rat) := by unfold RatAt; rw [rp_sd hsd]; exact upd_same
    refine ⟨_, rfl, ts, rg, _, _, rfl, hsd5, Same.upd hts _ _ (Tu5 _ _ hrg4), ⟨(sz_sd hsd).mono (by decide), zga.mono (by decide)⟩, fun rm G6 e6 hrm => ?_⟩
    have S6 : Same G5 G6 := (Same.upd hts).trans e6
    refine ⟨bp, rm, _, _, rfl, S6 _ _ (Tu5 _ _ hbp4), hrm, ⟨zb1.mono (by decide), ((sz_sd hsd).mul zga).mono (by decide)⟩, fun rw' G7 e7 hrw => ?_⟩
    refine ⟨_, rfl, by show 2 ≤ sizeLine; decide, fun rr hrr => ?_⟩
    have S7 := S6.trans e7
    exact ks rr rw' rs' _ sp' _ ((T5.same S7).same (Same.upd hrr)) upd_same (Same.upd hrr _ _ hrw) (Same.upd hrr _ _ (S7 _ _ hrs5)) ((zb1.add ((sz_sd hsd).mul zga)).mono (by decide)) zs5 ⟨ga, gnn, rfl, hle⟩
  · intro nx hnx
    refine ⟨_, rfl, by show 2 ≤ sizeLine; decide, fun tz htz => ?_⟩
    refine ⟨_, _, RatAt.rd (Same.upd htz _ _ hrg4), .tup upd_same (.cons (.int 0) (.cons (.int 1) .nil)), shaped_rp _, rfl, _, rfl, ?_⟩
    rw [eqv0]
    have S5 : Same G4 (upd G4 tz (.tup [.int 0, .int 1])) := Same.upd htz
    have T5 := T4.same S5
    generalize upd G4 tz (.tup [.int 0, .int 1]) = G5 at *
    have ha5 := S5 _ _ ha4
    by_cases hg : ga = 0
    · rw [decide_eq_true hg]
      refine iteT ⟨_, rfl, by show 2 ≤ sizeLine; decide, fun s1 hs1 => ?_⟩
      have hsd1 : RatAt (upd G5 s1 (.tup [.int sd, .int 1])) s1 (sd : Rat) := by unfold RatAt; rw [rp_sd hsd]; exact upd_same
      refine ⟨_, rfl, s1, rs, _, _, rfl, hsd1, Same.upd hs1 _ _ (S5 _ _ hrs4), ⟨(sz_sd hsd).mono (by decide), zsp.mono (by decide)⟩, fun m1 G6 e6 hm1 => ?_⟩
      have S6 : Same G5 G6 := (Same.upd hs1).trans e6
      refine ⟨_, rfl, by show 2 ≤ sizeLine; decide, fun s2 hs2 => ?_⟩
      have hsd2 : RatAt (upd G6 s2 (.tup [.int sd, .int 1])) s2 (sd : Rat) := by unfold RatAt; rw [rp_sd hsd]; exact upd_same
      have ha6 := Same.upd (o := .tup [.int sd, .int 1]) hs2 _ _ (S6 _ _ ha5)
      refine ⟨_, rfl, a, _, _, _, rfl, rfl, .of ha6, rfl, s2, bq, _, _, rfl, hsd2, Same.upd hs2 _ _ (S6 _ _ (S5 _ _ hbq4)), ⟨(sz_sd hsd).mono (by decide), zb2.mono (by decide)⟩, fun m2 G7 e7 hm2 => ?_⟩
      have S7 : Same G6 G7 := (Same.upd hs2).trans e7
      refine ⟨m1, m2, _, _, rfl, S7 _ _ hm1, hm2, ⟨((sz_sd hsd).mul zsp).mono (by decide), ((sz_sd hsd).mul zb2).mono (by decide)⟩, _, rfl, ?_⟩
      have S47 : Same G4 G7 := S5.trans (S6.trans S7)
      have T7 := (T5.same S6).same S7
      by_cases hlt : (sd : Rat) * sp < (sd : Rat) * b.sp
      · rw [decide_eq_true hlt]
        have ha7 := S47 _ _ ha4
        exact iteT ⟨_, rfl, a, _, _, _, rfl, rfl, .of ha7, rfl, hnx _ _ ⟨bq, b.sp, rfl, T7, .of S47, S47 _ _ hbq4, zb2, fun _ => Rat.le_refl⟩⟩
      · rw [decide_eq_false hlt]
        exact iteF (hnx _ _ ⟨rs, sp, rfl, T7, .of S47, S47 _ _ hrs4, zsp.mono (by decide), fun _ => Rat.not_lt.mp hlt⟩)
    · rw [decide_eq_false hg]
      exact iteF (iteF (hnx _ _ ⟨rs, sp, rfl, T5, .of S5, S5 _ _ hrs4, zsp.mono (by decide), fun z => absurd z hg⟩))
end
end KK
end
section
set_option maxHeartbeats 8000000
set_option Elab.async false
set_option linter.all false
set_option maxRecDepth 100000
namespace KK
open PySem L2 KM
abbrev Wl := Option (Rat × Rat)
def WallAt (H : Hp) (v : V) : Wl → Prop
  | none => v = .non
  | some (x, y) => ∃ a p q, v = .ref a ∧ H a = some (.tup [.ref p, .ref q]) ∧ RatAt H p x ∧ RatAt H q y
theorem WallAt.tups {H H' : Hp} {v : V} {l : Wl} (h : WallAt H v l) (e : TupS H H') : WallAt H' v l := by
  cases l with
  | none => exact h
  | some z => obtain ⟨x, y⟩ := z; obtain ⟨a, p, q, e1, e2, e3, e4⟩ := h; exact ⟨a, p, q, e1, e _ _ e2, e _ _ e3, e _ _ e4⟩
structure Box (bs : List Ball) (l1 l2 : Wl) : Prop where
  z1 : ∀ x y, l1 = some (x, y) → Sz 320 x ∧ Sz 80 y
  z2 : ∀ x y, l2 = some (x, y) → Sz 320 x ∧ Sz 80 y
  lo : ∀ x y b, l1 = some (x, y) → bs[0]? = some b → x ≤ b.pl ∧ (x = b.pl → y ≤ b.sp)
  hi : ∀ x y cs b, l2 = some (x, y) → bs = cs ++ [b] → b.pl ≤ x ∧ (x = b.pl → b.sp ≤ y)
  lt : ∀ x y x' y', l1 = some (x, y) → l2 = some (x', y') → x < x'
section
variable {P : Program} {w : World} {K : PySem.W.Frag} {mg : Str → Option Value} {base : Heap}
def spBx : Sp := fun vs H Q _ => ∃ (p r : Addr) (us : List V) (bs : List Ball), vs = [.ref p, .ref r] ∧ H r = some (.tup us) ∧ BallsAt H us bs ∧ Good bs ∧ 1 ≤ bs.length ∧ Pool H p ∧ ∀ t v1 v2 l1 l2 H', Step p H H' → H' t = some (.tup [v1, v2]) → WallAt H' v1 l1 → WallAt H' v2 l2 → Box bs l1 l2 → Q (.ref t) H'
theorem sc_bx : FnScope ["pool", "row", "low", "high"] ["pool", "row"] (defScope s_law_box) := ⟨rfl, rfl, rfl, by decide +kernel, rfl, by decide +kernel, by decide +kernel⟩
theorem ok_bx (D : Df K mg "_law_box" s_law_box ["pool", "row"] []) (cBo : Cal P w K mg base "_law_bound" 3 ["pool", "ball", "side"] [] spBo) (cA : Cal P w K mg base "_law_add" 2 ["a", "b"] [] (spBin Sz2 (· + ·))) : Cal P w K mg base "_law_box" 4 ["pool", "row"] [] spBx := by
  refine D.cal (k := 3) sc_bx (fun vs H Q E h => by obtain ⟨_, _, _, _, rfl, _⟩ := h; rfl) (fun f cdv A outer s H vs Q E hr h => ?_)
  obtain ⟨p, r, us, bs, rfl, hr', hB, hG, hne, hP, k⟩ := h
  have hr2 : Room 2 _ := hr.mono (by decide)
  have hu := hr.units
  obtain ⟨b0, e0⟩ : ∃ b0, bs[0]? = some b0 := ⟨_, List.getElem?_eq_getElem (by omega)⟩
  have hul := hB.length
  obtain ⟨v0, ev0⟩ : ∃ v0, us[0]? = some v0 := ⟨_, List.getElem?_eq_getElem (by omega)⟩
  obtain ⟨a0, p0, q0, b0', e0', rfl, ha0, hp0, hq0⟩ := hB.get ev0
  rw [e0] at e0'; cases e0'
  obtain ⟨cs, bl, ebl⟩ : ∃ cs c, bs = cs ++ [c] := by
    rcases List.eq_nil_or_concat bs with e | ⟨cs, c, e⟩
    · rw [e] at hne; simp at hne
    · exact ⟨cs, c, by simpa using e⟩
  have hB' := hB
  rw [ebl] at hB'
  obtain ⟨us0, la, lp, lq, eus, hla, hlp, hlq⟩ := hB'.last
  have elast : atI us (-1) = some (.ref la) := by rw [eus]; exact atI_last _ _
  have m0 : b0 ∈ bs := List.mem_of_getElem? e0
  have ml : bl ∈ bs := by rw [ebl]; simp
  have first : b0.pl ≤ bl.pl := by
    have hpw := hG.pw
    rcases Nat.eq_zero_or_pos cs.length with z | z
    · have : cs = [] := List.length_eq_zero_iff.mp z
      rw [ebl, this] at e0; cases e0; exact Rat.le_refl
    · rw [ebl] at e0 hpw
      rw [List.getElem?_append_left z] at e0
      have := (List.pairwise_append.mp hpw).2.2 b0 (List.mem_of_getElem? e0) bl (by simp)
      rcases this with h | h
      · exact Rat.le_of_lt h
      · rw [h.1]; exact Rat.le_refl
  refine ⟨_, (pss_cons (ps_set (i := 2) sc_bx.nd rfl (Or.inl rfl) (pe_c cBo hr (pa_cons (pv 0) (pa_cons (pe_ix ix_tup (pv 1) pe_int (fun _ _ => rfl)) (pa_cons (pe_un un_neg pe_int) pa_nil)))))
    (pss_cons (ps_set (i := 3) sc_bx.nd rfl (Or.inl rfl) (pe_c cBo hr (pa_cons (pv 0) (pa_cons (pe_ix ix_tup (pv 1) (pe_un un_neg pe_int) (fun _ _ => rfl)) (pa_cons pe_int pa_nil)))))
    (pss_cons (ps_if (pw_and (pt_cmpR op_notN (pv 2) pe_non (nomark _)) (pw_and (pt_cmpR op_notN (pv 3) pe_non (nomark _)) (pw_and1 (pt_cmpR (op_eqD hu) (pe_ix ix_tup (pv 2) pe_int (fun _ _ => rfl)) (pe_ix ix_tup (pv 3) pe_int (fun _ _ => rfl)) (nomark _))))).pt (pss_one (ps_set (i := 3) sc_bx.nd rfl (Or.inl rfl) (pe_tup (pa_cons (pe_c cA hr2 (pa_cons (pe_ix ix_tup (pv 3) pe_int (fun _ _ => rfl)) (pa_cons (pe_tup (pa_cons pe_int (pa_cons pe_int pa_nil))) pa_nil))) (pa_cons (pe_ix ix_tup (pv 3) pe_int (fun _ _ => rfl)) pa_nil))))) pss_nil)
    (pss_one (ps_ret (pe_tup (pa_cons (pv 2) (pa_cons (pv 3) pa_nil)))))))), ?_⟩
  -- from low on
  have rest : ∀ (G : Hp) (v1 : V) (l1 : Wl), Step p H G → WallAt G v1 l1 → (∀ x y, l1 = some (x, y) → Sz 310 x ∧ Sz 80 y ∧ x ≤ b0.pl ∧ (x = b0.pl → y ≤ b0.sp)) → ∀ (G2 : Hp) (v2 : V) (l2 : Wl), Step p G G2 → WallAt G2 v2 l2 → (∀ x y, l2 = some (x, y) → Sz 310 x ∧ Sz 80 y ∧ bl.pl ≤ x ∧ (x = bl.pl → bl.sp ≤ y)) →
      ∀ (nx : St → Hp → Prop), (∀ σ' H', (∃ v2' l2', σ' = [some (.ref p), some (.ref r), some v1, some v2'] ∧ Step p H H' ∧ WallAt H' v1 l1 ∧ WallAt H' v2' l2' ∧ Box bs l1 l2') → nx σ' H') → True := fun _ _ _ _ _ _ _ _ _ _ _ _ _ _ => trivial
  clear rest
  refine st_mid (fun σ' G => ∃ v1 l1, σ' = [some (.ref p), some (.ref r), some v1, none] ∧ Step p H G ∧ WallAt G v1 l1 ∧ ∀ x y, l1 = some (x, y) → Sz 310 x ∧ Sz 80 y ∧ x ≤ b0.pl ∧ (x = b0.pl → y ≤ b0.sp)) ?_ ?_
  · rintro σ' G1 ⟨v1, l1, rfl, T1, hW1, F1⟩
    have Tu1 := step_tups hP T1
    refine st_mid (fun σ' G => ∃ v2 l2, σ' = [some (.ref p), some (.ref r), some v1, some v2] ∧ Step p H G ∧ WallAt G v1 l1 ∧ WallAt G v2 l2 ∧ ∀ x y, l2 = some (x, y) → Sz 310 x ∧ Sz 80 y ∧ bl.pl ≤ x ∧ (x = bl.pl → bl.sp ≤ y)) ?_ ?_
    · rintro σ' G2 ⟨v2, l2, rfl, T2, hW12, hW2, F2⟩
      refine st_mid (fun σ' G => ∃ v2' l2', σ' = [some (.ref p), some (.ref r), some v1, some v2'] ∧ Step p H G ∧ WallAt G v1 l1 ∧ WallAt G v2' l2' ∧ Box bs l1 l2') ?_ ?_
      · rintro σ' G3 ⟨v2', l2', rfl, T3, h1, h2, hBx⟩
        exact ⟨_, rfl, _, rfl, by show 2 ≤ sizeLine; decide, fun t ht => k t v1 v2' l1 l2' _ (T3.same (Same.upd ht)) upd_same (h1.tups (.of (Same.upd ht))) (h2.tups (.of (Same.upd ht))) hBx⟩
      · intro nx hnx
        have ob : ∀ b, bs[0]? = some b → b = b0 := fun b e => by rw [e0] at e; cases e; rfl
        have oc : ∀ cs' b, bs = cs' ++ [b] → b = bl := fun cs' b e => by
          rw [ebl] at e
          have := List.append_inj_right' e rfl
          injection this with e3; exact e3.symm
        cases l1 with
        | none =>
          obtain rfl : v1 = .non := hW12
          refine ⟨_, rfl, rfl, _, rfl, iteF (iteF (hnx _ _ ⟨v2, l2, rfl, T2, rfl, hW2, ⟨fun _ _ z => by (cases z), fun x y z => ⟨(F2 x y z).1.mono (by decide), (F2 x y z).2.1⟩, fun _ _ _ z => by (cases z), fun x y cs' b z e => by rw [oc cs' b e]; exact (F2 x y z).2.2, fun _ _ _ _ z => by (cases z)⟩⟩))⟩
        | some w1 =>
          obtain ⟨x1, y1⟩ := w1
          have f1 := F1 x1 y1 rfl
          obtain ⟨aw1, pw1, qw1, rfl, g1, g2, g3⟩ := hW12
          refine ⟨_, rfl, rfl, _, rfl, iteT ?_⟩
          cases l2 with
          | none =>
            obtain rfl : v2 = .non := hW2
            exact ⟨_, rfl, rfl, _, rfl, iteF (iteF (hnx _ _ ⟨.non, none, rfl, T2, ⟨aw1, pw1, qw1, rfl, g1, g2, g3⟩, rfl, ⟨fun x y z => by (cases z; exact ⟨f1.1.mono (by decide), f1.2.1⟩), fun _ _ z => by (cases z), fun x y b z e => by (cases z; rw [ob b e]; exact f1.2.2), fun _ _ _ _ z => by (cases z), fun _ _ _ _ _ z => by (cases z)⟩⟩))⟩
          | some w2 =>
            obtain ⟨x2, y2⟩ := w2
            have f2 := F2 x2 y2 rfl
            obtain ⟨aw2, pw2, qw2, rfl, i1, i2, i3⟩ := hW2
            refine ⟨_, rfl, rfl, _, rfl, iteT ?_⟩
            refine ⟨_, rfl, aw1, _, _, _, rfl, rfl, .of g1, rfl, _, rfl, aw2, _, _, _, rfl, rfl, .of i1, rfl, _, _, g2.rd, i2.rd, shaped_rp _, shaped_rp _, _, rfl, ?_⟩
            rw [eqv_rp]
            by_cases he : x1 = x2
            · rw [decide_eq_true he]
              refine iteT ⟨_, rfl, aw2, _, _, _, rfl, rfl, .of i1, rfl, by show 2 ≤ sizeLine; decide, fun to hto => ?_⟩
              have hone : RatAt (upd G2 to (.tup [.int 1, .int 1])) to 1 := upd_same
              have i1' := Same.upd (o := .tup [.int 1, .int 1]) hto _ _ i1
              refine ⟨pw2, to, x2, 1, rfl, Same.upd hto _ _ i2, hone, ⟨f2.1.mono (by decide), ⟨show (1 : Int).natAbs < 2 ^ 4000 by exact Bd.mono (m := 1) (show (1 : Int).natAbs < 2 ^ 1 by decide) (by decide), show (1 : Int).natAbs < 2 ^ 4000 by exact Bd.mono (m := 1) (show (1 : Int).natAbs < 2 ^ 1 by decide) (by decide)⟩⟩, fun rn G3 e3 hrn => ?_⟩
              have S3 : Same G2 G3 := (Same.upd hto).trans e3
              have i13 := S3 _ _ i1
              refine ⟨_, rfl, aw2, _, _, _, rfl, rfl, .of i13, rfl, by show 2 ≤ sizeLine; decide, fun tn htn => ?_⟩
              have S4 : Same G2 (upd G3 tn (.tup [.ref rn, .ref qw2])) := S3.trans (Same.upd htn)
              have z1' : Sz 1 (1 : Rat) := ⟨show (1 : Int).natAbs < 2 ^ 1 by decide, show (1 : Int).natAbs < 2 ^ 1 by decide⟩
              refine hnx _ _ ⟨.ref tn, some (x2 + 1, y2), rfl, T2.same S4, ⟨aw1, pw1, qw1, rfl, S4 _ _ g1, S4 _ _ g2, S4 _ _ g3⟩, ⟨tn, rn, qw2, rfl, upd_same, Same.upd htn _ _ hrn, S4 _ _ i3⟩, ⟨fun x y z => by (cases z; exact ⟨f1.1.mono (by decide), f1.2.1⟩), fun x y z => by (cases z; exact ⟨(f2.1.add z1').mono (by decide), f2.2.1⟩), fun x y b z e => by (cases z; rw [ob b e]; exact f1.2.2), fun x y cs' b z e => ?_, fun x y x' y' z z' => ?_⟩⟩
              · cases z; rw [oc cs' b e]
                have := f2.2.2.1
                exact ⟨by grind, fun q => by grind⟩
              · cases z; cases z'; rw [he]; grind
            · rw [decide_eq_false he]
              refine iteF (hnx _ _ ⟨.ref aw2, some (x2, y2), rfl, T2, ⟨aw1, pw1, qw1, rfl, g1, g2, g3⟩, ⟨aw2, pw2, qw2, rfl, i1, i2, i3⟩, ⟨fun x y z => by (cases z; exact ⟨f1.1.mono (by decide), f1.2.1⟩), fun x y z => by (cases z; exact ⟨f2.1.mono (by decide), f2.2.1⟩), fun x y b z e => by (cases z; rw [ob b e]; exact f1.2.2), fun x y cs' b z e => by (cases z; rw [oc cs' b e]; exact f2.2.2), fun x y x' y' z z' => ?_⟩⟩)
              cases z; cases z'
              have := f1.2.2.1
              have := f2.2.2.1
              grind
    · intro nx hnx
      have hr1' := Tu1 _ _ hr'
      have hla1 := Tu1 _ _ hla
      refine ⟨_, rfl, _, rfl, _, rfl, r, _, _, _, rfl, rfl, .of hr1', elast, p, la, lp, lq, bl, 1, rfl, .inl rfl, hla1, Tu1 _ _ hlp, Tu1 _ _ hlq, (hG.sz bl ml).1, (hG.sz bl ml).2, T1.pool, fun G2 t2 => ?_, fun rr rp' rq x y G2 t2 h1 h2 h3 z1 z2 hx => ?_⟩
      · exact hnx _ _ ⟨.non, none, rfl, T1.trans t2, hW1.tups (step_tups T1.pool t2), rfl, fun _ _ z => by (cases z)⟩
      · refine hnx _ _ ⟨.ref rr, some (x, y), rfl, T1.trans t2, hW1.tups (step_tups T1.pool t2), ⟨rr, rp', rq, rfl, h1, h2, h3⟩, fun x' y' z => ?_⟩
        cases z
        obtain ⟨g, g0, rfl, hg⟩ := hx
        refine ⟨z1, z2, ?_, fun e => ?_⟩
        · have : ((1 : Int) : Rat) = 1 := rfl
          rw [this]; grind
        · have e1 : ((1 : Int) : Rat) = 1 := rfl
          rw [e1] at e hg
          have := hg (by grind)
          grind
  · intro nx hnx
    refine ⟨_, rfl, _, rfl, r, _, _, _, rfl, rfl, .of hr', atI_nat (j := 0) ev0, _, rfl, p, a0, p0, q0, b0, -1, rfl, .inr rfl, ha0, hp0, hq0, (hG.sz b0 m0).1, (hG.sz b0 m0).2, hP, fun G2 t2 => ?_, fun rr rp' rq x y G2 t2 h1 h2 h3 z1 z2 hx => ?_⟩
    · exact hnx _ _ ⟨.non, none, rfl, t2, rfl, fun _ _ z => by (cases z)⟩
    · refine hnx _ _ ⟨.ref rr, some (x, y), rfl, t2, ⟨rr, rp', rq, rfl, h1, h2, h3⟩, fun x' y' z => ?_⟩
      cases z
      obtain ⟨g, g0, rfl, hg⟩ := hx
      have e1 : ((-1 : Int) : Rat) = -1 := rfl
      rw [e1] at hg ⊢
      refine ⟨by rw [e1] at z1; exact z1, z2, by grind, fun e => ?_⟩
      have := hg (by grind)
      grind
end
end KK
end
section
set_option maxHeartbeats 8000000
set_option Elab.async false
set_option linter.all false
set_option maxRecDepth 100000
namespace L2
open PySem PySem.Spec PyProof.Rows
section
variable {X : Cx} {e st : Expr} {te : TE} {pos p2 : Pos}
def tRevL (K : PySem.W.Frag) (te ts : TE) : TE := fun σ H Q => te σ H fun x H1 => ts σ H1 fun y H2 => ∃ a xs, x = .ref a ∧ y = .int (-1) ∧ SqL K H2 a xs ∧ ∀ p, H2 p = none → Q (.ref p) (upd H2 p (.lst xs.reverse))
theorem pe_revL {ts : TE} (he : PE X e te) (hs : PE X st ts) : PE X (.Subscript e (.Slice none none (some st) p2) pos) (tRevL X.K te ts) := by
  intro pins s σ H Q I h
  refine Subscript_ (thn (he pins s σ H _ I h) fun v s1 ⟨x, H1, I1, r1, q1⟩ => ?_)
  refine wpAny_Slice ?_
  rw [evalPart_none]
  refine wpAny_pure (wpAny_pure ?_)
  rw [evalPart_some]
  refine thn (hs pins s1 σ H1 _ I1 q1) fun u s3 ⟨y, H3, I3, r3, q3⟩ => ?_
  obtain ⟨a, xs, rfl, rfl, hx, q⟩ := q3
  cases r1
  obtain ⟨t, rfl⟩ := r3
  have I4 : Inv X pins σ H3 { s3 with heap := s3.heap.push { cls := .type "slice", data := .fields #[.none, .none, .int (-1) t] } } := I3.kept (t' := s3.toks) fun b ob q => Heap.get?_push_of_some _ q
  obtain ⟨its, r, ht, hz⟩ := I4.list hx
  have hlen := r.length
  show wpAny (model X.prog X.w) X.A (subscriptTail e (.Slice none none (some st) p2) (.ref a) (.ref s3.heap.objs.size)) (EP X pins σ Q) X.xe { s3 with heap := s3.heap.push { cls := .type "slice", data := .fields #[.none, .none, .int (-1) t] } }
  refine tail_any (ops := [.ref a, .ref s3.heap.objs.size]) ht.isList.typeIs slot_list_getitem.lookup (wpAny_getItem_list_slice ht.isList (Heap.IsSliceOf.new ..) .none .none (.int (-1) t) (by simp) ?_ (by rw [List.size_toArray] <;> omega)) (by with_unfolding_all rfl)
  rw [PySem.W.krv_pick]
  refine ⟨.ref _, _, I4.laid (t' := s3.toks) (o := .lst xs.reverse) (fun b ob q => Heap.get?_push_of_some _ q) (Nat.le_refl _) ?_, rfl, q _ (I4.hok.fresh (Nat.le_refl _))⟩
  exact ⟨by rw [List.length_reverse]; exact hz, _, 0, r.rev, Heap.get?_push_size _ rfl⟩
end
section
variable {X : Cx}
def rInsert : V → List V → Hp → VK → Prop := fun x vs H Q => ∃ (l : Addr) (xs : List V) (i : Int) (y : V), x = .ref l ∧ vs = [.int i, y] ∧ H l = some (.lst xs) ∧ 0 ≤ i ∧ i ≤ xs.length ∧ xs.length ≤ 1000 ∧ Q .non (upd H l (.lst (xs.take i.toNat ++ y :: xs.drop i.toNat)))
theorem ins_eq (its : List Value) (i : Int) (u : Value) (h0 : 0 ≤ i) (h1 : i ≤ its.length) :
    ((its.toArray.extract 0 (if i < 0 then (i + ((its.toArray.size : Nat) : Int)).toNat else min i.toNat its.toArray.size)).push u ++ its.toArray.extract (if i < 0 then (i + ((its.toArray.size : Nat) : Int)).toNat else min i.toNat its.toArray.size)) = (its.take i.toNat ++ u :: its.drop i.toNat).toArray := by
  rw [if_neg (by omega), List.size_toArray, show min i.toNat its.length = i.toNat by omega]
  apply Array.toList_inj.mp
  simp
  exact List.take_of_length_le (by simp)
theorem mt_insert : MtM X "list.insert" rInsert := by
  intro pins s σ H x vs v us Q I rx rv h
  obtain ⟨l, xs, i, y, rfl, rfl, hH, h0, h1, hz, q⟩ := h
  cases rx
  obtain ⟨u1, u2, rfl, ⟨t, rfl⟩, ru⟩ := rv.two
  obtain ⟨z, its, n, r, hl, e⟩ := I.lstM hH
  have hf : Builtin.List.listFitsIndex i = true := fitsIndex_both (by omega) (by omega)
  have hz2 : its.toArray.size ≤ sizeLine := by rw [List.size_toArray, ← hl]; exact z
  refine call_meets F.slot_list_insert ⟨_, e, rfl⟩ F.entry_list_insert (F.args_list_insert_3 _ _ _) (AutoSeq1.list_insert_list_int_val_1 l its.toArray n i t u2 (by simp [hf]) hz2) ⟨e, ?_⟩
  refine ⟨.non, _, I.lset (its' := its.take i.toNat ++ u2 :: its.drop i.toNat) hH e (ins_eq its i u2 h0 (by omega)) ((r.take i.toNat).append (.cons ru (r.drop i.toNat))) ?_, rfl, q⟩
  have : xs.length < sizeLine := small1000 hz
  rw [List.length_append, List.length_cons, List.length_take, List.length_drop]
  omega
end
end L2
namespace KK
open PySem L2 KM
theorem for_enum {K : PySem.W.Frag} {a : Addr} {xs : List V} {g : TG} {tb : TS} {D : Ends} {σ : St} {H : Hp} (Pv : Nat → St → Hp → Prop) (h0 : Pv 0 σ H) (hl : ∀ i σ H, Pv i σ H → SqL K H a xs)
    (hs : ∀ (i : Nat) (x : V) (σ : St) (H : Hp) (T : Addr), xs[i]? = some x → Pv i σ H → H T = none → g (.ref T) σ (upd H T (.tup [.int i, x])) fun σ2 H2 => tb { D with nx := Pv (i + 1), ct := Pv (i + 1), bk := D.nx } σ2 H2)
    (hd : ∀ σ H, Pv xs.length σ H → D.nx σ H) :
    ∃ W : Nat → Nat → St → Hp → Prop, (∃ m, W 0 m σ H) ∧ ∀ i m σ H, W i m σ H →
      ((Ite K a).stop i H ∧ D.nx σ H) ∨ ((Ite K a).go i H ∧ ∃ N : St → Hp → Prop, (∀ σ' H', N σ' H' → ∃ m', m' < m ∧ W (i + 1) m' σ' H') ∧ ∀ x H', (Ite K a).yld i H x H' → g x σ H' fun σ2 H2 => tb { D with nx := N, ct := N, bk := D.nx } σ2 H2) := by
  refine ⟨fun i m σ H => m = xs.length - i ∧ i ≤ xs.length ∧ Pv i σ H, ⟨xs.length, by simp, Nat.zero_le _, h0⟩, ?_⟩
  rintro i m σ H ⟨rfl, hi, p⟩
  have q1 := hl i σ H p
  by_cases hlt : i < xs.length
  · refine .inr ⟨⟨xs, xs[i], q1, by simp⟩, Pv (i + 1), fun σ' H' p' => ⟨xs.length - (i + 1), by omega, rfl, hlt, p'⟩, fun x H' y => ?_⟩
    obtain ⟨T, u, rfl, hT, rfl, e1⟩ := y
    exact hs i u σ H T (e1 xs q1) p hT
  · have e : i = xs.length := by omega
    subst e
    exact .inl ⟨⟨xs, q1, Nat.le_refl _⟩, hd σ H p⟩
theorem Sz.sub {m n : Nat} {x y : Rat} (h : Sz m x) (k : Sz n y) : Sz (m + n + 1) (x - y) := by
  rw [Rat.sub_eq_add_neg]
  exact h.add ⟨by rw [Rat.neg_num]; exact k.1.neg, by rw [Rat.neg_den]; exact k.2⟩
def ERS (H : Hp) (n : Nat) (us : List V) : Prop := ∀ v ∈ us, ∃ r q, v = .ref r ∧ RatAt H r q ∧ Sz n q
theorem ERS.tups {H H' : Hp} {n : Nat} {us : List V} (h : ERS H n us) (e : TupS H H') : ERS H' n us := fun v m => let ⟨r, q, a, b, c⟩ := h v m; ⟨r, q, a, e _ _ b, c⟩
theorem ERS.mono {H : Hp} {n n' : Nat} {us : List V} (h : ERS H n us) (l : n ≤ n') : ERS H n' us := fun v m => let ⟨r, q, a, b, c⟩ := h v m; ⟨r, q, a, b, c.mono l⟩
theorem ERS.cons {H : Hp} {n : Nat} {us : List V} {r : Addr} {q : Rat} (h : ERS H n us) (e : RatAt H r q) (z : Sz n q) : ERS H n (.ref r :: us) := fun v m => by
  rcases List.mem_cons.mp m with rfl | m
  · exact ⟨r, q, rfl, e, z⟩
  · exact h v m
theorem ERS.snoc {H : Hp} {n : Nat} {us : List V} {r : Addr} {q : Rat} (h : ERS H n us) (e : RatAt H r q) (z : Sz n q) : ERS H n (us ++ [.ref r]) := fun v m => by
  rcases List.mem_append.mp m with m | m
  · exact h v m
  · have : v = .ref r := by simpa using m
    exact ⟨r, q, this, e, z⟩
theorem ERS.rev {H : Hp} {n : Nat} {us : List V} (h : ERS H n us) : ERS H n us.reverse := fun v m => h v (List.mem_reverse.mp m)
theorem cl_fst {a b : Str} {m n : Addr} (x : Str) (c : Addr) (e : List.lookup x [(a, m)] = some c) : List.lookup x [(a, m), (b, n)] = some c := by
  simp only [List.lookup] at e ⊢
  cases h1 : (x == a) with
  | true => rw [h1] at e; exact e
  | false => rw [h1] at e; cases e
theorem cl_snd {a b : Str} {m n : Addr} (h : a ≠ b) (x : Str) (c : Addr) (e : List.lookup x [(b, n)] = some c) : List.lookup x [(a, m), (b, n)] = some c := by
  simp only [List.lookup] at e ⊢
  cases h1 : (x == b) with
  | true =>
    cases h2 : (x == a) with
    | true => exact absurd ((eq_of_beq h2).symm.trans (eq_of_beq h1)) h
    | false => rw [h1] at e; exact e
  | false => rw [h1] at e; cases e
end KK
end
section
set_option maxHeartbeats 8000000
set_option Elab.async false
set_option linter.all false
set_option maxRecDepth 100000
namespace KK
open PySem L2 KM
structure NEn (mg : Str → Option Value) : Prop where
  nEnum : mg "enumerate" = none
theorem sz_q {t b : Int} {n : Nat} (h0 : -(2 ^ n) < t) (h1 : t < 2 ^ n) (b0 : 0 < b) (b1 : b < 2 ^ n) : Sz n (Rat.divInt t b) := .divInt (by omega) (bdz h0 h1) (bdn (by omega) b1)
theorem menu8b {d : Int} (h0 : 0 ≤ d) (h1 : d < 8) : ∃ v : Int, atI [V.int 2, .int 2, .int 3, .int 3, .int 4, .int 5, .int 6, .int 7] d = some (.int v) ∧ 2 ≤ v ∧ v ≤ 7 := by
  have : d = 0 ∨ d = 1 ∨ d = 2 ∨ d = 3 ∨ d = 4 ∨ d = 5 ∨ d = 6 ∨ d = 7 := by omega
  rcases this with rfl | rfl | rfl | rfl | rfl | rfl | rfl | rfl
  all_goals exact ⟨_, rfl, by decide, by decide⟩
def ZB (bs : List Ball) : Prop := ∀ b ∈ bs, Sz 300 b.pl ∧ Sz 80 b.sp ∧ 1 ≤ b.wt ∧ b.wt ≤ 1000
structure ERQ (H : Hp) (n : Nat) (us : List V) (qs : List Rat) : Prop where
  len : us.length = qs.length
  at' : ∀ (i : Nat) (v : V), us[i]? = some v → ∃ r q, v = .ref r ∧ qs[i]? = some q ∧ RatAt H r q
  sz : ∀ q ∈ qs, Sz n q
theorem ERQ.tups {H H' : Hp} {n : Nat} {us : List V} {qs : List Rat} (h : ERQ H n us qs) (e : TupS H H') : ERQ H' n us qs := ⟨h.len, fun i v f => let ⟨r, q, a, b, c⟩ := h.at' i v f; ⟨r, q, a, b, e _ _ c⟩, h.sz⟩
theorem ERQ.mono {H : Hp} {n n' : Nat} {us : List V} {qs : List Rat} (h : ERQ H n us qs) (l : n ≤ n') : ERQ H n' us qs := ⟨h.len, h.at', fun q m => (h.sz q m).mono l⟩
theorem ERQ.nil {H : Hp} {n : Nat} : ERQ H n [] [] := ⟨rfl, fun i v e => by simp at e, fun q m => by cases m⟩
theorem ERQ.cons {H : Hp} {n : Nat} {us : List V} {qs : List Rat} {r : Addr} {q : Rat} (h : ERQ H n us qs) (hr : RatAt H r q) (z : Sz n q) : ERQ H n (.ref r :: us) (q :: qs) := by
  refine ⟨by simp [h.len], fun i v e => ?_, fun x m => ?_⟩
  · match i, e with
    | 0, e => cases e; exact ⟨r, q, rfl, rfl, hr⟩
    | i + 1, e => exact h.at' i v (by simpa using e)
  · rcases List.mem_cons.mp m with rfl | m
    · exact z
    · exact h.sz x m
theorem ERQ.snoc {H : Hp} {n : Nat} {us : List V} {qs : List Rat} {r : Addr} {q : Rat} (h : ERQ H n us qs) (hr : RatAt H r q) (z : Sz n q) : ERQ H n (us ++ [.ref r]) (qs ++ [q]) := by
  refine ⟨by simp [h.len], fun i v e => ?_, fun x m => ?_⟩
  · by_cases hi : i < us.length
    · rw [List.getElem?_append_left hi] at e
      rw [List.getElem?_append_left (by rw [← h.len]; exact hi)]
      exact h.at' i v e
    · rw [List.getElem?_append_right (by omega)] at e
      have hj : i - us.length = 0 := by
        rcases Nat.eq_zero_or_pos (i - us.length) with z | z
        · exact z
        · rw [List.getElem?_eq_none (by simp; omega)] at e; cases e
      rw [hj] at e; cases e
      exact ⟨r, q, rfl, by rw [List.getElem?_append_right (by rw [← h.len]; omega), ← h.len, hj]; rfl, hr⟩
  · rcases List.mem_append.mp m with y | y
    · exact h.sz x y
    · have : x = q := by simpa using y
      rw [this]; exact z
def bq (n : Nat) : Rat := ((4 * (n : Int) : Int) : Rat)
theorem bq_succ (n : Nat) : bq (n + 1) = bq n + 4 := by
  unfold bq
  have : (4 * ((n + 1 : Nat) : Int) : Int) = 4 * (n : Int) + 4 := by omega
  rw [this, Rat.intCast_add]; rfl
theorem bq_nn (n : Nat) : 0 ≤ bq n := by
  have : ((0 : Int) : Rat) ≤ ((4 * (n : Int) : Int) : Rat) := Rat.intCast_le_intCast.mpr (by omega)
  exact this
theorem bq_le {n : Nat} (h : n ≤ 8) : bq n ≤ 32 := by
  have : ((4 * (n : Int) : Int) : Rat) ≤ ((32 : Int) : Rat) := Rat.intCast_le_intCast.mpr (by omega)
  exact this
def FQ (ow b : Rat) (qs : List Rat) : Prop := ∀ q ∈ qs, ow - b ≤ q ∧ q ≤ ow + b
def FA (ow : Rat) (qs : List Rat) : Prop := qs.Pairwise (· > ·) ∧ (∀ q ∈ qs, ow < q) ∧ FQ ow (bq qs.length) qs
theorem FA.cons {ow q0 x : Rat} {qs : List Rat} (h : FA ow (q0 :: qs)) (lt : q0 < x) (le : x ≤ q0 + 4) : FA ow (x :: q0 :: qs) := by
  refine ⟨List.pairwise_cons.mpr ⟨fun a m => ?_, h.1⟩, fun q m => ?_, fun q m => ?_⟩
  · rcases List.mem_cons.mp m with rfl | m
    · exact lt
    · have := (List.pairwise_cons.mp h.1).1 a m
      grind
  · rcases List.mem_cons.mp m with rfl | m
    · have := h.2.1 q0 (List.mem_cons_self ..)
      grind
    · exact h.2.1 q m
  · have e : bq (x :: q0 :: qs).length = bq (q0 :: qs).length + 4 := bq_succ _
    rw [e]
    rcases List.mem_cons.mp m with rfl | m
    · have := h.2.2 q0 (List.mem_cons_self ..)
      grind
    · have := h.2.2 q m
      grind
def FB (wh : Int) (ow : Rat) (qs : List Rat) : Prop := qs.Pairwise (· > ·) ∧ (wh = 1 → ∀ q ∈ qs, q < ow) ∧ (wh ≠ 1 → ∀ q ∈ qs, ow < q) ∧ FQ ow (bq qs.length) qs
def FC (wh : Int) (ow : Rat) (qs : List Rat) : Prop := qs.Pairwise (· > ·) ∧ (wh = 1 → ∀ q ∈ qs, q ≤ ow) ∧ (wh ≠ 1 → ∀ q ∈ qs, ow < q) ∧ FQ ow (bq qs.length) qs
def FD (wh : Int) (ow : Rat) (qs : List Rat) : Prop := qs.Pairwise (· > ·) ∧ (wh = 1 → ∀ q ∈ qs, q ≤ ow) ∧ (wh = 2 → ∀ q ∈ qs, ow ≤ q) ∧ FQ ow (bq qs.length) qs
theorem FA.mirror {ow : Rat} {qs : List Rat} (h : FA ow qs) : FB 1 ow (qs.reverse.map fun q => ow + ow - q) := by
  refine ⟨?_, fun _ q m => ?_, fun z => absurd rfl z, fun q m => ?_⟩
  · rw [List.pairwise_map, List.pairwise_reverse]
    exact h.1.imp fun {a b} lt => by show ow + ow - b > ow + ow - a; grind
  · obtain ⟨x, mx, rfl⟩ := List.mem_map.mp m
    have := h.2.1 x (List.mem_reverse.mp mx)
    grind
  · obtain ⟨x, mx, rfl⟩ := List.mem_map.mp m
    have := h.2.2 x (List.mem_reverse.mp mx)
    rw [List.length_map, List.length_reverse]
    grind
theorem FA.fb {wh : Int} {ow : Rat} {qs : List Rat} (h : FA ow qs) (w : wh ≠ 1) : FB wh ow qs := ⟨h.1, fun z => absurd z w, fun _ => h.2.1, h.2.2⟩
theorem FB.fc {wh : Int} {ow : Rat} {qs : List Rat} (h : FB wh ow qs) : FC wh ow qs := ⟨h.1, fun z q m => by have := h.2.1 z q m; grind, h.2.2.1, h.2.2.2⟩
theorem FQ.more {ow b b' : Rat} {qs : List Rat} (h : FQ ow b qs) (l : b ≤ b') : FQ ow b' qs := fun q m => by have := h q m; grind
theorem FB.rest {ow : Rat} {qs : List Rat} (h : FB 1 ow qs) : FC 1 ow (ow :: qs) := by
  refine ⟨List.pairwise_cons.mpr ⟨fun a m => h.2.1 rfl a m, h.1⟩, fun _ q m => ?_, fun z => absurd rfl z, fun q m => ?_⟩
  · rcases List.mem_cons.mp m with rfl | m
    · grind
    · have := h.2.1 rfl q m
      grind
  · have e : bq (ow :: qs).length = bq qs.length + 4 := bq_succ _
    have n := bq_nn qs.length
    rw [e]
    rcases List.mem_cons.mp m with rfl | m
    · grind
    · have := h.2.2.2 q m
      grind
theorem FC.fd {wh : Int} {ow : Rat} {qs : List Rat} (h : FC wh ow qs) : FD wh ow qs := ⟨h.1, h.2.1, fun z q m => by have := h.2.2.1 (by omega) q m; grind, h.2.2.2⟩
theorem FC.rest {ow : Rat} {qs : List Rat} (h : FC 2 ow qs) : FD 2 ow (qs ++ [ow]) := by
  refine ⟨List.pairwise_append.mpr ⟨h.1, by simp, fun a m b mb => ?_⟩, fun z => absurd z (by decide), fun _ q m => ?_, fun q m => ?_⟩
  · have e : b = ow := by simpa using mb
    rw [e]; exact h.2.2.1 (by decide) a m
  · rcases List.mem_append.mp m with y | y
    · have := h.2.2.1 (by decide) q y
      grind
    · have e : q = ow := by simpa using y
      grind
  · have e : bq (qs ++ [ow]).length = bq qs.length + 4 := by rw [List.length_append]; exact bq_succ _
    have n := bq_nn qs.length
    rw [e]
    rcases List.mem_append.mp m with y | y
    · have := h.2.2.2 q y
      grind
    · have e : q = ow := by simpa using y
      grind
theorem div_bd {t b c : Int} (hb : 0 < b) (h0 : -c * b ≤ t) (h1 : t ≤ c * b) : -(c : Rat) ≤ Rat.divInt t b ∧ Rat.divInt t b ≤ (c : Rat) := by
  have hb' : (0 : Rat) < (b : Rat) := by exact_mod_cast hb
  rw [Rat.divInt_eq_div]
  have g0 : ((-c * b : Int) : Rat) ≤ (t : Rat) := Rat.intCast_le_intCast.mpr h0
  have g1 : (t : Rat) ≤ ((c * b : Int) : Rat) := Rat.intCast_le_intCast.mpr h1
  rw [Rat.intCast_mul] at g0 g1
  rw [Rat.intCast_neg] at g0
  constructor
  · rcases Classical.em ((t : Rat) / (b : Rat) < -(c : Rat)) with z | z
    · rw [Rat.div_lt_iff hb'] at z; grind
    · grind
  · rcases Classical.em ((c : Rat) < (t : Rat) / (b : Rat)) with z | z
    · rw [Rat.lt_div_iff hb'] at z; grind
    · grind
section
variable {P : Program} {w : World} {K : PySem.W.Frag} {mg : Str → Option Value} {base : Heap}
def spRaB : Sp := fun vs H Q _ => ∃ (p : Addr) (n : Int), vs = [.ref p, .int n] ∧ 0 ≤ n ∧ n ≤ 1000000 ∧ Pool H p ∧ ∀ r x H', Step p H H' → RatAt H' r x → Sz 69 x → Q (.ref r) H'
theorem ok_raB (D : Df K mg "_law_ratio" s_law_ratio ["pool", "size"] []) (cN : Cal P w K mg base "_law_next" 1 ["pool", "base"] [] spNext) (cWi : Cal P w K mg base "_law_wide" 2 ["pool", "base"] [] spWide) (cL : Cal P w K mg base "_law_low" 1 ["top", "bottom"] [] spLow) : Cal P w K mg base "_law_ratio" 3 ["pool", "size"] [] spRaB := by
  refine D.calB (k := 2) sc_ra (fun vs H Q E h => by obtain ⟨_, _, rfl, _⟩ := h; rfl) (fun f cdv A outer s H vs Q E hr h => ?_)
  obtain ⟨p, n, rfl, n0, n1, hP, k⟩ := h
  have hr1 : Room 1 _ := hr.mono (by decide)
  refine ⟨_, (bx_scons (bx_set (i := 2) sc_ra.nd rfl (Or.inl rfl) (bx_ix ix_list (bx_lst (bx_cons (Bx.mk pe_int) (bx_cons (Bx.mk pe_int) (bx_cons (Bx.mk pe_int) (bx_cons (Bx.mk pe_int) (bx_cons (Bx.mk pe_int) (bx_cons (Bx.mk pe_int) (bx_cons (Bx.mk pe_int) (bx_cons (Bx.mk (pe_op op_pow pe_int pe_int)) bx_nil))))))))) (Bx.mk (pe_c cN hr1 (pa_cons (pv 0) (pa_cons pe_int pa_nil)))) (fun _ _ => rfl))) (Bx.mk (pss_cons (ps_if (pt_cmpR op_eq (pe_c cN hr1 (pa_cons (pv 0) (pa_cons pe_int pa_nil))) pe_int (nomark _)) (pss_one (ps_ret (pe_c cL hr1 (pa_cons (pe_op op_sub (pe_c cWi hr (pa_cons (pv 0) (pa_cons (pe_op op_add (pe_op op_mulB pe_int (pe_op op_pow pe_int pe_int)) pe_int) pa_nil))) (pe_op op_pow pe_int pe_int)) (pa_cons (pv 2) pa_nil))))) pss_nil)
    (pss_one (ps_ret (pe_c cL hr1 (pa_cons (pe_op op_sub (pe_c cN hr1 (pa_cons (pv 0) (pa_cons (pe_op op_add (pe_op op_mulB pe_int (pv 1)) pe_int) pa_nil))) (pv 1)) (pa_cons (pv 2) pa_nil)))))))), ?_⟩
  refine ⟨_, _, rfl, rfl, ⟨by decide, by decide, by decide⟩, by show 8 ≤ sizeLine; decide, fun l1 hl1 => ?_⟩
  refine ⟨_, rfl, p, _, rfl, by decide, by decide, hP.new hl1, fun d1 G1 a1 b1 t1 => ?_⟩
  obtain ⟨v, ev, v0, v1⟩ := menu8r a1 b1
  refine ⟨l1, _, _, _, rfl, rfl, .of (t1.keep l1 _ upd_same (hP.ne hl1)), ev, ?_⟩
  have T1 : Step p H G1 := t1.pre (Same.upd hl1)
  have vb : Bd 8900 v := Bd.mono (m := 20) (bdn (by omega) (by omega)) (by decide)
  refine ⟨_, rfl, p, _, rfl, by decide, by decide, t1.pool, fun d2 G2 a2 b2 t2 => ⟨rfl, _, rfl, ite2 (fun h => ?_) (fun h => ?_)⟩⟩
  · refine ⟨_, rfl, _, _, rfl, rfl, ⟨by decide, by decide, by decide⟩, _, _, rfl, rfl, ⟨Bd.mono (m := 2) (bdn (by decide) (by decide)) (by decide), Bd.mono (m := 80) (bdn (by decide) (by decide)) (by decide)⟩, _, _, rfl, rfl, p, _, rfl, by decide, t2.pool, fun d3 G3 a3 b3 t3 => ?_⟩
    refine ⟨_, _, rfl, rfl, ⟨by decide, by decide, by decide⟩, _, _, rfl, rfl, _, rfl, _, _, rfl, by omega, vb, fun r H' e h => k r _ H' (((T1.trans t2).trans t3).same e) h (.divInt (by omega) ?_ (Bd.mono (m := 20) (bdn (by omega) (by omega)) (by decide)))⟩
    have e20 : ((10 : Int) ^ (20 : Int).toNat) = 100000000000000000000 := by decide
    have b3' : d3 < 2 * ((10 : Int) ^ (20 : Int).toNat) + 1 := b3
    show Bd 69 (d3 - (10 : Int) ^ (20 : Int).toNat)
    rw [e20] at b3' ⊢
    exact Bd.mono (m := 68) (bdz (by omega) (by omega)) (by decide)
  · refine ⟨_, rfl, _, rfl, _, _, rfl, rfl, ⟨Bd.mono (m := 2) (bdn (by decide) (by decide)) (by decide), Bd.mono (m := 30) (bdn (by omega) (by omega)) (by decide)⟩, _, _, rfl, rfl, p, _, rfl, by omega, by omega, t2.pool, fun d3 G3 a3 b3 t3 => ?_⟩
    refine ⟨_, rfl, _, _, rfl, rfl, _, rfl, _, _, rfl, by omega, vb, fun r H' e h => k r _ H' (((T1.trans t2).trans t3).same e) h (.divInt (by omega) ?_ (Bd.mono (m := 20) (bdn (by omega) (by omega)) (by decide)))⟩
    exact Bd.mono (m := 30) (bdz (by omega) (by omega)) (by decide)
def spSpB : Sp := fun vs H Q _ => ∃ (p : Addr), vs = [.ref p] ∧ Pool H p ∧ ∀ r x H', Step p H H' → RatAt H' r x → Sz 5 x → -6 ≤ x → x ≤ 6 → Q (.ref r) H'
theorem ok_spB (D : Df K mg "_law_speed" s_law_speed ["pool"] []) (cN : Cal P w K mg base "_law_next" 1 ["pool", "base"] [] spNext) (cL : Cal P w K mg base "_law_low" 1 ["top", "bottom"] [] spLow) : Cal P w K mg base "_law_speed" 2 ["pool"] [] spSpB := by
  refine D.cal (k := 1) sc_sp (fun vs H Q E h => by obtain ⟨_, rfl, _⟩ := h; rfl) (fun f cdv A outer s H vs Q E hr h => ?_)
  obtain ⟨p, rfl, hP, k⟩ := h
  refine ⟨_, (pss_one (ps_ret (pe_c cL hr (pa_cons (pe_op op_sub (pe_c cN hr (pa_cons (pv 0) (pa_cons pe_int pa_nil))) pe_int) (pa_cons (pe_ix ix_list (pe_lst (pa_cons pe_int (pa_cons pe_int (pa_cons pe_int (pa_cons pe_int pa_nil))))) (pe_c cN hr (pa_cons (pv 0) (pa_cons pe_int pa_nil))) (fun _ _ => rfl)) pa_nil))))), ?_⟩
  refine ⟨_, rfl, p, _, rfl, by decide, by decide, hP, fun d1 G1 a1 b1 t1 => ⟨_, _, rfl, rfl, by show 4 ≤ sizeLine; decide, fun l1 hl1 => ?_⟩⟩
  refine ⟨_, rfl, p, _, rfl, by decide, by decide, t1.pool.new hl1, fun d2 G2 a2 b2 t2 => ?_⟩
  obtain ⟨v, ev, v0, v1⟩ := menu4s a2 b2
  refine ⟨l1, _, _, _, rfl, rfl, .of (t2.keep l1 _ upd_same (t1.pool.ne hl1)), ev, ?_⟩
  have hb := div_bd (t := d1 - 6) (b := v) (c := 6) (by omega) (by omega) (by omega)
  refine ⟨_, _, rfl, by omega, Bd.mono (m := 5) (bdn (by omega) (by omega)) (by decide), fun r H' e h => k r _ H' ((t1.trans (t2.pre (Same.upd hl1))).same e) h (.divInt (by omega) (bdz (by omega) (by omega)) (bdn (by omega) (by omega))) hb.1 hb.2⟩
def spBu : Sp := fun vs H Q _ => ∃ (p pp pm : Addr) (wh : Int) (al : Bool) (x m : Rat), vs = [.ref p, .int wh, .ref pp, .ref pm, .bl al] ∧ 0 ≤ wh ∧ wh ≤ 2 ∧ RatAt H pp x ∧ Sz 80 x ∧ RatAt H pm m ∧ Sz 5 m ∧ Pool H p ∧
  ∀ t r wl us bs ra rb y z H', Step p H H' → H' t = some (.tup [.ref r, .ref wl]) → H' r = some (.tup us) → BallsAt H' us bs → ZB bs → 1 ≤ bs.length → bs.length ≤ 8 → H' wl = some (.tup [.ref ra, .ref rb]) → RatAt H' ra y → RatAt H' rb z → Sz 300 y → Sz 80 z → (∃ qs, bs.map (fun b => (b.pl, b.sp)) = lineL x m qs ∧ FD wh z qs ∧ y = x - z * m ∧ -6 ≤ z ∧ z ≤ 6) → Q (.ref t) H'
theorem sc_bu : FnScope ["pool", "where", "place", "moment", "alike", "rest", "many", "own", "speeds", "k", "weights", "row", "speed"] ["pool", "where", "place", "moment", "alike"] (defScope s_law_bundle) := ⟨rfl, rfl, rfl, by decide +kernel, rfl, by decide +kernel, by decide +kernel⟩
theorem ok_bu (D : Df K mg "_law_bundle" s_law_bundle ["pool", "where", "place", "moment", "alike"] []) (T : TxB K mg) (TW : NEn mg) (cN : Cal P w K mg base "_law_next" 1 ["pool", "base"] [] spNext) (cSp : Cal P w K mg base "_law_speed" 2 ["pool"] [] spSpB)
    (cL : Cal P w K mg base "_law_low" 1 ["top", "bottom"] [] spLow) (cA : Cal P w K mg base "_law_add" 2 ["a", "b"] [] (spBin Sz2 (· + ·))) (cO : Cal P w K mg base "_law_off" 2 ["a", "b"] [] (spBin Sz2 (· - ·))) (cBy : Cal P w K mg base "_law_by" 2 ["a", "b"] [] (spBin Sz2 (· * ·))) : Cal P w K mg base "_law_bundle" 3 ["pool", "where", "place", "moment", "alike"] [] spBu := by
  refine D.calB (k := 2) sc_bu (fun vs H Q E h => by obtain ⟨_, _, _, _, _, _, _, rfl, _⟩ := h; rfl) (fun f cdv A outer s H vs Q E hr h => ?_)
  obtain ⟨p, pp, pm, wh, al, px, mm, rfl, w0, w2, hpp, zpp, hpm, zpm, hP, k⟩ := h
  have hr1 : Room 1 _ := hr.mono (by decide)
  refine ⟨_, (bx_scons (Bx.mk (ps_set (i := 5) sc_bu.nd rfl (Or.inl rfl) (pe_callTy call_int1 (by rfl) T.nInt PyProof.Rows.boot_int (pa_cons (pe_and (pe_cmpR op_gt (pv 1) pe_int (nomark _)) (pe_one (pe_cmpR op_eq (pe_c cN hr1 (pa_cons (pv 0) (pa_cons pe_int pa_nil))) pe_int (nomark _)))) pa_nil))))
    (bx_scons (bx_set (i := 6) sc_bu.nd rfl (Or.inl rfl) (bx_op op_sub (bx_ix ix_list (bx_lst (bx_cons (Bx.mk pe_int) (bx_cons (Bx.mk pe_int) (bx_cons (Bx.mk pe_int) (bx_cons (Bx.mk pe_int) (bx_cons (Bx.mk pe_int) (bx_cons (Bx.mk pe_int) (bx_cons (Bx.mk pe_int) (bx_cons (Bx.mk pe_int) bx_nil))))))))) (Bx.mk (pe_c cN hr1 (pa_cons (pv 0) (pa_cons pe_int pa_nil)))) (fun _ _ => rfl)) (Bx.mk (pv 5))))
    (bx_scons (bx_set (i := 7) sc_bu.nd rfl (Or.inr rfl) (bx_ix ix_list (bx_lst (bx_cons (bx_tup (bx_cons (Bx.mk pe_int) (bx_cons (Bx.mk pe_int) bx_nil))) (bx_cons (bx_tup (bx_cons (Bx.mk pe_int) (bx_cons (Bx.mk pe_int) bx_nil))) (bx_cons (Bx.mk (pe_c cSp hr (pa_cons (pv 0) pa_nil))) bx_nil)))) (Bx.mk (pe_c cN hr1 (pa_cons (pv 0) (pa_cons pe_int pa_nil)))) (fun _ _ => rfl)))
    (bx_scons (Bx.mk (ps_set (i := 8) sc_bu.nd rfl (Or.inl rfl) (pe_lst (pa_cons (pe_c cA hr (pa_cons (pv 7) (pa_cons (pe_c cL hr1 (pa_cons (pe_op op_add pe_int (pe_c cN hr1 (pa_cons (pv 0) (pa_cons pe_int pa_nil)))) (pa_cons (pe_op op_add pe_int (pe_c cN hr1 (pa_cons (pv 0) (pa_cons pe_int pa_nil)))) pa_nil))) pa_nil))) pa_nil))))
    (bx_scons (Bx.mk (ps_for PassesOwn.never rfl (pi_range1 rfl T.nRange (pa_cons (pe_op op_sub (pv 6) pe_int) pa_nil)) (pg_name (i := 9) sc_bu.nd rfl (Or.inl rfl)) (pss_one (ps_expr (pe_bm PySem.F.plainAttrs_list PySem.F.slot_list_insert PySem.F.type_list_insert mt_insert (pv 8) (pa_cons pe_int (pa_cons (pe_c cA hr (pa_cons (pe_ix ix_list (pv 8) pe_int (fun _ _ => rfl)) (pa_cons (pe_c cL hr1 (pa_cons (pe_op op_add pe_int (pe_c cN hr1 (pa_cons (pv 0) (pa_cons pe_int pa_nil)))) (pa_cons (pe_op op_add pe_int (pe_c cN hr1 (pa_cons (pv 0) (pa_cons pe_int pa_nil)))) pa_nil))) pa_nil))) pa_nil)))))))
    (bx_scons (Bx.mk (ps_if (pt_cmpR op_eq (pv 1) pe_int (nomark _)) (pss_one (ps_setC (i := 8) (NB := ["speed"]) (FR := ["own"]) (js := [7]) rfl rfl cl_fst (.cons rfl rfl rfl ⟨_, rfl⟩ .nil) rfl (by decide +kernel) rfl (by decide +kernel) sc_bu.nd rfl rfl (by rfl) (pi_list (pe_revL (pv 8) (pe_un un_neg pe_int))) (by intro _ _ _; refine ⟨?_, ?_, ?_⟩; (exact (pg_name (i := 0) (show List.Nodup (["speed", "own"] : List Str) by decide +kernel) rfl (Or.inl rfl))); (exact pts_nil); (exact (pe_c cO hr (pa_cons (pe_c cA hr (pa_cons (pv 1) (pa_cons (pv 1) pa_nil))) (pa_cons (pv 0) pa_nil))))))) pss_nil))
    (bx_scons (Bx.mk (ps_if (pw_and (pt_cmpR op_eq (pv 5) pe_int (nomark _)) (pw_and1 (pt_cmpR op_eq (pv 1) pe_int (nomark _)))).pt (pss_one (ps_expr (pe_bm PySem.F.plainAttrs_list PySem.F.slot_list_insert PySem.F.type_list_insert mt_insert (pv 8) (pa_cons pe_int (pa_cons (pv 7) pa_nil))))) pss_nil))
    (bx_scons (Bx.mk (ps_if (pw_and (pt_cmpR op_eq (pv 5) pe_int (nomark _)) (pw_and1 (pt_cmpR op_eq (pv 1) pe_int (nomark _)))).pt (pss_one (ps_expr (pe_bm PySem.F.plainAttrs_list PySem.F.slot_list_append PySem.F.type_list_append mt_append (pv 8) (pa_cons (pv 7) pa_nil)))) pss_nil))
    (bx_scons (Bx.mk (ps_setC (i := 10) (NB := ["speed"]) (FR := ["pool"]) (js := [0]) rfl rfl (cl_snd (a := "own") (b := "pool") (by decide)) (.cons rfl rfl rfl ⟨_, rfl⟩ .nil) rfl (by decide +kernel) rfl (by decide +kernel) sc_bu.nd rfl rfl (by rfl) (pi_list (pv 8)) (by intro _ _ _; refine ⟨?_, ?_, ?_⟩; (exact (pg_name (i := 0) (show List.Nodup (["speed", "pool"] : List Str) by decide +kernel) rfl (Or.inl rfl))); (exact pts_nil); (exact (pe_op op_add pe_int (pe_c cN hr1 (pa_cons (pv 1) (pa_cons pe_int pa_nil))))))))
    (bx_scons (Bx.mk (ps_if (pt_truth (pv 4) fun _ => rfl) (pss_one (ps_set (i := 10) sc_bu.nd rfl (Or.inl rfl) (pe_op op_rep (pe_lst (pa_cons (pe_ix ix_list (pv 10) pe_int (fun _ _ => rfl)) pa_nil)) (pe_callB call_len_seq (by rfl) T.nLen PySem.boot_len (pa_cons (pv 10) pa_nil))))) pss_nil))
    (bx_scons (Bx.mk (ps_set (i := 11) sc_bu.nd rfl (Or.inl rfl) (pe_lst pa_nil)))
    (bx_scons (Bx.mk (ps_for PassesOwn.never rfl (pi_enum (by rfl) TW.nEnum (pa_cons (pv 8) pa_nil)) (pg_tup rfl (pgs_cons (pg_name (i := 9) sc_bu.nd rfl (Or.inl rfl)) (pgs_cons (pg_name (i := 12) sc_bu.nd rfl (Or.inl rfl)) pgs_nil))) (pss_one (ps_expr (pe_bm PySem.F.plainAttrs_list PySem.F.slot_list_append PySem.F.type_list_append mt_append (pv 11) (pa_cons (pe_tup (pa_cons (pe_c cO hr (pa_cons (pv 2) (pa_cons (pe_c cBy hr (pa_cons (pv 12) (pa_cons (pv 3) pa_nil))) pa_nil))) (pa_cons (pv 12) (pa_cons (pe_ix ix_list (pv 10) (pv 9) (fun _ _ => rfl)) pa_nil)))) pa_nil))))))
    (Bx.mk (pss_one (ps_ret (pe_tup (pa_cons (pe_callTy call_tuple_of (by rfl) T.nTuple PyProof.Rows.boot_tuple (pa_cons (pv 11) pa_nil)) (pa_cons (pe_tup (pa_cons (pe_c cO hr (pa_cons (pv 2) (pa_cons (pe_c cBy hr (pa_cons (pv 7) (pa_cons (pv 3) pa_nil))) pa_nil))) (pa_cons (pv 7) pa_nil))) pa_nil)))))))))))))))))), ?_⟩
  -- rest
  refine st_mid (fun σ' G => ∃ rs : Int, (rs = 0 ∨ rs = 1) ∧ σ' = [some (.ref p), some (.int wh), some (.ref pp), some (.ref pm), some (.bl al), some (.int rs), none, none, none, none, none, none, none] ∧ Step p H G) ?_ ?_
  rotate_left
  · intro nx hnx
    refine ⟨_, rfl, _, _, rfl, rfl, _, rfl, ite2 (fun h => ?_) (fun h => ?_)⟩
    · refine ⟨_, rfl, p, _, rfl, by decide, by decide, hP, fun d1 G1 a1 b1 t1 => ⟨rfl, .inr ⟨_, rfl, ?_⟩⟩⟩
      exact hnx _ _ ⟨_, by split <;> omega, rfl, t1⟩
    · exact .inr ⟨_, rfl, hnx _ _ ⟨0, .inl rfl, rfl, Step.refl hP⟩⟩
  rintro σ' G1 ⟨rs, hrs, rfl, T1⟩
  -- many
  refine st_mid (fun σ' G => ∃ mn : Int, 1 ≤ mn ∧ mn + rs ≤ 7 ∧ σ' = [some (.ref p), some (.int wh), some (.ref pp), some (.ref pm), some (.bl al), some (.int rs), some (.int mn), none, none, none, none, none, none] ∧ Step p H G) ?_ ?_
  rotate_left
  · intro nx hnx
    refine ⟨by show 8 ≤ sizeLine; decide, fun l1 hl1 => ?_⟩
    refine ⟨_, rfl, p, _, rfl, by decide, by decide, T1.pool.new hl1, fun d2 G2 a2 b2 t2 => ?_⟩
    obtain ⟨v, ev, v0, v1⟩ := menu8b a2 b2
    refine ⟨l1, _, _, _, rfl, rfl, .of (t2.keep l1 _ upd_same (T1.pool.ne hl1)), ev, ?_⟩
    exact ⟨_, rfl, _, _, rfl, rfl, hnx _ _ ⟨v - rs, by omega, by omega, rfl, T1.trans (t2.pre (Same.upd hl1))⟩⟩
  rintro σ' G2 ⟨mn, m1, m7, rfl, T2⟩
  -- own
  refine st_mid (fun σ' G => ∃ ro ow, σ' = [some (.ref p), some (.int wh), some (.ref pp), some (.ref pm), some (.bl al), some (.int rs), some (.int mn), some (.ref ro), none, none, none, none, none] ∧ Step p H G ∧ RatAt G ro ow ∧ Sz 5 ow ∧ -6 ≤ ow ∧ ow ≤ 6) ?_ ?_
  rotate_left
  · intro nx hnx
    refine ⟨by show 2 ≤ sizeLine; decide, fun q1 h1 => ?_⟩
    refine ⟨by show 2 ≤ sizeLine; decide, fun q2 h2 => ?_⟩
    have T2' := T2.same ((Same.upd (o := .tup [.int 0, .int 1]) h1).trans (Same.upd (o := .tup [.int 0, .int 1]) h2))
    refine ⟨_, rfl, p, rfl, T2'.pool, fun r3 x3 G3 t3 hr3 z3 y3a y3b => ?_⟩
    have g1 : RatAt G3 q1 0 := step_tups T2'.pool t3 _ _ (Same.upd h2 _ _ upd_same)
    have g2 : RatAt G3 q2 0 := step_tups T2'.pool t3 _ _ upd_same
    have T3 := T2'.trans t3
    refine ⟨by show 3 ≤ sizeLine; decide, fun l3 hl3 => ?_⟩
    refine ⟨_, rfl, p, _, rfl, by decide, by decide, T3.pool.new hl3, fun d4 G4 a4 b4 t4 => ?_⟩
    have Tu4 : TupS G3 G4 := (TupS.of (Same.upd hl3)).trans (step_tups (T3.pool.new hl3) t4)
    have T4 : Step p H G4 := T3.trans (t4.pre (Same.upd hl3))
    obtain ⟨ro, ow, ers, hro, zow, yowa, yowb⟩ : ∃ rs sp, atI [V.ref q1, .ref q2, .ref r3] d4 = some (.ref rs) ∧ RatAt G3 rs sp ∧ Sz 5 sp ∧ -6 ≤ sp ∧ sp ≤ 6 := by
      have zz : Sz 5 (0 : Rat) := ⟨show (0 : Int).natAbs < 2 ^ 5 by decide, show (1 : Int).natAbs < 2 ^ 5 by decide⟩
      have : d4 = 0 ∨ d4 = 1 ∨ d4 = 2 := by omega
      rcases this with rfl | rfl | rfl
      · exact ⟨q1, 0, rfl, g1, zz, by decide, by decide⟩
      · exact ⟨q2, 0, rfl, g2, zz, by decide, by decide⟩
      · exact ⟨r3, x3, rfl, hr3, z3, y3a, y3b⟩
    exact ⟨l3, _, _, _, rfl, rfl, .of (t4.keep l3 _ upd_same (T3.pool.ne hl3)), ers, hnx _ _ ⟨ro, ow, rfl, T4, Tu4 _ _ hro, zow, yowa, yowb⟩⟩
  rintro σ' G3 ⟨ro, ow, rfl, T3, hro, zow, yowa, yowb⟩
  -- speeds
  refine st_mid (fun σ' G => ∃ ls us qs, σ' = [some (.ref p), some (.int wh), some (.ref pp), some (.ref pm), some (.bl al), some (.int rs), some (.int mn), some (.ref ro), some (.ref ls), none, none, none, none] ∧ Step p H G ∧ RatAt G ro ow ∧ H ls = none ∧ ls ≠ p ∧ G ls = some (.lst us) ∧ us.length = 1 ∧ ERQ G 10 us qs ∧ FA ow qs) ?_ ?_
  rotate_left
  · intro nx hnx
    refine ⟨_, rfl, _, rfl, p, _, rfl, by decide, by decide, T3.pool, fun d4 G4 a4 b4 t4 => ⟨_, _, rfl, rfl, ?_⟩⟩
    refine ⟨_, rfl, p, _, rfl, by decide, by decide, t4.pool, fun d5 G5 a5 b5 t5 => ⟨_, _, rfl, rfl, ?_⟩⟩
    have Tu5 : TupS G3 G5 := (step_tups T3.pool t4).trans (step_tups t4.pool t5)
    refine ⟨_, _, rfl, by omega, Bd.mono (m := 5) (bdn (by omega) (by omega)) (by decide), fun r6 G6 e6 hr6 => ?_⟩
    have z6 : Sz 3 (Rat.divInt (1 + d4) (1 + d5)) := sz_q (by omega) (by omega) (by omega) (by omega)
    refine ⟨ro, r6, _, _, rfl, e6 _ _ (Tu5 _ _ hro), hr6, ⟨zow.mono (by decide), z6.mono (by decide)⟩, fun r7 G7 e7 hr7 => ⟨by show 1 ≤ sizeLine; decide, fun ls hls => ?_⟩⟩
    have T7 : Step p H G7 := (((T3.trans t4).trans t5).same e6).same e7
    have p6 : 0 < Rat.divInt (1 + d4) (1 + d5) := by
      rw [← Rat.zero_divInt (1 + d5)]; exact (divInt_lt (by omega)).mpr (by omega)
    refine hnx _ _ ⟨ls, _, _, rfl, T7.same (Same.upd hls), Same.upd hls _ _ (e7 _ _ (e6 _ _ (Tu5 _ _ hro))), T7.free hls, T7.pool.ne hls, upd_same, rfl, ERQ.nil.cons (Same.upd hls _ _ hr7) ((zow.add z6).mono (by decide)), by simp, fun q m => ?_, fun q m => ?_⟩
    · have e : q = ow + Rat.divInt (1 + d4) (1 + d5) := by simpa using m
      grind
    · have e : q = ow + Rat.divInt (1 + d4) (1 + d5) := by simpa using m
      have hb := (div_bd (t := 1 + d4) (b := 1 + d5) (c := 4) (by omega) (by omega) (by omega)).2
      have e1 : bq [ow + Rat.divInt (1 + d4) (1 + d5)].length = 4 := rfl
      have e2 : ((4 : Int) : Rat) = 4 := rfl
      rw [e1]
      grind
  rintro σ' G4 ⟨ls, us, qs, rfl, T4, hro4, hlsH, hlsp, hls, hul, hus, hFA⟩
  -- more speeds
  refine st_mid (fun σ' G => ∃ us qs z9, σ' = [some (.ref p), some (.int wh), some (.ref pp), some (.ref pm), some (.bl al), some (.int rs), some (.int mn), some (.ref ro), some (.ref ls), z9, none, none, none] ∧ Step p H G ∧ RatAt G ro ow ∧ G ls = some (.lst us) ∧ (us.length : Int) = mn ∧ ERQ G 40 us qs ∧ FA ow qs) ?_ ?_
  rotate_left
  · intro nx hnx
    refine ⟨_, rfl, _, _, rfl, rfl, mn - 1, rfl, by omega, by omega, ?_⟩
    refine for_range (n := (mn - 1).toNat) (lo := 0) (fun i σ G => ∃ us qs z9, σ = [some (.ref p), some (.int wh), some (.ref pp), some (.ref pm), some (.bl al), some (.int rs), some (.int mn), some (.ref ro), some (.ref ls), z9, none, none, none] ∧ Step p H G ∧ RatAt G ro ow ∧ G ls = some (.lst us) ∧ us.length = i + 1 ∧ ERQ G (10 + 5 * i) us qs ∧ FA ow qs)
      ⟨us, qs, _, rfl, T4, hro4, hls, hul, hus, hFA⟩ ?_ ?_
    · rintro i σ G hi ⟨us, qs, z9, rfl, TG, hroG, hlsG, hulG, husG, hFA⟩
      have hi7 : i < 6 := by omega
      obtain ⟨v0, us', rfl⟩ : ∃ v0 us', us = v0 :: us' := by
        cases us with
        | nil => simp at hulG
        | cons v0 us' => exact ⟨v0, us', rfl⟩
      obtain ⟨r0, q0, rfl, eq0, hr0⟩ := husG.at' 0 v0 rfl
      have z0 := husG.sz q0 (List.mem_of_getElem? eq0)
      obtain ⟨qs', rfl⟩ : ∃ qs', qs = q0 :: qs' := by
        cases qs with
        | nil => simp at eq0
        | cons a r => simp at eq0; exact ⟨r, by rw [eq0]⟩
      have e0 : atI (V.ref r0 :: us') 0 = some (.ref r0) := atI_nat (j := 0) rfl
      refine ⟨_, rfl, .inl ⟨rfl, _, SqL.of hlsG⟩, _, rfl, ls, _, _, _, rfl, rfl, .of hlsG, e0, ?_⟩
      refine ⟨_, rfl, p, _, rfl, by decide, by decide, TG.pool, fun d4 G5 a4 b4 t5 => ⟨_, _, rfl, rfl, ?_⟩⟩
      refine ⟨_, rfl, p, _, rfl, by decide, by decide, t5.pool, fun d5 G6 a5 b5 t6 => ⟨_, _, rfl, rfl, ?_⟩⟩
      have Tu6 : TupS G G6 := (step_tups TG.pool t5).trans (step_tups t5.pool t6)
      refine ⟨_, _, rfl, by omega, Bd.mono (m := 5) (bdn (by omega) (by omega)) (by decide), fun r6 G7 e7 hr6 => ?_⟩
      have z6 : Sz 3 (Rat.divInt (1 + d4) (1 + d5)) := sz_q (by omega) (by omega) (by omega) (by omega)
      refine ⟨r0, r6, _, _, rfl, e7 _ _ (Tu6 _ _ hr0), hr6, ⟨z0.mono (by omega), z6.mono (by decide)⟩, fun r7 G8 e8 hr7 => ?_⟩
      have T8 : Step p H G8 := (((TG.trans t5).trans t6).same e7).same e8
      have hls8 := e8 _ _ (e7 _ _ (t6.keep _ _ (t5.keep _ _ hlsG hlsp) hlsp))
      have Tu8 : TupS G G8 := (Tu6.trans (.of e7)).trans (.of e8)
      refine ⟨ls, _, 0, _, rfl, rfl, hls8, by decide, by omega, by simp at hulG ⊢; omega, ?_⟩
      have TuL : TupS G8 (upd G8 ls (.lst (.ref r7 :: .ref r0 :: us'))) := .upd hls8
      have p6 : 0 < Rat.divInt (1 + d4) (1 + d5) := by
        rw [← Rat.zero_divInt (1 + d5)]; exact (divInt_lt (by omega)).mpr (by omega)
      exact ⟨.ref r7 :: .ref r0 :: us', _, _, rfl, T8.put hlsH hlsp _, TuL _ _ (Tu8 _ _ hroG), upd_same, by simp at hulG ⊢; omega, (((husG.mono (by omega)).tups Tu8).tups TuL).cons (TuL _ _ hr7) ((z0.add z6).mono (by omega)), hFA.cons (by show q0 < q0 + Rat.divInt (1 + d4) (1 + d5); grind) (by
        have hb := (div_bd (t := 1 + d4) (b := 1 + d5) (c := 4) (by omega) (by omega) (by omega)).2
        have e2 : ((4 : Int) : Rat) = 4 := rfl
        show q0 + Rat.divInt (1 + d4) (1 + d5) ≤ q0 + 4; grind)⟩
    · rintro σ G ⟨us, qs, z9, rfl, TG, hroG, hlsG, hulG, husG, hFA⟩
      exact hnx _ _ ⟨us, qs, z9, rfl, TG, hroG, hlsG, by omega, husG.mono (by omega), hFA⟩
  rintro σ' G5 ⟨us5, qs5, z9, rfl, T5, hro5, hls5, hul5, hus5, hFA5⟩
  -- the other way round
  refine st_mid (fun σ' G => ∃ ls us qs, σ' = [some (.ref p), some (.int wh), some (.ref pp), some (.ref pm), some (.bl al), some (.int rs), some (.int mn), some (.ref ro), some (.ref ls), z9, none, none, none] ∧ Step p H G ∧ RatAt G ro ow ∧ H ls = none ∧ ls ≠ p ∧ G ls = some (.lst us) ∧ (us.length : Int) = mn ∧ ERQ G 60 us qs ∧ FB wh ow qs) ?_ ?_
  rotate_left
  · intro nx hnx
    refine ⟨_, rfl, rfl, _, rfl, ite2 (fun h => ?_) (fun h => ?_)⟩
    · refine ⟨_, rfl, _, rfl, ls, us5, rfl, rfl, .of hls5, fun lv hlv => ?_⟩
      refine ⟨lv, rfl, ⟨_, .of upd_same⟩, fun Dc hDc => ?_⟩
      have hlvD : lv ≠ Dc := fun z => by rw [← z, upd_same] at hDc; cases hDc
      have T6 := T5.same (Same.upd (o := .lst us5.reverse) hlv)
      have hlv6 : upd G5 lv (.lst us5.reverse) lv = some (.lst us5.reverse) := upd_same
      have hro6 : RatAt (upd G5 lv (.lst us5.reverse)) ro ow := Same.upd hlv _ _ hro5
      have hus6 := hus5.tups (.of (Same.upd (o := .lst us5.reverse) hlv))
      generalize upd G5 lv (.lst us5.reverse) = G6 at *
      have hw1 : wh = 1 := by simpa using h
      have hl5 := hus5.len
      have rget : ∀ (i : Nat) (v : V), us5.reverse[i]? = some v → ∃ r q, v = .ref r ∧ qs5.reverse[i]? = some q ∧ RatAt G6 r q := fun i v e => by
        have hi : i < us5.length := by have := (List.getElem?_eq_some_iff.mp e).1; rw [List.length_reverse] at this; exact this
        rw [List.getElem?_reverse hi] at e
        rw [List.getElem?_reverse (by omega), ← hl5]
        exact hus6.at' _ v e
      refine compC_each (js := [7]) (J := Itl K lv) (g := gName 0) (te := _) (n := 1) (xs := us5.reverse) (fun i v G => ∃ r q, v = .ref r ∧ (qs5.reverse.map fun q => ow + ow - q)[i]? = some q ∧ RatAt G r q) (fun i v G G' e ⟨r, q, a, b, c⟩ => ⟨r, q, a, b, e _ _ c⟩) hDc (runs_list hlv6) (small1000 (by rw [List.length_reverse]; omega)) ?_ ?_
      · intro i x zs G7 Q' hx hz S7 hQ
        obtain ⟨y1, rfl⟩ := len1 hz
        obtain ⟨r, q, rfl, eq, hrq⟩ := rget i x hx
        have zq := hus5.sz q (List.mem_reverse.mp (List.mem_of_getElem? eq))
        refine ⟨rfl, ?_⟩
        refine ⟨_, rfl, _, rfl, ro, ro, ow, ow, rfl, S7 _ _ hro6, S7 _ _ hro6, ⟨zow.mono (by decide), zow.mono (by decide)⟩, fun r8 G8 e8 hr8 => ?_⟩
        refine ⟨_, rfl, r8, r, _, _, rfl, hr8, e8 _ _ (S7 _ _ hrq), ⟨(zow.add zow).mono (by decide), zq.mono (by decide)⟩, fun r9 G9 e9 hr9 => hQ _ _ (e8.trans e9) ⟨r9, _, rfl, by rw [List.getElem?_map, eq]; rfl, hr9⟩⟩
      · intro ys G7 S7 hD7 hl7 hR7
        refine hnx _ _ ⟨Dc, ys, _, rfl, T6.same S7, S7 _ _ hro6, T6.free hDc, T6.pool.ne hDc, hD7, by rw [hl7, List.length_reverse]; exact hul5, ⟨by rw [hl7]; simp [hl5], hR7, fun q m => ?_⟩, by rw [hw1]; exact hFA5.mirror⟩
        obtain ⟨x, mx, rfl⟩ := List.mem_map.mp m
        exact (Sz.sub (zow.add zow) (hus5.sz x (List.mem_reverse.mp mx))).mono (by decide)
    · have hw1 : wh ≠ 1 := fun z => h (by rw [z]; decide)
      exact hnx _ _ ⟨ls, us5, qs5, rfl, T5, hro5, hlsH, hlsp, hls5, hul5, hus5.mono (by decide), hFA5.fb hw1⟩
  clear hls hus hul hlsH hlsp hls5 hFA
  clear qs us
  rintro σ' G6 ⟨ls, us, qs, rfl, T6, hro6, hlsH, hlsp, hls6, hul6, hus6, hFB6⟩
  -- a ball that rests at the wall
  refine st_mid (fun σ' G => ∃ us qs, σ' = [some (.ref p), some (.int wh), some (.ref pp), some (.ref pm), some (.bl al), some (.int rs), some (.int mn), some (.ref ro), some (.ref ls), z9, none, none, none] ∧ Step p H G ∧ RatAt G ro ow ∧ G ls = some (.lst us) ∧ 1 ≤ us.length ∧ us.length ≤ 7 ∧ (wh ≠ 1 → (us.length : Int) + rs ≤ 7) ∧ ERQ G 60 us qs ∧ FC wh ow qs) ?_ ?_
  rotate_left
  · intro nx hnx
    have no : nx [some (.ref p), some (.int wh), some (.ref pp), some (.ref pm), some (.bl al), some (.int rs), some (.int mn), some (.ref ro), some (.ref ls), z9, none, none, none] G6 := hnx _ _ ⟨us, qs, rfl, T6, hro6, hls6, by omega, by omega, fun _ => by omega, hus6, hFB6.fc⟩
    refine ⟨_, rfl, rfl, _, rfl, ite2 (fun h => ?_) (fun h => iteF no)⟩
    refine ⟨_, rfl, rfl, _, rfl, ite2 (fun h2 => ?_) (fun h2 => no)⟩
    have TuL : TupS G6 (upd G6 ls (.lst (.ref ro :: us))) := .upd hls6
    have hw : wh = 1 := by simpa using h2
    have hs : rs = 1 := by simpa using h
    exact ⟨_, rfl, .inl ⟨rfl, _, SqL.of hls6⟩, _, rfl, ls, _, 0, _, rfl, rfl, hls6, by decide, by omega, by omega, hnx _ _ ⟨.ref ro :: us, _, rfl, T6.put hlsH hlsp _, TuL _ _ hro6, upd_same, by simp, by simp only [List.length_cons]; omega, fun z => absurd hw z, (hus6.tups TuL).cons (TuL _ _ hro6) (zow.mono (by decide)), by subst hw; exact hFB6.rest⟩⟩
  clear hls6 hus6 hul6 hro6 hFB6
  clear qs us
  rintro σ' G7 ⟨us, qs, rfl, T7, hro7, hls7, hu1, hu7, hur, hus7, hFC7⟩
  refine st_mid (fun σ' G => ∃ us qs, σ' = [some (.ref p), some (.int wh), some (.ref pp), some (.ref pm), some (.bl al), some (.int rs), some (.int mn), some (.ref ro), some (.ref ls), z9, none, none, none] ∧ Step p H G ∧ RatAt G ro ow ∧ G ls = some (.lst us) ∧ 1 ≤ us.length ∧ us.length ≤ 7 ∧ ERQ G 60 us qs ∧ FD wh ow qs) ?_ ?_
  rotate_left
  · intro nx hnx
    have no : nx [some (.ref p), some (.int wh), some (.ref pp), some (.ref pm), some (.bl al), some (.int rs), some (.int mn), some (.ref ro), some (.ref ls), z9, none, none, none] G7 := hnx _ _ ⟨us, qs, rfl, T7, hro7, hls7, by omega, by omega, hus7, hFC7.fd⟩
    refine ⟨_, rfl, rfl, _, rfl, ite2 (fun h => ?_) (fun h => iteF no)⟩
    refine ⟨_, rfl, rfl, _, rfl, ite2 (fun h2 => ?_) (fun h2 => no)⟩
    have TuL : TupS G7 (upd G7 ls (.lst (us ++ [.ref ro]))) := .upd hls7
    have hw : wh = 2 := by simpa using h2
    have hs : rs = 1 := by simpa using h
    have := hur (by omega)
    exact ⟨_, rfl, .inl ⟨rfl, _, SqL.of hls7⟩, _, rfl, ls, _, _, rfl, rfl, hls7, small1000 (by omega), hnx _ _ ⟨us ++ [.ref ro], _, rfl, T7.put hlsH hlsp _, TuL _ _ hro7, upd_same, by simp, by simp only [List.length_append, List.length_singleton]; omega, (hus7.tups TuL).snoc (TuL _ _ hro7) (zow.mono (by decide)), by subst hw; exact hFC7.rest⟩⟩
  clear hls7 hus7 hu1 hu7 hur hro7 hFC7
  clear qs us
  rintro σ' G8 ⟨us, qs, rfl, T8, hro8, hls8, hu1, hu7, hus8, hFD8⟩
  -- weights
  refine st_mid (fun σ' G => ∃ (lw : Addr) (ws : List Int), σ' = [some (.ref p), some (.int wh), some (.ref pp), some (.ref pm), some (.bl al), some (.int rs), some (.int mn), some (.ref ro), some (.ref ls), z9, some (.ref lw), none, none] ∧ Step p G8 G ∧ H lw = none ∧ lw ≠ p ∧ lw ≠ ls ∧ G lw = some (.lst (ws.map V.int)) ∧ ws.length = us.length ∧ ∀ x ∈ ws, 1 ≤ x ∧ x ≤ 1000) ?_ ?_
  rotate_left
  · intro nx hnx
    refine ⟨_, rfl, ls, rfl, ⟨_, .of hls8⟩, fun Dc hDc => ?_⟩
    have hDp : Dc ≠ p := T8.pool.ne hDc
    have hDl : Dc ≠ ls := fun z => by rw [z, hls8] at hDc; cases hDc
    refine compC_byZ (js := [0]) (J := Itl K ls) (g := gName 0) (tt := fun _ H Q => Q true H) (te := _) (N := us.length) (n := 1) (fun i G ys => Step p G8 G ∧ ∃ ws : List Int, ys = ws.map V.int ∧ ws.length = i ∧ ∀ x ∈ ws, 1 ≤ x ∧ x ≤ 1000)
      ⟨⟨T8.pool.new hDc, fun b o e _ => Same.upd hDc _ _ e⟩, [], rfl, rfl, fun v hv => by cases hv⟩ (fun i G ys hi z => ⟨us, us[i], .of (z.1.keep _ _ hls8 hlsp), List.getElem?_eq_getElem hi⟩) (fun G ys z => ⟨us, .of (z.1.keep _ _ hls8 hlsp), Nat.le_refl _⟩) ?_ ?_
    · rintro i x zs G_ G ys Nx hN hi hz1 ⟨rfl, _⟩ ⟨tG, ws, rfl, hwl, hwv⟩ hGD
      obtain ⟨y1, rfl⟩ := len1 hz1
      refine ⟨rfl, iteT ?_⟩
      refine ⟨_, rfl, p, _, rfl, by decide, by decide, tG.pool, fun d2 G3 a2 b2 t3 => ⟨_, _, rfl, rfl, ?_⟩⟩
      have h3 := t3.keep _ _ hGD hDp
      refine ⟨h3, small1000 (by simp; omega), hN _ _ ⟨(tG.trans t3).put hDc hDp _, ws ++ [1 + d2], by simp, by simp [hwl], fun v hv => ?_⟩⟩
      rcases List.mem_append.mp hv with z | z
      · exact hwv v z
      · have : v = 1 + d2 := by simpa using z
        omega
    · rintro G ys ⟨tG, ws, rfl, hwl, hwv⟩ hGD
      exact hnx _ _ ⟨Dc, ws, rfl, tG, T8.free hDc, hDp, hDl, hGD, hwl, hwv⟩
  rintro σ' G9 ⟨lw, ws, rfl, T9, hlwH, hlwp, hlwl, hlw9, hwl, hwv⟩
  have T9' := T8.trans T9
  -- all alike
  refine st_mid (fun σ' G => ∃ (lw : Addr) (ws : List Int), σ' = [some (.ref p), some (.int wh), some (.ref pp), some (.ref pm), some (.bl al), some (.int rs), some (.int mn), some (.ref ro), some (.ref ls), z9, some (.ref lw), none, none] ∧ Step p G8 G ∧ H lw = none ∧ lw ≠ p ∧ lw ≠ ls ∧ G lw = some (.lst (ws.map V.int)) ∧ ws.length = us.length ∧ ∀ x ∈ ws, 1 ≤ x ∧ x ≤ 1000) ?_ ?_
  rotate_left
  · intro nx hnx
    refine ⟨_, rfl, _, rfl, ite2 (fun h => ?_) (fun h => hnx _ _ ⟨lw, ws, rfl, T9, hlwH, hlwp, hlwl, hlw9, hwl, hwv⟩)⟩
    obtain ⟨w0, ew0⟩ : ∃ w0, ws[0]? = some w0 := ⟨_, List.getElem?_eq_getElem (by omega)⟩
    have e0 : atI (ws.map V.int) 0 = some (.int w0) := atI_nat (j := 0) (by rw [List.getElem?_map, ew0]; rfl)
    refine ⟨_, rfl, lw, _, _, _, rfl, rfl, .of hlw9, e0, by show 1 ≤ sizeLine; decide, fun l2 hl2 => ?_⟩
    have hlw9' := Same.upd (o := .lst [.int w0]) hl2 _ _ hlw9
    refine ⟨_, rfl, lw, _, rfl, .inl (.of hlw9'), l2, _, _, rfl, rfl, upd_same, by (first | (simp; omega) | simp), by (first | (simp; omega) | simp), szl (by (first | (simp; omega) | simp)), fun l3 hl3 => ?_⟩
    have T10 := T9.same ((Same.upd (o := .lst [.int w0]) hl2).trans (Same.upd (o := .lst ((List.replicate ((ws.map V.int).length : Int).toNat [V.int w0]).flatten)) hl3))
    have T9a := T9'.same (Same.upd (o := .lst [.int w0]) hl2)
    have hls9 := T9.keep _ _ hls8 hlsp
    refine hnx _ _ ⟨l3, List.replicate ws.length w0, rfl, T10, T9a.free hl3, T9a.pool.ne hl3, fun z => ?_, ?_, by simp [hwl], fun x m => by have := List.eq_of_mem_replicate m; subst this; exact hwv _ (List.mem_of_getElem? ew0)⟩
    · have := Same.upd (o := .lst [.int w0]) hl2 _ _ hls9
      rw [← z, hl3] at this; cases this
    · rw [upd_same, rep_one]; simp
  clear hlw9 hwl hwv hlwH hlwp hlwl T9' T9
  rintro σ' G10 ⟨lw, ws, rfl, T10, hlwH, hlwp, hlwl, hlw10, hwl, hwv⟩
  have Tu10 := step_tups T8.pool T10
  have hls10 := T10.keep _ _ hls8 hlsp
  have hro10 : RatAt G10 ro ow := Tu10 _ _ hro8
  have hus10 := hus8.tups Tu10
  have T11 := T8.trans T10
  have TuH : TupS H G10 := step_tups hP T11
  -- the row
  refine st_mid (fun σ' G => ∃ lr, σ' = [some (.ref p), some (.int wh), some (.ref pp), some (.ref pm), some (.bl al), some (.int rs), some (.int mn), some (.ref ro), some (.ref ls), z9, some (.ref lw), some (.ref lr), none] ∧ Same G10 G ∧ G10 lr = none ∧ G lr = some (.lst [])) ?_ ?_
  rotate_left
  · intro nx hnx
    exact ⟨by show 0 ≤ sizeLine; exact Nat.zero_le _, fun lr hlr => hnx _ _ ⟨lr, rfl, Same.upd hlr, hlr, upd_same⟩⟩
  rintro σ' G12 ⟨lr, rfl, S12, hlr10, hlr12⟩
  have hlrp : lr ≠ p := T11.pool.ne hlr10
  have hlrH := T11.free hlr10
  have hlrl : ls ≠ lr := fun z => by rw [← z, hls10] at hlr10; cases hlr10
  have hlrw : lw ≠ lr := fun z => by rw [← z, hlw10] at hlr10; cases hlr10
  have T12 := T11.same S12
  refine st_mid (fun σ' G => ∃ z9 z12 vs bs, σ' = [some (.ref p), some (.int wh), some (.ref pp), some (.ref pm), some (.bl al), some (.int rs), some (.int mn), some (.ref ro), some (.ref ls), z9, some (.ref lw), some (.ref lr), z12] ∧ Step p H G ∧ TupS G12 G ∧ G lr = some (.lst vs) ∧ BallsAt G vs bs ∧ bs.length = us.length ∧ ZB bs ∧ bs.map (fun b => (b.pl, b.sp)) = lineL px mm qs) ?_ ?_
  rotate_left
  · intro nx hnx
    refine ⟨_, rfl, ls, us, rfl, S12 _ _ hls10, for_enum (xs := us) (fun i σ G => ∃ z9 z12 vs bs, σ = [some (.ref p), some (.int wh), some (.ref pp), some (.ref pm), some (.bl al), some (.int rs), some (.int mn), some (.ref ro), some (.ref ls), z9, some (.ref lw), some (.ref lr), z12] ∧ Step p H G ∧ TupS G12 G ∧ G ls = some (.lst us) ∧ G lw = some (.lst (ws.map V.int)) ∧ G lr = some (.lst vs) ∧ BallsAt G vs bs ∧ bs.length = i ∧ ZB bs ∧ bs.map (fun b => (b.pl, b.sp)) = lineL px mm (qs.take i))
      ⟨_, _, [], [], rfl, T12, fun _ _ e => e, S12 _ _ hls10, S12 _ _ hlw10, hlr12, .nil, rfl, (fun _ m => by cases m), rfl⟩ (fun i σ G ⟨_, _, _, _, _, _, _, z, _⟩ => .of z) ?_ ?_⟩
    · rintro i x σ G Tt hx ⟨z9, z12, vs, bs, rfl, TG, TuG, hlsG, hlwG, hlrG, hB, hbl, hZ, hLn⟩ hTt
      have sT : Same G (upd G Tt (.tup [.int i, x])) := Same.upd hTt
      have hTT : upd G Tt (.tup [.int i, x]) Tt = some (.tup [.int i, x]) := upd_same
      generalize upd G Tt (.tup [.int i, x]) = G1 at sT hTT
      have hi7 : i < us.length := (List.getElem?_eq_some_iff.mp hx).1
      obtain ⟨r, q, rfl, eq, hrq⟩ := hus10.at' i x hx
      have zq := hus10.sz q (List.mem_of_getElem? eq)
      obtain ⟨wt, ewt⟩ : ∃ wt, ws[i]? = some wt := ⟨_, List.getElem?_eq_getElem (by omega)⟩
      have hwt := hwv wt (List.mem_of_getElem? ewt)
      have eat : atI (ws.map V.int) (i : Int) = some (.int wt) := atI_nat (by rw [List.getElem?_map, ewt]; rfl)
      have hr1 : RatAt G1 r q := sT _ _ (TuG _ _ (S12 _ _ hrq))
      have hpm1 : RatAt G1 pm mm := sT _ _ (TuG _ _ (S12 _ _ (TuH _ _ hpm)))
      have hpp1 : RatAt G1 pp px := sT _ _ (TuG _ _ (S12 _ _ (TuH _ _ hpp)))
      refine ⟨Tt, _, rfl, .of hTT, rfl, _, _, rfl, _, _, rfl, rfl, ?_⟩
      refine ⟨_, rfl, .inl ⟨rfl, _, SqL.of (sT _ _ hlrG)⟩, _, rfl, _, rfl, _, rfl, r, pm, q, mm, rfl, hr1, hpm1, ⟨zq.mono (by decide), zpm.mono (by decide)⟩, fun r2 G2 e2 h2 => ?_⟩
      have zqm := zq.mul zpm
      refine ⟨pp, r2, px, _, rfl, e2 _ _ hpp1, h2, ⟨zpp.mono (by decide), zqm.mono (by decide)⟩, fun r3 G3 e3 h3 => ?_⟩
      have S3 := sT.trans (e2.trans e3)
      have hlw3 := S3 _ _ hlwG
      refine ⟨_, rfl, _, rfl, _, rfl, lw, _, _, _, rfl, rfl, .of hlw3, eat, by show 3 ≤ sizeLine; decide, fun t ht => ?_⟩
      have hlr4 := Same.upd (o := .tup [.ref r3, .ref r, .int wt]) ht _ _ (S3 _ _ hlrG)
      refine ⟨lr, vs, _, rfl, rfl, hlr4, small1000 (by rw [hB.length]; omega), ?_⟩
      have Tu : TupS G3 (upd (upd G3 t (.tup [.ref r3, .ref r, .int wt])) lr (.lst (vs ++ [.ref t]))) := (TupS.of (Same.upd ht)).trans (.upd hlr4)
      have TuA : TupS G (upd (upd G3 t (.tup [.ref r3, .ref r, .int wt])) lr (.lst (vs ++ [.ref t]))) := (TupS.of S3).trans Tu
      refine ⟨_, _, vs ++ [.ref t], bs ++ [⟨px - q * mm, q, wt⟩], rfl, ((TG.same S3).same (Same.upd ht)).put hlrH hlrp _, TuG.trans TuA, ?_, ?_, upd_same, ?_, by simp [hbl], ?_, ?_⟩
      · rw [upd_ne hlrl]; exact Same.upd ht _ _ (S3 _ _ hlsG)
      · rw [upd_ne hlrw]; exact Same.upd ht _ _ hlw3
      · exact BallsAt.append (.one (b := ⟨px - q * mm, q, wt⟩) (TupS.upd hlr4 _ _ upd_same) (Tu _ _ h3) (Tu _ _ ((e2.trans e3) _ _ hr1))) (hB.mono TuA)
      · intro b mb
        rcases List.mem_append.mp mb with z | z
        · exact hZ b z
        · have : b = ⟨px - q * mm, q, wt⟩ := by simpa using z
          subst this
          exact ⟨(Sz.sub zpp zqm).mono (by decide), zq.mono (by decide), hwt⟩
      · rw [List.map_append, hLn, List.take_add_one, eq]; simp [lineL]
    · rintro σ G ⟨z9, z12, vs, bs, rfl, TG, TuG, hlsG, hlwG, hlrG, hB, hbl, hZ, hLn⟩
      rw [List.take_of_length_le (by rw [← hus10.len]; omega)] at hLn
      exact hnx _ _ ⟨z9, z12, vs, bs, rfl, TG, TuG, hlrG, hB, hbl, hZ, hLn⟩
  rintro σ' G13 ⟨z9', z12, vs, bs, rfl, T13, Tu13, hlr13, hB, hbl, hZ, hLn⟩
  have hro13 : RatAt G13 ro ow := Tu13 _ _ (S12 _ _ hro10)
  have hpm13 : RatAt G13 pm mm := Tu13 _ _ (S12 _ _ (TuH _ _ hpm))
  have hpp13 : RatAt G13 pp px := Tu13 _ _ (S12 _ _ (TuH _ _ hpp))
  refine ⟨_, rfl, lr, vs, rfl, .inl ⟨.of hlr13, fun r hr' => ?_⟩⟩
  have S14 : Same G13 (upd G13 r (.tup vs)) := Same.upd hr'
  have hr14 : upd G13 r (.tup vs) r = some (.tup vs) := upd_same
  generalize upd G13 r (.tup vs) = G14 at S14 hr14
  refine ⟨_, rfl, _, rfl, _, rfl, ro, pm, ow, mm, rfl, S14 _ _ hro13, S14 _ _ hpm13, ⟨zow.mono (by decide), zpm.mono (by decide)⟩, fun r2 G15 e15 h2 => ?_⟩
  have zom := zow.mul zpm
  refine ⟨pp, r2, px, _, rfl, e15 _ _ (S14 _ _ hpp13), h2, ⟨zpp.mono (by decide), zom.mono (by decide)⟩, fun r3 G16 e16 h3 => ?_⟩
  have S16 := e15.trans e16
  refine ⟨_, rfl, by show 2 ≤ sizeLine; decide, fun wl hwl' => ⟨by show 2 ≤ sizeLine; decide, fun t ht => ?_⟩⟩
  have S17 := S16.trans ((Same.upd (o := .tup [.ref r3, .ref ro]) hwl').trans (Same.upd (o := .tup [.ref r, .ref wl]) ht))
  have S17' : Same G16 _ := (Same.upd (o := .tup [.ref r3, .ref ro]) hwl').trans (Same.upd (o := .tup [.ref r, .ref wl]) ht)
  exact k t r wl vs bs r3 ro _ ow _ (T13.same (S14.trans S17)) upd_same (S17 _ _ hr14) (hB.same (S14.trans S17)) hZ (by omega) (by omega) (Same.upd ht _ _ upd_same) (S17' _ _ h3) (S17 _ _ (S14 _ _ hro13)) ((Sz.sub zpp zom).mono (by decide)) (zow.mono (by decide)) ⟨qs, hLn, hFD8, rfl, yowa, yowb⟩
end
end KK
end
section
set_option maxHeartbeats 8000000
set_option Elab.async false
set_option linter.all false
set_option maxRecDepth 100000
namespace KK
open PySem L2 KM
def WZ (l : Wl) : Prop := ∀ x y, l = some (x, y) → Sz 320 x ∧ Sz 80 y
theorem WZ.no : WZ none := fun _ _ z => by cases z
theorem menu3m {d : Int} (h0 : 0 ≤ d) (h1 : d < 3) : ∃ v : Int, atI [V.int 1, .int 2, .int 3] d = some (.int v) ∧ 1 ≤ v ∧ v ≤ 3 := by
  have : d = 0 ∨ d = 1 ∨ d = 2 := by omega
  rcases this with rfl | rfl | rfl
  all_goals exact ⟨_, rfl, by decide, by decide⟩
theorem line_good {bs : List Ball} {pl m : Rat} {qs : List Rat} (h : bs.map (fun b => (b.pl, b.sp)) = lineL pl m qs) (pw : qs.Pairwise (· > ·)) (hm : 0 < m) (z : ZB bs) : Good bs := by
  refine ⟨fun b mb => ⟨(z b mb).2.2.1, (z b mb).2.2.2⟩, fun b mb => ⟨(z b mb).1, (z b mb).2.1⟩, ?_⟩
  have h1 : (lineL pl m qs).Pairwise (fun a b => a.1 < b.1) := by
    unfold lineL
    rw [List.pairwise_map]
    refine pw.imp fun {a b} lt => ?_
    have := Rat.mul_lt_mul_of_pos_right (show b < a from lt) hm
    show pl - a * m < pl - b * m
    grind
  rw [← h, List.pairwise_map] at h1
  exact h1.imp fun {a b} lt => .inl lt
theorem line_mem {bs : List Ball} {pl m : Rat} {qs : List Rat} (h : bs.map (fun b => (b.pl, b.sp)) = lineL pl m qs) {b : Ball} (mb : b ∈ bs) : b.sp ∈ qs ∧ b.pl = pl - b.sp * m := by
  have : (b.pl, b.sp) ∈ lineL pl m qs := by rw [← h]; exact List.mem_map.mpr ⟨b, mb, rfl⟩
  unfold lineL at this
  obtain ⟨q, mq, e⟩ := List.mem_map.mp this
  simp only [Prod.mk.injEq] at e
  obtain ⟨e1, e2⟩ := e
  subst e2
  exact ⟨mq, e1.symm⟩
theorem mul_le_m {a b m : Rat} (h : a ≤ b) (hm : 0 < m) : a * m ≤ b * m := Rat.mul_le_mul_of_nonneg_right h (Rat.le_of_lt hm)
theorem mul_inj {a b m : Rat} (h : a * m = b * m) (hm : 0 < m) : a = b := by
  have : m ≠ 0 := by grind
  grind
theorem box_no {bs : List Ball} : Box bs none none := ⟨fun x y e => by (cases e), fun x y e => by (cases e), fun x y b e => by (cases e), fun x y cs b e => by (cases e), fun x y x' y' e => by (cases e)⟩
theorem box_lo {bs : List Ball} {pl m ow : Rat} {qs : List Rat} (h : bs.map (fun b => (b.pl, b.sp)) = lineL pl m qs) (hm : 0 < m) (hq : ∀ q ∈ qs, q ≤ ow) (z1 : Sz 300 (pl - ow * m)) (z2 : Sz 80 ow) : Box bs (some (pl - ow * m, ow)) none := by
  refine ⟨fun x y e => by cases e; exact ⟨z1.mono (by decide), z2⟩, (fun x y e => by cases e), fun x y b e eb => ?_, (fun x y cs b e => by cases e), (fun x y x' y' _ e => by cases e)⟩
  cases e
  obtain ⟨m1, e1⟩ := line_mem h (List.mem_of_getElem? eb)
  have le := mul_le_m (hq _ m1) hm
  refine ⟨by rw [e1]; grind, fun e2 => ?_⟩
  have : ow * m = b.sp * m := by rw [e1] at e2; grind
  rw [mul_inj this hm]; grind
theorem box_hi {bs : List Ball} {pl m ow : Rat} {qs : List Rat} (h : bs.map (fun b => (b.pl, b.sp)) = lineL pl m qs) (hm : 0 < m) (hq : ∀ q ∈ qs, ow ≤ q) (z1 : Sz 300 (pl - ow * m)) (z2 : Sz 80 ow) : Box bs none (some (pl - ow * m, ow)) := by
  refine ⟨(fun x y e => by cases e), fun x y e => by cases e; exact ⟨z1.mono (by decide), z2⟩, (fun x y b e => by cases e), fun x y cs b e eb => ?_, (fun x y x' y' e => by cases e)⟩
  cases e
  obtain ⟨m1, e1⟩ := line_mem h (show b ∈ bs by rw [eb]; simp)
  have le := mul_le_m (hq _ m1) hm
  refine ⟨by rw [e1]; grind, fun e2 => ?_⟩
  have : ow * m = b.sp * m := by rw [e1] at e2; grind
  rw [mul_inj this hm]; grind
def StK (p : Addr) (H : Hp) (Q : VK) : Prop := ∀ t r ws us bs v1 v2 l1 l2 H', Step p H H' → H' t = some (.tup [.ref r, .ref ws]) → H' r = some (.tup us) → BallsAt H' us bs → Good bs → 1 ≤ bs.length → bs.length ≤ 8 → H' ws = some (.tup [v1, v2]) → WallAt H' v1 l1 → WallAt H' v2 l2 → Box bs l1 l2 → Q (.ref t) H'
section
variable {P : Program} {w : World} {K : PySem.W.Frag} {mg : Str → Option Value} {base : Heap}
def spFo : Sp := fun vs H Q _ => ∃ (p : Addr) (al : Bool), vs = [.ref p, .bl al] ∧ Pool H p ∧ StK p H Q
theorem sc_fo : FnScope ["pool", "alike", "moment", "where", "row", "wall", "walls"] ["pool", "alike"] (defScope s_law_focused) := ⟨rfl, rfl, rfl, by decide +kernel, rfl, by decide +kernel, by decide +kernel⟩
theorem ok_fo (D : Df K mg "_law_focused" s_law_focused ["pool", "alike"] []) (T : TxB K mg) (cN : Cal P w K mg base "_law_next" 1 ["pool", "base"] [] spNext) (cRa : Cal P w K mg base "_law_ratio" 3 ["pool", "size"] [] spRa)
    (cL : Cal P w K mg base "_law_low" 1 ["top", "bottom"] [] spLow) (cBu : Cal P w K mg base "_law_bundle" 3 ["pool", "where", "place", "moment", "alike"] [] spBu) : Cal P w K mg base "_law_focused" 4 ["pool", "alike"] [] spFo := by
  refine D.calB (k := 3) sc_fo (fun vs H Q E h => by obtain ⟨_, _, rfl, _⟩ := h; rfl) (fun f cdv A outer s H vs Q E hr h => ?_)
  obtain ⟨p, al, rfl, hP, k⟩ := h
  have hr1 : Room 1 _ := hr.mono (by decide)
  refine ⟨_, (bx_scons (bx_set (i := 2) sc_fo.nd rfl (Or.inl rfl) (Bx.mk (pe_c cL hr1 (pa_cons (pe_op op_add pe_int (pe_c cN hr1 (pa_cons (pv 0) (pa_cons pe_int pa_nil)))) (pa_cons (pe_ix ix_list (pe_lst (pa_cons pe_int (pa_cons pe_int (pa_cons pe_int pa_nil)))) (pe_c cN hr1 (pa_cons (pv 0) (pa_cons pe_int pa_nil))) (fun _ _ => rfl)) pa_nil)))))
    (bx_scons (Bx.mk (ps_set (i := 3) sc_fo.nd rfl (Or.inl rfl) (pe_c cN hr1 (pa_cons (pv 0) (pa_cons pe_int pa_nil)))))
    (bx_scons (Bx.mk (ps_asg (pe_c cBu hr (pa_cons (pv 0) (pa_cons (pv 3) (pa_cons (pe_c cRa hr (pa_cons (pv 0) (pa_cons pe_int pa_nil))) (pa_cons (pv 2) (pa_cons (pv 1) pa_nil)))))) (pg_tup rfl (pgs_cons (pg_name (i := 4) sc_fo.nd rfl (Or.inl rfl)) (pgs_cons (pg_name (i := 5) sc_fo.nd rfl (Or.inl rfl)) pgs_nil)))))
    (bx_scons (bx_set (i := 6) sc_fo.nd rfl (Or.inl rfl) (bx_lst (bx_cons (Bx.mk pe_non) (bx_cons (Bx.mk pe_non) bx_nil))))
    (bx_scons (Bx.mk (ps_if (pt_cmpR op_gt (pv 3) pe_int (nomark _)) (pss_one (ps_asg (pv 5) (pg_sub (pv 6) (pe_op op_sub (pv 3) pe_int) set_list))) pss_nil))
    (Bx.mk (pss_one (ps_ret (pe_tup (pa_cons (pv 4) (pa_cons (pe_callTy call_tuple_of (by rfl) T.nTuple PyProof.Rows.boot_tuple (pa_cons (pv 6) pa_nil)) pa_nil))))))))))), ?_⟩
  refine st_mid (fun σ' G => ∃ rm mm, σ' = [some (.ref p), some (.bl al), some (.ref rm), none, none, none, none] ∧ Step p H G ∧ RatAt G rm mm ∧ Sz 5 mm ∧ 0 < mm) ?_ ?_
  rotate_left
  · intro nx hnx
    refine ⟨_, rfl, p, _, rfl, by decide, by decide, hP, fun d1 G1 a1 b1 t1 => ⟨_, _, rfl, rfl, by show 3 ≤ sizeLine; decide, fun l1 hl1 => ?_⟩⟩
    refine ⟨_, rfl, p, _, rfl, by decide, by decide, t1.pool.new hl1, fun d2 G2 a2 b2 t2 => ?_⟩
    obtain ⟨v, ev, v0, v1⟩ := menu3m a2 b2
    refine ⟨l1, _, _, _, rfl, rfl, .of (t2.keep l1 _ upd_same (t1.pool.ne hl1)), ev, ?_⟩
    exact ⟨_, _, rfl, by omega, Bd.mono (m := 5) (bdn (by omega) (by omega)) (by decide), fun r H' e h => hnx _ _ ⟨r, _, rfl, (t1.trans (t2.pre (Same.upd hl1))).same e, h, sz_q (by omega) (by omega) (by omega) (by omega), by rw [← Rat.zero_divInt v]; exact (divInt_lt (by omega)).mpr (by omega)⟩⟩
  rintro σ' G1 ⟨rm, mm, rfl, T1, hrm, zmm, pmm⟩
  refine ⟨_, rfl, p, _, rfl, by decide, by decide, T1.pool, fun wh G2 w0 w3 t2 => ?_⟩
  have T2 := T1.trans t2
  refine ⟨_, rfl, _, rfl, _, rfl, p, _, rfl, by decide, by decide, T2.pool, fun rp px G3 t3 hrp zrp => ?_⟩
  have T3 := T2.trans t3
  have hrm3 : RatAt G3 rm mm := step_tups T2.pool t3 _ _ (step_tups T1.pool t2 _ _ hrm)
  refine ⟨_, rfl, _, rfl, p, rp, rm, wh, al, px, mm, rfl, w0, by omega, hrp, zrp, hrm3, zmm, T3.pool, fun t r wl us bs ra rb y z G4 t4 ht hrr hB hZ h1 h8 hwl hra hrb zy zz hln => ?_⟩
  obtain ⟨qs, hL, hFD, rfl, _, _⟩ := hln
  have hG := line_good hL hFD.1 pmm hZ
  have T4 := T3.trans t4
  refine ⟨t, _, rfl, .of ht, rfl, _, _, rfl, _, _, rfl, rfl, ?_⟩
  refine ⟨by show 2 ≤ sizeLine; decide, fun lw hlw => ?_⟩
  have hlwH := T4.free hlw
  have hlwp := T4.pool.ne hlw
  have Tu5 : TupS G4 (upd G4 lw (.lst [.non, .non])) := .of (Same.upd hlw)
  have hlw5 : upd G4 lw (.lst [.non, .non]) lw = some (.lst [.non, .non]) := upd_same
  have T5 := T4.same (Same.upd (o := .lst [.non, .non]) hlw)
  generalize upd G4 lw (.lst [.non, .non]) = G5 at *
  dsimp only [gName]
  refine st_mid (fun σ' G => ∃ v1 v2 l1 l2, σ' = [some (.ref p), some (.bl al), some (.ref rm), some (.int wh), some (.ref r), some (.ref wl), some (.ref lw)] ∧ Step p H G ∧ TupS G4 G ∧ G lw = some (.lst [v1, v2]) ∧ WallAt G v1 l1 ∧ WallAt G v2 l2 ∧ Box bs l1 l2) ?_ ?_
  rotate_left
  · intro nx hnx
    refine ⟨_, rfl, _, _, rfl, rfl, _, rfl, ite2 (fun h => ?_) (fun h => hnx _ _ ⟨.non, .non, none, none, rfl, T5, Tu5, hlw5, rfl, rfl, box_no⟩)⟩
    have hw : wh = 1 ∨ wh = 2 := by have : 0 < wh := of_decide_eq_true h
                                    omega
    have wa : ∀ G, TupS G4 G → WallAt G (.ref wl) (some (px - z * mm, z)) := fun G e => ⟨wl, ra, rb, rfl, e _ _ hwl, e _ _ hra, e _ _ hrb⟩
    have TuL : ∀ xs, TupS G5 (upd G5 lw (.lst xs)) := fun xs => .upd hlw5
    rcases hw with rfl | rfl
    · exact ⟨_, rfl, _, rfl, _, rfl, _, _, rfl, rfl, lw, _, _, 0, rfl, rfl, hlw5, rfl, hnx _ _ ⟨.ref wl, .non, some (px - z * mm, z), none, rfl, T5.put hlwH hlwp _, Tu5.trans (TuL _), upd_same, wa _ (Tu5.trans (TuL _)), rfl, box_lo hL pmm (hFD.2.1 rfl) zy zz⟩⟩
    · exact ⟨_, rfl, _, rfl, _, rfl, _, _, rfl, rfl, lw, _, _, 1, rfl, rfl, hlw5, rfl, hnx _ _ ⟨.non, .ref wl, none, some (px - z * mm, z), rfl, T5.put hlwH hlwp _, Tu5.trans (TuL _), upd_same, rfl, wa _ (Tu5.trans (TuL _)), box_hi hL pmm (hFD.2.2.1 rfl) zy zz⟩⟩
  rintro σ' G6 ⟨v1, v2, l1, l2, rfl, T6, Tu6, hlw6, hv1, hv2, hBx⟩
  refine ⟨_, rfl, _, rfl, lw, _, rfl, .inl ⟨.of hlw6, fun ws hws => ⟨by show 2 ≤ sizeLine; decide, fun tt htt => ?_⟩⟩⟩
  have S := (Same.upd (o := .tup [v1, v2]) hws).trans (Same.upd (o := .tup [.ref r, .ref ws]) htt)
  exact k tt r ws us bs v1 v2 l1 l2 _ (T6.same S) upd_same (S _ _ (Tu6 _ _ hrr)) ((hB.mono Tu6).same S) hG h1 h8 (Same.upd htt _ _ upd_same) (hv1.tups (.of S)) (hv2.tups (.of S)) hBx
end
end KK
end
section
set_option maxHeartbeats 4000000
set_option Elab.async false
set_option linter.all false
set_option maxRecDepth 100000
namespace KQ
open PySem L2 KM KK
theorem pg_tupK {X : Cx} {es : List Expr} {k : Nat} {pos : Pos} {t : TGs} {n : Nat} {K : PySem.W.Frag} (hK : X.K = K) (hc : X.calm = true) (h : PGs X es t)
    (hn : (assignEach es X.env).length = n := by rfl) (hst : (assignEach es X.env).findIdx? (·.1) = none := by rfl) : PG X (.Tuple es k pos) (gTup K n t) := by subst hK; exact pg_tup hc h hn hst
theorem ix_tupK {X : Cx} {K : PySem.W.Frag} (hK : X.K = K) : IxR X (rIxT K) := by subst hK; exact ix_tup
theorem ix_listK {X : Cx} {K : PySem.W.Frag} (hK : X.K = K) : IxR X (rIxL K) := by subst hK; exact ix_list
section
variable {P : Program} {w : World} {K : PySem.W.Frag} {mg : Str → Option Value} {base : Heap}
theorem minus_eq' (x y : Rat) : Rat.divInt (x.num * y.den - y.num * x.den) (x.den * y.den) = x - y := by
  exact KM.minus_eq x y
theorem sc_minus : FnScope ["one", "other"] ["one", "other"] (defScope s_minus) := ⟨rfl, rfl, rfl, by decide +kernel, rfl, by decide +kernel, by decide +kernel⟩
theorem ok_minus (D : Df K mg "minus" s_minus ["one", "other"] []) (c : Cal P w K mg base "ratio" 2 ["top", "bottom"] [] spLow) : Cal P w K mg base "minus" 3 ["one", "other"] [] (spBin Sz2 (· - ·)) := by
  refine D.cal (k := 2) sc_minus (fun vs H Q E h => by obtain ⟨_, _, _, _, rfl, _⟩ := h; rfl) (fun f cdv A outer s H vs Q E hr h => ?_)
  obtain ⟨p, q, x, y, rfl, hp, hq, ⟨hx, hy⟩, k⟩ := h
  have bx := Bd4 hx
  have b_y := Bd4 hy
  refine ⟨_, pss_one (ps_ret (pe_c c hr (pa_cons (pe_op op_sub (pe_op op_mulB (pe_ix ix_tup (pv 0) pe_int (fun _ _ => rfl)) (pe_ix ix_tup (pv 1) pe_int (fun _ _ => rfl))) (pe_op op_mulB (pe_ix ix_tup (pv 1) pe_int (fun _ _ => rfl)) (pe_ix ix_tup (pv 0) pe_int (fun _ _ => rfl))))
    (pa_cons (pe_op op_mulB (pe_ix ix_tup (pv 0) pe_int (fun _ _ => rfl)) (pe_ix ix_tup (pv 1) pe_int (fun _ _ => rfl))) pa_nil)))), ?_⟩
  refine ⟨_, rfl, p, _, _, _, rfl, rfl, .of hp, at0 .., _, rfl, q, _, _, _, rfl, rfl, .of hq, at1 .., _, _, rfl, rfl, ⟨bx.1, b_y.2⟩, _, rfl, q, _, _, _, rfl, rfl, .of hq, at0 .., _, rfl, p, _, _, _, rfl, rfl, .of hp, at1 .., _, _, rfl, rfl, ⟨b_y.1, bx.2⟩, _, _, rfl, rfl, ?_⟩
  refine ⟨_, rfl, p, _, _, _, rfl, rfl, .of hp, at1 .., _, rfl, q, _, _, _, rfl, rfl, .of hq, at1 .., _, _, rfl, rfl, ⟨bx.2, b_y.2⟩, ?_⟩
  refine ⟨_, _, rfl, Int.mul_ne_zero (den_ne x) (den_ne y), (hx.2.mul hy.2).mono (by decide), fun r H' e h => k r H' e ?_⟩
  show RatAt H' r (x - y)
  rw [← minus_eq']; exact h
def spLtI : Sp := fun vs H Q _ => ∃ p q a b c d, vs = [.ref p, .ref q] ∧ H p = some (.tup [.int a, .int b]) ∧ H q = some (.tup [.int c, .int d]) ∧ Bd 8900 a ∧ Bd 8900 b ∧ Bd 8900 c ∧ Bd 8900 d ∧ Q (.bl (decide (a * d < c * b))) H
theorem sc_less : FnScope ["one", "other"] ["one", "other"] (defScope s_less) := ⟨rfl, rfl, rfl, by decide +kernel, rfl, by decide +kernel, by decide +kernel⟩
theorem Bd9 {i : Int} (h : Bd 8900 i) : Bd 1000000 i := h.mono (by decide)
theorem ok_less (D : Df K mg "less" s_less ["one", "other"] []) : Cal P w K mg base "less" 1 ["one", "other"] [] spLtI := by
  refine D.cal (k := 0) sc_less (fun vs H Q E h => by obtain ⟨_, _, _, _, _, _, rfl, _⟩ := h; rfl) (fun f cdv A outer s H vs Q E hr h => ?_)
  obtain ⟨p, q, a, b, c, d, rfl, hp, hq, ha, hb, hc, hd, k⟩ := h
  refine ⟨_, pss_one (ps_ret (pe_cmpR op_lt (pe_op op_mulB (pe_ix ix_tup (pv 0) pe_int (fun _ _ => rfl)) (pe_ix ix_tup (pv 1) pe_int (fun _ _ => rfl))) (pe_op op_mulB (pe_ix ix_tup (pv 1) pe_int (fun _ _ => rfl)) (pe_ix ix_tup (pv 0) pe_int (fun _ _ => rfl))) (nomark _))), ?_⟩
  refine ⟨_, rfl, p, _, _, _, rfl, rfl, .of hp, at0 .., _, rfl, q, _, _, _, rfl, rfl, .of hq, at1 .., _, _, rfl, rfl, ⟨Bd9 ha, Bd9 hd⟩, ?_⟩
  refine ⟨_, rfl, q, _, _, _, rfl, rfl, .of hq, at0 .., _, rfl, p, _, _, _, rfl, rfl, .of hp, at1 .., _, _, rfl, rfl, ⟨Bd9 hc, Bd9 hb⟩, _, _, rfl, rfl, ?_⟩
  exact k
theorem less_rat (x y : Rat) : decide (x.num * (y.den : Int) < y.num * (x.den : Int)) = decide (x < y) := by
  by_cases h : x < y
  · rw [decide_eq_true h, decide_eq_true ((KM.less_iff x y).mpr h)]
  · rw [decide_eq_false h, decide_eq_false fun z => h ((KM.less_iff x y).mp z)]

def lcmL (ks : List Int) : Int := ks.foldl (fun c n => c / (Int.gcd c n : Int) * n) 1
theorem lcm_step {c n : Int} (hc : 0 < c) (hn : 0 < n) : 0 < c / (Int.gcd c n : Int) * n := by
  refine Int.mul_pos ?_ hn
  have hg : 0 < (Int.gcd c n : Int) := by have := Int.gcd_pos_of_ne_zero_left n (a := c) (by omega); omega
  exact Int.ediv_pos_of_pos_of_dvd hc (by omega) (Int.gcd_dvd_left c n)
theorem lcm_le {c n : Int} (hc : 0 < c) (hn : 0 < n) : c / (Int.gcd c n : Int) * n ≤ c * n := by
  have hg : 0 < (Int.gcd c n : Int) := by have := Int.gcd_pos_of_ne_zero_left n (a := c) (by omega); omega
  exact Int.mul_le_mul_of_nonneg_right (Int.ediv_le_self _ (by omega)) (by omega)
theorem bd_lcm {m n : Nat} {c k : Int} (hc : 0 < c) (hk : 0 < k) (h : Bd m c) (h' : Bd n k) : Bd (m + n) (c / (Int.gcd c k : Int) * k) :=
  (h.mul h').of_le (by have := lcm_le hc hk; have := lcm_step hc hk; omega)
def Pos (n : Nat) (ks : List Int) : Prop := ∀ k ∈ ks, 0 < k ∧ Bd n k
def spLcm : Sp := fun vs H Q _ => ∃ p ks, vs = [.ref p] ∧ H p = some (.lst (ks.map V.int)) ∧ Pos 400 ks ∧ ks.length ≤ 20 ∧ Q (.int (lcmL ks)) H
theorem sc_lcm : FnScope ["numbers", "common", "number"] ["numbers"] (defScope s_least_multiple) := ⟨rfl, rfl, rfl, by decide +kernel, rfl, by decide +kernel, by decide +kernel⟩
theorem ok_lcm (D : Df K mg "least_multiple" s_least_multiple ["numbers"] []) (cG : Cal P w K mg base "greatest_divisor" 1 ["one", "other"] [] spGcd) : Cal P w K mg base "least_multiple" 2 ["numbers"] [] spLcm := by
  refine D.cal (k := 1) sc_lcm (fun vs H Q E h => by obtain ⟨_, _, rfl, _⟩ := h; rfl) (fun f cdv A outer s H vs Q E hr h => ?_)
  obtain ⟨p, ks, rfl, hp, hk, hl, k⟩ := h
  refine ⟨_, (pss_cons (ps_set (i := 1) sc_lcm.nd rfl (Or.inl rfl) pe_int)
    (pss_cons (ps_for PassesOwn.never rfl (pi_list (pv 0)) (pg_name (i := 2) sc_lcm.nd rfl (Or.inl rfl)) (pss_one (ps_set (i := 1) sc_lcm.nd rfl (Or.inl rfl) (pe_op op_mulB (pe_op op_fdivB (pv 1) (pe_c cG hr (pa_cons (pv 1) (pa_cons (pv 2) pa_nil)))) (pv 2)))))
    (pss_one (ps_ret (pv 1))))), ?_⟩
  refine ⟨_, rfl, p, rfl, ⟨_, SqL.of hp⟩, for_list (xs := ks.map V.int) (fun i σ H1 => H1 = H ∧ ∃ z, σ = [some (.ref p), some (.int (lcmL (ks.take i))), z] ∧ 0 < lcmL (ks.take i) ∧ Bd (1 + 400 * i) (lcmL (ks.take i))) ⟨rfl, none, rfl, (by show (0:Int) < 1; decide), (show (1 : Int).natAbs < 2 ^ 1 by decide)⟩ ?_ ?_ ?_⟩
  · rintro i σ H1 _ ⟨rfl, _⟩; exact .of hp
  · rintro i x σ H1 hx ⟨rfl, z, rfl, h1, h2⟩
    have hi : i < ks.length := by
      have := (List.getElem?_eq_some_iff.mp hx).1
      simpa using this
    obtain ⟨n, hn, rfl⟩ : ∃ n, ks[i]? = some n ∧ V.int n = x := by simpa using hx
    have hn' := hk n (List.mem_of_getElem? hn)
    have et : lcmL (ks.take (i + 1)) = lcmL (ks.take i) / (Int.gcd (lcmL (ks.take i)) n : Int) * n := by
      rw [List.take_add_one, hn]; simp [lcmL, List.foldl_append]
    have hg : 0 < (Int.gcd (lcmL (ks.take i)) n : Int) := by have := Int.gcd_pos_of_ne_zero_left n (a := lcmL (ks.take i)) (by omega); omega
    have b1 : Bd 8900 (lcmL (ks.take i)) := h2.mono (by omega)
    have hgb : Bd 8900 (Int.gcd (lcmL (ks.take i)) n : Int) := b1.of_le (by have := Int.le_of_dvd h1 (Int.gcd_dvd_left (lcmL (ks.take i)) n); omega)
    have hq : Bd 8900 ((lcmL (ks.take i)).fdiv (Int.gcd (lcmL (ks.take i)) n : Int)) := by
      rw [Int.fdiv_eq_ediv_of_nonneg _ (by omega)]
      exact b1.of_le (by have := Int.ediv_le_self (Int.gcd (lcmL (ks.take i)) n : Int) (a := lcmL (ks.take i)) (by omega); have := Int.ediv_nonneg (a := lcmL (ks.take i)) (b := (Int.gcd (lcmL (ks.take i)) n : Int)) (by omega) (by omega); omega)
    refine ⟨_, rfl, _, rfl, _, rfl, ⟨_, _, rfl, by omega, by omega, ?_⟩⟩
    refine ⟨_, _, rfl, rfl, ⟨by omega, hgb⟩, _, rfl, _, _, rfl, rfl, ⟨Bd9 hq, hn'.2.mono (by decide)⟩, ?_⟩
    refine ⟨rfl, some (.int n), ?_, ?_, ?_⟩
    · rw [et, ← Int.fdiv_eq_ediv_of_nonneg _ (by omega)]; rfl
    · rw [et]; exact lcm_step h1 hn'.1
    · rw [et]; exact (bd_lcm h1 hn'.1 h2 hn'.2).mono (by omega)
  · rintro σ H1 ⟨rfl, z, rfl, _⟩
    refine ⟨_, rfl, ?_⟩
    rw [List.length_map, List.take_length]; exact k
end
end KQ
end
section
set_option maxHeartbeats 4000000
set_option Elab.async false
set_option linter.all false
set_option maxRecDepth 100000
namespace KQ
open PySem L2 KM KK
def RatsI (H : Hp) (us : List V) (qs : List Rat) : Prop := us.length = qs.length ∧ ∀ (i : Nat) (v : V), us[i]? = some v → ∃ a q, v = V.ref a ∧ qs[i]? = some q ∧ RatAt H a q
theorem eq_map {α : Type} {f : α → V} {ys : List V} {qs : List α} (h : ys.length = qs.length) (k : ∀ (i : Nat) (v : V), ys[i]? = some v → ∃ q, qs[i]? = some q ∧ v = f q) : ys = qs.map f := by
  refine List.ext_getElem? fun i => ?_
  by_cases hi : i < ys.length
  · obtain ⟨q, e1, e2⟩ := k i ys[i] (by simp [hi])
    rw [List.getElem?_map, e1, List.getElem?_eq_getElem hi, e2]; rfl
  · rw [List.getElem?_eq_none (by omega), List.getElem?_eq_none (by rw [List.length_map]; omega)]
theorem len2 {σ : St} (h : σ.length = 2) : ∃ a b, σ = [a, b] := by
  match σ, h with
  | [a, b], _ => exact ⟨a, b, rfl⟩
theorem len1 {σ : St} (h : σ.length = 1) : ∃ a, σ = [a] := by
  match σ, h with
  | [a], _ => exact ⟨a, rfl⟩
theorem small20 {n : Nat} (h : n ≤ 20) : n < sizeLine := Nat.lt_of_le_of_lt h (by decide)
section
variable {P : Program} {w : World} {K : PySem.W.Frag} {mg : Str → Option Value} {base : Heap}
def lcmD (qs : List Rat) : Int := lcmL (qs.map fun q => (q.den : Int))
def spCB : Sp := fun vs H Q _ => ∃ p us qs, vs = [.ref p] ∧ H p = some (.lst us) ∧ RatsI H us qs ∧ (∀ q ∈ qs, Bd 400 (q.den : Int)) ∧ qs.length ≤ 20 ∧ ∀ H', Same H H' → Q (.int (lcmD qs)) H'
theorem sc_cb : FnScope ["ratios"] ["ratios"] (defScope s_common_bottom) := ⟨rfl, rfl, rfl, by decide +kernel, rfl, by decide +kernel, by decide +kernel⟩
theorem ok_cb (D : Df K mg "common_bottom" s_common_bottom ["ratios"] []) (cL : Cal P w K mg base "least_multiple" 2 ["numbers"] [] spLcm) : Cal P w K mg base "common_bottom" 3 ["ratios"] [] spCB := by
  refine D.cal (k := 2) sc_cb (fun vs H Q E h => by obtain ⟨_, _, _, rfl, _⟩ := h; rfl) (fun f cdv A outer s H vs Q E hr h => ?_)
  obtain ⟨p, us, qs, rfl, hp, hR, hb, hl, k⟩ := h
  refine ⟨_, (pss_one (ps_ret (pe_c cL hr (pa_cons (pe_comp (NB := ["top", "bottom"]) rfl (by decide +kernel) (by decide +kernel) rfl (by decide +kernel) (pi_list (pv 0)) (by intro _ _ _; refine ⟨?_, ?_, ?_⟩; (exact (pg_tupK (K := K) (n := 2) rfl rfl (pgs_cons (pg_name (i := 0) (show List.Nodup (["top", "bottom"] : List Str) by decide +kernel) rfl (Or.inl rfl)) (pgs_cons (pg_name (i := 1) (show List.Nodup (["top", "bottom"] : List Str) by decide +kernel) rfl (Or.inl rfl)) pgs_nil)))); (exact pts_nil); (exact (pv 1)))) pa_nil)))), ?_⟩
  refine ⟨_, rfl, p, rfl, ⟨_, SqL.of hp⟩, fun Da hD => ?_⟩
  refine comp_each (J := Itl K p) (n := 2) (g := gTup K 2 (gCons (gName 0) (gCons (gName 1) gNil))) (te := tVar 1) (xs := us) (fun i v _ => ∃ q : Rat, qs[i]? = some q ∧ v = .int (q.den : Int)) (fun _ _ _ _ _ z => z) hD (runs_list hp) (small20 (by rw [hR.1]; exact hl)) ?_ ?_
  · intro i x zs H2 Q' hx hz s2 hk
    obtain ⟨a, q, rfl, hq, ha⟩ := hR.2 i x hx
    obtain ⟨z1, z2, rfl⟩ := len2 hz
    exact ⟨a, _, rfl, SqT.of (s2 _ _ ha), rfl, _, _, rfl, _, _, rfl, rfl, _, rfl, hk _ _ (Same.refl _) ⟨q, hq, rfl⟩⟩
  · intro ys H' s' hy hyl hyR
    have e := eq_map (f := fun q : Rat => V.int (q.den : Int)) (hyl.trans hR.1) hyR
    refine ⟨Da, qs.map fun q : Rat => (q.den : Int), rfl, ?_, fun n hn => ?_, by simpa using hl, k H' s'⟩
    · rw [hy, e, List.map_map]; rfl
    · obtain ⟨q, hq, rfl⟩ := List.mem_map.mp hn
      exact ⟨by have := q.den_pos; omega, hb q hq⟩
theorem ati0 {a : V} {r : List V} : atI (a :: r) 0 = some a := by
  unfold atI ixN; rw [if_pos (by decide), if_pos (by simp only [List.length_cons]; omega)]; rfl
theorem ati1 {a b : V} {r : List V} : atI (a :: b :: r) 1 = some b := by
  unfold atI ixN; rw [if_pos (by decide), if_pos (by simp only [List.length_cons]; omega)]; rfl
structure TCo (K : PySem.W.Frag) (C : Addr) : Prop where
  cls : Cls K C
  pb : NoAttr K C "place_bottom"
  sb : NoAttr K C "speed_bottom"
  tick : NoAttr K C "tick"
  weights : NoAttr K C "weights"
  tracks : NoAttr K C "tracks"
  low : NoAttr K C "low"
  high : NoAttr K C "high"
def ThAt (H : Hp) (a : Addr) (x y : Rat) : Prop := ∃ p q r, H a = some (.tup (.ref p :: .ref q :: r)) ∧ RatAt H p x ∧ RatAt H q y
theorem ThAt.keeps {H H' : Hp} {a : Addr} {x y : Rat} (h : ThAt H a x y) (t : TupS H H') : ThAt H' a x y := by
  obtain ⟨p, q, r, h1, h2, h3⟩ := h
  exact ⟨p, q, r, t _ _ h1, t _ _ h2, t _ _ h3⟩
def byB (x : Rat) (b : Int) : Int := x.num * b.fdiv (x.den : Int)
def spTr (C : Addr) : Sp := fun vs H Q _ => ∃ (c dx : Addr) (fs : List (Str × V)) (pb sb : Int), H c = some (.ins C dx fs) ∧ fs.lookup ("place_bottom" : Str) = some (V.int pb) ∧ fs.lookup ("speed_bottom" : Str) = some (V.int sb) ∧
  ((vs = [.ref c, .non] ∧ Q .non H) ∨ ∃ a x y, vs = [.ref c, .ref a] ∧ ThAt H a x y ∧ Sz 400 x ∧ Sz 400 y ∧ 0 < pb ∧ 0 < sb ∧ Bd 8900 pb ∧ Bd 8900 sb ∧ ∀ r H', Same H H' → H' r = some (.tup [.int (byB x pb), .int (byB y sb)]) → Q (.ref r) H')
theorem sc_tr : FnScope ["course", "thing", "start"] ["course", "thing"] (defScope s_track_of) := ⟨rfl, rfl, rfl, by decide +kernel, rfl, by decide +kernel, by decide +kernel⟩
theorem bd_fdiv {b d : Int} (hb : 0 < b) (hd : 0 < d) (h : Bd 8900 b) : Bd 8900 (b.fdiv d) := by
  rw [Int.fdiv_eq_ediv_of_nonneg _ (by omega)]
  exact h.of_le (by have := Int.ediv_le_self d (a := b) (by omega); have := Int.ediv_nonneg (a := b) (b := d) (by omega) (by omega); omega)
theorem ok_tr {C : Addr} (D : Df K mg "track_of" s_track_of ["course", "thing"] []) (TC : TCo K C) : Cal P w K mg base "track_of" 1 ["course", "thing"] [] (spTr C) := by
  refine D.cal (k := 0) sc_tr (fun vs H Q E h => by obtain ⟨_, _, _, _, _, _, _, _, ⟨rfl, _⟩ | ⟨_, _, _, rfl, _⟩⟩ := h <;> rfl) (fun f cdv A outer s H vs Q E hr h => ?_)
  obtain ⟨c, dx, fs, pb, sb, hc, e1, e2, h⟩ := h
  refine ⟨_, (pss_cons (ps_if (pt_cmpR op_isN (pv 1) pe_non (nomark _)) (pss_one (ps_ret pe_non)) pss_nil)
    (pss_cons (ps_set (i := 2) sc_tr.nd rfl (Or.inl rfl) (pe_op op_mulB (pe_ix ix_tup (pe_ix ix_tup (pv 1) pe_int (fun _ _ => rfl)) pe_int (fun _ _ => rfl)) (pe_op op_fdivB (pe_fld (pv 0) rfl) (pe_ix ix_tup (pe_ix ix_tup (pv 1) pe_int (fun _ _ => rfl)) pe_int (fun _ _ => rfl)))))
    (pss_one (ps_ret (pe_tup (pa_cons (pv 2) (pa_cons (pe_op op_mulB (pe_ix ix_tup (pe_ix ix_tup (pv 1) pe_int (fun _ _ => rfl)) pe_int (fun _ _ => rfl)) (pe_op op_fdivB (pe_fld (pv 0) rfl) (pe_ix ix_tup (pe_ix ix_tup (pv 1) pe_int (fun _ _ => rfl)) pe_int (fun _ _ => rfl)))) pa_nil))))))), ?_⟩
  rcases h with ⟨rfl, k⟩ | ⟨a, x, y, rfl, ⟨p, q, r, ha, hp, hq⟩, hx, hy, p1, p2, b1, b2, k⟩
  · refine ⟨_, rfl, rfl, _, rfl, iteT k⟩
  · refine ⟨_, rfl, rfl, _, rfl, iteF ?_⟩
    have d1 : 0 < (x.den : Int) := by have := x.den_pos; omega
    have d2 : 0 < (y.den : Int) := by have := y.den_pos; omega
    have z1 := bd_fdiv p1 d1 b1
    have z2 := bd_fdiv p2 d2 b2
    refine ⟨_, rfl, a, _, _, _, rfl, rfl, .of ha, ati0, p, _, _, _, rfl, rfl, .of hp, at0 .., _, rfl, c, C, dx, fs, _, rfl, hc, TC.cls, TC.pb, e1, _, rfl, a, _, _, _, rfl, rfl, .of ha, ati0, p, _, _, _, rfl, rfl, .of hp, at1 .., _, _, rfl, rfl, ⟨by omega, hx.2.mono (by decide)⟩, _, _, rfl, rfl, ⟨hx.1.mono (by decide), Bd9 z1⟩, ?_⟩
    refine ⟨_, rfl, _, rfl, a, _, _, _, rfl, rfl, .of ha, ati1, q, _, _, _, rfl, rfl, .of hq, at0 .., _, rfl, c, C, dx, fs, _, rfl, hc, TC.cls, TC.sb, e2, _, rfl, a, _, _, _, rfl, rfl, .of ha, ati1, q, _, _, _, rfl, rfl, .of hq, at1 .., _, _, rfl, rfl, ⟨by omega, hy.2.mono (by decide)⟩, _, _, rfl, rfl, ⟨hy.1.mono (by decide), Bd9 z2⟩, ?_⟩
    exact ⟨by show 2 ≤ sizeLine; decide, fun r hr => k r _ (Same.upd hr) (by rw [upd_same]; rfl)⟩
end
end KQ
end
section
set_option maxHeartbeats 4000000
set_option Elab.async false
set_option linter.all false
set_option maxRecDepth 100000
namespace KQ
open PySem L2 KM KK
theorem lcm_dvd {c n : Int} (hc : 0 < c) (hn : 0 < n) : c ∣ c / (Int.gcd c n : Int) * n ∧ n ∣ c / (Int.gcd c n : Int) * n := by
  refine ⟨?_, Int.dvd_mul_left ..⟩
  obtain ⟨m, hm⟩ := Int.gcd_dvd_right c n
  have hg : 0 < (Int.gcd c n : Int) := by have := Int.gcd_pos_of_ne_zero_left n (a := c) (by omega); omega
  refine ⟨m, ?_⟩
  have e1 : c / (Int.gcd c n : Int) * (Int.gcd c n : Int) = c := Int.ediv_mul_cancel (Int.gcd_dvd_left c n)
  calc c / (Int.gcd c n : Int) * n = c / (Int.gcd c n : Int) * ((Int.gcd c n : Int) * m) := by rw [← hm]
    _ = c / (Int.gcd c n : Int) * (Int.gcd c n : Int) * m := by rw [Int.mul_assoc]
    _ = c * m := by rw [e1]
theorem lcm_fold {n : Nat} : ∀ {ks : List Int} {c : Int} {m : Nat}, 0 < c → Bd m c → Pos n ks →
    0 < ks.foldl (fun c n => c / (Int.gcd c n : Int) * n) c ∧ Bd (m + n * ks.length) (ks.foldl (fun c n => c / (Int.gcd c n : Int) * n) c) ∧ c ∣ ks.foldl (fun c n => c / (Int.gcd c n : Int) * n) c ∧ ∀ k ∈ ks, k ∣ ks.foldl (fun c n => c / (Int.gcd c n : Int) * n) c
  | [], c, m, hc, hm, _ => ⟨hc, hm, Int.dvd_refl c, fun k hk => by cases hk⟩
  | k :: r, c, m, hc, hm, hp => by
    have hk := hp k List.mem_cons_self
    have d := lcm_dvd hc hk.1
    obtain ⟨a1, a2, a3, a4⟩ := lcm_fold (ks := r) (lcm_step hc hk.1) (bd_lcm hc hk.1 hm hk.2) fun x hx => hp x (List.mem_cons_of_mem _ hx)
    refine ⟨a1, a2.mono (by rw [List.length_cons, Nat.mul_add]; omega), Int.dvd_trans d.1 a3, fun x hx => ?_⟩
    rcases List.mem_cons.mp hx with rfl | hx
    · exact Int.dvd_trans d.2 a3
    · exact a4 x hx
theorem lcmD_ok {qs : List Rat} (h : ∀ q ∈ qs, Bd 400 (q.den : Int)) (hl : qs.length ≤ 20) : 0 < lcmD qs ∧ Bd 8900 (lcmD qs) ∧ ∀ q ∈ qs, (q.den : Int) ∣ lcmD qs := by
  obtain ⟨a1, a2, _, a4⟩ := lcm_fold (n := 400) (ks := qs.map fun q => (q.den : Int)) (c := 1) (m := 1) (by decide) (show (1 : Int).natAbs < 2 ^ 1 by decide) (fun k hk => by
    obtain ⟨q, hq, rfl⟩ := List.mem_map.mp hk
    exact ⟨by have := q.den_pos; omega, h q hq⟩)
  exact ⟨a1, a2.mono (by rw [List.length_map]; omega), fun q hq => a4 _ (List.mem_map.mpr ⟨q, hq, rfl⟩)⟩

structure Bl where
  pl : Rat
  sp : Rat
  wt : Int
def BlAt (H : Hp) (v : V) (b : Bl) : Prop := ∃ a p q, v = V.ref a ∧ H a = some (.tup [.ref p, .ref q, .int b.wt]) ∧ RatAt H p b.pl ∧ RatAt H q b.sp
def RowI (H : Hp) (us : List V) (bs : List Bl) : Prop := us.length = bs.length ∧ ∀ (i : Nat) (v : V), us[i]? = some v → ∃ b, bs[i]? = some b ∧ BlAt H v b
def WlAt (H : Hp) (v : V) : Option (Rat × Rat) → Prop
  | none => v = .non
  | some w => ∃ a, v = V.ref a ∧ ThAt H a w.1 w.2
theorem BlAt.keeps {H H' : Hp} {v : V} {b : Bl} (h : BlAt H v b) (t : TupS H H') : BlAt H' v b := by
  obtain ⟨a, p, q, e, h1, h2, h3⟩ := h
  exact ⟨a, p, q, e, t _ _ h1, t _ _ h2, t _ _ h3⟩
theorem RowI.keeps {H H' : Hp} {us : List V} {bs : List Bl} (h : RowI H us bs) (t : TupS H H') : RowI H' us bs :=
  ⟨h.1, fun i v e => by obtain ⟨b, e1, e2⟩ := h.2 i v e; exact ⟨b, e1, e2.keeps t⟩⟩
theorem WlAt.keeps {H H' : Hp} {v : V} {w : Option (Rat × Rat)} (h : WlAt H v w) (t : TupS H H') : WlAt H' v w := by
  cases w with
  | none => exact h
  | some w => obtain ⟨a, e, h⟩ := h; exact ⟨a, e, h.keeps t⟩
def TsI (H : Hp) (vs : List V) (ts : List (Rat × Rat)) : Prop := vs.length = ts.length ∧ ∀ (i : Nat) (v : V), vs[i]? = some v → ∃ t a, ts[i]? = some t ∧ v = V.ref a ∧ ThAt H a t.1 t.2
theorem TsI.keeps {H H' : Hp} {vs : List V} {ts : List (Rat × Rat)} (h : TsI H vs ts) (t : TupS H H') : TsI H' vs ts :=
  ⟨h.1, fun i v e => by obtain ⟨x, a, e1, e2, e3⟩ := h.2 i v e; exact ⟨x, a, e1, e2, e3.keeps t⟩⟩
theorem TsI.nil {H : Hp} : TsI H [] [] := ⟨rfl, fun i v e => by simp at e⟩
theorem TsI.cons {H : Hp} {a : Addr} {t : Rat × Rat} {vs : List V} {ts : List (Rat × Rat)} (h : ThAt H a t.1 t.2) (r : TsI H vs ts) : TsI H (.ref a :: vs) (t :: ts) := by
  refine ⟨by simp [r.1], fun i v e => ?_⟩
  cases i with
  | zero => simp at e; subst e; exact ⟨t, a, rfl, rfl, h⟩
  | succ i => obtain ⟨x, b, e1, e2⟩ := r.2 i v (by simpa using e); exact ⟨x, b, by simpa using e1, e2⟩
theorem TsI.append {H : Hp} {vs vs' : List V} {ts ts' : List (Rat × Rat)} (h : TsI H vs ts) (h' : TsI H vs' ts') : TsI H (vs ++ vs') (ts ++ ts') := by
  refine ⟨by simp [h.1, h'.1], fun i v e => ?_⟩
  by_cases hi : i < vs.length
  · rw [List.getElem?_append_left hi] at e
    rw [List.getElem?_append_left (by rw [← h.1]; exact hi)]
    exact h.2 i v e
  · rw [List.getElem?_append_right (by omega)] at e
    rw [List.getElem?_append_right (by rw [← h.1]; omega), ← h.1]
    exact h'.2 _ v e
theorem RowI.ts {H : Hp} {us : List V} {bs : List Bl} (h : RowI H us bs) : TsI H us (bs.map fun b => (b.pl, b.sp)) := by
  refine ⟨by simp [h.1], fun i v e => ?_⟩
  obtain ⟨b, e1, a, p, q, rfl, h1, h2, h3⟩ := h.2 i v e
  exact ⟨(b.pl, b.sp), a, by rw [List.getElem?_map, e1]; rfl, rfl, p, q, _, h1, h2, h3⟩
def oneT : Option (Rat × Rat) → List (Rat × Rat)
  | none => []
  | some w => [w]
theorem walls_ts {H : Hp} {v1 v2 : V} {lo hi : Option (Rat × Rat)} (h1 : WlAt H v1 lo) (h2 : WlAt H v2 hi) : TsI H ([v1, v2].filter fun v => !decide (v = .non)) (oneT lo ++ oneT hi) := by
  have one : ∀ {v : V} {w : Option (Rat × Rat)}, WlAt H v w → TsI H ([v].filter fun v => !decide (v = .non)) (oneT w) := fun {v w} h => by
    cases w with
    | none =>
      have e : v = .non := h
      subst e; exact .nil
    | some w =>
      obtain ⟨a, e, h⟩ := h
      subst e
      rw [List.filter_cons_of_pos (by simp)]
      exact .cons h .nil
  have e : ([v1, v2].filter fun v => !decide (v = .non)) = ([v1].filter fun v => !decide (v = .non)) ++ ([v2].filter fun v => !decide (v = .non)) := by
    rw [← List.filter_append]; rfl
  rw [e]; exact (one h1).append (one h2)
def SameX (c : Addr) (H H' : Hp) : Prop := ∀ b o, b ≠ c → H b = some o → H' b = some o
theorem SameX.of {c : Addr} {H H' : Hp} (h : Same H H') : SameX c H H' := fun b o _ e => h b o e
theorem SameX.trans {c : Addr} {H H1 H2 : Hp} (a : SameX c H H1) (b : SameX c H1 H2) : SameX c H H2 := fun x o n e => b x o n (a x o n e)
theorem SameX.upd {c : Addr} {H : Hp} {o : HO} : SameX c H (upd H c o) := fun b u n e => by rw [upd_ne n]; exact e
theorem SameX.tup {c C dx : Addr} {fs : List (Str × V)} {H H' : Hp} (h : SameX c H H') (e : H c = some (.ins C dx fs)) : TupS H H' := fun b xs q => h b _ (fun z => by subst z; rw [e] at q; cases q) q
end KQ
end
section
set_option maxHeartbeats 4000000
set_option Elab.async false
set_option linter.all false
set_option maxRecDepth 100000
namespace KQ
open PySem L2 KM KK
structure TxQ (K : PySem.W.Frag) (mg : Str → Option Value) : Prop extends TxB K mg where
  nList : mg "list" = none
  nZip : mg "zip" = none
def TrAt (H : Hp) (v : V) : Option (Int × Int) → Prop
  | none => v = .non
  | some t => ∃ a, v = V.ref a ∧ H a = some (.tup [.int t.1, .int t.2])
def TrsI (H : Hp) (vs : List V) (ts : List (Int × Int)) : Prop := vs.length = ts.length ∧ ∀ (i : Nat) (v : V), vs[i]? = some v → ∃ t, ts[i]? = some t ∧ TrAt H v (some t)
theorem TrAt.keeps {H H' : Hp} {v : V} {w : Option (Int × Int)} (h : TrAt H v w) (t : TupS H H') : TrAt H' v w := by
  cases w with
  | none => exact h
  | some w => obtain ⟨a, e, h⟩ := h; exact ⟨a, e, t _ _ h⟩
theorem TrsI.keeps {H H' : Hp} {vs : List V} {ts : List (Int × Int)} (h : TrsI H vs ts) (t : TupS H H') : TrsI H' vs ts :=
  ⟨h.1, fun i v e => by obtain ⟨x, e1, e2⟩ := h.2 i v e; exact ⟨x, e1, e2.keeps t⟩⟩
structure CoF (H : Hp) (fs : List (Str × V)) (pb sb : Int) (tk : Rat) (ws : List Int) (trs : List (Int × Int)) (lo hi : Option (Int × Int)) : Prop where
  pb : fs.lookup ("place_bottom" : Str) = some (V.int pb)
  sb : fs.lookup ("speed_bottom" : Str) = some (V.int sb)
  tick : ∃ tp, fs.lookup ("tick" : Str) = some (V.ref tp) ∧ RatAt H tp tk
  weights : ∃ wl, fs.lookup ("weights" : Str) = some (V.ref wl) ∧ H wl = some (.lst (ws.map V.int))
  tracks : ∃ tl tv, fs.lookup ("tracks" : Str) = some (V.ref tl) ∧ H tl = some (.lst tv) ∧ TrsI H tv trs
  low : ∃ v, fs.lookup ("low" : Str) = some v ∧ TrAt H v lo
  high : ∃ v, fs.lookup ("high" : Str) = some v ∧ TrAt H v hi
def CoAt (H : Hp) (C c : Addr) (pb sb : Int) (tk : Rat) (ws : List Int) (trs : List (Int × Int)) (lo hi : Option (Int × Int)) : Prop := ∃ dx fs, H c = some (.ins C dx fs) ∧ CoF H fs pb sb tk ws trs lo hi
def ths (bs : List Bl) (lo hi : Option (Rat × Rat)) : List (Rat × Rat) := bs.map (fun b => (b.pl, b.sp)) ++ (oneT lo ++ oneT hi)
def pbO (bs : List Bl) (lo hi : Option (Rat × Rat)) : Int := lcmD ((ths bs lo hi).map (·.1))
def sbO (bs : List Bl) (lo hi : Option (Rat × Rat)) : Int := lcmD ((ths bs lo hi).map (·.2))
def trB (pb sb : Int) (t : Rat × Rat) : Int × Int := (byB t.1 pb, byB t.2 sb)
section
variable {P : Program} {w : World} {K : PySem.W.Frag} {mg : Str → Option Value} {base : Heap}
def spCo (C : Addr) : Sp := fun vs H Q _ => ∃ c dx r wa us bs v1 v2 lo hi, vs = [V.ref c, .ref r, .ref wa] ∧ H c = some (.ins C dx []) ∧ H r = some (.tup us) ∧ RowI H us bs ∧ H wa = some (.tup [v1, v2]) ∧ WlAt H v1 lo ∧ WlAt H v2 hi ∧ bs.length ≤ 8 ∧
  (∀ t ∈ ths bs lo hi, Sz 400 t.1 ∧ Sz 400 t.2) ∧ ∀ H', SameX c H H' → CoAt H' C c (pbO bs lo hi) (sbO bs lo hi) (Rat.divInt (sbO bs lo hi) (pbO bs lo hi)) (bs.map Bl.wt) (bs.map fun b => trB (pbO bs lo hi) (sbO bs lo hi) (b.pl, b.sp)) (lo.map (trB (pbO bs lo hi) (sbO bs lo hi))) (hi.map (trB (pbO bs lo hi) (sbO bs lo hi))) → Q .non H'
theorem sc_ci : FnScope ["self", "row", "walls", "things"] ["self", "row", "walls"] (defScope s_course_init) := ⟨rfl, rfl, rfl, by decide +kernel, rfl, by decide +kernel, by decide +kernel⟩
theorem ths_len {bs : List Bl} {lo hi : Option (Rat × Rat)} (h : bs.length ≤ 8) : (ths bs lo hi).length ≤ 20 := by
  unfold ths
  have e : ∀ w : Option (Rat × Rat), (oneT w).length ≤ 1 := fun w => by cases w <;> simp [oneT]
  have := e lo
  have := e hi
  simp only [List.length_append, List.length_map]; omega
theorem comp_th {σ : St} {H : Hp} {Q : VK} {L : Addr} {vs : List V} {ts : List (Rat × Rat)} {j : Nat} {i : Int} (f : Rat × Rat → Rat) (hσ : σ[j]? = some (some (.ref L))) (hL : H L = some (.lst vs)) (hT : TsI H vs ts) (hl : ts.length ≤ 20)
    (hf : ∀ H2 a t, ThAt H2 a t.1 t.2 → ∃ xs p, H2 a = some (.tup xs) ∧ atI xs i = some (.ref p) ∧ RatAt H2 p (f t))
    (k : ∀ D ys H', Same H H' → H' D = some (.lst ys) → RatsI H' ys (ts.map f) → Q (.ref D) H') :
    tComp 1 (iList K (tVar j)) (gName 0) (fun _ H Q => Q true H) (tOp (rIxT K) (tVar 0) (tC (.int i))) σ H Q := by
  refine ⟨_, hσ, L, rfl, ⟨_, SqL.of hL⟩, fun D hD => ?_⟩
  refine comp_each (J := Itl K L) (n := 1) (g := gName 0) (te := tOp (rIxT K) (tVar 0) (tC (.int i))) (xs := vs) (fun m v H => ∃ t p, ts[m]? = some t ∧ v = .ref p ∧ RatAt H p (f t)) (fun _ _ _ _ t ⟨x, p, e1, e2, e3⟩ => ⟨x, p, e1, e2, t _ _ e3⟩) hD (runs_list hL) (small20 (by rw [hT.1]; exact hl)) ?_ ?_
  · intro m x zs H2 Q' hx hz s2 hk
    obtain ⟨t, a, e, rfl, ha⟩ := hT.2 m x hx
    obtain ⟨z1, rfl⟩ := len1 hz
    obtain ⟨xs, p, h1, h2, h3⟩ := hf H2 a t (ha.keeps (.of s2))
    dsimp only [gName]
    try rw [if_pos rfl]
    exact ⟨_, rfl, a, _, _, _, rfl, rfl, .of h1, h2, hk _ _ (Same.refl _) ⟨t, p, e, rfl, h3⟩⟩
  · intro ys H' s' hy hyl hyR
    refine k D ys H' s' hy ⟨by simp [hyl, hT.1], fun m v e => ?_⟩
    obtain ⟨t, p, e1, e2, e3⟩ := hyR m v e
    exact ⟨p, f t, e2, by rw [List.getElem?_map, e1]; rfl, e3⟩
end
end KQ
end
section
set_option maxHeartbeats 4000000
set_option Elab.async false
set_option linter.all false
set_option maxRecDepth 100000
namespace KQ
open PySem L2 KM KK
section
variable {P : Program} {w : World} {K : PySem.W.Frag} {mg : Str → Option Value} {base : Heap}
theorem th0 : ∀ (H2 : Hp) (a : Addr) (t : Rat × Rat), ThAt H2 a t.1 t.2 → ∃ xs p, H2 a = some (.tup xs) ∧ atI xs 0 = some (.ref p) ∧ RatAt H2 p t.1 := fun H2 a t ⟨p, q, r, h1, h2, h3⟩ => ⟨_, p, h1, ati0, h2⟩
theorem th1 : ∀ (H2 : Hp) (a : Addr) (t : Rat × Rat), ThAt H2 a t.1 t.2 → ∃ xs p, H2 a = some (.tup xs) ∧ atI xs 1 = some (.ref p) ∧ RatAt H2 p t.2 := fun H2 a t ⟨p, q, r, h1, h2, h3⟩ => ⟨_, q, h1, ati1, h3⟩
theorem seq_fld {tv : TE} {rest : TS} {f : Str} {D : Ends} {σ : St} {H : Hp} (h : tv σ H fun y H1 => tVar 0 σ H1 fun x H2 => ∃ a C dx fs, x = .ref a ∧ H2 a = some (.ins C dx fs) ∧ Cls K C ∧ NoAttr K C f ∧ fs.length < 1000 ∧ rest D σ (upd H2 a (.ins C dx (putF f y fs)))) : tSeq (sFld K (tVar 0) tv f) rest D σ H := h
theorem one_fld {tv : TE} {f : Str} {D : Ends} {σ : St} {H : Hp} (h : tv σ H fun y H1 => tVar 0 σ H1 fun x H2 => ∃ a C dx fs, x = .ref a ∧ H2 a = some (.ins C dx fs) ∧ Cls K C ∧ NoAttr K C f ∧ fs.length < 1000 ∧ D.nx σ (upd H2 a (.ins C dx (putF f y fs)))) : sFld K (tVar 0) tv f D σ H := h
theorem call1 {te : TE} {sp : Sp} {σ : St} {H : Hp} {Q : VK} (h : te σ H fun x H1 => sp [x] H1 Q E0) : tCall sp [] E0 (tCons te tNil) σ H Q := h
theorem call2 {ta tb : TE} {sp : Sp} {σ : St} {H : Hp} {Q : VK} (h : ta σ H fun x H1 => tb σ H1 fun y H2 => sp [x, y] H2 Q E0) : tCall sp [] E0 (tCons ta (tCons tb tNil)) σ H Q := h
theorem step_fld {c C dx : Addr} {fs : List (Str × V)} {f : Str} {y : V} {rest : TS} {D : Ends} {σ : St} {H3 : Hp} (hσ : σ[0]? = some (some (.ref c))) (hc : H3 c = some (.ins C dx fs)) (cl : Cls K C) (na : NoAttr K C f) (hl : fs.length < 1000)
    (k : ∀ G, SameX c H3 G → G c = some (.ins C dx (putF f y fs)) → rest D σ G) : tVar 0 σ H3 fun x H2 => ∃ a C dx fs, x = .ref a ∧ H2 a = some (.ins C dx fs) ∧ Cls K C ∧ NoAttr K C f ∧ fs.length < 1000 ∧ rest D σ (upd H2 a (.ins C dx (putF f y fs))) :=
  ⟨_, hσ, c, C, dx, fs, rfl, hc, cl, na, hl, k _ .upd upd_same⟩
theorem tr_wall {C c dx : Addr} {fs : List (Str × V)} {pb sb : Int} {G : Hp} {v : V} {w : Option (Rat × Rat)} {Q : VK} {E : XK} (hc : G c = some (.ins C dx fs)) (e1 : fs.lookup ("place_bottom" : Str) = some (V.int pb)) (e2 : fs.lookup ("speed_bottom" : Str) = some (V.int sb)) (hw : WlAt G v w)
    (hz : ∀ t, w = some t → Sz 400 t.1 ∧ Sz 400 t.2) (p1 : 0 < pb ∧ Bd 8900 pb) (p2 : 0 < sb ∧ Bd 8900 sb) (k : ∀ v' H', Same G H' → TrAt H' v' (w.map (trB pb sb)) → Q v' H') : spTr C [.ref c, v] G Q E := by
  refine ⟨c, dx, fs, pb, sb, hc, e1, e2, ?_⟩
  cases w with
  | none =>
    have e : v = .non := hw
    subst e
    exact .inl ⟨rfl, k _ _ (Same.refl _) rfl⟩
  | some t =>
    obtain ⟨a, rfl, ha⟩ := hw
    have z := hz t rfl
    exact .inr ⟨a, t.1, t.2, rfl, ha, z.1, z.2, p1.1, p2.1, p1.2, p2.2, fun r H' s h => k _ _ s ⟨r, rfl, h⟩⟩
theorem ok_ci {C f : Addr} {fd : FuncData} (F : Fun K "__init__" "Course.__init__" s_course_init f fd) (T : TxQ K mg) (TC : TCo K C) (cB : Cal P w K mg base "common_bottom" 3 ["ratios"] [] spCB) (cR : Cal P w K mg base "ratio" 2 ["top", "bottom"] [] spLow)
    (cT : Cal P w K mg base "track_of" 1 ["course", "thing"] [] (spTr C)) : FnOk P w K mg base CX0 4 f fd ["self", "row", "walls"] (spCo C) := by
  refine F.ok (k := 3) sc_ci (fun vs H Q E h => by obtain ⟨_, _, _, _, _, _, _, _, _, _, rfl, _⟩ := h; rfl) (fun cdv A outer s H vs Q E hr h => ?_)
  obtain ⟨c, dx, r, wa, us, bs, v1, v2, lo, hi, rfl, hc, hrr, hB, hw, h1, h2, hl, hz, k⟩ := h
  have hr2 : Room 2 _ := hr.mono (by decide)
  have hr1 : Room 1 _ := hr.mono (by decide)
  refine ⟨_, (pss_cons (ps_set (i := 3) sc_ci.nd rfl (Or.inl rfl) (pe_op op_cat (pe_callTy call_list_of (by rfl) T.nList PyProof.Rows.boot_list (pa_cons (pv 1) pa_nil)) (pe_comp (NB := ["wall"]) rfl (by decide +kernel) (by decide +kernel) rfl (by decide +kernel) (pi_tup (pv 2)) (by intro _ _ _; refine ⟨?_, ?_, ?_⟩; (exact (pg_name (i := 0) (show List.Nodup (["wall"] : List Str) by decide +kernel) rfl (Or.inl rfl))); (exact (pts_one (pt_cmpR op_notN (pv 0) pe_non (nomark _)))); (exact (pv 0))))))
    (pss_cons (ps_fld (pv 0) (pe_c cB hr (pa_cons (pe_comp (NB := ["thing"]) rfl (by decide +kernel) (by decide +kernel) rfl (by decide +kernel) (pi_list (pv 3)) (by intro _ _ _; refine ⟨?_, ?_, ?_⟩; (exact (pg_name (i := 0) (show List.Nodup (["thing"] : List Str) by decide +kernel) rfl (Or.inl rfl))); (exact pts_nil); (exact (pe_ix (ix_tupK (K := K) rfl) (pv 0) pe_int (fun _ _ => rfl))))) pa_nil)) rfl)
    (pss_cons (ps_fld (pv 0) (pe_c cB hr (pa_cons (pe_comp (NB := ["thing"]) rfl (by decide +kernel) (by decide +kernel) rfl (by decide +kernel) (pi_list (pv 3)) (by intro _ _ _; refine ⟨?_, ?_, ?_⟩; (exact (pg_name (i := 0) (show List.Nodup (["thing"] : List Str) by decide +kernel) rfl (Or.inl rfl))); (exact pts_nil); (exact (pe_ix (ix_tupK (K := K) rfl) (pv 0) pe_int (fun _ _ => rfl))))) pa_nil)) rfl)
    (pss_cons (ps_fld (pv 0) (pe_c cR hr2 (pa_cons (pe_fld (pv 0) rfl) (pa_cons (pe_fld (pv 0) rfl) pa_nil))) rfl)
    (pss_cons (ps_fld (pv 0) (pe_comp (NB := ["ball"]) rfl (by decide +kernel) (by decide +kernel) rfl (by decide +kernel) (pi_tup (pv 1)) (by intro _ _ _; refine ⟨?_, ?_, ?_⟩; (exact (pg_name (i := 0) (show List.Nodup (["ball"] : List Str) by decide +kernel) rfl (Or.inl rfl))); (exact pts_nil); (exact (pe_ix (ix_tupK (K := K) rfl) (pv 0) pe_int (fun _ _ => rfl))))) rfl)
    (pss_cons (ps_fld (pv 0) (pe_compC (NB := ["ball"]) (FR := ["self"]) (js := [0]) rfl rfl (fun _ _ h => h) (.cons rfl rfl rfl ⟨_, rfl⟩ .nil) rfl (by decide +kernel) rfl (by decide +kernel) (pi_tup (pv 1)) (by intro _ _ _; refine ⟨?_, ?_, ?_⟩; (exact (pg_name (i := 0) (show List.Nodup (["ball","self"] : List Str) by decide +kernel) rfl (Or.inl rfl))); (exact pts_nil); (exact (pe_c cT hr1 (pa_cons (pv 1) (pa_cons (pv 0) pa_nil)))))) rfl)
    (pss_cons (ps_fld (pv 0) (pe_c cT hr1 (pa_cons (pv 0) (pa_cons (pe_ix ix_tup (pv 2) pe_int (fun _ _ => rfl)) pa_nil))) rfl)
    (pss_one (ps_fld (pv 0) (pe_c cT hr1 (pa_cons (pv 0) (pa_cons (pe_ix ix_tup (pv 2) pe_int (fun _ _ => rfl)) pa_nil))) rfl))))))))), ?_⟩
  refine ⟨_, rfl, r, us, rfl, .inr (.of hrr), fun l hll => ?_⟩
  refine ⟨_, rfl, wa, rfl, ⟨_, SqT.of (Same.upd hll _ _ hw)⟩, fun Da hD => ?_⟩
  refine comp_sel (J := Itt K wa) (n := 1) (g := gName 0) (te := tVar 0) (xs := [v1, v2]) (fun v => !decide (v = .non)) hD (runs_tup (Same.upd hll _ _ hw)) (small20 (by show 2 ≤ 20; decide)) ?_ ?_
  · intro m x zs H2 A2 B2 hx hz2 s2 ka kb
    obtain ⟨z1, rfl⟩ := len1 hz2
    dsimp only [gName]
    refine ⟨_, rfl, rfl, _, rfl, ?_⟩
    cases e : decide (x = V.non) with
    | true => exact kb (by simp [e])
    | false => exact ⟨_, rfl, ka (by simp [e])⟩
  intro H1 s1 hy
  have hl1 : H1 l = some (.lst us) := s1 _ _ upd_same
  refine ⟨l, Da, us, _, rfl, rfl, hl1, hy, ?_, fun L hL => ?_⟩
  · have z1 := List.length_filter_le (fun v => !decide (v = V.non)) [v1, v2]
    have z2 := hB.1
    have z3 : 20 < sizeLine := small20 (Nat.le_refl _)
    simp only [List.length_cons, List.length_nil] at z1
    omega
  have S1 : Same H H1 := (Same.upd hll).trans s1
  have S2 : Same H (upd H1 L (.lst (us ++ [v1, v2].filter fun v => !decide (v = .non)))) := S1.trans (Same.upd hL)
  have hT : TsI H (us ++ [v1, v2].filter fun v => !decide (v = .non)) (ths bs lo hi) := hB.ts.append (walls_ts h1 h2)
  have hLL : upd H1 L (.lst (us ++ [v1, v2].filter fun v => !decide (v = .non))) L = some (.lst (us ++ [v1, v2].filter fun v => !decide (v = .non))) := upd_same
  generalize upd H1 L (.lst (us ++ [v1, v2].filter fun v => !decide (v = .non))) = G0 at S2 hLL
  generalize (us ++ [v1, v2].filter fun v => !decide (v = .non)) = tv at hT hLL
  have hw0 := S2 _ _ hw
  have hr0 := S2 _ _ hrr
  have hc0 := S2 _ _ hc
  have cL : L ≠ c := fun z => by subst z; rw [hLL] at hc0; cases hc0
  dsimp only [gName]
  refine seq_fld (K := K) ?_
  refine call1 ?_
  refine comp_th (fun t => t.1) (by rfl) hLL (hT.keeps (.of S2)) (ths_len hl) th0 fun D1 y1 H2 s2 hy1 hR1 => ?_
  refine ⟨D1, y1, _, rfl, hy1, hR1, fun q hq => ?_, by rw [List.length_map]; exact ths_len hl, fun H3 s3 => ?_⟩
  · obtain ⟨t, ht, rfl⟩ := List.mem_map.mp hq
    exact (hz t ht).1.2
  have p1 := lcmD_ok (qs := (ths bs lo hi).map (·.1)) (fun q hq => by obtain ⟨t, ht, rfl⟩ := List.mem_map.mp hq; exact (hz t ht).1.2) (by rw [List.length_map]; exact ths_len hl)
  have p2 := lcmD_ok (qs := (ths bs lo hi).map (·.2)) (fun q hq => by obtain ⟨t, ht, rfl⟩ := List.mem_map.mp hq; exact (hz t ht).2.2) (by rw [List.length_map]; exact ths_len hl)
  refine step_fld (by rfl) (s3 _ _ (s2 _ _ hc0)) TC.cls TC.pb (by decide) fun G1 X1 c1 => ?_
  replace X1 : SameX c G0 G1 := (SameX.of (s2.trans s3)).trans X1
  have t1 : TupS H G1 := (TupS.of S2).trans (X1.tup hc0)
  refine seq_fld (K := K) ?_
  refine call1 ?_
  refine comp_th (fun t => t.2) (by rfl) (X1 _ _ cL hLL) (hT.keeps t1) (ths_len hl) th1 fun D2 y2 H4 s4 hy2 hR2 => ?_
  refine ⟨D2, y2, _, rfl, hy2, hR2, fun q hq => ?_, by rw [List.length_map]; exact ths_len hl, fun H5 s5 => ?_⟩
  · obtain ⟨t, ht, rfl⟩ := List.mem_map.mp hq
    exact (hz t ht).2.2
  refine step_fld (by rfl) (s5 _ _ (s4 _ _ c1)) TC.cls TC.sb (by show 1 < 1000; decide) fun G2 X2 c2 => ?_
  replace X2 : SameX c G0 G2 := X1.trans ((SameX.of (s4.trans s5)).trans X2)
  refine seq_fld (K := K) ?_
  refine ⟨_, rfl, c, C, dx, _, _, rfl, c2, TC.cls, TC.sb, rfl, _, rfl, c, C, dx, _, _, rfl, c2, TC.cls, TC.pb, rfl, _, _, rfl, by have := p1.1; omega, p1.2.1, fun tp H6 s6 htp => ?_⟩
  refine step_fld (by rfl) (s6 _ _ c2) TC.cls TC.tick (by show 2 < 1000; decide) fun G3 X3' c3 => ?_
  have X3 : SameX c G0 G3 := X2.trans ((SameX.of s6).trans X3')
  have htp3 : RatAt G3 tp _ := X3' _ _ (fun z => by subst z; have := s6 _ _ c2; rw [htp] at this; cases this) htp
  have t3 : TupS H G3 := (TupS.of S2).trans (X3.tup hc0)
  refine seq_fld (K := K) ?_
  have l20 : us.length < sizeLine := small20 (by rw [hB.1]; omega)
  refine ⟨_, rfl, r, rfl, ⟨_, SqT.of (t3 _ _ hrr)⟩, fun D4 hD4 => ?_⟩
  refine comp_each (J := Itt K r) (n := 1) (g := gName 0) (te := tOp (rIxT K) (tVar 0) (tC (.int 2))) (xs := us) (fun m v _ => ∃ b : Bl, bs[m]? = some b ∧ v = .int b.wt) (fun _ _ _ _ _ z => z) hD4 (runs_tup (t3 _ _ hrr)) l20 ?_ ?_
  · intro m x zs H7 Q' hx hz7 s7 hk
    obtain ⟨b, e, a, p, q, rfl, ha, _⟩ := (hB.keeps (t3.trans (.of s7))).2 m x hx
    obtain ⟨z1, rfl⟩ := len1 hz7
    dsimp only [gName]
    exact ⟨_, rfl, a, _, _, _, rfl, rfl, .of ha, rfl, hk _ _ (Same.refl _) ⟨b, e, rfl⟩⟩
  intro y4 H7 s7 hy4 hyl4 hyR4
  have e4 : y4 = (bs.map Bl.wt).map V.int := by
    rw [List.map_map]
    exact eq_map (hyl4.trans hB.1) hyR4
  refine step_fld (by rfl) (s7 _ _ c3) TC.cls TC.weights (by show 3 < 1000; decide) fun G4 X4' c4 => ?_
  have X4 : SameX c G0 G4 := X3.trans ((SameX.of s7).trans X4')
  have nc : ∀ {G : Hp} {fs : List (Str × V)} {b : Addr} {o : HO}, G c = some (.ins C dx fs) → G b = some o → (∀ fs, o ≠ .ins C dx fs) → b ≠ c := fun h1 h2 h3 z => by subst z; rw [h1] at h2; cases h2; exact h3 _ rfl
  have wl4 : G4 D4 = some (.lst ((bs.map Bl.wt).map V.int)) := by
    rw [← e4]; exact X4' _ _ (nc (s7 _ _ c3) hy4 (fun _ z => by cases z)) hy4
  have htp4 : RatAt G4 tp _ := X4' _ _ (nc (s7 _ _ c3) (s7 _ _ htp3) (fun _ z => by cases z)) (s7 _ _ htp3)
  have t4 : TupS H G4 := (TupS.of S2).trans (X4.tup hc0)
  refine seq_fld (K := K) ?_
  refine ⟨_, rfl, r, rfl, ⟨_, SqT.of (t4 _ _ hrr)⟩, fun D5 hD5 => ?_⟩
  refine compC_each (J := Itt K r) (n := 1) (js := [0]) (g := gName 0) (te := tCall (spTr C) [] E0 (tCons (tVar 1) (tCons (tVar 0) tNil))) (xs := us) (fun m v H => ∃ t, (bs.map fun b => trB (pbO bs lo hi) (sbO bs lo hi) (b.pl, b.sp))[m]? = some t ∧ TrAt H v (some t)) (fun _ _ _ _ t ⟨x, e1, e2⟩ => ⟨x, e1, e2.keeps t⟩) hD5 (runs_tup (t4 _ _ hrr)) l20 ?_ ?_
  · intro m x zs H8 Q' hx hz8 s8 hk
    obtain ⟨b, e, a, p, q, rfl, ha, hp, hq⟩ := (hB.keeps (t4.trans (.of s8))).2 m x hx
    obtain ⟨z1, rfl⟩ := len1 hz8
    dsimp only [gName]
    have zb := hz (b.pl, b.sp) (List.mem_append_left _ (List.mem_map.mpr ⟨b, List.mem_of_getElem? e, rfl⟩))
    refine ⟨rfl, _, rfl, _, rfl, c, dx, _, _, _, s8 _ _ c4, rfl, rfl, .inr ⟨a, b.pl, b.sp, rfl, ⟨p, q, _, ha, hp, hq⟩, zb.1, zb.2, p1.1, p2.1, p1.2.1, p2.2.1, fun r' H9 s9 h9 => hk _ _ s9 ⟨_, by rw [List.getElem?_map, e]; rfl, r', rfl, h9⟩⟩⟩
  intro y5 H8 s8 hy5 hyl5 hyR5
  refine step_fld (by rfl) (s8 _ _ c4) TC.cls TC.tracks (by show 4 < 1000; decide) fun G5 X5' c5 => ?_
  have X5 : SameX c G0 G5 := X4.trans ((SameX.of s8).trans X5')
  have tl5 : G5 D5 = some (.lst y5) := X5' _ _ (nc (s8 _ _ c4) hy5 (fun _ z => by cases z)) hy5
  have tr5 : TrsI G5 y5 (bs.map fun b => trB (pbO bs lo hi) (sbO bs lo hi) (b.pl, b.sp)) := ⟨by rw [hyl5, List.length_map, hB.1], fun m v e => by
    obtain ⟨t, e1, e2⟩ := hyR5 m v e
    exact ⟨t, e1, e2.keeps (X5'.tup (s8 _ _ c4))⟩⟩
  have wl5 := X5' _ _ (nc (s8 _ _ c4) (s8 _ _ wl4) (fun _ z => by cases z)) (s8 _ _ wl4)
  have htp5 : RatAt G5 tp _ := X5' _ _ (nc (s8 _ _ c4) (s8 _ _ htp4) (fun _ z => by cases z)) (s8 _ _ htp4)
  have t5 : TupS H G5 := (TupS.of S2).trans (X5.tup hc0)
  have zlo : ∀ t, lo = some t → Sz 400 t.1 ∧ Sz 400 t.2 := fun t e => hz t (by unfold ths; rw [e]; simp [oneT])
  have zhi : ∀ t, hi = some t → Sz 400 t.1 ∧ Sz 400 t.2 := fun t e => hz t (by unfold ths; rw [e]; simp [oneT])
  refine seq_fld (K := K) ?_
  refine call2 ⟨_, rfl, _, rfl, wa, _, _, _, rfl, rfl, .of (t5 _ _ hw), at0 .., ?_⟩
  refine tr_wall c5 rfl rfl (h1.keeps t5) zlo ⟨p1.1, p1.2.1⟩ ⟨p2.1, p2.2.1⟩ fun lv H9 s9 hlv => ?_
  refine step_fld (by rfl) (s9 _ _ c5) TC.cls TC.low (by show 5 < 1000; decide) fun G6 X6' c6 => ?_
  have X6 : SameX c G0 G6 := X5.trans ((SameX.of s9).trans X6')
  have t6 : TupS H G6 := (TupS.of S2).trans (X6.tup hc0)
  have X56 : SameX c G5 G6 := (SameX.of s9).trans X6'
  refine one_fld (K := K) ?_
  refine call2 ⟨_, rfl, _, rfl, wa, _, _, _, rfl, rfl, .of (t6 _ _ hw), at1 .., ?_⟩
  refine tr_wall c6 rfl rfl (h2.keeps t6) zhi ⟨p1.1, p1.2.1⟩ ⟨p2.1, p2.2.1⟩ fun hv H10 s10 hhv => ?_
  refine step_fld (rest := Ends.nx) (by rfl) (s10 _ _ c6) TC.cls TC.high (by show 6 < 1000; decide) fun G7 X7' c7 => ?_
  have X67 : SameX c G6 G7 := (SameX.of s10).trans X7'
  have X57 : SameX c G5 G7 := X56.trans X67
  have X7 : SameX c G0 G7 := X6.trans X67
  refine k G7 ((SameX.of S2).trans X7) ⟨dx, _, c7, ⟨rfl, rfl, ⟨tp, rfl, X57 _ _ (nc c5 htp5 (fun _ z => by cases z)) htp5⟩, ⟨D4, rfl, X57 _ _ (nc c5 wl5 (fun _ z => by cases z)) wl5⟩,
    ⟨D5, y5, rfl, X57 _ _ (nc c5 tl5 (fun _ z => by cases z)) tl5, tr5.keeps (X57.tup c5)⟩, ⟨lv, rfl, (hlv.keeps (X6'.tup (s9 _ _ c5))).keeps (X67.tup c6)⟩, ⟨hv, rfl, hhv.keeps (X7'.tup (s10 _ _ c6))⟩⟩⟩
end
end KQ
end
section
set_option maxHeartbeats 4000000
set_option Elab.async false
set_option linter.all false
set_option maxRecDepth 100000
namespace KQ
open PySem L2 KM KK
theorem Sz_sub {m n : Nat} {x y : Rat} (h : Sz m x) (k : Sz n y) : Sz (m + n + 1) (x - y) := by
  rw [← KM.minus_eq]
  refine .divInt (Int.mul_ne_zero (KM.den_ne x) (KM.den_ne y)) ?_ ((h.2.mul k.2).mono (by omega))
  rw [Int.sub_eq_add_neg]
  have h2 : Bd (n + m) (-(y.num * (x.den : Int))) := by
    have := k.1.mul h.2
    unfold Bd at *
    rw [Int.natAbs_neg]; exact this
  exact Bd.mono (Bd.add (h.1.mul k.2) h2) (by omega)
section
variable {P : Program} {w : World} {K : PySem.W.Frag} {mg : Str → Option Value} {base : Heap}
def spMo (C : Addr) : Sp := fun vs H Q _ => ∃ c t dx fs tp tk a b, vs = [V.ref c, .ref t] ∧ H c = some (.ins C dx fs) ∧ fs.lookup ("tick" : Str) = some (V.ref tp) ∧ RatAt H tp tk ∧ H t = some (.tup [.int a, .int b]) ∧ b ≠ 0 ∧ Bd 4400 a ∧ Bd 4400 b ∧ Sz 4400 tk ∧
  ∀ r H', Same H H' → RatAt H' r (Rat.divInt (a * tk.num) (b * (tk.den : Int))) → Q (.ref r) H'
theorem sc_mo : FnScope ["course", "ticks"] ["course", "ticks"] (defScope s_moment_of) := ⟨rfl, rfl, rfl, by decide +kernel, rfl, by decide +kernel, by decide +kernel⟩
theorem ok_mo {C : Addr} (D : Df K mg "moment_of" s_moment_of ["course", "ticks"] []) (TC : TCo K C) (cR : Cal P w K mg base "ratio" 2 ["top", "bottom"] [] spLow) : Cal P w K mg base "moment_of" 3 ["course", "ticks"] [] (spMo C) := by
  refine D.cal (k := 2) sc_mo (fun vs H Q E h => by obtain ⟨_, _, _, _, _, _, _, _, rfl, _⟩ := h; rfl) (fun f cdv A outer s H vs Q E hr h => ?_)
  obtain ⟨c, t, dx, fs, tp, tk, a, b, rfl, hc, e, htp, ht, hb, ba, bb, hz, k⟩ := h
  refine ⟨_, (pss_one (ps_ret (pe_c cR hr (pa_cons (pe_op op_mulB (pe_ix ix_tup (pv 1) pe_int (fun _ _ => rfl)) (pe_ix ix_tup (pe_fld (pv 0) rfl) pe_int (fun _ _ => rfl))) (pa_cons (pe_op op_mulB (pe_ix ix_tup (pv 1) pe_int (fun _ _ => rfl)) (pe_ix ix_tup (pe_fld (pv 0) rfl) pe_int (fun _ _ => rfl))) pa_nil))))), ?_⟩
  refine call2 (Q := Q) ?_
  refine ⟨_, rfl, t, _, _, _, rfl, rfl, .of ht, at0 .., _, rfl, c, C, dx, fs, _, rfl, hc, TC.cls, TC.tick, e, tp, _, _, _, rfl, rfl, .of htp, at0 .., _, _, rfl, rfl, ⟨ba.mono (by decide), hz.1.mono (by decide)⟩, ?_⟩
  refine ⟨_, rfl, t, _, _, _, rfl, rfl, .of ht, at1 .., _, rfl, c, C, dx, fs, _, rfl, hc, TC.cls, TC.tick, e, tp, _, _, _, rfl, rfl, .of htp, at1 .., _, _, rfl, rfl, ⟨bb.mono (by decide), hz.2.mono (by decide)⟩, ?_⟩
  exact ⟨_, _, rfl, Int.mul_ne_zero hb (KM.den_ne tk), (bb.mul hz.2).mono (by decide), k⟩
def shutM : Option (Rat × Rat) → Option (Rat × Rat) → Option Rat
  | some l, some h => if h.2 < l.2 then some ((h.1 - l.1) / (l.2 - h.2)) else none
  | _, _ => none
def ORat (H : Hp) (v : V) : Option Rat → Prop
  | none => v = .non
  | some q => ∃ a, v = V.ref a ∧ RatAt H a q
def spSh : Sp := fun vs H Q _ => ∃ wa v1 v2 lo hi, vs = [V.ref wa] ∧ H wa = some (.tup [v1, v2]) ∧ WlAt H v1 lo ∧ WlAt H v2 hi ∧ (∀ t, lo = some t → Sz 400 t.1 ∧ Sz 400 t.2) ∧ (∀ t, hi = some t → Sz 400 t.1 ∧ Sz 400 t.2) ∧
  ∀ v H', Same H H' → ORat H' v (shutM lo hi) → Q v H'
theorem sc_sh : FnScope ["walls", "low", "high"] ["walls"] (defScope s_shut_moment) := ⟨rfl, rfl, rfl, by decide +kernel, rfl, by decide +kernel, by decide +kernel⟩
theorem ok_sh (D : Df K mg "shut_moment" s_shut_moment ["walls"] []) (cLs : Cal P w K mg base "less" 1 ["one", "other"] [] spLtI) (cM : Cal P w K mg base "minus" 3 ["one", "other"] [] (spBin Sz2 (· - ·)))
    (cO : Cal P w K mg base "over" 3 ["one", "other"] [] (spBin (fun x y => Sz2 x y ∧ y ≠ 0) (· / ·))) : Cal P w K mg base "shut_moment" 4 ["walls"] [] spSh := by
  refine D.cal (k := 3) sc_sh (fun vs H Q E h => by obtain ⟨_, _, _, _, _, rfl, _⟩ := h; rfl) (fun f cdv A outer s H vs Q E hr h => ?_)
  obtain ⟨wa, v1, v2, lo, hi, rfl, hw, h1, h2, z1, z2, k⟩ := h
  have hr1 : Room 1 _ := hr.mono (by decide)
  refine ⟨_, (pss_cons (ps_asg (pv 0) (pg_tup rfl (pgs_cons (pg_name (i := 1) sc_sh.nd rfl (Or.inl rfl)) (pgs_cons (pg_name (i := 2) sc_sh.nd rfl (Or.inl rfl)) pgs_nil))))
    (pss_cons (ps_if ((pw_or (pt_cmpR op_isN (pv 1) pe_non (nomark _)) (pw_or (pt_cmpR op_isN (pv 2) pe_non (nomark _)) (pw_or1 (pt_not (pt_truth (pe_c cLs hr1 (pa_cons (pe_ix ix_tup (pv 2) pe_int (fun _ _ => rfl)) (pa_cons (pe_ix ix_tup (pv 1) pe_int (fun _ _ => rfl)) pa_nil))) fun _ => rfl)))))).pt (pss_one (ps_ret pe_non)) pss_nil)
    (pss_one (ps_ret (pe_c cO hr (pa_cons (pe_c cM hr (pa_cons (pe_ix ix_tup (pv 2) pe_int (fun _ _ => rfl)) (pa_cons (pe_ix ix_tup (pv 1) pe_int (fun _ _ => rfl)) pa_nil))) (pa_cons (pe_c cM hr (pa_cons (pe_ix ix_tup (pv 1) pe_int (fun _ _ => rfl)) (pa_cons (pe_ix ix_tup (pv 2) pe_int (fun _ _ => rfl)) pa_nil))) pa_nil))))))), ?_⟩
  refine ⟨_, rfl, wa, _, rfl, .of hw, rfl, _, _, rfl, _, _, rfl, rfl, ?_⟩
  refine ⟨_, rfl, rfl, _, rfl, ?_⟩
  cases lo with
  | none =>
    have e : v1 = .non := h1
    subst e
    exact iteT (k _ _ (Same.refl _) rfl)
  | some l =>
    obtain ⟨a1, rfl, p1, q1, r1, ha1, hp1, hq1⟩ := h1
    refine iteF ?_
    refine ⟨_, rfl, rfl, _, rfl, ?_⟩
    cases hi with
    | none =>
      have e : v2 = .non := h2
      subst e
      exact iteT (k _ _ (Same.refl _) rfl)
    | some h =>
      obtain ⟨a2, rfl, p2, q2, r2, ha2, hp2, hq2⟩ := h2
      have y1 := z1 l rfl
      have y2 := z2 h rfl
      refine iteF ?_
      refine ⟨_, rfl, a2, _, _, _, rfl, rfl, .of ha2, ati1, _, rfl, a1, _, _, _, rfl, rfl, .of ha1, ati1, q2, q1, _, _, _, _, rfl, hq2, hq1, y2.2.1.mono (by decide), y2.2.2.mono (by decide), y1.2.1.mono (by decide), y1.2.2.mono (by decide), ?_⟩
      refine ⟨_, rfl, ?_⟩
      have el := less_rat h.2 l.2
      by_cases hlt : h.2 < l.2
      · rw [decide_eq_true hlt] at el
        rw [el]
        refine iteF ?_
        have sM : shutM (some l) (some h) = some ((h.1 - l.1) / (l.2 - h.2)) := if_pos hlt
        rw [sM] at k
        refine ⟨_, rfl, a2, _, _, _, rfl, rfl, .of ha2, ati0, _, rfl, a1, _, _, _, rfl, rfl, .of ha1, ati0, p2, p1, _, _, rfl, hp2, hp1, ⟨y2.1.mono (by decide), y1.1.mono (by decide)⟩, fun m1 H1 s1 hm1 => ?_⟩
        refine ⟨_, rfl, a1, _, _, _, rfl, rfl, .of (s1 _ _ ha1), ati1, _, rfl, a2, _, _, _, rfl, rfl, .of (s1 _ _ ha2), ati1, q1, q2, _, _, rfl, hq1.same s1, hq2.same s1, ⟨y1.2.mono (by decide), y2.2.mono (by decide)⟩, fun m2 H2 s2 hm2 => ?_⟩
        refine ⟨m1, m2, _, _, rfl, hm1.same s2, hm2, ⟨⟨(Sz_sub y2.1 y1.1).mono (by decide), (Sz_sub y1.2 y2.2).mono (by decide)⟩, ?_⟩, fun r H3 s3 h3 => k _ _ (s1.trans (s2.trans s3)) ⟨r, rfl, h3⟩⟩
        intro z
        have z' : l.2 - h.2 = 0 := z
        grind
      · rw [decide_eq_false hlt] at el
        rw [el]
        have sM : shutM (some l) (some h) = none := if_neg hlt
        rw [sM] at k
        exact iteT (k _ _ (Same.refl _) rfl)
end
end KQ
end
section
set_option maxHeartbeats 4000000
set_option Elab.async false
set_option linter.all false
set_option maxRecDepth 100000
namespace L2
open PySem PySem.Spec PyProof.Rows
section
variable {J : It} {D : Addr} {n : Nat} {js : List Nat} {σ : St} {g : TG} {tt : TT} {te : TE} {Z : Hp → Prop} {H : Hp} {xs : List V}
theorem compC_sel (p : V → Bool) (hD : H D = none) (hJ : Runs J H xs) (hl : xs.length < sizeLine)
    (hs : ∀ (i : Nat) (x : V) (zs : St) (H2 : Hp) (A : VK) (B : Hp → Prop), xs[i]? = some x → zs.length = n → Same H H2 → (p x = true → A x H2) → (p x = false → B H2) → g x (zs ++ caps σ js) H2 fun σ4 H4 => σ4.drop n = caps σ js ∧ tt σ4 H4 fun b H5 => if b = true then te σ4 H5 A else B H5)
    (k : ∀ H', Same H H' → H' D = some (.lst (xs.filter p)) → Z H') :
    ∃ W : Nat → Nat → Hp → List V → Prop, (∃ m, W 0 m (upd H D (.lst [])) []) ∧ ∀ i m H2 ys, W i m H2 ys → H2 D = some (.lst ys) → (J.stop i H2 ∧ Z H2) ∨
      (J.go i H2 ∧ ∀ zs x H3, zs.length = n → J.yld i H2 x H3 → g x (zs ++ caps σ js) H3 fun σ4 H4 => σ4.drop n = caps σ js ∧ tt σ4 H4 fun b H5 => if b = true then te σ4 H5 (fun v H6 => H6 D = some (.lst ys) ∧ ys.length < sizeLine ∧ ∃ m', m' < m ∧ W (i + 1) m' (upd H6 D (.lst (ys ++ [v]))) (ys ++ [v]))
        else H5 D = some (.lst ys) ∧ ∃ m', m' < m ∧ W (i + 1) m' H5 ys) := by
  refine compC_by (Q := fun _ H => Z H) (tt := tt) (N := xs.length) (fun i H2 ys => Same H H2 ∧ ys = (xs.take i).filter p) ⟨Same.upd hD, rfl⟩ (fun i H2 ys hi p => hJ.go i H2 hi p.1) (fun H2 ys p => hJ.stop H2 p.1) ?_ (fun H2 ys q e => k H2 q.1 (by rw [e, q.2, List.take_length]))
  rintro i x zs H2 H3 ys Nx hN hi hz hy ⟨s2, rfl⟩ hD2
  obtain ⟨rfl, hx⟩ := hJ.yld i x H2 H3 s2 hy
  have et : xs.take (i + 1) = xs.take i ++ [x] := by rw [List.take_add_one, hx]; rfl
  refine hs i x zs H3 _ _ hx hz s2 (fun hp => ⟨hD2, ?_, hN _ _ ⟨fun c o e => ?_, ?_⟩⟩) (fun hp => ⟨hD2, hN _ _ ⟨s2, ?_⟩⟩)
  · have := List.length_filter_le p (xs.take i)
    have := List.length_take_le i xs
    omega
  · rw [upd_ne (ne_of_none e hD)]; exact s2 _ _ e
  · rw [et, List.filter_append]; simp [hp]
  · rw [et, List.filter_append]; simp [hp]
end
end L2
namespace KQ
open PySem L2 KM KK
theorem for_zip {K : PySem.W.Frag} {a b : Addr} {xs ys : List V} {g : TG} {tb : TS} {D : Ends} {σ : St} {H : Hp} (Pv : Nat → St → Hp → Prop) (h0 : Pv 0 σ H) (hl : ∀ i σ H, Pv i σ H → SqL K H a xs ∧ SqL K H b ys)
    (hs : ∀ (i : Nat) (x y : V) (σ : St) (H : Hp) (T : Addr), xs[i]? = some x → ys[i]? = some y → Pv i σ H → H T = none → g (.ref T) σ (upd H T (.tup [x, y])) fun σ2 H2 => tb { D with nx := Pv (i + 1), ct := Pv (i + 1), bk := D.nx } σ2 H2)
    (hd : ∀ σ H, Pv (min xs.length ys.length) σ H → D.nx σ H) :
    ∃ W : Nat → Nat → St → Hp → Prop, (∃ m, W 0 m σ H) ∧ ∀ i m σ H, W i m σ H →
      ((ItzL K a b).stop i H ∧ D.nx σ H) ∨ ((ItzL K a b).go i H ∧ ∃ N : St → Hp → Prop, (∀ σ' H', N σ' H' → ∃ m', m' < m ∧ W (i + 1) m' σ' H') ∧ ∀ x H', (ItzL K a b).yld i H x H' → g x σ H' fun σ2 H2 => tb { D with nx := N, ct := N, bk := D.nx } σ2 H2) := by
  refine ⟨fun i m σ H => m = min xs.length ys.length - i ∧ i ≤ min xs.length ys.length ∧ Pv i σ H, ⟨min xs.length ys.length, by simp, Nat.zero_le _, h0⟩, ?_⟩
  rintro i m σ H ⟨rfl, hi, p⟩
  obtain ⟨q1, q2⟩ := hl i σ H p
  by_cases hlt : i < min xs.length ys.length
  · refine .inr ⟨⟨xs, ys, xs[i]'(by omega), ys[i]'(by omega), q1, q2, by simp, by simp⟩, Pv (i + 1), fun σ' H' p' => ⟨min xs.length ys.length - (i + 1), by omega, rfl, hlt, p'⟩, fun x H' y => ?_⟩
    obtain ⟨T, u, v, rfl, hT, rfl, e1, e2⟩ := y
    exact hs i u v σ H T (e1 xs q1) (e2 ys q2) p hT
  · have e : i = min xs.length ys.length := by omega
    subst e
    exact .inl ⟨⟨xs, ys, q1, q2, by omega⟩, hd σ H p⟩
theorem cut1' {us : List V} : cutV us (some 1) none = us.drop 1 := by
  cases us with
  | nil => rfl
  | cons a r =>
    unfold cutV HT.sIx
    simp
theorem bd_sub {n : Nat} {a b : Int} (h : Bd n a) (k : Bd n b) : Bd (n + 1) (a - b) := by
  unfold Bd at *
  have := Int.natAbs_sub_le a b
  rw [Nat.pow_succ]; omega
def optL : Option (Int × Int) → List (Int × Int)
  | none => []
  | some w => [w]
def chn (trs : List (Int × Int)) (lo hi : Option (Int × Int)) : List (Int × Int) := optL lo ++ trs ++ optL hi
def stepS (f : Option (Int × Int)) (p : (Int × Int) × (Int × Int)) : Option (Int × Int) :=
  if p.2.2 < p.1.2 then (match f with
    | none => some (p.2.1 - p.1.1, p.1.2 - p.2.2)
    | some u => if (p.2.1 - p.1.1) * u.2 < u.1 * (p.1.2 - p.2.2) then some (p.2.1 - p.1.1, p.1.2 - p.2.2) else some u) else f
theorem stepS_n {l r : Int × Int} (h : r.2 < l.2) : stepS none (l, r) = some (r.1 - l.1, l.2 - r.2) := if_pos h
theorem stepS_s {l r u : Int × Int} (h : r.2 < l.2) : stepS (some u) (l, r) = if (r.1 - l.1) * u.2 < u.1 * (l.2 - r.2) then some (r.1 - l.1, l.2 - r.2) else some u := if_pos h
def soon (ch : List (Int × Int)) : Option (Int × Int) := (ch.zip ch.tail).foldl stepS none
theorem trs_nil {H : Hp} : TrsI H [] [] := ⟨rfl, fun i v e => by simp at e⟩
theorem trs_one {H : Hp} {v : V} {w : Option (Int × Int)} (h : TrAt H v w) : TrsI H ([v].filter fun v => !decide (v = .non)) (optL w) := by
  cases w with
  | none =>
    have e : v = .non := h
    subst e; exact trs_nil
  | some w =>
    obtain ⟨a, e, h⟩ := h
    subst e
    rw [List.filter_cons_of_pos (by simp)]
    refine ⟨rfl, fun i v e => ?_⟩
    cases i with
    | zero => simp at e; subst e; exact ⟨w, rfl, a, rfl, h⟩
    | succ i => simp at e
theorem trs_all {H : Hp} {vs : List V} {ts : List (Int × Int)} (h : TrsI H vs ts) : (vs.filter fun v => !decide (v = .non)) = vs := by
  refine List.filter_eq_self.mpr fun v hv => ?_
  obtain ⟨i, hi⟩ := List.getElem?_of_mem hv
  obtain ⟨t, _, a, rfl, _⟩ := h.2 i v hi
  simp
theorem trs_append {H : Hp} {vs vs' : List V} {ts ts' : List (Int × Int)} (h : TrsI H vs ts) (h' : TrsI H vs' ts') : TrsI H (vs ++ vs') (ts ++ ts') := by
  refine ⟨by simp [h.1, h'.1], fun i v e => ?_⟩
  by_cases hi : i < vs.length
  · rw [List.getElem?_append_left hi] at e
    rw [List.getElem?_append_left (by rw [← h.1]; exact hi)]
    exact h.2 i v e
  · rw [List.getElem?_append_right (by omega)] at e
    rw [List.getElem?_append_right (by rw [← h.1]; omega), ← h.1]
    exact h'.2 _ v e
section
variable {P : Program} {w : World} {K : PySem.W.Frag} {mg : Str → Option Value} {base : Heap}
def spSo (C : Addr) : Sp := fun vs H Q _ => ∃ c pb sb tk ws trs lo hi, vs = [V.ref c] ∧ CoAt H C c pb sb tk ws trs lo hi ∧ trs.length ≤ 8 ∧ (∀ t ∈ chn trs lo hi, Bd 4000 t.1 ∧ Bd 4000 t.2) ∧ ∀ v H', Same H H' → TrAt H' v (soon (chn trs lo hi)) → Q v H'
theorem sc_so : FnScope ["course", "chain", "found", "left", "right", "ticks"] ["course"] (defScope s_soonest) := ⟨rfl, rfl, rfl, by decide +kernel, rfl, by decide +kernel, by decide +kernel⟩
theorem ok_so {C : Addr} (D : Df K mg "soonest" s_soonest ["course"] []) (T : TxQ K mg) (TC : TCo K C) (cLs : Cal P w K mg base "less" 1 ["one", "other"] [] spLtI) : Cal P w K mg base "soonest" 2 ["course"] [] (spSo C) := by
  refine D.cal (k := 1) sc_so (fun vs H Q E h => by obtain ⟨_, _, _, _, _, _, _, _, rfl, _⟩ := h; rfl) (fun f cdv A outer s H vs Q E hr h => ?_)
  obtain ⟨c, pb, sb, tk, ws, trs, lo, hi, rfl, ⟨dx, fs, hc, F⟩, hl, hz, k⟩ := h
  obtain ⟨tl, tv, e1, htl, htr⟩ := F.tracks
  obtain ⟨lv, e2, hlv⟩ := F.low
  obtain ⟨hv, e3, hhv⟩ := F.high
  have z20 : 20 < sizeLine := small20 (Nat.le_refl _)
  have lt := htr.1
  refine ⟨_, (pss_cons (ps_setC (i := 1) (NB := ["track"]) (FR := []) (js := []) rfl rfl (fun _ _ h => by cases h) .nil rfl (by decide +kernel) rfl (by decide +kernel) sc_so.nd rfl rfl (by rfl) (pi_list (pe_op op_cat (pe_op op_cat (pe_lst (pa_cons (pe_fld (pv 0) rfl) pa_nil)) (pe_fld (pv 0) rfl)) (pe_lst (pa_cons (pe_fld (pv 0) rfl) pa_nil)))) (by intro _ _ _; refine ⟨?_, ?_, ?_⟩; (exact (pg_name (i := 0) (show List.Nodup (["track"] : List Str) by decide +kernel) rfl (Or.inl rfl))); (exact (pts_one (pt_cmpR op_notN (pv 0) pe_non (nomark _)))); (exact (pv 0))))
    (pss_cons (ps_set (i := 2) sc_so.nd rfl (Or.inl rfl) pe_non)
    (pss_cons (ps_for PassesOwn.never rfl (pi_zipL (by rfl) T.nZip (pa_cons (pv 1) (pa_cons (pe_slice sl_list (pv 1) (po_some pe_int) po_none) pa_nil))) (pg_tup rfl (pgs_cons (pg_name (i := 3) sc_so.nd rfl (Or.inl rfl)) (pgs_cons (pg_name (i := 4) sc_so.nd rfl (Or.inl rfl)) pgs_nil))) (pss_one (ps_if (pt_cmpR op_gt (pe_ix ix_tup (pv 3) pe_int (fun _ _ => rfl)) (pe_ix ix_tup (pv 4) pe_int (fun _ _ => rfl)) (nomark _)) (pss_cons (ps_set (i := 5) sc_so.nd rfl (Or.inl rfl) (pe_tup (pa_cons (pe_op op_sub (pe_ix ix_tup (pv 4) pe_int (fun _ _ => rfl)) (pe_ix ix_tup (pv 3) pe_int (fun _ _ => rfl))) (pa_cons (pe_op op_sub (pe_ix ix_tup (pv 3) pe_int (fun _ _ => rfl)) (pe_ix ix_tup (pv 4) pe_int (fun _ _ => rfl))) pa_nil))))
    (pss_one (ps_if ((pw_or (pt_cmpR op_isN (pv 2) pe_non (nomark _)) (pw_or1 (pt_truth (pe_c cLs hr (pa_cons (pv 5) (pa_cons (pv 2) pa_nil))) fun _ => rfl)))).pt (pss_one (ps_set (i := 2) sc_so.nd rfl (Or.inl rfl) (pv 5))) pss_nil))) pss_nil)))
    (pss_one (ps_ret (pv 2)))))), ?_⟩
  refine ⟨_, rfl, c, C, dx, fs, lv, rfl, hc, TC.cls, TC.low, e2, by show 1 ≤ sizeLine; decide, fun p1 hp1 => ?_⟩
  have S1 : Same H (upd H p1 (.lst [lv])) := Same.upd hp1
  refine ⟨_, rfl, c, C, dx, fs, _, rfl, S1 _ _ hc, TC.cls, TC.tracks, e1, p1, tl, _, _, rfl, rfl, upd_same, S1 _ _ htl, by rw [List.length_cons, List.length_nil]; omega, fun p2 hp2 => ?_⟩
  have S2 := S1.trans (Same.upd (o := .lst ([lv] ++ tv)) hp2)
  refine ⟨_, rfl, c, C, dx, fs, hv, rfl, S2 _ _ hc, TC.cls, TC.high, e3, by show 1 ≤ sizeLine; decide, fun p3 hp3 => ?_⟩
  have S3 := S2.trans (Same.upd (o := .lst [hv]) hp3)
  refine ⟨p2, p3, _, _, rfl, rfl, Same.upd hp3 _ _ upd_same, upd_same, by simp only [List.length_append, List.length_cons, List.length_nil]; omega, fun p4 hp4 => ?_⟩
  have S4 := S3.trans (Same.upd (o := .lst ([lv] ++ tv ++ [hv])) hp4)
  refine ⟨p4, rfl, ⟨_, SqL.of upd_same⟩, fun Da hD => ?_⟩
  refine compC_sel (J := Itl K p4) (n := 1) (js := []) (g := gName 0) (te := tVar 0) (xs := [lv] ++ tv ++ [hv]) (fun v => !decide (v = .non)) hD (runs_list upd_same) (small20 (by simp only [List.length_append, List.length_cons, List.length_nil]; omega)) ?_ ?_
  · intro m x zs H2 A2 B2 hx hz2 s2 ka kb
    obtain ⟨z1, rfl⟩ := len1 hz2
    dsimp only [gName]
    refine ⟨rfl, _, rfl, rfl, _, rfl, ?_⟩
    cases e : decide (x = V.non) with
    | true => exact kb (by simp [e])
    | false => exact ⟨_, rfl, ka (by simp [e])⟩
  intro H5 s5 hy
  have S5 : Same H H5 := S4.trans s5
  have hT : TrsI H5 (([lv] ++ tv ++ [hv]).filter fun v => !decide (v = .non)) (chn trs lo hi) := by
    rw [List.filter_append, List.filter_append, trs_all htr]
    exact (trs_append (trs_append (trs_one hlv) htr) (trs_one hhv)).keeps (.of S5)
  generalize (([lv] ++ tv ++ [hv]).filter fun v => !decide (v = .non)) = ys at hT hy
  dsimp only [gName]
  refine ⟨_, rfl, _, rfl, 1, rfl, Da, ys, rfl, .of hy, fun p5 hp5 => ?_⟩
  rw [cut1']
  have S6 : Same H5 (upd H5 p5 (.lst (ys.drop 1))) := Same.upd hp5
  have hy6 := S6 _ _ hy
  have hp6 : upd H5 p5 (.lst (ys.drop 1)) p5 = some (.lst (ys.drop 1)) := upd_same
  replace hT := hT.keeps (.of S6)
  have S7 : Same H (upd H5 p5 (.lst (ys.drop 1))) := S5.trans S6
  generalize upd H5 p5 (.lst (ys.drop 1)) = G at S6 hy6 hp6 hT S7
  generalize chn trs lo hi = ch at hT hz k
  refine ⟨Da, p5, rfl, ⟨_, .of hy6⟩, ⟨_, .of hp6⟩, for_zip (xs := ys) (ys := ys.drop 1) (fun i σ H' => Same G H' ∧ ∃ fv z3 z4 z5, σ = [some (.ref c), some (.ref Da), some fv, z3, z4, z5] ∧ TrAt H' fv (((ch.zip ch.tail).take i).foldl stepS none) ∧ ∀ u, ((ch.zip ch.tail).take i).foldl stepS none = some u → Bd 4001 u.1 ∧ Bd 4001 u.2)
    ⟨Same.refl _, .non, _, _, _, rfl, rfl, fun u e => by cases e⟩ (fun i σ H' ⟨s', _⟩ => ⟨.of (s' _ _ hy6), .of (s' _ _ hp6)⟩) ?_ ?_⟩
  · rintro i x y σ H' T' hx hy' ⟨s', fv, z3, z4, z5, rfl, hfv, hsz⟩ hT'
    obtain ⟨t1, et1, a1, rfl, ha1⟩ := hT.2 i x hx
    rw [List.getElem?_drop] at hy'
    obtain ⟨t2, et2, a2, rfl, ha2⟩ := hT.2 _ y hy'
    have S8 : Same G (upd H' T' (.tup [.ref a1, .ref a2])) := s'.trans (Same.upd hT')
    have hfv' := hfv.keeps (.of (Same.upd (o := .tup [.ref a1, .ref a2]) hT'))
    have hTT : upd H' T' (.tup [.ref a1, .ref a2]) T' = some (.tup [.ref a1, .ref a2]) := upd_same
    generalize upd H' T' (.tup [.ref a1, .ref a2]) = G2 at S8 hfv' hTT
    have b1 := hz t1 (List.mem_of_getElem? et1)
    have b2 := hz t2 (List.mem_of_getElem? et2)
    have ez : (ch.zip ch.tail)[i]? = some (t1, t2) := by
      rw [List.getElem?_zip_eq_some]
      refine ⟨et1, ?_⟩
      rw [← List.drop_one, List.getElem?_drop]; exact et2
    have ef : ((ch.zip ch.tail).take (i + 1)).foldl stepS none = stepS (((ch.zip ch.tail).take i).foldl stepS none) (t1, t2) := by
      rw [List.take_add_one, ez]; simp [List.foldl_append]
    rw [ef]
    generalize ((ch.zip ch.tail).take i).foldl stepS none = fo at hfv hfv' hsz
    refine ⟨T', _, rfl, .of hTT, rfl, _, _, rfl, _, _, rfl, rfl, ?_⟩
    have ga1 := S8 _ _ ha1
    have ga2 := S8 _ _ ha2
    refine ⟨_, rfl, a1, _, _, _, rfl, rfl, .of ga1, at1 .., _, rfl, a2, _, _, _, rfl, rfl, .of ga2, at1 .., _, _, rfl, rfl, _, rfl, ite2 (fun h => ?_) (fun h => ?_)⟩
    · have h' : t2.2 < t1.2 := of_decide_eq_true h
      refine ⟨_, rfl, a2, _, _, _, rfl, rfl, .of ga2, at0 .., _, rfl, a1, _, _, _, rfl, rfl, .of ga1, at0 .., _, _, rfl, rfl, _, rfl, a1, _, _, _, rfl, rfl, .of ga1, at1 .., _, rfl, a2, _, _, _, rfl, rfl, .of ga2, at1 .., _, _, rfl, rfl, by show 2 ≤ sizeLine; decide, fun tp htp => ?_⟩
      have d1 := bd_sub b2.1 b1.1
      have d2 := bd_sub b1.2 b2.2
      refine ⟨_, rfl, rfl, _, rfl, ?_⟩
      cases fo with
      | none =>
        have e : fv = .non := hfv
        subst e
        refine iteT ⟨_, rfl, ⟨S8.trans (Same.upd htp), .ref tp, _, _, _, rfl, ?_, ?_⟩⟩
        · rw [stepS_n h']; exact ⟨tp, rfl, upd_same⟩
        · rw [stepS_n h']; intro u eu; cases eu; exact ⟨d1, d2⟩
      | some u =>
        obtain ⟨af, rfl, haf⟩ := hfv'
        have bu := hsz u rfl
        refine iteF ?_
        refine ⟨_, rfl, _, rfl, tp, af, _, _, _, _, rfl, upd_same, Same.upd htp _ _ haf, d1.mono (by decide), d2.mono (by decide), bu.1.mono (by decide), bu.2.mono (by decide), _, rfl, ite2 (fun hh => ?_) (fun hh => ?_)⟩
        · have es' : stepS (some u) (t1, t2) = some (t2.1 - t1.1, t1.2 - t2.2) := (stepS_s h').trans (if_pos (of_decide_eq_true hh))
          refine ⟨_, rfl, ⟨S8.trans (Same.upd htp), .ref tp, _, _, _, rfl, ?_, ?_⟩⟩
          · rw [es']; exact ⟨tp, rfl, upd_same⟩
          · rw [es']; intro u eu; cases eu; exact ⟨d1, d2⟩
        · have es' : stepS (some u) (t1, t2) = some u := (stepS_s h').trans (if_neg fun z => hh (decide_eq_true z))
          refine ⟨S8.trans (Same.upd htp), .ref af, _, _, _, rfl, ?_, ?_⟩
          · rw [es']; exact ⟨af, rfl, Same.upd htp _ _ haf⟩
          · rw [es']; exact hsz
    · have es : stepS fo (t1, t2) = fo := if_neg fun z => h (decide_eq_true z)
      refine ⟨S8, fv, _, _, _, rfl, ?_, ?_⟩
      · rw [es]; exact hfv'
      · rw [es]; exact hsz
  · rintro σ H' ⟨s', fv, z3, z4, z5, rfl, hfv, hsz⟩
    refine ⟨_, rfl, k _ _ (S7.trans s') ?_⟩
    have e : (ch.zip ch.tail).take (min ys.length (ys.drop 1).length) = ch.zip ch.tail := List.take_of_length_le (by rw [List.length_zip, List.length_drop, List.length_tail, hT.1]; omega)
    rw [e] at hfv
    exact hfv
end
end KQ
end
section
set_option maxHeartbeats 4000000
set_option Elab.async false
set_option linter.all false
set_option maxRecDepth 100000
namespace KQ
open PySem L2 KM KK
theorem upd_id {H : Hp} {a : Addr} {o : HO} (h : H a = some o) : upd H a o = H := by
  funext b
  by_cases e : b = a
  · subst e; rw [upd_same]; exact h.symm
  · rw [upd_ne e]
section
variable {P : Program} {w : World} {K : PySem.W.Frag} {mg : Str → Option Value} {base : Heap} {C0 : Addr}
def spIn (C : Addr) : Sp := fun vs H Q _ => ∃ a y, vs = [.ref a, y] ∧ H a = some (XO a C none) ∧ ∀ dx, H dx = none → Q .non (upd (upd H dx (.xd [("moment", y)])) a (XO a C (some dx)))
theorem sc_in11 : FnScope ["self", "moment"] ["self", "moment"] (defScope s_shut_init) := ⟨rfl, rfl, rfl, by decide +kernel, rfl, by decide +kernel, by decide +kernel⟩
theorem ok_in11 {C f : Addr} {fd : FuncData} {mc : Value} {cd : ClassData} (F : Fun K "__init__" "Shut.__init__" s_shut_init f fd) (U : XUp K C0 mc) (hm : mg "ClackError" = some (.ref C0)) (B : XB base C) (S : XSet K C cd) (n : NoAttr K C "moment") : FnOk P w K mg base CX0 1 f fd ["self", "moment"] (spIn C) := by
  refine F.ok (k := 0) sc_in11 (fun vs H Q E h => by obtain ⟨_, _, rfl, _⟩ := h; rfl) (fun cdv A outer s H vs Q E hr h => ?_)
  obtain ⟨a, y, rfl, ea, k⟩ := h
  refine ⟨_, pss_cons (ps_expr (pe_xi U hm (pa_cons (pv 0) (pa_cons pe_str pa_nil)))) (pss_one (ps_xf (pv 0) (pv 1) rfl)), ?_⟩
  refine ⟨_, rfl, a, C, _, rfl, ea, B, ?_⟩
  rw [upd_id ea]
  exact ⟨_, rfl, _, rfl, a, C, cd, rfl, ea, S, n, k⟩
def momT (tk : Rat) (t : Int × Int) : Rat := Rat.divInt (t.1 * tk.num) (t.2 * (tk.den : Int))
def spFT (C CS : Addr) : Sp := fun vs H Q E => ∃ c pb sb tk ws trs lo hi wa v1 v2 wlo whi, vs = [V.ref c, .ref wa] ∧ CoAt H C c pb sb tk ws trs lo hi ∧ trs.length ≤ 8 ∧ (∀ t ∈ chn trs lo hi, Bd 4000 t.1 ∧ Bd 4000 t.2) ∧ Sz 4400 tk ∧
  H wa = some (.tup [v1, v2]) ∧ WlAt H v1 wlo ∧ WlAt H v2 whi ∧ (∀ t, wlo = some t → Sz 400 t.1 ∧ Sz 400 t.2) ∧ (∀ t, whi = some t → Sz 400 t.1 ∧ Sz 400 t.2) ∧
  (∀ H', Same H H' → soon (chn trs lo hi) = none → Q .non H') ∧
  (∀ v t H', Same H H' → soon (chn trs lo hi) = some t → shutM wlo whi ≠ some (momT tk t) → TrAt H' v (some t) → Q v H') ∧
  (∀ t p dx H', Same H H' → soon (chn trs lo hi) = some t → shutM wlo whi = some (momT tk t) → H' dx = some (.xd [("moment", .ref p)]) → RatAt H' p (momT tk t) → E (.ref CS) (some dx) H')
theorem sc_ft : FnScope ["course", "walls", "ticks", "shut"] ["course", "walls"] (defScope s_first_ticks) := ⟨rfl, rfl, rfl, by decide +kernel, rfl, by decide +kernel, by decide +kernel⟩
theorem soon_pos : ∀ {l : List ((Int × Int) × (Int × Int))} {f : Option (Int × Int)}, (∀ u, f = some u → 0 < u.2) → (∀ u, l.foldl stepS f = some u → 0 < u.2)
  | [], _, h => h
  | p :: l, f, h => by
    refine soon_pos (l := l) (f := stepS f p) fun u hu => ?_
    unfold stepS at hu
    split at hu
    · split at hu
      · cases hu; show 0 < _; omega
      · split at hu
        · cases hu; show 0 < _; omega
        · exact h u hu
    · exact h u hu
theorem soon_bd : ∀ {l : List ((Int × Int) × (Int × Int))} {f : Option (Int × Int)}, (∀ p ∈ l, (Bd 4000 p.1.1 ∧ Bd 4000 p.1.2) ∧ Bd 4000 p.2.1 ∧ Bd 4000 p.2.2) → (∀ u, f = some u → Bd 4001 u.1 ∧ Bd 4001 u.2) → (∀ u, l.foldl stepS f = some u → Bd 4001 u.1 ∧ Bd 4001 u.2)
  | [], _, _, h => h
  | p :: l, f, hp, h => by
    have z := hp p List.mem_cons_self
    refine soon_bd (l := l) (f := stepS f p) (fun x hx => hp x (List.mem_cons_of_mem _ hx)) fun u hu => ?_
    have d : Bd 4001 (p.2.1 - p.1.1) ∧ Bd 4001 (p.1.2 - p.2.2) := ⟨bd_sub z.2.1 z.1.1, bd_sub z.1.2 z.2.2⟩
    unfold stepS at hu
    split at hu
    · split at hu
      · cases hu; exact d
      · split at hu
        · cases hu; exact d
        · exact h u hu
    · exact h u hu
theorem soon_ok {ch : List (Int × Int)} (hz : ∀ t ∈ ch, Bd 4000 t.1 ∧ Bd 4000 t.2) {t : Int × Int} (h : soon ch = some t) : 0 < t.2 ∧ Bd 4001 t.1 ∧ Bd 4001 t.2 := by
  refine ⟨soon_pos (fun u e => by cases e) t h, soon_bd (fun p hp => ?_) (fun u e => by cases e) t h⟩
  have z := List.of_mem_zip hp
  exact ⟨hz _ z.1, hz _ (List.mem_of_mem_tail z.2)⟩
theorem ok_ft {C CS f11 : Addr} {fd11 : FuncData} (D : Df K mg "first_ticks" s_first_ticks ["course", "walls"] []) (TC : TCo K C) (cSo : Cal P w K mg base "soonest" 2 ["course"] [] (spSo C)) (cSh : Cal P w K mg base "shut_moment" 4 ["walls"] [] spSh)
    (cMo : Cal P w K mg base "moment_of" 3 ["course", "ticks"] [] (spMo C)) (XM : XMk K base CS f11) (F11 : FnOk P w K mg base CX0 1 f11 fd11 ["self", "moment"] (spIn CS)) (hmS : mg "Shut" = some (.ref CS)) (B11 : Binds K fd11 ["self", "moment"] []) :
    Cal1 P w K mg base "first_ticks" 5 ["course", "walls"] [] (spFT C CS) := by
  refine D.cal1 (k := 4) sc_ft (fun vs H Q E h => by obtain ⟨_, _, _, _, _, _, _, _, _, _, _, _, _, rfl, _⟩ := h; rfl) (fun f cdv A outer s H vs Q E hr h => ?_)
  obtain ⟨c, pb, sb, tk, ws, trs, lo, hi, wa, v1, v2, wlo, whi, rfl, hco, hl, hz, htk, hw, h1, h2, z1, z2, k1, k2, k3⟩ := h
  have hr2 : Room 2 _ := hr.mono (by decide)
  have hr3 : Room 3 _ := hr.mono (by decide)
  have hu := hr.units
  refine ⟨_, (pss_cons (ps_set (i := 2) sc_ft.nd rfl (Or.inl rfl) (pe_c cSo hr2 (pa_cons (pv 0) pa_nil)))
    (pss_cons (ps_if (pt_cmpR op_isN (pv 2) pe_non (nomark _)) (pss_one (ps_ret pe_non)) pss_nil)
    (pss_cons (ps_set (i := 3) sc_ft.nd rfl (Or.inl rfl) (pe_c cSh hr (pa_cons (pv 1) pa_nil)))
    (pss_cons (ps_if ((pw_and (pt_cmpR op_notN (pv 3) pe_non (nomark _)) (pw_and1 (pt_cmpR (op_eqD hu) (pv 3) (pe_c cMo hr3 (pa_cons (pv 0) (pa_cons (pv 2) pa_nil))) (nomark _))))).pt (pss_one (ps_raiseX XM F11 hr2 hmS B11 hr.hd bearsMade_def (pa_cons (pv 3) pa_nil))) pss_nil)
    (pss_one (ps_ret (pv 2))))))), ?_⟩
  refine ⟨_, rfl, c, pb, sb, tk, ws, trs, lo, hi, rfl, hco, hl, hz, fun tv H1 s1 htv => ?_⟩
  dsimp only [gName]
  refine ⟨_, rfl, rfl, _, rfl, ?_⟩
  cases es : soon (chn trs lo hi) with
  | none =>
    rw [es] at htv
    have e : tv = .non := htv
    subst e
    exact iteT (k1 H1 s1 es)
  | some t =>
    rw [es] at htv
    obtain ⟨ta, rfl, hta⟩ := htv
    refine iteF ?_
    refine ⟨_, rfl, wa, v1, v2, wlo, whi, rfl, s1 _ _ hw, h1.keeps (.of s1), h2.keeps (.of s1), z1, z2, fun sv H2 s2 hsv => ?_⟩
    have so := soon_ok hz es
    obtain ⟨dx, fs, hc, Fc⟩ := hco
    obtain ⟨tp, etp, htp⟩ := Fc.tick
    dsimp only [gName]
    refine ⟨_, rfl, rfl, _, rfl, ?_⟩
    cases em : shutM wlo whi with
    | none =>
      rw [em] at hsv
      have e : sv = .non := hsv
      subst e
      refine iteF ⟨_, rfl, k2 _ t H2 (s1.trans s2) es (by rw [em]; intro z; cases z) ⟨ta, rfl, s2 _ _ hta⟩⟩
    | some q =>
      rw [em] at hsv
      obtain ⟨sa, rfl, hsa⟩ := hsv
      refine iteT ?_
      refine ⟨_, rfl, _, rfl, _, rfl, c, ta, dx, fs, tp, tk, t.1, t.2, rfl, s2 _ _ (s1 _ _ hc), etp, s2 _ _ (s1 _ _ htp), s2 _ _ hta, by omega, so.2.1.mono (by decide), so.2.2.mono (by decide), htk, fun mr H3 s3 hmr => ?_⟩
      refine ⟨_, _, (hsa.same s3).rd, hmr.rd, shaped_rp _, shaped_rp _, _, rfl, ?_⟩
      rw [eqv_rp]
      by_cases e : q = momT tk t
      · rw [decide_eq_true (show q = Rat.divInt (t.1 * tk.num) (t.2 * (tk.den : Int)) from e)]
        refine iteT ?_
        refine ⟨_, rfl, by show 1 ≤ sizeLine; decide, fun p hp => ⟨p, _, rfl, upd_same, fun d hd => ⟨rfl, some d, upd_same, ?_⟩⟩⟩
        have hdp : d ≠ p := fun z => by subst z; rw [upd_same] at hd; cases hd
        have hd3 : H3 d = none := by rw [upd_ne hdp] at hd; exact hd
        have eG : ∀ b, b ≠ p → b ≠ d → del1 p (upd (upd (upd H3 p (XO p CS none)) d (.xd [("moment", .ref sa)])) p (XO p CS (some d))) b = H3 b := fun b hb hb2 => by
          rw [del1_ne hb, upd_ne hb, upd_ne hb2, upd_ne hb]
        have SG : Same H3 (del1 p (upd (upd (upd H3 p (XO p CS none)) d (.xd [("moment", .ref sa)])) p (XO p CS (some d)))) := fun b o eb => by
          rw [eG b (ne_of_none eb hp) (ne_of_none eb hd3)]; exact eb
        refine k3 t sa d _ (s1.trans (s2.trans (s3.trans SG))) es (by rw [em, e]) ?_ ?_
        · rw [del1_ne hdp, upd_ne hdp, upd_same]
        · rw [← e]; exact SG _ _ (s3 _ _ hsa)
      · rw [decide_eq_false (show ¬ q = Rat.divInt (t.1 * tk.num) (t.2 * (tk.den : Int)) from e)]
        refine iteF ⟨_, rfl, k2 _ t H3 (s1.trans (s2.trans s3)) es (by rw [em]; intro z; cases z; exact e rfl) ⟨ta, rfl, s3 _ _ (s2 _ _ hta)⟩⟩
end
end KQ
end
section
set_option maxHeartbeats 4000000
set_option Elab.async false
set_option linter.all false
set_option maxRecDepth 100000
namespace KQ
open PySem L2 KM KK
def tkO (bs : List Bl) (lo hi : Option (Rat × Rat)) : Rat := Rat.divInt (sbO bs lo hi) (pbO bs lo hi)
def trO (bs : List Bl) (lo hi : Option (Rat × Rat)) : List (Int × Int) := bs.map fun b => trB (pbO bs lo hi) (sbO bs lo hi) (b.pl, b.sp)
def chO (bs : List Bl) (lo hi : Option (Rat × Rat)) : List (Int × Int) := chn (trO bs lo hi) (lo.map (trB (pbO bs lo hi) (sbO bs lo hi))) (hi.map (trB (pbO bs lo hi) (sbO bs lo hi)))
structure In (H : Hp) (r wa : Addr) (bs : List Bl) (lo hi : Option (Rat × Rat)) : Prop where
  row : ∃ us, H r = some (.tup us) ∧ RowI H us bs
  walls : ∃ v1 v2, H wa = some (.tup [v1, v2]) ∧ WlAt H v1 lo ∧ WlAt H v2 hi
  len : bs.length ≤ 8
  sz : ∀ t ∈ ths bs lo hi, Sz 400 t.1 ∧ Sz 400 t.2
  bd : ∀ t ∈ chO bs lo hi, Bd 4000 t.1 ∧ Bd 4000 t.2
  tk : Sz 4400 (tkO bs lo hi)
theorem In.lo {H : Hp} {r wa : Addr} {bs : List Bl} {lo hi : Option (Rat × Rat)} (I : In H r wa bs lo hi) : ∀ t, lo = some t → Sz 400 t.1 ∧ Sz 400 t.2 := fun t e => I.sz t (by unfold ths; rw [e]; simp [oneT])
theorem In.hi {H : Hp} {r wa : Addr} {bs : List Bl} {lo hi : Option (Rat × Rat)} (I : In H r wa bs lo hi) : ∀ t, hi = some t → Sz 400 t.1 ∧ Sz 400 t.2 := fun t e => I.sz t (by unfold ths; rw [e]; simp [oneT])
end KQ
end
section
set_option maxHeartbeats 4000000
set_option Elab.async false
set_option linter.all false
set_option maxRecDepth 100000
namespace KQ
open PySem L2 KM KK
section
variable {P : Program} {w : World} {K : PySem.W.Frag} {mg : Str → Option Value} {base : Heap}
def spotI (l t : Int × Int) : Int := l.1 * t.2 + l.2 * t.1
def BdP (n : Nat) (t : Int × Int) : Prop := Bd n t.1 ∧ Bd n t.2
def spSp : Sp := fun vs H Q _ => ∃ a b l t, vs = [V.ref a, .ref b] ∧ H a = some (.tup [.int l.1, .int l.2]) ∧ H b = some (.tup [.int t.1, .int t.2]) ∧ BdP 4400 l ∧ BdP 4400 t ∧ Q (.int (spotI l t)) H
theorem sc_sp : FnScope ["track", "ticks"] ["track", "ticks"] (defScope s_spot_at) := ⟨rfl, rfl, rfl, by decide +kernel, rfl, by decide +kernel, by decide +kernel⟩
theorem ok_sp (D : Df K mg "spot_at" s_spot_at ["track", "ticks"] []) : Cal P w K mg base "spot_at" 1 ["track", "ticks"] [] spSp := by
  refine D.cal (k := 0) sc_sp (fun vs H Q E h => by obtain ⟨_, _, _, _, rfl, _⟩ := h; rfl) (fun f cdv A outer s H vs Q E hr h => ?_)
  obtain ⟨a, b, l, t, rfl, ha, hb, zl, zt, k⟩ := h
  refine ⟨_, (pss_one (ps_ret (pe_op op_add (pe_op op_mulB (pe_ix ix_tup (pv 0) pe_int (fun _ _ => rfl)) (pe_ix ix_tup (pv 1) pe_int (fun _ _ => rfl))) (pe_op op_mulB (pe_ix ix_tup (pv 0) pe_int (fun _ _ => rfl)) (pe_ix ix_tup (pv 1) pe_int (fun _ _ => rfl)))))), ?_⟩
  exact ⟨_, rfl, a, _, _, _, rfl, rfl, .of ha, at0 .., _, rfl, b, _, _, _, rfl, rfl, .of hb, at1 .., _, _, rfl, rfl, ⟨zl.1.mono (by decide), zt.2.mono (by decide)⟩, _, rfl, a, _, _, _, rfl, rfl, .of ha, at1 .., _, rfl, b, _, _, _, rfl, rfl, .of hb, at0 .., _, _, rfl, rfl, ⟨zl.2.mono (by decide), zt.1.mono (by decide)⟩, _, _, rfl, rfl, k⟩
def atS (w : Option (Int × Int)) (t : Int × Int) (s : Int) : Bool := match w with
  | none => false
  | some l => decide (s = spotI l t)
def sideS (lo hi : Option (Int × Int)) (t : Int × Int) (s : Int) : Str := if atS lo t s then "low" else if atS hi t s then "high" else ""
def spSi (C : Addr) : Sp := fun vs H Q _ => ∃ c b pb sb tk ws trs lo hi s t, vs = [V.ref c, .int s, .ref b] ∧ CoAt H C c pb sb tk ws trs lo hi ∧ H b = some (.tup [.int t.1, .int t.2]) ∧ BdP 4400 t ∧ (∀ l, lo = some l → BdP 4400 l) ∧ (∀ l, hi = some l → BdP 4400 l) ∧ Q (.str (sideS lo hi t s)) H
theorem sc_si : FnScope ["course", "spot", "ticks"] ["course", "spot", "ticks"] (defScope s_side_at) := ⟨rfl, rfl, rfl, by decide +kernel, rfl, by decide +kernel, by decide +kernel⟩
theorem ok_si {C : Addr} (D : Df K mg "side_at" s_side_at ["course", "spot", "ticks"] []) (TC : TCo K C) (cSp : Cal P w K mg base "spot_at" 1 ["track", "ticks"] [] spSp) : Cal P w K mg base "side_at" 2 ["course", "spot", "ticks"] [] (spSi C) := by
  refine D.cal (k := 1) sc_si (fun vs H Q E h => by obtain ⟨_, _, _, _, _, _, _, _, _, _, _, rfl, _⟩ := h; rfl) (fun f cdv A outer s H vs Q E hr h => ?_)
  obtain ⟨c, b, pb, sb, tk, ws, trs, lo, hi, sp, t, rfl, ⟨dx, fs, hc, F⟩, hb, zt, zlo, zhi, k⟩ := h
  obtain ⟨lv, e2, hlv⟩ := F.low
  obtain ⟨hv, e3, hhv⟩ := F.high
  refine ⟨_, (pss_cons (ps_if ((pw_and (pt_cmpR op_notN (pe_fld (pv 0) rfl) pe_non (nomark _)) (pw_and1 (pt_cmpR op_eq (pv 1) (pe_c cSp hr (pa_cons (pe_fld (pv 0) rfl) (pa_cons (pv 2) pa_nil))) (nomark _))))).pt (pss_one (ps_ret pe_str)) pss_nil)
    (pss_cons (ps_if ((pw_and (pt_cmpR op_notN (pe_fld (pv 0) rfl) pe_non (nomark _)) (pw_and1 (pt_cmpR op_eq (pv 1) (pe_c cSp hr (pa_cons (pe_fld (pv 0) rfl) (pa_cons (pv 2) pa_nil))) (nomark _))))).pt (pss_one (ps_ret pe_str)) pss_nil)
    (pss_one (ps_ret pe_str)))), ?_⟩
  refine ⟨_, rfl, c, C, dx, fs, lv, rfl, hc, TC.cls, TC.low, e2, rfl, _, rfl, ?_⟩
  cases elo : lo with
  | none =>
    subst elo
    have e : lv = .non := hlv
    subst e
    have e0 : atS none t sp = false := rfl
    generalize hlo : (none : Option (Int × Int)) = lo at e0 k
    refine iteF ?_
    refine ⟨_, rfl, c, C, dx, fs, hv, rfl, hc, TC.cls, TC.high, e3, rfl, _, rfl, ?_⟩
    cases hi with
    | none =>
      have e : hv = .non := hhv
      subst e
      refine iteF ?_
      have es : sideS lo none t sp = "" := by unfold sideS; rw [if_neg (by rw [e0]; simp)]; rfl
      rw [es] at k; exact k
    | some h =>
      obtain ⟨ah, rfl, hah⟩ := hhv
      refine iteT ?_
      refine ⟨_, rfl, _, rfl, c, C, dx, fs, _, rfl, hc, TC.cls, TC.high, e3, _, rfl, ah, b, h, t, rfl, hah, hb, zhi h rfl, zt, rfl, _, rfl, ite2 (fun hh => ?_) (fun hh => ?_)⟩
      · have e' : sp = spotI h t := by have := of_decide_eq_true hh; injection this
        have es : sideS lo (some h) t sp = "high" := by unfold sideS; rw [if_neg (by rw [e0]; simp), if_pos (show atS (some h) t sp = true from decide_eq_true e')]
        rw [es] at k; exact k
      · have e' : ¬ sp = spotI h t := fun z => hh (decide_eq_true (by rw [z]))
        have es : sideS lo (some h) t sp = "" := by unfold sideS; rw [if_neg (by rw [e0]; simp), if_neg (show ¬ atS (some h) t sp = true from fun z => e' (of_decide_eq_true z))]
        rw [es] at k; exact k
  | some l =>
    subst elo
    obtain ⟨al, rfl, hal⟩ := hlv
    refine iteT ?_
    refine ⟨_, rfl, _, rfl, c, C, dx, fs, _, rfl, hc, TC.cls, TC.low, e2, _, rfl, al, b, l, t, rfl, hal, hb, zlo l rfl, zt, rfl, _, rfl, ite2 (fun hh => ?_) (fun hh => ?_)⟩
    · have e' : sp = spotI l t := by have := of_decide_eq_true hh; injection this
      have es : sideS (some l) hi t sp = "low" := by unfold sideS; rw [if_pos (show atS (some l) t sp = true from decide_eq_true e')]
      rw [es] at k; exact k
    · have e' : ¬ sp = spotI l t := fun z => hh (decide_eq_true (by rw [z]))
      have e0 : atS (some l) t sp = false := decide_eq_false e'
      generalize hlo : some l = lo at e0 k
      refine ⟨_, rfl, c, C, dx, fs, hv, rfl, hc, TC.cls, TC.high, e3, rfl, _, rfl, ?_⟩
      cases hi with
      | none =>
        have e : hv = .non := hhv
        subst e
        refine iteF ?_
        have es : sideS lo none t sp = "" := by unfold sideS; rw [if_neg (by rw [e0]; simp)]; rfl
        rw [es] at k; exact k
      | some h =>
        obtain ⟨ah, rfl, hah⟩ := hhv
        refine iteT ?_
        refine ⟨_, rfl, _, rfl, c, C, dx, fs, _, rfl, hc, TC.cls, TC.high, e3, _, rfl, ah, b, h, t, rfl, hah, hb, zhi h rfl, zt, rfl, _, rfl, ite2 (fun hh => ?_) (fun hh => ?_)⟩
        · have e' : sp = spotI h t := by have := of_decide_eq_true hh; injection this
          have es : sideS lo (some h) t sp = "high" := by unfold sideS; rw [if_neg (by rw [e0]; simp), if_pos (show atS (some h) t sp = true from decide_eq_true e')]
          rw [es] at k; exact k
        · have e' : ¬ sp = spotI h t := fun z => hh (decide_eq_true (by rw [z]))
          have es : sideS lo (some h) t sp = "" := by unfold sideS; rw [if_neg (by rw [e0]; simp), if_neg (show ¬ atS (some h) t sp = true from fun z => e' (of_decide_eq_true z))]
          rw [es] at k; exact k
end
end KQ
end
section
set_option maxHeartbeats 4000000
set_option Elab.async false
set_option linter.all false
set_option maxRecDepth 100000
namespace L2
open PySem PySem.Spec PyProof.Rows
theorem if_bool {tc : TT} {ta tb : TS} {D : Ends} {σ : St} {H : Hp} (R : Hp → Prop) (c : Bool) (h1 : ∀ (Q' : Bool → Hp → Prop), (∀ H', R H' → Q' c H') → tc σ H Q') (ha : c = true → ∀ H', R H' → ta D σ H') (hb : c = false → ∀ H', R H' → tb D σ H') : tIfS tc ta tb D σ H := h1 _ fun H' r => by
  cases c with
  | true => exact iteT (ha rfl H' r)
  | false => exact iteF (hb rfl H' r)
theorem if_boolS {tc : TT} {ta tb u : TS} {D : Ends} {σ : St} {H : Hp} (R : Hp → Prop) (c : Bool) (h1 : ∀ (Q' : Bool → Hp → Prop), (∀ H', R H' → Q' c H') → tc σ H Q') (ha : c = true → ∀ H', R H' → ta { D with nx := u D } σ H') (hb : c = false → ∀ H', R H' → tb { D with nx := u D } σ H') : tSeq (tIfS tc ta tb) u D σ H := if_bool (D := { D with nx := u D }) R c h1 ha hb
end L2
namespace KQ
open PySem L2 KM KK
section
variable {P : Program} {w : World} {K : PySem.W.Frag} {mg : Str → Option Value} {base : Heap}
def wallS (wh : Str) (lo hi : Option (Int × Int)) : Option (Int × Int) := if wh = "" then none else if wh = "low" then lo else hi
def spWo (C : Addr) : Sp := fun vs H Q _ => ∃ c pb sb tk ws trs lo hi wh, vs = [V.ref c, .str wh] ∧ CoAt H C c pb sb tk ws trs lo hi ∧ ∀ v, TrAt H v (wallS wh lo hi) → Q v H
theorem sc_wo : FnScope ["course", "where"] ["course", "where"] (defScope s_wall_of) := ⟨rfl, rfl, rfl, by decide +kernel, rfl, by decide +kernel, by decide +kernel⟩
theorem ok_wo {C : Addr} (D : Df K mg "wall_of" s_wall_of ["course", "where"] []) (TC : TCo K C) : Cal P w K mg base "wall_of" 1 ["course", "where"] [] (spWo C) := by
  refine D.cal (k := 0) sc_wo (fun vs H Q E h => by obtain ⟨_, _, _, _, _, _, _, _, _, rfl, _⟩ := h; rfl) (fun f cdv A outer s H vs Q E hr h => ?_)
  obtain ⟨c, pb, sb, tk, ws, trs, lo, hi, wh, rfl, ⟨dx, fs, hc, F⟩, k⟩ := h
  obtain ⟨lv, e2, hlv⟩ := F.low
  obtain ⟨hv, e3, hhv⟩ := F.high
  refine ⟨_, (pss_cons (ps_if (pt_cmpR op_eq (pv 1) pe_str (nomark _)) (pss_one (ps_ret pe_non)) pss_nil)
    (pss_one (ps_ret (pe_ifExp (pt_cmpR op_eq (pv 1) pe_str (nomark _)) (pe_fld (pv 0) rfl) (pe_fld (pv 0) rfl))))), ?_⟩
  refine ⟨_, rfl, rfl, _, rfl, ite2 (fun h => ?_) (fun h => ?_)⟩
  · have e : wh = "" := by have := of_decide_eq_true h; injection this
    exact k _ (by unfold wallS; rw [if_pos e]; exact rfl)
  · have n : ¬ wh = "" := fun z => h (decide_eq_true (by rw [z]))
    refine ⟨_, rfl, rfl, _, rfl, ite2 (fun h => ?_) (fun h => ?_)⟩
    · have e : wh = "low" := by have := of_decide_eq_true h; injection this
      exact ⟨_, rfl, c, C, dx, fs, lv, rfl, hc, TC.cls, TC.low, e2, k _ (by unfold wallS; rw [if_neg n, if_pos e]; exact hlv)⟩
    · have n2 : ¬ wh = "low" := fun z => h (decide_eq_true (by rw [z]))
      exact ⟨_, rfl, c, C, dx, fs, hv, rfl, hc, TC.cls, TC.high, e3, k _ (by unfold wallS; rw [if_neg n, if_neg n2]; exact hhv)⟩
def cwN (trs : List (Int × Int)) (w : Option (Int × Int)) (a b : Nat) : Nat := match w with
  | none => 0
  | some u => (((trs.drop a).take (b + 1 - a)).filter fun t => decide (t.2 ≠ u.2)).length
def spCw (C : Addr) : Sp := fun vs H Q _ => ∃ (c g : Addr) (pb sb : Int) (tk : Rat) (ws : List Int) (trs : List (Int × Int)) (lo hi : Option (Int × Int)) (a b : Nat) (wh : Str), vs = [V.ref c, .ref g] ∧ CoAt H C c pb sb tk ws trs lo hi ∧ trs.length ≤ 8 ∧ a ≤ b ∧ b < trs.length ∧ H g = some (.tup [.int (a : Int), .int (b : Int), .str wh]) ∧ ∀ H', Same H H' → Q (.int (cwN trs (wallS wh lo hi) a b : Nat)) H'
theorem sc_cw : FnScope ["course", "group", "first", "last", "where", "wall"] ["course", "group"] (defScope s_came_to_wall) := ⟨rfl, rfl, rfl, by decide +kernel, rfl, by decide +kernel, by decide +kernel⟩
theorem mem_cut {xs : List V} {lo hi : Option Int} {v : V} (h : v ∈ cutV xs lo hi) : v ∈ xs := List.mem_of_mem_drop (List.mem_of_mem_take h)
def offV (H : Hp) (s : Int) (v : V) : Bool := match v with
  | .ref a => (match H a with | some (.tup [_, .int y]) => decide (y ≠ s) | _ => false)
  | _ => false
theorem off_len {H : Hp} {s : Int} : ∀ {vs : List V} {ts : List (Int × Int)}, vs.length = ts.length → (∀ (i : Nat) (v : V), vs[i]? = some v → ∃ t, ts[i]? = some t ∧ TrAt H v (some t)) → (vs.filter (offV H s)).length = (ts.filter fun t => decide (t.2 ≠ s)).length
  | [], [], _, _ => rfl
  | [], _ :: _, h, _ => by simp at h
  | _ :: _, [], h, _ => by simp at h
  | v :: vs, t :: ts, h, k => by
    obtain ⟨t', e, a, rfl, ha⟩ := k 0 v rfl
    cases e
    have ih := off_len (H := H) (s := s) (vs := vs) (ts := ts) (by simpa using h) fun i v e => k (i + 1) v (by simpa using e)
    have e1 : offV H s (.ref a) = decide (t.2 ≠ s) := by unfold offV; dsimp only; rw [ha]
    rw [List.filter_cons, List.filter_cons, e1]
    by_cases c : t.2 ≠ s
    · rw [if_pos (decide_eq_true c), if_pos (decide_eq_true c), List.length_cons, List.length_cons, ih]
    · rw [decide_eq_false c, if_neg (by simp), if_neg (by simp), ih]
theorem cut_ab {α : Type} {xs : List α} {a b : Nat} (hb : b < xs.length) : cutG xs (some (a : Int)) (some ((b : Int) + 1)) = (xs.drop a).take (b + 1 - a) := by
  unfold cutG
  rw [show ((b : Int) + 1) = ((b + 1 : Nat) : Int) from rfl, HT.sIx_nat, HT.sIx_nat]
  rw [Nat.min_eq_left (by omega : b + 1 ≤ xs.length)]
  rcases Nat.le_total a xs.length with h | h
  · rw [Nat.min_eq_left h]
  · rw [Nat.min_eq_right h, List.drop_of_length_le h, List.drop_of_length_le (Nat.le_refl _)]; simp
theorem ok_cw {C : Addr} (D : Df K mg "came_to_wall" s_came_to_wall ["course", "group"] []) (T : TxQ K mg) (TC : TCo K C) (cW : Cal P w K mg base "wall_of" 1 ["course", "where"] [] (spWo C)) : Cal P w K mg base "came_to_wall" 2 ["course", "group"] [] (spCw C) := by
  refine D.cal (k := 1) sc_cw (fun vs H Q E h => by obtain ⟨_, _, _, _, _, _, _, _, _, _, _, _, rfl, _⟩ := h; rfl) (fun f cdv A outer s H vs Q E hr h => ?_)
  obtain ⟨c, g, pb, sb, tk, ws, trs, lo, hi, a, b, wh, rfl, hco, hl, hab, hbl, hg, k⟩ := h
  refine ⟨_, (pss_cons (ps_asg (pv 1) (pg_tup rfl (pgs_cons (pg_name (i := 2) sc_cw.nd rfl (Or.inl rfl)) (pgs_cons (pg_name (i := 3) sc_cw.nd rfl (Or.inl rfl)) (pgs_cons (pg_name (i := 4) sc_cw.nd rfl (Or.inl rfl)) pgs_nil)))))
    (pss_cons (ps_set (i := 5) sc_cw.nd rfl (Or.inr rfl) (pe_c cW hr (pa_cons (pv 0) (pa_cons (pv 4) pa_nil))))
    (pss_cons (ps_if (pt_cmpR op_isN (pv 5) pe_non (nomark _)) (pss_one (ps_ret pe_int)) pss_nil)
    (pss_one (ps_ret (pe_callB call_len_seq (by rfl) T.nLen PySem.boot_len (pa_cons (pe_compC (NB := ["track"]) (FR := ["wall"]) (js := [5]) rfl rfl (fun _ _ h => h) (.cons rfl rfl rfl ⟨_, rfl⟩ .nil) rfl (by decide +kernel) rfl (by decide +kernel) (pi_list (pe_slice sl_list (pe_fld (pv 0) rfl) (po_some (pv 2)) (po_some (pe_op op_add (pv 3) pe_int)))) (by intro _ _ _; refine ⟨?_, ?_, ?_⟩; (exact (pg_name (i := 0) (show List.Nodup (["track","wall"] : List Str) by decide +kernel) rfl (Or.inl rfl))); (exact (pts_one (pt_cmpR op_ne (pe_ix (ix_tupK (K := K) rfl) (pv 0) pe_int (fun _ _ => rfl)) (pe_ix (ix_tupK (K := K) rfl) (pv 1) pe_int (fun _ _ => rfl)) (nomark _)))); (exact (pv 0)))) pa_nil))))))), ?_⟩
  refine ⟨_, rfl, g, _, rfl, .of hg, rfl, _, _, rfl, _, _, rfl, _, _, rfl, rfl, ?_⟩
  refine ⟨_, rfl, _, rfl, c, pb, sb, tk, ws, trs, lo, hi, wh, rfl, hco, fun v hv => ?_⟩
  obtain ⟨dx, fs, hc, F⟩ := hco
  obtain ⟨tl, tv, e1, htl, htr⟩ := F.tracks
  dsimp only [gName]
  refine ⟨_, rfl, rfl, _, rfl, ?_⟩
  cases ew : wallS wh lo hi with
  | none =>
    rw [ew] at hv k
    have e : v = .non := hv
    subst e
    exact iteT (k H (Same.refl _))
  | some wl =>
    rw [ew] at hv k
    obtain ⟨aw, rfl, haw⟩ := hv
    refine iteF ?_
    refine ⟨_, rfl, c, C, dx, fs, _, rfl, hc, TC.cls, TC.tracks, e1, _, rfl, a, rfl, _, rfl, _, _, rfl, rfl, _, rfl, tl, tv, rfl, .of htl, fun p hp => ?_⟩
    have S1 : Same H (upd H p (.lst (cutV tv (some a) (some (b + 1))))) := Same.upd hp
    refine ⟨p, rfl, ⟨_, SqL.of upd_same⟩, fun Da hD => ?_⟩
    have lc : (cutV tv (some a) (some (b + 1))).length ≤ 8 := Nat.le_trans (cutV_length ..) (by rw [htr.1]; exact hl)
    have hlt := htr.1
    have ecut : cutV tv (some (a : Int)) (some ((b : Int) + 1)) = (tv.drop a).take (b + 1 - a) := cut_ab (by omega)
    refine compC_sel (J := Itl K p) (n := 1) (js := [5]) (g := gName 0) (te := tVar 0) (xs := cutV tv (some a) (some (b + 1))) (offV H wl.2) hD (runs_list upd_same) (small20 (by omega)) ?_ ?_
    · intro i x zs H2 A2 B2 hx hz2 s2 ka kb
      obtain ⟨m, hm⟩ := List.getElem?_of_mem (mem_cut (List.mem_of_getElem? hx))
      obtain ⟨t, _, ax, rfl, hax⟩ := htr.2 m x hm
      obtain ⟨z1, rfl⟩ := len1 hz2
      dsimp only [gName]
      have s3 := S1.trans s2
      have eo : offV H wl.2 (.ref ax) = decide (t.2 ≠ wl.2) := by unfold offV; dsimp only; rw [hax]
      refine ⟨rfl, _, rfl, ax, _, _, _, rfl, rfl, .of (s3 _ _ hax), at1 .., _, rfl, aw, _, _, _, rfl, rfl, .of (s3 _ _ haw), at1 .., rfl, _, rfl, ?_⟩
      by_cases c' : t.2 = wl.2
      · have : (!decide (V.int t.2 = V.int wl.2)) = false := by rw [c']; simp
        rw [this]
        exact kb (by rw [eo]; simp [c'])
      · have : (!decide (V.int t.2 = V.int wl.2)) = true := by
          have : ¬ V.int t.2 = V.int wl.2 := fun z => c' (by injection z)
          rw [decide_eq_false this]; rfl
        rw [this]
        exact ⟨_, rfl, ka (by rw [eo]; simp [c'])⟩
    · intro H2 s2 hy
      refine ⟨Da, _, rfl, .inl (.of hy), ?_⟩
      have el : ((cutV tv (some (a : Int)) (some ((b : Int) + 1))).filter (offV H wl.2)).length = cwN trs (some wl) a b := by
        rw [ecut]
        refine off_len (by simp [hlt]) fun i v e => ?_
        rw [List.getElem?_take] at e
        split at e
        · rw [List.getElem?_drop] at e
          rw [List.getElem?_take, if_pos ‹_›, List.getElem?_drop]
          exact htr.2 _ v e
        · cases e
      rw [el]
      exact k _ (S1.trans s2)
end
end KQ
end
section
set_option maxHeartbeats 4000000
set_option Elab.async false
set_option linter.all false
set_option maxRecDepth 100000
namespace KQ
open PySem L2 KM KK
theorem CoAt.same {H H' : Hp} {C c : Addr} {pb sb : Int} {tk : Rat} {ws : List Int} {trs : List (Int × Int)} {lo hi : Option (Int × Int)} (h : CoAt H C c pb sb tk ws trs lo hi) (s : Same H H') : CoAt H' C c pb sb tk ws trs lo hi := by
  obtain ⟨dx, fs, hc, F⟩ := h
  obtain ⟨tp, a1, a2⟩ := F.tick
  obtain ⟨wl, b1, b2⟩ := F.weights
  obtain ⟨tl, tv, c1, c2, c3⟩ := F.tracks
  obtain ⟨lv, d1, d2⟩ := F.low
  obtain ⟨hv, e1, e2⟩ := F.high
  exact ⟨dx, fs, s _ _ hc, ⟨F.pb, F.sb, ⟨tp, a1, s _ _ a2⟩, ⟨wl, b1, s _ _ b2⟩, ⟨tl, tv, c1, s _ _ c2, c3.keeps (.of s)⟩, ⟨lv, d1, d2.keeps (.of s)⟩, ⟨hv, e1, e2.keeps (.of s)⟩⟩⟩
theorem for_enum {K : PySem.W.Frag} {a : Addr} {xs : List V} {g : TG} {tb : TS} {D : Ends} {σ : St} {H : Hp} (Pv : Nat → St → Hp → Prop) (h0 : Pv 0 σ H) (hl : ∀ i σ H, Pv i σ H → SqL K H a xs)
    (hs : ∀ (i : Nat) (x : V) (σ : St) (H : Hp) (T : Addr), xs[i]? = some x → Pv i σ H → H T = none → g (.ref T) σ (upd H T (.tup [.int i, x])) fun σ2 H2 => tb { D with nx := Pv (i + 1), ct := Pv (i + 1), bk := D.nx } σ2 H2)
    (hd : ∀ σ H, Pv xs.length σ H → D.nx σ H) :
    ∃ W : Nat → Nat → St → Hp → Prop, (∃ m, W 0 m σ H) ∧ ∀ i m σ H, W i m σ H →
      ((Ite K a).stop i H ∧ D.nx σ H) ∨ ((Ite K a).go i H ∧ ∃ N : St → Hp → Prop, (∀ σ' H', N σ' H' → ∃ m', m' < m ∧ W (i + 1) m' σ' H') ∧ ∀ x H', (Ite K a).yld i H x H' → g x σ H' fun σ2 H2 => tb { D with nx := N, ct := N, bk := D.nx } σ2 H2) := by
  refine ⟨fun i m σ H => m = xs.length - i ∧ i ≤ xs.length ∧ Pv i σ H, ⟨xs.length, by simp, Nat.zero_le _, h0⟩, ?_⟩
  rintro i m σ H ⟨rfl, hi, p⟩
  have q1 := hl i σ H p
  by_cases hlt : i < xs.length
  · refine .inr ⟨⟨xs, xs[i], q1, by simp⟩, Pv (i + 1), fun σ' H' p' => ⟨xs.length - (i + 1), by omega, rfl, hlt, p'⟩, fun x H' y => ?_⟩
    obtain ⟨T, u, rfl, hT, rfl, e1⟩ := y
    exact hs i u σ H T (e1 xs q1) p hT
  · have e : i = xs.length := by omega
    subst e
    exact .inl ⟨⟨xs, q1, Nat.le_refl _⟩, hd σ H p⟩
theorem ati_nat {xs : List V} {n : Nat} {v : V} (h : xs[n]? = some v) : atI xs (n : Int) = some v := by
  have hl := (List.getElem?_eq_some_iff.mp h).1
  unfold atI ixN
  rw [if_pos (by omega), if_pos (by omega)]
  show xs[(n : Int).toNat]? = _
  rw [Int.toNat_natCast]; exact h
section
variable {P : Program} {w : World} {K : PySem.W.Frag} {mg : Str → Option Value} {base : Heap}
def brk {α : Type} [DecidableEq α] (ss : List α) (i : Nat) : Bool := decide (i + 1 = ss.length) || decide (ss[i + 1]? ≠ ss[i]?)
def stG {α : Type} [DecidableEq α] (ss : List α) : Nat → Nat
  | 0 => 0
  | i + 1 => if brk ss i = true then i + 1 else stG ss i
def rlG {α γ : Type} [DecidableEq α] (ss : List α) (f : Nat → Nat → Option γ) : Nat → List γ
  | 0 => []
  | i + 1 => if brk ss i = true then rlG ss f i ++ (f (stG ss i) i).toList else rlG ss f i
theorem stG_le {α : Type} [DecidableEq α] (ss : List α) : ∀ i, stG ss i ≤ i
  | 0 => Nat.le_refl _
  | i + 1 => by
    have := stG_le ss i
    show (if brk ss i = true then i + 1 else stG ss i) ≤ i + 1
    split <;> omega
def GrAt (H : Hp) (v : V) (g : Nat × Nat × Str) : Prop := ∃ a, v = .ref a ∧ H a = some (.tup [.int (g.1 : Int), .int (g.2.1 : Int), .str g.2.2])
def GrsI (H : Hp) (vs : List V) (gs : List (Nat × Nat × Str)) : Prop := vs.length = gs.length ∧ ∀ (i : Nat) (v : V), vs[i]? = some v → ∃ g, gs[i]? = some g ∧ GrAt H v g
theorem GrsI.keeps {H H' : Hp} {vs : List V} {gs : List (Nat × Nat × Str)} (h : GrsI H vs gs) (t : TupS H H') : GrsI H' vs gs :=
  ⟨h.1, fun i v e => by obtain ⟨g, e1, a, e2, e3⟩ := h.2 i v e; exact ⟨g, e1, a, e2, t _ _ e3⟩⟩
theorem GrsI.snoc {H : Hp} {vs : List V} {gs : List (Nat × Nat × Str)} {v : V} {g : Nat × Nat × Str} (h : GrsI H vs gs) (k : GrAt H v g) : GrsI H (vs ++ [v]) (gs ++ [g]) := by
  refine ⟨by simp [h.1], fun i u e => ?_⟩
  by_cases hi : i < vs.length
  · rw [List.getElem?_append_left hi] at e
    rw [List.getElem?_append_left (by rw [← h.1]; exact hi)]
    exact h.2 i u e
  · rw [List.getElem?_append_right (by omega)] at e
    have hj : i - vs.length = 0 := by
      rcases Nat.eq_zero_or_pos (i - vs.length) with z | z
      · exact z
      · rw [List.getElem?_eq_none (by simp; omega)] at e; cases e
    rw [hj] at e; cases e
    exact ⟨g, by rw [List.getElem?_append_right (by rw [← h.1]; omega), ← h.1, hj]; rfl, k⟩
def fP (trs : List (Int × Int)) (lo hi : Option (Int × Int)) (t : Int × Int) (a b : Nat) : Option (Nat × Nat × Str) :=
  let s := sideS lo hi t (((trs.map fun l => spotI l t)[b]?).getD 0)
  if a < b ∨ 0 < cwN trs (wallS s lo hi) a b then some (a, b, s) else none
def grP (trs : List (Int × Int)) (lo hi : Option (Int × Int)) (t : Int × Int) : List (Nat × Nat × Str) := rlG (trs.map fun l => spotI l t) (fP trs lo hi t) trs.length
def spGr (C : Addr) : Sp := fun vs H Q _ => ∃ c b pb sb tk ws trs lo hi t, vs = [V.ref c, .ref b] ∧ CoAt H C c pb sb tk ws trs lo hi ∧ trs.length ≤ 8 ∧ H b = some (.tup [.int t.1, .int t.2]) ∧ BdP 4400 t ∧ (∀ l ∈ trs, BdP 4400 l) ∧ (∀ l, lo = some l → BdP 4400 l) ∧ (∀ l, hi = some l → BdP 4400 l) ∧
  ∀ G gs H', Same H H' → H G = none → H' G = some (.lst gs) → GrsI H' gs (grP trs lo hi t) → Q (.ref G) H'
theorem sc_gr : FnScope ["course", "ticks", "spots", "groups", "first", "last", "spot", "group"] ["course", "ticks"] (defScope s_groups_at) := ⟨rfl, rfl, rfl, by decide +kernel, rfl, by decide +kernel, by decide +kernel⟩
theorem ok_gr {C : Addr} (D : Df K mg "groups_at" s_groups_at ["course", "ticks"] []) (T : TxQ K mg) (hE : mg "enumerate" = none) (TC : TCo K C) (cSp : Cal P w K mg base "spot_at" 1 ["track", "ticks"] [] spSp) (cSi : Cal P w K mg base "side_at" 2 ["course", "spot", "ticks"] [] (spSi C))
    (cCw : Cal P w K mg base "came_to_wall" 2 ["course", "group"] [] (spCw C)) : Cal P w K mg base "groups_at" 3 ["course", "ticks"] [] (spGr C) := by
  refine D.cal (k := 2) sc_gr (fun vs H Q E h => by obtain ⟨_, _, _, _, _, _, _, _, _, _, rfl, _⟩ := h; rfl) (fun f cdv A outer s H vs Q E hr h => ?_)
  obtain ⟨c, b, pb, sb, tk, ws, trs, lo, hi, t, rfl, CO, hl, hb, zt, ztr, zlo, zhi, k⟩ := h
  have hr2 : Room 2 _ := hr
  have hr1 : Room 1 _ := hr.mono (by decide)
  obtain ⟨dx, fs, hc, F⟩ := id CO
  obtain ⟨tl, tv, e1, htl, htr⟩ := F.tracks
  refine ⟨_, (pss_cons (ps_setC (i := 2) (NB := ["track"]) (FR := ["ticks"]) (js := [1]) rfl rfl (fun _ _ h => h) (.cons rfl rfl rfl ⟨_, rfl⟩ .nil) rfl (by decide +kernel) rfl (by decide +kernel) sc_gr.nd rfl rfl (by rfl) (pi_list (pe_fld (pv 0) rfl)) (by intro _ _ _; refine ⟨?_, ?_, ?_⟩; (exact (pg_name (i := 0) (show List.Nodup (["track","ticks"] : List Str) by decide +kernel) rfl (Or.inl rfl))); (exact pts_nil); (exact (pe_c cSp hr1 (pa_cons (pv 0) (pa_cons (pv 1) pa_nil))))))
    (pss_cons (ps_set (i := 3) sc_gr.nd rfl (Or.inl rfl) (pe_lst pa_nil))
    (pss_cons (ps_set (i := 4) sc_gr.nd rfl (Or.inl rfl) pe_int)
    (pss_cons (ps_for PassesOwn.never rfl (pi_enum (by rfl) hE (pa_cons (pv 2) pa_nil)) (pg_tup rfl (pgs_cons (pg_name (i := 5) sc_gr.nd rfl (Or.inl rfl)) (pgs_cons (pg_name (i := 6) sc_gr.nd rfl (Or.inl rfl)) pgs_nil))) (pss_one (ps_if ((pw_or (pt_cmpR op_eq (pe_op op_add (pv 5) pe_int) (pe_callB call_len_seq (by rfl) T.nLen PySem.boot_len (pa_cons (pv 2) pa_nil)) (nomark _)) (pw_or1 (pt_cmpR op_ne (pe_ix ix_list (pv 2) (pe_op op_add (pv 5) pe_int) (fun _ _ => rfl)) (pv 6) (nomark _))))).pt (pss_cons (ps_set (i := 7) sc_gr.nd rfl (Or.inl rfl) (pe_tup (pa_cons (pv 4) (pa_cons (pv 5) (pa_cons (pe_c cSi hr2 (pa_cons (pv 0) (pa_cons (pv 6) (pa_cons (pv 1) pa_nil)))) pa_nil)))))
    (pss_cons (ps_if ((pw_or (pt_cmpR op_lt (pv 4) (pv 5) (nomark _)) (pw_or1 (pt_cmpR op_gt (pe_c cCw hr2 (pa_cons (pv 0) (pa_cons (pv 7) pa_nil))) pe_int (nomark _))))).pt (pss_one (ps_expr (pe_bm PySem.F.plainAttrs_list PySem.F.slot_list_append PySem.F.type_list_append mt_append (pv 3) (pa_cons (pv 7) pa_nil)))) pss_nil)
    (pss_one (ps_set (i := 4) sc_gr.nd rfl (Or.inl rfl) (pe_op op_add (pv 5) pe_int))))) pss_nil)))
    (pss_one (ps_ret (pv 3))))))), ?_⟩
  refine ⟨_, rfl, c, C, dx, fs, _, rfl, hc, TC.cls, TC.tracks, e1, tl, rfl, ⟨_, SqL.of htl⟩, fun Da hD => ?_⟩
  refine compC_each (J := Itl K tl) (n := 1) (js := [1]) (g := gName 0) (te := tCall spSp [] E0 (tCons (tVar 0) (tCons (tVar 1) tNil))) (xs := tv) (fun m v _ => ∃ z : Int, (trs.map fun l => spotI l t)[m]? = some z ∧ v = .int z) (fun _ _ _ _ _ z => z) hD (runs_list htl) (small20 (by rw [htr.1]; omega)) ?_ ?_
  · intro m x zs H2 Q' hx hz s2 hk
    obtain ⟨l, el, a, rfl, ha⟩ := htr.2 m x hx
    obtain ⟨z1, rfl⟩ := len1 hz
    dsimp only [gName]
    exact ⟨rfl, _, rfl, _, rfl, a, b, l, t, rfl, s2 _ _ ha, s2 _ _ hb, ztr l (List.mem_of_getElem? el), zt, hk _ _ (Same.refl _) ⟨_, by rw [List.getElem?_map, el]; rfl, rfl⟩⟩
  intro ys H1 s1 hy hyl hyR
  dsimp only [gName]
  refine ⟨by show 0 ≤ sizeLine; decide, fun G hG => ?_⟩
  dsimp only [gName]
  have S2 : Same H1 (upd H1 G (.lst [])) := Same.upd hG
  have hyl8 : ys.length ≤ 8 := by rw [hyl, htr.1]; exact hl
  have hsl : (trs.map fun l => spotI l t).length = ys.length := by rw [List.length_map, hyl, htr.1]
  obtain ⟨ss, ess⟩ : ∃ ss, ss = trs.map fun l => spotI l t := ⟨_, rfl⟩
  rw [← ess] at hyR hsl
  refine ⟨_, rfl, Da, ys, rfl, S2 _ _ hy, for_enum (xs := ys) (fun i σ H' => Same H1 H' ∧ (∃ gs, H' G = some (.lst gs) ∧ gs.length ≤ i ∧ GrsI H' gs (rlG ss (fP trs lo hi t) i)) ∧ ∃ (z5 z6 z7 : Option V), σ = [some (.ref c), some (.ref b), some (.ref Da), some (.ref G), some (.int (stG ss i : Nat)), z5, z6, z7])
    ⟨S2, ⟨[], upd_same, Nat.le_refl _, rfl, fun i v e => by simp at e⟩, _, _, _, rfl⟩ (fun i σ H' ⟨s', _⟩ => .of (s' _ _ hy)) ?_ ?_⟩
  · rintro i x σ H' T' hx ⟨s', ⟨gs, hgs, hgl, hgr⟩, z5, z6, z7, rfl⟩ hT'
    obtain ⟨z, ez, rfl⟩ := hyR i x hx
    have sT : Same H' (upd H' T' (.tup [.int i, .int z])) := Same.upd hT'
    have hTT : upd H' T' (.tup [.int i, .int z]) T' = some (.tup [.int i, .int z]) := upd_same
    have hgs2 := sT _ _ hgs
    have hgr2 := hgr.keeps (.of sT)
    replace sT := s'.trans sT
    generalize upd H' T' (.tup [.int i, .int z]) = G2 at sT hTT hgs2 hgr2
    have sG : Same H G2 := s1.trans sT
    refine ⟨T', _, rfl, .of hTT, rfl, _, _, rfl, _, _, rfl, rfl, ?_⟩
    have hil : i < ys.length := (List.getElem?_eq_some_iff.mp hx).1
    have hst := stG_le ss i
    refine if_bool (fun H' => H' = G2) (brk ss i) (fun Q' q => ?_) (fun hbk H3 e3 => ?_) (fun hbk H3 e3 => ?_)
    · refine ⟨_, rfl, _, _, rfl, rfl, _, rfl, Da, ys, rfl, .inl (.of (sT _ _ hy)), rfl, _, rfl, ite2 (fun h0 => ?_) (fun h0 => ?_)⟩
      · have e0 : i + 1 = ss.length := by
          have := of_decide_eq_true h0
          injection this with this
          omega
        have : brk ss i = true := by unfold brk; rw [decide_eq_true e0]; rfl
        rw [this] at q
        exact q _ rfl
      · have hne : i + 1 < ys.length := by
          have : ¬ ((i : Int) + 1 = ys.length) := fun z => h0 (decide_eq_true (show V.int ((i : Int) + 1) = V.int (ys.length : Int) by rw [z]))
          omega
        obtain ⟨z', ez', hz'⟩ := hyR (i + 1) ys[i + 1] (by simp [hne])
        have ha : atI ys ((i : Int) + 1) = some (.int z') := by
          have := ati_nat (xs := ys) (n := i + 1) (v := ys[i + 1]) (by simp [hne])
          rw [hz'] at this
          rw [← this]; rfl
        refine ⟨_, rfl, _, rfl, _, _, rfl, rfl, Da, _, _, _, rfl, rfl, .of (sT _ _ hy), ha, _, rfl, rfl, _, rfl, ?_⟩
        have : (!decide (V.int z' = V.int z)) = brk ss i := by
          unfold brk
          rw [decide_eq_false (by omega : ¬ i + 1 = ss.length), Bool.false_or, ez, ez']
          by_cases c : z' = z
          · rw [c]; simp
          · have c1 : ¬ V.int z' = V.int z := fun y => c (by injection y)
            rw [decide_eq_false c1]; simp [c]
        rw [this]
        exact q _ rfl
    · subst e3
      have est : stG ss (i + 1) = i + 1 := if_pos hbk
      have erl : rlG ss (fP trs lo hi t) (i + 1) = rlG ss (fP trs lo hi t) i ++ (fP trs lo hi t (stG ss i) i).toList := if_pos hbk
      have hb' : i < trs.length := by rw [ess, List.length_map] at hsl; omega
      refine ⟨_, rfl, _, rfl, _, rfl, _, rfl, _, rfl, c, b, pb, sb, tk, ws, trs, lo, hi, z, t, rfl, CO.same sG, sG _ _ hb, zt, zlo, zhi, by show 3 ≤ sizeLine; decide, fun gp hgp => ?_⟩
      have s5 : Same H3 (upd H3 gp (.tup [.int (stG ss i : Nat), .int i, .str (sideS lo hi t z)])) := Same.upd hgp
      have h5 : upd H3 gp (.tup [.int (stG ss i : Nat), .int i, .str (sideS lo hi t z)]) gp = some (.tup [.int (stG ss i : Nat), .int i, .str (sideS lo hi t z)]) := upd_same
      generalize upd H3 gp (.tup [.int (stG ss i : Nat), .int i, .str (sideS lo hi t z)]) = G5 at s5 h5
      have efP : fP trs lo hi t (stG ss i) i = if stG ss i < i ∨ 0 < cwN trs (wallS (sideS lo hi t z) lo hi) (stG ss i) i then some (stG ss i, i, sideS lo hi t z) else none := by
        unfold fP
        rw [← ess, ez]; rfl
      dsimp only [gName]
      refine if_boolS (fun H' => Same G5 H') (decide (stG ss i < i ∨ 0 < cwN trs (wallS (sideS lo hi t z) lo hi) (stG ss i) i)) (fun Q' q => ?_) (fun hc6 H6 s6 => ?_) (fun hc6 H6 s6 => ?_)
      · refine ⟨_, rfl, _, rfl, _, _, rfl, rfl, _, rfl, ite2 (fun h1 => ?_) (fun h1 => ?_)⟩
        · have h1' : stG ss i < i := by have := of_decide_eq_true h1; omega
          rw [decide_eq_true (Or.inl h1')] at q
          exact q _ (Same.refl _)
        · have h1' : ¬ stG ss i < i := fun z => h1 (decide_eq_true (by omega))
          refine ⟨_, rfl, _, rfl, c, gp, pb, sb, tk, ws, trs, lo, hi, stG ss i, i, _, rfl, CO.same (sG.trans s5), hl, hst, hb', h5, fun H6 s6 => ⟨_, _, rfl, rfl, _, rfl, ?_⟩⟩
          have : decide ((0 : Int) < ((cwN trs (wallS (sideS lo hi t z) lo hi) (stG ss i) i : Nat) : Int)) = decide (stG ss i < i ∨ 0 < cwN trs (wallS (sideS lo hi t z) lo hi) (stG ss i) i) := by
            rw [Bool.eq_iff_iff, decide_eq_true_eq, decide_eq_true_eq]
            constructor
            · intro y; exact .inr (by omega)
            · rintro (y | y)
              · exact absurd y h1'
              · omega
          rw [this]
          exact q _ s6
      · have S6 := sT.trans (s5.trans s6)
        have hgs6 := (s5.trans s6) _ _ hgs2
        refine ⟨_, rfl, .inl ⟨rfl, gs, .of hgs6⟩, _, rfl, G, gs, _, rfl, rfl, hgs6, small20 (by omega), ?_⟩
        have TuG : TupS H6 (upd H6 G (.lst (gs ++ [.ref gp]))) := .upd hgs6
        refine ⟨_, rfl, _, _, rfl, rfl, ⟨fun b' o' e' => ?_, ⟨gs ++ [.ref gp], upd_same, by simp; omega, ?_⟩, some (.int i), some (.int z), some (.ref gp), ?_⟩⟩
        · rw [upd_ne (ne_of_none e' hG)]; exact S6 _ _ e'
        · rw [erl, efP, if_pos (of_decide_eq_true hc6)]
          exact (((hgr2.keeps (.of s5)).keeps (.of s6)).keeps TuG).snoc ⟨gp, rfl, TuG _ _ (s6 _ _ h5)⟩
        · rw [est]; rfl
      · have S6 := sT.trans (s5.trans s6)
        refine ⟨_, rfl, _, _, rfl, rfl, ⟨S6, ⟨gs, (s5.trans s6) _ _ hgs2, by omega, ?_⟩, some (.int i), some (.int z), some (.ref gp), ?_⟩⟩
        · rw [erl, efP, if_neg (of_decide_eq_false hc6)]
          show GrsI H6 gs (_ ++ [])
          rw [List.append_nil]
          exact (hgr2.keeps (.of s5)).keeps (.of s6)
        · rw [est]; rfl
    · subst e3
      have est : stG ss (i + 1) = stG ss i := if_neg (by rw [hbk]; simp)
      have erl : rlG ss (fP trs lo hi t) (i + 1) = rlG ss (fP trs lo hi t) i := if_neg (by rw [hbk]; simp)
      exact ⟨sT, ⟨gs, hgs2, by omega, by rw [erl]; exact hgr2⟩, some (.int i), some (.int z), z7, by rw [est]; rfl⟩
  · rintro σ H' ⟨s', ⟨gs, hgs, _, hgr⟩, z5, z6, z7, rfl⟩
    refine ⟨_, rfl, k G gs H' (s1.trans s') (s1.free hG) hgs ?_⟩
    unfold grP
    rw [← ess]
    have : ys.length = trs.length := by rw [← hsl, ess, List.length_map]
    rw [← this]; exact hgr
end
end KQ
end
section
set_option maxHeartbeats 4000000
set_option Elab.async false
set_option linter.all false
set_option maxRecDepth 100000
namespace KQ
open PySem L2 KM KK
section
variable {P : Program} {w : World} {K : PySem.W.Frag} {mg : Str → Option Value} {base : Heap} {C0 : Addr}
def spNC (CS : Addr) : Sp := fun vs H Q E => ∃ r wa bs lo hi, vs = [V.ref r, .ref wa] ∧ In H r wa bs lo hi ∧
  (∀ H', Same H H' → soon (chO bs lo hi) = none → Q .non H') ∧
  (∀ t p m G H', Same H H' → soon (chO bs lo hi) = some t → shutM lo hi ≠ some (momT (tkO bs lo hi) t) → H' p = some (.tup [.ref m, .ref G]) → RatAt H' m (momT (tkO bs lo hi) t) → H G = none → (∃ gs, H' G = some (.lst gs) ∧ GrsI H' gs (grP (trO bs lo hi) (lo.map (trB (pbO bs lo hi) (sbO bs lo hi))) (hi.map (trB (pbO bs lo hi) (sbO bs lo hi))) t)) → Q (.ref p) H') ∧
  (∀ t p dx H', Same H H' → soon (chO bs lo hi) = some t → shutM lo hi = some (momT (tkO bs lo hi) t) → H' dx = some (.xd [("moment", .ref p)]) → RatAt H' p (momT (tkO bs lo hi) t) → E (.ref CS) (some dx) H')
theorem sc_nc : FnScope ["row", "walls", "course", "ticks"] ["row", "walls"] (defScope s_next_coming) := ⟨rfl, rfl, rfl, by decide +kernel, rfl, by decide +kernel, by decide +kernel⟩
theorem ok_nc {C CS fi : Addr} {fdi : FuncData} (D : Df K mg "next_coming" s_next_coming ["row", "walls"] []) (M : Mk K C fi) (Fi : FnOk P w K mg base CX0 4 fi fdi ["self", "row", "walls"] (spCo C)) (hmC : mg "Course" = some (.ref C)) (Bi : Binds K fdi ["self", "row", "walls"] [])
    (cFT : Cal1 P w K mg base "first_ticks" 5 ["course", "walls"] [] (spFT C CS)) (cMo : Cal P w K mg base "moment_of" 3 ["course", "ticks"] [] (spMo C)) (cGr : Cal P w K mg base "groups_at" 3 ["course", "ticks"] [] (spGr C)) : Cal1 P w K mg base "next_coming" 6 ["row", "walls"] [] (spNC CS) := by
  refine D.cal1 (k := 5) sc_nc (fun vs H Q E h => by obtain ⟨_, _, _, _, _, rfl, _⟩ := h; rfl) (fun f cdv A outer s H vs Q E hr h => ?_)
  obtain ⟨r, wa, bs, lo, hi, rfl, I, k1, k2, k3⟩ := h
  obtain ⟨us, hrr, hB⟩ := I.row
  obtain ⟨v1, v2, hw, h1, h2⟩ := I.walls
  have hr3 : Room 3 _ := hr.mono (by decide)
  refine ⟨_, pss_cons (ps_set (i := 2) sc_nc.nd rfl (Or.inl rfl) (pe_make M Fi hr (by rfl) hmC Bi .nil pass0 (pa_cons (pv 0) (pa_cons (pv 1) pa_nil))))
    (pss_cons (ps_set (i := 3) sc_nc.nd rfl (Or.inl rfl) (pe_cx cFT hr bears_def (pa_cons (pv 2) (pa_cons (pv 1) pa_nil))))
    (pss_cons (ps_if (pt_cmpR op_isN (pv 3) pe_non (nomark _)) (pss_one (ps_ret pe_non)) pss_nil)
    (pss_one (ps_ret (pe_tup (pa_cons (pe_c cMo hr3 (pa_cons (pv 2) (pa_cons (pv 3) pa_nil))) (pa_cons (pe_c cGr hr3 (pa_cons (pv 2) (pa_cons (pv 3) pa_nil))) pa_nil))))))), ?_⟩
  refine ⟨_, rfl, _, rfl, fun c dx hc hdx ne => ?_⟩
  have S0 : Same H (upd (upd H dx (.own c)) c (.ins C dx [])) := (Same.upd hdx).trans (Same.upd (by rw [upd_ne ne.symm]; exact hc))
  refine ⟨c, dx, r, wa, us, bs, v1, v2, lo, hi, rfl, upd_same, S0 _ _ hrr, hB.keeps (.of S0), S0 _ _ hw, h1.keeps (.of S0), h2.keeps (.of S0), I.len, I.sz, fun H1 X1 hco => ⟨rfl, ?_⟩⟩
  have S1 : Same H H1 := fun b o e => X1 b o (ne_of_none e hc) (S0 b o e)
  dsimp only [gName]
  refine ⟨_, rfl, _, rfl, c, _, _, _, _, _, _, _, wa, v1, v2, lo, hi, rfl, hco, by rw [List.length_map]; exact I.len, I.bd, I.tk, S1 _ _ hw, h1.keeps (.of S1), h2.keeps (.of S1), I.lo, I.hi, ?_, ?_, ?_⟩
  · intro H2 s2 e
    dsimp only [gName]
    exact ⟨_, rfl, rfl, _, rfl, iteT (k1 H2 (S1.trans s2) e)⟩
  · intro v t H2 s2 e n hv
    obtain ⟨ta, rfl, hta⟩ := hv
    dsimp only [gName]
    refine ⟨_, rfl, rfl, _, rfl, iteF ?_⟩
    have so := soon_ok I.bd e
    obtain ⟨dx', fs, hc2, F⟩ := hco.same s2
    obtain ⟨tp, etp, htp⟩ := F.tick
    refine ⟨_, rfl, _, rfl, c, ta, dx', fs, tp, _, t.1, t.2, rfl, hc2, etp, htp, hta, by omega, so.2.1.mono (by decide), so.2.2.mono (by decide), I.tk, fun m H3 s3 hm => ?_⟩
    refine ⟨_, rfl, _, rfl, c, ta, _, _, _, _, _, _, _, t, rfl, hco.same (s2.trans s3), by rw [List.length_map]; exact I.len, s3 _ _ hta, ⟨so.2.1.mono (by decide), so.2.2.mono (by decide)⟩, ?_, ?_, ?_, fun G gs H4 s4 hGn hG hgr => ?_⟩
    · intro l hl
      have := I.bd l (List.mem_append_left _ (List.mem_append_right _ hl))
      exact ⟨this.1.mono (by decide), this.2.mono (by decide)⟩
    · intro l hl
      have := I.bd l (List.mem_append_left _ (List.mem_append_left _ (by rw [hl]; simp [optL])))
      exact ⟨this.1.mono (by decide), this.2.mono (by decide)⟩
    · intro l hl
      have := I.bd l (List.mem_append_right _ (by rw [hl]; simp [optL]))
      exact ⟨this.1.mono (by decide), this.2.mono (by decide)⟩
    · refine ⟨by show 2 ≤ sizeLine; decide, fun p hp => ?_⟩
      exact k2 t p m G _ (S1.trans (s2.trans (s3.trans (s4.trans (Same.upd hp))))) e n upd_same (Same.upd hp _ _ (s4 _ _ hm)) ((S1.trans (s2.trans s3)).free hGn) ⟨gs, Same.upd hp _ _ hG, hgr.keeps (.of (Same.upd hp))⟩
  · intro t p d H2 s2 e e' hd hp
    exact ⟨CS, rfl, k3 t p d H2 (S1.trans s2) e e' hd hp⟩
end
end KQ
end
section
set_option maxHeartbeats 8000000
set_option Elab.async false
set_option linter.all false
set_option maxRecDepth 100000
namespace KT
open PySem L2 KM KK KQ
def bl (b : Ball) : KQ.Bl := ⟨b.pl, b.sp, b.wt⟩
theorem row_i {H : Hp} {us : List V} {bs : List Ball} (h : BallsAt H us bs) : RowI H us (bs.map bl) := by
  refine ⟨by rw [h.length, List.length_map], fun i v e => ?_⟩
  obtain ⟨a, p, q, b, eb, rfl, h1, h2, h3⟩ := h.get e
  exact ⟨bl b, by rw [List.getElem?_map, eb]; rfl, a, p, q, rfl, h1, h2, h3⟩
theorem wl_i {H : Hp} {v : V} {l : Wl} (h : WallAt H v l) : WlAt H v l := by
  cases l with
  | none => exact h
  | some u => obtain ⟨x, y⟩ := u; obtain ⟨a, p, q, rfl, h1, h2, h3⟩ := h; exact ⟨a, rfl, p, q, [], h1, h2, h3⟩
def tl (bs : List Ball) (lo hi : Wl) : List (Rat × Rat) := oneT lo ++ bs.map (fun b => (b.pl, b.sp)) ++ oneT hi
theorem one_map (pb sb : Int) (l : Wl) : optL (l.map (trB pb sb)) = (oneT l).map (trB pb sb) := by cases l <;> rfl
theorem chO_tl (bs : List Ball) (lo hi : Wl) : chO (bs.map bl) lo hi = (tl bs lo hi).map (trB (pbO (bs.map bl) lo hi) (sbO (bs.map bl) lo hi)) := by
  unfold chO chn trO tl
  rw [one_map, one_map, List.map_append, List.map_append, List.map_map, List.map_map]; rfl
theorem trO_bl (bs : List Ball) (lo hi : Wl) : trO (bs.map bl) lo hi = bs.map fun b => trB (pbO (bs.map bl) lo hi) (sbO (bs.map bl) lo hi) (b.pl, b.sp) := by
  unfold trO; rw [List.map_map]; rfl
theorem ths_tl {bs : List Ball} {lo hi : Wl} {t : Rat × Rat} : t ∈ ths (bs.map bl) lo hi ↔ t ∈ tl bs lo hi := by
  unfold ths tl
  rw [List.map_map]
  simp only [List.mem_append]
  show t ∈ bs.map (fun b => (b.pl, b.sp)) ∨ _ ↔ _
  constructor
  · rintro (h | h | h)
    · exact .inl (.inr h)
    · exact .inl (.inl h)
    · exact .inr h
  · rintro ((h | h) | h)
    · exact .inr (.inl h)
    · exact .inl h
    · exact .inr (.inr h)
def RelS (tk : Rat) (u : Option (Int × Int)) (f : Option Rat) : Prop := (u = none ∧ f = none) ∨ ∃ t m, u = some t ∧ f = some m ∧ 0 < t.2 ∧ momT tk t = m
theorem icast_lt {a b : Int} : ((a : Rat) < (b : Rat)) ↔ a < b := Rat.intCast_lt_intCast
theorem step_rel {pb sb : Int} (hp : 0 < pb) (hs : 0 < sb) {l r : Rat × Rat} (d1 : (l.1.den : Int) ∣ pb) (d2 : (l.2.den : Int) ∣ sb) (d3 : (r.1.den : Int) ∣ pb) (d4 : (r.2.den : Int) ∣ sb) {u : Option (Int × Int)} {f : Option Rat} (h : RelS (Rat.divInt sb pb) u f) :
    RelS (Rat.divInt sb pb) (stepS u (trB pb sb l, trB pb sb r)) (stepR f (l, r)) := by
  have e1 : (((trB pb sb l).1 : Int) : Rat) = l.1 * pb := byq d1
  have e2 : (((trB pb sb l).2 : Int) : Rat) = l.2 * sb := byq d2
  have e3 : (((trB pb sb r).1 : Int) : Rat) = r.1 * pb := byq d3
  have e4 : (((trB pb sb r).2 : Int) : Rat) = r.2 * sb := byq d4
  have hp' : (0 : Rat) < (pb : Rat) := by exact_mod_cast hp
  have hs' : (0 : Rat) < (sb : Rat) := by exact_mod_cast hs
  have hlt : (trB pb sb r).2 < (trB pb sb l).2 ↔ r.2 < l.2 := by
    rw [← icast_lt, e2, e4, Rat.mul_lt_mul_right hs']
  generalize trB pb sb l = L at *
  generalize trB pb sb r = R at *
  unfold stepS stepR
  by_cases c : r.2 < l.2
  · have c' := hlt.mpr c
    rw [if_pos (show (L, R).2.2 < (L, R).1.2 from c'), if_pos (show (l, r).2.2 < (l, r).1.2 from c)]
    have pos : 0 < L.2 - R.2 := by omega
    have hn : momT (Rat.divInt sb pb) (R.1 - L.1, L.2 - R.2) = mo l r := by
      unfold momT
      rw [momq _ (by show L.2 - R.2 ≠ 0; omega)]
      show ((R.1 - L.1 : Int) : Rat) * _ / ((L.2 - R.2 : Int) : Rat) = _
      rw [Rat.intCast_sub, Rat.intCast_sub, e1, e2, e3, e4, Rat.divInt_eq_div]
      exact mo_scale hp' hs' c
    rcases h with ⟨rfl, rfl⟩ | ⟨t, m, rfl, rfl, tp, hm⟩
    · exact .inr ⟨(R.1 - L.1, L.2 - R.2), mo l r, rfl, rfl, pos, hn⟩
    · have tkp : (0 : Rat) < Rat.divInt sb pb := by
        rw [Rat.divInt_eq_div, Rat.lt_div_iff hp']; grind
      have cmp : (R.1 - L.1) * t.2 < t.1 * (L.2 - R.2) ↔ mo l r < m := by
        rw [← hn, ← hm]
        unfold momT
        rw [momq _ (show (R.1 - L.1, L.2 - R.2).2 ≠ 0 by show L.2 - R.2 ≠ 0; omega), momq _ (show t.2 ≠ 0 by omega)]
        rw [frac_lt (by exact_mod_cast pos) (by exact_mod_cast tp) tkp]
        rw [← icast_lt]
        show _ ↔ ((R.1 - L.1 : Int) : Rat) * (t.2 : Rat) < (t.1 : Rat) * ((L.2 - R.2 : Int) : Rat)
        rw [Rat.intCast_mul, Rat.intCast_mul]
      show RelS _ (if (R.1 - L.1) * t.2 < t.1 * (L.2 - R.2) then some (R.1 - L.1, L.2 - R.2) else some t) (if mo l r < m then some (mo l r) else some m)
      by_cases c2 : mo l r < m
      · rw [if_pos (cmp.mpr c2), if_pos c2]
        exact .inr ⟨_, _, rfl, rfl, pos, hn⟩
      · rw [if_neg (fun z => c2 (cmp.mp z)), if_neg c2]
        exact .inr ⟨_, _, rfl, rfl, tp, hm⟩
  · rw [if_neg (show ¬ (L, R).2.2 < (L, R).1.2 from fun z => c (hlt.mp z)), if_neg (show ¬ (l, r).2.2 < (l, r).1.2 from c)]
    exact h
theorem fold_rel {pb sb : Int} (hp : 0 < pb) (hs : 0 < sb) : ∀ {L : List ((Rat × Rat) × (Rat × Rat))} {u : Option (Int × Int)} {f : Option Rat}, (∀ p ∈ L, ((p.1.1.den : Int) ∣ pb ∧ (p.1.2.den : Int) ∣ sb) ∧ (p.2.1.den : Int) ∣ pb ∧ (p.2.2.den : Int) ∣ sb) → RelS (Rat.divInt sb pb) u f →
    RelS (Rat.divInt sb pb) ((L.map fun p => (trB pb sb p.1, trB pb sb p.2)).foldl stepS u) (L.foldl stepR f)
  | [], u, f, _, h => h
  | p :: L, u, f, hL, h => by
    obtain ⟨⟨a, b⟩, c, d⟩ := hL p List.mem_cons_self
    show RelS _ ((L.map fun p => (trB pb sb p.1, trB pb sb p.2)).foldl stepS (stepS u (trB pb sb p.1, trB pb sb p.2))) (L.foldl stepR (stepR f p))
    exact fold_rel hp hs (fun q mq => hL q (List.mem_cons_of_mem _ mq)) (step_rel hp hs a b c d h)
theorem soon_rel {pb sb : Int} (hp : 0 < pb) (hs : 0 < sb) {ch : List (Rat × Rat)} (hd : ∀ t ∈ ch, (t.1.den : Int) ∣ pb ∧ (t.2.den : Int) ∣ sb) : RelS (Rat.divInt sb pb) (soon (ch.map (trB pb sb))) (soonR ch) := by
  unfold soon soonR
  have e : (ch.map (trB pb sb)).zip (ch.map (trB pb sb)).tail = (ch.zip ch.tail).map fun p => (trB pb sb p.1, trB pb sb p.2) := by
    rw [← List.map_tail, List.zip_map]; rfl
  rw [e]
  refine fold_rel hp hs (fun p mp => ?_) (.inl ⟨rfl, rfl⟩)
  have z := List.of_mem_zip mp
  exact ⟨hd _ z.1, hd _ (List.mem_of_mem_tail z.2)⟩
theorem lcmD_sz {n : Nat} {qs : List Rat} (h : ∀ q ∈ qs, Bd n (q.den : Int)) : 0 < lcmD qs ∧ Bd (1 + n * qs.length) (lcmD qs) ∧ ∀ q ∈ qs, (q.den : Int) ∣ lcmD qs := by
  obtain ⟨a1, a2, _, a4⟩ := lcm_fold (n := n) (ks := qs.map fun q => (q.den : Int)) (c := 1) (m := 1) (by decide) (show (1 : Int).natAbs < 2 ^ 1 by decide) (fun k hk => by
    obtain ⟨q, hq, rfl⟩ := List.mem_map.mp hk
    exact ⟨by have := q.den_pos; omega, h q hq⟩)
  rw [List.length_map] at a2
  exact ⟨a1, a2, fun q hq => a4 _ (List.mem_map.mpr ⟨q, hq, rfl⟩)⟩
theorem bd_fdivN {n : Nat} {b d : Int} (hb : 0 < b) (hd : 0 < d) (h : Bd n b) : Bd n (b.fdiv d) := by
  rw [Int.fdiv_eq_ediv_of_nonneg _ (by omega)]
  exact h.of_le (by have := Int.ediv_le_self d (a := b) (by omega); have := Int.ediv_nonneg (a := b) (b := d) (by omega) (by omega); omega)

theorem ths_len10 {bs : List KQ.Bl} {lo hi : Wl} (h : bs.length ≤ 8) : (ths bs lo hi).length ≤ 10 := by
  unfold ths
  have e : ∀ w : Wl, (oneT w).length ≤ 1 := fun w => by cases w <;> simp [oneT]
  have := e lo
  have := e hi
  simp only [List.length_append, List.length_map]; omega
structure Bot (bs : List Ball) (lo hi : Wl) : Prop where
  p0 : 0 < pbO (bs.map bl) lo hi
  s0 : 0 < sbO (bs.map bl) lo hi
  pz : Bd 3201 (pbO (bs.map bl) lo hi)
  sz : Bd 801 (sbO (bs.map bl) lo hi)
  dv : ∀ t ∈ tl bs lo hi, (t.1.den : Int) ∣ pbO (bs.map bl) lo hi ∧ (t.2.den : Int) ∣ sbO (bs.map bl) lo hi
def TZ (bs : List Ball) (lo hi : Wl) : Prop := ∀ t ∈ tl bs lo hi, Sz 320 t.1 ∧ Sz 80 t.2
theorem bot {bs : List Ball} {lo hi : Wl} (h : bs.length ≤ 8) (hz : TZ bs lo hi) : Bot bs lo hi := by
  have hl := ths_len10 (bs := bs.map bl) (lo := lo) (hi := hi) (by rw [List.length_map]; exact h)
  obtain ⟨a1, a2, a3⟩ := lcmD_sz (n := 320) (qs := (ths (bs.map bl) lo hi).map (·.1)) (fun q hq => by obtain ⟨t, ht, rfl⟩ := List.mem_map.mp hq; exact (hz t (ths_tl.mp ht)).1.2)
  obtain ⟨b1, b2, b3⟩ := lcmD_sz (n := 80) (qs := (ths (bs.map bl) lo hi).map (·.2)) (fun q hq => by obtain ⟨t, ht, rfl⟩ := List.mem_map.mp hq; exact (hz t (ths_tl.mp ht)).2.2)
  rw [List.length_map] at a2 b2
  exact ⟨a1, b1, a2.mono (by omega), b2.mono (by omega), fun t ht => ⟨a3 _ (List.mem_map.mpr ⟨t, ths_tl.mpr ht, rfl⟩), b3 _ (List.mem_map.mpr ⟨t, ths_tl.mpr ht, rfl⟩)⟩⟩
theorem in_of {H : Hp} {r wa : Addr} {us : List V} {v1 v2 : V} {bs : List Ball} {lo hi : Wl} (hr : H r = some (.tup us)) (hR : BallsAt H us bs) (hw : H wa = some (.tup [v1, v2])) (h1 : WallAt H v1 lo) (h2 : WallAt H v2 hi) (hl : bs.length ≤ 8) (hz : TZ bs lo hi) : In H r wa (bs.map bl) lo hi := by
  have B := bot hl hz
  refine ⟨⟨us, hr, row_i hR⟩, ⟨v1, v2, hw, wl_i h1, wl_i h2⟩, by rw [List.length_map]; exact hl, fun t ht => ⟨(hz t (ths_tl.mp ht)).1.mono (by decide), (hz t (ths_tl.mp ht)).2.mono (by decide)⟩, fun t ht => ?_, ?_⟩
  · rw [chO_tl] at ht
    obtain ⟨s, hs, rfl⟩ := List.mem_map.mp ht
    have z := hz s hs
    exact ⟨(z.1.1.mul (bd_fdivN B.p0 (KM.den_pos _) B.pz)).mono (by decide), (z.2.1.mul (bd_fdivN B.s0 (KM.den_pos _) B.sz)).mono (by decide)⟩
  · exact (Sz.divInt (by have := B.p0; omega) (B.sz.mono (by decide : 801 ≤ 3201)) B.pz).mono (by decide)
theorem soon_tl {bs : List Ball} {lo hi : Wl} (B : Bot bs lo hi) : RelS (tkO (bs.map bl) lo hi) (soon (chO (bs.map bl) lo hi)) (soonR (tl bs lo hi)) := by
  rw [chO_tl]; exact soon_rel B.p0 B.s0 B.dv
def lexE (l r : Rat × Rat) : Prop := l.1 < r.1 ∨ (l.1 = r.1 ∧ l.2 ≤ r.2)
structure Ord (bs : List Ball) (lo hi : Wl) : Prop where
  pw : (tl bs lo hi).Pairwise lexE
  lt : ∀ x y x' y', lo = some (x, y) → hi = some (x', y') → x < x'
theorem mo_pos {l r : Rat × Rat} (h : lexE l r) (c : r.2 < l.2) : 0 < mo l r := by
  unfold mo
  rcases h with h | ⟨_, h⟩
  · rw [Rat.lt_div_iff (by grind)]; grind
  · grind
theorem fold_pos : ∀ {L : List ((Rat × Rat) × (Rat × Rat))} {f : Option Rat}, (∀ p ∈ L, p.2.2 < p.1.2 → 0 < mo p.1 p.2) → (∀ u, f = some u → 0 < u) → ∀ u, L.foldl stepR f = some u → 0 < u
  | [], _, _, h => h
  | p :: L, f, hL, h => by
    refine fold_pos (L := L) (f := stepR f p) (fun q m => hL q (List.mem_cons_of_mem _ m)) fun u hu => ?_
    unfold stepR at hu
    split at hu
    · have := hL p List.mem_cons_self ‹_›
      split at hu
      · cases hu; exact this
      · split at hu
        · cases hu; exact this
        · cases hu; exact h _ rfl
    · exact h u hu
theorem soon_pos' {bs : List Ball} {lo hi : Wl} (O : Ord bs lo hi) {m : Rat} (h : soonR (tl bs lo hi) = some m) : 0 < m := by
  refine fold_pos (fun p mp c => ?_) (fun u e => by cases e) m h
  obtain ⟨i, e1, e2⟩ := mem_zipt mp
  obtain ⟨h1, f1⟩ := List.getElem?_eq_some_iff.mp e1
  obtain ⟨h2, f2⟩ := List.getElem?_eq_some_iff.mp e2
  have := List.pairwise_iff_getElem.mp O.pw i (i + 1) h1 h2 (by omega)
  rw [f1, f2] at this
  exact mo_pos this c
theorem Ord.lo {bs : List Ball} {lo hi : Wl} (O : Ord bs lo hi) {x y : Rat} (e : lo = some (x, y)) {b : Ball} (m : b ∈ bs) : lexE (x, y) (b.pl, b.sp) := by
  subst e
  have := O.pw
  unfold tl at this
  rw [List.pairwise_append, List.pairwise_append] at this
  exact this.1.2.2 _ (by simp [oneT]) _ (List.mem_map.mpr ⟨b, m, rfl⟩)
theorem Ord.hi {bs : List Ball} {lo hi : Wl} (O : Ord bs lo hi) {x y : Rat} (e : hi = some (x, y)) {b : Ball} (m : b ∈ bs) : lexE (b.pl, b.sp) (x, y) := by
  subst e
  have := O.pw
  unfold tl at this
  rw [List.pairwise_append] at this
  exact this.2.2 _ (List.mem_append_right _ (List.mem_map.mpr ⟨b, m, rfl⟩)) _ (by simp [oneT])
def thenB (m : Rat) (b : Ball) : Ball := ⟨b.pl + b.sp * m, b.sp, b.wt⟩
def thenW (m : Rat) (l : Wl) : Wl := match l with | none => none | some (x, y) => some (x + y * m, y)
def keyL (m : Rat) (bs : List Ball) : List Rat := bs.map fun b => b.pl + b.sp * m
theorem spot_key {pb sb : Int} {t : Int × Int} {x y m : Rat} (hp : 0 < pb) (ht : 0 < t.2) (d1 : (x.den : Int) ∣ pb) (d2 : (y.den : Int) ∣ sb) (hm : momT (Rat.divInt sb pb) t = m) : ((spotI (trB pb sb (x, y)) t : Int) : Rat) = (x + y * m) * ((pb : Rat) * (t.2 : Rat)) := by
  have e1 : (((trB pb sb (x, y)).1 : Int) : Rat) = x * pb := byq d1
  have e2 : (((trB pb sb (x, y)).2 : Int) : Rat) = y * sb := byq d2
  have hp' : (pb : Rat) ≠ 0 := by
    have : (0 : Rat) < (pb : Rat) := by exact_mod_cast hp
    grind
  have ht' : (t.2 : Rat) ≠ 0 := by
    have : (0 : Rat) < (t.2 : Rat) := by exact_mod_cast ht
    grind
  unfold spotI
  rw [Rat.intCast_add, Rat.intCast_mul, Rat.intCast_mul, e1, e2, ← hm]
  unfold momT
  rw [momq _ (by omega), Rat.divInt_eq_div]
  grind
theorem spot_eq {pb sb : Int} {t : Int × Int} {x y x' y' m : Rat} (hp : 0 < pb) (ht : 0 < t.2) (d1 : (x.den : Int) ∣ pb) (d2 : (y.den : Int) ∣ sb) (d3 : (x'.den : Int) ∣ pb) (d4 : (y'.den : Int) ∣ sb) (hm : momT (Rat.divInt sb pb) t = m) : spotI (trB pb sb (x, y)) t = spotI (trB pb sb (x', y')) t ↔ x + y * m = x' + y' * m := by
  have k1 := spot_key hp ht d1 d2 hm
  have k2 := spot_key hp ht d3 d4 hm
  have hp' : (0 : Rat) < (pb : Rat) := by exact_mod_cast hp
  have ht' : (0 : Rat) < (t.2 : Rat) := by exact_mod_cast ht
  have hpt : (pb : Rat) * (t.2 : Rat) ≠ 0 := by
    have := Rat.mul_pos hp' ht'
    grind
  constructor
  · intro h
    rw [h] at k1
    have : (x + y * m) * ((pb : Rat) * (t.2 : Rat)) = (x' + y' * m) * ((pb : Rat) * (t.2 : Rat)) := by rw [← k1, ← k2]
    grind
  · intro h
    rw [h, ← k2] at k1
    exact_mod_cast k1
theorem sp_eq {pb sb : Int} {x y x' y' : Rat} (hs : 0 < sb) (d2 : (y.den : Int) ∣ sb) (d4 : (y'.den : Int) ∣ sb) : (trB pb sb (x, y)).2 = (trB pb sb (x', y')).2 ↔ y = y' := by
  have e1 : (((trB pb sb (x, y)).2 : Int) : Rat) = y * sb := byq d2
  have e2 : (((trB pb sb (x', y')).2 : Int) : Rat) = y' * sb := byq d4
  have hs' : (sb : Rat) ≠ 0 := by
    have : (0 : Rat) < (sb : Rat) := by exact_mod_cast hs
    grind
  constructor
  · intro h
    rw [h, e2] at e1
    grind
  · intro h
    have : (((trB pb sb (x, y)).2 : Int) : Rat) = (((trB pb sb (x', y')).2 : Int) : Rat) := by rw [e1, e2, h]
    exact_mod_cast this
end KT
end
section
set_option maxHeartbeats 8000000
set_option Elab.async false
set_option linter.all false
set_option maxRecDepth 100000
namespace KT
open PySem L2 KM KK KQ
def atW (l : Wl) (k : Rat) : Bool := match l with
  | none => false
  | some (x, _) => decide (x = k)
def sideL (lo hi : Wl) (k : Rat) : Str := if atW lo k = true then "low" else if atW hi k = true then "high" else ""
def goesL (cs : List Ball) (lo hi : Wl) (a b : Nat) : Bool := match cs[a]?, cs[b]? with
  | some ca, some cb => if atW lo ca.pl = true then (match lo with | some (_, y) => decide (ca.sp < y) | none => false) else if atW hi ca.pl = true then (match hi with | some (_, y) => decide (y < cb.sp) | none => false) else false
  | _, _ => false
def wsp (l : Wl) (f : Rat → Bool) : Bool := match l with
  | some (_, y) => f y
  | none => false
theorem goes_eq {cs : List Ball} {lo hi : Wl} {a b : Nat} {ca cb : Ball} (ea : cs[a]? = some ca) (eb : cs[b]? = some cb) : goesL cs lo hi a b = if atW lo ca.pl = true then wsp lo (fun y => decide (ca.sp < y)) else if atW hi ca.pl = true then wsp hi (fun y => decide (y < cb.sp)) else false := by
  unfold goesL
  rw [ea, eb]; rfl
theorem side_hi {lo hi : Wl} {k : Rat} (h : atW lo k = false) : sideL lo hi k = (if atW hi k = true then ("high" : Str) else ("" : Str)) := by
  unfold sideL
  rw [if_neg (by rw [h]; simp)]
theorem side_lo {lo hi : Wl} {k : Rat} (h : atW lo k = true) : sideL lo hi k = ("low" : Str) := by
  unfold sideL
  rw [if_pos h]
def fL (cs : List Ball) (lo hi : Wl) (a b : Nat) : Option (Nat × Nat × Str) := if a < b ∨ goesL cs lo hi a b = true then some (a, b, sideL lo hi (((cs.map Ball.pl)[a]?).getD 0)) else none
def grL (cs : List Ball) (lo hi : Wl) : List (Nat × Nat × Str) := rlG (cs.map Ball.pl) (fL cs lo hi) cs.length
theorem run_eq {α : Type} [DecidableEq α] {ss : List α} : ∀ {i : Nat}, i < ss.length → ∀ j, stG ss i ≤ j → j ≤ i → ss[j]? = ss[i]?
  | 0, _, j, _, h2 => by rw [show j = 0 by omega]
  | i + 1, hi, j, h1, h2 => by
    by_cases hb : brk ss i = true
    · have e : stG ss (i + 1) = i + 1 := if_pos hb
      rw [show j = i + 1 by omega]
    · have e : stG ss (i + 1) = stG ss i := if_neg hb
      rw [e] at h1
      have hn : ss[i + 1]? = ss[i]? := by
        have : brk ss i = false := by simpa using hb
        unfold brk at this
        rw [Bool.or_eq_false_iff] at this
        have := of_decide_eq_false this.2
        exact Classical.byContradiction fun z => this z
      rcases Nat.lt_or_ge i j with h | h
      · rw [show j = i + 1 by omega]
      · rw [run_eq (by omega) j h1 h, hn]
theorem st_congr {α β : Type} [DecidableEq α] [DecidableEq β] {ss : List α} {ts : List β} : ∀ {n : Nat}, (∀ i, i < n → brk ss i = brk ts i) → stG ss n = stG ts n
  | 0, _ => rfl
  | n + 1, h => by
    have ih := st_congr (n := n) fun i hi => h i (by omega)
    show (if brk ss n = true then n + 1 else stG ss n) = (if brk ts n = true then n + 1 else stG ts n)
    rw [h n (by omega), ih]
theorem rl_congr {α β γ : Type} [DecidableEq α] [DecidableEq β] {ss : List α} {ts : List β} {f g : Nat → Nat → Option γ} : ∀ {n : Nat}, (∀ i, i < n → brk ss i = brk ts i) → (∀ i, i < n → brk ts i = true → f (stG ts i) i = g (stG ts i) i) → rlG ss f n = rlG ts g n
  | 0, _, _ => rfl
  | n + 1, h, k => by
    have ih := rl_congr (n := n) (f := f) (g := g) (fun i hi => h i (by omega)) (fun i hi => k i (by omega))
    have es := st_congr (ss := ss) (ts := ts) (n := n) fun i hi => h i (by omega)
    show (if brk ss n = true then rlG ss f n ++ (f (stG ss n) n).toList else rlG ss f n) = (if brk ts n = true then rlG ts g n ++ (g (stG ts n) n).toList else rlG ts g n)
    rw [h n (by omega), ih, es]
    by_cases c : brk ts n = true
    · rw [if_pos c, if_pos c, k n (by omega) c]
    · rw [if_neg c, if_neg c]
theorem wall_key {bs : List Ball} {lo hi : Wl} {l : Wl} (B : Bot bs lo hi) {t : Int × Int} {m : Rat} (ht : 0 < t.2) (hm : momT (tkO (bs.map bl) lo hi) t = m) (hl : ∀ u, l = some u → u ∈ tl bs lo hi) {b : Ball} (mb : b ∈ bs) :
    atS (l.map (trB (pbO (bs.map bl) lo hi) (sbO (bs.map bl) lo hi))) t (spotI (trB (pbO (bs.map bl) lo hi) (sbO (bs.map bl) lo hi) (b.pl, b.sp)) t) = atW (thenW m l) (b.pl + b.sp * m) := by
  cases l with
  | none => rfl
  | some u =>
    obtain ⟨x, y⟩ := u
    have d := B.dv _ (hl _ rfl)
    have d' := B.dv (b.pl, b.sp) (by unfold tl; exact List.mem_append_left _ (List.mem_append_right _ (List.mem_map.mpr ⟨b, mb, rfl⟩)))
    show decide (_ = spotI (trB _ _ (x, y)) t) = decide (x + y * m = b.pl + b.sp * m)
    rw [Bool.eq_iff_iff, decide_eq_true_eq, decide_eq_true_eq, spot_eq B.p0 ht d'.1 d'.2 d.1 d.2 hm]
    exact ⟨fun h => h.symm, fun h => h.symm⟩
theorem cw_one {trs : List (Int × Int)} {a : Nat} {u t : Int × Int} (e : trs[a]? = some t) : (0 < cwN trs (some u) a a) ↔ t.2 ≠ u.2 := by
  show (0 < (((trs.drop a).take (a + 1 - a)).filter fun t => decide (t.2 ≠ u.2)).length) ↔ _
  obtain ⟨ha, rfl⟩ := List.getElem?_eq_some_iff.mp e
  rw [show a + 1 - a = 1 by omega, List.drop_eq_getElem_cons ha, List.take_succ_cons, List.take_zero]
  by_cases c : trs[a].2 ≠ u.2
  · rw [List.filter_cons_of_pos (by simpa using c)]; simp [c]
  · rw [List.filter_cons_of_neg (by simpa using c)]; simp at c; simp [c]
theorem gr_eq {bs : List Ball} {lo hi : Wl} (B : Bot bs lo hi) (O : Ord bs lo hi) {t : Int × Int} {m : Rat} (ht : 0 < t.2) (hm : momT (tkO (bs.map bl) lo hi) t = m) (pm : 0 < m) :
    grP (trO (bs.map bl) lo hi) (lo.map (trB (pbO (bs.map bl) lo hi) (sbO (bs.map bl) lo hi))) (hi.map (trB (pbO (bs.map bl) lo hi) (sbO (bs.map bl) lo hi))) t = grL (bs.map (thenB m)) (thenW m lo) (thenW m hi) := by
  have ek : (bs.map (thenB m)).map Ball.pl = keyL m bs := by rw [List.map_map]; rfl
  have esp : (trO (bs.map bl) lo hi).map (fun l => spotI l t) = bs.map fun b => spotI (trB (pbO (bs.map bl) lo hi) (sbO (bs.map bl) lo hi) (b.pl, b.sp)) t := by rw [trO_bl, List.map_map]; rfl
  have dB : ∀ b ∈ bs, (b.pl.den : Int) ∣ pbO (bs.map bl) lo hi ∧ (b.sp.den : Int) ∣ sbO (bs.map bl) lo hi := fun b mb => B.dv (b.pl, b.sp) (by unfold tl; exact List.mem_append_left _ (List.mem_append_right _ (List.mem_map.mpr ⟨b, mb, rfl⟩)))
  have wl : ∀ u, lo = some u → u ∈ tl bs lo hi := fun u e => by unfold tl; rw [e]; simp [oneT]
  have wh : ∀ u, hi = some u → u ∈ tl bs lo hi := fun u e => by unfold tl; rw [e]; simp [oneT]
  unfold grP grL
  rw [ek, esp, show (trO (bs.map bl) lo hi).length = bs.length by rw [trO_bl, List.length_map], List.length_map]
  have hbrk : ∀ i, i < bs.length → brk (bs.map fun b => spotI (trB (pbO (bs.map bl) lo hi) (sbO (bs.map bl) lo hi) (b.pl, b.sp)) t) i = brk (keyL m bs) i := fun i hil => by
    unfold brk keyL
    rw [List.length_map, List.length_map, List.getElem?_map, List.getElem?_map, List.getElem?_map, List.getElem?_map]
    by_cases h1 : i + 1 = bs.length
    · rw [decide_eq_true h1]; rfl
    · obtain ⟨b, eb⟩ : ∃ b, bs[i]? = some b := ⟨_, List.getElem?_eq_getElem hil⟩
      obtain ⟨c, ec⟩ : ∃ b, bs[i + 1]? = some b := ⟨_, List.getElem?_eq_getElem (by omega)⟩
      have db := dB b (List.mem_of_getElem? eb)
      have dc := dB c (List.mem_of_getElem? ec)
      rw [eb, ec, decide_eq_false h1, Bool.false_or, Bool.false_or, Bool.eq_iff_iff, decide_eq_true_eq, decide_eq_true_eq]
      show some _ ≠ some _ ↔ some _ ≠ some _
      rw [ne_eq, ne_eq, Option.some.injEq, Option.some.injEq, spot_eq B.p0 ht dc.1 dc.2 db.1 db.2 hm]
  refine rl_congr hbrk fun i hil _ => ?_
  have hst := stG_le (keyL m bs) i
  obtain ⟨b, eb⟩ : ∃ b, bs[i]? = some b := ⟨_, List.getElem?_eq_getElem hil⟩
  obtain ⟨a, ea⟩ : ∃ b, bs[stG (keyL m bs) i]? = some b := ⟨_, List.getElem?_eq_getElem (by omega)⟩
  have hab : a.pl + a.sp * m = b.pl + b.sp * m := by
    have := run_eq (ss := keyL m bs) (i := i) (by unfold keyL; rw [List.length_map]; exact hil) (stG (keyL m bs) i) (Nat.le_refl _) hst
    unfold keyL at this
    rw [List.getElem?_map, List.getElem?_map] at this
    unfold keyL at ea
    rw [ea, eb] at this
    simpa using this
  have mb := List.mem_of_getElem? eb
  have ma := List.mem_of_getElem? ea
  generalize stG (keyL m bs) i = j at *
  have eside : sideS (lo.map (trB (pbO (bs.map bl) lo hi) (sbO (bs.map bl) lo hi))) (hi.map (trB (pbO (bs.map bl) lo hi) (sbO (bs.map bl) lo hi))) t (spotI (trB (pbO (bs.map bl) lo hi) (sbO (bs.map bl) lo hi) (b.pl, b.sp)) t) = sideL (thenW m lo) (thenW m hi) (a.pl + a.sp * m) := by
    unfold sideS sideL
    rw [wall_key B ht hm wl mb, wall_key B ht hm wh mb, hab]
  have e1 : ((List.map (fun l => spotI l t) (trO (bs.map bl) lo hi))[i]?).getD 0 = spotI (trB (pbO (bs.map bl) lo hi) (sbO (bs.map bl) lo hi) (b.pl, b.sp)) t := by
    rw [esp, List.getElem?_map, eb]; rfl
  have e2 : (((bs.map (thenB m)).map Ball.pl)[j]?).getD 0 = a.pl + a.sp * m := by
    rw [ek]; unfold keyL; rw [List.getElem?_map, ea]; rfl
  unfold fP fL
  dsimp only
  rw [e1, e2, eside]
  have hiff : (j < i ∨ 0 < cwN (trO (bs.map bl) lo hi) (wallS (sideL (thenW m lo) (thenW m hi) (a.pl + a.sp * m)) (lo.map (trB (pbO (bs.map bl) lo hi) (sbO (bs.map bl) lo hi))) (hi.map (trB (pbO (bs.map bl) lo hi) (sbO (bs.map bl) lo hi)))) j i) ↔ (j < i ∨ goesL (bs.map (thenB m)) (thenW m lo) (thenW m hi) j i = true) := by
    rcases Nat.lt_or_ge j i with h | h
    · exact ⟨fun _ => .inl h, fun _ => .inl h⟩
    · have hji : j = i := by omega
      subst hji
      obtain rfl : a = b := by rw [ea] at eb; injection eb with eb
      have etr : (trO (bs.map bl) lo hi)[j]? = some (trB (pbO (bs.map bl) lo hi) (sbO (bs.map bl) lo hi) (a.pl, a.sp)) := by rw [trO_bl, List.getElem?_map, ea]; rfl
      have eg : goesL (bs.map (thenB m)) (thenW m lo) (thenW m hi) j j = (if atW (thenW m lo) (a.pl + a.sp * m) = true then (match thenW m lo with | some (_, y) => decide (a.sp < y) | none => false) else if atW (thenW m hi) (a.pl + a.sp * m) = true then (match thenW m hi with | some (_, y) => decide (y < a.sp) | none => false) else false) := by
        unfold goesL
        rw [List.getElem?_map, ea]; rfl
      rw [eg]
      refine or_congr Iff.rfl ?_
      unfold sideL
      by_cases c1 : atW (thenW m lo) (a.pl + a.sp * m) = true
      · rw [if_pos c1, if_pos c1]
        show 0 < cwN _ (wallS "low" _ _) j j ↔ _
        rw [show wallS "low" (lo.map (trB (pbO (bs.map bl) lo hi) (sbO (bs.map bl) lo hi))) (hi.map (trB (pbO (bs.map bl) lo hi) (sbO (bs.map bl) lo hi))) = lo.map (trB (pbO (bs.map bl) lo hi) (sbO (bs.map bl) lo hi)) from by unfold wallS; rw [if_neg (by decide), if_pos rfl]]
        cases lo with
        | none => cases c1
        | some u =>
          obtain ⟨x, y⟩ := u
          have hk : x + y * m = a.pl + a.sp * m := of_decide_eq_true c1
          have d := B.dv _ (wl _ rfl)
          show 0 < cwN _ (some (trB _ _ (x, y))) j j ↔ decide (a.sp < y) = true
          rw [cw_one etr, decide_eq_true_eq, ne_eq, sp_eq B.s0 (dB a ma).2 d.2]
          have lx := O.lo rfl ma
          constructor
          · intro hne
            rcases Classical.em (a.sp < y) with z | z
            · exact z
            · have hgt : y < a.sp := by grind
              have := Rat.mul_lt_mul_of_pos_right hgt pm
              rcases lx with l | ⟨l, _⟩
              · have l : x < a.pl := l
                grind
              · have l : x = a.pl := l
                grind
          · intro h; grind
      · rw [if_neg c1, if_neg c1]
        by_cases c2 : atW (thenW m hi) (a.pl + a.sp * m) = true
        · rw [if_pos c2, if_pos c2]
          rw [show wallS "high" (lo.map (trB (pbO (bs.map bl) lo hi) (sbO (bs.map bl) lo hi))) (hi.map (trB (pbO (bs.map bl) lo hi) (sbO (bs.map bl) lo hi))) = hi.map (trB (pbO (bs.map bl) lo hi) (sbO (bs.map bl) lo hi)) from by unfold wallS; rw [if_neg (by decide), if_neg (by decide)]]
          cases hi with
          | none => cases c2
          | some u =>
            obtain ⟨x, y⟩ := u
            have hk : x + y * m = a.pl + a.sp * m := of_decide_eq_true c2
            have d := B.dv _ (wh _ rfl)
            show 0 < cwN _ (some (trB _ _ (x, y))) j j ↔ decide (y < a.sp) = true
            rw [cw_one etr, decide_eq_true_eq, ne_eq, sp_eq B.s0 (dB a ma).2 d.2]
            have lx := O.hi rfl ma
            constructor
            · intro hne
              rcases Classical.em (y < a.sp) with z | z
              · exact z
              · have hgt : a.sp < y := by grind
                have := Rat.mul_lt_mul_of_pos_right hgt pm
                rcases lx with l | ⟨l, _⟩
                · have l : a.pl < x := l
                  grind
                · have l : a.pl = x := l
                  grind
            · intro h; grind
        · rw [if_neg c2, if_neg c2]
          show 0 < cwN _ (wallS "" _ _) j j ↔ _
          rw [show wallS "" (lo.map (trB (pbO (bs.map bl) lo hi) (sbO (bs.map bl) lo hi))) (hi.map (trB (pbO (bs.map bl) lo hi) (sbO (bs.map bl) lo hi))) = none from by unfold wallS; rw [if_pos rfl]]
          show 0 < 0 ↔ false = true
          simp
  by_cases c : j < i ∨ goesL (bs.map (thenB m)) (thenW m lo) (thenW m hi) j i = true
  · rw [if_pos (hiff.mpr c), if_pos c]
  · rw [if_neg (fun z => c (hiff.mp z)), if_neg c]
theorem shut_iff {bs : List Ball} {lo hi : Wl} (O : Ord bs lo hi) {m : Rat} (pm : 0 < m) : shutM lo hi = some m ↔ ∃ x y x' y', lo = some (x, y) ∧ hi = some (x', y') ∧ x + y * m = x' + y' * m := by
  cases lo with
  | none => exact ⟨fun h => (by cases h), fun ⟨_, _, _, _, e, _⟩ => (by cases e)⟩
  | some u =>
    cases hi with
    | none => exact ⟨fun h => (by cases h), fun ⟨_, _, _, _, _, e, _⟩ => (by cases e)⟩
    | some v =>
      obtain ⟨x, y⟩ := u
      obtain ⟨x', y'⟩ := v
      have lt := O.lt x y x' y' rfl rfl
      show (if y' < y then some ((x' - x) / (y - y')) else none) = some m ↔ _
      constructor
      · intro h
        split at h
        · injection h with h
          have hd : y - y' ≠ 0 := by grind
          refine ⟨x, y, x', y', rfl, rfl, ?_⟩
          have : m * (y - y') = x' - x := by rw [← h]; grind
          grind
        · cases h
      · rintro ⟨_, _, _, _, e1, e2, h⟩
        cases e1; cases e2
        have hy : y' < y := by
          rcases Classical.em (y' < y) with z | z
          · exact z
          · have : y ≤ y' := by grind
            have := Rat.mul_le_mul_of_nonneg_right this (Rat.le_of_lt pm)
            grind
        rw [if_pos hy]
        have hd : y - y' ≠ 0 := by grind
        have : x' - x = m * (y - y') := by grind
        rw [this]
        congr 1
        grind
end KT
end
section
set_option maxHeartbeats 8000000
set_option Elab.async false
set_option linter.all false
set_option maxRecDepth 100000
namespace L2
open KM in
theorem Sz.div {m n : Nat} {x y : Rat} (h : Sz m x) (k : Sz n y) (y0 : y ≠ 0) : Sz (m + n) (x / y) := by
  rw [← over_eq]
  exact .divInt (Int.mul_ne_zero (den_ne x) (fun z => y0 (Rat.num_eq_zero.mp z))) (h.1.mul k.2) (h.2.mul k.1)
end L2
namespace KQ
open PySem L2 KM KK
theorem ORat.same {H H' : Hp} {v : V} {o : Option Rat} (h : ORat H v o) (s : Same H H') : ORat H' v o := by
  cases o with
  | none => exact h
  | some q => obtain ⟨a, e, h⟩ := h; exact ⟨a, e, s _ _ h⟩
end KQ
namespace KT
open PySem L2 KM KK
open KQ (ThAt WlAt ORat TxQ oneT shutM for_zip stG rlG brk GrsI GrAt)
theorem atC0 {α : Type} (a : α) (r : List α) : atI (a :: r) 0 = some a := atI_nat (xs := a :: r) (j := 0) rfl
theorem atC1 {α : Type} (a b : α) (r : List α) : atI (a :: b :: r) 1 = some b := atI_nat (xs := a :: b :: r) (j := 1) rfl
abbrev OT := Option (Rat × Rat)
def stepO (f : Option Rat) (p : OT × OT) : Option Rat := match p.1, p.2 with
  | some l, some r => stepR f (l, r)
  | _, _ => f
def fO (f : Option Rat) (N : List OT) : Option Rat := (N.zip N.tail).foldl stepO f
theorem fO_none (f : Option Rat) : ∀ N : List OT, fO f (none :: N) = fO f N
  | [] => rfl
  | _ :: _ => rfl
theorem fO_snoc : ∀ (N : List OT) (f : Option Rat), fO f (N ++ [none]) = fO f N
  | [], _ => rfl
  | [a], f => by cases a <;> rfl
  | a :: b :: r, f => by
    show fO (stepO f (a, b)) (b :: r ++ [none]) = fO (stepO f (a, b)) (b :: r)
    exact fO_snoc (b :: r) _
theorem fO_some : ∀ (L : List (Rat × Rat)) (f : Option Rat), fO f (L.map some) = (L.zip L.tail).foldl stepR f
  | [], _ => rfl
  | [_], _ => rfl
  | a :: b :: r, f => by
    show fO (stepR f (a, b)) ((b :: r).map some) = ((b :: r).zip r).foldl stepR (stepR f (a, b))
    exact fO_some (b :: r) _
def lnO (bs : List Ball) (lo hi : Wl) : List OT := lo :: (bs.map fun b => some (b.pl, b.sp)) ++ [hi]
theorem ln_soon (bs : List Ball) (lo hi : Wl) : fO none (lnO bs lo hi) = soonR (tl bs lo hi) := by
  have e : (bs.map fun b => some (b.pl, b.sp)) = (bs.map fun b => (b.pl, b.sp)).map some := by rw [List.map_map]; rfl
  unfold lnO tl soonR
  rw [e]
  generalize bs.map (fun b => (b.pl, b.sp)) = M
  cases lo with
  | none =>
    show fO none (none :: (M.map some ++ [hi])) = _
    rw [fO_none]
    cases hi with
    | none => rw [fO_snoc, fO_some]; simp [oneT]
    | some h =>
      have : M.map some ++ [some h] = (M ++ [h]).map some := by simp
      rw [this, fO_some]; simp [oneT]
  | some l =>
    cases hi with
    | none =>
      rw [fO_snoc]
      have : some l :: M.map some = (l :: M).map some := rfl
      rw [this, fO_some]; simp [oneT]
    | some h =>
      have : some l :: M.map some ++ [some h] = (l :: (M ++ [h])).map some := by simp
      rw [this, fO_some]; simp [oneT]
def OsI (H : Hp) (vs : List V) (N : List OT) : Prop := vs.length = N.length ∧ ∀ (i : Nat) (v : V), vs[i]? = some v → ∃ o, N[i]? = some o ∧ WlAt H v o
theorem OsI.keeps {H H' : Hp} {vs : List V} {N : List OT} (h : OsI H vs N) (t : TupS H H') : OsI H' vs N := ⟨h.1, fun i v e => by obtain ⟨o, e1, e2⟩ := h.2 i v e; exact ⟨o, e1, e2.keeps t⟩⟩
theorem OsI.nil {H : Hp} : OsI H [] [] := ⟨rfl, fun i v e => by simp at e⟩
theorem OsI.cons {H : Hp} {v : V} {o : OT} {vs : List V} {N : List OT} (h : WlAt H v o) (r : OsI H vs N) : OsI H (v :: vs) (o :: N) := by
  refine ⟨by simp [r.1], fun i u e => ?_⟩
  cases i with
  | zero => simp at e; subst e; exact ⟨o, rfl, h⟩
  | succ i => obtain ⟨x, e1, e2⟩ := r.2 i u (by simpa using e); exact ⟨x, by simpa using e1, e2⟩
theorem OsI.append {H : Hp} {vs vs' : List V} {N N' : List OT} (h : OsI H vs N) (h' : OsI H vs' N') : OsI H (vs ++ vs') (N ++ N') := by
  refine ⟨by simp [h.1, h'.1], fun i v e => ?_⟩
  by_cases hi : i < vs.length
  · rw [List.getElem?_append_left hi] at e
    rw [List.getElem?_append_left (by rw [← h.1]; exact hi)]
    exact h.2 i v e
  · rw [List.getElem?_append_right (by omega)] at e
    rw [List.getElem?_append_right (by rw [← h.1]; omega), ← h.1]
    exact h'.2 _ v e
theorem balls_os {H : Hp} : ∀ {us : List V} {bs : List Ball}, BallsAt H us bs → OsI H us (bs.map fun b => some (b.pl, b.sp))
  | _, _, .nil => .nil
  | _, _, .cons h1 h2 h3 t => .cons ⟨_, rfl, _, _, _, h1, h2, h3⟩ (balls_os t)
section
variable {P : Program} {w : World} {K : PySem.W.Frag} {mg : Str → Option Value} {base : Heap}
theorem sc_lpart : FnScope ["a", "b"] ["a", "b"] (defScope s_law_part) := ⟨rfl, rfl, rfl, by decide +kernel, rfl, by decide +kernel, by decide +kernel⟩
theorem ok_lpart (D : Df K mg "_law_part" s_law_part ["a", "b"] []) (cL : Cal P w K mg base "_law_low" 1 ["top", "bottom"] [] spLow) : Cal P w K mg base "_law_part" 2 ["a", "b"] [] (spBin (fun x y => Sz2 x y ∧ y ≠ 0) (· / ·)) := by
  refine D.cal (k := 1) sc_lpart (fun vs H Q E h => by obtain ⟨_, _, _, _, rfl, _⟩ := h; rfl) (fun f cdv A outer s H vs Q E hr h => ?_)
  obtain ⟨p, q, x, y, rfl, hp, hq, ⟨⟨hx, hy⟩, hy0⟩, k⟩ := h
  have bx := Bd4 hx
  have b_y := Bd4 hy
  refine ⟨_, (pss_one (ps_ret (pe_c cL hr (pa_cons (pe_op op_mulB (pe_ix ix_tup (pv 0) pe_int (fun _ _ => rfl)) (pe_ix ix_tup (pv 1) pe_int (fun _ _ => rfl))) (pa_cons (pe_op op_mulB (pe_ix ix_tup (pv 0) pe_int (fun _ _ => rfl)) (pe_ix ix_tup (pv 1) pe_int (fun _ _ => rfl))) pa_nil))))), ?_⟩
  refine ⟨_, rfl, p, _, _, _, rfl, rfl, .of hp, at0 .., _, rfl, q, _, _, _, rfl, rfl, .of hq, at1 .., _, _, rfl, rfl, ⟨bx.1, b_y.2⟩, ?_⟩
  refine ⟨_, rfl, p, _, _, _, rfl, rfl, .of hp, at1 .., _, rfl, q, _, _, _, rfl, rfl, .of hq, at0 .., _, _, rfl, rfl, ⟨bx.2, b_y.1⟩, ?_⟩
  refine ⟨_, _, rfl, Int.mul_ne_zero (KM.den_ne x) (fun z => hy0 (Rat.num_eq_zero.mp z)), (hx.2.mul hy.1).mono (by decide), fun r H' e h => k r H' e ?_⟩
  show RatAt H' r (x / y)
  rw [← KM.over_eq]; exact h
def spCl : Sp := fun vs H Q _ => ∃ a b l r, vs = [.ref a, .ref b] ∧ ThAt H a l.1 l.2 ∧ ThAt H b r.1 r.2 ∧ Sz 320 l.1 ∧ Sz 320 l.2 ∧ Sz 320 r.1 ∧ Sz 320 r.2 ∧ ∀ L us H', Same H H' → H' L = some (.lst us) → ((r.2 < l.2 ∧ ∃ rm, us = [.ref rm] ∧ RatAt H' rm (mo l r)) ∨ (¬ r.2 < l.2 ∧ us = [])) → Q (.ref L) H'
theorem sc_cl : FnScope ["one", "other"] ["one", "other"] (defScope s_law_closing) := ⟨rfl, rfl, rfl, by decide +kernel, rfl, by decide +kernel, by decide +kernel⟩
theorem ok_cl (D : Df K mg "_law_closing" s_law_closing ["one", "other"] []) (cBl : Cal P w K mg base "_law_below" 1 ["a", "b"] [] spLt) (cO : Cal P w K mg base "_law_off" 2 ["a", "b"] [] (spBin Sz2 (· - ·))) (cPt : Cal P w K mg base "_law_part" 2 ["a", "b"] [] (spBin (fun x y => Sz2 x y ∧ y ≠ 0) (· / ·))) : Cal P w K mg base "_law_closing" 3 ["one", "other"] [] spCl := by
  refine D.cal (k := 2) sc_cl (fun vs H Q E h => by obtain ⟨_, _, _, _, rfl, _⟩ := h; rfl) (fun f cdv A outer s H vs Q E hr h => ?_)
  obtain ⟨a, b, l, r, rfl, ⟨p1, q1, r1, ha, hp1, hq1⟩, ⟨p2, q2, r2, hb, hp2, hq2⟩, z1, z2, z3, z4, k⟩ := h
  have hr1 : Room 1 _ := hr.mono (by decide)
  have zz : ∀ {x y : Rat}, Sz 320 x → Sz 320 y → Sz2 x y := fun h h' => ⟨h.mono (by decide), h'.mono (by decide)⟩
  refine ⟨_, (pss_cons (ps_if (pt_not (pt_truth (pe_c cBl hr1 (pa_cons (pe_ix ix_tup (pv 1) pe_int (fun _ _ => rfl)) (pa_cons (pe_ix ix_tup (pv 0) pe_int (fun _ _ => rfl)) pa_nil))) fun _ => rfl)) (pss_one (ps_ret (pe_lst pa_nil))) pss_nil)
    (pss_one (ps_ret (pe_lst (pa_cons (pe_c cPt hr (pa_cons (pe_c cO hr (pa_cons (pe_ix ix_tup (pv 1) pe_int (fun _ _ => rfl)) (pa_cons (pe_ix ix_tup (pv 0) pe_int (fun _ _ => rfl)) pa_nil))) (pa_cons (pe_c cO hr (pa_cons (pe_ix ix_tup (pv 0) pe_int (fun _ _ => rfl)) (pa_cons (pe_ix ix_tup (pv 1) pe_int (fun _ _ => rfl)) pa_nil))) pa_nil))) pa_nil))))), ?_⟩
  refine ⟨_, rfl, b, _, _, _, rfl, rfl, .of hb, atC1 .., _, rfl, a, _, _, _, rfl, rfl, .of ha, atC1 .., q2, q1, _, _, rfl, hq2, hq1, zz z4 z2, _, rfl, ?_⟩
  by_cases c : r.2 < l.2
  · rw [decide_eq_true c]
    refine iteF ?_
    refine ⟨_, rfl, b, _, _, _, rfl, rfl, .of hb, atC0 .., _, rfl, a, _, _, _, rfl, rfl, .of ha, atC0 .., p2, p1, _, _, rfl, hp2, hp1, zz z3 z1, fun d1 H1 e1 hd1 => ?_⟩
    refine ⟨_, rfl, a, _, _, _, rfl, rfl, .of (e1 _ _ ha), atC1 .., _, rfl, b, _, _, _, rfl, rfl, .of (e1 _ _ hb), atC1 .., q1, q2, _, _, rfl, e1 _ _ hq1, e1 _ _ hq2, zz z2 z4, fun d2 H2 e2 hd2 => ?_⟩
    refine ⟨d1, d2, _, _, rfl, e2 _ _ hd1, hd2, ⟨⟨(Sz.sub z3 z1).mono (by decide), (Sz.sub z2 z4).mono (by decide)⟩, by grind⟩, fun rm H3 e3 hrm => ⟨by show 1 ≤ sizeLine; decide, fun L hL => ?_⟩⟩
    exact k L _ _ (e1.trans (e2.trans (e3.trans (Same.upd hL)))) upd_same (.inl ⟨c, rm, rfl, Same.upd hL _ _ hrm⟩)
  · rw [decide_eq_false c]
    exact iteT ⟨by show 0 ≤ sizeLine; exact Nat.zero_le _, fun L hL => k L _ _ (Same.upd hL) upd_same (.inr ⟨c, rfl⟩)⟩

def spSn : Sp := fun vs H Q _ => ∃ r wl us v1 v2 bs lo hi, vs = [.ref r, .ref wl] ∧ H r = some (.tup us) ∧ BallsAt H us bs ∧ H wl = some (.tup [v1, v2]) ∧ WallAt H v1 lo ∧ WallAt H v2 hi ∧ bs.length ≤ 8 ∧ TZ bs lo hi ∧ ∀ v H', Same H H' → ORat H' v (soonR (tl bs lo hi)) → (∀ q, soonR (tl bs lo hi) = some q → Sz 1400 q) → Q v H'
theorem sc_sn : FnScope ["row", "walls", "found", "line", "one", "other", "moment"] ["row", "walls"] (defScope s_law_soonest) := ⟨rfl, rfl, rfl, by decide +kernel, rfl, by decide +kernel, by decide +kernel⟩
theorem mo_sz {l r : Rat × Rat} (z1 : Sz 320 l.1) (z2 : Sz 320 l.2) (z3 : Sz 320 r.1) (z4 : Sz 320 r.2) (h : r.2 < l.2) : Sz 1400 (mo l r) := ((Sz.sub z3 z1).div (Sz.sub z2 z4) (by grind)).mono (by decide)
theorem ok_sn (D : Df K mg "_law_soonest" s_law_soonest ["row", "walls"] []) (T : TxQ K mg) (cBl : Cal P w K mg base "_law_below" 1 ["a", "b"] [] spLt) (cCl : Cal P w K mg base "_law_closing" 3 ["one", "other"] [] spCl) : Cal P w K mg base "_law_soonest" 4 ["row", "walls"] [] spSn := by
  refine D.calB (k := 3) sc_sn (fun vs H Q E h => by obtain ⟨_, _, _, _, _, _, _, _, rfl, _⟩ := h; rfl) (fun f cdv A outer s H vs Q E hr h => ?_)
  obtain ⟨r, wl, us, v1, v2, bs, lo, hi, rfl, hrr, hR, hwl, hv1, hv2, h8, hz, k⟩ := h
  have hr1 : Room 1 _ := hr.mono (by decide)
  have hul := hR.length
  refine ⟨_, (bx_scons (Bx.mk (ps_set (i := 2) sc_sn.nd rfl (Or.inl rfl) pe_non))
    (bx_scons (Bx.mk (ps_set (i := 3) sc_sn.nd rfl (Or.inl rfl) (pe_op op_cat (pe_op op_cat (pe_lst (pa_cons (pe_ix ix_tup (pv 1) pe_int (fun _ _ => rfl)) pa_nil)) (pe_callTy call_list_of (by rfl) T.nList PyProof.Rows.boot_list (pa_cons (pv 0) pa_nil))) (pe_lst (pa_cons (pe_ix ix_tup (pv 1) pe_int (fun _ _ => rfl)) pa_nil)))))
    (bx_scons (Bx.mk (ps_for PassesOwn.never rfl (pi_zipL (by rfl) T.nZip (pa_cons (pv 3) (pa_cons (pe_slice sl_list (pv 3) (po_some pe_int) po_none) pa_nil))) (pg_tup rfl (pgs_cons (pg_name (i := 4) sc_sn.nd rfl (Or.inl rfl)) (pgs_cons (pg_name (i := 5) sc_sn.nd rfl (Or.inl rfl)) pgs_nil))) (pss_one (ps_if (pw_and (pt_cmpR op_notN (pv 4) pe_non (nomark _)) (pw_and1 (pt_cmpR op_notN (pv 5) pe_non (nomark _)))).pt (pss_one (ps_for PassesOwn.never rfl (pi_list (pe_c cCl hr (pa_cons (pv 4) (pa_cons (pv 5) pa_nil)))) (pg_name (i := 6) sc_sn.nd rfl (Or.inl rfl)) (pss_one (ps_if ((pw_or (pt_cmpR op_isN (pv 2) pe_non (nomark _)) (pw_or1 (pt_truth (pe_c cBl hr1 (pa_cons (pv 6) (pa_cons (pv 2) pa_nil))) fun _ => rfl)))).pt (pss_one (ps_set (i := 2) sc_sn.nd rfl (Or.inl rfl) (pv 6))) pss_nil)))) pss_nil))))
    (Bx.mk (pss_one (ps_ret (pv 2))))))), ?_⟩
  dsimp only [gName]
  refine ⟨_, rfl, wl, _, _, _, rfl, rfl, .of hwl, rfl, by show 1 ≤ sizeLine; decide, fun l1 hl1 => ?_⟩
  have s1 := Same.upd (o := .lst [v1]) hl1
  have hl1' : upd H l1 (.lst [v1]) l1 = some (.lst [v1]) := upd_same
  generalize upd H l1 (.lst [v1]) = G1 at s1 hl1'
  refine ⟨_, rfl, r, us, rfl, .inr (.of (s1 _ _ hrr)), fun l2 hl2 => ?_⟩
  have s2 := Same.upd (o := .lst us) hl2
  have hl2' : upd G1 l2 (.lst us) l2 = some (.lst us) := upd_same
  generalize upd G1 l2 (.lst us) = G2 at s2 hl2'
  refine ⟨l1, l2, _, _, rfl, rfl, s2 _ _ hl1', hl2', szl (by simp; omega), fun l3 hl3 => ?_⟩
  have s3 := Same.upd (o := .lst ([v1] ++ us)) hl3
  have hl3' : upd G2 l3 (.lst ([v1] ++ us)) l3 = some (.lst ([v1] ++ us)) := upd_same
  generalize upd G2 l3 (.lst ([v1] ++ us)) = G3 at s3 hl3'
  have S3 := s1.trans (s2.trans s3)
  have hwl3 := S3 _ _ hwl
  refine ⟨_, rfl, wl, _, _, _, rfl, rfl, .of hwl3, rfl, by show 1 ≤ sizeLine; decide, fun l4 hl4 => ?_⟩
  have s4 := Same.upd (o := .lst [v2]) hl4
  have hl4' : upd G3 l4 (.lst [v2]) l4 = some (.lst [v2]) := upd_same
  generalize upd G3 l4 (.lst [v2]) = G4 at s4 hl4'
  refine ⟨l3, l4, _, _, rfl, rfl, s4 _ _ hl3', hl4', szl (by simp; omega), fun ln hln => ?_⟩
  have s5 := Same.upd (o := .lst ([v1] ++ us ++ [v2])) hln
  have hln' : upd G4 ln (.lst ([v1] ++ us ++ [v2])) ln = some (.lst ([v1] ++ us ++ [v2])) := upd_same
  generalize upd G4 ln (.lst ([v1] ++ us ++ [v2])) = G5 at s5 hln'
  have S5 := S3.trans (s4.trans s5)
  dsimp only [gName]
  have hTs : OsI G5 ([v1] ++ us ++ [v2]) (lnO bs lo hi) := by
    have := OsI.cons ((wl_i hv1).keeps (.of S5)) (((balls_os hR).keeps (.of S5)).append (OsI.cons ((wl_i hv2).keeps (.of S5)) .nil))
    unfold lnO
    simpa using this
  have hl10 : ([v1] ++ us ++ [v2]).length ≤ 10 := by simp; omega
  obtain ⟨vs', evs⟩ : ∃ vs', vs' = [v1] ++ us ++ [v2] := ⟨_, rfl⟩
  rw [← evs] at hln' hTs hl10
  clear hl1' hl2' hl3' hl4' s1 s2 s3 s4 s5 S3 hwl3
  have hz' : ∀ (i : Nat) (t : Rat × Rat), (lnO bs lo hi)[i]? = some (some t) → Sz 320 t.1 ∧ Sz 320 t.2 := fun i t e => by
    have m := List.mem_of_getElem? e
    have : t ∈ tl bs lo hi := by
      unfold lnO at m
      unfold tl
      simp only [List.cons_append, List.mem_cons, List.mem_append, List.mem_map, List.not_mem_nil, or_false] at m ⊢
      rcases m with m | ⟨b, mb, eb⟩ | m
      · exact .inl (.inl (by rw [← m]; simp [oneT]))
      · exact .inl (.inr ⟨b, mb, by injection eb⟩)
      · exact .inr (by rw [← m]; simp [oneT])
    have := hz t this
    exact ⟨this.1, this.2.mono (by decide)⟩
  rw [← ln_soon] at k
  unfold fO at k
  generalize lnO bs lo hi = L at *
  have hll := hTs.1
  refine st_mid (fun σ' G => ∃ z4 z5 z6 v, σ' = [some (.ref r), some (.ref wl), some v, some (.ref ln), z4, z5, z6] ∧ Same H G ∧ ORat G v ((L.zip L.tail).foldl stepO none) ∧ ∀ q, (L.zip L.tail).foldl stepO none = some q → Sz 1400 q) ?_ ?_
  rotate_left
  · intro nx hnx
    refine ⟨_, rfl, _, rfl, _, rfl, ln, vs', rfl, .of hln', fun l6 hl6 => ?_⟩
    have s6 := Same.upd (o := .lst (cutV vs' (some 1) none)) hl6
    have hl6' : upd G5 l6 (.lst (cutV vs' (some 1) none)) l6 = some (.lst (vs'.drop 1)) := by rw [upd_same]; exact congrArg (fun l => some (HO.lst l)) (cutG_from vs' 1)
    have hln6 := s6 _ _ hln'
    have S6 := S5.trans s6
    have hTs6 := hTs.keeps (.of s6)
    generalize upd G5 l6 (.lst (cutV vs' (some 1) none)) = G6 at *
    refine ⟨ln, l6, rfl, ⟨_, SqL.of hln6⟩, ⟨_, SqL.of hl6'⟩, for_zip (xs := vs') (ys := vs'.drop 1) (fun i σ G => ∃ z4 z5 z6 v, σ = [some (.ref r), some (.ref wl), some v, some (.ref ln), z4, z5, z6] ∧ Same G6 G ∧ ORat G v (((L.zip L.tail).take i).foldl stepO none) ∧ ∀ q, ((L.zip L.tail).take i).foldl stepO none = some q → Sz 1400 q)
      ⟨_, _, _, .non, rfl, Same.refl _, rfl, fun q e => by cases e⟩ (fun i σ G ⟨_, _, _, _, _, s', _⟩ => ⟨.of (s' _ _ hln6), .of (s' _ _ hl6')⟩) ?_ ?_⟩
    · rintro i x y σ G Tt hx hy ⟨z4, z5, z6, v, rfl, SG, hv, hq⟩ hTt
      obtain ⟨o1, et1, ho1⟩ := hTs6.2 i x hx
      rw [List.getElem?_drop] at hy
      obtain ⟨o2, et2, ho2⟩ := hTs6.2 _ y hy
      rw [Nat.add_comm] at et2
      have sT := Same.upd (o := .tup [x, y]) hTt
      have hTT : upd G Tt (.tup [x, y]) Tt = some (.tup [x, y]) := upd_same
      generalize upd G Tt (.tup [x, y]) = G2 at sT hTT
      have S2 := SG.trans sT
      have ez : (L.zip L.tail)[i]? = some (o1, o2) := by
        rw [List.getElem?_zip_eq_some]
        refine ⟨et1, ?_⟩
        rw [List.getElem?_tail]; exact et2
      have ef : ((L.zip L.tail).take (i + 1)).foldl stepO none = stepO (((L.zip L.tail).take i).foldl stepO none) (o1, o2) := by
        rw [List.take_add_one, ez]; simp [List.foldl_append]
      rw [ef]
      generalize ((L.zip L.tail).take i).foldl stepO none = fo at hv hq
      have hv2 : ORat G2 v fo := hv.same sT
      refine ⟨Tt, _, rfl, .of hTT, rfl, _, _, rfl, _, _, rfl, rfl, ?_⟩
      have ho1' := ho1.keeps (.of S2)
      have ho2' := ho2.keeps (.of S2)
      cases o1 with
      | none =>
        obtain rfl : x = .non := ho1'
        exact ⟨_, rfl, rfl, _, rfl, iteF (iteF ⟨_, _, _, v, rfl, S2, hv2, hq⟩)⟩
      | some t1 =>
        obtain ⟨a1, rfl, ha1⟩ := ho1'
        refine ⟨_, rfl, rfl, _, rfl, iteT ?_⟩
        cases o2 with
        | none =>
          obtain rfl : y = .non := ho2'
          exact ⟨_, rfl, rfl, _, rfl, iteF ⟨_, _, _, v, rfl, S2, hv2, hq⟩⟩
        | some t2 =>
          obtain ⟨a2, rfl, ha2⟩ := ho2'
          refine ⟨_, rfl, rfl, _, rfl, iteT ?_⟩
          have b1 := hz' i t1 et1
          have b2 := hz' _ t2 et2
          show tFor _ _ _ _ _ _
          refine ⟨_, rfl, _, rfl, a1, a2, t1, t2, rfl, ha1, ha2, b1.1, b1.2, b2.1, b2.2, fun Lc us' G3 s3 hLc hc => ?_⟩
          have S3 := S2.trans s3
          have hv3 : ORat G3 v fo := hv2.same s3
          have eo : stepO fo (some t1, some t2) = stepR fo (t1, t2) := rfl
          rw [eo]
          refine ⟨Lc, rfl, ⟨_, SqL.of hLc⟩, ?_⟩
          rcases hc with ⟨c, rm, rfl, hrm⟩ | ⟨c, rfl⟩
          · refine for_list (xs := [.ref rm]) (fun j σ G' => G' = G3 ∧ ((j = 0 ∧ σ = [some (.ref r), some (.ref wl), some v, some (.ref ln), some (.ref a1), some (.ref a2), z6]) ∨ (j = 1 ∧ ∃ v', σ = [some (.ref r), some (.ref wl), some v', some (.ref ln), some (.ref a1), some (.ref a2), some (.ref rm)] ∧ ORat G3 v' (stepR fo (t1, t2)) ∧ ∀ q, stepR fo (t1, t2) = some q → Sz 1400 q)))
              ⟨rfl, .inl ⟨rfl, rfl⟩⟩ (fun j σ G' _ ⟨e, _⟩ => by rw [e]; exact .of hLc) ?_ ?_
            · rintro j x σ G' hx ⟨rfl, hj⟩
              rcases hj with ⟨rfl, rfl⟩ | ⟨rfl, _⟩
              · cases hx
                dsimp only [gName]
                have zm := mo_sz b1.1 b1.2 b2.1 b2.2 c
                have e0 : stepR none (t1, t2) = some (mo t1 t2) := if_pos c
                have e1 : ∀ u, stepR (some u) (t1, t2) = if mo t1 t2 < u then some (mo t1 t2) else some u := fun u => if_pos c
                cases fo with
                | none =>
                  obtain rfl : v = .non := hv3
                  refine ⟨_, rfl, rfl, _, rfl, iteT ⟨_, rfl, rfl, .inr ⟨rfl, _, rfl, ?_, ?_⟩⟩⟩
                  · rw [e0]; exact ⟨rm, rfl, hrm⟩
                  · rw [e0]; intro q e; cases e; exact zm
                | some u =>
                  obtain ⟨af, rfl, haf⟩ := hv3
                  refine ⟨_, rfl, rfl, _, rfl, iteF ⟨_, rfl, _, rfl, rm, af, _, _, rfl, hrm, haf, ⟨zm.mono (by decide), (hq u rfl).mono (by decide)⟩, _, rfl, ?_⟩⟩
                  by_cases c2 : mo t1 t2 < u
                  · rw [decide_eq_true c2]
                    refine iteT ⟨_, rfl, rfl, .inr ⟨rfl, _, rfl, ?_, ?_⟩⟩
                    · rw [e1, if_pos c2]; exact ⟨rm, rfl, hrm⟩
                    · rw [e1, if_pos c2]; intro q e; cases e; exact zm
                  · rw [decide_eq_false c2]
                    refine iteF ⟨rfl, .inr ⟨rfl, _, rfl, ?_, ?_⟩⟩
                    · rw [e1, if_neg c2]; exact ⟨af, rfl, haf⟩
                    · rw [e1, if_neg c2]; exact hq
              · cases hx
            · rintro σ G' ⟨rfl, hj⟩
              rcases hj with ⟨z, _⟩ | ⟨_, v', rfl, h1, h2⟩
              · cases z
              · exact ⟨_, _, _, v', rfl, S3, h1, h2⟩
          · have e0 : stepR fo (t1, t2) = fo := if_neg c
            rw [e0]
            refine for_list (xs := []) (fun j σ G' => G' = G3 ∧ σ = [some (.ref r), some (.ref wl), some v, some (.ref ln), some (.ref a1), some (.ref a2), z6]) ⟨rfl, rfl⟩ (fun j σ G' _ ⟨e, _⟩ => by rw [e]; exact .of hLc) ?_ ?_
            · rintro j x σ G' hx; simp at hx
            · rintro σ G' ⟨rfl, rfl⟩
              exact ⟨_, _, _, v, rfl, S3, hv3, hq⟩
    · rintro σ G ⟨z4, z5, z6, v, rfl, SG, hv, hq⟩
      have el : min vs'.length (vs'.drop 1).length = (L.zip L.tail).length := by simp; omega
      rw [el, List.take_of_length_le (Nat.le_refl _)] at hv hq
      exact hnx _ _ ⟨z4, z5, z6, v, rfl, S6.trans SG, hv, hq⟩
  rintro σ' G ⟨z4, z5, z6, v, rfl, SG, hv, hq⟩
  exact ⟨_, rfl, k v G SG hv hq⟩
end
end KT
end
section
set_option maxHeartbeats 8000000
set_option Elab.async false
set_option linter.all false
set_option maxRecDepth 100000
namespace KT
open PySem L2 KM KK
open KQ (ThAt WlAt ORat TxQ oneT shutM for_zip stG rlG brk GrsI GrAt stG_le)
def ThR (H : Hp) (v : V) (o : OT) (rest : List V) : Prop := match o with
  | none => v = .non
  | some t => ∃ a p q, v = .ref a ∧ H a = some (.tup (.ref p :: .ref q :: rest)) ∧ RatAt H p t.1 ∧ RatAt H q t.2
theorem ThR.tups {H H' : Hp} {v : V} {o : OT} {rest : List V} (h : ThR H v o rest) (e : TupS H H') : ThR H' v o rest := by
  cases o with
  | none => exact h
  | some t => obtain ⟨a, p, q, h1, h2, h3, h4⟩ := h; exact ⟨a, p, q, h1, e _ _ h2, e _ _ h3, e _ _ h4⟩
def OsR (H : Hp) (vs : List V) (N : List (OT × List V)) : Prop := vs.length = N.length ∧ ∀ (i : Nat) (v : V) (n : OT × List V), vs[i]? = some v → N[i]? = some n → ThR H v n.1 n.2
theorem OsR.tups {H H' : Hp} {vs : List V} {N : List (OT × List V)} (h : OsR H vs N) (e : TupS H H') : OsR H' vs N := ⟨h.1, fun i v n a b => (h.2 i v n a b).tups e⟩
def onO (m : Rat) (o : OT) : OT := o.map fun t => (t.1 + t.2 * m, t.2)
section
variable {P : Program} {w : World} {K : PySem.W.Frag} {mg : Str → Option Value} {base : Heap}
def spOn : Sp := fun vs H Q _ => ∃ a pm us N m, vs = [.ref a, .ref pm] ∧ H a = some (.tup us) ∧ OsR H us N ∧ N.length ≤ 8 ∧ (∀ n ∈ N, n.2.length ≤ 1 ∧ ∀ t, n.1 = some t → Sz 320 t.1 ∧ Sz 80 t.2) ∧ RatAt H pm m ∧ Sz 1400 m ∧ ∀ r us' H', Same H H' → H' r = some (.tup us') → OsR H' us' (N.map fun n => (onO m n.1, n.2)) → Q (.ref r) H'
theorem sc_on : FnScope ["things", "t", "found", "thing"] ["things", "t"] (defScope s_law_on) := ⟨rfl, rfl, rfl, by decide +kernel, rfl, by decide +kernel, by decide +kernel⟩
theorem ok_on (D : Df K mg "_law_on" s_law_on ["things", "t"] []) (T : TxQ K mg) (cA : Cal P w K mg base "_law_add" 2 ["a", "b"] [] (spBin Sz2 (· + ·))) (cBy : Cal P w K mg base "_law_by" 2 ["a", "b"] [] (spBin Sz2 (· * ·))) : Cal P w K mg base "_law_on" 3 ["things", "t"] [] spOn := by
  refine D.calB (k := 2) sc_on (fun vs H Q E h => by obtain ⟨_, _, _, _, _, rfl, _⟩ := h; rfl) (fun f cdv A outer s H vs Q E hr h => ?_)
  obtain ⟨a, pm, us, N, m, rfl, ha, hO, h8, hz, hm, zm, k⟩ := h
  have hul := hO.1
  refine ⟨_, (bx_scons (Bx.mk (ps_set (i := 2) sc_on.nd rfl (Or.inl rfl) (pe_lst pa_nil)))
    (bx_scons (Bx.mk (ps_for PassesOwn.never rfl (pi_tup (pv 0)) (pg_name (i := 3) sc_on.nd rfl (Or.inl rfl)) (pss_cons (ps_if (pt_cmpR op_notN (pv 3) pe_non (nomark _)) (pss_one (ps_set (i := 3) sc_on.nd rfl (Or.inl rfl) (pe_op op_catA (pe_tup (pa_cons (pe_c cA hr (pa_cons (pe_ix ix_tup (pv 3) pe_int (fun _ _ => rfl)) (pa_cons (pe_c cBy hr (pa_cons (pe_ix ix_tup (pv 3) pe_int (fun _ _ => rfl)) (pa_cons (pv 1) pa_nil))) pa_nil))) pa_nil)) (pe_slice sl_tup (pv 3) (po_some pe_int) po_none)))) pss_nil) (pss_one (ps_expr (pe_bm PySem.F.plainAttrs_list PySem.F.slot_list_append PySem.F.type_list_append mt_append (pv 2) (pa_cons (pv 3) pa_nil)))))))
    (Bx.mk (pss_one (ps_ret (pe_callTy call_tuple_of (by rfl) T.nTuple PyProof.Rows.boot_tuple (pa_cons (pv 2) pa_nil))))))), ?_⟩
  refine ⟨by show 0 ≤ sizeLine; exact Nat.zero_le _, fun l hl => ?_⟩
  have S1 : Same H (upd H l (.lst [])) := Same.upd hl
  have hl1 : upd H l (.lst []) l = some (.lst []) := upd_same
  generalize upd H l (.lst []) = G1 at S1 hl1
  dsimp only [gName]
  refine st_for ?_
  refine ⟨_, rfl, a, rfl, ⟨us, SqT.of (S1 _ _ ha)⟩, ?_⟩
  refine for_tup (xs := us) (fun i σ G => ∃ z3 vs', σ = [some (.ref a), some (.ref pm), some (.ref l), z3] ∧ Same H G ∧ G l = some (.lst vs') ∧ vs'.length = i ∧ ∀ (j : Nat) (v : V) (n : OT × List V), vs'[j]? = some v → N[j]? = some n → ThR G v (onO m n.1) n.2)
    ⟨_, [], rfl, S1, hl1, rfl, fun j v n e => by simp at e⟩ (fun i σ G _ ⟨_, _, _, s, _⟩ => SqT.of (s _ _ ha)) ?_ ?_
  · rintro i x σ G hx ⟨z3, vs', rfl, SG, hlG, hvl, hvR⟩
    have hi : i < us.length := (List.getElem?_eq_some_iff.mp hx).1
    obtain ⟨n, en⟩ : ∃ n, N[i]? = some n := ⟨_, List.getElem?_eq_getElem (by omega)⟩
    have hx0 := hO.2 i x n hx en
    have zn := hz n (List.mem_of_getElem? en)
    dsimp only [gName]
    -- the thing gone on
    refine st_mid (fun σ' G' => ∃ v, σ' = [some (.ref a), some (.ref pm), some (.ref l), some v] ∧ Same G G' ∧ ThR G' v (onO m n.1) n.2) ?_ ?_
    rotate_left
    · intro nx hnx
      obtain ⟨o, rest⟩ := n
      cases o with
      | none =>
        obtain rfl : x = .non := hx0
        exact ⟨_, rfl, rfl, _, rfl, iteF (hnx _ _ ⟨.non, rfl, Same.refl _, rfl⟩)⟩
      | some t =>
        obtain ⟨ax, p, q, rfl, g1, g2, g3⟩ := hx0
        have zt := zn.2 t rfl
        refine ⟨_, rfl, rfl, _, rfl, iteT ?_⟩
        have h1 := SG _ _ g1
        refine ⟨_, rfl, ax, _, _, _, rfl, rfl, .of h1, atC0 .., _, rfl, ax, _, _, _, rfl, rfl, .of h1, atC1 .., _, rfl, q, pm, _, _, rfl, SG _ _ g3, SG _ _ hm, ⟨zt.2.mono (by decide), zm.mono (by decide)⟩, fun r1 G2 e2 h2 => ?_⟩
        refine ⟨p, r1, _, _, rfl, e2 _ _ (SG _ _ g2), h2, ⟨zt.1.mono (by decide), (zt.2.mul zm).mono (by decide)⟩, fun r2 G3 e3 h3 => ⟨by show 1 ≤ sizeLine; decide, fun p1 hp1 => ?_⟩⟩
        have S4 : Same G (upd G3 p1 (.tup [.ref r2])) := e2.trans (e3.trans (Same.upd hp1))
        have hp1' : upd G3 p1 (.tup [.ref r2]) p1 = some (.tup [.ref r2]) := upd_same
        have h3' : RatAt (upd G3 p1 (.tup [.ref r2])) r2 (t.1 + t.2 * m) := Same.upd hp1 _ _ h3
        generalize upd G3 p1 (.tup [.ref r2]) = G4 at S4 hp1' h3'
        have w1 : ¬ (HT.sIx (V.ref p :: .ref q :: rest).length 0 (some 1) = 0 ∧ HT.sIx (V.ref p :: .ref q :: rest).length (V.ref p :: .ref q :: rest).length none = (V.ref p :: .ref q :: rest).length) := fun ⟨z, _⟩ => by
          rw [show (1 : Int) = ((1 : Nat) : Int) from rfl, HT.sIx_nat] at z
          simp only [List.length_cons] at z; omega
        refine ⟨_, rfl, _, rfl, ax, _, rfl, .of (S4 _ _ h1), w1, fun p2 hp2 => ?_⟩
        have S5 : Same G4 (upd G4 p2 (.tup (cutV (V.ref p :: .ref q :: rest) (some 1) none))) := Same.upd hp2
        have hp2' : upd G4 p2 (.tup (cutV (V.ref p :: .ref q :: rest) (some 1) none)) p2 = some (.tup (.ref q :: rest)) := by rw [upd_same]; exact congrArg (fun l => some (HO.tup l)) (cutG_from (V.ref p :: .ref q :: rest) 1)
        generalize upd G4 p2 (.tup (cutV (V.ref p :: .ref q :: rest) (some 1) none)) = G5 at S5 hp2'
        have hrl : rest.length ≤ 1 := zn.1
        refine ⟨p1, p2, [.ref r2], .ref q :: rest, rfl, rfl, .of (S5 _ _ hp1'), .of hp2', szl (by simp; omega), fun z => (by cases z), fun _ z => (by cases z), fun _ _ p3 hp3 => ?_⟩
        have S6 : Same G5 (upd G5 p3 (.tup ([.ref r2] ++ .ref q :: rest))) := Same.upd hp3
        exact hnx _ _ ⟨.ref p3, rfl, S4.trans (S5.trans S6), p3, r2, q, rfl, upd_same, (S5.trans S6) _ _ h3', (S4.trans (S5.trans S6)) _ _ (SG _ _ g3)⟩
    rintro σ' G2 ⟨v, rfl, S2, hv⟩
    have hl2 := S2 _ _ hlG
    refine ⟨_, rfl, .inl ⟨rfl, _, SqL.of hl2⟩, _, rfl, l, vs', _, rfl, rfl, hl2, small1000 (by omega), ?_⟩
    have Tu : TupS G2 (upd G2 l (.lst (vs' ++ [v]))) := .upd hl2
    refine ⟨_, vs' ++ [v], rfl, fun b o e => ?_, upd_same, by simp [hvl], fun j u n' f1 f2 => ?_⟩
    · rw [upd_ne (ne_of_none e hl)]; exact S2 _ _ (SG _ _ e)
    · by_cases hj : j < vs'.length
      · rw [List.getElem?_append_left hj] at f1
        exact ((hvR j u n' f1 f2).tups (.of S2)).tups Tu
      · rw [List.getElem?_append_right (by omega)] at f1
        have hj' : j - vs'.length = 0 := by
          rcases Nat.eq_zero_or_pos (j - vs'.length) with z | z
          · exact z
          · rw [List.getElem?_eq_none (by simp; omega)] at f1; cases f1
        rw [hj'] at f1; cases f1
        have : j = i := by omega
        subst this
        rw [en] at f2; cases f2
        exact hv.tups Tu
  · rintro σ G ⟨z3, vs', rfl, SG, hlG, hvl, hvR⟩
    refine ⟨_, rfl, l, vs', rfl, .inl ⟨.of hlG, fun r hr' => k r vs' _ (SG.trans (Same.upd hr')) upd_same ⟨by rw [List.length_map]; omega, fun j v n f1 f2 => ?_⟩⟩⟩
    rw [List.getElem?_map] at f2
    cases hn : N[j]? with
    | none => rw [hn] at f2; cases f2
    | some n' => rw [hn] at f2; cases f2; exact (hvR j v n' f1 hn).tups (.of (Same.upd hr'))
def CZ (cs : List Ball) (lo hi : Wl) : Prop := (∀ b ∈ cs, Sz 2000 b.pl ∧ Sz 80 b.sp) ∧ (∀ x y, lo = some (x, y) → Sz 2000 x ∧ Sz 80 y) ∧ (∀ x y, hi = some (x, y) → Sz 2000 x ∧ Sz 80 y)
def spLg : Sp := fun vs H Q _ => ∃ r wl us cs v1 v2 lo hi, vs = [.ref r, .ref wl] ∧ H r = some (.tup us) ∧ BallsAt H us cs ∧ cs.length ≤ 8 ∧ H wl = some (.tup [v1, v2]) ∧ WallAt H v1 lo ∧ WallAt H v2 hi ∧ CZ cs lo hi ∧ ∀ G gs H', Same H H' → H G = none → H' G = some (.lst gs) → GrsI H' gs (grL cs lo hi) → Q (.ref G) H'
theorem sc_lg : FnScope ["row", "walls", "found", "start", "end", "where", "goes"] ["row", "walls"] (defScope s_law_groups) := ⟨rfl, rfl, rfl, by decide +kernel, rfl, by decide +kernel, by decide +kernel⟩
theorem eqv_q (x y : Rat) : PyData.eqv (.tuple [.int x.num, .int (x.den : Int)]) (.tuple [.int y.num, .int (y.den : Int)]) = decide (x = y) := eqv_rp x y
theorem ok_lg (D : Df K mg "_law_groups" s_law_groups ["row", "walls"] []) (T : TxQ K mg) (cBl : Cal P w K mg base "_law_below" 1 ["a", "b"] [] spLt) : Cal P w K mg base "_law_groups" 2 ["row", "walls"] [] spLg := by
  refine D.calB (k := 1) sc_lg (fun vs H Q E h => by obtain ⟨_, _, _, _, _, _, _, _, rfl, _⟩ := h; rfl) (fun f cdv A outer s H vs Q E hr h => ?_)
  obtain ⟨r, wl, us, cs, v1, v2, lo, hi, rfl, hrr, hB, h8, hwl, hv1, hv2, hz, k⟩ := h
  have hr1 : Room 1 _ := hr
  have hu := hr.units
  have hul := hB.length
  refine ⟨_, (bx_scons (Bx.mk (ps_set (i := 2) sc_lg.nd rfl (Or.inl rfl) (pe_lst pa_nil)))
    (bx_scons (Bx.mk (ps_set (i := 3) sc_lg.nd rfl (Or.inl rfl) pe_int))
    (bx_scons (Bx.mk (ps_while PassesOwn.never (pt_cmpR op_lt (pv 3) (pe_callB call_len_seq (by rfl) T.nLen PySem.boot_len (pa_cons (pv 0) pa_nil)) (nomark _)) (bx_out (bx_scons (Bx.mk (ps_set (i := 4) sc_lg.nd rfl (Or.inl rfl) (pv 3)))
    (bx_scons (Bx.mk (ps_while PassesOwn.never (pw_and (pt_cmpR op_lt (pe_op op_add (pv 4) pe_int) (pe_callB call_len_seq (by rfl) T.nLen PySem.boot_len (pa_cons (pv 0) pa_nil)) (nomark _)) (pw_and1 (pt_cmpR (op_eqD hu) (pe_ix ix_tup (pe_ix ix_tup (pv 0) (pe_op op_add (pv 4) pe_int) (fun _ _ => rfl)) pe_int (fun _ _ => rfl)) (pe_ix ix_tup (pe_ix ix_tup (pv 0) (pv 3) (fun _ _ => rfl)) pe_int (fun _ _ => rfl)) (nomark _)))).pt (pss_one (ps_set (i := 4) sc_lg.nd rfl (Or.inl rfl) (pe_op op_add (pv 4) pe_int)))))
    (bx_scons (Bx.mk (ps_set (i := 5) sc_lg.nd rfl (Or.inl rfl) pe_str))
    (bx_scons (Bx.mk (ps_set (i := 6) sc_lg.nd rfl (Or.inl rfl) pe_bl))
    (bx_scons (Bx.mk (ps_if (pw_and (pt_cmpR op_notN (pe_ix ix_tup (pv 1) pe_int (fun _ _ => rfl)) pe_non (nomark _)) (pw_and1 (pt_cmpR (op_eqD hu) (pe_ix ix_tup (pe_ix ix_tup (pv 1) pe_int (fun _ _ => rfl)) pe_int (fun _ _ => rfl)) (pe_ix ix_tup (pe_ix ix_tup (pv 0) (pv 3) (fun _ _ => rfl)) pe_int (fun _ _ => rfl)) (nomark _)))).pt (pss_cons (ps_set (i := 5) sc_lg.nd rfl (Or.inl rfl) pe_str)
    (pss_one (ps_set (i := 6) sc_lg.nd rfl (Or.inl rfl) (pe_c cBl hr1 (pa_cons (pe_ix ix_tup (pe_ix ix_tup (pv 0) (pv 3) (fun _ _ => rfl)) pe_int (fun _ _ => rfl)) (pa_cons (pe_ix ix_tup (pe_ix ix_tup (pv 1) pe_int (fun _ _ => rfl)) pe_int (fun _ _ => rfl)) pa_nil)))))) (pss_one (ps_if (pw_and (pt_cmpR op_notN (pe_ix ix_tup (pv 1) pe_int (fun _ _ => rfl)) pe_non (nomark _)) (pw_and1 (pt_cmpR (op_eqD hu) (pe_ix ix_tup (pe_ix ix_tup (pv 1) pe_int (fun _ _ => rfl)) pe_int (fun _ _ => rfl)) (pe_ix ix_tup (pe_ix ix_tup (pv 0) (pv 3) (fun _ _ => rfl)) pe_int (fun _ _ => rfl)) (nomark _)))).pt (pss_cons (ps_set (i := 5) sc_lg.nd rfl (Or.inl rfl) pe_str)
    (pss_one (ps_set (i := 6) sc_lg.nd rfl (Or.inl rfl) (pe_c cBl hr1 (pa_cons (pe_ix ix_tup (pe_ix ix_tup (pv 1) pe_int (fun _ _ => rfl)) pe_int (fun _ _ => rfl)) (pa_cons (pe_ix ix_tup (pe_ix ix_tup (pv 0) (pv 4) (fun _ _ => rfl)) pe_int (fun _ _ => rfl)) pa_nil)))))) pss_nil))))
    (bx_scons (Bx.mk (ps_if ((pw_or (pt_cmpR op_gt (pv 4) (pv 3) (nomark _)) (pw_or1 (pt_truth (pv 6) fun _ => rfl)))).pt (pss_one (ps_expr (pe_bm PySem.F.plainAttrs_list PySem.F.slot_list_append PySem.F.type_list_append mt_append (pv 2) (pa_cons (pe_tup (pa_cons (pv 3) (pa_cons (pv 4) (pa_cons (pv 5) pa_nil)))) pa_nil)))) pss_nil))
    (Bx.mk (pss_one (ps_set (i := 3) sc_lg.nd rfl (Or.inl rfl) (pe_op op_add (pv 4) pe_int)))))))))))))
    (Bx.mk (pss_one (ps_ret (pv 2))))))), ?_⟩
  refine ⟨by show 0 ≤ sizeLine; exact Nat.zero_le _, fun l hl => ?_⟩
  have S1 : Same H (upd H l (.lst [])) := Same.upd hl
  have hl1 : upd H l (.lst []) l = some (.lst []) := upd_same
  generalize upd H l (.lst []) = G1 at S1 hl1
  dsimp only [gName]
  obtain ⟨ks, eks⟩ : ∃ ks, ks = cs.map Ball.pl := ⟨_, rfl⟩
  have hkl : ks.length = us.length := by rw [eks, List.length_map, hul]
  refine st_while ?_
  refine ⟨fun m σ G => ∃ (st : Nat) (gs : List V) (z4 z5 z6 : Option V), σ = [some (.ref r), some (.ref wl), some (.ref l), some (.int (st : Int)), z4, z5, z6] ∧ m = us.length - st ∧ st ≤ us.length ∧ stG ks st = st ∧ Same H G ∧ G l = some (.lst gs) ∧ gs.length ≤ st ∧ GrsI G gs (rlG ks (fL cs lo hi) st),
    ⟨_, 0, [], _, _, _, rfl, rfl, Nat.zero_le _, rfl, S1, hl1, Nat.le_refl _, rfl, fun i v e => by simp at e⟩, ?_⟩
  rintro m σ G ⟨st, gs, z4, z5, z6, rfl, rfl, hst, est, SG, hlG, hgl, hgr⟩
  refine ⟨_, rfl, _, rfl, r, us, rfl, .inr (.of (SG _ _ hrr)), _, _, rfl, rfl, _, rfl, ite2 (fun hc => ?_) (fun hc => ?_)⟩
  rotate_left
  · have : ¬ st < us.length := fun z => hc (decide_eq_true (by omega))
    refine ⟨_, rfl, k l gs G SG hl hlG ?_⟩
    unfold grL
    rw [← eks, show cs.length = st by omega]; exact hgr
  have hlt : st < us.length := by have := of_decide_eq_true hc; omega
  refine ⟨_, fun _ _ z => z, ?_⟩
  dsimp only [gName]
  obtain ⟨vs0, evs0⟩ : ∃ v, us[st]? = some v := ⟨_, List.getElem?_eq_getElem hlt⟩
  obtain ⟨a0, p0, q0, b0, eb0, rfl, ha0, hp0, hq0⟩ := hB.get evs0
  have zb0 := hz.1 b0 (List.mem_of_getElem? eb0)
  have hrG := SG _ _ hrr
  have ha0G := SG _ _ ha0
  -- the end of the run
  refine st_set ?_
  refine ⟨_, rfl, ?_⟩
  refine st_mid (fun σ' G' => ∃ en : Nat, σ' = [some (.ref r), some (.ref wl), some (.ref l), some (.int (st : Int)), some (.int (en : Int)), z5, z6] ∧ G' = G ∧ st ≤ en ∧ en < us.length ∧ stG ks en = st ∧ rlG ks (fL cs lo hi) en = rlG ks (fL cs lo hi) st ∧ brk ks en = true) ?_ ?_
  rotate_left
  · intro nx hnx
    refine ⟨fun m' σ' G' => ∃ en : Nat, σ' = [some (.ref r), some (.ref wl), some (.ref l), some (.int (st : Int)), some (.int (en : Int)), z5, z6] ∧ G' = G ∧ m' = us.length - en ∧ st ≤ en ∧ en < us.length ∧ stG ks en = st ∧ rlG ks (fL cs lo hi) en = rlG ks (fL cs lo hi) st, ⟨_, st, rfl, rfl, rfl, Nat.le_refl _, hlt, est, rfl⟩, ?_⟩
    rintro m' σ' G' ⟨en, rfl, rfl, rfl, h1, h2, h3, h4⟩
    have hrun : ks[en]? = ks[st]? := by
      have := run_eq (ss := ks) (i := en) (by omega) st (by omega) h1
      exact this.symm
    refine ⟨_, rfl, _, _, rfl, rfl, _, rfl, r, us, rfl, .inr (.of hrG), _, _, rfl, rfl, _, rfl, ite2 (fun hc1 => ?_) (fun hc1 => ?_)⟩
    rotate_left
    · have hn : ¬ en + 1 < us.length := fun z => hc1 (decide_eq_true (by omega))
      refine iteF (hnx _ _ ⟨en, rfl, rfl, h1, h2, h3, h4, ?_⟩)
      unfold brk
      rw [decide_eq_true (by omega : en + 1 = ks.length)]; rfl
    have hn : en + 1 < us.length := by have := of_decide_eq_true hc1; omega
    obtain ⟨v', ev'⟩ : ∃ v, us[en + 1]? = some v := ⟨_, List.getElem?_eq_getElem hn⟩
    obtain ⟨a', p', q', b', eb', rfl, ha', hp', hq'⟩ := hB.get ev'
    have at1' : atI us ((en : Int) + 1) = some (.ref a') := by rw [show (en : Int) + 1 = ((en + 1 : Nat) : Int) from rfl]; exact atI_nat ev'
    refine ⟨_, rfl, _, rfl, _, _, rfl, rfl, r, _, _, _, rfl, rfl, .of hrG, at1', a', _, _, _, rfl, rfl, .of (SG _ _ ha'), atC0 .., _, rfl, _, rfl, r, _, _, _, rfl, rfl, .of hrG, atI_nat evs0, a0, _, _, _, rfl, rfl, .of ha0G, atC0 .., ?_⟩
    refine ⟨_, _, RatAt.rd (SG _ _ hp'), RatAt.rd (SG _ _ hp0), shaped_rp _, shaped_rp _, _, rfl, ?_⟩
    rw [eqv_q]
    have ek' : ks[en + 1]? = some b'.pl := by rw [eks, List.getElem?_map, eb']; rfl
    have ek0 : ks[st]? = some b0.pl := by rw [eks, List.getElem?_map, eb0]; rfl
    have hbr : brk ks en = !decide (b'.pl = b0.pl) := by
      unfold brk
      rw [decide_eq_false (by omega : ¬ en + 1 = ks.length), Bool.false_or, hrun, ek', ek0]
      by_cases c : b'.pl = b0.pl
      · rw [c]; simp
      · rw [decide_eq_false c]; simp [c]
    by_cases c : b'.pl = b0.pl
    · rw [decide_eq_true c]
      rw [decide_eq_true c] at hbr
      refine iteT ⟨_, fun _ _ z => z, _, rfl, _, _, rfl, rfl, us.length - (en + 1), by omega, en + 1, rfl, rfl, rfl, by omega, hn, ?_, ?_⟩
      · show (if brk ks en = true then en + 1 else stG ks en) = st
        rw [hbr, if_neg (by simp)]; exact h3
      · show (if brk ks en = true then _ else rlG ks (fL cs lo hi) en) = _
        rw [hbr, if_neg (by simp)]; exact h4
    · rw [decide_eq_false c]
      rw [decide_eq_false c] at hbr
      exact iteF (hnx _ _ ⟨en, rfl, rfl, h1, h2, h3, h4, by rw [hbr]; rfl⟩)
  rintro σ' G' ⟨en, rfl, rfl, h1, h2, h3, h4, hbr⟩
  obtain ⟨vse, evse⟩ : ∃ v, us[en]? = some v := ⟨_, List.getElem?_eq_getElem h2⟩
  obtain ⟨ae, pe, qe, be, ebe, rfl, hae, hpe, hqe⟩ := hB.get evse
  have zbe := hz.1 be (List.mem_of_getElem? ebe)
  have haeG := SG _ _ hae
  refine st_set ?_
  dsimp only [tC]
  refine st_set ?_
  dsimp only [tC]
  have hwG := SG _ _ hwl
  have hv1G := hv1.tups (TupS.of SG)
  have hv2G := hv2.tups (TupS.of SG)
  -- where, goes
  refine st_mid (fun σ' G'' => σ' = [some (.ref r), some (.ref wl), some (.ref l), some (.int (st : Int)), some (.int (en : Int)), some (.str (sideL lo hi b0.pl)), some (.bl (goesL cs lo hi st en))] ∧ G'' = G') ?_ ?_
  rotate_left
  · intro nx hnx
    have hg := goes_eq (lo := lo) (hi := hi) eb0 ebe
    cases lo with
    | none =>
      obtain rfl : v1 = .non := hv1G
      have a1 : atW none b0.pl = false := rfl
      rw [a1, if_neg (by simp)] at hg
      have es := side_hi (hi := hi) a1
      refine ⟨_, rfl, wl, _, _, _, rfl, rfl, .of hwG, rfl, rfl, _, rfl, iteF (iteF ?_)⟩
      cases hi with
      | none =>
        obtain rfl : v2 = .non := hv2G
        refine ⟨_, rfl, wl, _, _, _, rfl, rfl, .of hwG, rfl, rfl, _, rfl, iteF (iteF (hnx _ _ ⟨?_, rfl⟩))⟩
        rw [es, hg]; rfl
      | some u =>
        obtain ⟨x, y⟩ := u
        obtain ⟨aw, pw, qw, rfl, g1, g2, g3⟩ := hv2G
        have zw := hz.2.2 x y rfl
        refine ⟨_, rfl, wl, _, _, _, rfl, rfl, .of hwG, rfl, rfl, _, rfl, iteT ?_⟩
        refine ⟨_, rfl, wl, _, _, _, rfl, rfl, .of hwG, rfl, aw, _, _, _, rfl, rfl, .of g1, rfl, _, rfl, _, rfl, r, _, _, _, rfl, rfl, .of hrG, atI_nat evs0, a0, _, _, _, rfl, rfl, .of ha0G, atC0 .., ?_⟩
        refine ⟨_, _, RatAt.rd g2, RatAt.rd (SG _ _ hp0), shaped_rp _, shaped_rp _, _, rfl, ?_⟩
        rw [eqv_q]
        have ea : atW (some (x, y)) b0.pl = decide (x = b0.pl) := rfl
        rw [ea] at es hg
        by_cases c : x = b0.pl
        · rw [decide_eq_true c] at es hg ⊢
          rw [if_pos rfl] at es hg
          refine iteT ?_
          refine st_set ?_
          dsimp only [tC]
          refine ⟨_, rfl, wl, _, _, _, rfl, rfl, .of hwG, rfl, aw, _, _, _, rfl, rfl, .of g1, rfl, _, rfl, _, rfl, r, _, _, _, rfl, rfl, .of hrG, atI_nat evse, ae, _, _, _, rfl, rfl, .of haeG, atC1 .., qw, qe, y, be.sp, rfl, g3, SG _ _ hqe, ⟨zw.2.mono (by decide), zbe.2.mono (by decide)⟩, ?_⟩
          refine hnx _ _ ⟨?_, rfl⟩
          rw [es, hg]; rfl
        · rw [decide_eq_false c] at es hg ⊢
          rw [if_neg (by simp)] at es hg
          refine iteF (hnx _ _ ⟨?_, rfl⟩)
          rw [es, hg]; rfl
    | some u1 =>
      obtain ⟨x1, y1⟩ := u1
      obtain ⟨aw1, pw1, qw1, rfl, f1, f2, f3⟩ := hv1G
      have zw1 := hz.2.1 x1 y1 rfl
      refine ⟨_, rfl, wl, _, _, _, rfl, rfl, .of hwG, rfl, rfl, _, rfl, iteT ?_⟩
      refine ⟨_, rfl, wl, _, _, _, rfl, rfl, .of hwG, rfl, aw1, _, _, _, rfl, rfl, .of f1, rfl, _, rfl, _, rfl, r, _, _, _, rfl, rfl, .of hrG, atI_nat evs0, a0, _, _, _, rfl, rfl, .of ha0G, atC0 .., ?_⟩
      refine ⟨_, _, RatAt.rd f2, RatAt.rd (SG _ _ hp0), shaped_rp _, shaped_rp _, _, rfl, ?_⟩
      rw [eqv_q]
      have ea1 : atW (some (x1, y1)) b0.pl = decide (x1 = b0.pl) := rfl
      by_cases c1 : x1 = b0.pl
      · rw [ea1, decide_eq_true c1, if_pos rfl] at hg
        have es := side_lo (hi := hi) (ea1.trans (decide_eq_true c1))
        rw [decide_eq_true c1]
        refine iteT ?_
        refine st_set ?_
        dsimp only [tC]
        refine ⟨_, rfl, _, rfl, r, _, _, _, rfl, rfl, .of hrG, atI_nat evs0, a0, _, _, _, rfl, rfl, .of ha0G, atC1 .., _, rfl, wl, _, _, _, rfl, rfl, .of hwG, rfl, aw1, _, _, _, rfl, rfl, .of f1, rfl, q0, qw1, b0.sp, y1, rfl, SG _ _ hq0, f3, ⟨zb0.2.mono (by decide), zw1.2.mono (by decide)⟩, ?_⟩
        refine hnx _ _ ⟨?_, rfl⟩
        rw [es, hg]; rfl
      · rw [ea1, decide_eq_false c1, if_neg (by simp)] at hg
        have es := side_hi (hi := hi) (ea1.trans (decide_eq_false c1))
        rw [decide_eq_false c1]
        refine iteF ?_
        cases hi with
        | none =>
          obtain rfl : v2 = .non := hv2G
          refine ⟨_, rfl, wl, _, _, _, rfl, rfl, .of hwG, rfl, rfl, _, rfl, iteF (iteF (hnx _ _ ⟨?_, rfl⟩))⟩
          rw [es, hg]; rfl
        | some u =>
          obtain ⟨x, y⟩ := u
          obtain ⟨aw, pw, qw, rfl, g1, g2, g3⟩ := hv2G
          have zw := hz.2.2 x y rfl
          refine ⟨_, rfl, wl, _, _, _, rfl, rfl, .of hwG, rfl, rfl, _, rfl, iteT ?_⟩
          refine ⟨_, rfl, wl, _, _, _, rfl, rfl, .of hwG, rfl, aw, _, _, _, rfl, rfl, .of g1, rfl, _, rfl, _, rfl, r, _, _, _, rfl, rfl, .of hrG, atI_nat evs0, a0, _, _, _, rfl, rfl, .of ha0G, atC0 .., ?_⟩
          refine ⟨_, _, RatAt.rd g2, RatAt.rd (SG _ _ hp0), shaped_rp _, shaped_rp _, _, rfl, ?_⟩
          rw [eqv_q]
          have ea : atW (some (x, y)) b0.pl = decide (x = b0.pl) := rfl
          rw [ea] at es hg
          by_cases c : x = b0.pl
          · rw [decide_eq_true c] at es hg ⊢
            rw [if_pos rfl] at es hg
            refine iteT ?_
            refine st_set ?_
            dsimp only [tC]
            refine ⟨_, rfl, wl, _, _, _, rfl, rfl, .of hwG, rfl, aw, _, _, _, rfl, rfl, .of g1, rfl, _, rfl, _, rfl, r, _, _, _, rfl, rfl, .of hrG, atI_nat evse, ae, _, _, _, rfl, rfl, .of haeG, atC1 .., qw, qe, y, be.sp, rfl, g3, SG _ _ hqe, ⟨zw.2.mono (by decide), zbe.2.mono (by decide)⟩, ?_⟩
            refine hnx _ _ ⟨?_, rfl⟩
            rw [es, hg]; rfl
          · rw [decide_eq_false c] at es hg ⊢
            rw [if_neg (by simp)] at es hg
            refine iteF (hnx _ _ ⟨?_, rfl⟩)
            rw [es, hg]; rfl
  rintro σ' G'' ⟨rfl, rfl⟩
  have erl : rlG ks (fL cs lo hi) (en + 1) = rlG ks (fL cs lo hi) st ++ (fL cs lo hi st en).toList := by
    show (if brk ks en = true then rlG ks (fL cs lo hi) en ++ (fL cs lo hi (stG ks en) en).toList else _) = _
    rw [if_pos hbr, h3, h4]
  have est' : stG ks (en + 1) = en + 1 := if_pos hbr
  have ek0 : ((cs.map Ball.pl)[st]?).getD 0 = b0.pl := by rw [List.getElem?_map, eb0]; rfl
  have efL : fL cs lo hi st en = if st < en ∨ goesL cs lo hi st en = true then some (st, en, sideL lo hi b0.pl) else none := by unfold fL; rw [ek0]
  have hgl' : gs.length ≤ en := by omega
  refine if_boolS (fun H' => H' = G'') (decide (st < en ∨ goesL cs lo hi st en = true)) (fun Q' q => ?_) (fun hc6 H6 e6 => ?_) (fun hc6 H6 e6 => ?_)
  · refine ⟨_, rfl, _, rfl, _, _, rfl, rfl, _, rfl, ite2 (fun y1 => ?_) (fun y1 => ?_)⟩
    · have : st < en := by have := of_decide_eq_true y1; omega
      rw [decide_eq_true (Or.inl this)] at q
      exact q _ rfl
    · have n : ¬ st < en := fun z => y1 (decide_eq_true (by omega))
      refine ⟨_, rfl, _, rfl, ?_⟩
      have : goesL cs lo hi st en = decide (st < en ∨ goesL cs lo hi st en = true) := by
        cases hg : goesL cs lo hi st en with
        | true => rw [decide_eq_true (Or.inr rfl)]
        | false => rw [decide_eq_false (by rintro (z | z); exact n z; cases z)]
      rw [← this] at q
      exact q _ rfl
  · subst e6
    refine ⟨_, rfl, .inl ⟨rfl, gs, .of hlG⟩, _, rfl, _, rfl, _, rfl, by show 3 ≤ sizeLine; decide, fun gp hgp => ?_⟩
    have s5 : Same H6 (upd H6 gp (.tup [.int (st : Int), .int (en : Int), .str (sideL lo hi b0.pl)])) := Same.upd hgp
    have h5 : upd H6 gp (.tup [.int (st : Int), .int (en : Int), .str (sideL lo hi b0.pl)]) gp = some (.tup [.int (st : Int), .int (en : Int), .str (sideL lo hi b0.pl)]) := upd_same
    generalize upd H6 gp (.tup [.int (st : Int), .int (en : Int), .str (sideL lo hi b0.pl)]) = G5 at s5 h5
    have hl5 := s5 _ _ hlG
    refine ⟨l, gs, _, rfl, rfl, hl5, small1000 (by omega), ?_⟩
    have Tu : TupS G5 (upd G5 l (.lst (gs ++ [.ref gp]))) := .upd hl5
    refine ⟨_, rfl, _, _, rfl, rfl, us.length - (en + 1), by omega, en + 1, gs ++ [.ref gp], _, _, _, rfl, rfl, by omega, est', fun b o e => ?_, upd_same, by simp; omega, ?_⟩
    · rw [upd_ne (ne_of_none e hl)]; exact s5 _ _ (SG _ _ e)
    · rw [erl, efL, if_pos (of_decide_eq_true hc6)]
      exact ((hgr.keeps (.of s5)).keeps Tu).snoc ⟨gp, rfl, Tu _ _ h5⟩
  · subst e6
    refine ⟨_, rfl, _, _, rfl, rfl, us.length - (en + 1), by omega, en + 1, gs, _, _, _, rfl, rfl, by omega, est', SG, hlG, by omega, ?_⟩
    rw [erl, efL, if_neg (of_decide_eq_false hc6)]
    show GrsI H6 gs (_ ++ [])
    rw [List.append_nil]; exact hgr
end
end KT
end
section
set_option maxHeartbeats 8000000
set_option Elab.async false
set_option linter.all false
set_option maxRecDepth 100000
namespace L2
open PySem PySem.Spec PyProof.Rows
theorem cat_get {K : PySem.W.Frag} {H : Hp} {a b : Addr} {xs ys : List V} {Q : VK} (ha : H a = some (.tup xs)) (hb : H b = some (.tup ys)) (hl : xs.length + ys.length ≤ 1000) (k : ∀ q H', Same H H' → H' q = some (.tup (xs ++ ys)) → Q (.ref q) H') : rCatA K (.ref a) (.ref b) H Q :=
  ⟨a, b, xs, ys, rfl, rfl, .of ha, .of hb, szl hl, fun z => k b H (Same.refl _) (by rw [z]; exact hb), fun _ z => k a H (Same.refl _) (by rw [z, List.append_nil]; exact ha), fun _ _ p hp => k p _ (Same.upd hp) upd_same⟩
theorem cut_get {K : PySem.W.Frag} {H : Hp} {a : Addr} {xs : List V} {lo hi : Option Int} {Q : VK} (ha : H a = some (.tup xs)) (k : ∀ q H', Same H H' → H' q = some (.tup (cutG xs lo hi)) → Q (.ref q) H') : rSlT K (.ref a) lo hi H Q ∨ rSlW K (.ref a) lo hi H Q := by
  by_cases w : HT.sIx xs.length 0 lo = 0 ∧ HT.sIx xs.length xs.length hi = xs.length
  · refine .inr ⟨a, xs, rfl, .of ha, w, k a H (Same.refl _) ?_⟩
    have : cutG xs lo hi = xs := by unfold cutG; rw [w.1, w.2]; simp
    rw [this]; exact ha
  · exact .inl ⟨a, xs, rfl, .of ha, w, fun p hp => k p _ (Same.upd hp) upd_same⟩
end L2
namespace KT
open PySem L2 KM KK
open KQ (ThAt WlAt ORat TxQ oneT shutM for_zip stG rlG brk GrsI GrAt stG_le)
def Lay (n : Nat) (d : PyData) : Prop := PyData.canLay0 d = true ∧ PyData.depth d ≤ n
theorem lays {n : Nat} : ∀ {ds : List PyData}, (∀ d ∈ ds, Lay n d) → PyData.canLayAll0 ds = true ∧ PyData.depthAll ds ≤ n
  | [], _ => ⟨rfl, Nat.zero_le _⟩
  | d :: ds, h => by
    obtain ⟨h1, h2⟩ := lays (ds := ds) fun e m => h e (List.mem_cons_of_mem _ m)
    obtain ⟨h3, h4⟩ := h d (List.mem_cons_self ..)
    refine ⟨?_, ?_⟩
    · show (PyData.canLay0 d && _) = true
      rw [h1, h3]; rfl
    · show max (PyData.depth d) _ ≤ n
      omega
theorem Lay.tup {n : Nat} {ds : List PyData} (h : ∀ d ∈ ds, Lay n d) : Lay (n + 1) (.tuple ds) := ⟨(lays h).1, Nat.succ_le_succ (lays h).2⟩
theorem Lay.mono {m n : Nat} {d : PyData} (h : Lay m d) (e : m ≤ n) : Lay n d := ⟨h.1, Nat.le_trans h.2 e⟩
theorem Lay.int (i : Int) : Lay 0 (.int i) := ⟨rfl, Nat.le_refl _⟩
theorem Lay.non : Lay 0 .none := ⟨rfl, Nat.le_refl _⟩
theorem Lay.rat (x : Rat) : Lay 1 (rD x) := Lay.tup fun d m => by
  rcases List.mem_cons.mp m with rfl | m
  · exact .int _
  · rcases List.mem_cons.mp m with rfl | m
    · exact .int _
    · cases m
theorem Lay.shaped {n : Nat} {d : PyData} (h : Lay n d) (e : n ≤ 64) : SeqAt.shaped d = true := by
  show (_ && _) = true
  rw [h.1, decide_eq_true (Nat.le_trans h.2 e)]; rfl
theorem Lay.self {n : Nat} {d : PyData} (h : Lay n d) : PyData.eqv d d = true := SeqAt.eqv_refl _ h.1

theorem Lay.str {x : Str} (h : PyData.canLay0 (.str x) = true) : Lay 0 (.str x) := ⟨h, Nat.le_refl _⟩
theorem lay_rl {α γ : Type} [DecidableEq α] {ss : List α} {f : Nat → Nat → Option γ} {p : γ → Prop} (h : ∀ a b g, f a b = some g → p g) : ∀ {n : Nat} {g : γ}, g ∈ rlG ss f n → p g
  | 0, _, m => by cases m
  | n + 1, g, m => by
    unfold rlG at m
    split at m
    · rcases List.mem_append.mp m with m | m
      · exact lay_rl h m
      · exact h _ _ _ (Option.mem_toList.mp m)
    · exact lay_rl h m
theorem lay_side (lo hi : Wl) (k : Rat) : PyData.canLay0 (.str (sideL lo hi k)) = true := by
  unfold sideL
  split
  · decide +kernel
  · split <;> decide +kernel
theorem Lay.lst {n : Nat} {ds : List PyData} (h : ∀ d ∈ ds, Lay n d) : Lay (n + 1) (.list ds) := ⟨(lays h).1, Nat.succ_le_succ (lays h).2⟩
def grD (g : Nat × Nat × Str) : PyData := .tuple [.int (g.1 : Int), .int (g.2.1 : Int), .str g.2.2]
def shD (m : Rat) : PyData := .tuple [.str "shut", rD m]
def coD (m : Rat) (gs : List (Nat × Nat × Str)) : PyData := .tuple [rD m, .list (gs.map grD)]
theorem lay_gr {g : Nat × Nat × Str} (h : PyData.canLay0 (.str g.2.2) = true) : Lay 1 (grD g) := Lay.tup fun d m => by
  simp only [List.mem_cons, List.not_mem_nil, or_false] at m
  rcases m with rfl | rfl | rfl
  · exact .int _
  · exact .int _
  · exact .str h
theorem lay_sh (m : Rat) : Lay 2 (shD m) := Lay.tup fun d h => by
  simp only [List.mem_cons, List.not_mem_nil, or_false] at h
  rcases h with rfl | rfl
  · exact (Lay.str (by decide +kernel)).mono (by decide)
  · exact .rat _
theorem lay_co (m : Rat) {gs : List (Nat × Nat × Str)} (hg : ∀ g ∈ gs, PyData.canLay0 (.str g.2.2) = true) : Lay 3 (coD m gs) := Lay.tup fun d h => by
  simp only [List.mem_cons, List.not_mem_nil, or_false] at h
  rcases h with rfl | rfl
  · exact (Lay.rat _).mono (by decide)
  · exact Lay.lst fun d h => by obtain ⟨g, mg, rfl⟩ := List.mem_map.mp h; exact lay_gr (hg g mg)
theorem grs_rd {H : Hp} : ∀ {vs : List V} {gs : List (Nat × Nat × Str)}, GrsI H vs gs → RdDs H vs (gs.map grD)
  | [], [], _ => .nil
  | [], _ :: _, h => by have := h.1; simp at this
  | _ :: _, [], h => by have := h.1; simp at this
  | v :: vs, g :: gs, h => by
    obtain ⟨g', e, a, rfl, ha⟩ := h.2 0 v rfl
    cases e
    exact .cons (.tup ha (.cons (.int _) (.cons (.int _) (.cons (.str _) .nil)))) (grs_rd ⟨by have := h.1; simpa using this, fun i v e => by obtain ⟨g, e1, e2⟩ := h.2 (i + 1) v (by simpa using e); exact ⟨g, by simpa using e1, e2⟩⟩)
def shutB (lo hi : Wl) (m : Rat) : Bool := match lo, hi with
  | some (x, y), some (x', y') => decide (x + y * m = x' + y' * m)
  | _, _ => false
theorem shutB_iff {bs : List Ball} {lo hi : Wl} (O : Ord bs lo hi) {m : Rat} (pm : 0 < m) : shutM lo hi = some m ↔ shutB lo hi m = true := by
  rw [shut_iff O pm]
  cases lo with
  | none => exact ⟨fun ⟨_, _, _, _, e, _⟩ => (by cases e), fun h => (by cases h)⟩
  | some u =>
    cases hi with
    | none => exact ⟨fun ⟨_, _, _, _, _, e, _⟩ => (by cases e), fun h => (by cases h)⟩
    | some v =>
      obtain ⟨x, y⟩ := u
      obtain ⟨x', y'⟩ := v
      show _ ↔ decide (x + y * m = x' + y' * m) = true
      rw [decide_eq_true_eq]
      exact ⟨fun ⟨_, _, _, _, e1, e2, h⟩ => (by cases e1; cases e2; exact h), fun h => ⟨x, y, x', y', rfl, rfl, h⟩⟩
def dueD (bs : List Ball) (lo hi : Wl) : PyData := match soonR (tl bs lo hi) with
  | none => .none
  | some m => if shutB lo hi m = true then shD m else coD m (grL (bs.map (thenB m)) (thenW m lo) (thenW m hi))
theorem lay_due (bs : List Ball) (lo hi : Wl) : Lay 3 (dueD bs lo hi) := by
  unfold dueD
  split
  · exact Lay.non.mono (by decide)
  · split
    · exact (lay_sh _).mono (by decide)
    · refine lay_co _ fun g mg => ?_
      unfold grL at mg
      refine lay_rl (p := fun g => PyData.canLay0 (.str g.2.2) = true) (fun a b g e => ?_) mg
      unfold fL at e
      split at e
      · cases e; exact lay_side _ _ _
      · cases e
section
variable {P : Program} {w : World} {K : PySem.W.Frag} {mg : Str → Option Value} {base : Heap}
theorem walls_osr {H : Hp} {v1 v2 : V} {lo hi : Wl} (h1 : WallAt H v1 lo) (h2 : WallAt H v2 hi) : OsR H [v1, v2] [(lo, []), (hi, [])] := by
  have one : ∀ {v : V} {l : Wl}, WallAt H v l → ThR H v l [] := fun {v l} h => by
    cases l with
    | none => exact h
    | some u => obtain ⟨x, y⟩ := u; obtain ⟨a, p, q, e, g1, g2, g3⟩ := h; exact ⟨a, p, q, e, g1, g2, g3⟩
  refine ⟨rfl, fun i v n e1 e2 => ?_⟩
  match i, e1, e2 with
  | 0, e1, e2 => cases e1; cases e2; exact one h1
  | 1, e1, e2 => cases e1; cases e2; exact one h2
  | i + 2, e1, _ => simp at e1
theorem osr_wall {H : Hp} {v : V} {l : Wl} {m : Rat} (h : ThR H v (onO m l) []) : WallAt H v (thenW m l) := by
  cases l with
  | none => exact h
  | some u => obtain ⟨x, y⟩ := u; obtain ⟨a, p, q, e, g1, g2, g3⟩ := h; exact ⟨a, p, q, e, g1, g2, g3⟩
theorem balls_osr {H : Hp} {us : List V} {bs : List Ball} (h : BallsAt H us bs) : OsR H us (bs.map fun b => (some (b.pl, b.sp), [V.int b.wt])) := by
  refine ⟨by rw [h.length, List.length_map], fun i v n e1 e2 => ?_⟩
  obtain ⟨a, p, q, b, eb, rfl, g1, g2, g3⟩ := h.get e1
  rw [List.getElem?_map, eb] at e2
  cases e2
  exact ⟨a, p, q, rfl, g1, g2, g3⟩
theorem osr_balls {H : Hp} {m : Rat} : ∀ {us : List V} {bs : List Ball}, OsR H us ((bs.map fun b => ((some (b.pl, b.sp) : OT), [V.int b.wt])).map fun n => (onO m n.1, n.2)) → BallsAt H us (bs.map (thenB m))
  | [], [], _ => .nil
  | [], _ :: _, h => by have := h.1; simp at this
  | _ :: _, [], h => by have := h.1; simp at this
  | u :: us, b :: bs, h => by
    obtain ⟨a, p, q, rfl, g1, g2, g3⟩ := h.2 0 u _ rfl rfl
    exact .cons g1 g2 g3 (osr_balls ⟨by have := h.1; simpa using this, fun i v n e1 e2 => h.2 (i + 1) v n (by simpa using e1) (by simpa using e2)⟩)
def spDu : Sp := fun vs H Q _ => ∃ r wl us v1 v2 bs lo hi, vs = [.ref r, .ref wl] ∧ H r = some (.tup us) ∧ BallsAt H us bs ∧ H wl = some (.tup [v1, v2]) ∧ WallAt H v1 lo ∧ WallAt H v2 hi ∧ bs.length ≤ 8 ∧ TZ bs lo hi ∧ ∀ v H', Same H H' → RdD H' v (dueD bs lo hi) → Q v H'
theorem sc_du : FnScope ["row", "walls", "moment", "there"] ["row", "walls"] (defScope s_law_due) := ⟨rfl, rfl, rfl, by decide +kernel, rfl, by decide +kernel, by decide +kernel⟩
theorem ok_du (D : Df K mg "_law_due" s_law_due ["row", "walls"] []) (cSn : Cal P w K mg base "_law_soonest" 4 ["row", "walls"] [] spSn) (cOn : Cal P w K mg base "_law_on" 3 ["things", "t"] [] spOn) (cLg : Cal P w K mg base "_law_groups" 2 ["row", "walls"] [] spLg) : Cal P w K mg base "_law_due" 5 ["row", "walls"] [] spDu := by
  refine D.calB (k := 4) sc_du (fun vs H Q E h => by obtain ⟨_, _, _, _, _, _, _, _, rfl, _⟩ := h; rfl) (fun f cdv A outer s H vs Q E hr h => ?_)
  obtain ⟨r, wl, us, v1, v2, bs, lo, hi, rfl, hrr, hB, hwl, hv1, hv2, h8, hz, k⟩ := h
  have hr2 : Room 2 _ := hr.mono (by decide)
  have hr3 : Room 3 _ := hr.mono (by decide)
  have hu := hr.units
  refine ⟨_, (bx_scons (Bx.mk (ps_set (i := 2) sc_du.nd rfl (Or.inl rfl) (pe_c cSn hr (pa_cons (pv 0) (pa_cons (pv 1) pa_nil)))))
    (bx_scons (Bx.mk (ps_if (pt_cmpR op_isN (pv 2) pe_non (nomark _)) (pss_one (ps_ret pe_non)) pss_nil))
    (bx_scons (Bx.mk (ps_set (i := 3) sc_du.nd rfl (Or.inl rfl) (pe_c cOn hr3 (pa_cons (pv 1) (pa_cons (pv 2) pa_nil)))))
    (bx_scons (Bx.mk (ps_if (pw_and (pt_cmpR op_notN (pe_ix ix_tup (pv 1) pe_int (fun _ _ => rfl)) pe_non (nomark _)) (pw_and (pt_cmpR op_notN (pe_ix ix_tup (pv 1) pe_int (fun _ _ => rfl)) pe_non (nomark _)) (pw_and1 (pt_cmpR (op_eqD hu) (pe_ix ix_tup (pe_ix ix_tup (pv 3) pe_int (fun _ _ => rfl)) pe_int (fun _ _ => rfl)) (pe_ix ix_tup (pe_ix ix_tup (pv 3) pe_int (fun _ _ => rfl)) pe_int (fun _ _ => rfl)) (nomark _))))).pt (pss_one (ps_ret (pe_tup (pa_cons pe_str (pa_cons (pv 2) pa_nil))))) pss_nil))
    (Bx.mk (pss_one (ps_ret (pe_tup (pa_cons (pv 2) (pa_cons (pe_c cLg hr2 (pa_cons (pe_c cOn hr3 (pa_cons (pv 0) (pa_cons (pv 2) pa_nil))) (pa_cons (pv 3) pa_nil))) pa_nil)))))))))), ?_⟩
  refine ⟨_, rfl, _, rfl, r, wl, us, v1, v2, bs, lo, hi, rfl, hrr, hB, hwl, hv1, hv2, h8, hz, fun v G1 s1 hv hvz => ?_⟩
  dsimp only [gName]
  refine ⟨_, rfl, rfl, _, rfl, ?_⟩
  cases es : soonR (tl bs lo hi) with
  | none =>
    rw [es] at hv
    obtain rfl : v = .non := hv
    refine iteT (k .non G1 s1 ?_)
    unfold dueD; rw [es]; exact .non
  | some m =>
    rw [es] at hv
    obtain ⟨am, rfl, ham⟩ := hv
    have zm := hvz m es
    refine iteF ?_
    have hw1 := s1 _ _ hwl
    have hzB : ∀ b ∈ bs, Sz 320 b.pl ∧ Sz 80 b.sp := fun b mb => hz (b.pl, b.sp) (by unfold tl; exact List.mem_append_left _ (List.mem_append_right _ (List.mem_map.mpr ⟨b, mb, rfl⟩)))
    have hzL : ∀ t, lo = some t → Sz 320 t.1 ∧ Sz 80 t.2 := fun t e => hz t (by unfold tl; rw [e]; simp [oneT])
    have hzH : ∀ t, hi = some t → Sz 320 t.1 ∧ Sz 80 t.2 := fun t e => hz t (by unfold tl; rw [e]; simp [oneT])
    refine ⟨_, rfl, _, rfl, wl, am, [v1, v2], [(lo, []), (hi, [])], m, rfl, hw1, walls_osr (hv1.tups (.of s1)) (hv2.tups (.of s1)), by show 2 ≤ 8; decide, fun n mn => ?_, ham, zm, fun th us2 G2 s2 hth hO2 => ?_⟩
    · simp only [List.mem_cons, List.not_mem_nil, or_false] at mn
      rcases mn with rfl | rfl
      · exact ⟨by show 0 ≤ 1; decide, hzL⟩
      · exact ⟨by show 0 ≤ 1; decide, hzH⟩
    have hl2 : us2.length = 2 := hO2.1
    match us2, hl2 with
    | [w1, w2], _ =>
    have hw1' : WallAt G2 w1 (thenW m lo) := osr_wall (hO2.2 0 w1 _ rfl rfl)
    have hw2' : WallAt G2 w2 (thenW m hi) := osr_wall (hO2.2 1 w2 _ rfl rfl)
    have S2 := s1.trans s2
    have hwl2 := S2 _ _ hwl
    have hv12 := hv1.tups (TupS.of S2)
    have hv22 := hv2.tups (TupS.of S2)
    have ham2 : RatAt G2 am m := s2 _ _ ham
    dsimp only [gName]
    refine if_boolS (fun H' => H' = G2) (shutB lo hi m) (fun Q' q => ?_) (fun hc H3 e3 => ?_) (fun hc H3 e3 => ?_)
    · cases lo with
      | none =>
        obtain rfl : v1 = .non := hv12
        exact ⟨_, rfl, wl, _, _, _, rfl, rfl, .of hwl2, rfl, rfl, _, rfl, iteF (q _ rfl)⟩
      | some u =>
        obtain ⟨x, y⟩ := u
        obtain ⟨aw, pw, qw, rfl, g1, g2, g3⟩ := hv12
        refine ⟨_, rfl, wl, _, _, _, rfl, rfl, .of hwl2, rfl, rfl, _, rfl, iteT ?_⟩
        cases hi with
        | none =>
          obtain rfl : v2 = .non := hv22
          exact ⟨_, rfl, wl, _, _, _, rfl, rfl, .of hwl2, rfl, rfl, _, rfl, iteF (q _ rfl)⟩
        | some u' =>
          obtain ⟨x', y'⟩ := u'
          obtain ⟨aw', pw', qw', rfl, g1', g2', g3'⟩ := hv22
          refine ⟨_, rfl, wl, _, _, _, rfl, rfl, .of hwl2, rfl, rfl, _, rfl, iteT ?_⟩
          obtain ⟨b1, p1, q1, rfl, i1, i2, i3⟩ := hw1'
          obtain ⟨b2, p2, q2, rfl, j1, j2, j3⟩ := hw2'
          refine ⟨_, rfl, th, _, _, _, rfl, rfl, .of hth, rfl, b1, _, _, _, rfl, rfl, .of i1, rfl, _, rfl, th, _, _, _, rfl, rfl, .of hth, rfl, b2, _, _, _, rfl, rfl, .of j1, rfl, ?_⟩
          refine ⟨_, _, RatAt.rd i2, RatAt.rd j2, shaped_rp _, shaped_rp _, _, rfl, ?_⟩
          rw [eqv_q]
          exact q _ rfl
    · subst e3
      refine ⟨_, rfl, by show 2 ≤ sizeLine; decide, fun tp htp => ?_⟩
      have s4 := Same.upd (o := .tup [.str "shut", .ref am]) htp
      refine k _ _ (S2.trans s4) ?_
      unfold dueD; rw [es]
      dsimp only
      rw [if_pos hc]
      exact .tup upd_same (.cons (.str _) (.cons (rat_rd (s4 _ _ ham2)) .nil))
    · subst e3
      refine st_next ?_
      dsimp only
      refine ⟨_, rfl, ?_⟩
      refine ⟨_, rfl, _, rfl, r, am, us, _, m, rfl, S2 _ _ hrr, balls_osr (hB.same S2), by rw [List.length_map]; exact h8, fun n mn => ?_, ham2, zm, fun rr us4 G4 s4 hrr4 hO4 => ?_⟩
      · obtain ⟨b, mb, rfl⟩ := List.mem_map.mp mn
        exact ⟨by show 1 ≤ 1; decide, fun t e => by cases e; exact hzB b mb⟩
      have hB4 := osr_balls hO4
      have hcz : CZ (bs.map (thenB m)) (thenW m lo) (thenW m hi) := by
        have key : ∀ {x y : Rat}, Sz 320 x → Sz 80 y → Sz 2000 (x + y * m) := fun hx hy => (hx.add (hy.mul zm)).mono (by decide)
        refine ⟨fun b mb => ?_, fun x y e => ?_, fun x y e => ?_⟩
        · obtain ⟨c, mc, rfl⟩ := List.mem_map.mp mb
          exact ⟨key (hzB c mc).1 (hzB c mc).2, (hzB c mc).2⟩
        · cases lo with
          | none => cases e
          | some u => obtain ⟨x0, y0⟩ := u; cases e; exact ⟨key (hzL _ rfl).1 (hzL _ rfl).2, (hzL _ rfl).2⟩
        · cases hi with
          | none => cases e
          | some u => obtain ⟨x0, y0⟩ := u; cases e; exact ⟨key (hzH _ rfl).1 (hzH _ rfl).2, (hzH _ rfl).2⟩
      refine ⟨_, rfl, rr, th, us4, _, w1, w2, _, _, rfl, hrr4, hB4, by rw [List.length_map]; exact h8, s4 _ _ hth, hw1'.tups (.of s4), hw2'.tups (.of s4), hcz, fun Gl gs G5 s5 _ hGl hgr => ⟨by show 2 ≤ sizeLine; decide, fun tp htp => ?_⟩⟩
      have s6 := Same.upd (o := .tup [.ref am, .ref Gl]) htp
      refine k _ _ (S2.trans (s4.trans (s5.trans s6))) ?_
      unfold dueD; rw [es]
      dsimp only
      rw [if_neg (by rw [hc]; simp)]
      exact .tup upd_same (.cons (rat_rd ((s4.trans (s5.trans s6)) _ _ ham2)) (.cons (.lst (s6 _ _ hGl) ((grs_rd hgr).same s6)) .nil))
end
end KT
end
section
set_option maxHeartbeats 8000000
set_option Elab.async false
set_option linter.all false
set_option maxRecDepth 100000
namespace KT
open PySem L2 KM KK
open KQ (ThAt WlAt ORat TxQ oneT shutM for_zip stG rlG brk GrsI GrAt stG_le)
theorem lexE.trans {a b c : Rat × Rat} (h : lexE a b) (k : lexE b c) : lexE a c := by
  unfold lexE at *
  rcases h with h | ⟨h1, h2⟩ <;> rcases k with k | ⟨k1, k2⟩
  · exact .inl (by grind)
  · exact .inl (by grind)
  · exact .inl (by grind)
  · exact .inr ⟨by grind, by grind⟩
theorem ord_of {bs : List Ball} {lo hi : Wl} (G : Good bs) (B : Box bs lo hi) (h1 : 1 ≤ bs.length) : Ord bs lo hi := by
  have hpb : (bs.map fun b => (b.pl, b.sp)).Pairwise lexE := by
    rw [List.pairwise_map]
    refine G.pw.imp fun {a b} h => ?_
    rcases h with h | ⟨h1, h2⟩
    · exact .inl h
    · exact .inr ⟨h1, by show a.sp ≤ b.sp; grind⟩
  have hlo : ∀ x y, lo = some (x, y) → ∀ b ∈ bs, lexE (x, y) (b.pl, b.sp) := fun x y e b mb => by
    obtain ⟨b0, e0⟩ : ∃ b0, bs[0]? = some b0 := ⟨_, List.getElem?_eq_getElem h1⟩
    have h0 : lexE (x, y) (b0.pl, b0.sp) := by
      obtain ⟨g1, g2⟩ := B.lo x y b0 e e0
      by_cases z : x = b0.pl
      · exact .inr ⟨z, g2 z⟩
      · exact .inl (by show x < b0.pl; grind)
    match bs, e0 with
    | c :: cs, e0 =>
      cases e0
      rcases List.mem_cons.mp mb with rfl | mb
      · exact h0
      · refine h0.trans ?_
        rcases (List.pairwise_cons.mp G.pw).1 b mb with h | ⟨g1, g2⟩
        · exact .inl h
        · exact .inr ⟨g1, Rat.le_of_lt g2⟩
  have hhi : ∀ x y, hi = some (x, y) → ∀ b ∈ bs, lexE (b.pl, b.sp) (x, y) := fun x y e b mb => by
    obtain ⟨cs, c, ec⟩ : ∃ cs c, bs = cs ++ [c] := ⟨_, _, (List.dropLast_concat_getLast (by intro z; rw [z] at h1; simp at h1)).symm⟩
    have h0 : lexE (c.pl, c.sp) (x, y) := by
      obtain ⟨g1, g2⟩ := B.hi x y cs c e ec
      by_cases z : x = c.pl
      · exact .inr ⟨z.symm, g2 z⟩
      · exact .inl (by show c.pl < x; grind)
    have gp := G.pw
    rw [ec] at mb gp
    rcases List.mem_append.mp mb with mb | mb
    · refine lexE.trans ?_ h0
      rcases (List.pairwise_append.mp gp).2.2 b mb c (List.mem_cons_self ..) with h | ⟨g1, g2⟩
      · exact .inl h
      · exact .inr ⟨g1, by show b.sp ≤ c.sp; grind⟩
    · rw [List.mem_singleton.mp mb]; exact h0
  refine ⟨?_, B.lt⟩
  unfold tl
  refine List.pairwise_append.mpr ⟨List.pairwise_append.mpr ⟨?_, hpb, fun a ma b mb => ?_⟩, ?_, fun a ma b mb => ?_⟩
  · cases lo with
    | none => exact .nil
    | some u => exact List.pairwise_singleton ..
  · obtain ⟨c, mc, rfl⟩ := List.mem_map.mp mb
    cases lo with
    | none => cases ma
    | some u => rw [List.mem_singleton.mp ma]; exact hlo _ _ rfl c mc
  · cases hi with
    | none => exact .nil
    | some u => exact List.pairwise_singleton ..
  · cases hi with
    | none => cases mb
    | some u =>
      rw [List.mem_singleton.mp mb]
      rcases List.mem_append.mp ma with ma | ma
      · cases lo with
        | none => cases ma
        | some v => rw [List.mem_singleton.mp ma]; exact .inl (B.lt _ _ _ _ rfl rfl)
      · obtain ⟨c, mc, rfl⟩ := List.mem_map.mp ma
        exact hhi _ _ rfl c mc
theorem tz_of {bs : List Ball} {lo hi : Wl} (z : ∀ b ∈ bs, Sz 300 b.pl ∧ Sz 80 b.sp) (z1 : ∀ x y, lo = some (x, y) → Sz 320 x ∧ Sz 80 y) (z2 : ∀ x y, hi = some (x, y) → Sz 320 x ∧ Sz 80 y) : TZ bs lo hi := by
  intro t mt
  unfold tl at mt
  rcases List.mem_append.mp mt with mt | mt
  · rcases List.mem_append.mp mt with mt | mt
    · cases lo with
      | none => cases mt
      | some u => rw [List.mem_singleton.mp mt]; exact z1 _ _ rfl
    · obtain ⟨c, mc, rfl⟩ := List.mem_map.mp mt
      exact ⟨(z c mc).1.mono (by decide), (z c mc).2⟩
  · cases hi with
    | none => cases mt
    | some u => rw [List.mem_singleton.mp mt]; exact z2 _ _ rfl
theorem line_lex {P m : Rat} (hm : 0 < m) {qs : List Rat} (h : qs.Pairwise (· ≥ ·)) : (lineL P m qs).Pairwise lexE := by
  unfold lineL
  rw [List.pairwise_map]
  refine h.imp fun {a b} le => ?_
  have le : b ≤ a := le
  by_cases z : a = b
  · subst z; exact .inr ⟨rfl, by show a ≤ a; grind⟩
  · have := Rat.mul_lt_mul_of_pos_right (show b < a by grind) hm
    exact .inl (by show P - a * m < P - b * m; grind)
theorem far {q q' m : Rat} (hm : 0 < m) (h9 : m ≤ 9) (h1 : -38 ≤ q) (h2 : q' ≤ 38) : (q' - q) * m < 1000 := by
  have a1 := Rat.mul_le_mul_of_nonneg_right (show q' - q ≤ 76 by grind) (Rat.le_of_lt hm)
  have a2 : (76 : Rat) * m ≤ 76 * 9 := Rat.mul_le_mul_of_nonneg_left h9 (by decide)
  have a3 : (76 : Rat) * 9 < 1000 := by decide +kernel
  grind
def wlL (P m : Rat) (o : Option Rat) : Wl := o.map fun z => (P - z * m, z)
theorem one_line (P m : Rat) (o : Option Rat) : oneT (wlL P m o) = lineL P m o.toList := by cases o <;> rfl
theorem line_append (P m : Rat) (a b : List Rat) : lineL P m (a ++ b) = lineL P m a ++ lineL P m b := by unfold lineL; rw [List.map_append]
theorem ord_two {bs cs : List Ball} {P m : Rat} {qs rs : List Rat} {o1 o2 : Option Rat} (hm : 0 < m) (h9 : m ≤ 9) (e1 : bs.map (fun b => (b.pl, b.sp)) = lineL P m qs) (e2 : cs.map (fun b => (b.pl, b.sp)) = lineL (P + 1000) m rs)
    (p1 : (o1.toList ++ qs).Pairwise (· ≥ ·)) (p2 : (rs ++ o2.toList).Pairwise (· ≥ ·)) (b1 : ∀ q ∈ o1.toList ++ qs, -38 ≤ q) (b2 : ∀ q ∈ rs ++ o2.toList, q ≤ 38) : Ord (bs ++ cs) (wlL P m o1) (wlL (P + 1000) m o2) := by
  refine ⟨?_, fun x y x' y' g1 g2 => ?_⟩
  · unfold tl
    rw [one_line, one_line, List.map_append, e1, e2, ← List.append_assoc, ← line_append, List.append_assoc, ← line_append]
    refine List.pairwise_append.mpr ⟨line_lex hm p1, line_lex hm p2, fun a ma b mb => ?_⟩
    unfold lineL at ma mb
    obtain ⟨q, mq, rfl⟩ := List.mem_map.mp ma
    obtain ⟨r, mr, rfl⟩ := List.mem_map.mp mb
    have := far hm h9 (b1 q mq) (b2 r mr)
    exact .inl (by show P - q * m < P + 1000 - r * m; grind)
  · cases o1 with
    | none => cases g1
    | some z =>
      cases o2 with
      | none => cases g2
      | some z' =>
        cases g1; cases g2
        have := far hm h9 (b1 y (List.mem_append_left _ (List.mem_cons_self ..))) (b2 y' (List.mem_append_right _ (List.mem_cons_self ..)))
        grind
theorem BallsAt.take' {H : Hp} : ∀ {vs : List V} {bs : List Ball} (n : Nat), BallsAt H vs bs → BallsAt H (vs.take n) (bs.take n)
  | _, _, 0, _ => by simp; exact .nil
  | _, _, n + 1, .nil => by simp; exact .nil
  | _, _, n + 1, .cons h1 h2 h3 h => by rw [List.take_succ_cons, List.take_succ_cons]; exact .cons h1 h2 h3 (BallsAt.take' n h)
theorem BallsAt.drop' {H : Hp} : ∀ {vs : List V} {bs : List Ball} (n : Nat), BallsAt H vs bs → BallsAt H (vs.drop n) (bs.drop n)
  | _, _, 0, h => h
  | _, _, n + 1, .nil => by simp; exact .nil
  | _, _, n + 1, .cons h1 h2 h3 h => by rw [List.drop_succ_cons, List.drop_succ_cons]; exact BallsAt.drop' n h
theorem cut_last {α : Type} (xs : List α) (k : Nat) (hk : 0 < k) : cutG xs (some (-(k : Int))) none = xs.drop (xs.length - k) := by
  unfold cutG
  have e1 : HT.sIx xs.length 0 (some (-(k : Int))) = xs.length - k := by
    show (if -(k : Int) < 0 then (-(k : Int) + (xs.length : Int)).toNat else _) = _
    rw [if_pos (by omega)]; omega
  have e2 : HT.sIx xs.length xs.length none = xs.length := rfl
  rw [e1, e2, List.take_of_length_le (by rw [List.length_drop]; omega)]
theorem fd_take {wh : Int} {z : Rat} {qs : List Rat} (h : FD wh z qs) (l8 : qs.length ≤ 8) (z0 : -6 ≤ z) (z1 : z ≤ 6) : (∀ q ∈ qs, -38 ≤ q ∧ q ≤ 38) ∧ qs.Pairwise (· ≥ ·) := by
  refine ⟨fun q mq => ?_, h.1.imp fun {a b} g => by show a ≥ b; have g : a > b := g; grind⟩
  have := h.2.2.2 q mq
  have := bq_le l8
  grind
end KT
end
section
set_option maxHeartbeats 8000000
set_option Elab.async false
set_option linter.all false
set_option maxRecDepth 100000
namespace KT
open PySem L2 KM KK
open KQ (ThAt WlAt ORat TxQ oneT shutM for_zip stG rlG brk GrsI GrAt stG_le)
def StO (p : Addr) (H : Hp) (Q : VK) : Prop := ∀ t r ws us bs v1 v2 l1 l2 H', Step p H H' → H' t = some (.tup [.ref r, .ref ws]) → H' r = some (.tup us) → BallsAt H' us bs → bs.length ≤ 8 → H' ws = some (.tup [v1, v2]) → WallAt H' v1 l1 → WallAt H' v2 l2 → TZ bs l1 l2 → Ord bs l1 l2 → Q (.ref t) H'
theorem thouAt {H : Hp} {p : Addr} (h : H p = some (.tup [.int 1000, .int 1])) : RatAt H p 1000 := h
theorem thou_sz : Sz 10 1000 := ⟨show (1000 : Int).natAbs < 2 ^ 10 by decide, show (1 : Int).natAbs < 2 ^ 10 by decide⟩
section
variable {P : Program} {w : World} {K : PySem.W.Frag} {mg : Str → Option Value} {base : Heap}
def spDb : Sp := fun vs H Q _ => ∃ (p : Addr), vs = [.ref p] ∧ Pool H p ∧ StO p H Q
theorem sc_db : FnScope ["pool", "moment", "place", "off", "sides", "alike", "left", "low", "right", "high"] ["pool"] (defScope s_law_double) := ⟨rfl, rfl, rfl, by decide +kernel, rfl, by decide +kernel, by decide +kernel⟩
theorem ok_db (D : Df K mg "_law_double" s_law_double ["pool"] []) (cN : Cal P w K mg base "_law_next" 1 ["pool", "base"] [] spNext) (cRa : Cal P w K mg base "_law_ratio" 3 ["pool", "size"] [] spRaB)
    (cL : Cal P w K mg base "_law_low" 1 ["top", "bottom"] [] spLow) (cA : Cal P w K mg base "_law_add" 2 ["a", "b"] [] (spBin Sz2 (· + ·))) (cBu : Cal P w K mg base "_law_bundle" 3 ["pool", "where", "place", "moment", "alike"] [] spBu) : Cal P w K mg base "_law_double" 4 ["pool"] [] spDb := by
  refine D.calB (k := 3) sc_db (fun vs H Q E h => by obtain ⟨_, rfl, _⟩ := h; rfl) (fun f cdv A outer s H vs Q E hr h => ?_)
  obtain ⟨p, rfl, hP, k⟩ := h
  have hr1 : Room 1 _ := hr.mono (by decide)
  have hr2 : Room 2 _ := hr.mono (by decide)
  refine ⟨_, (bx_scons (bx_set (i := 1) sc_db.nd rfl (Or.inl rfl) (Bx.mk (pe_c cL hr1 (pa_cons (pe_op op_add pe_int (pe_c cN hr1 (pa_cons (pv 0) (pa_cons pe_int pa_nil)))) (pa_cons (pe_ix ix_list (pe_lst (pa_cons pe_int (pa_cons pe_int (pa_cons pe_int pa_nil)))) (pe_c cN hr1 (pa_cons (pv 0) (pa_cons pe_int pa_nil))) (fun _ _ => rfl)) pa_nil)))))
    (bx_scons (Bx.mk (ps_set (i := 2) sc_db.nd rfl (Or.inl rfl) (pe_c cRa hr (pa_cons (pv 0) (pa_cons pe_int pa_nil)))))
    (bx_scons (Bx.mk (ps_set (i := 3) sc_db.nd rfl (Or.inl rfl) (pe_c cA hr2 (pa_cons (pv 2) (pa_cons (pe_tup (pa_cons pe_int (pa_cons pe_int pa_nil))) pa_nil)))))
    (bx_scons (Bx.mk (ps_set (i := 4) sc_db.nd rfl (Or.inl rfl) (pe_lst (pa_cons (pe_c cN hr1 (pa_cons (pv 0) (pa_cons pe_int pa_nil))) (pa_cons (pe_op op_mulB pe_int (pe_c cN hr1 (pa_cons (pv 0) (pa_cons pe_int pa_nil)))) pa_nil)))))
    (bx_scons (Bx.mk (ps_set (i := 5) sc_db.nd rfl (Or.inl rfl) (pe_lst (pa_cons (pe_cmpR op_eq (pe_c cN hr1 (pa_cons (pv 0) (pa_cons pe_int pa_nil))) pe_int (nomark _)) (pa_cons (pe_cmpR op_eq (pe_c cN hr1 (pa_cons (pv 0) (pa_cons pe_int pa_nil))) pe_int (nomark _)) pa_nil)))))
    (bx_scons (Bx.mk (ps_asg (pe_c cBu hr (pa_cons (pv 0) (pa_cons (pe_ix ix_list (pv 4) pe_int (fun _ _ => rfl)) (pa_cons (pv 2) (pa_cons (pv 1) (pa_cons (pe_ix ix_list (pv 5) pe_int (fun _ _ => rfl)) pa_nil)))))) (pg_tup rfl (pgs_cons (pg_name (i := 6) sc_db.nd rfl (Or.inl rfl)) (pgs_cons (pg_name (i := 7) sc_db.nd rfl (Or.inl rfl)) pgs_nil)))))
    (bx_scons (Bx.mk (ps_asg (pe_c cBu hr (pa_cons (pv 0) (pa_cons (pe_ix ix_list (pv 4) pe_int (fun _ _ => rfl)) (pa_cons (pv 3) (pa_cons (pv 1) (pa_cons (pe_ix ix_list (pv 5) pe_int (fun _ _ => rfl)) pa_nil)))))) (pg_tup rfl (pgs_cons (pg_name (i := 8) sc_db.nd rfl (Or.inl rfl)) (pgs_cons (pg_name (i := 9) sc_db.nd rfl (Or.inl rfl)) pgs_nil)))))
    (Bx.mk (pss_one (ps_ret (pe_tup (pa_cons (pe_op op_catA (pe_slice (sl_tup.or sl_whole) (pv 6) po_none (po_some pe_int)) (pe_slice (sl_tup.or sl_whole) (pv 8) (po_some (pe_un un_neg pe_int)) po_none)) (pa_cons (pe_tup (pa_cons (pe_ix ix_list (pe_lst (pa_cons pe_non (pa_cons (pv 7) pa_nil))) (pe_ix ix_list (pv 4) pe_int (fun _ _ => rfl)) (fun _ _ => rfl)) (pa_cons (pe_ix ix_list (pe_lst (pa_cons pe_non (pa_cons pe_non (pa_cons (pv 9) pa_nil)))) (pe_ix ix_list (pv 4) pe_int (fun _ _ => rfl)) (fun _ _ => rfl)) pa_nil))) pa_nil))))))))))))), ?_⟩
  refine st_mid (fun σ' G => ∃ rm mm, σ' = [some (.ref p), some (.ref rm), none, none, none, none, none, none, none, none] ∧ Step p H G ∧ RatAt G rm mm ∧ Sz 5 mm ∧ 0 < mm ∧ mm ≤ 9) ?_ ?_
  rotate_left
  · intro nx hnx
    refine ⟨_, rfl, p, _, rfl, by decide, by decide, hP, fun d1 G1 a1 b1 t1 => ⟨_, _, rfl, rfl, by show 3 ≤ sizeLine; decide, fun l1 hl1 => ?_⟩⟩
    refine ⟨_, rfl, p, _, rfl, by decide, by decide, t1.pool.new hl1, fun d2 G2 a2 b2 t2 => ?_⟩
    obtain ⟨v, ev, v0, v1⟩ := menu3m a2 b2
    refine ⟨l1, _, _, _, rfl, rfl, .of (t2.keep l1 _ upd_same (t1.pool.ne hl1)), ev, ?_⟩
    have hb := div_bd (t := 1 + d1) (b := v) (c := 9) (by omega) (by omega) (by omega)
    exact ⟨_, _, rfl, by omega, Bd.mono (m := 5) (bdn (by omega) (by omega)) (by decide), fun r H' e h => hnx _ _ ⟨r, _, rfl, (t1.trans (t2.pre (Same.upd hl1))).same e, h, sz_q (by omega) (by omega) (by omega) (by omega), by rw [← Rat.zero_divInt v]; exact (divInt_lt (by omega)).mpr (by omega), hb.2⟩⟩
  rintro σ' G1 ⟨rm, mm, rfl, T1, hrm, zmm, pmm, m9⟩
  refine ⟨_, rfl, p, _, rfl, by decide, by decide, T1.pool, fun rp px G2 t2 hrp zrp => ?_⟩
  have T2 := T1.trans t2
  have hrm2 : RatAt G2 rm mm := step_tups T1.pool t2 _ _ hrm
  refine ⟨_, rfl, by show 2 ≤ sizeLine; decide, fun th hth => ?_⟩
  have s3 := Same.upd (o := .tup [.int 1000, .int 1]) hth
  refine ⟨rp, th, _, _, rfl, s3 _ _ hrp, thouAt upd_same, ⟨zrp.mono (by decide), thou_sz.mono (by decide)⟩, fun ro G4 s4 hro => ?_⟩
  have S4 := s3.trans s4
  have T4 := T2.same S4
  have hrp4 : RatAt G4 rp px := S4 _ _ hrp
  have hrm4 : RatAt G4 rm mm := S4 _ _ hrm2
  have zro : Sz 80 (px + 1000) := (zrp.add thou_sz).mono (by decide)
  clear s3 hth
  dsimp only [gName]
  -- sides
  refine st_mid (fun σ' G => ∃ (d1 d2 : Int) (ls : Addr), σ' = [some (.ref p), some (.ref rm), some (.ref rp), some (.ref ro), some (.ref ls), none, none, none, none, none] ∧ 0 ≤ d1 ∧ d1 < 2 ∧ 0 ≤ d2 ∧ d2 < 2 ∧ Step p G4 G ∧ G ls = some (.lst [.int d1, .int (2 * d2)]) ∧ ls ≠ p) ?_ ?_
  rotate_left
  · intro nx hnx
    refine ⟨_, rfl, p, _, rfl, by decide, by decide, T4.pool, fun d1 G5 a1 b1 t5 => ?_⟩
    refine ⟨_, rfl, p, _, rfl, by decide, by decide, t5.pool, fun d2 G6 a2 b2 t6 => ?_⟩
    refine ⟨_, _, rfl, rfl, ⟨Bd.mono (m := 3) (bdn (by decide) (by decide)) (by decide), Bd.mono (m := 3) (bdn (by omega) (by omega)) (by decide)⟩, by show 2 ≤ sizeLine; decide, fun ls hls => ?_⟩
    exact hnx _ _ ⟨d1, d2, ls, rfl, a1, b1, a2, b2, (t5.trans t6).same (Same.upd hls), upd_same, t6.pool.ne hls⟩
  rintro σ' G5 ⟨d1, d2, ls, rfl, a1, b1, a2, b2, t5, hls, hlsp⟩
  have T5 := T4.trans t5
  -- alike
  refine st_mid (fun σ' G => ∃ (e1 e2 : Bool) (la : Addr), σ' = [some (.ref p), some (.ref rm), some (.ref rp), some (.ref ro), some (.ref ls), some (.ref la), none, none, none, none] ∧ Step p G5 G ∧ G la = some (.lst [.bl e1, .bl e2]) ∧ la ≠ p) ?_ ?_
  rotate_left
  · intro nx hnx
    refine ⟨_, rfl, p, _, rfl, by decide, by decide, T5.pool, fun f1 G6 _ _ t6 => ?_⟩
    refine ⟨rfl, _, rfl, p, _, rfl, by decide, by decide, t6.pool, fun f2 G7 _ _ t7 => ?_⟩
    refine ⟨rfl, by show 2 ≤ sizeLine; decide, fun la hla => ?_⟩
    exact hnx _ _ ⟨_, _, la, rfl, (t6.trans t7).same (Same.upd hla), upd_same, t7.pool.ne hla⟩
  rintro σ' G6 ⟨e1, e2, la, rfl, t6, hla, hlap⟩
  have T6 := T5.trans t6
  have Tu46 : TupS G4 G6 := (step_tups T4.pool t5).trans (step_tups T5.pool t6)
  have hls6 := t6.keep ls _ hls hlsp
  -- left
  refine ⟨_, rfl, _, rfl, ls, _, _, _, rfl, rfl, .of hls6, rfl, _, rfl, _, rfl, _, rfl, la, _, _, _, rfl, rfl, .of hla, rfl, p, rp, rm, d1, e1, px, mm, rfl, a1, by omega, Tu46 _ _ hrp4, zrp.mono (by decide), Tu46 _ _ hrm4, zmm, T6.pool, fun t r wl us bs ra rb y z G7 t7 ht hrr hB hZ h1 h8 hwl hra hrb zy zz hln => ?_⟩
  obtain ⟨qs, hL, hFD, rfl, z0, z1⟩ := hln
  have T7 := T6.trans t7
  have Tu7 := step_tups T6.pool t7
  refine ⟨t, _, rfl, .of ht, rfl, _, _, rfl, _, _, rfl, rfl, ?_⟩
  dsimp only [gName]
  -- right
  have Tu47 := Tu46.trans Tu7
  refine ⟨_, rfl, _, rfl, ls, _, _, _, rfl, rfl, .of (t7.keep _ _ hls6 hlsp), rfl, _, rfl, _, rfl, _, rfl, la, _, _, _, rfl, rfl, .of (t7.keep _ _ hla hlap), rfl, p, ro, rm, 2 * d2, e2, px + 1000, mm, rfl, by omega, by omega, Tu47 _ _ hro, zro, Tu47 _ _ hrm4, zmm, T7.pool, fun t' r' wl' us' bs' ra' rb' y' z' G8 t8 ht' hrr' hB' hZ' h1' h8' hwl' hra' hrb' zy' zz' hln' => ?_⟩
  obtain ⟨qs', hL', hFD', rfl, z0', z1'⟩ := hln'
  have T8 := T7.trans t8
  have Tu8 := step_tups T7.pool t8
  have hls8 := t8.keep _ _ (t7.keep _ _ hls6 hlsp) hlsp
  refine ⟨t', _, rfl, .of ht', rfl, _, _, rfl, _, _, rfl, rfl, ?_⟩
  dsimp only [gName]
  -- told
  refine ⟨_, rfl, _, rfl, cut_get (Tu8 _ _ hrr) fun c1 G9 s9 hc1 => ?_⟩
  refine ⟨_, rfl, _, rfl, _, rfl, cut_get (s9 _ _ hrr') fun c2 G10 s10 hc2 => ?_⟩
  rw [show (some (4 : Int)) = some ((4 : Nat) : Int) from rfl, cutG_to] at hc1
  rw [show (some (-4 : Int)) = some (-((4 : Nat) : Int)) from rfl, cut_last _ _ (by decide)] at hc2
  refine cat_get (s10 _ _ hc1) hc2 (by simp only [List.length_take, List.length_drop]; omega) fun c3 G11 s11 hc3 => ?_
  have S11 := s9.trans (s10.trans s11)
  have hls11 := S11 _ _ hls8
  -- the walls
  have hw1 : ∀ G, TupS G8 G → WallAt G (.ref wl) (some (px - z * mm, z)) := fun G e => ⟨wl, ra, rb, rfl, e _ _ (Tu8 _ _ hwl), e _ _ (Tu8 _ _ hra), e _ _ (Tu8 _ _ hrb)⟩
  have hw2 : ∀ G, TupS G8 G → WallAt G (.ref wl') (some (px + 1000 - z' * mm, z')) := fun G e => ⟨wl', ra', rb', rfl, e _ _ hwl', e _ _ hra', e _ _ hrb'⟩
  refine ⟨_, rfl, by show 2 ≤ sizeLine; decide, fun l1 hl1 => ?_⟩
  have s12 := Same.upd (o := .lst [.non, .ref wl]) hl1
  have hl1' : upd G11 l1 (.lst [.non, .ref wl]) l1 = some (.lst [.non, .ref wl]) := upd_same
  generalize upd G11 l1 (.lst [.non, .ref wl]) = G12 at s12 hl1'
  obtain ⟨v1, o1, i1, k1, k2⟩ : ∃ (v1 : V) (o1 : Option Rat), atI [V.non, .ref wl] d1 = some v1 ∧ (∀ G, TupS G8 G → WallAt G v1 (wlL px mm o1)) ∧ ((o1 = none) ∨ (d1 = 1 ∧ o1 = some z)) := by
    have : d1 = 0 ∨ d1 = 1 := by omega
    rcases this with rfl | rfl
    · exact ⟨.non, none, rfl, fun _ _ => rfl, .inl rfl⟩
    · exact ⟨.ref wl, some z, rfl, hw1, .inr ⟨rfl, rfl⟩⟩
  refine ⟨_, rfl, ls, _, _, _, rfl, rfl, .of (s12 _ _ hls11), rfl, l1, _, _, _, rfl, rfl, .of hl1', i1, ?_⟩
  refine ⟨_, rfl, by show 3 ≤ sizeLine; decide, fun l2 hl2 => ?_⟩
  have s13 := Same.upd (o := .lst [.non, .non, .ref wl']) hl2
  have hl2' : upd G12 l2 (.lst [.non, .non, .ref wl']) l2 = some (.lst [.non, .non, .ref wl']) := upd_same
  generalize upd G12 l2 (.lst [.non, .non, .ref wl']) = G13 at s13 hl2'
  obtain ⟨v2, o2, i2, k3, k4⟩ : ∃ (v2 : V) (o2 : Option Rat), atI [V.non, .non, .ref wl'] (2 * d2) = some v2 ∧ (∀ G, TupS G8 G → WallAt G v2 (wlL (px + 1000) mm o2)) ∧ ((o2 = none) ∨ (2 * d2 = 2 ∧ o2 = some z')) := by
    have : d2 = 0 ∨ d2 = 1 := by omega
    rcases this with rfl | rfl
    · exact ⟨.non, none, rfl, fun _ _ => rfl, .inl rfl⟩
    · exact ⟨.ref wl', some z', rfl, hw2, .inr ⟨rfl, rfl⟩⟩
  refine ⟨_, rfl, ls, _, _, _, rfl, rfl, .of (s13 _ _ (s12 _ _ hls11)), rfl, l2, _, _, _, rfl, rfl, .of hl2', i2, ?_⟩
  refine ⟨by show 2 ≤ sizeLine; decide, fun ws hws => ⟨by show 2 ≤ sizeLine; decide, fun tt htt => ?_⟩⟩
  have s14 := (Same.upd (o := .tup [v1, v2]) hws).trans (Same.upd (o := .tup [.ref c3, .ref ws]) htt)
  have SE := s12.trans (s13.trans s14)
  have S8 := S11.trans SE
  have hq1 : qs.length = bs.length := by have := congrArg List.length hL; unfold lineL at this; simpa using this.symm
  have hq2 : qs'.length = bs'.length := by have := congrArg List.length hL'; unfold lineL at this; simpa using this.symm
  obtain ⟨f1, f2⟩ := fd_take hFD (by omega) z0 z1
  obtain ⟨f3, f4⟩ := fd_take hFD' (by omega) z0' z1'
  have hul := hB'.length
  refine k tt c3 ws _ (bs.take 4 ++ bs'.drop (us'.length - 4)) v1 v2 _ _ _ (T8.same S8) upd_same (SE _ _ hc3) ((BallsAt.append (BallsAt.drop' _ hB') (BallsAt.take' _ (hB.mono Tu8))).same S8) (by simp only [List.length_append, List.length_take, List.length_drop]; omega) (Same.upd htt _ _ upd_same) (k1 _ (.of S8)) (k3 _ (.of S8)) (tz_of (fun b mb => ?_) (fun x y e => ?_) (fun x y e => ?_)) (ord_two pmm m9 (qs := qs.take 4) (rs := qs'.drop (us'.length - 4)) ?_ ?_ ?_ ?_ (fun q mq => ?_) fun q mq => ?_)
  · rcases List.mem_append.mp mb with mb | mb
    · exact ⟨(hZ b (List.mem_of_mem_take mb)).1, (hZ b (List.mem_of_mem_take mb)).2.1⟩
    · exact ⟨(hZ' b (List.mem_of_mem_drop mb)).1, (hZ' b (List.mem_of_mem_drop mb)).2.1⟩
  · rcases k2 with rfl | ⟨_, rfl⟩
    · cases e
    · cases e; exact ⟨zy.mono (by decide), zz⟩
  · rcases k4 with rfl | ⟨_, rfl⟩
    · cases e
    · cases e; exact ⟨zy'.mono (by decide), zz'⟩
  · rw [List.map_take, hL]; unfold lineL; rw [List.map_take]
  · rw [List.map_drop, hL']; unfold lineL; rw [List.map_drop]
  · rcases k2 with rfl | ⟨rfl, rfl⟩
    · exact f2.sublist (List.take_sublist _ _)
    · exact List.pairwise_cons.mpr ⟨fun a ma => hFD.2.1 rfl a (List.mem_of_mem_take ma), f2.sublist (List.take_sublist _ _)⟩
  · rcases k4 with rfl | ⟨e2, rfl⟩
    · rw [Option.toList_none, List.append_nil]; exact f4.sublist (List.drop_sublist _ _)
    · refine List.pairwise_append.mpr ⟨f4.sublist (List.drop_sublist _ _), List.pairwise_singleton .., fun a ma b mb => ?_⟩
      rw [List.mem_singleton.mp mb]
      exact hFD'.2.2.1 e2 a (List.mem_of_mem_drop ma)
  · rcases List.mem_append.mp mq with mq | mq
    · rcases k2 with rfl | ⟨_, rfl⟩
      · cases mq
      · rw [List.mem_singleton.mp mq]; grind
    · exact (f1 q (List.mem_of_mem_take mq)).1
  · rcases List.mem_append.mp mq with mq | mq
    · exact (f3 q (List.mem_of_mem_drop mq)).2
    · rcases k4 with rfl | ⟨_, rfl⟩
      · cases mq
      · rw [List.mem_singleton.mp mq]; grind
def spDr : Sp := fun vs H Q _ => ∃ (p : Addr), vs = [.ref p] ∧ Pool H p ∧ StO p H Q
theorem sc_dr : FnScope ["pool", "way", "row"] ["pool"] (defScope s_law_drawn) := ⟨rfl, rfl, rfl, by decide +kernel, rfl, by decide +kernel, by decide +kernel⟩
theorem ok_dr (D : Df K mg "_law_drawn" s_law_drawn ["pool"] []) (cN : Cal P w K mg base "_law_next" 1 ["pool", "base"] [] spNext) (cFo : Cal P w K mg base "_law_focused" 4 ["pool", "alike"] [] spFo) (cDb : Cal P w K mg base "_law_double" 4 ["pool"] [] spDb) (cRo : Cal P w K mg base "_law_row" 4 ["pool", "most"] [] spRow) (cBx : Cal P w K mg base "_law_box" 4 ["pool", "row"] [] spBx) : Cal P w K mg base "_law_drawn" 5 ["pool"] [] spDr := by
  refine D.calB (k := 4) sc_dr (fun vs H Q E h => by obtain ⟨_, rfl, _⟩ := h; rfl) (fun f cdv A outer s H vs Q E hr h => ?_)
  obtain ⟨p, rfl, hP, k⟩ := h
  have hr1 : Room 1 _ := hr.mono (by decide)
  refine ⟨_, (bx_scons (Bx.mk (ps_set (i := 1) sc_dr.nd rfl (Or.inl rfl) (pe_c cN hr1 (pa_cons (pv 0) (pa_cons pe_int pa_nil)))))
    (bx_scons (Bx.mk (ps_if (pt_cmpR op_lt (pv 1) pe_int (nomark _)) (pss_one (ps_ret (pe_c cFo hr (pa_cons (pv 0) (pa_cons (pe_cmpR op_eq (pe_c cN hr1 (pa_cons (pv 0) (pa_cons pe_int pa_nil))) pe_int (nomark _)) pa_nil))))) pss_nil))
    (bx_scons (Bx.mk (ps_if (pt_cmpR op_eq (pv 1) pe_int (nomark _)) (pss_one (ps_ret (pe_c cDb hr (pa_cons (pv 0) pa_nil)))) pss_nil))
    (bx_scons (Bx.mk (ps_set (i := 2) sc_dr.nd rfl (Or.inl rfl) (pe_c cRo hr (pa_cons (pv 0) (pa_cons pe_int pa_nil)))))
    (Bx.mk (pss_one (ps_ret (pe_tup (pa_cons (pv 2) (pa_cons (pe_c cBx hr (pa_cons (pv 0) (pa_cons (pv 2) pa_nil))) pa_nil)))))))))), ?_⟩
  refine ⟨_, rfl, p, _, rfl, by decide, by decide, hP, fun d G1 a1 b1 t1 => ?_⟩
  dsimp only [gName]
  refine ⟨_, rfl, _, _, rfl, rfl, _, rfl, ite2 (fun h => ?_) (fun h => st_next ?_)⟩
  · refine ⟨_, rfl, _, rfl, p, _, rfl, by decide, by decide, t1.pool, fun d2 G2 _ _ t2 => ⟨rfl, p, _, rfl, t2.pool, ?_⟩⟩
    intro t r ws us bs v1 v2 l1 l2 G3 t3 ht hr hB hG h1 h8 hws hv1 hv2 hBx
    exact k t r ws us bs v1 v2 l1 l2 G3 (t1.trans (t2.trans t3)) ht hr hB h8 hws hv1 hv2 (tz_of hG.sz hBx.z1 hBx.z2) (ord_of hG hBx h1)
  dsimp only
  refine ⟨_, rfl, rfl, _, rfl, ite2 (fun h => ?_) (fun h => st_next ?_)⟩
  · refine ⟨_, rfl, p, rfl, t1.pool, ?_⟩
    intro t r ws us bs v1 v2 l1 l2 G3 t3
    exact k t r ws us bs v1 v2 l1 l2 G3 (t1.trans t3)
  dsimp only
  refine ⟨_, rfl, p, _, rfl, by decide, by decide, t1.pool, fun r us bs G2 t2 hr hB hG h1 h8 => ?_⟩
  dsimp only [gName]
  refine ⟨_, rfl, _, rfl, _, rfl, p, r, us, bs, rfl, hr, hB, hG, h1, t2.pool, fun ws v1 v2 l1 l2 G3 t3 hws hv1 hv2 hBx => ⟨by show 2 ≤ sizeLine; decide, fun tt htt => ?_⟩⟩
  have Tu3 := step_tups t2.pool t3
  have s := Same.upd (o := .tup [.ref r, .ref ws]) htt
  exact k tt r ws us bs v1 v2 l1 l2 _ ((t1.trans (t2.trans t3)).same s) upd_same (s _ _ (Tu3 _ _ hr)) ((hB.mono Tu3).same s) h8 (s _ _ hws) (hv1.tups (.of s)) (hv2.tups (.of s)) (tz_of hG.sz hBx.z1 hBx.z2) (ord_of hG hBx h1)
end
end KT
end
section
set_option maxHeartbeats 8000000
set_option Elab.async false
set_option linter.all false
set_option maxRecDepth 100000
namespace L2
open PySem PySem.Spec PyProof.Rows PySem.W
theorem ty_at {M : Model} {h : Heap} {a : Addr} {o : Obj} {c : Value} (e : h.get? a = some o) (k : o.cls = c) : Looks M h (typeOf (.ref a)) c := by
  subst k; exact (Looks.ld e).andThen .now
section
variable {X : Cx} {i : Nat} {x n : Str} {C : Addr} {np hpos pos : Pos} {body suite : List Stmt} {b₀ : Stmt} {tb : XJ → TS} {ts : Addr → Option Addr → TS}
theorem ps_tryS {Dc : Addr} (hst : X.stack = X.env :: X.outer) (hfr : X.env.frame = some X.env.locals) (hm : X.mg x = some (.ref Dc)) (hx : exmOne X.K (.ref C) (.ref Dc) = some true) (hN : X.N.Nodup) (hi : X.N[i]? = some n) (hk : X.env.kindOf n = some .local)
    (hb : ∀ pins W J, Bears (X.tried pins W) J → PSs (X.tried pins W) body (tb J)) (hs : ∀ pins a oe d vs, oe.cls = .ref C → oe.dict = d → oe.data = .fields vs → PSs (X.suite pins a oe) (b₀ :: suite) (ts a d))
    (hg : Gl X x := by rfl) (hd : (x == ("__debug__" : Str)) = false := by decide) :
    PS X (.Try body [.ExceptHandler (some (.Name x np)) (some n) (b₀ :: suite) hpos] [] [] pos) (tTry i C tb ts) := by
  intro pins s σ H D I h
  have hb' := hb pins (fun e s₁ => wpAny (model X.prog X.w) X.A (noteFrame e X.env) (fun _ s₂ => wpAny (model X.prog X.w) X.A (setFlight e none) (fun _ s₃ =>
    wpAny (model X.prog X.w) X.A (handleBy e X.env [.ExceptHandler (some (.Name x np)) (some n) (b₀ :: suite) hpos]) (SP X pins D) X.xe s₃) X.xe s₂) X.xe s₁) _ ?_ [] s σ H D (I.tried _) h
  · refine wpAny_Try_except (wpAny_mono hb' (fun f s1 hf => ?_) fun _ _ z => z)
    cases f with
    | next => obtain ⟨σ', H', I', q⟩ := hf; exact wpAny_execs_nil ⟨σ', H', I'.untried I.ok, q⟩
    | brk => obtain ⟨σ', H', I', q⟩ := hf; exact ⟨σ', H', I'.untried I.ok, q⟩
    | cont => obtain ⟨σ', H', I', q⟩ := hf; exact ⟨σ', H', I'.untried I.ok, q⟩
    | ret u => obtain ⟨v, σ', H', I', r, q⟩ := hf; exact ⟨v, σ', H', I'.untried I.ok, r, q⟩
  · intro pins' σ' H1 s1 a C' H' s' B a0 dct I1 F hq
    obtain ⟨rfl, q⟩ := hq
    have I1 := I1.untried I.ok
    have hfrm : X.A.frames = some (X.env :: X.outer) := by rw [← hst]; exact I.ok.frames
    have F : Fly X.prog X.w X.stack H1 s1 C' H' a s' B a0 dct := F
    have Ffl : FlX B (X.env :: X.outer) a (.ref C') a0 dct s'.heap := by rw [← hst]; exact F.fly
    refine looks_x hfrm hfr Ffl fun h4 held up4 => ?_
    refine lands_x held fun h5 fl5 up5 => ?_
    have F5 := F.move (by rw [hst]; exact fl5) (up4.trans up5)
    have I5 := I1.call' F5.os F5.un F5.hok F5.bare (fun b z => absurd z (by simp))
    obtain ⟨ob, hob, hobc⟩ := fl5.there
    refine wpAny_handleBy_cons (codeAny_handlers_test (ld_glob (X := X.testing a) (I5.test a) hg hm ?_ hd)) (by intro q; cases q)
    obtain ⟨hh, g, d, tk, os⟩ := s'
    refine (exm_one (M := model X.prog X.w) I5.kIn (ty_at hob hobc) hx).here (codeAny_handlers_suite_as ?_)
    refine lands_x fl5.held fun h6 fl6 up6 => ?_
    have F6 := F5.move (by rw [hst]; exact fl6) up6
    have I6 := I1.call' F6.os F6.un F6.hok F6.bare (fun b z => absurd z (by simp))
    obtain ⟨oe, ws, hoe, hoec, hoet, hoed⟩ := fl6.first
    refine store_ok (X := X.suite pins a oe) (I6.suite hoe hoed F6.untracked) hN hi (.inl hk) (v := .ref a) rfl (fun s7 I7 => ?_) (.inr hk)
    refine wpAny_mono (hs pins a oe dct ws hoec hoet hoed [] s7 _ H' (D.gone i) I7 (q a F6.untracked)) (fun f s8 hf => ?_) fun _ _ z => z.elim
    cases f with
    | next => obtain ⟨σ8, H8, I8, q8⟩ := hf; exact goes_ok (I8.unsuite I.ok) hN hi hk fun s9 I9 => ⟨_, _, I9, q8⟩
    | brk => obtain ⟨σ8, H8, I8, q8⟩ := hf; exact goes_ok (I8.unsuite I.ok) hN hi hk fun s9 I9 => ⟨_, _, I9, q8⟩
    | cont => obtain ⟨σ8, H8, I8, q8⟩ := hf; exact goes_ok (I8.unsuite I.ok) hN hi hk fun s9 I9 => ⟨_, _, I9, q8⟩
    | ret u => obtain ⟨v, σ8, H8, I8, r8, q8⟩ := hf; exact goes_ok (I8.unsuite I.ok) hN hi hk fun s9 I9 => ⟨_, _, _, I9, r8, q8⟩
end
end L2
namespace KT
open PySem L2 KM KK
open KQ (ThAt WlAt ORat TxQ oneT shutM for_zip stG rlG brk GrsI GrAt stG_le spNC In soon chO momT tkO)
def AsR (H H' : Hp) (bs : List Ball) (lo hi : Wl) (v : V) : Prop := match soonR (tl bs lo hi) with
  | none => v = .non
  | some m => if shutB lo hi m = true then ∃ tp rm, v = .ref tp ∧ H' tp = some (.tup [.str "shut", .ref rm]) ∧ RatAt H' rm m
    else ∃ p rm G gs, v = .ref p ∧ H' p = some (.tup [.ref rm, .ref G]) ∧ RatAt H' rm m ∧ H G = none ∧ H' G = some (.lst gs) ∧ GrsI H' gs (grL (bs.map (thenB m)) (thenW m lo) (thenW m hi))
theorem AsR.rd {H H' : Hp} {bs : List Ball} {lo hi : Wl} {v : V} (h : AsR H H' bs lo hi v) : RdD H' v (dueD bs lo hi) := by
  unfold AsR at h; unfold dueD
  cases es : soonR (tl bs lo hi) with
  | none => rw [es] at h; subst h; exact .non
  | some m =>
    rw [es] at h
    dsimp only at h ⊢
    by_cases hs : shutB lo hi m = true
    · rw [if_pos hs] at h ⊢
      obtain ⟨tp, rm, rfl, h1, h2⟩ := h
      exact .tup h1 (.cons (.str _) (.cons (rat_rd h2) .nil))
    · rw [if_neg hs] at h ⊢
      obtain ⟨p, rm, G, gs, rfl, h1, h2, _, h3, h4⟩ := h
      exact .tup h1 (.cons (rat_rd h2) (.cons (.lst h3 (grs_rd h4)) .nil))
section
variable {P : Program} {w : World} {K : PySem.W.Frag} {mg : Str → Option Value} {base : Heap} {CS : Addr}
def spAs : Sp := fun vs H Q _ => ∃ r wl us v1 v2 bs lo hi, vs = [.ref r, .ref wl] ∧ H r = some (.tup us) ∧ BallsAt H us bs ∧ H wl = some (.tup [v1, v2]) ∧ WallAt H v1 lo ∧ WallAt H v2 hi ∧ bs.length ≤ 8 ∧ TZ bs lo hi ∧ Ord bs lo hi ∧ ∀ v H', Same H H' → AsR H H' bs lo hi v → Q v H'
theorem sc_as : FnScope ["row", "walls", "found", "e"] ["row", "walls"] (defScope s_law_asked) := ⟨rfl, rfl, rfl, by decide +kernel, rfl, by decide +kernel, by decide +kernel⟩
theorem ok_as (D : Df K mg "_law_asked" s_law_asked ["row", "walls"] []) (mS : mg "Shut" = some (.ref CS)) (hx : PySem.W.exmOne K (.ref CS) (.ref CS) = some true) (Z : ExcK K CS) (nA : NoAttr K CS "moment") (cNC : Cal1 P w K mg base "next_coming" 6 ["row", "walls"] [] (spNC CS)) : Cal P w K mg base "_law_asked" 7 ["row", "walls"] [] spAs := by
  refine D.cal (k := 6) sc_as (fun vs H Q E h => by obtain ⟨_, _, _, _, _, _, _, _, rfl, _⟩ := h; rfl) (fun f0 cdv A outer s H vs Q E hr h => ?_)
  obtain ⟨r, wl, us, v1, v2, bs, lo, hi, rfl, hrr, hB, hwl, hv1, hv2, h8, hz, O, k⟩ := h
  have I := in_of hrr hB hwl hv1 hv2 h8 hz
  have B := bot h8 hz
  have R := soon_tl B
  refine ⟨_, (pss_cons (ps_set (i := 2) sc_as.nd rfl (Or.inl rfl) pe_non) (pss_cons (ps_tryS (i := 3) (C := CS) rfl rfl mS hx sc_as.nd rfl rfl (fun pins W J hJ => (pss_one (ps_set (i := 2) sc_as.nd rfl (Or.inl rfl) (pe_cx cNC hr hJ (pa_cons (pv 0) (pa_cons (pv 1) pa_nil)))))) (fun pins a oe d vs hc hdd hdt => (pss_one (ps_set (i := 2) sc_as.nd rfl (Or.inl rfl) (pe_tup (pa_cons pe_str (pa_cons (pe_pf (List.mem_append_right _ (List.mem_append_right _ (List.mem_singleton.mpr rfl))) hc hdd hdt Z nA (pv 3) (by rfl)) pa_nil))))))) (pss_one (ps_ret (pv 2))))), ?_⟩
  refine ⟨_, rfl, _, rfl, r, wl, _, lo, hi, rfl, I, ?_, ?_, ?_⟩
  · intro H2 s2 e
    refine ⟨_, rfl, k _ _ s2 ?_⟩
    rcases R with ⟨_, e2⟩ | ⟨t, m, e1, _⟩
    · unfold AsR; rw [e2]
    · rw [e] at e1; cases e1
  · intro t p rm G H2 s2 e ne hp hm hG hgs
    refine ⟨_, rfl, k _ _ s2 ?_⟩
    rcases R with ⟨e1, _⟩ | ⟨t', m, e1, e2, pt, em⟩
    · rw [e] at e1; cases e1
    · rw [e] at e1; cases e1
      have pm := soon_pos' O e2
      rw [em] at ne hm
      rw [gr_eq B O pt em pm] at hgs
      obtain ⟨gs, g1, g2⟩ := hgs
      unfold AsR; rw [e2]
      dsimp only
      rw [if_neg fun z => ne ((shutB_iff O pm).mpr z)]
      exact ⟨p, rm, G, gs, rfl, hp, hm, hG, g1, g2⟩
  · intro t p dx H2 s2 e em0 hdx hp
    rcases R with ⟨e1, _⟩ | ⟨t', m, e1, e2, pt, em⟩
    · rw [e] at e1; cases e1
    · rw [e] at e1; cases e1
      have pm := soon_pos' O e2
      rw [em] at em0 hp
      refine ⟨CS, rfl, rfl, fun ae hae => ?_⟩
      refine ⟨_, rfl, dx, _, _, rfl, rfl, hdx, rfl, by show 2 ≤ sizeLine; decide, fun tp htp => ?_⟩
      have s3 := Same.upd (o := .tup [.str "shut", .ref p]) htp
      refine ⟨_, rfl, k _ _ (s2.trans s3) ?_⟩
      unfold AsR; rw [e2]
      dsimp only
      rw [if_pos ((shutB_iff O pm).mp em0)]
      exact ⟨tp, p, rfl, upd_same, s3 _ _ hp⟩
end
end KT
end
section
set_option maxHeartbeats 8000000
set_option Elab.async false
set_option linter.all false
set_option maxRecDepth 100000
namespace L2
open PySem PySem.Spec PyProof.Rows
section
variable {X : Cx}
def rCatL (K : PySem.W.Frag) : R2 := fun x y H Q => ∃ l b xs zs, x = .ref l ∧ y = .ref b ∧ SqL K H l xs ∧ SqL K H b zs ∧ xs.length + zs.length ≤ sizeLine ∧ ∀ p, H p = none → Q (.ref p) (upd H p (.lst (xs ++ zs)))
theorem op_catL : OpR X (binaryOp .Add) (rCatL X.K) := by
  intro pins s σ H x y v u Q I rx ry h
  obtain ⟨l, b, xs, zs, rfl, rfl, hH, hB, hz, q⟩ := h
  cases rx
  cases ry
  obtain ⟨its, r, pl, z⟩ := I.list hH
  obtain ⟨its2, r2, pl2, z2⟩ := I.list hB
  have e1 := r.length
  have e2 := r2.length
  obtain ⟨⟨cls, dd, data, sl⟩, n, ho, hc, hdn, hd⟩ := pl
  obtain ⟨⟨cls2, dd2, data2, sl2⟩, n2, ho2, hc2, hdn2, hd2⟩ := pl2
  simp only at hc hd hc2 hd2
  subst hc hd hc2 hd2
  refine concat_meets ⟨_, ho, rfl⟩ ⟨_, ho2, rfl⟩ noFill_list_add seq_list_add PySem.F.slot_list_add PySem.F.entry_list_add (PySem.F.args_list_add_2 _ _) (list_addW l b its.toArray its2.toArray n n2 dd dd2 sl sl2 (by simp only [List.size_toArray]; omega)) ⟨ho, ho2, ?_⟩
  have ea : its.toArray ++ its2.toArray = (its ++ its2).toArray := by simp
  rw [ea]
  exact ⟨.ref _, _, I.lnew (t' := s.toks) (r.append r2) (by rw [List.length_append]; omega), rfl, q _ I.fresh⟩
end
end L2
namespace KT
open PySem L2 KM KK
open KQ (ThAt WlAt ORat TxQ oneT shutM for_zip stG rlG brk GrsI GrAt stG_le)
theorem step_same {G0 G1 G' : Hp} {p : Addr} (s : Same G0 G1) (hp : G0 p = none) (t : Step p G1 G') : Same G0 G' := fun b o e => t.keep b o (s b o e) (ne_of_none e hp)
theorem same_new {H H' : Hp} {a : Addr} {o : HO} (s : Same H H') (h : H a = none) : Same H (upd H' a o) := fun b p e => by
  have : b ≠ a := fun z => by rw [z, h] at e; cases e
  unfold upd
  rw [if_neg this]; exact s b p e
theorem rl_len {α γ : Type} [DecidableEq α] (ss : List α) (f : Nat → Nat → Option γ) : ∀ n, (rlG ss f n).length ≤ n
  | 0 => Nat.le_refl _
  | n + 1 => by
    have := rl_len ss f n
    unfold rlG
    split
    · rw [List.length_append]
      have : (f (stG ss n) n).toList.length ≤ 1 := by cases f (stG ss n) n <;> simp
      omega
    · omega
theorem due_none {bs : List Ball} {lo hi : Wl} (e : soonR (tl bs lo hi) = none) : dueD bs lo hi = .none := by unfold dueD; rw [e]
theorem due_shut {bs : List Ball} {lo hi : Wl} {m : Rat} (e : soonR (tl bs lo hi) = some m) (s : shutB lo hi m = true) : dueD bs lo hi = shD m := by unfold dueD; rw [e]; dsimp only; rw [if_pos s]
theorem due_co {bs : List Ball} {lo hi : Wl} {m : Rat} (e : soonR (tl bs lo hi) = some m) (s : ¬ shutB lo hi m = true) : dueD bs lo hi = coD m (grL (bs.map (thenB m)) (thenW m lo) (thenW m hi)) := by unfold dueD; rw [e]; dsimp only; rw [if_neg s]
theorem rd_none {H : Hp} {v : V} (h : RdD H v .none) : v = .non := by cases h; rfl
theorem rd_shut {H : Hp} {v : V} {m : Rat} (h : RdD H v (shD m)) : ∃ a x, v = .ref a ∧ H a = some (.tup [.str "shut", x]) := by
  unfold shD at h
  cases h with
  | tup ha hs =>
    cases hs with
    | cons h1 h2 =>
      cases h1
      cases h2 with
      | cons h3 h4 => cases h4; exact ⟨_, _, rfl, ha⟩
theorem rd_co {H : Hp} {v : V} {m : Rat} {gs : List (Nat × Nat × Str)} (h : RdD H v (coD m gs)) : ∃ a x y, v = .ref a ∧ H a = some (.tup [x, y]) ∧ RdD H x (rD m) := by
  unfold coD at h
  cases h with
  | tup ha hs =>
    cases hs with
    | cons h1 h2 =>
      cases h2 with
      | cons h3 h4 => cases h4; exact ⟨_, _, _, rfl, ha, h1⟩
theorem str_shaped : SeqAt.shaped (.str "shut") = true := Lay.shaped (n := 0) (Lay.str (by decide +kernel)) (by decide)
theorem str_self : PyData.eqv (.str "shut") (.str "shut") = true := Lay.self (n := 0) (Lay.str (by decide +kernel))
theorem rat_str (m : Rat) : PyData.eqv (rD m) (.str "shut") = false := rfl
section
variable {P : Program} {w : World} {K : PySem.W.Frag} {mg : Str → Option Value} {base : Heap} {CS : Addr}
def spLaw (K : PySem.W.Frag) : Sp := fun vs H Q _ => ∃ (a : Addr) (ns : List Int), vs = [.ref a] ∧ SqL K H a (ns.map V.int) ∧ ns.length ≤ 63 ∧ ∀ H', Q (.bl true) H'
theorem sc_law : FnScope ["script", "k", "pool", "row", "walls", "due", "found"] ["script"] (defScope s_law) := ⟨rfl, rfl, rfl, by decide +kernel, rfl, by decide +kernel, by decide +kernel⟩
theorem ok_law {fl : Addr} {fdl : FuncData} (D : Fun K "law" "law" s_law fl fdl) (T : TxQ K mg) (kll : PySem.W.kitOne K (.type "list") (.type "list") = some true) (cC : Cal P w K mg base "_law_cell" 1 ["script", "k"] [] (spCellI K)) (cD : Cal P w K mg base "_law_left" 1 ["cell"] [] spDig) (cDr : Cal P w K mg base "_law_drawn" 5 ["pool"] [] spDr)
    (cDu : Cal P w K mg base "_law_due" 5 ["row", "walls"] [] spDu) (cAs : Cal P w K mg base "_law_asked" 7 ["row", "walls"] [] spAs) : FnOk P w K mg base CX0 8 fl fdl ["script"] (spLaw K) := by
  refine D.ok (k := 7) sc_law (fun vs H Q E h => by obtain ⟨a, us, rfl, _⟩ := h; rfl) (fun cdv A outer s H vs Q E hr h => ?_)
  obtain ⟨a, ns, rfl, hS, hlen, k⟩ := h
  have hr1 : Room 1 _ := hr.mono (by decide)
  have hr5 : Room 5 _ := hr.mono (by decide)
  have hu := hr.units
  refine ⟨_, (pss_cons (ps_for PassesOwn.never rfl (pi_range1 rfl T.nRange (pa_cons (pe_op op_add pe_int (pe_callB (call_min2 rfl) (by rfl) T.nMin PyProof.Rows.boot_min (pa_cons (pe_callB call_len_seq (by rfl) T.nLen PySem.boot_len (pa_cons (pv 0) pa_nil)) (pa_cons pe_int pa_nil)))) pa_nil)) (pg_name (i := 1) sc_law.nd rfl (Or.inl rfl)) (bx_out (bx_scons (Bx.mk (ps_set (i := 2) sc_law.nd rfl (Or.inl rfl) (pe_c cD hr1 (pa_cons (pe_c cC hr1 (pa_cons (pe_op op_catL (pe_lst (pa_cons pe_int pa_nil)) (pv 0)) (pa_cons (pv 1) pa_nil))) pa_nil))))
    (bx_scons (Bx.mk (ps_asg (pe_c cDr hr5 (pa_cons (pv 2) pa_nil)) (pg_tup rfl (pgs_cons (pg_name (i := 3) sc_law.nd rfl (Or.inl rfl)) (pgs_cons (pg_name (i := 4) sc_law.nd rfl (Or.inl rfl)) pgs_nil)))))
    (bx_scons (Bx.mk (ps_set (i := 5) sc_law.nd rfl (Or.inl rfl) (pe_c cDu hr5 (pa_cons (pv 3) (pa_cons (pv 4) pa_nil)))))
    (bx_scons (Bx.mk (ps_set (i := 6) sc_law.nd rfl (Or.inl rfl) (pe_c cAs hr (pa_cons (pv 3) (pa_cons (pv 4) pa_nil)))))
    (bx_scons (Bx.mk (ps_if (pw_or (pt_cmpR (op_neD hu) (pv 6) (pv 5) (nomark _)) (pw_or1 (pw_and (pt_cmpR op_notN (pv 5) pe_non (nomark _)) (pw_and (pt_cmpR (op_neD hu) (pe_ix ix_tup (pv 5) pe_int (fun _ _ => rfl)) pe_str (nomark _)) (pw_and1 (pt_not (pt_truth (pe_callB call_isinst (by rfl) T.nIs PyProof.Rows.boot_isinstance (pa_cons (pe_ix ix_tup (pv 6) pe_int (fun _ _ => rfl)) (pa_cons (pe_bltn (v := .ty "list") (u := .type "list") (by rfl) T.nList PyProof.Rows.boot_list rfl) pa_nil))) fun _ => rfl))))).pt)).pt (pss_one (ps_ret pe_bl)) pss_nil))
    (bx_scons (Bx.mk (ps_if (pw_and (pt_cmpR op_notN (pv 5) pe_non (nomark _)) (pw_and1 (pt_cmpR (op_neD hu) (pe_ix ix_tup (pv 5) pe_int (fun _ _ => rfl)) pe_str (nomark _)))).pt (pss_one (ps_expr (pe_bm PySem.F.plainAttrs_list PySem.F.slot_list_append PySem.F.type_list_append mt_append (pe_ix ix_tup (pv 6) pe_int (fun _ _ => rfl)) (pa_cons (pe_tup (pa_cons pe_int (pa_cons pe_int (pa_cons pe_str pa_nil)))) pa_nil)))) pss_nil))
    (Bx.mk (pss_one (ps_if (pt_cmpR (op_neD hu) (pe_c cAs hr (pa_cons (pv 3) (pa_cons (pv 4) pa_nil))) (pv 5) (nomark _)) (pss_one (ps_ret pe_bl)) pss_nil))))))))))) (pss_one (ps_ret pe_bl))), ?_⟩
  refine ⟨_, rfl, a, _, rfl, .inl hS, _, _, rfl, _, _, rfl, rfl, _, rfl, ?_⟩
  obtain ⟨mx, em⟩ : ∃ m : Int, m = (1 : Int) + (if (40 : Int) < ((ns.map V.int).length : Int) then 40 else ((ns.map V.int).length : Int)) := ⟨_, rfl⟩
  have m0 : 0 ≤ mx ∧ mx ≤ 41 := by
    rw [em]; split <;> omega
  rw [← em]
  refine ⟨by omega, by omega, ?_⟩
  refine for_range (n := mx.toNat) (lo := 0) (fun i σ G => ∃ z, z.length = 6 ∧ σ = some (.ref a) :: z ∧ Same H G) ⟨_, rfl, rfl, Same.refl _⟩ ?_ ?_
  · rintro i σ G0 hi ⟨z, hz, rfl, S0⟩
    match z, hz with
    | [z1, z2, z3, z4, z5, z6], _ =>
    refine ⟨by show 1 ≤ sizeLine; decide, fun p0 hp0 => ?_⟩
    refine ⟨_, rfl, p0, a, _, _, rfl, rfl, SqL.of upd_same, ((S0.trans (Same.upd hp0))).seq hS, szl (by simp only [List.length_map, List.length_cons, List.length_nil]; omega), fun p1 hp1 => ?_⟩
    have S1 := (S0.trans (Same.upd (o := .lst [.int 0]) hp0)).trans (Same.upd (o := .lst ([.int 0] ++ ns.map V.int)) hp1)
    have e1 : upd (upd G0 p0 (.lst [.int 0])) p1 (.lst ([.int 0] ++ ns.map V.int)) p1 = some (.lst ((0 :: ns).map V.int)) := upd_same
    generalize upd (upd G0 p0 (.lst [.int 0])) p1 (.lst ([.int 0] ++ ns.map V.int)) = G1 at S1 e1
    refine ⟨_, rfl, p1, 0 :: ns, _, rfl, SqL.of e1, by omega, fun c => ?_⟩
    refine ⟨c, rfl, fun p G2 hp s2 hP => ?_⟩
    have hpH : H p = none := by
      cases e : H p with
      | none => rfl
      | some o => rw [S1 _ _ e] at hp; cases hp
    have S2 := S1.trans s2
    refine ⟨_, rfl, p, rfl, hP, ?_⟩
    intro t r ws us bs v1 v2 lo hi G3 T3 ht hrr hB h8 hws hv1 hv2 hz O
    refine ⟨t, _, rfl, .of ht, rfl, _, _, rfl, _, _, rfl, rfl, ?_⟩
    have S3 := step_same S2 hpH T3
    clear ht S2 T3 S1 s2 hP S0 e1
    dsimp only [gName]
    refine ⟨_, rfl, _, rfl, r, ws, us, v1, v2, bs, lo, hi, rfl, hrr, hB, hws, hv1, hv2, h8, hz, fun due G4 s4 hdue => ?_⟩
    dsimp only [gName]
    refine ⟨_, rfl, _, rfl, r, ws, us, v1, v2, bs, lo, hi, rfl, s4 _ _ hrr, hB.same s4, s4 _ _ hws, hv1.tups (.of s4), hv2.tups (.of s4), h8, hz, O, fun found G5 s5 hf => ?_⟩
    dsimp only [gName]
    have L := lay_due bs lo hi
    have sh := L.shaped (by decide)
    -- the first comparison
    refine st_mid (fun σ' G => σ' = [some (.ref a), some (.int (0 + (i : Int))), some (.ref p), some (.ref r), some (.ref ws), some due, some found] ∧ G = G5) ?_ ?_
    rotate_left
    · intro nx hnx
      have hnx' := hnx _ _ ⟨rfl, rfl⟩
      refine ⟨_, rfl, _, rfl, _, _, hf.rd, hdue.same s5, sh, sh, _, rfl, ?_⟩
      rw [L.self]
      refine iteF ?_
      cases es : soonR (tl bs lo hi) with
      | none =>
        rw [due_none es] at hdue
        obtain rfl := rd_none hdue
        exact ⟨_, rfl, rfl, _, rfl, iteF hnx'⟩
      | some m =>
        by_cases hs : shutB lo hi m = true
        · rw [due_shut es hs] at hdue
          obtain ⟨ad, x, rfl, hd⟩ := rd_shut hdue
          refine ⟨_, rfl, rfl, _, rfl, iteT ?_⟩
          refine ⟨_, rfl, ad, _, _, _, rfl, rfl, .of (s5 _ _ hd), rfl, _, _, .str _, .str _, str_shaped, str_shaped, _, rfl, ?_⟩
          rw [str_self]
          exact iteF hnx'
        · rw [due_co es hs] at hdue
          obtain ⟨ad, x, y, rfl, hd, hx⟩ := rd_co hdue
          refine ⟨_, rfl, rfl, _, rfl, iteT ?_⟩
          refine ⟨_, rfl, ad, _, _, _, rfl, rfl, .of (s5 _ _ hd), rfl, _, _, hx.same s5, .str _, (Lay.rat m).shaped (by decide), str_shaped, _, rfl, ?_⟩
          rw [rat_str]
          refine iteT ?_
          unfold AsR at hf
          rw [es] at hf
          dsimp only at hf
          rw [if_neg hs] at hf
          obtain ⟨pf, rm, G, gs, rfl, h1, h2, h3, h4, h5⟩ := hf
          refine ⟨_, rfl, pf, _, _, _, rfl, rfl, .of h1, rfl, _, _, "list", true, rfl, ?_, kll, _, rfl, ?_⟩
          · exact .lst h4
          · exact iteF hnx'
    rintro σ' _ ⟨rfl, rfl⟩
    refine st_mid (fun σ' G => σ' = [some (.ref a), some (.int (0 + (i : Int))), some (.ref p), some (.ref r), some (.ref ws), some due, some found] ∧ Same G4 G) ?_ ?_
    rotate_left
    · intro nx hnx
      cases es : soonR (tl bs lo hi) with
      | none =>
        rw [due_none es] at hdue
        obtain rfl := rd_none hdue
        exact ⟨_, rfl, rfl, _, rfl, iteF (hnx _ _ ⟨rfl, s5⟩)⟩
      | some m =>
        by_cases hs : shutB lo hi m = true
        · rw [due_shut es hs] at hdue
          obtain ⟨ad, x, rfl, hd⟩ := rd_shut hdue
          refine ⟨_, rfl, rfl, _, rfl, iteT ?_⟩
          refine ⟨_, rfl, ad, _, _, _, rfl, rfl, .of (s5 _ _ hd), rfl, _, _, .str _, .str _, str_shaped, str_shaped, _, rfl, ?_⟩
          rw [str_self]
          exact iteF (hnx _ _ ⟨rfl, s5⟩)
        · rw [due_co es hs] at hdue
          obtain ⟨ad, x, y, rfl, hd, hx⟩ := rd_co hdue
          refine ⟨_, rfl, rfl, _, rfl, iteT ?_⟩
          refine ⟨_, rfl, ad, _, _, _, rfl, rfl, .of (s5 _ _ hd), rfl, _, _, hx.same s5, .str _, (Lay.rat m).shaped (by decide), str_shaped, _, rfl, ?_⟩
          rw [rat_str]
          refine iteT ?_
          unfold AsR at hf
          rw [es] at hf
          dsimp only at hf
          rw [if_neg hs] at hf
          obtain ⟨pf, rm, G, gs, rfl, h1, h2, h3, h4, h5⟩ := hf
          refine ⟨_, rfl, pf, _, _, _, rfl, rfl, .of h1, rfl, .inl ⟨rfl, _, .of h4⟩, by show 3 ≤ sizeLine; decide, fun tp htp => ?_⟩
          have s6 := Same.upd (o := .tup [.int 0, .int 0, .str ""]) htp
          refine ⟨G, gs, _, rfl, rfl, s6 _ _ h4, ?_, ?_⟩
          · have e1 := h5.1
            have e2 := rl_len ((bs.map (thenB m)).map Ball.pl) (fL (bs.map (thenB m)) (thenW m lo) (thenW m hi)) (bs.map (thenB m)).length
            have e3 : gs.length ≤ 8 := by rw [e1]; exact Nat.le_trans e2 (by rw [List.length_map]; exact h8)
            exact Nat.lt_of_le_of_lt e3 (by decide)
          · exact hnx _ _ ⟨rfl, same_new (s5.trans s6) h3⟩
    rintro σ' G6 ⟨rfl, s6⟩
    refine ⟨_, rfl, _, rfl, r, ws, us, v1, v2, bs, lo, hi, rfl, s6 _ _ (s4 _ _ hrr), (hB.same s4).same s6, s6 _ _ (s4 _ _ hws), (hv1.tups (.of s4)).tups (.of s6), (hv2.tups (.of s4)).tups (.of s6), h8, hz, O, fun again G7 s7 hg => ?_⟩
    refine ⟨_, rfl, _, _, hg.rd, hdue.same (s6.trans s7), sh, sh, _, rfl, ?_⟩
    rw [L.self]
    exact iteF ⟨_, rfl, rfl, S3.trans (s4.trans (s6.trans s7))⟩
  · rintro σ G ⟨z, hz, rfl, _⟩
    exact k G
end
end KT
end
section
set_option maxHeartbeats 8000000
set_option Elab.async false
set_option linter.all false
set_option maxRecDepth 100000
namespace KT
open PySem L2 KM KK PySem.W
def xKB (K : Frag) (C : Addr) : Bool := findIn K (.ref C) "__getattribute__" == some (some (.builtin "BaseException.__getattribute__")) && findIn K (.ref C) "__getattr__" == some none && subIn K (.ref C) (.type "BaseException") == some true && mroIn K C (.type "object") == some true && hasDictIn K C &&
  findIn K (.ref C) "__class__" == some (some (.builtin "object.__class__")) && specialIn K (.builtin "object.__class__") "__get__" == some (some (.builtin "getset_descriptor.__get__")) && takesIn K (.builtin "object.__class__") == some true
theorem xK_of {K : Frag} {C : Addr} (h : xKB K C = true) : ExcK K C := by
  simp only [xKB, Bool.and_eq_true, beq_iff_eq] at h
  obtain ⟨⟨⟨⟨⟨⟨⟨h1, h2⟩, h3⟩, h4⟩, h5⟩, h6⟩, h7⟩, h8⟩ := h
  exact ⟨h1, h2, h3, h4, h5, h6, h7, h8⟩
theorem ns_some_of {K : Frag} {h : Heap} {N : Addr} {m : Str → Option Value} {x : Str} {v : Value} (X : K.In h) (G : h.Ns N m) (e : nsIn K N x = some (some v)) : m x = some v := by
  obtain ⟨oN, eN, pN, gN, dN, _, fN⟩ := G
  unfold nsIn at e
  split at e
  case h_2 => cases e
  case h_1 c d es' n' sl q =>
    have z := X _ _ q
    rw [gN] at z
    cases z
    cases dN
    split at e
    case h_1 en he =>
      cases e
      rw [← fN]
      unfold nsFind findBy
      rw [← Array.find?_toList, he]; rfl
    case h_2 => split at e <;> cases e
def xmkIn (K : Frag) (C f : Addr) : Bool := match K.lookup C with
  | some ⟨.type "type", _, .cls cd, sl⟩ => (match cd.mro, sl.toList with
    | .ref C' :: bm, [_, _, _, _, some (.builtin n), _] => C' == C && n == "ValueError.__new__" && !cd.hasDel && tailIn K vMro bm && nsOkIn K cd.ns && nsIn K cd.ns "__init__" == some (some (.ref f)) && cd.hasDict && onlyV (.ref C' :: bm)
    | _, _ => false)
  | _ => false
theorem xmk_mk {K : Frag} {h : Heap} {C f : Addr} (X : K.In h) (q : xmkIn K C f = true) (hf : ∃ oI, h.get? f = some oI ∧ oI.cls = .type "function") (kp : keepIn K (.ref C) = true) : XMk K h C f ∧ XB h C ∧ ∃ cd, clsIn K C = some cd ∧ cd.hasDict = true ∧ onlyV cd.mro = true := by
  unfold xmkIn at q
  split at q
  case h_2 => cases q
  case h_1 dd cd sl ho =>
    split at q
    case h_2 => cases q
    case h_1 C' bm k0 k1 k2 k3 n k5 hm hs =>
      have hcl : clsIn K C = some cd := by unfold clsIn; rw [ho]
      obtain ⟨cnm, cbs, cmro, cns, cqn, chd, csn, csub, cab, ccol, cdel⟩ := cd
      obtain ⟨sll⟩ := sl
      simp only at hm hs q
      subst hm; subst hs
      simp only [Bool.and_eq_true, beq_iff_eq, Bool.not_eq_true'] at q
      obtain ⟨⟨⟨⟨⟨⟨⟨eC, en⟩, ed⟩, et⟩, eo⟩, ei⟩, eh⟩, ov⟩ := q
      subst eC; subst en; subst ed; subst eh
      refine ⟨⟨⟨cnm, cqn, cns, cbs, bm, true, csn, csub, cab, ccol, dd, k0, k1, k2, k3, k5, _, X _ _ ho, .of_isNs (isNs_of_in X eo), ?_, tail_of_in X et⟩, hf, kp⟩, ⟨cnm, cqn, cns, cbs, bm, true, csn, csub, cab, ccol, dd, k0, k1, k2, k3, k5, _, X _ _ ho, tail_of_in X et⟩, _, hcl, rfl, ov⟩
      exact ns_some_of X (.of_isNs (isNs_of_in X eo)) ei
end KT
end
def PySem.W.Fast.tw171718041929366716 : Nat := 0
def PySem.W.Fast.tw2126312659706488913 : Nat := 0
def PySem.W.Fast.tw11486164308076302696 : Nat := 0
def PySem.W.Fast.tw8717960077686457125 : Nat := 0
def PySem.W.Fast.tw14114969486025876554 : Nat := 0
def PySem.W.Fast.tw6751674266186500998 : Nat := 0
def PySem.W.Fast.tw14481130477548393900 : Nat := 0
def PySem.W.Fast.tw1753782679074877147 : Nat := 0
def PySem.W.Fast.tw8983617977966295123 : Nat := 0
def PySem.W.Fast.tw6149545037572361226 : Nat := 0
def PySem.W.Fast.tw3957453097949206701 : Nat := 0
def PySem.W.Fast.tw11406891478469819452 : Nat := 0
section
set_option maxHeartbeats 8000000
set_option Elab.async false
set_option linter.all false
set_option maxRecDepth 100000
namespace KT
open PySem L2 KM KK
theorem kit_ii (K : PySem.W.Frag) : PySem.W.kitOne K (.type "int") (.type "int") = some true := by
  unfold PySem.W.kitOne; rw [if_pos (by decide +kernel)]
theorem kit_ib (K : PySem.W.Frag) : PySem.W.kitOne K (.type "int") (.type "bool") = some false := by
  with_unfolding_all rfl
theorem kit_ll (K : PySem.W.Frag) : PySem.W.kitOne K (.type "list") (.type "list") = some true := by
  unfold PySem.W.kitOne; rw [if_pos (by decide +kernel)]
theorem all_mk {l : PySem.W.OpenLaw} {w : World} {K : PySem.W.Frag} {h : Heap} {mg : Str → Option Value} {fa : Addr} (X : K.In h) (G : h.Ns mainGlobals mg) (hfa : mg "law" = some (.ref fa))
    {f0 : Addr} {od0 an0 : Option Addr} {sl0 : Array (Option Value)} {oc0 kV0 dc0 pm0 cd0 ct0 : Value}
    (a0 : PySem.W.nsIn K mainGlobals "is_whole" = some (some (.ref f0))) (l0 : K.lookup f0 = some ⟨oc0, od0, .func (PySem.W.fnOf "is_whole" "is_whole" (defArgs s_is_whole) (defBody s_is_whole) (defScope s_is_whole) .none kV0 dc0 pm0 an0 cd0 ct0), sl0⟩) (c0 : PySem.W.codeIn K cd0 "is_whole" = true) (k0 : PySem.W.keepIn K (.ref f0) = true)
    {f1 : Addr} {od1 an1 : Option Addr} {sl1 : Array (Option Value)} {oc1 kV1 dc1 pm1 cd1 ct1 : Value}
    (a1 : PySem.W.nsIn K mainGlobals "greatest_divisor" = some (some (.ref f1))) (l1 : K.lookup f1 = some ⟨oc1, od1, .func (PySem.W.fnOf "greatest_divisor" "greatest_divisor" (defArgs s_greatest_divisor) (defBody s_greatest_divisor) (defScope s_greatest_divisor) .none kV1 dc1 pm1 an1 cd1 ct1), sl1⟩) (c1 : PySem.W.codeIn K cd1 "greatest_divisor" = true) (k1 : PySem.W.keepIn K (.ref f1) = true)
    {f2 : Addr} {od2 an2 : Option Addr} {sl2 : Array (Option Value)} {oc2 kV2 dc2 pm2 cd2 ct2 : Value} {Td2 : Addr} {ocd2 : Value} {odd2 : Option Addr} {tkd2 : Tok} {nd2 : Nat} {sld2 : Array (Option Value)}
    (a2 : PySem.W.nsIn K mainGlobals "ratio" = some (some (.ref f2))) (l2 : K.lookup f2 = some ⟨oc2, od2, .func (PySem.W.fnOf "ratio" "ratio" (defArgs s_ratio) (defBody s_ratio) (defScope s_ratio) (.ref Td2) kV2 dc2 pm2 an2 cd2 ct2), sl2⟩) (c2 : PySem.W.codeIn K cd2 "ratio" = true) (k2 : PySem.W.keepIn K (.ref f2) = true)
    (ld2 : K.lookup Td2 = some ⟨ocd2, odd2, .seq #[.int 1 tkd2] nd2, sld2⟩)
    {f3 : Addr} {od3 an3 : Option Addr} {sl3 : Array (Option Value)} {oc3 kV3 dc3 pm3 cd3 ct3 : Value}
    (a3 : PySem.W.nsIn K mainGlobals "minus" = some (some (.ref f3))) (l3 : K.lookup f3 = some ⟨oc3, od3, .func (PySem.W.fnOf "minus" "minus" (defArgs s_minus) (defBody s_minus) (defScope s_minus) .none kV3 dc3 pm3 an3 cd3 ct3), sl3⟩) (c3 : PySem.W.codeIn K cd3 "minus" = true) (k3 : PySem.W.keepIn K (.ref f3) = true)
    {f4 : Addr} {od4 an4 : Option Addr} {sl4 : Array (Option Value)} {oc4 kV4 dc4 pm4 cd4 ct4 : Value}
    (a4 : PySem.W.nsIn K mainGlobals "over" = some (some (.ref f4))) (l4 : K.lookup f4 = some ⟨oc4, od4, .func (PySem.W.fnOf "over" "over" (defArgs s_over) (defBody s_over) (defScope s_over) .none kV4 dc4 pm4 an4 cd4 ct4), sl4⟩) (c4 : PySem.W.codeIn K cd4 "over" = true) (k4 : PySem.W.keepIn K (.ref f4) = true)
    {f5 : Addr} {od5 an5 : Option Addr} {sl5 : Array (Option Value)} {oc5 kV5 dc5 pm5 cd5 ct5 : Value}
    (a5 : PySem.W.nsIn K mainGlobals "less" = some (some (.ref f5))) (l5 : K.lookup f5 = some ⟨oc5, od5, .func (PySem.W.fnOf "less" "less" (defArgs s_less) (defBody s_less) (defScope s_less) .none kV5 dc5 pm5 an5 cd5 ct5), sl5⟩) (c5 : PySem.W.codeIn K cd5 "less" = true) (k5 : PySem.W.keepIn K (.ref f5) = true)
    {f6 : Addr} {od6 an6 : Option Addr} {sl6 : Array (Option Value)} {oc6 kV6 dc6 pm6 cd6 ct6 : Value}
    (a6 : PySem.W.nsIn K mainGlobals "least_multiple" = some (some (.ref f6))) (l6 : K.lookup f6 = some ⟨oc6, od6, .func (PySem.W.fnOf "least_multiple" "least_multiple" (defArgs s_least_multiple) (defBody s_least_multiple) (defScope s_least_multiple) .none kV6 dc6 pm6 an6 cd6 ct6), sl6⟩) (c6 : PySem.W.codeIn K cd6 "least_multiple" = true) (k6 : PySem.W.keepIn K (.ref f6) = true)
    {f7 : Addr} {od7 an7 : Option Addr} {sl7 : Array (Option Value)} {oc7 kV7 dc7 pm7 cd7 ct7 : Value}
    (a7 : PySem.W.nsIn K mainGlobals "common_bottom" = some (some (.ref f7))) (l7 : K.lookup f7 = some ⟨oc7, od7, .func (PySem.W.fnOf "common_bottom" "common_bottom" (defArgs s_common_bottom) (defBody s_common_bottom) (defScope s_common_bottom) .none kV7 dc7 pm7 an7 cd7 ct7), sl7⟩) (c7 : PySem.W.codeIn K cd7 "common_bottom" = true) (k7 : PySem.W.keepIn K (.ref f7) = true)
    {f8 : Addr} {od8 an8 : Option Addr} {sl8 : Array (Option Value)} {oc8 kV8 dc8 pm8 cd8 ct8 : Value}
    (a8 : PySem.W.nsIn K mainGlobals "track_of" = some (some (.ref f8))) (l8 : K.lookup f8 = some ⟨oc8, od8, .func (PySem.W.fnOf "track_of" "track_of" (defArgs s_track_of) (defBody s_track_of) (defScope s_track_of) .none kV8 dc8 pm8 an8 cd8 ct8), sl8⟩) (c8 : PySem.W.codeIn K cd8 "track_of" = true) (k8 : PySem.W.keepIn K (.ref f8) = true)
    {f9 : Addr} {od9 an9 : Option Addr} {sl9 : Array (Option Value)} {oc9 kV9 dc9 pm9 cd9 ct9 : Value}
    (a9 : PySem.W.nsIn K mainGlobals "moment_of" = some (some (.ref f9))) (l9 : K.lookup f9 = some ⟨oc9, od9, .func (PySem.W.fnOf "moment_of" "moment_of" (defArgs s_moment_of) (defBody s_moment_of) (defScope s_moment_of) .none kV9 dc9 pm9 an9 cd9 ct9), sl9⟩) (c9 : PySem.W.codeIn K cd9 "moment_of" = true) (k9 : PySem.W.keepIn K (.ref f9) = true)
    {f10 : Addr} {od10 an10 : Option Addr} {sl10 : Array (Option Value)} {oc10 kV10 dc10 pm10 cd10 ct10 : Value}
    (a10 : PySem.W.nsIn K mainGlobals "shut_moment" = some (some (.ref f10))) (l10 : K.lookup f10 = some ⟨oc10, od10, .func (PySem.W.fnOf "shut_moment" "shut_moment" (defArgs s_shut_moment) (defBody s_shut_moment) (defScope s_shut_moment) .none kV10 dc10 pm10 an10 cd10 ct10), sl10⟩) (c10 : PySem.W.codeIn K cd10 "shut_moment" = true) (k10 : PySem.W.keepIn K (.ref f10) = true)
    {f11 : Addr} {od11 an11 : Option Addr} {sl11 : Array (Option Value)} {oc11 kV11 dc11 pm11 cd11 ct11 : Value}
    (a11 : PySem.W.nsIn K mainGlobals "soonest" = some (some (.ref f11))) (l11 : K.lookup f11 = some ⟨oc11, od11, .func (PySem.W.fnOf "soonest" "soonest" (defArgs s_soonest) (defBody s_soonest) (defScope s_soonest) .none kV11 dc11 pm11 an11 cd11 ct11), sl11⟩) (c11 : PySem.W.codeIn K cd11 "soonest" = true) (k11 : PySem.W.keepIn K (.ref f11) = true)
    {f12 : Addr} {od12 an12 : Option Addr} {sl12 : Array (Option Value)} {oc12 kV12 dc12 pm12 cd12 ct12 : Value}
    (a12 : PySem.W.nsIn K mainGlobals "spot_at" = some (some (.ref f12))) (l12 : K.lookup f12 = some ⟨oc12, od12, .func (PySem.W.fnOf "spot_at" "spot_at" (defArgs s_spot_at) (defBody s_spot_at) (defScope s_spot_at) .none kV12 dc12 pm12 an12 cd12 ct12), sl12⟩) (c12 : PySem.W.codeIn K cd12 "spot_at" = true) (k12 : PySem.W.keepIn K (.ref f12) = true)
    {f13 : Addr} {od13 an13 : Option Addr} {sl13 : Array (Option Value)} {oc13 kV13 dc13 pm13 cd13 ct13 : Value}
    (a13 : PySem.W.nsIn K mainGlobals "side_at" = some (some (.ref f13))) (l13 : K.lookup f13 = some ⟨oc13, od13, .func (PySem.W.fnOf "side_at" "side_at" (defArgs s_side_at) (defBody s_side_at) (defScope s_side_at) .none kV13 dc13 pm13 an13 cd13 ct13), sl13⟩) (c13 : PySem.W.codeIn K cd13 "side_at" = true) (k13 : PySem.W.keepIn K (.ref f13) = true)
    {f14 : Addr} {od14 an14 : Option Addr} {sl14 : Array (Option Value)} {oc14 kV14 dc14 pm14 cd14 ct14 : Value}
    (a14 : PySem.W.nsIn K mainGlobals "groups_at" = some (some (.ref f14))) (l14 : K.lookup f14 = some ⟨oc14, od14, .func (PySem.W.fnOf "groups_at" "groups_at" (defArgs s_groups_at) (defBody s_groups_at) (defScope s_groups_at) .none kV14 dc14 pm14 an14 cd14 ct14), sl14⟩) (c14 : PySem.W.codeIn K cd14 "groups_at" = true) (k14 : PySem.W.keepIn K (.ref f14) = true)
    {f15 : Addr} {od15 an15 : Option Addr} {sl15 : Array (Option Value)} {oc15 kV15 dc15 pm15 cd15 ct15 : Value}
    (a15 : PySem.W.nsIn K mainGlobals "wall_of" = some (some (.ref f15))) (l15 : K.lookup f15 = some ⟨oc15, od15, .func (PySem.W.fnOf "wall_of" "wall_of" (defArgs s_wall_of) (defBody s_wall_of) (defScope s_wall_of) .none kV15 dc15 pm15 an15 cd15 ct15), sl15⟩) (c15 : PySem.W.codeIn K cd15 "wall_of" = true) (k15 : PySem.W.keepIn K (.ref f15) = true)
    {f16 : Addr} {od16 an16 : Option Addr} {sl16 : Array (Option Value)} {oc16 kV16 dc16 pm16 cd16 ct16 : Value}
    (a16 : PySem.W.nsIn K mainGlobals "came_to_wall" = some (some (.ref f16))) (l16 : K.lookup f16 = some ⟨oc16, od16, .func (PySem.W.fnOf "came_to_wall" "came_to_wall" (defArgs s_came_to_wall) (defBody s_came_to_wall) (defScope s_came_to_wall) .none kV16 dc16 pm16 an16 cd16 ct16), sl16⟩) (c16 : PySem.W.codeIn K cd16 "came_to_wall" = true) (k16 : PySem.W.keepIn K (.ref f16) = true)
    {f17 : Addr} {od17 an17 : Option Addr} {sl17 : Array (Option Value)} {oc17 kV17 dc17 pm17 cd17 ct17 : Value}
    (a17 : PySem.W.nsIn K mainGlobals "first_ticks" = some (some (.ref f17))) (l17 : K.lookup f17 = some ⟨oc17, od17, .func (PySem.W.fnOf "first_ticks" "first_ticks" (defArgs s_first_ticks) (defBody s_first_ticks) (defScope s_first_ticks) .none kV17 dc17 pm17 an17 cd17 ct17), sl17⟩) (c17 : PySem.W.codeIn K cd17 "first_ticks" = true) (k17 : PySem.W.keepIn K (.ref f17) = true)
    {f18 : Addr} {od18 an18 : Option Addr} {sl18 : Array (Option Value)} {oc18 kV18 dc18 pm18 cd18 ct18 : Value}
    (a18 : PySem.W.nsIn K mainGlobals "next_coming" = some (some (.ref f18))) (l18 : K.lookup f18 = some ⟨oc18, od18, .func (PySem.W.fnOf "next_coming" "next_coming" (defArgs s_next_coming) (defBody s_next_coming) (defScope s_next_coming) .none kV18 dc18 pm18 an18 cd18 ct18), sl18⟩) (c18 : PySem.W.codeIn K cd18 "next_coming" = true) (k18 : PySem.W.keepIn K (.ref f18) = true)
    {f19 : Addr} {od19 an19 : Option Addr} {sl19 : Array (Option Value)} {oc19 kV19 dc19 pm19 cd19 ct19 : Value}
    (a19 : PySem.W.nsIn K mainGlobals "_law_cell" = some (some (.ref f19))) (l19 : K.lookup f19 = some ⟨oc19, od19, .func (PySem.W.fnOf "_law_cell" "_law_cell" (defArgs s_law_cell) (defBody s_law_cell) (defScope s_law_cell) .none kV19 dc19 pm19 an19 cd19 ct19), sl19⟩) (c19 : PySem.W.codeIn K cd19 "_law_cell" = true) (k19 : PySem.W.keepIn K (.ref f19) = true)
    {f20 : Addr} {od20 an20 : Option Addr} {sl20 : Array (Option Value)} {oc20 kV20 dc20 pm20 cd20 ct20 : Value}
    (a20 : PySem.W.nsIn K mainGlobals "_law_left" = some (some (.ref f20))) (l20 : K.lookup f20 = some ⟨oc20, od20, .func (PySem.W.fnOf "_law_left" "_law_left" (defArgs s_law_left) (defBody s_law_left) (defScope s_law_left) .none kV20 dc20 pm20 an20 cd20 ct20), sl20⟩) (c20 : PySem.W.codeIn K cd20 "_law_left" = true) (k20 : PySem.W.keepIn K (.ref f20) = true)
    {f21 : Addr} {od21 an21 : Option Addr} {sl21 : Array (Option Value)} {oc21 kV21 dc21 pm21 cd21 ct21 : Value}
    (a21 : PySem.W.nsIn K mainGlobals "_law_next" = some (some (.ref f21))) (l21 : K.lookup f21 = some ⟨oc21, od21, .func (PySem.W.fnOf "_law_next" "_law_next" (defArgs s_law_next) (defBody s_law_next) (defScope s_law_next) .none kV21 dc21 pm21 an21 cd21 ct21), sl21⟩) (c21 : PySem.W.codeIn K cd21 "_law_next" = true) (k21 : PySem.W.keepIn K (.ref f21) = true)
    {f22 : Addr} {od22 an22 : Option Addr} {sl22 : Array (Option Value)} {oc22 kV22 dc22 pm22 cd22 ct22 : Value}
    (a22 : PySem.W.nsIn K mainGlobals "_law_wide" = some (some (.ref f22))) (l22 : K.lookup f22 = some ⟨oc22, od22, .func (PySem.W.fnOf "_law_wide" "_law_wide" (defArgs s_law_wide) (defBody s_law_wide) (defScope s_law_wide) .none kV22 dc22 pm22 an22 cd22 ct22), sl22⟩) (c22 : PySem.W.codeIn K cd22 "_law_wide" = true) (k22 : PySem.W.keepIn K (.ref f22) = true)
    {f23 : Addr} {od23 an23 : Option Addr} {sl23 : Array (Option Value)} {oc23 kV23 dc23 pm23 cd23 ct23 : Value}
    (a23 : PySem.W.nsIn K mainGlobals "_law_low" = some (some (.ref f23))) (l23 : K.lookup f23 = some ⟨oc23, od23, .func (PySem.W.fnOf "_law_low" "_law_low" (defArgs s_law_low) (defBody s_law_low) (defScope s_law_low) .none kV23 dc23 pm23 an23 cd23 ct23), sl23⟩) (c23 : PySem.W.codeIn K cd23 "_law_low" = true) (k23 : PySem.W.keepIn K (.ref f23) = true)
    {f24 : Addr} {od24 an24 : Option Addr} {sl24 : Array (Option Value)} {oc24 kV24 dc24 pm24 cd24 ct24 : Value}
    (a24 : PySem.W.nsIn K mainGlobals "_law_add" = some (some (.ref f24))) (l24 : K.lookup f24 = some ⟨oc24, od24, .func (PySem.W.fnOf "_law_add" "_law_add" (defArgs s_law_add) (defBody s_law_add) (defScope s_law_add) .none kV24 dc24 pm24 an24 cd24 ct24), sl24⟩) (c24 : PySem.W.codeIn K cd24 "_law_add" = true) (k24 : PySem.W.keepIn K (.ref f24) = true)
    {f25 : Addr} {od25 an25 : Option Addr} {sl25 : Array (Option Value)} {oc25 kV25 dc25 pm25 cd25 ct25 : Value}
    (a25 : PySem.W.nsIn K mainGlobals "_law_off" = some (some (.ref f25))) (l25 : K.lookup f25 = some ⟨oc25, od25, .func (PySem.W.fnOf "_law_off" "_law_off" (defArgs s_law_off) (defBody s_law_off) (defScope s_law_off) .none kV25 dc25 pm25 an25 cd25 ct25), sl25⟩) (c25 : PySem.W.codeIn K cd25 "_law_off" = true) (k25 : PySem.W.keepIn K (.ref f25) = true)
    {f26 : Addr} {od26 an26 : Option Addr} {sl26 : Array (Option Value)} {oc26 kV26 dc26 pm26 cd26 ct26 : Value}
    (a26 : PySem.W.nsIn K mainGlobals "_law_by" = some (some (.ref f26))) (l26 : K.lookup f26 = some ⟨oc26, od26, .func (PySem.W.fnOf "_law_by" "_law_by" (defArgs s_law_by) (defBody s_law_by) (defScope s_law_by) .none kV26 dc26 pm26 an26 cd26 ct26), sl26⟩) (c26 : PySem.W.codeIn K cd26 "_law_by" = true) (k26 : PySem.W.keepIn K (.ref f26) = true)
    {f27 : Addr} {od27 an27 : Option Addr} {sl27 : Array (Option Value)} {oc27 kV27 dc27 pm27 cd27 ct27 : Value}
    (a27 : PySem.W.nsIn K mainGlobals "_law_part" = some (some (.ref f27))) (l27 : K.lookup f27 = some ⟨oc27, od27, .func (PySem.W.fnOf "_law_part" "_law_part" (defArgs s_law_part) (defBody s_law_part) (defScope s_law_part) .none kV27 dc27 pm27 an27 cd27 ct27), sl27⟩) (c27 : PySem.W.codeIn K cd27 "_law_part" = true) (k27 : PySem.W.keepIn K (.ref f27) = true)
    {f28 : Addr} {od28 an28 : Option Addr} {sl28 : Array (Option Value)} {oc28 kV28 dc28 pm28 cd28 ct28 : Value}
    (a28 : PySem.W.nsIn K mainGlobals "_law_below" = some (some (.ref f28))) (l28 : K.lookup f28 = some ⟨oc28, od28, .func (PySem.W.fnOf "_law_below" "_law_below" (defArgs s_law_below) (defBody s_law_below) (defScope s_law_below) .none kV28 dc28 pm28 an28 cd28 ct28), sl28⟩) (c28 : PySem.W.codeIn K cd28 "_law_below" = true) (k28 : PySem.W.keepIn K (.ref f28) = true)
    {f29 : Addr} {od29 an29 : Option Addr} {sl29 : Array (Option Value)} {oc29 kV29 dc29 pm29 cd29 ct29 : Value}
    (a29 : PySem.W.nsIn K mainGlobals "_law_ratio" = some (some (.ref f29))) (l29 : K.lookup f29 = some ⟨oc29, od29, .func (PySem.W.fnOf "_law_ratio" "_law_ratio" (defArgs s_law_ratio) (defBody s_law_ratio) (defScope s_law_ratio) .none kV29 dc29 pm29 an29 cd29 ct29), sl29⟩) (c29 : PySem.W.codeIn K cd29 "_law_ratio" = true) (k29 : PySem.W.keepIn K (.ref f29) = true)
    {f30 : Addr} {od30 an30 : Option Addr} {sl30 : Array (Option Value)} {oc30 kV30 dc30 pm30 cd30 ct30 : Value}
    (a30 : PySem.W.nsIn K mainGlobals "_law_speed" = some (some (.ref f30))) (l30 : K.lookup f30 = some ⟨oc30, od30, .func (PySem.W.fnOf "_law_speed" "_law_speed" (defArgs s_law_speed) (defBody s_law_speed) (defScope s_law_speed) .none kV30 dc30 pm30 an30 cd30 ct30), sl30⟩) (c30 : PySem.W.codeIn K cd30 "_law_speed" = true) (k30 : PySem.W.keepIn K (.ref f30) = true)
    {f31 : Addr} {od31 an31 : Option Addr} {sl31 : Array (Option Value)} {oc31 kV31 dc31 pm31 cd31 ct31 : Value}
    (a31 : PySem.W.nsIn K mainGlobals "_law_gap" = some (some (.ref f31))) (l31 : K.lookup f31 = some ⟨oc31, od31, .func (PySem.W.fnOf "_law_gap" "_law_gap" (defArgs s_law_gap) (defBody s_law_gap) (defScope s_law_gap) .none kV31 dc31 pm31 an31 cd31 ct31), sl31⟩) (c31 : PySem.W.codeIn K cd31 "_law_gap" = true) (k31 : PySem.W.keepIn K (.ref f31) = true)
    {f32 : Addr} {od32 an32 : Option Addr} {sl32 : Array (Option Value)} {oc32 kV32 dc32 pm32 cd32 ct32 : Value}
    (a32 : PySem.W.nsIn K mainGlobals "_law_weights" = some (some (.ref f32))) (l32 : K.lookup f32 = some ⟨oc32, od32, .func (PySem.W.fnOf "_law_weights" "_law_weights" (defArgs s_law_weights) (defBody s_law_weights) (defScope s_law_weights) .none kV32 dc32 pm32 an32 cd32 ct32), sl32⟩) (c32 : PySem.W.codeIn K cd32 "_law_weights" = true) (k32 : PySem.W.keepIn K (.ref f32) = true)
    {f33 : Addr} {od33 an33 : Option Addr} {sl33 : Array (Option Value)} {oc33 kV33 dc33 pm33 cd33 ct33 : Value}
    (a33 : PySem.W.nsIn K mainGlobals "_law_row" = some (some (.ref f33))) (l33 : K.lookup f33 = some ⟨oc33, od33, .func (PySem.W.fnOf "_law_row" "_law_row" (defArgs s_law_row) (defBody s_law_row) (defScope s_law_row) .none kV33 dc33 pm33 an33 cd33 ct33), sl33⟩) (c33 : PySem.W.codeIn K cd33 "_law_row" = true) (k33 : PySem.W.keepIn K (.ref f33) = true)
    {f34 : Addr} {od34 an34 : Option Addr} {sl34 : Array (Option Value)} {oc34 kV34 dc34 pm34 cd34 ct34 : Value}
    (a34 : PySem.W.nsIn K mainGlobals "_law_bound" = some (some (.ref f34))) (l34 : K.lookup f34 = some ⟨oc34, od34, .func (PySem.W.fnOf "_law_bound" "_law_bound" (defArgs s_law_bound) (defBody s_law_bound) (defScope s_law_bound) .none kV34 dc34 pm34 an34 cd34 ct34), sl34⟩) (c34 : PySem.W.codeIn K cd34 "_law_bound" = true) (k34 : PySem.W.keepIn K (.ref f34) = true)
    {f35 : Addr} {od35 an35 : Option Addr} {sl35 : Array (Option Value)} {oc35 kV35 dc35 pm35 cd35 ct35 : Value}
    (a35 : PySem.W.nsIn K mainGlobals "_law_box" = some (some (.ref f35))) (l35 : K.lookup f35 = some ⟨oc35, od35, .func (PySem.W.fnOf "_law_box" "_law_box" (defArgs s_law_box) (defBody s_law_box) (defScope s_law_box) .none kV35 dc35 pm35 an35 cd35 ct35), sl35⟩) (c35 : PySem.W.codeIn K cd35 "_law_box" = true) (k35 : PySem.W.keepIn K (.ref f35) = true)
    {f36 : Addr} {od36 an36 : Option Addr} {sl36 : Array (Option Value)} {oc36 kV36 dc36 pm36 cd36 ct36 : Value}
    (a36 : PySem.W.nsIn K mainGlobals "_law_bundle" = some (some (.ref f36))) (l36 : K.lookup f36 = some ⟨oc36, od36, .func (PySem.W.fnOf "_law_bundle" "_law_bundle" (defArgs s_law_bundle) (defBody s_law_bundle) (defScope s_law_bundle) .none kV36 dc36 pm36 an36 cd36 ct36), sl36⟩) (c36 : PySem.W.codeIn K cd36 "_law_bundle" = true) (k36 : PySem.W.keepIn K (.ref f36) = true)
    {f37 : Addr} {od37 an37 : Option Addr} {sl37 : Array (Option Value)} {oc37 kV37 dc37 pm37 cd37 ct37 : Value}
    (a37 : PySem.W.nsIn K mainGlobals "_law_focused" = some (some (.ref f37))) (l37 : K.lookup f37 = some ⟨oc37, od37, .func (PySem.W.fnOf "_law_focused" "_law_focused" (defArgs s_law_focused) (defBody s_law_focused) (defScope s_law_focused) .none kV37 dc37 pm37 an37 cd37 ct37), sl37⟩) (c37 : PySem.W.codeIn K cd37 "_law_focused" = true) (k37 : PySem.W.keepIn K (.ref f37) = true)
    {f38 : Addr} {od38 an38 : Option Addr} {sl38 : Array (Option Value)} {oc38 kV38 dc38 pm38 cd38 ct38 : Value}
    (a38 : PySem.W.nsIn K mainGlobals "_law_double" = some (some (.ref f38))) (l38 : K.lookup f38 = some ⟨oc38, od38, .func (PySem.W.fnOf "_law_double" "_law_double" (defArgs s_law_double) (defBody s_law_double) (defScope s_law_double) .none kV38 dc38 pm38 an38 cd38 ct38), sl38⟩) (c38 : PySem.W.codeIn K cd38 "_law_double" = true) (k38 : PySem.W.keepIn K (.ref f38) = true)
    {f39 : Addr} {od39 an39 : Option Addr} {sl39 : Array (Option Value)} {oc39 kV39 dc39 pm39 cd39 ct39 : Value}
    (a39 : PySem.W.nsIn K mainGlobals "_law_on" = some (some (.ref f39))) (l39 : K.lookup f39 = some ⟨oc39, od39, .func (PySem.W.fnOf "_law_on" "_law_on" (defArgs s_law_on) (defBody s_law_on) (defScope s_law_on) .none kV39 dc39 pm39 an39 cd39 ct39), sl39⟩) (c39 : PySem.W.codeIn K cd39 "_law_on" = true) (k39 : PySem.W.keepIn K (.ref f39) = true)
    {f40 : Addr} {od40 an40 : Option Addr} {sl40 : Array (Option Value)} {oc40 kV40 dc40 pm40 cd40 ct40 : Value}
    (a40 : PySem.W.nsIn K mainGlobals "_law_closing" = some (some (.ref f40))) (l40 : K.lookup f40 = some ⟨oc40, od40, .func (PySem.W.fnOf "_law_closing" "_law_closing" (defArgs s_law_closing) (defBody s_law_closing) (defScope s_law_closing) .none kV40 dc40 pm40 an40 cd40 ct40), sl40⟩) (c40 : PySem.W.codeIn K cd40 "_law_closing" = true) (k40 : PySem.W.keepIn K (.ref f40) = true)
    {f41 : Addr} {od41 an41 : Option Addr} {sl41 : Array (Option Value)} {oc41 kV41 dc41 pm41 cd41 ct41 : Value}
    (a41 : PySem.W.nsIn K mainGlobals "_law_soonest" = some (some (.ref f41))) (l41 : K.lookup f41 = some ⟨oc41, od41, .func (PySem.W.fnOf "_law_soonest" "_law_soonest" (defArgs s_law_soonest) (defBody s_law_soonest) (defScope s_law_soonest) .none kV41 dc41 pm41 an41 cd41 ct41), sl41⟩) (c41 : PySem.W.codeIn K cd41 "_law_soonest" = true) (k41 : PySem.W.keepIn K (.ref f41) = true)
    {f42 : Addr} {od42 an42 : Option Addr} {sl42 : Array (Option Value)} {oc42 kV42 dc42 pm42 cd42 ct42 : Value}
    (a42 : PySem.W.nsIn K mainGlobals "_law_groups" = some (some (.ref f42))) (l42 : K.lookup f42 = some ⟨oc42, od42, .func (PySem.W.fnOf "_law_groups" "_law_groups" (defArgs s_law_groups) (defBody s_law_groups) (defScope s_law_groups) .none kV42 dc42 pm42 an42 cd42 ct42), sl42⟩) (c42 : PySem.W.codeIn K cd42 "_law_groups" = true) (k42 : PySem.W.keepIn K (.ref f42) = true)
    {f43 : Addr} {od43 an43 : Option Addr} {sl43 : Array (Option Value)} {oc43 kV43 dc43 pm43 cd43 ct43 : Value}
    (a43 : PySem.W.nsIn K mainGlobals "_law_drawn" = some (some (.ref f43))) (l43 : K.lookup f43 = some ⟨oc43, od43, .func (PySem.W.fnOf "_law_drawn" "_law_drawn" (defArgs s_law_drawn) (defBody s_law_drawn) (defScope s_law_drawn) .none kV43 dc43 pm43 an43 cd43 ct43), sl43⟩) (c43 : PySem.W.codeIn K cd43 "_law_drawn" = true) (k43 : PySem.W.keepIn K (.ref f43) = true)
    {f44 : Addr} {od44 an44 : Option Addr} {sl44 : Array (Option Value)} {oc44 kV44 dc44 pm44 cd44 ct44 : Value}
    (a44 : PySem.W.nsIn K mainGlobals "_law_due" = some (some (.ref f44))) (l44 : K.lookup f44 = some ⟨oc44, od44, .func (PySem.W.fnOf "_law_due" "_law_due" (defArgs s_law_due) (defBody s_law_due) (defScope s_law_due) .none kV44 dc44 pm44 an44 cd44 ct44), sl44⟩) (c44 : PySem.W.codeIn K cd44 "_law_due" = true) (k44 : PySem.W.keepIn K (.ref f44) = true)
    {f45 : Addr} {od45 an45 : Option Addr} {sl45 : Array (Option Value)} {oc45 kV45 dc45 pm45 cd45 ct45 : Value}
    (a45 : PySem.W.nsIn K mainGlobals "_law_asked" = some (some (.ref f45))) (l45 : K.lookup f45 = some ⟨oc45, od45, .func (PySem.W.fnOf "_law_asked" "_law_asked" (defArgs s_law_asked) (defBody s_law_asked) (defScope s_law_asked) .none kV45 dc45 pm45 an45 cd45 ct45), sl45⟩) (c45 : PySem.W.codeIn K cd45 "_law_asked" = true) (k45 : PySem.W.keepIn K (.ref f45) = true)
    {f46 : Addr} {od46 an46 : Option Addr} {sl46 : Array (Option Value)} {oc46 kV46 dc46 pm46 cd46 ct46 : Value}
    (a46 : PySem.W.nsIn K mainGlobals "law" = some (some (.ref f46))) (l46 : K.lookup f46 = some ⟨oc46, od46, .func (PySem.W.fnOf "law" "law" (defArgs s_law) (defBody s_law) (defScope s_law) .none kV46 dc46 pm46 an46 cd46 ct46), sl46⟩) (c46 : PySem.W.codeIn K cd46 "law" = true) (k46 : PySem.W.keepIn K (.ref f46) = true)
    (z_isinstance : PySem.W.nsIn K mainGlobals "isinstance" = some none)
    (z_int : PySem.W.nsIn K mainGlobals "int" = some none)
    (z_bool : PySem.W.nsIn K mainGlobals "bool" = some none)
    (z_abs : PySem.W.nsIn K mainGlobals "abs" = some none)
    (z_len : PySem.W.nsIn K mainGlobals "len" = some none)
    (z_max : PySem.W.nsIn K mainGlobals "max" = some none)
    (z_min : PySem.W.nsIn K mainGlobals "min" = some none)
    (z_range : PySem.W.nsIn K mainGlobals "range" = some none)
    (z_tuple : PySem.W.nsIn K mainGlobals "tuple" = some none)
    (z_sum : PySem.W.nsIn K mainGlobals "sum" = some none)
    (z_zip : PySem.W.nsIn K mainGlobals "zip" = some none)
    (z_list : PySem.W.nsIn K mainGlobals "list" = some none)
    (z_enumerate : PySem.W.nsIn K mainGlobals "enumerate" = some none)
    {C_ClackError : Addr} (a_ClackError : PySem.W.nsIn K mainGlobals "ClackError" = some (some (.ref C_ClackError)))
    {C_Shut : Addr} (a_Shut : PySem.W.nsIn K mainGlobals "Shut" = some (some (.ref C_Shut)))
    {C_Course : Addr} (a_Course : PySem.W.nsIn K mainGlobals "Course" = some (some (.ref C_Course)))
    (kp_Shut : PySem.W.keepIn K (.ref C_Shut) = true)
    {fI_Shut : Addr} {odI_Shut anI_Shut : Option Addr} {slI_Shut : Array (Option Value)} {kVI_Shut dcI_Shut pmI_Shut cdI_Shut ctI_Shut : Value} (fi_Shut : PySem.W.findIn K (.ref C_Shut) "__init__" = some (some (.ref fI_Shut)))
    (li_Shut : K.lookup fI_Shut = some ⟨.type "function", odI_Shut, .func (PySem.W.fnOf "__init__" "Shut.__init__" (defArgs s_shut_init) (defBody s_shut_init) (defScope s_shut_init) .none kVI_Shut dcI_Shut pmI_Shut anI_Shut cdI_Shut ctI_Shut), slI_Shut⟩) (ci_Shut : PySem.W.codeIn K cdI_Shut "Shut.__init__" = true) (ki_Shut : PySem.W.keepIn K (.ref fI_Shut) = true)
    (sa_Shut : PySem.W.findIn K (.ref C_Shut) "__setattr__" = some (some (.builtin "object.__setattr__")))
    (kp_Course : PySem.W.keepIn K (.ref C_Course) = true)
    {fI_Course : Addr} {odI_Course anI_Course : Option Addr} {slI_Course : Array (Option Value)} {kVI_Course dcI_Course pmI_Course cdI_Course ctI_Course : Value} (fi_Course : PySem.W.findIn K (.ref C_Course) "__init__" = some (some (.ref fI_Course)))
    (li_Course : K.lookup fI_Course = some ⟨.type "function", odI_Course, .func (PySem.W.fnOf "__init__" "Course.__init__" (defArgs s_course_init) (defBody s_course_init) (defScope s_course_init) .none kVI_Course dcI_Course pmI_Course anI_Course cdI_Course ctI_Course), slI_Course⟩) (ci_Course : PySem.W.codeIn K cdI_Course "Course.__init__" = true) (ki_Course : PySem.W.keepIn K (.ref fI_Course) = true)
    (sa_Course : PySem.W.findIn K (.ref C_Course) "__setattr__" = some (some (.builtin "object.__setattr__")))
    (xm_Shut : xmkIn K C_Shut fI_Shut = true)
    (na_Shut : PySem.W.findIn K (.ref C_Shut) "moment" = some none)
    (xkS : xKB K C_Shut = true)
    (exS : PySem.W.exmOne K (.ref C_Shut) (.ref C_Shut) = some true)
    (mkC : PySem.W.makesIn K C_Course = true)
    (ifC : PySem.W.isFn K (.ref fI_Course) = true)
    (pgC : PySem.W.plainGet K C_Course Str.empty = true)
    (hdC : PySem.W.hasDictIn K C_Course = true)
    (poC : PySem.W.plainOver K C_Course = true)
    (nc_place_bottom : PySem.W.findIn K (.ref C_Course) "place_bottom" = some none)
    (nc_speed_bottom : PySem.W.findIn K (.ref C_Course) "speed_bottom" = some none)
    (nc_tick : PySem.W.findIn K (.ref C_Course) "tick" = some none)
    (nc_weights : PySem.W.findIn K (.ref C_Course) "weights" = some none)
    (nc_tracks : PySem.W.findIn K (.ref C_Course) "tracks" = some none)
    (nc_low : PySem.W.findIn K (.ref C_Course) "low" = some none)
    (nc_high : PySem.W.findIn K (.ref C_Course) "high" = some none)
    (ur : PySem.W.readsIn K C_ClackError (.type "type") = true) (ug : PySem.W.specialIn K (.ref C_ClackError) "__getattribute__" = some (some (.builtin "type.__getattribute__"))) (ui : PySem.W.findCls K (.ref C_ClackError) (.type "type") "__init__" = some (.val (.builtin "ValueError.__init__"))) :
    ∃ fd : FuncData, (∀ (s : Shared) (v : Value), BindsTo s fd ⟨[v], []⟩ [("script", v)]) ∧ ∀ base : Heap, K.In base → base.Ns mainGlobals mg → FnOk l.prog w K mg base CX0 8 fa fd ["script"] (spLaw K) := by
  have e := hfa.symm.trans (PySem.W.mg_of X G a46)
  cases e
  have d_is_whole : Df K mg "is_whole" s_is_whole ["thing"] [] := df_mk l0 c0 k0 (PySem.W.mg_of X G a0) fun us hl => match us, hl with | [_], _ => rfl
  have d_greatest_divisor : Df K mg "greatest_divisor" s_greatest_divisor ["one", "other"] [] := df_mk l1 c1 k1 (PySem.W.mg_of X G a1) fun us hl => match us, hl with | [_, _], _ => rfl
  have d_ratio : Df K mg "ratio" s_ratio ["top", "bottom"] [] := ⟨⟨f2, _, _, _, _, _, _, _, _, _, _, [], l2, c2, k2, PySem.W.mg_of X G a2, .nil, fun s us KX hl => match us, hl with | [_, _], _ => .of_defaults rfl (KX _ _ ld2) rfl rfl rfl⟩⟩
  have dd_ratio : Df K mg "ratio" s_ratio ["top", "bottom"] [.int 1] := ⟨⟨f2, _, _, _, _, _, _, _, _, _, _, [.int 1 tkd2], l2, c2, k2, PySem.W.mg_of X G a2, .cons ⟨_, rfl⟩ .nil, fun s us KX hl => have hl2 : us.length = 1 := (by simpa using hl); match us, hl2 with | [_], _ => .of_defaults rfl (KX _ _ ld2) rfl rfl rfl⟩⟩
  have d_minus : Df K mg "minus" s_minus ["one", "other"] [] := df_mk l3 c3 k3 (PySem.W.mg_of X G a3) fun us hl => match us, hl with | [_, _], _ => rfl
  have d_over : Df K mg "over" s_over ["one", "other"] [] := df_mk l4 c4 k4 (PySem.W.mg_of X G a4) fun us hl => match us, hl with | [_, _], _ => rfl
  have d_less : Df K mg "less" s_less ["one", "other"] [] := df_mk l5 c5 k5 (PySem.W.mg_of X G a5) fun us hl => match us, hl with | [_, _], _ => rfl
  have d_least_multiple : Df K mg "least_multiple" s_least_multiple ["numbers"] [] := df_mk l6 c6 k6 (PySem.W.mg_of X G a6) fun us hl => match us, hl with | [_], _ => rfl
  have d_common_bottom : Df K mg "common_bottom" s_common_bottom ["ratios"] [] := df_mk l7 c7 k7 (PySem.W.mg_of X G a7) fun us hl => match us, hl with | [_], _ => rfl
  have d_track_of : Df K mg "track_of" s_track_of ["course", "thing"] [] := df_mk l8 c8 k8 (PySem.W.mg_of X G a8) fun us hl => match us, hl with | [_, _], _ => rfl
  have d_moment_of : Df K mg "moment_of" s_moment_of ["course", "ticks"] [] := df_mk l9 c9 k9 (PySem.W.mg_of X G a9) fun us hl => match us, hl with | [_, _], _ => rfl
  have d_shut_moment : Df K mg "shut_moment" s_shut_moment ["walls"] [] := df_mk l10 c10 k10 (PySem.W.mg_of X G a10) fun us hl => match us, hl with | [_], _ => rfl
  have d_soonest : Df K mg "soonest" s_soonest ["course"] [] := df_mk l11 c11 k11 (PySem.W.mg_of X G a11) fun us hl => match us, hl with | [_], _ => rfl
  have d_spot_at : Df K mg "spot_at" s_spot_at ["track", "ticks"] [] := df_mk l12 c12 k12 (PySem.W.mg_of X G a12) fun us hl => match us, hl with | [_, _], _ => rfl
  have d_side_at : Df K mg "side_at" s_side_at ["course", "spot", "ticks"] [] := df_mk l13 c13 k13 (PySem.W.mg_of X G a13) fun us hl => match us, hl with | [_, _, _], _ => rfl
  have d_groups_at : Df K mg "groups_at" s_groups_at ["course", "ticks"] [] := df_mk l14 c14 k14 (PySem.W.mg_of X G a14) fun us hl => match us, hl with | [_, _], _ => rfl
  have d_wall_of : Df K mg "wall_of" s_wall_of ["course", "where"] [] := df_mk l15 c15 k15 (PySem.W.mg_of X G a15) fun us hl => match us, hl with | [_, _], _ => rfl
  have d_came_to_wall : Df K mg "came_to_wall" s_came_to_wall ["course", "group"] [] := df_mk l16 c16 k16 (PySem.W.mg_of X G a16) fun us hl => match us, hl with | [_, _], _ => rfl
  have d_first_ticks : Df K mg "first_ticks" s_first_ticks ["course", "walls"] [] := df_mk l17 c17 k17 (PySem.W.mg_of X G a17) fun us hl => match us, hl with | [_, _], _ => rfl
  have d_next_coming : Df K mg "next_coming" s_next_coming ["row", "walls"] [] := df_mk l18 c18 k18 (PySem.W.mg_of X G a18) fun us hl => match us, hl with | [_, _], _ => rfl
  have d_law_cell : Df K mg "_law_cell" s_law_cell ["script", "k"] [] := df_mk l19 c19 k19 (PySem.W.mg_of X G a19) fun us hl => match us, hl with | [_, _], _ => rfl
  have d_law_left : Df K mg "_law_left" s_law_left ["cell"] [] := df_mk l20 c20 k20 (PySem.W.mg_of X G a20) fun us hl => match us, hl with | [_], _ => rfl
  have d_law_next : Df K mg "_law_next" s_law_next ["pool", "base"] [] := df_mk l21 c21 k21 (PySem.W.mg_of X G a21) fun us hl => match us, hl with | [_, _], _ => rfl
  have d_law_wide : Df K mg "_law_wide" s_law_wide ["pool", "base"] [] := df_mk l22 c22 k22 (PySem.W.mg_of X G a22) fun us hl => match us, hl with | [_, _], _ => rfl
  have d_law_low : Df K mg "_law_low" s_law_low ["top", "bottom"] [] := df_mk l23 c23 k23 (PySem.W.mg_of X G a23) fun us hl => match us, hl with | [_, _], _ => rfl
  have d_law_add : Df K mg "_law_add" s_law_add ["a", "b"] [] := df_mk l24 c24 k24 (PySem.W.mg_of X G a24) fun us hl => match us, hl with | [_, _], _ => rfl
  have d_law_off : Df K mg "_law_off" s_law_off ["a", "b"] [] := df_mk l25 c25 k25 (PySem.W.mg_of X G a25) fun us hl => match us, hl with | [_, _], _ => rfl
  have d_law_by : Df K mg "_law_by" s_law_by ["a", "b"] [] := df_mk l26 c26 k26 (PySem.W.mg_of X G a26) fun us hl => match us, hl with | [_, _], _ => rfl
  have d_law_part : Df K mg "_law_part" s_law_part ["a", "b"] [] := df_mk l27 c27 k27 (PySem.W.mg_of X G a27) fun us hl => match us, hl with | [_, _], _ => rfl
  have d_law_below : Df K mg "_law_below" s_law_below ["a", "b"] [] := df_mk l28 c28 k28 (PySem.W.mg_of X G a28) fun us hl => match us, hl with | [_, _], _ => rfl
  have d_law_ratio : Df K mg "_law_ratio" s_law_ratio ["pool", "size"] [] := df_mk l29 c29 k29 (PySem.W.mg_of X G a29) fun us hl => match us, hl with | [_, _], _ => rfl
  have d_law_speed : Df K mg "_law_speed" s_law_speed ["pool"] [] := df_mk l30 c30 k30 (PySem.W.mg_of X G a30) fun us hl => match us, hl with | [_], _ => rfl
  have d_law_gap : Df K mg "_law_gap" s_law_gap ["pool"] [] := df_mk l31 c31 k31 (PySem.W.mg_of X G a31) fun us hl => match us, hl with | [_], _ => rfl
  have d_law_weights : Df K mg "_law_weights" s_law_weights ["pool", "many"] [] := df_mk l32 c32 k32 (PySem.W.mg_of X G a32) fun us hl => match us, hl with | [_, _], _ => rfl
  have d_law_row : Df K mg "_law_row" s_law_row ["pool", "most"] [] := df_mk l33 c33 k33 (PySem.W.mg_of X G a33) fun us hl => match us, hl with | [_, _], _ => rfl
  have d_law_bound : Df K mg "_law_bound" s_law_bound ["pool", "ball", "side"] [] := df_mk l34 c34 k34 (PySem.W.mg_of X G a34) fun us hl => match us, hl with | [_, _, _], _ => rfl
  have d_law_box : Df K mg "_law_box" s_law_box ["pool", "row"] [] := df_mk l35 c35 k35 (PySem.W.mg_of X G a35) fun us hl => match us, hl with | [_, _], _ => rfl
  have d_law_bundle : Df K mg "_law_bundle" s_law_bundle ["pool", "where", "place", "moment", "alike"] [] := df_mk l36 c36 k36 (PySem.W.mg_of X G a36) fun us hl => match us, hl with | [_, _, _, _, _], _ => rfl
  have d_law_focused : Df K mg "_law_focused" s_law_focused ["pool", "alike"] [] := df_mk l37 c37 k37 (PySem.W.mg_of X G a37) fun us hl => match us, hl with | [_, _], _ => rfl
  have d_law_double : Df K mg "_law_double" s_law_double ["pool"] [] := df_mk l38 c38 k38 (PySem.W.mg_of X G a38) fun us hl => match us, hl with | [_], _ => rfl
  have d_law_on : Df K mg "_law_on" s_law_on ["things", "t"] [] := df_mk l39 c39 k39 (PySem.W.mg_of X G a39) fun us hl => match us, hl with | [_, _], _ => rfl
  have d_law_closing : Df K mg "_law_closing" s_law_closing ["one", "other"] [] := df_mk l40 c40 k40 (PySem.W.mg_of X G a40) fun us hl => match us, hl with | [_, _], _ => rfl
  have d_law_soonest : Df K mg "_law_soonest" s_law_soonest ["row", "walls"] [] := df_mk l41 c41 k41 (PySem.W.mg_of X G a41) fun us hl => match us, hl with | [_, _], _ => rfl
  have d_law_groups : Df K mg "_law_groups" s_law_groups ["row", "walls"] [] := df_mk l42 c42 k42 (PySem.W.mg_of X G a42) fun us hl => match us, hl with | [_, _], _ => rfl
  have d_law_drawn : Df K mg "_law_drawn" s_law_drawn ["pool"] [] := df_mk l43 c43 k43 (PySem.W.mg_of X G a43) fun us hl => match us, hl with | [_], _ => rfl
  have d_law_due : Df K mg "_law_due" s_law_due ["row", "walls"] [] := df_mk l44 c44 k44 (PySem.W.mg_of X G a44) fun us hl => match us, hl with | [_, _], _ => rfl
  have d_law_asked : Df K mg "_law_asked" s_law_asked ["row", "walls"] [] := df_mk l45 c45 k45 (PySem.W.mg_of X G a45) fun us hl => match us, hl with | [_, _], _ => rfl
  have T : TxB K mg := ⟨kit_ii K, kit_ib K, PySem.W.mg_none_of X G z_isinstance, PySem.W.mg_none_of X G z_int, PySem.W.mg_none_of X G z_bool, PySem.W.mg_none_of X G z_abs, PySem.W.mg_none_of X G z_len, PySem.W.mg_none_of X G z_max, PySem.W.mg_none_of X G z_min, PySem.W.mg_none_of X G z_range, PySem.W.mg_none_of X G z_tuple, PySem.W.mg_none_of X G z_sum⟩
  have F := fun_mk (st := s_law) l46 c46 k46
  refine ⟨PySem.W.fnOf "law" "law" (defArgs s_law) (defBody s_law) (defScope s_law) .none kV46 dc46 pm46 an46 cd46 ct46, fun s v => .of_eq rfl, fun base hKb hGb => ?_⟩
  obtain ⟨X11, B11, cd11, hc11, hh11, ho11⟩ := xmk_mk hKb xm_Shut ⟨_, hKb _ _ li_Shut, rfl⟩ kp_Shut
  have mC := PySem.W.mg_of X G a_ClackError
  have mS := PySem.W.mg_of X G a_Shut
  have mCo := PySem.W.mg_of X G a_Course
  have U : XUp K C_ClackError (.type "type") := ⟨ur, ug, ui⟩
  have ZS := xK_of xkS
  have S11 : XSet K C_Shut cd11 := ⟨hc11, hh11, ho11, ZS.ob, sa_Shut⟩
  have FU11 := fun_mk (st := s_shut_init) li_Shut ci_Shut ki_Shut
  have F11 := KQ.ok_in11 (P := l.prog) (w := w) FU11 U mC B11 S11 na_Shut
  have BI11 := FU11.binds (ps := ["self", "moment"]) fun _ _ _ _ _ _ us hl => match us, hl with | [_, _], _ => rfl
  have FUC := fun_mk (st := s_course_init) li_Course ci_Course ki_Course
  have BIC := FUC.binds (ps := ["self", "row", "walls"]) fun _ _ _ _ _ _ us hl => match us, hl with | [_, _, _], _ => rfl
  have TC : KQ.TCo K C_Course := ⟨⟨pgC, hdC, poC, sa_Course⟩, nc_place_bottom, nc_speed_bottom, nc_tick, nc_weights, nc_tracks, nc_low, nc_high⟩
  have M : Mk K C_Course fI_Course := ⟨mkC, fi_Course, ifC, kp_Course⟩
  have nE := PySem.W.mg_none_of X G z_enumerate
  have TQ : KQ.TxQ K mg := ⟨T, PySem.W.mg_none_of X G z_list, PySem.W.mg_none_of X G z_zip⟩
  have cW := ok_whole (P := l.prog) (w := w) (base := base) d_is_whole T
  have cG := ok_gcd (P := l.prog) (w := w) (base := base) d_greatest_divisor
  have cR := ok_ratio d_ratio T cW cG
  have cM := KQ.ok_minus d_minus cR
  have cO := ok_over d_over cR
  have cLs := KQ.ok_less (P := l.prog) (w := w) (base := base) d_less
  have cLcm := KQ.ok_lcm d_least_multiple cG
  have cB := KQ.ok_cb d_common_bottom cLcm
  have cTr := KQ.ok_tr (P := l.prog) (w := w) (base := base) d_track_of TC
  have Fi := KQ.ok_ci FUC TQ TC cB cR cTr
  have cMo := KQ.ok_mo d_moment_of TC cR
  have cSh := KQ.ok_sh d_shut_moment cLs cM cO
  have cSo := KQ.ok_so d_soonest TQ TC cLs
  have cFT := KQ.ok_ft d_first_ticks TC cSo cSh cMo X11 F11 mS BI11
  have cSpo := KQ.ok_sp (P := l.prog) (w := w) (base := base) d_spot_at
  have cSi := KQ.ok_si d_side_at TC cSpo
  have cWo := KQ.ok_wo (P := l.prog) (w := w) (base := base) d_wall_of TC
  have cCw := KQ.ok_cw d_came_to_wall TQ TC cWo
  have cGr := KQ.ok_gr d_groups_at TQ nE TC cSpo cSi cCw
  have cNC := KQ.ok_nc d_next_coming M Fi mCo BIC cFT cMo cGr
  have cC := ok_cell (P := l.prog) (w := w) (base := base) d_law_cell T
  have cD := ok_dig (P := l.prog) (w := w) (base := base) d_law_left T
  have cN := ok_next (P := l.prog) (w := w) (base := base) d_law_next
  have cWi := ok_wi d_law_wide T cN
  have cL := ok_low (P := l.prog) (w := w) (base := base) d_law_low T
  have cA := ok_ladd d_law_add cL
  have cOf := ok_loff d_law_off cL
  have cBy := ok_lby d_law_by cL
  have cPt := ok_lpart d_law_part cL
  have cBl := ok_lbel (P := l.prog) (w := w) (base := base) d_law_below
  have cRa := ok_ra d_law_ratio cN cWi cL
  have cRaB := ok_raB d_law_ratio cN cWi cL
  have cSp := KK.ok_sp d_law_speed cN cL
  have cSpB := ok_spB d_law_speed cN cL
  have cGa := ok_ga d_law_gap cN cL
  have cWe := ok_we d_law_weights T cN
  have cRo := ok_ro d_law_row T cN cWe cRa cSp cGa cA cBl
  have cBo := ok_bo d_law_bound cN cSp cGa cA cBy cBl
  have cBx := ok_bx d_law_box cBo cA
  have cBu := ok_bu d_law_bundle T ⟨nE⟩ cN cSpB cL cA cOf cBy
  have cFo := ok_fo d_law_focused T cN cRa cL cBu
  have cDb := ok_db d_law_double cN cRaB cL cA cBu
  have cDr := ok_dr d_law_drawn cN cFo cDb cRo cBx
  have cCl := ok_cl d_law_closing cBl cOf cPt
  have cSn := ok_sn d_law_soonest TQ cBl cCl
  have cOn := ok_on d_law_on TQ cA cBy
  have cLg := ok_lg d_law_groups TQ cBl
  have cDu := ok_du d_law_due cSn cOn cLg
  have cAs := ok_as d_law_asked mS exS ZS na_Shut cNC
  exact ok_law F TQ (kit_ll K) cC cD cDr cDu cAs
theorem walk {l : PySem.W.OpenLaw} {q : Program} {loose : List Str} {XP : (Str → Option Value) → Heap → Prop} {YP : World → Heap → Prop} {d : DefRec} {K : Params → PySem.W.Frag} (hn : l.most = some 63) (hdf : d.params.defaults = [])
    (hY : ∀ (w : World) (h : Heap), YP w h → (K w.params).In h)
    (F : ∀ (w : World) (mg : Str → Option Value) (fa : Addr) (h : Heap), (K w.params).In h → h.Ns mainGlobals mg → mg d.name = some (.ref fa) →
      ∃ fd : FuncData, (∀ (s : Shared) (u : Value), BindsTo s fd ⟨[u], []⟩ [("script", u)]) ∧ ∀ base : Heap, (K w.params).In base → base.Ns mainGlobals mg → FnOk l.prog w (K w.params) mg base CX0 8 fa fd ["script"] (spLaw (K w.params))) :
    PySem.W.WalkO q loose XP YP l.row.toRowW d [] (fun f vs => PySem.call f vs) :=
  L2.walk_of (n := 63) (k := 8) (x := "script") (CX := fun _ => CX0) (sp := fun w => spLaw (K w.params)) hn (by decide) hdf ⟨rfl, by decide, by decide⟩ hY F (fun _ _ a ns hl _ hS => ⟨a, ns, rfl, hS, hl, fun _ => rfl⟩) fun _ _ _ _ _ z => z
end KT
open PySem PySem.W PyProof.Rows
set_option maxRecDepth 100000 in
set_option maxHeartbeats 0 in
theorem PySem.Challenge.cw_clackrow_k10_next_comings_told_holds : PySem.Challenge.rw_clackrow_k10_next_comings_told.Holds := by
  w_on; o_law; k_head; (case hw => w_witness2)
  k_fill
  refine KT.walk (l := PySem.Challenge.rw_clackrow_k10_next_comings_told) rfl rfl (fun w h Y => PySem.W.kIn_of Y) ?F
  case F =>
    intro w mg fa h KX G hmg
    refine' KT.all_mk KX G hmg ?a0 ?l0 ?c0 ?k0 ?a1 ?l1 ?c1 ?k1 ?a2 ?l2 ?c2 ?k2 ?ld2 ?a3 ?l3 ?c3 ?k3 ?a4 ?l4 ?c4 ?k4 ?a5 ?l5 ?c5 ?k5 ?a6 ?l6 ?c6 ?k6 ?a7 ?l7 ?c7 ?k7 ?a8 ?l8 ?c8 ?k8 ?a9 ?l9 ?c9 ?k9 ?a10 ?l10 ?c10 ?k10 ?a11 ?l11 ?c11 ?k11 ?a12 ?l12 ?c12 ?k12 ?a13 ?l13 ?c13 ?k13 ?a14 ?l14 ?c14 ?k14 ?a15 ?l15 ?c15 ?k15 ?a16 ?l16 ?c16 ?k16 ?a17 ?l17 ?c17 ?k17 ?a18 ?l18 ?c18 ?k18 ?a19 ?l19 ?c19 ?k19 ?a20 ?l20 ?c20 ?k20 ?a21 ?l21 ?c21 ?k21 ?a22 ?l22 ?c22 ?k22 ?a23 ?l23 ?c23 ?k23 ?a24 ?l24 ?c24 ?k24 ?a25 ?l25 ?c25 ?k25 ?a26 ?l26 ?c26 ?k26 ?a27 ?l27 ?c27 ?k27 ?a28 ?l28 ?c28 ?k28 ?a29 ?l29 ?c29 ?k29 ?a30 ?l30 ?c30 ?k30 ?a31 ?l31 ?c31 ?k31 ?a32 ?l32 ?c32 ?k32 ?a33 ?l33 ?c33 ?k33 ?a34 ?l34 ?c34 ?k34 ?a35 ?l35 ?c35 ?k35 ?a36 ?l36 ?c36 ?k36 ?a37 ?l37 ?c37 ?k37 ?a38 ?l38 ?c38 ?k38 ?a39 ?l39 ?c39 ?k39 ?a40 ?l40 ?c40 ?k40 ?a41 ?l41 ?c41 ?k41 ?a42 ?l42 ?c42 ?k42 ?a43 ?l43 ?c43 ?k43 ?a44 ?l44 ?c44 ?k44 ?a45 ?l45 ?c45 ?k45 ?a46 ?l46 ?c46 ?k46 ?z_isinstance ?z_int ?z_bool ?z_abs ?z_len ?z_max ?z_min ?z_range ?z_tuple ?z_sum ?z_zip ?z_list ?z_enumerate ?a_ClackError ?a_Shut ?a_Course ?kp_Shut ?fi_Shut ?li_Shut ?ci_Shut ?ki_Shut ?sa_Shut ?kp_Course ?fi_Course ?li_Course ?ci_Course ?ki_Course ?sa_Course ?xm_Shut ?na_Shut ?xkS ?exS ?mkC ?ifC ?pgC ?hdC ?poC ?nc_place_bottom ?nc_speed_bottom ?nc_tick ?nc_weights ?nc_tracks ?nc_low ?nc_high ?ur ?ug ?ui
    (case a0 => k_is)
    (case l0 => k_is)
    (case c0 => k_is)
    (case k0 => k_is)
    (case a1 => k_is)
    (case l1 => k_is)
    (case c1 => k_is)
    (case k1 => k_is)
    (case a2 => k_is)
    (case l2 => k_is)
    (case c2 => k_is)
    (case k2 => k_is)
    (case ld2 => k_is)
    (case a3 => k_is)
    (case l3 => k_is)
    (case c3 => k_is)
    (case k3 => k_is)
    (case a4 => k_is)
    (case l4 => k_is)
    (case c4 => k_is)
    (case k4 => k_is)
    (case a5 => k_is)
    (case l5 => k_is)
    (case c5 => k_is)
    (case k5 => k_is)
    (case a6 => k_is)
    (case l6 => k_is)
    (case c6 => k_is)
    (case k6 => k_is)
    (case a7 => k_is)
    (case l7 => k_is)
    (case c7 => k_is)
    (case k7 => k_is)
    (case a8 => k_is)
    (case l8 => k_is)
    (case c8 => k_is)
    (case k8 => k_is)
    (case a9 => k_is)
    (case l9 => k_is)
    (case c9 => k_is)
    (case k9 => k_is)
    (case a10 => k_is)
    (case l10 => k_is)
    (case c10 => k_is)
    (case k10 => k_is)
    (case a11 => k_is)
    (case l11 => k_is)
    (case c11 => k_is)
    (case k11 => k_is)
    (case a12 => k_is)
    (case l12 => k_is)
    (case c12 => k_is)
    (case k12 => k_is)
    (case a13 => k_is)
    (case l13 => k_is)
    (case c13 => k_is)
    (case k13 => k_is)
    (case a14 => k_is)
    (case l14 => k_is)
    (case c14 => k_is)
    (case k14 => k_is)
    (case a15 => k_is)
    (case l15 => k_is)
    (case c15 => k_is)
    (case k15 => k_is)
    (case a16 => k_is)
    (case l16 => k_is)
    (case c16 => k_is)
    (case k16 => k_is)
    (case a17 => k_is)
    (case l17 => k_is)
    (case c17 => k_is)
    (case k17 => k_is)
    (case a18 => k_is)
    (case l18 => k_is)
    (case c18 => k_is)
    (case k18 => k_is)
    (case a19 => k_is)
    (case l19 => k_is)
    (case c19 => k_is)
    (case k19 => k_is)
    (case a20 => k_is)
    (case l20 => k_is)
    (case c20 => k_is)
    (case k20 => k_is)
    (case a21 => k_is)
    (case l21 => k_is)
    (case c21 => k_is)
    (case k21 => k_is)
    (case a22 => k_is)
    (case l22 => k_is)
    (case c22 => k_is)
    (case k22 => k_is)
    (case a23 => k_is)
    (case l23 => k_is)
    (case c23 => k_is)
    (case k23 => k_is)
    (case a24 => k_is)
    (case l24 => k_is)
    (case c24 => k_is)
    (case k24 => k_is)
    (case a25 => k_is)
    (case l25 => k_is)
    (case c25 => k_is)
    (case k25 => k_is)
    (case a26 => k_is)
    (case l26 => k_is)
    (case c26 => k_is)
    (case k26 => k_is)
    (case a27 => k_is)
    (case l27 => k_is)
    (case c27 => k_is)
    (case k27 => k_is)
    (case a28 => k_is)
    (case l28 => k_is)
    (case c28 => k_is)
    (case k28 => k_is)
    (case a29 => k_is)
    (case l29 => k_is)
    (case c29 => k_is)
    (case k29 => k_is)
    (case a30 => k_is)
    (case l30 => k_is)
    (case c30 => k_is)
    (case k30 => k_is)
    (case a31 => k_is)
    (case l31 => k_is)
    (case c31 => k_is)
    (case k31 => k_is)
    (case a32 => k_is)
    (case l32 => k_is)
    (case c32 => k_is)
    (case k32 => k_is)
    (case a33 => k_is)
    (case l33 => k_is)
    (case c33 => k_is)
    (case k33 => k_is)
    (case a34 => k_is)
    (case l34 => k_is)
    (case c34 => k_is)
    (case k34 => k_is)
    (case a35 => k_is)
    (case l35 => k_is)
    (case c35 => k_is)
    (case k35 => k_is)
    (case a36 => k_is)
    (case l36 => k_is)
    (case c36 => k_is)
    (case k36 => k_is)
    (case a37 => k_is)
    (case l37 => k_is)
    (case c37 => k_is)
    (case k37 => k_is)
    (case a38 => k_is)
    (case l38 => k_is)
    (case c38 => k_is)
    (case k38 => k_is)
    (case a39 => k_is)
    (case l39 => k_is)
    (case c39 => k_is)
    (case k39 => k_is)
    (case a40 => k_is)
    (case l40 => k_is)
    (case c40 => k_is)
    (case k40 => k_is)
    (case a41 => k_is)
    (case l41 => k_is)
    (case c41 => k_is)
    (case k41 => k_is)
    (case a42 => k_is)
    (case l42 => k_is)
    (case c42 => k_is)
    (case k42 => k_is)
    (case a43 => k_is)
    (case l43 => k_is)
    (case c43 => k_is)
    (case k43 => k_is)
    (case a44 => k_is)
    (case l44 => k_is)
    (case c44 => k_is)
    (case k44 => k_is)
    (case a45 => k_is)
    (case l45 => k_is)
    (case c45 => k_is)
    (case k45 => k_is)
    (case a46 => k_is)
    (case l46 => k_is)
    (case c46 => k_is)
    (case k46 => k_is)
    (case z_isinstance => k_is)
    (case z_int => k_is)
    (case z_bool => k_is)
    (case z_abs => k_is)
    (case z_len => k_is)
    (case z_max => k_is)
    (case z_min => k_is)
    (case z_range => k_is)
    (case z_tuple => k_is)
    (case z_sum => k_is)
    (case z_zip => k_is)
    (case z_list => k_is)
    (case z_enumerate => k_is)
    (case a_ClackError => k_is)
    (case a_Shut => k_is)
    (case a_Course => k_is)
    (case kp_Shut => k_is)
    (case fi_Shut => k_is)
    (case li_Shut => k_is)
    (case ci_Shut => k_is)
    (case ki_Shut => k_is)
    (case sa_Shut => k_is)
    (case kp_Course => k_is)
    (case fi_Course => k_is)
    (case li_Course => k_is)
    (case ci_Course => k_is)
    (case ki_Course => k_is)
    (case sa_Course => k_is)
    (case xm_Shut => kernel_rfl)
    (case na_Shut => k_is)
    (case xkS => kernel_rfl)
    (case exS => kernel_rfl)
    (case mkC => kernel_rfl)
    (case ifC => kernel_rfl)
    (case pgC => kernel_rfl)
    (case hdC => kernel_rfl)
    (case poC => kernel_rfl)
    (case nc_place_bottom => k_is)
    (case nc_speed_bottom => k_is)
    (case nc_tick => k_is)
    (case nc_weights => k_is)
    (case nc_tracks => k_is)
    (case nc_low => k_is)
    (case nc_high => k_is)
    (case ur => k_is)
    (case ug => k_is)
    (case ui => k_is)
end
