import PyProof.Rows.All
import Wide.All
import OpenK.AllK
import Wide.FinOn
import Lean
import PyProof.EqAt
import PyProof.EqKinds
import PyProof.TupleCall
import PyProof.CompFree
import PyProof.Rows.SumAny
import PyProof.ZipIter
import PyProof.ConsumeWalk
import PySem.Challenge.RW_clackrow_k50_no_three_weights
set_option Elab.async false
set_option linter.all false
set_option maxRecDepth 100000
namespace L2
open PySem PySem.Spec PyProof.Rows

abbrev Key := Sum Int Str
def keyIs : Key → Value → Bool
  | .inl k, v => Value.isInt k v
  | .inr x, v => Value.isStrOf x v
def keyH (w : World) : Key → Int
  | .inl k => hashInt k
  | .inr x => hashStr w x
theorem keyIs_shape : ∀ {k : Key} {v : Value}, keyIs k v = true → (∃ i t, k = Sum.inl i ∧ v = Value.int i t) ∨ (∃ x t, k = Sum.inr x ∧ v = Value.str x t)
  | .inl i, v, h => by
    obtain ⟨t, e⟩ := Value.isInt_shape (k := i) (v := v) h
    exact .inl ⟨i, t, rfl, e⟩
  | .inr x, v, h => by
    obtain ⟨t, e⟩ := Value.isStrOf_shape (x := x) (v := v) h
    exact .inr ⟨x, t, rfl, e⟩
theorem key_ll (a b : Int) : decide ((Sum.inl a : Key) = Sum.inl b) = (a == b) := by
  by_cases e : a = b
  · subst e; simp
  · have h : ¬ (Sum.inl a : Key) = Sum.inl b := fun q => e (Sum.inl.inj q)
    rw [decide_eq_false h]
    exact (beq_eq_false_iff_ne.mpr e).symm
theorem key_rr (a b : Str) : decide ((Sum.inr a : Key) = Sum.inr b) = decide (a = b) := by
  by_cases e : a = b
  · subst e; simp
  · have h : ¬ (Sum.inr a : Key) = Sum.inr b := fun q => e (Sum.inr.inj q)
    rw [decide_eq_false h, decide_eq_false e]
theorem key_lr (a : Int) (b : Str) : decide ((Sum.inl a : Key) = Sum.inr b) = false := decide_eq_false (fun q => nomatch q)
theorem key_rl (a : Str) (b : Int) : decide ((Sum.inr a : Key) = Sum.inl b) = false := decide_eq_false (fun q => nomatch q)

def mixKind (prog : Program) (w : World) : PySem.KeyKind prog w Key where
  is := keyIs
  hash := keyH w
  inj := fun v a b ha hb => by
    rcases keyIs_shape ha with ⟨i, t, rfl, rfl⟩ | ⟨x, t, rfl, rfl⟩
    · rcases keyIs_shape hb with ⟨j, u, rfl, e⟩ | ⟨y, u, rfl, e⟩
      · injection e with e1 _; rw [e1]
      · exact nomatch e
    · rcases keyIs_shape hb with ⟨j, u, rfl, e⟩ | ⟨y, u, rfl, e⟩
      · exact nomatch e
      · injection e with e1 _; rw [e1]
  byValue := fun k v h => by
    rcases keyIs_shape h with ⟨i, t, rfl, rfl⟩ | ⟨x, t, rfl, rfl⟩ <;> rfl
  pyHash := fun hv h => by
    rcases keyIs_shape hv with ⟨i, t, rfl, rfl⟩ | ⟨x, t, rfl, rfl⟩
    · exact wpAny_pyHash_int h
    · exact wpAny_pyHash_str h
  eqBool := fun hu hv h => by
    rcases keyIs_shape hu with ⟨i, t, rfl, rfl⟩ | ⟨x, t, rfl, rfl⟩
    · rcases keyIs_shape hv with ⟨j, u, rfl, rfl⟩ | ⟨y, u, rfl, rfl⟩
      · rw [key_ll] at h; exact wpAny_eqBool_int h
      · rw [key_lr] at h; exact SeqAt.EqAt.int_str i t y u _ _ _ _ h
    · rcases keyIs_shape hv with ⟨j, u, rfl, rfl⟩ | ⟨y, u, rfl, rfl⟩
      · rw [key_rl] at h; exact SeqAt.EqAt.str_int x t j u _ _ _ _ h
      · rw [key_rr] at h; exact wpAny_eqBool_str h
  «strs» := fun k x t v h => by
    rcases keyIs_shape h with ⟨i, u, rfl, e⟩ | ⟨y, u, rfl, e⟩
    · exact nomatch e
    · injection e with e1 _
      subst e1
      cases v <;> rfl

end L2

namespace L2
open PySem PySem.Spec PyProof.Rows

inductive V where
  | non | bl (b : Bool) | int (i : Int) | str (x : Str) | byt (b : Array UInt8) | flt (b : UInt64) | ref (a : Addr) | ty (n : String)
  deriving DecidableEq

def RelV : V → Value → Prop
  | .non, u => u = Value.none
  | .bl b, u => u = Value.bool b
  | .int i, u => ∃ t, u = Value.int i t
  | .str x, u => ∃ t, u = Value.str x t
  | .byt b, u => ∃ t, u = Value.bytes b t
  | .flt b, u => ∃ t, u = Value.float b t
  | .ref a, u => u = Value.ref a
  | .ty n, u => u = Value.type n

abbrev Vals : List V → List Value → Prop := Paired RelV
theorem Vals.length {xs : List V} {us : List Value} (r : Vals xs us) : xs.length = us.length := Paired.length r
theorem Vals.get : ∀ {xs : List V} {us : List Value} {i : Nat} {x : V}, Vals xs us → xs[i]? = some x → ∃ u, us[i]? = some u ∧ RelV x u
  | _, _, _, _, .nil, e => by simp at e
  | _, _, 0, _, .cons r _, e => by simp at e; subst e; exact ⟨_, rfl, r⟩
  | _, _, i + 1, x, .cons _ t, e => by
    obtain ⟨u, h1, h2⟩ := Vals.get (i := i) (x := x) t (by simpa using e)
    exact ⟨u, by simpa using h1, h2⟩
theorem Vals.set {x : V} {u : Value} (r : RelV x u) : ∀ {xs : List V} {us : List Value} (i : Nat), Vals xs us → Vals (xs.set i x) (us.set i u)
  | _, _, _, .nil => .nil
  | _, _, 0, .cons _ t => .cons r t
  | _, _, i + 1, .cons q t => .cons q (Vals.set r i t)
theorem Vals.append : ∀ {xs ys : List V} {us ws : List Value}, Vals xs us → Vals ys ws → Vals (xs ++ ys) (us ++ ws)
  | _, _, _, _, .nil, s => s
  | _, _, _, _, .cons r t, s => .cons r (Vals.append t s)
theorem Vals.take : ∀ {xs : List V} {us : List Value} (n : Nat), Vals xs us → Vals (xs.take n) (us.take n)
  | _, _, 0, _ => .nil
  | _, _, _ + 1, .nil => .nil
  | _, _, n + 1, .cons r t => .cons r (Vals.take n t)
theorem Vals.drop : ∀ {xs : List V} {us : List Value} (n : Nat), Vals xs us → Vals (xs.drop n) (us.drop n)
  | _, _, 0, r => r
  | _, _, _ + 1, .nil => .nil
  | _, _, n + 1, .cons _ t => Vals.drop n t
def RelO : Option V → Option Value → Prop
  | some v, some u => RelV v u
  | none, none => True
  | _, _ => False
def KV {κ : Type} : List (κ × V) → List (κ × Value) → Prop := Paired fun (p : κ × V) (q : κ × Value) => p.1 = q.1 ∧ RelV p.2 q.2

def kV : Key → V
  | .inl i => .int i
  | .inr x => .str x

inductive HO where
  /-- a list -/
  | lst (xs : List V)
  /-- a tuple (never changes) -/
  | tup (xs : List V)
  /-- a dict whose keys are ints and texts; one whose keys are tuples of ints and texts (the empty one is both) -/
  | dK (kvs : List (Key × V)) | dT (kvs : List (List Key × V))
  /-- a set of ints: its members, its size -/
  | set (S : Int → Bool) (n : Nat)
  /-- an instance of the class at C, its dict at dx, its attributes -/
  | ins (C dx : Addr) (fs : List (Str × V))
  /-- the dict of the instance at x -/
  | own (x : Addr)
  /-- the dict of an exception -/
  | xd (fs : List (Str × V))
  /-- a bound method, f of x -/
  | met (f x : Addr)
  /-- a range object lo, lo + 1, .. below hi -/
  | rng (lo hi : Int)
  /-- a thing that is known to the object (the script; a dict while a loop walks it): read, never written while it is so -/
  | frz (o : Obj) (u : HO)
  /-- a code object's table -/
  | tbl (ps : Array Value)
  /-- any other thing, by what is true of its one object (a def of one's own: SetO a S n := HO.ext fun h => ..) -/
  | ext (φ : Heap → Prop)

abbrev Hp := Addr → Option HO
def upd (H : Hp) (a : Addr) (o : HO) : Hp := fun b => if b = a then some o else H b
theorem upd_same {H : Hp} {a : Addr} {o : HO} : upd H a o a = some o := by unfold upd; rw [if_pos rfl]
theorem upd_ne {H : Hp} {a b : Addr} {o : HO} (h : b ≠ a) : upd H a o b = H b := by unfold upd; rw [if_neg h]
theorem ne_of {H : Hp} {a b : Addr} {o u : HO} (h : H a = some o) (h' : H b = some u) (d : o ≠ u) : a ≠ b := by
  intro e; subst e; rw [h] at h'; exact d (Option.some.inj h')
theorem ne_of_none {H : Hp} {a b : Addr} {o : HO} (h : H a = some o) (h' : H b = none) : a ≠ b := by
  intro e; subst e; rw [h] at h'; cases h'

section
variable (P : Program) (w : World)
def ObjOk (H : Hp) (h : Heap) (a : Addr) : HO → Prop
  | .lst xs => xs.length ≤ sizeLine ∧ ∃ (its : List Value) (n : Nat), Vals xs its ∧ h.get? a = some { cls := .type "list", data := .seq its.toArray n }
  | .tup xs => xs.length ≤ sizeLine ∧ ∃ its : List Value, Vals xs its ∧ IsTup h a its.toArray
  | .dK kvs => kvs.length ≤ sizeLine ∧ (a == sysModules) = false ∧ ∃ vs, KV kvs vs ∧ h.DictOf (mixKind P w) a vs
  | .dT kvs => kvs.length ≤ sizeLine ∧ (a == sysModules) = false ∧ ∃ xs : List (List Key × Addr × Value),
      Paired (fun (p : List Key × V) (q : List Key × Addr × Value) => p.1 = q.1 ∧ H q.2.1 = some (.tup (p.1.map kV)) ∧ RelV p.2 q.2.2) kvs xs ∧
      ∃ o es ep, h.get? a = some o ∧ o.ExactDict ∧ o.data = .dict es ep ∧ es.toList = xs.map (entryOfKey (tupleKind (mixKind P w))) ∧ (xs.map (·.1)).Nodup
  | .set S n => h.SetOf (intKind P w) a S n
  | .ins C dx fs => H dx = some (.own a) ∧ fs.length ≤ 1000 ∧ dx ≠ a ∧ h.get? a = some (PySem.W.instObj C dx) ∧
      ∃ mA, h.Ns1 dx mA ∧ (∀ f, RelO (fs.lookup f) (mA f)) ∧ PySem.Within mA (fs.map (·.1))
  | .own _ => ∃ o, h.get? a = some o
  | .xd fs => ∃ mA, h.Ns1 a mA ∧ ∀ f, RelO (fs.lookup f) (mA f)
  | .rng lo hi => ∃ t u v, h.get? a = some { cls := .type "range", data := .fields #[.int lo t, .int hi u, .int 1 v] }
  | .frz o u => h.get? a = some o ∧ ObjOk H h a u
  | .tbl ps => h.get? a = some { cls := .none, data := .fields ps }
  | .met f x => h.get? a = some (PySem.W.methodObj (.ref f) (.ref x))
  | .ext φ => φ h ∧ (∃ o, h.get? a = some o) ∧ ∀ h1 h2 : Heap, φ h1 → (∀ o, h1.get? a = some o → h2.get? a = some o) → φ h2
def HOk (H : Hp) (h : Heap) : Prop := ∀ a o, H a = some o → ObjOk P w H h a o
end

section
variable {P : Program} {w : World} {H H' : Hp} {h h' : Heap} {a : Addr} {o : HO}
theorem ObjOk.lt (x : ObjOk P w H h a o) : a < h.objs.size := by
  cases o with
  | lst xs => obtain ⟨_, _, _, _, e⟩ := x; exact Heap.lt_size e
  | tup xs => obtain ⟨_, _, _, p⟩ := x; exact p.lt
  | dK kvs => obtain ⟨_, _, _, _, o, _, _, e, _⟩ := x; exact Heap.lt_size e
  | dT kvs => obtain ⟨_, _, _, _, o, _, _, e, _⟩ := x; exact Heap.lt_size e
  | set S n => obtain ⟨o, _, _, _, e, _⟩ := x; exact Heap.lt_size e
  | ins C dx fs => obtain ⟨_, _, _, e, _⟩ := x; exact Heap.lt_size e
  | own y => obtain ⟨_, e⟩ := x; exact Heap.lt_size e
  | xd fs => obtain ⟨_, ⟨_, _, _, e, _⟩, _⟩ := x; exact Heap.lt_size e
  | rng lo hi => obtain ⟨_, _, _, e⟩ := x; exact Heap.lt_size e
  | frz ob u => obtain ⟨e, _⟩ := x; exact Heap.lt_size e
  | tbl ps => exact Heap.lt_size (show h.get? a = some _ from x)
  | met f y => exact Heap.lt_size (show h.get? a = some _ from x)
  | ext φ => obtain ⟨_, ⟨_, e⟩, _⟩ := x; exact Heap.lt_size e
theorem Paired.mapP {α β : Type} {F G : α → β → Prop} : ∀ {l₁ : List α} {l₂ : List β}, Paired F l₁ l₂ → (∀ a b, F a b → G a b) → Paired G l₁ l₂
  | _, _, .nil, _ => .nil
  | _, _, .cons r t, f => .cons (f _ _ r) (Paired.mapP t f)
theorem ObjOk.stay (x : ObjOk P w H h a o) (k : ∀ b u, (b = a ∨ H b = some (.own a)) → h.get? b = some u → h'.get? b = some u)
    (ho : ∀ b, H b = some (.own a) → H' b = some (.own a)) (ht : ∀ b xs, H b = some (.tup xs) → H' b = some (.tup xs)) : ObjOk P w H' h' a o := by
  induction o with
  | lst xs => obtain ⟨z, its, n, r, e⟩ := x; exact ⟨z, its, n, r, k _ _ (.inl rfl) e⟩
  | tup xs => obtain ⟨z, its, r, ob, e, c⟩ := x; exact ⟨z, its, r, ob, k _ _ (.inl rfl) e, c⟩
  | dK kvs => obtain ⟨z, y, vs, r, ob, es, ep, e, c⟩ := x; exact ⟨z, y, vs, r, ob, es, ep, k _ _ (.inl rfl) e, c⟩
  | dT kvs =>
    obtain ⟨z, y, xs, r, ob, es, ep, e, c⟩ := x
    exact ⟨z, y, xs, Paired.mapP r fun p q z => ⟨z.1, ht _ _ z.2.1, z.2.2⟩, ob, es, ep, k _ _ (.inl rfl) e, c⟩
  | set S n => obtain ⟨ob, es, ep, t, e, c⟩ := x; exact ⟨ob, es, ep, t, k _ _ (.inl rfl) e, c⟩
  | ins C dx fs =>
    obtain ⟨d, z, ne, e, mA, ⟨od, es, ep, e2, c⟩, r⟩ := x
    exact ⟨ho _ d, z, ne, k _ _ (.inl rfl) e, mA, ⟨od, es, ep, k _ _ (.inr d) e2, c⟩, r⟩
  | own y => obtain ⟨ob, e⟩ := x; exact ⟨ob, k _ _ (.inl rfl) e⟩
  | xd fs => obtain ⟨mA, ⟨od, es, ep, e, c⟩, r⟩ := x; exact ⟨mA, ⟨od, es, ep, k _ _ (.inl rfl) e, c⟩, r⟩
  | rng lo hi => obtain ⟨t, u, v, e⟩ := x; exact ⟨t, u, v, k _ _ (.inl rfl) e⟩
  | frz ob u ih => obtain ⟨e, q⟩ := x; exact ⟨k _ _ (.inl rfl) e, ih q⟩
  | tbl ps =>
    have e : h.get? a = some { cls := .none, data := .fields ps } := x
    show h'.get? a = some { cls := .none, data := .fields ps }
    exact k a _ (.inl rfl) e
  | met f y =>
    have e : h.get? a = some (PySem.W.methodObj (.ref f) (.ref y)) := x
    show h'.get? a = some (PySem.W.methodObj (.ref f) (.ref y))
    exact k a _ (.inl rfl) e
  | ext φ => obtain ⟨p, ⟨o, e⟩, st⟩ := x; exact ⟨st _ _ p fun o q => k _ _ (.inl rfl) q, ⟨o, k _ _ (.inl rfl) e⟩, st⟩
theorem HOk.lt (x : HOk P w H h) (e : H a = some o) : a < h.objs.size := (x a o e).lt
theorem HOk.fresh (x : HOk P w H h) (e : h.objs.size ≤ a) : H a = none := by
  cases q : H a with
  | none => rfl
  | some u => exact absurd (Nat.lt_of_lt_of_le (x.lt q) e) (Nat.lt_irrefl _)
theorem HOk.kept (x : HOk P w H h) (k : ∀ b u, h.get? b = some u → h'.get? b = some u) : HOk P w H h' := fun a o e =>
  (x a o e).stay (fun b u _ q => k b u q) (fun _ q => q) fun _ _ q => q
theorem HOk.laid (x : HOk P w H h) (k : ∀ b u, h.get? b = some u → h'.get? b = some u) (hp : h.objs.size ≤ a) (new : ObjOk P w (upd H a o) h' a o) : HOk P w (upd H a o) h' := fun b u e => by
  have hn := x.fresh hp
  by_cases hb : b = a
  · subst hb; rw [upd_same] at e; cases e; exact new
  · rw [upd_ne hb] at e
    exact (x b u e).stay (fun c v _ q => k c v q) (fun c q => by rw [upd_ne (ne_of_none q hn)]; exact q) fun c xs q => by rw [upd_ne (ne_of_none q hn)]; exact q
end

def Rd (H : Hp) (a : Addr) (u : HO) : Prop := H a = some u ∨ ∃ o, H a = some (.frz o u)
theorem Rd.of {H : Hp} {a : Addr} {u : HO} (h : H a = some u) : Rd H a u := .inl h
theorem Rd.ok {P : Program} {w : World} {H : Hp} {h : Heap} {a : Addr} {u : HO} (r : Rd H a u) (x : HOk P w H h) : ObjOk P w H h a u := by
  rcases r with r | ⟨o, r⟩
  · exact x a u r
  · obtain ⟨_, q⟩ := x a _ r
    exact q
def Mut : Option HO → Prop
  | some (.lst _) => True
  | some (.dK _) => True
  | some (.dT _) => True
  | some (.set _ _) => True
  | some (.ins _ _ _) => True
  | some (.ext _) => True
  | _ => False
section
variable {P : Program} {w : World} {H : Hp} {h h' : Heap} {x e : Addr} {o' : HO}
theorem HOk.write (ok : HOk P w H h) (mu : Mut (H x)) (he : e = x ∨ H e = some (.own x)) (k : ∀ b u, b ≠ e → h.get? b = some u → h'.get? b = some u) (heo : ∃ u, h'.get? e = some u)
    (new : ObjOk P w (upd H x o') h' x o') : HOk P w (upd H x o') h' := fun b u q => by
  have nown : ∀ c y, H c = some (.own y) → c ≠ x := fun c y r z => by subst z; rw [r] at mu; exact mu
  have ntup : ∀ c xs, H c = some (.tup xs) → c ≠ x := fun c xs r z => by subst z; rw [r] at mu; exact mu
  by_cases hb : b = x
  · subst hb; rw [upd_same] at q; cases q; exact new
  · rw [upd_ne hb] at q
    by_cases hbe : b = e
    · have q' : H b = some (.own x) := by
        rcases he with z | z
        · exact absurd (hbe.trans z) hb
        · rw [hbe]; exact z
      rw [q] at q'; cases q'
      obtain ⟨v, hv⟩ := heo
      exact ⟨v, by rw [hbe]; exact hv⟩
    · refine (ok b u q).stay (fun c v hc r => k c v ?_ r) (fun c r => by rw [upd_ne (nown c b r)]; exact r) fun c xs r => by rw [upd_ne (ntup c xs r)]; exact r
      rcases hc with rfl | hc
      · exact hbe
      · rintro rfl
        rcases he with z | z
        · exact nown c b hc z
        · rw [hc] at z; cases z; exact hb rfl
end

structure Un (fs ex : List Addr) (H H' : Hp) (h h' : Heap) : Prop where
  keep : ∀ b o, h.get? b = some o → H b = none → b ∉ fs → b ∉ ex → h'.get? b = some o
  slot : ∀ b o, h.get? b = some o → H b = none → b ∈ fs → b ∉ ex → ∃ sl, h'.get? b = some { o with slots := sl }
  free : ∀ b o, h.get? b = some o → H b = none → b ∉ ex → H' b = none
  there : ∀ b o, h.get? b = some o → b ∉ ex → ∃ o', h'.get? b = some o'
  tups : ∀ b xs, H b = some (.tup xs) → H' b = some (.tup xs)
  frzs : ∀ b o u, H b = some (.frz o u) → H' b = some (.frz o u)
  tbls : ∀ b ps, H b = some (.tbl ps) → ∃ more, H' b = some (.tbl (ps ++ more))
section
variable {fs fs' ex ex' : List Addr} {H H1 H2 : Hp} {h h1 h2 h' : Heap} {a x e : Addr} {o : HO}
theorem Un.any (u : Un fs ex H H1 h h1) {b : Addr} {ob : Obj} (q : h.get? b = some ob) (n : H b = none) (hx : b ∉ ex) : ∃ sl, h1.get? b = some { ob with slots := sl } := by
  by_cases hb : b ∈ fs
  · exact u.slot b ob q n hb hx
  · exact ⟨ob.slots, u.keep b ob q n hb hx⟩
theorem Un.trans (a : Un fs ex H H1 h h1) (b : Un fs ex H1 H2 h1 h2) : Un fs ex H H2 h h2 where
  keep := fun c ob q n hc hx => b.keep c ob (a.keep c ob q n hc hx) (a.free c ob q n hx) hc hx
  slot := fun c ob q n hc hx => by
    obtain ⟨sl, e1⟩ := a.slot c ob q n hc hx
    obtain ⟨sl', e2⟩ := b.slot c _ e1 (a.free c ob q n hx) hc hx
    exact ⟨sl', e2⟩
  free := fun c ob q n hx => by
    obtain ⟨o', e1⟩ := a.there c ob q hx
    exact b.free c o' e1 (a.free c ob q n hx) hx
  there := fun c ob q hx => by
    obtain ⟨o', e1⟩ := a.there c ob q hx
    exact b.there c o' e1 hx
  tups := fun c xs q => b.tups c xs (a.tups c xs q)
  frzs := fun c ob xs q => b.frzs c ob xs (a.frzs c ob xs q)
  tbls := fun c ps q => by
    obtain ⟨m1, e1⟩ := a.tbls c ps q
    obtain ⟨m2, e2⟩ := b.tbls c _ e1
    exact ⟨m1 ++ m2, by rw [e2, Array.append_assoc]⟩
theorem Un.kept (k : ∀ b u, h.get? b = some u → h'.get? b = some u) : Un fs ex H H h h' :=
  ⟨fun b ob q _ _ _ => k b ob q, fun b ob q _ _ _ => ⟨ob.slots, k b ob q⟩, fun _ _ _ n _ => n, fun b ob q _ => ⟨ob, k b ob q⟩, fun _ _ q => q, fun _ _ _ q => q, fun _ ps q => ⟨#[], by rw [q]; simp⟩⟩
theorem Un.refl : Un fs ex H H h h := Un.kept fun _ _ q => q
theorem Un.laid (k : ∀ b u, h.get? b = some u → h'.get? b = some u) (hp : h.objs.size ≤ a) (hn : H a = none) : Un fs ex H (upd H a o) h h' where
  keep := fun b u q _ _ _ => k b u q
  slot := fun b u q _ _ _ => ⟨u.slots, k b u q⟩
  free := fun b u q n _ => by rw [upd_ne (Nat.ne_of_lt (Nat.lt_of_lt_of_le (Heap.lt_size q) hp))]; exact n
  there := fun b u q _ => ⟨u, k b u q⟩
  tups := fun b xs q => by rw [upd_ne (ne_of_none q hn)]; exact q
  frzs := fun b u xs q => by rw [upd_ne (ne_of_none q hn)]; exact q
  tbls := fun b ps q => ⟨#[], by rw [upd_ne (ne_of_none q hn), q]; simp⟩
theorem Un.write (mu : Mut (H x)) (he : e = x ∨ H e = some (.own x)) (k : ∀ b u, b ≠ e → h.get? b = some u → h'.get? b = some u) (heo : ∃ u, h'.get? e = some u) : Un fs ex H (upd H x o) h h' := by
  have hx : ∀ b, H b = none → b ≠ x := fun b n z => by subst z; rw [n] at mu; exact mu
  have hb : ∀ b, H b = none → b ≠ e := fun b n z => by
    subst z
    rcases he with r | r
    · exact hx b n r
    · rw [n] at r; cases r
  have hm : ∀ b u, H b = some u → ¬ Mut (some u) → b ≠ x := fun b u q nm z => by subst z; rw [q] at mu; exact nm mu
  refine ⟨fun b u q n _ _ => k b u (hb b n) q, fun b u q n _ _ => ⟨u.slots, k b u (hb b n) q⟩, fun b u q n _ => by rw [upd_ne (hx b n)]; exact n, fun b u q _ => ?_,
    fun b xs q => by rw [upd_ne (hm b _ q fun z => z)]; exact q, fun b u xs q => by rw [upd_ne (hm b _ q fun z => z)]; exact q, fun b ps q => ⟨#[], by rw [upd_ne (hm b _ q fun z => z), q]; simp⟩⟩
  by_cases hbe : b = e
  · subst hbe; exact heo
  · exact ⟨u, k b u hbe q⟩
theorem Un.mono (u : Un fs ex H H1 h h1) (hs : ∀ b ∈ fs, b ∈ fs') (hx : ∀ b ∈ ex, b ∈ ex') : Un fs' ex' H H1 h h1 :=
  ⟨fun b ob q n hb he => u.keep b ob q n (fun z => hb (hs b z)) fun z => he (hx b z), fun _ _ q n _ he => u.any q n fun z => he (hx _ z), fun b ob q n he => u.free b ob q n fun z => he (hx b z), fun b ob q he => u.there b ob q fun z => he (hx b z), u.tups, u.frzs, u.tbls⟩
end

def trk (h : Heap) (H : Hp) : List Addr := (List.range h.objs.size).filter fun a => (H a).isSome
def hidT (h : Heap) (H : Hp) : Heap := PySem.W.hideAll h (trk h H)
theorem hidT_size (h : Heap) (H : Hp) : (hidT h H).objs.size = h.objs.size := PySem.W.hideAll_size _ _
theorem hidT_get {h : Heap} {H : Hp} {b : Addr} {o : Obj} (e : h.get? b = some o) (n : H b = none) : (hidT h H).get? b = some o :=
  PySem.W.hideAll_get _ e fun hm => by
    have q : (H b).isSome = true := (List.mem_filter.mp hm).2
    rw [n] at q; simp at q
theorem of_hidT {h : Heap} {H : Hp} {b : Addr} {o : Obj} (e : (hidT h H).get? b = some o) : h.get? b = some o ∧ H b = none := by
  have e' : h.get? b = some o := PySem.W.of_hideAll (trk h H) e
  refine ⟨e', ?_⟩
  cases q : H b with
  | none => rfl
  | some x =>
    have hm : b ∈ trk h H := List.mem_filter.mpr ⟨List.mem_range.mpr (Heap.lt_size e'), by simp [q]⟩
    have z : (hidT h H).get? b = none := PySem.W.hideAll_none (trk h H) hm
    rw [z] at e; cases e

def allNews (g h : Heap) (L : Addr) : List (Addr × Obj) := (List.range h.objs.size).filterMap fun a => if a = L ∨ (g.get? a).isSome = true then none else (h.get? a).map fun o => (a, o)
def rest (g h : Heap) (L d : Addr) : List (Addr × Obj) := (allNews g h L).filter fun p => decide (p.1 ≠ d)
end L2

namespace L2
open PySem PySem.Spec PyProof.Rows

structure Mod (K : PySem.W.Frag) (mg : Str → Option Value) (base : Heap) : Prop where
  kin : K.In base
  glob : base.Ns mainGlobals mg
  blt : ∃ mb, base.Ns builtinsNs mb ∧ ∀ x : Str, x ≠ "__name__" → mb x = bootBuiltins x
  nolimit : base.NoLimit

structure Cx where
  prog : Program
  w : World
  K : PySem.W.Frag
  mg : Str → Option Value
  base : Heap
  A : Around
  N : List Str
  s₀ : Shared
  H₀ : Hp
  env : Env
  outer : List Env
  stack : List Env
  ex : List Addr
  fn : Str → Bool
  calm : Bool
  pn : List (Addr × Obj)
  xe : Value → Shared → Prop
def frs (l : List Env) : List Addr := l.filterMap (·.frame)
abbrev Cx.fs (X : Cx) : List Addr := frs X.outer

def Vis (sc : Scope) (x : Str) : Prop := sc.names.lookup x = some .local ∨ sc.names.lookup x = some .cell ∨ sc.names.lookup x = some .free
def Loc (sc : Scope) (x : Str) : Prop := sc.names.lookup x = some .local ∨ sc.names.lookup x = some .cell
def Look (env : Env) (h : Heap) (m : Str → Option Value) (x : Str) (u : Value) : Prop :=
  (env.kindOf x = some .local ∧ m x = some u) ∨ ((env.kindOf x = some .cell ∨ env.kindOf x = some .free) ∧ ∃ c, env.cells.lookup x = some c ∧ h.IsCell c (some u))

structure Cx.Ok (X : Cx) : Prop where
  mod : Mod X.K X.mg X.base
  kind : X.env.scope.kind = .function
  glob : X.env.globals = mainGlobals
  blt : X.env.builtins = builtinsNs
  above : X.s₀.heap.objs.size ≤ X.env.locals
  inj : ∀ x y c, X.env.cells.lookup x = some c → X.env.cells.lookup y = some c → x = y
  has : ∀ x, (X.env.kindOf x = some .cell ∨ X.env.kindOf x = some .free) → ∃ c, X.env.cells.lookup x = some c
  cab : ∀ x c, X.fn x = true → X.env.cells.lookup x = some c → X.s₀.heap.objs.size ≤ c
  hd : X.calm = true → X.A.handled = none
  frames : X.A.frames = some X.stack
  stk : X.stack = X.outer ∨ (X.stack = X.env :: X.outer ∧ X.env.frame = some X.env.locals)
  exf : ∀ b ∈ X.ex, b ≠ X.env.locals ∧ ∀ x c, X.env.cells.lookup x = some c → c ≠ b
  bs : ∀ b o, X.base.get? b = some o → X.s₀.heap.get? b = some o ∧ X.H₀ b = none
  bsz : X.base.objs.size ≤ X.s₀.heap.objs.size
  noex : ∀ b o, X.base.get? b = some o → b ∉ X.ex
  exfs : ∀ b ∈ X.ex, b ∉ X.fs
  funs : X.s₀.heap.FunFrames X.base X.outer
  frf : ∀ b ∈ X.fs, X.H₀ b = none

structure Inv (X : Cx) (pins : List (Addr × Obj)) (σ : List (Option V)) (H : Hp) (s : Shared) : Prop where
  ok : X.Ok
  os : s.os = X.s₀.os
  bare : AllBare s.gens
  base : Un X.fs X.ex X.H₀ H X.s₀.heap s.heap
  loc : ∃ m, s.heap.Ns X.env.locals m ∧ ∀ (i : Nat) (x : Str) (v : V), X.N[i]? = some x → σ[i]? = some (some v) → Vis X.env.scope x → ∃ u, RelV v u ∧ Look X.env s.heap m x u
  cell : ∀ x c, X.env.cells.lookup x = some c → ∃ v, s.heap.IsCell c v
  free : H X.env.locals = none
  freeC : ∀ x c, X.env.cells.lookup x = some c → H c = none
  pin : ∀ p ∈ X.pn ++ pins, s.heap.get? p.1 = some p.2 ∧ H p.1 = none ∧ p.1 ≠ X.env.locals ∧ p.1 ∉ X.fs ∧ ∀ v, p.2.data ≠ .cell v
  hok : HOk X.prog X.w H s.heap
  len : σ.length = X.N.length

section
variable {X : Cx} {pins : List (Addr × Obj)} {σ : List (Option V)} {H H' : Hp} {s : Shared} {h' : Heap}

theorem Cx.Ok.nofr (ok : X.Ok) {b : Addr} {o : Obj} (e : X.base.get? b = some o) : b ∉ X.fs := fun hb => by
  have := (ok.funs.mem hb).1
  rw [e] at this; cases this
theorem Inv.bs (I : Inv X pins σ H s) : ∀ b o, X.base.get? b = some o → s.heap.get? b = some o ∧ H b = none := fun b o e =>
  ⟨I.base.keep b o (I.ok.bs b o e).1 (I.ok.bs b o e).2 (I.ok.nofr e) (I.ok.noex b o e), I.base.free b o (I.ok.bs b o e).1 (I.ok.bs b o e).2 (I.ok.noex b o e)⟩
theorem Inv.bk (I : Inv X pins σ H s) : ∀ b o, X.base.get? b = some o → s.heap.get? b = some o := fun b o e => (I.bs b o e).1
theorem Inv.mod (I : Inv X pins σ H s) : Mod X.K X.mg X.base := I.ok.mod
theorem Inv.kIn (I : Inv X pins σ H s) : X.K.In s.heap := I.ok.mod.kin.keeps I.bk
theorem Inv.nolimit (I : Inv X pins σ H s) : s.heap.NoLimit := I.ok.mod.nolimit.keeps I.bk
theorem Inv.fr (I : Inv X pins σ H s) : ∃ m, Fr X.base X.env.locals s.heap m :=
  let ⟨m, hn, _⟩ := I.loc
  ⟨m, hn, I.bk, Nat.le_trans I.ok.bsz I.ok.above⟩
theorem Inv.lt (I : Inv X pins σ H s) : X.env.locals < s.heap.objs.size := let ⟨_, hn, _⟩ := I.loc; hn.lt
theorem Inv.sz (I : Inv X pins σ H s) : X.s₀.heap.objs.size ≤ s.heap.objs.size := Nat.le_trans I.ok.above (Nat.le_of_lt I.lt)
theorem Inv.nofs (I : Inv X pins σ H s) {a : Addr} (h : s.heap.objs.size ≤ a) : a ∉ X.fs := fun hb => by
  obtain ⟨_, o, ho, _⟩ := I.ok.funs.mem hb
  exact absurd (Nat.lt_of_lt_of_le (Heap.lt_size ho) (Nat.le_trans I.sz h)) (Nat.lt_irrefl _)
theorem Inv.cne (I : Inv X pins σ H s) : ∀ x c, X.env.cells.lookup x = some c → c ≠ X.env.locals := fun x c e z => by
  obtain ⟨v, o, ho, hd⟩ := I.cell x c e
  obtain ⟨m, ⟨o', es, ep, ho', hd', _⟩, _⟩ := I.loc
  rw [z, ho'] at ho; cases ho; rw [hd'] at hd; cases hd
theorem Inv.funs (I : Inv X pins σ H s) : s.heap.FunFrames X.base X.outer := by
  have all : ∀ (l : List Env), (∀ b ∈ frs l, b ∈ X.fs) → X.s₀.heap.FunFrames X.base l → s.heap.FunFrames X.base l := by
    intro l
    induction l with
    | nil => intro _ _; trivial
    | cons env r ih =>
      intro hs hl
      obtain ⟨hk, ⟨L, o, hf, hn, ho, hd⟩, hr⟩ := hl
      have hL : L ∈ X.fs := hs L (by unfold frs; rw [List.filterMap_cons, hf]; exact List.mem_cons_self)
      obtain ⟨sl, e⟩ := I.base.slot L o ho (I.ok.frf L hL) hL fun z => I.ok.exfs L z hL
      exact ⟨hk, ⟨L, _, hf, hn, e, hd⟩, ih (fun b hb => hs b (by unfold frs; rw [List.filterMap_cons, hf]; exact List.mem_cons_of_mem _ hb)) hr⟩
  exact all X.outer (fun _ hb => hb) I.ok.funs

theorem Inv.stack (I : Inv X pins σ H s) : s.heap.FunFrames X.base X.stack := by
  rcases I.ok.stk with e | ⟨e, hf⟩
  · rw [e]; exact I.funs
  · rw [e]
    obtain ⟨m, hn, _⟩ := I.loc
    refine .cons (by rw [I.ok.kind]; decide) hf hn ?_ I.funs
    exact Heap.get?_none_of_le (Nat.le_trans I.ok.bsz I.ok.above)
theorem Inv.stkSub (I : Inv X pins σ H s) : ∀ b ∈ frs X.stack, b ∈ X.env.locals :: X.fs := fun b hb => by
  rcases I.ok.stk with e | ⟨e, hf⟩
  · rw [e] at hb; exact List.mem_cons_of_mem _ hb
  · rw [e] at hb
    unfold frs at hb
    rw [List.filterMap_cons, hf] at hb
    exact hb
theorem Inv.stkFree (I : Inv X pins σ H s) : ∀ b ∈ frs X.stack, H b = none := fun b hb => by
  rcases List.mem_cons.mp (I.stkSub b hb) with e | hb
  · rw [e]; exact I.free
  · obtain ⟨_, o, ho, _⟩ := I.ok.funs.mem hb
    exact I.base.free b o ho (I.ok.frf b hb) fun z => I.ok.exfs b z hb

theorem Inv.step {g' : Array GenState} {t' : Nat} {d' : Drawn} {ch : List Addr} (I : Inv X pins σ H s)
    (hch : ∀ b ∈ ch, (b ∈ X.ex ∨ X.s₀.heap.objs.size ≤ b) ∧ b ≠ X.env.locals ∧ (∀ x c, X.env.cells.lookup x = some c → c ≠ b) ∧ ∀ p ∈ X.pn ++ pins, p.1 ≠ b)
    (keep : ∀ b o, b ≠ X.env.locals → b ∉ X.fs → b ∉ ch → s.heap.get? b = some o → H b = none → h'.get? b = some o)
    (slot : ∀ b o, b ≠ X.env.locals → b ∈ X.fs → b ∉ ch → s.heap.get? b = some o → H b = none → ∃ sl, h'.get? b = some { o with slots := sl }) (free : ∀ b o, b ∉ ch → s.heap.get? b = some o → H b = none → H' b = none)
    (there : ∀ b o, b ∉ ch → s.heap.get? b = some o → ∃ o', h'.get? b = some o')
    (tups : ∀ b xs, H b = some (.tup xs) → H' b = some (.tup xs)) (frzs : ∀ b o u, H b = some (.frz o u) → H' b = some (.frz o u)) (tbls : ∀ b ps, H b = some (.tbl ps) → ∃ more, H' b = some (.tbl (ps ++ more)))
    (ns : ∀ m, s.heap.Ns X.env.locals m → h'.Ns X.env.locals m) (hok : HOk X.prog X.w H' h') (hg : AllBare g') :
    Inv X pins σ H' { s with heap := h', gens := g', drawn := d', toks := t' } := by
  have neL : ∀ b o, X.s₀.heap.get? b = some o → b ≠ X.env.locals := fun b o e => Nat.ne_of_lt (Nat.lt_of_lt_of_le (Heap.lt_size e) I.ok.above)
  have neC : ∀ b o, X.s₀.heap.get? b = some o → b ∉ X.ex → b ∉ ch := fun b o e hx hb => by
    rcases (hch b hb).1 with z | z
    · exact hx z
    · exact absurd (Nat.lt_of_lt_of_le (Heap.lt_size e) z) (Nat.lt_irrefl _)
  have cellK : ∀ x c, X.env.cells.lookup x = some c → ∀ v, s.heap.IsCell c v → h'.IsCell c v := fun x c e v ⟨o, ho, hd⟩ => by
    have nch : c ∉ ch := fun z => (hch c z).2.2.1 x c e rfl
    by_cases hc : c ∈ X.fs
    · obtain ⟨sl, q⟩ := slot c o (I.cne x c e) hc nch ho (I.freeC x c e)
      exact ⟨_, q, hd⟩
    · exact ⟨o, keep c o (I.cne x c e) hc nch ho (I.freeC x c e), hd⟩
  refine ⟨I.ok, I.os, hg, ⟨fun b o e n hb hx => ?_, fun b o e n hb hx => ?_, fun b o e n hx => ?_, fun b o e hx => ?_, fun b xs e => tups b xs (I.base.tups b xs e), fun b o xs e => frzs b o xs (I.base.frzs b o xs e), fun b ps e => ?_⟩, ?_, fun x c e => ?_, ?_, fun x c e => ?_, fun p hp => ?_, hok, I.len⟩
  · exact keep b o (neL b o e) hb (neC b o e hx) (I.base.keep b o e n hb hx) (I.base.free b o e n hx)
  · obtain ⟨sl, e1⟩ := I.base.slot b o e n hb hx
    obtain ⟨sl', e2⟩ := slot b _ (neL b o e) hb (neC b o e hx) e1 (I.base.free b o e n hx)
    exact ⟨sl', e2⟩
  · obtain ⟨o', e1⟩ := I.base.there b o e hx
    exact free b o' (neC b o e hx) e1 (I.base.free b o e n hx)
  · obtain ⟨o', e1⟩ := I.base.there b o e hx
    exact there b o' (neC b o e hx) e1
  · obtain ⟨m1, e1⟩ := I.base.tbls b ps e
    obtain ⟨m2, e2⟩ := tbls b _ e1
    exact ⟨m1 ++ m2, by rw [e2, Array.append_assoc]⟩
  · obtain ⟨m, hn, hl⟩ := I.loc
    refine ⟨m, ns m hn, fun i x v e1 e2 e3 => ?_⟩
    obtain ⟨u, r, l⟩ := hl i x v e1 e2 e3
    refine ⟨u, r, ?_⟩
    rcases l with l | ⟨k, c, e, z⟩
    · exact .inl l
    · exact .inr ⟨k, c, e, cellK x c e _ z⟩
  · obtain ⟨v, z⟩ := I.cell x c e
    exact ⟨v, cellK x c e v z⟩
  · obtain ⟨m, ⟨o, _, _, ho, _⟩, _⟩ := I.loc
    exact free _ o (fun z => (hch _ z).2.1 rfl) ho I.free
  · obtain ⟨v, o, ho, hd⟩ := I.cell x c e
    exact free c o (fun z => (hch c z).2.2.1 x c e rfl) ho (I.freeC x c e)
  · obtain ⟨e, n, ne, nf, d⟩ := I.pin p hp
    have nch : p.1 ∉ ch := fun z => (hch p.1 z).2.2.2 p hp rfl
    exact ⟨keep p.1 p.2 ne nf nch e n, free p.1 p.2 nch e n, ne, nf, d⟩
theorem Inv.un {t' : Nat} (I : Inv X pins σ H s) (u : Un X.fs [] H H' s.heap h') (hok : HOk X.prog X.w H' h') : Inv X pins σ H' { s with heap := h', toks := t' } := by
  obtain ⟨m, ⟨o, es, ep, ho, r⟩, _⟩ := id I.loc
  obtain ⟨sl, hL⟩ := u.any ho I.free (by simp)
  exact I.step (g' := s.gens) (d' := s.drawn) (ch := []) (fun _ z => nomatch z) (fun b o _ hb _ e n => u.keep b o e n hb (by simp)) (fun b o _ hb _ e n => u.slot b o e n hb (by simp)) (fun b o _ e n => u.free b o e n (by simp)) (fun b o _ e => u.there b o e (by simp)) u.tups u.frzs u.tbls (fun m' hm => by
    obtain ⟨o', es', ep', ho', r'⟩ := hm
    rw [ho] at ho'; cases ho'
    exact ⟨_, es', ep', hL, r'⟩) hok I.bare
theorem Inv.call {g' : Array GenState} {t' : Nat} {d' : Drawn} {ch : List Addr} (I : Inv X pins σ H s) (u : Un (frs X.stack) ch H H' s.heap h') (hok : HOk X.prog X.w H' h') (hg : AllBare g')
    (hch : ∀ b ∈ ch, (b ∈ X.ex ∨ X.s₀.heap.objs.size ≤ b) ∧ b ≠ X.env.locals ∧ (∀ x c, X.env.cells.lookup x = some c → c ≠ b) ∧ ∀ p ∈ X.pn ++ pins, p.1 ≠ b) :
    Inv X pins σ H' { s with heap := h', gens := g', drawn := d', toks := t' } := by
  obtain ⟨m, ⟨o, es, ep, ho, r⟩, _⟩ := id I.loc
  obtain ⟨sl, hL⟩ := u.any ho I.free fun z => (hch _ z).2.1 rfl
  exact I.step (ch := ch) hch (fun b o hL hb hc e n => u.keep b o e n (fun z => (List.mem_cons.mp (I.stkSub b z)).elim hL hb) hc) (fun b o _ _ hc e n => u.any e n hc) (fun b o hc e n => u.free b o e n hc) (fun b o hc e => u.there b o e hc) u.tups u.frzs u.tbls (fun m' hm => by
    obtain ⟨o', es', ep', ho', r'⟩ := hm
    rw [ho] at ho'; cases ho'
    exact ⟨_, es', ep', hL, r'⟩) hok hg
theorem Inv.turned {t' : Nat} {it : Addr} (I : Inv X pins σ H s) (k : ∀ b o, b ≠ it → s.heap.get? b = some o → h'.get? b = some o) (hn : H it = none) (hL : it ≠ X.env.locals)
    (h1 : it ∈ X.ex ∨ X.s₀.heap.objs.size ≤ it) (h2 : ∀ x c, X.env.cells.lookup x = some c → c ≠ it) (h3 : ∀ p ∈ X.pn ++ pins, p.1 ≠ it) : Inv X pins σ H { s with heap := h', toks := t' } := by
  have nit : ∀ b u, H b = some u → b ≠ it := fun b u e z => by rw [z, hn] at e; cases e
  refine I.step (g' := s.gens) (d' := s.drawn) (ch := [it]) (fun b hb => ?_) (fun b o _ _ hc e _ => k b o (fun z => hc (by simp [z])) e) (fun b o _ _ hc e _ => ⟨o.slots, k b o (fun z => hc (by simp [z])) e⟩) (fun _ _ _ _ n => n)
    (fun b o hc e => ⟨o, k b o (fun z => hc (by simp [z])) e⟩) (fun _ _ e => e) (fun _ _ _ e => e) (fun b ps e => ⟨#[], by rw [e]; simp⟩) (fun m hm => ?_) (fun b u e => ?_) I.bare
  · have e : b = it := by simpa using hb
    subst e
    exact ⟨h1, hL, h2, h3⟩
  · obtain ⟨o, es, ep, ho, r⟩ := hm
    exact ⟨o, es, ep, k _ o (Ne.symm hL) ho, r⟩
  · refine (I.hok b u e).stay (fun c v hc q => k c v ?_ q) (fun _ q => q) fun _ _ q => q
    rcases hc with z | z
    · rw [z]; exact nit b u e
    · exact nit c _ z
theorem Inv.tok (I : Inv X pins σ H s) (t : Nat) : Inv X pins σ H { s with toks := t } := I.un (h' := s.heap) (t' := t) Un.refl I.hok
theorem Inv.kept {t' : Nat} (I : Inv X pins σ H s) (k : ∀ b u, s.heap.get? b = some u → h'.get? b = some u) : Inv X pins σ H { s with heap := h', toks := t' } := I.un (Un.kept k) (I.hok.kept k)
theorem Inv.laid {a : Addr} {o : HO} {t' : Nat} (I : Inv X pins σ H s) (k : ∀ b u, s.heap.get? b = some u → h'.get? b = some u) (hp : s.heap.objs.size ≤ a) (new : ObjOk X.prog X.w (upd H a o) h' a o) :
    Inv X pins σ (upd H a o) { s with heap := h', toks := t' } := I.un (Un.laid k hp (I.hok.fresh hp)) (I.hok.laid k hp new)
theorem Inv.write {x e : Addr} {o : HO} {t' : Nat} (I : Inv X pins σ H s) (mu : Mut (H x)) (he : e = x ∨ H e = some (.own x)) (k : ∀ b u, b ≠ e → s.heap.get? b = some u → h'.get? b = some u) (heo : ∃ u, h'.get? e = some u)
    (new : ObjOk X.prog X.w (upd H x o) h' x o) : Inv X pins σ (upd H x o) { s with heap := h', toks := t' } := I.un (Un.write mu he k heo) (I.hok.write mu he k heo new)
theorem Inv.pins_of {pins' : List (Addr × Obj)} (I : Inv X pins σ H s) (h : ∀ p ∈ pins', s.heap.get? p.1 = some p.2 ∧ H p.1 = none ∧ p.1 ≠ X.env.locals ∧ p.1 ∉ X.fs ∧ ∀ v, p.2.data ≠ .cell v) : Inv X pins' σ H s :=
  ⟨I.ok, I.os, I.bare, I.base, I.loc, I.cell, I.free, I.freeC, fun p hp => (List.mem_append.mp hp).elim (fun z => I.pin p (List.mem_append_left _ z)) (h p), I.hok, I.len⟩

theorem nodup_ix {N : List Str} (hN : N.Nodup) {i j : Nat} {x : Str} (a : N[i]? = some x) (b : N[j]? = some x) : i = j := by
  obtain ⟨h1, e1⟩ := List.getElem?_eq_some_iff.mp a
  obtain ⟨h2, e2⟩ := List.getElem?_eq_some_iff.mp b
  exact (List.getElem_inj hN).mp (e1.trans e2.symm)

theorem store_ok2 {M : Model} {A : Around} {E : Value → Shared → Prop} {i : Nat} {x : Str} {v : V} {u : Value} {Q : Unit → Shared → Prop} (I : Inv X pins σ H s) (hN : X.N.Nodup) (hi : X.N[i]? = some x) (hx : Loc X.env.scope x) (r : RelV v u)
    (h : ∀ s', Inv X pins (σ.set i (some v)) H s' → (∃ a, Heap.SameBut a s.heap s'.heap ∧ (a = X.env.locals ∨ X.env.cells.lookup x = some a)) → Q () s') (hf : X.fn x = true ∨ X.env.scope.names.lookup x = some .local := by first | exact .inl rfl | exact .inr rfl | assumption) : wpAny M A (storeName X.env x u) Q E s := by
  obtain ⟨m, hn, hl⟩ := id I.loc
  have hcls : (X.env.scope.kind == .class || (X.env.scope.kind == .module && X.env.locals != X.env.globals)) = false := by rw [I.ok.kind]; rfl
  have hiσ : i < σ.length := by rw [I.len]; exact (List.getElem?_eq_some_iff.mp hi).1
  have cne := I.cne
  have tracked : ∀ {a : Addr} {h' : Heap}, (∃ o, s.heap.get? a = some o ∧ H a = none) → Heap.SameBut a s.heap h' → HOk X.prog X.w H h' := fun {a h'} ha hs b ob e => by
    obtain ⟨_, _, hfree⟩ := ha
    refine (I.hok b ob e).stay (fun c w' hc q => (hs.2 c ?_).trans q) (fun _ q => q) fun _ _ q => q
    rintro rfl
    rcases hc with rfl | hc
    · rw [hfree] at e; cases e
    · rw [hfree] at hc; cases hc
  rcases hx with hk | hk
  · refine wpAny_storeName_local hk hn (fun h' hn' hs => ?_) hcls
    obtain ⟨oL, _, _, hoL, _⟩ := id hn
    refine h _ ⟨I.ok, I.os, I.bare, ⟨fun b o e n hb hx => ?_, fun b o e n hb hx => ?_, I.base.free, fun b o e hx => ?_, I.base.tups, I.base.frzs, I.base.tbls⟩, ⟨_, hn', fun j y v' e1 e2 e3 => ?_⟩, fun y c e => ?_, I.free, I.freeC, fun p hp => ?_, tracked ⟨oL, hoL, I.free⟩ hs, by simpa using I.len⟩ ⟨_, hs, .inl rfl⟩
    · exact (hs.2 b (Nat.ne_of_lt (Nat.lt_of_lt_of_le (Heap.lt_size e) I.ok.above))).trans (I.base.keep b o e n hb hx)
    · obtain ⟨sl, e1⟩ := I.base.slot b o e n hb hx
      exact ⟨sl, (hs.2 b (Nat.ne_of_lt (Nat.lt_of_lt_of_le (Heap.lt_size e) I.ok.above))).trans e1⟩
    · obtain ⟨o', e1⟩ := I.base.there b o e hx
      exact ⟨o', (hs.2 b (Nat.ne_of_lt (Nat.lt_of_lt_of_le (Heap.lt_size e) I.ok.above))).trans e1⟩
    · by_cases hj : j = i
      · subst hj
        rw [hi] at e1; cases e1
        rw [List.getElem?_set_self hiσ] at e2
        cases e2
        exact ⟨u, r, .inl ⟨hk, by simp⟩⟩
      · rw [List.getElem?_set_ne (Ne.symm hj)] at e2
        obtain ⟨u', r', q⟩ := hl j y v' e1 e2 e3
        refine ⟨u', r', ?_⟩
        rcases q with ⟨k, e⟩ | ⟨k, c, e, z⟩
        · refine .inl ⟨k, ?_⟩
          have : y ≠ x := fun e => hj (nodup_ix hN e1 (e ▸ hi))
          simp [this, e]
        · exact .inr ⟨k, c, e, z.sameBut hs (cne y c e)⟩
    · obtain ⟨w', z⟩ := I.cell y c e
      exact ⟨w', z.sameBut hs (cne y c e)⟩
    · obtain ⟨e, n, ne, nf, d⟩ := I.pin p hp
      exact ⟨(hs.2 p.1 ne).trans e, n, ne, nf, d⟩
  · have hfn : X.fn x = true := by
      rcases hf with z | z
      · exact z
      · rw [z] at hk; cases hk
    obtain ⟨c, hc⟩ := I.ok.has x (.inl hk)
    obtain ⟨w', z⟩ := I.cell x c hc
    refine wpAny_storeName_cell I.ok.kind hk hc z (fun h' hc' hs => ?_)
    obtain ⟨oc, hoc, hocd⟩ := id z
    refine h { s with heap := h' } ⟨I.ok, I.os, I.bare, ⟨fun b o e n hb hx => ?_, fun b o e n hb hx => ?_, I.base.free, fun b o e hx => ?_, I.base.tups, I.base.frzs, I.base.tbls⟩, ⟨m, hn.sameBut hs (Ne.symm (cne x c hc)), fun j y v' e1 e2 e3 => ?_⟩, fun y c' e => ?_, I.free, I.freeC, fun p hp => ?_, tracked ⟨oc, hoc, I.freeC x c hc⟩ hs, by simpa using I.len⟩ ⟨c, hs, .inr hc⟩
    · exact (hs.2 b (Nat.ne_of_lt (Nat.lt_of_lt_of_le (Heap.lt_size e) (I.ok.cab x c hfn hc)))).trans (I.base.keep b o e n hb hx)
    · obtain ⟨sl, e1⟩ := I.base.slot b o e n hb hx
      exact ⟨sl, (hs.2 b (Nat.ne_of_lt (Nat.lt_of_lt_of_le (Heap.lt_size e) (I.ok.cab x c hfn hc)))).trans e1⟩
    · obtain ⟨o', e1⟩ := I.base.there b o e hx
      exact ⟨o', (hs.2 b (Nat.ne_of_lt (Nat.lt_of_lt_of_le (Heap.lt_size e) (I.ok.cab x c hfn hc)))).trans e1⟩
    · by_cases hj : j = i
      · subst hj
        rw [hi] at e1; cases e1
        rw [List.getElem?_set_self hiσ] at e2
        cases e2
        exact ⟨u, r, .inr ⟨.inl hk, c, hc, hc'⟩⟩
      · rw [List.getElem?_set_ne (Ne.symm hj)] at e2
        obtain ⟨u', r', q⟩ := hl j y v' e1 e2 e3
        refine ⟨u', r', ?_⟩
        rcases q with q | ⟨k, c', e, z'⟩
        · exact .inl q
        · refine .inr ⟨k, c', e, z'.sameBut hs ?_⟩
          rintro rfl
          exact hj (nodup_ix hN e1 (I.ok.inj _ _ _ e hc ▸ hi))
    · by_cases hcc : c' = c
      · subst hcc; exact ⟨_, hc'⟩
      · obtain ⟨w2, z2⟩ := I.cell y c' e
        exact ⟨w2, z2.sameBut hs hcc⟩
    · obtain ⟨e, n, ne, nf, d⟩ := I.pin p hp
      refine ⟨(hs.2 p.1 ?_).trans e, n, ne, nf, d⟩
      intro q
      rw [q, hoc] at e
      have q' : oc = p.2 := Option.some.inj e
      exact d w' (by rw [← q']; exact hocd)
theorem store_ok {M : Model} {A : Around} {E : Value → Shared → Prop} {i : Nat} {x : Str} {v : V} {u : Value} {Q : Unit → Shared → Prop} (I : Inv X pins σ H s) (hN : X.N.Nodup) (hi : X.N[i]? = some x) (hx : Loc X.env.scope x) (r : RelV v u)
    (h : ∀ s', Inv X pins (σ.set i (some v)) H s' → Q () s') (hf : X.fn x = true ∨ X.env.scope.names.lookup x = some .local := by first | exact .inl rfl | exact .inr rfl | assumption) : wpAny M A (storeName X.env x u) Q E s :=
  store_ok2 I hN hi hx r (fun s' I' _ => h s' I') hf
theorem Inv.call' {s' : Shared} {ch : List Addr} (I : Inv X pins σ H s) (ho : s'.os = s.os) (u : Un (frs X.stack) ch H H' s.heap s'.heap) (hok : HOk X.prog X.w H' s'.heap) (hg : AllBare s'.gens)
    (hch : ∀ b ∈ ch, (b ∈ X.ex ∨ X.s₀.heap.objs.size ≤ b) ∧ b ≠ X.env.locals ∧ (∀ x c, X.env.cells.lookup x = some c → c ≠ b) ∧ ∀ p ∈ X.pn ++ pins, p.1 ≠ b) : Inv X pins σ H' s' := by
  obtain ⟨h', g', d', t', o'⟩ := s'
  have e : o' = s.os := ho
  subst e
  exact I.call (g' := g') (t' := t') (d' := d') u hok hg hch
end

abbrev XK := Value → Option Addr → Hp → Prop
abbrev St := List (Option V)
abbrev VK := V → Hp → Prop
abbrev TE := St → Hp → VK → Prop
abbrev TT := St → Hp → (Bool → Hp → Prop) → Prop
abbrev TA := St → Hp → (List V → Hp → Prop) → Prop
structure Ends where
  nx : St → Hp → Prop
  rt : VK
  bk : St → Hp → Prop := fun _ _ => False
  ct : St → Hp → Prop := fun _ _ => False
abbrev TS := Ends → St → Hp → Prop

def EP (X : Cx) (pins : List (Addr × Obj)) (σ : St) (Q : VK) (u : Value) (s' : Shared) : Prop := ∃ v H', Inv X pins σ H' s' ∧ RelV v u ∧ Q v H'
def TP (X : Cx) (pins : List (Addr × Obj)) (σ : St) (Q : Bool → Hp → Prop) (b : Bool) (s' : Shared) : Prop := ∃ H', Inv X pins σ H' s' ∧ Q b H'
def AP (X : Cx) (pins : List (Addr × Obj)) (σ : St) (Q : List V → Hp → Prop) (us : List Value) (s' : Shared) : Prop := ∃ vs H', Inv X pins σ H' s' ∧ Vals vs us ∧ Q vs H'
def SP (X : Cx) (pins : List (Addr × Obj)) (D : Ends) (f : Flow) (s' : Shared) : Prop :=
  match f with
  | .next => ∃ σ' H', Inv X pins σ' H' s' ∧ D.nx σ' H'
  | .brk => ∃ σ' H', Inv X pins σ' H' s' ∧ D.bk σ' H'
  | .cont => ∃ σ' H', Inv X pins σ' H' s' ∧ D.ct σ' H'
  | .ret u => ∃ v σ' H', Inv X pins σ' H' s' ∧ RelV v u ∧ D.rt v H'

def PE (X : Cx) (e : Expr) (t : TE) : Prop :=
  ∀ (pins : List (Addr × Obj)) (s : Shared) (σ : St) (H : Hp) (Q : VK), Inv X pins σ H s → t σ H Q → wpAny (model X.prog X.w) X.A (eval e X.env) (EP X pins σ Q) X.xe s
def PT (X : Cx) (e : Expr) (t : TT) : Prop :=
  ∀ (pins : List (Addr × Obj)) (s : Shared) (σ : St) (H : Hp) (Q : Bool → Hp → Prop), Inv X pins σ H s → t σ H Q → wpAny (model X.prog X.w) X.A (isTrue e X.env (eval e X.env)) (TP X pins σ Q) X.xe s
def PW (X : Cx) (e : Expr) (t : TT) : Prop :=
  ∀ (whole : Sem Value) (pins : List (Addr × Obj)) (s : Shared) (σ : St) (H : Hp) (Q : Bool → Hp → Prop), Inv X pins σ H s → t σ H Q → wpAny (model X.prog X.w) X.A (isTrue e X.env whole) (TP X pins σ Q) X.xe s
theorem PW.pt {X : Cx} {e : Expr} {t : TT} (h : PW X e t) : PT X e t := h _
def PA (X : Cx) (es : List Expr) (t : TA) : Prop :=
  ∀ (pos : Pos) (pins : List (Addr × Obj)) (s : Shared) (σ : St) (H : Hp) (Q : List V → Hp → Prop), Inv X pins σ H s → t σ H Q → wpAny (model X.prog X.w) X.A (spliced (backTo pos (starEach es X.env))) (AP X pins σ Q) X.xe s
def PS (X : Cx) (st : Stmt) (t : TS) : Prop :=
  ∀ (pins : List (Addr × Obj)) (s : Shared) (σ : St) (H : Hp) (D : Ends), Inv X pins σ H s → t D σ H → wpAny (model X.prog X.w) X.A (exec st X.env) (SP X pins D) X.xe s
def PSs (X : Cx) (st : List Stmt) (t : TS) : Prop :=
  ∀ (pins : List (Addr × Obj)) (s : Shared) (σ : St) (H : Hp) (D : Ends), Inv X pins σ H s → t D σ H → wpAny (model X.prog X.w) X.A (execs st X.env) (SP X pins D) X.xe s
theorem thn {α : Type} {t : Sem α} {Q Q' : α → Shared → Prop} {M : Model} {A : Around} {E : Value → Shared → Prop} {s : Shared} (h : wpAny M A t Q E s) (hQ : ∀ a s, Q a s → Q' a s) : wpAny M A t Q' E s := wpAny_mono h hQ fun _ _ x => x
end L2

namespace L2
open PySem PySem.Spec PyProof.Rows
section
variable {X : Cx}

def tVar (i : Nat) : TE := fun σ H Q => ∃ v, σ[i]? = some (some v) ∧ Q v H
def tC (v : V) : TE := fun _ H Q => Q v H
theorem pe_var {i : Nat} {x : Str} {pos : Pos} (hN : X.N[i]? = some x) (hv : Vis X.env.scope x) (hd : (x == ("__debug__" : Str)) = false := by decide) (hcd : (x == ("__classdict__" : Str)) = false := by decide) : PE X (.Name x pos) (tVar i) := by
  intro pins s σ H Q I h
  obtain ⟨v, e, h⟩ := h
  obtain ⟨m, hn, hl⟩ := I.loc
  obtain ⟨u, r, l⟩ := hl i x v hN e hv
  have fin : EP X pins σ Q u s := ⟨v, H, I, r, h⟩
  rcases l with ⟨hk, hm⟩ | ⟨hk, c, hc, hcell⟩
  · exact wpAny_Name (wpAny_loadName_local I.ok.kind hk hn hm fin) hd
  · rcases hk with hk | hk
    · exact wpAny_Name (wpAny_loadName_cell I.ok.kind hk hc hcell fin) hd
    · exact wpAny_Name (wpAny_loadName_free I.ok.kind hk hc hcell fin hcd) hd
theorem pe_int {i j pos} : PE X (.Constant (.int i) j pos) (tC (.int i)) := fun _ _ _ H _ I h => wpAny_Constant_int ⟨.int i, H, I.tok _, ⟨_, rfl⟩, h⟩
theorem pe_bl {b j pos} : PE X (.Constant (.bool b) j pos) (tC (.bl b)) := fun _ _ _ H _ I h => Constant_bool ⟨.bl b, H, I, rfl, h⟩
theorem pe_non {j pos} : PE X (.Constant .none j pos) (tC .non) := fun _ _ _ H _ I h => Constant_none ⟨.non, H, I, rfl, h⟩
theorem pe_str {x j pos} : PE X (.Constant (.str x) j pos) (tC (.str x)) := fun _ _ _ H _ I h => Calls.Constant_str ⟨.str x, H, I.tok _, ⟨_, rfl⟩, h⟩

def Gl (X : Cx) (x : Str) : Prop := X.env.kindOf x = some .globalImplicit
theorem ld_glob {E : Value → Shared → Prop} {pins : List (Addr × Obj)} {s : Shared} {σ : St} {H : Hp} {x : Str} {u : Value} {pos : Pos} {Q : Value → Shared → Prop} (I : Inv X pins σ H s) (hg : Gl X x) (hm : X.mg x = some u) (h : Q u s)
    (hd : (x == ("__debug__" : Str)) = false := by decide) : wpAny (model X.prog X.w) X.A (eval (.Name x pos) X.env) Q E s :=
  Calls.Name_function_global I.ok.kind hg (Calls.loadGlobal_global (by rw [I.ok.glob]; exact I.mod.glob.keeps I.bk) hm h) hd
theorem ld_blt {E : Value → Shared → Prop} {pins : List (Addr × Obj)} {s : Shared} {σ : St} {H : Hp} {x : Str} {u : Value} {pos : Pos} {Q : Value → Shared → Prop} (I : Inv X pins σ H s) (hg : Gl X x) (hm : X.mg x = none) (hv : bootBuiltins x = some u) (h : Q u s)
    (hn : x ≠ "__name__" := by decide) (hd : (x == ("__debug__" : Str)) = false := by decide) : wpAny (model X.prog X.w) X.A (eval (.Name x pos) X.env) Q E s := by
  obtain ⟨mb, h1, h2⟩ := I.mod.blt
  exact Calls.Name_function_global I.ok.kind hg (Calls.loadGlobal_builtin (by rw [I.ok.glob]; exact I.mod.glob.keeps I.bk) hm (by rw [I.ok.blt]; exact h1.keeps I.bk) ((h2 x hn).trans hv) h) hd
theorem pe_glob {x : Str} {v : V} {u : Value} {pos : Pos} (hg : Gl X x) (hm : X.mg x = some u) (r : RelV v u) (hd : (x == ("__debug__" : Str)) = false := by decide) : PE X (.Name x pos) (tC v) :=
  fun _ _ _ H _ I h => ld_glob I hg hm ⟨v, H, I, r, h⟩ hd
theorem pe_bltn {x : Str} {v : V} {u : Value} {pos : Pos} (hg : Gl X x) (hm : X.mg x = none) (hv : bootBuiltins x = some u) (r : RelV v u) (hn : x ≠ "__name__" := by decide) (hd : (x == ("__debug__" : Str)) = false := by decide) : PE X (.Name x pos) (tC v) :=
  fun _ _ _ H _ I h => ld_blt I hg hm hv ⟨v, H, I, r, h⟩ hn hd

variable {a b : Expr} {ta tb : TE} {pos : Pos}
variable {tA tB' : TT} {rest : List Expr}
def tOr (t u : TT) : TT := fun σ H Q => t σ H fun c H1 => if c = true then Q true H1 else u σ H1 Q
def tNot (t : TT) : TT := fun σ H Q => t σ H fun c H1 => Q (!c) H1
theorem pw_or1 (ha : PT X a tA) : PW X (.BoolOp .Or [a] pos) tA := by
  intro wh pins s σ H Q I h
  refine isTrue_or (thn (ha pins s σ H Q I h) fun c s1 e => ?_)
  cases c with
  | false => exact isTrue_or_nil e
  | true => exact e
theorem pw_or (ha : PT X a tA) (hb : PW X (.BoolOp .Or (b :: rest) pos) tB') : PW X (.BoolOp .Or (a :: b :: rest) pos) (tOr tA tB') := by
  intro wh pins s σ H Q I h
  refine isTrue_or (thn (ha pins s σ H _ I h) fun c s1 ⟨H1, I1, q1⟩ => ?_)
  cases c with
  | true => exact ⟨H1, I1, q1⟩
  | false => exact hb wh pins s1 σ H1 Q I1 q1
theorem pt_not (ha : PT X a tA) : PT X (.UnaryOp .Not a pos) (tNot tA) := by
  intro pins s σ H Q I h
  exact isTrue_not (ha pins s σ H (fun c H1 => Q (!c) H1) I h)
def tAndV (ta tb : TE) : TE := fun σ H Q => ta σ H fun x H1 => ∃ c, x = .bl c ∧ if c = true then tb σ H1 Q else Q (.bl false) H1
def tOrV (ta tb : TE) : TE := fun σ H Q => ta σ H fun x H1 => ∃ c, x = .bl c ∧ if c = true then Q (.bl true) H1 else tb σ H1 Q
def tNotV (ta : TE) : TE := fun σ H Q => ta σ H fun x H1 => ∃ c, x = .bl c ∧ Q (.bl (!c)) H1
theorem pe_one {op} {t : TE} (h : PE X a t) : PE X (.BoolOp op [a] pos) t := fun pins s σ H Q I hw => BoolOp_one (h pins s σ H Q I hw)
theorem pe_and (ha : PE X a ta) (hb : PE X (.BoolOp .And (b :: rest) pos) tb) : PE X (.BoolOp .And (a :: b :: rest) pos) (tAndV ta tb) := by
  intro pins s σ H Q I h
  refine BoolOp_and (thn (ha pins s σ H _ I h) fun v s1 ⟨x, H1, I1, r1, q1⟩ => ?_)
  obtain ⟨c, rfl, q1⟩ := q1
  cases r1
  refine wpAny_truthy_bool ?_
  cases c with
  | true => exact hb pins s1 σ H1 Q I1 q1
  | false => exact ⟨.bl false, H1, I1, rfl, q1⟩
theorem pe_or (ha : PE X a ta) (hb : PE X (.BoolOp .Or (b :: rest) pos) tb) : PE X (.BoolOp .Or (a :: b :: rest) pos) (tOrV ta tb) := by
  intro pins s σ H Q I h
  refine BoolOp_or (thn (ha pins s σ H _ I h) fun v s1 ⟨x, H1, I1, r1, q1⟩ => ?_)
  obtain ⟨c, rfl, q1⟩ := q1
  cases r1
  refine wpAny_truthy_bool ?_
  cases c with
  | false => exact hb pins s1 σ H1 Q I1 q1
  | true => exact ⟨.bl true, H1, I1, rfl, q1⟩
theorem pe_not (ha : PE X a ta) : PE X (.UnaryOp .Not a pos) (tNotV ta) := by
  intro pins s σ H Q I h
  refine UnaryOp_ (thn (ha pins s σ H _ I h) fun v s1 ⟨x, H1, I1, r1, q1⟩ => ?_)
  obtain ⟨c, rfl, q1⟩ := q1
  cases r1
  exact not_of (wpAny_truthy_bool ⟨.bl (!c), H1, I1, rfl, q1⟩)
def tIf (t : TT) (ta tb : TE) : TE := fun σ H Q => t σ H fun c H1 => if c = true then ta σ H1 Q else tb σ H1 Q
theorem pe_ifExp {c : Expr} (hc : PT X c tA) (ha : PE X a ta) (hb : PE X b tb) : PE X (.IfExp c a b pos) (tIf tA ta tb) := by
  intro pins s σ H Q I h
  refine wpAny_IfExp (thn (hc pins s σ H _ I h) fun d s1 ⟨H1, I1, q1⟩ => ?_)
  cases d with
  | true => exact ha pins s1 σ H1 Q I1 q1
  | false => exact hb pins s1 σ H1 Q I1 q1
end
end L2

namespace L2
open PySem PySem.Spec PyProof.Rows

def SqL (K : PySem.W.Frag) (H : Hp) (a : Addr) (xs : List V) : Prop :=
  Rd H a (.lst xs) ∨
    ∃ (o : Obj) (its : Array Value) (n : Nat), K.lookup a = some o ∧ o.cls = .type "list" ∧ o.dict = none ∧ o.data = .seq its n ∧ its.size ≤ sizeLine ∧ Vals xs its.toList
def SqT (K : PySem.W.Frag) (H : Hp) (a : Addr) (xs : List V) : Prop :=
  Rd H a (.tup xs) ∨
    ∃ (o : Obj) (its : Array Value) (n : Nat), K.lookup a = some o ∧ o.cls = .type "tuple" ∧ o.data = .seq its n ∧ its.size ≤ sizeLine ∧ Vals xs its.toList
def absV : Value → Option V
  | .none => some .non
  | .bool b => some (.bl b)
  | .int i _ => some (.int i)
  | .str x _ => some (.str x)
  | .bytes b _ => some (.byt b)
  | .float b _ => some (.flt b)
  | .ref a => some (.ref a)
  | .type n => some (.ty n)
  | _ => none
theorem RelV.abs {x : V} {u : Value} (r : RelV x u) : absV u = some x := by
  cases x with
  | non => cases r; rfl
  | bl _ => cases r; rfl
  | int _ => obtain ⟨t, rfl⟩ := r; rfl
  | str _ => obtain ⟨t, rfl⟩ := r; rfl
  | byt _ => obtain ⟨t, rfl⟩ := r; rfl
  | flt _ => obtain ⟨t, rfl⟩ := r; rfl
  | ref _ => cases r; rfl
  | ty _ => cases r; rfl
theorem RelV.inj {x y : V} {u : Value} (r : RelV x u) (q : RelV y u) : x = y := Option.some.inj (r.abs.symm.trans q.abs)
theorem Vals.inj : ∀ {xs ys : List V} {us : List Value}, Vals xs us → Vals ys us → xs = ys
  | _, _, _, .nil, .nil => rfl
  | _, _, _, .cons r t, .cons r' t' => by rw [r.inj r', Vals.inj t t']
section
variable {X : Cx} {pins : List (Addr × Obj)} {σ : St} {H : Hp} {s : Shared} {a : Addr} {xs ys : List V}
theorem SqL.of {K : PySem.W.Frag} (h : H a = some (.lst xs)) : SqL K H a xs := .inl (.inl h)
theorem SqT.of {K : PySem.W.Frag} (h : H a = some (.tup xs)) : SqT K H a xs := .inl (.inl h)
theorem Inv.list (I : Inv X pins σ H s) (h : SqL X.K H a xs) : ∃ its : List Value, Vals xs its ∧ PlainL s.heap a its.toArray ∧ xs.length ≤ sizeLine := by
  rcases h with h | ⟨o, its, n, hk, hc, hd, hs, hz, r⟩
  · obtain ⟨z, its, n, r, e⟩ := h.ok I.hok
    exact ⟨its, r, ⟨_, n, e, rfl, rfl, rfl⟩, z⟩
  · refine ⟨its.toList, r, ⟨o, n, I.kIn a o hk, hc, hd, by simpa using hs⟩, ?_⟩
    have e := r.length
    simp only [Array.length_toList] at e
    omega
theorem Inv.tuple (I : Inv X pins σ H s) (h : SqT X.K H a xs) : ∃ its : List Value, Vals xs its ∧ IsTup s.heap a its.toArray ∧ xs.length ≤ sizeLine := by
  rcases h with h | ⟨o, its, n, hk, hc, hs, hz, r⟩
  · obtain ⟨z, its, r, p⟩ := h.ok I.hok
    exact ⟨its, r, p, z⟩
  · refine ⟨its.toList, r, ⟨o, I.kIn a o hk, hc, n, by simpa using hs⟩, ?_⟩
    have e := r.length
    simp only [Array.length_toList] at e
    omega
theorem Inv.list_inj (I : Inv X pins σ H s) (h : SqL X.K H a xs) (h' : SqL X.K H a ys) : xs = ys := by
  obtain ⟨its, r, ⟨o, n, e, _, _, d⟩, _⟩ := I.list h
  obtain ⟨its', r', ⟨o', n', e', _, _, d'⟩, _⟩ := I.list h'
  rw [e] at e'; cases e'
  rw [d] at d'
  injection d' with d1 _
  have : its = its' := by simpa using congrArg Array.toList d1
  subst this
  exact r.inj r'
theorem Inv.tuple_inj (I : Inv X pins σ H s) (h : SqT X.K H a xs) (h' : SqT X.K H a ys) : xs = ys := by
  obtain ⟨its, r, ⟨o, e, _, n, d⟩, _⟩ := I.tuple h
  obtain ⟨its', r', ⟨o', e', _, n', d'⟩, _⟩ := I.tuple h'
  rw [e] at e'; cases e'
  rw [d] at d'
  injection d' with d1 _
  have : its = its' := by simpa using congrArg Array.toList d1
  subst this
  exact r.inj r'
end

abbrev Cx.wish (X : Cx) (E : Value → Shared → Prop) : Cx := { X with xe := E }
abbrev Cx.nox (X : Cx) : Cx := X.wish fun _ _ => False
theorem Cx.Ok.wish {X : Cx} (ok : X.Ok) (E : Value → Shared → Prop) : (X.wish E).Ok :=
  ⟨ok.mod, ok.kind, ok.glob, ok.blt, ok.above, ok.inj, ok.has, ok.cab, ok.hd, ok.frames, ok.stk, ok.exf, ok.bs, ok.bsz, ok.noex, ok.exfs, ok.funs, ok.frf⟩
theorem Cx.Ok.unwish {X : Cx} {E : Value → Shared → Prop} (ok : (X.wish E).Ok) : X.Ok :=
  ⟨ok.mod, ok.kind, ok.glob, ok.blt, ok.above, ok.inj, ok.has, ok.cab, ok.hd, ok.frames, ok.stk, ok.exf, ok.bs, ok.bsz, ok.noex, ok.exfs, ok.funs, ok.frf⟩
section
variable {X : Cx} {pins : List (Addr × Obj)} {σ : St} {H : Hp} {s : Shared} {E : Value → Shared → Prop}
theorem Inv.wish (I : Inv X pins σ H s) (E : Value → Shared → Prop) : Inv (X.wish E) pins σ H s := ⟨I.ok.wish E, I.os, I.bare, I.base, I.loc, I.cell, I.free, I.freeC, I.pin, I.hok, I.len⟩
theorem Inv.unwish (I : Inv (X.wish E) pins σ H s) : Inv X pins σ H s := ⟨I.ok.unwish, I.os, I.bare, I.base, I.loc, I.cell, I.free, I.freeC, I.pin, I.hok, I.len⟩
theorem SP.unwish {D : Ends} {f : Flow} {s' : Shared} (h : SP (X.wish E) pins D f s') : SP X pins D f s' := by
  cases f with
  | next => obtain ⟨σ', H', I, q⟩ := h; exact ⟨σ', H', I.unwish, q⟩
  | brk => obtain ⟨σ', H', I, q⟩ := h; exact ⟨σ', H', I.unwish, q⟩
  | cont => obtain ⟨σ', H', I, q⟩ := h; exact ⟨σ', H', I.unwish, q⟩
  | ret u => obtain ⟨v, σ', H', I, r, q⟩ := h; exact ⟨v, σ', H', I.unwish, r, q⟩
theorem PE.nox {e : Expr} {t : TE} (h : PE X.nox e t) : PE X e t := fun pins s σ H Q I hw =>
  wpAny_mono (h pins s σ H Q (I.wish _) hw) (fun _ _ ⟨v, H', I', r, q⟩ => ⟨v, H', I'.unwish, r, q⟩) fun _ _ z => False.elim z
theorem PT.nox {e : Expr} {t : TT} (h : PT X.nox e t) : PT X e t := fun pins s σ H Q I hw =>
  wpAny_mono (h pins s σ H Q (I.wish _) hw) (fun _ _ ⟨H', I', q⟩ => ⟨H', I'.unwish, q⟩) fun _ _ z => False.elim z
theorem PSs.nox {st : List Stmt} {t : TS} (h : PSs X.nox st t) : PSs X st t := fun pins s σ H D I hw =>
  wpAny_mono (h pins s σ H D (I.wish _) hw) (fun _ _ q => q.unwish) fun _ _ z => False.elim z
end

section
variable {X : Cx} {st : Stmt} {rest : List Stmt} {t u : TS} {e : Expr} {te : TE} {pos : Pos}
def tNext : TS := fun D σ H => D.nx σ H
def tSeq (t u : TS) : TS := fun D σ H => t { D with nx := u D } σ H
theorem pss_nil : PSs X [] tNext := fun _ _ σ H _ I h => wpAny_execs_nil ⟨σ, H, I, h⟩
theorem pss_cons (h1 : PS X st t) (h2 : PSs X rest u) : PSs X (st :: rest) (tSeq t u) := by
  intro pins s σ H D I h
  refine wpAny_execs_cons (thn (h1 pins s σ H { D with nx := u D } I h) fun f s1 q => ?_)
  cases f with
  | next =>
    obtain ⟨σ', H', I', q⟩ := q
    exact h2 pins s1 σ' H' D I' q
  | ret v => exact q
  | brk => exact q
  | cont => exact q
theorem pss_one (h1 : PS X st t) : PSs X [st] t := by
  intro pins s σ H D I h
  refine wpAny_execs_cons (thn (h1 pins s σ H D I h) fun f s1 q => ?_)
  cases f with
  | next => exact wpAny_execs_nil q
  | ret v => exact q
  | brk => exact q
  | cont => exact q
theorem Inv.quiet {pins : List (Addr × Obj)} {σ : St} {H : Hp} {s : Shared} (I : Inv X pins σ H s) : interactive X.env = false := by simp [interactive, I.ok.kind]
def tDrop (te : TE) : TS := fun D σ H => te σ H fun _ H1 => D.nx σ H1
theorem ps_expr (he : PE X e te) (hs : swapsWith e none pos.line X.env = pure false := by rfl) : PS X (.Expr e pos) (tDrop te) := by
  intro pins s σ H D I h
  exact wpAny_Expr_any (thn (he pins s σ H _ I h) fun v s1 ⟨x, H1, I1, r1, q1⟩ => ⟨σ, H1, I1, q1⟩) I.quiet hs
def tRet (te : TE) : TS := fun D σ H => te σ H D.rt
theorem ps_ret (he : PE X e te) : PS X (.Return (some e) pos) (tRet te) := by
  intro pins s σ H D I h
  exact wpAny_Return_some (thn (he pins s σ H _ I h) fun v s1 ⟨x, H1, I1, r1, q1⟩ => ⟨x, σ, H1, I1, r1, q1⟩)
def tIfS (c : TT) (t u : TS) : TS := fun D σ H => c σ H fun b H1 => if b = true then t D σ H1 else u D σ H1
theorem ps_if {c : Expr} {a b : List Stmt} {tc : TT} (hc : PT X c tc) (ha : PSs X a t) (hb : PSs X b u) : PS X (.If c a b pos) (tIfS tc t u) := by
  intro pins s σ H D I h
  refine wpAny_If (thn (hc pins s σ H _ I h) fun d s1 ⟨H1, I1, q1⟩ => ?_)
  cases d with
  | true => exact ha pins s1 σ H1 D I1 q1
  | false => exact hb pins s1 σ H1 D I1 q1
def tNever : TS := fun _ _ _ => False
theorem ps_never : PS X st tNever := fun _ _ _ _ _ _ h => h.elim
theorem pss_never {sts : List Stmt} : PSs X sts tNever := fun _ _ _ _ _ _ h => h.elim
end

abbrev TG := V → St → Hp → (St → Hp → Prop) → Prop
abbrev TGs := List V → St → Hp → (St → Hp → Prop) → Prop
def PG (X : Cx) (target : Expr) (t : TG) : Prop :=
  ∀ (pins : List (Addr × Obj)) (s : Shared) (σ : St) (H : Hp) (v : V) (u : Value) (Q : St → Hp → Prop), Inv X pins σ H s → RelV v u → t v σ H Q →
    wpAny (model X.prog X.w) X.A (assign target X.env u) (fun _ s' => ∃ σ' H', Inv X pins σ' H' s' ∧ Q σ' H') X.xe s
def PGs (X : Cx) (ts : List Expr) (t : TGs) : Prop :=
  ∀ (pins : List (Addr × Obj)) (s : Shared) (σ : St) (H : Hp) (vs : List V) (us : List Value) (Q : St → Hp → Prop), Inv X pins σ H s → Vals vs us → t vs σ H Q →
    wpAny (model X.prog X.w) X.A (assignInOrder ((assignEach ts X.env).map (·.2)) us) (fun _ s' => ∃ σ' H', Inv X pins σ' H' s' ∧ Q σ' H') X.xe s
abbrev TSet := V → V → V → Hp → (Hp → Prop) → Prop
def PSet (X : Cx) (t : TSet) : Prop :=
  ∀ (pins : List (Addr × Obj)) (s : Shared) (σ : St) (H : Hp) (o i v : V) (ov iv u : Value) (Q : Hp → Prop), Inv X pins σ H s → RelV o ov → RelV i iv → RelV v u → t o i v H Q →
    wpAny (model X.prog X.w) X.A (setItem ov iv u) (fun _ s' => ∃ H', Inv X pins σ H' s' ∧ Q H') X.xe s
section
variable {X : Cx} {pos : Pos}
def gName (i : Nat) : TG := fun v σ H Q => Q (σ.set i (some v)) H
theorem pg_name {i : Nat} {x : Str} (hN : X.N.Nodup) (hi : X.N[i]? = some x) (hx : Loc X.env.scope x) (hf : X.fn x = true ∨ X.env.scope.names.lookup x = some .local := by first | exact .inl rfl | exact .inr rfl | assumption) : PG X (.Name x pos) (gName i) := by
  intro pins s σ H v u Q I r h
  exact wpAny_assign_Name (store_ok I hN hi hx r (fun s' I' => ⟨_, H, I', h⟩) hf)
def gNil : TGs := fun vs σ H Q => vs = [] ∧ Q σ H
def gCons (t : TG) (u : TGs) : TGs := fun vs σ H Q => ∃ v r, vs = v :: r ∧ t v σ H fun σ' H' => u r σ' H' Q
theorem pgs_nil : PGs X [] gNil := by
  intro pins s σ H vs us Q I r h
  obtain ⟨e, h⟩ := h
  subst e
  cases r
  exact assignInOrder_nil ⟨σ, H, I, h⟩
theorem pgs_cons {e : Expr} {es : List Expr} {t : TG} {u : TGs} (h1 : PG X e t) (h2 : PGs X es u)
    (hs : (assignEach (e :: es) X.env).map (·.2) = assign e X.env :: (assignEach es X.env).map (·.2) := by rfl) : PGs X (e :: es) (gCons t u) := by
  intro pins s σ H vs us Q I r h
  obtain ⟨v, vr, e1, h⟩ := h
  subst e1
  cases r with
  | cons r rr =>
    rw [hs]
    refine assignInOrder_cons (thn (h1 pins s σ H _ _ _ I r h) fun _ s1 ⟨σ1, H1, I1, q1⟩ => ?_)
    exact h2 pins s1 σ1 H1 _ _ Q I1 rr q1
def gTup (K : PySem.W.Frag) (n : Nat) (t : TGs) : TG := fun v σ H Q => ∃ a xs, v = .ref a ∧ SqT K H a xs ∧ xs.length = n ∧ t xs σ H Q
theorem pg_tup {es : List Expr} {k : Nat} {t : TGs} {n : Nat} (hc : X.calm = true) (h : PGs X es t)
    (hn : (assignEach es X.env).length = n := by rfl) (hst : (assignEach es X.env).findIdx? (·.1) = none := by rfl) : PG X (.Tuple es k pos) (gTup X.K n t) := by
  intro pins s σ H v u Q I r hw
  obtain ⟨a, xs, e1, hq, hl, hw⟩ := hw
  subst e1
  cases r
  obtain ⟨its, rv, ht, hz⟩ := I.tuple hq
  refine assign_Tuple_tuple (I.ok.hd hc) ht (by simp [hn, ← hl, rv.length]) hst fun h' hx => ?_
  have I1 : Inv X pins σ H { s with heap := h' } := I.kept (t' := s.toks) fun b o e => hx b o (Nat.ne_of_lt (Heap.lt_size e)) e
  exact h pins _ σ H xs _ Q I1 (by simpa using rv) hw
def gSub (to ti : TE) (t : TSet) : TG := fun v σ H Q => to σ H fun o H1 => ti σ H1 fun i H2 => t o i v H2 fun H3 => Q σ H3
theorem pg_sub {o i : Expr} {to ti : TE} {t : TSet} (ho : PE X o to) (hi : PE X i ti) (hs : PSet X t)
    (ha : ∀ v, assign (.Subscript o i pos) X.env v = (do
      let ov ← holding [v] (eval o X.env)
      let iv ← holding [v, ov] (eval i X.env)
      standAt pos
      holding [v, ov, iv] (setItem ov iv v)
      release [v, ov, iv] []) := by intro _; rfl) : PG X (.Subscript o i pos) (gSub to ti t) := by
  intro pins s σ H v u Q I r h
  rw [ha]
  refine wpAny_bind (wpAny_holding (thn (ho pins s σ H _ I h) fun ov s1 ⟨x, H1, I1, r1, q1⟩ => ?_))
  refine wpAny_bind (wpAny_holding (thn (hi pins s1 σ H1 _ I1 q1) fun iv s2 ⟨y, H2, I2, r2, q2⟩ => ?_))
  refine wpAny_bind (wpAny_standAt (wpAny_bind (wpAny_holding (thn (hs pins s2 σ H2 x y v ov iv u _ I2 r1 r2 r q2) fun _ s3 ⟨H3, I3, q3⟩ => ?_))))
  exact wpAny_release ⟨σ, H3, I3, q3⟩
def tAsg (te : TE) (g : TG) : TS := fun D σ H => te σ H fun x H1 => g x σ H1 D.nx
theorem ps_asg {tg e : Expr} {te : TE} {g : TG} (he : PE X e te) (hg : PG X tg g) (hs : swapsWithSole [tg] e pos.line X.env = pure false := by rfl) (hw : swappedStores [tg] e X.env = pure none := by rfl)
    (h1 : (assignEach [tg] X.env).map (·.2) = [assign tg X.env] := by rfl) : PS X (.Assign [tg] e pos) (tAsg te g) := by
  intro pins s σ H D I h
  refine wpAny_Assign_stores (thn (he pins s σ H _ I h) fun v s1 ⟨x, H1, I1, r1, q1⟩ => ?_) hs hw
  rw [h1]
  exact thn (hg pins s1 σ H1 x v _ I1 r1 q1) fun _ s2 q => q
theorem ps_set {i : Nat} {x : Str} {e : Expr} {te : TE} {pos' : Pos} (hN : X.N.Nodup) (hi : X.N[i]? = some x) (hx : Loc X.env.scope x) (he : PE X e te) (hs : swapsWith e (some (.Name x pos')) pos.line X.env = pure false := by rfl) (hf : X.fn x = true ∨ X.env.scope.names.lookup x = some .local := by first | exact .inl rfl | exact .inr rfl | assumption) :
    PS X (.Assign [.Name x pos'] e pos) (tAsg te (gName i)) := by
  intro pins s σ H D I h
  refine wpAny_Assign_Name (thn (he pins s σ H _ I h) fun v s1 ⟨y, H1, I1, r1, q1⟩ => ?_) hs
  exact store_ok I1 hN hi hx r1 (fun s2 I2 => ⟨_, H1, I2, q1⟩) hf
def tPar (i j : Nat) (ta : TA) : TS := fun D σ H => ta σ H fun vs H1 => ∃ v w, vs = [v, w] ∧ D.nx ((σ.set i (some v)).set j (some w)) H1
theorem ps_par {i j : Nat} {x y : Str} {a b : Expr} {ta : TA} {px py pt : Pos} {kt k2 pt2} (hc : X.calm = true) (hN : X.N.Nodup) (hi : X.N[i]? = some x) (hj : X.N[j]? = some y) (hij : i ≠ j)
    (hx : X.env.scope.names.lookup x = some .local) (hy : X.env.scope.names.lookup y = some .local) (ha : PA X [a, b] ta)
    (hw : swappedStores [.Tuple [.Name x px, .Name y py] kt pt] (.Tuple [a, b] k2 pt2) X.env = pure (some [x, y]))
    (hs : swapsWithSole [.Tuple [.Name x px, .Name y py] kt pt] (.Tuple [a, b] k2 pt2) pos.line X.env = pure false := by rfl) :
    PS X (.Assign [.Tuple [.Name x px, .Name y py] kt pt] (.Tuple [a, b] k2 pt2) pos) (tPar i j ta) := by
  intro pins s σ H D I h
  rw [exec_Assign_arm]
  refine wpAny_bind (wpAny_standAt ?_)
  rw [hs]
  refine wpAny_bind (wpAny_pure ?_)
  rw [if_neg (by decide)]
  refine wpAny_bind (Tuple_ (thn (ha _ pins s σ H _ I h) fun us s1 ⟨vs, H1, I1, r1, q1⟩ => ?_))
  obtain ⟨v, w, e1, q1⟩ := q1
  subst e1
  obtain ⟨u1, u2, rfl, rv, rw'⟩ : ∃ u1 u2, us = [u1, u2] ∧ RelV v u1 ∧ RelV w u2 := by
    cases r1 with
    | cons p q =>
      cases q with
      | cons p' q' =>
        cases q'
        exact ⟨_, _, rfl, p, p'⟩
  refine wpAny_newObj_type ?_ (by show 2 ≤ sizeLine; decide)
  have I2 : Inv X pins σ H1 { s1 with heap := s1.heap.push { cls := .type "tuple", data := .seq [u1, u2].toArray } } := I1.kept (t' := s1.toks) fun b o e => Heap.get?_push_of_some _ e
  rw [hw]
  refine wpAny_bind (wpAny_pure ?_)
  show wpAny (model X.prog X.w) X.A (do rule "assign.swapped-stores"; let items ← unpackItems (.ref s1.heap.objs.size) 2 none; assignInOrder [fun v => bindName X.env y v, fun v => bindName X.env x v] items.reverse; pure Flow.next) _ _ _
  refine wpAny_bind (wpAny_rule (wpAny_bind (unpackItems_tuple (items := #[u1, u2]) (I.ok.hd hc) (IsTup.new s1.heap _) fun h' hx' => ?_)))
  have I3 := I2.kept (h' := h') (t' := s1.toks) fun b o e => hx' b o (Nat.ne_of_lt (Heap.lt_size e)) e
  show wpAny _ _ (assignInOrder [fun v => bindName X.env y v, fun v => bindName X.env x v] [u2, u1] >>= fun _ => pure Flow.next) _ _ _
  refine wpAny_bind (assignInOrder_cons (wpAny_bindName (store_ok I3 hN hj (.inl hy) rw' (fun s2 I4 => ?_) (.inr hy))))
  refine assignInOrder_cons (wpAny_bindName (store_ok I4 hN hi (.inl hx) rv (fun s3 I5 => assignInOrder_nil (wpAny_pure ?_)) (.inr hx)))
  rw [List.set_comm _ _ (Ne.symm hij)] at I5
  exact ⟨_, H1, I5, q1⟩
end

section
variable {X : Cx} {pos : Pos}
def tWhile (c : TT) (tb : TS) : TS := fun D σ H => ∃ W : Nat → St → Hp → Prop, (∃ m, W m σ H) ∧ ∀ m σ H, W m σ H →
  c σ H fun b H1 => if b = true then ∃ N : St → Hp → Prop, (∀ σ' H', N σ' H' → ∃ m', m' < m ∧ W m' σ' H') ∧ tb { D with nx := N, ct := N, bk := D.nx } σ H1 else D.nx σ H1
theorem ps_while {c : Expr} {body : List Stmt} {tc : TT} {tb : TS} (hp : PassesOwn (model X.prog X.w) X.A X.env X.xe) (hc : PT X c tc) (hb : PSs X body tb) : PS X (.While c body [] pos) (tWhile tc tb) := by
  intro pins s σ H D I h
  obtain ⟨W, ⟨m0, w0⟩, turn⟩ := h
  refine wpAny_While (codeAny_whileLoop (fun n s' => ∃ σ' H', Inv X pins σ' H' s' ∧ W n σ' H') ?_ m0 ⟨σ, H, I, w0⟩)
  rintro n s1 ⟨σ1, H1, I1, w1⟩
  refine wpAny_passesOwn hp (thn (hc pins s1 σ1 H1 _ I1 (turn n σ1 H1 w1)) fun b s2 ⟨H2, I2, q2⟩ => ?_)
  cases b with
  | true =>
    obtain ⟨N, hN, q2⟩ := q2
    rw [if_pos rfl]
    refine wpAny_passesOwn hp (thn (hb pins s2 σ1 H2 _ I2 q2) fun f s3 q3 => ?_)
    cases f with
    | next =>
      obtain ⟨σ3, H3, I3, n3⟩ := q3
      obtain ⟨m', hm, w3⟩ := hN σ3 H3 n3
      exact ⟨m', hm, σ3, H3, I3, w3⟩
    | cont =>
      obtain ⟨σ3, H3, I3, n3⟩ := q3
      obtain ⟨m', hm, w3⟩ := hN σ3 H3 n3
      exact ⟨m', hm, σ3, H3, I3, w3⟩
    | brk => exact q3
    | ret v => exact q3
  | false =>
    rw [if_neg Bool.false_ne_true]
    exact wpAny_execs_nil ⟨σ1, H2, I2, q2⟩
end

structure It where
  go : Nat → Hp → Prop
  yld : Nat → Hp → V → Hp → Prop
  stop : Nat → Hp → Prop
def FpOk (X : Cx) (pins : List (Addr × Obj)) (H : Hp) (b : Addr) : Prop :=
  H b = none ∧ b ≠ X.env.locals ∧ b ∉ X.fs ∧ (b ∈ X.ex ∨ X.s₀.heap.objs.size ≤ b) ∧ (∀ x c, X.env.cells.lookup x = some c → c ≠ b) ∧ ∀ p ∈ X.pn ++ pins, p.1 ≠ b
theorem Inv.fpOk {X : Cx} {pins : List (Addr × Obj)} {σ : St} {H H' : Hp} {s : Shared} {b : Addr} (I : Inv X pins σ H s) (hb : s.heap.objs.size ≤ b) (hn : H' b = none) : FpOk X pins H' b := by
  refine ⟨hn, Nat.ne_of_gt (Nat.lt_of_lt_of_le I.lt hb), I.nofs hb, .inr (Nat.le_trans I.sz hb), fun x c e z => ?_, fun p hp z => ?_⟩
  · obtain ⟨v, q⟩ := I.cell x c e
    exact absurd (Nat.lt_of_lt_of_le q.lt (by rw [z]; exact hb)) (Nat.lt_irrefl _)
  · exact absurd (Nat.lt_of_lt_of_le (Heap.lt_size (I.pin p hp).1) (by rw [z]; exact hb)) (Nat.lt_irrefl _)
structure Turn (P : Program) (w : World) (K : PySem.W.Frag) (tg : Expr) (J : It) (fp : List Addr) (it : Addr) (tn : Nat → Heap → Prop) : Prop where
  mem : it ∈ fp
  obj : ∀ i h, tn i h → ∀ b ∈ fp, ∃ o, h.get? b = some o ∧ ∀ v, o.data ≠ .cell v
  keep : ∀ i h h', tn i h → (∀ b ∈ fp, ∀ o, h.get? b = some o → h'.get? b = some o) → tn i h'
  item : ∀ (X : Cx), X.prog = P → X.w = w → X.K = K → X.calm = true → ∀ (i : Nat) (pins : List (Addr × Obj)) (s : Shared) (σ : St) (H : Hp) (E : Value → Shared → Prop), Inv X pins σ H s → (∀ b ∈ fp, FpOk X pins H b) → tn i s.heap → J.go i H →
    wpAny (model P w) X.A (pyNext (.ref it)) (fun r s1 => ∃ u, r = some u ∧
      wpAny (model P w) X.A (letOwnedTupleGo tg (.ref it) u) (fun _ s2 => ∃ x H', Inv X pins σ H' s2 ∧ RelV x u ∧ J.yld i H x H' ∧ tn (i + 1) s2.heap ∧ ∀ b ∈ fp, H' b = none) E s1) E s
  done : ∀ (X : Cx), X.prog = P → X.w = w → X.K = K → X.calm = true → ∀ (i : Nat) (pins : List (Addr × Obj)) (s : Shared) (σ : St) (H : Hp) (E : Value → Shared → Prop), Inv X pins σ H s → (∀ b ∈ fp, FpOk X pins H b) → tn i s.heap → J.stop i H →
    wpAny (model P w) X.A (pyNext (.ref it)) (fun r s1 => r = none ∧ Inv X pins σ H s1) E s
  self : ∀ (A : Around) (i : Nat) (s : Shared) (Q : Value → Shared → Prop) (E : Value → Shared → Prop), tn i s.heap → Q (.ref it) s → wpAny (model P w) A (pyIter (.ref it)) Q E s
abbrev TI := St → Hp → (It → Hp → Prop) → Prop
def PIE (X : Cx) (pins : List (Addr × Obj)) (σ : St) (tg : Expr) (R : It → Hp → Prop) (itv : Value) (s2 : Shared) : Prop :=
  ∃ (it : Addr) (fp : List Addr) (tn : Nat → Heap → Prop) (J : It) (H' : Hp), itv = .ref it ∧ Inv X pins σ H' s2 ∧ Turn X.prog X.w X.K tg J fp it tn ∧ tn 0 s2.heap ∧ (∀ b ∈ fp, FpOk X pins H' b) ∧ R J H'
def PI (X : Cx) (tg iter : Expr) (wi : TI) : Prop :=
  ∀ (pins : List (Addr × Obj)) (s : Shared) (σ : St) (H : Hp) (R : It → Hp → Prop), Inv X pins σ H s → wi σ H R →
    wpAny (model X.prog X.w) X.A (eval iter X.env) (fun v s1 => wpAny (model X.prog X.w) X.A (pyIter v) (PIE X pins σ tg R) X.xe s1) X.xe s

theorem go_of {M : Model} {A : Around} {E : Value → Shared → Prop} {s : Shared} {tg : Expr} {it : Addr} {u : Value} {o : Obj} {n : String} {vs : Array Value} {Q : Unit → Shared → Prop} (ho : s.heap.get? it = some o) (hc : o.cls = .type n) (hd : o.data = .fields vs)
    (hn : ["enumerate", "zip", "dict_itemiterator", "dict_reverseitemiterator", "odict_iterator", "itertools.zip_longest", "itertools.pairwise"].contains n = false) (hQ : Q () s) : wpAny M A (letOwnedTupleGo tg (.ref it) u) Q E s := by
  unfold letOwnedTupleGo
  cases tg <;> first
    | exact wpAny_pure hQ
    | (cases u <;> first
        | exact wpAny_pure hQ
        | (refine wpAny_bind (wpAny_load ho ?_)
           rw [hc, hd]
           show wpAny M A (if (["enumerate", "zip", "dict_itemiterator", "dict_reverseitemiterator", "odict_iterator", "itertools.zip_longest", "itertools.pairwise"].contains n && vs[0]? == some (rawInt _)) = true then _ else _) Q E s
           rw [if_neg (by intro h; rw [hn, Bool.false_and] at h; cases h)]
           exact wpAny_pure hQ))

def Itl (K : PySem.W.Frag) (a : Addr) : It :=
  ⟨fun i H => ∃ xs x, SqL K H a xs ∧ xs[i]? = some x, fun i H x H' => H' = H ∧ ∀ xs, SqL K H a xs → xs[i]? = some x, fun i H => ∃ xs, SqL K H a xs ∧ xs.length ≤ i⟩
theorem turn_list {P : Program} {w : World} {K : PySem.W.Frag} {tg : Expr} (a it : Addr) : Turn P w K tg (Itl K a) [it] it (fun i h => h.IsListIter it a i) where
  mem := by simp
  obj := fun i h st b hb => by
    have e : b = it := by simpa using hb
    subst e
    obtain ⟨o, e, c, d⟩ := st
    exact ⟨o, e, fun v z => by rw [d] at z; cases z⟩
  keep := fun i h h' st k => st.at fun o e => k it (by simp) o e
  item := by
    intro X hP hw hK hc i pins s σ H E I hf st hg
    subst hP hw hK
    obtain ⟨xs, x, hq, hx⟩ := hg
    obtain ⟨its, rv, p, hz⟩ := I.list hq
    obtain ⟨u, hu, ru⟩ := rv.get hx
    obtain ⟨f0, f1, f2, f3, f4, f5⟩ := hf it (by simp)
    refine wpAny_pyNext_list_item st p.isList (x := u) (by simpa using hu) fun h' st' sb => ?_
    have I1 : Inv X pins σ H { s with heap := h' } := I.turned (t' := s.toks) (fun b o hb e => (sb.2 b hb).trans e) f0 f1 f3 f4 f5
    obtain ⟨o, e, c, d⟩ := id st'
    exact ⟨u, rfl, go_of (s := { s with heap := h' }) e c d (by decide) ⟨x, H, I1, ru, ⟨rfl, fun ys hy => by rw [I.list_inj hy hq]; exact hx⟩, st', fun b hb => (hf b hb).1⟩⟩
  done := by
    intro X hP hw hK hc i pins s σ H E I hf st hg
    subst hP hw hK
    obtain ⟨xs, hq, hx⟩ := hg
    obtain ⟨its, rv, p, hz⟩ := I.list hq
    obtain ⟨f0, f1, f2, f3, f4, f5⟩ := hf it (by simp)
    have hl := rv.length
    exact wpAny_pyNext_list_end (I.ok.hd hc) st p.isList (by simp; omega) fun h' eb => ⟨rfl, I.turned (t' := s.toks) (fun b o hb e => eb b o hb e) f0 f1 f3 f4 f5⟩
  self := fun _ _ _ _ _ st h => wpAny_pyIter_listiter st h
end L2

namespace L2
open PySem PySem.Spec PyProof.Rows
section
variable {X : Cx} {tg : Expr}
def iList (K : PySem.W.Frag) (tl : TE) : TI := fun σ H R => tl σ H fun x H1 => ∃ a, x = .ref a ∧ (∃ xs, SqL K H1 a xs) ∧ R (Itl K a) H1
theorem pi_list {l : Expr} {tl : TE} (hl : PE X l tl) : PI X tg l (iList X.K tl) := by
  intro pins s σ H R I h
  refine thn (hl pins s σ H _ I h) fun v s1 ⟨x, H1, I1, r1, q1⟩ => ?_
  obtain ⟨a, e, ⟨xs, hq⟩, q⟩ := q1
  subst e
  cases r1
  obtain ⟨its, rv, p, hz⟩ := I1.list hq
  refine wpAny_pyIter_list p.isList ?_
  refine ⟨s1.heap.objs.size, [s1.heap.objs.size], _, _, H1, rfl, I1.kept (t' := s1.toks) fun b o e => Heap.get?_push_of_some _ e, turn_list a _, ⟨_, Heap.get?_push_size _ rfl, rfl, rfl⟩, fun b hb => ?_, q⟩
  have e : b = s1.heap.objs.size := by simpa using hb
  subst e
  exact I1.fpOk (Nat.le_refl _) (I1.hok.fresh (Nat.le_refl _))
def tFor (wi : TI) (g : TG) (tb : TS) : TS := fun D σ H => wi σ H fun J H1 => ∃ W : Nat → Nat → St → Hp → Prop, (∃ m, W 0 m σ H1) ∧ ∀ i m σ H, W i m σ H →
  (J.stop i H ∧ D.nx σ H) ∨ (J.go i H ∧ ∃ N : St → Hp → Prop, (∀ σ' H', N σ' H' → ∃ m', m' < m ∧ W (i + 1) m' σ' H') ∧ ∀ x H', J.yld i H x H' → g x σ H' fun σ2 H2 => tb { D with nx := N, ct := N, bk := D.nx } σ2 H2)
def pinsAt (fp : List Addr) (h : Heap) : List (Addr × Obj) := fp.filterMap fun b => (h.get? b).map fun o => (b, o)
theorem mem_pinsAt {fp : List Addr} {h : Heap} {b : Addr} {o : Obj} (hb : b ∈ fp) (e : h.get? b = some o) : (b, o) ∈ pinsAt fp h := List.mem_filterMap.mpr ⟨b, hb, by rw [e]; rfl⟩
theorem of_pinsAt {fp : List Addr} {h : Heap} {p : Addr × Obj} (hp : p ∈ pinsAt fp h) : p.1 ∈ fp ∧ h.get? p.1 = some p.2 := by
  obtain ⟨b, hb, e⟩ := List.mem_filterMap.mp hp
  cases q : h.get? b with
  | none => rw [q] at e; cases e
  | some o =>
    rw [q] at e
    have e' : (b, o) = p := Option.some.inj e
    subst e'
    exact ⟨hb, q⟩
theorem Inv.pinned {pins : List (Addr × Obj)} {σ : St} {H : Hp} {s : Shared} {fp : List Addr} (I : Inv X pins σ H s) (hf : ∀ b ∈ fp, FpOk X pins H b) (ho : ∀ b ∈ fp, ∃ o, s.heap.get? b = some o ∧ ∀ v, o.data ≠ .cell v) : Inv X (pins ++ pinsAt fp s.heap) σ H s :=
  I.pins_of fun p hp => (List.mem_append.mp hp).elim (fun z => I.pin p (List.mem_append_right _ z)) fun z => by
    obtain ⟨hb, e⟩ := of_pinsAt z
    obtain ⟨f0, f1, f2, _⟩ := hf p.1 hb
    obtain ⟨o, e', d⟩ := ho p.1 hb
    rw [e] at e'; cases e'
    exact ⟨e, f0, f1, f2, d⟩
theorem Inv.unpinned {pins pl : List (Addr × Obj)} {σ : St} {H : Hp} {s : Shared} (I : Inv X (pins ++ pl) σ H s) : Inv X pins σ H s := I.pins_of fun p hp => I.pin p (List.mem_append_right _ (List.mem_append_left _ hp))
theorem ps_for {iter : Expr} {body : List Stmt} {wi : TI} {g : TG} {tb : TS} {pos : Pos} (hp : PassesOwn (model X.prog X.w) X.A X.env X.xe) (hc : X.calm = true) (hi : PI X tg iter wi) (hg : PG X tg g) (hb : PSs X body tb)
    (hs : ∀ x, foldedSetIterable iter X.env x = pure x := by intro _; rfl) : PS X (.For tg iter body [] pos) (tFor wi g tb) := by
  intro pins s σ H D I h
  refine wpAny_For (thn (hi pins s σ H _ I h) fun v s1 h1 => thn h1 fun itv s2 h2 => ?_) hs
  obtain ⟨it, fp, tn, J, H2, e, I2, T, st2, f2, W, ⟨m0, w0⟩, turn⟩ := h2
  subst e
  -- what stays true of the iterator's objects through the loop
  have stat : ∀ {H' : Hp}, (∀ b ∈ fp, H' b = none) → ∀ b ∈ fp, FpOk X pins H' b := fun hn b hb => ⟨hn b hb, (f2 b hb).2⟩
  refine codeAny_forLoop_any (fun n s' => ∃ i σ' H', Inv X pins σ' H' s' ∧ tn i s'.heap ∧ (∀ b ∈ fp, H' b = none) ∧ W i n σ' H') ?_ m0 ⟨0, σ, H2, I2, st2, fun b hb => (f2 b hb).1, w0⟩
  rintro n s3 ⟨i, σ3, H3, I3, st3, fr3, w3⟩
  rcases turn i n σ3 H3 w3 with ⟨stop, qn⟩ | ⟨go, N, hN, step⟩
  · refine wpAny_passesOwn hp (thn (T.done X rfl rfl rfl hc i pins s3 σ3 H3 X.xe I3 (stat fr3) st3 stop) fun r s4 ⟨hr, I4⟩ => ?_)
    subst hr
    exact wpAny_execs_nil ⟨σ3, H3, I4, qn⟩
  · refine wpAny_passesOwn hp (thn (T.item X rfl rfl rfl hc i pins s3 σ3 H3 X.xe I3 (stat fr3) st3 go) fun r s4 ⟨u, hr, h4⟩ => ?_)
    subst hr
    refine wpAny_passesOwn hp (thn h4 fun _ s5 ⟨x, H5, I5, r5, y5, st5, fr5⟩ => ?_)
    have I5' := I5.pinned (stat fr5) (T.obj _ _ st5)
    refine wpAny_passesOwn hp (thn (hg _ s5 σ3 H5 x u _ I5' r5 (step x H5 y5)) fun _ s6 ⟨σ6, H6, I6, q6⟩ => ?_)
    refine wpAny_passesOwn hp (thn (hb _ s6 σ6 H6 _ I6 q6) fun f s7 q7 => ?_)
    have again : ∀ {σ7 : St} {H7 : Hp}, Inv X (pins ++ pinsAt fp s5.heap) σ7 H7 s7 → N σ7 H7 → ∃ m, m < n ∧ ∃ i σ' H', Inv X pins σ' H' s7 ∧ tn i s7.heap ∧ (∀ b ∈ fp, H' b = none) ∧ W i m σ' H' := fun {σ7 H7} I7 n7 => by
      obtain ⟨m', hm, w7⟩ := hN σ7 H7 n7
      refine ⟨m', hm, i + 1, σ7, H7, I7.unpinned, T.keep _ _ _ st5 fun b hb o e => (I7.pin (b, o) (List.mem_append_right _ (List.mem_append_right _ (mem_pinsAt hb e)))).1, fun b hb => ?_, w7⟩
      obtain ⟨o, e, d⟩ := T.obj _ _ st5 b hb
      exact (I7.pin (b, o) (List.mem_append_right _ (List.mem_append_right _ (mem_pinsAt hb e)))).2.1
    cases f with
    | next => obtain ⟨σ7, H7, I7, n7⟩ := q7; exact again I7 n7
    | cont => obtain ⟨σ7, H7, I7, n7⟩ := q7; exact again I7 n7
    | brk => obtain ⟨σ7, H7, I7, q7⟩ := q7; exact ⟨σ7, H7, I7.unpinned, q7⟩
    | ret v => obtain ⟨x7, σ7, H7, I7, r7, q7⟩ := q7; exact ⟨x7, σ7, H7, I7.unpinned, r7, q7⟩
end

theorem for_list {K : PySem.W.Frag} {a : Addr} {xs : List V} {g : TG} {tb : TS} {D : Ends} {σ : St} {H : Hp} (Pv : Nat → St → Hp → Prop) (h0 : Pv 0 σ H) (hl : ∀ i σ H, i ≤ xs.length → Pv i σ H → SqL K H a xs)
    (hs : ∀ i x σ H, xs[i]? = some x → Pv i σ H → g x σ H fun σ2 H2 => tb { D with nx := Pv (i + 1), ct := Pv (i + 1), bk := D.nx } σ2 H2) (hd : ∀ σ H, Pv xs.length σ H → D.nx σ H) :
    ∃ W : Nat → Nat → St → Hp → Prop, (∃ m, W 0 m σ H) ∧ ∀ i m σ H, W i m σ H →
      ((Itl K a).stop i H ∧ D.nx σ H) ∨ ((Itl K a).go i H ∧ ∃ N : St → Hp → Prop, (∀ σ' H', N σ' H' → ∃ m', m' < m ∧ W (i + 1) m' σ' H') ∧ ∀ x H', (Itl K a).yld i H x H' → g x σ H' fun σ2 H2 => tb { D with nx := N, ct := N, bk := D.nx } σ2 H2) := by
  refine ⟨fun i m σ H => m = xs.length - i ∧ i ≤ xs.length ∧ Pv i σ H, ⟨xs.length, by simp, Nat.zero_le _, h0⟩, ?_⟩
  rintro i m σ H ⟨rfl, hi, p⟩
  have q := hl i σ H hi p
  by_cases hlt : i < xs.length
  · refine .inr ⟨⟨xs, xs[i], q, by simp [hlt]⟩, Pv (i + 1), fun σ' H' p' => ⟨xs.length - (i + 1), by omega, rfl, hlt, p'⟩, fun x H' y => ?_⟩
    obtain ⟨e, y⟩ := y
    subst e
    exact hs i x σ _ (y xs q) p
  · have e : i = xs.length := by omega
    subst e
    exact .inl ⟨⟨xs, q, Nat.le_refl _⟩, hd σ H p⟩
theorem while_by {c : TT} {tb : TS} {D : Ends} {σ : St} {H : Hp} (Pv : St → Hp → Prop) (μ : St → Hp → Nat) (h0 : Pv σ H)
    (hs : ∀ σ H, Pv σ H → c σ H fun b H1 => if b = true then tb { D with nx := fun σ' H' => Pv σ' H' ∧ μ σ' H' < μ σ H, ct := fun σ' H' => Pv σ' H' ∧ μ σ' H' < μ σ H, bk := D.nx } σ H1 else D.nx σ H1)
    (mono : ∀ σ H Q Q', (∀ b H1, Q b H1 → Q' b H1) → c σ H Q → c σ H Q') : tWhile c tb D σ H := by
  refine ⟨fun m σ H => m = μ σ H ∧ Pv σ H, ⟨_, rfl, h0⟩, ?_⟩
  rintro m σ H ⟨rfl, p⟩
  refine mono σ H _ _ (fun b H1 q => ?_) (hs σ H p)
  cases b with
  | true => exact ⟨_, fun σ' H' ⟨p', l⟩ => ⟨_, l, rfl, p'⟩, q⟩
  | false => exact q
end L2

namespace L2
open PySem PySem.Spec PyProof.Rows

abbrev R2 := V → V → Hp → VK → Prop
def OpR (X : Cx) (f : Value → Value → Sem Value) (r : R2) : Prop :=
  ∀ (pins : List (Addr × Obj)) (s : Shared) (σ : St) (H : Hp) (x y : V) (v u : Value) (Q : VK), Inv X pins σ H s → RelV x v → RelV y u → r x y H Q →
    wpAny (model X.prog X.w) X.A (f v u) (EP X pins σ Q) X.xe s
def UnR (X : Cx) (f : Value → Sem Value) (r : V → Hp → VK → Prop) : Prop :=
  ∀ (pins : List (Addr × Obj)) (s : Shared) (σ : St) (H : Hp) (x : V) (v : Value) (Q : VK), Inv X pins σ H s → RelV x v → r x H Q →
    wpAny (model X.prog X.w) X.A (f v) (EP X pins σ Q) X.xe s
def CallR (X : Cx) (f : Value) (r : List V → Hp → VK → Prop) : Prop :=
  ∀ (pins : List (Addr × Obj)) (s : Shared) (σ : St) (H : Hp) (xs : List V) (us : List Value) (Q : VK), Inv X pins σ H s → Vals xs us → r xs H Q →
    wpAny (model X.prog X.w) X.A (call f us) (EP X pins σ Q) X.xe s
def TruR (X : Cx) (r : V → Hp → (Bool → Hp → Prop) → Prop) : Prop :=
  ∀ (pins : List (Addr × Obj)) (s : Shared) (σ : St) (H : Hp) (x : V) (v : Value) (Q : Bool → Hp → Prop), Inv X pins σ H s → RelV x v → r x H Q →
    wpAny (model X.prog X.w) X.A (truthy v) (TP X pins σ Q) X.xe s

def tOp (r : R2) (ta tb : TE) : TE := fun σ H Q => ta σ H fun x H1 => tb σ H1 fun y H2 => r x y H2 Q
def tUn (r : V → Hp → VK → Prop) (ta : TE) : TE := fun σ H Q => ta σ H fun x H1 => r x H1 Q
def rI (C : Int → Int → Prop) (g : Int → Int → V) : R2 := fun x y H Q => ∃ i j, x = .int i ∧ y = .int j ∧ C i j ∧ Q (g i j) H
def rI0 (g : Int → Int → V) : R2 := fun x y H Q => ∃ i j, x = .int i ∧ y = .int j ∧ Q (g i j) H
def rU (g : Int → V) : V → Hp → VK → Prop := fun x H Q => ∃ i, x = .int i ∧ Q (g i) H

section
variable {X : Cx} {a b c : Expr} {ta tb tc : TE} {pos : Pos}

theorem binT (ha : PE X a ta) (hb : PE X b tb) {pins : List (Addr × Obj)} {s : Shared} {σ : St} {H : Hp} {R : V → V → Hp → Prop} (I : Inv X pins σ H s)
    (h : ta σ H fun x H1 => tb σ H1 fun y H2 => R x y H2) {Q : Value → Shared → Prop} {f : Value → Value → Sem Value}
    (hf : ∀ v u s2 x y H2, Inv X pins σ H2 s2 → RelV x v → RelV y u → R x y H2 → wpAny (model X.prog X.w) X.A (f v u) Q X.xe s2) :
    wpAny (model X.prog X.w) X.A (eval a X.env) (fun v s₁ => wpAny (model X.prog X.w) X.A (eval b X.env) (fun u s₂ => wpAny (model X.prog X.w) X.A (f v u) Q X.xe s₂) X.xe s₁) X.xe s := by
  refine thn (ha pins s σ H _ I h) fun v s1 ⟨x, H1, I1, r1, q1⟩ => ?_
  refine thn (hb pins s1 σ H1 _ I1 q1) fun u s2 ⟨y, H2, I2, r2, q2⟩ => ?_
  exact hf v u s2 x y H2 I2 r1 r2 q2

theorem pe_op {op : Operator} {r : R2} (ho : OpR X (binaryOp op) r) (ha : PE X a ta) (hb : PE X b tb) : PE X (.BinOp a op b pos) (tOp r ta tb) := by
  intro pins s σ H Q I h
  exact wpAny_BinOp (binT ha hb I h fun v u s2 x y H2 I2 rx ry q => ho pins s2 σ H2 x y v u Q I2 rx ry q)
theorem pe_un {op : UnaryOp} {r : V → Hp → VK → Prop} (ho : UnR X (unaryOp op) r) (ha : PE X a ta) : PE X (.UnaryOp op a pos) (tUn r ta) := by
  intro pins s σ H Q I h
  exact UnaryOp_ (thn (ha pins s σ H _ I h) fun v s1 ⟨x, H1, I1, r1, q1⟩ => ho pins s1 σ H1 x v Q I1 r1 q1)
theorem opI {f : Value → Value → Sem Value} {C : Int → Int → Prop} {g : Int → Int → Int}
    (rule : ∀ (i j : Int) (t u : Tok) (s : Shared) (Q : Value → Shared → Prop) (E : Value → Shared → Prop), C i j → Q (.int (g i j) s.toks) { s with toks := s.toks + 1 } → wpAny (model X.prog X.w) X.A (f (.int i t) (.int j u)) Q E s) :
    OpR X f (rI C fun i j => .int (g i j)) := by
  intro pins s σ H x y v u Q I rx ry h
  obtain ⟨i, j, rfl, rfl, hc, q⟩ := h
  obtain ⟨t, rfl⟩ := rx
  obtain ⟨t', rfl⟩ := ry
  exact rule i j t t' s _ _ hc ⟨.int (g i j), H, I.tok _, ⟨_, rfl⟩, q⟩
theorem opI0 {f : Value → Value → Sem Value} {g : Int → Int → Int}
    (rule : ∀ (i j : Int) (t u : Tok) (s : Shared) (Q : Value → Shared → Prop) (E : Value → Shared → Prop), Q (.int (g i j) s.toks) { s with toks := s.toks + 1 } → wpAny (model X.prog X.w) X.A (f (.int i t) (.int j u)) Q E s) :
    OpR X f (rI0 fun i j => .int (g i j)) := by
  intro pins s σ H x y v u Q I rx ry h
  obtain ⟨i, j, rfl, rfl, q⟩ := h
  obtain ⟨t, rfl⟩ := rx
  obtain ⟨t', rfl⟩ := ry
  exact rule i j t t' s _ _ ⟨.int (g i j), H, I.tok _, ⟨_, rfl⟩, q⟩
theorem opB0 {f : Value → Value → Sem Value} {g : Int → Int → Bool}
    (rule : ∀ (i j : Int) (t u : Tok) (s : Shared) (Q : Value → Shared → Prop) (E : Value → Shared → Prop), Q (.bool (g i j)) s → wpAny (model X.prog X.w) X.A (f (.int i t) (.int j u)) Q E s) :
    OpR X f (rI0 fun i j => .bl (g i j)) := by
  intro pins s σ H x y v u Q I rx ry h
  obtain ⟨i, j, rfl, rfl, q⟩ := h
  obtain ⟨t, rfl⟩ := rx
  obtain ⟨t', rfl⟩ := ry
  exact rule i j t t' s _ _ ⟨.bl (g i j), H, I, rfl, q⟩

def CDiv (i j : Int) : Prop := 0 < j ∧ j < 1073741824
def CPow (i j : Int) : Prop := 0 ≤ j ∧ j ≤ 1000000 ∧ i.natAbs < 2 ^ 64
def CMul (i j : Int) : Prop := (-(2 ^ 64) < i ∧ i < 2 ^ 64) ∨ (-(2 ^ 64) < j ∧ j < 2 ^ 64)
theorem CMul.ok {i j : Int} (h : CMul i j) : IntMulOk i j := by
  rcases h with ⟨h1, h2⟩ | ⟨h1, h2⟩
  · exact .of_left (intBits_le_64 h1 h2)
  · exact .of_right (intBits_le_64 h1 h2)
theorem op_add : OpR X (binaryOp .Add) (rI0 fun i j => .int (i + j)) := opI0 fun _ _ _ _ _ _ _ q => add_int q
theorem op_sub : OpR X (binaryOp .Sub) (rI0 fun i j => .int (i - j)) := opI0 fun _ _ _ _ _ _ _ q => sub_int q
theorem op_mul : OpR X (binaryOp .Mult) (rI CMul fun i j => .int (i * j)) := opI fun _ _ _ _ _ _ _ hc q => mul_int q hc.ok
theorem op_fdiv : OpR X (binaryOp .FloorDiv) (rI CDiv fun i j => .int (i / j)) := opI fun i j _ _ _ _ _ hc q => by
  have h1 : (0 : Int) < j := hc.1
  have h2 : j < 1073741824 := hc.2
  exact floordiv_int (by omega) (by rw [Int.fdiv_eq_ediv_of_nonneg i (by omega)]; exact q) (.inl (PyProof.noPylong_small (by omega)))
theorem op_mod : OpR X (binaryOp .Mod) (rI (fun _ j => 0 < j) fun i j => .int (i % j)) := opI fun i j _ _ _ _ _ hc q => by
  have h1 : (0 : Int) < j := hc
  exact mod_int' (by omega) (by rw [Int.fmod_eq_emod_of_nonneg i (by omega)]; exact q)
theorem op_pow : OpR X (binaryOp .Pow) (rI CPow fun i j => .int (i ^ j.toNat)) := opI fun _ _ _ _ _ _ _ hc q => pow_int_small hc.1 hc.2.1 hc.2.2 q
theorem unI {f : Value → Sem Value} {g : Int → Int}
    (rule : ∀ (i : Int) (t : Tok) (s : Shared) (Q : Value → Shared → Prop) (E : Value → Shared → Prop), Q (.int (g i) s.toks) { s with toks := s.toks + 1 } → wpAny (model X.prog X.w) X.A (f (.int i t)) Q E s) :
    UnR X f (rU fun i => .int (g i)) := by
  intro pins s σ H x v Q I rx h
  obtain ⟨i, rfl, q⟩ := h
  obtain ⟨t, rfl⟩ := rx
  exact rule i t s _ _ ⟨.int (g i), H, I.tok _, ⟨_, rfl⟩, q⟩
theorem un_neg : UnR X (unaryOp .USub) (rU fun i => .int (-i)) := unI fun _ _ _ _ _ q => neg_int q
end

def scal : V → V → Bool
  | .non, .non => true | .non, .int _ => true | .int _, .non => true | .non, .bl _ => true | .bl _, .non => true | .non, .str _ => true | .str _, .non => true
  | .int _, .int _ => true | .bl _, .bl _ => true | .str _, .str _ => true | .byt _, .byt _ => true
  | .int _, .str _ => true | .str _, .int _ => true | .bl _, .str _ => true | .str _, .bl _ => true
  | _, _ => false
def rEq : R2 := fun x y H Q => scal x y = true ∧ Q (.bl (decide (x = y))) H
def rNe : R2 := fun x y H Q => scal x y = true ∧ Q (.bl (!decide (x = y))) H

theorem dec_int {i j : Int} : decide (V.int i = V.int j) = (i == j) := by
  rw [Bool.eq_iff_iff]
  simp
theorem dec_bl {i j : Bool} : decide (V.bl i = V.bl j) = (i == j) := by
  rw [Bool.eq_iff_iff]
  simp
theorem dec_str {i j : Str} : decide (V.str i = V.str j) = (i == j) := by
  rw [Bool.eq_iff_iff]
  simp
theorem dec_byt {i j : Array UInt8} : decide (V.byt i = V.byt j) = (i.toList == j.toList) := by
  rw [Bool.eq_iff_iff]
  cases i
  cases j
  simp

section
variable {X : Cx} {a b c : Expr} {ta tb tc : TE} {pos : Pos}
theorem fin_bl {pins : List (Addr × Obj)} {σ : St} {H : Hp} {s : Shared} {Q : VK} {k k' : Bool} (I : Inv X pins σ H s) (q : Q (.bl k) H) (e : k = k') : EP X pins σ Q (.bool k') s := by
  subst e
  exact ⟨.bl k, H, I, rfl, q⟩
theorem op_eq : OpR X (compareOp .Eq) rEq := by
  intro pins s σ H x y v u Q I rx ry h
  obtain ⟨hs, q⟩ := h
  cases x with
  | non =>
    cases rx
    cases y with
    | non => cases ry; exact PySem.EqNone.eq_none_none (fin_bl I q (by simp))
    | bl j => cases ry; exact PySem.EqNone.eq_none_bool (fin_bl I q (by simp))
    | int j => obtain ⟨t', rfl⟩ := ry; exact PySem.EqNone.eq_none_int (fin_bl I q (by simp))
    | str j => obtain ⟨t', rfl⟩ := ry; exact PySem.EqNone.eq_none_str (fin_bl I q (by simp))
    | _ => exact absurd (show false = true from hs) Bool.false_ne_true
  | bl i =>
    cases rx
    cases y with
    | non => cases ry; exact PySem.EqNone.eq_bool_none (fin_bl I q (by simp))
    | bl j => cases ry; exact eq_bool (fin_bl I q dec_bl)
    | str j => obtain ⟨t', rfl⟩ := ry; exact PySem.EqMixed.eq_bool_str (fin_bl I q (by simp))
    | _ => exact absurd (show false = true from hs) Bool.false_ne_true
  | int i =>
    obtain ⟨t, rfl⟩ := rx
    cases y with
    | non => cases ry; exact PySem.EqNone.eq_int_none (fin_bl I q (by simp))
    | int j => obtain ⟨t', rfl⟩ := ry; exact eq_int (fin_bl I q dec_int)
    | str j => obtain ⟨t', rfl⟩ := ry; exact PySem.EqMixed.eq_int_str (fin_bl I q (by simp))
    | _ => exact absurd (show false = true from hs) Bool.false_ne_true
  | str i =>
    obtain ⟨t, rfl⟩ := rx
    cases y with
    | non => cases ry; exact PySem.EqNone.eq_str_none (fin_bl I q (by simp))
    | bl j => cases ry; exact PySem.EqMixed.eq_str_bool (fin_bl I q (by simp))
    | int j => obtain ⟨t', rfl⟩ := ry; exact PySem.EqMixed.eq_str_int (fin_bl I q (by simp))
    | str j => obtain ⟨t', rfl⟩ := ry; exact eq_str (fin_bl I q dec_str)
    | _ => exact absurd (show false = true from hs) Bool.false_ne_true
  | byt i =>
    obtain ⟨t, rfl⟩ := rx
    cases y with
    | byt j => obtain ⟨t', rfl⟩ := ry; exact PySem.W.eq_bytes (fin_bl I q dec_byt)
    | _ => exact absurd (show false = true from hs) Bool.false_ne_true
  | _ => cases y <;> exact absurd (show false = true from hs) Bool.false_ne_true
theorem op_ne : OpR X (compareOp .NotEq) rNe := by
  intro pins s σ H x y v u Q I rx ry h
  obtain ⟨hs, q⟩ := h
  cases x with
  | non =>
    cases rx
    cases y with
    | non => cases ry; exact PySem.EqNone.ne_none_none (fin_bl I q (by simp))
    | bl j => cases ry; exact PySem.EqNone.ne_none_bool (fin_bl I q (by simp))
    | int j => obtain ⟨t', rfl⟩ := ry; exact PySem.EqNone.ne_none_int (fin_bl I q (by simp))
    | str j => obtain ⟨t', rfl⟩ := ry; exact PySem.EqNone.ne_none_str (fin_bl I q (by simp))
    | _ => exact absurd (show false = true from hs) Bool.false_ne_true
  | bl i =>
    cases rx
    cases y with
    | non => cases ry; exact PySem.EqNone.ne_bool_none (fin_bl I q (by simp))
    | bl j => cases ry; exact ne_bool (fin_bl I q (congrArg not dec_bl))
    | str j => obtain ⟨t', rfl⟩ := ry; exact PySem.EqMixed.ne_bool_str (fin_bl I q (by simp))
    | _ => exact absurd (show false = true from hs) Bool.false_ne_true
  | int i =>
    obtain ⟨t, rfl⟩ := rx
    cases y with
    | non => cases ry; exact PySem.EqNone.ne_int_none (fin_bl I q (by simp))
    | int j => obtain ⟨t', rfl⟩ := ry; exact ne_int (fin_bl I q (congrArg not dec_int))
    | str j => obtain ⟨t', rfl⟩ := ry; exact PySem.EqMixed.ne_int_str (fin_bl I q (by simp))
    | _ => exact absurd (show false = true from hs) Bool.false_ne_true
  | str i =>
    obtain ⟨t, rfl⟩ := rx
    cases y with
    | non => cases ry; exact PySem.EqNone.ne_str_none (fin_bl I q (by simp))
    | bl j => cases ry; exact PySem.EqMixed.ne_str_bool (fin_bl I q (by simp))
    | int j => obtain ⟨t', rfl⟩ := ry; exact PySem.EqMixed.ne_str_int (fin_bl I q (by simp))
    | str j => obtain ⟨t', rfl⟩ := ry; exact ne_str (fin_bl I q (congrArg not dec_str))
    | _ => exact absurd (show false = true from hs) Bool.false_ne_true
  | byt i =>
    obtain ⟨t, rfl⟩ := rx
    cases y with
    | byt j => obtain ⟨t', rfl⟩ := ry; exact PySem.W.ne_bytes (fin_bl I q (congrArg not dec_byt))
    | _ => exact absurd (show false = true from hs) Bool.false_ne_true
  | _ => cases y <;> exact absurd (show false = true from hs) Bool.false_ne_true

theorem op_lt : OpR X (compareOp .Lt) (rI0 fun i j => .bl (decide (i < j))) := opB0 fun _ _ _ _ _ _ _ q => lt_int q
theorem op_le : OpR X (compareOp .LtE) (rI0 fun i j => .bl (decide (i ≤ j))) := opB0 fun _ _ _ _ _ _ _ q => le_int q
theorem op_gt : OpR X (compareOp .Gt) (rI0 fun i j => .bl (decide (j < i))) := opB0 fun _ _ _ _ _ _ _ q => gt_int q
theorem op_isN : OpR X (compareOp .Is) (fun x y H Q => y = .non ∧ Q (.bl (decide (x = .non))) H) := by
  intro pins s σ H x y v u Q I rx ry h
  obtain ⟨rfl, q⟩ := h
  cases ry
  refine is_none_gen (fin_bl I q ?_)
  cases x <;> first
    | (cases rx; rfl)
    | (obtain ⟨t, rfl⟩ := rx; rfl)
theorem op_notN : OpR X (compareOp .IsNot) (fun x y H Q => y = .non ∧ Q (.bl (!decide (x = .non))) H) := by
  intro pins s σ H x y v u Q I rx ry h
  obtain ⟨rfl, q⟩ := h
  cases ry
  refine isnot_none_gen (fin_bl I q ?_)
  cases x <;> first
    | (cases rx; rfl)
    | (obtain ⟨t, rfl⟩ := rx; rfl)

theorem nomark (b : Expr) {op : CmpOp} (h : op ≠ .In := by decide) (h2 : op ≠ .NotIn := by decide) : behindInMarks op b = false := by
  have e1 : (op == CmpOp.In) = false := by cases op <;> first | rfl | exact absurd rfl h
  have e2 : (op == CmpOp.NotIn) = false := by cases op <;> first | rfl | exact absurd rfl h2
  cases b <;> simp [behindInMarks, e1, e2]
theorem pe_cmpR {op : CmpOp} {r : R2} (ho : OpR X (compareOp op) r) (ha : PE X a ta) (hb : PE X b tb) (hm : behindInMarks op b = false) : PE X (.Compare a [op] [b] pos) (tOp r ta tb) := by
  intro pins s σ H Q I h
  exact wpAny_Compare1 (binT ha hb I h fun v u s2 x y H2 I2 rx ry q => ho pins s2 σ H2 x y v u Q I2 rx ry q) hm
def tTest (t : TE) : TT := fun σ H Q => t σ H fun x H' => ∃ k, x = .bl k ∧ Q k H'
theorem pt_cmpR {op : CmpOp} {r : R2} (ho : OpR X (compareOp op) r) (ha : PE X a ta) (hb : PE X b tb) (hm : behindInMarks op b = false) : PT X (.Compare a [op] [b] pos) (tTest (tOp r ta tb)) := by
  intro pins s σ H Q I h
  refine wpAny_isTrue_Compare1 (thn (ha pins s σ H _ I h) fun v s1 ⟨x, H1, I1, r1, q1⟩ => thn (hb pins s1 σ H1 _ I1 q1) fun u s2 ⟨y, H2, I2, r2, q2⟩ =>
    thn (ho pins s2 σ H2 x y v u _ I2 r1 r2 q2) fun c s3 ⟨z, H3, I3, r3, k, e, q3⟩ => ?_) hm
  subst e
  cases r3
  exact wpAny_truthy_bool ⟨H3, I3, q3⟩
def tChain (r r' : R2) (ta tb tc : TE) : TE := fun σ H Q => ta σ H fun x H1 => tb σ H1 fun y H2 => r x y H2 fun z H3 => ∃ k, z = .bl k ∧
  (if k = true then tc σ H3 fun w' H4 => r' y w' H4 Q else Q (.bl false) H3)
theorem pe_chain {op op' : CmpOp} {r r' : R2} (ho : OpR X (compareOp op) r) (ho' : OpR X (compareOp op') r') (ha : PE X a ta) (hb : PE X b tb) (hc : PE X c tc)
    (hm : lastMarks [op, op'] [b, c] = false := by with_unfolding_all rfl) : PE X (.Compare a [op, op'] [b, c] pos) (tChain r r' ta tb tc) := by
  intro pins s σ H Q I h
  refine Compare_chain (thn (ha pins s σ H _ I h) fun v s1 ⟨x, H1, I1, r1, q1⟩ => chain_link (thn (hb pins s1 σ H1 _ I1 q1) fun u s2 ⟨y, H2, I2, r2, q2⟩ =>
    thn (ho pins s2 σ H2 x y v u _ I2 r1 r2 q2) fun d s3 ⟨z, H3, I3, r3, k, e, q3⟩ => ?_)) hm
  subst e
  cases r3
  refine wpAny_truthy_bool ?_
  cases k with
  | false => exact ite_ff ⟨.bl false, H3, I3, rfl, q3⟩
  | true => exact ite_tt (chain_last (thn (hc pins s3 σ H3 _ I3 q3) fun w' s4 ⟨z', H4, I4, r4, q4⟩ => ho' pins s4 σ H4 y z' u w' Q I4 r2 r4 q4))
def TruV (K : PySem.W.Frag) (x : V) (H : Hp) (k : Bool) : Prop :=
  match x with
  | .non => k = false
  | .bl b => k = b
  | .int i => k = (i != 0)
  | .str y => y.length ≤ sizeLine ∧ k = ((y.length : Int) != 0)
  | .byt y => y.size ≤ sizeLine ∧ k = ((y.size : Int) != 0)
  | .ref p => (∃ xs, SqL K H p xs ∧ k = !xs.isEmpty) ∨ (∃ xs, SqT K H p xs ∧ k = !xs.isEmpty) ∨ ∃ kvs, H p = some (.dK kvs) ∧ k = !kvs.isEmpty
  | _ => False
theorem isEmpty_kv {κ : Type} {kvs : List (κ × V)} {vs : List (κ × Value)} (r : KV kvs vs) : (!vs.isEmpty) = !kvs.isEmpty := by
  cases r <;> rfl
theorem isEmpty_of {xs : List V} {its : List Value} (r : Vals xs its) : (!its.toArray.isEmpty) = !xs.isEmpty := by
  cases r <;> simp
theorem line63 : (sizeLine : Nat) < 2 ^ 63 := by rw [sizeLine_eq]; decide
theorem tru_ok : TruR X (fun x H Q => ∃ k, TruV X.K x H k ∧ Q k H) := by
  intro pins s σ H x v Q I rx h
  obtain ⟨k, e, q⟩ := h
  have hl := line63
  have hs : sizeLine = 16777216 := sizeLine_eq
  cases x with
  | non =>
    cases rx
    have e' : k = false := e
    subst e'
    exact truthy_none ⟨H, I, q⟩
  | bl b =>
    cases rx
    have e' : k = b := e
    subst e'
    exact wpAny_truthy_bool ⟨H, I, q⟩
  | int i =>
    obtain ⟨t, rfl⟩ := rx
    have e' : k = (i != 0) := e
    subst e'
    exact PySem.P.truthy_int ⟨H, I, q⟩
  | str y =>
    obtain ⟨t, rfl⟩ := rx
    obtain ⟨hy, e'⟩ : y.length ≤ sizeLine ∧ k = ((y.length : Int) != 0) := e
    subst e'
    exact PySem.P.truthy_str (by omega) ⟨H, I.tok _, q⟩
  | byt y =>
    obtain ⟨t, rfl⟩ := rx
    obtain ⟨hy, e'⟩ : y.size ≤ sizeLine ∧ k = ((y.size : Int) != 0) := e
    subst e'
    exact PySem.W.truthy_bytes (by omega) ⟨H, I.tok _, q⟩
  | ref p =>
    cases rx
    have e' : (∃ xs, SqL X.K H p xs ∧ k = !xs.isEmpty) ∨ (∃ xs, SqT X.K H p xs ∧ k = !xs.isEmpty) ∨ ∃ kvs, H p = some (.dK kvs) ∧ k = !kvs.isEmpty := e
    rcases e' with ⟨xs, hx, e'⟩ | ⟨xs, hx, e'⟩ | ⟨kvs, hx, e'⟩
    · subst e'
      obtain ⟨its, r, pl, hz⟩ := I.list hx
      have hlen := r.length
      exact wpAny_truthy_list pl.isList (by simp only [List.size_toArray]; omega) ⟨H, I.tok _, by rw [isEmpty_of r]; exact q⟩
    · subst e'
      obtain ⟨its, r, pl, hz⟩ := I.tuple hx
      have hlen := r.length
      exact truthy_tuple pl (by simp only [List.size_toArray]; omega) ⟨H, I.tok _, by rw [isEmpty_of r]; exact q⟩
    · subst e'
      obtain ⟨hz, hS, vs, r, m⟩ : kvs.length ≤ sizeLine ∧ (p == sysModules) = false ∧ ∃ vs, KV kvs vs ∧ s.heap.DictOf (mixKind X.prog X.w) p vs := I.hok p _ hx
      have hlen : kvs.length = vs.length := Paired.length r
      exact wpAny_truthy_dict hS m (by omega) ⟨H, I.tok _, by rw [isEmpty_kv r]; exact q⟩
  | _ => exact (show False from e).elim
theorem pt_truth (ha : PE X a ta) (he : ∀ whole, isTrue a X.env whole = (do let v ← whole; standAt a.pos; holding [v] (truthy v))) :
    PT X a (fun σ H Q => ta σ H fun x H' => ∃ k, TruV X.K x H' k ∧ Q k H') := by
  intro pins s σ H Q I h
  exact isTrue_plain (thn (ha pins s σ H _ I h) fun v s1 ⟨x, H1, I1, r1, q1⟩ => tru_ok pins s1 σ H1 x v Q I1 r1 q1) (he _)

theorem vals1 {x : V} {us : List Value} (r : Vals [x] us) : ∃ u, us = [u] ∧ RelV x u := by
  cases r with
  | cons r1 r2 => cases r2; exact ⟨_, rfl, r1⟩
theorem vals2 {x y : V} {us : List Value} (r : Vals [x, y] us) : ∃ u w', us = [u, w'] ∧ RelV x u ∧ RelV y w' := by
  cases r with
  | cons r1 r2 =>
    cases r2 with
    | cons r3 r4 => cases r4; exact ⟨_, _, rfl, r1, r3⟩
theorem call_abs : CallR X (.builtin "abs") (fun xs H Q => ∃ i, xs = [.int i] ∧ Q (.int (if i < 0 then -i else i)) H) := by
  intro pins s σ H xs us Q I r h
  obtain ⟨i, rfl, q⟩ := h
  obtain ⟨u, rfl, t, rfl⟩ := vals1 r
  exact call_abs_int fun u tk => ⟨.int (if i < 0 then -i else i), H, I.tok _, ⟨_, rfl⟩, q⟩
theorem call_max2 (hc : X.calm = true) : CallR X (.builtin "max") (fun xs H Q => ∃ i j, xs = [.int i, .int j] ∧ Q (.int (if j > i then j else i)) H) := by
  intro pins s σ H xs us Q I r h
  obtain ⟨i, j, rfl, q⟩ := h
  obtain ⟨u, w', rfl, ⟨t, rfl⟩, ⟨t', rfl⟩⟩ := vals2 r
  refine max_two_ints (I.ok.hd hc) fun h' tk k => ⟨_, H, I.kept k, ?_, q⟩
  by_cases hj : j > i
  · rw [if_pos hj, if_pos hj]; exact ⟨_, rfl⟩
  · rw [if_neg hj, if_neg hj]; exact ⟨_, rfl⟩
end
end L2

namespace L2
open PySem PySem.Spec PyProof.Rows

structure ObjM (h : Heap) (x dx C : Addr) (mA : Str → Option Value) : Prop where
  obj : h.get? x = some (PySem.W.instObj C dx)
  ns : h.Ns1 dx mA
  ne : dx ≠ x

theorem lookIn_ns {h : Heap} {dx : Addr} {mA : Str → Option Value} (n : h.Ns1 dx mA) : ∃ od, h.get? dx = some od ∧ ∀ name, PySem.W.lookIn name od = some (mA name) := by
  obtain ⟨o, es, ep, ho, hd, hk, _, hm⟩ := n
  refine ⟨o, ho, fun name => ?_⟩
  have e := hm name
  unfold nsFind findBy at e
  rw [← Array.find?_toList] at e
  unfold PySem.W.lookIn
  rw [hd]
  dsimp only
  split
  · rename_i y q
    rw [q] at e
    exact congrArg some e
  · rename_i q
    rw [q] at e
    have a : es.toList.any (·.refKey) = false := by
      rw [List.any_eq_false]
      intro y hy
      obtain ⟨z, t, hkey⟩ := hk y (Array.mem_toList_iff.mp hy)
      simp [DictEntry.refKey, hkey]
    have a' : ¬ es.toList.any (·.refKey) = true := by rw [a]; exact Bool.false_ne_true
    rw [if_neg a']
    exact congrArg some e

theorem ObjM.look {h : Heap} {x dx C : Addr} {mA : Str → Option Value} (I : ObjM h x dx C mA) : ∃ od, PySem.W.InstAt h x (PySem.W.instObj C dx) C (some od) ∧ ∀ name, PySem.W.lookIn name od = some (mA name) :=
  let ⟨od, ho, hl⟩ := lookIn_ns I.ns
  ⟨od, ⟨I.obj, rfl, rfl, ho⟩, hl⟩

section
variable {prog : Program} {w : World} {A : Around} {E : Value → Shared → Prop} {s : Shared} {K : PySem.W.Frag} {x dx C f : Addr} {mA : Str → Option Value} {name : Str} {v : Value}

end

section
variable {P : Program} {w : World} {H H' : Hp} {h h' : Heap} {a C dx : Addr} {fs fs' : List (Str × V)}
theorem ins_get (hok : HOk P w H h) (e : H a = some (.ins C dx fs)) : ∃ mA, ObjM h a dx C mA ∧ (∀ f, RelO (fs.lookup f) (mA f)) ∧ PySem.Within mA (fs.map (·.1)) ∧ fs.length ≤ 1000 ∧ H dx = some (.own a) := by
  obtain ⟨d, z, ne, ob, mA, n, r, q⟩ := (show ObjOk P w H h a (.ins C dx fs) from hok a _ e)
  exact ⟨mA, ⟨ob, n, ne⟩, r, q, z, d⟩
end

structure Cls (K : PySem.W.Frag) (C : Addr) : Prop where
  pg : PySem.W.plainGet K C Str.empty = true
  hd : PySem.W.hasDictIn K C = true
  po : PySem.W.plainOver K C = true
  sa : PySem.W.findIn K (.ref C) "__setattr__" = some (some (.builtin "object.__setattr__"))
theorem Cls.get {K : PySem.W.Frag} {C : Addr} (c : Cls K C) (f : Str) : PySem.W.plainGet K C f = true := c.pg
structure Con (K : PySem.W.Frag) (C : Addr) (f : Str) (v : V) (u : Value) : Prop where
  at_ : PySem.W.findIn K (.ref C) f = some (some u)
  rel : RelV v u
  get : PySem.W.specialIn K u "__get__" = some none
  cp : PySem.W.copiedNames.contains f = false
structure Meth (K : PySem.W.Frag) (C : Addr) (m : Str) (f : Addr) : Prop where
  at_ : PySem.W.findIn K (.ref C) m = some (some (.ref f))
  fn : PySem.W.isFn K (.ref f) = true
  kp : PySem.W.keepIn K (.ref f) = true

section
variable {X : Cx} {pins : List (Addr × Obj)} {σ : St} {H : Hp} {s : Shared} {a C dx : Addr} {fs : List (Str × V)} {f : Str} {v : V} {A : Around} {E : Value → Shared → Prop}

end

section
variable {X : Cx} {o e value : Expr} {f : Str} {pos pos' tpos : Pos} {ta tv : TE}
end

section
variable {X : Cx} {pins : List (Addr × Obj)} {σ : St} {H : Hp} {s : Shared} {A : Around} {E : Value → Shared → Prop} {Q : Value → Shared → Prop} {c : Value} {b : Bool}
inductive TyOf (K : PySem.W.Frag) (H : Hp) : V → Value → Prop where
  | non : TyOf K H .non (.type "NoneType")
  | bl (x : Bool) : TyOf K H (.bl x) (.type "bool")
  | int (i : Int) : TyOf K H (.int i) (.type "int")
  | str (x : Str) : TyOf K H (.str x) (.type "str")
  | flt (x : UInt64) : TyOf K H (.flt x) (.type "float")
  | lst {a : Addr} {xs : List V} (e : H a = some (.lst xs)) : TyOf K H (.ref a) (.type "list")
  | frz {a : Addr} {o : Obj} {xs : List V} (e : H a = some (.frz o (.lst xs))) : TyOf K H (.ref a) (.type "list")
  | tup {a : Addr} {xs : List V} (e : H a = some (.tup xs)) : TyOf K H (.ref a) (.type "tuple")
  | dK {a : Addr} {kvs : List (Key × V)} (e : H a = some (.dK kvs)) : TyOf K H (.ref a) (.type "dict")
  | dT {a : Addr} {kvs : List (List Key × V)} (e : H a = some (.dT kvs)) : TyOf K H (.ref a) (.type "dict")
  | ins {a C dx : Addr} {fs : List (Str × V)} (e : H a = some (.ins C dx fs)) (cl : Cls K C) (ha : PySem.W.findIn K (.ref C) "__class__" = some (some (.builtin "object.__class__")))
      (hn : PySem.W.specialIn K (.builtin "object.__class__") "__get__" = some (some (.builtin "getset_descriptor.__get__"))) (htk : PySem.W.takesIn K (.builtin "object.__class__") = some true)
      (hm : PySem.W.mroIn K C (.type "object") = some true) : TyOf K H (.ref a) (.ref C)
theorem isinst_ok {x : V} {u t : Value} (I : Inv X pins σ H s) (rx : RelV x u) (ty : TyOf X.K H x t) (e : PySem.W.kitOne X.K t c = some b) (h : ∀ tk, Q (.bool b) { s with toks := tk }) :
    wpAny (model X.prog X.w) A (call (.builtin "isinstance") [u, c]) Q E s := by
  cases ty with
  | non => cases (show u = Value.none from rx); exact PySem.W.kia_one PySem.W.kitx_none I.kIn True.intro e (fun z => nomatch z) h
  | bl y => cases (show u = Value.bool y from rx); exact PySem.W.kia_one PySem.W.kitx_bool I.kIn True.intro e (fun z => nomatch z) h
  | int i => obtain ⟨t, q⟩ := (show ∃ t, u = Value.int i t from rx); cases q; exact PySem.W.kia_one PySem.W.kitx_int I.kIn True.intro e (fun z => nomatch z) h
  | str y => obtain ⟨t, q⟩ := (show ∃ t, u = Value.str y t from rx); cases q; exact PySem.W.kia_one PySem.W.kitx_str I.kIn True.intro e (fun z => nomatch z) h
  | flt y => obtain ⟨t, q⟩ := (show ∃ t, u = Value.float y t from rx); cases q; exact PySem.W.kia_one PySem.W.kitx_float I.kIn True.intro e (fun z => nomatch z) h
  | @lst a xs ea =>
    cases (show u = Value.ref a from rx)
    obtain ⟨_, _, n, _, h1⟩ := (show ObjOk X.prog X.w H s.heap a (.lst xs) from I.hok a _ ea)
    exact PySem.W.kia_one PySem.W.kitx_list I.kIn ⟨_, h1, rfl⟩ e (fun z => nomatch z) h
  | @frz a ob xs ea =>
    cases (show u = Value.ref a from rx)
    obtain ⟨_, _, _, n, _, h1⟩ := (show ObjOk X.prog X.w H s.heap a (.frz ob (.lst xs)) from I.hok a _ ea)
    exact PySem.W.kia_one PySem.W.kitx_list I.kIn ⟨_, h1, rfl⟩ e (fun z => nomatch z) h
  | @tup a xs ea =>
    cases (show u = Value.ref a from rx)
    obtain ⟨_, _, _, p⟩ := (show ObjOk X.prog X.w H s.heap a (.tup xs) from I.hok a _ ea)
    obtain ⟨o, h1, h2, _⟩ := p
    exact PySem.W.kia_one PySem.W.kitx_tuple I.kIn ⟨o, h1, h2⟩ e (fun z => nomatch z) h
  | @dK a kvs ea =>
    cases (show u = Value.ref a from rx)
    obtain ⟨_, _, vs, _, p⟩ := (show ObjOk X.prog X.w H s.heap a (.dK kvs) from I.hok a _ ea)
    obtain ⟨o, es, ep, h1, h2, _⟩ := p
    exact PySem.W.kia_one PySem.W.kitx_dict I.kIn ⟨o, h1, h2.1⟩ e (fun z => nomatch z) h
  | @dT a kvs ea =>
    cases (show u = Value.ref a from rx)
    obtain ⟨_, _, xs, _, o, es, ep, h1, h2, _⟩ := (show ObjOk X.prog X.w H s.heap a (.dT kvs) from I.hok a _ ea)
    exact PySem.W.kia_one PySem.W.kitx_dict I.kIn ⟨o, h1, h2.1⟩ e (fun z => nomatch z) h
  | @ins a C dx fs ea cl ha hn htk hm =>
    cases (show u = Value.ref a from rx)
    obtain ⟨mA, O, _⟩ := ins_get I.hok ea
    obtain ⟨od, J, _⟩ := O.look
    exact PySem.W.kia_one (PySem.W.kitx_own (cl.get _) cl.hd ha hn htk hm) I.kIn J e (fun z => nomatch z) h
end
end L2

namespace L2
open PySem PySem.Spec PyProof.Rows

structure Room (k : Nat) (A : Around) : Prop where
  hd : A.handled = none
  dp : A.depth + 3 * k + 5 < recursionLimit
  un : A.units + 16 * k + 200 < cLine
theorem Room.mono {j k : Nat} {A : Around} (r : Room k A) (h : j ≤ k) : Room j A := ⟨r.hd, by have := r.dp; omega, by have := r.un; omega⟩
theorem Room.deeper {k : Nat} {A : Around} (r : Room (k + 1) A) (env : Env) : Room k (A.deeper env) :=
  ⟨r.hd, by have := r.dp; show A.depth + 1 + 3 * k + 5 < _; omega, by have := r.un; show A.units + 3 + 16 * k + 200 < _; omega⟩
theorem Room.in1 {k : Nat} {A : Around} (r : Room (k + 1) A) : Room k A.in1 :=
  ⟨r.hd, by have := r.dp; show A.depth + 3 * k + 5 < _; omega, by have := r.un; show A.units + 1 + 16 * k + 200 < _; omega⟩
theorem Room.depth {k : Nat} {A : Around} (r : Room k A) : A.depth < recursionLimit := by have := r.dp; omega
theorem Room.units {k : Nat} {A : Around} (r : Room k A) : A.units + 64 < cLine := by have := r.un; omega
def tNil : TA := fun _ H Q => Q [] H
def tCons (ta : TE) (tr : TA) : TA := fun σ H Q => ta σ H fun x H1 => tr σ H1 fun xs H2 => Q (x :: xs) H2
section
variable {X : Cx} {e : Expr} {es : List Expr} {te : TE} {t : TA} {pos : Pos}
theorem pa_nil : PA X [] tNil := fun _ _ _ _ H Q I h => Calls.spliced_nil ⟨[], H, I, .nil, h⟩
theorem pa_cons (ha : PE X e te) (hr : PA X es t) (hs : starEach (e :: es) X.env = (false, eval e X.env) :: starEach es X.env := by rfl) : PA X (e :: es) (tCons te t) := by
  intro pos pins s σ H Q I h
  rw [hs]
  show wpAny _ _ (spliced ((false, eval e X.env) :: backTo pos (starEach es X.env))) _ _ s
  refine Calls.spliced_cons (thn (ha pins s σ H _ I h) fun u s1 ⟨x, H1, I1, r1, q1⟩ => ?_)
  exact thn (hr pos pins s1 σ H1 _ I1 q1) fun us s2 ⟨xs, H2, I2, r2, q2⟩ => ⟨x :: xs, H2, I2, .cons r1 r2, q2⟩

def tTup (t : TA) : TE := fun σ H Q => t σ H fun xs H1 => xs.length ≤ sizeLine ∧ ∀ p, H1 p = none → Q (.ref p) (upd H1 p (.tup xs))
def tLst (t : TA) : TE := fun σ H Q => t σ H fun xs H1 => xs.length ≤ sizeLine ∧ ∀ p, H1 p = none → Q (.ref p) (upd H1 p (.lst xs))
theorem pe_tup {x1} (h : PA X es t) : PE X (.Tuple es x1 pos) (tTup t) := by
  intro pins s σ H Q I hq
  refine wpAny_Tuple_spliced (thn (h pos pins s σ H _ I hq) fun us s1 ⟨xs, H1, I1, r, z, q⟩ => ⟨by rw [← r.length]; exact z, ?_⟩)
  have hf : H1 s1.heap.objs.size = none := I1.hok.fresh (Nat.le_refl _)
  refine ⟨.ref s1.heap.objs.size, upd H1 s1.heap.objs.size (.tup xs), I1.laid (t' := s1.toks) (fun b u e => Heap.get?_push_of_some _ e) (Nat.le_refl _) ?_, rfl, q _ hf⟩
  exact ⟨z, us, r, ⟨_, Heap.get?_push_size _ rfl, rfl, _, rfl⟩⟩
theorem pe_lst (h : PA X es t) : PE X (.List es pos) (tLst t) := by
  intro pins s σ H Q I hq
  refine wpAny_List_spliced (thn (h pos pins s σ H _ I hq) fun us s1 ⟨xs, H1, I1, r, z, q⟩ => ⟨by rw [← r.length]; exact z, ?_⟩)
  have hf : H1 s1.heap.objs.size = none := I1.hok.fresh (Nat.le_refl _)
  refine ⟨.ref s1.heap.objs.size, upd H1 s1.heap.objs.size (.lst xs), I1.laid (t' := s1.toks) (fun b u e => Heap.get?_push_of_some _ e) (Nat.le_refl _) ?_, rfl, q _ hf⟩
  exact ⟨z, us, 0, r, Heap.get?_push_size _ rfl⟩
end

abbrev Sp := List V → Hp → VK → XK → Prop
abbrev CXT := List Env → Hp → Shared → XK → Value → Shared → Prop

structure Env0 (P : Program) (w : World) (K : PySem.W.Frag) (mg : Str → Option Value) (base : Heap) (A : Around) (outer : List Env) (s : Shared) (H : Hp) : Prop where
  frames : A.frames = some outer
  mod : Mod K mg base
  bs : ∀ b o, base.get? b = some o → s.heap.get? b = some o ∧ H b = none
  bsz : base.objs.size ≤ s.heap.objs.size
  funs : s.heap.FunFrames base outer
  frf : ∀ b ∈ frs outer, H b = none
  hok : HOk P w H s.heap
  bare : AllBare s.gens
def CE (outer : List Env) (P : Program) (w : World) (H : Hp) (s : Shared) (Q : VK) (u : Value) (s' : Shared) : Prop :=
  ∃ v H', s'.os = s.os ∧ AllBare s'.gens ∧ Un (frs outer) [] H H' s.heap s'.heap ∧ HOk P w H' s'.heap ∧ RelV v u ∧ Q v H'
def CR (CX : CXT) (outer : List Env) (P : Program) (w : World) (H : Hp) (s : Shared) (Q : VK) (E : XK) (r : Result) (s' : Shared) : Prop :=
  match r with
  | .ok (.ret u) => CE outer P w H s Q u s'
  | .ok _ => False
  | .error e => CX outer H s E e s'
structure FnOk (P : Program) (w : World) (K : PySem.W.Frag) (mg : Str → Option Value) (base : Heap) (CX : CXT) (k : Nat) (f : Addr) (fd : FuncData) (ps : List Str) (sp : Sp) : Prop where
  len : ∀ vs H Q E, sp vs H Q E → vs.length = ps.length
  run : ∀ (A : Around) (outer : List Env) (s : Shared) (H : Hp) (args : Args) (us : List Value) (vs : List V) (Q : VK) (E : XK), Room k A → Env0 P w K mg base A outer s H → BindsTo s fd args (ps.zip us) → Vals vs us → sp vs H Q E →
    codeAny (model P w) A (.call (.ref f) args) (CR CX outer P w H s Q E) s
theorem FnOk.mono {P : Program} {w : World} {K : PySem.W.Frag} {mg : Str → Option Value} {base : Heap} {CX : CXT} {j k : Nat} {f : Addr} {fd : FuncData} {ps : List Str} {sp : Sp} (F : FnOk P w K mg base CX j f fd ps sp) (h : j ≤ k) :
    FnOk P w K mg base CX k f fd ps sp := ⟨F.len, fun A outer s H args us vs Q E hr => F.run A outer s H args us vs Q E (hr.mono h)⟩
theorem Env0.in1 {P : Program} {w : World} {K : PySem.W.Frag} {mg : Str → Option Value} {base : Heap} {A : Around} {outer : List Env} {s : Shared} {H : Hp} (e : Env0 P w K mg base A outer s H) :
    Env0 P w K mg base A.in1 outer s H := ⟨e.frames, e.mod, e.bs, e.bsz, e.funs, e.frf, e.hok, e.bare⟩

section
variable {X : Cx} {pins : List (Addr × Obj)} {σ : St} {H : Hp} {s s' : Shared}
theorem Inv.env0 (I : Inv X pins σ H s) : Env0 X.prog X.w X.K X.mg X.base X.A X.stack s H :=
  ⟨I.ok.frames, I.ok.mod, I.bs, Nat.le_trans I.ok.bsz I.sz, I.stack, I.stkFree, I.hok, I.bare⟩
theorem Inv.after {Q : VK} {u : Value} (I : Inv X pins σ H s) (h : CE X.stack X.prog X.w H s Q u s') : EP X pins σ Q u s' := by
  obtain ⟨v, H', os, bare, un, hok, r, q⟩ := h
  obtain ⟨hh, g, d, t, os'⟩ := s'
  obtain rfl : os' = s.os := os
  exact ⟨v, H', I.call (h' := hh) (g' := g) (d' := d) (t' := t) (ch := []) un hok bare (fun b z => absurd z (by simp)), r, q⟩
end

def tCall (sp : Sp) (dvs : List V) (E : XK) (t : TA) : TE := fun σ H Q => t σ H fun vs H1 => sp (vs ++ dvs) H1 Q E
def Binds (K : PySem.W.Frag) (fd : FuncData) (ps : List Str) (ds : List Value) : Prop :=
  ∀ (s : Shared) (us : List Value), K.In s.heap → (us ++ ds).length = ps.length → BindsTo s fd ⟨us, []⟩ (ps.zip (us ++ ds))
theorem Binds.all {K : PySem.W.Frag} {fd : FuncData} {ps : List Str} (h : ∀ us : List Value, us.length = ps.length → bindArgs fd ⟨us, []⟩ = pure (ps.zip us)) : Binds K fd ps [] := fun s us _ hl => by
  rw [List.append_nil] at hl ⊢
  exact .of_eq (h us hl)

def Passes (CX : CXT) (X : Cx) (E : XK) : Prop := ∀ (pins : List (Addr × Obj)) (σ : St) (H : Hp) (s : Shared) (e : Value) (s' : Shared), Inv X pins σ H s → CX X.stack H s E e s' → X.xe e s'

section
variable {X : Cx} {CX : CXT} {k : Nat} {f C : Addr} {fd : FuncData} {ps : List Str} {sp : Sp} {dvs : List V} {ds : List Value} {E : XK} {x m : Str} {p pos apos : Pos} {e o : Expr} {es : List Expr} {ta : TE} {t : TA}

theorem run_fn {pins : List (Addr × Obj)} {σ : St} {H : Hp} {s : Shared} {Q : VK} {us : List Value} {vs : List V} (F : FnOk X.prog X.w X.K X.mg X.base CX k f fd ps sp) (hr : Room k X.A) (hb : Binds X.K fd ps ds) (hd : Vals dvs ds) (hx : Passes CX X E)
    (I : Inv X pins σ H s) (r : Vals vs us) (h : sp (vs ++ dvs) H Q E) : wpAny (model X.prog X.w) X.A (call (.ref f) us) (EP X pins σ Q) X.xe s := by
  have r2 : Vals (vs ++ dvs) (us ++ ds) := r.append hd
  have hl : (us ++ ds).length = ps.length := by rw [← r2.length]; exact F.len _ _ _ _ h
  refine wpAny_call (codeAny_mono (F.run X.A X.stack s H ⟨us, []⟩ (us ++ ds) (vs ++ dvs) Q E hr I.env0 (hb s us I.kIn hl) r2 h) fun r s' hq => ?_)
  cases r with
  | error e => exact hx pins σ H s e s' I hq
  | ok fl =>
    cases fl with
    | ret u => exact I.after hq
    | next => exact False.elim hq
    | brk => exact False.elim hq
    | cont => exact False.elim hq

theorem pe_call (F : FnOk X.prog X.w X.K X.mg X.base CX k f fd ps sp) (hr : Room k X.A) (hg : Gl X x) (hm : X.mg x = some (.ref f)) (hk : PySem.W.keepIn X.K (.ref f) = true) (hb : Binds X.K fd ps ds) (hd : Vals dvs ds) (hx : Passes CX X E)
    (ha : PA X (e :: es) t) (hdb : (x == ("__debug__" : Str)) = false := by decide) (he : starEach (e :: es) X.env = (false, eval e X.env) :: starEach es X.env := by rfl) (hpl : (backTo pos (starEach es X.env)).any (·.1) = false := by rfl) :
    PE X (.Call (.Name x p) (e :: es) [] pos) (tCall sp dvs E t) := by
  intro pins s σ H Q I h
  refine wpAny_Call_Name_kw (ld_glob I hg hm ?_ hdb)
  refine PySem.W.callWith_K (h₀ := X.base) I.ok.mod.kin hk (thn (ha pos pins s σ H _ I h) fun us s1 ⟨vs, H1, I1, r, q⟩ => ⟨I1.kIn, ?_⟩) he hpl
  exact run_fn F hr hb hd hx I1 r q
structure Mk (K : PySem.W.Frag) (C f : Addr) : Prop where
  makes : PySem.W.makesIn K C = true
  init : PySem.W.findIn K (.ref C) "__init__" = some (some (.ref f))
  fn : PySem.W.isFn K (.ref f) = true
  kp : PySem.W.keepIn K (.ref C) = true

end

section
variable {X : Cx} {CX : CXT} {k : Nat} {f C : Addr} {fd : FuncData} {ps ks : List Str} {sp : Sp} {E : XK} {x m : Str} {p pos apos kpos : Pos} {e o : Expr} {es : List Expr} {kws : List Keyword} {te ta : TE} {t tk : TA} {nm : Option Str}
structure KBinds (K : PySem.W.Frag) (fd : FuncData) (ps ks : List Str) (g : List Value → List Value → List Value) (gV : List V → List V → List V) : Prop where
  to : ∀ (s : Shared) (us ws : List Value), K.In s.heap → (g us ws).length = ps.length → BindsTo s fd ⟨us, ks.zip ws⟩ (ps.zip (g us ws))
  rel : ∀ {vs : List V} {us : List Value} {zs : List V} {ws : List Value}, Vals vs us → Vals zs ws → Vals (gV vs zs) (g us ws)
variable {g : List Value → List Value → List Value} {gV : List V → List V → List V}
end

structure FnScope (N P : List Str) (sc : Scope) : Prop where
  kind : sc.kind = .function
  co : sc.isCoroutine = false
  gen : sc.isGenerator = false
  nd : N.Nodup
  pre : N.take P.length = P
  par : ∀ x ∈ P, sc.names.lookup x = some .local ∨ sc.names.lookup x = some .cell
  nofree : ∀ y ∈ sc.names, y.2 ≠ .free

theorem bindL_out {kindOf : Str → Option NameKind} {x : Str} : ∀ {binds : List (Str × Value)} {m : Str → Option Value}, (∀ v, (x, v) ∉ binds) → bindL kindOf binds m x = m x
  | [], _, _ => rfl
  | (n, v) :: r, m, h => by
    unfold bindL
    rw [bindL_out fun w hw => h w (List.mem_cons_of_mem _ hw)]
    split
    · have : x ≠ n := by rintro rfl; exact h v List.mem_cons_self
      simp [this]
    · rfl
theorem bindC_out {kindOf : Str → Option NameKind} {x : Str} : ∀ {binds : List (Str × Value)} {m : Str → Option Value}, (∀ v, (x, v) ∉ binds) → bindC kindOf binds m x = m x
  | [], _, _ => rfl
  | (n, v) :: r, m, h => by
    unfold bindC
    rw [bindC_out fun w hw => h w (List.mem_cons_of_mem _ hw)]
    split
    · rfl
    · have : x ≠ n := by rintro rfl; exact h v List.mem_cons_self
      simp [this]
theorem bindL_get {kindOf : Str → Option NameKind} {x : Str} {v : Value} : ∀ {P : List Str} {vs : List Value} {i : Nat} {m : Str → Option Value}, P.Nodup → P[i]? = some x → vs[i]? = some v → kindOf x = some .local →
    bindL kindOf (P.zip vs) m x = some v
  | [], _, _, _, _, h, _, _ => by simp at h
  | _ :: _, [], _, _, _, _, h, _ => by simp at h
  | p :: P, w :: vs, 0, m, nd, h1, h2, hk => by
    simp at h1 h2; subst h1; subst h2
    show bindL kindOf ((p, w) :: P.zip vs) m p = _
    unfold bindL
    rw [bindL_out fun v hv => (List.nodup_cons.mp nd).1 (List.of_mem_zip hv).1, if_pos hk]
    simp
  | p :: P, w :: vs, i + 1, m, nd, h1, h2, hk => by
    show bindL kindOf ((p, w) :: P.zip vs) m x = _
    unfold bindL
    exact bindL_get (i := i) (List.nodup_cons.mp nd).2 (by simpa using h1) (by simpa using h2) hk
theorem bindC_get {kindOf : Str → Option NameKind} {x : Str} {v : Value} : ∀ {P : List Str} {vs : List Value} {i : Nat} {m : Str → Option Value}, P.Nodup → P[i]? = some x → vs[i]? = some v → kindOf x ≠ some .local →
    bindC kindOf (P.zip vs) m x = some v
  | [], _, _, _, _, h, _, _ => by simp at h
  | _ :: _, [], _, _, _, _, h, _ => by simp at h
  | p :: P, w :: vs, 0, m, nd, h1, h2, hk => by
    simp at h1 h2; subst h1; subst h2
    show bindC kindOf ((p, w) :: P.zip vs) m p = _
    unfold bindC
    rw [bindC_out fun v hv => (List.nodup_cons.mp nd).1 (List.of_mem_zip hv).1, if_neg hk]
    simp
  | p :: P, w :: vs, i + 1, m, nd, h1, h2, hk => by
    show bindC kindOf ((p, w) :: P.zip vs) m x = _
    unfold bindC
    exact bindC_get (i := i) (List.nodup_cons.mp nd).2 (by simpa using h1) (by simpa using h2) hk

def start (N : List Str) (vs : List V) : St := vs.map some ++ List.replicate (N.length - vs.length) none

def cxOf (CX : CXT) (P : Program) (w : World) (K : PySem.W.Frag) (mg : Str → Option Value) (base : Heap) (N : List Str) (qual : Str) (scope : Scope) (f : Addr) (cd : Value) (A : Around) (outer : List Env) (s : Shared) (H : Hp) (E : XK) : Cx where
  prog := P
  w := w
  K := K
  mg := mg
  base := base
  A := A.deeper (envOfC qual scope s.heap.objs.size f cd)
  N := N
  s₀ := s
  H₀ := H
  env := envOfC qual scope s.heap.objs.size f cd
  outer := outer
  stack := envOfC qual scope s.heap.objs.size f cd :: outer
  ex := []
  calm := true
  fn := fun _ => true
  pn := []
  xe := fun e s' => wpAny (model P w) (A.deeper (envOfC qual scope s.heap.objs.size f cd)) (leaving (envOfC qual scope s.heap.objs.size f cd) e) (fun _ s'' => CX outer H s E e s'') (fun e' s'' => CX outer H s E e' s'') s'

theorem cell_has {sc : Scope} {n : Nat} {x : Str} (h : sc.names.lookup x = some .cell) : ∃ c, (cellsFrom n sc.names []).lookup x = some c := by
  have q := PySem.W.cellsFrom_some sc.names n [] (.inl h)
  exact Option.isSome_iff_exists.mp q

theorem inv_start {CX : CXT} {P : Program} {w : World} {K : PySem.W.Frag} {mg : Str → Option Value} {base : Heap} {N ps : List Str} {qual : Str} {scope : Scope} {f : Addr} {cd : Value} {A : Around} {outer : List Env} {s s1 : Shared} {H : Hp} {E : XK} {us : List Value} {vs : List V}
    (S : FnScope N ps scope) (hd : A.handled = none) (e0 : Env0 P w K mg base A outer s H) (hl : vs.length = ps.length) (r : Vals vs us)
    (x : InCallC s s.heap.objs.size (bindL (envOfC qual scope s.heap.objs.size f cd).kindOf (ps.zip us) fun _ => none) (cellsFrom (s.heap.objs.size + 1) scope.names []) (bindC (envOfC qual scope s.heap.objs.size f cd).kindOf (ps.zip us) fun _ => none) s1) :
    Inv (cxOf CX P w K mg base N qual scope f cd A outer s H E) [] (start N vs) H s1 := by
  have hpl : ps.length ≤ N.length := by have := congrArg List.length S.pre; rw [List.length_take] at this; omega
  obtain ⟨h1, tk, rfl, hk⟩ := x.done
  have noA : ∀ b : Addr, b ∉ (cxOf CX P w K mg base N qual scope f cd A outer s H E).ex := fun b z => absurd (show b ∈ ([] : List Addr) from z) (by simp)
  refine ⟨⟨e0.mod, S.kind, rfl, rfl, Nat.le_refl _, fun y z c h1 h2 => ?_, fun y hy => ?_, fun y c _ h => ?_, fun _ => hd, Around.frames_deeper e0.frames, .inr ⟨rfl, rfl⟩, fun b z => absurd z (noA b), e0.bs, e0.bsz, fun b _ _ => noA b, fun b z => absurd z (noA b), e0.funs, e0.frf⟩,
    rfl, e0.bare, Un.kept hk, ⟨_, x.toInCall.ns, fun i y v h1 h2 h3 => ?_⟩, fun y c h => ⟨_, x.cell y c h⟩, e0.hok.fresh (Nat.le_refl _), fun y c h => ?_, fun p hp => absurd (show p ∈ ([] : List (Addr × Obj)) from hp) (by simp), e0.hok.kept hk, ?_⟩
  · exact name_of_addr x.apart (PySem.mem_of_lookup h1) (PySem.mem_of_lookup h2)
  · have hy : scope.names.lookup y = some .cell ∨ scope.names.lookup y = some .free := hy
    rcases hy with hy | hy
    · exact cell_has hy
    · exact absurd rfl (S.nofree _ (PySem.mem_of_lookup hy))
  · exact Nat.le_of_lt (x.above y c (PySem.mem_of_lookup h))
  · have hi : i < vs.length := by
      unfold start at h2
      by_cases hi : i < vs.length
      · exact hi
      · rw [List.getElem?_append_right (by simpa using hi)] at h2
        rw [List.getElem?_replicate] at h2
        split at h2 <;> cases h2
    have ha : vs[i]? = some v := by
      unfold start at h2
      rw [List.getElem?_append_left (by simpa using hi), List.getElem?_map] at h2
      cases e : vs[i]? with
      | none => rw [e] at h2; cases h2
      | some a => rw [e] at h2; cases h2; rfl
    obtain ⟨u, hu, rv⟩ := r.get ha
    have hp : ps[i]? = some y := by
      rw [← S.pre, List.getElem?_take_of_lt (by omega)]; exact h1
    have ndP : ps.Nodup := by rw [← S.pre]; exact S.nd.sublist (List.take_sublist _ _)
    refine ⟨u, rv, ?_⟩
    rcases S.par y (List.mem_of_getElem? hp) with k | k
    · exact .inl ⟨k, bindL_get ndP hp hu k⟩
    · obtain ⟨c, e⟩ := cell_has (n := s.heap.objs.size + 1) k
      refine .inr ⟨.inl k, c, e, ?_⟩
      have q := x.cell y c e
      rw [bindC_get ndP hp hu (by show scope.names.lookup y ≠ _; rw [k]; decide)] at q
      exact q
  · exact e0.hok.fresh (Nat.le_of_lt (x.above y c (PySem.mem_of_lookup h)))
  · unfold start
    show _ = N.length
    rw [List.length_append, List.length_map, List.length_replicate]
    omega

theorem fn_of {CX : CXT} {P : Program} {w : World} {K : PySem.W.Frag} {mg : Str → Option Value} {base : Heap} {k : Nat} {f : Addr} {name qual : Str} {params : Arguments} {body : List Stmt} {scope : Scope} {dV kV doc pm cdv ct oc : Value} {an od : Option Addr}
    {osl : Array (Option Value)} {N ps : List Str} {sp : Sp} (lk : K.lookup f = some ⟨oc, od, .func (PySem.W.fnOf name qual params body scope dV kV doc pm an cdv ct), osl⟩) (hcd : PySem.W.codeIn K cdv qual = true) (S : FnScope N ps scope)
    (len : ∀ vs H Q E, sp vs H Q E → vs.length = ps.length)
    (hbody : ∀ (A : Around) (outer : List Env) (s : Shared) (H : Hp) (vs : List V) (Q : VK) (E : XK), Room k (A.deeper (envOfC qual scope s.heap.objs.size f cdv)) → sp vs H Q E →
      ∃ t, PSs (cxOf CX P w K mg base N qual scope f cdv A outer s H E) body t ∧ t { nx := fun _ H' => Q .non H', rt := Q } (start N vs) H) :
    FnOk P w K mg base CX (k + 1) f (PySem.W.fnOf name qual params body scope dV kV doc pm an cdv ct) ps sp := by
  refine ⟨len, fun A outer s H args us vs Q E hr e0 hb r hsp => ?_⟩
  have hl := len _ _ _ _ hsp
  have KX : K.In s.heap := e0.mod.kin.keeps fun b o e => (e0.bs b o e).1
  have lim : s.heap.NoLimit := e0.mod.nolimit.keeps fun b o e => (e0.bs b o e).1
  have hkind : ∀ y ∈ ps.zip us, scope.names.lookup y.1 = some .local ∨ (scope.names.lookup y.1 = some .cell ∧ ((cellsFrom (s.heap.objs.size + 1) scope.names []).lookup y.1).isSome = true) := fun ⟨n, v⟩ hy => by
    rcases S.par n (List.of_mem_zip hy).1 with q | q
    · exact .inl q
    · exact .inr ⟨q, PySem.W.cellsFrom_some _ _ _ (.inl q)⟩
  refine codeAny_call_function hr.depth (KX _ _ lk) rfl S.co S.gen rfl (PySem.W.codeRec_of KX hcd) (hb _ _ _ _ ?_)
  refine wpAny_newFunctionEnv_cells S.kind hkind fun env he s1 x => ?_
  subst he
  refine ⟨lim.keeps x.toInCall.keep, codeAny_func ?_⟩
  obtain ⟨t, ht, hq⟩ := hbody A outer s H vs Q E (hr.deeper _) hsp
  have I : Inv (cxOf CX P w K mg base N qual scope f cdv A outer s H E) [] (start N vs) H s1 := inv_start S hr.hd e0 hl r x
  refine wpAny_mono (ht [] s1 (start N vs) H _ I hq) (fun fl s' hs => ?_) fun e s' hs => hs
  have fin : ∀ {σ' : St} {H' : Hp} {v : V} {u : Value}, Inv (cxOf CX P w K mg base N qual scope f cdv A outer s H E) [] σ' H' s' → RelV v u → Q v H' → CE outer P w H s Q u s' :=
    fun {σ' H' v u} J rv q => ⟨v, H', J.os, J.bare, J.base, J.hok, rv, q⟩
  cases fl with
  | ret u =>
    obtain ⟨v, σ', H', J, rv, q⟩ := hs
    exact fin J rv q
  | next =>
    obtain ⟨σ', H', J, q⟩ := hs
    exact fin (v := V.non) (u := Value.none) J rfl q
  | brk =>
    obtain ⟨_, _, _, q⟩ := hs
    exact False.elim q
  | cont =>
    obtain ⟨_, _, _, q⟩ := hs
    exact False.elim q
end L2

namespace L2
open PySem PySem.Spec PyProof.Rows
section
variable {X : Cx} {x : Str} {p pos : Pos} {e : Expr} {es : List Expr} {t : TA} {id T : String} {r : List V → Hp → VK → Prop}

def tCB (r : List V → Hp → VK → Prop) (t : TA) : TE := fun σ H Q => t σ H fun vs H1 => r vs H1 Q
theorem pe_callB (hc : CallR X (.builtin id) r) (hg : Gl X x) (hm : X.mg x = none) (hv : bootBuiltins x = some (.builtin id)) (ha : PA X (e :: es) t) (hn : x ≠ "__name__" := by decide) (hdb : (x == ("__debug__" : Str)) = false := by decide)
    (he : starEach (e :: es) X.env = (false, eval e X.env) :: starEach es X.env := by rfl) (hpl : (backTo pos (starEach es X.env)).any (·.1) = false := by rfl) : PE X (.Call (.Name x p) (e :: es) [] pos) (tCB r t) := by
  intro pins s σ H Q I h
  refine wpAny_Call_Name_kw (ld_blt I hg hm hv ?_ hn hdb)
  exact PyProof.Rows.callWith_builtin1 (thn (ha pos pins s σ H _ I h) fun us s1 ⟨vs, H1, I1, r1, q1⟩ => hc pins s1 σ H1 vs us Q I1 r1 q1) he hpl
theorem pe_callTy (hc : CallR X (.type T) r) (hg : Gl X x) (hm : X.mg x = none) (hv : bootBuiltins x = some (.type T)) (ha : PA X (e :: es) t) (hn : x ≠ "__name__" := by decide) (hdb : (x == ("__debug__" : Str)) = false := by decide)
    (he : starEach (e :: es) X.env = (false, eval e X.env) :: starEach es X.env := by rfl) (hpl : (backTo pos (starEach es X.env)).any (·.1) = false := by rfl) : PE X (.Call (.Name x p) (e :: es) [] pos) (tCB r t) := by
  intro pins s σ H Q I h
  refine wpAny_Call_Name_kw (ld_blt I hg hm hv ?_ hn hdb)
  exact PyProof.Rows.callWith_type1 (thn (ha pos pins s σ H _ I h) fun us s1 ⟨vs, H1, I1, r1, q1⟩ => hc pins s1 σ H1 vs us Q I1 r1 q1) he hpl
end
end L2

namespace HT
open PySem PyProof.Rows

section
open PySem.SeqAt
open PySem.AutoSeq1 (wpAny_loadPart')
open PySem.MeetsSeq PySem.MeetsSeq2 PySem.MeetsSeq3

end

section
variable {prog : Program} {w : World} {A : Around} {E : Value → Shared → Prop} {s : Shared}

end
end HT

namespace L2
open PySem PySem.Spec PyProof.Rows

abbrev TO := St → Hp → (Option Int → Hp → Prop) → Prop
section
variable {X : Cx} {e : Expr} {te : TE} {lo hi : Option Expr} {tl th : TO} {pos p2 : Pos}

end
end L2

namespace L2
open PySem PySem.Spec PyProof.Rows

def ixN (n : Nat) (i : Int) : Option Nat := if 0 ≤ i then (if i < n then some i.toNat else none) else if -(n : Int) ≤ i then some (i + n).toNat else none
def atI {α : Type} (xs : List α) (i : Int) : Option α := (ixN xs.length i).bind fun j => xs[j]?
theorem ixN_seq {n : Nat} {i : Int} {j : Nat} (h : ixN n i = some j) : seqIndex? i n = some j ∧ j < n ∧ -(n : Int) ≤ i ∧ i < n := by
  unfold ixN at h
  by_cases h0 : 0 ≤ i
  · rw [if_pos h0] at h
    by_cases h1 : i < n
    · rw [if_pos h1] at h
      have e : i.toNat = j := Option.some.inj h
      exact ⟨by rw [seqIndex_of h0 h1, e], by omega, by omega, h1⟩
    · rw [if_neg h1] at h; cases h
  · rw [if_neg h0] at h
    by_cases h1 : -(n : Int) ≤ i
    · rw [if_pos h1] at h
      have e : (i + n).toNat = j := Option.some.inj h
      exact ⟨by rw [seqIndex_neg (by omega) h1, e], by omega, h1, by omega⟩
    · rw [if_neg h1] at h; cases h
theorem atI_get {α : Type} {xs : List α} {i : Int} {v : α} (h : atI xs i = some v) : ∃ j, seqIndex? i xs.length = some j ∧ xs[j]? = some v ∧ j < xs.length ∧ -(xs.length : Int) ≤ i ∧ i < xs.length := by
  unfold atI at h
  cases e : ixN xs.length i with
  | none => rw [e] at h; cases h
  | some j =>
    rw [e] at h
    obtain ⟨h1, h2, h3, h4⟩ := ixN_seq e
    exact ⟨j, h1, h, h2, h3, h4⟩
theorem atI_nat {α : Type} {xs : List α} {j : Nat} {v : α} (h : xs[j]? = some v) : atI xs (j : Int) = some v := by
  have hj : j < xs.length := (List.getElem?_eq_some_iff.mp h).1
  have e : ixN xs.length (j : Int) = some j := by
    unfold ixN
    rw [if_pos (by omega), if_pos (by omega)]; simp
  unfold atI; rw [e]; exact h
def PlainIx (b : Expr) : Prop := ∀ o i, subscripted b false o i = operate [o, i] (getItem o i)
def IxR (X : Cx) (r : R2) : Prop :=
  ∀ (value slice : Expr) (pins : List (Addr × Obj)) (s : Shared) (σ : St) (H : Hp) (x y : V) (v u : Value) (Q : VK), Inv X pins σ H s → RelV x v → RelV y u → r x y H Q →
    subscripted slice false v u = operate [v, u] (getItem v u) → wpAny (model X.prog X.w) X.A (subscriptTail value slice v u) (EP X pins σ Q) X.xe s
def MtR (X : Cx) (id : String) (r : V → List V → Hp → VK → Prop) : Prop :=
  ∀ (pins : List (Addr × Obj)) (s : Shared) (σ : St) (H : Hp) (x : V) (xs : List V) (v : Value) (us : List Value) (Q : VK), Inv X pins σ H s → RelV x v → Vals xs us → r x xs H Q →
    wpAny (model X.prog X.w) X.A (call (.builtin id) (v :: us)) (EP X pins σ Q) X.xe s
section
variable {X : Cx} {a b : Expr} {ta tb : TE} {pos : Pos}
theorem pe_ix {r : R2} (hr : IxR X r) (ha : PE X a ta) (hb : PE X b tb) (hs : PlainIx b) : PE X (.Subscript a b pos) (tOp r ta tb) := by
  intro pins s σ H Q I h
  exact Subscript_ (binT ha hb I h fun v u s2 x y H2 I2 rx ry q => hr a b pins s2 σ H2 x y v u Q I2 rx ry q (hs _ _))

def rIxL (K : PySem.W.Frag) : R2 := fun x y H Q => ∃ p xs i v, x = .ref p ∧ y = .int i ∧ SqL K H p xs ∧ atI xs i = some v ∧ Q v H
def rIxT (K : PySem.W.Frag) : R2 := fun x y H Q => ∃ p xs i v, x = .ref p ∧ y = .int i ∧ SqT K H p xs ∧ atI xs i = some v ∧ Q v H
theorem ix_list : IxR X (rIxL X.K) := by
  intro value slice pins s σ H x y v u Q I rx ry h hs
  obtain ⟨p, xs, i, z, rfl, rfl, hq, he, q⟩ := h
  cases rx
  obtain ⟨t, rfl⟩ := ry
  obtain ⟨its, r, pl, hz⟩ := I.list hq
  obtain ⟨j, h1, h2, h3, h4, h5⟩ := atI_get he
  obtain ⟨w, ew, rw'⟩ := r.get h2
  have hl := r.length
  have hn := line63
  have fin : EP X pins σ Q w s := ⟨z, H, I, rw', q⟩
  by_cases h0 : 0 ≤ i
  · have hj : i.toNat = j := by
      rw [seqIndex_of h0 h5] at h1
      exact Option.some.inj h1
    exact item_listR pl.isList h0 (by omega) (by rw [hj]; simpa using ew) fin hs
  · have hj : (i + (its.toArray.size : Int)).toNat = j := by
      rw [seqIndex_neg (by omega) h4] at h1
      rw [List.size_toArray, ← hl]
      exact Option.some.inj h1
    exact subscriptTail_builtinR (x := w) pl.isList.typeIs slot_list_getitem.lookup
      (wpAny_getItem_list_neg (Q := fun r s' => r = w ∧ EP X pins σ Q r s') pl.isList (by omega) (by rw [List.size_toArray] <;> omega) (by omega) (by rw [hj]; simpa using ew) ⟨rfl, fin⟩) hs
theorem ix_tup : IxR X (rIxT X.K) := by
  intro value slice pins s σ H x y v u Q I rx ry h hs
  obtain ⟨p, xs, i, z, rfl, rfl, hq, he, q⟩ := h
  cases rx
  obtain ⟨t, rfl⟩ := ry
  obtain ⟨its, r, pl, hz⟩ := I.tuple hq
  obtain ⟨j, h1, h2, h3, h4, h5⟩ := atI_get he
  obtain ⟨w, ew, rw'⟩ := r.get h2
  have hl := r.length
  have hn := line63
  have fin : EP X pins σ Q w s := ⟨z, H, I, rw', q⟩
  exact subscriptTail_builtinR (x := w) pl.typeIs slot_tuple_getitem.lookup
    (getItem_tuple (j := j) (Q := fun r s' => r = w ∧ EP X pins σ Q r s') pl (by omega) (by omega) (by rw [List.size_toArray, ← hl]; exact h1) (by simpa using ew) ⟨rfl, fin⟩) hs
theorem mapSeq_set (its : List Value) (n j : Nat) (u : Value) : Obj.mapSeq (·.setIfInBounds j u) { cls := .type "list", data := .seq its.toArray n } = { cls := .type "list", data := .seq (its.set j u).toArray n } := by
  simp [Obj.mapSeq]
theorem Inv.lst {pins : List (Addr × Obj)} {σ : St} {H : Hp} {s : Shared} {p : Addr} {xs : List V} (I : Inv X pins σ H s) (h : H p = some (.lst xs)) :
    ∃ (its : List Value) (n : Nat), Vals xs its ∧ s.heap.get? p = some { cls := .type "list", data := .seq its.toArray n } ∧ xs.length ≤ sizeLine := by
  obtain ⟨z, its, n, r, e⟩ := I.hok p _ h
  exact ⟨its, n, r, e, z⟩
theorem Inv.lstUpd {pins : List (Addr × Obj)} {σ : St} {H : Hp} {s : Shared} {p : Addr} {xs ys : List V} {its its' : List Value} {n n' : Nat} {f : Obj → Obj} (I : Inv X pins σ H s) (h : H p = some (.lst xs))
    (ho : s.heap.get? p = some { cls := .type "list", data := .seq its.toArray n }) (hf : f { cls := .type "list", data := .seq its.toArray n } = { cls := .type "list", data := .seq its'.toArray n' }) (r : Vals ys its') (hz : ys.length ≤ sizeLine) (t : Nat) :
    Inv X pins σ (upd H p (.lst ys)) { s with heap := s.heap.update p f, toks := t } := by
  have e : (s.heap.update p f).get? p = some { cls := .type "list", data := .seq its'.toArray n' } := by
    rw [Heap.get?_update_self f ho (by rw [hf] <;> rfl), hf]
  refine I.write (x := p) (e := p) (by rw [h]; trivial) (.inl rfl) (fun b u hb q => (Heap.get?_update_other _ _ (Ne.symm hb)).trans q) ⟨_, e⟩ ?_
  exact ⟨hz, its', n', r, e⟩
def rSetL : V → V → V → Hp → (Hp → Prop) → Prop := fun o i v H Q => ∃ p xs k j, o = .ref p ∧ i = .int k ∧ H p = some (.lst xs) ∧ ixN xs.length k = some j ∧ Q (upd H p (.lst (xs.set j v)))
theorem set_list : PSet X rSetL := by
  intro pins s σ H o i v ov iv u Q I ro ri rv h
  obtain ⟨p, xs, k, j, rfl, rfl, hp, hj, q⟩ := h
  cases ro
  obtain ⟨t, rfl⟩ := ri
  obtain ⟨its, n, r, ho, hz⟩ := I.lst hp
  obtain ⟨h1, h2, h3, h4⟩ := ixN_seq hj
  have hl := r.length
  have hn := line63
  have I' : Inv X pins σ (upd H p (.lst (xs.set j v))) { s with heap := s.heap.update p (Obj.mapSeq (·.setIfInBounds j u)) } :=
    I.lstUpd hp ho (mapSeq_set its n j u) (r.set rv j) (by rw [List.length_set]; exact hz) s.toks
  by_cases h0 : 0 ≤ k
  · have hk : k.toNat = j := by
      rw [seqIndex_of h0 h4] at h1
      exact Option.some.inj h1
    exact PySem.W.ki_setAt ho h0 (by omega) (by rw [List.size_toArray, ← hl]; exact h4) (by rw [hk]; exact ⟨_, I', q⟩)
  · have hk : (k + (its.toArray.size : Int)).toNat = j := by
      rw [seqIndex_neg (by omega) h3] at h1
      rw [List.size_toArray, ← hl]
      exact Option.some.inj h1
    exact PySem.W.ki_setBack ho (by omega) (by rw [List.size_toArray, ← hl]; exact h3) (by omega) (by rw [hk]; exact ⟨_, I', q⟩)

theorem call_len_seq : CallR X (.builtin "len") (fun xs H Q => ∃ p ys, xs = [.ref p] ∧ (SqL X.K H p ys ∨ SqT X.K H p ys) ∧ Q (.int ys.length) H) := by
  intro pins s σ H xs us Q I r h
  obtain ⟨p, ys, rfl, hq, q⟩ := h
  obtain ⟨u, rfl, rx⟩ := vals1 r
  cases rx
  have hn := line63
  rcases hq with hq | hq
  · obtain ⟨its, r', pl, hz⟩ := I.list hq
    have hlen := r'.length
    exact Calls.call_len_list pl.isList (by simp only [List.size_toArray] <;> omega) ⟨.int ys.length, H, I.tok _, ⟨s.toks + 1, by rw [List.size_toArray, hlen]⟩, q⟩
  · obtain ⟨its, r', pl, hz⟩ := I.tuple hq
    have hlen := r'.length
    exact len_tuple pl (by simp only [List.size_toArray] <;> omega) ⟨.int ys.length, H, I.tok _, ⟨s.toks + 1, by rw [List.size_toArray, hlen]⟩, q⟩
theorem call_list_of : CallR X (.type "list") (fun xs H Q => ∃ p ys, xs = [.ref p] ∧ (SqL X.K H p ys ∨ SqT X.K H p ys) ∧ ∀ l, H l = none → Q (.ref l) (upd H l (.lst ys))) := by
  intro pins s σ H xs us Q I r h
  obtain ⟨p, ys, rfl, hq, q⟩ := h
  obtain ⟨u, rfl, rx⟩ := vals1 r
  cases rx
  have fin : ∀ (its : List Value), Vals ys its → ys.length ≤ sizeLine → ∀ (h' : Heap) (c' : Nat), (∀ b o', s.heap.get? b = some o' → h'.get? b = some o') →
      h'.get? s.heap.objs.size = some { cls := .type "list", dict := none, data := .seq its.toArray c', slots := #[] } → EP X pins σ Q (.ref s.heap.objs.size) { s with heap := h' } := fun its r' hz h' c' kp e =>
    ⟨.ref s.heap.objs.size, _, I.laid (t' := s.toks) kp (Nat.le_refl _) (show ObjOk X.prog X.w _ h' _ (.lst ys) from ⟨hz, its, c', r', e⟩), rfl, q _ (I.hok.fresh (Nat.le_refl _))⟩
  rcases hq with hq | hq
  · obtain ⟨its, r', pl, hz⟩ := I.list hq
    have hlen := r'.length
    obtain ⟨o, ho, hc, n, hd⟩ := pl.isList
    exact call_list_seq p (.inl rfl) ho hc hd (fun h' c' kp e => fin its r' hz h' c' kp e) (by simp only [List.size_toArray] <;> omega)
  · obtain ⟨its, r', pl, hz⟩ := I.tuple hq
    have hlen := r'.length
    obtain ⟨o, ho, hc, n, hd⟩ := pl
    exact call_list_seq p (.inr rfl) ho hc hd (fun h' c' kp e => fin its r' hz h' c' kp e) (by simp only [List.size_toArray] <;> omega)
theorem call_tuple_of : CallR X (.type "tuple") (fun xs H Q => ∃ p ys, xs = [.ref p] ∧ ((SqL X.K H p ys ∧ ∀ l, H l = none → Q (.ref l) (upd H l (.tup ys))) ∨ (SqT X.K H p ys ∧ Q (.ref p) H))) := by
  intro pins s σ H xs us Q I r h
  obtain ⟨p, ys, rfl, h⟩ := h
  obtain ⟨u, rfl, rx⟩ := vals1 r
  cases rx
  rcases h with ⟨hq, q⟩ | ⟨hq, q⟩
  · obtain ⟨its, r', pl, hz⟩ := I.list hq
    have hlen := r'.length
    refine call_tuple_list pl.isList (fun h' kp => ?_) (by simp only [List.size_toArray] <;> omega)
    have I1 : Inv X pins σ H { s with heap := h' } := I.kept (t' := s.toks) kp
    have I2 : Inv X pins σ (upd H h'.objs.size (.tup ys)) { s with heap := h'.push { cls := .type "tuple", data := .seq its.toArray } } :=
      I1.laid (t' := s.toks) (fun b o e => Heap.get?_push_of_some _ e) (Nat.le_refl _) (show ObjOk X.prog X.w _ _ _ (.tup ys) from ⟨hz, its, r', IsTup.new _ _⟩)
    exact ⟨.ref h'.objs.size, _, I2, rfl, q _ (I1.hok.fresh (Nat.le_refl _))⟩
  · obtain ⟨its, r', pl, hz⟩ := I.tuple hq
    exact call_tuple_same pl ⟨.ref p, H, I, rfl, q⟩

def tyV (K : PySem.W.Frag) (T : String) (x : V) (H : Hp) : Prop := match x with
  | .str _ => T = "str"
  | .int _ => T = "int"
  | .ref p => (T = "list" ∧ ∃ xs, SqL K H p xs) ∨ (T = "tuple" ∧ ∃ o, K.lookup p = some o ∧ o.cls = .type "tuple" ∧ o.dict = none) ∨
      (T = "dict" ∧ ((∃ kvs, H p = some (.dK kvs)) ∨ ∃ kvs, H p = some (.dT kvs))) ∨ (T = "set" ∧ ∃ S n, H p = some (.set S n))
  | _ => False
theorem tyV_is {pins : List (Addr × Obj)} {σ : St} {H : Hp} {s : Shared} {T : String} {x : V} {v : Value} (I : Inv X pins σ H s) (r : RelV x v) (ty : tyV X.K T x H) :
    s.TypeIs v T ∧ ∀ a, v = .ref a → ∃ ob, s.heap.get? a = some ob ∧ ob.dict = none := by
  cases x with
  | str z =>
    obtain ⟨t, rfl⟩ := r
    cases (show T = "str" from ty)
    exact ⟨typeIs_str s z t, fun _ e => nomatch e⟩
  | int i =>
    obtain ⟨t, rfl⟩ := r
    cases (show T = "int" from ty)
    exact ⟨typeIs_int s i t, fun _ e => nomatch e⟩
  | ref p =>
    cases r
    rcases ty with ⟨rfl, xs, hq⟩ | ⟨rfl, o, hk, hc, hd⟩ | ⟨rfl, hk⟩ | ⟨rfl, S, n, hk⟩
    · obtain ⟨its, _, pl, _⟩ := I.list hq
      refine ⟨pl.isList.typeIs, fun a e => ?_⟩
      cases e
      obtain ⟨o, n, e, c, hd, _⟩ := pl
      exact ⟨o, e, hd⟩
    · refine ⟨⟨o, I.kIn p o hk, hc⟩, fun a e => ?_⟩
      cases e
      exact ⟨o, I.kIn _ o hk, hd⟩
    · have z : ∃ o, s.heap.get? p = some o ∧ o.ExactDict := by
        rcases hk with ⟨kvs, hk⟩ | ⟨kvs, hk⟩
        · obtain ⟨_, _, _, _, o, _, _, e, ex, _⟩ := I.hok p _ hk
          exact ⟨o, e, ex⟩
        · obtain ⟨_, _, _, _, o, _, _, e, ex, _⟩ := I.hok p _ hk
          exact ⟨o, e, ex⟩
      obtain ⟨o, e, ex⟩ := z
      refine ⟨⟨o, e, ex.1⟩, fun a e2 => ?_⟩
      cases e2
      exact ⟨o, e, ex.2.1⟩
    · obtain ⟨o, _, _, _, e, ex, _⟩ := I.hok p _ hk
      refine ⟨⟨o, e, ex.1⟩, fun a e2 => ?_⟩
      cases e2
      exact ⟨o, e, ex.2.1⟩
  | _ => exact False.elim ty
def tBM (K : PySem.W.Frag) (T : String) (r : V → List V → Hp → VK → Prop) (to : TE) (t : TA) : TE := fun σ H Q => to σ H fun x H1 => tyV K T x H1 ∧ t σ H1 fun xs H2 => r x xs H2 Q
variable {o e : Expr} {es : List Expr} {to : TE} {t : TA} {name : Str} {apos cpos : Pos} {T id : String} {r : V → List V → Hp → VK → Prop}
theorem pe_bm (pa : PlainAttrs T) (slot : Slot T name id) (hty : typeOf (.builtin id) = pure (.type "method_descriptor")) (hm : MtR X id r) (ho : PE X o to) (ha : PA X (e :: es) t)
    (hbase : attributeBase o name X.env (eval o X.env) = eval o X.env := by rfl)
    (hfew : ((backTo cpos (starEach (e :: es) X.env)).all (fun x => !x.1) && (backToKw cpos (keywordEach [] X.env)).all (fun x => x.1.isSome)
      && decide ((e :: es).length + ([] : List Keyword).length + (if ([] : List Keyword).isEmpty then 0 else 1) < 30)) = true := by rfl)
    (hline : (apos.endLine == cpos.line) = true := by rfl) (hs : starEach (e :: es) X.env = (false, eval e X.env) :: starEach es X.env := by rfl) (hplain : (backTo cpos (starEach es X.env)).any (·.1) = false := by rfl) :
    PE X (.Call (.Attribute o name apos) (e :: es) [] cpos) (tBM X.K T r to t) := by
  intro pins s σ H Q I h
  refine wpAny_Call_method_late hbase hfew hline rfl (thn (ho pins s σ H _ I h) fun v s1 ⟨x, H1, I1, r1, ty, q1⟩ => ?_)
  obtain ⟨h1, h2⟩ := tyV_is I1 r1 ty
  refine ⟨T, id, pa, slot, hty, h1, h2, ?_⟩
  have hA := ha cpos pins s1 σ H1 _ I1 q1
  rw [hs] at hA ⊢
  refine Calls.callWith_builtin (by show (false || (backTo cpos (starEach es X.env)).any (·.1)) = false; rw [hplain] <;> rfl) (Calls.evalArgs_plain ?_)
  exact thn hA fun us s2 ⟨vs, H2, I2, r2, q2⟩ => hm pins s2 σ H2 x vs v us Q I2 r1 r2 q2
/- xs.append(e), list.index on a module's tuple .. are MtR facts of 06m -/
end
end L2

namespace L2
open PySem PySem.Spec PyProof.Rows

def MtM (X : Cx) (id : String) (r : V → List V → Hp → VK → Prop) : Prop :=
  ∀ (pins : List (Addr × Obj)) (s : Shared) (σ : St) (H : Hp) (x : V) (xs : List V) (v : Value) (us : List Value) (Q : VK), Inv X pins σ H s → RelV x v → Vals xs us → r x xs H Q →
    wpAny (model X.prog X.w) X.A (call (.builtin id) (v :: us)) (EP X pins σ Q) X.xe s

theorem Vals.one : ∀ {x : V} {us : List Value}, Vals [x] us → ∃ u, us = [u] ∧ RelV x u
  | _, _, .cons r .nil => ⟨_, rfl, r⟩
theorem Vals.two : ∀ {x y : V} {us : List Value}, Vals [x, y] us → ∃ u v, us = [u, v] ∧ RelV x u ∧ RelV y v
  | _, _, _, .cons r (.cons q .nil) => ⟨_, _, rfl, r, q⟩
theorem Vals.zero : ∀ {us : List Value}, Vals [] us → us = []
  | _, .nil => rfl
theorem Vals.reverse {xs : List V} {us : List Value} (h : Vals xs us) : Vals xs.reverse us.reverse := by
  induction h with
  | nil => exact .nil
  | cons r t ih => rw [List.reverse_cons, List.reverse_cons]; exact Vals.append ih (.cons r .nil)
section
variable {X : Cx} {pins : List (Addr × Obj)} {σ : St} {H : Hp} {s : Shared} {l b : Addr} {xs ys zs : List V}

theorem Inv.lset {its its' : List Value} {n : Nat} {f : Array Value → Array Value} {t' : Nat} (I : Inv X pins σ H s) (hH : H l = some (.lst xs))
    (e : s.heap.get? l = some { cls := .type "list", data := .seq its.toArray n }) (hf : f its.toArray = its'.toArray) (hv : Vals ys its') (hz : ys.length ≤ sizeLine) :
    Inv X pins σ (upd H l (.lst ys)) { s with heap := s.heap.update l (Obj.mapSeq f), toks := t' } := by
  have q := PySem.IsL.update e f
  rw [hf] at q
  refine I.write (x := l) (e := l) (by rw [hH]; exact trivial) (.inl rfl) (fun b' u hb hu => (Heap.get?_update_other s.heap (Obj.mapSeq f) (Ne.symm hb)).trans hu) ⟨_, q⟩ ?_
  exact ⟨hz, its', _, hv, q⟩
theorem Inv.lnew {its : List Value} {t' : Nat} (I : Inv X pins σ H s) (hv : Vals ys its) (hz : ys.length ≤ sizeLine) :
    Inv X pins σ (upd H s.heap.objs.size (.lst ys)) { s with heap := s.heap.push { cls := .type "list", data := .seq its.toArray }, toks := t' } :=
  I.laid (fun _ _ q => Heap.get?_push_of_some _ q) (Nat.le_refl _) ⟨hz, its, 0, hv, Heap.get?_push_size _ rfl⟩
theorem Inv.fresh (I : Inv X pins σ H s) : H s.heap.objs.size = none := I.hok.fresh (Nat.le_refl _)
theorem Inv.lstM (I : Inv X pins σ H s) (hH : H l = some (.lst xs)) : xs.length ≤ sizeLine ∧ ∃ (its : List Value) (n : Nat), Vals xs its ∧ xs.length = its.length ∧ s.heap.get? l = some { cls := .type "list", data := .seq its.toArray n } := by
  obtain ⟨z, its, n, r, e⟩ := I.hok l _ hH
  exact ⟨z, its, n, r, r.length, e⟩

end

section
variable {X : Cx}

def rAppend : V → List V → Hp → VK → Prop := fun x vs H Q => ∃ l xs y, x = .ref l ∧ vs = [y] ∧ H l = some (.lst xs) ∧ xs.length < sizeLine ∧ Q .non (upd H l (.lst (xs ++ [y])))
theorem mt_append : MtM X "list.append" rAppend := by
  intro pins s σ H x vs v us Q I rx rv h
  obtain ⟨l, xs, y, rfl, rfl, hH, hz, q⟩ := h
  cases rx
  obtain ⟨u, rfl, ru⟩ := rv.one
  obtain ⟨z, its, n, r, hl, e⟩ := I.lstM hH
  refine call_meets F.slot_list_append ⟨_, e, rfl⟩ F.entry_list_append (F.args_list_append_2 _ _) (PySem.list_append l its.toArray n u (by rw [List.size_toArray]; omega)) ⟨e, ?_⟩
  refine ⟨.non, _, I.lset (its' := its ++ [u]) hH e (by simp) (r.append (.cons ru .nil)) ?_, rfl, q⟩
  rw [List.length_append, List.length_singleton]
  omega

def rCat : R2 := fun x y H Q => ∃ l b xs zs, x = .ref l ∧ y = .ref b ∧ H l = some (.lst xs) ∧ H b = some (.lst zs) ∧ xs.length + zs.length ≤ sizeLine ∧ ∀ p, H p = none → Q (.ref p) (upd H p (.lst (xs ++ zs)))
theorem op_cat : OpR X (binaryOp .Add) rCat := by
  intro pins s σ H x y v u Q I rx ry h
  obtain ⟨l, b, xs, zs, rfl, rfl, hH, hB, hz, q⟩ := h
  cases rx
  cases ry
  obtain ⟨z, its, n, r, hl, e⟩ := I.lstM hH
  obtain ⟨z2, its2, n2, r2, hl2, e2⟩ := I.lstM hB
  refine PySem.P.add_list e e2 ?_ (by rw [List.size_toArray, List.size_toArray]; omega)
  have ea : its.toArray ++ its2.toArray = (its ++ its2).toArray := by simp
  rw [ea]
  exact ⟨.ref _, _, I.lnew (t' := s.toks) (r.append r2) (by rw [List.length_append]; omega), rfl, q _ I.fresh⟩
end

section
variable {prog : Program} {w : World} {A : Around} {E : Value → Shared → Prop} {s : Shared}
end

section
variable {X : Cx}
end
end L2

namespace Att
open PySem PySem.W PySem.Calls PyProof.Rows

theorem ints_of_wellAll {P : Params} {h : Heap} : ∀ (ns : List Int) (vs : List Value), WellAll P h vs (ns.map WData.int) → IntsAre vs ns := by
  intro ns
  induction ns with
  | nil =>
    intro vs w
    rw [List.map_nil] at w
    cases w
    exact .nil
  | cons n ns ih =>
    intro vs w
    rw [List.map_cons] at w
    cases w with
    | cons a b =>
      cases a
      exact .cons _ _ (ih _ b)

theorem script_of {l : OpenLaw} {n : Nat} (hn : l.most = some n) {P : Params} {h : Heap} {args : List WData} {vals : List Value}
    (hpre : l.row.toRowW.claim.pre args = true) (hwl : WellAll P h vals args) :
    ∃ a vs ns, vals = [Value.ref a] ∧ args = [WData.list (ns.map WData.int)] ∧ h.get? a = some { cls := .type "list", data := .seq vs.toArray } ∧ IntsAre vs ns ∧ ns.length ≤ n := by
  have hsh : WShape.hasAll [] args [.list .int] = true := (pre_splitW hpre).1
  have hc : l.pre.holds [] { args := args } = true := (pre_splitW hpre).2
  obtain ⟨d, r, rfl, h1, h2⟩ := hasAllW_cons hsh
  obtain rfl := hasAllW_nil h2
  obtain ⟨xs, rfl, h3⟩ := hasW_list h1
  obtain ⟨ns, rfl⟩ := items_int h3
  have hlen : ns.length ≤ n := by
    unfold OpenLaw.pre at hc
    have h4 : (WTm.not (.lt (.lit (.int (n : Int))) (.len (.arg 0)))).holds [] { args := [.list (ns.map .int)] } = true := by
      have h4 := (holds_andW hc).1
      rw [hn] at h4
      exact h4
    have h5 := condW_of h4 (w_not (w_lt w_lit (w_len_list (w_arg rfl))))
    rw [List.length_map] at h5
    refine Nat.le_of_not_lt fun q => ?_
    have q' : (n : Int) < ((ns.length : Nat) : Int) := by omega
    first
      | (rw [decide_eq_true q'] at h5; exact absurd h5 (by decide))
      | (simp at h5; omega)
  cases hwl with
  | cons w1 w2 =>
    cases w2
    cases w1 with
    | list ho hall => exact ⟨_, _, ns, rfl, rfl, ho, ints_of_wellAll ns _ hall, hlen⟩

theorem post_true (l : OpenLaw) (args : List WData) : l.row.toRowW.claim.post args (.bool true) args = true :=
  postW_of (r := l.row.toRowW) (X := (true == true))
    (show WShape.has [] (.bool true) .bool = true by first | rfl | decide | simp [WShape.has, WShape.arms, WShape.armsAll])
    (show (WTm.eq .res (.lit (.bool true))).value [] { args := args, res := some (.bool true), after := args } = some (.bool (true == true)) from w_eq_bool (w_res rfl) w_lit) rfl

theorem attach_call {l : OpenLaw} {n : Nat} {q : Program} {loose : List Str} {XP : (Str → Option Value) → Heap → Prop} {YP : World → Heap → Prop} {d : DefRec}
    (hn : l.most = some n) (hdf : d.params.defaults = [])
    (call : ∀ (w : World) (s₀ s₁ : Shared) (mg mb : Str → Option Value) (fa : Addr) (o : Obj) (pm cd doc : Value) (a : Addr) (vs : List Value) (ns : List Int),
      Ground q loose [] XP w s₀ mg mb s₁.heap → YP w s₁.heap →
      s₁.heap.get? fa = some o → o.data = .func (docDef d.name d.params d.body d.scope pm cd doc) → s₁.heap.CodeRec cd d.name → mg d.name = some (.ref fa) →
      s₁.heap.get? a = some { cls := .type "list", data := .seq vs.toArray } → IntsAre vs ns → ns.length ≤ n → s₁.gens = #[] →
      codeAny (model l.prog w) callerA (.call (.ref fa) ⟨[.ref a], []⟩) (fun r s' => r = .ok (.ret (.bool true)) ∧ OldK s₁.heap s'.heap ∧ s'.os = s₁.os ∧ AllBare s'.gens) s₁) :
    WalkO q loose XP YP l.row.toRowW d [] (fun f vs => PySem.call f vs) := by
  intro w s₀ s₁ mg mb G Y fa o pm cd doc dV kV ho hd hcd hD hmg hg args vals as hpre hlay hrd hwl hlo
  obtain rfl : dV = .none := Dflts.none hD hdf
  obtain rfl : kV = .none := Dflts.noKw hD
  obtain ⟨a, vs, ns, rfl, rfl, hobj, hints, hlen⟩ := script_of hn hpre hwl
  refine enter_call (codeAny_mono (call w s₀ s₁ mg mb fa o pm cd doc a vs ns G Y ho (fd_plain hd) hcd hmg hobj hints hlen hg) fun r s' hq => ?_)
  obtain ⟨rfl, h2, h3, h4⟩ := hq
  exact ⟨.inl ⟨.bool true, .bool true, [], rfl, fun _ => rfl, .bool true, post_true l _, fun _ => ⟨List.Pairwise.nil, fun _ hm => (nomatch hm)⟩⟩, h2, h3, h4⟩

section
variable {prog : Program} {w : World} {A : Around} {E : Value → Shared → Prop} {s : Shared} {K : Frag}

end
end Att

namespace L2
open PySem PySem.Spec PyProof.Rows

theorem vals_ints : ∀ {vs : List Value} {ns : List Int}, IntsAre vs ns → Vals (ns.map V.int) vs
  | _, _, .nil => .nil
  | _, _, .cons n t h => .cons ⟨t, rfl⟩ (vals_ints h)

def Only (H : Hp) : Prop := ∀ b, H b = none ∨ ∃ o xs, H b = some (.frz o (.lst xs))

theorem law_call {P : Program} {w : World} {K : PySem.W.Frag} {mg mb : Str → Option Value} {CX : CXT} {k : Nat} {fa a : Addr} {fd : FuncData} {x : Str} {sp : Sp} {s₁ : Shared} {vs : List Value} {ns : List Int}
    (KX : K.In s₁.heap) (hns : s₁.heap.Ns mainGlobals mg) (hb : s₁.heap.Ns builtinsNs mb) (hbb : ∀ x : Str, x ≠ "__name__" → mb x = bootBuiltins x) (hlim : s₁.heap.NoLimit) (hg : s₁.gens = #[])
    (ha : s₁.heap.get? a = some { cls := .type "list", data := .seq vs.toArray }) (hi : IntsAre vs ns) (hl : ns.length ≤ sizeLine) (hr : Room k callerA)
    (F : ∀ base : Heap, K.In base → base.Ns mainGlobals mg → FnOk P w K mg base CX k fa fd [x] sp) (hbind : ∀ (s : Shared) (u : Value), BindsTo s fd ⟨[u], []⟩ [(x, u)])
    (hsp : ∀ H : Hp, Only H → SqL K H a (ns.map V.int) → sp [.ref a] H (fun v _ => v = .bl true) fun _ _ _ => False)
    (hCX : ∀ H e s', CX [] H s₁ (fun _ _ _ => False) e s' → False) :
    codeAny (model P w) callerA (.call (.ref fa) ⟨[.ref a], []⟩) (fun r s' => r = .ok (.ret (.bool true)) ∧ OldK s₁.heap s'.heap ∧ s'.os = s₁.os ∧ AllBare s'.gens) s₁ := by
  have rv := vals_ints hi
  have lenV := hi.length
  -- from an abstract heap in which nothing but the script may be tracked
  have core : ∀ H : Hp, Only H → SqL K H a (ns.map V.int) → HOk P w H s₁.heap → (∀ b, H b ≠ none → b = a) → (H a ≠ none → K.lookup a = none) →
      codeAny (model P w) callerA (.call (.ref fa) ⟨[.ref a], []⟩) (fun r s' => r = .ok (.ret (.bool true)) ∧ OldK s₁.heap s'.heap ∧ s'.os = s₁.os ∧ AllBare s'.gens) s₁ := by
    intro H hO hS hok hA hK
    have base_of : ∀ {b : Addr} {o : Obj}, s₁.heap.get? b = some o → H b = none → (hidT s₁.heap H).get? b = some o := fun e n => hidT_get e n
    have noA : ∀ {b : Addr} {o : Obj} {es : Array DictEntry} {ep : Nat}, s₁.heap.get? b = some o → o.data = .dict es ep → H b = none := fun {b o es ep} e d => by
      cases q : H b with
      | none => rfl
      | some u =>
        have e' : b = a := hA b (by rw [q]; simp)
        subst e'
        rw [ha] at e; cases e
        have d' : Data.seq vs.toArray _ = Data.dict es ep := d
        cases d'
    have nsK : ∀ {b : Addr} {m : Str → Option Value}, s₁.heap.Ns b m → (hidT s₁.heap H).Ns b m := fun {b m} ⟨o, es, ep, e, d, r⟩ => ⟨o, es, ep, base_of e (noA e d), d, r⟩
    have hKb : K.In (hidT s₁.heap H) := fun b o e => base_of (KX b o e) (by
      cases q : H b with
      | none => rfl
      | some u =>
        have e' : b = a := hA b (by rw [q]; simp)
        subst e'
        rw [hK (by rw [q]; simp)] at e; cases e)
    have hM : Mod K mg (hidT s₁.heap H) := ⟨hKb, nsK hns, ⟨mb, nsK hb, hbb⟩, let ⟨mc, h1, h2⟩ := hlim; ⟨mc, nsK h1, h2⟩⟩
    have e0 : Env0 P w K mg (hidT s₁.heap H) callerA [] s₁ H := ⟨rfl, hM, fun b o e => of_hidT e, Nat.le_of_eq (hidT_size _ _), trivial, fun b hb => absurd (show b ∈ ([] : List Addr) from hb) (by simp), hok, .of_eq hg⟩
    refine codeAny_mono ((F _ hKb (nsK hns)).run callerA [] s₁ H ⟨[.ref a], []⟩ [.ref a] [.ref a] _ _ hr e0 (hbind s₁ (.ref a)) (.cons rfl .nil) (hsp H hO hS)) fun r s' h => ?_
    cases r with
    | error e => exact (hCX H e s' h).elim
    | ok fl =>
      cases fl with
      | next => exact False.elim h
      | brk => exact False.elim h
      | cont => exact False.elim h
      | ret u =>
        obtain ⟨v, H', os, bare, un, hok', r', q⟩ := h
        have q' : v = .bl true := q
        subst q'
        obtain rfl : u = Value.bool true := r'
        refine ⟨rfl, OldK.of_keep fun b o e => ?_, os, bare⟩
        cases q : H b with
        | none => exact un.keep b o e q (by intro z; exact absurd (show b ∈ ([] : List Addr) from z) (by simp)) (by simp)
        | some u =>
          rcases hO b with z | ⟨ob, xs, z⟩
          · rw [q] at z; cases z
          · have z2 := un.frzs b ob _ z
            obtain ⟨e1, _⟩ := hok b _ z
            obtain ⟨e2, _⟩ := hok' b _ z2
            rw [e] at e1; cases e1
            exact e2
  cases hk : K.lookup a with
  | some o =>
    -- the script is one of the module's own objects
    have e := KX a o hk
    rw [ha] at e
    cases e
    refine core (fun _ => none) (fun _ => .inl rfl) (.inr ⟨_, vs.toArray, _, hk, rfl, rfl, rfl, by rw [List.size_toArray, lenV]; exact hl, by simpa using rv⟩) (fun b u z => by have z' : (none : Option HO) = some u := z; cases z') (fun b z => absurd rfl z) fun z => absurd rfl z
  | none =>
    refine core (fun b => if b = a then some (.frz { cls := .type "list", data := .seq vs.toArray } (.lst (ns.map V.int))) else none) (fun b => ?_) (.inl (.inr ⟨{ cls := .type "list", data := .seq vs.toArray }, if_pos rfl⟩)) (fun b u z => ?_) (fun b z => ?_) fun _ => hk
    · by_cases hb : b = a
      · exact .inr ⟨_, _, if_pos hb⟩
      · exact .inl (if_neg hb)
    · by_cases hb : b = a
      · have z' := (if_pos hb).symm.trans z
        cases z'
        subst hb
        exact ⟨ha, by rw [List.length_map]; exact hl, vs, _, rv, ha⟩
      · have z' := (if_neg hb).symm.trans z
        cases z'
    · by_cases hb : b = a
      · exact hb
      · exact absurd (if_neg hb) z
end L2

namespace L2
open PySem PySem.Spec PyProof.Rows

abbrev KOf {K : PySem.W.Frag} {h : Heap} (_ : K.In h) : PySem.W.Frag := K

theorem walk_of {l : PySem.W.OpenLaw} {n k : Nat} {q : Program} {loose : List Str} {XP : (Str → Option Value) → Heap → Prop} {YP : World → Heap → Prop} {d : DefRec} {K : Params → PySem.W.Frag} {CX : World → CXT} {sp : World → Sp} {x : Str}
    (hn : l.most = some n) (hn2 : n ≤ sizeLine) (hdf : d.params.defaults = []) (hr : Room k callerA)
    (hY : ∀ (w : World) (h : Heap), YP w h → (K w.params).In h)
    (F : ∀ (w : World) (mg : Str → Option Value) (fa : Addr) (h : Heap), (K w.params).In h → h.Ns mainGlobals mg → mg d.name = some (.ref fa) →
      ∃ fd : FuncData, (∀ (s : Shared) (u : Value), BindsTo s fd ⟨[u], []⟩ [(x, u)]) ∧
        ∀ base : Heap, (K w.params).In base → base.Ns mainGlobals mg → FnOk l.prog w (K w.params) mg base (CX w) k fa fd [x] (sp w))
    (hsp : ∀ (w : World) (H : Hp) (a : Addr) (ns : List Int), ns.length ≤ n → Only H → SqL (K w.params) H a (ns.map V.int) → sp w [.ref a] H (fun v _ => v = .bl true) fun _ _ _ => False)
    (hCX : ∀ (w : World) (H : Hp) (s : Shared) (e : Value) (s' : Shared), CX w [] H s (fun _ _ _ => False) e s' → False) :
    PySem.W.WalkO q loose XP YP l.row.toRowW d [] (fun f vs => PySem.call f vs) := by
  refine Att.attach_call hn hdf fun w s₀ s₁ mg mb fa o pm cd doc a vs ns G Y ho hd hcd hmg hobj hints hlen hg => ?_
  have KX := hY w _ Y
  obtain ⟨fd, hb, hF⟩ := F w mg fa _ KX G.T.g hmg
  exact law_call KX G.T.g G.T.b G.T.builtins G.T.nolimit hg hobj hints (Nat.le_trans hlen hn2) hr hF hb (fun H hO hS => hsp w H a ns hlen hO hS) fun H e s' => hCX w H s₁ e s'
end L2

/- THE LAST THEOREM (shape; LID, My.* are yours):
   My.Adr: a structure of the addresses that your layer names (classes, functions); My.Txt K t: a structure (Prop) of the equations over K;
   My.txt_mk : {K} {implicit addresses ..} (e1 : nsIn K mainGlobals "law" = some (some (.ref f))) (e2 : K.lookup f = some ⟨oc, od, .func (fnOf "law" "law" params body scope dV kV doc pm an cdv ct), sl⟩) (e3 : codeIn K cdv "law" = true) .. : ∃ t, My.Txt K t

set_option maxRecDepth 100000 in
set_option maxHeartbeats 0 in
theorem PySem.Challenge.cw_LID_holds : PySem.Challenge.rw_LID.Holds := by
  w_on; o_law; k_head; (case hw => w_witness2)
  k_fill
  refine L2.walk_of (l := PySem.Challenge.rw_LID) (n := 63) (k := 40) (x := "script") (CX := fun w => ..) (sp := fun _ => My.sp_law) rfl (by decide) rfl ⟨rfl, by decide, by decide⟩ (fun w h Y => PySem.W.kIn_of Y) ?F ?S ?C
  case F =>
    intro w mg fa h KX G hmg
    have T : ∃ t, My.Txt (L2.KOf KX) t := by
      dsimp only [L2.KOf]                          -- K must stand as «<heap const> w.params» for k_is
      refine' My.txt_mk ?e1 ?e2 ?e3 ..
      (case e1 => PySem.W.k_is)                    -- in the order: a name -> its address -> its object -> its parts
      (case e2 => PySem.W.k_is)
      ..
    obtain ⟨t, T⟩ := T
    have e0 := hmg.symm.trans (PySem.W.mg_of KX G T.law)
    cases e0                                       -- fa is the law's own address
    exact ⟨_, fun s u => .of_eq rfl, fun base kb nb => My.law_fn T kb nb⟩     -- if «.of_eq rfl» comes too early: refine' ⟨_, ?b, fun base kb nb => My.law_fn T kb nb⟩; exact fun s u => .of_eq rfl
  case S => exact fun w H a ns hl hO hS => ..
  case C => exact ..
(the tactic k_is has no namespace: write k_is) -/

namespace L2
open PySem PySem.Spec PyProof.Rows

def defArgs (s : Stmt) : Arguments := match s with
  | .FunctionDef _ a _ _ _ _ _ _ _ _ => a
  | _ => { posonlyargs := [], args := [], vararg := none, kwonlyargs := [], kw_defaults := [], kwarg := none, defaults := [] }
def defBody (s : Stmt) : List Stmt := match s with
  | .FunctionDef _ _ b _ _ _ _ _ _ _ => b
  | _ => []
def defScope (s : Stmt) : Scope := match s with
  | .FunctionDef _ _ _ _ _ _ sc _ _ _ => sc
  | _ => { kind := .function, names := [], isGenerator := false, isCoroutine := false }

abbrev CX0 : CXT := fun _ _ _ _ _ _ => False
abbrev E0 : XK := fun _ _ _ => False
theorem pass0 {X : Cx} : Passes CX0 X E0 := fun _ _ _ _ _ _ _ h => h.elim

structure Fun (K : PySem.W.Frag) (x qual : Str) (st : Stmt) (f : Addr) (fd : FuncData) : Prop where
  ex : ∃ (oc : Value) (od : Option Addr) (kV doc pm : Value) (an : Option Addr) (cdv ct : Value) (osl : Array (Option Value)),
    fd = PySem.W.fnOf x qual (defArgs st) (defBody st) (defScope st) .none kV doc pm an cdv ct ∧ K.lookup f = some ⟨oc, od, .func fd, osl⟩ ∧ PySem.W.codeIn K cdv qual = true
  kp : PySem.W.keepIn K (.ref f) = true
section
variable {P : Program} {w : World} {K : PySem.W.Frag} {mg : Str → Option Value} {base : Heap}
theorem Fun.ok {x qual : Str} {st : Stmt} {f : Addr} {fd : FuncData} {N ps : List Str} {k : Nat} {sp : Sp} (F : Fun K x qual st f fd) (S : FnScope N ps (defScope st)) (len : ∀ vs H Q E, sp vs H Q E → vs.length = ps.length)
    (hbody : ∀ (cdv : Value) (A : Around) (outer : List Env) (s : Shared) (H : Hp) (vs : List V) (Q : VK) (E : XK), Room k (A.deeper (envOfC qual (defScope st) s.heap.objs.size f cdv)) → sp vs H Q E →
      ∃ t, PSs (cxOf CX0 P w K mg base N qual (defScope st) f cdv A outer s H E).nox (defBody st) t ∧ t { nx := fun _ H' => Q .non H', rt := Q } (start N vs) H) : FnOk P w K mg base CX0 (k + 1) f fd ps sp := by
  obtain ⟨oc, od, kV, doc, pm, an, cdv, ct, osl, rfl, lk, hcd⟩ := F.ex
  refine fn_of lk hcd S len fun A outer s H vs Q E hr hsp => ?_
  obtain ⟨t, h, q⟩ := hbody cdv A outer s H vs Q E hr hsp
  exact ⟨t, h.nox, q⟩
theorem Fun.binds {x qual : Str} {st : Stmt} {f : Addr} {fd : FuncData} {ps : List Str} (F : Fun K x qual st f fd)
    (h : ∀ (kV doc pm : Value) (an : Option Addr) (cdv ct : Value) (us : List Value), us.length = ps.length → bindArgs (PySem.W.fnOf x qual (defArgs st) (defBody st) (defScope st) .none kV doc pm an cdv ct) ⟨us, []⟩ = pure (ps.zip us)) : Binds K fd ps [] := by
  obtain ⟨oc, od, kV, doc, pm, an, cdv, ct, osl, rfl, lk, hcd⟩ := F.ex
  exact .all (h kV doc pm an cdv ct)
theorem fun_mk {x qual : Str} {st : Stmt} {f : Addr} {oc : Value} {od an : Option Addr} {osl : Array (Option Value)} {kV doc pm cdv ct : Value} (l : K.lookup f = some ⟨oc, od, .func (PySem.W.fnOf x qual (defArgs st) (defBody st) (defScope st) .none kV doc pm an cdv ct), osl⟩)
    (c : PySem.W.codeIn K cdv qual = true) (k : PySem.W.keepIn K (.ref f) = true) : Fun K x qual st f (PySem.W.fnOf x qual (defArgs st) (defBody st) (defScope st) .none kV doc pm an cdv ct) := ⟨⟨oc, od, kV, doc, pm, an, cdv, ct, osl, rfl, l, c⟩, k⟩
end
theorem small1000 {n : Nat} (h : n ≤ 1000) : n < sizeLine := Nat.lt_of_le_of_lt h (by decide)

section
variable {X : Cx}
theorem pv (i : Nat) {x : Str} {pos : Pos} (hN : X.N[i]? = some x := by rfl) (hv : Vis X.env.scope x := by first | exact Or.inl rfl | exact Or.inr (Or.inl rfl) | exact Or.inr (Or.inr rfl)) (hd : (x == ("__debug__" : Str)) = false := by decide)
    (hcd : (x == ("__classdict__" : Str)) = false := by decide) : PE X (.Name x pos) (tVar i) := pe_var hN hv hd hcd
end

theorem iteF {A B : Prop} (h : B) : if false = true then A else B := by
  rw [if_neg Bool.false_ne_true]
  exact h
theorem iteT {A B : Prop} (h : A) : if true = true then A else B := by
  rw [if_pos rfl]
  exact h
theorem ite2 {c A B : Prop} [Decidable c] (h1 : c → A) (h2 : ¬ c → B) : if c then A else B := by
  by_cases h : c
  · rw [if_pos h]
    exact h1 h
  · rw [if_neg h]
    exact h2 h
def Same (H H' : Hp) : Prop := ∀ b o, H b = some o → H' b = some o
theorem Same.refl (H : Hp) : Same H H := fun _ _ h => h
theorem Same.trans {H H1 H2 : Hp} (a : Same H H1) (b : Same H1 H2) : Same H H2 := fun c o h => b c o (a c o h)
theorem Same.free {H H' : Hp} (e : Same H H') {l : Addr} (h : H' l = Option.none) : H l = Option.none := by
  cases q : H l with
  | none => rfl
  | some o =>
    rw [e l o q] at h
    cases h
theorem Same.seq {K : PySem.W.Frag} {H H' : Hp} {a : Addr} {xs : List V} (e : Same H H') (h : SqL K H a xs) : SqL K H' a xs := by
  rcases h with (h | ⟨o, h⟩) | h
  · exact .inl (.inl (e _ _ h))
  · exact .inl (.inr ⟨o, e _ _ h⟩)
  · exact .inr h

end L2
set_option Elab.async false
set_option linter.all false
set_option maxRecDepth 100000
namespace L2
open PySem PySem.Spec PyProof.Rows

section
variable {prog : Program} {w : World} {A : Around} {R : Result → Shared → Prop} {s : Shared}
theorem compLoop_any {elt target iter : Expr} {ifs : List Expr} {scope : Scope} {pos : Pos} {it acc : Value} {env : Env} (I : Nat → Shared → Prop)
    (turn : ∀ n s, I n s → wpAny (model prog w) A (pyNext it) (fun r s₁ => match r with
      | none => R (.ok .next) s₁
      | some v => wpAny (model prog w) A (letOwnedTupleGo target it v) (fun _ s₀ => wpAny (model prog w) A (assign target env v) (fun _ s₂ =>
          wpAny (model prog w) A (forIn ifs true fun c r => if r = true then do let ok ← isTrue c env (eval c env); pure (ForInStep.yield ok) else pure (ForInStep.yield r)) (fun ok s₃ =>
            if ok = true then wpAny (model prog w) A (eval elt env) (fun x s₄ =>
              wpAny (model prog w) A (call (.builtin "list.append") [acc, x]) (fun _ s₅ => ∃ m, m < n ∧ I m s₅) (fun _ _ => False) s₄) (fun _ _ => False) s₃
            else ∃ m, m < n ∧ I m s₃) (fun _ _ => False) s₂) (fun _ _ => False) s₀) (fun _ _ => False) s₁) (fun _ _ => False) s)
    (n : Nat) (h : I n s) :
    codeAny (model prog w) A (.compLoop (.ListComp elt [⟨target, iter, ifs, 0⟩] scope pos) 0 it acc env) R s := by
  refine codeAny_loop rfl I (fun n s hI => ?_) n h
  show wpAny _ A ((compTurn (.ListComp elt [⟨target, iter, ifs, 0⟩] scope pos) 0 it acc env).onRaise (fun x => do noteFrame x env; theTreesLotGoes x)) _ _ s
  refine wpAny_noted ?_
  rw [compTurn_list]
  have no : ∀ {X : Prop}, ∀ (e : Value) (s' : Shared), (fun _ _ => False : Value → Shared → Prop) e s' → X := fun _ _ z => False.elim z
  refine wpAny_bind (wpAny_standAt (wpAny_bind (wpAny_mono (turn n s hI) (fun r s₁ h₁ => ?_) fun e s' => no e s')))
  cases r with
  | none => exact wpAny_pure h₁
  | some v =>
    refine wpAny_bind (wpAny_mono h₁ (fun _ s₀ h₀ => ?_) fun e s' => no e s')
    refine wpAny_bind (wpAny_mono h₀ (fun _ s₂ h₂ => wpAny_bind (wpAny_mono h₂ (fun ok s₃ h₃ => ?_) fun e s' => no e s')) fun e s' => no e s')
    cases ok with
    | false => exact wpAny_pure ⟨rfl, h₃⟩
    | true =>
      exact wpAny_bind (wpAny_bind (wpAny_mono h₃ (fun x s₄ h₄ => wpAny_bind (wpAny_mono h₄ (fun _ s₅ h₅ => wpAny_pure (wpAny_pure ⟨rfl, h₅⟩)) fun e s' => no e s')) fun e s' => no e s'))
end

def PTs (X : Cx) (ifs : List Expr) (t : TT) : Prop :=
  ∀ (pins : List (Addr × Obj)) (s : Shared) (σ : St) (H : Hp) (Q : Bool → Hp → Prop), Inv X pins σ H s → t σ H Q →
    wpAny (model X.prog X.w) X.A (forIn ifs true fun c r => if r = true then do let ok ← isTrue c X.env (eval c X.env); pure (ForInStep.yield ok) else pure (ForInStep.yield r)) (TP X pins σ Q) X.xe s
theorem pts_nil {X : Cx} : PTs X [] (fun _ H Q => Q true H) := fun _ _ _ H _ I h => wpAny_tests_nil ⟨H, I, h⟩
theorem pts_one {X : Cx} {c : Expr} {t : TT} (h : PT X c t) : PTs X [c] t := fun pins s σ H Q I q => wpAny_tests_one (h pins s σ H Q I q)

end L2
set_option Elab.async false
set_option linter.all false
set_option maxRecDepth 100000
namespace L2
open PySem PySem.Spec PyProof.Rows

mutual
inductive RdD (H : Hp) : V → PyData → Prop
  | non : RdD H .non .none
  | bl (b : Bool) : RdD H (.bl b) (.bool b)
  | int (i : Int) : RdD H (.int i) (.int i)
  | str (x : Str) : RdD H (.str x) (.str x)
  | tup {a : Addr} {xs : List V} {ds : List PyData} : H a = some (.tup xs) → RdDs H xs ds → RdD H (.ref a) (.tuple ds)
  | lst {a : Addr} {xs : List V} {ds : List PyData} : H a = some (.lst xs) → RdDs H xs ds → RdD H (.ref a) (.list ds)
  | dic {a : Addr} : H a = some (.dK []) → RdD H (.ref a) (.dict [])
inductive RdDs (H : Hp) : List V → List PyData → Prop
  | nil : RdDs H [] []
  | cons {x : V} {d : PyData} {xs : List V} {ds : List PyData} : RdD H x d → RdDs H xs ds → RdDs H (x :: xs) (d :: ds)
end
section
variable {X : Cx} {pins : List (Addr × Obj)} {σ : St} {H : Hp} {s : Shared}
mutual
theorem RdD.reads (I : Inv X pins σ H s) : ∀ {x : V} {d : PyData}, RdD H x d → d.canLay0 = true → ∀ {u : Value}, RelV x u → ∃ as, Reads s.heap u d as
  | _, _, .dic _, z, _, _ => by simp [PyData.canLay0] at z
  | _, _, .non, _, u, r => by cases (show u = Value.none from r); exact ⟨_, .none⟩
  | _, _, .bl b, _, u, r => by cases (show u = Value.bool b from r); exact ⟨_, .bool b⟩
  | _, _, .int i, _, u, r => by obtain ⟨t, e⟩ := (show ∃ t, u = Value.int i t from r); subst e; exact ⟨_, .int i t⟩
  | _, _, .str x, _, u, r => by obtain ⟨t, e⟩ := (show ∃ t, u = Value.str x t from r); subst e; exact ⟨_, .str x t⟩
  | _, _, @RdD.tup _ a xs ds e h, z, u, r => by
    cases (show u = Value.ref a from r)
    obtain ⟨_, its, rv, o, h1, h2, n, h3⟩ := (show ObjOk X.prog X.w H s.heap a (.tup xs) from I.hok a _ e)
    obtain ⟨as, ra⟩ := RdDs.reads I h (by simpa [PyData.canLay0] using z) rv
    exact ⟨_, .tuple h1 h2 h3 (by simpa using ra)⟩
  | _, _, @RdD.lst _ a xs ds e h, z, u, r => by
    cases (show u = Value.ref a from r)
    obtain ⟨_, its, n, rv, h1⟩ := (show ObjOk X.prog X.w H s.heap a (.lst xs) from I.hok a _ e)
    obtain ⟨as, ra⟩ := RdDs.reads I h (by simpa [PyData.canLay0] using z) rv
    exact ⟨_, .list h1 rfl rfl (by simpa using ra)⟩
theorem RdDs.reads (I : Inv X pins σ H s) : ∀ {xs : List V} {ds : List PyData}, RdDs H xs ds → PyData.canLayAll0 ds = true → ∀ {us : List Value}, Vals xs us → ∃ as, ReadsAll s.heap us ds as
  | _, _, .nil, _, us, r => by cases r; exact ⟨_, .nil⟩
  | _, _, .cons h t, z, us, r => by
    have z' := z
    simp only [PyData.canLayAll0, Bool.and_eq_true] at z'
    cases r with
    | cons r1 r2 =>
      obtain ⟨a1, q1⟩ := RdD.reads I h z'.1 r1
      obtain ⟨a2, q2⟩ := RdDs.reads I t z'.2 r2
      exact ⟨_, .cons q1 q2⟩
end
end
def rEqD : R2 := fun x y H Q => ∃ d e, RdD H x d ∧ RdD H y e ∧ SeqAt.shaped d = true ∧ SeqAt.shaped e = true ∧ Q (.bl (PyData.eqv d e)) H
section
variable {X : Cx}
theorem op_eqD (hu : X.A.units + 64 < cLine) : OpR X (compareOp .Eq) rEqD := by
  intro pins s σ H x y v u Q I rx ry h
  obtain ⟨d, e, hd, he, s1, s2, q⟩ := h
  obtain ⟨as, r1⟩ := hd.reads I (SeqAt.canLay_of_shaped s1) rx
  obtain ⟨bs, r2⟩ := he.reads I (SeqAt.canLay_of_shaped s2) ry
  exact eq_dataH r1 r2 s1 s2 hu ⟨.bl _, H, I, rfl, q⟩
def Bd (n : Nat) (i : Int) : Prop := i.natAbs < 2 ^ n
theorem Bd.mono {m n : Nat} {i : Int} (h : Bd m i) (l : m ≤ n) : Bd n i := Nat.lt_of_lt_of_le h (Nat.pow_le_pow_right (by decide) l)
theorem Bd.bits {n : Nat} {i : Int} (h : Bd n i) : Builtin.Int.intBits i ≤ n := intBits_le_iff.mpr h
theorem Bd.of_bits {n : Nat} {i : Int} (h : Builtin.Int.intBits i ≤ n) : Bd n i := intBits_le_iff.mp h
theorem Bd.mul {m n : Nat} {i j : Int} (h : Bd m i) (k : Bd n j) : Bd (m + n) (i * j) := .of_bits (intBits_mul_le h.bits k.bits)
theorem Bd.add {m n : Nat} {i j : Int} (h : Bd m i) (k : Bd n j) : Bd (max m n + 1) (i + j) := .of_bits (intBits_add_le h.bits k.bits)
theorem Bd.neg {n : Nat} {i : Int} (h : Bd n i) : Bd n (-i) := by unfold Bd; rw [Int.natAbs_neg]; exact h
theorem Bd.sub {m n : Nat} {i j : Int} (h : Bd m i) (k : Bd n j) : Bd (max m n + 1) (i - j) := by rw [Int.sub_eq_add_neg]; exact h.add k.neg
def CMulB (i j : Int) : Prop := Bd 1000000 i ∧ Bd 1000000 j
theorem op_mulB : OpR X (binaryOp .Mult) (rI CMulB fun i j => .int (i * j)) := opI fun _ _ _ _ _ _ _ hc q => mul_int q (IntMulOk.of_le hc.1.bits hc.2.bits (by decide))
def CDivB (i j : Int) : Prop := j ≠ 0 ∧ Bd 8900 j
theorem op_fdivB : OpR X (binaryOp .FloorDiv) (rI CDivB fun i j => .int (i.fdiv j)) := opI fun _ j _ _ _ _ _ hc q => floordiv_int hc.1 q (.inl (PyProof.noPylong_of_log2 (by
  have h1 : j.natAbs ≠ 0 := fun z => hc.1 (Int.natAbs_eq_zero.mp z)
  have h2 : j.natAbs < 2 ^ 9000 := Nat.lt_of_lt_of_le hc.2 (Nat.pow_le_pow_right (by decide) (by decide))
  exact (Nat.log2_lt h1).mpr h2)))

theorem call_isinst : CallR X (.builtin "isinstance") (fun xs H Q => ∃ x t n b, xs = [x, .ty n] ∧ TyOf X.K H x t ∧ PySem.W.kitOne X.K t (.type n) = some b ∧ Q (.bl b) H) := by
  intro pins s σ H xs us Q I r h
  obtain ⟨x, t, n, b, rfl, ty, e, q⟩ := h
  obtain ⟨u, w', rfl, r1, r2⟩ := vals2 r
  cases (show w' = Value.type n from r2)
  exact isinst_ok I r1 ty e fun tk => ⟨.bl b, H, I.tok tk, rfl, q⟩
end
end L2
set_option Elab.async false
set_option linter.all false
set_option maxRecDepth 100000
namespace HT
open PySem PySem.Spec PyProof.Rows L2
section
variable {prog : Program} {w : World} {A : Around} {E : Value → Shared → Prop} {s : Shared}
end
end HT
namespace L2
open PySem PySem.Spec PyProof.Rows
section
variable {X : Cx} {e st : Expr} {te : TE} {pos p2 : Pos}
end
end L2
namespace KM
theorem gcd_step {a b : Int} (ha : 0 ≤ a) (hb : 0 < b) : Int.gcd b (a % b) = Int.gcd a b := by
  obtain ⟨m, rfl⟩ := Int.eq_ofNat_of_zero_le ha
  obtain ⟨n, rfl⟩ := Int.eq_ofNat_of_zero_le (Int.le_of_lt hb)
  rw [← Int.natCast_emod, Int.gcd_comm (m : Int)]
  show Nat.gcd n (m % n) = Nat.gcd n m
  rw [Nat.gcd_comm n (m % n)]
  exact (Nat.gcd_rec n m).symm
theorem den_ne (q : Rat) : (q.den : Int) ≠ 0 := by have := q.den_nz; omega
def dv (t b : Int) : Int := if b < 0 then -(Int.gcd t b : Int) else (Int.gcd t b : Int)
theorem gcd_pos {t b : Int} (hb : b ≠ 0) : 0 < Int.gcd t b := Int.gcd_pos_of_ne_zero_right _ hb
theorem dv_ne {t b : Int} (hb : b ≠ 0) : dv t b ≠ 0 := by
  have := gcd_pos (t := t) hb
  unfold dv; split <;> omega
theorem dv_abs {t b : Int} : (dv t b).natAbs = Int.gcd t b := by
  unfold dv; split <;> omega
theorem dv_le {t b : Int} (hb : b ≠ 0) : (dv t b).natAbs ≤ b.natAbs := by
  rw [dv_abs]; exact Nat.le_of_dvd (by omega) (Int.gcd_dvd_natAbs_right t b)
theorem dv_num {t b : Int} (hb : b ≠ 0) : t.fdiv (dv t b) = (Rat.divInt t b).num := by
  rw [Rat.num_divInt, Int.gcd_comm b t]
  have h1 : ((Int.gcd t b : Nat) : Int) ∣ t := Int.gcd_dvd_left ..
  unfold dv
  split
  · rename_i h
    rw [Int.fdiv_eq_ediv_of_dvd (Int.neg_dvd.mpr h1), Int.ediv_neg, Int.sign_eq_neg_one_of_neg h]
    rw [show (-1 * t) = -t by omega, Int.neg_ediv_of_dvd h1]
  · rename_i h
    rw [Int.fdiv_eq_ediv_of_dvd h1, Int.sign_eq_one_of_pos (by omega), Int.one_mul]
theorem dv_den {t b : Int} (hb : b ≠ 0) : b.fdiv (dv t b) = ((Rat.divInt t b).den : Int) := by
  rw [Rat.den_divInt, if_neg hb, Int.gcd_comm b t]
  have h1 : ((Int.gcd t b : Nat) : Int) ∣ b := Int.gcd_dvd_right ..
  have h2 : Int.gcd t b ∣ b.natAbs := Int.gcd_dvd_natAbs_right t b
  unfold dv
  split
  · rename_i h
    rw [Int.fdiv_eq_ediv_of_dvd (Int.neg_dvd.mpr h1), Int.ediv_neg]
    rw [Int.natCast_ediv, show ((b.natAbs : Nat) : Int) = -b by omega, Int.neg_ediv_of_dvd h1]
  · rename_i h
    rw [Int.fdiv_eq_ediv_of_dvd h1, Int.natCast_ediv, show ((b.natAbs : Nat) : Int) = b by omega]
theorem num_le {t b : Int} (hb : b ≠ 0) : (Rat.divInt t b).num.natAbs ≤ t.natAbs := by
  rw [← dv_num hb]
  have : t.fdiv (dv t b) ∣ t := by
    have h1 : dv t b ∣ t := by
      unfold dv; split
      · exact Int.neg_dvd.mpr (Int.gcd_dvd_left ..)
      · exact Int.gcd_dvd_left ..
    obtain ⟨c, hc⟩ := h1
    rw [Int.fdiv_eq_ediv_of_dvd ⟨c, hc⟩]
    refine ⟨dv t b, ?_⟩
    exact (Int.ediv_mul_cancel ⟨c, hc⟩).symm
  by_cases h0 : t = 0
  · subst h0; simp
  · exact Nat.le_of_dvd (by omega) (Int.natAbs_dvd_natAbs.mpr this)
theorem den_le {t b : Int} (hb : b ≠ 0) : (Rat.divInt t b).den ≤ b.natAbs := by
  rw [Rat.den_divInt, if_neg hb]; exact Nat.div_le_self _ _

theorem plus_eq (a b : Rat) : Rat.divInt (a.num * b.den + b.num * a.den) (a.den * b.den) = a + b := by
  rw [Rat.add_def', ← Rat.divInt_ofNat]; simp
theorem times_eq (a b : Rat) : Rat.divInt (a.num * b.num) (a.den * b.den) = a * b := by
  rw [Rat.mul_def', ← Rat.divInt_ofNat]; simp
theorem over_eq (a b : Rat) : Rat.divInt (a.num * b.den) (a.den * b.num) = a / b := by
  rw [Rat.div_def, Rat.inv_def, ← Rat.divInt_mul_divInt, Rat.num_divInt_den]
theorem less_iff (a b : Rat) : a.num * b.den < b.num * a.den ↔ a < b := (Rat.lt_iff a b).symm
theorem int_num (n : Int) : (n : Rat).num = n := Rat.num_intCast n
theorem int_den (n : Int) : (n : Rat).den = 1 := Rat.den_intCast n

structure Ball where
  pl : Rat
  sp : Rat
  wt : Int
def ws (f : Ball → Rat) (l : List Ball) : Rat := l.foldl (fun acc b => acc + (b.wt : Rat) * f b) 0
end KM
set_option Elab.async false
set_option linter.all false
set_option maxRecDepth 100000
namespace L2
open PySem PySem.Spec PyProof.Rows

structure Cal (P : Program) (w : World) (K : PySem.W.Frag) (mg : Str → Option Value) (base : Heap) (x : Str) (k : Nat) (ps : List Str) (dvs : List V) (sp : Sp) : Prop where
  ex : ∃ f fd ds, FnOk P w K mg base CX0 k f fd ps sp ∧ mg x = some (.ref f) ∧ PySem.W.keepIn K (.ref f) = true ∧ Binds K fd ps ds ∧ Vals dvs ds
theorem Cal.mono {P : Program} {w : World} {K : PySem.W.Frag} {mg : Str → Option Value} {base : Heap} {x : Str} {j k : Nat} {ps : List Str} {dvs : List V} {sp : Sp} (c : Cal P w K mg base x j ps dvs sp) (h : j ≤ k) : Cal P w K mg base x k ps dvs sp := by
  obtain ⟨f, fd, ds, F, r⟩ := c.ex
  exact ⟨⟨f, fd, ds, F.mono h, r⟩⟩
theorem pe_c {X : Cx} {x : Str} {k : Nat} {ps : List Str} {dvs : List V} {sp : Sp} {p pos : Pos} {e : Expr} {es : List Expr} {t : TA}
    (c : Cal X.prog X.w X.K X.mg X.base x k ps dvs sp) (hr : Room k X.A) (ha : PA X (e :: es) t) (hg : Gl X x := by rfl) (hdb : (x == ("__debug__" : Str)) = false := by decide)
    (he : starEach (e :: es) X.env = (false, eval e X.env) :: starEach es X.env := by rfl) (hpl : (backTo pos (starEach es X.env)).any (·.1) = false := by rfl) :
    PE X (.Call (.Name x p) (e :: es) [] pos) (tCall sp dvs E0 t) := by
  obtain ⟨f, fd, ds, F, hm, hk, hb, hd⟩ := c.ex
  exact pe_call F hr hg hm hk hb hd pass0 ha hdb he hpl

structure Df (K : PySem.W.Frag) (mg : Str → Option Value) (x : Str) (st : Stmt) (ps : List Str) (dvs : List V) : Prop where
  ex : ∃ (f : Addr) (oc : Value) (od : Option Addr) (dV kV doc pm : Value) (an : Option Addr) (cdv ct : Value) (osl : Array (Option Value)) (ds : List Value),
    K.lookup f = some ⟨oc, od, .func (PySem.W.fnOf x x (defArgs st) (defBody st) (defScope st) dV kV doc pm an cdv ct), osl⟩ ∧ PySem.W.codeIn K cdv x = true ∧ PySem.W.keepIn K (.ref f) = true ∧ mg x = some (.ref f) ∧
    Vals dvs ds ∧ Binds K (PySem.W.fnOf x x (defArgs st) (defBody st) (defScope st) dV kV doc pm an cdv ct) ps ds
section
variable {P : Program} {w : World} {K : PySem.W.Frag} {mg : Str → Option Value} {base : Heap}
theorem Df.cal {x : Str} {st : Stmt} {N ps : List Str} {dvs : List V} {k : Nat} {sp : Sp} (D : Df K mg x st ps dvs) (S : FnScope N ps (defScope st)) (len : ∀ vs H Q E, sp vs H Q E → vs.length = ps.length)
    (hbody : ∀ (f : Addr) (cdv : Value) (A : Around) (outer : List Env) (s : Shared) (H : Hp) (vs : List V) (Q : VK) (E : XK), Room k (A.deeper (envOfC x (defScope st) s.heap.objs.size f cdv)) → sp vs H Q E →
      ∃ t, PSs (cxOf CX0 P w K mg base N x (defScope st) f cdv A outer s H E).nox (defBody st) t ∧ t { nx := fun _ H' => Q .non H', rt := Q } (start N vs) H) : Cal P w K mg base x (k + 1) ps dvs sp := by
  obtain ⟨f, oc, od, dV, kV, doc, pm, an, cdv, ct, osl, ds, lk, hcd, hk, hm, hv, hb⟩ := D.ex
  refine ⟨⟨f, _, ds, fn_of lk hcd S len fun A outer s H vs Q E hr hsp => ?_, hm, hk, hb, hv⟩⟩
  obtain ⟨t, h, q⟩ := hbody f cdv A outer s H vs Q E hr hsp
  exact ⟨t, h.nox, q⟩
theorem df_mk {x : Str} {st : Stmt} {ps : List Str} {f : Addr} {oc : Value} {od an : Option Addr} {osl : Array (Option Value)} {dV kV doc pm cdv ct : Value}
    (l : K.lookup f = some ⟨oc, od, .func (PySem.W.fnOf x x (defArgs st) (defBody st) (defScope st) dV kV doc pm an cdv ct), osl⟩) (c : PySem.W.codeIn K cdv x = true) (k : PySem.W.keepIn K (.ref f) = true) (m : mg x = some (.ref f))
    (hb : ∀ us : List Value, us.length = ps.length → bindArgs (PySem.W.fnOf x x (defArgs st) (defBody st) (defScope st) dV kV doc pm an cdv ct) ⟨us, []⟩ = pure (ps.zip us)) : Df K mg x st ps [] :=
  ⟨⟨f, oc, od, dV, kV, doc, pm, an, cdv, ct, osl, [], l, c, k, m, .nil, .all hb⟩⟩
end

def rp (q : Rat) : List V := [.int q.num, .int (q.den : Int)]
def RatAt (H : Hp) (p : Addr) (q : Rat) : Prop := H p = some (.tup (rp q))
theorem RatAt.same {H H' : Hp} {p : Addr} {q : Rat} (h : RatAt H p q) (e : Same H H') : RatAt H' p q := e _ _ h
def Sz (n : Nat) (q : Rat) : Prop := Bd n q.num ∧ Bd n (q.den : Int)
theorem Sz.mono {m n : Nat} {q : Rat} (h : Sz m q) (l : m ≤ n) : Sz n q := ⟨h.1.mono l, h.2.mono l⟩
theorem Bd.of_le {n : Nat} {i j : Int} (h : i.natAbs ≤ j.natAbs) (b : Bd n j) : Bd n i := Nat.lt_of_le_of_lt h b
theorem Sz.divInt {n : Nat} {t b : Int} (hb : b ≠ 0) (h1 : Bd n t) (h2 : Bd n b) : Sz n (Rat.divInt t b) :=
  ⟨h1.of_le (KM.num_le hb), h2.of_le (by have := KM.den_le (t := t) hb; omega)⟩
theorem Sz.add {m n : Nat} {x y : Rat} (h : Sz m x) (k : Sz n y) : Sz (m + n + 1) (x + y) := by
  rw [← KM.plus_eq]
  refine .divInt (Int.mul_ne_zero (KM.den_ne x) (KM.den_ne y)) ?_ ((h.2.mul k.2).mono (by omega))
  exact ((h.1.mul k.2).add (k.1.mul h.2)).mono (by omega)
theorem Sz.mul {m n : Nat} {x y : Rat} (h : Sz m x) (k : Sz n y) : Sz (m + n) (x * y) := by
  rw [← KM.times_eq]
  exact .divInt (Int.mul_ne_zero (KM.den_ne x) (KM.den_ne y)) (h.1.mul k.1) (h.2.mul k.2)
theorem Sz.int {n : Nat} {i : Int} (h : Bd n i) (hn : 1 ≤ n) : Sz n (i : Rat) := by
  refine ⟨by rw [KM.int_num]; exact h, ?_⟩
  rw [KM.int_den]
  exact Bd.mono (m := 1) (show (1 : Int).natAbs < 2 ^ 1 by decide) hn
theorem RatAt.rd {H : Hp} {p : Addr} {q : Rat} (h : RatAt H p q) : RdD H (.ref p) (.tuple [.int q.num, .int (q.den : Int)]) := .tup h (.cons (.int _) (.cons (.int _) .nil))
def spLow : Sp := fun vs H Q _ => ∃ t b, vs = [.int t, .int b] ∧ b ≠ 0 ∧ Bd 8900 b ∧ ∀ p H', Same H H' → RatAt H' p (Rat.divInt t b) → Q (.ref p) H'
def spBin (C : Rat → Rat → Prop) (f : Rat → Rat → Rat) : Sp := fun vs H Q _ => ∃ p q x y, vs = [.ref p, .ref q] ∧ RatAt H p x ∧ RatAt H q y ∧ C x y ∧ ∀ r H', Same H H' → RatAt H' r (f x y) → Q (.ref r) H'
def Sz2 (x y : Rat) : Prop := Sz 4000 x ∧ Sz 4000 y
theorem at0 {α : Type} (a b : α) : atI [a, b] 0 = some a := rfl
theorem at1 {α : Type} (a b : α) : atI [a, b] 1 = some b := rfl
theorem Same.upd {H : Hp} {p : Addr} {o : HO} (h : H p = none) : Same H (upd H p o) := fun b u e => by rw [upd_ne (ne_of_none e h)]; exact e
end L2
set_option Elab.async false
set_option linter.all false
set_option maxRecDepth 100000
namespace L2
open PySem PySem.Spec PyProof.Rows
def TrX (h B : Heap) (e : Addr) (cls a0 : Value) (dct : Option Addr) (fl : Value) : Prop :=
  ∃ oe vs T oT ts, h.get? e = some oe ∧ oe.cls = cls ∧ oe.dict = dct ∧ oe.data = .fields vs ∧ vs[0]? = some a0 ∧ vs[1]? = some (.ref T) ∧ B.get? T = none ∧ T ≠ e ∧ h.get? T = some oT ∧ oT.data = .fields ts ∧ ts[3]? = some fl
theorem mapF_dict (o : Obj) (f : Array Value → Array Value) : (Obj.mapFields f o).dict = o.dict := by
  unfold Obj.mapFields; split <;> rfl
section
variable {M : Model} {A : Around} {E : Value → Shared → Prop} {s : Shared} {B : Heap} {env : Env} {outer l : List Env} {L e : Addr} {oe : Obj} {vs : Array Value} {a0 cls fl : Value} {dct : Option Addr} {Q : Unit → Shared → Prop}
theorem entry_x {head : Value} {hadNext : Bool} (hfr : A.frames = some (env :: outer)) (hl : s.heap.FunFrames B (env :: outer)) (hf : env.frame = some L) (he : s.heap.get? e = some oe) (hB : B.StaysIn s.heap) (hn : B.get? e = none) (hd : oe.data = .fields vs) (hz : 1 < vs.size) (h0 : vs[0]? = some a0)
    (q : ∀ h', B.StaysIn h' → h'.FunFrames B (env :: outer) → TrX h' B e oe.cls a0 oe.dict (rawInt L) → s.heap.UpToSlots h' → Q () { s with heap := h' }) :
    wpAny M A (do let a ← frameOf env; let pl ← entryPlaceOf L hadNext; let b ← EntryCells.newEntry head a .none (rawInt L) .none pl; setField (.ref e) 1 b) Q E s := by
  have nf : e ∉ (env :: outer).filterMap (·.frame) := fun m => by
    obtain ⟨_, o, ho, hnf⟩ := hl.mem m
    rw [he] at ho; cases ho; exact hnf vs hd
  refine wpAny_bind (wpAny_frameOf_fun hfr hl hf fun g1 k1 => wpAny_bind (wpAny_entryPlaceOf fun pl hpl => ?_))
  unfold EntryCells.newEntry newFields
  have e1 : g1.get? e = some oe := (k1.2.1 e nf).trans he
  have B1 : B.StaysIn g1 := fun b o z => (k1.2.1 b fun m => by rw [(hl.mem m).1] at z; cases z).trans (hB b o z)
  have fr : g1.objs.size ≠ e := Nat.ne_of_gt (Heap.lt_size e1)
  have d3 := Obj.data_mapFields hd (·.setIfInBounds 1 (Value.ref g1.objs.size))
  refine wpAny_bind (wpAny_newObj_type (wpAny_setField (Heap.get?_push_of_some _ e1) hd hz (q _ (fun b o z => ?_) (hl.of_keeps fun b o hb nn => ?_) ?_ fun b o hb nn => ?_)) (hpl.sizeOk5 _ _ _ _ _))
  · have ne : e ≠ b := fun r => by rw [← r, hn] at z; cases z
    rw [Heap.get?_update_other _ _ ne]
    exact Heap.get?_push_of_some _ (B1 b o z)
  · obtain ⟨sl, z⟩ := k1.2.2 b o hb
    have ne : e ≠ b := fun r => by rw [← r, he] at hb; cases hb; exact nn vs hd
    exact ⟨{ o with slots := sl }, by rw [Heap.get?_update_other _ _ ne]; exact Heap.get?_push_of_some _ z, rfl⟩
  · refine ⟨_, _, g1.objs.size, _, _, Heap.get?_update_self _ (Heap.get?_push_of_some _ e1) (Obj.isFreed_of_fields d3), Obj.cls_mapFields _ _, mapF_dict _ _, d3, ?_, by simp [hz], B1.fresh, fr, (Heap.get?_update_other _ _ (Ne.symm fr)).trans (Heap.get?_push_size g1 rfl), rfl, ?_⟩
    · rw [Array.getElem?_setIfInBounds_ne (by decide)]; exact h0
    · first | (simp; done) | (rcases hpl with rfl | ⟨_, _, _, _, _, _, _, rfl⟩ <;> simp)
  · obtain ⟨sl, z⟩ := k1.2.2 b o hb
    have ne : e ≠ b := fun r => by rw [← r, he] at hb; cases hb; exact nn vs hd
    exact ⟨sl, by rw [Heap.get?_update_other _ _ ne]; exact Heap.get?_push_of_some _ z⟩
theorem note_first (hfr : A.frames = some (env :: outer)) (hl : s.heap.FunFrames B (env :: outer)) (hf : env.frame = some L) (he : s.heap.get? e = some oe) (hB : B.StaysIn s.heap) (hn : B.get? e = none) (hd : oe.data = .fields vs) (h1 : vs[1]? = some .none) (h0 : vs[0]? = some a0)
    (q : ∀ h', B.StaysIn h' → h'.FunFrames B (env :: outer) → TrX h' B e oe.cls a0 oe.dict (rawInt L) → s.heap.UpToSlots h' → Q () { s with heap := h' }) : wpAny M A (noteFrame (.ref e) env) Q E s := by
  unfold noteFrame
  simp only [hf]
  refine wpAny_bind (wpAny_field he hd h1 ?_)
  rw [if_neg (by decide)]
  exact entry_x hfr hl hf he hB hn hd (Array.getElem?_eq_some_iff.mp h1).1 h0 q
theorem note_next (hfr : A.frames = some (env :: outer)) (hl : s.heap.FunFrames B (env :: outer)) (hf : env.frame = some L) (ht : TrX s.heap B e cls a0 dct .none) (hB : B.StaysIn s.heap) (hn : B.get? e = none)
    (q : ∀ h', B.StaysIn h' → h'.FunFrames B (env :: outer) → TrX h' B e cls a0 dct (rawInt L) → s.heap.UpToSlots h' → Q () { s with heap := h' }) : wpAny M A (noteFrame (.ref e) env) Q E s := by
  obtain ⟨oe, vs, T, oT, ts, he, rfl, rfl, hd, h0, h1, nT, Te, hT, dT, h3⟩ := ht
  unfold noteFrame
  simp only [hf]
  refine wpAny_bind (wpAny_field he hd h1 ?_)
  rw [if_pos (show (Value.ref T != Value.none) = true from by simp)]
  refine wpAny_bind (wpAny_field hT dT h3 ?_)
  rw [if_neg (show ¬ ((Value.none == rawInt L) = true) from by simp [rawInt])]
  have oth : ∀ b, b ≠ T → (s.heap.update T (Obj.mapFields (·.setIfInBounds 3 Value.none))).get? b = s.heap.get? b := fun b hb => Heap.get?_update_other _ _ (Ne.symm hb)
  have nr : ∀ b o, s.heap.get? b = some o → (∀ vs, o.data ≠ .fields vs) → b ≠ T := fun b o hb nn r => by rw [r, hT] at hb; cases hb; exact nn ts dT
  refine wpAny_bind (wpAny_setField hT dT (Array.getElem?_eq_some_iff.mp h3).1 (entry_x hfr (hl.of_keeps fun b o hb nn => ⟨o, (oth b (nr b o hb nn)).trans hb, rfl⟩) hf ((oth e (Ne.symm Te)).trans he) (fun b o z => (oth b fun r => by rw [r, nT] at z; cases z).trans (hB b o z)) hn hd (Array.getElem?_eq_some_iff.mp h1).1 h0 fun h' x1 x2 x3 x4 => q h' x1 x2 x3 fun b o hb nn => x4 b o ((oth b (nr b o hb nn)).trans hb) nn))
theorem flight_x (hB : B.StaysIn s.heap) (hl : s.heap.FunFrames B l) (ht : TrX s.heap B e cls a0 dct fl)
    (q : ∀ h', B.StaysIn h' → h'.FunFrames B l → TrX h' B e cls a0 dct .none → s.heap.UpToSlots h' → Q () { s with heap := h' }) : wpAny M A (setFlight (.ref e) none) Q E s := by
  obtain ⟨oe, vs, T, oT, ts, he, hc, hdc, hd, h0, h1, nT, Te, hT, dT, h3⟩ := ht
  have z3 : 3 < ts.size := (Array.getElem?_eq_some_iff.mp h3).1
  have oth : ∀ b, b ≠ T → (s.heap.update T (Obj.mapFields (·.setIfInBounds 3 ((none : Option Addr).elim Value.none fun f => rawInt f)))).get? b = s.heap.get? b := fun b hb => Heap.get?_update_other _ _ (Ne.symm hb)
  have nr : ∀ b o, s.heap.get? b = some o → (∀ vs, o.data ≠ .fields vs) → b ≠ T := fun b o hb nn r => by rw [r, hT] at hb; cases hb; exact nn ts dT
  unfold setFlight
  refine wpAny_bind (wpAny_field he hd h1 ?_)
  rw [if_pos (show (Value.ref T != Value.none) = true from by simp)]
  exact wpAny_setField hT dT z3 (q _ (fun b o z => (oth b fun r => by rw [r, nT] at z; cases z).trans (hB b o z)) (hl.of_keeps fun b o hb nn => ⟨o, (oth b (nr b o hb nn)).trans hb, rfl⟩)
    ⟨oe, vs, T, _, _, (oth e (Ne.symm Te)).trans he, hc, hdc, hd, h0, h1, nT, Te, Heap.get?_update_self _ hT (Obj.isFreed_of_fields (Obj.data_mapFields dT _)), Obj.data_mapFields dT _, by simp [z3]⟩ fun b o hb nn => ⟨o.slots, (oth b (nr b o hb nn)).trans hb⟩)
end
def FlX (B : Heap) (l : List Env) (e : Addr) (cls a0 : Value) (dct : Option Addr) (h : Heap) : Prop := B.StaysIn h ∧ B.get? e = none ∧ h.FunFrames B l ∧ TrX h B e cls a0 dct .none
def HeX (B : Heap) (l : List Env) (e : Addr) (cls a0 : Value) (dct : Option Addr) (h : Heap) : Prop := B.StaysIn h ∧ B.get? e = none ∧ h.FunFrames B l ∧ ∃ fl, TrX h B e cls a0 dct fl
section
variable {M : Model} {A : Around} {E : Value → Shared → Prop} {s : Shared} {B h : Heap} {env : Env} {outer l : List Env} {L e : Addr} {a0 cls : Value} {dct : Option Addr} {Q : Unit → Shared → Prop}
theorem FlX.held (x : FlX B l e cls a0 dct h) : HeX B l e cls a0 dct h := ⟨x.1, x.2.1, x.2.2.1, _, x.2.2.2⟩
theorem FlX.there (x : FlX B l e cls a0 dct h) : ∃ ob, h.get? e = some ob ∧ ob.cls = cls := by
  obtain ⟨_, _, _, oe, _, _, _, _, he, hc, _⟩ := x
  exact ⟨oe, he, hc⟩
theorem FlX.first (x : FlX B l e cls a0 dct h) : ∃ oe vs, h.get? e = some oe ∧ oe.cls = cls ∧ oe.dict = dct ∧ oe.data = .fields vs := by
  obtain ⟨_, _, _, oe, vs, _, _, _, he, hc, hdc, hd, _⟩ := x
  exact ⟨oe, vs, he, hc, hdc, hd⟩
theorem looks_x (hfr : A.frames = some (env :: outer)) (hf : env.frame = some L) (x : FlX B (env :: outer) e cls a0 dct s.heap) (q : ∀ h', HeX B (env :: outer) e cls a0 dct h' → s.heap.UpToSlots h' → Q () { s with heap := h' }) : wpAny M A (noteFrame (.ref e) env) Q E s :=
  note_next hfr x.2.2.1 hf x.2.2.2 x.1 x.2.1 fun h' x1 x2 x3 x4 => q h' ⟨x1, x.2.1, x2, _, x3⟩ x4
theorem lands_x (x : HeX B l e cls a0 dct s.heap) (q : ∀ h', FlX B l e cls a0 dct h' → s.heap.UpToSlots h' → Q () { s with heap := h' }) : wpAny M A (setFlight (.ref e) none) Q E s := by
  obtain ⟨x1, x2, x3, fl, x4⟩ := x
  exact flight_x x1 x3 x4 fun h' y1 y2 y3 y4 => q h' ⟨y1, x2, y2, y3⟩ y4
theorem leaves_x (hfr : A.frames = some (env :: outer)) (hf : env.frame = some L) (x : FlX B (env :: outer) e cls a0 dct s.heap) (q : ∀ h', FlX B outer e cls a0 dct h' → s.heap.UpToSlots h' → Q () { s with heap := h' }) : wpAny M A (leaving env (.ref e)) Q E s := by
  unfold leaving
  refine wpAny_bind (looks_x hfr hf x fun h' y up => lands_x (s := { s with heap := h' }) y fun h2 z up2 => ?_)
  obtain ⟨z1, z2, ⟨_, _, z3⟩, z4⟩ := z
  exact q h2 ⟨z1, z2, z3, z4⟩ (up.trans up2)
theorem leaves_new {args : List Value} (hfr : A.frames = some (env :: outer)) (hf : env.frame = some L) (hB : B.StaysIn h) (hl : h.FunFrames B (env :: outer)) (hx : Heap.MadeExcOf h s.heap e cls args)
    (q : ∀ h' t, FlX B outer e cls (.ref t) none h' → s.heap.UpToSlots h' → Q () { s with heap := h' }) : wpAny M A (leaving env (.ref e)) Q E s := by
  obtain ⟨t, he, _, _⟩ := hx.there
  have hn : B.get? e = none := by
    cases z : B.get? e with
    | none => rfl
    | some o => have := hB e o z; rw [hx.new] at this; cases this
  unfold leaving
  refine wpAny_bind (note_first (a0 := .ref t) hfr (hl.of_keeps fun b o hb _ => ⟨o, hx.keeps b o hb, rfl⟩) hf he (fun b o z => hx.keeps b o (hB b o z)) hn rfl rfl rfl fun h' x1 x2 x3 x4 => ?_)
  refine lands_x (s := { s with heap := h' }) ⟨x1, hn, x2, _, x3⟩ fun h2 z up2 => ?_
  obtain ⟨z1, z2, ⟨_, _, z3⟩, z4⟩ := z
  exact q h2 t ⟨z1, z2, z3, z4⟩ (x4.trans up2)
end
end L2
set_option Elab.async false
set_option linter.all false
set_option maxRecDepth 100000
namespace L2
open PySem PySem.Spec PyProof.Rows

structure Fly (P : Program) (w : World) (l : List Env) (H : Hp) (s : Shared) (C : Addr) (H' : Hp) (a : Addr) (s' : Shared) (B : Heap) (a0 : Value) (dct : Option Addr) : Prop where
  os : s'.os = s.os
  bare : AllBare s'.gens
  un : Un (frs l) [] H H' s.heap s'.heap
  hok : HOk P w H' s'.heap
  fly : FlX B l a (.ref C) a0 dct s'.heap
  kb : ∀ b o, s.heap.get? b = some o → b ∉ frs l → (∃ o', B.get? b = some o') ∧ (H b = none → B.get? b = some o)
  kt : ∀ b u, H' b = some u → ∃ o, B.get? b = some o
abbrev CX1 (P : Program) (w : World) : CXT := fun outer H s E e s' => ∃ a C H' B a0 dct, e = .ref a ∧ Fly P w outer H s C H' a s' B a0 dct ∧ E (.ref C) dct H'

section
variable {P : Program} {w : World} {H H' : Hp} {h h' B : Heap} {a : Addr} {o : HO}
theorem ObjOk.obj (x : ObjOk P w H h a o) : ∃ u, h.get? a = some u := by
  cases o with
  | lst xs => obtain ⟨_, _, _, _, e⟩ := x; exact ⟨_, e⟩
  | tup xs => obtain ⟨_, _, _, ob, e, _⟩ := x; exact ⟨_, e⟩
  | dK kvs => obtain ⟨_, _, _, _, o, _, _, e, _⟩ := x; exact ⟨_, e⟩
  | dT kvs => obtain ⟨_, _, _, _, o, _, _, e, _⟩ := x; exact ⟨_, e⟩
  | set S n => obtain ⟨o, _, _, _, e, _⟩ := x; exact ⟨_, e⟩
  | ins C dx fs => obtain ⟨_, _, _, e, _⟩ := x; exact ⟨_, e⟩
  | own y => obtain ⟨_, e⟩ := x; exact ⟨_, e⟩
  | xd fs => obtain ⟨_, ⟨_, _, _, e, _⟩, _⟩ := x; exact ⟨_, e⟩
  | rng lo hi => obtain ⟨_, _, _, e⟩ := x; exact ⟨_, e⟩
  | frz ob u => obtain ⟨e, _⟩ := x; exact ⟨_, e⟩
  | tbl ps => exact ⟨_, (show h.get? a = some _ from x)⟩
  | met f y => exact ⟨_, (show h.get? a = some _ from x)⟩
  | ext φ => obtain ⟨_, ⟨_, e⟩, _⟩ := x; exact ⟨_, e⟩
theorem hok_of (x : HOk P w H h) (k1 : B.StaysIn h) (k2 : B.StaysIn h') (kt : ∀ b u, H b = some u → ∃ o, B.get? b = some o) : HOk P w H h' := fun a o e =>
  (x a o e).stay (fun b u hb q => by
    have ht : ∃ v, H b = some v := by
      rcases hb with rfl | hb
      · exact ⟨_, e⟩
      · exact ⟨_, hb⟩
    obtain ⟨v, hv⟩ := ht
    obtain ⟨ob, hob⟩ := kt b v hv
    rw [k1 b ob hob] at q; cases q; exact k2 b _ hob) (fun _ q => q) fun _ _ q => q
end

section
variable {P : Program} {w : World} {l : List Env} {H H' : Hp} {s s' : Shared} {C a : Addr} {B h' : Heap} {a0 : Value} {dct : Option Addr}
theorem Fly.move (F : Fly P w l H s C H' a s' B a0 dct) (fl : FlX B l a (.ref C) a0 dct h') (up : s'.heap.UpToSlots h') : Fly P w l H s C H' a { s' with heap := h' } B a0 dct where
  os := F.os
  bare := F.bare
  un := {
    keep := fun b o q n hb _ => fl.1 b o ((F.kb b o q hb).2 n)
    slot := fun b o q n hb hx => by
      obtain ⟨sl, e⟩ := F.un.slot b o q n hb hx
      obtain ⟨_, o', ho', hd⟩ := F.fly.2.2.1.mem hb
      have z : some o' = some { o with slots := sl } := ho'.symm.trans e
      cases z
      obtain ⟨sl', e'⟩ := up b _ e hd
      exact ⟨sl', e'⟩
    free := F.un.free
    there := fun b o q _ => by
      by_cases hb : b ∈ frs l
      · obtain ⟨_, o', ho', _⟩ := fl.2.2.1.mem hb
        exact ⟨o', ho'⟩
      · obtain ⟨o', ho'⟩ := (F.kb b o q hb).1
        exact ⟨o', fl.1 b o' ho'⟩
    tups := F.un.tups
    frzs := F.un.frzs
    tbls := F.un.tbls }
  hok := hok_of F.hok F.fly.1 fl.1 F.kt
  fly := fl
  kb := F.kb
  kt := F.kt
theorem Fly.untracked (F : Fly P w l H s C H' a s' B a0 dct) : H' a = none := by
  cases q : H' a with
  | none => rfl
  | some u =>
    obtain ⟨o, e⟩ := F.kt a u q
    rw [F.fly.2.1] at e; cases e
end

section
variable {X : Cx} {pins : List (Addr × Obj)} {σ : St} {H H' : Hp} {s : Shared}
theorem Inv.notfr (I : Inv X pins σ H s) {b : Addr} {o : Obj} (e : X.s₀.heap.get? b = some o) (hb : b ∉ X.fs) : b ∉ frs X.stack := fun z => by
  rcases List.mem_cons.mp (I.stkSub b z) with r | r
  · exact absurd (Nat.lt_of_lt_of_le (Heap.lt_size e) I.ok.above) (by rw [r]; exact Nat.lt_irrefl _)
  · exact hb r
theorem fly_mk {g : Array GenState} {d : Drawn} {t : Nat} {C a : Addr} {B h1 h' : Heap} {a0 : Value} {dct : Option Addr} (I : Inv X pins σ H s) (hex : X.ex = []) (hfr : ∀ b ∈ X.fs, b ∈ frs X.stack) (u : Un (frs X.stack) [] H H' s.heap h1)
    (kb : ∀ b o, s.heap.get? b = some o → b ∉ frs X.stack → (∃ o', B.get? b = some o') ∧ (H b = none → B.get? b = some o)) (kt : ∀ b u, H' b = some u → ∃ o, B.get? b = some o)
    (hok : HOk X.prog X.w H' h1) (k1 : B.StaysIn h1) (hfun : h1.FunFrames B X.stack) (up : h1.UpToSlots h') (fl : FlX B X.outer a (.ref C) a0 dct h') (hg : AllBare g) :
    Fly X.prog X.w X.outer X.H₀ X.s₀ C H' a { s with heap := h', gens := g, drawn := d, toks := t } B a0 dct where
  os := I.os
  bare := hg
  un := {
    keep := fun b o q n hb hx => by
      have hx' : b ∉ X.ex := by rw [hex]; exact hx
      exact fl.1 b o ((kb b o (I.base.keep b o q n hb hx') (I.notfr q hb)).2 (I.base.free b o q n hx'))
    slot := fun b o q n hb hx => by
      have hx' : b ∉ X.ex := by rw [hex]; exact hx
      obtain ⟨sl, e⟩ := I.base.slot b o q n hb hx'
      obtain ⟨sl1, e1⟩ := u.slot b _ e (I.base.free b o q n hx') (hfr b hb) hx
      obtain ⟨_, o', ho', hd⟩ := hfun.mem (hfr b hb)
      have z := ho'.symm.trans e1
      cases z
      obtain ⟨sl2, e2⟩ := up b _ e1 hd
      exact ⟨sl2, e2⟩
    free := fun b o q n hx => by
      have hx' : b ∉ X.ex := by rw [hex]; exact hx
      obtain ⟨o', e⟩ := I.base.there b o q hx'
      exact u.free b o' e (I.base.free b o q n hx') hx
    there := fun b o q hx => by
      have hx' : b ∉ X.ex := by rw [hex]; exact hx
      by_cases hb : b ∈ X.fs
      · obtain ⟨_, o', ho', _⟩ := fl.2.2.1.mem hb
        exact ⟨o', ho'⟩
      · obtain ⟨o', e⟩ := I.base.there b o q hx'
        obtain ⟨o2, e2⟩ := (kb b o' e (I.notfr q hb)).1
        exact ⟨o2, fl.1 b o2 e2⟩
    tups := fun b xs q => u.tups b xs (I.base.tups b xs q)
    frzs := fun b o xs q => u.frzs b o xs (I.base.frzs b o xs q)
    tbls := fun b ps q => by
      obtain ⟨m1, e1⟩ := I.base.tbls b ps q
      obtain ⟨m2, e2⟩ := u.tbls b _ e1
      exact ⟨m1 ++ m2, by rw [e2, Array.append_assoc]⟩ }
  hok := hok_of hok k1 fl.1 kt
  fly := fl
  kb := fun b o q hb => by
    have hx' : b ∉ X.ex := by rw [hex]; exact List.not_mem_nil
    obtain ⟨o', e⟩ := I.base.there b o q hx'
    have z := kb b o' e (I.notfr q hb)
    exact ⟨z.1, fun n => (kb b o (I.base.keep b o q n hb hx') (I.notfr q hb)).2 (I.base.free b o q n hx')⟩
  kt := kt
end

abbrev XJ := Addr → Option Addr → St → Hp → Prop
def Bears (X : Cx) (J : XJ) : Prop := ∀ (pins : List (Addr × Obj)) (σ : St) (H : Hp) (s : Shared) (a C : Addr) (H' : Hp) (s' : Shared) (B : Heap) (a0 : Value) (dct : Option Addr),
  Inv X pins σ H s → Fly X.prog X.w X.stack H s C H' a s' B a0 dct → J C dct σ H' → X.xe (.ref a) s'
def BearsNew (X : Cx) (J : XJ) : Prop := ∀ (pins : List (Addr × Obj)) (σ : St) (H : Hp) (s : Shared) (h' : Heap) (a C : Addr) (us : List Value),
  Inv X pins σ H s → Heap.MadeExcOf s.heap h' a (.ref C) us → J C none σ H → X.xe (.ref a) { s with heap := h' }
def EJ (E : XK) : XJ := fun C d _ H' => E (.ref C) d H'
section
variable {P : Program} {w : World} {K : PySem.W.Frag} {mg : Str → Option Value} {base : Heap} {N : List Str} {qual : Str} {scope : Scope} {f : Addr} {cd : Value} {A : Around} {outer : List Env} {s : Shared} {H : Hp} {E : XK}
theorem bears_def : Bears (cxOf (CX1 P w) P w K mg base N qual scope f cd A outer s H E) (EJ E) := by
  intro pins σ H1 s1 a C H' s' B a0 dct I F q
  obtain ⟨hh, g, d, t, os'⟩ := s'
  have e : os' = s1.os := F.os
  subst e
  refine leaves_x (L := s.heap.objs.size) I.ok.frames rfl F.fly fun h' fl up => ?_
  refine ⟨a, C, H', B, a0, dct, rfl, ?_, q⟩
  have z := fly_mk (g := g) (d := d) (t := t) I rfl (fun b hb => List.mem_cons_of_mem _ hb) F.un F.kb F.kt F.hok F.fly.1 F.fly.2.2.1 up fl F.bare
  exact z
theorem bearsNew_def : BearsNew (cxOf (CX1 P w) P w K mg base N qual scope f cd A outer s H E) (EJ E) := by
  intro pins σ H1 s1 h1 a C us I hx q
  have hin : ∀ b o, s1.heap.get? b = some o → b ∉ frs (cxOf (CX1 P w) P w K mg base N qual scope f cd A outer s H E).stack →
      (PySem.W.hideAll s1.heap (frs (cxOf (CX1 P w) P w K mg base N qual scope f cd A outer s H E).stack)).get? b = some o := fun b o e n => PySem.W.hideAll_get _ e n
  have hst : (PySem.W.hideAll s1.heap (frs (cxOf (CX1 P w) P w K mg base N qual scope f cd A outer s H E).stack)).StaysIn s1.heap := fun b o q => PySem.W.of_hideAll _ q
  have hff : s1.heap.FunFrames (PySem.W.hideAll s1.heap (frs (cxOf (CX1 P w) P w K mg base N qual scope f cd A outer s H E).stack)) (cxOf (CX1 P w) P w K mg base N qual scope f cd A outer s H E).stack :=
    PySem.W.funFrames_hide I.stack fun env he b hb => List.mem_filterMap.mpr ⟨env, he, hb⟩
  refine leaves_new (L := s.heap.objs.size) (h := s1.heap) (s := { s1 with heap := h1 }) I.ok.frames rfl hst hff hx fun h' t fl up => ?_
  have z := fly_mk (g := s1.gens) (d := s1.drawn) (t := s1.toks) (h1 := h1) I rfl (fun b hb => List.mem_cons_of_mem _ hb) (Un.kept hx.keeps) (fun b o e n => ⟨⟨o, hin b o e n⟩, fun _ => hin b o e n⟩)
    (fun b u e => by
      obtain ⟨o, ho⟩ := (I.hok b u e).obj
      exact ⟨o, hin b o ho fun z => by rw [I.stkFree b z] at e; cases e⟩) (I.hok.kept hx.keeps) (fun b o e => hx.keeps b o (hst b o e)) (hff.of_keeps fun b o e _ => ⟨o, hx.keeps b o e, rfl⟩) up fl I.bare
  exact ⟨a, C, H1, _, _, _, rfl, z, q⟩
end

def tCallX (sp : Sp) (dvs : List V) (J : XJ) (t : TA) : TE := fun σ H Q => t σ H fun vs H1 => sp (vs ++ dvs) H1 Q fun c d H' => ∃ C, c = .ref C ∧ J C d σ H'
structure Cal1 (P : Program) (w : World) (K : PySem.W.Frag) (mg : Str → Option Value) (base : Heap) (x : Str) (k : Nat) (ps : List Str) (dvs : List V) (sp : Sp) : Prop where
  ex : ∃ f fd ds, FnOk P w K mg base (CX1 P w) k f fd ps sp ∧ mg x = some (.ref f) ∧ PySem.W.keepIn K (.ref f) = true ∧ Binds K fd ps ds ∧ Vals dvs ds
section
variable {X : Cx} {k : Nat} {f : Addr} {fd : FuncData} {ps : List Str} {sp : Sp} {dvs : List V} {ds : List Value} {J : XJ} {x : Str} {p pos : Pos} {e : Expr} {es : List Expr} {t : TA}
theorem run_fnX {pins : List (Addr × Obj)} {σ : St} {H : Hp} {s : Shared} {Q : VK} {us : List Value} {vs : List V} (F : FnOk X.prog X.w X.K X.mg X.base (CX1 X.prog X.w) k f fd ps sp) (hr : Room k X.A) (hb : Binds X.K fd ps ds) (hd : Vals dvs ds) (hx : Bears X J)
    (I : Inv X pins σ H s) (r : Vals vs us) (h : sp (vs ++ dvs) H Q fun c d H' => ∃ C, c = .ref C ∧ J C d σ H') : wpAny (model X.prog X.w) X.A (call (.ref f) us) (EP X pins σ Q) X.xe s := by
  have r2 : Vals (vs ++ dvs) (us ++ ds) := r.append hd
  have hl : (us ++ ds).length = ps.length := by rw [← r2.length]; exact F.len _ _ _ _ h
  refine wpAny_call (codeAny_mono (F.run X.A X.stack s H ⟨us, []⟩ (us ++ ds) (vs ++ dvs) Q _ hr I.env0 (hb s us I.kIn hl) r2 h) fun r s' hq => ?_)
  cases r with
  | error e =>
    obtain ⟨a, C, H', B, a0, dct, rfl, F, C', hC, q⟩ := hq
    cases hC
    exact hx pins σ H s a C H' s' B a0 dct I F q
  | ok fl =>
    cases fl with
    | ret u => exact I.after hq
    | next => exact False.elim hq
    | brk => exact False.elim hq
    | cont => exact False.elim hq
theorem pe_cx (c : Cal1 X.prog X.w X.K X.mg X.base x k ps dvs sp) (hr : Room k X.A) (hx : Bears X J) (ha : PA X (e :: es) t) (hg : Gl X x := by rfl) (hdb : (x == ("__debug__" : Str)) = false := by decide)
    (he : starEach (e :: es) X.env = (false, eval e X.env) :: starEach es X.env := by rfl) (hpl : (backTo pos (starEach es X.env)).any (·.1) = false := by rfl) :
    PE X (.Call (.Name x p) (e :: es) [] pos) (tCallX sp dvs J t) := by
  obtain ⟨f, fd, ds, F, hm, hk, hb, hd⟩ := c.ex
  intro pins s σ H Q I h
  refine wpAny_Call_Name_kw (ld_glob I hg hm ?_ hdb)
  refine PySem.W.callWith_K (h₀ := X.base) I.ok.mod.kin hk (thn (ha pos pins s σ H _ I h) fun us s1 ⟨vs, H1, I1, r, q⟩ => ⟨I1.kIn, ?_⟩) he hpl
  exact run_fnX F hr hb hd hx I1 r q
end
section
variable {P : Program} {w : World} {K : PySem.W.Frag} {mg : Str → Option Value} {base : Heap}
theorem Df.cal1 {x : Str} {st : Stmt} {N ps : List Str} {dvs : List V} {k : Nat} {sp : Sp} (D : Df K mg x st ps dvs) (S : FnScope N ps (defScope st)) (len : ∀ vs H Q E, sp vs H Q E → vs.length = ps.length)
    (hbody : ∀ (f : Addr) (cdv : Value) (A : Around) (outer : List Env) (s : Shared) (H : Hp) (vs : List V) (Q : VK) (E : XK), Room k (A.deeper (envOfC x (defScope st) s.heap.objs.size f cdv)) → sp vs H Q E →
      ∃ t, PSs (cxOf (CX1 P w) P w K mg base N x (defScope st) f cdv A outer s H E) (defBody st) t ∧ t { nx := fun _ H' => Q .non H', rt := Q } (start N vs) H) : Cal1 P w K mg base x (k + 1) ps dvs sp := by
  obtain ⟨f, oc, od, dV, kV, doc, pm, an, cdv, ct, osl, ds, lk, hcd, hk, hm, hv, hb⟩ := D.ex
  exact ⟨⟨f, _, ds, fn_of lk hcd S len fun A outer s H vs Q E hr hsp => hbody f cdv A outer s H vs Q E hr hsp, hm, hk, hb, hv⟩⟩
theorem Cal1.mono {x : Str} {j k : Nat} {ps : List Str} {dvs : List V} {sp : Sp} (c : Cal1 P w K mg base x j ps dvs sp) (h : j ≤ k) : Cal1 P w K mg base x k ps dvs sp := by
  obtain ⟨f, fd, ds, F, r⟩ := c.ex
  exact ⟨⟨f, fd, ds, F.mono h, r⟩⟩
end
end L2
set_option Elab.async false
set_option linter.all false
set_option maxRecDepth 100000
namespace L2
open PySem PySem.Spec PyProof.Rows

def tRaise (C : Addr) (J : XJ) (t : TA) : TS := fun _ σ H => t σ H fun vs H1 => vs.length ≤ sizeLine ∧ J C none σ H1
section
variable {X : Cx} {J : XJ} {x : Str} {C : Addr} {bmB bmN : List Value} {newId Bn inN B nid initId : String} {np cpos pos : Pos} {e : Expr} {es : List Expr} {t : TA}
theorem ps_raise (O : OwnCls x C bmB newId X.mg X.base) (Fn : ExcBaseFacts Bn newId inN bmN) (hBn : bmB.contains (.type Bn) = true) (FB : ExcBaseFacts B nid initId bmB) (hh : X.A.handled = none) (hJ : BearsNew X J) (ha : PA X (e :: es) t)
    (hg : Gl X x := by rfl) (hd : (x == ("__debug__" : Str)) = false := by decide)
    (he : starEach (e :: es) X.env = (false, eval e X.env) :: starEach es X.env := by rfl) (hpl : (backTo cpos (starEach (e :: es) X.env)).any (·.1) = false := by rfl) :
    PS X (.Raise (some (.Call (.Name x np) (e :: es) [] cpos)) none pos) (tRaise C J t) := by
  intro pins s σ H D I h
  obtain ⟨tl, N, nm, q, bs, hdct, sn, sub, ab, col, dd, k0, k1, k2, k3, k5, mN, hC, hN, hni, T⟩ := O.obj
  refine wpAny_Raise_call_subU (C := C) (N := N) (bm := tl) (nm := nm) (q := q) (bs := bs) (hdct := hdct) (sn := sn) (sub := sub) (ab := ab) (col := col) (dd := dd) (k0 := k0) (k1 := k1) (k2 := k2) (k3 := k3) (k5 := k5) Fn hBn FB (mN := mN) (T.hasType FB.hasBase) hh hpl hni (ld_glob I hg O.bound ⟨rfl, ?_⟩ hd)
  have hw := ha cpos pins s σ H _ I h
  rw [he] at hw ⊢
  exact Calls.evalArgs_plain (wpAny_mono hw (fun vs s2 ⟨ws, H1, I1, r, z, q⟩ => ⟨rfl, by rw [← r.length]; exact z, I1.bk _ _ hC, hN.keeps I1.bk, T.keeps I1.bk, fun h' e hm => hJ pins σ H1 s2 h' e C vs I1 hm q⟩) fun _ _ y => y)
end

section
variable {X : Cx} {pins : List (Addr × Obj)} {σ : St} {H : Hp} {s : Shared}
theorem goes_ok {M : Model} {A : Around} {E : Value → Shared → Prop} {i : Nat} {n : Str} {pos : Pos} {Q : Unit → Shared → Prop} (I : Inv X pins σ H s) (hN : X.N.Nodup) (hi : X.N[i]? = some n) (hk : X.env.kindOf n = some .local)
    (h : ∀ s', Inv X pins (σ.set i none) H s' → Q () s') : wpAny M A (do bindName X.env n .none; unbindBehindTheSuite X.env n pos) Q E s := by
  obtain ⟨m, hn, hl⟩ := id I.loc
  have hcls : (X.env.scope.kind == .class || (X.env.scope.kind == .module && X.env.locals != X.env.globals)) = false := by rw [I.ok.kind]; rfl
  have hiσ : i < σ.length := by rw [I.len]; exact (List.getElem?_eq_some_iff.mp hi).1
  have neL : ∀ b o, X.s₀.heap.get? b = some o → b ≠ X.env.locals := fun b o e => Nat.ne_of_lt (Nat.lt_of_lt_of_le (Heap.lt_size e) I.ok.above)
  refine wpAny_nameGoes_keeps hk hn hcls fun h' v hn' hs => h _ ⟨I.ok, I.os, I.bare, ⟨fun b o e n hb hx => (hs.2 b (neL b o e)).trans (I.base.keep b o e n hb hx), fun b o e n hb hx => ?_, I.base.free, fun b o e hx => ?_, I.base.tups, I.base.frzs, I.base.tbls⟩,
    ⟨_, hn', fun j y v' e1 e2 e3 => ?_⟩, fun y c e => ?_, I.free, I.freeC, fun p hp => ?_, fun b ob e => ?_, by simpa using I.len⟩
  · obtain ⟨sl, e1⟩ := I.base.slot b o e n hb hx
    exact ⟨sl, (hs.2 b (neL b o e)).trans e1⟩
  · obtain ⟨o', e1⟩ := I.base.there b o e hx
    exact ⟨o', (hs.2 b (neL b o e)).trans e1⟩
  · by_cases hj : j = i
    · subst hj
      rw [List.getElem?_set_self hiσ] at e2
      cases e2
    · rw [List.getElem?_set_ne (Ne.symm hj)] at e2
      obtain ⟨u', r', q⟩ := hl j y v' e1 e2 e3
      refine ⟨u', r', ?_⟩
      rcases q with ⟨k, e⟩ | ⟨k, c, e, z⟩
      · refine .inl ⟨k, ?_⟩
        have : y ≠ n := fun e => hj (nodup_ix hN e1 (e ▸ hi))
        simp [this, e]
      · exact .inr ⟨k, c, e, z.sameBut hs (I.cne y c e)⟩
  · obtain ⟨w', z⟩ := I.cell y c e
    exact ⟨w', z.sameBut hs (I.cne y c e)⟩
  · obtain ⟨e, n, ne, nf, d⟩ := I.pin p hp
    exact ⟨(hs.2 p.1 ne).trans e, n, ne, nf, d⟩
  · refine (I.hok b ob e).stay (fun c w' hc q => (hs.2 c fun z => ?_).trans q) (fun _ q => q) fun _ _ q => q
    subst z
    rcases hc with rfl | hc
    · rw [I.free] at e; cases e
    · rw [I.free] at hc; cases hc
end

abbrev Cx.tried (X : Cx) (pins : List (Addr × Obj)) (W : Value → Shared → Prop) : Cx := { X with pn := X.pn ++ pins, xe := W }
abbrev Cx.suite (X : Cx) (pins : List (Addr × Obj)) (a : Addr) (oe : Obj) : Cx := { X with A := X.A.mark (some (.ref a)), calm := false, pn := X.pn ++ (pins ++ [(a, oe)]), xe := fun _ _ => False }
abbrev Cx.testing (X : Cx) (a : Addr) : Cx := { X with A := X.A.mark (some (.ref a)), calm := false }
section
variable {X : Cx} {pins : List (Addr × Obj)} {σ : St} {H : Hp} {s : Shared}
theorem Inv.tried (I : Inv X pins σ H s) (W : Value → Shared → Prop) : Inv (X.tried pins W) [] σ H s :=
  ⟨⟨I.ok.mod, I.ok.kind, I.ok.glob, I.ok.blt, I.ok.above, I.ok.inj, I.ok.has, I.ok.cab, I.ok.hd, I.ok.frames, I.ok.stk, I.ok.exf, I.ok.bs, I.ok.bsz, I.ok.noex, I.ok.exfs, I.ok.funs, I.ok.frf⟩,
    I.os, I.bare, I.base, I.loc, I.cell, I.free, I.freeC, fun p hp => I.pin p (by rw [List.append_nil] at hp; exact hp), I.hok, I.len⟩
theorem Inv.untried {pins' : List (Addr × Obj)} {W : Value → Shared → Prop} (ok : X.Ok) (I : Inv (X.tried pins W) pins' σ H s) : Inv X pins σ H s :=
  ⟨ok, I.os, I.bare, I.base, I.loc, I.cell, I.free, I.freeC, fun p hp => I.pin p (List.mem_append_left _ hp), I.hok, I.len⟩
theorem Inv.test (I : Inv X pins σ H s) (a : Addr) : Inv (X.testing a) pins σ H s :=
  ⟨⟨I.ok.mod, I.ok.kind, I.ok.glob, I.ok.blt, I.ok.above, I.ok.inj, I.ok.has, I.ok.cab, (fun h => nomatch h), I.ok.frames, I.ok.stk, I.ok.exf, I.ok.bs, I.ok.bsz, I.ok.noex, I.ok.exfs, I.ok.funs, I.ok.frf⟩,
    I.os, I.bare, I.base, I.loc, I.cell, I.free, I.freeC, I.pin, I.hok, I.len⟩
theorem Inv.suite {a : Addr} {oe : Obj} {vs : Array Value} (I : Inv X pins σ H s) (e : s.heap.get? a = some oe) (hd : oe.data = .fields vs) (hn : H a = none) : Inv (X.suite pins a oe) [] σ H s :=
  ⟨⟨I.ok.mod, I.ok.kind, I.ok.glob, I.ok.blt, I.ok.above, I.ok.inj, I.ok.has, I.ok.cab, (fun h => nomatch h), I.ok.frames, I.ok.stk, I.ok.exf, I.ok.bs, I.ok.bsz, I.ok.noex, I.ok.exfs, I.ok.funs, I.ok.frf⟩,
    I.os, I.bare, I.base, I.loc, I.cell, I.free, I.freeC, (fun p hp => by
      rw [List.append_nil] at hp
      have hp' : p ∈ X.pn ++ pins ∨ p ∈ [(a, oe)] := by
        rcases List.mem_append.mp hp with z | z
        · exact .inl (List.mem_append_left _ z)
        · rcases List.mem_append.mp z with z | z
          · exact .inl (List.mem_append_right _ z)
          · exact .inr z
      rcases hp' with z | z
      · exact I.pin p z
      · obtain rfl : p = (a, oe) := by simpa using z
        refine ⟨e, hn, fun q => ?_, fun q => ?_, fun v q => ?_⟩
        · obtain ⟨m, ⟨o, es, ep, ho, hd', _⟩, _⟩ := I.loc
          rw [← show a = X.env.locals from q, e] at ho
          cases ho
          rw [hd] at hd'; cases hd'
        · obtain ⟨_, o, ho, hnf⟩ := I.funs.mem q
          rw [show s.heap.get? a = some oe from e] at ho
          cases ho
          exact hnf vs hd
        · have q' : oe.data = .cell v := q
          rw [hd] at q'; cases q'), I.hok, I.len⟩
theorem Inv.unsuite {a : Addr} {oe : Obj} (ok : X.Ok) (I : Inv (X.suite pins a oe) [] σ H s) : Inv X pins σ H s :=
  ⟨ok, I.os, I.bare, I.base, I.loc, I.cell, I.free, I.freeC, fun p hp => I.pin p (by
    rw [List.append_nil]
    rcases List.mem_append.mp hp with z | z
    · exact List.mem_append_left _ z
    · exact List.mem_append_right _ (List.mem_append_left _ z)), I.hok, I.len⟩
end
def Ends.gone (i : Nat) (D : Ends) : Ends := { nx := fun σ H => D.nx (σ.set i none) H, rt := D.rt, bk := fun σ H => D.bk (σ.set i none) H, ct := fun σ H => D.ct (σ.set i none) H }
def tTry (i : Nat) (C : Addr) (tb : XJ → TS) (ts : Addr → Option Addr → TS) : TS := fun D σ H =>
  tb (fun C' d σ' H' => C' = C ∧ ∀ a, H' a = none → ts a d (D.gone i) (σ'.set i (some (.ref a))) H') D σ H
section
variable {X : Cx} {i : Nat} {x n : Str} {C : Addr} {bmB : List Value} {newId : String} {np hpos pos : Pos} {body suite : List Stmt} {b₀ : Stmt} {tb : XJ → TS} {ts : Addr → Option Addr → TS}
theorem ps_try (hst : X.stack = X.env :: X.outer) (hfr : X.env.frame = some X.env.locals) (O : OwnCls x C bmB newId X.mg X.base) (hbase : bmB.contains (.type "BaseException") = true) (hN : X.N.Nodup) (hi : X.N[i]? = some n) (hk : X.env.kindOf n = some .local)
    (hb : ∀ pins W J, Bears (X.tried pins W) J → PSs (X.tried pins W) body (tb J)) (hs : ∀ pins a oe d vs, oe.cls = .ref C → oe.dict = d → oe.data = .fields vs → PSs (X.suite pins a oe) (b₀ :: suite) (ts a d))
    (hg : Gl X x := by rfl) (hd : (x == ("__debug__" : Str)) = false := by decide) :
    PS X (.Try body [.ExceptHandler (some (.Name x np)) (some n) (b₀ :: suite) hpos] [] [] pos) (tTry i C tb ts) := by
  intro pins s σ H D I h
  have hb' := hb pins (fun e s₁ => wpAny (model X.prog X.w) X.A (noteFrame e X.env) (fun _ s₂ => wpAny (model X.prog X.w) X.A (setFlight e none) (fun _ s₃ =>
    wpAny (model X.prog X.w) X.A (handleBy e X.env [.ExceptHandler (some (.Name x np)) (some n) (b₀ :: suite) hpos]) (SP X pins D) X.xe s₃) X.xe s₂) X.xe s₁) _ ?_ [] s σ H D (I.tried _) h
  · refine wpAny_Try_except (wpAny_mono hb' (fun f s1 hf => ?_) fun _ _ z => z)
    cases f with
    | next => obtain ⟨σ', H', I', q⟩ := hf; exact wpAny_execs_nil ⟨σ', H', I'.untried I.ok, q⟩
    | brk => obtain ⟨σ', H', I', q⟩ := hf; exact ⟨σ', H', I'.untried I.ok, q⟩
    | cont => obtain ⟨σ', H', I', q⟩ := hf; exact ⟨σ', H', I'.untried I.ok, q⟩
    | ret u => obtain ⟨v, σ', H', I', r, q⟩ := hf; exact ⟨v, σ', H', I'.untried I.ok, r, q⟩
  · intro pins' σ' H1 s1 a C' H' s' B a0 dct I1 F hq
    obtain ⟨rfl, q⟩ := hq
    have I1 := I1.untried I.ok
    have hfrm : X.A.frames = some (X.env :: X.outer) := by rw [← hst]; exact I.ok.frames
    have F : Fly X.prog X.w X.stack H1 s1 C' H' a s' B a0 dct := F
    have Ffl : FlX B (X.env :: X.outer) a (.ref C') a0 dct s'.heap := by rw [← hst]; exact F.fly
    refine looks_x hfrm hfr Ffl fun h4 held up4 => ?_
    refine lands_x held fun h5 fl5 up5 => ?_
    have F5 := F.move (by rw [hst]; exact fl5) (up4.trans up5)
    have I5 := I1.call' F5.os F5.un F5.hok F5.bare (fun b z => absurd z (by simp))
    obtain ⟨ob, hob, hobc⟩ := fl5.there
    obtain ⟨tl, N, nm, q', bs, hdct, sn, sub, ab, col, dd, k0, k1, k2, k3, k5, mN, hC, hN', hni, T⟩ := O.obj
    refine wpAny_handleBy_cons (codeAny_handlers_test (ld_glob (X := X.testing a) (I5.test a) hg O.bound ?_ hd)) (by intro q; cases q)
    obtain ⟨hh, g, d, tk, os⟩ := s'
    refine wpAny_excMatches_sub_self (I5.bk _ _ hC) hob hobc (T.hasType hbase) (codeAny_handlers_suite_as ?_)
    refine lands_x fl5.held fun h6 fl6 up6 => ?_
    have F6 := F5.move (by rw [hst]; exact fl6) up6
    have I6 := I1.call' F6.os F6.un F6.hok F6.bare (fun b z => absurd z (by simp))
    obtain ⟨oe, ws, hoe, hoec, hoet, hoed⟩ := fl6.first
    refine store_ok (X := X.suite pins a oe) (I6.suite hoe hoed F6.untracked) hN hi (.inl hk) (v := .ref a) rfl (fun s7 I7 => ?_) (.inr hk)
    refine wpAny_mono (hs pins a oe dct ws hoec hoet hoed [] s7 _ H' (D.gone i) I7 (q a F6.untracked)) (fun f s8 hf => ?_) fun _ _ z => z.elim
    cases f with
    | next => obtain ⟨σ8, H8, I8, q8⟩ := hf; exact goes_ok (I8.unsuite I.ok) hN hi hk fun s9 I9 => ⟨_, _, I9, q8⟩
    | brk => obtain ⟨σ8, H8, I8, q8⟩ := hf; exact goes_ok (I8.unsuite I.ok) hN hi hk fun s9 I9 => ⟨_, _, I9, q8⟩
    | cont => obtain ⟨σ8, H8, I8, q8⟩ := hf; exact goes_ok (I8.unsuite I.ok) hN hi hk fun s9 I9 => ⟨_, _, I9, q8⟩
    | ret u => obtain ⟨v, σ8, H8, I8, r8, q8⟩ := hf; exact goes_ok (I8.unsuite I.ok) hN hi hk fun s9 I9 => ⟨_, _, _, I9, r8, q8⟩
end

section
variable {X : Cx} {pins : List (Addr × Obj)} {σ : St} {H : Hp} {s : Shared}
end
end L2
set_option Elab.async false
set_option linter.all false
set_option maxRecDepth 100000
namespace L2
open PySem PySem.Spec PyProof.Rows PySem.W
section
variable {prog : Program} {w : World} {A : Around} {E : Value → Shared → Prop} {s : Shared} {K : PySem.W.Frag} {x D : Addr} {ox : Obj} {od : Option Obj}
theorem bexc_check {M : Model} {nameV : Value} {Q : Unit → Shared → Prop} (X : K.In s.heap) (I : InstAt s.heap x ox D od) (hb : subIn K (.ref D) (.type "BaseException") = some true) (q : Q () s) : wpAny M A (checkBuiltinCall "BaseException.__getattribute__" ⟨[.ref x, nameV], []⟩) Q E s := by
  have k1 : builtinKind "BaseException.__getattribute__" = some .slot := by decide +kernel
  have k2 : splitId "BaseException.__getattribute__" = some ("BaseException", "__getattribute__") := by decide +kernel
  have k3 := F.args_bexc_ga (.ref x) nameV
  have L : Looks M s.heap (isInstance (.ref x) (.type "BaseException")) true := (I.type (M := M)).andThen (looks_subIn X hb)
  obtain ⟨hh, g, d, t, os⟩ := s
  simp only [checkBuiltinCall, k1, k2]
  refine wpAny_bind (L.at ?_)
  repeat (any_goals (first | assumption | wp_step))
theorem exc_cls {Q : Option Value → Shared → Prop} (X : K.In s.heap) (I : InstAt s.heap x ox D od) (hga : findIn K (.ref D) "__getattribute__" = some (some (.builtin "BaseException.__getattribute__"))) (hno : findIn K (.ref D) "__getattr__" = some none)
    (hb : subIn K (.ref D) (.type "BaseException") = some true) (hf : findObj K D od "__class__" = some (.bind (.builtin "getset_descriptor.__get__") (.builtin "object.__class__"))) (hm : mroIn K D (.type "object") = some true)
    (h : Q (some (.ref D)) { s with toks := s.toks + 1 }) : wpAny (model prog w) A (getAttr? (.ref x) "__class__") Q E s := by
  have L0 := I.type (M := model prog w)
  have L1 := looks_findIn (M := model prog w) X hga
  have L2 := looks_findIn (M := model prog w) X hno
  have L3 := looks_find (M := model prog w) X I hf
  have GA := F.attr_ValueError.ga
  obtain ⟨hh, g, d, t, os⟩ := s
  unfold getAttr? getAttrBy? getAttrBy
  refine wpAny_bind (wpAny_mkText (wpAny_bind (wpAny_attempt (wpAny_holding (wpAny_bind (L0.at (wpAny_bind (L1.at ?_))))))))
  dsimp only
  rw [if_neg (show ¬ ((onTheHeap (.ref D) && Value.builtin "BaseException.__getattribute__" == Value.builtin "object.__getattribute__") = true) by
    rw [show (Value.builtin "BaseException.__getattribute__" == Value.builtin "object.__getattribute__") = false by decide +kernel]; simp)]
  unfold getAttrByItsOwn
  refine wpAny_bind (?_ : wpAny _ _ (typeLookup (.ref D) "__getattr__") _ _ _)
  refine L2.at ?_
  refine wpAny_bind (wpAny_attempt (wpAny_holding (?_ : wpAny _ _ (boundAndCalled (.builtin "BaseException.__getattribute__") (.ref x) _) _ _ _)))
  unfold boundAndCalled
  refine wpAny_bind (wpAny_of_eq (GA.bind _) ?_)
  refine wpAny_call (codeAny_call_builtin GA.plain F.entry_bexc_ga (bexc_check X I hb ?_))
  unfold Builtin.«object.__getattribute__»
  refine wpAny_bind (wpAny_pure (wpAny_bind (wpAny_pure (wpAny_bind (L0.at (wpAny_bind (L3.at ?_)))))))
  show wpAny _ _ (holding [Value.builtin "object.__class__"] (call (.builtin "getset_descriptor.__get__") [.builtin "object.__class__", .ref x, .ref D]) >>= ret) _ _ _
  refine wpAny_bind (wpAny_holding (wpAny_call (class_get (s := ⟨hh, g, d, t + 1, os⟩) (ox := ox) (od := od) X I hm ?_)))
  refine wpAny_pure ?_
  exact wpAny_pure (wpAny_pure h)
theorem find_data {name : Str} {a g : Value} (hc : (clsIn K D).isSome = true) (ha : findIn K (.ref D) name = some (some a)) (hg : specialIn K a "__get__" = some (some g)) (ht : takesIn K a = some true) : findObj K D od name = some (.bind g a) := by
  obtain ⟨cd, e⟩ := Option.isSome_iff_exists.mp hc
  unfold findObj; rw [e, Option.bind_some, ha, Option.bind_some]
  simp [hg, ht]
structure ExcK (K : PySem.W.Frag) (D : Addr) : Prop where
  ga : findIn K (.ref D) "__getattribute__" = some (some (.builtin "BaseException.__getattribute__"))
  no : findIn K (.ref D) "__getattr__" = some none
  bx : subIn K (.ref D) (.type "BaseException") = some true
  ob : mroIn K D (.type "object") = some true
  ds : hasDictIn K D = true
  ca : findIn K (.ref D) "__class__" = some (some (.builtin "object.__class__"))
  sp : specialIn K (.builtin "object.__class__") "__get__" = some (some (.builtin "getset_descriptor.__get__"))
  tk : takesIn K (.builtin "object.__class__") = some true
theorem kitx_exc (Z : ExcK K D) : KitX K (.ref x) (.ref D) (fun h => ∃ ox od, InstAt h x ox D od) where
  ty := fun _ _ _ ⟨_, _, I⟩ => I.type
  it := fun _ _ X _ => by
    obtain ⟨cdD, hcD, _⟩ := any_some Z.ds
    unfold clsIn at hcD
    split at hcD
    case h_1 c' d' cd' sl' ho =>
      intro A' Q' E' s' k q
      unfold isType loadHead
      exact wpAny_bind (wpAny_loadPart (k _ _ (X _ _ ho)) (wpAny_pure q))
    case h_2 => cases hcD
  ne := fun h tp dd its n sl X htp => by
    obtain ⟨cdD, hcD, _⟩ := any_some Z.ds
    refine Bool.eq_false_iff.mpr fun q => ?_
    have e : D = tp := Value.ref.inj (beq_iff_eq.mp q)
    subst e
    unfold clsIn at hcD
    split at hcD
    case h_1 c' d' cd' sl' ho => exact nomatch (X _ _ ho).symm.trans htp
    case h_2 => cases hcD
  ca := fun X ⟨_, od, I⟩ k => exc_cls X I Z.ga Z.no Z.bx (find_data (by obtain ⟨cd, hc, _⟩ := any_some Z.ds; rw [hc]; rfl) Z.ca Z.sp Z.tk) Z.ob k
end
section
variable {X : Cx}
end
end L2
set_option Elab.async false
set_option linter.all false
set_option maxRecDepth 100000
namespace L2
open PySem PySem.Spec PyProof.Rows

def caps (σ : St) (js : List Nat) : St := js.map fun j => (σ[j]?).getD none
inductive Capt (X : Cx) (scope : Scope) (cl : List (Str × Addr)) : List Str → List Nat → Prop
  | nil : Capt X scope cl [] []
  | cons {x : Str} {j : Nat} {r : List Str} {js : List Nat} : X.N[j]? = some x → X.env.kindOf x = some .cell → (relabel scope X.env).names.lookup x = some .cell → (∃ c, cl.lookup x = some c) → Capt X scope cl r js → Capt X scope cl (x :: r) (j :: js)
section
variable {X : Cx} {scope : Scope} {cl : List (Str × Addr)}
theorem Capt.length : ∀ {r : List Str} {js : List Nat}, Capt X scope cl r js → r.length = js.length
  | _, _, .nil => rfl
  | _, _, .cons _ _ _ _ t => by rw [List.length_cons, List.length_cons, Capt.length t]
theorem Capt.get : ∀ {r : List Str} {js : List Nat} {k : Nat} {x : Str}, Capt X scope cl r js → r[k]? = some x → ∃ j, js[k]? = some j ∧ X.N[j]? = some x ∧ X.env.kindOf x = some .cell ∧ (relabel scope X.env).names.lookup x = some .cell ∧ ∃ c, cl.lookup x = some c
  | _, _, _, _, .nil, e => by simp at e
  | _, _, 0, _, .cons h1 h2 h3 h4 _, e => by
    simp at e; subst e
    exact ⟨_, rfl, h1, h2, h3, h4⟩
  | _, _, k + 1, x, .cons _ _ _ _ t, e => by
    obtain ⟨j, r⟩ := Capt.get (k := k) t (by simpa using e)
    exact ⟨j, by simpa using r⟩
theorem Capt.has {r : List Str} {js : List Nat} (h : Capt X scope cl r js) {x : Str} (hx : x ∈ r) : ∃ c, cl.lookup x = some c := by
  obtain ⟨k, hk⟩ := List.getElem?_of_mem hx
  obtain ⟨_, _, _, _, _, z⟩ := h.get hk
  exact z
end
def cxCompC (X : Cx) (NB FR : List Str) (scope : Scope) (cl : List (Str × Addr)) (s3 : Shared) (H3 : Hp) (fp : List Addr) : Cx :=
  { X with N := NB ++ FR, s₀ := s3, H₀ := H3, env := compEnvC scope cl s3.heap.objs.size X.env, outer := X.stack, stack := X.stack, ex := fp, fn := fun _ => false, pn := [], xe := fun _ _ => False }
def tCompC (n : Nat) (js : List Nat) (wi : TI) (g : TG) (tt : TT) (te : TE) : TE := fun σ H Q => wi σ H fun J H1 => ∀ D, H1 D = none → ∃ W : Nat → Nat → Hp → List V → Prop, (∃ m, W 0 m (upd H1 D (.lst [])) []) ∧
  ∀ i m H2 ys, W i m H2 ys → H2 D = some (.lst ys) → (J.stop i H2 ∧ Q (.ref D) H2) ∨
    (J.go i H2 ∧ ∀ zs x H3, zs.length = n → J.yld i H2 x H3 → g x (zs ++ caps σ js) H3 fun σ4 H4 => σ4.drop n = caps σ js ∧ tt σ4 H4 fun b H5 =>
      if b = true then te σ4 H5 (fun v H6 => H6 D = some (.lst ys) ∧ ys.length < sizeLine ∧ ∃ m', m' < m ∧ W (i + 1) m' (upd H6 D (.lst (ys ++ [v]))) (ys ++ [v]))
      else H5 D = some (.lst ys) ∧ ∃ m', m' < m ∧ W (i + 1) m' H5 ys)

theorem relabel_has {scope : Scope} {env : Env} {FR : List Str} {x : Str} (h : (relabel scope env).names.all (fun y => !(y.2 == .cell || y.2 == .free) || FR.contains y.1) = true)
    (e : (relabel scope env).names.lookup x = some .cell ∨ (relabel scope env).names.lookup x = some .free) : x ∈ FR := by
  have key : ∀ k : NameKind, (k == .cell || k == .free) = true → (x, k) ∈ (relabel scope env).names → x ∈ FR := fun k hk hm => by
    have z := List.all_eq_true.mp h _ hm
    simp only [hk, Bool.not_true, Bool.false_or, List.contains_iff_mem] at z
    exact z
  rcases e with e | e
  · exact key .cell rfl (PySem.mem_of_lookup e)
  · exact key .free rfl (PySem.mem_of_lookup e)

theorem comp_core {X : Cx} {elt tg iter : Expr} {ifs : List Expr} {scope : Scope} {cl : List (Str × Addr)} {pos : Pos} {NB FR : List Str} {js : List Nat} {wi : TI} {g : TG} {tt : TT} {te : TE} {Q : VK} {RR : Value → Addr → Result → Shared → Prop}
    {pins : List (Addr × Obj)} {s : Shared} {σ : St} {H : Hp} (hc : X.calm = true) (hcl : ∀ x c, cl.lookup x = some c → X.env.cells.lookup x = some c) (hcap : Capt X scope cl FR js)
    (hnm : (relabel scope X.env).names.all (fun y => !(y.2 == .cell || y.2 == .free) || FR.contains y.1) = true) (hcell : ∀ x ∈ scope.names, x.2 ≠ .cell) (hkind : scope.kind = .function)
    (hi : PI X tg iter wi) (hb : ∀ s3 H3 fp, PG (cxCompC X NB FR scope cl s3 H3 fp) tg g ∧ PTs (cxCompC X NB FR scope cl s3 H3 fp) ifs tt ∧ PE (cxCompC X NB FR scope cl s3 H3 fp) elt te)
    (I : Inv X pins σ H s) (h : tCompC NB.length js wi g tt te σ H Q)
    (hRR : ∀ D C H' s', Inv X pins σ H' s' → FpOk X pins H' C → (∃ m, s'.heap.Ns C m) → Q (.ref D) H' → RR (.ref D) C (.ok .next) s') :
    wpAny (model X.prog X.w) X.A (eval iter X.env) (fun v s1 => wpAny (model X.prog X.w) X.A (pyIter v) (fun it s2 => wpAny (model X.prog X.w) X.A (newList []) (fun acc s3 =>
      wpAny (model X.prog X.w) X.A (newFunctionEnv scope X.env.globals cl [] X.env.qual none .none (some X.env)) (fun cenv s4 =>
        codeAny (model X.prog X.w) X.A (.compStart (.ListComp elt [⟨tg, iter, ifs, 0⟩] scope pos) 0 it acc { cenv with scope := relabel scope X.env }) (RR acc cenv.locals) s4) X.xe s3) X.xe s2) X.xe s1) X.xe s := by
  refine thn (hi pins s σ H _ I h) fun v s1 h1 => thn h1 fun itv s2 h2 => ?_
  obtain ⟨it, fp, tn, J, H2, e, I2, T, st2, f2, q2⟩ := h2
  subst e
  have hf2 : H2 s2.heap.objs.size = none := I2.hok.fresh (Nat.le_refl _)
  obtain ⟨W, ⟨m0, w0⟩, turn⟩ := q2 _ hf2
  refine wpAny_newObj_type (hd := by size_fits) ?_
  have I3 : Inv X pins σ (upd H2 s2.heap.objs.size (.lst [])) { s2 with heap := s2.heap.push { cls := .type "list", dict := none, data := .seq ([] : List Value).toArray } } :=
    I2.laid (t' := s2.toks) (fun b u e => Heap.get?_push_of_some _ e) (Nat.le_refl _) ⟨by decide, [], 0, .nil, Heap.get?_push_size _ rfl⟩
  generalize hD : s2.heap.objs.size = D at *
  generalize hs3 : ({ s2 with heap := s2.heap.push { cls := .type "list", dict := none, data := .seq ([] : List Value).toArray } } : Shared) = s3 at *
  generalize hH3 : upd H2 D (.lst []) = H3 at *
  have h3D : H3 D = some (.lst []) := by rw [← hH3]; exact upd_same
  have fpD : ∀ b ∈ fp, b ≠ D := fun b hb => by
    obtain ⟨o, e, _⟩ := T.obj _ _ st2 b hb
    rw [← hD]; exact Nat.ne_of_lt (Heap.lt_size e)
  have k23 : ∀ b u, s2.heap.get? b = some u → s3.heap.get? b = some u := fun b u e => by rw [← hs3]; exact Heap.get?_push_of_some _ e
  have st3 : tn 0 s3.heap := T.keep _ _ _ st2 fun b _ o e => k23 b o e
  have f3 : ∀ b ∈ fp, FpOk X pins H3 b := fun b hb => ⟨by rw [← hH3, upd_ne (fpD b hb)]; exact (f2 b hb).1, (f2 b hb).2⟩
  refine wpAny_newFunctionEnv hcell (by intro y hy; simp at hy) (fun h4 hns4 hsb4 => ?_) hkind
  have k34 : ∀ b u, s3.heap.get? b = some u → h4.get? b = some u := fun b u e => hsb4.extBut b u (Nat.ne_of_lt (Heap.lt_size e)) (Heap.get?_push_of_some _ e)
  have okB : (cxCompC X NB FR scope cl s3 H3 fp).Ok := by
    refine ⟨I3.ok.mod, hkind, I3.ok.glob, I3.ok.blt, Nat.le_refl _, fun x y c e1 e2 => I3.ok.inj x y c (hcl _ _ e1) (hcl _ _ e2), fun x e => hcap.has (relabel_has hnm e), (fun x c e => nomatch e), I3.ok.hd, I3.ok.frames, .inl rfl, fun b hb => ⟨?_, fun x c e => ?_⟩, I3.bs, Nat.le_trans I3.ok.bsz I3.sz, fun b o e hb => ?_, fun b hb z => ?_, I3.stack, I3.stkFree⟩
    · obtain ⟨o, e, _⟩ := T.obj _ _ st3 b hb
      exact Nat.ne_of_lt (Heap.lt_size e)
    · exact (f3 b hb).2.2.2.2.1 x c (hcl _ _ e)
    · obtain ⟨_, _, _, z, _⟩ := f3 b hb
      rcases z with z | z
      · exact I3.ok.noex b o e z
      · exact absurd (Nat.lt_of_lt_of_le (Heap.lt_size e) (Nat.le_trans I3.ok.bsz z)) (Nat.lt_irrefl _)
    · obtain ⟨_, z1, z2, _⟩ := f3 b hb
      rcases List.mem_cons.mp (I3.stkSub b z) with e | e
      · exact z1 e
      · exact z2 e
  have IB : Inv (cxCompC X NB FR scope cl s3 H3 fp) [] (List.replicate NB.length none ++ caps σ js) H3 { s3 with heap := h4, toks := s3.toks + ([] : List (Str × Value)).length } := by
    refine ⟨okB, rfl, I3.bare, Un.kept k34, ⟨_, hns4, fun i x v e1 e2 e3 => ?_⟩, fun x c e => ?_, I3.hok.fresh (Nat.le_refl _), fun x c e => I3.freeC x c (hcl _ _ e), fun p hp => ?_, I3.hok.kept k34, ?_⟩
    · by_cases hi : i < NB.length
      · rw [List.getElem?_append_left (by simpa using hi), List.getElem?_replicate, if_pos hi] at e2
        cases e2
      · have e1' : FR[i - NB.length]? = some x := by
          have z : (NB ++ FR)[i]? = some x := e1
          rw [List.getElem?_append_right (by omega)] at z; exact z
        rw [List.getElem?_append_right (by simp; omega), List.length_replicate] at e2
        obtain ⟨j, hj, hN, hk, hb', c, hc'⟩ := hcap.get e1'
        have e2' : σ[j]? = some (some v) := by
          unfold caps at e2
          rw [List.getElem?_map, hj] at e2
          simp only [Option.map_some, Option.some.injEq] at e2
          cases hσ : σ[j]? with
          | none => rw [hσ] at e2; cases e2
          | some o => rw [hσ] at e2; simp only [Option.getD_some] at e2; rw [e2]
        obtain ⟨m, hn, hl⟩ := I3.loc
        obtain ⟨u, ru, lu⟩ := hl j x v hN e2' (.inr (.inl hk))
        refine ⟨u, ru, .inr ⟨.inl hb', c, hc', ?_⟩⟩
        rcases lu with ⟨z, _⟩ | ⟨_, c', z, q⟩
        · rw [hk] at z; cases z
        · rw [hcl _ _ hc'] at z; cases z
          obtain ⟨o, ho, hd⟩ := q
          exact ⟨o, k34 _ _ ho, hd⟩
    · obtain ⟨v, o, ho, hd⟩ := I3.cell x c (hcl _ _ e)
      exact ⟨v, o, k34 _ _ ho, hd⟩
    · exact absurd (show p ∈ ([] : List (Addr × Obj)) from hp) (by simp)
    · show _ = (NB ++ FR).length
      rw [List.length_append, List.length_append, List.length_replicate, hcap.length]
      unfold caps; rw [List.length_map]
  have st4 : tn 0 h4 := T.keep _ _ _ st3 fun b _ o e => k34 b o e
  have stat : ∀ {H' : Hp}, (∀ b ∈ fp, H' b = none) → ∀ b ∈ fp, FpOk (cxCompC X NB FR scope cl s3 H3 fp) [] H' b := fun hn b hb =>
    ⟨hn b hb, (okB.exf b hb).1, okB.exfs b hb, .inl hb, fun x c e => (f3 b hb).2.2.2.2.1 x c (hcl _ _ e), fun p hp => absurd (show p ∈ ([] : List (Addr × Obj)) from hp) (by simp)⟩
  obtain ⟨hg, ht, he⟩ := hb s3 H3 fp
  have fin : ∀ {σ' : St} {H' : Hp} {s' : Shared}, Inv (cxCompC X NB FR scope cl s3 H3 fp) [] σ' H' s' → Q (.ref D) H' → RR (.ref D) s3.heap.objs.size (.ok .next) s' := fun {σ' H' s'} J q => by
    have hm : ∃ m, s'.heap.Ns s3.heap.objs.size m := by
      obtain ⟨m, hm, _⟩ := J.loc
      exact ⟨m, hm⟩
    refine hRR D _ H' s' (I3.call' (ch := fp) J.os J.base J.hok J.bare fun b hb => ?_) (I3.fpOk (Nat.le_refl _) J.free) hm q
    obtain ⟨_, z1, z2, z3, z4, z5⟩ := f3 b hb
    exact ⟨z3, z1, z4, z5⟩
  have loop : ∀ s5 : Shared, s5 = { s3 with heap := h4, toks := s3.toks + ([] : List (Str × Value)).length } →
      codeAny (model X.prog X.w) X.A (.compLoop (.ListComp elt [⟨tg, iter, ifs, 0⟩] scope pos) 0 (.ref it) (.ref D) (compEnvC scope cl s3.heap.objs.size X.env)) (RR (.ref D) s3.heap.objs.size) s5 := by
    rintro s5 rfl
    refine compLoop_any (fun n s' => ∃ i zs H' ys, zs.length = NB.length ∧ Inv (cxCompC X NB FR scope cl s3 H3 fp) [] (zs ++ caps σ js) H' s' ∧ tn i s'.heap ∧ (∀ b ∈ fp, H' b = none) ∧ H' D = some (.lst ys) ∧ W i n H' ys) ?_ m0
      ⟨0, _, H3, [], List.length_replicate, IB, st4, fun b hb => (f3 b hb).1, h3D, by rw [← hH3] at *; exact w0⟩
    rintro n s6 ⟨i, zs, H6, ys, hzs, I6, st6, fr6, hD6, w6⟩
    rcases turn i n H6 ys w6 hD6 with ⟨stop, qn⟩ | ⟨go, step⟩
    · refine thn (T.done (cxCompC X NB FR scope cl s3 H3 fp) rfl rfl rfl hc i [] s6 _ H6 _ I6 (stat fr6) st6 stop) fun r s7 ⟨hr, I7⟩ => ?_
      subst hr
      exact fin I7 qn
    · refine thn (T.item (cxCompC X NB FR scope cl s3 H3 fp) rfl rfl rfl hc i [] s6 _ H6 _ I6 (stat fr6) st6 go) fun r s7 ⟨u, hr, h7⟩ => ?_
      subst hr
      refine thn h7 fun _ s8 ⟨x, H8, I8, r8, y8, st8, fr8⟩ => ?_
      have I8' := I8.pinned (stat fr8) (T.obj _ _ st8)
      have again : ∀ {σ9 : St} {H9 : Hp} {s9 : Shared} {ws : List V} {m' : Nat}, σ9.drop NB.length = caps σ js → Inv (cxCompC X NB FR scope cl s3 H3 fp) ([] ++ pinsAt fp s8.heap) σ9 H9 s9 → H9 D = some (.lst ws) → m' < n → W (i + 1) m' H9 ws →
          ∃ m, m < n ∧ ∃ i zs H' ys, zs.length = NB.length ∧ Inv (cxCompC X NB FR scope cl s3 H3 fp) [] (zs ++ caps σ js) H' s9 ∧ tn i s9.heap ∧ (∀ b ∈ fp, H' b = none) ∧ H' D = some (.lst ys) ∧ W i m H' ys := fun {σ9 H9 s9 ws m'} hdr I9 hz hm w9 => by
        have hl : σ9.length = (NB ++ FR).length := I9.len
        rw [List.length_append] at hl
        refine ⟨m', hm, i + 1, σ9.take NB.length, H9, ws, by rw [List.length_take]; omega, ?_, T.keep _ _ _ st8 fun b hb o e => (I9.pin (b, o) (List.mem_append_right _ (List.mem_append_right _ (mem_pinsAt hb e)))).1, fun b hb => ?_, hz, w9⟩
        · rw [← hdr, List.take_append_drop]; exact I9.unpinned
        · obtain ⟨o, e, d⟩ := T.obj _ _ st8 b hb
          exact (I9.pin (b, o) (List.mem_append_right _ (List.mem_append_right _ (mem_pinsAt hb e)))).2.1
      refine thn (hg _ s8 _ H8 x u _ I8' r8 (step zs x H8 hzs y8)) fun _ s9 ⟨σ9, H9, I9, hdr, q9⟩ => ?_
      refine thn (ht _ s9 σ9 H9 _ I9 q9) fun ok s10 ⟨H10, I10, q10⟩ => ?_
      cases ok with
      | false =>
        rw [if_neg (by decide)] at q10 ⊢
        obtain ⟨hz, m', hm, w'⟩ := q10
        exact again hdr I10 hz hm w'
      | true =>
        rw [if_pos rfl] at q10 ⊢
        refine thn (he _ s10 σ9 H10 _ I10 q10) fun y s11 ⟨v, H11, I11, r11, hz, hlen, m', hm, w'⟩ => ?_
        refine thn (mt_append _ s11 σ9 H11 (.ref D) [v] (.ref D) [y] (fun _ H12 => H12 = upd H11 D (.lst (ys ++ [v]))) I11 rfl (.cons r11 .nil) ⟨D, ys, v, rfl, rfl, hz, hlen, rfl⟩) fun _ s12 ⟨_, H12, I12, _, e12⟩ => ?_
        subst e12
        exact again hdr I12 upd_same hm w'
  exact codeAny_compStart_list (loop _ rfl) (T.self X.A 0 _ _ _ st4 (loop _ rfl))

section
variable {X : Cx} {elt tg iter : Expr} {ifs : List Expr} {scope : Scope} {cl : List (Str × Addr)} {pos spos py : Pos} {NB FR : List Str} {js : List Nat} {wi : TI} {g : TG} {tt : TT} {te : TE}
theorem ps_setC {i : Nat} {y : Str} (hc : X.calm = true) (hclos : closureFor scope X.env = pure cl) (hcl : ∀ x c, cl.lookup x = some c → X.env.cells.lookup x = some c) (hcap : Capt X scope cl FR js)
    (hnm : (relabel scope X.env).names.all (fun y => !(y.2 == .cell || y.2 == .free) || FR.contains y.1) = true) (hcell : ∀ x ∈ scope.names, x.2 ≠ .cell) (hkind : scope.kind = .function) (hnames : ∀ x ∈ scope.names, x.2 = .local → scope.names.lookup x.1 = some .local)
    (hN : X.N.Nodup) (hiN : X.N[i]? = some y) (hy : X.env.kindOf y = some .local) (hsw : swapsWith (.ListComp elt [⟨tg, iter, ifs, 0⟩] scope pos) (some (.Name y py)) spos.line X.env = pure true)
    (hi : PI X tg iter wi) (hb : ∀ s3 H3 fp, PG (cxCompC X NB FR scope cl s3 H3 fp) tg g ∧ PTs (cxCompC X NB FR scope cl s3 H3 fp) ifs tt ∧ PE (cxCompC X NB FR scope cl s3 H3 fp) elt te)
    (hs : ∀ x, foldedSetIterable iter X.env x = pure x := by intro _; rfl) :
    PS X (.Assign [.Name y py] (.ListComp elt [⟨tg, iter, ifs, 0⟩] scope pos) spos) (tAsg (tCompC NB.length js wi g tt te) (gName i)) := by
  intro pins s σ H D I h
  rw [exec_Assign_Name_used _ _ _ _ hsw]
  refine wpAny_bind (wpAny_standAt (wpAny_bind ?_))
  show wpAny _ _ (do let _ ← comprehension (.ListComp elt [⟨tg, iter, ifs, 0⟩] scope pos) scope X.env _ (newList []) false (eval iter X.env) (some (assign (.Name y py) X.env))) _ _ s
  refine wpAny_bind (wpAny_mono (wpAny_comprehension_free (use := some (assign (.Name y py) X.env)) (Q := fun _ s' => SP X pins D .next s') rfl hs hclos hkind hnames
    (comp_core (RR := fun acc C => compPost (model X.prog X.w) X.A X.xe (some (assign (.Name y py) X.env)) (fun _ s' => SP X pins D .next s') acc C) hc hcl hcap hnm hcell hkind hi hb I h ?_)) (fun _ s' hq => wpAny_pure (wpAny_pure hq)) fun _ _ e => e)
  intro DD C H' s' I' ⟨f0, f1, f2, f3, f4, f5⟩ ⟨m, hm⟩ q
  show wpAny _ _ (assign (.Name y py) X.env (.ref DD)) _ _ s'
  refine wpAny_assign_Name (store_ok2 (v := .ref DD) I' hN hiN (.inl hy) rfl (fun s'' I'' ⟨a, sa, ha⟩ => ?_) (.inr hy))
  have hCa : C ≠ a := by
    rcases ha with rfl | ha
    · exact f1
    · exact fun z => f4 y a ha z.symm
  exact ⟨m, hm.sameBut sa hCa, fun h' sb => ⟨_, H', I''.turned (t' := s''.toks) (fun b o hb e => (sb.2 b hb).trans e) f0 f1 f3 f4 f5, q⟩⟩
end
end L2
set_option Elab.async false
set_option linter.all false
set_option maxRecDepth 100000
namespace L2
open PySem PySem.Spec PyProof.Rows

section
variable {prog : Program} {w : World} {A : Around} {E : Value → Shared → Prop} {s : Shared}
theorem nt_item {j t : Addr} {i : Nat} {vs : Array Value} {x : Value} {Q : Value → Shared → Prop} (kj : s.heap.IsTupleIter j t i) (kt : s.heap.IsTuple t vs) (kx : vs[i]? = some x)
    (q : ∀ h', h'.IsTupleIter j t (i + 1) → Heap.SameBut j s.heap h' → Q x { s with heap := h' }) : wpAny (model prog w) A (Builtin.SmallTypes.nextOf (.ref j)) Q E s := by
  obtain ⟨oj, e1, e2, e3⟩ := id kj
  obtain ⟨ot, f1, _, nt, f3⟩ := kt
  unfold Builtin.SmallTypes.nextOf
  refine wpAny_bind (wpAny_callSpecial?_slot (name := Str.ofString "__next__") kj.typeIs F.slot_tuple_iterator_next (wpAny_call_entry F.slot_tuple_iterator_next kj.typeIs F.entry_tuple_iterator_next ?_ (F.args_tuple_iterator_next_1 _)))
  show wpAny _ _ (field (.ref j) 0 >>= _) _ _ s
  refine wpAny_bind (wpAny_field e1 e3 (x := .ref t) rfl ?_)
  show wpAny _ _ (if (Value.ref t == .none) = true then _ else _) _ _ s
  rw [if_neg (show ¬ ((Value.ref t == .none) = true) from Bool.false_ne_true)]
  show wpAny _ _ (field (.ref j) 1 >>= _) _ _ s
  refine wpAny_bind (wpAny_field e1 e3 (x := .int i 0) rfl (?_ : wpAny _ _ (seqItems? (.ref t) >>= _) _ _ s))
  refine wpAny_bind (wpAny_seqItems f1 f3 ?_)
  simp only [Int.toNat_natCast, kx]
  refine wpAny_bind (wpAny_setField e1 e3 (by simp) (wpAny_pure ⟨x, rfl, wpAny_pure (q _ ⟨_, Heap.get?_update_self _ e1 (Obj.isFreed_of_fields (Obj.data_mapFields e3 _)), (Obj.cls_mapFields ..).trans e2, ?_⟩ (Heap.SameBut.update ..))⟩))
  rw [Obj.data_mapFields e3]; simp [rawInt]
theorem nt_end {j t : Addr} {i : Nat} {vs : Array Value} {Q : Value → Shared → Prop} (hh : A.handled = none) (kj : s.heap.IsTupleIter j t i) (kt : s.heap.IsTuple t vs) (kx : vs[i]? = none)
    (q : ∀ h' e, Heap.ExtBut j s.heap h' → (∃ o, h'.get? e = some o ∧ o.cls = .type "StopIteration") → E (.ref e) { s with heap := h' }) : wpAny (model prog w) A (Builtin.SmallTypes.nextOf (.ref j)) Q E s := by
  obtain ⟨oj, e1, e2, e3⟩ := id kj
  obtain ⟨ot, f1, _, nt, f3⟩ := kt
  unfold Builtin.SmallTypes.nextOf
  refine wpAny_bind (wpAny_callSpecial?_slot (name := Str.ofString "__next__") kj.typeIs F.slot_tuple_iterator_next (wpAny_call_entry F.slot_tuple_iterator_next kj.typeIs F.entry_tuple_iterator_next ?_ (F.args_tuple_iterator_next_1 _)))
  show wpAny _ _ (field (.ref j) 0 >>= _) _ _ s
  refine wpAny_bind (wpAny_field e1 e3 (x := .ref t) rfl ?_)
  show wpAny _ _ (if (Value.ref t == .none) = true then _ else _) _ _ s
  rw [if_neg (show ¬ ((Value.ref t == .none) = true) from Bool.false_ne_true)]
  show wpAny _ _ (field (.ref j) 1 >>= _) _ _ s
  refine wpAny_bind (wpAny_field e1 e3 (x := .int i 0) rfl (?_ : wpAny _ _ (seqItems? (.ref t) >>= _) _ _ s))
  refine wpAny_bind (wpAny_seqItems f1 f3 ?_)
  simp only [Int.toNat_natCast, kx]
  refine wpAny_bind (wpAny_rule (wpAny_bind (wpAny_setField e1 e3 (by simp) (?_ : wpAny _ _ (newExc (.type "StopIteration") [] >>= _) _ _ _))))
  refine wpAny_bind ?_
  simp only [newExc, newTuple]
  refine wpAny_bind (wpAny_newObj_type (wpAny_bind (m := firstArgMember _ _) (wpAny_of_eq (a := Value.none) (by first | rfl | (simp only [firstArgMember]; rfl)) (wpAny_newObj_type ?_ (by size_fits)))) (by size_fits))
  simp only [raiseNew]
  refine wpAny_bind (wpAny_handled (?_))
  first | rw [show A.in1.handled = none from hh] | rw [hh]
  exact wpAny_bind (wpAny_pure (wpAny_throw (q _ _ (((Heap.SameBut.update ..).extBut.push _).push _) ⟨_, Heap.get?_push_size _ rfl, rfl⟩)))

structure ZT (z TI TO j1 j2 t1 t2 : Addr) (f0 : Value) (i1 i2 : Nat) (h : Heap) : Prop where
  z : IsZip h z TI TO f0
  ti : IsPair h TI (.ref j1) (.ref j2)
  to : ∃ a b, IsPair h TO a b
  i1 : h.IsTupleIter j1 t1 i1
  i2 : h.IsTupleIter j2 t2 i2
structure ZNe (z TI TO j1 j2 : Addr) : Prop where
  a : TI ≠ z
  b : TO ≠ z
  c : j1 ≠ z
  d : j2 ≠ z
  e : TI ≠ TO
  f : TI ≠ j1
  g : TI ≠ j2
  k : TO ≠ j1
  l : TO ≠ j2
  m : j1 ≠ j2
section
variable {z TI TO j1 j2 t1 t2 : Addr} {i : Nat} {xs ys : Array Value}
theorem tup_ne_z {h : Heap} {f0 : Value} {vs : Array Value} {t : Addr} (ht : h.IsTuple t vs) (hz : IsZip h z TI TO f0) : t ≠ z := fun e => by
  obtain ⟨o, e1, e2, _⟩ := ht
  rw [e, hz] at e1; cases e1; simp at e2
end
end

def zp1 (h : Heap) (t : Addr) : Heap := h.push { cls := .type "tuple_iterator", data := .fields #[.ref t, .int 0 0] }
theorem zp1_size (h : Heap) (t : Addr) : (zp1 h t).objs.size = h.objs.size + 1 := Heap.size_push ..
end L2
set_option Elab.async false
set_option linter.all false
set_option maxRecDepth 100000
namespace L2
open PySem PySem.Spec PyProof.Rows
section
variable {X : Cx}
theorem nne {a b : Nat} (h : a < b) : a ≠ b := Nat.ne_of_lt h
def KPair (K : PySem.W.Frag) (a : Addr) (i j : Int) : Prop := ∃ o t u n, K.lookup a = some o ∧ o.cls = .type "tuple" ∧ o.data = .seq #[.int i t, .int j u] n
end
end L2
set_option Elab.async false
set_option linter.all false
set_option maxRecDepth 100000
namespace HT
open PySem PyProof.Rows
section
variable {prog : Program} {w : World} {A : Around} {E : Value → Shared → Prop} {s : Shared}
end
end HT
namespace L2
open PySem PySem.Spec PyProof.Rows
section
variable {X : Cx}
end
end L2
set_option Elab.async false
set_option linter.all false
set_option maxRecDepth 100000
namespace L2
open PySem PySem.Spec PyProof.Rows
section
variable {J : It} {D : Addr} {N n : Nat} {js : List Nat} {σ : St} {g : TG} {tt : TT} {te : TE} {Q : VK} {H : Hp}
theorem compC_by (Pv : Nat → Hp → List V → Prop) (h0 : Pv 0 (upd H D (.lst [])) []) (hgo : ∀ i H ys, i < N → Pv i H ys → J.go i H) (hst : ∀ H ys, Pv N H ys → J.stop N H)
    (hs : ∀ i x zs H2 H3 ys (Nx : Hp → List V → Prop), (∀ H ys, Pv (i + 1) H ys → Nx H ys) → i < N → zs.length = n → J.yld i H2 x H3 → Pv i H2 ys → H2 D = some (.lst ys) → g x (zs ++ caps σ js) H3 fun σ4 H4 => σ4.drop n = caps σ js ∧ tt σ4 H4 fun b H5 =>
      if b = true then te σ4 H5 (fun v H6 => H6 D = some (.lst ys) ∧ ys.length < sizeLine ∧ Nx (upd H6 D (.lst (ys ++ [v]))) (ys ++ [v])) else H5 D = some (.lst ys) ∧ Nx H5 ys)
    (hd : ∀ H ys, Pv N H ys → H D = some (.lst ys) → Q (.ref D) H) :
    ∃ W : Nat → Nat → Hp → List V → Prop, (∃ m, W 0 m (upd H D (.lst [])) []) ∧ ∀ i m H2 ys, W i m H2 ys → H2 D = some (.lst ys) → (J.stop i H2 ∧ Q (.ref D) H2) ∨
      (J.go i H2 ∧ ∀ zs x H3, zs.length = n → J.yld i H2 x H3 → g x (zs ++ caps σ js) H3 fun σ4 H4 => σ4.drop n = caps σ js ∧ tt σ4 H4 fun b H5 => if b = true then te σ4 H5 (fun v H6 => H6 D = some (.lst ys) ∧ ys.length < sizeLine ∧ ∃ m', m' < m ∧ W (i + 1) m' (upd H6 D (.lst (ys ++ [v]))) (ys ++ [v]))
        else H5 D = some (.lst ys) ∧ ∃ m', m' < m ∧ W (i + 1) m' H5 ys) := by
  refine ⟨fun i m H ys => m = N - i ∧ i ≤ N ∧ Pv i H ys, ⟨N, by simp, Nat.zero_le _, h0⟩, ?_⟩
  rintro i m H2 ys ⟨rfl, hi, p⟩ hD
  by_cases hlt : i < N
  · exact .inr ⟨hgo i H2 ys hlt p, fun σB x H3 hB y => hs i x σB H2 H3 ys (fun H' ys' => ∃ m', m' < N - i ∧ (m' = N - (i + 1) ∧ i + 1 ≤ N ∧ Pv (i + 1) H' ys')) (fun H' ys' z => ⟨N - (i + 1), by omega, rfl, hlt, z⟩) hlt hB y p hD⟩
  · obtain rfl : i = N := by omega
    exact .inl ⟨hst H2 ys p, hd H2 ys p hD⟩
end
end L2
set_option Elab.async false
set_option linter.all false
set_option maxRecDepth 100000
namespace L2
open PySem PySem.Spec PyProof.Rows
section
variable {prog : Program} {w : World} {A : Around} {E : Value → Shared → Prop} {s : Shared}
end
end L2
set_option Elab.async false
set_option linter.all false
set_option maxRecDepth 100000
namespace L2
open PySem PySem.Spec PyProof.Rows
mutual
theorem RdD.same {H H' : Hp} (e : Same H H') : ∀ {v : V} {d : PyData}, RdD H v d → RdD H' v d
  | _, _, .non => .non
  | _, _, .bl b => .bl b
  | _, _, .int i => .int i
  | _, _, .str x => .str x
  | _, _, .tup h r => .tup (e _ _ h) (RdDs.same e r)
  | _, _, .lst h r => .lst (e _ _ h) (RdDs.same e r)
  | _, _, .dic h => .dic (e _ _ h)
theorem RdDs.same {H H' : Hp} (e : Same H H') : ∀ {vs : List V} {ds : List PyData}, RdDs H vs ds → RdDs H' vs ds
  | _, _, .nil => .nil
  | _, _, .cons h t => .cons (RdD.same e h) (RdDs.same e t)
end
theorem RdDs.len {H : Hp} : ∀ {xs : List V} {ds : List PyData}, RdDs H xs ds → xs.length = ds.length
  | _, _, .nil => rfl
  | _, _, .cons _ t => by rw [List.length_cons, List.length_cons, RdDs.len t]
theorem RdDs.app {H : Hp} {ys : List V} {es : List PyData} (k : RdDs H ys es) : ∀ {xs : List V} {ds : List PyData}, RdDs H xs ds → RdDs H (xs ++ ys) (ds ++ es)
  | _, _, .nil => k
  | _, _, .cons h t => .cons h (RdDs.app k t)
theorem RdDs.drop {H : Hp} : ∀ {xs : List V} {ds : List PyData} (n : Nat), RdDs H xs ds → RdDs H (xs.drop n) (ds.drop n)
  | _, _, 0, h => h
  | _, _, _ + 1, .nil => .nil
  | _, _, n + 1, .cons _ t => RdDs.drop n t
theorem RdDs.take {H : Hp} : ∀ {xs : List V} {ds : List PyData} (n : Nat), RdDs H xs ds → RdDs H (xs.take n) (ds.take n)
  | _, _, 0, _ => .nil
  | _, _, _ + 1, .nil => .nil
  | _, _, n + 1, .cons h t => .cons h (RdDs.take n t)
theorem RdDs.get {H : Hp} : ∀ {xs : List V} {ds : List PyData} {i : Nat} {d : PyData}, RdDs H xs ds → ds[i]? = some d → ∃ x, xs[i]? = some x ∧ RdD H x d
  | _, _, _, _, .nil, e => by simp at e
  | _, _, 0, _, .cons h _, e => by simp at e; subst e; exact ⟨_, rfl, h⟩
  | _, _, i + 1, _, .cons _ t, e => by
    obtain ⟨x, h1, h2⟩ := RdDs.get t (i := i) (by simpa using e)
    exact ⟨x, by simpa using h1, h2⟩
theorem RdDs.at {H : Hp} {xs : List V} {ds : List PyData} {i : Int} {d : PyData} (h : RdDs H xs ds) (e : atI ds i = some d) : ∃ x, atI xs i = some x ∧ RdD H x d := by
  unfold atI at e ⊢
  rw [h.len]
  cases hj : ixN ds.length i with
  | none => rw [hj] at e; cases e
  | some j =>
    rw [hj] at e
    exact h.get e
def del (N : List Addr) (H : Hp) : Hp := fun a => if a ∈ N then none else H a
theorem del_some {N : List Addr} {H : Hp} {a : Addr} {o : HO} (h : del N H a = some o) : H a = some o ∧ a ∉ N := by
  unfold del at h
  split at h
  · cases h
  · exact ⟨h, ‹_›⟩
theorem del_of {N : List Addr} {H : Hp} {a : Addr} {o : HO} (h : H a = some o) (n : a ∉ N) : del N H a = some o := by unfold del; rw [if_neg n]; exact h
def Ls (N : List Addr) (H : Hp) : Prop := ∀ a ∈ N, ∃ xs, H a = some (.lst xs)
theorem Ls.nil {H : Hp} : Ls [] H := fun _ m => by cases m
theorem Ls.same {N : List Addr} {H H' : Hp} (h : Ls N H) (e : Same H H') : Ls N H' := fun a m => let ⟨xs, z⟩ := h a m; ⟨xs, e _ _ z⟩
theorem Ls.ntup {N : List Addr} {H : Hp} {a : Addr} {xs : List V} (h : Ls N H) (e : H a = some (.tup xs)) : a ∉ N := fun m => by
  obtain ⟨ys, z⟩ := h a m; rw [e] at z; cases z
theorem Ls.nnew {N : List Addr} {H : Hp} {a : Addr} (h : Ls N H) (e : H a = none) : a ∉ N := fun m => by
  obtain ⟨ys, z⟩ := h a m; rw [e] at z; cases z
theorem same_del {N : List Addr} {H H' : Hp} (e : Same H H') : Same (del N H) (del N H') := fun b o z => del_of (e _ _ (del_some z).1) (del_some z).2
theorem del_sub {N : List Addr} {H : Hp} : Same (del N H) H := fun b o z => (del_some z).1
theorem sameD {N : List Addr} {H : Hp} {p : Addr} {o : HO} (h : H p = none) : Same (del N H) (del N (upd H p o)) := same_del (Same.upd h)
structure At (N : List Addr) (H0 H1 : Hp) : Prop where
  s : Same H0 (del N H1)
  l : Ls N H1
theorem At.go {N : List Addr} {H0 H1 H2 : Hp} (h : At N H0 H1) (e : Same H1 H2) : At N H0 H2 := ⟨h.s.trans (same_del e), h.l.same e⟩
def Dt (N : List Addr) (t : TE) (σ : St) (H : Hp) (d : PyData) : Prop := ∀ H1, At N H H1 → ∀ Q : VK, (∀ v H2, Same H1 H2 → RdD (del N H2) v d → Q v H2) → t σ H1 Q
def Da (N : List Addr) (t : TA) (σ : St) (H : Hp) (ds : List PyData) : Prop := ∀ H1, At N H H1 → ∀ Q : List V → Hp → Prop, (∀ vs H2, Same H1 H2 → RdDs (del N H2) vs ds → Q vs H2) → t σ H1 Q
section
variable {N : List Addr} {σ : St} {H : Hp} {K : PySem.W.Frag}
theorem dt_var {i : Nat} {v : V} {d : PyData} (h : σ[i]? = some (some v)) (r : RdD H v d) : Dt N (tVar i) σ H d := fun H1 a Q k => ⟨v, h, k v H1 (Same.refl _) (r.same a.s)⟩
theorem dt_int {i : Int} : Dt N (tC (.int i)) σ H (.int i) := fun H1 a Q k => k _ H1 (Same.refl _) (.int i)
theorem dt_bl {i : Bool} : Dt N (tC (.bl i)) σ H (.bool i) := fun H1 a Q k => k _ H1 (Same.refl _) (.bl i)
theorem dt_non : Dt N (tC .non) σ H .none := fun H1 a Q k => k _ H1 (Same.refl _) .non
theorem dt_str {x : Str} : Dt N (tC (.str x)) σ H (.str x) := fun H1 a Q k => k _ H1 (Same.refl _) (.str x)
theorem da_nil : Da N tNil σ H [] := fun H1 a Q k => k _ H1 (Same.refl _) .nil
theorem da_cons {ta : TE} {tr : TA} {d : PyData} {ds : List PyData} (h : Dt N ta σ H d) (r : Da N tr σ H ds) : Da N (tCons ta tr) σ H (d :: ds) := fun H1 a Q k =>
  h H1 a _ fun v H2 e2 rv => r H2 (a.go e2) _ fun vs H3 e3 rs => k _ _ (e2.trans e3) (.cons (rv.same (same_del e3)) rs)
theorem dt_tup {t : TA} {ds : List PyData} (h : Da N t σ H ds) (l : ds.length ≤ sizeLine) : Dt N (tTup t) σ H (.tuple ds) := fun H1 a Q k =>
  h H1 a _ fun vs H2 e2 r => ⟨by rw [r.len]; exact l, fun p hp => k _ _ (e2.trans (Same.upd hp)) (.tup (del_of upd_same ((a.l.same e2).nnew hp)) (r.same (sameD hp)))⟩
theorem dt_lst {t : TA} {ds : List PyData} (h : Da N t σ H ds) (l : ds.length ≤ sizeLine) : Dt N (tLst t) σ H (.list ds) := fun H1 a Q k =>
  h H1 a _ fun vs H2 e2 r => ⟨by rw [r.len]; exact l, fun p hp => k _ _ (e2.trans (Same.upd hp)) (.lst (del_of upd_same ((a.l.same e2).nnew hp)) (r.same (sameD hp)))⟩
theorem dt_iC {C : Int → Int → Prop} {g : Int → Int → Int} {ta tb : TE} {i j : Int} (ha : Dt N ta σ H (.int i)) (hb : Dt N tb σ H (.int j)) (hC : C i j) : Dt N (tOp (rI C fun i j => .int (g i j)) ta tb) σ H (.int (g i j)) := fun H1 a Q k =>
  ha H1 a _ fun v H2 e2 r2 => hb H2 (a.go e2) _ fun y H3 e3 r3 => by
    cases r3; cases r2
    exact ⟨i, j, rfl, rfl, hC, k _ H3 (e2.trans e3) (.int _)⟩
theorem dt_neg {ta : TE} {i : Int} (ha : Dt N ta σ H (.int i)) : Dt N (tUn (rU fun i => .int (-i)) ta) σ H (.int (-i)) := fun H1 a Q k =>
  ha H1 a _ fun v H2 e2 r2 => by
    cases r2
    exact ⟨i, rfl, k _ H2 e2 (.int _)⟩
theorem dt_cat {ta tb : TE} {ds es : List PyData} (ha : Dt N ta σ H (.list ds)) (hb : Dt N tb σ H (.list es)) (l : ds.length + es.length ≤ sizeLine) : Dt N (tOp rCat ta tb) σ H (.list (ds ++ es)) := fun H1 a Q k =>
  ha H1 a _ fun v H2 e2 r2 => hb H2 (a.go e2) _ fun y H3 e3 r3 => by
    have r2' := r2.same (same_del e3)
    have L := (a.l.same (e2.trans e3))
    cases r2' with
    | @lst b xs _ z zs =>
      cases r3 with
      | @lst c ys _ y ys' =>
        refine ⟨b, c, xs, ys, rfl, rfl, (del_some z).1, (del_some y).1, (by rw [zs.len, ys'.len]; exact l), fun p hp => ?_⟩
        exact k _ _ ((e2.trans e3).trans (Same.upd hp)) (.lst (del_of upd_same (L.nnew hp)) ((RdDs.app ys' zs).same (sameD hp)))
end
def rD (x : Rat) : PyData := .tuple [.int x.num, .int (x.den : Int)]
end L2
set_option Elab.async false
set_option linter.all false
set_option maxRecDepth 100000
namespace L2
open PySem PySem.Spec PyProof.Rows
theorem szl {n : Nat} (h : n ≤ 1000) : n ≤ sizeLine := Nat.le_of_lt (small1000 h)
theorem dt_use {N : List Addr} {t : TE} {σ : St} {H H1 : Hp} {d : PyData} {Q : VK} (a : At N H H1) (h : Dt N t σ H d) (k : ∀ v H2, Same H1 H2 → RdD (del N H2) v d → Q v H2) : t σ H1 Q := h H1 a Q k
theorem dt_pow {N : List Addr} {σ : St} {H : Hp} {ta tb : TE} {i j : Int} (ha : Dt N ta σ H (.int i)) (hb : Dt N tb σ H (.int j)) (hC : CPow i j) : Dt N (tOp (rI CPow fun i j => .int (i ^ j.toNat)) ta tb) σ H (.int (i ^ j.toNat)) := dt_iC (g := fun i j => i ^ j.toNat) ha hb hC
theorem at_del {N : List Addr} {H : Hp} (h : Ls N H) : At N (del N H) H := ⟨Same.refl _, h⟩
theorem st_set {te : TE} {i : Nat} {u : TS} {D : Ends} {σ : St} {H : Hp} (h : te σ H fun v H1 => u D (σ.set i (some v)) H1) : tSeq (tAsg te (gName i)) u D σ H := h
theorem st_for {wi : TI} {g : TG} {tb : TS} {u : TS} {D : Ends} {σ : St} {H : Hp} (h : tFor wi g tb { D with nx := u D } σ H) : tSeq (tFor wi g tb) u D σ H := h
theorem st_while {c : TT} {tb : TS} {u : TS} {D : Ends} {σ : St} {H : Hp} (h : tWhile c tb { D with nx := u D } σ H) : tSeq (tWhile c tb) u D σ H := h
structure FS (H0 H1 : Hp) (l : Addr) (ds : List PyData) : Prop where
  at_ : At [l] H0 H1
  ex : ∃ xs, H1 l = some (.lst xs) ∧ RdDs (del [l] H1) xs ds
theorem FS.rd {H0 H1 : Hp} {l : Addr} {ds : List PyData} (f : FS H0 H1 l ds) : RdD H1 (.ref l) (.list ds) := by
  obtain ⟨xs, h, r⟩ := f.ex
  exact .lst h (r.same del_sub)
theorem FS.go {H0 H1 H2 : Hp} {l : Addr} {ds : List PyData} (f : FS H0 H1 l ds) (e : Same H1 H2) : FS H0 H2 l ds := by
  obtain ⟨xs, h, r⟩ := f.ex
  exact ⟨f.at_.go e, xs, e _ _ h, r.same (same_del e)⟩
theorem ls1 {H : Hp} {p : Addr} {xs : List V} (h : H p = some (.lst xs)) : Ls [p] H := fun a m => by
  obtain rfl : a = p := by simpa using m
  exact ⟨xs, h⟩
section
variable {N : List Addr} {σ : St} {H0 : Hp} {K : PySem.W.Frag}
end
end L2
set_option Elab.async false
set_option linter.all false
set_option maxRecDepth 100000
namespace L2
open PySem PySem.Spec PyProof.Rows
inductive Bx (p : Prop) : Prop
  | mk (h : p) : Bx p
section
variable {X : Cx}
theorem bx_nil : Bx (PA X [] tNil) := ⟨pa_nil⟩
theorem bx_cons {e : Expr} {es : List Expr} {te : TE} {t : TA} (ha : Bx (PE X e te)) (hr : Bx (PA X es t)) (hs : starEach (e :: es) X.env = (false, eval e X.env) :: starEach es X.env := by rfl) : Bx (PA X (e :: es) (tCons te t)) := by
  obtain ⟨ha⟩ := ha; obtain ⟨hr⟩ := hr; exact ⟨pa_cons ha hr hs⟩
theorem bx_tup {es : List Expr} {t : TA} {x1 : Nat} {pos : Pos} (h : Bx (PA X es t)) : Bx (PE X (.Tuple es x1 pos) (tTup t)) := by
  obtain ⟨h⟩ := h; exact ⟨pe_tup h⟩
theorem bx_lst {es : List Expr} {t : TA} {pos : Pos} (h : Bx (PA X es t)) : Bx (PE X (.List es pos) (tLst t)) := by
  obtain ⟨h⟩ := h; exact ⟨pe_lst h⟩
theorem bx_set {i : Nat} {x : Str} {e : Expr} {te : TE} {pos pos' : Pos} (hN : X.N.Nodup) (hi : X.N[i]? = some x) (hx : Loc X.env.scope x) (he : Bx (PE X e te)) (hs : swapsWith e (some (.Name x pos')) pos.line X.env = pure false := by rfl)
    (hf : X.fn x = true ∨ X.env.scope.names.lookup x = some .local := by first | exact .inl rfl | exact .inr rfl | assumption) : Bx (PS X (.Assign [.Name x pos'] e pos) (tAsg te (gName i))) := by
  obtain ⟨he⟩ := he; exact ⟨ps_set hN hi hx he hs hf⟩
theorem bx_scons {st : Stmt} {rest : List Stmt} {t u : TS} (h1 : Bx (PS X st t)) (h2 : Bx (PSs X rest u)) : Bx (PSs X (st :: rest) (tSeq t u)) := by
  obtain ⟨h1⟩ := h1; obtain ⟨h2⟩ := h2; exact ⟨pss_cons h1 h2⟩
end
section
variable {P : Program} {w : World} {K : PySem.W.Frag} {mg : Str → Option Value} {base : Heap}
theorem Df.calB {x : Str} {st : Stmt} {N ps : List Str} {dvs : List V} {k : Nat} {sp : Sp} (D : Df K mg x st ps dvs) (S : FnScope N ps (defScope st)) (len : ∀ vs H Q E, sp vs H Q E → vs.length = ps.length)
    (hbody : ∀ (f : Addr) (cdv : Value) (A : Around) (outer : List Env) (s : Shared) (H : Hp) (vs : List V) (Q : VK) (E : XK), Room k (A.deeper (envOfC x (defScope st) s.heap.objs.size f cdv)) → sp vs H Q E →
      ∃ t, Bx (PSs (cxOf CX0 P w K mg base N x (defScope st) f cdv A outer s H E).nox (defBody st) t) ∧ t { nx := fun _ H' => Q .non H', rt := Q } (start N vs) H) : Cal P w K mg base x (k + 1) ps dvs sp :=
  D.cal S len fun f cdv A outer s H vs Q E hr h => by
    obtain ⟨t, ⟨p⟩, q⟩ := hbody f cdv A outer s H vs Q E hr h
    exact ⟨t, p, q⟩
end
end L2
set_option Elab.async false
set_option linter.all false
set_option maxRecDepth 100000
namespace L2
open PySem PySem.Spec PyProof.Rows

abbrev vMro : List Value := [.type "ValueError", .type "Exception", .type "BaseException", .type "object"]
section
variable {prog : Program} {w : World} {A : Around} {E : Value → Shared → Prop} {h : Heap} {g : Array GenState} {d : Drawn} {t : Nat} {os : OsState}
variable {nm qn : Str} {C N : Addr} {bs bm : List Value} {hd : Bool} {sn : List Str} {sub : List Value} {ab : Bool} {col : Option Bool} {dd : Option Addr} {k0 k1 k2 k3 k5 : Option Value}
end
end L2
set_option Elab.async false
set_option linter.all false
set_option maxRecDepth 100000
namespace L2
open PySem PySem.Spec PyProof.Rows PySem.W

section
variable {P : Program} {w : World} {H : Hp} {h h2 : Heap} {a : Addr} {o : HO}
end
section
variable {X : Cx} {pins : List (Addr × Obj)} {σ : St} {H : Hp} {s : Shared} {h2 : Heap}
end

section
variable {X : Cx} {x : Str} {C : Addr} {p pos : Pos} {e : Expr} {es : List Expr} {t : TA}
end

section
variable {X : Cx}
end
end L2
set_option Elab.async false
set_option linter.all false
set_option maxRecDepth 100000
namespace L2
open PySem PySem.Spec PyProof.Rows
def TupS (H H' : Hp) : Prop := ∀ b xs, H b = some (.tup xs) → H' b = some (.tup xs)
theorem TupS.of {H H' : Hp} (h : Same H H') : TupS H H' := fun b xs e => h b _ e
theorem TupS.trans {H H1 H2 : Hp} (a : TupS H H1) (b : TupS H1 H2) : TupS H H2 := fun c xs e => b c xs (a c xs e)
theorem TupS.upd {H : Hp} {D : Addr} {ys : List V} {o : HO} (h : H D = some (.lst ys)) : TupS H (upd H D o) := fun b xs e => by rw [upd_ne (fun z => by subst z; rw [h] at e; cases e)]; exact e
structure Runs (J : It) (H : Hp) (xs : List V) : Prop where
  go : ∀ i H', i < xs.length → Same H H' → J.go i H'
  stop : ∀ H', Same H H' → J.stop xs.length H'
  yld : ∀ i x H2 H3, Same H H2 → J.yld i H2 x H3 → H3 = H2 ∧ xs[i]? = some x
section
variable {J : It} {D : Addr} {n : Nat} {js : List Nat} {σ : St} {g : TG} {te : TE} {Z : Hp → Prop} {H : Hp} {xs : List V}
end
end L2
namespace L2
open PySem PySem.Spec PyProof.Rows
section
variable {J : It} {D : Addr} {n : Nat} {σ : St} {g : TG} {tt : TT} {te : TE} {Z : Hp → Prop} {H : Hp} {xs : List V}
end
end L2
set_option Elab.async false
set_option linter.all false
set_option maxRecDepth 100000
namespace L2
open PySem PySem.Spec PyProof.Rows
section
variable {prog : Program} {w : World} {A : Around} {E : Value → Shared → Prop} {s : Shared}
theorem nl_item {j t : Addr} {i : Nat} {vs : Array Value} {x : Value} {Q : Value → Shared → Prop} (kj : s.heap.IsListIter j t i) (kt : s.heap.IsList t vs) (kx : vs[i]? = some x)
    (q : ∀ h', h'.IsListIter j t (i + 1) → Heap.SameBut j s.heap h' → Q x { s with heap := h' }) : wpAny (model prog w) A (Builtin.SmallTypes.nextOf (.ref j)) Q E s := by
  obtain ⟨oj, e1, e2, e3⟩ := id kj
  obtain ⟨ot, f1, _, nt, f3⟩ := kt
  unfold Builtin.SmallTypes.nextOf
  refine wpAny_bind (wpAny_callSpecial?_slot (name := Str.ofString "__next__") kj.typeIs slot_listiter_next (wpAny_call_entry slot_listiter_next kj.typeIs entry_listiter_next ?_ (args_listiter_next _)))
  show wpAny _ _ (field (.ref j) 0 >>= _) _ _ s
  refine wpAny_bind (wpAny_field e1 e3 (x := .ref t) rfl ?_)
  show wpAny _ _ (if (Value.ref t == .none) = true then _ else _) _ _ s
  rw [if_neg (show ¬ ((Value.ref t == .none) = true) from Bool.false_ne_true)]
  show wpAny _ _ (field (.ref j) 1 >>= _) _ _ s
  refine wpAny_bind (wpAny_field e1 e3 (x := .int i 0) rfl (?_ : wpAny _ _ (seqItems? (.ref t) >>= _) _ _ s))
  refine wpAny_bind (wpAny_seqItems f1 f3 ?_)
  simp only [Int.toNat_natCast, kx]
  refine wpAny_bind (wpAny_setField e1 e3 (by simp) (wpAny_pure ⟨x, rfl, wpAny_pure (q _ ⟨_, Heap.get?_update_self _ e1 (Obj.isFreed_of_fields (Obj.data_mapFields e3 _)), (Obj.cls_mapFields ..).trans e2, ?_⟩ (Heap.SameBut.update ..))⟩))
  rw [Obj.data_mapFields e3]; simp [rawInt]
theorem nl_end {j t : Addr} {i : Nat} {vs : Array Value} {Q : Value → Shared → Prop} (hh : A.handled = none) (kj : s.heap.IsListIter j t i) (kt : s.heap.IsList t vs) (kx : vs[i]? = none)
    (q : ∀ h' e, Heap.ExtBut j s.heap h' → (∃ o, h'.get? e = some o ∧ o.cls = .type "StopIteration") → E (.ref e) { s with heap := h' }) : wpAny (model prog w) A (Builtin.SmallTypes.nextOf (.ref j)) Q E s := by
  obtain ⟨oj, e1, e2, e3⟩ := id kj
  obtain ⟨ot, f1, _, nt, f3⟩ := kt
  unfold Builtin.SmallTypes.nextOf
  refine wpAny_bind (wpAny_callSpecial?_slot (name := Str.ofString "__next__") kj.typeIs slot_listiter_next (wpAny_call_entry slot_listiter_next kj.typeIs entry_listiter_next ?_ (args_listiter_next _)))
  show wpAny _ _ (field (.ref j) 0 >>= _) _ _ s
  refine wpAny_bind (wpAny_field e1 e3 (x := .ref t) rfl ?_)
  show wpAny _ _ (if (Value.ref t == .none) = true then _ else _) _ _ s
  rw [if_neg (show ¬ ((Value.ref t == .none) = true) from Bool.false_ne_true)]
  show wpAny _ _ (field (.ref j) 1 >>= _) _ _ s
  refine wpAny_bind (wpAny_field e1 e3 (x := .int i 0) rfl (?_ : wpAny _ _ (seqItems? (.ref t) >>= _) _ _ s))
  refine wpAny_bind (wpAny_seqItems f1 f3 ?_)
  simp only [Int.toNat_natCast, kx]
  refine wpAny_bind (wpAny_rule (wpAny_bind (wpAny_setField e1 e3 (by simp) (?_ : wpAny _ _ (newExc (.type "StopIteration") [] >>= _) _ _ _))))
  refine wpAny_bind ?_
  simp only [newExc, newTuple]
  refine wpAny_bind (wpAny_newObj_type (wpAny_bind (m := firstArgMember _ _) (wpAny_of_eq (a := Value.none) (by first | rfl | (simp only [firstArgMember]; rfl)) (wpAny_newObj_type ?_ (by size_fits)))) (by size_fits))
  simp only [raiseNew]
  refine wpAny_bind (wpAny_handled (?_))
  first | rw [show A.in1.handled = none from hh] | rw [hh]
  exact wpAny_bind (wpAny_pure (wpAny_throw (q _ _ (((Heap.SameBut.update ..).extBut.push _).push _) ⟨_, Heap.get?_push_size _ rfl, rfl⟩)))

structure ZTL (z TI TO j1 j2 t1 t2 : Addr) (f0 : Value) (i1 i2 : Nat) (h : Heap) : Prop where
  z : IsZip h z TI TO f0
  ti : IsPair h TI (.ref j1) (.ref j2)
  to : ∃ a b, IsPair h TO a b
  i1 : h.IsListIter j1 t1 i1
  i2 : h.IsListIter j2 t2 i2
section
variable {z TI TO j1 j2 t1 t2 : Addr} {i : Nat} {xs ys : Array Value}
theorem lst_ne_z {h : Heap} {f0 : Value} {vs : Array Value} {t : Addr} (ht : h.IsList t vs) (hz : IsZip h z TI TO f0) : t ≠ z := fun e => by
  obtain ⟨o, e1, e2, _⟩ := ht
  rw [e, hz] at e1; cases e1; simp at e2
theorem lst_ne_j {h : Heap} {vs : Array Value} {t j u : Addr} {n : Nat} (ht : h.IsList t vs) (hj : h.IsListIter j u n) : t ≠ j := fun e => by
  obtain ⟨o, e1, e2, _⟩ := ht
  obtain ⟨o', f1, f2, _⟩ := hj
  rw [e, f1] at e1; cases e1; rw [f2] at e2; simp at e2
theorem zl_item {x y : Value} {Q : Option Value → Shared → Prop} (D : ZNe z TI TO j1 j2) (Z : ZTL z TI TO j1 j2 t1 t2 .none i i s.heap) (k1 : s.heap.IsList t1 xs) (k2 : s.heap.IsList t2 ys) (n1 : t1 ≠ TO) (n2 : t2 ≠ TO) (ex : xs[i]? = some x) (ey : ys[i]? = some y)
    (q : ∀ h', ZTL z TI TO j1 j2 t1 t2 (rawInt s.heap.objs.size) (i + 1) (i + 1) h' → IsPair h' s.heap.objs.size x y → h'.objs.size = s.heap.objs.size + 1 →
      (∀ c o, c ≠ z → c ≠ TO → c ≠ j1 → c ≠ j2 → s.heap.get? c = some o → h'.get? c = some o) → Q (some (.ref s.heap.objs.size)) { s with heap := h' }) : wpAny (model prog w) A (pyNext (.ref z)) Q E s := by
  obtain ⟨Zz, Zi, ⟨a, b, Zo⟩, Z1, Z2⟩ := Z
  have ty : s.TypeIs (.ref z) "zip" := ⟨_, Zz, rfl⟩
  unfold pyNext
  refine wpAny_bind (wpAny_attempt (wpAny_callSpecial?_slot (name := Str.ofString "__next__") ty F.slot_zip_next (wpAny_call_entry F.slot_zip_next ty F.entry_zip_next ?_ (F.args_zip_next_1 _))))
  show wpAny _ _ (field (.ref z) 2 >>= _) _ _ s
  refine wpAny_bind (wpAny_field Zz rfl (x := .bool false) rfl (?_ : wpAny _ _ (field (.ref z) 3 >>= _) _ _ s))
  refine wpAny_bind (wpAny_field Zz rfl (x := .ref TI) rfl (wpAny_bind (wpAny_seqItems Zi rfl (?_ : wpAny _ _ (Builtin.SmallTypes.ownedTupleIsFree (.ref z) >>= _) _ _ s))))
  refine wpAny_bind ?_; unfold Builtin.SmallTypes.ownedTupleIsFree
  refine wpAny_bind (wpAny_field Zz rfl (x := .none) rfl (wpAny_pure ?_))
  simp only [if_true]
  refine wpAny_bind (wpAny_rule (wpAny_bind (wpAny_field Zz rfl (x := .ref TO) rfl (wpAny_bind (wpAny_setField_rec Zz (by simp) fun g1 Zz1 m1 => ?_)))))
  replace Zz1 : IsZip g1 z TI TO .ellipsis := Zz1
  refine wpAny_bind ?_; simp only [List.zipIdx_cons, List.zipIdx_nil, List.forIn_cons, List.forIn_nil]
  refine wpAny_bind (wpAny_bind (wpAny_onRaise (?_ : wpAny _ _ (Builtin.SmallTypes.nextOf (.ref j1) >>= _) _ _ _)))
  refine wpAny_bind (nl_item (Z1.extBut m1.extBut D.c) (k1.extBut m1.extBut (lst_ne_z k1 Zz)) ex fun g2 Z12 m2 => wpAny_pure ?_)
  have Zo2 : IsPair g2 TO a b := m2.extBut _ _ D.k (m1.extBut _ _ D.b Zo)
  refine wpAny_bind (wpAny_seqItems Zo2 rfl (wpAny_bind (wpAny_updateSeq_pair Zo2 fun g3 Zo3 m3 => wpAny_bind (wpAny_letGo (wpAny_pure ?_)))))
  replace Zo3 : IsPair g3 TO x b := Zo3
  refine wpAny_bind (wpAny_bind (wpAny_onRaise (?_ : wpAny _ _ (Builtin.SmallTypes.nextOf (.ref j2) >>= _) _ _ _)))
  refine wpAny_bind (nl_item (((Z2.extBut m1.extBut D.d).extBut m2.extBut D.m.symm).extBut m3.extBut D.l.symm) (((k2.extBut m1.extBut (lst_ne_z k2 Zz)).extBut m2.extBut (lst_ne_j k2 Z1)).extBut m3.extBut n2) ey fun g4 Z24 m4 => wpAny_pure ?_)
  have Zo4 : IsPair g4 TO x b := m4.extBut _ _ D.l Zo3
  refine wpAny_bind (wpAny_seqItems Zo4 rfl (wpAny_bind (wpAny_updateSeq_pair Zo4 fun g5 Zo5 m5 => wpAny_bind (wpAny_letGo (wpAny_pure (wpAny_pure ?_))))))
  replace Zo5 : IsPair g5 TO x y := Zo5
  refine wpAny_bind (wpAny_seqItems Zo5 rfl (wpAny_bind (wpAny_newTuple ?_)))
  have sz : g5.objs.size = s.heap.objs.size := by rw [m5.1, m4.1, m3.1, m2.1, m1.1]
  have Zz5 : IsZip g5 z TI TO .ellipsis := m5.extBut _ _ D.b.symm (m4.extBut _ _ D.d.symm (m3.extBut _ _ D.b.symm (m2.extBut _ _ D.c.symm Zz1)))
  have kp : ∀ c o, c ≠ z → c ≠ TO → c ≠ j1 → c ≠ j2 → s.heap.get? c = some o → g5.get? c = some o := fun c o c1 c2 c3 c4 e => m5.extBut _ _ c2 (m4.extBut _ _ c4 (m3.extBut _ _ c2 (m2.extBut _ _ c3 (m1.extBut _ _ c1 e))))
  have Z15 : g5.IsListIter j1 t1 (i + 1) := ((Z12.extBut m3.extBut D.k.symm).extBut m4.extBut D.m).extBut m5.extBut D.k.symm
  have Z25 : g5.IsListIter j2 t2 (i + 1) := Z24.extBut m5.extBut D.l.symm
  have zlt : g5.objs.size ≠ z := Nat.ne_of_gt (Heap.lt_size Zz5)
  show wpAny _ _ (Builtin.SmallTypes.ownedTupleHandOut (.ref z) (.ref g5.objs.size) >>= _) _ _ _
  refine wpAny_bind ?_; unfold Builtin.SmallTypes.ownedTupleHandOut
  refine wpAny_bind (wpAny_setField_rec (Heap.get?_push_of_some _ Zz5) (by simp) fun g7 Zz7 m7 => ?_)
  replace Zz7 : IsZip g7 z TI TO (rawInt g5.objs.size) := Zz7
  refine wpAny_setField_rec Zz7 (by simp) fun g8 Zz8 m8 => ?_
  replace Zz8 : IsZip g8 z TI TO (rawInt g5.objs.size) := Zz8
  have up : ∀ c o, c ≠ z → g5.get? c = some o → g8.get? c = some o := fun c o c1 e => m8.extBut _ _ c1 (m7.extBut _ _ c1 (Heap.get?_push_of_some _ e))
  have T8 : IsPair g8 g5.objs.size x y := m8.extBut _ _ zlt (m7.extBut _ _ zlt (Heap.get?_push_size _ rfl))
  have s8 : g8.objs.size = g5.objs.size + 1 := by rw [m8.1, m7.1, Heap.size_push]
  refine wpAny_pure ⟨_, rfl, wpAny_pure ?_⟩
  rw [sz] at Zz8 T8 s8
  show Q (some (.ref g5.objs.size)) _
  rw [sz]
  exact q g8 ⟨Zz8, up _ _ D.a (kp _ _ D.a D.e D.f D.g Zi), ⟨_, _, up _ _ D.b Zo5⟩, Z15.at fun o e => up _ o D.c e, Z25.at fun o e => up _ o D.d e⟩ T8 s8 fun c o c1 c2 c3 c4 e => up c o c1 (kp c o c1 c2 c3 c4 e)
theorem zl_end {Q : Option Value → Shared → Prop} (hh : A.handled = none) (D : ZNe z TI TO j1 j2) (Z : ZTL z TI TO j1 j2 t1 t2 .none i i s.heap) (k1 : s.heap.IsList t1 xs) (k2 : s.heap.IsList t2 ys) (n2 : t2 ≠ TO) (en : xs[i]? = none ∨ ys[i]? = none)
    (q : ∀ h', (∀ c o, c ≠ z → c ≠ TO → c ≠ j1 → c ≠ j2 → s.heap.get? c = some o → h'.get? c = some o) → Q none { s with heap := h' }) : wpAny (model prog w) A (pyNext (.ref z)) Q E s := by
  obtain ⟨Zz, Zi, ⟨a, b, Zo⟩, Z1, Z2⟩ := Z
  have ty : s.TypeIs (.ref z) "zip" := ⟨_, Zz, rfl⟩
  have fin : ∀ (g' : Heap) (e : Addr), (∀ c o, c ≠ z → c ≠ TO → c ≠ j1 → c ≠ j2 → s.heap.get? c = some o → g'.get? c = some o) → (∃ o, g'.get? e = some o ∧ o.cls = .type "StopIteration") →
      wpAny (model prog w) A (do if ← isInstance (.ref e) (.type "StopIteration") then pure none else throw (.ref e) : Sem (Option Value)) Q E { s with heap := g' } := fun g' e kk ⟨o, ho, hc⟩ =>
    wpAny_bind (wpAny_isInstance (T := "StopIteration") (b := true) ⟨o, ho, hc⟩ isSubtype_stop (wpAny_pure (q g' kk)))
  unfold pyNext
  refine wpAny_bind (wpAny_attempt (wpAny_callSpecial?_slot (name := Str.ofString "__next__") ty F.slot_zip_next (wpAny_call_entry F.slot_zip_next ty F.entry_zip_next ?_ (F.args_zip_next_1 _))))
  show wpAny _ _ (field (.ref z) 2 >>= _) _ _ s
  refine wpAny_bind (wpAny_field Zz rfl (x := .bool false) rfl (?_ : wpAny _ _ (field (.ref z) 3 >>= _) _ _ s))
  refine wpAny_bind (wpAny_field Zz rfl (x := .ref TI) rfl (wpAny_bind (wpAny_seqItems Zi rfl (?_ : wpAny _ _ (Builtin.SmallTypes.ownedTupleIsFree (.ref z) >>= _) _ _ s))))
  refine wpAny_bind ?_; unfold Builtin.SmallTypes.ownedTupleIsFree
  refine wpAny_bind (wpAny_field Zz rfl (x := .none) rfl (wpAny_pure ?_))
  simp only [if_true]
  refine wpAny_bind (wpAny_rule (wpAny_bind (wpAny_field Zz rfl (x := .ref TO) rfl (wpAny_bind (wpAny_setField_rec Zz (by simp) fun g1 Zz1 m1 => ?_)))))
  replace Zz1 : IsZip g1 z TI TO .ellipsis := Zz1
  refine wpAny_bind ?_; simp only [List.zipIdx_cons, List.zipIdx_nil, List.forIn_cons, List.forIn_nil]
  refine wpAny_bind (wpAny_bind (wpAny_onRaise (?_ : wpAny _ _ (Builtin.SmallTypes.nextOf (.ref j1) >>= _) _ _ _)))
  cases ex : xs[i]? with
  | none =>
    refine wpAny_bind (nl_end hh (Z1.extBut m1.extBut D.c) (k1.extBut m1.extBut (lst_ne_z k1 Zz)) ex fun g2 e m2 ⟨oe, e1, e2⟩ => ?_)
    have Zz2 : IsZip g2 z TI TO .ellipsis := m2 _ _ D.c.symm Zz1
    have ne : e ≠ z := fun r => by subst r; rw [Zz2] at e1; cases e1; simp at e2
    exact wpAny_setField_rec Zz2 (by simp) fun g3 _ m3 => fin g3 e (fun c o c1 _ c3 _ r => m3.extBut _ _ c1 (m2 _ _ c3 (m1.extBut _ _ c1 r))) ⟨oe, m3.extBut _ _ ne e1, e2⟩
  | some x =>
    have ey : ys[i]? = none := by
      rcases en with r | r
      · rw [ex] at r; cases r
      · exact r
    refine wpAny_bind (nl_item (Z1.extBut m1.extBut D.c) (k1.extBut m1.extBut (lst_ne_z k1 Zz)) ex fun g2 Z12 m2 => wpAny_pure ?_)
    have Zo2 : IsPair g2 TO a b := m2.extBut _ _ D.k (m1.extBut _ _ D.b Zo)
    refine wpAny_bind (wpAny_seqItems Zo2 rfl (wpAny_bind (wpAny_updateSeq_pair Zo2 fun g3 Zo3 m3 => wpAny_bind (wpAny_letGo (wpAny_pure ?_)))))
    refine wpAny_bind (wpAny_bind (wpAny_onRaise (?_ : wpAny _ _ (Builtin.SmallTypes.nextOf (.ref j2) >>= _) _ _ _)))
    refine wpAny_bind (nl_end hh (((Z2.extBut m1.extBut D.d).extBut m2.extBut D.m.symm).extBut m3.extBut D.l.symm) (((k2.extBut m1.extBut (lst_ne_z k2 Zz)).extBut m2.extBut (lst_ne_j k2 Z1)).extBut m3.extBut n2) ey fun g4 e m4 ⟨oe, e1, e2⟩ => ?_)
    have Zz4 : IsZip g4 z TI TO .ellipsis := m4 _ _ D.d.symm (m3.extBut _ _ D.b.symm (m2.extBut _ _ D.c.symm Zz1))
    have ne : e ≠ z := fun r => by subst r; rw [Zz4] at e1; cases e1; simp at e2
    exact wpAny_setField_rec Zz4 (by simp) fun g5 _ m5 => fin g5 e (fun c o c1 c2 c3 c4 r => m5.extBut _ _ c1 (m4 _ _ c4 (m3.extBut _ _ c2 (m2.extBut _ _ c3 (m1.extBut _ _ c1 r))))) ⟨oe, m5.extBut _ _ ne e1, e2⟩
end
end

def ItzL (K : PySem.W.Frag) (t1 t2 : Addr) : It :=
  ⟨fun i H => ∃ xs ys x y, SqL K H t1 xs ∧ SqL K H t2 ys ∧ xs[i]? = some x ∧ ys[i]? = some y,
   fun i H v H' => ∃ T x y, v = .ref T ∧ H T = none ∧ H' = upd H T (.tup [x, y]) ∧ (∀ xs, SqL K H t1 xs → xs[i]? = some x) ∧ ∀ ys, SqL K H t2 ys → ys[i]? = some y,
   fun i H => ∃ xs ys, SqL K H t1 xs ∧ SqL K H t2 ys ∧ (xs.length ≤ i ∨ ys.length ≤ i)⟩
theorem turn_zipL {P : Program} {w : World} {K : PySem.W.Frag} {elts : List Expr} {kc : Nat} {tp : Pos} (z TI TO j1 j2 t1 t2 : Addr) (D : ZNe z TI TO j1 j2) (n1 : t1 ≠ TO) (n2 : t2 ≠ TO) :
    Turn P w K (.Tuple elts kc tp) (ItzL K t1 t2) [z, TI, TO, j1, j2] z (fun i h => ZTL z TI TO j1 j2 t1 t2 .none i i h) where
  mem := by simp
  obj := fun i h st b hb => by
    obtain ⟨Zz, Zi, ⟨u, v, Zo⟩, ⟨o1, e1, _, d1⟩, ⟨o2, e2, _, d2⟩⟩ := st
    simp only [List.mem_cons, List.not_mem_nil, or_false] at hb
    rcases hb with rfl | rfl | rfl | rfl | rfl
    · exact ⟨_, Zz, fun _ r => by cases r⟩
    · exact ⟨_, Zi, fun _ r => by cases r⟩
    · exact ⟨_, Zo, fun _ r => by cases r⟩
    · exact ⟨_, e1, fun _ r => by rw [d1] at r; cases r⟩
    · exact ⟨_, e2, fun _ r => by rw [d2] at r; cases r⟩
  keep := fun i h h' st k => by
    obtain ⟨Zz, Zi, ⟨u, v, Zo⟩, Z1, Z2⟩ := st
    exact ⟨k z (by simp) _ Zz, k TI (by simp) _ Zi, ⟨u, v, k TO (by simp) _ Zo⟩, Z1.at fun o e => k j1 (by simp) o e, Z2.at fun o e => k j2 (by simp) o e⟩
  item := by
    intro X hP hw hK hc i pins s σ H E I hf st hg
    subst hP hw hK
    obtain ⟨xs, ys, x, y, h1, h2, ex, ey⟩ := hg
    obtain ⟨us, r1, p1', _⟩ := I.list h1
    have p1 := p1'.isList
    obtain ⟨vs, r2, p2', _⟩ := I.list h2
    have p2 := p2'.isList
    obtain ⟨ux, eu, rx⟩ := r1.get ex
    obtain ⟨uy, ev, ry⟩ := r2.get ey
    refine zl_item D st (xs := us.toArray) (ys := vs.toArray) p1 p2 n1 n2 (x := ux) (y := uy) (by simpa using eu) (by simpa using ev) fun h' st' pr sz kk => ⟨_, rfl, ?_⟩
    obtain ⟨Zz, Zi, ⟨ua, ub, Zo⟩, Z1, Z2⟩ := st'
    refine wpAny_letOwnedTupleGo_zip Zz fun h2' Zz' sb => ?_
    have hTz : s.heap.objs.size ≠ z := Nat.ne_of_gt (Heap.lt_size st.z)
    have kk2 : ∀ c o, c ≠ z → c ≠ TO → c ≠ j1 → c ≠ j2 → s.heap.get? c = some o → h2'.get? c = some o := fun c o c1 c2 c3 c4 e => (sb.2 c c1).trans (kk c o c1 c2 c3 c4 e)
    have prT : h2'.get? s.heap.objs.size = some { cls := .type "tuple", data := .seq #[ux, uy] } := (sb.2 _ hTz).trans pr
    have hT : H s.heap.objs.size = none := I.hok.fresh (Nat.le_refl _)
    have neC : ∀ b, b ∉ [z, TO, j1, j2] → b ≠ z ∧ b ≠ TO ∧ b ≠ j1 ∧ b ≠ j2 := fun b hb => by simpa using hb
    have trk : ∀ b u, H b = some u → b ≠ z ∧ b ≠ TO ∧ b ≠ j1 ∧ b ≠ j2 := fun b u e => by
      refine ⟨?_, ?_, ?_, ?_⟩ <;> rintro rfl
      · rw [(hf b (by simp)).1] at e; cases e
      · rw [(hf b (by simp)).1] at e; cases e
      · rw [(hf b (by simp)).1] at e; cases e
      · rw [(hf b (by simp)).1] at e; cases e
    have ltT : ∀ b o, s.heap.get? b = some o → b ≠ s.heap.objs.size := fun b o e => Nat.ne_of_lt (Heap.lt_size e)
    have u : Un (frs X.stack) [z, TO, j1, j2] H (upd H s.heap.objs.size (.tup [x, y])) s.heap h2' :=
      ⟨fun b o e n _ hb => by obtain ⟨c1, c2, c3, c4⟩ := neC b hb; exact kk2 b o c1 c2 c3 c4 e, fun b o e n _ hb => by obtain ⟨c1, c2, c3, c4⟩ := neC b hb; exact ⟨o.slots, kk2 b o c1 c2 c3 c4 e⟩,
        fun b o e n hb => by rw [upd_ne (ltT b o e)]; exact n, fun b o e hb => by obtain ⟨c1, c2, c3, c4⟩ := neC b hb; exact ⟨o, kk2 b o c1 c2 c3 c4 e⟩,
        fun b ws e => by rw [upd_ne (ne_of_none e hT)]; exact e, fun b o ws e => by rw [upd_ne (ne_of_none e hT)]; exact e, fun b ps e => ⟨#[], by rw [upd_ne (ne_of_none e hT), e]; simp⟩⟩
    have hok : HOk X.prog X.w (upd H s.heap.objs.size (.tup [x, y])) h2' := fun b ob e => by
      by_cases hb : b = s.heap.objs.size
      · subst hb
        rw [upd_same] at e; cases e
        exact ⟨by show 2 ≤ sizeLine; decide, [ux, uy], .cons rx (.cons ry .nil), _, prT, rfl, 0, rfl⟩
      · rw [upd_ne hb] at e
        refine (I.hok b ob e).stay (fun c v hc' qc => ?_) (fun c q => by rw [upd_ne (ne_of_none q hT)]; exact q) fun c ws q => by rw [upd_ne (ne_of_none q hT)]; exact q
        have : ∃ o, H c = some o := by
          rcases hc' with rfl | hc'
          · exact ⟨_, e⟩
          · exact ⟨_, hc'⟩
        obtain ⟨o, ho⟩ := this
        obtain ⟨c1, c2, c3, c4⟩ := trk c o ho
        exact kk2 c v c1 c2 c3 c4 qc
    refine ⟨.ref s.heap.objs.size, upd H s.heap.objs.size (.tup [x, y]), ?_, rfl, ⟨_, x, y, rfl, hT, rfl, fun xs' h => by rw [I.list_inj h h1]; exact ex, fun ys' h => by rw [I.list_inj h h2]; exact ey⟩,
      ⟨Zz', (sb.2 _ D.a).trans Zi, ⟨_, _, (sb.2 _ D.b).trans Zo⟩, Z1.at fun o e => (sb.2 _ D.c).trans e, Z2.at fun o e => (sb.2 _ D.d).trans e⟩, fun b hb => ?_⟩
    · refine I.call' (s' := { s with heap := h2' }) (ch := [z, TO, j1, j2]) rfl u hok I.bare fun b hb => ?_
      obtain ⟨_, z1, z2, z3, z4, z5⟩ := hf b (by simp only [List.mem_cons, List.not_mem_nil, or_false] at hb ⊢; rcases hb with r | r | r | r <;> simp [r])
      exact ⟨z3, z1, z4, z5⟩
    · obtain ⟨o, e, _⟩ : ∃ o, s.heap.get? b = some o ∧ True := by
        obtain ⟨Zz, Zi, ⟨u, v, Zo⟩, ⟨o1, e1, _, d1⟩, ⟨o2, e2, _, d2⟩⟩ := st
        simp only [List.mem_cons, List.not_mem_nil, or_false] at hb
        rcases hb with rfl | rfl | rfl | rfl | rfl
        · exact ⟨_, Zz, trivial⟩
        · exact ⟨_, Zi, trivial⟩
        · exact ⟨_, Zo, trivial⟩
        · exact ⟨_, e1, trivial⟩
        · exact ⟨_, e2, trivial⟩
      rw [upd_ne (ltT b o e)]; exact (hf b hb).1
  done := by
    intro X hP hw hK hc i pins s σ H E I hf st hg
    subst hP hw hK
    obtain ⟨xs, ys, h1, h2, en⟩ := hg
    obtain ⟨us, r1, p1', _⟩ := I.list h1
    have p1 := p1'.isList
    obtain ⟨vs, r2, p2', _⟩ := I.list h2
    have p2 := p2'.isList
    have l1 := r1.length
    have l2 := r2.length
    refine zl_end (I.ok.hd hc) D st (xs := us.toArray) (ys := vs.toArray) p1 p2 n2 (by rcases en with r | r; exact .inl (by simp; omega); exact .inr (by simp; omega)) fun h' kk => ⟨rfl, ?_⟩
    have neC : ∀ b, b ∉ [z, TO, j1, j2] → b ≠ z ∧ b ≠ TO ∧ b ≠ j1 ∧ b ≠ j2 := fun b hb => by simpa using hb
    have u : Un (frs X.stack) [z, TO, j1, j2] H H s.heap h' :=
      ⟨fun b o e n _ hb => by obtain ⟨c1, c2, c3, c4⟩ := neC b hb; exact kk b o c1 c2 c3 c4 e, fun b o e n _ hb => by obtain ⟨c1, c2, c3, c4⟩ := neC b hb; exact ⟨o.slots, kk b o c1 c2 c3 c4 e⟩,
        fun b o e n hb => n, fun b o e hb => by obtain ⟨c1, c2, c3, c4⟩ := neC b hb; exact ⟨o, kk b o c1 c2 c3 c4 e⟩, fun b ws e => e, fun b o ws e => e, fun b ps e => ⟨#[], by rw [e]; simp⟩⟩
    have hok : HOk X.prog X.w H h' := fun b ob e => by
      refine (I.hok b ob e).stay (fun c v hc' qc => ?_) (fun c q => q) fun c ws q => q
      have : ∃ o, H c = some o := by
        rcases hc' with rfl | hc'
        · exact ⟨_, e⟩
        · exact ⟨_, hc'⟩
      obtain ⟨o, ho⟩ := this
      have nn : ∀ d ∈ [z, TI, TO, j1, j2], c ≠ d := fun d hd r => by subst r; rw [(hf c hd).1] at ho; cases ho
      exact kk c v (nn _ (by simp)) (nn _ (by simp)) (nn _ (by simp)) (nn _ (by simp)) qc
    refine I.call' (s' := { s with heap := h' }) (ch := [z, TO, j1, j2]) rfl u hok I.bare fun b hb => ?_
    obtain ⟨_, z1, z2, z3, z4, z5⟩ := hf b (by simp only [List.mem_cons, List.not_mem_nil, or_false] at hb ⊢; rcases hb with r | r | r | r <;> simp [r])
    exact ⟨z3, z1, z4, z5⟩
  self := fun _ _ _ _ _ st h => wpAny_pyIter_zip st.z h

def zq1 (h : Heap) (t : Addr) : Heap := h.push { cls := .type "list_iterator", data := .fields #[.ref t, .int 0 0] }
theorem zq1_size (h : Heap) (t : Addr) : (zq1 h t).objs.size = h.objs.size + 1 := Heap.size_push ..
def zq5 (h : Heap) (t u : Addr) : Heap := (((zq1 (zq1 h t) u).push { cls := .type "tuple", data := .seq #[.ref h.objs.size, .ref (zq1 h t).objs.size] }).push { cls := .type "tuple", data := .seq #[.none, .none] }).push
  { cls := .type "zip", data := .fields #[.none, .bool false, .bool false, .ref (h.objs.size + 2), .ref (h.objs.size + 3)] }
theorem zip_newL (t u : Addr) (xs ys : Array Value) : Meets (Builtin.«zip.__new__» ⟨[.type "zip", .ref t, .ref u], []⟩) (fun _ R s => s.heap.IsList t xs ∧ s.heap.IsList u ys ∧ R (.ok (.ret (.ref (s.heap.objs.size + 4)))) { s with heap := zq5 s.heap t u }) :=
  .of_wp fun prog w A R s h => by
    obtain ⟨hp, g, d, tk, os⟩ := s; obtain ⟨k1, k2, h⟩ := h
    have hs := sub_zip
    have z1 : (hp.push { cls := .type "list_iterator", data := .fields #[.ref t, .int 0 0] }).objs.size = hp.objs.size + 1 := Heap.size_push ..
    have K1 : Heap.IsList (Shared.heap ⟨hp, g, d, tk, os⟩) t xs := k1
    have K2 : Heap.IsList (Shared.heap ⟨hp.push { cls := .type "list_iterator", data := .fields #[.ref t, .int 0 0] }, g, d, tk, os⟩) u ys := k2.push _
    wp_walk using wpAny_pyIter_list K1, wpAny_pyIter_list K2
    refine ⟨_, rfl, ?_⟩
    unfold zq5 zq1 at h
    simp only [Heap.size_push] at h ⊢
    exact h
section
variable {X : Cx}
def iZipL (K : PySem.W.Frag) (t : TA) : TI := fun σ H R => t σ H fun vs H1 => ∃ t1 t2, vs = [.ref t1, .ref t2] ∧ (∃ xs, SqL K H1 t1 xs) ∧ (∃ ys, SqL K H1 t2 ys) ∧ R (ItzL K t1 t2) H1
theorem zq5_get {h : Heap} {t u : Addr} : IsZip (zq5 h t u) (h.objs.size + 4) (h.objs.size + 2) (h.objs.size + 3) .none ∧ IsPair (zq5 h t u) (h.objs.size + 2) (.ref h.objs.size) (.ref (h.objs.size + 1)) ∧ IsPair (zq5 h t u) (h.objs.size + 3) .none .none ∧
    (zq5 h t u).IsListIter h.objs.size t 0 ∧ (zq5 h t u).IsListIter (h.objs.size + 1) u 0 ∧ ∀ c o, h.get? c = some o → (zq5 h t u).get? c = some o := by
  have z1 := zq1_size h t
  have z2 : (zq1 (zq1 h t) u).objs.size = h.objs.size + 2 := by rw [zq1_size, z1]
  have z3 : ((zq1 (zq1 h t) u).push { cls := .type "tuple", data := .seq #[.ref h.objs.size, .ref (zq1 h t).objs.size] }).objs.size = h.objs.size + 3 := by rw [Heap.size_push, z2]
  have z4 : (((zq1 (zq1 h t) u).push { cls := .type "tuple", data := .seq #[.ref h.objs.size, .ref (zq1 h t).objs.size] }).push { cls := .type "tuple", data := .seq #[.none, .none] }).objs.size = h.objs.size + 4 := by rw [Heap.size_push, z3]
  unfold zq5
  refine ⟨?_, ?_, ?_, ?_, ?_, fun c o e => ?_⟩
  · rw [← z4]; exact Heap.get?_push_size _ rfl
  · refine Heap.get?_push_of_some _ (Heap.get?_push_of_some _ ?_)
    rw [← z2, ← z1]; exact Heap.get?_push_size _ rfl
  · refine Heap.get?_push_of_some _ ?_
    rw [← z3]; exact Heap.get?_push_size _ rfl
  · exact ⟨_, Heap.get?_push_of_some _ (Heap.get?_push_of_some _ (Heap.get?_push_of_some _ (Heap.get?_push_of_some _ (Heap.get?_push_size _ rfl)))), rfl, rfl⟩
  · refine ⟨{ cls := .type "list_iterator", data := .fields #[.ref u, .int 0 0] }, Heap.get?_push_of_some _ (Heap.get?_push_of_some _ (Heap.get?_push_of_some _ ?_)), rfl, rfl⟩
    rw [← z1]; exact Heap.get?_push_size _ rfl
  · exact Heap.get?_push_of_some _ (Heap.get?_push_of_some _ (Heap.get?_push_of_some _ (Heap.get?_push_of_some _ (Heap.get?_push_of_some _ e))))
theorem pi_zipL {a b : Expr} {ta : TA} {p pos tp : Pos} {elts : List Expr} {kc : Nat} (hg : Gl X "zip") (hm : X.mg "zip" = none) (ha : PA X [a, b] ta) (hs : starEach [a, b] X.env = [(false, eval a X.env), (false, eval b X.env)] := by rfl) (hs2 : starEach [b] X.env = [(false, eval b X.env)] := by rfl) :
    PI X (.Tuple elts kc tp) (.Call (.Name "zip" p) [a, b] [] pos) (iZipL X.K ta) := by
  intro pins s σ H R I h
  refine Call_ (ld_blt I hg hm (by decide +kernel : bootBuiltins "zip" = some (.type "zip")) (PyProof.Rows.callWith_type1 (thn (ha pos pins s σ H _ I h) fun us s1 ⟨vs, H1, I1, r1, q1⟩ => ?_) (by rw [hs, hs2]) (by rw [hs2]; rfl)))
  obtain ⟨t1, t2, e, ⟨xs, k1⟩, ⟨ys, k2⟩, q⟩ := q1
  subst e
  obtain ⟨u1, u2, rfl, ru1, ru2⟩ := vals2 r1
  cases (show u1 = Value.ref t1 from ru1)
  cases (show u2 = Value.ref t2 from ru2)
  obtain ⟨as, ra, pa', _⟩ := I1.list k1
  have pa := pa'.isList
  obtain ⟨bs, rb, pb', _⟩ := I1.list k2
  have pb := pb'.isList
  refine callType_new F.called_zip (by decide) (F.typeCall_zip_2 _ _) (F.newCall_zip_2 _ _) (fun obj => F.args_object_init_3 obj _ _) F.entry_zip_new (zip_newL t1 t2 as.toArray bs.toArray) ⟨pa, pb, ?_⟩
  obtain ⟨g1, g2, g3, g4, g5, g6⟩ := zq5_get (h := s1.heap) (t := t1) (u := t2)
  have l1 : t1 < s1.heap.objs.size := by obtain ⟨o, e, _⟩ := pa; exact Heap.lt_size e
  have l2 : t2 < s1.heap.objs.size := by obtain ⟨o, e, _⟩ := pb; exact Heap.lt_size e
  show _ ∧ _
  refine ⟨⟨_, g1, rfl⟩, wpAny_pyIter_zip g1 ⟨_, [s1.heap.objs.size + 4, s1.heap.objs.size + 2, s1.heap.objs.size + 3, s1.heap.objs.size, s1.heap.objs.size + 1], _, _, H1, rfl, I1.kept (t' := s1.toks) g6,
    turn_zipL (s1.heap.objs.size + 4) (s1.heap.objs.size + 2) (s1.heap.objs.size + 3) s1.heap.objs.size (s1.heap.objs.size + 1) t1 t2 ?_ ?_ ?_, ⟨g1, g2, ⟨_, _, g3⟩, g4, g5⟩, fun b hb => ?_, q⟩⟩
  · constructor <;> (intro z; simp only [Nat.add_right_inj, Nat.add_eq_left, Nat.left_eq_add] at z; try omega)
  · exact nne (Nat.lt_of_lt_of_le l1 (Nat.le_add_right _ _))
  · exact nne (Nat.lt_of_lt_of_le l2 (Nat.le_add_right _ _))
  · have hb' : s1.heap.objs.size ≤ b := by
      simp only [List.mem_cons, List.not_mem_nil, or_false] at hb
      rcases hb with rfl | rfl | rfl | rfl | rfl
      · exact Nat.le_add_right _ _
      · exact Nat.le_add_right _ _
      · exact Nat.le_add_right _ _
      · exact Nat.le_refl _
      · exact Nat.le_add_right _ _
    exact I1.fpOk hb' (I1.hok.fresh hb')

end
end L2
set_option Elab.async false
set_option linter.all false
set_option maxRecDepth 100000
namespace L2
open PySem PySem.Spec PyProof.Rows
section
variable {prog : Program} {w : World} {A : Around} {E : Value → Shared → Prop} {s : Shared}
structure ZTM (z TI TO j1 j2 t1 t2 : Addr) (f0 : Value) (i1 i2 : Nat) (h : Heap) : Prop where
  z : IsZip h z TI TO f0
  ti : IsPair h TI (.ref j1) (.ref j2)
  to : ∃ a b, IsPair h TO a b
  i1 : h.IsListIter j1 t1 i1
  i2 : h.IsTupleIter j2 t2 i2
section
variable {z TI TO j1 j2 t1 t2 : Addr} {i : Nat} {xs ys : Array Value}
theorem tup_ne_jl {h : Heap} {vs : Array Value} {t j u : Addr} {n : Nat} (ht : h.IsTuple t vs) (hj : h.IsListIter j u n) : t ≠ j := fun e => by
  obtain ⟨o, e1, e2, _⟩ := ht
  obtain ⟨o', f1, f2, _⟩ := hj
  rw [e, f1] at e1; cases e1; rw [f2] at e2; simp at e2
theorem zm_item {x y : Value} {Q : Option Value → Shared → Prop} (D : ZNe z TI TO j1 j2) (Z : ZTM z TI TO j1 j2 t1 t2 .none i i s.heap) (k1 : s.heap.IsList t1 xs) (k2 : s.heap.IsTuple t2 ys) (n1 : t1 ≠ TO) (n2 : t2 ≠ TO) (ex : xs[i]? = some x) (ey : ys[i]? = some y)
    (q : ∀ h', ZTM z TI TO j1 j2 t1 t2 (rawInt s.heap.objs.size) (i + 1) (i + 1) h' → IsPair h' s.heap.objs.size x y → h'.objs.size = s.heap.objs.size + 1 →
      (∀ c o, c ≠ z → c ≠ TO → c ≠ j1 → c ≠ j2 → s.heap.get? c = some o → h'.get? c = some o) → Q (some (.ref s.heap.objs.size)) { s with heap := h' }) : wpAny (model prog w) A (pyNext (.ref z)) Q E s := by
  obtain ⟨Zz, Zi, ⟨a, b, Zo⟩, Z1, Z2⟩ := Z
  have ty : s.TypeIs (.ref z) "zip" := ⟨_, Zz, rfl⟩
  unfold pyNext
  refine wpAny_bind (wpAny_attempt (wpAny_callSpecial?_slot (name := Str.ofString "__next__") ty F.slot_zip_next (wpAny_call_entry F.slot_zip_next ty F.entry_zip_next ?_ (F.args_zip_next_1 _))))
  show wpAny _ _ (field (.ref z) 2 >>= _) _ _ s
  refine wpAny_bind (wpAny_field Zz rfl (x := .bool false) rfl (?_ : wpAny _ _ (field (.ref z) 3 >>= _) _ _ s))
  refine wpAny_bind (wpAny_field Zz rfl (x := .ref TI) rfl (wpAny_bind (wpAny_seqItems Zi rfl (?_ : wpAny _ _ (Builtin.SmallTypes.ownedTupleIsFree (.ref z) >>= _) _ _ s))))
  refine wpAny_bind ?_; unfold Builtin.SmallTypes.ownedTupleIsFree
  refine wpAny_bind (wpAny_field Zz rfl (x := .none) rfl (wpAny_pure ?_))
  simp only [if_true]
  refine wpAny_bind (wpAny_rule (wpAny_bind (wpAny_field Zz rfl (x := .ref TO) rfl (wpAny_bind (wpAny_setField_rec Zz (by simp) fun g1 Zz1 m1 => ?_)))))
  replace Zz1 : IsZip g1 z TI TO .ellipsis := Zz1
  refine wpAny_bind ?_; simp only [List.zipIdx_cons, List.zipIdx_nil, List.forIn_cons, List.forIn_nil]
  refine wpAny_bind (wpAny_bind (wpAny_onRaise (?_ : wpAny _ _ (Builtin.SmallTypes.nextOf (.ref j1) >>= _) _ _ _)))
  refine wpAny_bind (nl_item (Z1.extBut m1.extBut D.c) (k1.extBut m1.extBut (lst_ne_z k1 Zz)) ex fun g2 Z12 m2 => wpAny_pure ?_)
  have Zo2 : IsPair g2 TO a b := m2.extBut _ _ D.k (m1.extBut _ _ D.b Zo)
  refine wpAny_bind (wpAny_seqItems Zo2 rfl (wpAny_bind (wpAny_updateSeq_pair Zo2 fun g3 Zo3 m3 => wpAny_bind (wpAny_letGo (wpAny_pure ?_)))))
  replace Zo3 : IsPair g3 TO x b := Zo3
  refine wpAny_bind (wpAny_bind (wpAny_onRaise (?_ : wpAny _ _ (Builtin.SmallTypes.nextOf (.ref j2) >>= _) _ _ _)))
  refine wpAny_bind (nt_item (((Z2.extBut m1.extBut D.d).extBut m2.extBut D.m.symm).extBut m3.extBut D.l.symm) (((k2.extBut m1.extBut (tup_ne_z k2 Zz)).extBut m2.extBut (tup_ne_jl k2 Z1)).extBut m3.extBut n2) ey fun g4 Z24 m4 => wpAny_pure ?_)
  have Zo4 : IsPair g4 TO x b := m4.extBut _ _ D.l Zo3
  refine wpAny_bind (wpAny_seqItems Zo4 rfl (wpAny_bind (wpAny_updateSeq_pair Zo4 fun g5 Zo5 m5 => wpAny_bind (wpAny_letGo (wpAny_pure (wpAny_pure ?_))))))
  replace Zo5 : IsPair g5 TO x y := Zo5
  refine wpAny_bind (wpAny_seqItems Zo5 rfl (wpAny_bind (wpAny_newTuple ?_)))
  have sz : g5.objs.size = s.heap.objs.size := by rw [m5.1, m4.1, m3.1, m2.1, m1.1]
  have Zz5 : IsZip g5 z TI TO .ellipsis := m5.extBut _ _ D.b.symm (m4.extBut _ _ D.d.symm (m3.extBut _ _ D.b.symm (m2.extBut _ _ D.c.symm Zz1)))
  have kp : ∀ c o, c ≠ z → c ≠ TO → c ≠ j1 → c ≠ j2 → s.heap.get? c = some o → g5.get? c = some o := fun c o c1 c2 c3 c4 e => m5.extBut _ _ c2 (m4.extBut _ _ c4 (m3.extBut _ _ c2 (m2.extBut _ _ c3 (m1.extBut _ _ c1 e))))
  have Z15 : g5.IsListIter j1 t1 (i + 1) := ((Z12.extBut m3.extBut D.k.symm).extBut m4.extBut D.m).extBut m5.extBut D.k.symm
  have Z25 : g5.IsTupleIter j2 t2 (i + 1) := Z24.extBut m5.extBut D.l.symm
  have zlt : g5.objs.size ≠ z := Nat.ne_of_gt (Heap.lt_size Zz5)
  show wpAny _ _ (Builtin.SmallTypes.ownedTupleHandOut (.ref z) (.ref g5.objs.size) >>= _) _ _ _
  refine wpAny_bind ?_; unfold Builtin.SmallTypes.ownedTupleHandOut
  refine wpAny_bind (wpAny_setField_rec (Heap.get?_push_of_some _ Zz5) (by simp) fun g7 Zz7 m7 => ?_)
  replace Zz7 : IsZip g7 z TI TO (rawInt g5.objs.size) := Zz7
  refine wpAny_setField_rec Zz7 (by simp) fun g8 Zz8 m8 => ?_
  replace Zz8 : IsZip g8 z TI TO (rawInt g5.objs.size) := Zz8
  have up : ∀ c o, c ≠ z → g5.get? c = some o → g8.get? c = some o := fun c o c1 e => m8.extBut _ _ c1 (m7.extBut _ _ c1 (Heap.get?_push_of_some _ e))
  have T8 : IsPair g8 g5.objs.size x y := m8.extBut _ _ zlt (m7.extBut _ _ zlt (Heap.get?_push_size _ rfl))
  have s8 : g8.objs.size = g5.objs.size + 1 := by rw [m8.1, m7.1, Heap.size_push]
  refine wpAny_pure ⟨_, rfl, wpAny_pure ?_⟩
  rw [sz] at Zz8 T8 s8
  show Q (some (.ref g5.objs.size)) _
  rw [sz]
  exact q g8 ⟨Zz8, up _ _ D.a (kp _ _ D.a D.e D.f D.g Zi), ⟨_, _, up _ _ D.b Zo5⟩, Z15.at fun o e => up _ o D.c e, Z25.at fun o e => up _ o D.d e⟩ T8 s8 fun c o c1 c2 c3 c4 e => up c o c1 (kp c o c1 c2 c3 c4 e)
theorem zm_end {Q : Option Value → Shared → Prop} (hh : A.handled = none) (D : ZNe z TI TO j1 j2) (Z : ZTM z TI TO j1 j2 t1 t2 .none i i s.heap) (k1 : s.heap.IsList t1 xs) (k2 : s.heap.IsTuple t2 ys) (n2 : t2 ≠ TO) (en : xs[i]? = none ∨ ys[i]? = none)
    (q : ∀ h', (∀ c o, c ≠ z → c ≠ TO → c ≠ j1 → c ≠ j2 → s.heap.get? c = some o → h'.get? c = some o) → Q none { s with heap := h' }) : wpAny (model prog w) A (pyNext (.ref z)) Q E s := by
  obtain ⟨Zz, Zi, ⟨a, b, Zo⟩, Z1, Z2⟩ := Z
  have ty : s.TypeIs (.ref z) "zip" := ⟨_, Zz, rfl⟩
  have fin : ∀ (g' : Heap) (e : Addr), (∀ c o, c ≠ z → c ≠ TO → c ≠ j1 → c ≠ j2 → s.heap.get? c = some o → g'.get? c = some o) → (∃ o, g'.get? e = some o ∧ o.cls = .type "StopIteration") →
      wpAny (model prog w) A (do if ← isInstance (.ref e) (.type "StopIteration") then pure none else throw (.ref e) : Sem (Option Value)) Q E { s with heap := g' } := fun g' e kk ⟨o, ho, hc⟩ =>
    wpAny_bind (wpAny_isInstance (T := "StopIteration") (b := true) ⟨o, ho, hc⟩ isSubtype_stop (wpAny_pure (q g' kk)))
  unfold pyNext
  refine wpAny_bind (wpAny_attempt (wpAny_callSpecial?_slot (name := Str.ofString "__next__") ty F.slot_zip_next (wpAny_call_entry F.slot_zip_next ty F.entry_zip_next ?_ (F.args_zip_next_1 _))))
  show wpAny _ _ (field (.ref z) 2 >>= _) _ _ s
  refine wpAny_bind (wpAny_field Zz rfl (x := .bool false) rfl (?_ : wpAny _ _ (field (.ref z) 3 >>= _) _ _ s))
  refine wpAny_bind (wpAny_field Zz rfl (x := .ref TI) rfl (wpAny_bind (wpAny_seqItems Zi rfl (?_ : wpAny _ _ (Builtin.SmallTypes.ownedTupleIsFree (.ref z) >>= _) _ _ s))))
  refine wpAny_bind ?_; unfold Builtin.SmallTypes.ownedTupleIsFree
  refine wpAny_bind (wpAny_field Zz rfl (x := .none) rfl (wpAny_pure ?_))
  simp only [if_true]
  refine wpAny_bind (wpAny_rule (wpAny_bind (wpAny_field Zz rfl (x := .ref TO) rfl (wpAny_bind (wpAny_setField_rec Zz (by simp) fun g1 Zz1 m1 => ?_)))))
  replace Zz1 : IsZip g1 z TI TO .ellipsis := Zz1
  refine wpAny_bind ?_; simp only [List.zipIdx_cons, List.zipIdx_nil, List.forIn_cons, List.forIn_nil]
  refine wpAny_bind (wpAny_bind (wpAny_onRaise (?_ : wpAny _ _ (Builtin.SmallTypes.nextOf (.ref j1) >>= _) _ _ _)))
  cases ex : xs[i]? with
  | none =>
    refine wpAny_bind (nl_end hh (Z1.extBut m1.extBut D.c) (k1.extBut m1.extBut (lst_ne_z k1 Zz)) ex fun g2 e m2 ⟨oe, e1, e2⟩ => ?_)
    have Zz2 : IsZip g2 z TI TO .ellipsis := m2 _ _ D.c.symm Zz1
    have ne : e ≠ z := fun r => by subst r; rw [Zz2] at e1; cases e1; simp at e2
    exact wpAny_setField_rec Zz2 (by simp) fun g3 _ m3 => fin g3 e (fun c o c1 _ c3 _ r => m3.extBut _ _ c1 (m2 _ _ c3 (m1.extBut _ _ c1 r))) ⟨oe, m3.extBut _ _ ne e1, e2⟩
  | some x =>
    have ey : ys[i]? = none := by
      rcases en with r | r
      · rw [ex] at r; cases r
      · exact r
    refine wpAny_bind (nl_item (Z1.extBut m1.extBut D.c) (k1.extBut m1.extBut (lst_ne_z k1 Zz)) ex fun g2 Z12 m2 => wpAny_pure ?_)
    have Zo2 : IsPair g2 TO a b := m2.extBut _ _ D.k (m1.extBut _ _ D.b Zo)
    refine wpAny_bind (wpAny_seqItems Zo2 rfl (wpAny_bind (wpAny_updateSeq_pair Zo2 fun g3 Zo3 m3 => wpAny_bind (wpAny_letGo (wpAny_pure ?_)))))
    refine wpAny_bind (wpAny_bind (wpAny_onRaise (?_ : wpAny _ _ (Builtin.SmallTypes.nextOf (.ref j2) >>= _) _ _ _)))
    refine wpAny_bind (nt_end hh (((Z2.extBut m1.extBut D.d).extBut m2.extBut D.m.symm).extBut m3.extBut D.l.symm) (((k2.extBut m1.extBut (tup_ne_z k2 Zz)).extBut m2.extBut (tup_ne_jl k2 Z1)).extBut m3.extBut n2) ey fun g4 e m4 ⟨oe, e1, e2⟩ => ?_)
    have Zz4 : IsZip g4 z TI TO .ellipsis := m4 _ _ D.d.symm (m3.extBut _ _ D.b.symm (m2.extBut _ _ D.c.symm Zz1))
    have ne : e ≠ z := fun r => by subst r; rw [Zz4] at e1; cases e1; simp at e2
    exact wpAny_setField_rec Zz4 (by simp) fun g5 _ m5 => fin g5 e (fun c o c1 c2 c3 c4 r => m5.extBut _ _ c1 (m4 _ _ c4 (m3.extBut _ _ c2 (m2.extBut _ _ c3 (m1.extBut _ _ c1 r))))) ⟨oe, m5.extBut _ _ ne e1, e2⟩
end
end

def ItzM (K : PySem.W.Frag) (t1 t2 : Addr) : It :=
  ⟨fun i H => ∃ xs ys x y, SqL K H t1 xs ∧ SqT K H t2 ys ∧ xs[i]? = some x ∧ ys[i]? = some y,
   fun i H v H' => ∃ T x y, v = .ref T ∧ H T = none ∧ H' = upd H T (.tup [x, y]) ∧ (∀ xs, SqL K H t1 xs → xs[i]? = some x) ∧ ∀ ys, SqT K H t2 ys → ys[i]? = some y,
   fun i H => ∃ xs ys, SqL K H t1 xs ∧ SqT K H t2 ys ∧ (xs.length ≤ i ∨ ys.length ≤ i)⟩
theorem turn_zipM {P : Program} {w : World} {K : PySem.W.Frag} {elts : List Expr} {kc : Nat} {tp : Pos} (z TI TO j1 j2 t1 t2 : Addr) (D : ZNe z TI TO j1 j2) (n1 : t1 ≠ TO) (n2 : t2 ≠ TO) :
    Turn P w K (.Tuple elts kc tp) (ItzM K t1 t2) [z, TI, TO, j1, j2] z (fun i h => ZTM z TI TO j1 j2 t1 t2 .none i i h) where
  mem := by simp
  obj := fun i h st b hb => by
    obtain ⟨Zz, Zi, ⟨u, v, Zo⟩, ⟨o1, e1, _, d1⟩, ⟨o2, e2, _, d2⟩⟩ := st
    simp only [List.mem_cons, List.not_mem_nil, or_false] at hb
    rcases hb with rfl | rfl | rfl | rfl | rfl
    · exact ⟨_, Zz, fun _ r => by cases r⟩
    · exact ⟨_, Zi, fun _ r => by cases r⟩
    · exact ⟨_, Zo, fun _ r => by cases r⟩
    · exact ⟨_, e1, fun _ r => by rw [d1] at r; cases r⟩
    · exact ⟨_, e2, fun _ r => by rw [d2] at r; cases r⟩
  keep := fun i h h' st k => by
    obtain ⟨Zz, Zi, ⟨u, v, Zo⟩, Z1, Z2⟩ := st
    exact ⟨k z (by simp) _ Zz, k TI (by simp) _ Zi, ⟨u, v, k TO (by simp) _ Zo⟩, Z1.at fun o e => k j1 (by simp) o e, Z2.at fun o e => k j2 (by simp) o e⟩
  item := by
    intro X hP hw hK hc i pins s σ H E I hf st hg
    subst hP hw hK
    obtain ⟨xs, ys, x, y, h1, h2, ex, ey⟩ := hg
    obtain ⟨us, r1, p1', _⟩ := I.list h1
    have p1 := p1'.isList
    obtain ⟨vs, r2, p2, _⟩ := I.tuple h2
    obtain ⟨ux, eu, rx⟩ := r1.get ex
    obtain ⟨uy, ev, ry⟩ := r2.get ey
    refine zm_item D st (xs := us.toArray) (ys := vs.toArray) p1 p2 n1 n2 (x := ux) (y := uy) (by simpa using eu) (by simpa using ev) fun h' st' pr sz kk => ⟨_, rfl, ?_⟩
    obtain ⟨Zz, Zi, ⟨ua, ub, Zo⟩, Z1, Z2⟩ := st'
    refine wpAny_letOwnedTupleGo_zip Zz fun h2' Zz' sb => ?_
    have hTz : s.heap.objs.size ≠ z := Nat.ne_of_gt (Heap.lt_size st.z)
    have kk2 : ∀ c o, c ≠ z → c ≠ TO → c ≠ j1 → c ≠ j2 → s.heap.get? c = some o → h2'.get? c = some o := fun c o c1 c2 c3 c4 e => (sb.2 c c1).trans (kk c o c1 c2 c3 c4 e)
    have prT : h2'.get? s.heap.objs.size = some { cls := .type "tuple", data := .seq #[ux, uy] } := (sb.2 _ hTz).trans pr
    have hT : H s.heap.objs.size = none := I.hok.fresh (Nat.le_refl _)
    have neC : ∀ b, b ∉ [z, TO, j1, j2] → b ≠ z ∧ b ≠ TO ∧ b ≠ j1 ∧ b ≠ j2 := fun b hb => by simpa using hb
    have trk : ∀ b u, H b = some u → b ≠ z ∧ b ≠ TO ∧ b ≠ j1 ∧ b ≠ j2 := fun b u e => by
      refine ⟨?_, ?_, ?_, ?_⟩ <;> rintro rfl
      · rw [(hf b (by simp)).1] at e; cases e
      · rw [(hf b (by simp)).1] at e; cases e
      · rw [(hf b (by simp)).1] at e; cases e
      · rw [(hf b (by simp)).1] at e; cases e
    have ltT : ∀ b o, s.heap.get? b = some o → b ≠ s.heap.objs.size := fun b o e => Nat.ne_of_lt (Heap.lt_size e)
    have u : Un (frs X.stack) [z, TO, j1, j2] H (upd H s.heap.objs.size (.tup [x, y])) s.heap h2' :=
      ⟨fun b o e n _ hb => by obtain ⟨c1, c2, c3, c4⟩ := neC b hb; exact kk2 b o c1 c2 c3 c4 e, fun b o e n _ hb => by obtain ⟨c1, c2, c3, c4⟩ := neC b hb; exact ⟨o.slots, kk2 b o c1 c2 c3 c4 e⟩,
        fun b o e n hb => by rw [upd_ne (ltT b o e)]; exact n, fun b o e hb => by obtain ⟨c1, c2, c3, c4⟩ := neC b hb; exact ⟨o, kk2 b o c1 c2 c3 c4 e⟩,
        fun b ws e => by rw [upd_ne (ne_of_none e hT)]; exact e, fun b o ws e => by rw [upd_ne (ne_of_none e hT)]; exact e, fun b ps e => ⟨#[], by rw [upd_ne (ne_of_none e hT), e]; simp⟩⟩
    have hok : HOk X.prog X.w (upd H s.heap.objs.size (.tup [x, y])) h2' := fun b ob e => by
      by_cases hb : b = s.heap.objs.size
      · subst hb
        rw [upd_same] at e; cases e
        exact ⟨by show 2 ≤ sizeLine; decide, [ux, uy], .cons rx (.cons ry .nil), _, prT, rfl, 0, rfl⟩
      · rw [upd_ne hb] at e
        refine (I.hok b ob e).stay (fun c v hc' qc => ?_) (fun c q => by rw [upd_ne (ne_of_none q hT)]; exact q) fun c ws q => by rw [upd_ne (ne_of_none q hT)]; exact q
        have : ∃ o, H c = some o := by
          rcases hc' with rfl | hc'
          · exact ⟨_, e⟩
          · exact ⟨_, hc'⟩
        obtain ⟨o, ho⟩ := this
        obtain ⟨c1, c2, c3, c4⟩ := trk c o ho
        exact kk2 c v c1 c2 c3 c4 qc
    refine ⟨.ref s.heap.objs.size, upd H s.heap.objs.size (.tup [x, y]), ?_, rfl, ⟨_, x, y, rfl, hT, rfl, fun xs' h => by rw [I.list_inj h h1]; exact ex, fun ys' h => by rw [I.tuple_inj h h2]; exact ey⟩,
      ⟨Zz', (sb.2 _ D.a).trans Zi, ⟨_, _, (sb.2 _ D.b).trans Zo⟩, Z1.at fun o e => (sb.2 _ D.c).trans e, Z2.at fun o e => (sb.2 _ D.d).trans e⟩, fun b hb => ?_⟩
    · refine I.call' (s' := { s with heap := h2' }) (ch := [z, TO, j1, j2]) rfl u hok I.bare fun b hb => ?_
      obtain ⟨_, z1, z2, z3, z4, z5⟩ := hf b (by simp only [List.mem_cons, List.not_mem_nil, or_false] at hb ⊢; rcases hb with r | r | r | r <;> simp [r])
      exact ⟨z3, z1, z4, z5⟩
    · obtain ⟨o, e, _⟩ : ∃ o, s.heap.get? b = some o ∧ True := by
        obtain ⟨Zz, Zi, ⟨u, v, Zo⟩, ⟨o1, e1, _, d1⟩, ⟨o2, e2, _, d2⟩⟩ := st
        simp only [List.mem_cons, List.not_mem_nil, or_false] at hb
        rcases hb with rfl | rfl | rfl | rfl | rfl
        · exact ⟨_, Zz, trivial⟩
        · exact ⟨_, Zi, trivial⟩
        · exact ⟨_, Zo, trivial⟩
        · exact ⟨_, e1, trivial⟩
        · exact ⟨_, e2, trivial⟩
      rw [upd_ne (ltT b o e)]; exact (hf b hb).1
  done := by
    intro X hP hw hK hc i pins s σ H E I hf st hg
    subst hP hw hK
    obtain ⟨xs, ys, h1, h2, en⟩ := hg
    obtain ⟨us, r1, p1', _⟩ := I.list h1
    have p1 := p1'.isList
    obtain ⟨vs, r2, p2, _⟩ := I.tuple h2
    have l1 := r1.length
    have l2 := r2.length
    refine zm_end (I.ok.hd hc) D st (xs := us.toArray) (ys := vs.toArray) p1 p2 n2 (by rcases en with r | r; exact .inl (by simp; omega); exact .inr (by simp; omega)) fun h' kk => ⟨rfl, ?_⟩
    have neC : ∀ b, b ∉ [z, TO, j1, j2] → b ≠ z ∧ b ≠ TO ∧ b ≠ j1 ∧ b ≠ j2 := fun b hb => by simpa using hb
    have u : Un (frs X.stack) [z, TO, j1, j2] H H s.heap h' :=
      ⟨fun b o e n _ hb => by obtain ⟨c1, c2, c3, c4⟩ := neC b hb; exact kk b o c1 c2 c3 c4 e, fun b o e n _ hb => by obtain ⟨c1, c2, c3, c4⟩ := neC b hb; exact ⟨o.slots, kk b o c1 c2 c3 c4 e⟩,
        fun b o e n hb => n, fun b o e hb => by obtain ⟨c1, c2, c3, c4⟩ := neC b hb; exact ⟨o, kk b o c1 c2 c3 c4 e⟩, fun b ws e => e, fun b o ws e => e, fun b ps e => ⟨#[], by rw [e]; simp⟩⟩
    have hok : HOk X.prog X.w H h' := fun b ob e => by
      refine (I.hok b ob e).stay (fun c v hc' qc => ?_) (fun c q => q) fun c ws q => q
      have : ∃ o, H c = some o := by
        rcases hc' with rfl | hc'
        · exact ⟨_, e⟩
        · exact ⟨_, hc'⟩
      obtain ⟨o, ho⟩ := this
      have nn : ∀ d ∈ [z, TI, TO, j1, j2], c ≠ d := fun d hd r => by subst r; rw [(hf c hd).1] at ho; cases ho
      exact kk c v (nn _ (by simp)) (nn _ (by simp)) (nn _ (by simp)) (nn _ (by simp)) qc
    refine I.call' (s' := { s with heap := h' }) (ch := [z, TO, j1, j2]) rfl u hok I.bare fun b hb => ?_
    obtain ⟨_, z1, z2, z3, z4, z5⟩ := hf b (by simp only [List.mem_cons, List.not_mem_nil, or_false] at hb ⊢; rcases hb with r | r | r | r <;> simp [r])
    exact ⟨z3, z1, z4, z5⟩
  self := fun _ _ _ _ _ st h => wpAny_pyIter_zip st.z h

def zr5 (h : Heap) (t u : Addr) : Heap := (((zp1 (zq1 h t) u).push { cls := .type "tuple", data := .seq #[.ref h.objs.size, .ref (zq1 h t).objs.size] }).push { cls := .type "tuple", data := .seq #[.none, .none] }).push
  { cls := .type "zip", data := .fields #[.none, .bool false, .bool false, .ref (h.objs.size + 2), .ref (h.objs.size + 3)] }
theorem zip_newM (t u : Addr) (xs ys : Array Value) : Meets (Builtin.«zip.__new__» ⟨[.type "zip", .ref t, .ref u], []⟩) (fun _ R s => s.heap.IsList t xs ∧ s.heap.IsTuple u ys ∧ R (.ok (.ret (.ref (s.heap.objs.size + 4)))) { s with heap := zr5 s.heap t u }) :=
  .of_wp fun prog w A R s h => by
    obtain ⟨hp, g, d, tk, os⟩ := s; obtain ⟨k1, k2, h⟩ := h
    have hs := sub_zip
    have z1 : (hp.push { cls := .type "list_iterator", data := .fields #[.ref t, .int 0 0] }).objs.size = hp.objs.size + 1 := Heap.size_push ..
    have K1 : Heap.IsList (Shared.heap ⟨hp, g, d, tk, os⟩) t xs := k1
    have K2 : Heap.IsTuple (Shared.heap ⟨hp.push { cls := .type "list_iterator", data := .fields #[.ref t, .int 0 0] }, g, d, tk, os⟩) u ys := k2.push _
    wp_walk using wpAny_pyIter_list K1, wpAny_pyIter_tuple K2
    refine ⟨_, rfl, ?_⟩
    unfold zr5 zp1 zq1 at h
    simp only [Heap.size_push] at h ⊢
    exact h
section
variable {X : Cx}
def iZipM (K : PySem.W.Frag) (t : TA) : TI := fun σ H R => t σ H fun vs H1 => ∃ t1 t2, vs = [.ref t1, .ref t2] ∧ (∃ xs, SqL K H1 t1 xs) ∧ (∃ ys, SqT K H1 t2 ys) ∧ R (ItzM K t1 t2) H1
theorem zr5_get {h : Heap} {t u : Addr} : IsZip (zr5 h t u) (h.objs.size + 4) (h.objs.size + 2) (h.objs.size + 3) .none ∧ IsPair (zr5 h t u) (h.objs.size + 2) (.ref h.objs.size) (.ref (h.objs.size + 1)) ∧ IsPair (zr5 h t u) (h.objs.size + 3) .none .none ∧
    (zr5 h t u).IsListIter h.objs.size t 0 ∧ (zr5 h t u).IsTupleIter (h.objs.size + 1) u 0 ∧ ∀ c o, h.get? c = some o → (zr5 h t u).get? c = some o := by
  have z1 := zq1_size h t
  have z2 : (zp1 (zq1 h t) u).objs.size = h.objs.size + 2 := by rw [zp1_size, z1]
  have z3 : ((zp1 (zq1 h t) u).push { cls := .type "tuple", data := .seq #[.ref h.objs.size, .ref (zq1 h t).objs.size] }).objs.size = h.objs.size + 3 := by rw [Heap.size_push, z2]
  have z4 : (((zp1 (zq1 h t) u).push { cls := .type "tuple", data := .seq #[.ref h.objs.size, .ref (zq1 h t).objs.size] }).push { cls := .type "tuple", data := .seq #[.none, .none] }).objs.size = h.objs.size + 4 := by rw [Heap.size_push, z3]
  unfold zr5
  refine ⟨?_, ?_, ?_, ?_, ?_, fun c o e => ?_⟩
  · rw [← z4]; exact Heap.get?_push_size _ rfl
  · refine Heap.get?_push_of_some _ (Heap.get?_push_of_some _ ?_)
    rw [← z2, ← z1]; exact Heap.get?_push_size _ rfl
  · refine Heap.get?_push_of_some _ ?_
    rw [← z3]; exact Heap.get?_push_size _ rfl
  · exact ⟨_, Heap.get?_push_of_some _ (Heap.get?_push_of_some _ (Heap.get?_push_of_some _ (Heap.get?_push_of_some _ (Heap.get?_push_size _ rfl)))), rfl, rfl⟩
  · refine ⟨{ cls := .type "tuple_iterator", data := .fields #[.ref u, .int 0 0] }, Heap.get?_push_of_some _ (Heap.get?_push_of_some _ (Heap.get?_push_of_some _ ?_)), rfl, rfl⟩
    rw [← z1]; exact Heap.get?_push_size _ rfl
  · exact Heap.get?_push_of_some _ (Heap.get?_push_of_some _ (Heap.get?_push_of_some _ (Heap.get?_push_of_some _ (Heap.get?_push_of_some _ e))))
theorem pi_zipM {a b : Expr} {ta : TA} {p pos tp : Pos} {elts : List Expr} {kc : Nat} (hg : Gl X "zip") (hm : X.mg "zip" = none) (ha : PA X [a, b] ta) (hs : starEach [a, b] X.env = [(false, eval a X.env), (false, eval b X.env)] := by rfl) (hs2 : starEach [b] X.env = [(false, eval b X.env)] := by rfl) :
    PI X (.Tuple elts kc tp) (.Call (.Name "zip" p) [a, b] [] pos) (iZipM X.K ta) := by
  intro pins s σ H R I h
  refine Call_ (ld_blt I hg hm (by decide +kernel : bootBuiltins "zip" = some (.type "zip")) (PyProof.Rows.callWith_type1 (thn (ha pos pins s σ H _ I h) fun us s1 ⟨vs, H1, I1, r1, q1⟩ => ?_) (by rw [hs, hs2]) (by rw [hs2]; rfl)))
  obtain ⟨t1, t2, e, ⟨xs, k1⟩, ⟨ys, k2⟩, q⟩ := q1
  subst e
  obtain ⟨u1, u2, rfl, ru1, ru2⟩ := vals2 r1
  cases (show u1 = Value.ref t1 from ru1)
  cases (show u2 = Value.ref t2 from ru2)
  obtain ⟨as, ra, pa', _⟩ := I1.list k1
  have pa := pa'.isList
  obtain ⟨bs, rb, pb, _⟩ := I1.tuple k2
  refine callType_new F.called_zip (by decide) (F.typeCall_zip_2 _ _) (F.newCall_zip_2 _ _) (fun obj => F.args_object_init_3 obj _ _) F.entry_zip_new (zip_newM t1 t2 as.toArray bs.toArray) ⟨pa, pb, ?_⟩
  obtain ⟨g1, g2, g3, g4, g5, g6⟩ := zr5_get (h := s1.heap) (t := t1) (u := t2)
  have l1 : t1 < s1.heap.objs.size := by obtain ⟨o, e, _⟩ := pa; exact Heap.lt_size e
  have l2 : t2 < s1.heap.objs.size := by obtain ⟨o, e, _⟩ := pb; exact Heap.lt_size e
  show _ ∧ _
  refine ⟨⟨_, g1, rfl⟩, wpAny_pyIter_zip g1 ⟨_, [s1.heap.objs.size + 4, s1.heap.objs.size + 2, s1.heap.objs.size + 3, s1.heap.objs.size, s1.heap.objs.size + 1], _, _, H1, rfl, I1.kept (t' := s1.toks) g6,
    turn_zipM (s1.heap.objs.size + 4) (s1.heap.objs.size + 2) (s1.heap.objs.size + 3) s1.heap.objs.size (s1.heap.objs.size + 1) t1 t2 ?_ ?_ ?_, ⟨g1, g2, ⟨_, _, g3⟩, g4, g5⟩, fun b hb => ?_, q⟩⟩
  · constructor <;> (intro z; simp only [Nat.add_right_inj, Nat.add_eq_left, Nat.left_eq_add] at z; try omega)
  · exact nne (Nat.lt_of_lt_of_le l1 (Nat.le_add_right _ _))
  · exact nne (Nat.lt_of_lt_of_le l2 (Nat.le_add_right _ _))
  · have hb' : s1.heap.objs.size ≤ b := by
      simp only [List.mem_cons, List.not_mem_nil, or_false] at hb
      rcases hb with rfl | rfl | rfl | rfl | rfl
      · exact Nat.le_add_right _ _
      · exact Nat.le_add_right _ _
      · exact Nat.le_add_right _ _
      · exact Nat.le_refl _
      · exact Nat.le_add_right _ _
    exact I1.fpOk hb' (I1.hok.fresh hb')

end
end L2
set_option Elab.async false
set_option linter.all false
set_option maxRecDepth 100000
namespace L2
open PySem PySem.Spec PyProof.Rows
structure RunsZ (J : It) (H : Hp) (N : Nat) (xs ys : List V) : Prop where
  go : ∀ i H', i < N → Same H H' → J.go i H'
  stop : ∀ H', Same H H' → J.stop N H'
  yld : ∀ i v H2 H3, Same H H2 → J.yld i H2 v H3 → ∃ T x y, v = .ref T ∧ H2 T = none ∧ H3 = upd H2 T (.tup [x, y]) ∧ xs[i]? = some x ∧ ys[i]? = some y
theorem runs_zipL {K : PySem.W.Frag} {H : Hp} {a b : Addr} {xs ys : List V} (ha : H a = some (.lst xs)) (hb : H b = some (.lst ys)) (e : ys.length = xs.length) : RunsZ (ItzL K a b) H xs.length xs ys :=
  ⟨fun i H' hi s => ⟨xs, ys, xs[i], ys[i], .of (s _ _ ha), .of (s _ _ hb), by simp [hi], by simp [e, hi]⟩, fun H' s => ⟨xs, ys, .of (s _ _ ha), .of (s _ _ hb), .inl (Nat.le_refl _)⟩,
    fun i v H2 H3 s ⟨T, x, y, z, h1, h2, h3, h4⟩ => ⟨T, x, y, z, h1, h2, h3 xs (.of (s _ _ ha)), h4 ys (.of (s _ _ hb))⟩⟩
theorem runs_zipM {K : PySem.W.Frag} {H : Hp} {a b : Addr} {xs ys : List V} (ha : H a = some (.lst xs)) (hb : H b = some (.tup ys)) (e : ys.length = xs.length) : RunsZ (ItzM K a b) H xs.length xs ys :=
  ⟨fun i H' hi s => ⟨xs, ys, xs[i], ys[i], .of (s _ _ ha), .of (s _ _ hb), by simp [hi], by simp [e, hi]⟩, fun H' s => ⟨xs, ys, .of (s _ _ ha), .of (s _ _ hb), .inl (Nat.le_refl _)⟩,
    fun i v H2 H3 s ⟨T, x, y, z, h1, h2, h3, h4⟩ => ⟨T, x, y, z, h1, h2, h3 xs (.of (s _ _ ha)), h4 ys (.of (s _ _ hb))⟩⟩
def sel (p : Nat → Bool) (N : Nat) : List Nat := (List.range N).filter p
theorem sel_succ (p : Nat → Bool) (N : Nat) : sel p (N + 1) = sel p N ++ (if p N = true then [N] else []) := by
  unfold sel
  rw [List.range_succ, List.filter_append]
  by_cases h : p N = true <;> simp [h]
section
variable {J : It} {D : Addr} {n N : Nat} {js : List Nat} {σ : St} {g : TG} {tt : TT} {te : TE} {Z : Hp → Prop} {H : Hp} {xs ys : List V}
theorem compC_zip (p : Nat → Bool) (R : Nat → V → Hp → Prop) (hR : ∀ i v H H', TupS H H' → R i v H → R i v H') (hD : H D = none) (hJ : RunsZ J H N xs ys) (hl : N < sizeLine)
    (hs : ∀ (i : Nat) (T : Addr) (x y : V) (zs : St) (H2 : Hp) (A : VK) (B : Hp → Prop), xs[i]? = some x → ys[i]? = some y → zs.length = n → Same H H2 → H2 T = some (.tup [x, y]) → (p i = true → ∀ v H6, Same H2 H6 → R i v H6 → A v H6) → (p i = false → ∀ H6, Same H2 H6 → B H6) →
      g (.ref T) (zs ++ caps σ js) H2 fun σ4 H4 => σ4.drop n = caps σ js ∧ tt σ4 H4 fun b H5 => if b = true then te σ4 H5 A else B H5)
    (k : ∀ us H', Same H H' → H' D = some (.lst us) → us.length = (sel p N).length → (∀ (j i : Nat) (v : V), (sel p N)[j]? = some i → us[j]? = some v → R i v H') → Z H') :
    ∃ W : Nat → Nat → Hp → List V → Prop, (∃ m, W 0 m (upd H D (.lst [])) []) ∧ ∀ i m H2 ys, W i m H2 ys → H2 D = some (.lst ys) → (J.stop i H2 ∧ Z H2) ∨
      (J.go i H2 ∧ ∀ zs x H3, zs.length = n → J.yld i H2 x H3 → g x (zs ++ caps σ js) H3 fun σ4 H4 => σ4.drop n = caps σ js ∧ tt σ4 H4 fun b H5 => if b = true then te σ4 H5 (fun v H6 => H6 D = some (.lst ys) ∧ ys.length < sizeLine ∧ ∃ m', m' < m ∧ W (i + 1) m' (upd H6 D (.lst (ys ++ [v]))) (ys ++ [v]))
        else H5 D = some (.lst ys) ∧ ∃ m', m' < m ∧ W (i + 1) m' H5 ys) := by
  refine compC_by (Q := fun _ H => Z H) (N := N) (fun i H2 us => Same H H2 ∧ us.length = (sel p i).length ∧ ∀ (j q : Nat) (v : V), (sel p i)[j]? = some q → us[j]? = some v → R q v H2)
    ⟨Same.upd hD, rfl, fun j q v e => by simp [sel] at e⟩ (fun i H2 us hi q => hJ.go i H2 hi q.1) (fun H2 us q => hJ.stop H2 q.1) ?_ (fun H2 us q e => k us H2 q.1 e q.2.1 q.2.2)
  rintro i x zs H2 H3 us Nx hN hi hz hy ⟨s2, hul, huR⟩ hD2
  obtain ⟨T, a, b, rfl, hT, rfl, e1, e2⟩ := hJ.yld i x H2 H3 s2 hy
  have hDT : D ≠ T := fun z => by rw [z, hT] at hD2; cases hD2
  have s3 : Same H2 (upd H2 T (.tup [a, b])) := Same.upd hT
  have hD3 : upd H2 T (.tup [a, b]) D = some (.lst us) := s3 _ _ hD2
  have hsl : us.length < sizeLine := by
    have h1 : (sel p i).length ≤ i := by
      have := List.length_filter_le p (List.range i)
      rw [List.length_range] at this; exact this
    omega
  refine hs i T a b zs _ _ _ e1 e2 hz (s2.trans s3) upd_same (fun hp v H6 s6 r6 => ⟨s6 _ _ hD3, hsl, hN _ _ ⟨fun c o e => ?_, ?_, fun j q u f1 f2 => ?_⟩⟩) (fun hp H6 s6 => ⟨s6 _ _ hD3, hN _ _ ⟨fun c o e => s6 _ _ (s3 _ _ (s2 _ _ e)), ?_, fun j q u f1 f2 => ?_⟩⟩)
  · rw [upd_ne (ne_of_none e hD)]; exact s6 _ _ (s3 _ _ (s2 _ _ e))
  · rw [sel_succ, if_pos hp]; simp [hul]
  · rw [sel_succ, if_pos hp] at f1
    have T6 : TupS H6 (upd H6 D (.lst (us ++ [v]))) := .upd (s6 _ _ hD3)
    by_cases hj : j < us.length
    · rw [List.getElem?_append_left hj] at f2
      rw [List.getElem?_append_left (by omega)] at f1
      exact hR _ _ _ _ ((TupS.of (s3.trans s6)).trans T6) (huR j q u f1 f2)
    · rw [List.getElem?_append_right (by omega)] at f2
      rw [List.getElem?_append_right (by omega)] at f1
      have : j - us.length = 0 := by
        rcases Nat.eq_zero_or_pos (j - us.length) with z | z
        · exact z
        · rw [List.getElem?_eq_none (by simp; omega)] at f2; cases f2
      rw [this] at f2
      rw [show j - (sel p i).length = 0 by omega] at f1
      simp at f1 f2
      subst f1; subst f2
      exact hR _ _ _ _ T6 r6
  · rw [sel_succ, if_neg (by simp [hp])]; simp [hul]
  · rw [sel_succ, if_neg (by simp [hp])] at f1
    rw [List.append_nil] at f1
    exact hR _ _ _ _ (TupS.of (s3.trans s6)) (huR j q u f1 f2)
end
theorem atI_neg {α : Type} {xs : List α} {j : Nat} {v : α} (h1 : 1 ≤ j) (h2 : j ≤ xs.length) (h : xs[xs.length - j]? = some v) : atI xs (-(j : Int)) = some v := by
  unfold atI ixN
  rw [if_neg (by omega), if_pos (by omega)]
  show xs[(-(j : Int) + (xs.length : Int)).toNat]? = some v
  rw [show (-(j : Int) + (xs.length : Int)).toNat = xs.length - j by omega]; exact h
end L2
namespace KM
theorem minus_eq (a b : Rat) : Rat.divInt (a.num * b.den - b.num * a.den) (a.den * b.den) = a - b := by
  rw [Rat.sub_def', ← Rat.divInt_ofNat]; simp
theorem divInt_lt {a b d : Int} (hd : 0 < d) : Rat.divInt a d < Rat.divInt b d ↔ a < b := by
  rw [Rat.divInt_eq_div, Rat.divInt_eq_div]
  have h : (0 : Rat) < d := Rat.intCast_pos.mpr hd
  rw [Rat.div_lt_iff h, Rat.div_mul_cancel (by grind)]; exact Rat.intCast_lt_intCast
theorem divInt_zero' (d : Int) : Rat.divInt 0 d = 0 := by simp
theorem divInt_pos {a d : Int} (hd : 0 < d) : 0 < Rat.divInt a d ↔ 0 < a := by
  have := divInt_lt (a := 0) (b := a) hd
  rw [divInt_zero'] at this; exact this
section
variable {x s : Rat}
end
section
variable {x : Rat} {f : Int}
end
end KM
namespace KM
def gr (c : Rat) (k : Nat) : Rat := if k % 2 = 0 then c else 1
def nms (c : Rat) : Nat → Rat × Rat
  | 0 => (1, 1)
  | k + 1 => ((nms c k).2, (nms c k).2 * gr c k - (nms c k).1)
def nm (c : Rat) (k : Nat) : Rat := (nms c k).1
theorem nm_zero (c : Rat) : nm c 0 = 1 := rfl
theorem nm_one (c : Rat) : nm c 1 = 1 := rfl
theorem nm_two (c : Rat) (k : Nat) : nm c (k + 2) = nm c (k + 1) * gr c k - nm c k := rfl
theorem mul_pos' {a b : Rat} (h : 0 < a) (k : 0 < b) : 0 < a * b := Rat.mul_pos h k
theorem mul_nn {a b : Rat} (h : 0 ≤ a) (k : 0 ≤ b) : 0 ≤ a * b := Rat.mul_nonneg h k
theorem pos_of_mul {a b : Rat} (h : 0 < a * b) (k : 0 < b) : 0 < a := by
  rcases Rat.le_total (a := a) (b := 0) with z | z
  · have := mul_nn (a := -a) (b := b) (by grind) (by grind)
    grind
  · by_cases e : a = 0
    · rw [e] at h; grind
    · grind
theorem gr_le {c c' : Rat} (h : c ≤ c') (k : Nat) : gr c k ≤ gr c' k := by unfold gr; split <;> grind
theorem nm_mono {c c' : Rat} (h : c ≤ c') : ∀ k : Nat, (∀ i, i ≤ k + 1 → 0 < nm c i) → (∀ i, i ≤ k + 1 → 0 < nm c' i) ∧ 0 ≤ nm c' (k + 1) * nm c k - nm c (k + 1) * nm c' k := by
  intro k
  induction k with
  | zero =>
    intro _
    refine ⟨fun i hi => ?_, by rw [nm_one, nm_zero, nm_one, nm_zero]; grind⟩
    have : i = 0 ∨ i = 1 := by omega
    rcases this with rfl | rfl
    · rw [nm_zero]; decide
    · rw [nm_one]; decide
  | succ k ih =>
    intro hp
    obtain ⟨i1, i2⟩ := ih fun i hi => hp i (by omega)
    have p1 := hp (k + 1) (by omega)
    have p2 := hp (k + 2) (by omega)
    have q1 := i1 (k + 1) (by omega)
    have hg := gr_le h k
    have e : nm c' (k + 2) * nm c (k + 1) - nm c (k + 2) * nm c' (k + 1) = (gr c' k - gr c k) * (nm c' (k + 1) * nm c (k + 1)) + (nm c' (k + 1) * nm c k - nm c (k + 1) * nm c' k) := by
      rw [nm_two, nm_two]; grind
    have z1 := mul_nn (a := gr c' k - gr c k) (by grind) (Rat.le_of_lt (mul_pos' q1 p1))
    have d : 0 ≤ nm c' (k + 2) * nm c (k + 1) - nm c (k + 2) * nm c' (k + 1) := by rw [e]; grind
    refine ⟨fun i hi => ?_, d⟩
    rcases Nat.lt_or_ge i (k + 2) with y | y
    · exact i1 i (by omega)
    · have : i = k + 2 := by omega
      subst this
      have z2 := mul_pos' p2 q1
      exact pos_of_mul (a := nm c' (k + 2)) (b := nm c (k + 1)) (by grind) p1
def Cnt (c : Rat) (n : Nat) : Prop := (∀ i, i < n → 0 < nm c i) ∧ nm c n ≤ 0
theorem Cnt.two {c : Rat} {n : Nat} (h : Cnt c n) : 2 ≤ n := by
  rcases Nat.lt_or_ge n 2 with z | z
  · have := h.2
    have y : n = 0 ∨ n = 1 := by omega
    rcases y with rfl | rfl
    · rw [nm_zero] at this; exact absurd this (by decide)
    · rw [nm_one] at this; exact absurd this (by decide)
  · exact z
theorem Cnt.mono {c c' : Rat} {m n : Nat} (h : Cnt c m) (k : Cnt c' n) (l : c ≤ c') : m ≤ n := by
  rcases Nat.lt_or_ge n m with z | z
  · obtain ⟨m, rfl⟩ : ∃ q, m = q + 1 := ⟨m - 1, by omega⟩
    have m1 := h.two
    obtain ⟨q, rfl⟩ : ∃ q, m = q + 1 := ⟨m - 1, by omega⟩
    have := (nm_mono l q fun i hi => h.1 i (by omega)).1 n (by omega)
    have := k.2
    grind
  · exact z
theorem cnt_ex {c : Rat} : ∀ N : Nat, (∃ i, i ≤ N ∧ nm c i ≤ 0) → ∃ n, n ≤ N ∧ Cnt c n := by
  intro N
  induction N with
  | zero => rintro ⟨i, hi, h⟩; refine ⟨0, by omega, fun j hj => by omega, ?_⟩; rw [show i = 0 by omega] at h; exact h
  | succ N ih =>
    rintro ⟨i, hi, h⟩
    by_cases z : ∃ j, j ≤ N ∧ nm c j ≤ 0
    · obtain ⟨n, h1, h2⟩ := ih z; exact ⟨n, by omega, h2⟩
    · refine ⟨N + 1, Nat.le_refl _, fun j hj => ?_, ?_⟩
      · rcases Rat.le_total (a := nm c j) (b := 0) with y | y
        · exact absurd ⟨j, by omega, y⟩ z
        · by_cases e : nm c j = 0
          · exact absurd ⟨j, by omega, by grind⟩ z
          · grind
      · rcases Nat.lt_or_ge i (N + 1) with y | y
        · exact absurd ⟨i, by omega, h⟩ z
        · rw [show i = N + 1 by omega] at h; exact h
theorem cmax_ends : nm (400/101 : Rat) 31 ≤ 0 := by decide +kernel
theorem cnt_all {c : Rat} (h : c ≤ 400/101) : ∃ n, n ≤ 31 ∧ Cnt c n := by
  refine cnt_ex 31 ?_
  by_cases z : ∃ i, i ≤ 31 ∧ nm c i ≤ 0
  · exact z
  · have hp : ∀ i, i ≤ 30 + 1 → 0 < nm c i := fun i hi => by
      rcases Rat.le_total (a := nm c i) (b := 0) with y | y
      · exact absurd ⟨i, by omega, y⟩ z
      · by_cases e : nm c i = 0
        · exact absurd ⟨i, by omega, by grind⟩ z
        · grind
    have := (nm_mono h 30 hp).1 31 (by omega)
    have := cmax_ends
    grind
def ab (p q : Int) : Nat → Int × Int
  | 0 => (1, 1)
  | j + 1 => (p * (ab p q j).2 - q * (ab p q j).1, p * (ab p q j).2 - q * (ab p q j).1 - q * (ab p q j).2)
theorem pow_ne {q : Int} (hq : q ≠ 0) : ∀ j : Nat, q ^ j ≠ 0
  | 0 => by simp
  | j + 1 => by rw [Int.pow_succ]; exact Int.mul_ne_zero (pow_ne hq j) hq
theorem divInt_as (a : Int) {d : Int} : Rat.divInt a d = (a : Rat) / (d : Rat) := Rat.divInt_eq_div a d
theorem nm_ab {p q : Int} (hq : q ≠ 0) : ∀ j : Nat, nm (Rat.divInt p q) (2 * j) = Rat.divInt (ab p q j).1 (q ^ j) ∧ nm (Rat.divInt p q) (2 * j + 1) = Rat.divInt (ab p q j).2 (q ^ j) := by
  intro j
  have hQ : (q : Rat) ≠ 0 := by intro z; exact hq (by exact_mod_cast z)
  induction j with
  | zero => exact ⟨by rw [nm_zero]; simp [ab]; decide +kernel, by rw [nm_one]; simp [ab]; decide +kernel⟩
  | succ j ih =>
    obtain ⟨h1, h2⟩ := ih
    have hj : ((q ^ j : Int) : Rat) ≠ 0 := by
      intro z
      have : (q ^ j : Int) = 0 := by exact_mod_cast z
      exact pow_ne hq j this
    have e1 : nm (Rat.divInt p q) (2 * (j + 1)) = Rat.divInt (ab p q (j + 1)).1 (q ^ (j + 1)) := by
      rw [show 2 * (j + 1) = 2 * j + 2 by omega, nm_two, h1, h2]
      rw [show gr (Rat.divInt p q) (2 * j) = Rat.divInt p q from if_pos (by omega)]
      simp only [ab, divInt_as, Int.pow_succ]
      have : ((q ^ j * q : Int) : Rat) = ((q ^ j : Int) : Rat) * (q : Rat) := by push_cast; rfl
      rw [this]
      push_cast at hj ⊢
      grind
    refine ⟨e1, ?_⟩
    rw [show 2 * (j + 1) + 1 = (2 * j + 1) + 2 by omega, nm_two, show 2 * j + 1 + 1 = 2 * (j + 1) by omega, e1, h2]
    rw [show gr (Rat.divInt p q) (2 * j + 1) = 1 from if_neg (by omega)]
    simp only [ab, divInt_as, Int.pow_succ]
    have : ((q ^ j * q : Int) : Rat) = ((q ^ j : Int) : Rat) * (q : Rat) := by push_cast; rfl
    rw [this]
    push_cast at hj ⊢
    grind
end KM
set_option Elab.async false
set_option linter.all false
set_option maxRecDepth 100000
namespace KK
open PySem L2
def top (i : Nat) : Stmt := PySem.Challenge.pw_clackrow_k50_no_three_weights.main.body.getD i (.Pass ⟨0, 0, 0, 0⟩)
abbrev s_is_whole : Stmt := top 15
abbrev s_is_tuple : Stmt := top 16
abbrev s_greatest_divisor : Stmt := top 17
abbrev s_ratio : Stmt := top 18
abbrev s_minus : Stmt := top 19
abbrev s_times : Stmt := top 20
abbrev s_over : Stmt := top 21
abbrev s_less : Stmt := top 22
abbrev s_floor_of : Stmt := top 23
abbrev s_is_weight : Stmt := top 27
abbrev s_are_weights : Stmt := top 29
abbrev s_refuse_no_weights : Stmt := top 30
abbrev s_kick_of : Stmt := top 31
abbrev s_numbers_of : Stmt := top 32
abbrev s_nearing_of : Stmt := top 33
abbrev s_beginning_of : Stmt := top 34
abbrev s_most_of : Stmt := top 35
abbrev s_lets_most : Stmt := top 36
abbrev s_law_pool : Stmt := top 38
abbrev s_law_next : Stmt := top 39
abbrev s_law_odd : Stmt := top 40
abbrev s_law_refused : Stmt := top 41
abbrev s_law : Stmt := top 42
end KK
set_option Elab.async false
set_option linter.all false
set_option maxRecDepth 100000
namespace KK
open PySem L2
structure TxB (K : PySem.W.Frag) (mg : Str → Option Value) : Prop where
  ii : PySem.W.kitOne K (.type "int") (.type "int") = some true
  ib : PySem.W.kitOne K (.type "int") (.type "bool") = some false
  nIs : mg "isinstance" = none
  nInt : mg "int" = none
  nBool : mg "bool" = none
  nAbs : mg "abs" = none
  nLen : mg "len" = none
  nMax : mg "max" = none
  nMin : mg "min" = none
  nRange : mg "range" = none
  nTuple : mg "tuple" = none
  nSum : mg "sum" = none
section
variable {P : Program} {w : World} {K : PySem.W.Frag} {mg : Str → Option Value} {base : Heap}

def spWhole : Sp := fun vs H Q _ => ∃ i, vs = [.int i] ∧ Q (.bl true) H
theorem sc_whole : FnScope ["thing"] ["thing"] (defScope s_is_whole) := ⟨rfl, rfl, rfl, by decide +kernel, rfl, by decide +kernel, by decide +kernel⟩
theorem ok_whole (D : Df K mg "is_whole" s_is_whole ["thing"] []) (T : TxB K mg) : Cal P w K mg base "is_whole" 1 ["thing"] [] spWhole := by
  refine D.cal (k := 0) sc_whole (fun vs H Q E h => by obtain ⟨i, rfl, _⟩ := h; rfl) (fun f cdv A outer s H vs Q E hr h => ?_)
  obtain ⟨i, rfl, k⟩ := h
  refine ⟨_, pss_one (ps_ret (pe_and
    (pe_callB call_isinst rfl T.nIs PyProof.Rows.boot_isinstance (pa_cons (pv 0) (pa_cons (pe_bltn (v := .ty "int") (u := .type "int") rfl T.nInt PyProof.Rows.boot_int rfl) pa_nil)))
    (pe_one (pe_not (pe_callB call_isinst rfl T.nIs PyProof.Rows.boot_isinstance (pa_cons (pv 0) (pa_cons (pe_bltn (v := .ty "bool") (u := .type "bool") rfl T.nBool (by decide +kernel) rfl) pa_nil))))))), ?_⟩
  refine ⟨_, rfl, _, _, _, true, rfl, .int i, T.ii, true, rfl, iteT ?_⟩
  exact ⟨_, rfl, _, _, _, false, rfl, .int i, T.ib, false, rfl, k⟩

def spGcd : Sp := fun vs H Q _ => ∃ a b : Int, vs = [.int a, .int b] ∧ 0 ≤ a ∧ 0 ≤ b ∧ Q (.int (Int.gcd a b : Nat)) H
theorem sc_gcd : FnScope ["one", "other"] ["one", "other"] (defScope s_greatest_divisor) := ⟨rfl, rfl, rfl, by decide +kernel, rfl, by decide +kernel, by decide +kernel⟩
theorem ok_gcd (D : Df K mg "greatest_divisor" s_greatest_divisor ["one", "other"] []) : Cal P w K mg base "greatest_divisor" 1 ["one", "other"] [] spGcd := by
  refine D.cal (k := 0) sc_gcd (fun vs H Q E h => by obtain ⟨a, b, rfl, _⟩ := h; rfl) (fun f cdv A outer s H vs Q E hr h => ?_)
  obtain ⟨a, b, rfl, ha, hb, k⟩ := h
  refine ⟨_, pss_cons (ps_while PassesOwn.never (pt_cmpR op_gt (pv 1) pe_int (nomark _))
      (pss_one (ps_par (i := 0) (j := 1) rfl sc_gcd.nd rfl rfl (by decide) rfl rfl (pa_cons (pv 1) (pa_cons (pe_op op_mod (pv 0) (pv 1)) pa_nil)) (by rfl))))
    (pss_one (ps_ret (pv 0))), ?_⟩
  refine while_by (fun σ H1 => H1 = H ∧ ∃ x y : Int, σ = [some (.int x), some (.int y)] ∧ 0 ≤ x ∧ 0 ≤ y ∧ Int.gcd x y = Int.gcd a b)
    (fun σ _ => match σ with | [_, some (.int y)] => y.toNat | _ => 0) ⟨rfl, a, b, rfl, ha, hb, rfl⟩ ?_ ?_
  · rintro σ H1 ⟨rfl, x, y, rfl, hx, hy, e⟩
    refine ⟨_, rfl, _, _, rfl, rfl, _, rfl, ite2 (fun h => ?_) (fun h => ?_)⟩
    · have h' : 0 < y := of_decide_eq_true h
      refine ⟨_, rfl, _, rfl, _, rfl, _, _, rfl, rfl, h', _, _, rfl, ⟨rfl, _, _, rfl, hy, Int.emod_nonneg _ (by omega), ?_⟩, ?_⟩
      · rw [KM.gcd_step hx h']; exact e
      · show (x % y).toNat < y.toNat
        have := Int.emod_lt_of_pos x h'
        omega
    · have h' : ¬ 0 < y := fun z => h (decide_eq_true z)
      have : y = 0 := by omega
      subst this
      refine ⟨_, rfl, ?_⟩
      have e2 : x = (Int.gcd a b : Nat) := by rw [← e, Int.gcd_zero_right]; omega
      rw [e2]; exact k
  · rintro σ H1 Q1 Q2 hq ⟨v, e, i, j, e1, e2, k1, e3, q⟩
    exact ⟨v, e, i, j, e1, e2, k1, e3, hq _ _ q⟩

theorem sc_ratio : FnScope ["top", "bottom", "divisor"] ["top", "bottom"] (defScope s_ratio) := ⟨rfl, rfl, rfl, by decide +kernel, rfl, by decide +kernel, by decide +kernel⟩
theorem abs_eq (i : Int) : (if i < 0 then -i else i) = (i.natAbs : Int) := by split <;> omega
theorem ok_ratio {dvs : List V} (D : Df K mg "ratio" s_ratio ["top", "bottom"] dvs) (T : TxB K mg) (cW : Cal P w K mg base "is_whole" 1 ["thing"] [] spWhole) (cG : Cal P w K mg base "greatest_divisor" 1 ["one", "other"] [] spGcd) :
    Cal P w K mg base "ratio" 2 ["top", "bottom"] dvs spLow := by
  refine D.cal (k := 1) sc_ratio (fun vs H Q E h => by obtain ⟨a, b, rfl, _⟩ := h; rfl) (fun f cdv A outer s H vs Q E hr h => ?_)
  obtain ⟨t, b, rfl, hb, hz, k⟩ := h
  refine ⟨_, pss_cons (ps_if (pw_or (pt_not (pt_truth (pe_c cW hr (pa_cons (pv 0) pa_nil)) fun _ => rfl)) (pw_or (pt_not (pt_truth (pe_c cW hr (pa_cons (pv 1) pa_nil)) fun _ => rfl)) (pw_or1 (pt_cmpR op_eq (pv 1) pe_int (nomark _))))).pt pss_never pss_nil)
    (pss_cons (ps_set (i := 2) sc_ratio.nd rfl (Or.inl rfl) (pe_c cG hr (pa_cons (pe_callB call_abs rfl T.nAbs PyProof.Rows.boot_abs (pa_cons (pv 0) pa_nil)) (pa_cons (pe_callB call_abs rfl T.nAbs PyProof.Rows.boot_abs (pa_cons (pv 1) pa_nil)) pa_nil))))
    (pss_cons (ps_if (pt_cmpR op_lt (pv 1) pe_int (nomark _)) (pss_one (ps_set (i := 2) sc_ratio.nd rfl (Or.inl rfl) (pe_un un_neg (pv 2)))) pss_nil)
    (pss_one (ps_ret (pe_tup (pa_cons (pe_op op_fdivB (pv 0) (pv 2)) (pa_cons (pe_op op_fdivB (pv 1) (pv 2)) pa_nil))))))), ?_⟩
  refine ⟨_, rfl, t, rfl, true, rfl, iteF ?_⟩
  refine ⟨_, rfl, b, rfl, true, rfl, iteF ?_⟩
  refine ⟨_, rfl, rfl, _, rfl, ite2 (fun h => absurd (of_decide_eq_true h) (by intro z; injection z with z; exact hb z)) (fun _ => ?_)⟩
  refine ⟨_, rfl, t, rfl, ⟨_, rfl, b, rfl, ⟨_, _, rfl, (by rw [abs_eq]; omega), (by rw [abs_eq]; omega), ?_⟩⟩⟩
  have hd := KM.dv_ne (t := t) hb
  have hdz : Bd 8900 (KM.dv t b) := hz.of_le (KM.dv_le hb)
  have fin : ∀ σ : St, σ = [some (.int t), some (.int b), some (.int (KM.dv t b))] → tRet (tTup (tCons (tOp (rI CDivB fun i j => V.int (i.fdiv j)) (tVar 0) (tVar 2)) (tCons (tOp (rI CDivB fun i j => V.int (i.fdiv j)) (tVar 1) (tVar 2)) tNil))) { nx := fun _ H' => Q .non H', rt := Q } σ H := by
    rintro σ rfl
    refine ⟨_, rfl, _, rfl, _, _, rfl, rfl, ⟨hd, hdz⟩, _, rfl, _, rfl, _, _, rfl, rfl, ⟨hd, hdz⟩, ?_⟩
    refine ⟨by show 2 ≤ sizeLine; decide, fun p hp => k p _ (Same.upd hp) ?_⟩
    show upd H p _ p = _
    rw [upd_same]
    dsimp only
    rw [KM.dv_num hb, KM.dv_den hb]; rfl
  have ge : (Int.gcd (if t < 0 then -t else t) (if b < 0 then -b else b) : Nat) = Int.gcd t b := by
    rw [abs_eq, abs_eq]; simp [Int.gcd]
  refine ⟨_, rfl, _, _, rfl, rfl, _, rfl, ite2 (fun h => ?_) (fun h => ?_)⟩
  · have h' : b < 0 := of_decide_eq_true h
    refine ⟨_, rfl, _, rfl, fin _ ?_⟩
    rw [ge]; unfold KM.dv; rw [if_pos h']; rfl
  · have h' : ¬ b < 0 := fun z => h (decide_eq_true z)
    refine fin _ ?_
    rw [ge]; unfold KM.dv; rw [if_neg h']; rfl
end
end KK
set_option Elab.async false
set_option linter.all false
set_option maxRecDepth 100000
namespace KK
open PySem L2
section
variable {P : Program} {w : World} {K : PySem.W.Frag} {mg : Str → Option Value} {base : Heap}
theorem Bd4 {x : Rat} (h : Sz 4000 x) : Bd 1000000 x.num ∧ Bd 1000000 (x.den : Int) := ⟨h.1.mono (by decide), h.2.mono (by decide)⟩
section
variable {x y : Rat} {p q : Addr} {H : Hp}
theorem rd_times {Q : VK} (hp : RatAt H p x) (hq : RatAt H q y) (hx : Sz 4000 x) (hy : Sz 4000 y) (k : ∀ r H', Same H H' → RatAt H' r (x * y) → Q (.ref r) H') :
    tRet (tCall spLow [] E0 (tCons (tOp (rI CMulB fun i j => .int (i * j)) (tOp (rIxT K) (tVar 0) (tC (.int 0))) (tOp (rIxT K) (tVar 1) (tC (.int 0))))
      (tCons (tOp (rI CMulB fun i j => .int (i * j)) (tOp (rIxT K) (tVar 0) (tC (.int 1))) (tOp (rIxT K) (tVar 1) (tC (.int 1)))) tNil))) { nx := fun _ H' => Q .non H', rt := Q } [some (.ref p), some (.ref q)] H := by
  have bx := Bd4 hx
  have b_y := Bd4 hy
  refine ⟨_, rfl, p, _, _, _, rfl, rfl, .of hp, at0 .., _, rfl, q, _, _, _, rfl, rfl, .of hq, at0 .., _, _, rfl, rfl, ⟨bx.1, b_y.1⟩, ?_⟩
  refine ⟨_, rfl, p, _, _, _, rfl, rfl, .of hp, at1 .., _, rfl, q, _, _, _, rfl, rfl, .of hq, at1 .., _, _, rfl, rfl, ⟨bx.2, b_y.2⟩, ?_⟩
  refine ⟨_, _, rfl, Int.mul_ne_zero (KM.den_ne x) (KM.den_ne y), (hx.2.mul hy.2).mono (by decide), fun r H' e h => k r H' e ?_⟩
  rw [← KM.times_eq]; exact h
end
theorem sc_times : FnScope ["one", "other"] ["one", "other"] (defScope s_times) := ⟨rfl, rfl, rfl, by decide +kernel, rfl, by decide +kernel, by decide +kernel⟩
theorem ok_times (D : Df K mg "times" s_times ["one", "other"] []) (c : Cal P w K mg base "ratio" 2 ["top", "bottom"] [] spLow) : Cal P w K mg base "times" 3 ["one", "other"] [] (spBin Sz2 (· * ·)) := by
  refine D.cal (k := 2) sc_times (fun vs H Q E h => by obtain ⟨_, _, _, _, rfl, _⟩ := h; rfl) (fun f cdv A outer s H vs Q E hr h => ?_)
  obtain ⟨p, q, x, y, rfl, hp, hq, ⟨hx, hy⟩, k⟩ := h
  exact ⟨_, pss_one (ps_ret (pe_c c hr (pa_cons (pe_op op_mulB (pe_ix ix_tup (pv 0) pe_int (fun _ _ => rfl)) (pe_ix ix_tup (pv 1) pe_int (fun _ _ => rfl)))
    (pa_cons (pe_op op_mulB (pe_ix ix_tup (pv 0) pe_int (fun _ _ => rfl)) (pe_ix ix_tup (pv 1) pe_int (fun _ _ => rfl))) pa_nil)))), rd_times hp hq hx hy k⟩
theorem sc_over : FnScope ["one", "other"] ["one", "other"] (defScope s_over) := ⟨rfl, rfl, rfl, by decide +kernel, rfl, by decide +kernel, by decide +kernel⟩
theorem ok_over (D : Df K mg "over" s_over ["one", "other"] []) (c : Cal P w K mg base "ratio" 2 ["top", "bottom"] [] spLow) : Cal P w K mg base "over" 3 ["one", "other"] [] (spBin (fun x y => Sz2 x y ∧ y ≠ 0) (· / ·)) := by
  refine D.cal (k := 2) sc_over (fun vs H Q E h => by obtain ⟨_, _, _, _, rfl, _⟩ := h; rfl) (fun f cdv A outer s H vs Q E hr h => ?_)
  obtain ⟨p, q, x, y, rfl, hp, hq, ⟨⟨hx, hy⟩, hy0⟩, k⟩ := h
  have bx := Bd4 hx
  have b_y := Bd4 hy
  refine ⟨_, pss_one (ps_ret (pe_c c hr (pa_cons (pe_op op_mulB (pe_ix ix_tup (pv 0) pe_int (fun _ _ => rfl)) (pe_ix ix_tup (pv 1) pe_int (fun _ _ => rfl)))
    (pa_cons (pe_op op_mulB (pe_ix ix_tup (pv 0) pe_int (fun _ _ => rfl)) (pe_ix ix_tup (pv 1) pe_int (fun _ _ => rfl))) pa_nil)))), ?_⟩
  refine ⟨_, rfl, p, _, _, _, rfl, rfl, .of hp, at0 .., _, rfl, q, _, _, _, rfl, rfl, .of hq, at1 .., _, _, rfl, rfl, ⟨bx.1, b_y.2⟩, ?_⟩
  refine ⟨_, rfl, p, _, _, _, rfl, rfl, .of hp, at1 .., _, rfl, q, _, _, _, rfl, rfl, .of hq, at0 .., _, _, rfl, rfl, ⟨bx.2, b_y.1⟩, ?_⟩
  refine ⟨_, _, rfl, Int.mul_ne_zero (KM.den_ne x) (fun z => hy0 (Rat.num_eq_zero.mp z)), (hx.2.mul hy.1).mono (by decide), fun r H' e h => k r H' e ?_⟩
  show RatAt H' r (x / y)
  rw [← KM.over_eq]; exact h

end
end KK
section
set_option maxHeartbeats 4000000
set_option Elab.async false
set_option linter.all false
set_option maxRecDepth 100000
namespace KK
open PySem L2
def Pool (H : Hp) (p : Addr) : Prop := ∃ a b c : Int, H p = some (.lst [.int a, .int b, .int c])
structure Step (p : Addr) (H H' : Hp) : Prop where
  pool : Pool H' p
  keep : ∀ b o, H b = some o → b ≠ p → H' b = some o
theorem Step.trans {p : Addr} {H H1 H2 : Hp} (a : Step p H H1) (b : Step p H1 H2) : Step p H H2 := ⟨b.pool, fun c o e n => b.keep c o (a.keep c o e n) n⟩
theorem Step.same {p : Addr} {H H1 H2 : Hp} (a : Step p H H1) (b : Same H1 H2) : Step p H H2 := ⟨by obtain ⟨x, y, z, e⟩ := a.pool; exact ⟨x, y, z, b _ _ e⟩, fun c o e n => b c o (a.keep c o e n)⟩
theorem Step.pre {p : Addr} {H H1 H2 : Hp} (b : Step p H1 H2) (a : Same H H1) : Step p H H2 := ⟨b.pool, fun c o e n => b.keep c o (a c o e) n⟩
theorem Pool.new {H : Hp} {p l : Addr} {o : HO} (h : Pool H p) (hl : H l = none) : Pool (upd H l o) p := by obtain ⟨a, b, c, e⟩ := h; exact ⟨a, b, c, Same.upd hl _ _ e⟩
theorem Pool.ne {H : Hp} {p l : Addr} (h : Pool H p) (hl : H l = none) : l ≠ p := by obtain ⟨a, b, c, e⟩ := h; exact (ne_of_none e hl).symm
theorem Step.refl {p : Addr} {H : Hp} (h : Pool H p) : Step p H H := ⟨h, fun _ _ e _ => e⟩
theorem Step.tup {p a : Addr} {H H' : Hp} {xs : List V} (s : Step p H H') (hp : Pool H p) (h : H a = some (.tup xs)) : H' a = some (.tup xs) := by
  obtain ⟨_, _, _, e⟩ := hp
  exact s.keep a _ h (ne_of h e (by intro z; cases z))
section
variable {P : Program} {w : World} {K : PySem.W.Frag} {mg : Str → Option Value} {base : Heap}
def spDig : Sp := fun vs H Q _ => ∃ c : Int, vs = [.int c] ∧ ∀ p H', H p = none → Same H H' → Pool H' p → Q (.ref p) H'
theorem sc_dig : FnScope ["cell"] ["cell"] (defScope s_law_pool) := ⟨rfl, rfl, rfl, by decide +kernel, rfl, by decide +kernel, by decide +kernel⟩
theorem ok_dig (D : Df K mg "_law_pool" s_law_pool ["cell"] []) (T : TxB K mg) : Cal P w K mg base "_law_pool" 1 ["cell"] [] spDig := by
  refine D.cal (k := 0) sc_dig (fun vs H Q E h => by obtain ⟨a, rfl, _⟩ := h; rfl) (fun f cdv A outer s H vs Q E hr h => ?_)
  obtain ⟨c, rfl, k⟩ := h
  refine ⟨_, pss_one (ps_ret (pe_lst (pa_cons (pe_callB (call_max2 rfl) (by rfl) T.nMax PyProof.Rows.boot_max (pa_cons pe_int (pa_cons (pe_op op_sub (pv 0) (pe_op op_pow pe_int pe_int)) pa_nil))) (pa_cons (pe_op op_mod (pv 0) (pe_op op_pow pe_int pe_int)) (pa_cons pe_int pa_nil))))), ?_⟩
  refine ⟨_, rfl, _, _, rfl, rfl, ⟨by decide, by decide, by decide⟩, _, _, rfl, rfl, _, _, rfl, ?_⟩
  refine ⟨_, rfl, _, _, rfl, rfl, ⟨by decide, by decide, by decide⟩, _, _, rfl, rfl, (by show (0 : Int) < 10 ^ 18; decide), (by show 3 ≤ sizeLine; decide), fun p hp => ?_⟩
  exact k p _ hp (Same.upd hp) ⟨_, _, _, upd_same⟩

def spNext : Sp := fun vs H Q _ => ∃ (p : Addr) (n : Int), vs = [.ref p, .int n] ∧ 0 < n ∧ n < 1073741824 ∧ Pool H p ∧ ∀ (d : Int) H', 0 ≤ d → d < n → Step p H H' → Q (.int d) H'
theorem sc_next : FnScope ["pool", "base", "digit", "mixed", "stir"] ["pool", "base"] (defScope s_law_next) := ⟨rfl, rfl, rfl, by decide +kernel, rfl, by decide +kernel, by decide +kernel⟩
theorem step_set {H : Hp} {p : Addr} {a b c : Int} : Step p H (upd H p (.lst [.int a, .int b, .int c])) := ⟨⟨a, b, c, upd_same⟩, fun d o e n => by rw [upd_ne n]; exact e⟩
theorem ok_next (D : Df K mg "_law_next" s_law_next ["pool", "base"] []) : Cal P w K mg base "_law_next" 1 ["pool", "base"] [] spNext := by
  refine D.cal (k := 0) sc_next (fun vs H Q E h => by obtain ⟨a, b, rfl, _⟩ := h; rfl) (fun f cdv A outer s H vs Q E hr h => ?_)
  obtain ⟨p, n, rfl, n0, n1, ⟨a, b, c, hp⟩, k⟩ := h
  refine ⟨_, pss_cons (ps_if (pt_cmpR op_gt (pe_ix ix_list (pv 0) pe_int (fun _ _ => rfl)) pe_int (nomark _))
      (pss_cons (ps_set (i := 2) sc_next.nd rfl (Or.inl rfl) (pe_op op_mod (pe_ix ix_list (pv 0) pe_int (fun _ _ => rfl)) (pv 1)))
      (pss_cons (ps_asg (pe_op op_fdiv (pe_ix ix_list (pv 0) pe_int (fun _ _ => rfl)) (pv 1)) (pg_sub (pv 0) pe_int set_list))
      (pss_one (ps_ret (pv 2))))) pss_nil)
    (pss_cons (ps_asg (pe_op op_add (pe_ix ix_list (pv 0) pe_int (fun _ _ => rfl)) pe_int) (pg_sub (pv 0) pe_int set_list))
    (pss_cons (ps_set (i := 3) sc_next.nd rfl (Or.inl rfl) (pe_op op_mod (pe_op op_add (pe_ix ix_list (pv 0) pe_int (fun _ _ => rfl)) (pe_op op_mul pe_int (pe_ix ix_list (pv 0) pe_int (fun _ _ => rfl)))) pe_int))
    (pss_cons (ps_set (i := 4) sc_next.nd rfl (Or.inl rfl) (pe_op op_mod (pe_op op_mul (pe_op op_add (pv 3) pe_int) (pe_op op_add (pv 3) pe_int)) pe_int))
    (pss_one (ps_ret (pe_op op_mod (pe_op op_fdiv (pe_op op_mod (pe_op op_mul (pv 4) (pv 4)) pe_int) pe_int) (pv 1))))))), ?_⟩
  refine ⟨_, rfl, p, _, _, _, rfl, rfl, .of hp, rfl, _, _, rfl, rfl, _, rfl, ite2 (fun h => ?_) (fun h => ?_)⟩
  · refine ⟨_, rfl, p, _, _, _, rfl, rfl, .of hp, rfl, _, rfl, _, _, rfl, rfl, n0, ?_⟩
    refine ⟨_, rfl, p, _, _, _, rfl, rfl, .of hp, rfl, _, rfl, _, _, rfl, rfl, ⟨n0, n1⟩, ?_⟩
    refine ⟨_, rfl, p, _, _, 0, rfl, rfl, hp, rfl, ?_⟩
    exact ⟨_, rfl, k _ _ (Int.emod_nonneg _ (by omega)) (Int.emod_lt_of_pos _ n0) step_set⟩
  · refine ⟨_, rfl, p, _, _, _, rfl, rfl, .of hp, rfl, _, _, rfl, rfl, ?_⟩
    refine ⟨_, rfl, p, _, _, 2, rfl, rfl, hp, rfl, ?_⟩
    refine ⟨_, rfl, p, _, _, _, rfl, rfl, .of upd_same, rfl, _, rfl, p, _, _, _, rfl, rfl, .of upd_same, rfl, _, _, rfl, rfl, .inl ⟨by decide, by decide⟩, _, _, rfl, rfl, _, _, rfl, rfl, (by show (0 : Int) < 1000000007; decide), ?_⟩
    refine ⟨_, rfl, _, _, rfl, rfl, _, rfl, _, _, rfl, rfl, _, _, rfl, rfl, .inl (by constructor <;> omega), _, _, rfl, rfl, (by show (0 : Int) < 998244353; decide), ?_⟩
    refine ⟨_, rfl, _, rfl, _, _, rfl, rfl, .inl (by constructor <;> omega), _, _, rfl, rfl, (by show (0 : Int) < 2147483647; decide), _, _, rfl, rfl, ⟨by decide, by decide⟩, _, rfl, _, _, rfl, rfl, n0, ?_⟩
    exact k _ _ (Int.emod_nonneg _ (by omega)) (Int.emod_lt_of_pos _ n0) step_set

end
end KK
end
section
set_option maxHeartbeats 8000000
set_option Elab.async false
set_option linter.all false
set_option maxRecDepth 100000
namespace KK
open PySem L2 KM
theorem vint_dec (i j : Int) : decide (V.int i = V.int j) = decide (i = j) := by
  rw [Bool.eq_iff_iff, decide_eq_true_eq, decide_eq_true_eq]
  exact ⟨fun z => by injection z, fun z => by rw [z]⟩
theorem sc_istup : FnScope ["thing", "many"] ["thing", "many"] (defScope s_is_tuple) := ⟨rfl, rfl, rfl, by decide +kernel, rfl, by decide +kernel, by decide +kernel⟩
def tyD : PyData → Value
  | .none => .type "NoneType"
  | .bool _ => .type "bool"
  | .int _ => .type "int"
  | .str _ => .type "str"
  | .list _ => .type "list"
  | .tuple _ => .type "tuple"
  | .dict _ => .type "dict"
theorem ty_of {K : PySem.W.Frag} {H : Hp} {v : V} {d : PyData} (h : RdD H v d) : TyOf K H v (tyD d) := by
  cases h with
  | non => exact .non
  | bl b => exact .bl b
  | int i => exact .int i
  | str x => exact .str x
  | tup h _ => exact .tup h
  | lst h _ => exact .lst h
  | dic h => exact .dK h
def isIntD : PyData → Bool
  | .int _ => true
  | .bool _ => true
  | _ => false
def isBlD : PyData → Bool
  | .bool _ => true
  | _ => false
def isTuD : PyData → Bool
  | .tuple _ => true
  | _ => false
theorem kt_int (K : PySem.W.Frag) : ∀ d, PySem.W.kitOne K (tyD d) (.type "int") = some (isIntD d)
  | .none => by with_unfolding_all rfl
  | .bool _ => by with_unfolding_all rfl
  | .int _ => if_pos (show (Value.type "int" == Value.type "int") = true by decide +kernel)
  | .str _ => by with_unfolding_all rfl
  | .list _ => by with_unfolding_all rfl
  | .tuple _ => by with_unfolding_all rfl
  | .dict _ => by with_unfolding_all rfl
theorem kt_bool (K : PySem.W.Frag) : ∀ d, PySem.W.kitOne K (tyD d) (.type "bool") = some (isBlD d)
  | .none => by with_unfolding_all rfl
  | .bool _ => if_pos (show (Value.type "bool" == Value.type "bool") = true by decide +kernel)
  | .int _ => by with_unfolding_all rfl
  | .str _ => by with_unfolding_all rfl
  | .list _ => by with_unfolding_all rfl
  | .tuple _ => by with_unfolding_all rfl
  | .dict _ => by with_unfolding_all rfl
theorem kt_tup (K : PySem.W.Frag) : ∀ d, PySem.W.kitOne K (tyD d) (.type "tuple") = some (isTuD d)
  | .none => by with_unfolding_all rfl
  | .bool _ => by with_unfolding_all rfl
  | .int _ => by with_unfolding_all rfl
  | .str _ => by with_unfolding_all rfl
  | .list _ => by with_unfolding_all rfl
  | .tuple _ => if_pos (show (Value.type "tuple" == Value.type "tuple") = true by decide +kernel)
  | .dict _ => by with_unfolding_all rfl
def wholeD : PyData → Bool
  | .int _ => true
  | _ => false
def tupD (n : Int) : PyData → Bool
  | .tuple ds => decide ((ds.length : Int) = n)
  | _ => false
theorem rds_len {H : Hp} : ∀ {xs : List V} {ds : List PyData}, RdDs H xs ds → xs.length = ds.length
  | _, _, .nil => rfl
  | _, _, .cons _ t => by rw [List.length_cons, List.length_cons, rds_len t]
section
variable {P : Program} {w : World} {K : PySem.W.Frag} {mg : Str → Option Value} {base : Heap} {tb tw : Tok} {aN : Addr}
def spD (f : PyData → Bool) : Sp := fun vs H Q _ => ∃ v d, vs = [v] ∧ RdD H v d ∧ Q (.bl (f d)) H
theorem ok_wholeD (D : Df K mg "is_whole" s_is_whole ["thing"] []) (T : TxB K mg) : Cal P w K mg base "is_whole" 1 ["thing"] [] (spD wholeD) := by
  refine D.cal (k := 0) sc_whole (fun vs H Q E h => by obtain ⟨_, _, rfl, _⟩ := h; rfl) (fun f cdv A outer s H vs Q E hr h => ?_)
  obtain ⟨v, d, rfl, hv, k⟩ := h
  refine ⟨_, pss_one (ps_ret (pe_and
    (pe_callB call_isinst rfl T.nIs PyProof.Rows.boot_isinstance (pa_cons (pv 0) (pa_cons (pe_bltn (v := .ty "int") (u := .type "int") rfl T.nInt PyProof.Rows.boot_int rfl) pa_nil)))
    (pe_one (pe_not (pe_callB call_isinst rfl T.nIs PyProof.Rows.boot_isinstance (pa_cons (pv 0) (pa_cons (pe_bltn (v := .ty "bool") (u := .type "bool") rfl T.nBool (by decide +kernel) rfl) pa_nil))))))), ?_⟩
  refine ⟨_, rfl, _, _, _, _, rfl, ty_of hv, kt_int K d, _, rfl, ?_⟩
  refine ite2 (fun h => ?_) (fun h => ?_)
  · refine ⟨_, rfl, _, _, _, _, rfl, ty_of hv, kt_bool K d, _, rfl, ?_⟩
    have : (!isBlD d) = wholeD d := by cases d <;> first | rfl | cases h
    rw [this]; exact k
  · have : wholeD d = false := by cases d <;> first | rfl | (exact absurd rfl h)
    rw [this] at k; exact k
def spTuD : Sp := fun vs H Q _ => ∃ v d n, vs = [v, .int n] ∧ RdD H v d ∧ Q (.bl (tupD n d)) H
theorem ok_tuD (D : Df K mg "is_tuple" s_is_tuple ["thing", "many"] []) (T : TxB K mg) : Cal P w K mg base "is_tuple" 1 ["thing", "many"] [] spTuD := by
  refine D.cal (k := 0) sc_istup (fun vs H Q E h => by obtain ⟨_, _, _, rfl, _⟩ := h; rfl) (fun f cdv A outer s H vs Q E hr h => ?_)
  obtain ⟨v, d, n, rfl, hv, k⟩ := h
  refine ⟨_, (pss_one (ps_ret (pe_and (pe_callB call_isinst (by rfl) T.nIs PyProof.Rows.boot_isinstance (pa_cons (pv 0) (pa_cons (pe_bltn (v := .ty "tuple") (u := .type "tuple") (by rfl) T.nTuple PyProof.Rows.boot_tuple rfl) pa_nil))) (pe_one (pe_cmpR op_eq (pe_callB call_len_seq (by rfl) T.nLen PySem.boot_len (pa_cons (pv 0) pa_nil)) (pv 1) (nomark _)))))), ?_⟩
  refine ⟨_, rfl, _, _, _, _, rfl, ty_of hv, kt_tup K d, _, rfl, ?_⟩
  cases hv with
  | @tup a xs ds ha hs =>
    refine iteT ⟨_, rfl, a, _, rfl, .inr (SqT.of ha), _, rfl, rfl, ?_⟩
    show Q (.bl (decide (V.int (xs.length : Nat) = V.int n))) H
    rw [vint_dec, rds_len hs]; exact k
  | non => exact iteF k
  | bl b => exact iteF k
  | int i => exact iteF k
  | str x => exact iteF k
  | lst h _ => exact iteF k
  | dic h => exact iteF k
end
end KK
end
section
set_option maxHeartbeats 4000000
set_option Elab.async false
set_option linter.all false
set_option maxRecDepth 100000
namespace KK
open PySem L2 KM
theorem pg_tupK {X : Cx} {es : List Expr} {k : Nat} {pos : Pos} {t : TGs} {n : Nat} {K : PySem.W.Frag} (hK : X.K = K) (hc : X.calm = true) (h : PGs X es t)
    (hn : (assignEach es X.env).length = n := by rfl) (hst : (assignEach es X.env).findIdx? (·.1) = none := by rfl) : PG X (.Tuple es k pos) (gTup K n t) := by subst hK; exact pg_tup hc h hn hst
structure TxM (K : PySem.W.Frag) (mg : Str → Option Value) (tw : Tok) (aN : Addr) : Prop where
  nZip : mg "zip" = none
  mw : mg "MOST_WEIGHT" = some (.int 1000 tw)
  mn : mg "NOUGHT" = some (.ref aN)
  kn : KPair K aN 0 1
theorem KPair.sq {K : PySem.W.Frag} {a : Addr} {i j : Int} (h : KPair K a i j) (H : Hp) : SqT K H a [.int i, .int j] := by
  obtain ⟨o, t, u, n, e1, e2, e3⟩ := h
  exact .inr ⟨o, _, n, e1, e2, e3, by show 2 ≤ sizeLine; decide, .cons ⟨_, rfl⟩ (.cons ⟨_, rfl⟩ .nil)⟩
def kick : Option Int → Int → Rat
  | none, _ => Rat.divInt 2 1
  | some x, m => Rat.divInt (2 * x) (x + m)
def vO : Option Int → V
  | none => .non
  | some x => .int x
def dO : Option Int → PyData
  | none => .none
  | some x => .int x
structure OkW (f : Option Int) (m : Int) (l : Option Int) : Prop where
  m0 : 1 ≤ m
  m1 : m ≤ 1000
  hf : ∀ x, f = some x → 1 ≤ x ∧ x ≤ 1000 ∧ x ≤ 100 * m
  hl : ∀ x, l = some x → 1 ≤ x ∧ x ≤ 1000 ∧ x ≤ 100 * m
  ne : f ≠ none ∨ l ≠ none
def cW (f : Option Int) (m : Int) (l : Option Int) : Rat := kick f m * kick l m
section
variable {P : Program} {w : World} {K : PySem.W.Frag} {mg : Str → Option Value} {base : Heap} {tw : Tok} {aN : Addr}
def spBinK (K : PySem.W.Frag) (C : Rat → Rat → Prop) (f : Rat → Rat → Rat) : Sp := fun vs H Q _ => ∃ p q x y, vs = [.ref p, .ref q] ∧ SqT K H p (rp x) ∧ SqT K H q (rp y) ∧ C x y ∧ ∀ r H', Same H H' → RatAt H' r (f x y) → Q (.ref r) H'
theorem nought_sq (h : KPair K aN 0 1) (H : Hp) : SqT K H aN (rp 0) := KPair.sq h H
theorem sc_minus : FnScope ["one", "other"] ["one", "other"] (defScope s_minus) := ⟨rfl, rfl, rfl, by decide +kernel, rfl, by decide +kernel, by decide +kernel⟩
theorem ok_minus (D : Df K mg "minus" s_minus ["one", "other"] []) (c : Cal P w K mg base "ratio" 2 ["top", "bottom"] [] spLow) : Cal P w K mg base "minus" 3 ["one", "other"] [] (spBinK K Sz2 (· - ·)) := by
  refine D.cal (k := 2) sc_minus (fun vs H Q E h => by obtain ⟨_, _, _, _, rfl, _⟩ := h; rfl) (fun f cdv A outer s H vs Q E hr h => ?_)
  obtain ⟨p, q, x, y, rfl, hp, hq, ⟨hx, hy⟩, k⟩ := h
  have bx := Bd4 hx
  have b_y := Bd4 hy
  refine ⟨_, (pss_one (ps_ret (pe_c c hr (pa_cons (pe_op op_sub (pe_op op_mulB (pe_ix ix_tup (pv 0) pe_int (fun _ _ => rfl)) (pe_ix ix_tup (pv 1) pe_int (fun _ _ => rfl))) (pe_op op_mulB (pe_ix ix_tup (pv 1) pe_int (fun _ _ => rfl)) (pe_ix ix_tup (pv 0) pe_int (fun _ _ => rfl)))) (pa_cons (pe_op op_mulB (pe_ix ix_tup (pv 0) pe_int (fun _ _ => rfl)) (pe_ix ix_tup (pv 1) pe_int (fun _ _ => rfl))) pa_nil))))), ?_⟩
  refine ⟨_, rfl, p, _, _, _, rfl, rfl, hp, at0 .., _, rfl, q, _, _, _, rfl, rfl, hq, at1 .., _, _, rfl, rfl, ⟨bx.1, b_y.2⟩, _, rfl, q, _, _, _, rfl, rfl, hq, at0 .., _, rfl, p, _, _, _, rfl, rfl, hp, at1 .., _, _, rfl, rfl, ⟨b_y.1, bx.2⟩, _, _, rfl, rfl, ?_⟩
  refine ⟨_, rfl, p, _, _, _, rfl, rfl, hp, at1 .., _, rfl, q, _, _, _, rfl, rfl, hq, at1 .., _, _, rfl, rfl, ⟨bx.2, b_y.2⟩, ?_⟩
  refine ⟨_, _, rfl, Int.mul_ne_zero (den_ne x) (den_ne y), (hx.2.mul hy.2).mono (by decide), fun r H' e h => k r H' e ?_⟩
  show RatAt H' r (x - y)
  rw [← KM.minus_eq]; exact h
def spLtK (K : PySem.W.Frag) : Sp := fun vs H Q _ => ∃ p q x y, vs = [.ref p, .ref q] ∧ SqT K H p (rp x) ∧ SqT K H q (rp y) ∧ Sz2 x y ∧ Q (.bl (decide (x < y))) H
theorem less_rat (x y : Rat) : decide (x.num * (y.den : Int) < y.num * (x.den : Int)) = decide (x < y) := by
  by_cases h : x < y
  · rw [decide_eq_true h, decide_eq_true ((KM.less_iff x y).mpr h)]
  · rw [decide_eq_false h, decide_eq_false fun z => h ((KM.less_iff x y).mp z)]
theorem sc_less : FnScope ["one", "other"] ["one", "other"] (defScope s_less) := ⟨rfl, rfl, rfl, by decide +kernel, rfl, by decide +kernel, by decide +kernel⟩
theorem ok_less (D : Df K mg "less" s_less ["one", "other"] []) : Cal P w K mg base "less" 1 ["one", "other"] [] (spLtK K) := by
  refine D.cal (k := 0) sc_less (fun vs H Q E h => by obtain ⟨_, _, _, _, rfl, _⟩ := h; rfl) (fun f cdv A outer s H vs Q E hr h => ?_)
  obtain ⟨p, q, x, y, rfl, hp, hq, ⟨hx, hy⟩, k⟩ := h
  have bx := Bd4 hx
  have b_y := Bd4 hy
  refine ⟨_, (pss_one (ps_ret (pe_cmpR op_lt (pe_op op_mulB (pe_ix ix_tup (pv 0) pe_int (fun _ _ => rfl)) (pe_ix ix_tup (pv 1) pe_int (fun _ _ => rfl))) (pe_op op_mulB (pe_ix ix_tup (pv 1) pe_int (fun _ _ => rfl)) (pe_ix ix_tup (pv 0) pe_int (fun _ _ => rfl))) (nomark _)))), ?_⟩
  refine ⟨_, rfl, p, _, _, _, rfl, rfl, hp, at0 .., _, rfl, q, _, _, _, rfl, rfl, hq, at1 .., _, _, rfl, rfl, ⟨bx.1, b_y.2⟩, _, rfl, q, _, _, _, rfl, rfl, hq, at0 .., _, rfl, p, _, _, _, rfl, rfl, hp, at1 .., _, _, rfl, rfl, ⟨b_y.1, bx.2⟩, _, _, rfl, rfl, ?_⟩
  show Q (.bl (decide (x.num * (y.den : Int) < y.num * (x.den : Int)))) H
  rw [less_rat]; exact k
def spFl : Sp := fun vs H Q _ => ∃ p x, vs = [.ref p] ∧ RatAt H p x ∧ Bd 8900 (x.den : Int) ∧ Q (.int (x.num.fdiv (x.den : Int))) H
theorem sc_fl : FnScope ["one"] ["one"] (defScope s_floor_of) := ⟨rfl, rfl, rfl, by decide +kernel, rfl, by decide +kernel, by decide +kernel⟩
theorem ok_fl (D : Df K mg "floor_of" s_floor_of ["one"] []) : Cal P w K mg base "floor_of" 1 ["one"] [] spFl := by
  refine D.cal (k := 0) sc_fl (fun vs H Q E h => by obtain ⟨_, _, rfl, _⟩ := h; rfl) (fun f cdv A outer s H vs Q E hr h => ?_)
  obtain ⟨p, x, rfl, hp, hx, k⟩ := h
  refine ⟨_, (pss_one (ps_ret (pe_op op_fdivB (pe_ix ix_tup (pv 0) pe_int (fun _ _ => rfl)) (pe_ix ix_tup (pv 0) pe_int (fun _ _ => rfl))))), ?_⟩
  exact ⟨_, rfl, p, _, _, _, rfl, rfl, .of hp, at0 .., _, rfl, p, _, _, _, rfl, rfl, .of hp, at1 .., _, _, rfl, rfl, ⟨den_ne x, hx⟩, k⟩
def wtD : PyData → Bool
  | .int n => decide (1 ≤ n) && decide (n ≤ 1000)
  | _ => false
def isNo : PyData → Bool
  | .none => true
  | _ => false
def areD : PyData → Bool
  | .tuple [x, y, z] => wtD y && (if isNo x = true then wtD z else wtD x && (isNo z || wtD z))
  | _ => false
theorem sc_iw : FnScope ["thing"] ["thing"] (defScope s_is_weight) := ⟨rfl, rfl, rfl, by decide +kernel, rfl, by decide +kernel, by decide +kernel⟩
theorem ok_iw (D : Df K mg "is_weight" s_is_weight ["thing"] []) (TM : TxM K mg tw aN) (cW : Cal P w K mg base "is_whole" 1 ["thing"] [] (spD wholeD)) : Cal P w K mg base "is_weight" 2 ["thing"] [] (spD wtD) := by
  refine D.cal (k := 1) sc_iw (fun vs H Q E h => by obtain ⟨_, _, rfl, _⟩ := h; rfl) (fun f cdv A outer s H vs Q E hr h => ?_)
  obtain ⟨v, d, rfl, hv, k⟩ := h
  refine ⟨_, (pss_one (ps_ret (pe_and (pe_c cW hr (pa_cons (pv 0) pa_nil)) (pe_one (pe_chain op_le op_le pe_int (pv 0) (pe_glob (v := .int 1000) (by rfl) TM.mw ⟨_, rfl⟩)))))), ?_⟩
  refine ⟨_, rfl, v, d, rfl, hv, _, rfl, ?_⟩
  cases hv with
  | int i =>
    refine iteT ⟨_, rfl, _, _, rfl, rfl, _, rfl, ite2 (fun h => ?_) (fun h => ?_)⟩
    · refine ⟨_, _, rfl, rfl, ?_⟩
      have e : wtD (.int i) = decide (i ≤ 1000) := by show (decide (1 ≤ i) && decide (i ≤ 1000)) = _; rw [h, Bool.true_and]
      rw [e] at k; exact k
    · have e : wtD (.int i) = false := by
        show (decide (1 ≤ i) && decide (i ≤ 1000)) = _
        rw [show decide (1 ≤ i) = false from Bool.not_eq_true _ ▸ h, Bool.false_and]
      rw [e] at k
      exact k
  | non => exact iteF k
  | bl b => exact iteF k
  | str x => exact iteF k
  | tup h _ => exact iteF k
  | lst h _ => exact iteF k
  | dic h => exact iteF k
theorem sc_aw : FnScope ["thing"] ["thing"] (defScope s_are_weights) := ⟨rfl, rfl, rfl, by decide +kernel, rfl, by decide +kernel, by decide +kernel⟩
theorem areD_no {d : PyData} (h : tupD 3 d = false) : areD d = false := by
  unfold areD; split
  · exact absurd h (by intro z; cases z)
  · rfl
theorem vis_none {H : Hp} {v : V} {d : PyData} (h : RdD H v d) : decide (v = .non) = isNo d := by cases h <;> rfl
theorem ok_aw (D : Df K mg "are_weights" s_are_weights ["thing"] []) (cTu : Cal P w K mg base "is_tuple" 1 ["thing", "many"] [] spTuD) (cIw : Cal P w K mg base "is_weight" 2 ["thing"] [] (spD wtD)) : Cal P w K mg base "are_weights" 3 ["thing"] [] (spD areD) := by
  refine D.cal (k := 2) sc_aw (fun vs H Q E h => by obtain ⟨_, _, rfl, _⟩ := h; rfl) (fun f cdv A outer s H vs Q E hr h => ?_)
  obtain ⟨v, d, rfl, hv, k⟩ := h
  have hr1 : Room 1 _ := hr.mono (by decide)
  refine ⟨_, (pss_cons (ps_if ((pw_or (pt_not (pt_truth (pe_c cTu hr1 (pa_cons (pv 0) (pa_cons pe_int pa_nil))) fun _ => rfl)) (pw_or1 (pt_not (pt_truth (pe_c cIw hr (pa_cons (pe_ix ix_tup (pv 0) pe_int (fun _ _ => rfl)) pa_nil)) fun _ => rfl))))).pt (pss_one (ps_ret pe_bl)) pss_nil)
    (pss_cons (ps_if (pt_cmpR op_isN (pe_ix ix_tup (pv 0) pe_int (fun _ _ => rfl)) pe_non (nomark _)) (pss_one (ps_ret (pe_c cIw hr (pa_cons (pe_ix ix_tup (pv 0) pe_int (fun _ _ => rfl)) pa_nil)))) pss_nil)
    (pss_one (ps_ret (pe_and (pe_c cIw hr (pa_cons (pe_ix ix_tup (pv 0) pe_int (fun _ _ => rfl)) pa_nil)) (pe_one (pe_or (pe_cmpR op_isN (pe_ix ix_tup (pv 0) pe_int (fun _ _ => rfl)) pe_non (nomark _)) (pe_one (pe_c cIw hr (pa_cons (pe_ix ix_tup (pv 0) pe_int (fun _ _ => rfl)) pa_nil)))))))))), ?_⟩
  refine ⟨_, rfl, v, d, 3, rfl, hv, _, rfl, ?_⟩
  cases hc : tupD 3 d with
  | false => rw [areD_no hc] at k; exact iteT (iteT k)
  | true =>
    cases hv with
    | @tup a xs ds ha hs =>
      have hl : ds.length = 3 := by have := of_decide_eq_true hc; omega
      match ds, hl with
      | [d1, d2, d3], _ =>
      cases hs with
      | @cons x1 _ _ _ h1 hs =>
      cases hs with
      | @cons x2 _ _ _ h2 hs =>
      cases hs with
      | @cons x3 _ _ _ h3 hs =>
      cases hs
      have e : areD (.tuple [d1, d2, d3]) = (wtD d2 && (if isNo d1 = true then wtD d3 else wtD d1 && (isNo d3 || wtD d3))) := rfl
      rw [e] at k
      refine iteF ⟨_, rfl, a, _, _, _, rfl, rfl, .of ha, rfl, x2, d2, rfl, h2, _, rfl, ?_⟩
      cases c2 : wtD d2 with
      | false => rw [c2, Bool.false_and] at k; exact iteT k
      | true =>
        rw [c2, Bool.true_and] at k
        refine iteF ⟨_, rfl, a, _, _, _, rfl, rfl, .of ha, rfl, ?_⟩
        refine ⟨rfl, _, rfl, ?_⟩
        rw [vis_none h1]
        cases c1 : isNo d1 with
        | true => rw [c1, if_pos rfl] at k; exact iteT ⟨_, rfl, a, _, _, _, rfl, rfl, .of ha, rfl, x3, d3, rfl, h3, k⟩
        | false =>
          rw [c1, if_neg (by decide)] at k
          refine iteF ⟨_, rfl, a, _, _, _, rfl, rfl, .of ha, rfl, x1, d1, rfl, h1, _, rfl, ?_⟩
          cases c4 : wtD d1 with
          | false => rw [c4, Bool.false_and] at k; exact iteF k
          | true =>
            rw [c4, Bool.true_and] at k
            refine iteT ⟨_, rfl, a, _, _, _, rfl, rfl, .of ha, rfl, rfl, _, rfl, ?_⟩
            rw [vis_none h3]
            cases c3 : isNo d3 with
            | true => rw [c3, Bool.true_or] at k; exact iteT k
            | false => rw [c3, Bool.false_or] at k; exact iteF ⟨_, rfl, a, _, _, _, rfl, rfl, .of ha, rfl, x3, d3, rfl, h3, k⟩
    | non => cases hc
    | bl b => cases hc
    | int i => cases hc
    | str x => cases hc
    | lst h _ => cases hc
    | dic h => cases hc
def spRe : Sp := fun vs H Q _ => ∃ v d, vs = [v] ∧ RdD H v d ∧ areD d = true ∧ Q .non H
theorem sc_re : FnScope ["weights"] ["weights"] (defScope s_refuse_no_weights) := ⟨rfl, rfl, rfl, by decide +kernel, rfl, by decide +kernel, by decide +kernel⟩
theorem ok_re (D : Df K mg "refuse_no_weights" s_refuse_no_weights ["weights"] []) (cA : Cal P w K mg base "are_weights" 3 ["thing"] [] (spD areD)) : Cal P w K mg base "refuse_no_weights" 4 ["weights"] [] spRe := by
  refine D.cal (k := 3) sc_re (fun vs H Q E h => by obtain ⟨_, _, rfl, _⟩ := h; rfl) (fun f cdv A outer s H vs Q E hr h => ?_)
  obtain ⟨v, d, rfl, hv, hd, k⟩ := h
  refine ⟨_, (pss_one (ps_if (pt_not (pt_truth (pe_c cA hr (pa_cons (pv 0) pa_nil)) fun _ => rfl)) (pss_one ps_never) pss_nil)), ?_⟩
  exact ⟨_, rfl, v, d, rfl, hv, _, rfl, by rw [hd]; exact iteF k⟩
def spKick : Sp := fun vs H Q _ => ∃ o m, vs = [vO o, .int m] ∧ 1 ≤ m ∧ m ≤ 1000 ∧ (∀ x, o = some x → 1 ≤ x ∧ x ≤ 1000) ∧ ∀ r H', Same H H' → RatAt H' r (kick o m) → Q (.ref r) H'
theorem sc_ki : FnScope ["outer", "middle"] ["outer", "middle"] (defScope s_kick_of) := ⟨rfl, rfl, rfl, by decide +kernel, rfl, by decide +kernel, by decide +kernel⟩
theorem bdn {n : Nat} {i : Int} (h0 : 0 ≤ i) (h1 : i < 2 ^ n) : Bd n i := by
  unfold Bd
  have : ((2 ^ n : Nat) : Int) = (2 : Int) ^ n := by push_cast; rfl
  omega
theorem ok_ki (D : Df K mg "kick_of" s_kick_of ["outer", "middle"] []) (cR : Cal P w K mg base "ratio" 2 ["top", "bottom"] [] spLow) (cR1 : Cal P w K mg base "ratio" 2 ["top", "bottom"] [.int 1] spLow) : Cal P w K mg base "kick_of" 3 ["outer", "middle"] [] spKick := by
  refine D.cal (k := 2) sc_ki (fun vs H Q E h => by obtain ⟨_, _, rfl, _⟩ := h; rfl) (fun f cdv A outer s H vs Q E hr h => ?_)
  obtain ⟨o, m, rfl, m0, m1, ho, k⟩ := h
  refine ⟨_, (pss_cons (ps_if (pt_cmpR op_isN (pv 0) pe_non (nomark _)) (pss_one (ps_ret (pe_c cR1 hr (pa_cons pe_int pa_nil)))) pss_nil)
    (pss_one (ps_ret (pe_c cR hr (pa_cons (pe_op op_mulB pe_int (pv 0)) (pa_cons (pe_op op_add (pv 0) (pv 1)) pa_nil)))))), ?_⟩
  cases o with
  | none =>
    refine ⟨_, rfl, rfl, _, rfl, iteT ⟨_, _, rfl, by decide, Bd.mono (m := 2) (bdn (by decide) (by decide)) (by decide), fun r H' e h => k r H' e h⟩⟩
  | some x =>
    obtain ⟨x0, x1⟩ := ho x rfl
    refine ⟨_, rfl, rfl, _, rfl, iteF ⟨_, rfl, _, _, rfl, rfl, ⟨Bd.mono (m := 8) (bdn (by decide) (by decide)) (by decide), Bd.mono (m := 12) (bdn (by omega) (by omega)) (by decide)⟩, ?_⟩⟩
    refine ⟨_, rfl, _, rfl, _, _, rfl, rfl, _, _, rfl, ?_, Bd.mono (m := 12) (bdn (by omega) (by omega)) (by decide), fun r H' e h => k r H' e h⟩
    show x + m ≠ 0
    omega
end
end KK
end
section
set_option maxHeartbeats 4000000
set_option Elab.async false
set_option linter.all false
set_option maxRecDepth 100000
namespace KK
open PySem L2 KM
theorem ab_bd {p q : Int} (hp : Bd 24 p) (hq : Bd 24 q) : ∀ j : Nat, Bd (26 * j + 1) (ab p q j).1 ∧ Bd (26 * j + 1) (ab p q j).2
  | 0 => ⟨by show (1 : Int).natAbs < 2 ^ 1; decide, by show (1 : Int).natAbs < 2 ^ 1; decide⟩
  | j + 1 => by
    obtain ⟨h1, h2⟩ := ab_bd hp hq j
    have a := (hp.mul h2).sub (hq.mul h1)
    have b := a.sub (hq.mul h2)
    exact ⟨a.mono (by omega), b.mono (by omega)⟩
theorem pow_bd {q : Int} (hq : Bd 24 q) : ∀ j : Nat, Bd (24 * j + 1) (q ^ j)
  | 0 => by show ((q ^ 0 : Int)).natAbs < 2 ^ 1; rw [Int.pow_zero]; decide
  | j + 1 => by rw [Int.pow_succ]; exact ((pow_bd hq j).mul hq).mono (by omega)
theorem nm_sz {c : Rat} (h : Sz 24 c) (i : Nat) (hi : i ≤ 40) : Sz 2000 (nm c i) := by
  have e : c = Rat.divInt c.num (c.den : Int) := (Rat.num_divInt_den c).symm
  have hd := den_ne c
  obtain ⟨j, hj⟩ : ∃ j, i = 2 * j ∨ i = 2 * j + 1 := ⟨i / 2, by omega⟩
  have ha := ab_bd h.1 h.2 j
  have hp := pow_bd h.2 j
  rcases hj with rfl | rfl
  · rw [e, (nm_ab hd j).1]
    exact .divInt (pow_ne hd j) (ha.1.mono (by omega)) (hp.mono (by omega))
  · rw [e, (nm_ab hd j).2]
    exact .divInt (pow_ne hd j) (ha.2.mono (by omega)) (hp.mono (by omega))
theorem kick_sz {o : Option Int} {m : Int} (m0 : 1 ≤ m) (m1 : m ≤ 1000) (h : ∀ x, o = some x → 1 ≤ x ∧ x ≤ 1000) : Sz 12 (kick o m) := by
  cases o with
  | none => exact .divInt (by decide) (Bd.mono (m := 2) (bdn (by decide) (by decide)) (by decide)) (Bd.mono (m := 2) (bdn (by decide) (by decide)) (by decide))
  | some x =>
    obtain ⟨x0, x1⟩ := h x rfl
    exact .divInt (by omega) (bdn (by omega) (by omega)) (bdn (by omega) (by omega))
theorem kick_pos {o : Option Int} {m : Int} (m0 : 1 ≤ m) (h : ∀ x, o = some x → 1 ≤ x) : 0 < kick o m := by
  cases o with
  | none => exact (divInt_pos (by decide)).mpr (by decide)
  | some x => have := h x rfl; exact (divInt_pos (by omega)).mpr (by omega)
theorem OkW.f1 {f : Option Int} {m : Int} {l : Option Int} (h : OkW f m l) : ∀ x, f = some x → 1 ≤ x ∧ x ≤ 1000 := fun x e => ⟨(h.hf x e).1, (h.hf x e).2.1⟩
theorem OkW.l1 {f : Option Int} {m : Int} {l : Option Int} (h : OkW f m l) : ∀ x, l = some x → 1 ≤ x ∧ x ≤ 1000 := fun x e => ⟨(h.hl x e).1, (h.hl x e).2.1⟩
theorem OkW.csz {f : Option Int} {m : Int} {l : Option Int} (h : OkW f m l) : Sz 24 (cW f m l) := (kick_sz h.m0 h.m1 h.f1).mul (kick_sz h.m0 h.m1 h.l1)
theorem RatAt.tups {H H' : Hp} {r : Addr} {q : Rat} (h : RatAt H r q) (e : TupS H H') : RatAt H' r q := e _ _ h
def NumsAt (H : Hp) (ps : List V) (c : Rat) (k : Nat) : Prop := ps.length = k ∧ ∀ i, i < k → ∃ r, ps[i]? = some (.ref r) ∧ RatAt H r (nm c i)
theorem NumsAt.tups {H H' : Hp} {ps : List V} {c : Rat} {k : Nat} (h : NumsAt H ps c k) (e : TupS H H') : NumsAt H' ps c k := ⟨h.1, fun i hi => let ⟨r, a, b⟩ := h.2 i hi; ⟨r, a, e _ _ b⟩⟩
theorem NumsAt.snoc {H : Hp} {ps : List V} {c : Rat} {k : Nat} {r : Addr} (h : NumsAt H ps c k) (e : RatAt H r (nm c k)) : NumsAt H (ps ++ [.ref r]) c (k + 1) := by
  refine ⟨by simp [h.1], fun i hi => ?_⟩
  by_cases z : i < k
  · obtain ⟨r', a, b⟩ := h.2 i z
    exact ⟨r', by rw [List.getElem?_append_left (by rw [h.1]; exact z)]; exact a, b⟩
  · have : i = k := by omega
    subst this
    exact ⟨r, by rw [List.getElem?_append_right (by rw [h.1]; exact Nat.le_refl _), h.1]; simp, e⟩
theorem NumsAt.back {H : Hp} {ps : List V} {c : Rat} {k : Nat} (h : NumsAt H ps c k) {j : Nat} (h1 : 1 ≤ j) (h2 : j ≤ k) : ∃ r, atI ps (-(j : Int)) = some (.ref r) ∧ RatAt H r (nm c (k - j)) := by
  obtain ⟨r, a, b⟩ := h.2 (k - j) (by omega)
  exact ⟨r, atI_neg h1 (by rw [h.1]; exact h2) (by rw [h.1]; exact a), b⟩
theorem gr_even {c : Rat} {k : Nat} (h : (k : Int) % 2 = 0) : gr c k = c := if_pos (by omega)
theorem gr_odd {c : Rat} {k : Nat} (h : ¬ (k : Int) % 2 = 0) : gr c k = 1 := if_neg (by omega)
section
variable {P : Program} {w : World} {K : PySem.W.Frag} {mg : Str → Option Value} {base : Heap} {tw : Tok} {aN : Addr}
def spNums : Sp := fun vs H Q _ => ∃ a f m l n, vs = [.ref a] ∧ H a = some (.tup [vO f, .int m, vO l]) ∧ OkW f m l ∧ Cnt (cW f m l) n ∧ n ≤ 31 ∧ ∀ p ps H', H p = none → Same H H' → H' p = some (.lst ps) → NumsAt H' ps (cW f m l) (n + 1) → Q (.ref p) H'
theorem sc_nu : FnScope ["weights", "first", "middle", "last", "both", "numbers", "grown"] ["weights"] (defScope s_numbers_of) := ⟨rfl, rfl, rfl, by decide +kernel, rfl, by decide +kernel, by decide +kernel⟩
theorem ok_nu (D : Df K mg "numbers_of" s_numbers_of ["weights"] []) (T : TxB K mg) (TM : TxM K mg tw aN) (cT : Cal P w K mg base "times" 3 ["one", "other"] [] (spBin Sz2 (· * ·))) (cK : Cal P w K mg base "kick_of" 3 ["outer", "middle"] [] spKick)
    (cR1 : Cal P w K mg base "ratio" 2 ["top", "bottom"] [.int 1] spLow) (cL : Cal P w K mg base "less" 1 ["one", "other"] [] (spLtK K)) (cM : Cal P w K mg base "minus" 3 ["one", "other"] [] (spBinK K Sz2 (· - ·))) : Cal P w K mg base "numbers_of" 4 ["weights"] [] spNums := by
  refine D.cal (k := 3) sc_nu (fun vs H Q E h => by obtain ⟨_, _, _, _, _, rfl, _⟩ := h; rfl) (fun f0 cdv A outer s H vs Q E hr h => ?_)
  obtain ⟨a, f, m, l, n, rfl, ha, W, C, hn, k⟩ := h
  have hr1 : Room 1 _ := hr.mono (by decide)
  have hr2 : Room 2 _ := hr.mono (by decide)
  have hcz := W.csz
  have n2 := C.two
  obtain ⟨c, ec⟩ : ∃ c, c = cW f m l := ⟨_, rfl⟩
  refine ⟨_, (pss_cons (ps_asg (pv 0) (pg_tup rfl (pgs_cons (pg_name (i := 1) sc_nu.nd rfl (Or.inl rfl)) (pgs_cons (pg_name (i := 2) sc_nu.nd rfl (Or.inl rfl)) (pgs_cons (pg_name (i := 3) sc_nu.nd rfl (Or.inl rfl)) pgs_nil)))))
    (pss_cons (ps_set (i := 4) sc_nu.nd rfl (Or.inl rfl) (pe_c cT hr (pa_cons (pe_c cK hr (pa_cons (pv 1) (pa_cons (pv 2) pa_nil))) (pa_cons (pe_c cK hr (pa_cons (pv 3) (pa_cons (pv 2) pa_nil))) pa_nil))))
    (pss_cons (ps_set (i := 5) sc_nu.nd rfl (Or.inl rfl) (pe_lst (pa_cons (pe_c cR1 hr2 (pa_cons pe_int pa_nil)) (pa_cons (pe_c cR1 hr2 (pa_cons pe_int pa_nil)) pa_nil))))
    (pss_cons (ps_while PassesOwn.never (pt_truth (pe_c cL hr1 (pa_cons (pe_glob (v := .ref aN) (by rfl) TM.mn rfl) (pa_cons (pe_ix ix_list (pv 5) (pe_un un_neg pe_int) (fun _ _ => rfl)) pa_nil))) fun _ => rfl) (pss_cons (ps_set (i := 6) sc_nu.nd rfl (Or.inl rfl) (pe_ifExp (pt_cmpR op_eq (pe_op op_mod (pe_callB call_len_seq (by rfl) T.nLen PySem.boot_len (pa_cons (pv 5) pa_nil)) pe_int) pe_int (nomark _)) (pe_c cT hr (pa_cons (pe_ix ix_list (pv 5) (pe_un un_neg pe_int) (fun _ _ => rfl)) (pa_cons (pv 4) pa_nil))) (pe_ix ix_list (pv 5) (pe_un un_neg pe_int) (fun _ _ => rfl))))
    (pss_one (ps_expr (pe_bm PySem.F.plainAttrs_list PySem.F.slot_list_append PySem.F.type_list_append mt_append (pv 5) (pa_cons (pe_c cM hr (pa_cons (pv 6) (pa_cons (pe_ix ix_list (pv 5) (pe_un un_neg pe_int) (fun _ _ => rfl)) pa_nil))) pa_nil))))))
    (pss_one (ps_ret (pv 5))))))), ?_⟩
  refine ⟨_, rfl, a, _, rfl, .of ha, rfl, _, _, rfl, _, _, rfl, _, _, rfl, rfl, ?_⟩
  refine ⟨_, rfl, _, rfl, f, m, rfl, W.m0, W.m1, W.f1, fun r1 H1 e1 hk1 => ?_⟩
  refine ⟨_, rfl, _, rfl, l, m, rfl, W.m0, W.m1, W.l1, fun r2 H2 e2 hk2 => ?_⟩
  refine ⟨r1, r2, _, _, rfl, hk1.same e2, hk2, ⟨(kick_sz W.m0 W.m1 W.f1).mono (by decide), (kick_sz W.m0 W.m1 W.l1).mono (by decide)⟩, fun rB H3 e3 hB => ?_⟩
  replace hB : RatAt H3 rB c := by rw [ec]; exact hB
  rw [← ec] at C hcz k
  refine ⟨_, _, rfl, by decide, Bd.mono (m := 2) (bdn (by decide) (by decide)) (by decide), fun q1 H4 e4 h1 => ?_⟩
  refine ⟨_, _, rfl, by decide, Bd.mono (m := 2) (bdn (by decide) (by decide)) (by decide), fun q2 H5 e5 h2 => ?_⟩
  refine ⟨by show 2 ≤ sizeLine; decide, fun p hp => ?_⟩
  have S5 : Same H H5 := e1.trans (e2.trans (e3.trans (e4.trans e5)))
  have hpH : H p = none := by
    cases hh : H p with
    | none => rfl
    | some o => rw [S5 _ _ hh] at hp; cases hp
  have one : Rat.divInt 1 1 = (1 : Rat) := by decide +kernel
  dsimp only [gName]
  refine st_while ?_
  refine while_by (fun σ G => ∃ kk ps z, σ = [some (.ref a), some (vO f), some (.int m), some (vO l), some (.ref rB), some (.ref p), z] ∧ 2 ≤ kk ∧ kk ≤ n + 1 ∧ G p = some (.lst ps) ∧ NumsAt G ps c kk ∧ RatAt G rB c ∧ Same H G)
    (fun σ G => match G p with | some (.lst ps) => n + 1 - ps.length | _ => 0) ⟨2, [.ref q1, .ref q2], none, rfl, Nat.le_refl _, by omega, upd_same, ⟨rfl, fun i hi => ?_⟩, (hB.same (e4.trans e5)).same (Same.upd hp), fun b o z => ?_⟩ ?_ ?_
  · have : i = 0 ∨ i = 1 := by omega
    rcases this with rfl | rfl
    · exact ⟨q1, rfl, Same.upd hp _ _ (e5 _ _ (by rw [nm_zero, ← one]; exact h1))⟩
    · exact ⟨q2, rfl, Same.upd hp _ _ (by rw [nm_one, ← one]; exact h2)⟩
  · exact Same.upd hp _ _ (S5 _ _ z)
  · rintro σ G ⟨kk, ps, z, rfl, k2, k3, hps, hN, hB', hS⟩
    obtain ⟨rl, al, hl⟩ := hN.back (j := 1) (by decide) (by omega)
    obtain ⟨rm, am, hm⟩ := hN.back (j := 2) (by decide) (by omega)
    have zl := nm_sz hcz (kk - 1) (by omega)
    have zm := nm_sz hcz (kk - 2) (by omega)
    refine ⟨_, rfl, _, rfl, p, _, _, _, rfl, rfl, .of hps, al, aN, rl, _, _, rfl, nought_sq TM.kn G, .of hl, ⟨⟨Bd.mono (m := 1) (show (0 : Int).natAbs < 2 ^ 1 by decide) (by decide), Bd.mono (m := 1) (show (1 : Int).natAbs < 2 ^ 1 by decide) (by decide)⟩, zl.mono (by decide)⟩, _, rfl, ite2 (fun h => ?_) (fun h => ?_)⟩
    · have hpos : 0 < nm c (kk - 1) := of_decide_eq_true h
      have hlt : kk - 1 ≠ n := fun e => by rw [e] at hpos; have := C.2; grind
      have next : nm c kk = nm c (kk - 1) * gr c (kk - 2) - nm c (kk - 2) := by
        have := nm_two c (kk - 2)
        rw [show kk - 2 + 2 = kk by omega, show kk - 2 + 1 = kk - 1 by omega] at this; exact this
      have tl : ((ps.length : Nat) : Int) % 2 = 0 ↔ ((kk - 2 : Nat) : Int) % 2 = 0 := by rw [hN.1]; omega
      refine ⟨_, rfl, p, _, rfl, .inl (.of hps), _, _, rfl, rfl, (by show (0 : Int) < 2; decide), rfl, _, rfl, ite2 (fun h2 => ?_) (fun h2 => ?_)⟩
      · refine ⟨_, rfl, _, rfl, p, _, _, _, rfl, rfl, .of hps, al, _, rfl, rl, rB, _, _, rfl, hl, hB', ⟨zl.mono (by decide), hcz.mono (by decide)⟩, fun rg G1 eG hg => ?_⟩
        have hev : ((ps.length : Nat) : Int) % 2 = 0 := by have z := of_decide_eq_true h2; injection z
        have szg : Sz 4000 (nm c (kk - 1) * c) := (zl.mul hcz).mono (by decide)
        refine ⟨_, rfl, .inl ⟨rfl, _, SqL.of (eG _ _ hps)⟩, _, rfl, _, rfl, _, rfl, p, _, _, _, rfl, rfl, .of (eG _ _ hps), am, rg, rm, _, _, rfl, .of hg, .of (eG _ _ hm), ⟨szg, zm.mono (by decide)⟩, fun rn G2 e2 hn2 => ?_⟩
        refine ⟨p, ps, _, rfl, rfl, e2 _ _ (eG _ _ hps), ?_, ?_⟩
        · exact small1000 (by rw [hN.1]; omega)
        · have T2 : TupS G (upd G2 p (.lst (ps ++ [.ref rn]))) := (TupS.of (eG.trans e2)).trans (.upd (e2 _ _ (eG _ _ hps)))
          refine ⟨⟨kk + 1, _, _, rfl, by omega, by omega, upd_same, (hN.tups T2).snoc (by rw [next, gr_even (tl.mp hev)]; exact RatAt.tups hn2 (.upd (e2 _ _ (eG _ _ hps)))), T2 _ _ hB', fun b o zz => ?_⟩, ?_⟩
          · have hb : b ≠ p := fun z => by rw [z, hpH] at zz; cases zz
            rw [upd_ne hb]; exact e2 _ _ (eG _ _ (hS _ _ zz))
          · show (match upd G2 p (.lst (ps ++ [.ref rn])) p with | some (.lst ps) => n + 1 - ps.length | _ => 0) < (match G p with | some (.lst ps) => n + 1 - ps.length | _ => 0)
            rw [upd_same, hps]
            show n + 1 - (ps ++ [V.ref rn]).length < n + 1 - ps.length
            rw [List.length_append, hN.1]
            show n + 1 - (kk + 1) < n + 1 - kk
            omega
      · refine ⟨_, rfl, _, rfl, p, _, _, _, rfl, rfl, .of hps, al, ?_⟩
        have hodd : ¬ ((ps.length : Nat) : Int) % 2 = 0 := fun z => h2 (decide_eq_true (congrArg V.int z))
        have eG : Same G G := Same.refl _
        have hg := hl
        have szg : Sz 4000 (nm c (kk - 1)) := zl.mono (by decide)
        obtain ⟨rg, erg⟩ : ∃ r, r = rl := ⟨_, rfl⟩
        rw [← erg] at hg ⊢
        refine ⟨_, rfl, .inl ⟨rfl, _, SqL.of (eG _ _ hps)⟩, _, rfl, _, rfl, _, rfl, p, _, _, _, rfl, rfl, .of (eG _ _ hps), am, rg, rm, _, _, rfl, .of hg, .of (eG _ _ hm), ⟨szg, zm.mono (by decide)⟩, fun rn G2 e2 hn2 => ?_⟩
        refine ⟨p, ps, _, rfl, rfl, e2 _ _ (eG _ _ hps), ?_, ?_⟩
        · exact small1000 (by rw [hN.1]; omega)
        · have T2 : TupS G (upd G2 p (.lst (ps ++ [.ref rn]))) := (TupS.of (eG.trans e2)).trans (.upd (e2 _ _ (eG _ _ hps)))
          refine ⟨⟨kk + 1, _, _, rfl, by omega, by omega, upd_same, (hN.tups T2).snoc (by rw [next, gr_odd (fun z => hodd (tl.mpr z)), Rat.mul_one]; exact RatAt.tups hn2 (.upd (e2 _ _ (eG _ _ hps)))), T2 _ _ hB', fun b o zz => ?_⟩, ?_⟩
          · have hb : b ≠ p := fun z => by rw [z, hpH] at zz; cases zz
            rw [upd_ne hb]; exact e2 _ _ (eG _ _ (hS _ _ zz))
          · show (match upd G2 p (.lst (ps ++ [.ref rn])) p with | some (.lst ps) => n + 1 - ps.length | _ => 0) < (match G p with | some (.lst ps) => n + 1 - ps.length | _ => 0)
            rw [upd_same, hps]
            show n + 1 - (ps ++ [V.ref rn]).length < n + 1 - ps.length
            rw [List.length_append, hN.1]
            show n + 1 - (kk + 1) < n + 1 - kk
            omega
    · have hno : ¬ 0 < nm c (kk - 1) := fun z => h (decide_eq_true z)
      have e : kk = n + 1 := by
        rcases Nat.lt_or_ge (kk - 1) n with z | z
        · exact absurd (C.1 _ z) hno
        · omega
      subst e
      exact ⟨_, rfl, k p ps G hpH hS hps hN⟩
  · rintro σ H1 Q1 Q2 hq ⟨v, e, i, ei, p', xs', i', v', e1, e2, sq, ha', p2, q2, x, y, e3, s1, s2, sz, kb, ht, q⟩
    exact ⟨v, e, i, ei, p', xs', i', v', e1, e2, sq, ha', p2, q2, x, y, e3, s1, s2, sz, kb, ht, hq _ _ q⟩
end
end KK
end
section
set_option maxHeartbeats 4000000
set_option Elab.async false
set_option linter.all false
set_option maxRecDepth 100000
namespace KK
open PySem L2 KM
def nrH (f : Option Int) (m : Int) (l : Option Int) (n : Nat) : Rat := if ((n + 1 : Nat) : Int) % 2 = 0 then nm (cW f m l) (n - 1) else nm (cW f m l) (n - 1) * kick f m
def nrD (f : Option Int) (m : Int) (l : Option Int) (n : Nat) : Rat := if ((n + 1 : Nat) : Int) % 2 = 0 then nm (cW f m l) n * kick l m else nm (cW f m l) n
def nrO (f : Option Int) (m : Int) (l : Option Int) (n : Nat) : Rat := (0 - nrD f m l n) / nrH f m l n
def nrW (f : Option Int) (m : Int) (l : Option Int) (n : Nat) : Int := (nrO f m l n).num.fdiv ((nrO f m l n).den : Int) + 1
theorem Sz.neg0 {n : Nat} {x : Rat} (h : Sz n x) : Sz (n + 2) (0 - x) := by
  have : (0 : Rat) - x = Rat.divInt (-x.num) x.den := by
    rw [show (0 : Rat) - x = -x by grind, ← Rat.neg_divInt, Rat.num_divInt_den]
  rw [this]
  exact .divInt (den_ne x) (h.1.neg.mono (by omega)) (h.2.mono (by omega))
theorem Sz.div {m n : Nat} {x y : Rat} (h : Sz m x) (k : Sz n y) (hy : y ≠ 0) : Sz (m + n) (x / y) := by
  rw [← KM.over_eq]
  exact .divInt (Int.mul_ne_zero (den_ne x) (fun z => hy (Rat.num_eq_zero.mp z))) (h.1.mul k.2) (h.2.mul k.1)
section
variable {f : Option Int} {m : Int} {l : Option Int} {n : Nat}
theorem nrH_sz (W : OkW f m l) (hn : n ≤ 31) : Sz 2100 (nrH f m l n) := by
  unfold nrH; split
  · exact (nm_sz W.csz (n - 1) (by omega)).mono (by decide)
  · exact ((nm_sz W.csz (n - 1) (by omega)).mul (kick_sz W.m0 W.m1 W.f1)).mono (by decide)
theorem nrD_sz (W : OkW f m l) (hn : n ≤ 31) : Sz 2100 (nrD f m l n) := by
  unfold nrD; split
  · exact ((nm_sz W.csz n (by omega)).mul (kick_sz W.m0 W.m1 W.l1)).mono (by decide)
  · exact (nm_sz W.csz n (by omega)).mono (by decide)
theorem nrH_ne (W : OkW f m l) (C : Cnt (cW f m l) n) : nrH f m l n ≠ 0 := by
  have n2 := C.two
  have h1 := C.1 (n - 1) (by omega)
  have h2 := kick_pos (o := f) W.m0 fun x e => (W.f1 x e).1
  have h3 := mul_pos' h1 h2
  unfold nrH; split <;> grind
end
section
variable {P : Program} {w : World} {K : PySem.W.Frag} {mg : Str → Option Value} {base : Heap} {tw : Tok} {aN : Addr}
def spNe : Sp := fun vs H Q _ => ∃ a p ps f m l n, vs = [.ref a, .ref p] ∧ H a = some (.tup [vO f, .int m, vO l]) ∧ H p = some (.lst ps) ∧ NumsAt H ps (cW f m l) (n + 1) ∧ OkW f m l ∧ Cnt (cW f m l) n ∧ n ≤ 31 ∧ ∀ H', Same H H' → Q (.int (nrW f m l n)) H'
theorem sc_ne : FnScope ["weights", "numbers", "first", "middle", "last", "helping", "hindering"] ["weights", "numbers"] (defScope s_nearing_of) := ⟨rfl, rfl, rfl, by decide +kernel, rfl, by decide +kernel, by decide +kernel⟩
theorem sz0 {n : Nat} (h : 1 ≤ n) : Sz n (0 : Rat) := ⟨Bd.mono (m := 1) (show (0 : Int).natAbs < 2 ^ 1 by decide) h, Bd.mono (m := 1) (show (1 : Int).natAbs < 2 ^ 1 by decide) h⟩
theorem ok_ne (D : Df K mg "nearing_of" s_nearing_of ["weights", "numbers"] []) (T : TxB K mg) (TM : TxM K mg tw aN) (cT : Cal P w K mg base "times" 3 ["one", "other"] [] (spBin Sz2 (· * ·))) (cK : Cal P w K mg base "kick_of" 3 ["outer", "middle"] [] spKick)
    (cO : Cal P w K mg base "over" 3 ["one", "other"] [] (spBin (fun x y => Sz2 x y ∧ y ≠ 0) (· / ·))) (cF : Cal P w K mg base "floor_of" 1 ["one"] [] spFl) (cM : Cal P w K mg base "minus" 3 ["one", "other"] [] (spBinK K Sz2 (· - ·))) : Cal P w K mg base "nearing_of" 4 ["weights", "numbers"] [] spNe := by
  refine D.cal (k := 3) sc_ne (fun vs H Q E h => by obtain ⟨_, _, _, _, _, _, _, rfl, _⟩ := h; rfl) (fun f0 cdv A outer s H vs Q E hr h => ?_)
  obtain ⟨a, p, ps, f, m, l, n, rfl, ha, hps, hN, W, C, hn, k⟩ := h
  have hr1 : Room 1 _ := hr.mono (by decide)
  have n2 := C.two
  obtain ⟨rl, al, hl⟩ := hN.back (j := 1) (by decide) (by omega)
  obtain ⟨rm, am, hm⟩ := hN.back (j := 2) (by decide) (by omega)
  rw [show n + 1 - 1 = n by omega] at hl
  rw [show n + 1 - 2 = n - 1 by omega] at hm
  have zl := nm_sz W.csz n (by omega)
  have zm := nm_sz W.csz (n - 1) (by omega)
  refine ⟨_, (pss_cons (ps_asg (pv 0) (pg_tup rfl (pgs_cons (pg_name (i := 2) sc_ne.nd rfl (Or.inl rfl)) (pgs_cons (pg_name (i := 3) sc_ne.nd rfl (Or.inl rfl)) (pgs_cons (pg_name (i := 4) sc_ne.nd rfl (Or.inl rfl)) pgs_nil)))))
    (pss_cons (ps_par (i := 5) (j := 6) rfl sc_ne.nd rfl rfl (by decide) rfl rfl (pa_cons (pe_ix ix_list (pv 1) (pe_un un_neg pe_int) (fun _ _ => rfl)) (pa_cons (pe_ix ix_list (pv 1) (pe_un un_neg pe_int) (fun _ _ => rfl)) pa_nil)) (by rfl))
    (pss_cons (ps_if (pt_cmpR op_eq (pe_op op_mod (pe_callB call_len_seq (by rfl) T.nLen PySem.boot_len (pa_cons (pv 1) pa_nil)) pe_int) pe_int (nomark _)) (pss_one (ps_set (i := 6) sc_ne.nd rfl (Or.inl rfl) (pe_c cT hr (pa_cons (pv 6) (pa_cons (pe_c cK hr (pa_cons (pv 4) (pa_cons (pv 3) pa_nil))) pa_nil))))) (pss_one (ps_set (i := 5) sc_ne.nd rfl (Or.inl rfl) (pe_c cT hr (pa_cons (pv 5) (pa_cons (pe_c cK hr (pa_cons (pv 2) (pa_cons (pv 3) pa_nil))) pa_nil))))))
    (pss_one (ps_ret (pe_op op_add (pe_c cF hr1 (pa_cons (pe_c cO hr (pa_cons (pe_c cM hr (pa_cons (pe_glob (v := .ref aN) (by rfl) TM.mn rfl) (pa_cons (pv 6) pa_nil))) (pa_cons (pv 5) pa_nil))) pa_nil)) pe_int)))))), ?_⟩
  refine ⟨_, rfl, a, _, rfl, .of ha, rfl, _, _, rfl, _, _, rfl, _, _, rfl, rfl, ?_⟩
  refine ⟨_, rfl, _, rfl, p, _, _, _, rfl, rfl, .of hps, am, _, rfl, _, rfl, p, _, _, _, rfl, rfl, .of hps, al, _, _, rfl, ?_⟩
  refine ⟨_, rfl, p, _, rfl, .inl (.of hps), _, _, rfl, rfl, (by show (0 : Int) < 2; decide), rfl, _, rfl, ite2 (fun h2 => ?_) (fun h2 => ?_)⟩
  · have hev : ((ps.length : Nat) : Int) % 2 = 0 := by have z := of_decide_eq_true h2; injection z
    rw [hN.1] at hev
    refine ⟨_, rfl, _, rfl, _, rfl, l, m, rfl, W.m0, W.m1, W.l1, fun r1 H1 e1 hk1 => ⟨rl, r1, _, _, rfl, hl.same e1, hk1, ⟨zl.mono (by decide), (kick_sz W.m0 W.m1 W.l1).mono (by decide)⟩, fun rd H2 e2 hd => ?_⟩⟩
    have eH : nrH f m l n = nm (cW f m l) (n - 1) := if_pos hev
    have eD : nrD f m l n = nm (cW f m l) n * kick l m := if_pos hev
    replace hd : RatAt H2 rd (nrD f m l n) := by rw [eD]; exact hd
    have hh : RatAt H2 rm (nrH f m l n) := by rw [eH]; exact (hm.same e1).same e2
    refine ⟨_, rfl, aN, rd, _, _, rfl, nought_sq TM.kn H2, .of hd, ⟨sz0 (by decide), (nrD_sz W hn).mono (by decide)⟩, fun r3 H3 e3 h3 => ?_⟩
    refine ⟨_, rfl, r3, rm, _, _, rfl, h3, hh.same e3, ⟨⟨(Sz.neg0 (nrD_sz W hn)).mono (by decide), (nrH_sz W hn).mono (by decide)⟩, nrH_ne W C⟩, fun r4 H4 e4 h4 => ?_⟩
    refine ⟨r4, _, rfl, h4, ?_, _, _, rfl, rfl, k H4 (e1.trans (e2.trans (e3.trans e4)))⟩
    exact (Sz.div (Sz.neg0 (nrD_sz W hn)) (nrH_sz W hn) (nrH_ne W C)).2.mono (by decide)
  · have hodd : ¬ ((ps.length : Nat) : Int) % 2 = 0 := fun z => h2 (decide_eq_true (congrArg V.int z))
    rw [hN.1] at hodd
    refine ⟨_, rfl, _, rfl, _, rfl, f, m, rfl, W.m0, W.m1, W.f1, fun r1 H1 e1 hk1 => ⟨rm, r1, _, _, rfl, hm.same e1, hk1, ⟨zm.mono (by decide), (kick_sz W.m0 W.m1 W.f1).mono (by decide)⟩, fun rh H2 e2 hh => ?_⟩⟩
    have eH : nrH f m l n = nm (cW f m l) (n - 1) * kick f m := if_neg hodd
    have eD : nrD f m l n = nm (cW f m l) n := if_neg hodd
    replace hh : RatAt H2 rh (nrH f m l n) := by rw [eH]; exact hh
    have hd : RatAt H2 rl (nrD f m l n) := by rw [eD]; exact (hl.same e1).same e2
    refine ⟨_, rfl, aN, rl, _, _, rfl, nought_sq TM.kn H2, .of hd, ⟨sz0 (by decide), (nrD_sz W hn).mono (by decide)⟩, fun r3 H3 e3 h3 => ?_⟩
    refine ⟨_, rfl, r3, rh, _, _, rfl, h3, hh.same e3, ⟨⟨(Sz.neg0 (nrD_sz W hn)).mono (by decide), (nrH_sz W hn).mono (by decide)⟩, nrH_ne W C⟩, fun r4 H4 e4 h4 => ?_⟩
    refine ⟨r4, _, rfl, h4, ?_, _, _, rfl, rfl, k H4 (e1.trans (e2.trans (e3.trans e4)))⟩
    exact (Sz.div (Sz.neg0 (nrD_sz W hn)) (nrH_sz W hn) (nrH_ne W C)).2.mono (by decide)
end
end KK
end
section
set_option maxHeartbeats 4000000
set_option Elab.async false
set_option linter.all false
set_option maxRecDepth 100000
namespace KK
open PySem L2 KM
def plI (nr : Int) : Nat → Int
  | 0 => -nr - 1
  | 1 => 0
  | _ => 1
def spI (nr : Int) : Nat → Int
  | 0 => nr + 1
  | 1 => 1
  | _ => 0
def frI (f : Option Int) (nr : Int) : Int := if f = none then nr + 1 else 0
def plR (nr : Int) (i : Nat) : Rat := Rat.divInt (plI nr i) 1
def spR (f : Option Int) (nr : Int) (i : Nat) : Rat := Rat.divInt (spI nr i - frI f nr) 1
def wtI (f : Option Int) (m : Int) (l : Option Int) : Nat → Option Int
  | 0 => f
  | 1 => some m
  | _ => l
def thD (f : Option Int) (nr : Int) (i : Nat) : PyData := .tuple [rD (plR nr i), rD (spR f nr i)]
def blD (f : Option Int) (m : Int) (l : Option Int) (nr : Int) (i : Nat) : PyData := .tuple [rD (plR nr i), rD (spR f nr i), dO (wtI f m l i)]
def rowD (f : Option Int) (m : Int) (l : Option Int) (nr : Int) : PyData := .tuple ((sel (fun i => (wtI f m l i).isSome) 3).map (blD f m l nr))
def walD (f l : Option Int) (nr : Int) : PyData := .tuple [if f = none then thD f nr 0 else .none, if l = none then thD f nr 2 else .none]
def ThAt (H : Hp) (v : V) (f : Option Int) (nr : Int) (i : Nat) : Prop := ∃ t r1 r2, v = .ref t ∧ H t = some (.tup [.ref r1, .ref r2]) ∧ RatAt H r1 (plR nr i) ∧ RatAt H r2 (spR f nr i)
def BlAt (H : Hp) (v : V) (f : Option Int) (m : Int) (l : Option Int) (nr : Int) (i : Nat) : Prop := ∃ t r1 r2, v = .ref t ∧ H t = some (.tup [.ref r1, .ref r2, vO (wtI f m l i)]) ∧ RatAt H r1 (plR nr i) ∧ RatAt H r2 (spR f nr i)
theorem ThAt.tups {H H' : Hp} {v : V} {f : Option Int} {nr : Int} {i : Nat} (h : ThAt H v f nr i) (e : TupS H H') : ThAt H' v f nr i := by
  obtain ⟨t, r1, r2, h0, h1, h2, h3⟩ := h; exact ⟨t, r1, r2, h0, e _ _ h1, e _ _ h2, e _ _ h3⟩
theorem BlAt.tups {H H' : Hp} {v : V} {f : Option Int} {m : Int} {l : Option Int} {nr : Int} {i : Nat} (h : BlAt H v f m l nr i) (e : TupS H H') : BlAt H' v f m l nr i := by
  obtain ⟨t, r1, r2, h0, h1, h2, h3⟩ := h; exact ⟨t, r1, r2, h0, e _ _ h1, e _ _ h2, e _ _ h3⟩
theorem ThAt.rd {H : Hp} {v : V} {f : Option Int} {nr : Int} {i : Nat} (h : ThAt H v f nr i) : RdD H v (thD f nr i) := by
  obtain ⟨t, r1, r2, rfl, h1, h2, h3⟩ := h; exact .tup h1 (.cons h2.rd (.cons h3.rd .nil))
theorem rd_vO {H : Hp} (o : Option Int) : RdD H (vO o) (dO o) := by cases o with | none => exact .non | some x => exact .int x
theorem BlAt.rd {H : Hp} {v : V} {f : Option Int} {m : Int} {l : Option Int} {nr : Int} {i : Nat} (h : BlAt H v f m l nr i) : RdD H v (blD f m l nr i) := by
  obtain ⟨t, r1, r2, rfl, h1, h2, h3⟩ := h; exact .tup h1 (.cons h2.rd (.cons h3.rd (.cons (rd_vO _) .nil)))
theorem rds_sel {H : Hp} {f : Option Int} {m : Int} {l : Option Int} {nr : Int} : ∀ {is : List Nat} {us : List V}, us.length = is.length → (∀ (j i : Nat) (v : V), is[j]? = some i → us[j]? = some v → BlAt H v f m l nr i) → RdDs H us (is.map (blD f m l nr))
  | [], [], _, _ => .nil
  | i :: is, u :: us, e, h => .cons (h 0 i u rfl rfl).rd (rds_sel (by simpa using e) fun j q v a b => h (j + 1) q v (by simpa using a) (by simpa using b))
  | [], _ :: _, e, _ => by simp at e
  | _ :: _, [], e, _ => by simp at e
theorem len2 {α : Type} {xs : List α} (h : xs.length = 2) : ∃ a b, xs = [a, b] := by
  match xs, h with
  | [a, b], _ => exact ⟨a, b, rfl⟩
theorem len3 {α : Type} {xs : List α} (h : xs.length = 3) : ∃ a b c, xs = [a, b, c] := by
  match xs, h with
  | [a, b, c], _ => exact ⟨a, b, c, rfl⟩
section
variable {P : Program} {w : World} {K : PySem.W.Frag} {mg : Str → Option Value} {base : Heap} {tw : Tok} {aN : Addr}
def spBg : Sp := fun vs H Q _ => ∃ a f m l nr, vs = [.ref a, .int nr] ∧ H a = some (.tup [vO f, .int m, vO l]) ∧ ∀ t v1 v2 H', Same H H' → H' t = some (.tup [v1, v2]) → RdD H' v1 (rowD f m l nr) → RdD H' v2 (walD f l nr) → Q (.ref t) H'
theorem sc_be : FnScope ["weights", "nearing", "places", "speeds", "frame", "things", "row", "low", "high"] ["weights", "nearing"] (defScope s_beginning_of) := ⟨rfl, rfl, rfl, by decide +kernel, rfl, by decide +kernel, by decide +kernel⟩
theorem tIf_fr {f : Option Int} {nr : Int} {t : TT} {σ : St} {H : Hp} {Q : VK} {p2 : Addr} {K : PySem.W.Frag} (ht : ∀ R : Bool → Hp → Prop, R f.isNone H → t σ H R) (hp : σ[3]? = some (some (.ref p2))) (h2 : H p2 = some (.lst [.int (nr + 1), .int 1, .int 0])) (k : Q (.int (frI f nr)) H) :
    tIf t (tOp (rIxL K) (tVar 3) (tC (.int 0))) (tC (.int 0)) σ H Q := by
  refine ht _ ?_
  cases f with
  | none => exact iteT ⟨_, hp, p2, _, _, _, rfl, rfl, .of h2, rfl, k⟩
  | some x => exact iteF k
theorem tIf_th {o f : Option Int} {nr : Int} {t : TT} {σ : St} {H : Hp} {Q : VK} {p : Addr} {K : PySem.W.Frag} {us : List V} {j : Nat} (ht : ∀ R : Bool → Hp → Prop, R o.isNone H → t σ H R) (hp : σ[5]? = some (some (.ref p))) (h2 : H p = some (.lst us)) (hu : ∃ v, us[j]? = some v ∧ ThAt H v f nr j)
    (k : ∀ v, RdD H v (if o = none then thD f nr j else .none) → Q v H) : tIf t (tOp (rIxL K) (tVar 5) (tC (.int (j : Int)))) (tC .non) σ H Q := by
  refine ht _ ?_
  obtain ⟨v, e, hv⟩ := hu
  cases o with
  | none => exact iteT ⟨_, hp, p, _, _, _, rfl, rfl, .of h2, atI_nat e, k v (by rw [if_pos rfl]; exact hv.rd)⟩
  | some x => exact iteF (k _ (by rw [if_neg (by intro z; cases z)]; exact .non))
theorem vO_non (o : Option Int) : decide (vO o = .non) = o.isNone := by cases o <;> rfl
theorem ok_bg (D : Df K mg "beginning_of" s_beginning_of ["weights", "nearing"] []) (T : TxB K mg) (TM : TxM K mg tw aN) (cR1 : Cal P w K mg base "ratio" 2 ["top", "bottom"] [.int 1] spLow) : Cal P w K mg base "beginning_of" 3 ["weights", "nearing"] [] spBg := by
  refine D.cal (k := 2) sc_be (fun vs H Q E h => by obtain ⟨_, _, _, _, _, rfl, _⟩ := h; rfl) (fun f0 cdv A outer s H vs Q E hr h => ?_)
  obtain ⟨a, f, m, l, nr, rfl, ha, k⟩ := h
  refine ⟨_, (pss_cons (ps_set (i := 2) sc_be.nd rfl (Or.inl rfl) (pe_lst (pa_cons (pe_op op_sub (pe_un un_neg (pv 1)) pe_int) (pa_cons pe_int (pa_cons pe_int pa_nil)))))
    (pss_cons (ps_set (i := 3) sc_be.nd rfl (Or.inl rfl) (pe_lst (pa_cons (pe_op op_add (pv 1) pe_int) (pa_cons pe_int (pa_cons pe_int pa_nil)))))
    (pss_cons (ps_set (i := 4) sc_be.nd rfl (Or.inr rfl) (pe_ifExp (pt_cmpR op_isN (pe_ix ix_tup (pv 0) pe_int (fun _ _ => rfl)) pe_non (nomark _)) (pe_ix ix_list (pv 3) pe_int (fun _ _ => rfl)) pe_int))
    (pss_cons (ps_setC (i := 5) (NB := ["place", "speed"]) (FR := ["frame"]) (js := [4]) rfl rfl (fun _ _ h => h) (.cons rfl rfl rfl ⟨_, rfl⟩ .nil) rfl (by decide +kernel) rfl (by decide +kernel) sc_be.nd rfl rfl (by rfl) (pi_zipL (by rfl) TM.nZip (pa_cons (pv 2) (pa_cons (pv 3) pa_nil))) (by intro _ _ _; refine ⟨?_, ?_, ?_⟩; (exact (pg_tupK (K := K) (n := 2) rfl rfl (pgs_cons (pg_name (i := 0) (show List.Nodup (["place", "speed", "frame"] : List Str) by decide +kernel) rfl (Or.inl rfl)) (pgs_cons (pg_name (i := 1) (show List.Nodup (["place", "speed", "frame"] : List Str) by decide +kernel) rfl (Or.inl rfl)) pgs_nil)))); (exact pts_nil); (exact (pe_tup (pa_cons (pe_c cR1 hr (pa_cons (pv 0) pa_nil)) (pa_cons (pe_c cR1 hr (pa_cons (pe_op op_sub (pv 1) (pv 2)) pa_nil)) pa_nil))))))
    (pss_cons (ps_setC (i := 6) (NB := ["place", "speed", "weight"]) (FR := []) (js := []) rfl rfl (fun _ _ h => by cases h) .nil rfl (by decide +kernel) rfl (by decide +kernel) sc_be.nd rfl rfl (by rfl) (pi_zipM (by rfl) TM.nZip (pa_cons (pv 5) (pa_cons (pv 0) pa_nil))) (by intro _ _ _; refine ⟨?_, ?_, ?_⟩; (exact (pg_tupK (K := K) (n := 2) rfl rfl (pgs_cons (pg_tupK (K := K) (n := 2) rfl rfl (pgs_cons (pg_name (i := 0) (show List.Nodup (["place", "speed", "weight"] : List Str) by decide +kernel) rfl (Or.inl rfl)) (pgs_cons (pg_name (i := 1) (show List.Nodup (["place", "speed", "weight"] : List Str) by decide +kernel) rfl (Or.inl rfl)) pgs_nil))) (pgs_cons (pg_name (i := 2) (show List.Nodup (["place", "speed", "weight"] : List Str) by decide +kernel) rfl (Or.inl rfl)) pgs_nil)))); (exact (pts_one (pt_cmpR op_notN (pv 2) pe_non (nomark _)))); (exact (pe_tup (pa_cons (pv 0) (pa_cons (pv 1) (pa_cons (pv 2) pa_nil)))))))
    (pss_cons (ps_set (i := 7) sc_be.nd rfl (Or.inl rfl) (pe_ifExp (pt_cmpR op_isN (pe_ix ix_tup (pv 0) pe_int (fun _ _ => rfl)) pe_non (nomark _)) (pe_ix ix_list (pv 5) pe_int (fun _ _ => rfl)) pe_non))
    (pss_cons (ps_set (i := 8) sc_be.nd rfl (Or.inl rfl) (pe_ifExp (pt_cmpR op_isN (pe_ix ix_tup (pv 0) pe_int (fun _ _ => rfl)) pe_non (nomark _)) (pe_ix ix_list (pv 5) pe_int (fun _ _ => rfl)) pe_non))
    (pss_one (ps_ret (pe_tup (pa_cons (pe_callTy call_tuple_of (by rfl) T.nTuple PyProof.Rows.boot_tuple (pa_cons (pv 6) pa_nil)) (pa_cons (pe_tup (pa_cons (pv 7) (pa_cons (pv 8) pa_nil))) pa_nil)))))))))))), ?_⟩
  refine ⟨_, rfl, _, rfl, _, _, rfl, rfl, by show 3 ≤ sizeLine; decide, fun p1 hp1 => ?_⟩
  refine ⟨_, rfl, _, _, rfl, rfl, by show 3 ≤ sizeLine; decide, fun p2 hp2 => ?_⟩
  obtain ⟨H2, eH2⟩ : ∃ H2, H2 = upd (upd H p1 (.lst [.int (-nr - 1), .int 0, .int 1])) p2 (.lst [.int (nr + 1), .int 1, .int 0]) := ⟨_, rfl⟩
  have S2 : Same H H2 := by rw [eH2]; exact (Same.upd hp1).trans (Same.upd hp2)
  have g1 : H2 p1 = some (.lst [.int (-nr - 1), .int 0, .int 1]) := by rw [eH2]; exact Same.upd hp2 _ _ upd_same
  have g2 : H2 p2 = some (.lst [.int (nr + 1), .int 1, .int 0]) := by rw [eH2]; exact upd_same
  have ha2 := S2 _ _ ha
  dsimp only [gName]
  rw [← eH2]
  refine st_set ?_
  refine tIf_fr (f := f) (nr := nr) (p2 := p2) (fun R hR => ?_) rfl g2 ?_
  · exact ⟨_, rfl, a, _, _, _, rfl, rfl, .of ha2, rfl, rfl, _, rfl, by rw [vO_non]; exact hR⟩
  refine st_set ⟨_, rfl, _, rfl, p1, p2, rfl, ⟨_, SqL.of g1⟩, ⟨_, SqL.of g2⟩, fun D5 hD5 => ?_⟩
  refine compC_zip (J := ItzL K p1 p2) (n := 2) (js := [4]) (g := gTup K 2 (gCons (gName 0) (gCons (gName 1) gNil))) (tt := fun _ H Q => Q true H) (te := tTup (tCons (tCall spLow [.int 1] E0 (tCons (tVar 0) tNil)) (tCons (tCall spLow [.int 1] E0 (tCons (tOp (rI0 fun i j => .int (i - j)) (tVar 1) (tVar 2)) tNil)) tNil)))
    (fun _ => true) (fun i v H => ThAt H v f nr i) (fun i v H H' e h => h.tups e) hD5 (runs_zipL g1 g2 rfl) (small1000 (by show 3 ≤ 1000; decide)) ?_ ?_
  · intro i T x y zs G A2 B2 ex ey hz sG hT ka kb
    obtain ⟨z1, z2, rfl⟩ := len2 hz
    have hxy : x = .int (plI nr i) ∧ y = .int (spI nr i) := by
      have hi : i < 3 := (List.getElem?_eq_some_iff.mp ex).1
      have : i = 0 ∨ i = 1 ∨ i = 2 := by omega
      rcases this with rfl | rfl | rfl <;> cases ex <;> cases ey <;> exact ⟨rfl, rfl⟩
    obtain ⟨rfl, rfl⟩ := hxy
    refine ⟨T, _, rfl, .of hT, rfl, _, _, rfl, _, _, rfl, rfl, rfl, iteT ?_⟩
    refine ⟨_, rfl, _, _, rfl, by decide, Bd.mono (m := 2) (bdn (by decide) (by decide)) (by decide), fun r1 G1 e1 h1 => ?_⟩
    refine ⟨_, rfl, _, rfl, _, _, rfl, rfl, _, _, rfl, by decide, Bd.mono (m := 2) (bdn (by decide) (by decide)) (by decide), fun r2 G2 e2 h2 => ?_⟩
    refine ⟨by show 2 ≤ sizeLine; decide, fun t ht => ka rfl _ _ (e1.trans (e2.trans (Same.upd ht))) ⟨t, r1, r2, rfl, upd_same, ?_, ?_⟩⟩
    · exact Same.upd ht _ _ (e2 _ _ h1)
    · exact Same.upd ht _ _ h2
  intro us H3 S3 hD3 hul huR
  replace hul : us.length = ([0, 1, 2] : List Nat).length := hul
  replace huR : ∀ (j i : Nat) (v : V), ([0, 1, 2] : List Nat)[j]? = some i → us[j]? = some v → ThAt H3 v f nr i := huR
  have huA : ∀ j, j < 3 → ∃ v, us[j]? = some v ∧ ThAt H3 v f nr j := fun j hj => by
    have hj' : j < us.length := by rw [hul]; exact hj
    have e : us[j]? = some us[j] := List.getElem?_eq_getElem hj'
    refine ⟨_, e, huR j j _ ?_ e⟩
    have : j = 0 ∨ j = 1 ∨ j = 2 := by omega
    rcases this with rfl | rfl | rfl <;> rfl
  have ha3 := S3 _ _ ha2
  refine st_set ⟨_, rfl, _, rfl, D5, a, rfl, ⟨_, SqL.of hD3⟩, ⟨_, SqT.of ha3⟩, fun D6 hD6 => ?_⟩
  refine compC_zip (J := ItzM K D5 a) (n := 3) (js := []) (g := gTup K 2 (gCons (gTup K 2 (gCons (gName 0) (gCons (gName 1) gNil))) (gCons (gName 2) gNil))) (te := tTup (tCons (tVar 0) (tCons (tVar 1) (tCons (tVar 2) tNil))))
    (fun i => (wtI f m l i).isSome) (fun i v H => BlAt H v f m l nr i) (fun i v H H' e h => h.tups e) hD6 (runs_zipM hD3 ha3 (by rw [hul]; rfl)) (small1000 (by rw [hul]; decide)) ?_ ?_
  · intro i T x y zs G A2 B2 ex ey hz sG hT ka kb
    obtain ⟨z1, z2, z3, rfl⟩ := len3 hz
    have hi : i < 3 := by have := (List.getElem?_eq_some_iff.mp ex).1; rw [hul] at this; exact this
    obtain ⟨v, ev, t, r1, r2, rfl, g3, g4, g5⟩ := huA i hi
    rw [ev] at ex
    cases ex
    have hy : y = vO (wtI f m l i) := by
      have : i = 0 ∨ i = 1 ∨ i = 2 := by omega
      rcases this with rfl | rfl | rfl <;> cases ey <;> rfl
    subst hy
    refine ⟨T, _, rfl, .of hT, rfl, _, _, rfl, t, _, rfl, .of (sG _ _ g3), rfl, _, _, rfl, _, _, rfl, rfl, _, _, rfl, rfl, rfl, _, rfl, rfl, _, rfl, ?_⟩
    rw [vO_non]
    cases hw : wtI f m l i with
    | none => exact iteF (kb (by rw [hw]; rfl) _ (Same.refl _))
    | some q =>
      refine iteT ⟨_, rfl, _, rfl, _, rfl, by show 3 ≤ sizeLine; decide, fun t2 ht2 => ka (by rw [hw]; rfl) _ _ (Same.upd ht2) ⟨t2, r1, r2, rfl, ?_, ?_, ?_⟩⟩
      · rw [hw]; exact upd_same
      · exact Same.upd ht2 _ _ (sG _ _ g4)
      · exact Same.upd ht2 _ _ (sG _ _ g5)
  intro rs H4 S4 hD4 hrl hrR
  replace hrl : rs.length = (sel (fun i => (wtI f m l i).isSome) 3).length := by rw [hrl, hul]; rfl
  replace hrR : ∀ (j i : Nat) (v : V), (sel (fun i => (wtI f m l i).isSome) 3)[j]? = some i → rs[j]? = some v → BlAt H4 v f m l nr i := fun j i v a b => hrR j i v (by rw [hul]; exact a) b
  have ha4 := S4 _ _ ha3
  have hD54 := S4 _ _ hD3
  have huA4 : ∀ j, j < 3 → ∃ v, us[j]? = some v ∧ ThAt H4 v f nr j := fun j hj => by obtain ⟨v, a, b⟩ := huA j hj; exact ⟨v, a, b.tups (.of S4)⟩
  refine st_set ?_
  refine tIf_th (o := f) (f := f) (nr := nr) (p := D5) (us := us) (j := 0) (fun R hR => ?_) rfl hD54 (huA4 0 (by decide)) fun v1 hv1 => ?_
  · exact ⟨_, rfl, a, _, _, _, rfl, rfl, .of ha4, rfl, rfl, _, rfl, by rw [vO_non]; exact hR⟩
  refine st_set ?_
  refine tIf_th (o := l) (f := f) (nr := nr) (p := D5) (us := us) (j := 2) (fun R hR => ?_) rfl hD54 (huA4 2 (by decide)) fun v2 hv2 => ?_
  · exact ⟨_, rfl, a, _, _, _, rfl, rfl, .of ha4, rfl, rfl, _, rfl, by rw [vO_non]; exact hR⟩
  have hrow := rds_sel hrl hrR
  refine ⟨_, rfl, D6, rs, rfl, .inl ⟨.of hD4, fun t1 ht1 => ?_⟩⟩
  refine ⟨_, rfl, _, rfl, by show 2 ≤ sizeLine; decide, fun t2 ht2 => ?_⟩
  refine ⟨by show 2 ≤ sizeLine; decide, fun t3 ht3 => ?_⟩
  have S6 : Same H4 (upd (upd H4 t1 (.tup rs)) t2 (.tup [v1, v2])) := (Same.upd ht1).trans (Same.upd ht2)
  have S7 := S6.trans (Same.upd (o := .tup [.ref t1, .ref t2]) ht3)
  refine k t3 (.ref t1) (.ref t2) _ (S2.trans (S3.trans (S4.trans S7))) upd_same (.tup ?_ (RdDs.same S7 hrow)) (.tup ?_ (.cons (hv1.same S7) (.cons (hv2.same S7) .nil)))
  · exact Same.upd ht3 _ _ (Same.upd ht2 _ _ upd_same)
  · exact Same.upd ht3 _ _ upd_same
theorem ok3 {f : Option Int} {m : Int} {l : Option Int} (W : OkW f m l) : areD (.tuple [dO f, .int m, dO l]) = true := by
  have hw : ∀ x : Int, 1 ≤ x → x ≤ 1000 → wtD (.int x) = true := fun x a b => by show (decide (1 ≤ x) && decide (x ≤ 1000)) = true; rw [decide_eq_true a, decide_eq_true b]; rfl
  show (wtD (.int m) && (if isNo (dO f) = true then wtD (dO l) else wtD (dO f) && (isNo (dO l) || wtD (dO l)))) = true
  rw [hw m W.m0 W.m1, Bool.true_and]
  cases f with
  | none =>
    cases l with
    | none => exact absurd W.ne (by rintro (z | z) <;> exact z rfl)
    | some y => have := W.l1 y rfl; show (if true = true then wtD (.int y) else _) = true; rw [if_pos rfl]; exact hw y this.1 this.2
  | some x =>
    have hx := W.f1 x rfl
    show (if false = true then _ else wtD (.int x) && (isNo (dO l) || wtD (dO l))) = true
    rw [if_neg (by decide), hw x hx.1 hx.2, Bool.true_and]
    cases l with
    | none => rfl
    | some y => have := W.l1 y rfl; show (false || wtD (.int y)) = true; rw [hw y this.1 this.2]; rfl
def spMost : Sp := fun vs H Q _ => ∃ a f m l, vs = [.ref a] ∧ H a = some (.tup [vO f, .int m, vO l]) ∧ OkW f m l ∧ ∀ t n p ps v1 v2 H', Cnt (cW f m l) n → n ≤ 31 → Same H H' → H p = none → H' p = some (.lst ps) → NumsAt H' ps (cW f m l) (n + 1) →
  H' t = some (.tup [.int ((n + 1 : Nat) : Int), .ref p, v1, v2]) → RdD H' v1 (rowD f m l (nrW f m l n)) → RdD H' v2 (walD f l (nrW f m l n)) → Q (.ref t) H'
theorem sc_mo : FnScope ["weights", "numbers", "row", "walls"] ["weights"] (defScope s_most_of) := ⟨rfl, rfl, rfl, by decide +kernel, rfl, by decide +kernel, by decide +kernel⟩
theorem kick_le {o : Option Int} {m : Int} (m0 : 1 ≤ m) (h : ∀ x, o = some x → 1 ≤ x ∧ x ≤ 100 * m) : kick o m ≤ 2 ∧ (o ≠ none → kick o m ≤ 200/101) := by
  cases o with
  | none => exact ⟨by show Rat.divInt 2 1 ≤ 2; decide +kernel, fun z => absurd rfl z⟩
  | some x =>
    obtain ⟨x0, x1⟩ := h x rfl
    have hq : (0 : Rat) < ((x + m : Int) : Rat) := Rat.intCast_pos.mpr (by omega)
    have e : kick (some x) m = ((2 * x : Int) : Rat) / ((x + m : Int) : Rat) := Rat.divInt_eq_div ..
    have h1 : kick (some x) m * ((x + m : Int) : Rat) = ((2 * x : Int) : Rat) := by rw [e]; exact Rat.div_mul_cancel (by grind)
    have h2 : ((101 * (2 * x) : Int) : Rat) ≤ ((200 * (x + m) : Int) : Rat) := Rat.intCast_le_intCast.mpr (by omega)
    have h3 : kick (some x) m ≤ 200/101 := by
      rcases Rat.le_total (a := kick (some x) m) (b := 200/101) with z | z
      · exact z
      · by_cases ee : kick (some x) m = 200/101
        · rw [ee]; exact Rat.le_refl
        · have hp := mul_pos' (a := kick (some x) m - 200/101) (b := ((x + m : Int) : Rat)) (by grind) hq
          push_cast at h1 h2 hp
          grind
    exact ⟨by have : (200/101 : Rat) ≤ 2 := by decide +kernel
              grind, fun _ => h3⟩
theorem OkW.c_le {f : Option Int} {m : Int} {l : Option Int} (W : OkW f m l) : cW f m l ≤ 400/101 := by
  have hf := kick_le (o := f) W.m0 fun x e => ⟨(W.hf x e).1, (W.hf x e).2.2⟩
  have hl := kick_le (o := l) W.m0 fun x e => ⟨(W.hl x e).1, (W.hl x e).2.2⟩
  have pf := kick_pos (o := f) W.m0 fun x e => (W.f1 x e).1
  have pl := kick_pos (o := l) W.m0 fun x e => (W.l1 x e).1
  unfold cW
  rcases W.ne with z | z
  · have a := hf.2 z
    have b := mul_nn (a := 200/101 - kick f m) (b := kick l m) (by grind) (by grind)
    have c := mul_nn (a := (200/101 : Rat)) (b := 2 - kick l m) (by decide +kernel) (by grind)
    grind
  · have a := hl.2 z
    have b := mul_nn (a := 200/101 - kick l m) (b := kick f m) (by grind) (by grind)
    have c := mul_nn (a := (200/101 : Rat)) (b := 2 - kick f m) (by decide +kernel) (by grind)
    grind
theorem ok_most (D : Df K mg "most_of" s_most_of ["weights"] []) (T : TxB K mg) (cRe : Cal P w K mg base "refuse_no_weights" 4 ["weights"] [] spRe) (cNu : Cal P w K mg base "numbers_of" 4 ["weights"] [] spNums) (cBe : Cal P w K mg base "beginning_of" 3 ["weights", "nearing"] [] spBg)
    (cNe : Cal P w K mg base "nearing_of" 4 ["weights", "numbers"] [] spNe) : Cal P w K mg base "most_of" 5 ["weights"] [] spMost := by
  refine D.cal (k := 4) sc_mo (fun vs H Q E h => by obtain ⟨_, _, _, _, rfl, _⟩ := h; rfl) (fun f0 cdv A outer s H vs Q E hr4 h => ?_)
  obtain ⟨a, f, m, l, rfl, ha, W, k⟩ := h
  have hr3 : Room 3 _ := hr4.mono (by decide)
  obtain ⟨n, hn, C⟩ := cnt_all W.c_le
  refine ⟨_, (pss_cons (ps_expr (pe_c cRe hr4 (pa_cons (pv 0) pa_nil)))
    (pss_cons (ps_set (i := 1) sc_mo.nd rfl (Or.inl rfl) (pe_c cNu hr4 (pa_cons (pv 0) pa_nil)))
    (pss_cons (ps_asg (pe_c cBe hr3 (pa_cons (pv 0) (pa_cons (pe_c cNe hr4 (pa_cons (pv 0) (pa_cons (pv 1) pa_nil))) pa_nil))) (pg_tup rfl (pgs_cons (pg_name (i := 2) sc_mo.nd rfl (Or.inl rfl)) (pgs_cons (pg_name (i := 3) sc_mo.nd rfl (Or.inl rfl)) pgs_nil))))
    (pss_one (ps_ret (pe_tup (pa_cons (pe_callB call_len_seq (by rfl) T.nLen PySem.boot_len (pa_cons (pv 1) pa_nil)) (pa_cons (pv 1) (pa_cons (pv 2) (pa_cons (pv 3) pa_nil)))))))))), ?_⟩
  refine ⟨_, rfl, _, _, rfl, .tup ha (.cons (rd_vO f) (.cons (.int m) (.cons (rd_vO l) .nil))), ok3 W, ?_⟩
  refine ⟨_, rfl, a, f, m, l, n, rfl, ha, W, C, hn, fun p ps H1 hp e1 hps hN => ?_⟩
  refine ⟨_, rfl, _, rfl, _, rfl, a, p, ps, f, m, l, n, rfl, e1 _ _ ha, hps, hN, W, C, hn, fun H2 e2 => ?_⟩
  refine ⟨a, f, m, l, _, rfl, e2 _ _ (e1 _ _ ha), fun t v1 v2 H3 e3 ht hv1 hv2 => ?_⟩
  refine ⟨t, _, rfl, .of ht, rfl, _, _, rfl, _, _, rfl, rfl, ?_⟩
  have hps3 := e3 _ _ (e2 _ _ hps)
  refine ⟨_, rfl, p, ps, rfl, .inl (.of hps3), _, rfl, _, rfl, _, rfl, by show 4 ≤ sizeLine; decide, fun t2 ht2 => ?_⟩
  have S3 : Same H1 (upd H3 t2 (.tup [.int (ps.length : Nat), .ref p, v1, v2])) := e2.trans (e3.trans (Same.upd ht2))
  refine k t2 n p ps v1 v2 _ C hn (e1.trans S3) hp (S3 _ _ hps) (hN.tups (.of S3)) ?_ (hv1.same (Same.upd ht2)) (hv2.same (Same.upd ht2))
  rw [← hN.1]; exact upd_same
end
end KK
end
section
set_option maxHeartbeats 4000000
set_option Elab.async false
set_option linter.all false
set_option maxRecDepth 100000
namespace KK
open PySem L2 KM
def numsD (c : Rat) (k : Nat) : PyData := .list ((List.range k).map fun i => rD (nm c i))
theorem rds_of {H : Hp} {g : Nat → PyData} : ∀ {vs : List V} {k s : Nat}, vs.length = k → (∀ i v, vs[i]? = some v → RdD H v (g (s + i))) → RdDs H vs ((List.range' s k).map g)
  | [], 0, _, _, _ => .nil
  | v :: vs, k + 1, s, e, h => by
    rw [List.range'_succ, List.map_cons]
    exact .cons (h 0 v rfl) (rds_of (k := k) (s := s + 1) (by simpa using e) fun i u z => by have := h (i + 1) u (by simpa using z); rw [show s + 1 + i = s + (i + 1) by omega]; exact this)
  | [], _ + 1, _, e, _ => by simp at e
  | _ :: _, 0, _, e, _ => by simp at e
theorem NumsAt.rd {H : Hp} {p : Addr} {ps : List V} {c : Rat} {k : Nat} (hp : H p = some (.lst ps)) (h : NumsAt H ps c k) : RdD H (.ref p) (numsD c k) := by
  refine .lst hp ?_
  rw [List.range_eq_range']
  refine rds_of h.1 fun i v e => ?_
  have hi : i < k := by rw [← h.1]; exact (List.getElem?_eq_some_iff.mp e).1
  obtain ⟨r, a, b⟩ := h.2 i hi
  rw [e] at a; cases a
  rw [Nat.zero_add]; exact b.rd
theorem lay_map (g : Nat → Rat) : ∀ is : List Nat, PyData.canLayAll0 (is.map fun i => rD (g i)) = true ∧ PyData.depthAll (is.map fun i => rD (g i)) ≤ 1
  | [] => ⟨rfl, by show 0 ≤ 1; decide⟩
  | i :: is => by
    obtain ⟨h1, h2⟩ := lay_map g is
    refine ⟨?_, ?_⟩
    · show (PyData.canLay0 (rD (g i)) && _) = true
      rw [h1]; rfl
    · show max (PyData.depth (rD (g i))) _ ≤ 1
      have : PyData.depth (rD (g i)) = 1 := by rfl
      omega
theorem nums_lay (c : Rat) (k : Nat) : PyData.canLay0 (numsD c k) = true := (lay_map _ _).1
theorem nums_depth (c : Rat) (k : Nat) : PyData.depth (numsD c k) ≤ 2 := by
  have := (lay_map (nm c) (List.range k)).2
  show PyData.depthAll _ + 1 ≤ 2
  omega
theorem shaped_nums (c : Rat) (k : Nat) : SeqAt.shaped (numsD c k) = true := by
  show (_ && _) = true
  rw [nums_lay, decide_eq_true (by have := nums_depth c k; omega)]; rfl
end KK
end
section
set_option maxHeartbeats 8000000
set_option Elab.async false
set_option linter.all false
set_option maxRecDepth 100000
namespace L2
open PySem PySem.Spec PyProof.Rows PySem.W
section
variable {X : Cx}
theorem bx_ret {e : Expr} {te : TE} {pos : Pos} (h : Bx (PE X e te)) : Bx (PS X (.Return (some e) pos) (tRet te)) := by obtain ⟨h⟩ := h; exact ⟨ps_ret h⟩
theorem bx_op {op : Operator} {r : R2} {a b : Expr} {ta tb : TE} {pos : Pos} (ho : OpR X (binaryOp op) r) (ha : Bx (PE X a ta)) (hb : Bx (PE X b tb)) : Bx (PE X (.BinOp a op b pos) (tOp r ta tb)) := by obtain ⟨ha⟩ := ha; obtain ⟨hb⟩ := hb; exact ⟨pe_op ho ha hb⟩
theorem bx_ix {r : R2} {a b : Expr} {ta tb : TE} {pos : Pos} (hr : IxR X r) (ha : Bx (PE X a ta)) (hb : Bx (PE X b tb)) (hs : PlainIx b) : Bx (PE X (.Subscript a b pos) (tOp r ta tb)) := by obtain ⟨ha⟩ := ha; obtain ⟨hb⟩ := hb; exact ⟨pe_ix hr ha hb hs⟩
theorem bx_one {st : Stmt} {t : TS} (h : Bx (PS X st t)) : Bx (PSs X [st] t) := by obtain ⟨h⟩ := h; exact ⟨pss_one h⟩
theorem bx_out {p : Prop} (h : Bx p) : p := by obtain ⟨h⟩ := h; exact h
def tDct : TE := fun _ H Q => ∀ p, H p = none → Q (.ref p) (upd H p (.dK []))
theorem pe_dct {pos : Pos} : PE X (.Dict [] [] pos) tDct := by
  intro pins s σ H Q I h
  refine wpAny_Dict_empty ⟨.ref s.heap.objs.size, upd H s.heap.objs.size (.dK []), ?_, rfl, h _ (I.hok.fresh (Nat.le_refl _))⟩
  refine I.laid (a := s.heap.objs.size) (t' := s.toks) (fun b u q => Heap.get?_push_of_some _ q) (Nat.le_refl _) ?_
  have hm : mainGlobals < s.heap.objs.size := (I.mod.glob.keeps I.bk).lt
  have hb : sysModules < s.heap.objs.size := Nat.lt_trans (by decide) hm
  exact ⟨Nat.zero_le _, beq_eq_false_iff_ne.mpr (Ne.symm (Nat.ne_of_lt hb)), [], Paired.nil, Heap.DictOf.new s.heap⟩
theorem dt_dct {N : List Addr} {σ : St} {H : Hp} : Dt N tDct σ H (.dict []) := fun H1 a Q k p hp => k _ _ (Same.upd hp) (.dic (del_of upd_same (fun m => by obtain ⟨xs, z⟩ := a.l p m; rw [hp] at z; cases z)))
def rCatL (K : PySem.W.Frag) : R2 := fun x y H Q => ∃ l b xs zs, x = .ref l ∧ y = .ref b ∧ SqL K H l xs ∧ SqL K H b zs ∧ xs.length + zs.length ≤ sizeLine ∧ ∀ p, H p = none → Q (.ref p) (upd H p (.lst (xs ++ zs)))
theorem op_catL : OpR X (binaryOp .Add) (rCatL X.K) := by
  intro pins s σ H x y v u Q I rx ry h
  obtain ⟨l, b, xs, zs, rfl, rfl, hH, hB, hz, q⟩ := h
  cases rx
  cases ry
  obtain ⟨its, r, pl, z⟩ := I.list hH
  obtain ⟨its2, r2, pl2, z2⟩ := I.list hB
  have e1 := r.length
  have e2 := r2.length
  obtain ⟨⟨cls, dd, data, sl⟩, n, ho, hc, hdn, hd⟩ := pl
  obtain ⟨⟨cls2, dd2, data2, sl2⟩, n2, ho2, hc2, hdn2, hd2⟩ := pl2
  simp only at hc hd hc2 hd2
  subst hc hd hc2 hd2
  refine concat_meets ⟨_, ho, rfl⟩ ⟨_, ho2, rfl⟩ noFill_list_add seq_list_add PySem.F.slot_list_add PySem.F.entry_list_add (PySem.F.args_list_add_2 _ _) (list_addW l b its.toArray its2.toArray n n2 dd dd2 sl sl2 (by simp only [List.size_toArray]; omega)) ⟨ho, ho2, ?_⟩
  have ea : its.toArray ++ its2.toArray = (its ++ its2).toArray := by simp
  rw [ea]
  exact ⟨.ref _, _, I.lnew (t' := s.toks) (r.append r2) (by rw [List.length_append]; omega), rfl, q _ I.fresh⟩
theorem Same.seqT {K : PySem.W.Frag} {H H' : Hp} {a : Addr} {xs : List V} (e : Same H H') (h : SqT K H a xs) : SqT K H' a xs := by
  rcases h with (h | ⟨o, h⟩) | h
  · exact .inl (.inl (e _ _ h))
  · exact .inl (.inr ⟨o, e _ _ h⟩)
  · exact .inr h
theorem vals_refs : ∀ {cs : List Addr} {us : List Value}, Vals (cs.map V.ref) us → us = cs.map Value.ref
  | [], _, r => by cases r; rfl
  | c :: cs, _, r => by
    cases r with
    | cons r1 r2 => rw [vals_refs r2, show _ = Value.ref c from r1]; rfl
theorem call_isiExcT {a : Addr} {oe : Obj} {C : Addr} {d : Option Addr} {vs : Array Value} (hp : (a, oe) ∈ X.pn) (hc : oe.cls = .ref C) (hdd : oe.dict = d) (hd : oe.data = .fields vs) (Z : ExcK X.K C) :
    CallR X (.builtin "isinstance") (fun xs H Q => ∃ (tp : Addr) (cs : List Addr) (b : Bool), xs = [.ref a, .ref tp] ∧ H tp = some (.tup (cs.map V.ref)) ∧ d = none ∧ PySem.W.kitAny X.K (.ref C) (cs.map Value.ref) = some b ∧ Q (.bl b) H) := by
  intro pins s σ H xs us Q I r h
  obtain ⟨tp, cs, b, rfl, ht, hx, e, q⟩ := h
  obtain ⟨u, w', rfl, r1, r2⟩ := vals2 r
  cases (show u = Value.ref a from r1)
  cases (show w' = Value.ref tp from r2)
  have g1 := (I.pin _ (List.mem_append_left _ hp)).1
  have hI : ∃ od, InstAt s.heap a oe C od := ⟨none, g1, hc, by unfold notCls; rw [hd], by rw [hdd, hx]; trivial⟩
  obtain ⟨od, hI⟩ := hI
  obtain ⟨_, its, rv, ⟨cls, dd, data, sl⟩, h1, h2, n, h3⟩ := (show ObjOk X.prog X.w H s.heap tp (.tup (cs.map V.ref)) from I.hok tp _ ht)
  simp only at h2 h3
  subst h2 h3
  have ei := vals_refs rv
  subst ei
  exact kia_tup (kitx_exc Z) I.kIn ⟨oe, od, hI⟩ h1 e (fun z => nomatch z) fun tk => ⟨.bl b, H, I.tok tk, rfl, q⟩
end
end L2
namespace KK
open PySem L2 KM
abbrev OwnV (x : Str) (C : Addr) (mg : Str → Option Value) (h : Heap) : Prop := PyProof.Rows.OwnCls x C vMro "ValueError.__new__" mg h
section
variable {P : Program} {w : World} {K : PySem.W.Frag} {mg : Str → Option Value} {base : Heap} {tw : Tok} {aN : Addr} {C : Addr}
def spReX (C : Addr) : Sp := fun vs H _ E => ∃ v d, vs = [v] ∧ RdD H v d ∧ areD d = false ∧ E (.ref C) none H
theorem ok_reX (D : Df K mg "refuse_no_weights" s_refuse_no_weights ["weights"] []) (O : OwnV "NoRow" C mg base) (cA : Cal P w K mg base "are_weights" 3 ["thing"] [] (spD areD)) : Cal1 P w K mg base "refuse_no_weights" 4 ["weights"] [] (spReX C) := by
  refine D.cal1 (k := 3) sc_re (fun vs H Q E h => by obtain ⟨_, _, rfl, _⟩ := h; rfl) (fun f cdv A outer s H vs Q E hr h => ?_)
  obtain ⟨v, d, rfl, hv, hd, k⟩ := h
  refine ⟨_, pss_one (ps_if (pt_not (pt_truth (pe_c cA hr (pa_cons (pv 0) pa_nil)) fun _ => rfl)) (pss_one (ps_raise O PySem.F.excBase_ValueError (by decide +kernel) PySem.F.excBase_ValueError hr.hd bearsNew_def (pa_cons pe_str pa_nil))) pss_never), ?_⟩
  refine ⟨_, rfl, v, d, rfl, hv, _, rfl, ?_⟩
  rw [hd]
  exact iteT ⟨by show 1 ≤ sizeLine; decide, k⟩
theorem ok_moX (D : Df K mg "most_of" s_most_of ["weights"] []) (cX : Cal1 P w K mg base "refuse_no_weights" 4 ["weights"] [] (spReX C)) : Cal1 P w K mg base "most_of" 5 ["weights"] [] (spReX C) := by
  refine D.cal1 (k := 4) sc_mo (fun vs H Q E h => by obtain ⟨_, _, rfl, _⟩ := h; rfl) (fun f cdv A outer s H vs Q E hr h => ?_)
  obtain ⟨v, d, rfl, hv, hd, k⟩ := h
  refine ⟨_, pss_cons (ps_expr (pe_cx cX hr bears_def (pa_cons (pv 0) pa_nil))) pss_never, ?_⟩
  exact ⟨_, rfl, v, d, rfl, hv, hd, C, rfl, k⟩
def spLeX (C : Addr) : Sp := fun vs H _ E => ∃ v d x y, vs = [v, x, y] ∧ RdD H v d ∧ areD d = false ∧ E (.ref C) none H
theorem sc_le : FnScope ["weights", "most", "numbers", "told"] ["weights", "most", "numbers"] (defScope s_lets_most) := ⟨rfl, rfl, rfl, by decide +kernel, rfl, by decide +kernel, by decide +kernel⟩
theorem ok_leX (D : Df K mg "lets_most" s_lets_most ["weights", "most", "numbers"] []) (cX : Cal1 P w K mg base "refuse_no_weights" 4 ["weights"] [] (spReX C)) : Cal1 P w K mg base "lets_most" 5 ["weights", "most", "numbers"] [] (spLeX C) := by
  refine D.cal1 (k := 4) sc_le (fun vs H Q E h => by obtain ⟨_, _, _, _, rfl, _⟩ := h; rfl) (fun f cdv A outer s H vs Q E hr h => ?_)
  obtain ⟨v, d, x, y, rfl, hv, hd, k⟩ := h
  refine ⟨_, pss_cons (ps_expr (pe_cx cX hr bears_def (pa_cons (pv 0) pa_nil))) pss_never, ?_⟩
  exact ⟨_, rfl, v, d, rfl, hv, hd, C, rfl, k⟩
def spLe (K : PySem.W.Frag) : Sp := fun vs H Q _ => ∃ a f m l mo p xs ds, vs = [.ref a, .int mo, .ref p] ∧ H a = some (.tup [vO f, .int m, vO l]) ∧ OkW f m l ∧ (SqL K H p xs ∨ SqT K H p xs) ∧ RdDs H xs ds ∧ SeqAt.shaped (.list ds) = true ∧
  ∀ n H', Cnt (cW f m l) n → n ≤ 31 → Same H H' → Q (.bl (decide (mo = ((n + 1 : Nat) : Int)) && PyData.eqv (.list ds) (numsD (cW f m l) (n + 1)))) H'
theorem ok_le (D : Df K mg "lets_most" s_lets_most ["weights", "most", "numbers"] []) (T : TxB K mg) (TL : mg "list" = none) (cRe : Cal P w K mg base "refuse_no_weights" 4 ["weights"] [] spRe) (cNu : Cal P w K mg base "numbers_of" 4 ["weights"] [] spNums) : Cal P w K mg base "lets_most" 5 ["weights", "most", "numbers"] [] (spLe K) := by
  refine D.cal (k := 4) sc_le (fun vs H Q E h => by obtain ⟨_, _, _, _, _, _, _, _, rfl, _⟩ := h; rfl) (fun f0 cdv A outer s H vs Q E hr4 h => ?_)
  obtain ⟨a, f, m, l, mo, p, xs, ds, rfl, ha, W, hp, hx, hsh, k⟩ := h
  have hu := hr4.units
  obtain ⟨n, hn, Cn⟩ := cnt_all W.c_le
  refine ⟨_, (pss_cons (ps_expr (pe_c cRe hr4 (pa_cons (pv 0) pa_nil)))
    (pss_cons (ps_set (i := 3) sc_le.nd rfl (Or.inl rfl) (pe_c cNu hr4 (pa_cons (pv 0) pa_nil)))
    (pss_one (ps_ret (pe_and (pe_cmpR op_eq (pv 1) (pe_callB call_len_seq (by rfl) T.nLen PySem.boot_len (pa_cons (pv 3) pa_nil)) (nomark _)) (pe_one (pe_cmpR (op_eqD hu) (pe_callTy call_list_of (by rfl) TL PyProof.Rows.boot_list (pa_cons (pv 2) pa_nil)) (pv 3) (nomark _)))))))), ?_⟩
  refine ⟨_, rfl, _, _, rfl, .tup ha (.cons (rd_vO f) (.cons (.int m) (.cons (rd_vO l) .nil))), ok3 W, ?_⟩
  refine ⟨_, rfl, a, f, m, l, n, rfl, ha, W, Cn, hn, fun q ps H1 hq e1 hps hN => ?_⟩
  refine ⟨_, rfl, _, rfl, q, ps, rfl, .inl (.of hps), rfl, _, rfl, ?_⟩
  have kk := k n
  have e0 : decide (V.int mo = V.int ((ps.length : Nat) : Int)) = decide (mo = ((n + 1 : Nat) : Int)) := by rw [vint_dec, hN.1]
  rw [e0]
  cases hc : decide (mo = ((n + 1 : Nat) : Int)) with
  | false => rw [hc, Bool.false_and] at kk; exact iteF (kk H1 Cn hn e1)
  | true =>
    rw [hc, Bool.true_and] at kk
    have hp1 : SqL K H1 p xs ∨ SqT K H1 p xs := by
      rcases hp with z | z
      · exact .inl (e1.seq z)
      · exact .inr (e1.seqT z)
    refine iteT ⟨_, rfl, p, xs, rfl, hp1, fun l1 hl1 => ?_⟩
    refine ⟨_, rfl, .list ds, numsD (cW f m l) (n + 1), .lst upd_same (RdDs.same (e1.trans (Same.upd hl1)) hx), (hN.rd hps).same (Same.upd hl1), hsh, shaped_nums _ _, kk _ Cn hn (e1.trans (Same.upd hl1))⟩
end
end KK
end
section
set_option maxHeartbeats 8000000
set_option Elab.async false
set_option linter.all false
set_option maxRecDepth 100000
namespace KK
open PySem L2 KM
theorem step_del {p : Addr} {H H' : Hp} (s : Step p H H') : Same (del [p] H) (del [p] H') := fun b o z => del_of (s.keep b o (del_some z).1 (by simpa using (del_some z).2)) (del_some z).2
theorem pool_ls {H : Hp} {p : Addr} (h : Pool H p) : Ls [p] H := by obtain ⟨a, b, c, e⟩ := h; exact ls1 e
theorem rds_getV {H : Hp} {xs : List V} {ds : List PyData} {i : Nat} {x : V} (h : RdDs H xs ds) (e : xs[i]? = some x) : ∃ d, ds[i]? = some d ∧ RdD H x d := by
  have hi : i < ds.length := by rw [← h.len]; exact (List.getElem?_eq_some_iff.mp e).1
  obtain ⟨x', e', r⟩ := h.get (List.getElem?_eq_getElem hi)
  rw [e] at e'; cases e'
  exact ⟨_, List.getElem?_eq_getElem hi, r⟩
theorem st_op {r : R2} {ta tb : TE} {σ : St} {H : Hp} {Q : VK} (h : ta σ H fun x H1 => tb σ H1 fun y H2 => r x y H2 Q) : tOp r ta tb σ H Q := h
structure TxR (K : PySem.W.Frag) (mg : Str → Option Value) (C C0 : Addr) (cs : Nat → Addr) : Prop where
  m0 : mg "NoBall" = some (.ref (cs 0))
  m1 : mg "NoEnd" = some (.ref (cs 1))
  m2 : mg "NoOrder" = some (.ref (cs 2))
  m3 : mg "NoPast" = some (.ref (cs 3))
  m4 : mg "NoPlace" = some (.ref (cs 4))
  m5 : mg "NoRatio" = some (.ref (cs 5))
  m6 : mg "NoText" = some (.ref (cs 6))
  m7 : mg "NotEven" = some (.ref (cs 7))
  m8 : mg "Shut" = some (.ref (cs 8))
  m9 : mg "Together" = some (.ref (cs 9))
  m10 : mg "TooMany" = some (.ref (cs 10))
  ka : PySem.W.kitAny K (.ref C) (((List.range 11).map cs).map Value.ref) = some false
  z : ExcK K C
  k0 : PySem.W.kitOne K (.ref C) (.ref C0) = some true
  kv : PySem.W.kitOne K (.ref C) (.type "ValueError") = some true
  mc : mg "ClackError" = some (.ref C0)
  nv : mg "ValueError" = none
section
variable {P : Program} {w : World} {K : PySem.W.Frag} {mg : Str → Option Value} {base : Heap} {tw : Tok} {aN : Addr} {C C0 : Addr} {cs : Nat → Addr}
theorem areD3 (x y z : PyData) : areD (.tuple [x, y, z]) = (wtD y && (if isNo x = true then wtD z else wtD x && (isNo z || wtD z))) := rfl
def spOd : Sp := fun vs H Q _ => ∃ p, vs = [.ref p] ∧ Pool H p ∧ ∀ v d H', Step p H H' → RdD (del [p] H') v d → areD d = false → Q v H'
theorem sc_od : FnScope ["pool", "a", "b", "bad", "some"] ["pool"] (defScope s_law_odd) := ⟨rfl, rfl, rfl, by decide +kernel, rfl, by decide +kernel, by decide +kernel⟩
theorem wt_in {i : Int} (h0 : 1 ≤ i) (h1 : i ≤ 1000) : wtD (.int i) = true := by show (decide (1 ≤ i) && decide (i ≤ 1000)) = true; rw [decide_eq_true h0, decide_eq_true h1]; rfl
theorem ok_od (D : Df K mg "_law_odd" s_law_odd ["pool"] []) (T : TxB K mg) (cN : Cal P w K mg base "_law_next" 1 ["pool", "base"] [] spNext) : Cal P w K mg base "_law_odd" 2 ["pool"] [] spOd := by
  refine D.calB (k := 1) sc_od (fun vs H Q E h => by obtain ⟨_, rfl, _⟩ := h; rfl) (fun f cdv A outer s H vs Q E hr1 h => ?_)
  obtain ⟨p, rfl, hp, k⟩ := h
  refine ⟨_, (bx_scons (Bx.mk (ps_set (i := 1) sc_od.nd rfl (Or.inl rfl) (pe_op op_add pe_int (pe_c cN hr1 (pa_cons (pv 0) (pa_cons pe_int pa_nil)))))) (bx_scons (Bx.mk (ps_set (i := 2) sc_od.nd rfl (Or.inl rfl) (pe_op op_add pe_int (pe_c cN hr1 (pa_cons (pv 0) (pa_cons pe_int pa_nil)))))) (bx_scons (bx_set (i := 3) sc_od.nd rfl (Or.inl rfl) (bx_ix ix_list (bx_lst (bx_cons (Bx.mk pe_int) (bx_cons (Bx.mk pe_int) (bx_cons (Bx.mk (pe_un un_neg pe_int)) (bx_cons (Bx.mk pe_bl) (bx_cons (Bx.mk pe_bl) (bx_cons (Bx.mk pe_str) (bx_cons (bx_tup (bx_cons (Bx.mk pe_int) (bx_cons (Bx.mk pe_int) bx_nil))) (bx_cons (Bx.mk (pe_op op_pow pe_int pe_int)) (bx_cons (bx_lst (bx_cons (Bx.mk pe_int) bx_nil)) (bx_cons (Bx.mk pe_str) bx_nil))))))))))) (Bx.mk (pe_c cN hr1 (pa_cons (pv 0) (pa_cons pe_int pa_nil)))) (fun _ _ => rfl))) (bx_scons (bx_set (i := 4) sc_od.nd rfl (Or.inl rfl) (bx_lst (bx_cons (bx_tup (bx_cons (Bx.mk (pv 1)) (bx_cons (Bx.mk (pv 2)) bx_nil))) (bx_cons (bx_tup (bx_cons (Bx.mk (pv 1)) (bx_cons (Bx.mk (pv 2)) (bx_cons (Bx.mk (pv 1)) (bx_cons (Bx.mk (pv 2)) bx_nil))))) (bx_cons (bx_lst (bx_cons (Bx.mk (pv 1)) (bx_cons (Bx.mk (pv 2)) (bx_cons (Bx.mk (pv 1)) bx_nil)))) (bx_cons (bx_tup (bx_cons (Bx.mk pe_non) (bx_cons (Bx.mk (pv 1)) (bx_cons (Bx.mk pe_non) bx_nil)))) (bx_cons (bx_tup (bx_cons (Bx.mk (pv 1)) (bx_cons (Bx.mk pe_non) (bx_cons (Bx.mk (pv 2)) bx_nil)))) (bx_cons (bx_tup (bx_cons (Bx.mk pe_non) (bx_cons (Bx.mk pe_non) (bx_cons (Bx.mk (pv 1)) bx_nil)))) (bx_cons (bx_tup (bx_cons (Bx.mk pe_non) (bx_cons (Bx.mk pe_non) (bx_cons (Bx.mk pe_non) bx_nil)))) (bx_cons (bx_tup bx_nil) bx_nil)))))))))) (bx_scons (bx_set (i := 4) sc_od.nd rfl (Or.inl rfl) (bx_op op_cat (Bx.mk (pv 4)) (bx_lst (bx_cons (bx_tup (bx_cons (Bx.mk (pv 3)) (bx_cons (Bx.mk (pv 1)) (bx_cons (Bx.mk (pv 2)) bx_nil)))) (bx_cons (bx_tup (bx_cons (Bx.mk (pv 1)) (bx_cons (Bx.mk (pv 3)) (bx_cons (Bx.mk (pv 2)) bx_nil)))) (bx_cons (bx_tup (bx_cons (Bx.mk (pv 1)) (bx_cons (Bx.mk (pv 2)) (bx_cons (Bx.mk (pv 3)) bx_nil)))) (bx_cons (bx_tup (bx_cons (Bx.mk pe_non) (bx_cons (Bx.mk (pv 3)) (bx_cons (Bx.mk (pv 1)) bx_nil)))) (bx_cons (bx_tup (bx_cons (Bx.mk pe_non) (bx_cons (Bx.mk (pv 1)) (bx_cons (Bx.mk (pv 3)) bx_nil)))) (bx_cons (Bx.mk pe_non) (bx_cons (Bx.mk (pv 1)) (bx_cons (Bx.mk pe_str) (bx_cons (bx_tup (bx_cons (Bx.mk (pv 1)) bx_nil)) (bx_cons (Bx.mk pe_dct) bx_nil))))))))))))) (Bx.mk (pss_one (ps_ret (pe_ix ix_list (pv 4) (pe_c cN hr1 (pa_cons (pv 0) (pa_cons (pe_callB call_len_seq (by rfl) T.nLen PySem.boot_len (pa_cons (pv 4) pa_nil)) pa_nil))) (fun _ _ => rfl)))))))))), ?_⟩
  refine ⟨_, rfl, p, _, rfl, by decide, by decide, hp, fun d1 H1 a0 a1 s1 => ⟨_, _, rfl, rfl, ?_⟩⟩
  refine ⟨_, rfl, p, _, rfl, by decide, by decide, s1.pool, fun d2 H2 b0 b1 s2 => ⟨_, _, rfl, rfl, ?_⟩⟩
  have S2 := s1.trans s2
  obtain ⟨a, ea⟩ : ∃ a, a = 1 + d1 := ⟨_, rfl⟩
  obtain ⟨b, eb⟩ : ∃ b, b = 1 + d2 := ⟨_, rfl⟩
  dsimp only [gName]
  rw [← ea, ← eb]
  have wa : wtD (.int a) = true := wt_in (by omega) (by omega)
  have wb : wtD (.int b) = true := wt_in (by omega) (by omega)
  clear ea eb
  -- bad
  refine st_set ?_
  refine st_op ?_
  apply dt_use (at_del (pool_ls S2.pool))
  case h =>
    apply dt_lst
    · exact (by apply da_cons; exact dt_int; apply da_cons; exact dt_int; apply da_cons; apply dt_neg; exact dt_int; apply da_cons; exact dt_bl; apply da_cons; exact dt_bl; apply da_cons; exact dt_str; apply da_cons; apply dt_tup; apply da_cons; exact dt_int; apply da_cons; exact dt_int; exact da_nil; exact szl (show (2 : Nat) ≤ 1000 by decide); apply da_cons; exact dt_pow dt_int dt_int ⟨by decide, by decide, by decide⟩; apply da_cons; apply dt_lst; apply da_cons; exact dt_int; exact da_nil; exact szl (show (1 : Nat) ≤ 1000 by decide); apply da_cons; exact dt_str; exact da_nil)
    · exact szl (show (10 : Nat) ≤ 1000 by decide)
  case k =>
  intro v3 H3 e3 r3
  have S3 := S2.same e3
  cases r3 with
  | @lst a3 xs3 _ h3 hx3 =>
  have h3' := del_some h3
  have hl3 : xs3.length = 10 := hx3.len
  refine ⟨_, rfl, p, _, rfl, by decide, by decide, S3.pool, fun d4 H4 c0 c1 s4 => ?_⟩
  obtain ⟨j, rfl⟩ : ∃ j : Nat, d4 = (j : Int) := ⟨d4.toNat, by omega⟩
  obtain ⟨vb, evb⟩ : ∃ x, xs3[j]? = some x := ⟨_, List.getElem?_eq_getElem (by omega)⟩
  refine ⟨a3, xs3, _, vb, rfl, rfl, .of (s4.keep a3 _ h3'.1 (by simpa using h3'.2)), atI_nat evb, ?_⟩
  obtain ⟨db, edb, rb⟩ := rds_getV hx3 evb
  have S4 := S3.trans s4
  have rb4 := rb.same (step_del s4)
  have hbad : wtD db = false ∧ isNo db = false := by
    have hm := List.mem_of_getElem? edb
    simp only [List.mem_cons, List.not_mem_nil, or_false] at hm
    rcases hm with rfl | rfl | rfl | rfl | rfl | rfl | rfl | rfl | rfl | rfl <;> exact ⟨by decide, by decide⟩
  clear evb edb hx3 h3 h3' rb
  have L4 := pool_ls S4.pool
  -- some
  refine st_set ?_
  apply dt_use (at_del L4)
  case h =>
    apply dt_lst
    · exact (by apply da_cons; apply dt_tup; apply da_cons; exact dt_var rfl (.int a); apply da_cons; exact dt_var rfl (.int b); exact da_nil; exact szl (show (2 : Nat) ≤ 1000 by decide); apply da_cons; apply dt_tup; apply da_cons; exact dt_var rfl (.int a); apply da_cons; exact dt_var rfl (.int b); apply da_cons; exact dt_var rfl (.int a); apply da_cons; exact dt_var rfl (.int b); exact da_nil; exact szl (show (4 : Nat) ≤ 1000 by decide); apply da_cons; apply dt_lst; apply da_cons; exact dt_var rfl (.int a); apply da_cons; exact dt_var rfl (.int b); apply da_cons; exact dt_var rfl (.int a); exact da_nil; exact szl (show (3 : Nat) ≤ 1000 by decide); apply da_cons; apply dt_tup; apply da_cons; exact dt_non; apply da_cons; exact dt_var rfl (.int a); apply da_cons; exact dt_non; exact da_nil; exact szl (show (3 : Nat) ≤ 1000 by decide); apply da_cons; apply dt_tup; apply da_cons; exact dt_var rfl (.int a); apply da_cons; exact dt_non; apply da_cons; exact dt_var rfl (.int b); exact da_nil; exact szl (show (3 : Nat) ≤ 1000 by decide); apply da_cons; apply dt_tup; apply da_cons; exact dt_non; apply da_cons; exact dt_non; apply da_cons; exact dt_var rfl (.int a); exact da_nil; exact szl (show (3 : Nat) ≤ 1000 by decide); apply da_cons; apply dt_tup; apply da_cons; exact dt_non; apply da_cons; exact dt_non; apply da_cons; exact dt_non; exact da_nil; exact szl (show (3 : Nat) ≤ 1000 by decide); apply da_cons; apply dt_tup; exact da_nil; exact szl (show (0 : Nat) ≤ 1000 by decide); exact da_nil)
    · exact szl (show (8 : Nat) ≤ 1000 by decide)
  case k =>
  intro v5 H5 e5 r5
  have S5 := S4.same e5
  have rb5 := rb4.same (same_del e5)
  refine st_set ?_
  apply dt_use (at_del (L4.same e5))
  case h =>
    apply dt_cat
    · exact dt_var rfl r5
    · apply dt_lst
      · exact (by apply da_cons; apply dt_tup; apply da_cons; exact dt_var rfl rb5; apply da_cons; exact dt_var rfl (.int a); apply da_cons; exact dt_var rfl (.int b); exact da_nil; exact szl (show (3 : Nat) ≤ 1000 by decide); apply da_cons; apply dt_tup; apply da_cons; exact dt_var rfl (.int a); apply da_cons; exact dt_var rfl rb5; apply da_cons; exact dt_var rfl (.int b); exact da_nil; exact szl (show (3 : Nat) ≤ 1000 by decide); apply da_cons; apply dt_tup; apply da_cons; exact dt_var rfl (.int a); apply da_cons; exact dt_var rfl (.int b); apply da_cons; exact dt_var rfl rb5; exact da_nil; exact szl (show (3 : Nat) ≤ 1000 by decide); apply da_cons; apply dt_tup; apply da_cons; exact dt_non; apply da_cons; exact dt_var rfl rb5; apply da_cons; exact dt_var rfl (.int a); exact da_nil; exact szl (show (3 : Nat) ≤ 1000 by decide); apply da_cons; apply dt_tup; apply da_cons; exact dt_non; apply da_cons; exact dt_var rfl (.int a); apply da_cons; exact dt_var rfl rb5; exact da_nil; exact szl (show (3 : Nat) ≤ 1000 by decide); apply da_cons; exact dt_non; apply da_cons; exact dt_var rfl (.int a); apply da_cons; exact dt_str; apply da_cons; apply dt_tup; apply da_cons; exact dt_var rfl (.int a); exact da_nil; exact szl (show (1 : Nat) ≤ 1000 by decide); apply da_cons; exact dt_dct; exact da_nil)
      · exact szl (show (10 : Nat) ≤ 1000 by decide)
    · exact szl (show (18 : Nat) ≤ 1000 by decide)
  case k =>
  intro v6 H6 e6 r6
  have S6 := S5.same e6
  cases r6 with
  | @lst a7 xs7 _ h7 hx7 =>
  have h7' := del_some h7
  have hl7 : xs7.length = 18 := hx7.len
  refine ⟨_, rfl, _, rfl, _, rfl, a7, xs7, rfl, .inl (SqL.of h7'.1), p, _, rfl, by omega, by omega, S6.pool, fun d H8 d0 d1 s8 => ?_⟩
  obtain ⟨j, rfl⟩ : ∃ j : Nat, d = (j : Int) := ⟨d.toNat, by omega⟩
  obtain ⟨x, ex⟩ : ∃ x, xs7[j]? = some x := ⟨_, List.getElem?_eq_getElem (by omega)⟩
  refine ⟨a7, xs7, _, x, rfl, rfl, .of (s8.keep a7 _ h7'.1 (by simpa using h7'.2)), atI_nat ex, ?_⟩
  obtain ⟨dd, ed, rx⟩ := rds_getV hx7 ex
  refine k x _ H8 (S6.trans s8) (rx.same (step_del s8)) ?_
  have hm := List.mem_of_getElem? ed
  simp only [List.cons_append, List.nil_append, List.mem_cons, List.not_mem_nil, or_false] at hm
  rcases hm with h | h | h | h | h | h | h | h | h | h | h | h | h | h | h | h | h | h <;> subst h
  all_goals first | rfl | (rw [areD3]; simp [hbad.1, hbad.2]; done) | (rw [areD3]; simp [hbad.1, hbad.2, isNo]; done) | (rw [areD3]; simp [hbad.1, hbad.2, isNo, wtD]; done)
end
end KK
end
section
set_option maxHeartbeats 8000000
set_option Elab.async false
set_option linter.all false
set_option maxRecDepth 100000
namespace L2
open PySem PySem.Spec PyProof.Rows PySem.W
section
variable {X : Cx}
theorem pt_truthK {K : PySem.W.Frag} {a : Expr} {ta : TE} (hK : X.K = K) (ha : PE X a ta) (he : ∀ whole, isTrue a X.env whole = (do let v ← whole; standAt a.pos; holding [v] (truthy v))) : PT X a (fun σ H Q => ta σ H fun x H' => ∃ k, TruV K x H' k ∧ Q k H') := by
  subst hK; exact pt_truth ha he
theorem call_isiTK {K : PySem.W.Frag} {a : Addr} {oe : Obj} {C : Addr} {d : Option Addr} {vs : Array Value} (hK : X.K = K) (hp : (a, oe) ∈ X.pn) (hc : oe.cls = .ref C) (hdd : oe.dict = d) (hd : oe.data = .fields vs) (Z : ExcK K C) :
    CallR X (.builtin "isinstance") (fun xs H Q => ∃ (tp : Addr) (cs : List Addr) (b : Bool), xs = [.ref a, .ref tp] ∧ H tp = some (.tup (cs.map V.ref)) ∧ d = none ∧ PySem.W.kitAny K (.ref C) (cs.map Value.ref) = some b ∧ Q (.bl b) H) := by
  subst hK; exact call_isiExcT hp hc hdd hd Z
theorem call_isiDK {K : PySem.W.Frag} {a : Addr} {oe : Obj} {C : Addr} {d : Option Addr} {vs : Array Value} (hK : X.K = K) (hp : (a, oe) ∈ X.pn) (hc : oe.cls = .ref C) (hdd : oe.dict = d) (hd : oe.data = .fields vs) (Z : ExcK K C) :
    CallR X (.builtin "isinstance") (fun xs H Q => ∃ x c b, xs = [.ref a, x] ∧ d = none ∧ RelV x c ∧ (∀ u, RelV x u → u = c) ∧ PySem.W.kitOne K (.ref C) c = some b ∧ Q (.bl b) H) := by
  subst hK
  intro pins s σ H xs us Q I r h
  obtain ⟨x, c, b, rfl, hx, rx, ux, e, q⟩ := h
  obtain ⟨u, w', rfl, r1, r2⟩ := vals2 r
  cases (show u = Value.ref a from r1)
  cases ux _ r2
  have g1 := (I.pin _ (List.mem_append_left _ hp)).1
  have hI : InstAt s.heap a oe C none := ⟨g1, hc, by unfold notCls; rw [hd], by rw [hdd, hx]; trivial⟩
  exact PySem.W.kia_one (kitx_exc Z) I.kIn ⟨oe, none, hI⟩ e (fun z => nomatch z) fun tk => ⟨.bl b, H, I.tok tk, rfl, q⟩
variable {J : XJ} {x : Str} {k : Nat} {ps : List Str} {dvs : List V} {sp : Sp} {p pos : Pos} {e : Expr} {es : List Expr} {t : TA}
theorem bx_c (c : Cal X.prog X.w X.K X.mg X.base x k ps dvs sp) (hr : Room k X.A) (ha : Bx (PA X (e :: es) t)) (hg : Gl X x := by rfl) (hdb : (x == ("__debug__" : Str)) = false := by decide)
    (he : starEach (e :: es) X.env = (false, eval e X.env) :: starEach es X.env := by rfl) (hpl : (backTo pos (starEach es X.env)).any (·.1) = false := by rfl) : Bx (PE X (.Call (.Name x p) (e :: es) [] pos) (tCall sp dvs E0 t)) := by
  obtain ⟨ha⟩ := ha; exact ⟨pe_c c hr ha hg hdb he hpl⟩
theorem bx_cx (c : Cal1 X.prog X.w X.K X.mg X.base x k ps dvs sp) (hr : Room k X.A) (hx : Bears X J) (ha : Bx (PA X (e :: es) t)) (hg : Gl X x := by rfl) (hdb : (x == ("__debug__" : Str)) = false := by decide)
    (he : starEach (e :: es) X.env = (false, eval e X.env) :: starEach es X.env := by rfl) (hpl : (backTo pos (starEach es X.env)).any (·.1) = false := by rfl) : Bx (PE X (.Call (.Name x p) (e :: es) [] pos) (tCallX sp dvs J t)) := by
  obtain ⟨ha⟩ := ha; exact ⟨pe_cx c hr hx ha hg hdb he hpl⟩
theorem bx_expr {te : TE} (h : Bx (PE X e te)) (hs : swapsWith e none pos.line X.env = pure false := by rfl) : Bx (PS X (.Expr e pos) (tDrop te)) := by obtain ⟨h⟩ := h; exact ⟨ps_expr h hs⟩
theorem bx_if {c : Expr} {a b : List Stmt} {tc : TT} {t u : TS} (hc : Bx (PT X c tc)) (ha : Bx (PSs X a t)) (hb : Bx (PSs X b u)) : Bx (PS X (.If c a b pos) (tIfS tc t u)) := by obtain ⟨hc⟩ := hc; obtain ⟨ha⟩ := ha; obtain ⟨hb⟩ := hb; exact ⟨ps_if hc ha hb⟩
end
end L2
namespace KK
open PySem L2 KM
section
variable {P : Program} {w : World} {K : PySem.W.Frag} {mg : Str → Option Value} {base : Heap} {tw : Tok} {aN : Addr} {C C0 : Addr} {cs : Nat → Addr}
theorem sc_rf : FnScope ["way", "thing", "word", "e"] ["way", "thing"] (defScope s_law_refused) := ⟨rfl, rfl, rfl, by decide +kernel, rfl, by decide +kernel, by decide +kernel⟩
def spRfT : Sp := fun vs H Q _ => ∃ i a f m l, vs = [.int i, .ref a] ∧ H a = some (.tup [vO f, .int m, vO l]) ∧ OkW f m l ∧ ∀ H', Same H H' → Q (.str "told") H'
theorem d3_sh : SeqAt.shaped (.list [.tuple [.int 1, .int 1], .tuple [.int 1, .int 1], .tuple [.int 0, .int 1]]) = true := by decide +kernel
theorem ok_rfT (D : Df K mg "_law_refused" s_law_refused ["way", "thing"] []) (T : TxB K mg) (O : OwnV "NoRow" C mg base) (TR : TxR K mg C C0 cs) (cMo : Cal P w K mg base "most_of" 5 ["weights"] [] spMost) (cLe : Cal P w K mg base "lets_most" 5 ["weights", "most", "numbers"] [] (spLe K)) :
    Cal P w K mg base "_law_refused" 6 ["way", "thing"] [] spRfT := by
  refine D.cal (k := 5) sc_rf (fun vs H Q E h => by obtain ⟨_, _, _, _, _, rfl, _⟩ := h; rfl) (fun f0 cdv A outer s H vs Q E hr h => ?_)
  obtain ⟨i, a, f, m, l, rfl, ha, W, k⟩ := h
  refine ⟨_, (pss_cons (ps_set (i := 2) sc_rf.nd rfl (Or.inl rfl) pe_str) (pss_cons (ps_try (i := 3) (C := C) rfl rfl O (by decide +kernel) sc_rf.nd rfl rfl (fun pins W J hJ => (bx_out (bx_one (bx_if (Bx.mk (pt_cmpR op_eq (pv 0) pe_int (nomark _))) (bx_one (bx_expr (bx_c cMo hr (bx_cons (Bx.mk (pv 1)) bx_nil)))) (bx_one (bx_expr (bx_c cLe hr (bx_cons (Bx.mk (pv 1)) (bx_cons (Bx.mk pe_int) (bx_cons (bx_lst (bx_cons (bx_tup (bx_cons (Bx.mk pe_int) (bx_cons (Bx.mk pe_int) bx_nil))) (bx_cons (bx_tup (bx_cons (Bx.mk pe_int) (bx_cons (Bx.mk pe_int) bx_nil))) (bx_cons (bx_tup (bx_cons (Bx.mk pe_int) (bx_cons (Bx.mk pe_int) bx_nil))) bx_nil)))) bx_nil)))))))))) (fun pins a oe d vs hc hdd hdt => (pss_cons (ps_set (i := 2) sc_rf.nd rfl (Or.inl rfl) pe_str) (pss_cons (ps_if (pt_truthK (K := K) rfl (pe_callB (call_isiTK (K := K) rfl (List.mem_append_right _ (List.mem_append_right _ (List.mem_singleton.mpr rfl))) hc hdd hdt TR.z) (by rfl) T.nIs PyProof.Rows.boot_isinstance (pa_cons (pv 3) (pa_cons (pe_tup (pa_cons (pe_glob (v := .ref (cs 0)) (by rfl) TR.m0 rfl) (pa_cons (pe_glob (v := .ref (cs 1)) (by rfl) TR.m1 rfl) (pa_cons (pe_glob (v := .ref (cs 2)) (by rfl) TR.m2 rfl) (pa_cons (pe_glob (v := .ref (cs 3)) (by rfl) TR.m3 rfl) (pa_cons (pe_glob (v := .ref (cs 4)) (by rfl) TR.m4 rfl) (pa_cons (pe_glob (v := .ref (cs 5)) (by rfl) TR.m5 rfl) (pa_cons (pe_glob (v := .ref (cs 6)) (by rfl) TR.m6 rfl) (pa_cons (pe_glob (v := .ref (cs 7)) (by rfl) TR.m7 rfl) (pa_cons (pe_glob (v := .ref (cs 8)) (by rfl) TR.m8 rfl) (pa_cons (pe_glob (v := .ref (cs 9)) (by rfl) TR.m9 rfl) (pa_cons (pe_glob (v := .ref (cs 10)) (by rfl) TR.m10 rfl) pa_nil)))))))))))) pa_nil))) fun _ => rfl) (pss_one (ps_set (i := 2) sc_rf.nd rfl (Or.inl rfl) pe_str)) pss_nil) (pss_one (ps_if (pw_or (pt_not (pt_truthK (K := K) rfl (pe_callB (call_isiDK (K := K) rfl (List.mem_append_right _ (List.mem_append_right _ (List.mem_singleton.mpr rfl))) hc hdd hdt TR.z) (by rfl) T.nIs PyProof.Rows.boot_isinstance (pa_cons (pv 3) (pa_cons (pe_glob (v := .ref C0) (by rfl) TR.mc rfl) pa_nil))) fun _ => rfl)) (pw_or1 (pt_not (pt_truthK (K := K) rfl (pe_callB (call_isiDK (K := K) rfl (List.mem_append_right _ (List.mem_append_right _ (List.mem_singleton.mpr rfl))) hc hdd hdt TR.z) (by rfl) T.nIs PyProof.Rows.boot_isinstance (pa_cons (pv 3) (pa_cons (pe_bltn (v := .ty "ValueError") (u := .type "ValueError") (by rfl) TR.nv (by decide +kernel) rfl) pa_nil))) fun _ => rfl)))).pt (pss_one (ps_set (i := 2) sc_rf.nd rfl (Or.inl rfl) pe_str)) pss_nil)))))) (pss_one (ps_ret (pv 2))))), ?_⟩
  refine ⟨_, rfl, rfl, _, rfl, ite2 (fun h => ?_) (fun h => ?_)⟩
  · refine ⟨_, rfl, a, f, m, l, rfl, ha, W, fun t n p ps v1 v2 H' _ _ s1 _ _ _ _ _ _ => ?_⟩
    exact ⟨_, rfl, k H' s1⟩
  · refine ⟨_, rfl, by show 2 ≤ sizeLine; decide, fun q1 h1 => ?_⟩
    refine ⟨by show 2 ≤ sizeLine; decide, fun q2 h2 => ?_⟩
    refine ⟨by show 2 ≤ sizeLine; decide, fun q3 h3 => ?_⟩
    refine ⟨by show 3 ≤ sizeLine; decide, fun l1 hl1 => ?_⟩
    have S1 := (Same.upd (o := .tup [.int 1, .int 1]) h1).trans ((Same.upd (o := .tup [.int 1, .int 1]) h2).trans ((Same.upd (o := .tup [.int 0, .int 1]) h3).trans (Same.upd (o := .lst [.ref q1, .ref q2, .ref q3]) hl1)))
    refine ⟨a, f, m, l, _, l1, _, _, rfl, S1 _ _ ha, W, .inl (.of upd_same), .cons (.tup ?_ (.cons (.int 1) (.cons (.int 1) .nil))) (.cons (.tup ?_ (.cons (.int 1) (.cons (.int 1) .nil))) (.cons (.tup ?_ (.cons (.int 0) (.cons (.int 1) .nil))) .nil)), d3_sh, fun n H' _ _ s1 => ⟨_, rfl, k H' (S1.trans s1)⟩⟩
    · exact Same.upd hl1 _ _ (Same.upd h3 _ _ (Same.upd h2 _ _ upd_same))
    · exact Same.upd hl1 _ _ (Same.upd h3 _ _ upd_same)
    · exact Same.upd hl1 _ _ upd_same
def spRfX : Sp := fun vs H Q _ => ∃ i v d, vs = [.int i, v] ∧ RdD H v d ∧ areD d = false ∧ ∀ H', Same H H' → Q (.str "row") H'
theorem ok_rfX (D : Df K mg "_law_refused" s_law_refused ["way", "thing"] []) (T : TxB K mg) (O : OwnV "NoRow" C mg base) (TR : TxR K mg C C0 cs) (cMo : Cal1 P w K mg base "most_of" 5 ["weights"] [] (spReX C)) (cLe : Cal1 P w K mg base "lets_most" 5 ["weights", "most", "numbers"] [] (spLeX C)) :
    Cal P w K mg base "_law_refused" 6 ["way", "thing"] [] spRfX := by
  refine D.cal (k := 5) sc_rf (fun vs H Q E h => by obtain ⟨_, _, _, rfl, _⟩ := h; rfl) (fun f0 cdv A outer s H vs Q E hr h => ?_)
  obtain ⟨i, v, d, rfl, hv, hd, k⟩ := h
  refine ⟨_, (pss_cons (ps_set (i := 2) sc_rf.nd rfl (Or.inl rfl) pe_str) (pss_cons (ps_try (i := 3) (C := C) rfl rfl O (by decide +kernel) sc_rf.nd rfl rfl (fun pins W J hJ => (bx_out (bx_one (bx_if (Bx.mk (pt_cmpR op_eq (pv 0) pe_int (nomark _))) (bx_one (bx_expr (bx_cx cMo hr hJ (bx_cons (Bx.mk (pv 1)) bx_nil)))) (bx_one (bx_expr (bx_cx cLe hr hJ (bx_cons (Bx.mk (pv 1)) (bx_cons (Bx.mk pe_int) (bx_cons (bx_lst (bx_cons (bx_tup (bx_cons (Bx.mk pe_int) (bx_cons (Bx.mk pe_int) bx_nil))) (bx_cons (bx_tup (bx_cons (Bx.mk pe_int) (bx_cons (Bx.mk pe_int) bx_nil))) (bx_cons (bx_tup (bx_cons (Bx.mk pe_int) (bx_cons (Bx.mk pe_int) bx_nil))) bx_nil)))) bx_nil)))))))))) (fun pins a oe d vs hc hdd hdt => (pss_cons (ps_set (i := 2) sc_rf.nd rfl (Or.inl rfl) pe_str) (pss_cons (ps_if (pt_truthK (K := K) rfl (pe_callB (call_isiTK (K := K) rfl (List.mem_append_right _ (List.mem_append_right _ (List.mem_singleton.mpr rfl))) hc hdd hdt TR.z) (by rfl) T.nIs PyProof.Rows.boot_isinstance (pa_cons (pv 3) (pa_cons (pe_tup (pa_cons (pe_glob (v := .ref (cs 0)) (by rfl) TR.m0 rfl) (pa_cons (pe_glob (v := .ref (cs 1)) (by rfl) TR.m1 rfl) (pa_cons (pe_glob (v := .ref (cs 2)) (by rfl) TR.m2 rfl) (pa_cons (pe_glob (v := .ref (cs 3)) (by rfl) TR.m3 rfl) (pa_cons (pe_glob (v := .ref (cs 4)) (by rfl) TR.m4 rfl) (pa_cons (pe_glob (v := .ref (cs 5)) (by rfl) TR.m5 rfl) (pa_cons (pe_glob (v := .ref (cs 6)) (by rfl) TR.m6 rfl) (pa_cons (pe_glob (v := .ref (cs 7)) (by rfl) TR.m7 rfl) (pa_cons (pe_glob (v := .ref (cs 8)) (by rfl) TR.m8 rfl) (pa_cons (pe_glob (v := .ref (cs 9)) (by rfl) TR.m9 rfl) (pa_cons (pe_glob (v := .ref (cs 10)) (by rfl) TR.m10 rfl) pa_nil)))))))))))) pa_nil))) fun _ => rfl) (pss_one (ps_set (i := 2) sc_rf.nd rfl (Or.inl rfl) pe_str)) pss_nil) (pss_one (ps_if (pw_or (pt_not (pt_truthK (K := K) rfl (pe_callB (call_isiDK (K := K) rfl (List.mem_append_right _ (List.mem_append_right _ (List.mem_singleton.mpr rfl))) hc hdd hdt TR.z) (by rfl) T.nIs PyProof.Rows.boot_isinstance (pa_cons (pv 3) (pa_cons (pe_glob (v := .ref C0) (by rfl) TR.mc rfl) pa_nil))) fun _ => rfl)) (pw_or1 (pt_not (pt_truthK (K := K) rfl (pe_callB (call_isiDK (K := K) rfl (List.mem_append_right _ (List.mem_append_right _ (List.mem_singleton.mpr rfl))) hc hdd hdt TR.z) (by rfl) T.nIs PyProof.Rows.boot_isinstance (pa_cons (pv 3) (pa_cons (pe_bltn (v := .ty "ValueError") (u := .type "ValueError") (by rfl) TR.nv (by decide +kernel) rfl) pa_nil))) fun _ => rfl)))).pt (pss_one (ps_set (i := 2) sc_rf.nd rfl (Or.inl rfl) pe_str)) pss_nil)))))) (pss_one (ps_ret (pv 2))))), ?_⟩
  refine ⟨_, rfl, rfl, _, rfl, ite2 (fun h => ?_) (fun h => ?_)⟩
  · refine ⟨_, rfl, v, d, rfl, hv, hd, C, rfl, rfl, fun ae hae => ?_⟩
    refine ⟨_, rfl, by show 11 ≤ sizeLine; decide, fun tp htp => ?_⟩
    refine ⟨tp, (List.range 11).map cs, false, rfl, upd_same, rfl, TR.ka, _, rfl, iteF ?_⟩
    refine ⟨_, rfl, _, _, true, rfl, rfl, rfl, fun _ z => z, TR.k0, _, rfl, iteF ?_⟩
    refine ⟨_, rfl, _, _, true, rfl, rfl, rfl, fun _ z => z, TR.kv, _, rfl, iteF ?_⟩
    exact ⟨_, rfl, k _ (Same.upd htp)⟩
  · refine ⟨_, rfl, by show 2 ≤ sizeLine; decide, fun q1 h1 => ?_⟩
    refine ⟨by show 2 ≤ sizeLine; decide, fun q2 h2 => ?_⟩
    refine ⟨by show 2 ≤ sizeLine; decide, fun q3 h3 => ?_⟩
    refine ⟨by show 3 ≤ sizeLine; decide, fun l1 hl1 => ?_⟩
    have S1 := (Same.upd (o := .tup [.int 1, .int 1]) h1).trans ((Same.upd (o := .tup [.int 1, .int 1]) h2).trans ((Same.upd (o := .tup [.int 0, .int 1]) h3).trans (Same.upd (o := .lst [.ref q1, .ref q2, .ref q3]) hl1)))
    refine ⟨v, d, _, _, rfl, hv.same S1, hd, C, rfl, rfl, fun ae hae => ?_⟩
    refine ⟨_, rfl, by show 11 ≤ sizeLine; decide, fun tp htp => ?_⟩
    refine ⟨tp, (List.range 11).map cs, false, rfl, upd_same, rfl, TR.ka, _, rfl, iteF ?_⟩
    refine ⟨_, rfl, _, _, true, rfl, rfl, rfl, fun _ z => z, TR.k0, _, rfl, iteF ?_⟩
    refine ⟨_, rfl, _, _, true, rfl, rfl, rfl, fun _ z => z, TR.kv, _, rfl, iteF ?_⟩
    exact ⟨_, rfl, k _ (S1.trans (Same.upd htp))⟩
end
end KK
end
section
set_option maxHeartbeats 8000000
set_option Elab.async false
set_option linter.all false
set_option maxRecDepth 100000
namespace L2
open PySem PySem.Spec PyProof.Rows
section
variable {X : Cx}
theorem bx_pil {tg l : Expr} {tl : TE} (h : Bx (PE X l tl)) : Bx (PI X tg l (iList X.K tl)) := by obtain ⟨h⟩ := h; exact ⟨pi_list h⟩
theorem bx_for {tg iter : Expr} {body : List Stmt} {wi : TI} {g : TG} {tb : TS} {pos : Pos} (hp : PassesOwn (model X.prog X.w) X.A X.env X.xe) (hc : X.calm = true) (hi : Bx (PI X tg iter wi)) (hg : PG X tg g) (hb : Bx (PSs X body tb))
    (hs : ∀ x, foldedSetIterable iter X.env x = pure x := by intro _; rfl) : Bx (PS X (.For tg iter body [] pos) (tFor wi g tb)) := by obtain ⟨hi⟩ := hi; obtain ⟨hb⟩ := hb; exact ⟨ps_for hp hc hi hg hb hs⟩
end
end L2
namespace KK
open PySem L2 KM
def spLaw (K : PySem.W.Frag) : Sp := fun vs H Q _ => ∃ (a : Addr) (ns : List Int), vs = [.ref a] ∧ SqL K H a (ns.map V.int) ∧ ns.length ≤ 63 ∧ ∀ H', Q (.bl true) H'
theorem ne_self (x : V) : (!decide (x = x)) = false := by simp
theorem w1_ok : OkW (some 1) 1000 (some 1) := ⟨by decide, by decide, fun x e => by cases e; decide, fun x e => by cases e; decide, .inl (by decide)⟩
theorem w2_ok : OkW (some 1000) 1000 none := ⟨by decide, by decide, fun x e => by cases e; decide, (fun x e => by cases e), .inl (by decide)⟩
theorem w3_ok : OkW none 1000 (some 1) := ⟨by decide, by decide, (fun x e => by cases e), fun x e => by cases e; decide, .inr (by decide)⟩
section
variable {P : Program} {w : World} {K : PySem.W.Frag} {mg : Str → Option Value} {base : Heap}
theorem sc_law : FnScope ["script", "weights", "cell", "pool", "thing"] ["script"] (defScope s_law) := ⟨rfl, rfl, rfl, by decide +kernel, rfl, by decide +kernel, by decide +kernel⟩
theorem ok_law {fl : Addr} {fdl : FuncData} (D : Fun K "law" "law" s_law fl fdl) (cD : Cal P w K mg base "_law_pool" 1 ["cell"] [] spDig) (cO : Cal P w K mg base "_law_odd" 2 ["pool"] [] spOd)
    (cT : Cal P w K mg base "_law_refused" 6 ["way", "thing"] [] spRfT) (cX : Cal P w K mg base "_law_refused" 6 ["way", "thing"] [] spRfX) : FnOk P w K mg base CX0 7 fl fdl ["script"] (spLaw K) := by
  refine D.ok (k := 6) sc_law (fun vs H Q E h => by obtain ⟨a, us, rfl, _⟩ := h; rfl) (fun cdv A outer s H vs Q E hr6 h => ?_)
  obtain ⟨a, ns, rfl, hS, hlen, k⟩ := h
  have hr1 : Room 1 _ := hr6.mono (by decide)
  have hr2 : Room 2 _ := hr6.mono (by decide)
  refine ⟨_, (bx_out (bx_scons (bx_for PassesOwn.never rfl (bx_pil (bx_lst (bx_cons (bx_tup (bx_cons (Bx.mk pe_int) (bx_cons (Bx.mk pe_int) (bx_cons (Bx.mk pe_int) bx_nil)))) (bx_cons (bx_tup (bx_cons (Bx.mk pe_int) (bx_cons (Bx.mk pe_int) (bx_cons (Bx.mk pe_non) bx_nil)))) (bx_cons (bx_tup (bx_cons (Bx.mk pe_non) (bx_cons (Bx.mk pe_int) (bx_cons (Bx.mk pe_int) bx_nil)))) bx_nil))))) (pg_name (i := 1) sc_law.nd rfl (Or.inl rfl)) (Bx.mk (pss_one (ps_if ((pw_or (pt_cmpR op_ne (pe_c cT hr6 (pa_cons pe_int (pa_cons (pv 1) pa_nil))) pe_str (nomark _)) (pw_or1 (pt_cmpR op_ne (pe_c cT hr6 (pa_cons pe_int (pa_cons (pv 1) pa_nil))) pe_str (nomark _))))).pt (pss_one (ps_ret pe_bl)) pss_nil)))) (bx_scons (bx_for PassesOwn.never rfl (bx_pil (bx_op op_catL (bx_lst (bx_cons (Bx.mk pe_int) bx_nil)) (Bx.mk (pv 0)))) (pg_name (i := 2) sc_law.nd rfl (Or.inl rfl)) (Bx.mk (pss_cons (ps_set (i := 3) sc_law.nd rfl (Or.inl rfl) (pe_c cD hr1 (pa_cons (pv 2) pa_nil)))
    (pss_cons (ps_set (i := 4) sc_law.nd rfl (Or.inl rfl) (pe_c cO hr2 (pa_cons (pv 3) pa_nil)))
    (pss_one (ps_if ((pw_or (pt_cmpR op_ne (pe_c cX hr6 (pa_cons pe_int (pa_cons (pv 4) pa_nil))) pe_str (nomark _)) (pw_or1 (pt_cmpR op_ne (pe_c cX hr6 (pa_cons pe_int (pa_cons (pv 4) pa_nil))) pe_str (nomark _))))).pt (pss_one (ps_ret pe_bl)) pss_nil)))))) (bx_one (bx_ret (Bx.mk pe_bl)))))), ?_⟩
  refine ⟨by show 3 ≤ sizeLine; decide, fun w1 h1 => ?_⟩
  refine ⟨by show 3 ≤ sizeLine; decide, fun w2 h2 => ?_⟩
  refine ⟨by show 3 ≤ sizeLine; decide, fun w3 h3 => ?_⟩
  refine ⟨by show 3 ≤ sizeLine; decide, fun pL hpL => ?_⟩
  obtain ⟨G0, eG0⟩ : ∃ G0, G0 = upd (upd (upd (upd H w1 (.tup [.int 1, .int 1000, .int 1])) w2 (.tup [.int 1000, .int 1000, .non])) w3 (.tup [.non, .int 1000, .int 1])) pL (.lst [.ref w1, .ref w2, .ref w3]) := ⟨_, rfl⟩
  have S0 : Same H G0 := by rw [eG0]; exact (Same.upd h1).trans ((Same.upd h2).trans ((Same.upd h3).trans (Same.upd hpL)))
  have g1 : G0 w1 = some (.tup [vO (some 1), .int 1000, vO (some 1)]) := by rw [eG0]; exact Same.upd hpL _ _ (Same.upd h3 _ _ (Same.upd h2 _ _ upd_same))
  have g2 : G0 w2 = some (.tup [vO (some 1000), .int 1000, vO none]) := by rw [eG0]; exact Same.upd hpL _ _ (Same.upd h3 _ _ upd_same)
  have g3 : G0 w3 = some (.tup [vO none, .int 1000, vO (some 1)]) := by rw [eG0]; exact Same.upd hpL _ _ upd_same
  have gL : G0 pL = some (.lst [.ref w1, .ref w2, .ref w3]) := by rw [eG0]; exact upd_same
  rw [← eG0]
  refine ⟨pL, rfl, ⟨_, SqL.of gL⟩, ?_⟩
  refine for_list (xs := [.ref w1, .ref w2, .ref w3]) (fun i σ G => ∃ z, z.length = 4 ∧ σ = some (.ref a) :: z ∧ Same G0 G) ⟨_, rfl, rfl, Same.refl _⟩ (fun i σ G _ ⟨z, _, _, h⟩ => .of (h _ _ gL)) ?_ ?_
  · rintro i x σ G hx ⟨z, hz, rfl, sG⟩
    match z, hz with
    | [z1, z2, z3, z4], _ =>
    obtain ⟨w', f, m, l, rfl, hw, W⟩ : ∃ w' f m l, x = .ref w' ∧ G0 w' = some (.tup [vO f, .int m, vO l]) ∧ OkW f m l := by
      have hm := List.mem_of_getElem? hx
      simp only [List.mem_cons, List.not_mem_nil, or_false] at hm
      rcases hm with rfl | rfl | rfl
      · exact ⟨w1, _, _, _, rfl, g1, w1_ok⟩
      · exact ⟨w2, _, _, _, rfl, g2, w2_ok⟩
      · exact ⟨w3, _, _, _, rfl, g3, w3_ok⟩
    refine ⟨_, rfl, _, w', f, m, l, rfl, sG _ _ hw, W, fun G1 s1 => ⟨rfl, _, rfl, ?_⟩⟩
    rw [ne_self]
    refine iteF ⟨_, rfl, _, w', f, m, l, rfl, s1 _ _ (sG _ _ hw), W, fun G2 s2 => ⟨rfl, _, rfl, ?_⟩⟩
    rw [ne_self]
    exact iteF ⟨_, rfl, rfl, sG.trans (s1.trans s2)⟩
  · rintro σ G ⟨z, hz, rfl, sG⟩
    match z, hz with
    | [z1, z2, z3, z4], _ =>
    dsimp only
    refine st_for ?_
    refine ⟨by show 1 ≤ sizeLine; decide, fun p0 hp0 => ?_⟩
    refine ⟨_, rfl, p0, a, _, _, rfl, rfl, .of upd_same, ((S0.trans sG).trans (Same.upd hp0)).seq hS, ?_, fun pM hpM => ?_⟩
    · refine szl ?_
      rw [List.length_map]
      show 1 + _ ≤ 1000
      omega
    refine ⟨pM, rfl, ⟨_, SqL.of upd_same⟩, ?_⟩
    obtain ⟨L, eL⟩ : ∃ L, L = [V.int 0] ++ ns.map V.int := ⟨_, rfl⟩
    have hL : ∀ v ∈ L, ∃ c : Int, v = .int c := fun v hv => by
      rw [eL] at hv
      rcases List.mem_append.mp hv with z | z
      · exact ⟨0, by simpa using z⟩
      · obtain ⟨c, _, e⟩ := List.mem_map.mp z; exact ⟨c, e.symm⟩
    rw [← eL]
    refine for_list (xs := L) (fun i σ G => ∃ z, z.length = 4 ∧ σ = some (.ref a) :: z ∧ G pM = some (.lst L)) ⟨_, rfl, rfl, upd_same⟩ (fun i σ G _ ⟨z, _, _, h⟩ => .of h) ?_ ?_
    · rintro i x σ G0 hx ⟨z, hz, rfl, hG0⟩
      obtain ⟨c, rfl⟩ := hL x (List.mem_of_getElem? hx)
      match z, hz with
      | [z1, z2, z3, z4], _ =>
      refine ⟨_, rfl, c, rfl, fun p G1 hp s1 hP => ?_⟩
      refine ⟨_, rfl, p, rfl, hP, fun v d G2 t2 rv hd => ?_⟩
      have rv2 : RdD G2 v d := rv.same del_sub
      have hM2 : G2 pM = some (.lst L) := t2.keep _ _ (s1 _ _ hG0) (fun z => by rw [z, hp] at hG0; cases hG0)
      refine ⟨_, rfl, _, v, d, rfl, rv2, hd, fun G3 s3 => ⟨rfl, _, rfl, ?_⟩⟩
      rw [ne_self]
      refine iteF ⟨_, rfl, _, v, d, rfl, rv2.same s3, hd, fun G4 s4 => ⟨rfl, _, rfl, ?_⟩⟩
      rw [ne_self]
      exact iteF ⟨_, rfl, rfl, s4 _ _ (s3 _ _ hM2)⟩
    · rintro σ G ⟨z, hz, rfl, _⟩
      exact k G
end
end KK
end
section
set_option maxHeartbeats 8000000
set_option Elab.async false
set_option linter.all false
set_option maxRecDepth 100000
namespace KK
open PySem L2 KM PySem.W
def xKB (K : Frag) (C : Addr) : Bool := findIn K (.ref C) "__getattribute__" == some (some (.builtin "BaseException.__getattribute__")) && findIn K (.ref C) "__getattr__" == some none && subIn K (.ref C) (.type "BaseException") == some true && mroIn K C (.type "object") == some true && hasDictIn K C &&
  findIn K (.ref C) "__class__" == some (some (.builtin "object.__class__")) && specialIn K (.builtin "object.__class__") "__get__" == some (some (.builtin "getset_descriptor.__get__")) && takesIn K (.builtin "object.__class__") == some true
theorem xK_of {K : Frag} {C : Addr} (h : xKB K C = true) : ExcK K C := by
  simp only [xKB, Bool.and_eq_true, beq_iff_eq] at h
  obtain ⟨⟨⟨⟨⟨⟨⟨h1, h2⟩, h3⟩, h4⟩, h5⟩, h6⟩, h7⟩, h8⟩ := h
  exact ⟨h1, h2, h3, h4, h5, h6, h7, h8⟩
theorem own_mk {K : Frag} {h : Heap} {mg : Str → Option Value} {x : Str} {C : Addr} (X : K.In h) (G : h.Ns mainGlobals mg) (e : nsIn K mainGlobals x = some (some (.ref C))) (q : excIn K C vMro "ValueError.__new__" = true) : OwnV x C mg h := by
  unfold excIn at q
  split at q
  case h_2 => cases q
  case h_1 dd cd sl ho =>
    split at q
    case h_2 => cases q
    case h_1 C' bm k0 k1 k2 k3 n k5 hm hs =>
      obtain ⟨cnm, cbs, cmro, cns, cqn, chd, csn, csub, cab, ccol, cdel⟩ := cd
      obtain ⟨sll⟩ := sl
      simp only at hm hs q
      subst hm; subst hs
      simp only [Bool.and_eq_true, beq_iff_eq, Bool.not_eq_true'] at q
      obtain ⟨⟨⟨⟨⟨eC, en⟩, ed⟩, et⟩, eo⟩, ei⟩ := q
      subst eC; subst en; subst ed
      exact ⟨mg_of X G e, bm, cns, cnm, cqn, cbs, chd, csn, csub, cab, ccol, dd, k0, k1, k2, k3, k5, _, X _ _ ho, .of_isNs (isNs_of_in X eo), nsMap_none_of_in X eo ei, tail_of_in X et⟩
end KK
end
section
set_option maxHeartbeats 8000000
set_option Elab.async false
set_option linter.all false
set_option maxRecDepth 100000
namespace KK
open PySem L2 KM
theorem kit_ii (K : PySem.W.Frag) : PySem.W.kitOne K (.type "int") (.type "int") = some true := by
  unfold PySem.W.kitOne; rw [if_pos (by decide +kernel)]
theorem kit_ib (K : PySem.W.Frag) : PySem.W.kitOne K (.type "int") (.type "bool") = some false := by
  with_unfolding_all rfl
theorem all_mk {l : PySem.W.OpenLaw} {w : World} {K : PySem.W.Frag} {h : Heap} {mg : Str → Option Value} {fa : Addr} (X : K.In h) (G : h.Ns mainGlobals mg) (hfa : mg "law" = some (.ref fa))
    {f0 : Addr} {od0 an0 : Option Addr} {sl0 : Array (Option Value)} {oc0 kV0 dc0 pm0 cd0 ct0 : Value}
    (a0 : PySem.W.nsIn K mainGlobals "is_whole" = some (some (.ref f0))) (l0 : K.lookup f0 = some ⟨oc0, od0, .func (PySem.W.fnOf "is_whole" "is_whole" (defArgs s_is_whole) (defBody s_is_whole) (defScope s_is_whole) .none kV0 dc0 pm0 an0 cd0 ct0), sl0⟩) (c0 : PySem.W.codeIn K cd0 "is_whole" = true) (k0 : PySem.W.keepIn K (.ref f0) = true)
    {f1 : Addr} {od1 an1 : Option Addr} {sl1 : Array (Option Value)} {oc1 kV1 dc1 pm1 cd1 ct1 : Value}
    (a1 : PySem.W.nsIn K mainGlobals "is_tuple" = some (some (.ref f1))) (l1 : K.lookup f1 = some ⟨oc1, od1, .func (PySem.W.fnOf "is_tuple" "is_tuple" (defArgs s_is_tuple) (defBody s_is_tuple) (defScope s_is_tuple) .none kV1 dc1 pm1 an1 cd1 ct1), sl1⟩) (c1 : PySem.W.codeIn K cd1 "is_tuple" = true) (k1 : PySem.W.keepIn K (.ref f1) = true)
    {f2 : Addr} {od2 an2 : Option Addr} {sl2 : Array (Option Value)} {oc2 kV2 dc2 pm2 cd2 ct2 : Value}
    (a2 : PySem.W.nsIn K mainGlobals "greatest_divisor" = some (some (.ref f2))) (l2 : K.lookup f2 = some ⟨oc2, od2, .func (PySem.W.fnOf "greatest_divisor" "greatest_divisor" (defArgs s_greatest_divisor) (defBody s_greatest_divisor) (defScope s_greatest_divisor) .none kV2 dc2 pm2 an2 cd2 ct2), sl2⟩) (c2 : PySem.W.codeIn K cd2 "greatest_divisor" = true) (k2 : PySem.W.keepIn K (.ref f2) = true)
    {f3 : Addr} {od3 an3 : Option Addr} {sl3 : Array (Option Value)} {oc3 kV3 dc3 pm3 cd3 ct3 : Value} {Td3 : Addr} {ocd3 : Value} {odd3 : Option Addr} {tkd3 : Tok} {nd3 : Nat} {sld3 : Array (Option Value)}
    (a3 : PySem.W.nsIn K mainGlobals "ratio" = some (some (.ref f3))) (l3 : K.lookup f3 = some ⟨oc3, od3, .func (PySem.W.fnOf "ratio" "ratio" (defArgs s_ratio) (defBody s_ratio) (defScope s_ratio) (.ref Td3) kV3 dc3 pm3 an3 cd3 ct3), sl3⟩) (c3 : PySem.W.codeIn K cd3 "ratio" = true) (k3 : PySem.W.keepIn K (.ref f3) = true)
    (ld3 : K.lookup Td3 = some ⟨ocd3, odd3, .seq #[.int 1 tkd3] nd3, sld3⟩)
    {f4 : Addr} {od4 an4 : Option Addr} {sl4 : Array (Option Value)} {oc4 kV4 dc4 pm4 cd4 ct4 : Value}
    (a4 : PySem.W.nsIn K mainGlobals "minus" = some (some (.ref f4))) (l4 : K.lookup f4 = some ⟨oc4, od4, .func (PySem.W.fnOf "minus" "minus" (defArgs s_minus) (defBody s_minus) (defScope s_minus) .none kV4 dc4 pm4 an4 cd4 ct4), sl4⟩) (c4 : PySem.W.codeIn K cd4 "minus" = true) (k4 : PySem.W.keepIn K (.ref f4) = true)
    {f5 : Addr} {od5 an5 : Option Addr} {sl5 : Array (Option Value)} {oc5 kV5 dc5 pm5 cd5 ct5 : Value}
    (a5 : PySem.W.nsIn K mainGlobals "times" = some (some (.ref f5))) (l5 : K.lookup f5 = some ⟨oc5, od5, .func (PySem.W.fnOf "times" "times" (defArgs s_times) (defBody s_times) (defScope s_times) .none kV5 dc5 pm5 an5 cd5 ct5), sl5⟩) (c5 : PySem.W.codeIn K cd5 "times" = true) (k5 : PySem.W.keepIn K (.ref f5) = true)
    {f6 : Addr} {od6 an6 : Option Addr} {sl6 : Array (Option Value)} {oc6 kV6 dc6 pm6 cd6 ct6 : Value}
    (a6 : PySem.W.nsIn K mainGlobals "over" = some (some (.ref f6))) (l6 : K.lookup f6 = some ⟨oc6, od6, .func (PySem.W.fnOf "over" "over" (defArgs s_over) (defBody s_over) (defScope s_over) .none kV6 dc6 pm6 an6 cd6 ct6), sl6⟩) (c6 : PySem.W.codeIn K cd6 "over" = true) (k6 : PySem.W.keepIn K (.ref f6) = true)
    {f7 : Addr} {od7 an7 : Option Addr} {sl7 : Array (Option Value)} {oc7 kV7 dc7 pm7 cd7 ct7 : Value}
    (a7 : PySem.W.nsIn K mainGlobals "less" = some (some (.ref f7))) (l7 : K.lookup f7 = some ⟨oc7, od7, .func (PySem.W.fnOf "less" "less" (defArgs s_less) (defBody s_less) (defScope s_less) .none kV7 dc7 pm7 an7 cd7 ct7), sl7⟩) (c7 : PySem.W.codeIn K cd7 "less" = true) (k7 : PySem.W.keepIn K (.ref f7) = true)
    {f8 : Addr} {od8 an8 : Option Addr} {sl8 : Array (Option Value)} {oc8 kV8 dc8 pm8 cd8 ct8 : Value}
    (a8 : PySem.W.nsIn K mainGlobals "floor_of" = some (some (.ref f8))) (l8 : K.lookup f8 = some ⟨oc8, od8, .func (PySem.W.fnOf "floor_of" "floor_of" (defArgs s_floor_of) (defBody s_floor_of) (defScope s_floor_of) .none kV8 dc8 pm8 an8 cd8 ct8), sl8⟩) (c8 : PySem.W.codeIn K cd8 "floor_of" = true) (k8 : PySem.W.keepIn K (.ref f8) = true)
    {f9 : Addr} {od9 an9 : Option Addr} {sl9 : Array (Option Value)} {oc9 kV9 dc9 pm9 cd9 ct9 : Value}
    (a9 : PySem.W.nsIn K mainGlobals "is_weight" = some (some (.ref f9))) (l9 : K.lookup f9 = some ⟨oc9, od9, .func (PySem.W.fnOf "is_weight" "is_weight" (defArgs s_is_weight) (defBody s_is_weight) (defScope s_is_weight) .none kV9 dc9 pm9 an9 cd9 ct9), sl9⟩) (c9 : PySem.W.codeIn K cd9 "is_weight" = true) (k9 : PySem.W.keepIn K (.ref f9) = true)
    {f10 : Addr} {od10 an10 : Option Addr} {sl10 : Array (Option Value)} {oc10 kV10 dc10 pm10 cd10 ct10 : Value}
    (a10 : PySem.W.nsIn K mainGlobals "are_weights" = some (some (.ref f10))) (l10 : K.lookup f10 = some ⟨oc10, od10, .func (PySem.W.fnOf "are_weights" "are_weights" (defArgs s_are_weights) (defBody s_are_weights) (defScope s_are_weights) .none kV10 dc10 pm10 an10 cd10 ct10), sl10⟩) (c10 : PySem.W.codeIn K cd10 "are_weights" = true) (k10 : PySem.W.keepIn K (.ref f10) = true)
    {f11 : Addr} {od11 an11 : Option Addr} {sl11 : Array (Option Value)} {oc11 kV11 dc11 pm11 cd11 ct11 : Value}
    (a11 : PySem.W.nsIn K mainGlobals "refuse_no_weights" = some (some (.ref f11))) (l11 : K.lookup f11 = some ⟨oc11, od11, .func (PySem.W.fnOf "refuse_no_weights" "refuse_no_weights" (defArgs s_refuse_no_weights) (defBody s_refuse_no_weights) (defScope s_refuse_no_weights) .none kV11 dc11 pm11 an11 cd11 ct11), sl11⟩) (c11 : PySem.W.codeIn K cd11 "refuse_no_weights" = true) (k11 : PySem.W.keepIn K (.ref f11) = true)
    {f12 : Addr} {od12 an12 : Option Addr} {sl12 : Array (Option Value)} {oc12 kV12 dc12 pm12 cd12 ct12 : Value}
    (a12 : PySem.W.nsIn K mainGlobals "kick_of" = some (some (.ref f12))) (l12 : K.lookup f12 = some ⟨oc12, od12, .func (PySem.W.fnOf "kick_of" "kick_of" (defArgs s_kick_of) (defBody s_kick_of) (defScope s_kick_of) .none kV12 dc12 pm12 an12 cd12 ct12), sl12⟩) (c12 : PySem.W.codeIn K cd12 "kick_of" = true) (k12 : PySem.W.keepIn K (.ref f12) = true)
    {f13 : Addr} {od13 an13 : Option Addr} {sl13 : Array (Option Value)} {oc13 kV13 dc13 pm13 cd13 ct13 : Value}
    (a13 : PySem.W.nsIn K mainGlobals "numbers_of" = some (some (.ref f13))) (l13 : K.lookup f13 = some ⟨oc13, od13, .func (PySem.W.fnOf "numbers_of" "numbers_of" (defArgs s_numbers_of) (defBody s_numbers_of) (defScope s_numbers_of) .none kV13 dc13 pm13 an13 cd13 ct13), sl13⟩) (c13 : PySem.W.codeIn K cd13 "numbers_of" = true) (k13 : PySem.W.keepIn K (.ref f13) = true)
    {f14 : Addr} {od14 an14 : Option Addr} {sl14 : Array (Option Value)} {oc14 kV14 dc14 pm14 cd14 ct14 : Value}
    (a14 : PySem.W.nsIn K mainGlobals "nearing_of" = some (some (.ref f14))) (l14 : K.lookup f14 = some ⟨oc14, od14, .func (PySem.W.fnOf "nearing_of" "nearing_of" (defArgs s_nearing_of) (defBody s_nearing_of) (defScope s_nearing_of) .none kV14 dc14 pm14 an14 cd14 ct14), sl14⟩) (c14 : PySem.W.codeIn K cd14 "nearing_of" = true) (k14 : PySem.W.keepIn K (.ref f14) = true)
    {f15 : Addr} {od15 an15 : Option Addr} {sl15 : Array (Option Value)} {oc15 kV15 dc15 pm15 cd15 ct15 : Value}
    (a15 : PySem.W.nsIn K mainGlobals "beginning_of" = some (some (.ref f15))) (l15 : K.lookup f15 = some ⟨oc15, od15, .func (PySem.W.fnOf "beginning_of" "beginning_of" (defArgs s_beginning_of) (defBody s_beginning_of) (defScope s_beginning_of) .none kV15 dc15 pm15 an15 cd15 ct15), sl15⟩) (c15 : PySem.W.codeIn K cd15 "beginning_of" = true) (k15 : PySem.W.keepIn K (.ref f15) = true)
    {f16 : Addr} {od16 an16 : Option Addr} {sl16 : Array (Option Value)} {oc16 kV16 dc16 pm16 cd16 ct16 : Value}
    (a16 : PySem.W.nsIn K mainGlobals "most_of" = some (some (.ref f16))) (l16 : K.lookup f16 = some ⟨oc16, od16, .func (PySem.W.fnOf "most_of" "most_of" (defArgs s_most_of) (defBody s_most_of) (defScope s_most_of) .none kV16 dc16 pm16 an16 cd16 ct16), sl16⟩) (c16 : PySem.W.codeIn K cd16 "most_of" = true) (k16 : PySem.W.keepIn K (.ref f16) = true)
    {f17 : Addr} {od17 an17 : Option Addr} {sl17 : Array (Option Value)} {oc17 kV17 dc17 pm17 cd17 ct17 : Value}
    (a17 : PySem.W.nsIn K mainGlobals "lets_most" = some (some (.ref f17))) (l17 : K.lookup f17 = some ⟨oc17, od17, .func (PySem.W.fnOf "lets_most" "lets_most" (defArgs s_lets_most) (defBody s_lets_most) (defScope s_lets_most) .none kV17 dc17 pm17 an17 cd17 ct17), sl17⟩) (c17 : PySem.W.codeIn K cd17 "lets_most" = true) (k17 : PySem.W.keepIn K (.ref f17) = true)
    {f18 : Addr} {od18 an18 : Option Addr} {sl18 : Array (Option Value)} {oc18 kV18 dc18 pm18 cd18 ct18 : Value}
    (a18 : PySem.W.nsIn K mainGlobals "_law_pool" = some (some (.ref f18))) (l18 : K.lookup f18 = some ⟨oc18, od18, .func (PySem.W.fnOf "_law_pool" "_law_pool" (defArgs s_law_pool) (defBody s_law_pool) (defScope s_law_pool) .none kV18 dc18 pm18 an18 cd18 ct18), sl18⟩) (c18 : PySem.W.codeIn K cd18 "_law_pool" = true) (k18 : PySem.W.keepIn K (.ref f18) = true)
    {f19 : Addr} {od19 an19 : Option Addr} {sl19 : Array (Option Value)} {oc19 kV19 dc19 pm19 cd19 ct19 : Value}
    (a19 : PySem.W.nsIn K mainGlobals "_law_next" = some (some (.ref f19))) (l19 : K.lookup f19 = some ⟨oc19, od19, .func (PySem.W.fnOf "_law_next" "_law_next" (defArgs s_law_next) (defBody s_law_next) (defScope s_law_next) .none kV19 dc19 pm19 an19 cd19 ct19), sl19⟩) (c19 : PySem.W.codeIn K cd19 "_law_next" = true) (k19 : PySem.W.keepIn K (.ref f19) = true)
    {f20 : Addr} {od20 an20 : Option Addr} {sl20 : Array (Option Value)} {oc20 kV20 dc20 pm20 cd20 ct20 : Value}
    (a20 : PySem.W.nsIn K mainGlobals "_law_odd" = some (some (.ref f20))) (l20 : K.lookup f20 = some ⟨oc20, od20, .func (PySem.W.fnOf "_law_odd" "_law_odd" (defArgs s_law_odd) (defBody s_law_odd) (defScope s_law_odd) .none kV20 dc20 pm20 an20 cd20 ct20), sl20⟩) (c20 : PySem.W.codeIn K cd20 "_law_odd" = true) (k20 : PySem.W.keepIn K (.ref f20) = true)
    {f21 : Addr} {od21 an21 : Option Addr} {sl21 : Array (Option Value)} {oc21 kV21 dc21 pm21 cd21 ct21 : Value}
    (a21 : PySem.W.nsIn K mainGlobals "_law_refused" = some (some (.ref f21))) (l21 : K.lookup f21 = some ⟨oc21, od21, .func (PySem.W.fnOf "_law_refused" "_law_refused" (defArgs s_law_refused) (defBody s_law_refused) (defScope s_law_refused) .none kV21 dc21 pm21 an21 cd21 ct21), sl21⟩) (c21 : PySem.W.codeIn K cd21 "_law_refused" = true) (k21 : PySem.W.keepIn K (.ref f21) = true)
    {f22 : Addr} {od22 an22 : Option Addr} {sl22 : Array (Option Value)} {oc22 kV22 dc22 pm22 cd22 ct22 : Value}
    (a22 : PySem.W.nsIn K mainGlobals "law" = some (some (.ref f22))) (l22 : K.lookup f22 = some ⟨oc22, od22, .func (PySem.W.fnOf "law" "law" (defArgs s_law) (defBody s_law) (defScope s_law) .none kV22 dc22 pm22 an22 cd22 ct22), sl22⟩) (c22 : PySem.W.codeIn K cd22 "law" = true) (k22 : PySem.W.keepIn K (.ref f22) = true)
    (z_isinstance : PySem.W.nsIn K mainGlobals "isinstance" = some none)
    (z_int : PySem.W.nsIn K mainGlobals "int" = some none)
    (z_bool : PySem.W.nsIn K mainGlobals "bool" = some none)
    (z_abs : PySem.W.nsIn K mainGlobals "abs" = some none)
    (z_len : PySem.W.nsIn K mainGlobals "len" = some none)
    (z_max : PySem.W.nsIn K mainGlobals "max" = some none)
    (z_min : PySem.W.nsIn K mainGlobals "min" = some none)
    (z_range : PySem.W.nsIn K mainGlobals "range" = some none)
    (z_tuple : PySem.W.nsIn K mainGlobals "tuple" = some none)
    (z_sum : PySem.W.nsIn K mainGlobals "sum" = some none)
    (z_zip : PySem.W.nsIn K mainGlobals "zip" = some none)
    (z_list : PySem.W.nsIn K mainGlobals "list" = some none)
    (z_ValueError : PySem.W.nsIn K mainGlobals "ValueError" = some none)
    {C_ClackError : Addr} (a_ClackError : PySem.W.nsIn K mainGlobals "ClackError" = some (some (.ref C_ClackError)))
    {C_NoRatio : Addr} (a_NoRatio : PySem.W.nsIn K mainGlobals "NoRatio" = some (some (.ref C_NoRatio)))
    {C_TooMany : Addr} (a_TooMany : PySem.W.nsIn K mainGlobals "TooMany" = some (some (.ref C_TooMany)))
    {C_NotEven : Addr} (a_NotEven : PySem.W.nsIn K mainGlobals "NotEven" = some (some (.ref C_NotEven)))
    {C_NoEnd : Addr} (a_NoEnd : PySem.W.nsIn K mainGlobals "NoEnd" = some (some (.ref C_NoEnd)))
    {C_NoBall : Addr} (a_NoBall : PySem.W.nsIn K mainGlobals "NoBall" = some (some (.ref C_NoBall)))
    {C_NoPlace : Addr} (a_NoPlace : PySem.W.nsIn K mainGlobals "NoPlace" = some (some (.ref C_NoPlace)))
    {C_NoRow : Addr} (a_NoRow : PySem.W.nsIn K mainGlobals "NoRow" = some (some (.ref C_NoRow)))
    {C_NoText : Addr} (a_NoText : PySem.W.nsIn K mainGlobals "NoText" = some (some (.ref C_NoText)))
    {C_NoOrder : Addr} (a_NoOrder : PySem.W.nsIn K mainGlobals "NoOrder" = some (some (.ref C_NoOrder)))
    {C_NoPast : Addr} (a_NoPast : PySem.W.nsIn K mainGlobals "NoPast" = some (some (.ref C_NoPast)))
    {C_Together : Addr} (a_Together : PySem.W.nsIn K mainGlobals "Together" = some (some (.ref C_Together)))
    {C_Shut : Addr} (a_Shut : PySem.W.nsIn K mainGlobals "Shut" = some (some (.ref C_Shut)))
    (x_NoRow : PySem.W.excIn K C_NoRow vMro "ValueError.__new__" = true)
    (xk : xKB K C_NoRow = true) (ka : PySem.W.kitAny K (.ref C_NoRow) [.ref C_NoBall, .ref C_NoEnd, .ref C_NoOrder, .ref C_NoPast, .ref C_NoPlace, .ref C_NoRatio, .ref C_NoText, .ref C_NotEven, .ref C_Shut, .ref C_Together, .ref C_TooMany] = some false) (q0 : PySem.W.kitOne K (.ref C_NoRow) (.ref C_ClackError) = some true) (qv : PySem.W.kitOne K (.ref C_NoRow) (.type "ValueError") = some true)
    {tk_MOST_WEIGHT : Tok} (v_MOST_WEIGHT : PySem.W.nsIn K mainGlobals "MOST_WEIGHT" = some (some (.int 1000 tk_MOST_WEIGHT)))
    {a_NOUGHT : Addr} {t1_NOUGHT t2_NOUGHT : Tok} {n_NOUGHT : Nat} {od_NOUGHT : Option Addr} {sl_NOUGHT : Array (Option Value)} (v_NOUGHT : PySem.W.nsIn K mainGlobals "NOUGHT" = some (some (.ref a_NOUGHT))) (l_NOUGHT : K.lookup a_NOUGHT = some ⟨.type "tuple", od_NOUGHT, .seq #[.int 0 t1_NOUGHT, .int 1 t2_NOUGHT] n_NOUGHT, sl_NOUGHT⟩) :
    ∃ fd : FuncData, (∀ (s : Shared) (v : Value), BindsTo s fd ⟨[v], []⟩ [("script", v)]) ∧ ∀ base : Heap, K.In base → base.Ns mainGlobals mg → FnOk l.prog w K mg base CX0 7 fa fd ["script"] (spLaw K) := by
  have e := hfa.symm.trans (PySem.W.mg_of X G a22)
  cases e
  have d_is_whole : Df K mg "is_whole" s_is_whole ["thing"] [] := df_mk l0 c0 k0 (PySem.W.mg_of X G a0) fun us hl => match us, hl with | [_], _ => rfl
  have d_is_tuple : Df K mg "is_tuple" s_is_tuple ["thing", "many"] [] := df_mk l1 c1 k1 (PySem.W.mg_of X G a1) fun us hl => match us, hl with | [_, _], _ => rfl
  have d_greatest_divisor : Df K mg "greatest_divisor" s_greatest_divisor ["one", "other"] [] := df_mk l2 c2 k2 (PySem.W.mg_of X G a2) fun us hl => match us, hl with | [_, _], _ => rfl
  have d_ratio : Df K mg "ratio" s_ratio ["top", "bottom"] [] := ⟨⟨f3, _, _, _, _, _, _, _, _, _, _, [], l3, c3, k3, PySem.W.mg_of X G a3, .nil, fun s us KX hl => match us, hl with | [_, _], _ => .of_defaults rfl (KX _ _ ld3) rfl rfl rfl⟩⟩
  have dd_ratio : Df K mg "ratio" s_ratio ["top", "bottom"] [.int 1] := ⟨⟨f3, _, _, _, _, _, _, _, _, _, _, [.int 1 tkd3], l3, c3, k3, PySem.W.mg_of X G a3, .cons ⟨_, rfl⟩ .nil, fun s us KX hl => have hl2 : us.length = 1 := (by simpa using hl); match us, hl2 with | [_], _ => .of_defaults rfl (KX _ _ ld3) rfl rfl rfl⟩⟩
  have d_minus : Df K mg "minus" s_minus ["one", "other"] [] := df_mk l4 c4 k4 (PySem.W.mg_of X G a4) fun us hl => match us, hl with | [_, _], _ => rfl
  have d_times : Df K mg "times" s_times ["one", "other"] [] := df_mk l5 c5 k5 (PySem.W.mg_of X G a5) fun us hl => match us, hl with | [_, _], _ => rfl
  have d_over : Df K mg "over" s_over ["one", "other"] [] := df_mk l6 c6 k6 (PySem.W.mg_of X G a6) fun us hl => match us, hl with | [_, _], _ => rfl
  have d_less : Df K mg "less" s_less ["one", "other"] [] := df_mk l7 c7 k7 (PySem.W.mg_of X G a7) fun us hl => match us, hl with | [_, _], _ => rfl
  have d_floor_of : Df K mg "floor_of" s_floor_of ["one"] [] := df_mk l8 c8 k8 (PySem.W.mg_of X G a8) fun us hl => match us, hl with | [_], _ => rfl
  have d_is_weight : Df K mg "is_weight" s_is_weight ["thing"] [] := df_mk l9 c9 k9 (PySem.W.mg_of X G a9) fun us hl => match us, hl with | [_], _ => rfl
  have d_are_weights : Df K mg "are_weights" s_are_weights ["thing"] [] := df_mk l10 c10 k10 (PySem.W.mg_of X G a10) fun us hl => match us, hl with | [_], _ => rfl
  have d_refuse_no_weights : Df K mg "refuse_no_weights" s_refuse_no_weights ["weights"] [] := df_mk l11 c11 k11 (PySem.W.mg_of X G a11) fun us hl => match us, hl with | [_], _ => rfl
  have d_kick_of : Df K mg "kick_of" s_kick_of ["outer", "middle"] [] := df_mk l12 c12 k12 (PySem.W.mg_of X G a12) fun us hl => match us, hl with | [_, _], _ => rfl
  have d_numbers_of : Df K mg "numbers_of" s_numbers_of ["weights"] [] := df_mk l13 c13 k13 (PySem.W.mg_of X G a13) fun us hl => match us, hl with | [_], _ => rfl
  have d_nearing_of : Df K mg "nearing_of" s_nearing_of ["weights", "numbers"] [] := df_mk l14 c14 k14 (PySem.W.mg_of X G a14) fun us hl => match us, hl with | [_, _], _ => rfl
  have d_beginning_of : Df K mg "beginning_of" s_beginning_of ["weights", "nearing"] [] := df_mk l15 c15 k15 (PySem.W.mg_of X G a15) fun us hl => match us, hl with | [_, _], _ => rfl
  have d_most_of : Df K mg "most_of" s_most_of ["weights"] [] := df_mk l16 c16 k16 (PySem.W.mg_of X G a16) fun us hl => match us, hl with | [_], _ => rfl
  have d_lets_most : Df K mg "lets_most" s_lets_most ["weights", "most", "numbers"] [] := df_mk l17 c17 k17 (PySem.W.mg_of X G a17) fun us hl => match us, hl with | [_, _, _], _ => rfl
  have d_law_pool : Df K mg "_law_pool" s_law_pool ["cell"] [] := df_mk l18 c18 k18 (PySem.W.mg_of X G a18) fun us hl => match us, hl with | [_], _ => rfl
  have d_law_next : Df K mg "_law_next" s_law_next ["pool", "base"] [] := df_mk l19 c19 k19 (PySem.W.mg_of X G a19) fun us hl => match us, hl with | [_, _], _ => rfl
  have d_law_odd : Df K mg "_law_odd" s_law_odd ["pool"] [] := df_mk l20 c20 k20 (PySem.W.mg_of X G a20) fun us hl => match us, hl with | [_], _ => rfl
  have d_law_refused : Df K mg "_law_refused" s_law_refused ["way", "thing"] [] := df_mk l21 c21 k21 (PySem.W.mg_of X G a21) fun us hl => match us, hl with | [_, _], _ => rfl
  have T : TxB K mg := ⟨kit_ii K, kit_ib K, PySem.W.mg_none_of X G z_isinstance, PySem.W.mg_none_of X G z_int, PySem.W.mg_none_of X G z_bool, PySem.W.mg_none_of X G z_abs, PySem.W.mg_none_of X G z_len, PySem.W.mg_none_of X G z_max, PySem.W.mg_none_of X G z_min, PySem.W.mg_none_of X G z_range, PySem.W.mg_none_of X G z_tuple, PySem.W.mg_none_of X G z_sum⟩
  have F := fun_mk (st := s_law) l22 c22 k22
  refine ⟨PySem.W.fnOf "law" "law" (defArgs s_law) (defBody s_law) (defScope s_law) .none kV22 dc22 pm22 an22 cd22 ct22, fun s v => .of_eq rfl, fun base hKb hGb => ?_⟩
  have TM : TxM K mg tk_MOST_WEIGHT a_NOUGHT := ⟨PySem.W.mg_none_of X G z_zip, PySem.W.mg_of X G v_MOST_WEIGHT, PySem.W.mg_of X G v_NOUGHT, ⟨_, _, _, _, l_NOUGHT, rfl, rfl⟩⟩
  have O := own_mk hKb hGb a_NoRow x_NoRow
  have TR : TxR K mg C_NoRow C_ClackError (fun i => ([C_NoBall, C_NoEnd, C_NoOrder, C_NoPast, C_NoPlace, C_NoRatio, C_NoText, C_NotEven, C_Shut, C_Together, C_TooMany] : List Addr).getD i 0) := ⟨PySem.W.mg_of X G a_NoBall, PySem.W.mg_of X G a_NoEnd, PySem.W.mg_of X G a_NoOrder, PySem.W.mg_of X G a_NoPast, PySem.W.mg_of X G a_NoPlace, PySem.W.mg_of X G a_NoRatio, PySem.W.mg_of X G a_NoText, PySem.W.mg_of X G a_NotEven, PySem.W.mg_of X G a_Shut, PySem.W.mg_of X G a_Together, PySem.W.mg_of X G a_TooMany, ka, xK_of xk, q0, qv, PySem.W.mg_of X G a_ClackError, PySem.W.mg_none_of X G z_ValueError⟩
  have cWt := ok_whole (P := l.prog) (w := w) (base := base) d_is_whole T
  have cW := ok_wholeD (P := l.prog) (w := w) (base := base) d_is_whole T
  have cG := ok_gcd (P := l.prog) (w := w) (base := base) d_greatest_divisor
  have cTu := ok_tuD (P := l.prog) (w := w) (base := base) d_is_tuple T
  have cR := ok_ratio d_ratio T cWt cG
  have cR1 := ok_ratio dd_ratio T cWt cG
  have cM := ok_minus d_minus cR
  have cT := ok_times d_times cR
  have cO := ok_over d_over cR
  have cL := ok_less (P := l.prog) (w := w) (base := base) d_less
  have cF := ok_fl (P := l.prog) (w := w) (base := base) d_floor_of
  have cIw := ok_iw d_is_weight TM cW
  have cA := ok_aw d_are_weights cTu cIw
  have cRe := ok_re d_refuse_no_weights cA
  have cK := ok_ki d_kick_of cR cR1
  have cNu := ok_nu d_numbers_of T TM cT cK cR1 cL cM
  have cNe := ok_ne d_nearing_of T TM cT cK cO cF cM
  have cBe := ok_bg d_beginning_of T TM cR1
  have cMo := ok_most d_most_of T cRe cNu cBe cNe
  have cD := ok_dig (P := l.prog) (w := w) (base := base) d_law_pool T
  have cN := ok_next (P := l.prog) (w := w) (base := base) d_law_next
  have cOd := ok_od d_law_odd T cN
  have cReX := ok_reX d_refuse_no_weights O cA
  have cMoX := ok_moX d_most_of cReX
  have cLeX := ok_leX d_lets_most cReX
  have cLe := ok_le d_lets_most T (PySem.W.mg_none_of X G z_list) cRe cNu
  have cT1 := ok_rfT d_law_refused T O TR cMo cLe
  have cX1 := ok_rfX d_law_refused T O TR cMoX cLeX
  exact ok_law F cD cOd cT1 cX1
theorem walk {l : PySem.W.OpenLaw} {q : Program} {loose : List Str} {XP : (Str → Option Value) → Heap → Prop} {YP : World → Heap → Prop} {d : DefRec} {K : Params → PySem.W.Frag} (hn : l.most = some 63) (hdf : d.params.defaults = [])
    (hY : ∀ (w : World) (h : Heap), YP w h → (K w.params).In h)
    (F : ∀ (w : World) (mg : Str → Option Value) (fa : Addr) (h : Heap), (K w.params).In h → h.Ns mainGlobals mg → mg d.name = some (.ref fa) →
      ∃ fd : FuncData, (∀ (s : Shared) (u : Value), BindsTo s fd ⟨[u], []⟩ [("script", u)]) ∧ ∀ base : Heap, (K w.params).In base → base.Ns mainGlobals mg → FnOk l.prog w (K w.params) mg base CX0 7 fa fd ["script"] (spLaw (K w.params))) :
    PySem.W.WalkO q loose XP YP l.row.toRowW d [] (fun f vs => PySem.call f vs) :=
  L2.walk_of (n := 63) (k := 7) (x := "script") (CX := fun _ => CX0) (sp := fun w => spLaw (K w.params)) hn (by decide) hdf ⟨rfl, by decide, by decide⟩ hY F (fun _ _ a ns hl _ hS => ⟨a, ns, rfl, hS, hl, fun _ => rfl⟩) fun _ _ _ _ _ z => z
end KK
open PySem PySem.W PyProof.Rows
set_option maxRecDepth 100000 in
set_option maxHeartbeats 0 in
theorem PySem.Challenge.cw_clackrow_k50_no_three_weights_holds : PySem.Challenge.rw_clackrow_k50_no_three_weights.Holds := by
  w_on; o_law; k_head; (case hw => w_witness2)
  k_fill
  refine KK.walk (l := PySem.Challenge.rw_clackrow_k50_no_three_weights) rfl rfl (fun w h Y => PySem.W.kIn_of Y) ?F
  case F =>
    intro w mg fa h KX G hmg
    refine' KK.all_mk KX G hmg ?a0 ?l0 ?c0 ?k0 ?a1 ?l1 ?c1 ?k1 ?a2 ?l2 ?c2 ?k2 ?a3 ?l3 ?c3 ?k3 ?ld3 ?a4 ?l4 ?c4 ?k4 ?a5 ?l5 ?c5 ?k5 ?a6 ?l6 ?c6 ?k6 ?a7 ?l7 ?c7 ?k7 ?a8 ?l8 ?c8 ?k8 ?a9 ?l9 ?c9 ?k9 ?a10 ?l10 ?c10 ?k10 ?a11 ?l11 ?c11 ?k11 ?a12 ?l12 ?c12 ?k12 ?a13 ?l13 ?c13 ?k13 ?a14 ?l14 ?c14 ?k14 ?a15 ?l15 ?c15 ?k15 ?a16 ?l16 ?c16 ?k16 ?a17 ?l17 ?c17 ?k17 ?a18 ?l18 ?c18 ?k18 ?a19 ?l19 ?c19 ?k19 ?a20 ?l20 ?c20 ?k20 ?a21 ?l21 ?c21 ?k21 ?a22 ?l22 ?c22 ?k22 ?z_isinstance ?z_int ?z_bool ?z_abs ?z_len ?z_max ?z_min ?z_range ?z_tuple ?z_sum ?z_zip ?z_list ?z_ValueError ?a_ClackError ?a_NoRatio ?a_TooMany ?a_NotEven ?a_NoEnd ?a_NoBall ?a_NoPlace ?a_NoRow ?a_NoText ?a_NoOrder ?a_NoPast ?a_Together ?a_Shut ?x_NoRow ?xk ?ka ?q0 ?qv ?v_MOST_WEIGHT ?v_NOUGHT ?l_NOUGHT
    (case a0 => k_is)
    (case l0 => k_is)
    (case c0 => k_is)
    (case k0 => k_is)
    (case a1 => k_is)
    (case l1 => k_is)
    (case c1 => k_is)
    (case k1 => k_is)
    (case a2 => k_is)
    (case l2 => k_is)
    (case c2 => k_is)
    (case k2 => k_is)
    (case a3 => k_is)
    (case l3 => k_is)
    (case c3 => k_is)
    (case k3 => k_is)
    (case ld3 => k_is)
    (case a4 => k_is)
    (case l4 => k_is)
    (case c4 => k_is)
    (case k4 => k_is)
    (case a5 => k_is)
    (case l5 => k_is)
    (case c5 => k_is)
    (case k5 => k_is)
    (case a6 => k_is)
    (case l6 => k_is)
    (case c6 => k_is)
    (case k6 => k_is)
    (case a7 => k_is)
    (case l7 => k_is)
    (case c7 => k_is)
    (case k7 => k_is)
    (case a8 => k_is)
    (case l8 => k_is)
    (case c8 => k_is)
    (case k8 => k_is)
    (case a9 => k_is)
    (case l9 => k_is)
    (case c9 => k_is)
    (case k9 => k_is)
    (case a10 => k_is)
    (case l10 => k_is)
    (case c10 => k_is)
    (case k10 => k_is)
    (case a11 => k_is)
    (case l11 => k_is)
    (case c11 => k_is)
    (case k11 => k_is)
    (case a12 => k_is)
    (case l12 => k_is)
    (case c12 => k_is)
    (case k12 => k_is)
    (case a13 => k_is)
    (case l13 => k_is)
    (case c13 => k_is)
    (case k13 => k_is)
    (case a14 => k_is)
    (case l14 => k_is)
    (case c14 => k_is)
    (case k14 => k_is)
    (case a15 => k_is)
    (case l15 => k_is)
    (case c15 => k_is)
    (case k15 => k_is)
    (case a16 => k_is)
    (case l16 => k_is)
    (case c16 => k_is)
    (case k16 => k_is)
    (case a17 => k_is)
    (case l17 => k_is)
    (case c17 => k_is)
    (case k17 => k_is)
    (case a18 => k_is)
    (case l18 => k_is)
    (case c18 => k_is)
    (case k18 => k_is)
    (case a19 => k_is)
    (case l19 => k_is)
    (case c19 => k_is)
    (case k19 => k_is)
    (case a20 => k_is)
    (case l20 => k_is)
    (case c20 => k_is)
    (case k20 => k_is)
    (case a21 => k_is)
    (case l21 => k_is)
    (case c21 => k_is)
    (case k21 => k_is)
    (case a22 => k_is)
    (case l22 => k_is)
    (case c22 => k_is)
    (case k22 => k_is)
    (case z_isinstance => k_is)
    (case z_int => k_is)
    (case z_bool => k_is)
    (case z_abs => k_is)
    (case z_len => k_is)
    (case z_max => k_is)
    (case z_min => k_is)
    (case z_range => k_is)
    (case z_tuple => k_is)
    (case z_sum => k_is)
    (case z_zip => k_is)
    (case z_list => k_is)
    (case z_ValueError => k_is)
    (case a_ClackError => k_is)
    (case a_NoRatio => k_is)
    (case a_TooMany => k_is)
    (case a_NotEven => k_is)
    (case a_NoEnd => k_is)
    (case a_NoBall => k_is)
    (case a_NoPlace => k_is)
    (case a_NoRow => k_is)
    (case a_NoText => k_is)
    (case a_NoOrder => k_is)
    (case a_NoPast => k_is)
    (case a_Together => k_is)
    (case a_Shut => k_is)
    (case x_NoRow => k_exc)
    (case xk => kernel_rfl)
    (case ka => kernel_rfl)
    (case q0 => kernel_rfl)
    (case qv => kernel_rfl)
    (case v_MOST_WEIGHT => k_is)
    (case v_NOUGHT => k_is)
    (case l_NOUGHT => k_is)
end
