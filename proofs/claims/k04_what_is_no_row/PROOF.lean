import PyProof.Rows.All
import Wide.All
import OpenK.AllK
import Wide.FinOn
import Lean
import PyProof.EqAt
import PyProof.EqKinds
import PyProof.TupleCall
import PyProof.CompFree
import PyProof.Rows.SumAny
import PyProof.ZipIter
import PyProof.ConsumeWalk
import PySem.Challenge.RW_clackrow_k04_what_is_no_row
set_option Elab.async false
set_option linter.all false
set_option maxRecDepth 100000
namespace L2
open PySem PySem.Spec PyProof.Rows

abbrev Key := Sum Int Str
def keyIs : Key → Value → Bool
  | .inl k, v => Value.isInt k v
  | .inr x, v => Value.isStrOf x v
def keyH (w : World) : Key → Int
  | .inl k => hashInt k
  | .inr x => hashStr w x
theorem keyIs_shape : ∀ {k : Key} {v : Value}, keyIs k v = true → (∃ i t, k = Sum.inl i ∧ v = Value.int i t) ∨ (∃ x t, k = Sum.inr x ∧ v = Value.str x t)
  | .inl i, v, h => by
    obtain ⟨t, e⟩ := Value.isInt_shape (k := i) (v := v) h
    exact .inl ⟨i, t, rfl, e⟩
  | .inr x, v, h => by
    obtain ⟨t, e⟩ := Value.isStrOf_shape (x := x) (v := v) h
    exact .inr ⟨x, t, rfl, e⟩
theorem key_ll (a b : Int) : decide ((Sum.inl a : Key) = Sum.inl b) = (a == b) := by
  by_cases e : a = b
  · subst e; simp
  · have h : ¬ (Sum.inl a : Key) = Sum.inl b := fun q => e (Sum.inl.inj q)
    rw [decide_eq_false h]
    exact (beq_eq_false_iff_ne.mpr e).symm
theorem key_rr (a b : Str) : decide ((Sum.inr a : Key) = Sum.inr b) = decide (a = b) := by
  by_cases e : a = b
  · subst e; simp
  · have h : ¬ (Sum.inr a : Key) = Sum.inr b := fun q => e (Sum.inr.inj q)
    rw [decide_eq_false h, decide_eq_false e]
theorem key_lr (a : Int) (b : Str) : decide ((Sum.inl a : Key) = Sum.inr b) = false := decide_eq_false (fun q => nomatch q)
theorem key_rl (a : Str) (b : Int) : decide ((Sum.inr a : Key) = Sum.inl b) = false := decide_eq_false (fun q => nomatch q)

def mixKind (prog : Program) (w : World) : PySem.KeyKind prog w Key where
  is := keyIs
  hash := keyH w
  inj := fun v a b ha hb => by
    rcases keyIs_shape ha with ⟨i, t, rfl, rfl⟩ | ⟨x, t, rfl, rfl⟩
    · rcases keyIs_shape hb with ⟨j, u, rfl, e⟩ | ⟨y, u, rfl, e⟩
      · injection e with e1 _; rw [e1]
      · exact nomatch e
    · rcases keyIs_shape hb with ⟨j, u, rfl, e⟩ | ⟨y, u, rfl, e⟩
      · exact nomatch e
      · injection e with e1 _; rw [e1]
  byValue := fun k v h => by
    rcases keyIs_shape h with ⟨i, t, rfl, rfl⟩ | ⟨x, t, rfl, rfl⟩ <;> rfl
  pyHash := fun hv h => by
    rcases keyIs_shape hv with ⟨i, t, rfl, rfl⟩ | ⟨x, t, rfl, rfl⟩
    · exact wpAny_pyHash_int h
    · exact wpAny_pyHash_str h
  eqBool := fun hu hv h => by
    rcases keyIs_shape hu with ⟨i, t, rfl, rfl⟩ | ⟨x, t, rfl, rfl⟩
    · rcases keyIs_shape hv with ⟨j, u, rfl, rfl⟩ | ⟨y, u, rfl, rfl⟩
      · rw [key_ll] at h; exact wpAny_eqBool_int h
      · rw [key_lr] at h; exact SeqAt.EqAt.int_str i t y u _ _ _ _ h
    · rcases keyIs_shape hv with ⟨j, u, rfl, rfl⟩ | ⟨y, u, rfl, rfl⟩
      · rw [key_rl] at h; exact SeqAt.EqAt.str_int x t j u _ _ _ _ h
      · rw [key_rr] at h; exact wpAny_eqBool_str h
  «strs» := fun k x t v h => by
    rcases keyIs_shape h with ⟨i, u, rfl, e⟩ | ⟨y, u, rfl, e⟩
    · exact nomatch e
    · injection e with e1 _
      subst e1
      cases v <;> rfl

end L2

namespace L2
open PySem PySem.Spec PyProof.Rows

inductive V where
  | non | bl (b : Bool) | int (i : Int) | str (x : Str) | byt (b : Array UInt8) | flt (b : UInt64) | ref (a : Addr) | ty (n : String)
  deriving DecidableEq

def RelV : V → Value → Prop
  | .non, u => u = Value.none
  | .bl b, u => u = Value.bool b
  | .int i, u => ∃ t, u = Value.int i t
  | .str x, u => ∃ t, u = Value.str x t
  | .byt b, u => ∃ t, u = Value.bytes b t
  | .flt b, u => ∃ t, u = Value.float b t
  | .ref a, u => u = Value.ref a
  | .ty n, u => u = Value.type n

abbrev Vals : List V → List Value → Prop := Paired RelV
theorem Vals.length {xs : List V} {us : List Value} (r : Vals xs us) : xs.length = us.length := Paired.length r
theorem Vals.get : ∀ {xs : List V} {us : List Value} {i : Nat} {x : V}, Vals xs us → xs[i]? = some x → ∃ u, us[i]? = some u ∧ RelV x u
  | _, _, _, _, .nil, e => by simp at e
  | _, _, 0, _, .cons r _, e => by simp at e; subst e; exact ⟨_, rfl, r⟩
  | _, _, i + 1, x, .cons _ t, e => by
    obtain ⟨u, h1, h2⟩ := Vals.get (i := i) (x := x) t (by simpa using e)
    exact ⟨u, by simpa using h1, h2⟩
theorem Vals.set {x : V} {u : Value} (r : RelV x u) : ∀ {xs : List V} {us : List Value} (i : Nat), Vals xs us → Vals (xs.set i x) (us.set i u)
  | _, _, _, .nil => .nil
  | _, _, 0, .cons _ t => .cons r t
  | _, _, i + 1, .cons q t => .cons q (Vals.set r i t)
theorem Vals.append : ∀ {xs ys : List V} {us ws : List Value}, Vals xs us → Vals ys ws → Vals (xs ++ ys) (us ++ ws)
  | _, _, _, _, .nil, s => s
  | _, _, _, _, .cons r t, s => .cons r (Vals.append t s)
theorem Vals.take : ∀ {xs : List V} {us : List Value} (n : Nat), Vals xs us → Vals (xs.take n) (us.take n)
  | _, _, 0, _ => .nil
  | _, _, _ + 1, .nil => .nil
  | _, _, n + 1, .cons r t => .cons r (Vals.take n t)
theorem Vals.drop : ∀ {xs : List V} {us : List Value} (n : Nat), Vals xs us → Vals (xs.drop n) (us.drop n)
  | _, _, 0, r => r
  | _, _, _ + 1, .nil => .nil
  | _, _, n + 1, .cons _ t => Vals.drop n t
def RelO : Option V → Option Value → Prop
  | some v, some u => RelV v u
  | none, none => True
  | _, _ => False
def KV {κ : Type} : List (κ × V) → List (κ × Value) → Prop := Paired fun (p : κ × V) (q : κ × Value) => p.1 = q.1 ∧ RelV p.2 q.2

def kV : Key → V
  | .inl i => .int i
  | .inr x => .str x

inductive HO where
  /-- a list -/
  | lst (xs : List V)
  /-- a tuple (never changes) -/
  | tup (xs : List V)
  /-- a dict whose keys are ints and texts; one whose keys are tuples of ints and texts (the empty one is both) -/
  | dK (kvs : List (Key × V)) | dT (kvs : List (List Key × V))
  /-- a set of ints: its members, its size -/
  | set (S : Int → Bool) (n : Nat)
  /-- an instance of the class at C, its dict at dx, its attributes -/
  | ins (C dx : Addr) (fs : List (Str × V))
  /-- the dict of the instance at x -/
  | own (x : Addr)
  /-- the dict of an exception -/
  | xd (fs : List (Str × V))
  /-- a bound method, f of x -/
  | met (f x : Addr)
  /-- a range object lo, lo + 1, .. below hi -/
  | rng (lo hi : Int)
  /-- a thing that is known to the object (the script; a dict while a loop walks it): read, never written while it is so -/
  | frz (o : Obj) (u : HO)
  /-- a code object's table -/
  | tbl (ps : Array Value)
  /-- any other thing, by what is true of its one object (a def of one's own: SetO a S n := HO.ext fun h => ..) -/
  | ext (φ : Heap → Prop)

abbrev Hp := Addr → Option HO
def upd (H : Hp) (a : Addr) (o : HO) : Hp := fun b => if b = a then some o else H b
theorem upd_same {H : Hp} {a : Addr} {o : HO} : upd H a o a = some o := by unfold upd; rw [if_pos rfl]
theorem upd_ne {H : Hp} {a b : Addr} {o : HO} (h : b ≠ a) : upd H a o b = H b := by unfold upd; rw [if_neg h]
theorem ne_of {H : Hp} {a b : Addr} {o u : HO} (h : H a = some o) (h' : H b = some u) (d : o ≠ u) : a ≠ b := by
  intro e; subst e; rw [h] at h'; exact d (Option.some.inj h')
theorem ne_of_none {H : Hp} {a b : Addr} {o : HO} (h : H a = some o) (h' : H b = none) : a ≠ b := by
  intro e; subst e; rw [h] at h'; cases h'

section
variable (P : Program) (w : World)
def ObjOk (H : Hp) (h : Heap) (a : Addr) : HO → Prop
  | .lst xs => xs.length ≤ sizeLine ∧ ∃ (its : List Value) (n : Nat), Vals xs its ∧ h.get? a = some { cls := .type "list", data := .seq its.toArray n }
  | .tup xs => xs.length ≤ sizeLine ∧ ∃ its : List Value, Vals xs its ∧ IsTup h a its.toArray
  | .dK kvs => kvs.length ≤ sizeLine ∧ (a == sysModules) = false ∧ ∃ vs, KV kvs vs ∧ h.DictOf (mixKind P w) a vs
  | .dT kvs => kvs.length ≤ sizeLine ∧ (a == sysModules) = false ∧ ∃ xs : List (List Key × Addr × Value),
      Paired (fun (p : List Key × V) (q : List Key × Addr × Value) => p.1 = q.1 ∧ H q.2.1 = some (.tup (p.1.map kV)) ∧ RelV p.2 q.2.2) kvs xs ∧
      ∃ o es ep, h.get? a = some o ∧ o.ExactDict ∧ o.data = .dict es ep ∧ es.toList = xs.map (entryOfKey (tupleKind (mixKind P w))) ∧ (xs.map (·.1)).Nodup
  | .set S n => h.SetOf (intKind P w) a S n
  | .ins C dx fs => H dx = some (.own a) ∧ fs.length ≤ 1000 ∧ dx ≠ a ∧ h.get? a = some (PySem.W.instObj C dx) ∧
      ∃ mA, h.Ns1 dx mA ∧ (∀ f, RelO (fs.lookup f) (mA f)) ∧ PySem.Within mA (fs.map (·.1))
  | .own _ => ∃ o, h.get? a = some o
  | .xd fs => ∃ mA, h.Ns1 a mA ∧ ∀ f, RelO (fs.lookup f) (mA f)
  | .rng lo hi => ∃ t u v, h.get? a = some { cls := .type "range", data := .fields #[.int lo t, .int hi u, .int 1 v] }
  | .frz o u => h.get? a = some o ∧ ObjOk H h a u
  | .tbl ps => h.get? a = some { cls := .none, data := .fields ps }
  | .met f x => h.get? a = some (PySem.W.methodObj (.ref f) (.ref x))
  | .ext φ => φ h ∧ (∃ o, h.get? a = some o) ∧ ∀ h1 h2 : Heap, φ h1 → (∀ o, h1.get? a = some o → h2.get? a = some o) → φ h2
def HOk (H : Hp) (h : Heap) : Prop := ∀ a o, H a = some o → ObjOk P w H h a o
end

section
variable {P : Program} {w : World} {H H' : Hp} {h h' : Heap} {a : Addr} {o : HO}
theorem ObjOk.lt (x : ObjOk P w H h a o) : a < h.objs.size := by
  cases o with
  | lst xs => obtain ⟨_, _, _, _, e⟩ := x; exact Heap.lt_size e
  | tup xs => obtain ⟨_, _, _, p⟩ := x; exact p.lt
  | dK kvs => obtain ⟨_, _, _, _, o, _, _, e, _⟩ := x; exact Heap.lt_size e
  | dT kvs => obtain ⟨_, _, _, _, o, _, _, e, _⟩ := x; exact Heap.lt_size e
  | set S n => obtain ⟨o, _, _, _, e, _⟩ := x; exact Heap.lt_size e
  | ins C dx fs => obtain ⟨_, _, _, e, _⟩ := x; exact Heap.lt_size e
  | own y => obtain ⟨_, e⟩ := x; exact Heap.lt_size e
  | xd fs => obtain ⟨_, ⟨_, _, _, e, _⟩, _⟩ := x; exact Heap.lt_size e
  | rng lo hi => obtain ⟨_, _, _, e⟩ := x; exact Heap.lt_size e
  | frz ob u => obtain ⟨e, _⟩ := x; exact Heap.lt_size e
  | tbl ps => exact Heap.lt_size (show h.get? a = some _ from x)
  | met f y => exact Heap.lt_size (show h.get? a = some _ from x)
  | ext φ => obtain ⟨_, ⟨_, e⟩, _⟩ := x; exact Heap.lt_size e
theorem Paired.mapP {α β : Type} {F G : α → β → Prop} : ∀ {l₁ : List α} {l₂ : List β}, Paired F l₁ l₂ → (∀ a b, F a b → G a b) → Paired G l₁ l₂
  | _, _, .nil, _ => .nil
  | _, _, .cons r t, f => .cons (f _ _ r) (Paired.mapP t f)
theorem ObjOk.stay (x : ObjOk P w H h a o) (k : ∀ b u, (b = a ∨ H b = some (.own a)) → h.get? b = some u → h'.get? b = some u)
    (ho : ∀ b, H b = some (.own a) → H' b = some (.own a)) (ht : ∀ b xs, H b = some (.tup xs) → H' b = some (.tup xs)) : ObjOk P w H' h' a o := by
  induction o with
  | lst xs => obtain ⟨z, its, n, r, e⟩ := x; exact ⟨z, its, n, r, k _ _ (.inl rfl) e⟩
  | tup xs => obtain ⟨z, its, r, ob, e, c⟩ := x; exact ⟨z, its, r, ob, k _ _ (.inl rfl) e, c⟩
  | dK kvs => obtain ⟨z, y, vs, r, ob, es, ep, e, c⟩ := x; exact ⟨z, y, vs, r, ob, es, ep, k _ _ (.inl rfl) e, c⟩
  | dT kvs =>
    obtain ⟨z, y, xs, r, ob, es, ep, e, c⟩ := x
    exact ⟨z, y, xs, Paired.mapP r fun p q z => ⟨z.1, ht _ _ z.2.1, z.2.2⟩, ob, es, ep, k _ _ (.inl rfl) e, c⟩
  | set S n => obtain ⟨ob, es, ep, t, e, c⟩ := x; exact ⟨ob, es, ep, t, k _ _ (.inl rfl) e, c⟩
  | ins C dx fs =>
    obtain ⟨d, z, ne, e, mA, ⟨od, es, ep, e2, c⟩, r⟩ := x
    exact ⟨ho _ d, z, ne, k _ _ (.inl rfl) e, mA, ⟨od, es, ep, k _ _ (.inr d) e2, c⟩, r⟩
  | own y => obtain ⟨ob, e⟩ := x; exact ⟨ob, k _ _ (.inl rfl) e⟩
  | xd fs => obtain ⟨mA, ⟨od, es, ep, e, c⟩, r⟩ := x; exact ⟨mA, ⟨od, es, ep, k _ _ (.inl rfl) e, c⟩, r⟩
  | rng lo hi => obtain ⟨t, u, v, e⟩ := x; exact ⟨t, u, v, k _ _ (.inl rfl) e⟩
  | frz ob u ih => obtain ⟨e, q⟩ := x; exact ⟨k _ _ (.inl rfl) e, ih q⟩
  | tbl ps =>
    have e : h.get? a = some { cls := .none, data := .fields ps } := x
    show h'.get? a = some { cls := .none, data := .fields ps }
    exact k a _ (.inl rfl) e
  | met f y =>
    have e : h.get? a = some (PySem.W.methodObj (.ref f) (.ref y)) := x
    show h'.get? a = some (PySem.W.methodObj (.ref f) (.ref y))
    exact k a _ (.inl rfl) e
  | ext φ => obtain ⟨p, ⟨o, e⟩, st⟩ := x; exact ⟨st _ _ p fun o q => k _ _ (.inl rfl) q, ⟨o, k _ _ (.inl rfl) e⟩, st⟩
theorem HOk.lt (x : HOk P w H h) (e : H a = some o) : a < h.objs.size := (x a o e).lt
theorem HOk.fresh (x : HOk P w H h) (e : h.objs.size ≤ a) : H a = none := by
  cases q : H a with
  | none => rfl
  | some u => exact absurd (Nat.lt_of_lt_of_le (x.lt q) e) (Nat.lt_irrefl _)
theorem HOk.kept (x : HOk P w H h) (k : ∀ b u, h.get? b = some u → h'.get? b = some u) : HOk P w H h' := fun a o e =>
  (x a o e).stay (fun b u _ q => k b u q) (fun _ q => q) fun _ _ q => q
theorem HOk.laid (x : HOk P w H h) (k : ∀ b u, h.get? b = some u → h'.get? b = some u) (hp : h.objs.size ≤ a) (new : ObjOk P w (upd H a o) h' a o) : HOk P w (upd H a o) h' := fun b u e => by
  have hn := x.fresh hp
  by_cases hb : b = a
  · subst hb; rw [upd_same] at e; cases e; exact new
  · rw [upd_ne hb] at e
    exact (x b u e).stay (fun c v _ q => k c v q) (fun c q => by rw [upd_ne (ne_of_none q hn)]; exact q) fun c xs q => by rw [upd_ne (ne_of_none q hn)]; exact q
end

def Rd (H : Hp) (a : Addr) (u : HO) : Prop := H a = some u ∨ ∃ o, H a = some (.frz o u)
theorem Rd.of {H : Hp} {a : Addr} {u : HO} (h : H a = some u) : Rd H a u := .inl h
theorem Rd.ok {P : Program} {w : World} {H : Hp} {h : Heap} {a : Addr} {u : HO} (r : Rd H a u) (x : HOk P w H h) : ObjOk P w H h a u := by
  rcases r with r | ⟨o, r⟩
  · exact x a u r
  · obtain ⟨_, q⟩ := x a _ r
    exact q
def Mut : Option HO → Prop
  | some (.lst _) => True
  | some (.dK _) => True
  | some (.dT _) => True
  | some (.set _ _) => True
  | some (.ins _ _ _) => True
  | some (.ext _) => True
  | _ => False
section
variable {P : Program} {w : World} {H : Hp} {h h' : Heap} {x e : Addr} {o' : HO}
theorem HOk.write (ok : HOk P w H h) (mu : Mut (H x)) (he : e = x ∨ H e = some (.own x)) (k : ∀ b u, b ≠ e → h.get? b = some u → h'.get? b = some u) (heo : ∃ u, h'.get? e = some u)
    (new : ObjOk P w (upd H x o') h' x o') : HOk P w (upd H x o') h' := fun b u q => by
  have nown : ∀ c y, H c = some (.own y) → c ≠ x := fun c y r z => by subst z; rw [r] at mu; exact mu
  have ntup : ∀ c xs, H c = some (.tup xs) → c ≠ x := fun c xs r z => by subst z; rw [r] at mu; exact mu
  by_cases hb : b = x
  · subst hb; rw [upd_same] at q; cases q; exact new
  · rw [upd_ne hb] at q
    by_cases hbe : b = e
    · have q' : H b = some (.own x) := by
        rcases he with z | z
        · exact absurd (hbe.trans z) hb
        · rw [hbe]; exact z
      rw [q] at q'; cases q'
      obtain ⟨v, hv⟩ := heo
      exact ⟨v, by rw [hbe]; exact hv⟩
    · refine (ok b u q).stay (fun c v hc r => k c v ?_ r) (fun c r => by rw [upd_ne (nown c b r)]; exact r) fun c xs r => by rw [upd_ne (ntup c xs r)]; exact r
      rcases hc with rfl | hc
      · exact hbe
      · rintro rfl
        rcases he with z | z
        · exact nown c b hc z
        · rw [hc] at z; cases z; exact hb rfl
end

structure Un (fs ex : List Addr) (H H' : Hp) (h h' : Heap) : Prop where
  keep : ∀ b o, h.get? b = some o → H b = none → b ∉ fs → b ∉ ex → h'.get? b = some o
  slot : ∀ b o, h.get? b = some o → H b = none → b ∈ fs → b ∉ ex → ∃ sl, h'.get? b = some { o with slots := sl }
  free : ∀ b o, h.get? b = some o → H b = none → b ∉ ex → H' b = none
  there : ∀ b o, h.get? b = some o → b ∉ ex → ∃ o', h'.get? b = some o'
  tups : ∀ b xs, H b = some (.tup xs) → H' b = some (.tup xs)
  frzs : ∀ b o u, H b = some (.frz o u) → H' b = some (.frz o u)
  tbls : ∀ b ps, H b = some (.tbl ps) → ∃ more, H' b = some (.tbl (ps ++ more))
section
variable {fs fs' ex ex' : List Addr} {H H1 H2 : Hp} {h h1 h2 h' : Heap} {a x e : Addr} {o : HO}
theorem Un.any (u : Un fs ex H H1 h h1) {b : Addr} {ob : Obj} (q : h.get? b = some ob) (n : H b = none) (hx : b ∉ ex) : ∃ sl, h1.get? b = some { ob with slots := sl } := by
  by_cases hb : b ∈ fs
  · exact u.slot b ob q n hb hx
  · exact ⟨ob.slots, u.keep b ob q n hb hx⟩
theorem Un.trans (a : Un fs ex H H1 h h1) (b : Un fs ex H1 H2 h1 h2) : Un fs ex H H2 h h2 where
  keep := fun c ob q n hc hx => b.keep c ob (a.keep c ob q n hc hx) (a.free c ob q n hx) hc hx
  slot := fun c ob q n hc hx => by
    obtain ⟨sl, e1⟩ := a.slot c ob q n hc hx
    obtain ⟨sl', e2⟩ := b.slot c _ e1 (a.free c ob q n hx) hc hx
    exact ⟨sl', e2⟩
  free := fun c ob q n hx => by
    obtain ⟨o', e1⟩ := a.there c ob q hx
    exact b.free c o' e1 (a.free c ob q n hx) hx
  there := fun c ob q hx => by
    obtain ⟨o', e1⟩ := a.there c ob q hx
    exact b.there c o' e1 hx
  tups := fun c xs q => b.tups c xs (a.tups c xs q)
  frzs := fun c ob xs q => b.frzs c ob xs (a.frzs c ob xs q)
  tbls := fun c ps q => by
    obtain ⟨m1, e1⟩ := a.tbls c ps q
    obtain ⟨m2, e2⟩ := b.tbls c _ e1
    exact ⟨m1 ++ m2, by rw [e2, Array.append_assoc]⟩
theorem Un.kept (k : ∀ b u, h.get? b = some u → h'.get? b = some u) : Un fs ex H H h h' :=
  ⟨fun b ob q _ _ _ => k b ob q, fun b ob q _ _ _ => ⟨ob.slots, k b ob q⟩, fun _ _ _ n _ => n, fun b ob q _ => ⟨ob, k b ob q⟩, fun _ _ q => q, fun _ _ _ q => q, fun _ ps q => ⟨#[], by rw [q]; simp⟩⟩
theorem Un.refl : Un fs ex H H h h := Un.kept fun _ _ q => q
theorem Un.laid (k : ∀ b u, h.get? b = some u → h'.get? b = some u) (hp : h.objs.size ≤ a) (hn : H a = none) : Un fs ex H (upd H a o) h h' where
  keep := fun b u q _ _ _ => k b u q
  slot := fun b u q _ _ _ => ⟨u.slots, k b u q⟩
  free := fun b u q n _ => by rw [upd_ne (Nat.ne_of_lt (Nat.lt_of_lt_of_le (Heap.lt_size q) hp))]; exact n
  there := fun b u q _ => ⟨u, k b u q⟩
  tups := fun b xs q => by rw [upd_ne (ne_of_none q hn)]; exact q
  frzs := fun b u xs q => by rw [upd_ne (ne_of_none q hn)]; exact q
  tbls := fun b ps q => ⟨#[], by rw [upd_ne (ne_of_none q hn), q]; simp⟩
theorem Un.write (mu : Mut (H x)) (he : e = x ∨ H e = some (.own x)) (k : ∀ b u, b ≠ e → h.get? b = some u → h'.get? b = some u) (heo : ∃ u, h'.get? e = some u) : Un fs ex H (upd H x o) h h' := by
  have hx : ∀ b, H b = none → b ≠ x := fun b n z => by subst z; rw [n] at mu; exact mu
  have hb : ∀ b, H b = none → b ≠ e := fun b n z => by
    subst z
    rcases he with r | r
    · exact hx b n r
    · rw [n] at r; cases r
  have hm : ∀ b u, H b = some u → ¬ Mut (some u) → b ≠ x := fun b u q nm z => by subst z; rw [q] at mu; exact nm mu
  refine ⟨fun b u q n _ _ => k b u (hb b n) q, fun b u q n _ _ => ⟨u.slots, k b u (hb b n) q⟩, fun b u q n _ => by rw [upd_ne (hx b n)]; exact n, fun b u q _ => ?_,
    fun b xs q => by rw [upd_ne (hm b _ q fun z => z)]; exact q, fun b u xs q => by rw [upd_ne (hm b _ q fun z => z)]; exact q, fun b ps q => ⟨#[], by rw [upd_ne (hm b _ q fun z => z), q]; simp⟩⟩
  by_cases hbe : b = e
  · subst hbe; exact heo
  · exact ⟨u, k b u hbe q⟩
theorem Un.mono (u : Un fs ex H H1 h h1) (hs : ∀ b ∈ fs, b ∈ fs') (hx : ∀ b ∈ ex, b ∈ ex') : Un fs' ex' H H1 h h1 :=
  ⟨fun b ob q n hb he => u.keep b ob q n (fun z => hb (hs b z)) fun z => he (hx b z), fun _ _ q n _ he => u.any q n fun z => he (hx _ z), fun b ob q n he => u.free b ob q n fun z => he (hx b z), fun b ob q he => u.there b ob q fun z => he (hx b z), u.tups, u.frzs, u.tbls⟩
end

def trk (h : Heap) (H : Hp) : List Addr := (List.range h.objs.size).filter fun a => (H a).isSome
def hidT (h : Heap) (H : Hp) : Heap := PySem.W.hideAll h (trk h H)
theorem hidT_size (h : Heap) (H : Hp) : (hidT h H).objs.size = h.objs.size := PySem.W.hideAll_size _ _
theorem hidT_get {h : Heap} {H : Hp} {b : Addr} {o : Obj} (e : h.get? b = some o) (n : H b = none) : (hidT h H).get? b = some o :=
  PySem.W.hideAll_get _ e fun hm => by
    have q : (H b).isSome = true := (List.mem_filter.mp hm).2
    rw [n] at q; simp at q
theorem of_hidT {h : Heap} {H : Hp} {b : Addr} {o : Obj} (e : (hidT h H).get? b = some o) : h.get? b = some o ∧ H b = none := by
  have e' : h.get? b = some o := PySem.W.of_hideAll (trk h H) e
  refine ⟨e', ?_⟩
  cases q : H b with
  | none => rfl
  | some x =>
    have hm : b ∈ trk h H := List.mem_filter.mpr ⟨List.mem_range.mpr (Heap.lt_size e'), by simp [q]⟩
    have z : (hidT h H).get? b = none := PySem.W.hideAll_none (trk h H) hm
    rw [z] at e; cases e

def allNews (g h : Heap) (L : Addr) : List (Addr × Obj) := (List.range h.objs.size).filterMap fun a => if a = L ∨ (g.get? a).isSome = true then none else (h.get? a).map fun o => (a, o)
def rest (g h : Heap) (L d : Addr) : List (Addr × Obj) := (allNews g h L).filter fun p => decide (p.1 ≠ d)
end L2

namespace L2
open PySem PySem.Spec PyProof.Rows

structure Mod (K : PySem.W.Frag) (mg : Str → Option Value) (base : Heap) : Prop where
  kin : K.In base
  glob : base.Ns mainGlobals mg
  blt : ∃ mb, base.Ns builtinsNs mb ∧ ∀ x : Str, x ≠ "__name__" → mb x = bootBuiltins x
  nolimit : base.NoLimit

structure Cx where
  prog : Program
  w : World
  K : PySem.W.Frag
  mg : Str → Option Value
  base : Heap
  A : Around
  N : List Str
  s₀ : Shared
  H₀ : Hp
  env : Env
  outer : List Env
  stack : List Env
  ex : List Addr
  fn : Str → Bool
  calm : Bool
  pn : List (Addr × Obj)
  xe : Value → Shared → Prop
def frs (l : List Env) : List Addr := l.filterMap (·.frame)
abbrev Cx.fs (X : Cx) : List Addr := frs X.outer

def Vis (sc : Scope) (x : Str) : Prop := sc.names.lookup x = some .local ∨ sc.names.lookup x = some .cell ∨ sc.names.lookup x = some .free
def Loc (sc : Scope) (x : Str) : Prop := sc.names.lookup x = some .local ∨ sc.names.lookup x = some .cell
def Look (env : Env) (h : Heap) (m : Str → Option Value) (x : Str) (u : Value) : Prop :=
  (env.kindOf x = some .local ∧ m x = some u) ∨ ((env.kindOf x = some .cell ∨ env.kindOf x = some .free) ∧ ∃ c, env.cells.lookup x = some c ∧ h.IsCell c (some u))

structure Cx.Ok (X : Cx) : Prop where
  mod : Mod X.K X.mg X.base
  kind : X.env.scope.kind = .function
  glob : X.env.globals = mainGlobals
  blt : X.env.builtins = builtinsNs
  above : X.s₀.heap.objs.size ≤ X.env.locals
  inj : ∀ x y c, X.env.cells.lookup x = some c → X.env.cells.lookup y = some c → x = y
  has : ∀ x, (X.env.kindOf x = some .cell ∨ X.env.kindOf x = some .free) → ∃ c, X.env.cells.lookup x = some c
  cab : ∀ x c, X.fn x = true → X.env.cells.lookup x = some c → X.s₀.heap.objs.size ≤ c
  hd : X.calm = true → X.A.handled = none
  frames : X.A.frames = some X.stack
  stk : X.stack = X.outer ∨ (X.stack = X.env :: X.outer ∧ X.env.frame = some X.env.locals)
  exf : ∀ b ∈ X.ex, b ≠ X.env.locals ∧ ∀ x c, X.env.cells.lookup x = some c → c ≠ b
  bs : ∀ b o, X.base.get? b = some o → X.s₀.heap.get? b = some o ∧ X.H₀ b = none
  bsz : X.base.objs.size ≤ X.s₀.heap.objs.size
  noex : ∀ b o, X.base.get? b = some o → b ∉ X.ex
  exfs : ∀ b ∈ X.ex, b ∉ X.fs
  funs : X.s₀.heap.FunFrames X.base X.outer
  frf : ∀ b ∈ X.fs, X.H₀ b = none

structure Inv (X : Cx) (pins : List (Addr × Obj)) (σ : List (Option V)) (H : Hp) (s : Shared) : Prop where
  ok : X.Ok
  os : s.os = X.s₀.os
  bare : AllBare s.gens
  base : Un X.fs X.ex X.H₀ H X.s₀.heap s.heap
  loc : ∃ m, s.heap.Ns X.env.locals m ∧ ∀ (i : Nat) (x : Str) (v : V), X.N[i]? = some x → σ[i]? = some (some v) → Vis X.env.scope x → ∃ u, RelV v u ∧ Look X.env s.heap m x u
  cell : ∀ x c, X.env.cells.lookup x = some c → ∃ v, s.heap.IsCell c v
  free : H X.env.locals = none
  freeC : ∀ x c, X.env.cells.lookup x = some c → H c = none
  pin : ∀ p ∈ X.pn ++ pins, s.heap.get? p.1 = some p.2 ∧ H p.1 = none ∧ p.1 ≠ X.env.locals ∧ p.1 ∉ X.fs ∧ ∀ v, p.2.data ≠ .cell v
  hok : HOk X.prog X.w H s.heap
  len : σ.length = X.N.length

section
variable {X : Cx} {pins : List (Addr × Obj)} {σ : List (Option V)} {H H' : Hp} {s : Shared} {h' : Heap}

theorem Cx.Ok.nofr (ok : X.Ok) {b : Addr} {o : Obj} (e : X.base.get? b = some o) : b ∉ X.fs := fun hb => by
  have := (ok.funs.mem hb).1
  rw [e] at this; cases this
theorem Inv.bs (I : Inv X pins σ H s) : ∀ b o, X.base.get? b = some o → s.heap.get? b = some o ∧ H b = none := fun b o e =>
  ⟨I.base.keep b o (I.ok.bs b o e).1 (I.ok.bs b o e).2 (I.ok.nofr e) (I.ok.noex b o e), I.base.free b o (I.ok.bs b o e).1 (I.ok.bs b o e).2 (I.ok.noex b o e)⟩
theorem Inv.bk (I : Inv X pins σ H s) : ∀ b o, X.base.get? b = some o → s.heap.get? b = some o := fun b o e => (I.bs b o e).1
theorem Inv.mod (I : Inv X pins σ H s) : Mod X.K X.mg X.base := I.ok.mod
theorem Inv.kIn (I : Inv X pins σ H s) : X.K.In s.heap := I.ok.mod.kin.keeps I.bk
theorem Inv.nolimit (I : Inv X pins σ H s) : s.heap.NoLimit := I.ok.mod.nolimit.keeps I.bk
theorem Inv.lt (I : Inv X pins σ H s) : X.env.locals < s.heap.objs.size := let ⟨_, hn, _⟩ := I.loc; hn.lt
theorem Inv.sz (I : Inv X pins σ H s) : X.s₀.heap.objs.size ≤ s.heap.objs.size := Nat.le_trans I.ok.above (Nat.le_of_lt I.lt)
theorem Inv.nofs (I : Inv X pins σ H s) {a : Addr} (h : s.heap.objs.size ≤ a) : a ∉ X.fs := fun hb => by
  obtain ⟨_, o, ho, _⟩ := I.ok.funs.mem hb
  exact absurd (Nat.lt_of_lt_of_le (Heap.lt_size ho) (Nat.le_trans I.sz h)) (Nat.lt_irrefl _)
theorem Inv.cne (I : Inv X pins σ H s) : ∀ x c, X.env.cells.lookup x = some c → c ≠ X.env.locals := fun x c e z => by
  obtain ⟨v, o, ho, hd⟩ := I.cell x c e
  obtain ⟨m, ⟨o', es, ep, ho', hd', _⟩, _⟩ := I.loc
  rw [z, ho'] at ho; cases ho; rw [hd'] at hd; cases hd
theorem Inv.funs (I : Inv X pins σ H s) : s.heap.FunFrames X.base X.outer := by
  have all : ∀ (l : List Env), (∀ b ∈ frs l, b ∈ X.fs) → X.s₀.heap.FunFrames X.base l → s.heap.FunFrames X.base l := by
    intro l
    induction l with
    | nil => intro _ _; trivial
    | cons env r ih =>
      intro hs hl
      obtain ⟨hk, ⟨L, o, hf, hn, ho, hd⟩, hr⟩ := hl
      have hL : L ∈ X.fs := hs L (by unfold frs; rw [List.filterMap_cons, hf]; exact List.mem_cons_self)
      obtain ⟨sl, e⟩ := I.base.slot L o ho (I.ok.frf L hL) hL fun z => I.ok.exfs L z hL
      exact ⟨hk, ⟨L, _, hf, hn, e, hd⟩, ih (fun b hb => hs b (by unfold frs; rw [List.filterMap_cons, hf]; exact List.mem_cons_of_mem _ hb)) hr⟩
  exact all X.outer (fun _ hb => hb) I.ok.funs

theorem Inv.stack (I : Inv X pins σ H s) : s.heap.FunFrames X.base X.stack := by
  rcases I.ok.stk with e | ⟨e, hf⟩
  · rw [e]; exact I.funs
  · rw [e]
    obtain ⟨m, hn, _⟩ := I.loc
    refine .cons (by rw [I.ok.kind]; decide) hf hn ?_ I.funs
    exact Heap.get?_none_of_le (Nat.le_trans I.ok.bsz I.ok.above)
theorem Inv.stkSub (I : Inv X pins σ H s) : ∀ b ∈ frs X.stack, b ∈ X.env.locals :: X.fs := fun b hb => by
  rcases I.ok.stk with e | ⟨e, hf⟩
  · rw [e] at hb; exact List.mem_cons_of_mem _ hb
  · rw [e] at hb
    unfold frs at hb
    rw [List.filterMap_cons, hf] at hb
    exact hb
theorem Inv.stkFree (I : Inv X pins σ H s) : ∀ b ∈ frs X.stack, H b = none := fun b hb => by
  rcases List.mem_cons.mp (I.stkSub b hb) with e | hb
  · rw [e]; exact I.free
  · obtain ⟨_, o, ho, _⟩ := I.ok.funs.mem hb
    exact I.base.free b o ho (I.ok.frf b hb) fun z => I.ok.exfs b z hb

theorem Inv.step {g' : Array GenState} {t' : Nat} {d' : Drawn} {ch : List Addr} (I : Inv X pins σ H s)
    (hch : ∀ b ∈ ch, (b ∈ X.ex ∨ X.s₀.heap.objs.size ≤ b) ∧ b ≠ X.env.locals ∧ (∀ x c, X.env.cells.lookup x = some c → c ≠ b) ∧ ∀ p ∈ X.pn ++ pins, p.1 ≠ b)
    (keep : ∀ b o, b ≠ X.env.locals → b ∉ X.fs → b ∉ ch → s.heap.get? b = some o → H b = none → h'.get? b = some o)
    (slot : ∀ b o, b ≠ X.env.locals → b ∈ X.fs → b ∉ ch → s.heap.get? b = some o → H b = none → ∃ sl, h'.get? b = some { o with slots := sl }) (free : ∀ b o, b ∉ ch → s.heap.get? b = some o → H b = none → H' b = none)
    (there : ∀ b o, b ∉ ch → s.heap.get? b = some o → ∃ o', h'.get? b = some o')
    (tups : ∀ b xs, H b = some (.tup xs) → H' b = some (.tup xs)) (frzs : ∀ b o u, H b = some (.frz o u) → H' b = some (.frz o u)) (tbls : ∀ b ps, H b = some (.tbl ps) → ∃ more, H' b = some (.tbl (ps ++ more)))
    (ns : ∀ m, s.heap.Ns X.env.locals m → h'.Ns X.env.locals m) (hok : HOk X.prog X.w H' h') (hg : AllBare g') :
    Inv X pins σ H' { s with heap := h', gens := g', drawn := d', toks := t' } := by
  have neL : ∀ b o, X.s₀.heap.get? b = some o → b ≠ X.env.locals := fun b o e => Nat.ne_of_lt (Nat.lt_of_lt_of_le (Heap.lt_size e) I.ok.above)
  have neC : ∀ b o, X.s₀.heap.get? b = some o → b ∉ X.ex → b ∉ ch := fun b o e hx hb => by
    rcases (hch b hb).1 with z | z
    · exact hx z
    · exact absurd (Nat.lt_of_lt_of_le (Heap.lt_size e) z) (Nat.lt_irrefl _)
  have cellK : ∀ x c, X.env.cells.lookup x = some c → ∀ v, s.heap.IsCell c v → h'.IsCell c v := fun x c e v ⟨o, ho, hd⟩ => by
    have nch : c ∉ ch := fun z => (hch c z).2.2.1 x c e rfl
    by_cases hc : c ∈ X.fs
    · obtain ⟨sl, q⟩ := slot c o (I.cne x c e) hc nch ho (I.freeC x c e)
      exact ⟨_, q, hd⟩
    · exact ⟨o, keep c o (I.cne x c e) hc nch ho (I.freeC x c e), hd⟩
  refine ⟨I.ok, I.os, hg, ⟨fun b o e n hb hx => ?_, fun b o e n hb hx => ?_, fun b o e n hx => ?_, fun b o e hx => ?_, fun b xs e => tups b xs (I.base.tups b xs e), fun b o xs e => frzs b o xs (I.base.frzs b o xs e), fun b ps e => ?_⟩, ?_, fun x c e => ?_, ?_, fun x c e => ?_, fun p hp => ?_, hok, I.len⟩
  · exact keep b o (neL b o e) hb (neC b o e hx) (I.base.keep b o e n hb hx) (I.base.free b o e n hx)
  · obtain ⟨sl, e1⟩ := I.base.slot b o e n hb hx
    obtain ⟨sl', e2⟩ := slot b _ (neL b o e) hb (neC b o e hx) e1 (I.base.free b o e n hx)
    exact ⟨sl', e2⟩
  · obtain ⟨o', e1⟩ := I.base.there b o e hx
    exact free b o' (neC b o e hx) e1 (I.base.free b o e n hx)
  · obtain ⟨o', e1⟩ := I.base.there b o e hx
    exact there b o' (neC b o e hx) e1
  · obtain ⟨m1, e1⟩ := I.base.tbls b ps e
    obtain ⟨m2, e2⟩ := tbls b _ e1
    exact ⟨m1 ++ m2, by rw [e2, Array.append_assoc]⟩
  · obtain ⟨m, hn, hl⟩ := I.loc
    refine ⟨m, ns m hn, fun i x v e1 e2 e3 => ?_⟩
    obtain ⟨u, r, l⟩ := hl i x v e1 e2 e3
    refine ⟨u, r, ?_⟩
    rcases l with l | ⟨k, c, e, z⟩
    · exact .inl l
    · exact .inr ⟨k, c, e, cellK x c e _ z⟩
  · obtain ⟨v, z⟩ := I.cell x c e
    exact ⟨v, cellK x c e v z⟩
  · obtain ⟨m, ⟨o, _, _, ho, _⟩, _⟩ := I.loc
    exact free _ o (fun z => (hch _ z).2.1 rfl) ho I.free
  · obtain ⟨v, o, ho, hd⟩ := I.cell x c e
    exact free c o (fun z => (hch c z).2.2.1 x c e rfl) ho (I.freeC x c e)
  · obtain ⟨e, n, ne, nf, d⟩ := I.pin p hp
    have nch : p.1 ∉ ch := fun z => (hch p.1 z).2.2.2 p hp rfl
    exact ⟨keep p.1 p.2 ne nf nch e n, free p.1 p.2 nch e n, ne, nf, d⟩
theorem Inv.un {t' : Nat} (I : Inv X pins σ H s) (u : Un X.fs [] H H' s.heap h') (hok : HOk X.prog X.w H' h') : Inv X pins σ H' { s with heap := h', toks := t' } := by
  obtain ⟨m, ⟨o, es, ep, ho, r⟩, _⟩ := id I.loc
  obtain ⟨sl, hL⟩ := u.any ho I.free (by simp)
  exact I.step (g' := s.gens) (d' := s.drawn) (ch := []) (fun _ z => nomatch z) (fun b o _ hb _ e n => u.keep b o e n hb (by simp)) (fun b o _ hb _ e n => u.slot b o e n hb (by simp)) (fun b o _ e n => u.free b o e n (by simp)) (fun b o _ e => u.there b o e (by simp)) u.tups u.frzs u.tbls (fun m' hm => by
    obtain ⟨o', es', ep', ho', r'⟩ := hm
    rw [ho] at ho'; cases ho'
    exact ⟨_, es', ep', hL, r'⟩) hok I.bare
theorem Inv.call {g' : Array GenState} {t' : Nat} {d' : Drawn} {ch : List Addr} (I : Inv X pins σ H s) (u : Un (frs X.stack) ch H H' s.heap h') (hok : HOk X.prog X.w H' h') (hg : AllBare g')
    (hch : ∀ b ∈ ch, (b ∈ X.ex ∨ X.s₀.heap.objs.size ≤ b) ∧ b ≠ X.env.locals ∧ (∀ x c, X.env.cells.lookup x = some c → c ≠ b) ∧ ∀ p ∈ X.pn ++ pins, p.1 ≠ b) :
    Inv X pins σ H' { s with heap := h', gens := g', drawn := d', toks := t' } := by
  obtain ⟨m, ⟨o, es, ep, ho, r⟩, _⟩ := id I.loc
  obtain ⟨sl, hL⟩ := u.any ho I.free fun z => (hch _ z).2.1 rfl
  exact I.step (ch := ch) hch (fun b o hL hb hc e n => u.keep b o e n (fun z => (List.mem_cons.mp (I.stkSub b z)).elim hL hb) hc) (fun b o _ _ hc e n => u.any e n hc) (fun b o hc e n => u.free b o e n hc) (fun b o hc e => u.there b o e hc) u.tups u.frzs u.tbls (fun m' hm => by
    obtain ⟨o', es', ep', ho', r'⟩ := hm
    rw [ho] at ho'; cases ho'
    exact ⟨_, es', ep', hL, r'⟩) hok hg
theorem Inv.turned {t' : Nat} {it : Addr} (I : Inv X pins σ H s) (k : ∀ b o, b ≠ it → s.heap.get? b = some o → h'.get? b = some o) (hn : H it = none) (hL : it ≠ X.env.locals)
    (h1 : it ∈ X.ex ∨ X.s₀.heap.objs.size ≤ it) (h2 : ∀ x c, X.env.cells.lookup x = some c → c ≠ it) (h3 : ∀ p ∈ X.pn ++ pins, p.1 ≠ it) : Inv X pins σ H { s with heap := h', toks := t' } := by
  have nit : ∀ b u, H b = some u → b ≠ it := fun b u e z => by rw [z, hn] at e; cases e
  refine I.step (g' := s.gens) (d' := s.drawn) (ch := [it]) (fun b hb => ?_) (fun b o _ _ hc e _ => k b o (fun z => hc (by simp [z])) e) (fun b o _ _ hc e _ => ⟨o.slots, k b o (fun z => hc (by simp [z])) e⟩) (fun _ _ _ _ n => n)
    (fun b o hc e => ⟨o, k b o (fun z => hc (by simp [z])) e⟩) (fun _ _ e => e) (fun _ _ _ e => e) (fun b ps e => ⟨#[], by rw [e]; simp⟩) (fun m hm => ?_) (fun b u e => ?_) I.bare
  · have e : b = it := by simpa using hb
    subst e
    exact ⟨h1, hL, h2, h3⟩
  · obtain ⟨o, es, ep, ho, r⟩ := hm
    exact ⟨o, es, ep, k _ o (Ne.symm hL) ho, r⟩
  · refine (I.hok b u e).stay (fun c v hc q => k c v ?_ q) (fun _ q => q) fun _ _ q => q
    rcases hc with z | z
    · rw [z]; exact nit b u e
    · exact nit c _ z
theorem Inv.tok (I : Inv X pins σ H s) (t : Nat) : Inv X pins σ H { s with toks := t } := I.un (h' := s.heap) (t' := t) Un.refl I.hok
theorem Inv.kept {t' : Nat} (I : Inv X pins σ H s) (k : ∀ b u, s.heap.get? b = some u → h'.get? b = some u) : Inv X pins σ H { s with heap := h', toks := t' } := I.un (Un.kept k) (I.hok.kept k)
theorem Inv.laid {a : Addr} {o : HO} {t' : Nat} (I : Inv X pins σ H s) (k : ∀ b u, s.heap.get? b = some u → h'.get? b = some u) (hp : s.heap.objs.size ≤ a) (new : ObjOk X.prog X.w (upd H a o) h' a o) :
    Inv X pins σ (upd H a o) { s with heap := h', toks := t' } := I.un (Un.laid k hp (I.hok.fresh hp)) (I.hok.laid k hp new)
theorem Inv.write {x e : Addr} {o : HO} {t' : Nat} (I : Inv X pins σ H s) (mu : Mut (H x)) (he : e = x ∨ H e = some (.own x)) (k : ∀ b u, b ≠ e → s.heap.get? b = some u → h'.get? b = some u) (heo : ∃ u, h'.get? e = some u)
    (new : ObjOk X.prog X.w (upd H x o) h' x o) : Inv X pins σ (upd H x o) { s with heap := h', toks := t' } := I.un (Un.write mu he k heo) (I.hok.write mu he k heo new)
theorem Inv.pins_of {pins' : List (Addr × Obj)} (I : Inv X pins σ H s) (h : ∀ p ∈ pins', s.heap.get? p.1 = some p.2 ∧ H p.1 = none ∧ p.1 ≠ X.env.locals ∧ p.1 ∉ X.fs ∧ ∀ v, p.2.data ≠ .cell v) : Inv X pins' σ H s :=
  ⟨I.ok, I.os, I.bare, I.base, I.loc, I.cell, I.free, I.freeC, fun p hp => (List.mem_append.mp hp).elim (fun z => I.pin p (List.mem_append_left _ z)) (h p), I.hok, I.len⟩

theorem nodup_ix {N : List Str} (hN : N.Nodup) {i j : Nat} {x : Str} (a : N[i]? = some x) (b : N[j]? = some x) : i = j := by
  obtain ⟨h1, e1⟩ := List.getElem?_eq_some_iff.mp a
  obtain ⟨h2, e2⟩ := List.getElem?_eq_some_iff.mp b
  exact (List.getElem_inj hN).mp (e1.trans e2.symm)

theorem store_ok2 {M : Model} {A : Around} {E : Value → Shared → Prop} {i : Nat} {x : Str} {v : V} {u : Value} {Q : Unit → Shared → Prop} (I : Inv X pins σ H s) (hN : X.N.Nodup) (hi : X.N[i]? = some x) (hx : Loc X.env.scope x) (r : RelV v u)
    (h : ∀ s', Inv X pins (σ.set i (some v)) H s' → (∃ a, Heap.SameBut a s.heap s'.heap ∧ (a = X.env.locals ∨ X.env.cells.lookup x = some a)) → Q () s') (hf : X.fn x = true ∨ X.env.scope.names.lookup x = some .local := by first | exact .inl rfl | exact .inr rfl | assumption) : wpAny M A (storeName X.env x u) Q E s := by
  obtain ⟨m, hn, hl⟩ := id I.loc
  have hcls : (X.env.scope.kind == .class || (X.env.scope.kind == .module && X.env.locals != X.env.globals)) = false := by rw [I.ok.kind]; rfl
  have hiσ : i < σ.length := by rw [I.len]; exact (List.getElem?_eq_some_iff.mp hi).1
  have cne := I.cne
  have tracked : ∀ {a : Addr} {h' : Heap}, (∃ o, s.heap.get? a = some o ∧ H a = none) → Heap.SameBut a s.heap h' → HOk X.prog X.w H h' := fun {a h'} ha hs b ob e => by
    obtain ⟨_, _, hfree⟩ := ha
    refine (I.hok b ob e).stay (fun c w' hc q => (hs.2 c ?_).trans q) (fun _ q => q) fun _ _ q => q
    rintro rfl
    rcases hc with rfl | hc
    · rw [hfree] at e; cases e
    · rw [hfree] at hc; cases hc
  rcases hx with hk | hk
  · refine wpAny_storeName_local hk hn (fun h' hn' hs => ?_) hcls
    obtain ⟨oL, _, _, hoL, _⟩ := id hn
    refine h _ ⟨I.ok, I.os, I.bare, ⟨fun b o e n hb hx => ?_, fun b o e n hb hx => ?_, I.base.free, fun b o e hx => ?_, I.base.tups, I.base.frzs, I.base.tbls⟩, ⟨_, hn', fun j y v' e1 e2 e3 => ?_⟩, fun y c e => ?_, I.free, I.freeC, fun p hp => ?_, tracked ⟨oL, hoL, I.free⟩ hs, by simpa using I.len⟩ ⟨_, hs, .inl rfl⟩
    · exact (hs.2 b (Nat.ne_of_lt (Nat.lt_of_lt_of_le (Heap.lt_size e) I.ok.above))).trans (I.base.keep b o e n hb hx)
    · obtain ⟨sl, e1⟩ := I.base.slot b o e n hb hx
      exact ⟨sl, (hs.2 b (Nat.ne_of_lt (Nat.lt_of_lt_of_le (Heap.lt_size e) I.ok.above))).trans e1⟩
    · obtain ⟨o', e1⟩ := I.base.there b o e hx
      exact ⟨o', (hs.2 b (Nat.ne_of_lt (Nat.lt_of_lt_of_le (Heap.lt_size e) I.ok.above))).trans e1⟩
    · by_cases hj : j = i
      · subst hj
        rw [hi] at e1; cases e1
        rw [List.getElem?_set_self hiσ] at e2
        cases e2
        exact ⟨u, r, .inl ⟨hk, by simp⟩⟩
      · rw [List.getElem?_set_ne (Ne.symm hj)] at e2
        obtain ⟨u', r', q⟩ := hl j y v' e1 e2 e3
        refine ⟨u', r', ?_⟩
        rcases q with ⟨k, e⟩ | ⟨k, c, e, z⟩
        · refine .inl ⟨k, ?_⟩
          have : y ≠ x := fun e => hj (nodup_ix hN e1 (e ▸ hi))
          simp [this, e]
        · exact .inr ⟨k, c, e, z.sameBut hs (cne y c e)⟩
    · obtain ⟨w', z⟩ := I.cell y c e
      exact ⟨w', z.sameBut hs (cne y c e)⟩
    · obtain ⟨e, n, ne, nf, d⟩ := I.pin p hp
      exact ⟨(hs.2 p.1 ne).trans e, n, ne, nf, d⟩
  · have hfn : X.fn x = true := by
      rcases hf with z | z
      · exact z
      · rw [z] at hk; cases hk
    obtain ⟨c, hc⟩ := I.ok.has x (.inl hk)
    obtain ⟨w', z⟩ := I.cell x c hc
    refine wpAny_storeName_cell I.ok.kind hk hc z (fun h' hc' hs => ?_)
    obtain ⟨oc, hoc, hocd⟩ := id z
    refine h { s with heap := h' } ⟨I.ok, I.os, I.bare, ⟨fun b o e n hb hx => ?_, fun b o e n hb hx => ?_, I.base.free, fun b o e hx => ?_, I.base.tups, I.base.frzs, I.base.tbls⟩, ⟨m, hn.sameBut hs (Ne.symm (cne x c hc)), fun j y v' e1 e2 e3 => ?_⟩, fun y c' e => ?_, I.free, I.freeC, fun p hp => ?_, tracked ⟨oc, hoc, I.freeC x c hc⟩ hs, by simpa using I.len⟩ ⟨c, hs, .inr hc⟩
    · exact (hs.2 b (Nat.ne_of_lt (Nat.lt_of_lt_of_le (Heap.lt_size e) (I.ok.cab x c hfn hc)))).trans (I.base.keep b o e n hb hx)
    · obtain ⟨sl, e1⟩ := I.base.slot b o e n hb hx
      exact ⟨sl, (hs.2 b (Nat.ne_of_lt (Nat.lt_of_lt_of_le (Heap.lt_size e) (I.ok.cab x c hfn hc)))).trans e1⟩
    · obtain ⟨o', e1⟩ := I.base.there b o e hx
      exact ⟨o', (hs.2 b (Nat.ne_of_lt (Nat.lt_of_lt_of_le (Heap.lt_size e) (I.ok.cab x c hfn hc)))).trans e1⟩
    · by_cases hj : j = i
      · subst hj
        rw [hi] at e1; cases e1
        rw [List.getElem?_set_self hiσ] at e2
        cases e2
        exact ⟨u, r, .inr ⟨.inl hk, c, hc, hc'⟩⟩
      · rw [List.getElem?_set_ne (Ne.symm hj)] at e2
        obtain ⟨u', r', q⟩ := hl j y v' e1 e2 e3
        refine ⟨u', r', ?_⟩
        rcases q with q | ⟨k, c', e, z'⟩
        · exact .inl q
        · refine .inr ⟨k, c', e, z'.sameBut hs ?_⟩
          rintro rfl
          exact hj (nodup_ix hN e1 (I.ok.inj _ _ _ e hc ▸ hi))
    · by_cases hcc : c' = c
      · subst hcc; exact ⟨_, hc'⟩
      · obtain ⟨w2, z2⟩ := I.cell y c' e
        exact ⟨w2, z2.sameBut hs hcc⟩
    · obtain ⟨e, n, ne, nf, d⟩ := I.pin p hp
      refine ⟨(hs.2 p.1 ?_).trans e, n, ne, nf, d⟩
      intro q
      rw [q, hoc] at e
      have q' : oc = p.2 := Option.some.inj e
      exact d w' (by rw [← q']; exact hocd)
theorem store_ok {M : Model} {A : Around} {E : Value → Shared → Prop} {i : Nat} {x : Str} {v : V} {u : Value} {Q : Unit → Shared → Prop} (I : Inv X pins σ H s) (hN : X.N.Nodup) (hi : X.N[i]? = some x) (hx : Loc X.env.scope x) (r : RelV v u)
    (h : ∀ s', Inv X pins (σ.set i (some v)) H s' → Q () s') (hf : X.fn x = true ∨ X.env.scope.names.lookup x = some .local := by first | exact .inl rfl | exact .inr rfl | assumption) : wpAny M A (storeName X.env x u) Q E s :=
  store_ok2 I hN hi hx r (fun s' I' _ => h s' I') hf
theorem Inv.call' {s' : Shared} {ch : List Addr} (I : Inv X pins σ H s) (ho : s'.os = s.os) (u : Un (frs X.stack) ch H H' s.heap s'.heap) (hok : HOk X.prog X.w H' s'.heap) (hg : AllBare s'.gens)
    (hch : ∀ b ∈ ch, (b ∈ X.ex ∨ X.s₀.heap.objs.size ≤ b) ∧ b ≠ X.env.locals ∧ (∀ x c, X.env.cells.lookup x = some c → c ≠ b) ∧ ∀ p ∈ X.pn ++ pins, p.1 ≠ b) : Inv X pins σ H' s' := by
  obtain ⟨h', g', d', t', o'⟩ := s'
  have e : o' = s.os := ho
  subst e
  exact I.call (g' := g') (t' := t') (d' := d') u hok hg hch
end

abbrev XK := Value → Option Addr → Hp → Prop
abbrev St := List (Option V)
abbrev VK := V → Hp → Prop
abbrev TE := St → Hp → VK → Prop
abbrev TT := St → Hp → (Bool → Hp → Prop) → Prop
abbrev TA := St → Hp → (List V → Hp → Prop) → Prop
structure Ends where
  nx : St → Hp → Prop
  rt : VK
  bk : St → Hp → Prop := fun _ _ => False
  ct : St → Hp → Prop := fun _ _ => False
abbrev TS := Ends → St → Hp → Prop

def EP (X : Cx) (pins : List (Addr × Obj)) (σ : St) (Q : VK) (u : Value) (s' : Shared) : Prop := ∃ v H', Inv X pins σ H' s' ∧ RelV v u ∧ Q v H'
def TP (X : Cx) (pins : List (Addr × Obj)) (σ : St) (Q : Bool → Hp → Prop) (b : Bool) (s' : Shared) : Prop := ∃ H', Inv X pins σ H' s' ∧ Q b H'
def AP (X : Cx) (pins : List (Addr × Obj)) (σ : St) (Q : List V → Hp → Prop) (us : List Value) (s' : Shared) : Prop := ∃ vs H', Inv X pins σ H' s' ∧ Vals vs us ∧ Q vs H'
def SP (X : Cx) (pins : List (Addr × Obj)) (D : Ends) (f : Flow) (s' : Shared) : Prop :=
  match f with
  | .next => ∃ σ' H', Inv X pins σ' H' s' ∧ D.nx σ' H'
  | .brk => ∃ σ' H', Inv X pins σ' H' s' ∧ D.bk σ' H'
  | .cont => ∃ σ' H', Inv X pins σ' H' s' ∧ D.ct σ' H'
  | .ret u => ∃ v σ' H', Inv X pins σ' H' s' ∧ RelV v u ∧ D.rt v H'

def PE (X : Cx) (e : Expr) (t : TE) : Prop :=
  ∀ (pins : List (Addr × Obj)) (s : Shared) (σ : St) (H : Hp) (Q : VK), Inv X pins σ H s → t σ H Q → wpAny (model X.prog X.w) X.A (eval e X.env) (EP X pins σ Q) X.xe s
def PT (X : Cx) (e : Expr) (t : TT) : Prop :=
  ∀ (pins : List (Addr × Obj)) (s : Shared) (σ : St) (H : Hp) (Q : Bool → Hp → Prop), Inv X pins σ H s → t σ H Q → wpAny (model X.prog X.w) X.A (isTrue e X.env (eval e X.env)) (TP X pins σ Q) X.xe s
def PW (X : Cx) (e : Expr) (t : TT) : Prop :=
  ∀ (whole : Sem Value) (pins : List (Addr × Obj)) (s : Shared) (σ : St) (H : Hp) (Q : Bool → Hp → Prop), Inv X pins σ H s → t σ H Q → wpAny (model X.prog X.w) X.A (isTrue e X.env whole) (TP X pins σ Q) X.xe s
theorem PW.pt {X : Cx} {e : Expr} {t : TT} (h : PW X e t) : PT X e t := h _
def PA (X : Cx) (es : List Expr) (t : TA) : Prop :=
  ∀ (pos : Pos) (pins : List (Addr × Obj)) (s : Shared) (σ : St) (H : Hp) (Q : List V → Hp → Prop), Inv X pins σ H s → t σ H Q → wpAny (model X.prog X.w) X.A (spliced (backTo pos (starEach es X.env))) (AP X pins σ Q) X.xe s
def PS (X : Cx) (st : Stmt) (t : TS) : Prop :=
  ∀ (pins : List (Addr × Obj)) (s : Shared) (σ : St) (H : Hp) (D : Ends), Inv X pins σ H s → t D σ H → wpAny (model X.prog X.w) X.A (exec st X.env) (SP X pins D) X.xe s
def PSs (X : Cx) (st : List Stmt) (t : TS) : Prop :=
  ∀ (pins : List (Addr × Obj)) (s : Shared) (σ : St) (H : Hp) (D : Ends), Inv X pins σ H s → t D σ H → wpAny (model X.prog X.w) X.A (execs st X.env) (SP X pins D) X.xe s
theorem thn {α : Type} {t : Sem α} {Q Q' : α → Shared → Prop} {M : Model} {A : Around} {E : Value → Shared → Prop} {s : Shared} (h : wpAny M A t Q E s) (hQ : ∀ a s, Q a s → Q' a s) : wpAny M A t Q' E s := wpAny_mono h hQ fun _ _ x => x
end L2

namespace L2
open PySem PySem.Spec PyProof.Rows
section
variable {X : Cx}

def tVar (i : Nat) : TE := fun σ H Q => ∃ v, σ[i]? = some (some v) ∧ Q v H
def tC (v : V) : TE := fun _ H Q => Q v H
theorem pe_var {i : Nat} {x : Str} {pos : Pos} (hN : X.N[i]? = some x) (hv : Vis X.env.scope x) (hd : (x == ("__debug__" : Str)) = false := by decide) (hcd : (x == ("__classdict__" : Str)) = false := by decide) : PE X (.Name x pos) (tVar i) := by
  intro pins s σ H Q I h
  obtain ⟨v, e, h⟩ := h
  obtain ⟨m, hn, hl⟩ := I.loc
  obtain ⟨u, r, l⟩ := hl i x v hN e hv
  have fin : EP X pins σ Q u s := ⟨v, H, I, r, h⟩
  rcases l with ⟨hk, hm⟩ | ⟨hk, c, hc, hcell⟩
  · exact wpAny_Name (wpAny_loadName_local I.ok.kind hk hn hm fin) hd
  · rcases hk with hk | hk
    · exact wpAny_Name (wpAny_loadName_cell I.ok.kind hk hc hcell fin) hd
    · exact wpAny_Name (wpAny_loadName_free I.ok.kind hk hc hcell fin hcd) hd
theorem pe_int {i j pos} : PE X (.Constant (.int i) j pos) (tC (.int i)) := fun _ _ _ H _ I h => wpAny_Constant_int ⟨.int i, H, I.tok _, ⟨_, rfl⟩, h⟩
theorem pe_bl {b j pos} : PE X (.Constant (.bool b) j pos) (tC (.bl b)) := fun _ _ _ H _ I h => Constant_bool ⟨.bl b, H, I, rfl, h⟩
theorem pe_non {j pos} : PE X (.Constant .none j pos) (tC .non) := fun _ _ _ H _ I h => Constant_none ⟨.non, H, I, rfl, h⟩
theorem pe_str {x j pos} : PE X (.Constant (.str x) j pos) (tC (.str x)) := fun _ _ _ H _ I h => Calls.Constant_str ⟨.str x, H, I.tok _, ⟨_, rfl⟩, h⟩

def Gl (X : Cx) (x : Str) : Prop := X.env.kindOf x = some .globalImplicit
theorem ld_glob {E : Value → Shared → Prop} {pins : List (Addr × Obj)} {s : Shared} {σ : St} {H : Hp} {x : Str} {u : Value} {pos : Pos} {Q : Value → Shared → Prop} (I : Inv X pins σ H s) (hg : Gl X x) (hm : X.mg x = some u) (h : Q u s)
    (hd : (x == ("__debug__" : Str)) = false := by decide) : wpAny (model X.prog X.w) X.A (eval (.Name x pos) X.env) Q E s :=
  Calls.Name_function_global I.ok.kind hg (Calls.loadGlobal_global (by rw [I.ok.glob]; exact I.mod.glob.keeps I.bk) hm h) hd
theorem ld_blt {E : Value → Shared → Prop} {pins : List (Addr × Obj)} {s : Shared} {σ : St} {H : Hp} {x : Str} {u : Value} {pos : Pos} {Q : Value → Shared → Prop} (I : Inv X pins σ H s) (hg : Gl X x) (hm : X.mg x = none) (hv : bootBuiltins x = some u) (h : Q u s)
    (hn : x ≠ "__name__" := by decide) (hd : (x == ("__debug__" : Str)) = false := by decide) : wpAny (model X.prog X.w) X.A (eval (.Name x pos) X.env) Q E s := by
  obtain ⟨mb, h1, h2⟩ := I.mod.blt
  exact Calls.Name_function_global I.ok.kind hg (Calls.loadGlobal_builtin (by rw [I.ok.glob]; exact I.mod.glob.keeps I.bk) hm (by rw [I.ok.blt]; exact h1.keeps I.bk) ((h2 x hn).trans hv) h) hd
theorem pe_glob {x : Str} {v : V} {u : Value} {pos : Pos} (hg : Gl X x) (hm : X.mg x = some u) (r : RelV v u) (hd : (x == ("__debug__" : Str)) = false := by decide) : PE X (.Name x pos) (tC v) :=
  fun _ _ _ H _ I h => ld_glob I hg hm ⟨v, H, I, r, h⟩ hd
theorem pe_bltn {x : Str} {v : V} {u : Value} {pos : Pos} (hg : Gl X x) (hm : X.mg x = none) (hv : bootBuiltins x = some u) (r : RelV v u) (hn : x ≠ "__name__" := by decide) (hd : (x == ("__debug__" : Str)) = false := by decide) : PE X (.Name x pos) (tC v) :=
  fun _ _ _ H _ I h => ld_blt I hg hm hv ⟨v, H, I, r, h⟩ hn hd

variable {a b : Expr} {ta tb : TE} {pos : Pos}
variable {tA tB' : TT} {rest : List Expr}
def tAnd (t u : TT) : TT := fun σ H Q => t σ H fun c H1 => if c = true then u σ H1 Q else Q false H1
def tOr (t u : TT) : TT := fun σ H Q => t σ H fun c H1 => if c = true then Q true H1 else u σ H1 Q
def tNot (t : TT) : TT := fun σ H Q => t σ H fun c H1 => Q (!c) H1
theorem pw_and1 (ha : PT X a tA) : PW X (.BoolOp .And [a] pos) tA := by
  intro wh pins s σ H Q I h
  refine isTrue_and (thn (ha pins s σ H Q I h) fun c s1 e => ?_)
  cases c with
  | true => exact isTrue_and_nil e
  | false => exact e
theorem pw_or1 (ha : PT X a tA) : PW X (.BoolOp .Or [a] pos) tA := by
  intro wh pins s σ H Q I h
  refine isTrue_or (thn (ha pins s σ H Q I h) fun c s1 e => ?_)
  cases c with
  | false => exact isTrue_or_nil e
  | true => exact e
theorem pw_and (ha : PT X a tA) (hb : PW X (.BoolOp .And (b :: rest) pos) tB') : PW X (.BoolOp .And (a :: b :: rest) pos) (tAnd tA tB') := by
  intro wh pins s σ H Q I h
  refine isTrue_and (thn (ha pins s σ H _ I h) fun c s1 ⟨H1, I1, q1⟩ => ?_)
  cases c with
  | true => exact hb wh pins s1 σ H1 Q I1 q1
  | false => exact ⟨H1, I1, q1⟩
theorem pw_or (ha : PT X a tA) (hb : PW X (.BoolOp .Or (b :: rest) pos) tB') : PW X (.BoolOp .Or (a :: b :: rest) pos) (tOr tA tB') := by
  intro wh pins s σ H Q I h
  refine isTrue_or (thn (ha pins s σ H _ I h) fun c s1 ⟨H1, I1, q1⟩ => ?_)
  cases c with
  | true => exact ⟨H1, I1, q1⟩
  | false => exact hb wh pins s1 σ H1 Q I1 q1
theorem pt_not (ha : PT X a tA) : PT X (.UnaryOp .Not a pos) (tNot tA) := by
  intro pins s σ H Q I h
  exact isTrue_not (ha pins s σ H (fun c H1 => Q (!c) H1) I h)
def tAndV (ta tb : TE) : TE := fun σ H Q => ta σ H fun x H1 => ∃ c, x = .bl c ∧ if c = true then tb σ H1 Q else Q (.bl false) H1
def tOrV (ta tb : TE) : TE := fun σ H Q => ta σ H fun x H1 => ∃ c, x = .bl c ∧ if c = true then Q (.bl true) H1 else tb σ H1 Q
def tNotV (ta : TE) : TE := fun σ H Q => ta σ H fun x H1 => ∃ c, x = .bl c ∧ Q (.bl (!c)) H1
theorem pe_one {op} {t : TE} (h : PE X a t) : PE X (.BoolOp op [a] pos) t := fun pins s σ H Q I hw => BoolOp_one (h pins s σ H Q I hw)
theorem pe_and (ha : PE X a ta) (hb : PE X (.BoolOp .And (b :: rest) pos) tb) : PE X (.BoolOp .And (a :: b :: rest) pos) (tAndV ta tb) := by
  intro pins s σ H Q I h
  refine BoolOp_and (thn (ha pins s σ H _ I h) fun v s1 ⟨x, H1, I1, r1, q1⟩ => ?_)
  obtain ⟨c, rfl, q1⟩ := q1
  cases r1
  refine wpAny_truthy_bool ?_
  cases c with
  | true => exact hb pins s1 σ H1 Q I1 q1
  | false => exact ⟨.bl false, H1, I1, rfl, q1⟩
theorem pe_or (ha : PE X a ta) (hb : PE X (.BoolOp .Or (b :: rest) pos) tb) : PE X (.BoolOp .Or (a :: b :: rest) pos) (tOrV ta tb) := by
  intro pins s σ H Q I h
  refine BoolOp_or (thn (ha pins s σ H _ I h) fun v s1 ⟨x, H1, I1, r1, q1⟩ => ?_)
  obtain ⟨c, rfl, q1⟩ := q1
  cases r1
  refine wpAny_truthy_bool ?_
  cases c with
  | false => exact hb pins s1 σ H1 Q I1 q1
  | true => exact ⟨.bl true, H1, I1, rfl, q1⟩
theorem pe_not (ha : PE X a ta) : PE X (.UnaryOp .Not a pos) (tNotV ta) := by
  intro pins s σ H Q I h
  refine UnaryOp_ (thn (ha pins s σ H _ I h) fun v s1 ⟨x, H1, I1, r1, q1⟩ => ?_)
  obtain ⟨c, rfl, q1⟩ := q1
  cases r1
  exact not_of (wpAny_truthy_bool ⟨.bl (!c), H1, I1, rfl, q1⟩)
end
end L2

namespace L2
open PySem PySem.Spec PyProof.Rows

def SqL (K : PySem.W.Frag) (H : Hp) (a : Addr) (xs : List V) : Prop :=
  Rd H a (.lst xs) ∨
    ∃ (o : Obj) (its : Array Value) (n : Nat), K.lookup a = some o ∧ o.cls = .type "list" ∧ o.dict = none ∧ o.data = .seq its n ∧ its.size ≤ sizeLine ∧ Vals xs its.toList
def SqT (K : PySem.W.Frag) (H : Hp) (a : Addr) (xs : List V) : Prop :=
  Rd H a (.tup xs) ∨
    ∃ (o : Obj) (its : Array Value) (n : Nat), K.lookup a = some o ∧ o.cls = .type "tuple" ∧ o.data = .seq its n ∧ its.size ≤ sizeLine ∧ Vals xs its.toList
def absV : Value → Option V
  | .none => some .non
  | .bool b => some (.bl b)
  | .int i _ => some (.int i)
  | .str x _ => some (.str x)
  | .bytes b _ => some (.byt b)
  | .float b _ => some (.flt b)
  | .ref a => some (.ref a)
  | .type n => some (.ty n)
  | _ => none
theorem RelV.abs {x : V} {u : Value} (r : RelV x u) : absV u = some x := by
  cases x with
  | non => cases r; rfl
  | bl _ => cases r; rfl
  | int _ => obtain ⟨t, rfl⟩ := r; rfl
  | str _ => obtain ⟨t, rfl⟩ := r; rfl
  | byt _ => obtain ⟨t, rfl⟩ := r; rfl
  | flt _ => obtain ⟨t, rfl⟩ := r; rfl
  | ref _ => cases r; rfl
  | ty _ => cases r; rfl
theorem RelV.inj {x y : V} {u : Value} (r : RelV x u) (q : RelV y u) : x = y := Option.some.inj (r.abs.symm.trans q.abs)
theorem Vals.inj : ∀ {xs ys : List V} {us : List Value}, Vals xs us → Vals ys us → xs = ys
  | _, _, _, .nil, .nil => rfl
  | _, _, _, .cons r t, .cons r' t' => by rw [r.inj r', Vals.inj t t']
section
variable {X : Cx} {pins : List (Addr × Obj)} {σ : St} {H : Hp} {s : Shared} {a : Addr} {xs ys : List V}
theorem SqL.of {K : PySem.W.Frag} (h : H a = some (.lst xs)) : SqL K H a xs := .inl (.inl h)
theorem SqT.of {K : PySem.W.Frag} (h : H a = some (.tup xs)) : SqT K H a xs := .inl (.inl h)
theorem Inv.list (I : Inv X pins σ H s) (h : SqL X.K H a xs) : ∃ its : List Value, Vals xs its ∧ PlainL s.heap a its.toArray ∧ xs.length ≤ sizeLine := by
  rcases h with h | ⟨o, its, n, hk, hc, hd, hs, hz, r⟩
  · obtain ⟨z, its, n, r, e⟩ := h.ok I.hok
    exact ⟨its, r, ⟨_, n, e, rfl, rfl, rfl⟩, z⟩
  · refine ⟨its.toList, r, ⟨o, n, I.kIn a o hk, hc, hd, by simpa using hs⟩, ?_⟩
    have e := r.length
    simp only [Array.length_toList] at e
    omega
theorem Inv.tuple (I : Inv X pins σ H s) (h : SqT X.K H a xs) : ∃ its : List Value, Vals xs its ∧ IsTup s.heap a its.toArray ∧ xs.length ≤ sizeLine := by
  rcases h with h | ⟨o, its, n, hk, hc, hs, hz, r⟩
  · obtain ⟨z, its, r, p⟩ := h.ok I.hok
    exact ⟨its, r, p, z⟩
  · refine ⟨its.toList, r, ⟨o, I.kIn a o hk, hc, n, by simpa using hs⟩, ?_⟩
    have e := r.length
    simp only [Array.length_toList] at e
    omega
theorem Inv.list_inj (I : Inv X pins σ H s) (h : SqL X.K H a xs) (h' : SqL X.K H a ys) : xs = ys := by
  obtain ⟨its, r, ⟨o, n, e, _, _, d⟩, _⟩ := I.list h
  obtain ⟨its', r', ⟨o', n', e', _, _, d'⟩, _⟩ := I.list h'
  rw [e] at e'; cases e'
  rw [d] at d'
  injection d' with d1 _
  have : its = its' := by simpa using congrArg Array.toList d1
  subst this
  exact r.inj r'
theorem Inv.tuple_inj (I : Inv X pins σ H s) (h : SqT X.K H a xs) (h' : SqT X.K H a ys) : xs = ys := by
  obtain ⟨its, r, ⟨o, e, _, n, d⟩, _⟩ := I.tuple h
  obtain ⟨its', r', ⟨o', e', _, n', d'⟩, _⟩ := I.tuple h'
  rw [e] at e'; cases e'
  rw [d] at d'
  injection d' with d1 _
  have : its = its' := by simpa using congrArg Array.toList d1
  subst this
  exact r.inj r'
end

abbrev Cx.wish (X : Cx) (E : Value → Shared → Prop) : Cx := { X with xe := E }
abbrev Cx.nox (X : Cx) : Cx := X.wish fun _ _ => False
theorem Cx.Ok.wish {X : Cx} (ok : X.Ok) (E : Value → Shared → Prop) : (X.wish E).Ok :=
  ⟨ok.mod, ok.kind, ok.glob, ok.blt, ok.above, ok.inj, ok.has, ok.cab, ok.hd, ok.frames, ok.stk, ok.exf, ok.bs, ok.bsz, ok.noex, ok.exfs, ok.funs, ok.frf⟩
theorem Cx.Ok.unwish {X : Cx} {E : Value → Shared → Prop} (ok : (X.wish E).Ok) : X.Ok :=
  ⟨ok.mod, ok.kind, ok.glob, ok.blt, ok.above, ok.inj, ok.has, ok.cab, ok.hd, ok.frames, ok.stk, ok.exf, ok.bs, ok.bsz, ok.noex, ok.exfs, ok.funs, ok.frf⟩
section
variable {X : Cx} {pins : List (Addr × Obj)} {σ : St} {H : Hp} {s : Shared} {E : Value → Shared → Prop}
theorem Inv.wish (I : Inv X pins σ H s) (E : Value → Shared → Prop) : Inv (X.wish E) pins σ H s := ⟨I.ok.wish E, I.os, I.bare, I.base, I.loc, I.cell, I.free, I.freeC, I.pin, I.hok, I.len⟩
theorem Inv.unwish (I : Inv (X.wish E) pins σ H s) : Inv X pins σ H s := ⟨I.ok.unwish, I.os, I.bare, I.base, I.loc, I.cell, I.free, I.freeC, I.pin, I.hok, I.len⟩
theorem SP.unwish {D : Ends} {f : Flow} {s' : Shared} (h : SP (X.wish E) pins D f s') : SP X pins D f s' := by
  cases f with
  | next => obtain ⟨σ', H', I, q⟩ := h; exact ⟨σ', H', I.unwish, q⟩
  | brk => obtain ⟨σ', H', I, q⟩ := h; exact ⟨σ', H', I.unwish, q⟩
  | cont => obtain ⟨σ', H', I, q⟩ := h; exact ⟨σ', H', I.unwish, q⟩
  | ret u => obtain ⟨v, σ', H', I, r, q⟩ := h; exact ⟨v, σ', H', I.unwish, r, q⟩
theorem PE.nox {e : Expr} {t : TE} (h : PE X.nox e t) : PE X e t := fun pins s σ H Q I hw =>
  wpAny_mono (h pins s σ H Q (I.wish _) hw) (fun _ _ ⟨v, H', I', r, q⟩ => ⟨v, H', I'.unwish, r, q⟩) fun _ _ z => False.elim z
theorem PT.nox {e : Expr} {t : TT} (h : PT X.nox e t) : PT X e t := fun pins s σ H Q I hw =>
  wpAny_mono (h pins s σ H Q (I.wish _) hw) (fun _ _ ⟨H', I', q⟩ => ⟨H', I'.unwish, q⟩) fun _ _ z => False.elim z
theorem PSs.nox {st : List Stmt} {t : TS} (h : PSs X.nox st t) : PSs X st t := fun pins s σ H D I hw =>
  wpAny_mono (h pins s σ H D (I.wish _) hw) (fun _ _ q => q.unwish) fun _ _ z => False.elim z
end

section
variable {X : Cx} {st : Stmt} {rest : List Stmt} {t u : TS} {e : Expr} {te : TE} {pos : Pos}
def tNext : TS := fun D σ H => D.nx σ H
def tSeq (t u : TS) : TS := fun D σ H => t { D with nx := u D } σ H
theorem pss_nil : PSs X [] tNext := fun _ _ σ H _ I h => wpAny_execs_nil ⟨σ, H, I, h⟩
theorem pss_cons (h1 : PS X st t) (h2 : PSs X rest u) : PSs X (st :: rest) (tSeq t u) := by
  intro pins s σ H D I h
  refine wpAny_execs_cons (thn (h1 pins s σ H { D with nx := u D } I h) fun f s1 q => ?_)
  cases f with
  | next =>
    obtain ⟨σ', H', I', q⟩ := q
    exact h2 pins s1 σ' H' D I' q
  | ret v => exact q
  | brk => exact q
  | cont => exact q
theorem pss_one (h1 : PS X st t) : PSs X [st] t := by
  intro pins s σ H D I h
  refine wpAny_execs_cons (thn (h1 pins s σ H D I h) fun f s1 q => ?_)
  cases f with
  | next => exact wpAny_execs_nil q
  | ret v => exact q
  | brk => exact q
  | cont => exact q
theorem Inv.quiet {pins : List (Addr × Obj)} {σ : St} {H : Hp} {s : Shared} (I : Inv X pins σ H s) : interactive X.env = false := by simp [interactive, I.ok.kind]
def tDrop (te : TE) : TS := fun D σ H => te σ H fun _ H1 => D.nx σ H1
theorem ps_expr (he : PE X e te) (hs : swapsWith e none pos.line X.env = pure false := by rfl) : PS X (.Expr e pos) (tDrop te) := by
  intro pins s σ H D I h
  exact wpAny_Expr_any (thn (he pins s σ H _ I h) fun v s1 ⟨x, H1, I1, r1, q1⟩ => ⟨σ, H1, I1, q1⟩) I.quiet hs
def tRet (te : TE) : TS := fun D σ H => te σ H D.rt
theorem ps_ret (he : PE X e te) : PS X (.Return (some e) pos) (tRet te) := by
  intro pins s σ H D I h
  exact wpAny_Return_some (thn (he pins s σ H _ I h) fun v s1 ⟨x, H1, I1, r1, q1⟩ => ⟨x, σ, H1, I1, r1, q1⟩)
def tIfS (c : TT) (t u : TS) : TS := fun D σ H => c σ H fun b H1 => if b = true then t D σ H1 else u D σ H1
theorem ps_if {c : Expr} {a b : List Stmt} {tc : TT} (hc : PT X c tc) (ha : PSs X a t) (hb : PSs X b u) : PS X (.If c a b pos) (tIfS tc t u) := by
  intro pins s σ H D I h
  refine wpAny_If (thn (hc pins s σ H _ I h) fun d s1 ⟨H1, I1, q1⟩ => ?_)
  cases d with
  | true => exact ha pins s1 σ H1 D I1 q1
  | false => exact hb pins s1 σ H1 D I1 q1
end

abbrev TG := V → St → Hp → (St → Hp → Prop) → Prop
abbrev TGs := List V → St → Hp → (St → Hp → Prop) → Prop
def PG (X : Cx) (target : Expr) (t : TG) : Prop :=
  ∀ (pins : List (Addr × Obj)) (s : Shared) (σ : St) (H : Hp) (v : V) (u : Value) (Q : St → Hp → Prop), Inv X pins σ H s → RelV v u → t v σ H Q →
    wpAny (model X.prog X.w) X.A (assign target X.env u) (fun _ s' => ∃ σ' H', Inv X pins σ' H' s' ∧ Q σ' H') X.xe s
def PGs (X : Cx) (ts : List Expr) (t : TGs) : Prop :=
  ∀ (pins : List (Addr × Obj)) (s : Shared) (σ : St) (H : Hp) (vs : List V) (us : List Value) (Q : St → Hp → Prop), Inv X pins σ H s → Vals vs us → t vs σ H Q →
    wpAny (model X.prog X.w) X.A (assignInOrder ((assignEach ts X.env).map (·.2)) us) (fun _ s' => ∃ σ' H', Inv X pins σ' H' s' ∧ Q σ' H') X.xe s
abbrev TSet := V → V → V → Hp → (Hp → Prop) → Prop
def PSet (X : Cx) (t : TSet) : Prop :=
  ∀ (pins : List (Addr × Obj)) (s : Shared) (σ : St) (H : Hp) (o i v : V) (ov iv u : Value) (Q : Hp → Prop), Inv X pins σ H s → RelV o ov → RelV i iv → RelV v u → t o i v H Q →
    wpAny (model X.prog X.w) X.A (setItem ov iv u) (fun _ s' => ∃ H', Inv X pins σ H' s' ∧ Q H') X.xe s
section
variable {X : Cx} {pos : Pos}
def gName (i : Nat) : TG := fun v σ H Q => Q (σ.set i (some v)) H
theorem pg_name {i : Nat} {x : Str} (hN : X.N.Nodup) (hi : X.N[i]? = some x) (hx : Loc X.env.scope x) (hf : X.fn x = true ∨ X.env.scope.names.lookup x = some .local := by first | exact .inl rfl | exact .inr rfl | assumption) : PG X (.Name x pos) (gName i) := by
  intro pins s σ H v u Q I r h
  exact wpAny_assign_Name (store_ok I hN hi hx r (fun s' I' => ⟨_, H, I', h⟩) hf)
def gNil : TGs := fun vs σ H Q => vs = [] ∧ Q σ H
def gCons (t : TG) (u : TGs) : TGs := fun vs σ H Q => ∃ v r, vs = v :: r ∧ t v σ H fun σ' H' => u r σ' H' Q
theorem pgs_nil : PGs X [] gNil := by
  intro pins s σ H vs us Q I r h
  obtain ⟨e, h⟩ := h
  subst e
  cases r
  exact assignInOrder_nil ⟨σ, H, I, h⟩
theorem pgs_cons {e : Expr} {es : List Expr} {t : TG} {u : TGs} (h1 : PG X e t) (h2 : PGs X es u)
    (hs : (assignEach (e :: es) X.env).map (·.2) = assign e X.env :: (assignEach es X.env).map (·.2) := by rfl) : PGs X (e :: es) (gCons t u) := by
  intro pins s σ H vs us Q I r h
  obtain ⟨v, vr, e1, h⟩ := h
  subst e1
  cases r with
  | cons r rr =>
    rw [hs]
    refine assignInOrder_cons (thn (h1 pins s σ H _ _ _ I r h) fun _ s1 ⟨σ1, H1, I1, q1⟩ => ?_)
    exact h2 pins s1 σ1 H1 _ _ Q I1 rr q1
def gTup (K : PySem.W.Frag) (n : Nat) (t : TGs) : TG := fun v σ H Q => ∃ a xs, v = .ref a ∧ SqT K H a xs ∧ xs.length = n ∧ t xs σ H Q
theorem pg_tup {es : List Expr} {k : Nat} {t : TGs} {n : Nat} (hc : X.calm = true) (h : PGs X es t)
    (hn : (assignEach es X.env).length = n := by rfl) (hst : (assignEach es X.env).findIdx? (·.1) = none := by rfl) : PG X (.Tuple es k pos) (gTup X.K n t) := by
  intro pins s σ H v u Q I r hw
  obtain ⟨a, xs, e1, hq, hl, hw⟩ := hw
  subst e1
  cases r
  obtain ⟨its, rv, ht, hz⟩ := I.tuple hq
  refine assign_Tuple_tuple (I.ok.hd hc) ht (by simp [hn, ← hl, rv.length]) hst fun h' hx => ?_
  have I1 : Inv X pins σ H { s with heap := h' } := I.kept (t' := s.toks) fun b o e => hx b o (Nat.ne_of_lt (Heap.lt_size e)) e
  exact h pins _ σ H xs _ Q I1 (by simpa using rv) hw
def gSub (to ti : TE) (t : TSet) : TG := fun v σ H Q => to σ H fun o H1 => ti σ H1 fun i H2 => t o i v H2 fun H3 => Q σ H3
theorem pg_sub {o i : Expr} {to ti : TE} {t : TSet} (ho : PE X o to) (hi : PE X i ti) (hs : PSet X t)
    (ha : ∀ v, assign (.Subscript o i pos) X.env v = (do
      let ov ← holding [v] (eval o X.env)
      let iv ← holding [v, ov] (eval i X.env)
      standAt pos
      holding [v, ov, iv] (setItem ov iv v)
      release [v, ov, iv] []) := by intro _; rfl) : PG X (.Subscript o i pos) (gSub to ti t) := by
  intro pins s σ H v u Q I r h
  rw [ha]
  refine wpAny_bind (wpAny_holding (thn (ho pins s σ H _ I h) fun ov s1 ⟨x, H1, I1, r1, q1⟩ => ?_))
  refine wpAny_bind (wpAny_holding (thn (hi pins s1 σ H1 _ I1 q1) fun iv s2 ⟨y, H2, I2, r2, q2⟩ => ?_))
  refine wpAny_bind (wpAny_standAt (wpAny_bind (wpAny_holding (thn (hs pins s2 σ H2 x y v ov iv u _ I2 r1 r2 r q2) fun _ s3 ⟨H3, I3, q3⟩ => ?_))))
  exact wpAny_release ⟨σ, H3, I3, q3⟩
def tAsg (te : TE) (g : TG) : TS := fun D σ H => te σ H fun x H1 => g x σ H1 D.nx
theorem ps_asg {tg e : Expr} {te : TE} {g : TG} (he : PE X e te) (hg : PG X tg g) (hs : swapsWithSole [tg] e pos.line X.env = pure false := by rfl) (hw : swappedStores [tg] e X.env = pure none := by rfl)
    (h1 : (assignEach [tg] X.env).map (·.2) = [assign tg X.env] := by rfl) : PS X (.Assign [tg] e pos) (tAsg te g) := by
  intro pins s σ H D I h
  refine wpAny_Assign_stores (thn (he pins s σ H _ I h) fun v s1 ⟨x, H1, I1, r1, q1⟩ => ?_) hs hw
  rw [h1]
  exact thn (hg pins s1 σ H1 x v _ I1 r1 q1) fun _ s2 q => q
theorem ps_set {i : Nat} {x : Str} {e : Expr} {te : TE} {pos' : Pos} (hN : X.N.Nodup) (hi : X.N[i]? = some x) (hx : Loc X.env.scope x) (he : PE X e te) (hs : swapsWith e (some (.Name x pos')) pos.line X.env = pure false := by rfl) (hf : X.fn x = true ∨ X.env.scope.names.lookup x = some .local := by first | exact .inl rfl | exact .inr rfl | assumption) :
    PS X (.Assign [.Name x pos'] e pos) (tAsg te (gName i)) := by
  intro pins s σ H D I h
  refine wpAny_Assign_Name (thn (he pins s σ H _ I h) fun v s1 ⟨y, H1, I1, r1, q1⟩ => ?_) hs
  exact store_ok I1 hN hi hx r1 (fun s2 I2 => ⟨_, H1, I2, q1⟩) hf
def tPar (i j : Nat) (ta : TA) : TS := fun D σ H => ta σ H fun vs H1 => ∃ v w, vs = [v, w] ∧ D.nx ((σ.set i (some v)).set j (some w)) H1
theorem ps_par {i j : Nat} {x y : Str} {a b : Expr} {ta : TA} {px py pt : Pos} {kt k2 pt2} (hc : X.calm = true) (hN : X.N.Nodup) (hi : X.N[i]? = some x) (hj : X.N[j]? = some y) (hij : i ≠ j)
    (hx : X.env.scope.names.lookup x = some .local) (hy : X.env.scope.names.lookup y = some .local) (ha : PA X [a, b] ta)
    (hw : swappedStores [.Tuple [.Name x px, .Name y py] kt pt] (.Tuple [a, b] k2 pt2) X.env = pure (some [x, y]))
    (hs : swapsWithSole [.Tuple [.Name x px, .Name y py] kt pt] (.Tuple [a, b] k2 pt2) pos.line X.env = pure false := by rfl) :
    PS X (.Assign [.Tuple [.Name x px, .Name y py] kt pt] (.Tuple [a, b] k2 pt2) pos) (tPar i j ta) := by
  intro pins s σ H D I h
  rw [exec_Assign_arm]
  refine wpAny_bind (wpAny_standAt ?_)
  rw [hs]
  refine wpAny_bind (wpAny_pure ?_)
  rw [if_neg (by decide)]
  refine wpAny_bind (Tuple_ (thn (ha _ pins s σ H _ I h) fun us s1 ⟨vs, H1, I1, r1, q1⟩ => ?_))
  obtain ⟨v, w, e1, q1⟩ := q1
  subst e1
  obtain ⟨u1, u2, rfl, rv, rw'⟩ : ∃ u1 u2, us = [u1, u2] ∧ RelV v u1 ∧ RelV w u2 := by
    cases r1 with
    | cons p q =>
      cases q with
      | cons p' q' =>
        cases q'
        exact ⟨_, _, rfl, p, p'⟩
  refine wpAny_newObj_type ?_ (by show 2 ≤ sizeLine; decide)
  have I2 : Inv X pins σ H1 { s1 with heap := s1.heap.push { cls := .type "tuple", data := .seq [u1, u2].toArray } } := I1.kept (t' := s1.toks) fun b o e => Heap.get?_push_of_some _ e
  rw [hw]
  refine wpAny_bind (wpAny_pure ?_)
  show wpAny (model X.prog X.w) X.A (do rule "assign.swapped-stores"; let items ← unpackItems (.ref s1.heap.objs.size) 2 none; assignInOrder [fun v => bindName X.env y v, fun v => bindName X.env x v] items.reverse; pure Flow.next) _ _ _
  refine wpAny_bind (wpAny_rule (wpAny_bind (unpackItems_tuple (items := #[u1, u2]) (I.ok.hd hc) (IsTup.new s1.heap _) fun h' hx' => ?_)))
  have I3 := I2.kept (h' := h') (t' := s1.toks) fun b o e => hx' b o (Nat.ne_of_lt (Heap.lt_size e)) e
  show wpAny _ _ (assignInOrder [fun v => bindName X.env y v, fun v => bindName X.env x v] [u2, u1] >>= fun _ => pure Flow.next) _ _ _
  refine wpAny_bind (assignInOrder_cons (wpAny_bindName (store_ok I3 hN hj (.inl hy) rw' (fun s2 I4 => ?_) (.inr hy))))
  refine assignInOrder_cons (wpAny_bindName (store_ok I4 hN hi (.inl hx) rv (fun s3 I5 => assignInOrder_nil (wpAny_pure ?_)) (.inr hx)))
  rw [List.set_comm _ _ (Ne.symm hij)] at I5
  exact ⟨_, H1, I5, q1⟩
end

section
variable {X : Cx} {pos : Pos}
def tWhile (c : TT) (tb : TS) : TS := fun D σ H => ∃ W : Nat → St → Hp → Prop, (∃ m, W m σ H) ∧ ∀ m σ H, W m σ H →
  c σ H fun b H1 => if b = true then ∃ N : St → Hp → Prop, (∀ σ' H', N σ' H' → ∃ m', m' < m ∧ W m' σ' H') ∧ tb { D with nx := N, ct := N, bk := D.nx } σ H1 else D.nx σ H1
theorem ps_while {c : Expr} {body : List Stmt} {tc : TT} {tb : TS} (hp : PassesOwn (model X.prog X.w) X.A X.env X.xe) (hc : PT X c tc) (hb : PSs X body tb) : PS X (.While c body [] pos) (tWhile tc tb) := by
  intro pins s σ H D I h
  obtain ⟨W, ⟨m0, w0⟩, turn⟩ := h
  refine wpAny_While (codeAny_whileLoop (fun n s' => ∃ σ' H', Inv X pins σ' H' s' ∧ W n σ' H') ?_ m0 ⟨σ, H, I, w0⟩)
  rintro n s1 ⟨σ1, H1, I1, w1⟩
  refine wpAny_passesOwn hp (thn (hc pins s1 σ1 H1 _ I1 (turn n σ1 H1 w1)) fun b s2 ⟨H2, I2, q2⟩ => ?_)
  cases b with
  | true =>
    obtain ⟨N, hN, q2⟩ := q2
    rw [if_pos rfl]
    refine wpAny_passesOwn hp (thn (hb pins s2 σ1 H2 _ I2 q2) fun f s3 q3 => ?_)
    cases f with
    | next =>
      obtain ⟨σ3, H3, I3, n3⟩ := q3
      obtain ⟨m', hm, w3⟩ := hN σ3 H3 n3
      exact ⟨m', hm, σ3, H3, I3, w3⟩
    | cont =>
      obtain ⟨σ3, H3, I3, n3⟩ := q3
      obtain ⟨m', hm, w3⟩ := hN σ3 H3 n3
      exact ⟨m', hm, σ3, H3, I3, w3⟩
    | brk => exact q3
    | ret v => exact q3
  | false =>
    rw [if_neg Bool.false_ne_true]
    exact wpAny_execs_nil ⟨σ1, H2, I2, q2⟩
end

structure It where
  go : Nat → Hp → Prop
  yld : Nat → Hp → V → Hp → Prop
  stop : Nat → Hp → Prop
def FpOk (X : Cx) (pins : List (Addr × Obj)) (H : Hp) (b : Addr) : Prop :=
  H b = none ∧ b ≠ X.env.locals ∧ b ∉ X.fs ∧ (b ∈ X.ex ∨ X.s₀.heap.objs.size ≤ b) ∧ (∀ x c, X.env.cells.lookup x = some c → c ≠ b) ∧ ∀ p ∈ X.pn ++ pins, p.1 ≠ b
theorem Inv.fpOk {X : Cx} {pins : List (Addr × Obj)} {σ : St} {H H' : Hp} {s : Shared} {b : Addr} (I : Inv X pins σ H s) (hb : s.heap.objs.size ≤ b) (hn : H' b = none) : FpOk X pins H' b := by
  refine ⟨hn, Nat.ne_of_gt (Nat.lt_of_lt_of_le I.lt hb), I.nofs hb, .inr (Nat.le_trans I.sz hb), fun x c e z => ?_, fun p hp z => ?_⟩
  · obtain ⟨v, q⟩ := I.cell x c e
    exact absurd (Nat.lt_of_lt_of_le q.lt (by rw [z]; exact hb)) (Nat.lt_irrefl _)
  · exact absurd (Nat.lt_of_lt_of_le (Heap.lt_size (I.pin p hp).1) (by rw [z]; exact hb)) (Nat.lt_irrefl _)
structure Turn (P : Program) (w : World) (K : PySem.W.Frag) (tg : Expr) (J : It) (fp : List Addr) (it : Addr) (tn : Nat → Heap → Prop) : Prop where
  mem : it ∈ fp
  obj : ∀ i h, tn i h → ∀ b ∈ fp, ∃ o, h.get? b = some o ∧ ∀ v, o.data ≠ .cell v
  keep : ∀ i h h', tn i h → (∀ b ∈ fp, ∀ o, h.get? b = some o → h'.get? b = some o) → tn i h'
  item : ∀ (X : Cx), X.prog = P → X.w = w → X.K = K → X.calm = true → ∀ (i : Nat) (pins : List (Addr × Obj)) (s : Shared) (σ : St) (H : Hp) (E : Value → Shared → Prop), Inv X pins σ H s → (∀ b ∈ fp, FpOk X pins H b) → tn i s.heap → J.go i H →
    wpAny (model P w) X.A (pyNext (.ref it)) (fun r s1 => ∃ u, r = some u ∧
      wpAny (model P w) X.A (letOwnedTupleGo tg (.ref it) u) (fun _ s2 => ∃ x H', Inv X pins σ H' s2 ∧ RelV x u ∧ J.yld i H x H' ∧ tn (i + 1) s2.heap ∧ ∀ b ∈ fp, H' b = none) E s1) E s
  done : ∀ (X : Cx), X.prog = P → X.w = w → X.K = K → X.calm = true → ∀ (i : Nat) (pins : List (Addr × Obj)) (s : Shared) (σ : St) (H : Hp) (E : Value → Shared → Prop), Inv X pins σ H s → (∀ b ∈ fp, FpOk X pins H b) → tn i s.heap → J.stop i H →
    wpAny (model P w) X.A (pyNext (.ref it)) (fun r s1 => r = none ∧ Inv X pins σ H s1) E s
  self : ∀ (A : Around) (i : Nat) (s : Shared) (Q : Value → Shared → Prop) (E : Value → Shared → Prop), tn i s.heap → Q (.ref it) s → wpAny (model P w) A (pyIter (.ref it)) Q E s
abbrev TI := St → Hp → (It → Hp → Prop) → Prop
def PIE (X : Cx) (pins : List (Addr × Obj)) (σ : St) (tg : Expr) (R : It → Hp → Prop) (itv : Value) (s2 : Shared) : Prop :=
  ∃ (it : Addr) (fp : List Addr) (tn : Nat → Heap → Prop) (J : It) (H' : Hp), itv = .ref it ∧ Inv X pins σ H' s2 ∧ Turn X.prog X.w X.K tg J fp it tn ∧ tn 0 s2.heap ∧ (∀ b ∈ fp, FpOk X pins H' b) ∧ R J H'
def PI (X : Cx) (tg iter : Expr) (wi : TI) : Prop :=
  ∀ (pins : List (Addr × Obj)) (s : Shared) (σ : St) (H : Hp) (R : It → Hp → Prop), Inv X pins σ H s → wi σ H R →
    wpAny (model X.prog X.w) X.A (eval iter X.env) (fun v s1 => wpAny (model X.prog X.w) X.A (pyIter v) (PIE X pins σ tg R) X.xe s1) X.xe s

theorem go_of {M : Model} {A : Around} {E : Value → Shared → Prop} {s : Shared} {tg : Expr} {it : Addr} {u : Value} {o : Obj} {n : String} {vs : Array Value} {Q : Unit → Shared → Prop} (ho : s.heap.get? it = some o) (hc : o.cls = .type n) (hd : o.data = .fields vs)
    (hn : ["enumerate", "zip", "dict_itemiterator", "dict_reverseitemiterator", "odict_iterator", "itertools.zip_longest", "itertools.pairwise"].contains n = false) (hQ : Q () s) : wpAny M A (letOwnedTupleGo tg (.ref it) u) Q E s := by
  unfold letOwnedTupleGo
  cases tg <;> first
    | exact wpAny_pure hQ
    | (cases u <;> first
        | exact wpAny_pure hQ
        | (refine wpAny_bind (wpAny_load ho ?_)
           rw [hc, hd]
           show wpAny M A (if (["enumerate", "zip", "dict_itemiterator", "dict_reverseitemiterator", "odict_iterator", "itertools.zip_longest", "itertools.pairwise"].contains n && vs[0]? == some (rawInt _)) = true then _ else _) Q E s
           rw [if_neg (by intro h; rw [hn, Bool.false_and] at h; cases h)]
           exact wpAny_pure hQ))

def Itl (K : PySem.W.Frag) (a : Addr) : It :=
  ⟨fun i H => ∃ xs x, SqL K H a xs ∧ xs[i]? = some x, fun i H x H' => H' = H ∧ ∀ xs, SqL K H a xs → xs[i]? = some x, fun i H => ∃ xs, SqL K H a xs ∧ xs.length ≤ i⟩
def Itt (K : PySem.W.Frag) (a : Addr) : It :=
  ⟨fun i H => ∃ xs x, SqT K H a xs ∧ xs[i]? = some x, fun i H x H' => H' = H ∧ ∀ xs, SqT K H a xs → xs[i]? = some x, fun i H => ∃ xs, SqT K H a xs ∧ xs.length ≤ i⟩
def Itr (lo : Int) (n : Nat) : It := ⟨fun i _ => i < n, fun i H x H' => H' = H ∧ x = .int (lo + i), fun i _ => n ≤ i⟩
theorem turn_list {P : Program} {w : World} {K : PySem.W.Frag} {tg : Expr} (a it : Addr) : Turn P w K tg (Itl K a) [it] it (fun i h => h.IsListIter it a i) where
  mem := by simp
  obj := fun i h st b hb => by
    have e : b = it := by simpa using hb
    subst e
    obtain ⟨o, e, c, d⟩ := st
    exact ⟨o, e, fun v z => by rw [d] at z; cases z⟩
  keep := fun i h h' st k => st.at fun o e => k it (by simp) o e
  item := by
    intro X hP hw hK hc i pins s σ H E I hf st hg
    subst hP hw hK
    obtain ⟨xs, x, hq, hx⟩ := hg
    obtain ⟨its, rv, p, hz⟩ := I.list hq
    obtain ⟨u, hu, ru⟩ := rv.get hx
    obtain ⟨f0, f1, f2, f3, f4, f5⟩ := hf it (by simp)
    refine wpAny_pyNext_list_item st p.isList (x := u) (by simpa using hu) fun h' st' sb => ?_
    have I1 : Inv X pins σ H { s with heap := h' } := I.turned (t' := s.toks) (fun b o hb e => (sb.2 b hb).trans e) f0 f1 f3 f4 f5
    obtain ⟨o, e, c, d⟩ := id st'
    exact ⟨u, rfl, go_of (s := { s with heap := h' }) e c d (by decide) ⟨x, H, I1, ru, ⟨rfl, fun ys hy => by rw [I.list_inj hy hq]; exact hx⟩, st', fun b hb => (hf b hb).1⟩⟩
  done := by
    intro X hP hw hK hc i pins s σ H E I hf st hg
    subst hP hw hK
    obtain ⟨xs, hq, hx⟩ := hg
    obtain ⟨its, rv, p, hz⟩ := I.list hq
    obtain ⟨f0, f1, f2, f3, f4, f5⟩ := hf it (by simp)
    have hl := rv.length
    exact wpAny_pyNext_list_end (I.ok.hd hc) st p.isList (by simp; omega) fun h' eb => ⟨rfl, I.turned (t' := s.toks) (fun b o hb e => eb b o hb e) f0 f1 f3 f4 f5⟩
  self := fun _ _ _ _ _ st h => wpAny_pyIter_listiter st h
theorem turn_tuple {P : Program} {w : World} {K : PySem.W.Frag} {tg : Expr} (a it : Addr) : Turn P w K tg (Itt K a) [it] it (fun i h => h.IsTupleIter it a i) where
  mem := by simp
  obj := fun i h st b hb => by
    have e : b = it := by simpa using hb
    subst e
    obtain ⟨o, e, c, d⟩ := st
    exact ⟨o, e, fun v z => by rw [d] at z; cases z⟩
  keep := fun i h h' st k => st.at fun o e => k it (by simp) o e
  item := by
    intro X hP hw hK hc i pins s σ H E I hf st hg
    subst hP hw hK
    obtain ⟨xs, x, hq, hx⟩ := hg
    obtain ⟨its, rv, p, hz⟩ := I.tuple hq
    obtain ⟨u, hu, ru⟩ := rv.get hx
    obtain ⟨f0, f1, f2, f3, f4, f5⟩ := hf it (by simp)
    refine wpAny_pyNext_tuple_item st (show s.heap.IsTuple a its.toArray from p) (x := u) (by simpa using hu) fun h' st' sb => ?_
    have I1 : Inv X pins σ H { s with heap := h' } := I.turned (t' := s.toks) (fun b o hb e => (sb.2 b hb).trans e) f0 f1 f3 f4 f5
    obtain ⟨o, e, c, d⟩ := id st'
    exact ⟨u, rfl, go_of (s := { s with heap := h' }) e c d (by decide) ⟨x, H, I1, ru, ⟨rfl, fun ys hy => by rw [I.tuple_inj hy hq]; exact hx⟩, st', fun b hb => (hf b hb).1⟩⟩
  done := by
    intro X hP hw hK hc i pins s σ H E I hf st hg
    subst hP hw hK
    obtain ⟨xs, hq, hx⟩ := hg
    obtain ⟨its, rv, p, hz⟩ := I.tuple hq
    obtain ⟨f0, f1, f2, f3, f4, f5⟩ := hf it (by simp)
    have hl := rv.length
    exact wpAny_pyNext_tuple_end (I.ok.hd hc) st (show s.heap.IsTuple a its.toArray from p) (by simp; omega) fun h' eb => ⟨rfl, I.turned (t' := s.toks) (fun b o hb e => eb b o hb e) f0 f1 f3 f4 f5⟩
  self := fun _ _ _ _ _ st h => wpAny_pyIter_tupleiter st h
theorem turn_range {P : Program} {w : World} {K : PySem.W.Frag} {tg : Expr} (it : Addr) (lo : Int) (n : Nat) : Turn P w K tg (Itr lo n) [it] it (fun i h => IsRangeIter h it (lo + (i : Nat) * 1) ((n : Int) - (i : Nat)) 1) where
  mem := by simp
  obj := fun i h st b hb => by
    have e : b = it := by simpa using hb
    subst e
    exact ⟨_, st, fun v z => by
      have z' : Data.fields _ = Data.cell v := z
      cases z'⟩
  keep := fun i h h' st k => k it (by simp) _ st
  item := by
    intro X hP hw hK hc i pins s σ H E I hf st hg
    subst hP hw hK
    obtain ⟨f0, f1, f2, f3, f4, f5⟩ := hf it (by simp)
    have W := Walks.range (prog := X.prog) (w := X.w) (I.ok.hd hc) it lo 1 n
    refine W.item i s _ _ hg st fun v h' tk hv st' kk => ?_
    obtain ⟨t, rfl⟩ := hv
    have I1 : Inv X pins σ H { s with heap := h', toks := tk } := I.turned (fun b o hb e => kk b o (by simpa using hb) e) f0 f1 f3 f4 f5
    refine ⟨_, rfl, go_of (s := { s with heap := h', toks := tk }) (n := "range_iterator") st' rfl rfl (by decide) ⟨.int (lo + i), H, I1, ⟨t, ?_⟩, ⟨rfl, rfl⟩, st', fun b hb => (hf b hb).1⟩⟩
    rw [Int.mul_one]
  done := by
    intro X hP hw hK hc i pins s σ H E I hf st hg
    subst hP hw hK
    obtain ⟨f0, f1, f2, f3, f4, f5⟩ := hf it (by simp)
    exact wpAny_pyNext_range_end (I.ok.hd hc) st (by have : n ≤ i := hg; omega) fun h' eb => ⟨rfl, I.turned (t' := s.toks) (fun b o hb e => eb b o hb e) f0 f1 f3 f4 f5⟩
  self := fun _ _ _ _ _ st h => wpAny_pyIter_rangeiter st h
end L2

namespace L2
open PySem PySem.Spec PyProof.Rows
section
variable {X : Cx} {tg : Expr}
def iList (K : PySem.W.Frag) (tl : TE) : TI := fun σ H R => tl σ H fun x H1 => ∃ a, x = .ref a ∧ (∃ xs, SqL K H1 a xs) ∧ R (Itl K a) H1
def iTup (K : PySem.W.Frag) (tl : TE) : TI := fun σ H R => tl σ H fun x H1 => ∃ a, x = .ref a ∧ (∃ xs, SqT K H1 a xs) ∧ R (Itt K a) H1
theorem pi_list {l : Expr} {tl : TE} (hl : PE X l tl) : PI X tg l (iList X.K tl) := by
  intro pins s σ H R I h
  refine thn (hl pins s σ H _ I h) fun v s1 ⟨x, H1, I1, r1, q1⟩ => ?_
  obtain ⟨a, e, ⟨xs, hq⟩, q⟩ := q1
  subst e
  cases r1
  obtain ⟨its, rv, p, hz⟩ := I1.list hq
  refine wpAny_pyIter_list p.isList ?_
  refine ⟨s1.heap.objs.size, [s1.heap.objs.size], _, _, H1, rfl, I1.kept (t' := s1.toks) fun b o e => Heap.get?_push_of_some _ e, turn_list a _, ⟨_, Heap.get?_push_size _ rfl, rfl, rfl⟩, fun b hb => ?_, q⟩
  have e : b = s1.heap.objs.size := by simpa using hb
  subst e
  exact I1.fpOk (Nat.le_refl _) (I1.hok.fresh (Nat.le_refl _))
theorem pi_tup {l : Expr} {tl : TE} (hl : PE X l tl) : PI X tg l (iTup X.K tl) := by
  intro pins s σ H R I h
  refine thn (hl pins s σ H _ I h) fun v s1 ⟨x, H1, I1, r1, q1⟩ => ?_
  obtain ⟨a, e, ⟨xs, hq⟩, q⟩ := q1
  subst e
  cases r1
  obtain ⟨its, rv, p, hz⟩ := I1.tuple hq
  refine wpAny_pyIter_tuple (show s1.heap.IsTuple a its.toArray from p) ?_
  refine ⟨s1.heap.objs.size, [s1.heap.objs.size], _, _, H1, rfl, I1.kept (t' := s1.toks) fun b o e => Heap.get?_push_of_some _ e, turn_tuple a _, ⟨_, Heap.get?_push_size _ rfl, rfl, rfl⟩, fun b hb => ?_, q⟩
  have e : b = s1.heap.objs.size := by simpa using hb
  subst e
  exact I1.fpOk (Nat.le_refl _) (I1.hok.fresh (Nat.le_refl _))
theorem range_it {pins : List (Addr × Obj)} {σ : St} {H : Hp} {s : Shared} {R : It → Hp → Prop} {E : Value → Shared → Prop} {lo hi : Int} {t u v : Tok} {tk : Nat} (I : Inv X pins σ H s) (h1 : -(2 ^ 62) ≤ lo) (h2 : lo < 2 ^ 62) (h3 : -(2 ^ 62) ≤ hi) (h4 : hi < 2 ^ 62)
    (q : R (Itr lo (hi - lo).toNat) H) : wpAny (model X.prog X.w) X.A (pyIter (.ref s.heap.objs.size)) (PIE X pins σ tg R) E { s with heap := s.heap.push { cls := .type "range", data := .fields #[.int lo t, .int hi u, .int 1 v] }, toks := tk } := by
  refine wpAny_pyIter_range (IsRange.new ..) (small_one h1 h2 h3 h4) ?_
  have I1 : Inv X pins σ H { s with heap := s.heap.push { cls := .type "range", data := .fields #[.int lo t, .int hi u, .int 1 v] }, toks := tk } := I.kept fun b o e => Heap.get?_push_of_some _ e
  refine ⟨(s.heap.push { cls := .type "range", data := .fields #[.int lo t, .int hi u, .int 1 v] }).objs.size, [(s.heap.push { cls := .type "range", data := .fields #[.int lo t, .int hi u, .int 1 v] }).objs.size], _, _, H, rfl,
    I1.kept (t' := tk) fun b o e => Heap.get?_push_of_some _ e, turn_range _ lo (hi - lo).toNat, ?_, fun b hb => ?_, q⟩
  · have e1 : lo + ((0 : Nat) : Int) * 1 = lo := by simp
    have e2 : (((hi - lo).toNat : Nat) : Int) - ((0 : Nat) : Int) = Builtin.Range.rangeSize lo hi 1 := by rw [rangeSize_one]; split <;> omega
    show IsRangeIter _ _ (lo + ((0 : Nat) : Int) * 1) ((((hi - lo).toNat : Nat) : Int) - ((0 : Nat) : Int)) 1
    rw [e1, e2]
    exact Heap.get?_push_size _ rfl
  · have e : b = (s.heap.push { cls := .type "range", data := .fields #[.int lo t, .int hi u, .int 1 v] }).objs.size := by simpa using hb
    subst e
    exact I1.fpOk (Nat.le_refl _) (I1.hok.fresh (Nat.le_refl _))
def iRng1 (ta : TA) : TI := fun σ H R => ta σ H fun vs H1 => ∃ j : Int, vs = [.int j] ∧ -(2 ^ 62) ≤ j ∧ j < 2 ^ 62 ∧ R (Itr 0 j.toNat) H1
theorem pi_range1 {a : Expr} {ta : TA} {p pos : Pos} (hg : Gl X "range") (hm : X.mg "range" = none) (ha : PA X [a] ta) (hs : starEach [a] X.env = [(false, eval a X.env)] := by rfl) : PI X tg (.Call (.Name "range" p) [a] [] pos) (iRng1 ta) := by
  intro pins s σ H R I h
  refine Call_ (ld_blt I hg hm boot_range (PyProof.Rows.callWith_type1 (thn (ha pos pins s σ H _ I h) fun us s1 ⟨vs, H1, I1, r1, q1⟩ => ?_) hs rfl))
  obtain ⟨j, e, q1, q2, q⟩ := q1
  subst e
  cases r1 with
  | cons r rr =>
    cases rr
    obtain ⟨t, rfl⟩ := r
    exact call_range_1 (range_it I1 (by omega) (by omega) q1 q2 (by simpa using q))
def tFor (wi : TI) (g : TG) (tb : TS) : TS := fun D σ H => wi σ H fun J H1 => ∃ W : Nat → Nat → St → Hp → Prop, (∃ m, W 0 m σ H1) ∧ ∀ i m σ H, W i m σ H →
  (J.stop i H ∧ D.nx σ H) ∨ (J.go i H ∧ ∃ N : St → Hp → Prop, (∀ σ' H', N σ' H' → ∃ m', m' < m ∧ W (i + 1) m' σ' H') ∧ ∀ x H', J.yld i H x H' → g x σ H' fun σ2 H2 => tb { D with nx := N, ct := N, bk := D.nx } σ2 H2)
def pinsAt (fp : List Addr) (h : Heap) : List (Addr × Obj) := fp.filterMap fun b => (h.get? b).map fun o => (b, o)
theorem mem_pinsAt {fp : List Addr} {h : Heap} {b : Addr} {o : Obj} (hb : b ∈ fp) (e : h.get? b = some o) : (b, o) ∈ pinsAt fp h := List.mem_filterMap.mpr ⟨b, hb, by rw [e]; rfl⟩
theorem of_pinsAt {fp : List Addr} {h : Heap} {p : Addr × Obj} (hp : p ∈ pinsAt fp h) : p.1 ∈ fp ∧ h.get? p.1 = some p.2 := by
  obtain ⟨b, hb, e⟩ := List.mem_filterMap.mp hp
  cases q : h.get? b with
  | none => rw [q] at e; cases e
  | some o =>
    rw [q] at e
    have e' : (b, o) = p := Option.some.inj e
    subst e'
    exact ⟨hb, q⟩
theorem Inv.pinned {pins : List (Addr × Obj)} {σ : St} {H : Hp} {s : Shared} {fp : List Addr} (I : Inv X pins σ H s) (hf : ∀ b ∈ fp, FpOk X pins H b) (ho : ∀ b ∈ fp, ∃ o, s.heap.get? b = some o ∧ ∀ v, o.data ≠ .cell v) : Inv X (pins ++ pinsAt fp s.heap) σ H s :=
  I.pins_of fun p hp => (List.mem_append.mp hp).elim (fun z => I.pin p (List.mem_append_right _ z)) fun z => by
    obtain ⟨hb, e⟩ := of_pinsAt z
    obtain ⟨f0, f1, f2, _⟩ := hf p.1 hb
    obtain ⟨o, e', d⟩ := ho p.1 hb
    rw [e] at e'; cases e'
    exact ⟨e, f0, f1, f2, d⟩
theorem Inv.unpinned {pins pl : List (Addr × Obj)} {σ : St} {H : Hp} {s : Shared} (I : Inv X (pins ++ pl) σ H s) : Inv X pins σ H s := I.pins_of fun p hp => I.pin p (List.mem_append_right _ (List.mem_append_left _ hp))
theorem ps_for {iter : Expr} {body : List Stmt} {wi : TI} {g : TG} {tb : TS} {pos : Pos} (hp : PassesOwn (model X.prog X.w) X.A X.env X.xe) (hc : X.calm = true) (hi : PI X tg iter wi) (hg : PG X tg g) (hb : PSs X body tb)
    (hs : ∀ x, foldedSetIterable iter X.env x = pure x := by intro _; rfl) : PS X (.For tg iter body [] pos) (tFor wi g tb) := by
  intro pins s σ H D I h
  refine wpAny_For (thn (hi pins s σ H _ I h) fun v s1 h1 => thn h1 fun itv s2 h2 => ?_) hs
  obtain ⟨it, fp, tn, J, H2, e, I2, T, st2, f2, W, ⟨m0, w0⟩, turn⟩ := h2
  subst e
  -- what stays true of the iterator's objects through the loop
  have stat : ∀ {H' : Hp}, (∀ b ∈ fp, H' b = none) → ∀ b ∈ fp, FpOk X pins H' b := fun hn b hb => ⟨hn b hb, (f2 b hb).2⟩
  refine codeAny_forLoop_any (fun n s' => ∃ i σ' H', Inv X pins σ' H' s' ∧ tn i s'.heap ∧ (∀ b ∈ fp, H' b = none) ∧ W i n σ' H') ?_ m0 ⟨0, σ, H2, I2, st2, fun b hb => (f2 b hb).1, w0⟩
  rintro n s3 ⟨i, σ3, H3, I3, st3, fr3, w3⟩
  rcases turn i n σ3 H3 w3 with ⟨stop, qn⟩ | ⟨go, N, hN, step⟩
  · refine wpAny_passesOwn hp (thn (T.done X rfl rfl rfl hc i pins s3 σ3 H3 X.xe I3 (stat fr3) st3 stop) fun r s4 ⟨hr, I4⟩ => ?_)
    subst hr
    exact wpAny_execs_nil ⟨σ3, H3, I4, qn⟩
  · refine wpAny_passesOwn hp (thn (T.item X rfl rfl rfl hc i pins s3 σ3 H3 X.xe I3 (stat fr3) st3 go) fun r s4 ⟨u, hr, h4⟩ => ?_)
    subst hr
    refine wpAny_passesOwn hp (thn h4 fun _ s5 ⟨x, H5, I5, r5, y5, st5, fr5⟩ => ?_)
    have I5' := I5.pinned (stat fr5) (T.obj _ _ st5)
    refine wpAny_passesOwn hp (thn (hg _ s5 σ3 H5 x u _ I5' r5 (step x H5 y5)) fun _ s6 ⟨σ6, H6, I6, q6⟩ => ?_)
    refine wpAny_passesOwn hp (thn (hb _ s6 σ6 H6 _ I6 q6) fun f s7 q7 => ?_)
    have again : ∀ {σ7 : St} {H7 : Hp}, Inv X (pins ++ pinsAt fp s5.heap) σ7 H7 s7 → N σ7 H7 → ∃ m, m < n ∧ ∃ i σ' H', Inv X pins σ' H' s7 ∧ tn i s7.heap ∧ (∀ b ∈ fp, H' b = none) ∧ W i m σ' H' := fun {σ7 H7} I7 n7 => by
      obtain ⟨m', hm, w7⟩ := hN σ7 H7 n7
      refine ⟨m', hm, i + 1, σ7, H7, I7.unpinned, T.keep _ _ _ st5 fun b hb o e => (I7.pin (b, o) (List.mem_append_right _ (List.mem_append_right _ (mem_pinsAt hb e)))).1, fun b hb => ?_, w7⟩
      obtain ⟨o, e, d⟩ := T.obj _ _ st5 b hb
      exact (I7.pin (b, o) (List.mem_append_right _ (List.mem_append_right _ (mem_pinsAt hb e)))).2.1
    cases f with
    | next => obtain ⟨σ7, H7, I7, n7⟩ := q7; exact again I7 n7
    | cont => obtain ⟨σ7, H7, I7, n7⟩ := q7; exact again I7 n7
    | brk => obtain ⟨σ7, H7, I7, q7⟩ := q7; exact ⟨σ7, H7, I7.unpinned, q7⟩
    | ret v => obtain ⟨x7, σ7, H7, I7, r7, q7⟩ := q7; exact ⟨x7, σ7, H7, I7.unpinned, r7, q7⟩
end

theorem for_list {K : PySem.W.Frag} {a : Addr} {xs : List V} {g : TG} {tb : TS} {D : Ends} {σ : St} {H : Hp} (Pv : Nat → St → Hp → Prop) (h0 : Pv 0 σ H) (hl : ∀ i σ H, i ≤ xs.length → Pv i σ H → SqL K H a xs)
    (hs : ∀ i x σ H, xs[i]? = some x → Pv i σ H → g x σ H fun σ2 H2 => tb { D with nx := Pv (i + 1), ct := Pv (i + 1), bk := D.nx } σ2 H2) (hd : ∀ σ H, Pv xs.length σ H → D.nx σ H) :
    ∃ W : Nat → Nat → St → Hp → Prop, (∃ m, W 0 m σ H) ∧ ∀ i m σ H, W i m σ H →
      ((Itl K a).stop i H ∧ D.nx σ H) ∨ ((Itl K a).go i H ∧ ∃ N : St → Hp → Prop, (∀ σ' H', N σ' H' → ∃ m', m' < m ∧ W (i + 1) m' σ' H') ∧ ∀ x H', (Itl K a).yld i H x H' → g x σ H' fun σ2 H2 => tb { D with nx := N, ct := N, bk := D.nx } σ2 H2) := by
  refine ⟨fun i m σ H => m = xs.length - i ∧ i ≤ xs.length ∧ Pv i σ H, ⟨xs.length, by simp, Nat.zero_le _, h0⟩, ?_⟩
  rintro i m σ H ⟨rfl, hi, p⟩
  have q := hl i σ H hi p
  by_cases hlt : i < xs.length
  · refine .inr ⟨⟨xs, xs[i], q, by simp [hlt]⟩, Pv (i + 1), fun σ' H' p' => ⟨xs.length - (i + 1), by omega, rfl, hlt, p'⟩, fun x H' y => ?_⟩
    obtain ⟨e, y⟩ := y
    subst e
    exact hs i x σ _ (y xs q) p
  · have e : i = xs.length := by omega
    subst e
    exact .inl ⟨⟨xs, q, Nat.le_refl _⟩, hd σ H p⟩
theorem for_tup {K : PySem.W.Frag} {a : Addr} {xs : List V} {g : TG} {tb : TS} {D : Ends} {σ : St} {H : Hp} (Pv : Nat → St → Hp → Prop) (h0 : Pv 0 σ H) (hl : ∀ i σ H, i ≤ xs.length → Pv i σ H → SqT K H a xs)
    (hs : ∀ i x σ H, xs[i]? = some x → Pv i σ H → g x σ H fun σ2 H2 => tb { D with nx := Pv (i + 1), ct := Pv (i + 1), bk := D.nx } σ2 H2) (hd : ∀ σ H, Pv xs.length σ H → D.nx σ H) :
    ∃ W : Nat → Nat → St → Hp → Prop, (∃ m, W 0 m σ H) ∧ ∀ i m σ H, W i m σ H →
      ((Itt K a).stop i H ∧ D.nx σ H) ∨ ((Itt K a).go i H ∧ ∃ N : St → Hp → Prop, (∀ σ' H', N σ' H' → ∃ m', m' < m ∧ W (i + 1) m' σ' H') ∧ ∀ x H', (Itt K a).yld i H x H' → g x σ H' fun σ2 H2 => tb { D with nx := N, ct := N, bk := D.nx } σ2 H2) := by
  refine ⟨fun i m σ H => m = xs.length - i ∧ i ≤ xs.length ∧ Pv i σ H, ⟨xs.length, by simp, Nat.zero_le _, h0⟩, ?_⟩
  rintro i m σ H ⟨rfl, hi, p⟩
  have q := hl i σ H hi p
  by_cases hlt : i < xs.length
  · refine .inr ⟨⟨xs, xs[i], q, by simp [hlt]⟩, Pv (i + 1), fun σ' H' p' => ⟨xs.length - (i + 1), by omega, rfl, hlt, p'⟩, fun x H' y => ?_⟩
    obtain ⟨e, y⟩ := y
    subst e
    exact hs i x σ _ (y xs q) p
  · have e : i = xs.length := by omega
    subst e
    exact .inl ⟨⟨xs, q, Nat.le_refl _⟩, hd σ H p⟩
theorem for_range {lo : Int} {n : Nat} {g : TG} {tb : TS} {D : Ends} {σ : St} {H : Hp} (Pv : Nat → St → Hp → Prop) (h0 : Pv 0 σ H)
    (hs : ∀ i σ H, i < n → Pv i σ H → g (.int (lo + i)) σ H fun σ2 H2 => tb { D with nx := Pv (i + 1), ct := Pv (i + 1), bk := D.nx } σ2 H2) (hd : ∀ σ H, Pv n σ H → D.nx σ H) :
    ∃ W : Nat → Nat → St → Hp → Prop, (∃ m, W 0 m σ H) ∧ ∀ i m σ H, W i m σ H →
      ((Itr lo n).stop i H ∧ D.nx σ H) ∨ ((Itr lo n).go i H ∧ ∃ N : St → Hp → Prop, (∀ σ' H', N σ' H' → ∃ m', m' < m ∧ W (i + 1) m' σ' H') ∧ ∀ x H', (Itr lo n).yld i H x H' → g x σ H' fun σ2 H2 => tb { D with nx := N, ct := N, bk := D.nx } σ2 H2) := by
  refine ⟨fun i m σ H => m = n - i ∧ i ≤ n ∧ Pv i σ H, ⟨n, by simp, Nat.zero_le _, h0⟩, ?_⟩
  rintro i m σ H ⟨rfl, hi, p⟩
  by_cases hlt : i < n
  · refine .inr ⟨hlt, Pv (i + 1), fun σ' H' p' => ⟨n - (i + 1), by omega, rfl, hlt, p'⟩, fun x H' y => ?_⟩
    obtain ⟨e, y⟩ := y
    subst e y
    exact hs i σ _ hlt p
  · have e : i = n := by omega
    subst e
    exact .inl ⟨Nat.le_refl _, hd σ H p⟩
theorem while_by {c : TT} {tb : TS} {D : Ends} {σ : St} {H : Hp} (Pv : St → Hp → Prop) (μ : St → Hp → Nat) (h0 : Pv σ H)
    (hs : ∀ σ H, Pv σ H → c σ H fun b H1 => if b = true then tb { D with nx := fun σ' H' => Pv σ' H' ∧ μ σ' H' < μ σ H, ct := fun σ' H' => Pv σ' H' ∧ μ σ' H' < μ σ H, bk := D.nx } σ H1 else D.nx σ H1)
    (mono : ∀ σ H Q Q', (∀ b H1, Q b H1 → Q' b H1) → c σ H Q → c σ H Q') : tWhile c tb D σ H := by
  refine ⟨fun m σ H => m = μ σ H ∧ Pv σ H, ⟨_, rfl, h0⟩, ?_⟩
  rintro m σ H ⟨rfl, p⟩
  refine mono σ H _ _ (fun b H1 q => ?_) (hs σ H p)
  cases b with
  | true => exact ⟨_, fun σ' H' ⟨p', l⟩ => ⟨_, l, rfl, p'⟩, q⟩
  | false => exact q
end L2

namespace L2
open PySem PySem.Spec PyProof.Rows

abbrev R2 := V → V → Hp → VK → Prop
def OpR (X : Cx) (f : Value → Value → Sem Value) (r : R2) : Prop :=
  ∀ (pins : List (Addr × Obj)) (s : Shared) (σ : St) (H : Hp) (x y : V) (v u : Value) (Q : VK), Inv X pins σ H s → RelV x v → RelV y u → r x y H Q →
    wpAny (model X.prog X.w) X.A (f v u) (EP X pins σ Q) X.xe s
def UnR (X : Cx) (f : Value → Sem Value) (r : V → Hp → VK → Prop) : Prop :=
  ∀ (pins : List (Addr × Obj)) (s : Shared) (σ : St) (H : Hp) (x : V) (v : Value) (Q : VK), Inv X pins σ H s → RelV x v → r x H Q →
    wpAny (model X.prog X.w) X.A (f v) (EP X pins σ Q) X.xe s
def CallR (X : Cx) (f : Value) (r : List V → Hp → VK → Prop) : Prop :=
  ∀ (pins : List (Addr × Obj)) (s : Shared) (σ : St) (H : Hp) (xs : List V) (us : List Value) (Q : VK), Inv X pins σ H s → Vals xs us → r xs H Q →
    wpAny (model X.prog X.w) X.A (call f us) (EP X pins σ Q) X.xe s
def TruR (X : Cx) (r : V → Hp → (Bool → Hp → Prop) → Prop) : Prop :=
  ∀ (pins : List (Addr × Obj)) (s : Shared) (σ : St) (H : Hp) (x : V) (v : Value) (Q : Bool → Hp → Prop), Inv X pins σ H s → RelV x v → r x H Q →
    wpAny (model X.prog X.w) X.A (truthy v) (TP X pins σ Q) X.xe s

def tOp (r : R2) (ta tb : TE) : TE := fun σ H Q => ta σ H fun x H1 => tb σ H1 fun y H2 => r x y H2 Q
def tUn (r : V → Hp → VK → Prop) (ta : TE) : TE := fun σ H Q => ta σ H fun x H1 => r x H1 Q
def rI (C : Int → Int → Prop) (g : Int → Int → V) : R2 := fun x y H Q => ∃ i j, x = .int i ∧ y = .int j ∧ C i j ∧ Q (g i j) H
def rI0 (g : Int → Int → V) : R2 := fun x y H Q => ∃ i j, x = .int i ∧ y = .int j ∧ Q (g i j) H
def rU (g : Int → V) : V → Hp → VK → Prop := fun x H Q => ∃ i, x = .int i ∧ Q (g i) H

section
variable {X : Cx} {a b c : Expr} {ta tb tc : TE} {pos : Pos}

theorem binT (ha : PE X a ta) (hb : PE X b tb) {pins : List (Addr × Obj)} {s : Shared} {σ : St} {H : Hp} {R : V → V → Hp → Prop} (I : Inv X pins σ H s)
    (h : ta σ H fun x H1 => tb σ H1 fun y H2 => R x y H2) {Q : Value → Shared → Prop} {f : Value → Value → Sem Value}
    (hf : ∀ v u s2 x y H2, Inv X pins σ H2 s2 → RelV x v → RelV y u → R x y H2 → wpAny (model X.prog X.w) X.A (f v u) Q X.xe s2) :
    wpAny (model X.prog X.w) X.A (eval a X.env) (fun v s₁ => wpAny (model X.prog X.w) X.A (eval b X.env) (fun u s₂ => wpAny (model X.prog X.w) X.A (f v u) Q X.xe s₂) X.xe s₁) X.xe s := by
  refine thn (ha pins s σ H _ I h) fun v s1 ⟨x, H1, I1, r1, q1⟩ => ?_
  refine thn (hb pins s1 σ H1 _ I1 q1) fun u s2 ⟨y, H2, I2, r2, q2⟩ => ?_
  exact hf v u s2 x y H2 I2 r1 r2 q2

theorem pe_op {op : Operator} {r : R2} (ho : OpR X (binaryOp op) r) (ha : PE X a ta) (hb : PE X b tb) : PE X (.BinOp a op b pos) (tOp r ta tb) := by
  intro pins s σ H Q I h
  exact wpAny_BinOp (binT ha hb I h fun v u s2 x y H2 I2 rx ry q => ho pins s2 σ H2 x y v u Q I2 rx ry q)
theorem pe_un {op : UnaryOp} {r : V → Hp → VK → Prop} (ho : UnR X (unaryOp op) r) (ha : PE X a ta) : PE X (.UnaryOp op a pos) (tUn r ta) := by
  intro pins s σ H Q I h
  exact UnaryOp_ (thn (ha pins s σ H _ I h) fun v s1 ⟨x, H1, I1, r1, q1⟩ => ho pins s1 σ H1 x v Q I1 r1 q1)
theorem opI {f : Value → Value → Sem Value} {C : Int → Int → Prop} {g : Int → Int → Int}
    (rule : ∀ (i j : Int) (t u : Tok) (s : Shared) (Q : Value → Shared → Prop) (E : Value → Shared → Prop), C i j → Q (.int (g i j) s.toks) { s with toks := s.toks + 1 } → wpAny (model X.prog X.w) X.A (f (.int i t) (.int j u)) Q E s) :
    OpR X f (rI C fun i j => .int (g i j)) := by
  intro pins s σ H x y v u Q I rx ry h
  obtain ⟨i, j, rfl, rfl, hc, q⟩ := h
  obtain ⟨t, rfl⟩ := rx
  obtain ⟨t', rfl⟩ := ry
  exact rule i j t t' s _ _ hc ⟨.int (g i j), H, I.tok _, ⟨_, rfl⟩, q⟩
theorem opI0 {f : Value → Value → Sem Value} {g : Int → Int → Int}
    (rule : ∀ (i j : Int) (t u : Tok) (s : Shared) (Q : Value → Shared → Prop) (E : Value → Shared → Prop), Q (.int (g i j) s.toks) { s with toks := s.toks + 1 } → wpAny (model X.prog X.w) X.A (f (.int i t) (.int j u)) Q E s) :
    OpR X f (rI0 fun i j => .int (g i j)) := by
  intro pins s σ H x y v u Q I rx ry h
  obtain ⟨i, j, rfl, rfl, q⟩ := h
  obtain ⟨t, rfl⟩ := rx
  obtain ⟨t', rfl⟩ := ry
  exact rule i j t t' s _ _ ⟨.int (g i j), H, I.tok _, ⟨_, rfl⟩, q⟩
theorem opB0 {f : Value → Value → Sem Value} {g : Int → Int → Bool}
    (rule : ∀ (i j : Int) (t u : Tok) (s : Shared) (Q : Value → Shared → Prop) (E : Value → Shared → Prop), Q (.bool (g i j)) s → wpAny (model X.prog X.w) X.A (f (.int i t) (.int j u)) Q E s) :
    OpR X f (rI0 fun i j => .bl (g i j)) := by
  intro pins s σ H x y v u Q I rx ry h
  obtain ⟨i, j, rfl, rfl, q⟩ := h
  obtain ⟨t, rfl⟩ := rx
  obtain ⟨t', rfl⟩ := ry
  exact rule i j t t' s _ _ ⟨.bl (g i j), H, I, rfl, q⟩

def CDiv (i j : Int) : Prop := 0 < j ∧ j < 1073741824
def CPow (i j : Int) : Prop := 0 ≤ j ∧ j ≤ 1000000 ∧ i.natAbs < 2 ^ 64
def CMul (i j : Int) : Prop := (-(2 ^ 64) < i ∧ i < 2 ^ 64) ∨ (-(2 ^ 64) < j ∧ j < 2 ^ 64)
theorem CMul.ok {i j : Int} (h : CMul i j) : IntMulOk i j := by
  rcases h with ⟨h1, h2⟩ | ⟨h1, h2⟩
  · exact .of_left (intBits_le_64 h1 h2)
  · exact .of_right (intBits_le_64 h1 h2)
theorem op_add : OpR X (binaryOp .Add) (rI0 fun i j => .int (i + j)) := opI0 fun _ _ _ _ _ _ _ q => add_int q
theorem op_sub : OpR X (binaryOp .Sub) (rI0 fun i j => .int (i - j)) := opI0 fun _ _ _ _ _ _ _ q => sub_int q
theorem op_mul : OpR X (binaryOp .Mult) (rI CMul fun i j => .int (i * j)) := opI fun _ _ _ _ _ _ _ hc q => mul_int q hc.ok
theorem op_fdiv : OpR X (binaryOp .FloorDiv) (rI CDiv fun i j => .int (i / j)) := opI fun i j _ _ _ _ _ hc q => by
  have h1 : (0 : Int) < j := hc.1
  have h2 : j < 1073741824 := hc.2
  exact floordiv_int (by omega) (by rw [Int.fdiv_eq_ediv_of_nonneg i (by omega)]; exact q) (.inl (PyProof.noPylong_small (by omega)))
theorem op_mod : OpR X (binaryOp .Mod) (rI (fun _ j => 0 < j) fun i j => .int (i % j)) := opI fun i j _ _ _ _ _ hc q => by
  have h1 : (0 : Int) < j := hc
  exact mod_int' (by omega) (by rw [Int.fmod_eq_emod_of_nonneg i (by omega)]; exact q)
theorem op_pow : OpR X (binaryOp .Pow) (rI CPow fun i j => .int (i ^ j.toNat)) := opI fun _ _ _ _ _ _ _ hc q => pow_int_small hc.1 hc.2.1 hc.2.2 q
theorem unI {f : Value → Sem Value} {g : Int → Int}
    (rule : ∀ (i : Int) (t : Tok) (s : Shared) (Q : Value → Shared → Prop) (E : Value → Shared → Prop), Q (.int (g i) s.toks) { s with toks := s.toks + 1 } → wpAny (model X.prog X.w) X.A (f (.int i t)) Q E s) :
    UnR X f (rU fun i => .int (g i)) := by
  intro pins s σ H x v Q I rx h
  obtain ⟨i, rfl, q⟩ := h
  obtain ⟨t, rfl⟩ := rx
  exact rule i t s _ _ ⟨.int (g i), H, I.tok _, ⟨_, rfl⟩, q⟩
theorem un_neg : UnR X (unaryOp .USub) (rU fun i => .int (-i)) := unI fun _ _ _ _ _ q => neg_int q
end

def scal : V → V → Bool
  | .non, .non => true | .non, .int _ => true | .int _, .non => true | .non, .bl _ => true | .bl _, .non => true | .non, .str _ => true | .str _, .non => true
  | .int _, .int _ => true | .bl _, .bl _ => true | .str _, .str _ => true | .byt _, .byt _ => true
  | .int _, .str _ => true | .str _, .int _ => true | .bl _, .str _ => true | .str _, .bl _ => true
  | _, _ => false
def rEq : R2 := fun x y H Q => scal x y = true ∧ Q (.bl (decide (x = y))) H
theorem dec_int {i j : Int} : decide (V.int i = V.int j) = (i == j) := by
  rw [Bool.eq_iff_iff]
  simp
theorem dec_bl {i j : Bool} : decide (V.bl i = V.bl j) = (i == j) := by
  rw [Bool.eq_iff_iff]
  simp
theorem dec_str {i j : Str} : decide (V.str i = V.str j) = (i == j) := by
  rw [Bool.eq_iff_iff]
  simp
theorem dec_byt {i j : Array UInt8} : decide (V.byt i = V.byt j) = (i.toList == j.toList) := by
  rw [Bool.eq_iff_iff]
  cases i
  cases j
  simp

section
variable {X : Cx} {a b c : Expr} {ta tb tc : TE} {pos : Pos}
theorem fin_bl {pins : List (Addr × Obj)} {σ : St} {H : Hp} {s : Shared} {Q : VK} {k k' : Bool} (I : Inv X pins σ H s) (q : Q (.bl k) H) (e : k = k') : EP X pins σ Q (.bool k') s := by
  subst e
  exact ⟨.bl k, H, I, rfl, q⟩
theorem op_eq : OpR X (compareOp .Eq) rEq := by
  intro pins s σ H x y v u Q I rx ry h
  obtain ⟨hs, q⟩ := h
  cases x with
  | non =>
    cases rx
    cases y with
    | non => cases ry; exact PySem.EqNone.eq_none_none (fin_bl I q (by simp))
    | bl j => cases ry; exact PySem.EqNone.eq_none_bool (fin_bl I q (by simp))
    | int j => obtain ⟨t', rfl⟩ := ry; exact PySem.EqNone.eq_none_int (fin_bl I q (by simp))
    | str j => obtain ⟨t', rfl⟩ := ry; exact PySem.EqNone.eq_none_str (fin_bl I q (by simp))
    | _ => exact absurd (show false = true from hs) Bool.false_ne_true
  | bl i =>
    cases rx
    cases y with
    | non => cases ry; exact PySem.EqNone.eq_bool_none (fin_bl I q (by simp))
    | bl j => cases ry; exact eq_bool (fin_bl I q dec_bl)
    | str j => obtain ⟨t', rfl⟩ := ry; exact PySem.EqMixed.eq_bool_str (fin_bl I q (by simp))
    | _ => exact absurd (show false = true from hs) Bool.false_ne_true
  | int i =>
    obtain ⟨t, rfl⟩ := rx
    cases y with
    | non => cases ry; exact PySem.EqNone.eq_int_none (fin_bl I q (by simp))
    | int j => obtain ⟨t', rfl⟩ := ry; exact eq_int (fin_bl I q dec_int)
    | str j => obtain ⟨t', rfl⟩ := ry; exact PySem.EqMixed.eq_int_str (fin_bl I q (by simp))
    | _ => exact absurd (show false = true from hs) Bool.false_ne_true
  | str i =>
    obtain ⟨t, rfl⟩ := rx
    cases y with
    | non => cases ry; exact PySem.EqNone.eq_str_none (fin_bl I q (by simp))
    | bl j => cases ry; exact PySem.EqMixed.eq_str_bool (fin_bl I q (by simp))
    | int j => obtain ⟨t', rfl⟩ := ry; exact PySem.EqMixed.eq_str_int (fin_bl I q (by simp))
    | str j => obtain ⟨t', rfl⟩ := ry; exact eq_str (fin_bl I q dec_str)
    | _ => exact absurd (show false = true from hs) Bool.false_ne_true
  | byt i =>
    obtain ⟨t, rfl⟩ := rx
    cases y with
    | byt j => obtain ⟨t', rfl⟩ := ry; exact PySem.W.eq_bytes (fin_bl I q dec_byt)
    | _ => exact absurd (show false = true from hs) Bool.false_ne_true
  | _ => cases y <;> exact absurd (show false = true from hs) Bool.false_ne_true
theorem op_lt : OpR X (compareOp .Lt) (rI0 fun i j => .bl (decide (i < j))) := opB0 fun _ _ _ _ _ _ _ q => lt_int q
theorem op_le : OpR X (compareOp .LtE) (rI0 fun i j => .bl (decide (i ≤ j))) := opB0 fun _ _ _ _ _ _ _ q => le_int q
theorem op_gt : OpR X (compareOp .Gt) (rI0 fun i j => .bl (decide (j < i))) := opB0 fun _ _ _ _ _ _ _ q => gt_int q
theorem op_isN : OpR X (compareOp .Is) (fun x y H Q => y = .non ∧ Q (.bl (decide (x = .non))) H) := by
  intro pins s σ H x y v u Q I rx ry h
  obtain ⟨rfl, q⟩ := h
  cases ry
  refine is_none_gen (fin_bl I q ?_)
  cases x <;> first
    | (cases rx; rfl)
    | (obtain ⟨t, rfl⟩ := rx; rfl)
theorem op_notN : OpR X (compareOp .IsNot) (fun x y H Q => y = .non ∧ Q (.bl (!decide (x = .non))) H) := by
  intro pins s σ H x y v u Q I rx ry h
  obtain ⟨rfl, q⟩ := h
  cases ry
  refine isnot_none_gen (fin_bl I q ?_)
  cases x <;> first
    | (cases rx; rfl)
    | (obtain ⟨t, rfl⟩ := rx; rfl)

theorem OpR.or {f : Value → Value → Sem Value} {r r' : R2} (h : OpR X f r) (h' : OpR X f r') : OpR X f (fun x y H Q => r x y H Q ∨ r' x y H Q) := by
  intro pins s σ H x y v u Q I rx ry q
  rcases q with q | q
  · exact h pins s σ H x y v u Q I rx ry q
  · exact h' pins s σ H x y v u Q I rx ry q

theorem nomark (b : Expr) {op : CmpOp} (h : op ≠ .In := by decide) (h2 : op ≠ .NotIn := by decide) : behindInMarks op b = false := by
  have e1 : (op == CmpOp.In) = false := by cases op <;> first | rfl | exact absurd rfl h
  have e2 : (op == CmpOp.NotIn) = false := by cases op <;> first | rfl | exact absurd rfl h2
  cases b <;> simp [behindInMarks, e1, e2]
theorem pe_cmpR {op : CmpOp} {r : R2} (ho : OpR X (compareOp op) r) (ha : PE X a ta) (hb : PE X b tb) (hm : behindInMarks op b = false) : PE X (.Compare a [op] [b] pos) (tOp r ta tb) := by
  intro pins s σ H Q I h
  exact wpAny_Compare1 (binT ha hb I h fun v u s2 x y H2 I2 rx ry q => ho pins s2 σ H2 x y v u Q I2 rx ry q) hm
def tTest (t : TE) : TT := fun σ H Q => t σ H fun x H' => ∃ k, x = .bl k ∧ Q k H'
theorem pt_cmpR {op : CmpOp} {r : R2} (ho : OpR X (compareOp op) r) (ha : PE X a ta) (hb : PE X b tb) (hm : behindInMarks op b = false) : PT X (.Compare a [op] [b] pos) (tTest (tOp r ta tb)) := by
  intro pins s σ H Q I h
  refine wpAny_isTrue_Compare1 (thn (ha pins s σ H _ I h) fun v s1 ⟨x, H1, I1, r1, q1⟩ => thn (hb pins s1 σ H1 _ I1 q1) fun u s2 ⟨y, H2, I2, r2, q2⟩ =>
    thn (ho pins s2 σ H2 x y v u _ I2 r1 r2 q2) fun c s3 ⟨z, H3, I3, r3, k, e, q3⟩ => ?_) hm
  subst e
  cases r3
  exact wpAny_truthy_bool ⟨H3, I3, q3⟩
def tChain (r r' : R2) (ta tb tc : TE) : TE := fun σ H Q => ta σ H fun x H1 => tb σ H1 fun y H2 => r x y H2 fun z H3 => ∃ k, z = .bl k ∧
  (if k = true then tc σ H3 fun w' H4 => r' y w' H4 Q else Q (.bl false) H3)
theorem pe_chain {op op' : CmpOp} {r r' : R2} (ho : OpR X (compareOp op) r) (ho' : OpR X (compareOp op') r') (ha : PE X a ta) (hb : PE X b tb) (hc : PE X c tc)
    (hm : lastMarks [op, op'] [b, c] = false := by with_unfolding_all rfl) : PE X (.Compare a [op, op'] [b, c] pos) (tChain r r' ta tb tc) := by
  intro pins s σ H Q I h
  refine Compare_chain (thn (ha pins s σ H _ I h) fun v s1 ⟨x, H1, I1, r1, q1⟩ => chain_link (thn (hb pins s1 σ H1 _ I1 q1) fun u s2 ⟨y, H2, I2, r2, q2⟩ =>
    thn (ho pins s2 σ H2 x y v u _ I2 r1 r2 q2) fun d s3 ⟨z, H3, I3, r3, k, e, q3⟩ => ?_)) hm
  subst e
  cases r3
  refine wpAny_truthy_bool ?_
  cases k with
  | false => exact ite_ff ⟨.bl false, H3, I3, rfl, q3⟩
  | true => exact ite_tt (chain_last (thn (hc pins s3 σ H3 _ I3 q3) fun w' s4 ⟨z', H4, I4, r4, q4⟩ => ho' pins s4 σ H4 y z' u w' Q I4 r2 r4 q4))
theorem pt_chain {op op' : CmpOp} {r r' : R2} (ho : OpR X (compareOp op) r) (ho' : OpR X (compareOp op') r') (ha : PE X a ta) (hb : PE X b tb) (hc : PE X c tc)
    (hm : lastMarks [op, op'] [b, c] = false := by with_unfolding_all rfl) : PT X (.Compare a [op, op'] [b, c] pos) (tTest (tChain r r' ta tb tc)) := by
  intro pins s σ H Q I h
  refine isTrue_chain (thn (ha pins s σ H _ I h) fun v s1 ⟨x, H1, I1, r1, q1⟩ => test_link (thn (hb pins s1 σ H1 _ I1 q1) fun u s2 ⟨y, H2, I2, r2, q2⟩ =>
    thn (ho pins s2 σ H2 x y v u _ I2 r1 r2 q2) fun d s3 ⟨z, H3, I3, r3, k, e, q3⟩ => ?_)) hm
  subst e
  cases r3
  refine wpAny_truthy_bool ?_
  cases k with
  | false =>
    obtain ⟨k', e', q'⟩ := q3
    cases e'
    exact ite_ff ⟨H3, I3, q'⟩
  | true =>
    refine ite_tt (test_last (thn (hc pins s3 σ H3 _ I3 q3) fun w' s4 ⟨z', H4, I4, r4, q4⟩ => thn (ho' pins s4 σ H4 y z' u w' _ I4 r2 r4 q4) fun d' s5 ⟨z2, H5, I5, r5, k2, e2, q5⟩ => ?_))
    subst e2
    cases r5
    exact wpAny_truthy_bool ⟨H5, I5, q5⟩

def TruV (K : PySem.W.Frag) (x : V) (H : Hp) (k : Bool) : Prop :=
  match x with
  | .non => k = false
  | .bl b => k = b
  | .int i => k = (i != 0)
  | .str y => y.length ≤ sizeLine ∧ k = ((y.length : Int) != 0)
  | .byt y => y.size ≤ sizeLine ∧ k = ((y.size : Int) != 0)
  | .ref p => (∃ xs, SqL K H p xs ∧ k = !xs.isEmpty) ∨ (∃ xs, SqT K H p xs ∧ k = !xs.isEmpty) ∨ ∃ kvs, H p = some (.dK kvs) ∧ k = !kvs.isEmpty
  | _ => False
theorem isEmpty_kv {κ : Type} {kvs : List (κ × V)} {vs : List (κ × Value)} (r : KV kvs vs) : (!vs.isEmpty) = !kvs.isEmpty := by
  cases r <;> rfl
theorem isEmpty_of {xs : List V} {its : List Value} (r : Vals xs its) : (!its.toArray.isEmpty) = !xs.isEmpty := by
  cases r <;> simp
theorem line63 : (sizeLine : Nat) < 2 ^ 63 := by rw [sizeLine_eq]; decide
theorem tru_ok : TruR X (fun x H Q => ∃ k, TruV X.K x H k ∧ Q k H) := by
  intro pins s σ H x v Q I rx h
  obtain ⟨k, e, q⟩ := h
  have hl := line63
  have hs : sizeLine = 16777216 := sizeLine_eq
  cases x with
  | non =>
    cases rx
    have e' : k = false := e
    subst e'
    exact truthy_none ⟨H, I, q⟩
  | bl b =>
    cases rx
    have e' : k = b := e
    subst e'
    exact wpAny_truthy_bool ⟨H, I, q⟩
  | int i =>
    obtain ⟨t, rfl⟩ := rx
    have e' : k = (i != 0) := e
    subst e'
    exact PySem.P.truthy_int ⟨H, I, q⟩
  | str y =>
    obtain ⟨t, rfl⟩ := rx
    obtain ⟨hy, e'⟩ : y.length ≤ sizeLine ∧ k = ((y.length : Int) != 0) := e
    subst e'
    exact PySem.P.truthy_str (by omega) ⟨H, I.tok _, q⟩
  | byt y =>
    obtain ⟨t, rfl⟩ := rx
    obtain ⟨hy, e'⟩ : y.size ≤ sizeLine ∧ k = ((y.size : Int) != 0) := e
    subst e'
    exact PySem.W.truthy_bytes (by omega) ⟨H, I.tok _, q⟩
  | ref p =>
    cases rx
    have e' : (∃ xs, SqL X.K H p xs ∧ k = !xs.isEmpty) ∨ (∃ xs, SqT X.K H p xs ∧ k = !xs.isEmpty) ∨ ∃ kvs, H p = some (.dK kvs) ∧ k = !kvs.isEmpty := e
    rcases e' with ⟨xs, hx, e'⟩ | ⟨xs, hx, e'⟩ | ⟨kvs, hx, e'⟩
    · subst e'
      obtain ⟨its, r, pl, hz⟩ := I.list hx
      have hlen := r.length
      exact wpAny_truthy_list pl.isList (by simp only [List.size_toArray]; omega) ⟨H, I.tok _, by rw [isEmpty_of r]; exact q⟩
    · subst e'
      obtain ⟨its, r, pl, hz⟩ := I.tuple hx
      have hlen := r.length
      exact truthy_tuple pl (by simp only [List.size_toArray]; omega) ⟨H, I.tok _, by rw [isEmpty_of r]; exact q⟩
    · subst e'
      obtain ⟨hz, hS, vs, r, m⟩ : kvs.length ≤ sizeLine ∧ (p == sysModules) = false ∧ ∃ vs, KV kvs vs ∧ s.heap.DictOf (mixKind X.prog X.w) p vs := I.hok p _ hx
      have hlen : kvs.length = vs.length := Paired.length r
      exact wpAny_truthy_dict hS m (by omega) ⟨H, I.tok _, by rw [isEmpty_kv r]; exact q⟩
  | _ => exact (show False from e).elim
theorem pt_truth (ha : PE X a ta) (he : ∀ whole, isTrue a X.env whole = (do let v ← whole; standAt a.pos; holding [v] (truthy v))) :
    PT X a (fun σ H Q => ta σ H fun x H' => ∃ k, TruV X.K x H' k ∧ Q k H') := by
  intro pins s σ H Q I h
  exact isTrue_plain (thn (ha pins s σ H _ I h) fun v s1 ⟨x, H1, I1, r1, q1⟩ => tru_ok pins s1 σ H1 x v Q I1 r1 q1) (he _)

theorem vals1 {x : V} {us : List Value} (r : Vals [x] us) : ∃ u, us = [u] ∧ RelV x u := by
  cases r with
  | cons r1 r2 => cases r2; exact ⟨_, rfl, r1⟩
theorem vals2 {x y : V} {us : List Value} (r : Vals [x, y] us) : ∃ u w', us = [u, w'] ∧ RelV x u ∧ RelV y w' := by
  cases r with
  | cons r1 r2 =>
    cases r2 with
    | cons r3 r4 => cases r4; exact ⟨_, _, rfl, r1, r3⟩
theorem call_abs : CallR X (.builtin "abs") (fun xs H Q => ∃ i, xs = [.int i] ∧ Q (.int (if i < 0 then -i else i)) H) := by
  intro pins s σ H xs us Q I r h
  obtain ⟨i, rfl, q⟩ := h
  obtain ⟨u, rfl, t, rfl⟩ := vals1 r
  exact call_abs_int fun u tk => ⟨.int (if i < 0 then -i else i), H, I.tok _, ⟨_, rfl⟩, q⟩
theorem call_max2 (hc : X.calm = true) : CallR X (.builtin "max") (fun xs H Q => ∃ i j, xs = [.int i, .int j] ∧ Q (.int (if j > i then j else i)) H) := by
  intro pins s σ H xs us Q I r h
  obtain ⟨i, j, rfl, q⟩ := h
  obtain ⟨u, w', rfl, ⟨t, rfl⟩, ⟨t', rfl⟩⟩ := vals2 r
  refine max_two_ints (I.ok.hd hc) fun h' tk k => ⟨_, H, I.kept k, ?_, q⟩
  by_cases hj : j > i
  · rw [if_pos hj, if_pos hj]; exact ⟨_, rfl⟩
  · rw [if_neg hj, if_neg hj]; exact ⟨_, rfl⟩
theorem call_min2 (hc : X.calm = true) : CallR X (.builtin "min") (fun xs H Q => ∃ i j, xs = [.int i, .int j] ∧ Q (.int (if j < i then j else i)) H) := by
  intro pins s σ H xs us Q I r h
  obtain ⟨i, j, rfl, q⟩ := h
  obtain ⟨u, w', rfl, ⟨t, rfl⟩, ⟨t', rfl⟩⟩ := vals2 r
  refine min_two_ints (I.ok.hd hc) fun h' tk k => ⟨_, H, I.kept k, ?_, q⟩
  by_cases hj : j < i
  · rw [if_pos hj, if_pos hj]; exact ⟨_, rfl⟩
  · rw [if_neg hj, if_neg hj]; exact ⟨_, rfl⟩
theorem call_int1 : CallR X (.type "int") (fun xs H Q => (∃ i, xs = [.int i] ∧ Q (.int i) H) ∨ ∃ k, xs = [.bl k] ∧ Q (.int (if k then 1 else 0)) H) := by
  intro pins s σ H xs us Q I r h
  rcases h with ⟨i, rfl, q⟩ | ⟨k, rfl, q⟩
  · obtain ⟨u, rfl, t, rfl⟩ := vals1 r
    exact call_int_int ⟨.int i, H, I, ⟨_, rfl⟩, q⟩
  · obtain ⟨u, rfl, r1⟩ := vals1 r
    cases r1
    exact call_int_bool ⟨.int (if k then 1 else 0), H, I.tok _, ⟨_, rfl⟩, q⟩
end
end L2

namespace L2
open PySem PySem.Spec PyProof.Rows

structure ObjM (h : Heap) (x dx C : Addr) (mA : Str → Option Value) : Prop where
  obj : h.get? x = some (PySem.W.instObj C dx)
  ns : h.Ns1 dx mA
  ne : dx ≠ x

theorem lookIn_ns {h : Heap} {dx : Addr} {mA : Str → Option Value} (n : h.Ns1 dx mA) : ∃ od, h.get? dx = some od ∧ ∀ name, PySem.W.lookIn name od = some (mA name) := by
  obtain ⟨o, es, ep, ho, hd, hk, _, hm⟩ := n
  refine ⟨o, ho, fun name => ?_⟩
  have e := hm name
  unfold nsFind findBy at e
  rw [← Array.find?_toList] at e
  unfold PySem.W.lookIn
  rw [hd]
  dsimp only
  split
  · rename_i y q
    rw [q] at e
    exact congrArg some e
  · rename_i q
    rw [q] at e
    have a : es.toList.any (·.refKey) = false := by
      rw [List.any_eq_false]
      intro y hy
      obtain ⟨z, t, hkey⟩ := hk y (Array.mem_toList_iff.mp hy)
      simp [DictEntry.refKey, hkey]
    have a' : ¬ es.toList.any (·.refKey) = true := by rw [a]; exact Bool.false_ne_true
    rw [if_neg a']
    exact congrArg some e

theorem ObjM.look {h : Heap} {x dx C : Addr} {mA : Str → Option Value} (I : ObjM h x dx C mA) : ∃ od, PySem.W.InstAt h x (PySem.W.instObj C dx) C (some od) ∧ ∀ name, PySem.W.lookIn name od = some (mA name) :=
  let ⟨od, ho, hl⟩ := lookIn_ns I.ns
  ⟨od, ⟨I.obj, rfl, rfl, ho⟩, hl⟩

section
variable {prog : Program} {w : World} {A : Around} {E : Value → Shared → Prop} {s : Shared} {K : PySem.W.Frag} {x dx C f : Addr} {mA : Str → Option Value} {name : Str} {v : Value}

end

section
variable {P : Program} {w : World} {H H' : Hp} {h h' : Heap} {a C dx : Addr} {fs fs' : List (Str × V)}
theorem ins_get (hok : HOk P w H h) (e : H a = some (.ins C dx fs)) : ∃ mA, ObjM h a dx C mA ∧ (∀ f, RelO (fs.lookup f) (mA f)) ∧ PySem.Within mA (fs.map (·.1)) ∧ fs.length ≤ 1000 ∧ H dx = some (.own a) := by
  obtain ⟨d, z, ne, ob, mA, n, r, q⟩ := (show ObjOk P w H h a (.ins C dx fs) from hok a _ e)
  exact ⟨mA, ⟨ob, n, ne⟩, r, q, z, d⟩
end

structure Cls (K : PySem.W.Frag) (C : Addr) : Prop where
  pg : PySem.W.plainGet K C Str.empty = true
  hd : PySem.W.hasDictIn K C = true
  po : PySem.W.plainOver K C = true
  sa : PySem.W.findIn K (.ref C) "__setattr__" = some (some (.builtin "object.__setattr__"))
theorem Cls.get {K : PySem.W.Frag} {C : Addr} (c : Cls K C) (f : Str) : PySem.W.plainGet K C f = true := c.pg
structure Con (K : PySem.W.Frag) (C : Addr) (f : Str) (v : V) (u : Value) : Prop where
  at_ : PySem.W.findIn K (.ref C) f = some (some u)
  rel : RelV v u
  get : PySem.W.specialIn K u "__get__" = some none
  cp : PySem.W.copiedNames.contains f = false
structure Meth (K : PySem.W.Frag) (C : Addr) (m : Str) (f : Addr) : Prop where
  at_ : PySem.W.findIn K (.ref C) m = some (some (.ref f))
  fn : PySem.W.isFn K (.ref f) = true
  kp : PySem.W.keepIn K (.ref f) = true

section
variable {X : Cx} {pins : List (Addr × Obj)} {σ : St} {H : Hp} {s : Shared} {a C dx : Addr} {fs : List (Str × V)} {f : Str} {v : V} {A : Around} {E : Value → Shared → Prop}

end

section
variable {X : Cx} {o e value : Expr} {f : Str} {pos pos' tpos : Pos} {ta tv : TE}
end

section
variable {X : Cx} {pins : List (Addr × Obj)} {σ : St} {H : Hp} {s : Shared} {A : Around} {E : Value → Shared → Prop} {Q : Value → Shared → Prop} {c : Value} {b : Bool}
inductive TyOf (K : PySem.W.Frag) (H : Hp) : V → Value → Prop where
  | non : TyOf K H .non (.type "NoneType")
  | bl (x : Bool) : TyOf K H (.bl x) (.type "bool")
  | int (i : Int) : TyOf K H (.int i) (.type "int")
  | str (x : Str) : TyOf K H (.str x) (.type "str")
  | flt (x : UInt64) : TyOf K H (.flt x) (.type "float")
  | lst {a : Addr} {xs : List V} (e : H a = some (.lst xs)) : TyOf K H (.ref a) (.type "list")
  | frz {a : Addr} {o : Obj} {xs : List V} (e : H a = some (.frz o (.lst xs))) : TyOf K H (.ref a) (.type "list")
  | tup {a : Addr} {xs : List V} (e : H a = some (.tup xs)) : TyOf K H (.ref a) (.type "tuple")
  | dK {a : Addr} {kvs : List (Key × V)} (e : H a = some (.dK kvs)) : TyOf K H (.ref a) (.type "dict")
  | dT {a : Addr} {kvs : List (List Key × V)} (e : H a = some (.dT kvs)) : TyOf K H (.ref a) (.type "dict")
  | ins {a C dx : Addr} {fs : List (Str × V)} (e : H a = some (.ins C dx fs)) (cl : Cls K C) (ha : PySem.W.findIn K (.ref C) "__class__" = some (some (.builtin "object.__class__")))
      (hn : PySem.W.specialIn K (.builtin "object.__class__") "__get__" = some (some (.builtin "getset_descriptor.__get__"))) (htk : PySem.W.takesIn K (.builtin "object.__class__") = some true)
      (hm : PySem.W.mroIn K C (.type "object") = some true) : TyOf K H (.ref a) (.ref C)
theorem isinst_ok {x : V} {u t : Value} (I : Inv X pins σ H s) (rx : RelV x u) (ty : TyOf X.K H x t) (e : PySem.W.kitOne X.K t c = some b) (h : ∀ tk, Q (.bool b) { s with toks := tk }) :
    wpAny (model X.prog X.w) A (call (.builtin "isinstance") [u, c]) Q E s := by
  cases ty with
  | non => cases (show u = Value.none from rx); exact PySem.W.kia_one PySem.W.kitx_none I.kIn True.intro e (fun z => nomatch z) h
  | bl y => cases (show u = Value.bool y from rx); exact PySem.W.kia_one PySem.W.kitx_bool I.kIn True.intro e (fun z => nomatch z) h
  | int i => obtain ⟨t, q⟩ := (show ∃ t, u = Value.int i t from rx); cases q; exact PySem.W.kia_one PySem.W.kitx_int I.kIn True.intro e (fun z => nomatch z) h
  | str y => obtain ⟨t, q⟩ := (show ∃ t, u = Value.str y t from rx); cases q; exact PySem.W.kia_one PySem.W.kitx_str I.kIn True.intro e (fun z => nomatch z) h
  | flt y => obtain ⟨t, q⟩ := (show ∃ t, u = Value.float y t from rx); cases q; exact PySem.W.kia_one PySem.W.kitx_float I.kIn True.intro e (fun z => nomatch z) h
  | @lst a xs ea =>
    cases (show u = Value.ref a from rx)
    obtain ⟨_, _, n, _, h1⟩ := (show ObjOk X.prog X.w H s.heap a (.lst xs) from I.hok a _ ea)
    exact PySem.W.kia_one PySem.W.kitx_list I.kIn ⟨_, h1, rfl⟩ e (fun z => nomatch z) h
  | @frz a ob xs ea =>
    cases (show u = Value.ref a from rx)
    obtain ⟨_, _, _, n, _, h1⟩ := (show ObjOk X.prog X.w H s.heap a (.frz ob (.lst xs)) from I.hok a _ ea)
    exact PySem.W.kia_one PySem.W.kitx_list I.kIn ⟨_, h1, rfl⟩ e (fun z => nomatch z) h
  | @tup a xs ea =>
    cases (show u = Value.ref a from rx)
    obtain ⟨_, _, _, p⟩ := (show ObjOk X.prog X.w H s.heap a (.tup xs) from I.hok a _ ea)
    obtain ⟨o, h1, h2, _⟩ := p
    exact PySem.W.kia_one PySem.W.kitx_tuple I.kIn ⟨o, h1, h2⟩ e (fun z => nomatch z) h
  | @dK a kvs ea =>
    cases (show u = Value.ref a from rx)
    obtain ⟨_, _, vs, _, p⟩ := (show ObjOk X.prog X.w H s.heap a (.dK kvs) from I.hok a _ ea)
    obtain ⟨o, es, ep, h1, h2, _⟩ := p
    exact PySem.W.kia_one PySem.W.kitx_dict I.kIn ⟨o, h1, h2.1⟩ e (fun z => nomatch z) h
  | @dT a kvs ea =>
    cases (show u = Value.ref a from rx)
    obtain ⟨_, _, xs, _, o, es, ep, h1, h2, _⟩ := (show ObjOk X.prog X.w H s.heap a (.dT kvs) from I.hok a _ ea)
    exact PySem.W.kia_one PySem.W.kitx_dict I.kIn ⟨o, h1, h2.1⟩ e (fun z => nomatch z) h
  | @ins a C dx fs ea cl ha hn htk hm =>
    cases (show u = Value.ref a from rx)
    obtain ⟨mA, O, _⟩ := ins_get I.hok ea
    obtain ⟨od, J, _⟩ := O.look
    exact PySem.W.kia_one (PySem.W.kitx_own (cl.get _) cl.hd ha hn htk hm) I.kIn J e (fun z => nomatch z) h
end
end L2

namespace L2
open PySem PySem.Spec PyProof.Rows

structure Room (k : Nat) (A : Around) : Prop where
  hd : A.handled = none
  dp : A.depth + 3 * k + 5 < recursionLimit
  un : A.units + 16 * k + 200 < cLine
theorem Room.mono {j k : Nat} {A : Around} (r : Room k A) (h : j ≤ k) : Room j A := ⟨r.hd, by have := r.dp; omega, by have := r.un; omega⟩
theorem Room.deeper {k : Nat} {A : Around} (r : Room (k + 1) A) (env : Env) : Room k (A.deeper env) :=
  ⟨r.hd, by have := r.dp; show A.depth + 1 + 3 * k + 5 < _; omega, by have := r.un; show A.units + 3 + 16 * k + 200 < _; omega⟩
theorem Room.in1 {k : Nat} {A : Around} (r : Room (k + 1) A) : Room k A.in1 :=
  ⟨r.hd, by have := r.dp; show A.depth + 3 * k + 5 < _; omega, by have := r.un; show A.units + 1 + 16 * k + 200 < _; omega⟩
theorem Room.depth {k : Nat} {A : Around} (r : Room k A) : A.depth < recursionLimit := by have := r.dp; omega
theorem Room.units {k : Nat} {A : Around} (r : Room k A) : A.units + 64 < cLine := by have := r.un; omega
def tNil : TA := fun _ H Q => Q [] H
def tCons (ta : TE) (tr : TA) : TA := fun σ H Q => ta σ H fun x H1 => tr σ H1 fun xs H2 => Q (x :: xs) H2
section
variable {X : Cx} {e : Expr} {es : List Expr} {te : TE} {t : TA} {pos : Pos}
theorem pa_nil : PA X [] tNil := fun _ _ _ _ H Q I h => Calls.spliced_nil ⟨[], H, I, .nil, h⟩
theorem pa_cons (ha : PE X e te) (hr : PA X es t) (hs : starEach (e :: es) X.env = (false, eval e X.env) :: starEach es X.env := by rfl) : PA X (e :: es) (tCons te t) := by
  intro pos pins s σ H Q I h
  rw [hs]
  show wpAny _ _ (spliced ((false, eval e X.env) :: backTo pos (starEach es X.env))) _ _ s
  refine Calls.spliced_cons (thn (ha pins s σ H _ I h) fun u s1 ⟨x, H1, I1, r1, q1⟩ => ?_)
  exact thn (hr pos pins s1 σ H1 _ I1 q1) fun us s2 ⟨xs, H2, I2, r2, q2⟩ => ⟨x :: xs, H2, I2, .cons r1 r2, q2⟩

def tTup (t : TA) : TE := fun σ H Q => t σ H fun xs H1 => xs.length ≤ sizeLine ∧ ∀ p, H1 p = none → Q (.ref p) (upd H1 p (.tup xs))
def tLst (t : TA) : TE := fun σ H Q => t σ H fun xs H1 => xs.length ≤ sizeLine ∧ ∀ p, H1 p = none → Q (.ref p) (upd H1 p (.lst xs))
theorem pe_tup {x1} (h : PA X es t) : PE X (.Tuple es x1 pos) (tTup t) := by
  intro pins s σ H Q I hq
  refine wpAny_Tuple_spliced (thn (h pos pins s σ H _ I hq) fun us s1 ⟨xs, H1, I1, r, z, q⟩ => ⟨by rw [← r.length]; exact z, ?_⟩)
  have hf : H1 s1.heap.objs.size = none := I1.hok.fresh (Nat.le_refl _)
  refine ⟨.ref s1.heap.objs.size, upd H1 s1.heap.objs.size (.tup xs), I1.laid (t' := s1.toks) (fun b u e => Heap.get?_push_of_some _ e) (Nat.le_refl _) ?_, rfl, q _ hf⟩
  exact ⟨z, us, r, ⟨_, Heap.get?_push_size _ rfl, rfl, _, rfl⟩⟩
theorem pe_lst (h : PA X es t) : PE X (.List es pos) (tLst t) := by
  intro pins s σ H Q I hq
  refine wpAny_List_spliced (thn (h pos pins s σ H _ I hq) fun us s1 ⟨xs, H1, I1, r, z, q⟩ => ⟨by rw [← r.length]; exact z, ?_⟩)
  have hf : H1 s1.heap.objs.size = none := I1.hok.fresh (Nat.le_refl _)
  refine ⟨.ref s1.heap.objs.size, upd H1 s1.heap.objs.size (.lst xs), I1.laid (t' := s1.toks) (fun b u e => Heap.get?_push_of_some _ e) (Nat.le_refl _) ?_, rfl, q _ hf⟩
  exact ⟨z, us, 0, r, Heap.get?_push_size _ rfl⟩
end

abbrev Sp := List V → Hp → VK → XK → Prop
abbrev CXT := List Env → Hp → Shared → XK → Value → Shared → Prop

structure Env0 (P : Program) (w : World) (K : PySem.W.Frag) (mg : Str → Option Value) (base : Heap) (A : Around) (outer : List Env) (s : Shared) (H : Hp) : Prop where
  frames : A.frames = some outer
  mod : Mod K mg base
  bs : ∀ b o, base.get? b = some o → s.heap.get? b = some o ∧ H b = none
  bsz : base.objs.size ≤ s.heap.objs.size
  funs : s.heap.FunFrames base outer
  frf : ∀ b ∈ frs outer, H b = none
  hok : HOk P w H s.heap
  bare : AllBare s.gens
def CE (outer : List Env) (P : Program) (w : World) (H : Hp) (s : Shared) (Q : VK) (u : Value) (s' : Shared) : Prop :=
  ∃ v H', s'.os = s.os ∧ AllBare s'.gens ∧ Un (frs outer) [] H H' s.heap s'.heap ∧ HOk P w H' s'.heap ∧ RelV v u ∧ Q v H'
def CR (CX : CXT) (outer : List Env) (P : Program) (w : World) (H : Hp) (s : Shared) (Q : VK) (E : XK) (r : Result) (s' : Shared) : Prop :=
  match r with
  | .ok (.ret u) => CE outer P w H s Q u s'
  | .ok _ => False
  | .error e => CX outer H s E e s'
structure FnOk (P : Program) (w : World) (K : PySem.W.Frag) (mg : Str → Option Value) (base : Heap) (CX : CXT) (k : Nat) (f : Addr) (fd : FuncData) (ps : List Str) (sp : Sp) : Prop where
  len : ∀ vs H Q E, sp vs H Q E → vs.length = ps.length
  run : ∀ (A : Around) (outer : List Env) (s : Shared) (H : Hp) (args : Args) (us : List Value) (vs : List V) (Q : VK) (E : XK), Room k A → Env0 P w K mg base A outer s H → BindsTo s fd args (ps.zip us) → Vals vs us → sp vs H Q E →
    codeAny (model P w) A (.call (.ref f) args) (CR CX outer P w H s Q E) s
theorem FnOk.mono {P : Program} {w : World} {K : PySem.W.Frag} {mg : Str → Option Value} {base : Heap} {CX : CXT} {j k : Nat} {f : Addr} {fd : FuncData} {ps : List Str} {sp : Sp} (F : FnOk P w K mg base CX j f fd ps sp) (h : j ≤ k) :
    FnOk P w K mg base CX k f fd ps sp := ⟨F.len, fun A outer s H args us vs Q E hr => F.run A outer s H args us vs Q E (hr.mono h)⟩
theorem Env0.in1 {P : Program} {w : World} {K : PySem.W.Frag} {mg : Str → Option Value} {base : Heap} {A : Around} {outer : List Env} {s : Shared} {H : Hp} (e : Env0 P w K mg base A outer s H) :
    Env0 P w K mg base A.in1 outer s H := ⟨e.frames, e.mod, e.bs, e.bsz, e.funs, e.frf, e.hok, e.bare⟩

section
variable {X : Cx} {pins : List (Addr × Obj)} {σ : St} {H : Hp} {s s' : Shared}
theorem Inv.env0 (I : Inv X pins σ H s) : Env0 X.prog X.w X.K X.mg X.base X.A X.stack s H :=
  ⟨I.ok.frames, I.ok.mod, I.bs, Nat.le_trans I.ok.bsz I.sz, I.stack, I.stkFree, I.hok, I.bare⟩
theorem Inv.after {Q : VK} {u : Value} (I : Inv X pins σ H s) (h : CE X.stack X.prog X.w H s Q u s') : EP X pins σ Q u s' := by
  obtain ⟨v, H', os, bare, un, hok, r, q⟩ := h
  obtain ⟨hh, g, d, t, os'⟩ := s'
  obtain rfl : os' = s.os := os
  exact ⟨v, H', I.call (h' := hh) (g' := g) (d' := d) (t' := t) (ch := []) un hok bare (fun b z => absurd z (by simp)), r, q⟩
end

def tCall (sp : Sp) (dvs : List V) (E : XK) (t : TA) : TE := fun σ H Q => t σ H fun vs H1 => sp (vs ++ dvs) H1 Q E
def Binds (K : PySem.W.Frag) (fd : FuncData) (ps : List Str) (ds : List Value) : Prop :=
  ∀ (s : Shared) (us : List Value), K.In s.heap → (us ++ ds).length = ps.length → BindsTo s fd ⟨us, []⟩ (ps.zip (us ++ ds))
theorem Binds.all {K : PySem.W.Frag} {fd : FuncData} {ps : List Str} (h : ∀ us : List Value, us.length = ps.length → bindArgs fd ⟨us, []⟩ = pure (ps.zip us)) : Binds K fd ps [] := fun s us _ hl => by
  rw [List.append_nil] at hl ⊢
  exact .of_eq (h us hl)

def Passes (CX : CXT) (X : Cx) (E : XK) : Prop := ∀ (pins : List (Addr × Obj)) (σ : St) (H : Hp) (s : Shared) (e : Value) (s' : Shared), Inv X pins σ H s → CX X.stack H s E e s' → X.xe e s'

section
variable {X : Cx} {CX : CXT} {k : Nat} {f C : Addr} {fd : FuncData} {ps : List Str} {sp : Sp} {dvs : List V} {ds : List Value} {E : XK} {x m : Str} {p pos apos : Pos} {e o : Expr} {es : List Expr} {ta : TE} {t : TA}

theorem run_fn {pins : List (Addr × Obj)} {σ : St} {H : Hp} {s : Shared} {Q : VK} {us : List Value} {vs : List V} (F : FnOk X.prog X.w X.K X.mg X.base CX k f fd ps sp) (hr : Room k X.A) (hb : Binds X.K fd ps ds) (hd : Vals dvs ds) (hx : Passes CX X E)
    (I : Inv X pins σ H s) (r : Vals vs us) (h : sp (vs ++ dvs) H Q E) : wpAny (model X.prog X.w) X.A (call (.ref f) us) (EP X pins σ Q) X.xe s := by
  have r2 : Vals (vs ++ dvs) (us ++ ds) := r.append hd
  have hl : (us ++ ds).length = ps.length := by rw [← r2.length]; exact F.len _ _ _ _ h
  refine wpAny_call (codeAny_mono (F.run X.A X.stack s H ⟨us, []⟩ (us ++ ds) (vs ++ dvs) Q E hr I.env0 (hb s us I.kIn hl) r2 h) fun r s' hq => ?_)
  cases r with
  | error e => exact hx pins σ H s e s' I hq
  | ok fl =>
    cases fl with
    | ret u => exact I.after hq
    | next => exact False.elim hq
    | brk => exact False.elim hq
    | cont => exact False.elim hq

theorem pe_call (F : FnOk X.prog X.w X.K X.mg X.base CX k f fd ps sp) (hr : Room k X.A) (hg : Gl X x) (hm : X.mg x = some (.ref f)) (hk : PySem.W.keepIn X.K (.ref f) = true) (hb : Binds X.K fd ps ds) (hd : Vals dvs ds) (hx : Passes CX X E)
    (ha : PA X (e :: es) t) (hdb : (x == ("__debug__" : Str)) = false := by decide) (he : starEach (e :: es) X.env = (false, eval e X.env) :: starEach es X.env := by rfl) (hpl : (backTo pos (starEach es X.env)).any (·.1) = false := by rfl) :
    PE X (.Call (.Name x p) (e :: es) [] pos) (tCall sp dvs E t) := by
  intro pins s σ H Q I h
  refine wpAny_Call_Name_kw (ld_glob I hg hm ?_ hdb)
  refine PySem.W.callWith_K (h₀ := X.base) I.ok.mod.kin hk (thn (ha pos pins s σ H _ I h) fun us s1 ⟨vs, H1, I1, r, q⟩ => ⟨I1.kIn, ?_⟩) he hpl
  exact run_fn F hr hb hd hx I1 r q
structure Mk (K : PySem.W.Frag) (C f : Addr) : Prop where
  makes : PySem.W.makesIn K C = true
  init : PySem.W.findIn K (.ref C) "__init__" = some (some (.ref f))
  fn : PySem.W.isFn K (.ref f) = true
  kp : PySem.W.keepIn K (.ref C) = true

end

section
variable {X : Cx} {CX : CXT} {k : Nat} {f C : Addr} {fd : FuncData} {ps ks : List Str} {sp : Sp} {E : XK} {x m : Str} {p pos apos kpos : Pos} {e o : Expr} {es : List Expr} {kws : List Keyword} {te ta : TE} {t tk : TA} {nm : Option Str}
structure KBinds (K : PySem.W.Frag) (fd : FuncData) (ps ks : List Str) (g : List Value → List Value → List Value) (gV : List V → List V → List V) : Prop where
  to : ∀ (s : Shared) (us ws : List Value), K.In s.heap → (g us ws).length = ps.length → BindsTo s fd ⟨us, ks.zip ws⟩ (ps.zip (g us ws))
  rel : ∀ {vs : List V} {us : List Value} {zs : List V} {ws : List Value}, Vals vs us → Vals zs ws → Vals (gV vs zs) (g us ws)
variable {g : List Value → List Value → List Value} {gV : List V → List V → List V}
end

structure FnScope (N P : List Str) (sc : Scope) : Prop where
  kind : sc.kind = .function
  co : sc.isCoroutine = false
  gen : sc.isGenerator = false
  nd : N.Nodup
  pre : N.take P.length = P
  par : ∀ x ∈ P, sc.names.lookup x = some .local ∨ sc.names.lookup x = some .cell
  nofree : ∀ y ∈ sc.names, y.2 ≠ .free

theorem bindL_out {kindOf : Str → Option NameKind} {x : Str} : ∀ {binds : List (Str × Value)} {m : Str → Option Value}, (∀ v, (x, v) ∉ binds) → bindL kindOf binds m x = m x
  | [], _, _ => rfl
  | (n, v) :: r, m, h => by
    unfold bindL
    rw [bindL_out fun w hw => h w (List.mem_cons_of_mem _ hw)]
    split
    · have : x ≠ n := by rintro rfl; exact h v List.mem_cons_self
      simp [this]
    · rfl
theorem bindC_out {kindOf : Str → Option NameKind} {x : Str} : ∀ {binds : List (Str × Value)} {m : Str → Option Value}, (∀ v, (x, v) ∉ binds) → bindC kindOf binds m x = m x
  | [], _, _ => rfl
  | (n, v) :: r, m, h => by
    unfold bindC
    rw [bindC_out fun w hw => h w (List.mem_cons_of_mem _ hw)]
    split
    · rfl
    · have : x ≠ n := by rintro rfl; exact h v List.mem_cons_self
      simp [this]
theorem bindL_get {kindOf : Str → Option NameKind} {x : Str} {v : Value} : ∀ {P : List Str} {vs : List Value} {i : Nat} {m : Str → Option Value}, P.Nodup → P[i]? = some x → vs[i]? = some v → kindOf x = some .local →
    bindL kindOf (P.zip vs) m x = some v
  | [], _, _, _, _, h, _, _ => by simp at h
  | _ :: _, [], _, _, _, _, h, _ => by simp at h
  | p :: P, w :: vs, 0, m, nd, h1, h2, hk => by
    simp at h1 h2; subst h1; subst h2
    show bindL kindOf ((p, w) :: P.zip vs) m p = _
    unfold bindL
    rw [bindL_out fun v hv => (List.nodup_cons.mp nd).1 (List.of_mem_zip hv).1, if_pos hk]
    simp
  | p :: P, w :: vs, i + 1, m, nd, h1, h2, hk => by
    show bindL kindOf ((p, w) :: P.zip vs) m x = _
    unfold bindL
    exact bindL_get (i := i) (List.nodup_cons.mp nd).2 (by simpa using h1) (by simpa using h2) hk
theorem bindC_get {kindOf : Str → Option NameKind} {x : Str} {v : Value} : ∀ {P : List Str} {vs : List Value} {i : Nat} {m : Str → Option Value}, P.Nodup → P[i]? = some x → vs[i]? = some v → kindOf x ≠ some .local →
    bindC kindOf (P.zip vs) m x = some v
  | [], _, _, _, _, h, _, _ => by simp at h
  | _ :: _, [], _, _, _, _, h, _ => by simp at h
  | p :: P, w :: vs, 0, m, nd, h1, h2, hk => by
    simp at h1 h2; subst h1; subst h2
    show bindC kindOf ((p, w) :: P.zip vs) m p = _
    unfold bindC
    rw [bindC_out fun v hv => (List.nodup_cons.mp nd).1 (List.of_mem_zip hv).1, if_neg hk]
    simp
  | p :: P, w :: vs, i + 1, m, nd, h1, h2, hk => by
    show bindC kindOf ((p, w) :: P.zip vs) m x = _
    unfold bindC
    exact bindC_get (i := i) (List.nodup_cons.mp nd).2 (by simpa using h1) (by simpa using h2) hk

def start (N : List Str) (vs : List V) : St := vs.map some ++ List.replicate (N.length - vs.length) none

def cxOf (CX : CXT) (P : Program) (w : World) (K : PySem.W.Frag) (mg : Str → Option Value) (base : Heap) (N : List Str) (qual : Str) (scope : Scope) (f : Addr) (cd : Value) (A : Around) (outer : List Env) (s : Shared) (H : Hp) (E : XK) : Cx where
  prog := P
  w := w
  K := K
  mg := mg
  base := base
  A := A.deeper (envOfC qual scope s.heap.objs.size f cd)
  N := N
  s₀ := s
  H₀ := H
  env := envOfC qual scope s.heap.objs.size f cd
  outer := outer
  stack := envOfC qual scope s.heap.objs.size f cd :: outer
  ex := []
  calm := true
  fn := fun _ => true
  pn := []
  xe := fun e s' => wpAny (model P w) (A.deeper (envOfC qual scope s.heap.objs.size f cd)) (leaving (envOfC qual scope s.heap.objs.size f cd) e) (fun _ s'' => CX outer H s E e s'') (fun e' s'' => CX outer H s E e' s'') s'

theorem cell_has {sc : Scope} {n : Nat} {x : Str} (h : sc.names.lookup x = some .cell) : ∃ c, (cellsFrom n sc.names []).lookup x = some c := by
  have q := PySem.W.cellsFrom_some sc.names n [] (.inl h)
  exact Option.isSome_iff_exists.mp q

theorem inv_start {CX : CXT} {P : Program} {w : World} {K : PySem.W.Frag} {mg : Str → Option Value} {base : Heap} {N ps : List Str} {qual : Str} {scope : Scope} {f : Addr} {cd : Value} {A : Around} {outer : List Env} {s s1 : Shared} {H : Hp} {E : XK} {us : List Value} {vs : List V}
    (S : FnScope N ps scope) (hd : A.handled = none) (e0 : Env0 P w K mg base A outer s H) (hl : vs.length = ps.length) (r : Vals vs us)
    (x : InCallC s s.heap.objs.size (bindL (envOfC qual scope s.heap.objs.size f cd).kindOf (ps.zip us) fun _ => none) (cellsFrom (s.heap.objs.size + 1) scope.names []) (bindC (envOfC qual scope s.heap.objs.size f cd).kindOf (ps.zip us) fun _ => none) s1) :
    Inv (cxOf CX P w K mg base N qual scope f cd A outer s H E) [] (start N vs) H s1 := by
  have hpl : ps.length ≤ N.length := by have := congrArg List.length S.pre; rw [List.length_take] at this; omega
  obtain ⟨h1, tk, rfl, hk⟩ := x.done
  have noA : ∀ b : Addr, b ∉ (cxOf CX P w K mg base N qual scope f cd A outer s H E).ex := fun b z => absurd (show b ∈ ([] : List Addr) from z) (by simp)
  refine ⟨⟨e0.mod, S.kind, rfl, rfl, Nat.le_refl _, fun y z c h1 h2 => ?_, fun y hy => ?_, fun y c _ h => ?_, fun _ => hd, Around.frames_deeper e0.frames, .inr ⟨rfl, rfl⟩, fun b z => absurd z (noA b), e0.bs, e0.bsz, fun b _ _ => noA b, fun b z => absurd z (noA b), e0.funs, e0.frf⟩,
    rfl, e0.bare, Un.kept hk, ⟨_, x.toInCall.ns, fun i y v h1 h2 h3 => ?_⟩, fun y c h => ⟨_, x.cell y c h⟩, e0.hok.fresh (Nat.le_refl _), fun y c h => ?_, fun p hp => absurd (show p ∈ ([] : List (Addr × Obj)) from hp) (by simp), e0.hok.kept hk, ?_⟩
  · exact name_of_addr x.apart (PySem.mem_of_lookup h1) (PySem.mem_of_lookup h2)
  · have hy : scope.names.lookup y = some .cell ∨ scope.names.lookup y = some .free := hy
    rcases hy with hy | hy
    · exact cell_has hy
    · exact absurd rfl (S.nofree _ (PySem.mem_of_lookup hy))
  · exact Nat.le_of_lt (x.above y c (PySem.mem_of_lookup h))
  · have hi : i < vs.length := by
      unfold start at h2
      by_cases hi : i < vs.length
      · exact hi
      · rw [List.getElem?_append_right (by simpa using hi)] at h2
        rw [List.getElem?_replicate] at h2
        split at h2 <;> cases h2
    have ha : vs[i]? = some v := by
      unfold start at h2
      rw [List.getElem?_append_left (by simpa using hi), List.getElem?_map] at h2
      cases e : vs[i]? with
      | none => rw [e] at h2; cases h2
      | some a => rw [e] at h2; cases h2; rfl
    obtain ⟨u, hu, rv⟩ := r.get ha
    have hp : ps[i]? = some y := by
      rw [← S.pre, List.getElem?_take_of_lt (by omega)]; exact h1
    have ndP : ps.Nodup := by rw [← S.pre]; exact S.nd.sublist (List.take_sublist _ _)
    refine ⟨u, rv, ?_⟩
    rcases S.par y (List.mem_of_getElem? hp) with k | k
    · exact .inl ⟨k, bindL_get ndP hp hu k⟩
    · obtain ⟨c, e⟩ := cell_has (n := s.heap.objs.size + 1) k
      refine .inr ⟨.inl k, c, e, ?_⟩
      have q := x.cell y c e
      rw [bindC_get ndP hp hu (by show scope.names.lookup y ≠ _; rw [k]; decide)] at q
      exact q
  · exact e0.hok.fresh (Nat.le_of_lt (x.above y c (PySem.mem_of_lookup h)))
  · unfold start
    show _ = N.length
    rw [List.length_append, List.length_map, List.length_replicate]
    omega

theorem fn_of {CX : CXT} {P : Program} {w : World} {K : PySem.W.Frag} {mg : Str → Option Value} {base : Heap} {k : Nat} {f : Addr} {name qual : Str} {params : Arguments} {body : List Stmt} {scope : Scope} {dV kV doc pm cdv ct oc : Value} {an od : Option Addr}
    {osl : Array (Option Value)} {N ps : List Str} {sp : Sp} (lk : K.lookup f = some ⟨oc, od, .func (PySem.W.fnOf name qual params body scope dV kV doc pm an cdv ct), osl⟩) (hcd : PySem.W.codeIn K cdv qual = true) (S : FnScope N ps scope)
    (len : ∀ vs H Q E, sp vs H Q E → vs.length = ps.length)
    (hbody : ∀ (A : Around) (outer : List Env) (s : Shared) (H : Hp) (vs : List V) (Q : VK) (E : XK), Room k (A.deeper (envOfC qual scope s.heap.objs.size f cdv)) → sp vs H Q E →
      ∃ t, PSs (cxOf CX P w K mg base N qual scope f cdv A outer s H E) body t ∧ t { nx := fun _ H' => Q .non H', rt := Q } (start N vs) H) :
    FnOk P w K mg base CX (k + 1) f (PySem.W.fnOf name qual params body scope dV kV doc pm an cdv ct) ps sp := by
  refine ⟨len, fun A outer s H args us vs Q E hr e0 hb r hsp => ?_⟩
  have hl := len _ _ _ _ hsp
  have KX : K.In s.heap := e0.mod.kin.keeps fun b o e => (e0.bs b o e).1
  have lim : s.heap.NoLimit := e0.mod.nolimit.keeps fun b o e => (e0.bs b o e).1
  have hkind : ∀ y ∈ ps.zip us, scope.names.lookup y.1 = some .local ∨ (scope.names.lookup y.1 = some .cell ∧ ((cellsFrom (s.heap.objs.size + 1) scope.names []).lookup y.1).isSome = true) := fun ⟨n, v⟩ hy => by
    rcases S.par n (List.of_mem_zip hy).1 with q | q
    · exact .inl q
    · exact .inr ⟨q, PySem.W.cellsFrom_some _ _ _ (.inl q)⟩
  refine codeAny_call_function hr.depth (KX _ _ lk) rfl S.co S.gen rfl (PySem.W.codeRec_of KX hcd) (hb _ _ _ _ ?_)
  refine wpAny_newFunctionEnv_cells S.kind hkind fun env he s1 x => ?_
  subst he
  refine ⟨lim.keeps x.toInCall.keep, codeAny_func ?_⟩
  obtain ⟨t, ht, hq⟩ := hbody A outer s H vs Q E (hr.deeper _) hsp
  have I : Inv (cxOf CX P w K mg base N qual scope f cdv A outer s H E) [] (start N vs) H s1 := inv_start S hr.hd e0 hl r x
  refine wpAny_mono (ht [] s1 (start N vs) H _ I hq) (fun fl s' hs => ?_) fun e s' hs => hs
  have fin : ∀ {σ' : St} {H' : Hp} {v : V} {u : Value}, Inv (cxOf CX P w K mg base N qual scope f cdv A outer s H E) [] σ' H' s' → RelV v u → Q v H' → CE outer P w H s Q u s' :=
    fun {σ' H' v u} J rv q => ⟨v, H', J.os, J.bare, J.base, J.hok, rv, q⟩
  cases fl with
  | ret u =>
    obtain ⟨v, σ', H', J, rv, q⟩ := hs
    exact fin J rv q
  | next =>
    obtain ⟨σ', H', J, q⟩ := hs
    exact fin (v := V.non) (u := Value.none) J rfl q
  | brk =>
    obtain ⟨_, _, _, q⟩ := hs
    exact False.elim q
  | cont =>
    obtain ⟨_, _, _, q⟩ := hs
    exact False.elim q
end L2

namespace L2
open PySem PySem.Spec PyProof.Rows
section
variable {X : Cx} {x : Str} {p pos : Pos} {e : Expr} {es : List Expr} {t : TA} {id T : String} {r : List V → Hp → VK → Prop}

def tCB (r : List V → Hp → VK → Prop) (t : TA) : TE := fun σ H Q => t σ H fun vs H1 => r vs H1 Q
theorem pe_callB (hc : CallR X (.builtin id) r) (hg : Gl X x) (hm : X.mg x = none) (hv : bootBuiltins x = some (.builtin id)) (ha : PA X (e :: es) t) (hn : x ≠ "__name__" := by decide) (hdb : (x == ("__debug__" : Str)) = false := by decide)
    (he : starEach (e :: es) X.env = (false, eval e X.env) :: starEach es X.env := by rfl) (hpl : (backTo pos (starEach es X.env)).any (·.1) = false := by rfl) : PE X (.Call (.Name x p) (e :: es) [] pos) (tCB r t) := by
  intro pins s σ H Q I h
  refine wpAny_Call_Name_kw (ld_blt I hg hm hv ?_ hn hdb)
  exact PyProof.Rows.callWith_builtin1 (thn (ha pos pins s σ H _ I h) fun us s1 ⟨vs, H1, I1, r1, q1⟩ => hc pins s1 σ H1 vs us Q I1 r1 q1) he hpl
theorem pe_callTy (hc : CallR X (.type T) r) (hg : Gl X x) (hm : X.mg x = none) (hv : bootBuiltins x = some (.type T)) (ha : PA X (e :: es) t) (hn : x ≠ "__name__" := by decide) (hdb : (x == ("__debug__" : Str)) = false := by decide)
    (he : starEach (e :: es) X.env = (false, eval e X.env) :: starEach es X.env := by rfl) (hpl : (backTo pos (starEach es X.env)).any (·.1) = false := by rfl) : PE X (.Call (.Name x p) (e :: es) [] pos) (tCB r t) := by
  intro pins s σ H Q I h
  refine wpAny_Call_Name_kw (ld_blt I hg hm hv ?_ hn hdb)
  exact PyProof.Rows.callWith_type1 (thn (ha pos pins s σ H _ I h) fun us s1 ⟨vs, H1, I1, r1, q1⟩ => hc pins s1 σ H1 vs us Q I1 r1 q1) he hpl
end
end L2

namespace HT
open PySem PyProof.Rows

section
open PySem.SeqAt
open PySem.AutoSeq1 (wpAny_loadPart')
open PySem.MeetsSeq PySem.MeetsSeq2 PySem.MeetsSeq3

end

section
variable {prog : Program} {w : World} {A : Around} {E : Value → Shared → Prop} {s : Shared}

theorem cat_tup {t b : Addr} {vs ws : List Value} {Q : Value → Shared → Prop} (ht : IsTup s.heap t vs.toArray) (hb : IsTup s.heap b ws.toArray) (hv : vs ≠ [])
    (h1 : ws = [] → Q (.ref t) s) (h2 : ws ≠ [] → Q (.ref s.heap.objs.size) { s with heap := s.heap.push { cls := .type "tuple", data := .seq (vs ++ ws).toArray } })
    (hsz : vs.length + ws.length ≤ sizeLine) : wpAny (model prog w) A (binaryOp .Add (.ref t) (.ref b)) Q E s := by
  obtain ⟨⟨cls, dd, data, sl⟩, ho, hc, n, hd⟩ := id ht
  obtain ⟨⟨cls2, dd2, data2, sl2⟩, ho2, hc2, n2, hd2⟩ := id hb
  simp only at hc hd hc2 hd2
  subst hc hd hc2 hd2
  have e : vs.toArray ++ ws.toArray = (vs ++ ws).toArray := by simp
  by_cases hw : ws = []
  · exact concat_meets ⟨_, ho, rfl⟩ ⟨_, ho2, rfl⟩ noFill_tuple_add seq_tuple_add PySem.F.slot_tuple_add PySem.F.entry_tuple_add (PySem.F.args_tuple_add_2 _ _)
      (tuple_addW1 t b vs.toArray ws.toArray n n2 dd dd2 sl sl2 (by simpa using hv) (by simp [hw])) ⟨ho, ho2, h1 hw⟩
  · refine concat_meets ⟨_, ho, rfl⟩ ⟨_, ho2, rfl⟩ noFill_tuple_add seq_tuple_add PySem.F.slot_tuple_add PySem.F.entry_tuple_add (PySem.F.args_tuple_add_2 _ _)
      (tuple_addW2 t b vs.toArray ws.toArray n n2 dd dd2 sl sl2 (by simpa using hv) (by simpa using hw) (by rw [List.size_toArray, List.size_toArray]; exact hsz)) ⟨ho, ho2, ?_⟩
    rw [e]
    exact h2 hw

def sIx (n d : Nat) : Option Int → Nat
  | none => d
  | some v => if v < 0 then (v + (n : Int)).toNat else min v.toNat n
theorem sIx_none (n d : Nat) : sIx n d none = d := rfl
theorem sIx_nat (n d k : Nat) : sIx n d (some (k : Int)) = min k n := by
  show (if (k : Int) < 0 then ((k : Int) + (n : Int)).toNat else min (k : Int).toNat n) = min k n
  rw [if_neg (by omega), Int.toNat_natCast]
theorem sIx_le (n d : Nat) (hd : d ≤ n) (o : Option Int) : sIx n d o ≤ n := by
  cases o with
  | none => exact hd
  | some v =>
    show (if v < 0 then (v + (n : Int)).toNat else min v.toNat n) ≤ n
    by_cases hv : v < 0
    · rw [if_pos hv]; omega
    · rw [if_neg hv]; exact Nat.min_le_right _ _
theorem clip_eq (v : Int) (n d : Nat) : (if v < 0 then max (v + (n : Int)) 0 else min v (n : Int)) = ((sIx n d (some v) : Nat) : Int) := by
  show (if v < 0 then max (v + (n : Int)) 0 else min v (n : Int)) = (((if v < 0 then (v + (n : Int)).toNat else min v.toNat n) : Nat) : Int)
  by_cases hv : v < 0
  · simp only [if_pos hv]; omega
  · simp only [if_neg hv]; omega
theorem adjust_gen (lo hi : Option Int) (n : Nat) : Builtin.Slice.sliceAdjust lo hi 1 (n : Int) = (((sIx n 0 lo : Nat) : Int), ((sIx n n hi : Nat) : Int)) := by
  have h1 : ¬ ((1 : Int) < 0) := by omega
  unfold Builtin.Slice.sliceAdjust
  simp only [h1, if_false]
  refine Prod.ext ?_ ?_
  · cases lo with
    | none => rfl
    | some v => exact clip_eq v n 0
  · cases hi with
    | none => rfl
    | some v => exact clip_eq v n n
theorem places_gen (i j : Nat) : Builtin.Slice.slicePlaces (i : Int) (j : Int) 1 = j - i := by
  unfold Builtin.Slice.slicePlaces
  have h1 : (1 : Int) > 0 := by omega
  simp only [h1, if_true, Int.ediv_one]
  split <;> omega
theorem slicePart_ {v : Value} {o : Option Int} {Q : Option Int → Shared → Prop} (p : IsPart v o) (h : Q o s) : wpAny (model prog w) A (Builtin.Slice.slicePartIndex v) Q E s := by
  cases p with
  | none => exact slicePart_none h
  | int i t => exact slicePart_int h
theorem sliceApplied_gen {sl : Addr} {vl vu : Value} {lo hi : Option Int} {n : Nat} {Q : Int × Int × Nat → Shared → Prop} (hs : s.heap.IsSliceOf sl vl vu .none) (pl : IsPart vl lo) (pu : IsPart vu hi)
    (h : Q (((sIx n 0 lo : Nat) : Int), 1, sIx n n hi - sIx n 0 lo) s) : wpAny (model prog w) A (Builtin.Slice.sliceApplied (.ref sl) (pure (n : Int))) Q E s := by
  obtain ⟨os, hos, hcs, hds⟩ := id hs
  unfold Builtin.Slice.sliceApplied Builtin.Slice.sliceFields
  refine wpAny_bind (wpAny_bind (wpAny_field hos hds (x := vl) rfl (wpAny_bind (wpAny_field hos hds (x := vu) rfl (wpAny_bind (wpAny_field hos hds (x := .none) rfl (wpAny_pure ?_)))))))
  refine wpAny_bind (slicePart_none ?_)
  show wpAny _ _ (if ((1 : Int) == 0) = true then _ else _) _ _ s
  rw [if_neg (by decide)]
  refine wpAny_bind (slicePart_ pl (wpAny_bind (slicePart_ pu (wpAny_bind (wpAny_pure ?_)))))
  show wpAny _ _ (match Builtin.Slice.sliceAdjust lo hi 1 (n : Int) with | (lo, hi) => pure (lo, (1 : Int), Builtin.Slice.slicePlaces lo hi 1)) _ _ s
  rw [adjust_gen lo hi n]
  show wpAny _ _ (pure (((sIx n 0 lo : Nat) : Int), (1 : Int), Builtin.Slice.slicePlaces ((sIx n 0 lo : Nat) : Int) ((sIx n n hi : Nat) : Int) 1)) _ _ s
  rw [places_gen]
  exact wpAny_pure h
theorem pick_gen (xs : Array Value) (i k : Nat) : ((List.range k).filterMap fun (m : Nat) => xs[((i : Int) + (m : Int) * 1).toNat]?).toArray = ((xs.toList.drop i).take k).toArray := by
  have e : (fun (m : Nat) => xs[((i : Int) + (m : Int) * 1).toNat]?) = fun m => xs[i + m]? := by
    funext m
    have : ((i : Int) + (m : Int) * 1).toNat = i + m := by omega
    rw [this]
  rw [e]
  have := pick_run xs i k
  rw [List.filterMap_map] at this
  have e2 : ((fun x => xs[x]?) ∘ fun x => i + x) = fun m => xs[i + m]? := rfl
  rw [e2] at this
  rw [this]

theorem getItem_tuple_cut {t sl : Addr} {items : Array Value} {vl vu : Value} {lo hi : Option Int} {Q : Value → Shared → Prop} (ht : IsTup s.heap t items) (hs : s.heap.IsSliceOf sl vl vu .none) (pl : IsPart vl lo) (pu : IsPart vu hi)
    (hw : ¬ (sIx items.size 0 lo = 0 ∧ sIx items.size items.size hi = items.size))
    (h : Q (.ref s.heap.objs.size) { s with heap := s.heap.push { cls := .type "tuple", data := .seq ((items.toList.drop (sIx items.size 0 lo)).take (sIx items.size items.size hi - sIx items.size 0 lo)).toArray } })
    (hsz : items.size ≤ sizeLine) : wpAny (model prog w) A (getItem (.ref t) (.ref sl)) Q E s := by
  have htake : sizeOk (.seq ((items.toList.drop (sIx items.size 0 lo)).take (sIx items.size items.size hi - sIx items.size 0 lo)).toArray) := by
    show ((items.toList.drop (sIx items.size 0 lo)).take (sIx items.size items.size hi - sIx items.size 0 lo)).toArray.size ≤ sizeLine
    rw [List.size_toArray, List.length_take, List.length_drop, Array.length_toList]
    omega
  have hj : sIx items.size items.size hi ≤ items.size := sIx_le _ _ (Nat.le_refl _) hi
  obtain ⟨os, hos, hcs, hds⟩ := id hs
  have hTs : s.TypeIs (.ref sl) "slice" := ⟨os, hos, hcs⟩
  unfold getItem
  try with_reducible refine wpAny_holding ?_
  first | refine wpAny_bind (wpAny_pure ?_) | skip
  refine wpAny_bind (wpAny_sequenceKey ht.typeIs (by decide) ?_)
  refine wpAny_bind (wpAny_callSpecial?_slot (name := Str.ofString "__getitem__") ht.typeIs PyProof.Rows.slot_tuple_getitem
    (wpAny_call_entry PyProof.Rows.slot_tuple_getitem ht.typeIs entry_tuple_getitem ?_ (args_tuple_getitem _ _)))
  show wpAny _ _ (Builtin.Tuple.tupleItemsOf (.ref t) >>= _) _ _ s
  refine wpAny_bind (tupleItemsOf_ ht ?_)
  refine wpAny_bind (wpAny_typeOf hTs ?_)
  rw [if_pos (by decide)]
  refine wpAny_bind (sliceApplied_gen hs pl pu ?_)
  have hno : ¬ ((((sIx items.size 0 lo : Nat) : Int) == 0 && (1 : Int) == 1 && (sIx items.size items.size hi - sIx items.size 0 lo) == items.size) = true) := by
    intro q
    rw [Bool.and_eq_true, Bool.and_eq_true] at q
    have q1 : ((sIx items.size 0 lo : Nat) : Int) = 0 := eq_of_beq q.1.1
    have q2 : sIx items.size items.size hi - sIx items.size 0 lo = items.size := eq_of_beq q.2
    exact hw ⟨by omega, by omega⟩
  show wpAny _ _ (if (((sIx items.size 0 lo : Nat) : Int) == 0 && (1 : Int) == 1 && (sIx items.size items.size hi - sIx items.size 0 lo) == items.size) = true then _ else _) _ _ s
  rw [if_neg hno, pick_gen]
  first
    | exact wpAny_bind (m := Builtin.Tuple.tupleExact _) (wpAny_newObj_type (wpAny_pure ⟨_, rfl, wpAny_pure h⟩) htake)
    | exact wpAny_bind (m := Builtin.Tuple.tupleExact _) (wpAny_newObj_type (wpAny_bind (wpAny_pure (wpAny_pure ⟨_, rfl, wpAny_pure h⟩))) htake)
    | exact wpAny_bind (wpAny_bind (m := Builtin.Tuple.tupleExact _) (wpAny_newObj_type (wpAny_pure (wpAny_pure ⟨_, rfl, wpAny_pure h⟩)) htake))
    | exact wpAny_bind (wpAny_bind (m := Builtin.Tuple.tupleExact _) (wpAny_newObj_type (wpAny_pure ⟨_, rfl, wpAny_pure h⟩) htake))
end
end HT

namespace L2
open PySem PySem.Spec PyProof.Rows

abbrev TO := St → Hp → (Option Int → Hp → Prop) → Prop
def PO (X : Cx) (e : Option Expr) (t : TO) : Prop :=
  ∀ (pins : List (Addr × Obj)) (s : Shared) (σ : St) (H : Hp) (Q : Option Int → Hp → Prop), Inv X pins σ H s → t σ H Q →
    wpAny (model X.prog X.w) X.A (evalPart e X.env) (fun u s' => ∃ o H', Inv X pins σ H' s' ∧ IsPart u o ∧ Q o H') X.xe s
def tNoPart : TO := fun _ H Q => Q none H
def tPart (t : TE) : TO := fun σ H Q => t σ H fun x H1 => ∃ i, x = .int i ∧ Q (some i) H1

section
variable {X : Cx} {e : Expr} {te : TE} {lo hi : Option Expr} {tl th : TO} {pos p2 : Pos}

theorem po_none : PO X none tNoPart := by
  intro pins s σ H Q I h
  rw [evalPart_none]
  exact wpAny_pure ⟨none, H, I, .none, h⟩
theorem po_some (h : PE X e te) : PO X (some e) (tPart te) := by
  intro pins s σ H Q I hw
  rw [evalPart_some]
  refine thn (h pins s σ H _ I hw) fun u s1 ⟨x, H1, I1, r1, q1⟩ => ?_
  obtain ⟨i, rfl, q⟩ := q1
  obtain ⟨t, rfl⟩ := r1
  exact ⟨some i, H1, I1, .int i t, q⟩

def SlR (X : Cx) (r : V → Option Int → Option Int → Hp → VK → Prop) : Prop :=
  ∀ (pins : List (Addr × Obj)) (s : Shared) (σ : St) (H : Hp) (x : V) (v vl vu : Value) (lo hi : Option Int) (sl : Addr) (Q : VK), Inv X pins σ H s → RelV x v → s.heap.IsSliceOf sl vl vu .none → IsPart vl lo → IsPart vu hi → r x lo hi H Q →
    ∃ T id, typeLookup (.type T) "__getitem__" = pure (some (.builtin id)) ∧ s.TypeIs v T ∧ wpAny (model X.prog X.w) X.A (getItem v (.ref sl)) (EP X pins σ Q) X.xe s
theorem SlR.or {r r' : V → Option Int → Option Int → Hp → VK → Prop} (h : SlR X r) (h' : SlR X r') : SlR X (fun x lo hi H Q => r x lo hi H Q ∨ r' x lo hi H Q) := by
  intro pins s σ H x v vl vu lo hi sl Q I rx hs pl pu q
  rcases q with q | q
  · exact h pins s σ H x v vl vu lo hi sl Q I rx hs pl pu q
  · exact h' pins s σ H x v vl vu lo hi sl Q I rx hs pl pu q
def tSl (r : V → Option Int → Option Int → Hp → VK → Prop) (te : TE) (tl th : TO) : TE := fun σ H Q => te σ H fun x H1 => tl σ H1 fun l H2 => th σ H2 fun u H3 => r x l u H3 Q
theorem pe_slice {r : V → Option Int → Option Int → Hp → VK → Prop} (hr : SlR X r) (he : PE X e te) (hl : PO X lo tl) (hu : PO X hi th) : PE X (.Subscript e (.Slice lo hi none p2) pos) (tSl r te tl th) := by
  intro pins s σ H Q I h
  refine Subscript_ (thn (he pins s σ H _ I h) fun v s1 ⟨x, H1, I1, r1, q1⟩ => ?_)
  refine wpAny_Slice (thn (hl pins s1 σ H1 _ I1 q1) fun vl s2 ⟨l, H2, I2, pl, q2⟩ => thn (hu pins s2 σ H2 _ I2 q2) fun vu s3 ⟨u, H3, I3, pu, q3⟩ => ?_)
  rw [evalPart_none]
  refine wpAny_pure ?_
  have I4 : Inv X pins σ H3 { s3 with heap := s3.heap.push { cls := .type "slice", data := .fields #[vl, vu, .none] } } := I3.kept (t' := s3.toks) fun b ob q => Heap.get?_push_of_some _ q
  obtain ⟨T, id, hT, ht, hg⟩ := hr pins { s3 with heap := s3.heap.push { cls := .type "slice", data := .fields #[vl, vu, .none] } } σ H3 x v vl vu l u s3.heap.objs.size Q I4 r1 (Heap.IsSliceOf.new ..) pl pu q3
  show wpAny (model X.prog X.w) X.A (subscriptTail e (.Slice lo hi none p2) v (.ref s3.heap.objs.size)) (EP X pins σ Q) X.xe { s3 with heap := s3.heap.push { cls := .type "slice", data := .fields #[vl, vu, .none] } }
  exact tail_any (ops := [.ref s3.heap.objs.size, v]) ht hT hg (by with_unfolding_all rfl)

def cutV (xs : List V) (lo hi : Option Int) : List V := (xs.drop (HT.sIx xs.length 0 lo)).take (HT.sIx xs.length xs.length hi - HT.sIx xs.length 0 lo)
theorem cutV_length (xs : List V) (lo hi : Option Int) : (cutV xs lo hi).length ≤ xs.length := by
  unfold cutV
  rw [List.length_take, List.length_drop]
  omega
def rSlT (K : PySem.W.Frag) : V → Option Int → Option Int → Hp → VK → Prop := fun x lo hi H Q => ∃ a xs, x = .ref a ∧ SqT K H a xs ∧
  ¬ (HT.sIx xs.length 0 lo = 0 ∧ HT.sIx xs.length xs.length hi = xs.length) ∧ ∀ p, H p = none → Q (.ref p) (upd H p (.tup (cutV xs lo hi)))
theorem sl_tup : SlR X (rSlT X.K) := by
  intro pins s σ H x v vl vu lo hi sl Q I rx hs pl pu h
  obtain ⟨a, xs, rfl, hx, hw, q⟩ := h
  cases rx
  obtain ⟨its, r, ht, hz⟩ := I.tuple hx
  have hlen : its.toArray.size = xs.length := by rw [List.size_toArray]; exact r.length.symm
  refine ⟨"tuple", _, PyProof.Rows.slot_tuple_getitem.lookup, ht.typeIs, ?_⟩
  refine HT.getItem_tuple_cut ht hs pl pu (by rw [hlen]; exact hw) ?_ (by rw [hlen]; exact hz)
  rw [hlen]
  refine ⟨.ref s.heap.objs.size, _, I.laid (t' := s.toks) (o := .tup (cutV xs lo hi)) (fun b ob q => Heap.get?_push_of_some _ q) (Nat.le_refl _) ?_, rfl, q _ (I.hok.fresh (Nat.le_refl _))⟩
  exact ⟨Nat.le_trans (cutV_length xs lo hi) hz, _, (r.drop (HT.sIx xs.length 0 lo)).take (HT.sIx xs.length xs.length hi - HT.sIx xs.length 0 lo), IsTup.new _ _⟩

def rCatT (K : PySem.W.Frag) : R2 := fun x y H Q => ∃ a b xs ys, x = .ref a ∧ y = .ref b ∧ SqT K H a xs ∧ SqT K H b ys ∧ xs ≠ [] ∧ xs.length + ys.length ≤ sizeLine ∧
  (ys = [] → Q (.ref a) H) ∧ (ys ≠ [] → ∀ p, H p = none → Q (.ref p) (upd H p (.tup (xs ++ ys))))
theorem Vals.nil_iff {xs : List V} {us : List Value} (r : Vals xs us) : us = [] ↔ xs = [] := by
  cases r with
  | nil => simp
  | cons _ _ => simp
theorem op_catT : OpR X (binaryOp .Add) (rCatT X.K) := by
  intro pins s σ H x y v u Q I rx ry h
  obtain ⟨a, b, xs, ys, rfl, rfl, ha, hb, hx, hz, q1, q2⟩ := h
  cases rx
  cases ry
  obtain ⟨its, r1, p1, _⟩ := I.tuple ha
  obtain ⟨its2, r2, p2, _⟩ := I.tuple hb
  refine HT.cat_tup p1 p2 (fun z => hx (r1.nil_iff.mp z)) (fun z => ⟨.ref a, H, I, rfl, q1 (r2.nil_iff.mp z)⟩) (fun z => ?_) (by rw [← r1.length, ← r2.length]; exact hz)
  refine ⟨.ref s.heap.objs.size, _, I.laid (t' := s.toks) (o := .tup (xs ++ ys)) (fun b ob q => Heap.get?_push_of_some _ q) (Nat.le_refl _) ?_, rfl, q2 (fun w => z (r2.nil_iff.mpr w)) _ (I.hok.fresh (Nat.le_refl _))⟩
  exact ⟨by rw [List.length_append]; exact hz, _, r1.append r2, IsTup.new _ _⟩
end
end L2

namespace L2
open PySem PySem.Spec PyProof.Rows

def ixN (n : Nat) (i : Int) : Option Nat := if 0 ≤ i then (if i < n then some i.toNat else none) else if -(n : Int) ≤ i then some (i + n).toNat else none
def atI {α : Type} (xs : List α) (i : Int) : Option α := (ixN xs.length i).bind fun j => xs[j]?
theorem ixN_seq {n : Nat} {i : Int} {j : Nat} (h : ixN n i = some j) : seqIndex? i n = some j ∧ j < n ∧ -(n : Int) ≤ i ∧ i < n := by
  unfold ixN at h
  by_cases h0 : 0 ≤ i
  · rw [if_pos h0] at h
    by_cases h1 : i < n
    · rw [if_pos h1] at h
      have e : i.toNat = j := Option.some.inj h
      exact ⟨by rw [seqIndex_of h0 h1, e], by omega, by omega, h1⟩
    · rw [if_neg h1] at h; cases h
  · rw [if_neg h0] at h
    by_cases h1 : -(n : Int) ≤ i
    · rw [if_pos h1] at h
      have e : (i + n).toNat = j := Option.some.inj h
      exact ⟨by rw [seqIndex_neg (by omega) h1, e], by omega, h1, by omega⟩
    · rw [if_neg h1] at h; cases h
theorem atI_get {α : Type} {xs : List α} {i : Int} {v : α} (h : atI xs i = some v) : ∃ j, seqIndex? i xs.length = some j ∧ xs[j]? = some v ∧ j < xs.length ∧ -(xs.length : Int) ≤ i ∧ i < xs.length := by
  unfold atI at h
  cases e : ixN xs.length i with
  | none => rw [e] at h; cases h
  | some j =>
    rw [e] at h
    obtain ⟨h1, h2, h3, h4⟩ := ixN_seq e
    exact ⟨j, h1, h, h2, h3, h4⟩
theorem atI_nat {α : Type} {xs : List α} {j : Nat} {v : α} (h : xs[j]? = some v) : atI xs (j : Int) = some v := by
  have hj : j < xs.length := (List.getElem?_eq_some_iff.mp h).1
  have e : ixN xs.length (j : Int) = some j := by
    unfold ixN
    rw [if_pos (by omega), if_pos (by omega)]; simp
  unfold atI; rw [e]; exact h
theorem atI_last {α : Type} (xs : List α) (v : α) : atI (xs ++ [v]) (-1) = some v := by
  have hl : (xs ++ [v]).length = xs.length + 1 := by simp
  have e : ixN (xs ++ [v]).length (-1) = some xs.length := by
    unfold ixN
    rw [hl, if_neg (by decide), if_pos (by omega)]
    congr 1
    omega
  unfold atI
  rw [e]
  show (xs ++ [v])[xs.length]? = some v
  simp

def PlainIx (b : Expr) : Prop := ∀ o i, subscripted b false o i = operate [o, i] (getItem o i)
def IxR (X : Cx) (r : R2) : Prop :=
  ∀ (value slice : Expr) (pins : List (Addr × Obj)) (s : Shared) (σ : St) (H : Hp) (x y : V) (v u : Value) (Q : VK), Inv X pins σ H s → RelV x v → RelV y u → r x y H Q →
    subscripted slice false v u = operate [v, u] (getItem v u) → wpAny (model X.prog X.w) X.A (subscriptTail value slice v u) (EP X pins σ Q) X.xe s
def MtR (X : Cx) (id : String) (r : V → List V → Hp → VK → Prop) : Prop :=
  ∀ (pins : List (Addr × Obj)) (s : Shared) (σ : St) (H : Hp) (x : V) (xs : List V) (v : Value) (us : List Value) (Q : VK), Inv X pins σ H s → RelV x v → Vals xs us → r x xs H Q →
    wpAny (model X.prog X.w) X.A (call (.builtin id) (v :: us)) (EP X pins σ Q) X.xe s
section
variable {X : Cx} {a b : Expr} {ta tb : TE} {pos : Pos}
theorem IxR.or {r r' : R2} (h : IxR X r) (h' : IxR X r') : IxR X (fun x y H Q => r x y H Q ∨ r' x y H Q) := by
  intro value slice pins s σ H x y v u Q I rx ry q hs
  rcases q with q | q
  · exact h value slice pins s σ H x y v u Q I rx ry q hs
  · exact h' value slice pins s σ H x y v u Q I rx ry q hs
theorem MtR.or {id : String} {r r' : V → List V → Hp → VK → Prop} (h : MtR X id r) (h' : MtR X id r') : MtR X id (fun x xs H Q => r x xs H Q ∨ r' x xs H Q) := by
  intro pins s σ H x xs v us Q I rx rs q
  rcases q with q | q
  · exact h pins s σ H x xs v us Q I rx rs q
  · exact h' pins s σ H x xs v us Q I rx rs q
theorem pe_ix {r : R2} (hr : IxR X r) (ha : PE X a ta) (hb : PE X b tb) (hs : PlainIx b) : PE X (.Subscript a b pos) (tOp r ta tb) := by
  intro pins s σ H Q I h
  exact Subscript_ (binT ha hb I h fun v u s2 x y H2 I2 rx ry q => hr a b pins s2 σ H2 x y v u Q I2 rx ry q (hs _ _))

def rIxL (K : PySem.W.Frag) : R2 := fun x y H Q => ∃ p xs i v, x = .ref p ∧ y = .int i ∧ SqL K H p xs ∧ atI xs i = some v ∧ Q v H
def rIxT (K : PySem.W.Frag) : R2 := fun x y H Q => ∃ p xs i v, x = .ref p ∧ y = .int i ∧ SqT K H p xs ∧ atI xs i = some v ∧ Q v H
theorem ix_list : IxR X (rIxL X.K) := by
  intro value slice pins s σ H x y v u Q I rx ry h hs
  obtain ⟨p, xs, i, z, rfl, rfl, hq, he, q⟩ := h
  cases rx
  obtain ⟨t, rfl⟩ := ry
  obtain ⟨its, r, pl, hz⟩ := I.list hq
  obtain ⟨j, h1, h2, h3, h4, h5⟩ := atI_get he
  obtain ⟨w, ew, rw'⟩ := r.get h2
  have hl := r.length
  have hn := line63
  have fin : EP X pins σ Q w s := ⟨z, H, I, rw', q⟩
  by_cases h0 : 0 ≤ i
  · have hj : i.toNat = j := by
      rw [seqIndex_of h0 h5] at h1
      exact Option.some.inj h1
    exact item_listR pl.isList h0 (by omega) (by rw [hj]; simpa using ew) fin hs
  · have hj : (i + (its.toArray.size : Int)).toNat = j := by
      rw [seqIndex_neg (by omega) h4] at h1
      rw [List.size_toArray, ← hl]
      exact Option.some.inj h1
    exact subscriptTail_builtinR (x := w) pl.isList.typeIs slot_list_getitem.lookup
      (wpAny_getItem_list_neg (Q := fun r s' => r = w ∧ EP X pins σ Q r s') pl.isList (by omega) (by rw [List.size_toArray] <;> omega) (by omega) (by rw [hj]; simpa using ew) ⟨rfl, fin⟩) hs
theorem ix_tup : IxR X (rIxT X.K) := by
  intro value slice pins s σ H x y v u Q I rx ry h hs
  obtain ⟨p, xs, i, z, rfl, rfl, hq, he, q⟩ := h
  cases rx
  obtain ⟨t, rfl⟩ := ry
  obtain ⟨its, r, pl, hz⟩ := I.tuple hq
  obtain ⟨j, h1, h2, h3, h4, h5⟩ := atI_get he
  obtain ⟨w, ew, rw'⟩ := r.get h2
  have hl := r.length
  have hn := line63
  have fin : EP X pins σ Q w s := ⟨z, H, I, rw', q⟩
  exact subscriptTail_builtinR (x := w) pl.typeIs slot_tuple_getitem.lookup
    (getItem_tuple (j := j) (Q := fun r s' => r = w ∧ EP X pins σ Q r s') pl (by omega) (by omega) (by rw [List.size_toArray, ← hl]; exact h1) (by simpa using ew) ⟨rfl, fin⟩) hs
theorem mapSeq_set (its : List Value) (n j : Nat) (u : Value) : Obj.mapSeq (·.setIfInBounds j u) { cls := .type "list", data := .seq its.toArray n } = { cls := .type "list", data := .seq (its.set j u).toArray n } := by
  simp [Obj.mapSeq]
theorem Inv.lst {pins : List (Addr × Obj)} {σ : St} {H : Hp} {s : Shared} {p : Addr} {xs : List V} (I : Inv X pins σ H s) (h : H p = some (.lst xs)) :
    ∃ (its : List Value) (n : Nat), Vals xs its ∧ s.heap.get? p = some { cls := .type "list", data := .seq its.toArray n } ∧ xs.length ≤ sizeLine := by
  obtain ⟨z, its, n, r, e⟩ := I.hok p _ h
  exact ⟨its, n, r, e, z⟩
theorem Inv.lstUpd {pins : List (Addr × Obj)} {σ : St} {H : Hp} {s : Shared} {p : Addr} {xs ys : List V} {its its' : List Value} {n n' : Nat} {f : Obj → Obj} (I : Inv X pins σ H s) (h : H p = some (.lst xs))
    (ho : s.heap.get? p = some { cls := .type "list", data := .seq its.toArray n }) (hf : f { cls := .type "list", data := .seq its.toArray n } = { cls := .type "list", data := .seq its'.toArray n' }) (r : Vals ys its') (hz : ys.length ≤ sizeLine) (t : Nat) :
    Inv X pins σ (upd H p (.lst ys)) { s with heap := s.heap.update p f, toks := t } := by
  have e : (s.heap.update p f).get? p = some { cls := .type "list", data := .seq its'.toArray n' } := by
    rw [Heap.get?_update_self f ho (by rw [hf] <;> rfl), hf]
  refine I.write (x := p) (e := p) (by rw [h]; trivial) (.inl rfl) (fun b u hb q => (Heap.get?_update_other _ _ (Ne.symm hb)).trans q) ⟨_, e⟩ ?_
  exact ⟨hz, its', n', r, e⟩
def rSetL : V → V → V → Hp → (Hp → Prop) → Prop := fun o i v H Q => ∃ p xs k j, o = .ref p ∧ i = .int k ∧ H p = some (.lst xs) ∧ ixN xs.length k = some j ∧ Q (upd H p (.lst (xs.set j v)))
theorem set_list : PSet X rSetL := by
  intro pins s σ H o i v ov iv u Q I ro ri rv h
  obtain ⟨p, xs, k, j, rfl, rfl, hp, hj, q⟩ := h
  cases ro
  obtain ⟨t, rfl⟩ := ri
  obtain ⟨its, n, r, ho, hz⟩ := I.lst hp
  obtain ⟨h1, h2, h3, h4⟩ := ixN_seq hj
  have hl := r.length
  have hn := line63
  have I' : Inv X pins σ (upd H p (.lst (xs.set j v))) { s with heap := s.heap.update p (Obj.mapSeq (·.setIfInBounds j u)) } :=
    I.lstUpd hp ho (mapSeq_set its n j u) (r.set rv j) (by rw [List.length_set]; exact hz) s.toks
  by_cases h0 : 0 ≤ k
  · have hk : k.toNat = j := by
      rw [seqIndex_of h0 h4] at h1
      exact Option.some.inj h1
    exact PySem.W.ki_setAt ho h0 (by omega) (by rw [List.size_toArray, ← hl]; exact h4) (by rw [hk]; exact ⟨_, I', q⟩)
  · have hk : (k + (its.toArray.size : Int)).toNat = j := by
      rw [seqIndex_neg (by omega) h3] at h1
      rw [List.size_toArray, ← hl]
      exact Option.some.inj h1
    exact PySem.W.ki_setBack ho (by omega) (by rw [List.size_toArray, ← hl]; exact h3) (by omega) (by rw [hk]; exact ⟨_, I', q⟩)

theorem call_len_seq : CallR X (.builtin "len") (fun xs H Q => ∃ p ys, xs = [.ref p] ∧ (SqL X.K H p ys ∨ SqT X.K H p ys) ∧ Q (.int ys.length) H) := by
  intro pins s σ H xs us Q I r h
  obtain ⟨p, ys, rfl, hq, q⟩ := h
  obtain ⟨u, rfl, rx⟩ := vals1 r
  cases rx
  have hn := line63
  rcases hq with hq | hq
  · obtain ⟨its, r', pl, hz⟩ := I.list hq
    have hlen := r'.length
    exact Calls.call_len_list pl.isList (by simp only [List.size_toArray] <;> omega) ⟨.int ys.length, H, I.tok _, ⟨s.toks + 1, by rw [List.size_toArray, hlen]⟩, q⟩
  · obtain ⟨its, r', pl, hz⟩ := I.tuple hq
    have hlen := r'.length
    exact len_tuple pl (by simp only [List.size_toArray] <;> omega) ⟨.int ys.length, H, I.tok _, ⟨s.toks + 1, by rw [List.size_toArray, hlen]⟩, q⟩
theorem CallR.or {f : Value} {r r' : List V → Hp → VK → Prop} (h : CallR X f r) (h' : CallR X f r') : CallR X f (fun xs H Q => r xs H Q ∨ r' xs H Q) := by
  intro pins s σ H xs us Q I rs q
  rcases q with q | q
  · exact h pins s σ H xs us Q I rs q
  · exact h' pins s σ H xs us Q I rs q
theorem call_list_of : CallR X (.type "list") (fun xs H Q => ∃ p ys, xs = [.ref p] ∧ (SqL X.K H p ys ∨ SqT X.K H p ys) ∧ ∀ l, H l = none → Q (.ref l) (upd H l (.lst ys))) := by
  intro pins s σ H xs us Q I r h
  obtain ⟨p, ys, rfl, hq, q⟩ := h
  obtain ⟨u, rfl, rx⟩ := vals1 r
  cases rx
  have fin : ∀ (its : List Value), Vals ys its → ys.length ≤ sizeLine → ∀ (h' : Heap) (c' : Nat), (∀ b o', s.heap.get? b = some o' → h'.get? b = some o') →
      h'.get? s.heap.objs.size = some { cls := .type "list", dict := none, data := .seq its.toArray c', slots := #[] } → EP X pins σ Q (.ref s.heap.objs.size) { s with heap := h' } := fun its r' hz h' c' kp e =>
    ⟨.ref s.heap.objs.size, _, I.laid (t' := s.toks) kp (Nat.le_refl _) (show ObjOk X.prog X.w _ h' _ (.lst ys) from ⟨hz, its, c', r', e⟩), rfl, q _ (I.hok.fresh (Nat.le_refl _))⟩
  rcases hq with hq | hq
  · obtain ⟨its, r', pl, hz⟩ := I.list hq
    have hlen := r'.length
    obtain ⟨o, ho, hc, n, hd⟩ := pl.isList
    exact call_list_seq p (.inl rfl) ho hc hd (fun h' c' kp e => fin its r' hz h' c' kp e) (by simp only [List.size_toArray] <;> omega)
  · obtain ⟨its, r', pl, hz⟩ := I.tuple hq
    have hlen := r'.length
    obtain ⟨o, ho, hc, n, hd⟩ := pl
    exact call_list_seq p (.inr rfl) ho hc hd (fun h' c' kp e => fin its r' hz h' c' kp e) (by simp only [List.size_toArray] <;> omega)
theorem call_tuple_of : CallR X (.type "tuple") (fun xs H Q => ∃ p ys, xs = [.ref p] ∧ ((SqL X.K H p ys ∧ ∀ l, H l = none → Q (.ref l) (upd H l (.tup ys))) ∨ (SqT X.K H p ys ∧ Q (.ref p) H))) := by
  intro pins s σ H xs us Q I r h
  obtain ⟨p, ys, rfl, h⟩ := h
  obtain ⟨u, rfl, rx⟩ := vals1 r
  cases rx
  rcases h with ⟨hq, q⟩ | ⟨hq, q⟩
  · obtain ⟨its, r', pl, hz⟩ := I.list hq
    have hlen := r'.length
    refine call_tuple_list pl.isList (fun h' kp => ?_) (by simp only [List.size_toArray] <;> omega)
    have I1 : Inv X pins σ H { s with heap := h' } := I.kept (t' := s.toks) kp
    have I2 : Inv X pins σ (upd H h'.objs.size (.tup ys)) { s with heap := h'.push { cls := .type "tuple", data := .seq its.toArray } } :=
      I1.laid (t' := s.toks) (fun b o e => Heap.get?_push_of_some _ e) (Nat.le_refl _) (show ObjOk X.prog X.w _ _ _ (.tup ys) from ⟨hz, its, r', IsTup.new _ _⟩)
    exact ⟨.ref h'.objs.size, _, I2, rfl, q _ (I1.hok.fresh (Nat.le_refl _))⟩
  · obtain ⟨its, r', pl, hz⟩ := I.tuple hq
    exact call_tuple_same pl ⟨.ref p, H, I, rfl, q⟩

def tyV (K : PySem.W.Frag) (T : String) (x : V) (H : Hp) : Prop := match x with
  | .str _ => T = "str"
  | .int _ => T = "int"
  | .ref p => (T = "list" ∧ ∃ xs, SqL K H p xs) ∨ (T = "tuple" ∧ ∃ o, K.lookup p = some o ∧ o.cls = .type "tuple" ∧ o.dict = none) ∨
      (T = "dict" ∧ ((∃ kvs, H p = some (.dK kvs)) ∨ ∃ kvs, H p = some (.dT kvs))) ∨ (T = "set" ∧ ∃ S n, H p = some (.set S n))
  | _ => False
theorem tyV_is {pins : List (Addr × Obj)} {σ : St} {H : Hp} {s : Shared} {T : String} {x : V} {v : Value} (I : Inv X pins σ H s) (r : RelV x v) (ty : tyV X.K T x H) :
    s.TypeIs v T ∧ ∀ a, v = .ref a → ∃ ob, s.heap.get? a = some ob ∧ ob.dict = none := by
  cases x with
  | str z =>
    obtain ⟨t, rfl⟩ := r
    cases (show T = "str" from ty)
    exact ⟨typeIs_str s z t, fun _ e => nomatch e⟩
  | int i =>
    obtain ⟨t, rfl⟩ := r
    cases (show T = "int" from ty)
    exact ⟨typeIs_int s i t, fun _ e => nomatch e⟩
  | ref p =>
    cases r
    rcases ty with ⟨rfl, xs, hq⟩ | ⟨rfl, o, hk, hc, hd⟩ | ⟨rfl, hk⟩ | ⟨rfl, S, n, hk⟩
    · obtain ⟨its, _, pl, _⟩ := I.list hq
      refine ⟨pl.isList.typeIs, fun a e => ?_⟩
      cases e
      obtain ⟨o, n, e, c, hd, _⟩ := pl
      exact ⟨o, e, hd⟩
    · refine ⟨⟨o, I.kIn p o hk, hc⟩, fun a e => ?_⟩
      cases e
      exact ⟨o, I.kIn _ o hk, hd⟩
    · have z : ∃ o, s.heap.get? p = some o ∧ o.ExactDict := by
        rcases hk with ⟨kvs, hk⟩ | ⟨kvs, hk⟩
        · obtain ⟨_, _, _, _, o, _, _, e, ex, _⟩ := I.hok p _ hk
          exact ⟨o, e, ex⟩
        · obtain ⟨_, _, _, _, o, _, _, e, ex, _⟩ := I.hok p _ hk
          exact ⟨o, e, ex⟩
      obtain ⟨o, e, ex⟩ := z
      refine ⟨⟨o, e, ex.1⟩, fun a e2 => ?_⟩
      cases e2
      exact ⟨o, e, ex.2.1⟩
    · obtain ⟨o, _, _, _, e, ex, _⟩ := I.hok p _ hk
      refine ⟨⟨o, e, ex.1⟩, fun a e2 => ?_⟩
      cases e2
      exact ⟨o, e, ex.2.1⟩
  | _ => exact False.elim ty
def tBM (K : PySem.W.Frag) (T : String) (r : V → List V → Hp → VK → Prop) (to : TE) (t : TA) : TE := fun σ H Q => to σ H fun x H1 => tyV K T x H1 ∧ t σ H1 fun xs H2 => r x xs H2 Q
variable {o e : Expr} {es : List Expr} {to : TE} {t : TA} {name : Str} {apos cpos : Pos} {T id : String} {r : V → List V → Hp → VK → Prop}
theorem pe_bm (pa : PlainAttrs T) (slot : Slot T name id) (hty : typeOf (.builtin id) = pure (.type "method_descriptor")) (hm : MtR X id r) (ho : PE X o to) (ha : PA X (e :: es) t)
    (hbase : attributeBase o name X.env (eval o X.env) = eval o X.env := by rfl)
    (hfew : ((backTo cpos (starEach (e :: es) X.env)).all (fun x => !x.1) && (backToKw cpos (keywordEach [] X.env)).all (fun x => x.1.isSome)
      && decide ((e :: es).length + ([] : List Keyword).length + (if ([] : List Keyword).isEmpty then 0 else 1) < 30)) = true := by rfl)
    (hline : (apos.endLine == cpos.line) = true := by rfl) (hs : starEach (e :: es) X.env = (false, eval e X.env) :: starEach es X.env := by rfl) (hplain : (backTo cpos (starEach es X.env)).any (·.1) = false := by rfl) :
    PE X (.Call (.Attribute o name apos) (e :: es) [] cpos) (tBM X.K T r to t) := by
  intro pins s σ H Q I h
  refine wpAny_Call_method_late hbase hfew hline rfl (thn (ho pins s σ H _ I h) fun v s1 ⟨x, H1, I1, r1, ty, q1⟩ => ?_)
  obtain ⟨h1, h2⟩ := tyV_is I1 r1 ty
  refine ⟨T, id, pa, slot, hty, h1, h2, ?_⟩
  have hA := ha cpos pins s1 σ H1 _ I1 q1
  rw [hs] at hA ⊢
  refine Calls.callWith_builtin (by show (false || (backTo cpos (starEach es X.env)).any (·.1)) = false; rw [hplain] <;> rfl) (Calls.evalArgs_plain ?_)
  exact thn hA fun us s2 ⟨vs, H2, I2, r2, q2⟩ => hm pins s2 σ H2 x vs v us Q I2 r1 r2 q2
/- xs.append(e), list.index on a module's tuple .. are MtR facts of 06m -/
end
end L2

namespace L2
open PySem PySem.Spec PyProof.Rows

def MtM (X : Cx) (id : String) (r : V → List V → Hp → VK → Prop) : Prop :=
  ∀ (pins : List (Addr × Obj)) (s : Shared) (σ : St) (H : Hp) (x : V) (xs : List V) (v : Value) (us : List Value) (Q : VK), Inv X pins σ H s → RelV x v → Vals xs us → r x xs H Q →
    wpAny (model X.prog X.w) X.A (call (.builtin id) (v :: us)) (EP X pins σ Q) X.xe s

theorem Vals.one : ∀ {x : V} {us : List Value}, Vals [x] us → ∃ u, us = [u] ∧ RelV x u
  | _, _, .cons r .nil => ⟨_, rfl, r⟩
theorem Vals.two : ∀ {x y : V} {us : List Value}, Vals [x, y] us → ∃ u v, us = [u, v] ∧ RelV x u ∧ RelV y v
  | _, _, _, .cons r (.cons q .nil) => ⟨_, _, rfl, r, q⟩
theorem Vals.zero : ∀ {us : List Value}, Vals [] us → us = []
  | _, .nil => rfl
theorem Vals.reverse {xs : List V} {us : List Value} (h : Vals xs us) : Vals xs.reverse us.reverse := by
  induction h with
  | nil => exact .nil
  | cons r t ih => rw [List.reverse_cons, List.reverse_cons]; exact Vals.append ih (.cons r .nil)
section
variable {X : Cx} {pins : List (Addr × Obj)} {σ : St} {H : Hp} {s : Shared} {l b : Addr} {xs ys zs : List V}

theorem Inv.lset {its its' : List Value} {n : Nat} {f : Array Value → Array Value} {t' : Nat} (I : Inv X pins σ H s) (hH : H l = some (.lst xs))
    (e : s.heap.get? l = some { cls := .type "list", data := .seq its.toArray n }) (hf : f its.toArray = its'.toArray) (hv : Vals ys its') (hz : ys.length ≤ sizeLine) :
    Inv X pins σ (upd H l (.lst ys)) { s with heap := s.heap.update l (Obj.mapSeq f), toks := t' } := by
  have q := PySem.IsL.update e f
  rw [hf] at q
  refine I.write (x := l) (e := l) (by rw [hH]; exact trivial) (.inl rfl) (fun b' u hb hu => (Heap.get?_update_other s.heap (Obj.mapSeq f) (Ne.symm hb)).trans hu) ⟨_, q⟩ ?_
  exact ⟨hz, its', _, hv, q⟩
theorem Inv.lnew {its : List Value} {t' : Nat} (I : Inv X pins σ H s) (hv : Vals ys its) (hz : ys.length ≤ sizeLine) :
    Inv X pins σ (upd H s.heap.objs.size (.lst ys)) { s with heap := s.heap.push { cls := .type "list", data := .seq its.toArray }, toks := t' } :=
  I.laid (fun _ _ q => Heap.get?_push_of_some _ q) (Nat.le_refl _) ⟨hz, its, 0, hv, Heap.get?_push_size _ rfl⟩
theorem Inv.fresh (I : Inv X pins σ H s) : H s.heap.objs.size = none := I.hok.fresh (Nat.le_refl _)
theorem Inv.lstM (I : Inv X pins σ H s) (hH : H l = some (.lst xs)) : xs.length ≤ sizeLine ∧ ∃ (its : List Value) (n : Nat), Vals xs its ∧ xs.length = its.length ∧ s.heap.get? l = some { cls := .type "list", data := .seq its.toArray n } := by
  obtain ⟨z, its, n, r, e⟩ := I.hok l _ hH
  exact ⟨z, its, n, r, r.length, e⟩

end

section
variable {X : Cx}

def rAppend : V → List V → Hp → VK → Prop := fun x vs H Q => ∃ l xs y, x = .ref l ∧ vs = [y] ∧ H l = some (.lst xs) ∧ xs.length < sizeLine ∧ Q .non (upd H l (.lst (xs ++ [y])))
theorem mt_append : MtM X "list.append" rAppend := by
  intro pins s σ H x vs v us Q I rx rv h
  obtain ⟨l, xs, y, rfl, rfl, hH, hz, q⟩ := h
  cases rx
  obtain ⟨u, rfl, ru⟩ := rv.one
  obtain ⟨z, its, n, r, hl, e⟩ := I.lstM hH
  refine call_meets F.slot_list_append ⟨_, e, rfl⟩ F.entry_list_append (F.args_list_append_2 _ _) (PySem.list_append l its.toArray n u (by rw [List.size_toArray]; omega)) ⟨e, ?_⟩
  refine ⟨.non, _, I.lset (its' := its ++ [u]) hH e (by simp) (r.append (.cons ru .nil)) ?_, rfl, q⟩
  rw [List.length_append, List.length_singleton]
  omega

def rCat : R2 := fun x y H Q => ∃ l b xs zs, x = .ref l ∧ y = .ref b ∧ H l = some (.lst xs) ∧ H b = some (.lst zs) ∧ xs.length + zs.length ≤ sizeLine ∧ ∀ p, H p = none → Q (.ref p) (upd H p (.lst (xs ++ zs)))
theorem op_cat : OpR X (binaryOp .Add) rCat := by
  intro pins s σ H x y v u Q I rx ry h
  obtain ⟨l, b, xs, zs, rfl, rfl, hH, hB, hz, q⟩ := h
  cases rx
  cases ry
  obtain ⟨z, its, n, r, hl, e⟩ := I.lstM hH
  obtain ⟨z2, its2, n2, r2, hl2, e2⟩ := I.lstM hB
  refine PySem.P.add_list e e2 ?_ (by rw [List.size_toArray, List.size_toArray]; omega)
  have ea : its.toArray ++ its2.toArray = (its ++ its2).toArray := by simp
  rw [ea]
  exact ⟨.ref _, _, I.lnew (t' := s.toks) (r.append r2) (by rw [List.length_append]; omega), rfl, q _ I.fresh⟩
end

section
variable {prog : Program} {w : World} {A : Around} {E : Value → Shared → Prop} {s : Shared}
end

section
variable {X : Cx}
end
end L2

namespace Att
open PySem PySem.W PySem.Calls PyProof.Rows

theorem ints_of_wellAll {P : Params} {h : Heap} : ∀ (ns : List Int) (vs : List Value), WellAll P h vs (ns.map WData.int) → IntsAre vs ns := by
  intro ns
  induction ns with
  | nil =>
    intro vs w
    rw [List.map_nil] at w
    cases w
    exact .nil
  | cons n ns ih =>
    intro vs w
    rw [List.map_cons] at w
    cases w with
    | cons a b =>
      cases a
      exact .cons _ _ (ih _ b)

theorem script_of {l : OpenLaw} {n : Nat} (hn : l.most = some n) {P : Params} {h : Heap} {args : List WData} {vals : List Value}
    (hpre : l.row.toRowW.claim.pre args = true) (hwl : WellAll P h vals args) :
    ∃ a vs ns, vals = [Value.ref a] ∧ args = [WData.list (ns.map WData.int)] ∧ h.get? a = some { cls := .type "list", data := .seq vs.toArray } ∧ IntsAre vs ns ∧ ns.length ≤ n := by
  have hsh : WShape.hasAll [] args [.list .int] = true := (pre_splitW hpre).1
  have hc : l.pre.holds [] { args := args } = true := (pre_splitW hpre).2
  obtain ⟨d, r, rfl, h1, h2⟩ := hasAllW_cons hsh
  obtain rfl := hasAllW_nil h2
  obtain ⟨xs, rfl, h3⟩ := hasW_list h1
  obtain ⟨ns, rfl⟩ := items_int h3
  have hlen : ns.length ≤ n := by
    unfold OpenLaw.pre at hc
    have h4 : (WTm.not (.lt (.lit (.int (n : Int))) (.len (.arg 0)))).holds [] { args := [.list (ns.map .int)] } = true := by
      have h4 := (holds_andW hc).1
      rw [hn] at h4
      exact h4
    have h5 := condW_of h4 (w_not (w_lt w_lit (w_len_list (w_arg rfl))))
    rw [List.length_map] at h5
    refine Nat.le_of_not_lt fun q => ?_
    have q' : (n : Int) < ((ns.length : Nat) : Int) := by omega
    first
      | (rw [decide_eq_true q'] at h5; exact absurd h5 (by decide))
      | (simp at h5; omega)
  cases hwl with
  | cons w1 w2 =>
    cases w2
    cases w1 with
    | list ho hall => exact ⟨_, _, ns, rfl, rfl, ho, ints_of_wellAll ns _ hall, hlen⟩

theorem post_true (l : OpenLaw) (args : List WData) : l.row.toRowW.claim.post args (.bool true) args = true :=
  postW_of (r := l.row.toRowW) (X := (true == true))
    (show WShape.has [] (.bool true) .bool = true by first | rfl | decide | simp [WShape.has, WShape.arms, WShape.armsAll])
    (show (WTm.eq .res (.lit (.bool true))).value [] { args := args, res := some (.bool true), after := args } = some (.bool (true == true)) from w_eq_bool (w_res rfl) w_lit) rfl

theorem attach_call {l : OpenLaw} {n : Nat} {q : Program} {loose : List Str} {XP : (Str → Option Value) → Heap → Prop} {YP : World → Heap → Prop} {d : DefRec}
    (hn : l.most = some n) (hdf : d.params.defaults = [])
    (call : ∀ (w : World) (s₀ s₁ : Shared) (mg mb : Str → Option Value) (fa : Addr) (o : Obj) (pm cd doc : Value) (a : Addr) (vs : List Value) (ns : List Int),
      Ground q loose [] XP w s₀ mg mb s₁.heap → YP w s₁.heap →
      s₁.heap.get? fa = some o → o.data = .func (docDef d.name d.params d.body d.scope pm cd doc) → s₁.heap.CodeRec cd d.name → mg d.name = some (.ref fa) →
      s₁.heap.get? a = some { cls := .type "list", data := .seq vs.toArray } → IntsAre vs ns → ns.length ≤ n → s₁.gens = #[] →
      codeAny (model l.prog w) callerA (.call (.ref fa) ⟨[.ref a], []⟩) (fun r s' => r = .ok (.ret (.bool true)) ∧ OldK s₁.heap s'.heap ∧ s'.os = s₁.os ∧ AllBare s'.gens) s₁) :
    WalkO q loose XP YP l.row.toRowW d [] (fun f vs => PySem.call f vs) := by
  intro w s₀ s₁ mg mb G Y fa o pm cd doc dV kV ho hd hcd hD hmg hg args vals as hpre hlay hrd hwl hlo
  obtain rfl : dV = .none := Dflts.none hD hdf
  obtain rfl : kV = .none := Dflts.noKw hD
  obtain ⟨a, vs, ns, rfl, rfl, hobj, hints, hlen⟩ := script_of hn hpre hwl
  refine enter_call (codeAny_mono (call w s₀ s₁ mg mb fa o pm cd doc a vs ns G Y ho (fd_plain hd) hcd hmg hobj hints hlen hg) fun r s' hq => ?_)
  obtain ⟨rfl, h2, h3, h4⟩ := hq
  exact ⟨.inl ⟨.bool true, .bool true, [], rfl, fun _ => rfl, .bool true, post_true l _, fun _ => ⟨List.Pairwise.nil, fun _ hm => (nomatch hm)⟩⟩, h2, h3, h4⟩

section
variable {prog : Program} {w : World} {A : Around} {E : Value → Shared → Prop} {s : Shared} {K : Frag}

end
end Att

namespace L2
open PySem PySem.Spec PyProof.Rows

theorem vals_ints : ∀ {vs : List Value} {ns : List Int}, IntsAre vs ns → Vals (ns.map V.int) vs
  | _, _, .nil => .nil
  | _, _, .cons n t h => .cons ⟨t, rfl⟩ (vals_ints h)

def Only (H : Hp) : Prop := ∀ b, H b = none ∨ ∃ o xs, H b = some (.frz o (.lst xs))

theorem law_call {P : Program} {w : World} {K : PySem.W.Frag} {mg mb : Str → Option Value} {CX : CXT} {k : Nat} {fa a : Addr} {fd : FuncData} {x : Str} {sp : Sp} {s₁ : Shared} {vs : List Value} {ns : List Int}
    (KX : K.In s₁.heap) (hns : s₁.heap.Ns mainGlobals mg) (hb : s₁.heap.Ns builtinsNs mb) (hbb : ∀ x : Str, x ≠ "__name__" → mb x = bootBuiltins x) (hlim : s₁.heap.NoLimit) (hg : s₁.gens = #[])
    (ha : s₁.heap.get? a = some { cls := .type "list", data := .seq vs.toArray }) (hi : IntsAre vs ns) (hl : ns.length ≤ sizeLine) (hr : Room k callerA)
    (F : ∀ base : Heap, K.In base → base.Ns mainGlobals mg → FnOk P w K mg base CX k fa fd [x] sp) (hbind : ∀ (s : Shared) (u : Value), BindsTo s fd ⟨[u], []⟩ [(x, u)])
    (hsp : ∀ H : Hp, Only H → SqL K H a (ns.map V.int) → sp [.ref a] H (fun v _ => v = .bl true) fun _ _ _ => False)
    (hCX : ∀ H e s', CX [] H s₁ (fun _ _ _ => False) e s' → False) :
    codeAny (model P w) callerA (.call (.ref fa) ⟨[.ref a], []⟩) (fun r s' => r = .ok (.ret (.bool true)) ∧ OldK s₁.heap s'.heap ∧ s'.os = s₁.os ∧ AllBare s'.gens) s₁ := by
  have rv := vals_ints hi
  have lenV := hi.length
  -- from an abstract heap in which nothing but the script may be tracked
  have core : ∀ H : Hp, Only H → SqL K H a (ns.map V.int) → HOk P w H s₁.heap → (∀ b, H b ≠ none → b = a) → (H a ≠ none → K.lookup a = none) →
      codeAny (model P w) callerA (.call (.ref fa) ⟨[.ref a], []⟩) (fun r s' => r = .ok (.ret (.bool true)) ∧ OldK s₁.heap s'.heap ∧ s'.os = s₁.os ∧ AllBare s'.gens) s₁ := by
    intro H hO hS hok hA hK
    have base_of : ∀ {b : Addr} {o : Obj}, s₁.heap.get? b = some o → H b = none → (hidT s₁.heap H).get? b = some o := fun e n => hidT_get e n
    have noA : ∀ {b : Addr} {o : Obj} {es : Array DictEntry} {ep : Nat}, s₁.heap.get? b = some o → o.data = .dict es ep → H b = none := fun {b o es ep} e d => by
      cases q : H b with
      | none => rfl
      | some u =>
        have e' : b = a := hA b (by rw [q]; simp)
        subst e'
        rw [ha] at e; cases e
        have d' : Data.seq vs.toArray _ = Data.dict es ep := d
        cases d'
    have nsK : ∀ {b : Addr} {m : Str → Option Value}, s₁.heap.Ns b m → (hidT s₁.heap H).Ns b m := fun {b m} ⟨o, es, ep, e, d, r⟩ => ⟨o, es, ep, base_of e (noA e d), d, r⟩
    have hKb : K.In (hidT s₁.heap H) := fun b o e => base_of (KX b o e) (by
      cases q : H b with
      | none => rfl
      | some u =>
        have e' : b = a := hA b (by rw [q]; simp)
        subst e'
        rw [hK (by rw [q]; simp)] at e; cases e)
    have hM : Mod K mg (hidT s₁.heap H) := ⟨hKb, nsK hns, ⟨mb, nsK hb, hbb⟩, let ⟨mc, h1, h2⟩ := hlim; ⟨mc, nsK h1, h2⟩⟩
    have e0 : Env0 P w K mg (hidT s₁.heap H) callerA [] s₁ H := ⟨rfl, hM, fun b o e => of_hidT e, Nat.le_of_eq (hidT_size _ _), trivial, fun b hb => absurd (show b ∈ ([] : List Addr) from hb) (by simp), hok, .of_eq hg⟩
    refine codeAny_mono ((F _ hKb (nsK hns)).run callerA [] s₁ H ⟨[.ref a], []⟩ [.ref a] [.ref a] _ _ hr e0 (hbind s₁ (.ref a)) (.cons rfl .nil) (hsp H hO hS)) fun r s' h => ?_
    cases r with
    | error e => exact (hCX H e s' h).elim
    | ok fl =>
      cases fl with
      | next => exact False.elim h
      | brk => exact False.elim h
      | cont => exact False.elim h
      | ret u =>
        obtain ⟨v, H', os, bare, un, hok', r', q⟩ := h
        have q' : v = .bl true := q
        subst q'
        obtain rfl : u = Value.bool true := r'
        refine ⟨rfl, OldK.of_keep fun b o e => ?_, os, bare⟩
        cases q : H b with
        | none => exact un.keep b o e q (by intro z; exact absurd (show b ∈ ([] : List Addr) from z) (by simp)) (by simp)
        | some u =>
          rcases hO b with z | ⟨ob, xs, z⟩
          · rw [q] at z; cases z
          · have z2 := un.frzs b ob _ z
            obtain ⟨e1, _⟩ := hok b _ z
            obtain ⟨e2, _⟩ := hok' b _ z2
            rw [e] at e1; cases e1
            exact e2
  cases hk : K.lookup a with
  | some o =>
    -- the script is one of the module's own objects
    have e := KX a o hk
    rw [ha] at e
    cases e
    refine core (fun _ => none) (fun _ => .inl rfl) (.inr ⟨_, vs.toArray, _, hk, rfl, rfl, rfl, by rw [List.size_toArray, lenV]; exact hl, by simpa using rv⟩) (fun b u z => by have z' : (none : Option HO) = some u := z; cases z') (fun b z => absurd rfl z) fun z => absurd rfl z
  | none =>
    refine core (fun b => if b = a then some (.frz { cls := .type "list", data := .seq vs.toArray } (.lst (ns.map V.int))) else none) (fun b => ?_) (.inl (.inr ⟨{ cls := .type "list", data := .seq vs.toArray }, if_pos rfl⟩)) (fun b u z => ?_) (fun b z => ?_) fun _ => hk
    · by_cases hb : b = a
      · exact .inr ⟨_, _, if_pos hb⟩
      · exact .inl (if_neg hb)
    · by_cases hb : b = a
      · have z' := (if_pos hb).symm.trans z
        cases z'
        subst hb
        exact ⟨ha, by rw [List.length_map]; exact hl, vs, _, rv, ha⟩
      · have z' := (if_neg hb).symm.trans z
        cases z'
    · by_cases hb : b = a
      · exact hb
      · exact absurd (if_neg hb) z
end L2

namespace L2
open PySem PySem.Spec PyProof.Rows

abbrev KOf {K : PySem.W.Frag} {h : Heap} (_ : K.In h) : PySem.W.Frag := K

theorem walk_of {l : PySem.W.OpenLaw} {n k : Nat} {q : Program} {loose : List Str} {XP : (Str → Option Value) → Heap → Prop} {YP : World → Heap → Prop} {d : DefRec} {K : Params → PySem.W.Frag} {CX : World → CXT} {sp : World → Sp} {x : Str}
    (hn : l.most = some n) (hn2 : n ≤ sizeLine) (hdf : d.params.defaults = []) (hr : Room k callerA)
    (hY : ∀ (w : World) (h : Heap), YP w h → (K w.params).In h)
    (F : ∀ (w : World) (mg : Str → Option Value) (fa : Addr) (h : Heap), (K w.params).In h → h.Ns mainGlobals mg → mg d.name = some (.ref fa) →
      ∃ fd : FuncData, (∀ (s : Shared) (u : Value), BindsTo s fd ⟨[u], []⟩ [(x, u)]) ∧
        ∀ base : Heap, (K w.params).In base → base.Ns mainGlobals mg → FnOk l.prog w (K w.params) mg base (CX w) k fa fd [x] (sp w))
    (hsp : ∀ (w : World) (H : Hp) (a : Addr) (ns : List Int), ns.length ≤ n → Only H → SqL (K w.params) H a (ns.map V.int) → sp w [.ref a] H (fun v _ => v = .bl true) fun _ _ _ => False)
    (hCX : ∀ (w : World) (H : Hp) (s : Shared) (e : Value) (s' : Shared), CX w [] H s (fun _ _ _ => False) e s' → False) :
    PySem.W.WalkO q loose XP YP l.row.toRowW d [] (fun f vs => PySem.call f vs) := by
  refine Att.attach_call hn hdf fun w s₀ s₁ mg mb fa o pm cd doc a vs ns G Y ho hd hcd hmg hobj hints hlen hg => ?_
  have KX := hY w _ Y
  obtain ⟨fd, hb, hF⟩ := F w mg fa _ KX G.T.g hmg
  exact law_call KX G.T.g G.T.b G.T.builtins G.T.nolimit hg hobj hints (Nat.le_trans hlen hn2) hr hF hb (fun H hO hS => hsp w H a ns hlen hO hS) fun H e s' => hCX w H s₁ e s'
end L2

/- THE LAST THEOREM (shape; LID, My.* are yours):
   My.Adr: a structure of the addresses that your layer names (classes, functions); My.Txt K t: a structure (Prop) of the equations over K;
   My.txt_mk : {K} {implicit addresses ..} (e1 : nsIn K mainGlobals "law" = some (some (.ref f))) (e2 : K.lookup f = some ⟨oc, od, .func (fnOf "law" "law" params body scope dV kV doc pm an cdv ct), sl⟩) (e3 : codeIn K cdv "law" = true) .. : ∃ t, My.Txt K t

set_option maxRecDepth 100000 in
set_option maxHeartbeats 0 in
theorem PySem.Challenge.cw_LID_holds : PySem.Challenge.rw_LID.Holds := by
  w_on; o_law; k_head; (case hw => w_witness2)
  k_fill
  refine L2.walk_of (l := PySem.Challenge.rw_LID) (n := 63) (k := 40) (x := "script") (CX := fun w => ..) (sp := fun _ => My.sp_law) rfl (by decide) rfl ⟨rfl, by decide, by decide⟩ (fun w h Y => PySem.W.kIn_of Y) ?F ?S ?C
  case F =>
    intro w mg fa h KX G hmg
    have T : ∃ t, My.Txt (L2.KOf KX) t := by
      dsimp only [L2.KOf]                          -- K must stand as «<heap const> w.params» for k_is
      refine' My.txt_mk ?e1 ?e2 ?e3 ..
      (case e1 => PySem.W.k_is)                    -- in the order: a name -> its address -> its object -> its parts
      (case e2 => PySem.W.k_is)
      ..
    obtain ⟨t, T⟩ := T
    have e0 := hmg.symm.trans (PySem.W.mg_of KX G T.law)
    cases e0                                       -- fa is the law's own address
    exact ⟨_, fun s u => .of_eq rfl, fun base kb nb => My.law_fn T kb nb⟩     -- if «.of_eq rfl» comes too early: refine' ⟨_, ?b, fun base kb nb => My.law_fn T kb nb⟩; exact fun s u => .of_eq rfl
  case S => exact fun w H a ns hl hO hS => ..
  case C => exact ..
(the tactic k_is has no namespace: write k_is) -/

namespace L2
open PySem PySem.Spec PyProof.Rows

def defArgs (s : Stmt) : Arguments := match s with
  | .FunctionDef _ a _ _ _ _ _ _ _ _ => a
  | _ => { posonlyargs := [], args := [], vararg := none, kwonlyargs := [], kw_defaults := [], kwarg := none, defaults := [] }
def defBody (s : Stmt) : List Stmt := match s with
  | .FunctionDef _ _ b _ _ _ _ _ _ _ => b
  | _ => []
def defScope (s : Stmt) : Scope := match s with
  | .FunctionDef _ _ _ _ _ _ sc _ _ _ => sc
  | _ => { kind := .function, names := [], isGenerator := false, isCoroutine := false }

abbrev CX0 : CXT := fun _ _ _ _ _ _ => False
abbrev E0 : XK := fun _ _ _ => False
theorem pass0 {X : Cx} : Passes CX0 X E0 := fun _ _ _ _ _ _ _ h => h.elim

structure Fun (K : PySem.W.Frag) (x qual : Str) (st : Stmt) (f : Addr) (fd : FuncData) : Prop where
  ex : ∃ (oc : Value) (od : Option Addr) (kV doc pm : Value) (an : Option Addr) (cdv ct : Value) (osl : Array (Option Value)),
    fd = PySem.W.fnOf x qual (defArgs st) (defBody st) (defScope st) .none kV doc pm an cdv ct ∧ K.lookup f = some ⟨oc, od, .func fd, osl⟩ ∧ PySem.W.codeIn K cdv qual = true
  kp : PySem.W.keepIn K (.ref f) = true
section
variable {P : Program} {w : World} {K : PySem.W.Frag} {mg : Str → Option Value} {base : Heap}
theorem Fun.ok {x qual : Str} {st : Stmt} {f : Addr} {fd : FuncData} {N ps : List Str} {k : Nat} {sp : Sp} (F : Fun K x qual st f fd) (S : FnScope N ps (defScope st)) (len : ∀ vs H Q E, sp vs H Q E → vs.length = ps.length)
    (hbody : ∀ (cdv : Value) (A : Around) (outer : List Env) (s : Shared) (H : Hp) (vs : List V) (Q : VK) (E : XK), Room k (A.deeper (envOfC qual (defScope st) s.heap.objs.size f cdv)) → sp vs H Q E →
      ∃ t, PSs (cxOf CX0 P w K mg base N qual (defScope st) f cdv A outer s H E).nox (defBody st) t ∧ t { nx := fun _ H' => Q .non H', rt := Q } (start N vs) H) : FnOk P w K mg base CX0 (k + 1) f fd ps sp := by
  obtain ⟨oc, od, kV, doc, pm, an, cdv, ct, osl, rfl, lk, hcd⟩ := F.ex
  refine fn_of lk hcd S len fun A outer s H vs Q E hr hsp => ?_
  obtain ⟨t, h, q⟩ := hbody cdv A outer s H vs Q E hr hsp
  exact ⟨t, h.nox, q⟩
theorem Fun.binds {x qual : Str} {st : Stmt} {f : Addr} {fd : FuncData} {ps : List Str} (F : Fun K x qual st f fd)
    (h : ∀ (kV doc pm : Value) (an : Option Addr) (cdv ct : Value) (us : List Value), us.length = ps.length → bindArgs (PySem.W.fnOf x qual (defArgs st) (defBody st) (defScope st) .none kV doc pm an cdv ct) ⟨us, []⟩ = pure (ps.zip us)) : Binds K fd ps [] := by
  obtain ⟨oc, od, kV, doc, pm, an, cdv, ct, osl, rfl, lk, hcd⟩ := F.ex
  exact .all (h kV doc pm an cdv ct)
theorem fun_mk {x qual : Str} {st : Stmt} {f : Addr} {oc : Value} {od an : Option Addr} {osl : Array (Option Value)} {kV doc pm cdv ct : Value} (l : K.lookup f = some ⟨oc, od, .func (PySem.W.fnOf x qual (defArgs st) (defBody st) (defScope st) .none kV doc pm an cdv ct), osl⟩)
    (c : PySem.W.codeIn K cdv qual = true) (k : PySem.W.keepIn K (.ref f) = true) : Fun K x qual st f (PySem.W.fnOf x qual (defArgs st) (defBody st) (defScope st) .none kV doc pm an cdv ct) := ⟨⟨oc, od, kV, doc, pm, an, cdv, ct, osl, rfl, l, c⟩, k⟩
end
theorem small1000 {n : Nat} (h : n ≤ 1000) : n < sizeLine := Nat.lt_of_le_of_lt h (by decide)

section
variable {X : Cx}
theorem pv (i : Nat) {x : Str} {pos : Pos} (hN : X.N[i]? = some x := by rfl) (hv : Vis X.env.scope x := by first | exact Or.inl rfl | exact Or.inr (Or.inl rfl) | exact Or.inr (Or.inr rfl)) (hd : (x == ("__debug__" : Str)) = false := by decide)
    (hcd : (x == ("__classdict__" : Str)) = false := by decide) : PE X (.Name x pos) (tVar i) := pe_var hN hv hd hcd
end

theorem iteF {A B : Prop} (h : B) : if false = true then A else B := by
  rw [if_neg Bool.false_ne_true]
  exact h
theorem iteT {A B : Prop} (h : A) : if true = true then A else B := by
  rw [if_pos rfl]
  exact h
theorem ite2 {c A B : Prop} [Decidable c] (h1 : c → A) (h2 : ¬ c → B) : if c then A else B := by
  by_cases h : c
  · rw [if_pos h]
    exact h1 h
  · rw [if_neg h]
    exact h2 h
def Same (H H' : Hp) : Prop := ∀ b o, H b = some o → H' b = some o
theorem Same.refl (H : Hp) : Same H H := fun _ _ h => h
theorem Same.trans {H H1 H2 : Hp} (a : Same H H1) (b : Same H1 H2) : Same H H2 := fun c o h => b c o (a c o h)
theorem Same.free {H H' : Hp} (e : Same H H') {l : Addr} (h : H' l = Option.none) : H l = Option.none := by
  cases q : H l with
  | none => rfl
  | some o =>
    rw [e l o q] at h
    cases h
theorem Same.seq {K : PySem.W.Frag} {H H' : Hp} {a : Addr} {xs : List V} (e : Same H H') (h : SqL K H a xs) : SqL K H' a xs := by
  rcases h with (h | ⟨o, h⟩) | h
  · exact .inl (.inl (e _ _ h))
  · exact .inl (.inr ⟨o, e _ _ h⟩)
  · exact .inr h

end L2
set_option Elab.async false
set_option linter.all false
set_option maxRecDepth 100000
namespace L2
open PySem PySem.Spec PyProof.Rows

section
variable {prog : Program} {w : World} {A : Around} {R : Result → Shared → Prop} {s : Shared}
theorem compLoop_any {elt target iter : Expr} {ifs : List Expr} {scope : Scope} {pos : Pos} {it acc : Value} {env : Env} (I : Nat → Shared → Prop)
    (turn : ∀ n s, I n s → wpAny (model prog w) A (pyNext it) (fun r s₁ => match r with
      | none => R (.ok .next) s₁
      | some v => wpAny (model prog w) A (letOwnedTupleGo target it v) (fun _ s₀ => wpAny (model prog w) A (assign target env v) (fun _ s₂ =>
          wpAny (model prog w) A (forIn ifs true fun c r => if r = true then do let ok ← isTrue c env (eval c env); pure (ForInStep.yield ok) else pure (ForInStep.yield r)) (fun ok s₃ =>
            if ok = true then wpAny (model prog w) A (eval elt env) (fun x s₄ =>
              wpAny (model prog w) A (call (.builtin "list.append") [acc, x]) (fun _ s₅ => ∃ m, m < n ∧ I m s₅) (fun _ _ => False) s₄) (fun _ _ => False) s₃
            else ∃ m, m < n ∧ I m s₃) (fun _ _ => False) s₂) (fun _ _ => False) s₀) (fun _ _ => False) s₁) (fun _ _ => False) s)
    (n : Nat) (h : I n s) :
    codeAny (model prog w) A (.compLoop (.ListComp elt [⟨target, iter, ifs, 0⟩] scope pos) 0 it acc env) R s := by
  refine codeAny_loop rfl I (fun n s hI => ?_) n h
  show wpAny _ A ((compTurn (.ListComp elt [⟨target, iter, ifs, 0⟩] scope pos) 0 it acc env).onRaise (fun x => do noteFrame x env; theTreesLotGoes x)) _ _ s
  refine wpAny_noted ?_
  rw [compTurn_list]
  have no : ∀ {X : Prop}, ∀ (e : Value) (s' : Shared), (fun _ _ => False : Value → Shared → Prop) e s' → X := fun _ _ z => False.elim z
  refine wpAny_bind (wpAny_standAt (wpAny_bind (wpAny_mono (turn n s hI) (fun r s₁ h₁ => ?_) fun e s' => no e s')))
  cases r with
  | none => exact wpAny_pure h₁
  | some v =>
    refine wpAny_bind (wpAny_mono h₁ (fun _ s₀ h₀ => ?_) fun e s' => no e s')
    refine wpAny_bind (wpAny_mono h₀ (fun _ s₂ h₂ => wpAny_bind (wpAny_mono h₂ (fun ok s₃ h₃ => ?_) fun e s' => no e s')) fun e s' => no e s')
    cases ok with
    | false => exact wpAny_pure ⟨rfl, h₃⟩
    | true =>
      exact wpAny_bind (wpAny_bind (wpAny_mono h₃ (fun x s₄ h₄ => wpAny_bind (wpAny_mono h₄ (fun _ s₅ h₅ => wpAny_pure (wpAny_pure ⟨rfl, h₅⟩)) fun e s' => no e s')) fun e s' => no e s'))
end

def cxComp (X : Cx) (NB : List Str) (scope : Scope) (s3 : Shared) (H3 : Hp) (fp : List Addr) : Cx :=
  { X with N := NB, s₀ := s3, H₀ := H3, env := compEnv scope s3.heap.objs.size X.env, outer := X.stack, stack := X.stack, ex := fp, fn := fun _ => true, pn := [], xe := fun _ _ => False }

def PTs (X : Cx) (ifs : List Expr) (t : TT) : Prop :=
  ∀ (pins : List (Addr × Obj)) (s : Shared) (σ : St) (H : Hp) (Q : Bool → Hp → Prop), Inv X pins σ H s → t σ H Q →
    wpAny (model X.prog X.w) X.A (forIn ifs true fun c r => if r = true then do let ok ← isTrue c X.env (eval c X.env); pure (ForInStep.yield ok) else pure (ForInStep.yield r)) (TP X pins σ Q) X.xe s
theorem pts_nil {X : Cx} : PTs X [] (fun _ H Q => Q true H) := fun _ _ _ H _ I h => wpAny_tests_nil ⟨H, I, h⟩
def tComp (n : Nat) (wi : TI) (g : TG) (tt : TT) (te : TE) : TE := fun σ H Q => wi σ H fun J H1 => ∀ D, H1 D = none → ∃ W : Nat → Nat → Hp → List V → Prop, (∃ m, W 0 m (upd H1 D (.lst [])) []) ∧
  ∀ i m H2 ys, W i m H2 ys → H2 D = some (.lst ys) → (J.stop i H2 ∧ Q (.ref D) H2) ∨
    (J.go i H2 ∧ ∀ σB x H3, σB.length = n → J.yld i H2 x H3 → g x σB H3 fun σ4 H4 => tt σ4 H4 fun b H5 => if b = true then te σ4 H5 (fun v H6 => H6 D = some (.lst ys) ∧ ys.length < sizeLine ∧ ∃ m', m' < m ∧ W (i + 1) m' (upd H6 D (.lst (ys ++ [v]))) (ys ++ [v]))
      else H5 D = some (.lst ys) ∧ ∃ m', m' < m ∧ W (i + 1) m' H5 ys)


theorem pe_comp {X : Cx} {elt tg iter : Expr} {ifs : List Expr} {scope : Scope} {pos : Pos} {NB : List Str} {wi : TI} {g : TG} {tt : TT} {te : TE}
    (hc : X.calm = true) (hfree : ∀ x ∈ scope.names, x.2 ≠ .free) (hcell : ∀ x ∈ scope.names, x.2 ≠ .cell) (hkind : scope.kind = .function) (hnames : ∀ x ∈ scope.names, x.2 = .local → scope.names.lookup x.1 = some .local)
    (hi : PI X tg iter wi) (hb : ∀ s3 H3 fp, PG (cxComp X NB scope s3 H3 fp) tg g ∧ PTs (cxComp X NB scope s3 H3 fp) ifs tt ∧ PE (cxComp X NB scope s3 H3 fp) elt te)
    (hs : ∀ x, foldedSetIterable iter X.env x = pure x := by intro _; rfl) :
    PE X (.ListComp elt [⟨tg, iter, ifs, 0⟩] scope pos) (tComp NB.length wi g tt te) := by
  intro pins s σ H Q I h
  refine wpAny_ListComp hfree hkind hnames (thn (hi pins s σ H _ I h) fun v s1 h1 => thn h1 fun itv s2 h2 => ?_) hs
  obtain ⟨it, fp, tn, J, H2, e, I2, T, st2, f2, q2⟩ := h2
  subst e
  have hf2 : H2 s2.heap.objs.size = none := I2.hok.fresh (Nat.le_refl _)
  obtain ⟨W, ⟨m0, w0⟩, turn⟩ := q2 _ hf2
  refine wpAny_newObj_type (hd := by size_fits) ?_
  have I3 : Inv X pins σ (upd H2 s2.heap.objs.size (.lst [])) { s2 with heap := s2.heap.push { cls := .type "list", dict := none, data := .seq ([] : List Value).toArray } } :=
    I2.laid (t' := s2.toks) (fun b u e => Heap.get?_push_of_some _ e) (Nat.le_refl _) ⟨by decide, [], 0, .nil, Heap.get?_push_size _ rfl⟩
  generalize hD : s2.heap.objs.size = D at *
  generalize hs3 : ({ s2 with heap := s2.heap.push { cls := .type "list", dict := none, data := .seq ([] : List Value).toArray } } : Shared) = s3 at *
  generalize hH3 : upd H2 D (.lst []) = H3 at *
  have h3D : H3 D = some (.lst []) := by rw [← hH3]; exact upd_same
  have fpD : ∀ b ∈ fp, b ≠ D := fun b hb => by
    obtain ⟨o, e, _⟩ := T.obj _ _ st2 b hb
    rw [← hD]; exact Nat.ne_of_lt (Heap.lt_size e)
  have k23 : ∀ b u, s2.heap.get? b = some u → s3.heap.get? b = some u := fun b u e => by rw [← hs3]; exact Heap.get?_push_of_some _ e
  have st3 : tn 0 s3.heap := T.keep _ _ _ st2 fun b _ o e => k23 b o e
  have f3 : ∀ b ∈ fp, FpOk X pins H3 b := fun b hb => ⟨by rw [← hH3, upd_ne (fpD b hb)]; exact (f2 b hb).1, (f2 b hb).2⟩
  refine wpAny_newFunctionEnv hcell (by intro y hy; simp at hy) (fun h4 hns4 hsb4 => ?_) hkind
  have k34 : ∀ b u, s3.heap.get? b = some u → h4.get? b = some u := fun b u e => hsb4.extBut b u (Nat.ne_of_lt (Heap.lt_size e)) (Heap.get?_push_of_some _ e)
  have okB : (cxComp X NB scope s3 H3 fp).Ok := by
    refine ⟨I3.ok.mod, hkind, I3.ok.glob, I3.ok.blt, Nat.le_refl _, fun x y c e _ => ?_, fun x e => ?_, fun x c _ e => ?_, I3.ok.hd, I3.ok.frames, .inl rfl, fun b hb => ⟨?_, fun x c e => ?_⟩, I3.bs, Nat.le_trans I3.ok.bsz I3.sz, fun b o e hb => ?_, fun b hb z => ?_, I3.stack, I3.stkFree⟩
    · exact absurd (show ([] : List (Str × Addr)).lookup x = some c from e) (by simp)
    · have e' : scope.names.lookup x = some .cell ∨ scope.names.lookup x = some .free := e
      rcases e' with e' | e'
      · exact absurd rfl (hcell _ (PySem.mem_of_lookup e'))
      · exact absurd rfl (hfree _ (PySem.mem_of_lookup e'))
    · exact absurd (show ([] : List (Str × Addr)).lookup x = some c from e) (by simp)
    · obtain ⟨o, e, _⟩ := T.obj _ _ st3 b hb
      exact Nat.ne_of_lt (Heap.lt_size e)
    · exact absurd (show ([] : List (Str × Addr)).lookup x = some c from e) (by simp)
    · obtain ⟨_, _, _, z, _⟩ := f3 b hb
      rcases z with z | z
      · exact I3.ok.noex b o e z
      · exact absurd (Nat.lt_of_lt_of_le (Heap.lt_size e) (Nat.le_trans I3.ok.bsz z)) (Nat.lt_irrefl _)
    · obtain ⟨_, z1, z2, _⟩ := f3 b hb
      rcases List.mem_cons.mp (I3.stkSub b z) with e | e
      · exact z1 e
      · exact z2 e
  have IB : Inv (cxComp X NB scope s3 H3 fp) [] (List.replicate NB.length none) H3 { s3 with heap := h4, toks := s3.toks + ([] : List (Str × Value)).length } := by
    refine ⟨okB, rfl, I3.bare, Un.kept k34, ⟨_, hns4, fun i x v _ e _ => ?_⟩, fun x c e => ?_, I3.hok.fresh (Nat.le_refl _), fun x c e => ?_, fun p hp => ?_, I3.hok.kept k34, by simp [cxComp]⟩
    · rw [List.getElem?_replicate] at e
      split at e <;> cases e
    · exact absurd (show ([] : List (Str × Addr)).lookup x = some c from e) (by simp)
    · exact absurd (show ([] : List (Str × Addr)).lookup x = some c from e) (by simp)
    · exact absurd (show p ∈ ([] : List (Addr × Obj)) from hp) (by simp)
  have st4 : tn 0 h4 := T.keep _ _ _ st3 fun b _ o e => k34 b o e
  have C_ne : ∀ b ∈ fp, b ≠ s3.heap.objs.size := fun b hb => (okB.exf b hb).1
  -- what stays true of the iterator's objects
  have stat : ∀ {H' : Hp}, (∀ b ∈ fp, H' b = none) → ∀ b ∈ fp, FpOk (cxComp X NB scope s3 H3 fp) [] H' b := fun hn b hb =>
    ⟨hn b hb, C_ne b hb, okB.exfs b hb, .inl hb, fun x c e => absurd (show ([] : List (Str × Addr)).lookup x = some c from e) (by simp), fun p hp => absurd (show p ∈ ([] : List (Addr × Obj)) from hp) (by simp)⟩
  obtain ⟨hg, ht, he⟩ := hb s3 H3 fp
  have fin : ∀ {σ' : St} {H' : Hp} {s' : Shared}, Inv (cxComp X NB scope s3 H3 fp) [] σ' H' s' → Q (.ref D) H' →
      ∃ m, s'.heap.Ns s3.heap.objs.size m ∧ ∀ h', Heap.SameBut s3.heap.objs.size s'.heap h' → EP X pins σ Q (.ref D) { s' with heap := h' } := fun {σ' H' s'} J q => by
    obtain ⟨m, hm, _⟩ := J.loc
    refine ⟨m, hm, fun h' sb => ⟨.ref D, H', ?_, rfl, q⟩⟩
    have neC : ∀ b o, s3.heap.get? b = some o → b ≠ s3.heap.objs.size := fun b o e => Nat.ne_of_lt (Heap.lt_size e)
    have hfr : H' s3.heap.objs.size = none := J.free
    have up : ∀ b o, b ≠ s3.heap.objs.size → s'.heap.get? b = some o → h'.get? b = some o := fun b o hb e => (sb.2 b hb).trans e
    have hok' : HOk X.prog X.w H' h' := fun b ob e => (J.hok b ob e).stay (fun c w' hc q => up c w' (by
      rintro rfl
      rcases hc with rfl | hc
      · rw [hfr] at e; cases e
      · rw [hfr] at hc; cases hc) q) (fun _ q => q) fun _ _ q => q
    have u : Un (frs X.stack) fp H3 H' s3.heap h' :=
      ⟨fun b o e n hb hx => up b o (neC b o e) (J.base.keep b o e n hb hx), fun b o e n hb hx => by
        obtain ⟨sl, e'⟩ := J.base.slot b o e n hb hx
        exact ⟨sl, up b _ (neC b o e) e'⟩, J.base.free, fun b o e hx => by
        obtain ⟨o', e'⟩ := J.base.there b o e hx
        exact ⟨o', up b _ (neC b o e) e'⟩, J.base.tups, J.base.frzs, J.base.tbls⟩
    refine I3.call' (s' := { s' with heap := h' }) (ch := fp) J.os u hok' J.bare fun b hb => ?_
    obtain ⟨z0, z1, z2, z3, z4, z5⟩ := f3 b hb
    exact ⟨z3, z1, z4, z5⟩
  have loop : ∀ s5 : Shared, s5 = { s3 with heap := h4, toks := s3.toks + ([] : List (Str × Value)).length } →
      codeAny (model X.prog X.w) X.A (.compLoop (.ListComp elt [⟨tg, iter, ifs, 0⟩] scope pos) 0 (.ref it) (.ref D) (compEnv scope s3.heap.objs.size X.env))
        (fun r s' => ∃ m, s'.heap.Ns s3.heap.objs.size m ∧ ∀ h', Heap.SameBut s3.heap.objs.size s'.heap h' →
          match r with | .ok _ => EP X pins σ Q (.ref D) { s' with heap := h' } | .error x => wpAny (model X.prog X.w) X.A (passOn "comprehension.variables-let-go" x (compEnv scope s3.heap.objs.size X.env)) (EP X pins σ Q) X.xe { s' with heap := h' }) s5 := by
    rintro s5 rfl
    refine compLoop_any (fun n s' => ∃ i σ' H' ys, Inv (cxComp X NB scope s3 H3 fp) [] σ' H' s' ∧ tn i s'.heap ∧ (∀ b ∈ fp, H' b = none) ∧ H' D = some (.lst ys) ∧ W i n H' ys) ?_ m0
      ⟨0, _, H3, [], IB, st4, fun b hb => (f3 b hb).1, h3D, by rw [← hH3] at *; exact w0⟩
    rintro n s6 ⟨i, σ6, H6, ys, I6, st6, fr6, hD6, w6⟩
    rcases turn i n H6 ys w6 hD6 with ⟨stop, qn⟩ | ⟨go, step⟩
    · refine thn (T.done (cxComp X NB scope s3 H3 fp) rfl rfl rfl hc i [] s6 σ6 H6 _ I6 (stat fr6) st6 stop) fun r s7 ⟨hr, I7⟩ => ?_
      subst hr
      exact fin I7 qn
    · refine thn (T.item (cxComp X NB scope s3 H3 fp) rfl rfl rfl hc i [] s6 σ6 H6 _ I6 (stat fr6) st6 go) fun r s7 ⟨u, hr, h7⟩ => ?_
      subst hr
      refine thn h7 fun _ s8 ⟨x, H8, I8, r8, y8, st8, fr8⟩ => ?_
      have I8' := I8.pinned (stat fr8) (T.obj _ _ st8)
      have again : ∀ {σ9 : St} {H9 : Hp} {s9 : Shared} {zs : List V} {m' : Nat}, Inv (cxComp X NB scope s3 H3 fp) ([] ++ pinsAt fp s8.heap) σ9 H9 s9 → H9 D = some (.lst zs) → m' < n → W (i + 1) m' H9 zs →
          ∃ m, m < n ∧ ∃ i σ' H' ys, Inv (cxComp X NB scope s3 H3 fp) [] σ' H' s9 ∧ tn i s9.heap ∧ (∀ b ∈ fp, H' b = none) ∧ H' D = some (.lst ys) ∧ W i m H' ys := fun {σ9 H9 s9 zs m'} I9 hz hm w9 => by
        refine ⟨m', hm, i + 1, σ9, H9, zs, I9.unpinned, T.keep _ _ _ st8 fun b hb o e => (I9.pin (b, o) (List.mem_append_right _ (List.mem_append_right _ (mem_pinsAt hb e)))).1, fun b hb => ?_, hz, w9⟩
        obtain ⟨o, e, d⟩ := T.obj _ _ st8 b hb
        exact (I9.pin (b, o) (List.mem_append_right _ (List.mem_append_right _ (mem_pinsAt hb e)))).2.1
      refine thn (hg _ s8 σ6 H8 x u _ I8' r8 (step σ6 x H8 I6.len y8)) fun _ s9 ⟨σ9, H9, I9, q9⟩ => ?_
      refine thn (ht _ s9 σ9 H9 _ I9 q9) fun ok s10 ⟨H10, I10, q10⟩ => ?_
      cases ok with
      | false =>
        rw [if_neg (by decide)] at q10 ⊢
        obtain ⟨hz, m', hm, w'⟩ := q10
        exact again I10 hz hm w'
      | true =>
        rw [if_pos rfl] at q10 ⊢
        refine thn (he _ s10 σ9 H10 _ I10 q10) fun y s11 ⟨v, H11, I11, r11, hz, hlen, m', hm, w'⟩ => ?_
        refine thn (mt_append _ s11 σ9 H11 (.ref D) [v] (.ref D) [y] (fun _ H12 => H12 = upd H11 D (.lst (ys ++ [v]))) I11 rfl (.cons r11 .nil) ⟨D, ys, v, rfl, rfl, hz, hlen, rfl⟩) fun _ s12 ⟨_, H12, I12, _, e12⟩ => ?_
        subst e12
        exact again I12 upd_same hm w'
  exact codeAny_compStart_list (loop _ rfl) (T.self X.A 0 _ _ _ st4 (loop _ rfl))
end L2
set_option Elab.async false
set_option linter.all false
set_option maxRecDepth 100000
namespace L2
open PySem PySem.Spec PyProof.Rows

mutual
inductive RdD (H : Hp) : V → PyData → Prop
  | non : RdD H .non .none
  | bl (b : Bool) : RdD H (.bl b) (.bool b)
  | int (i : Int) : RdD H (.int i) (.int i)
  | str (x : Str) : RdD H (.str x) (.str x)
  | tup {a : Addr} {xs : List V} {ds : List PyData} : H a = some (.tup xs) → RdDs H xs ds → RdD H (.ref a) (.tuple ds)
  | lst {a : Addr} {xs : List V} {ds : List PyData} : H a = some (.lst xs) → RdDs H xs ds → RdD H (.ref a) (.list ds)
inductive RdDs (H : Hp) : List V → List PyData → Prop
  | nil : RdDs H [] []
  | cons {x : V} {d : PyData} {xs : List V} {ds : List PyData} : RdD H x d → RdDs H xs ds → RdDs H (x :: xs) (d :: ds)
end
section
variable {X : Cx} {pins : List (Addr × Obj)} {σ : St} {H : Hp} {s : Shared}
mutual
theorem RdD.reads (I : Inv X pins σ H s) : ∀ {x : V} {d : PyData}, RdD H x d → ∀ {u : Value}, RelV x u → ∃ as, Reads s.heap u d as
  | _, _, .non, u, r => by cases (show u = Value.none from r); exact ⟨_, .none⟩
  | _, _, .bl b, u, r => by cases (show u = Value.bool b from r); exact ⟨_, .bool b⟩
  | _, _, .int i, u, r => by obtain ⟨t, e⟩ := (show ∃ t, u = Value.int i t from r); subst e; exact ⟨_, .int i t⟩
  | _, _, .str x, u, r => by obtain ⟨t, e⟩ := (show ∃ t, u = Value.str x t from r); subst e; exact ⟨_, .str x t⟩
  | _, _, @RdD.tup _ a xs ds e h, u, r => by
    cases (show u = Value.ref a from r)
    obtain ⟨_, its, rv, o, h1, h2, n, h3⟩ := (show ObjOk X.prog X.w H s.heap a (.tup xs) from I.hok a _ e)
    obtain ⟨as, ra⟩ := RdDs.reads I h rv
    exact ⟨_, .tuple h1 h2 h3 (by simpa using ra)⟩
  | _, _, @RdD.lst _ a xs ds e h, u, r => by
    cases (show u = Value.ref a from r)
    obtain ⟨_, its, n, rv, h1⟩ := (show ObjOk X.prog X.w H s.heap a (.lst xs) from I.hok a _ e)
    obtain ⟨as, ra⟩ := RdDs.reads I h rv
    exact ⟨_, .list h1 rfl rfl (by simpa using ra)⟩
theorem RdDs.reads (I : Inv X pins σ H s) : ∀ {xs : List V} {ds : List PyData}, RdDs H xs ds → ∀ {us : List Value}, Vals xs us → ∃ as, ReadsAll s.heap us ds as
  | _, _, .nil, us, r => by cases r; exact ⟨_, .nil⟩
  | _, _, .cons h t, us, r => by
    cases r with
    | cons r1 r2 =>
      obtain ⟨a1, q1⟩ := RdD.reads I h r1
      obtain ⟨a2, q2⟩ := RdDs.reads I t r2
      exact ⟨_, .cons q1 q2⟩
end
end
def rEqD : R2 := fun x y H Q => ∃ d e, RdD H x d ∧ RdD H y e ∧ SeqAt.shaped d = true ∧ SeqAt.shaped e = true ∧ Q (.bl (PyData.eqv d e)) H
section
variable {X : Cx}
theorem op_eqD (hu : X.A.units + 64 < cLine) : OpR X (compareOp .Eq) rEqD := by
  intro pins s σ H x y v u Q I rx ry h
  obtain ⟨d, e, hd, he, s1, s2, q⟩ := h
  obtain ⟨as, r1⟩ := hd.reads I rx
  obtain ⟨bs, r2⟩ := he.reads I ry
  exact eq_dataH r1 r2 s1 s2 hu ⟨.bl _, H, I, rfl, q⟩
def Bd (n : Nat) (i : Int) : Prop := i.natAbs < 2 ^ n
theorem Bd.mono {m n : Nat} {i : Int} (h : Bd m i) (l : m ≤ n) : Bd n i := Nat.lt_of_lt_of_le h (Nat.pow_le_pow_right (by decide) l)
theorem Bd.bits {n : Nat} {i : Int} (h : Bd n i) : Builtin.Int.intBits i ≤ n := intBits_le_iff.mpr h
theorem Bd.of_bits {n : Nat} {i : Int} (h : Builtin.Int.intBits i ≤ n) : Bd n i := intBits_le_iff.mp h
theorem Bd.mul {m n : Nat} {i j : Int} (h : Bd m i) (k : Bd n j) : Bd (m + n) (i * j) := .of_bits (intBits_mul_le h.bits k.bits)
theorem Bd.add {m n : Nat} {i j : Int} (h : Bd m i) (k : Bd n j) : Bd (max m n + 1) (i + j) := .of_bits (intBits_add_le h.bits k.bits)
def CMulB (i j : Int) : Prop := Bd 1000000 i ∧ Bd 1000000 j
theorem op_mulB : OpR X (binaryOp .Mult) (rI CMulB fun i j => .int (i * j)) := opI fun _ _ _ _ _ _ _ hc q => mul_int q (IntMulOk.of_le hc.1.bits hc.2.bits (by decide))
def CDivB (i j : Int) : Prop := j ≠ 0 ∧ Bd 8900 j
theorem op_fdivB : OpR X (binaryOp .FloorDiv) (rI CDivB fun i j => .int (i.fdiv j)) := opI fun _ j _ _ _ _ _ hc q => floordiv_int hc.1 q (.inl (PyProof.noPylong_of_log2 (by
  have h1 : j.natAbs ≠ 0 := fun z => hc.1 (Int.natAbs_eq_zero.mp z)
  have h2 : j.natAbs < 2 ^ 9000 := Nat.lt_of_lt_of_le hc.2 (Nat.pow_le_pow_right (by decide) (by decide))
  exact (Nat.log2_lt h1).mpr h2)))

theorem call_isinst : CallR X (.builtin "isinstance") (fun xs H Q => ∃ x t n b, xs = [x, .ty n] ∧ TyOf X.K H x t ∧ PySem.W.kitOne X.K t (.type n) = some b ∧ Q (.bl b) H) := by
  intro pins s σ H xs us Q I r h
  obtain ⟨x, t, n, b, rfl, ty, e, q⟩ := h
  obtain ⟨u, w', rfl, r1, r2⟩ := vals2 r
  cases (show w' = Value.type n from r2)
  exact isinst_ok I r1 ty e fun tk => ⟨.bl b, H, I.tok tk, rfl, q⟩
end
end L2
set_option Elab.async false
set_option linter.all false
set_option maxRecDepth 100000
namespace HT
open PySem PySem.Spec PyProof.Rows L2
section
variable {prog : Program} {w : World} {A : Around} {E : Value → Shared → Prop} {s : Shared}
end
end HT
namespace L2
open PySem PySem.Spec PyProof.Rows
section
variable {X : Cx} {e st : Expr} {te : TE} {pos p2 : Pos}
end
end L2
namespace KM
theorem gcd_step {a b : Int} (ha : 0 ≤ a) (hb : 0 < b) : Int.gcd b (a % b) = Int.gcd a b := by
  obtain ⟨m, rfl⟩ := Int.eq_ofNat_of_zero_le ha
  obtain ⟨n, rfl⟩ := Int.eq_ofNat_of_zero_le (Int.le_of_lt hb)
  rw [← Int.natCast_emod, Int.gcd_comm (m : Int)]
  show Nat.gcd n (m % n) = Nat.gcd n m
  rw [Nat.gcd_comm n (m % n)]
  exact (Nat.gcd_rec n m).symm
theorem den_ne (q : Rat) : (q.den : Int) ≠ 0 := by have := q.den_nz; omega
theorem den_pos (q : Rat) : (0 : Int) < q.den := by have := q.den_nz; omega
def dv (t b : Int) : Int := if b < 0 then -(Int.gcd t b : Int) else (Int.gcd t b : Int)
theorem gcd_pos {t b : Int} (hb : b ≠ 0) : 0 < Int.gcd t b := Int.gcd_pos_of_ne_zero_right _ hb
theorem dv_ne {t b : Int} (hb : b ≠ 0) : dv t b ≠ 0 := by
  have := gcd_pos (t := t) hb
  unfold dv; split <;> omega
theorem dv_abs {t b : Int} : (dv t b).natAbs = Int.gcd t b := by
  unfold dv; split <;> omega
theorem dv_le {t b : Int} (hb : b ≠ 0) : (dv t b).natAbs ≤ b.natAbs := by
  rw [dv_abs]; exact Nat.le_of_dvd (by omega) (Int.gcd_dvd_natAbs_right t b)
theorem dv_num {t b : Int} (hb : b ≠ 0) : t.fdiv (dv t b) = (Rat.divInt t b).num := by
  rw [Rat.num_divInt, Int.gcd_comm b t]
  have h1 : ((Int.gcd t b : Nat) : Int) ∣ t := Int.gcd_dvd_left ..
  unfold dv
  split
  · rename_i h
    rw [Int.fdiv_eq_ediv_of_dvd (Int.neg_dvd.mpr h1), Int.ediv_neg, Int.sign_eq_neg_one_of_neg h]
    rw [show (-1 * t) = -t by omega, Int.neg_ediv_of_dvd h1]
  · rename_i h
    rw [Int.fdiv_eq_ediv_of_dvd h1, Int.sign_eq_one_of_pos (by omega), Int.one_mul]
theorem dv_den {t b : Int} (hb : b ≠ 0) : b.fdiv (dv t b) = ((Rat.divInt t b).den : Int) := by
  rw [Rat.den_divInt, if_neg hb, Int.gcd_comm b t]
  have h1 : ((Int.gcd t b : Nat) : Int) ∣ b := Int.gcd_dvd_right ..
  have h2 : Int.gcd t b ∣ b.natAbs := Int.gcd_dvd_natAbs_right t b
  unfold dv
  split
  · rename_i h
    rw [Int.fdiv_eq_ediv_of_dvd (Int.neg_dvd.mpr h1), Int.ediv_neg]
    rw [Int.natCast_ediv, show ((b.natAbs : Nat) : Int) = -b by omega, Int.neg_ediv_of_dvd h1]
  · rename_i h
    rw [Int.fdiv_eq_ediv_of_dvd h1, Int.natCast_ediv, show ((b.natAbs : Nat) : Int) = b by omega]
theorem num_le {t b : Int} (hb : b ≠ 0) : (Rat.divInt t b).num.natAbs ≤ t.natAbs := by
  rw [← dv_num hb]
  have : t.fdiv (dv t b) ∣ t := by
    have h1 : dv t b ∣ t := by
      unfold dv; split
      · exact Int.neg_dvd.mpr (Int.gcd_dvd_left ..)
      · exact Int.gcd_dvd_left ..
    obtain ⟨c, hc⟩ := h1
    rw [Int.fdiv_eq_ediv_of_dvd ⟨c, hc⟩]
    refine ⟨dv t b, ?_⟩
    exact (Int.ediv_mul_cancel ⟨c, hc⟩).symm
  by_cases h0 : t = 0
  · subst h0; simp
  · exact Nat.le_of_dvd (by omega) (Int.natAbs_dvd_natAbs.mpr this)
theorem den_le {t b : Int} (hb : b ≠ 0) : (Rat.divInt t b).den ≤ b.natAbs := by
  rw [Rat.den_divInt, if_neg hb]; exact Nat.div_le_self _ _

theorem plus_eq (a b : Rat) : Rat.divInt (a.num * b.den + b.num * a.den) (a.den * b.den) = a + b := by
  rw [Rat.add_def', ← Rat.divInt_ofNat]; simp
theorem times_eq (a b : Rat) : Rat.divInt (a.num * b.num) (a.den * b.den) = a * b := by
  rw [Rat.mul_def', ← Rat.divInt_ofNat]; simp
theorem less_iff (a b : Rat) : a.num * b.den < b.num * a.den ↔ a < b := (Rat.lt_iff a b).symm
theorem int_num (n : Int) : (n : Rat).num = n := Rat.num_intCast n
theorem int_den (n : Int) : (n : Rat).den = 1 := Rat.den_intCast n

structure Ball where
  pl : Rat
  sp : Rat
  wt : Int
def ws (f : Ball → Rat) (l : List Ball) : Rat := l.foldl (fun acc b => acc + (b.wt : Rat) * f b) 0
end KM
set_option Elab.async false
set_option linter.all false
set_option maxRecDepth 100000
namespace L2
open PySem PySem.Spec PyProof.Rows

structure Cal (P : Program) (w : World) (K : PySem.W.Frag) (mg : Str → Option Value) (base : Heap) (x : Str) (k : Nat) (ps : List Str) (dvs : List V) (sp : Sp) : Prop where
  ex : ∃ f fd ds, FnOk P w K mg base CX0 k f fd ps sp ∧ mg x = some (.ref f) ∧ PySem.W.keepIn K (.ref f) = true ∧ Binds K fd ps ds ∧ Vals dvs ds
theorem Cal.mono {P : Program} {w : World} {K : PySem.W.Frag} {mg : Str → Option Value} {base : Heap} {x : Str} {j k : Nat} {ps : List Str} {dvs : List V} {sp : Sp} (c : Cal P w K mg base x j ps dvs sp) (h : j ≤ k) : Cal P w K mg base x k ps dvs sp := by
  obtain ⟨f, fd, ds, F, r⟩ := c.ex
  exact ⟨⟨f, fd, ds, F.mono h, r⟩⟩
theorem pe_c {X : Cx} {x : Str} {k : Nat} {ps : List Str} {dvs : List V} {sp : Sp} {p pos : Pos} {e : Expr} {es : List Expr} {t : TA}
    (c : Cal X.prog X.w X.K X.mg X.base x k ps dvs sp) (hr : Room k X.A) (ha : PA X (e :: es) t) (hg : Gl X x := by rfl) (hdb : (x == ("__debug__" : Str)) = false := by decide)
    (he : starEach (e :: es) X.env = (false, eval e X.env) :: starEach es X.env := by rfl) (hpl : (backTo pos (starEach es X.env)).any (·.1) = false := by rfl) :
    PE X (.Call (.Name x p) (e :: es) [] pos) (tCall sp dvs E0 t) := by
  obtain ⟨f, fd, ds, F, hm, hk, hb, hd⟩ := c.ex
  exact pe_call F hr hg hm hk hb hd pass0 ha hdb he hpl

structure Df (K : PySem.W.Frag) (mg : Str → Option Value) (x : Str) (st : Stmt) (ps : List Str) (dvs : List V) : Prop where
  ex : ∃ (f : Addr) (oc : Value) (od : Option Addr) (dV kV doc pm : Value) (an : Option Addr) (cdv ct : Value) (osl : Array (Option Value)) (ds : List Value),
    K.lookup f = some ⟨oc, od, .func (PySem.W.fnOf x x (defArgs st) (defBody st) (defScope st) dV kV doc pm an cdv ct), osl⟩ ∧ PySem.W.codeIn K cdv x = true ∧ PySem.W.keepIn K (.ref f) = true ∧ mg x = some (.ref f) ∧
    Vals dvs ds ∧ Binds K (PySem.W.fnOf x x (defArgs st) (defBody st) (defScope st) dV kV doc pm an cdv ct) ps ds
section
variable {P : Program} {w : World} {K : PySem.W.Frag} {mg : Str → Option Value} {base : Heap}
theorem Df.cal {x : Str} {st : Stmt} {N ps : List Str} {dvs : List V} {k : Nat} {sp : Sp} (D : Df K mg x st ps dvs) (S : FnScope N ps (defScope st)) (len : ∀ vs H Q E, sp vs H Q E → vs.length = ps.length)
    (hbody : ∀ (f : Addr) (cdv : Value) (A : Around) (outer : List Env) (s : Shared) (H : Hp) (vs : List V) (Q : VK) (E : XK), Room k (A.deeper (envOfC x (defScope st) s.heap.objs.size f cdv)) → sp vs H Q E →
      ∃ t, PSs (cxOf CX0 P w K mg base N x (defScope st) f cdv A outer s H E).nox (defBody st) t ∧ t { nx := fun _ H' => Q .non H', rt := Q } (start N vs) H) : Cal P w K mg base x (k + 1) ps dvs sp := by
  obtain ⟨f, oc, od, dV, kV, doc, pm, an, cdv, ct, osl, ds, lk, hcd, hk, hm, hv, hb⟩ := D.ex
  refine ⟨⟨f, _, ds, fn_of lk hcd S len fun A outer s H vs Q E hr hsp => ?_, hm, hk, hb, hv⟩⟩
  obtain ⟨t, h, q⟩ := hbody f cdv A outer s H vs Q E hr hsp
  exact ⟨t, h.nox, q⟩
theorem df_mk {x : Str} {st : Stmt} {ps : List Str} {f : Addr} {oc : Value} {od an : Option Addr} {osl : Array (Option Value)} {dV kV doc pm cdv ct : Value}
    (l : K.lookup f = some ⟨oc, od, .func (PySem.W.fnOf x x (defArgs st) (defBody st) (defScope st) dV kV doc pm an cdv ct), osl⟩) (c : PySem.W.codeIn K cdv x = true) (k : PySem.W.keepIn K (.ref f) = true) (m : mg x = some (.ref f))
    (hb : ∀ us : List Value, us.length = ps.length → bindArgs (PySem.W.fnOf x x (defArgs st) (defBody st) (defScope st) dV kV doc pm an cdv ct) ⟨us, []⟩ = pure (ps.zip us)) : Df K mg x st ps [] :=
  ⟨⟨f, oc, od, dV, kV, doc, pm, an, cdv, ct, osl, [], l, c, k, m, .nil, .all hb⟩⟩
end

def rp (q : Rat) : List V := [.int q.num, .int (q.den : Int)]
def RatAt (H : Hp) (p : Addr) (q : Rat) : Prop := H p = some (.tup (rp q))
theorem RatAt.same {H H' : Hp} {p : Addr} {q : Rat} (h : RatAt H p q) (e : Same H H') : RatAt H' p q := e _ _ h
def Sz (n : Nat) (q : Rat) : Prop := Bd n q.num ∧ Bd n (q.den : Int)
theorem Sz.mono {m n : Nat} {q : Rat} (h : Sz m q) (l : m ≤ n) : Sz n q := ⟨h.1.mono l, h.2.mono l⟩
theorem Bd.of_le {n : Nat} {i j : Int} (h : i.natAbs ≤ j.natAbs) (b : Bd n j) : Bd n i := Nat.lt_of_le_of_lt h b
theorem Sz.divInt {n : Nat} {t b : Int} (hb : b ≠ 0) (h1 : Bd n t) (h2 : Bd n b) : Sz n (Rat.divInt t b) :=
  ⟨h1.of_le (KM.num_le hb), h2.of_le (by have := KM.den_le (t := t) hb; omega)⟩
theorem Sz.add {m n : Nat} {x y : Rat} (h : Sz m x) (k : Sz n y) : Sz (m + n + 1) (x + y) := by
  rw [← KM.plus_eq]
  refine .divInt (Int.mul_ne_zero (KM.den_ne x) (KM.den_ne y)) ?_ ((h.2.mul k.2).mono (by omega))
  exact ((h.1.mul k.2).add (k.1.mul h.2)).mono (by omega)
theorem Sz.mul {m n : Nat} {x y : Rat} (h : Sz m x) (k : Sz n y) : Sz (m + n) (x * y) := by
  rw [← KM.times_eq]
  exact .divInt (Int.mul_ne_zero (KM.den_ne x) (KM.den_ne y)) (h.1.mul k.1) (h.2.mul k.2)
theorem Sz.int {n : Nat} {i : Int} (h : Bd n i) (hn : 1 ≤ n) : Sz n (i : Rat) := by
  refine ⟨by rw [KM.int_num]; exact h, ?_⟩
  rw [KM.int_den]
  exact Bd.mono (m := 1) (show (1 : Int).natAbs < 2 ^ 1 by decide) hn
theorem shaped_rp (q : Rat) : SeqAt.shaped (.tuple [.int q.num, .int (q.den : Int)]) = true := rfl
theorem RatAt.rd {H : Hp} {p : Addr} {q : Rat} (h : RatAt H p q) : RdD H (.ref p) (.tuple [.int q.num, .int (q.den : Int)]) := .tup h (.cons (.int _) (.cons (.int _) .nil))
theorem eqv_rp (x y : Rat) : PyData.eqv (.tuple [.int x.num, .int (x.den : Int)]) (.tuple [.int y.num, .int (y.den : Int)]) = decide (x = y) := by
  simp only [PyData.eqv, PyData.eqvAll, Bool.and_true]
  rw [Bool.eq_iff_iff]
  simp only [Bool.and_eq_true, beq_iff_eq, decide_eq_true_eq]
  constructor
  · rintro ⟨h1, h2⟩; exact Rat.ext h1 (by omega)
  · rintro rfl; exact ⟨rfl, rfl⟩

def spLow : Sp := fun vs H Q _ => ∃ t b, vs = [.int t, .int b] ∧ b ≠ 0 ∧ Bd 8900 b ∧ ∀ p H', Same H H' → RatAt H' p (Rat.divInt t b) → Q (.ref p) H'
def spBin (C : Rat → Rat → Prop) (f : Rat → Rat → Rat) : Sp := fun vs H Q _ => ∃ p q x y, vs = [.ref p, .ref q] ∧ RatAt H p x ∧ RatAt H q y ∧ C x y ∧ ∀ r H', Same H H' → RatAt H' r (f x y) → Q (.ref r) H'
def Sz2 (x y : Rat) : Prop := Sz 4000 x ∧ Sz 4000 y
theorem at0 {α : Type} (a b : α) : atI [a, b] 0 = some a := rfl
theorem at1 {α : Type} (a b : α) : atI [a, b] 1 = some b := rfl
theorem Same.upd {H : Hp} {p : Addr} {o : HO} (h : H p = none) : Same H (upd H p o) := fun b u e => by rw [upd_ne (ne_of_none e h)]; exact e
end L2
set_option Elab.async false
set_option linter.all false
set_option maxRecDepth 100000
namespace L2
open PySem PySem.Spec PyProof.Rows

def caps (σ : St) (js : List Nat) : St := js.map fun j => (σ[j]?).getD none
inductive Capt (X : Cx) (scope : Scope) (cl : List (Str × Addr)) : List Str → List Nat → Prop
  | nil : Capt X scope cl [] []
  | cons {x : Str} {j : Nat} {r : List Str} {js : List Nat} : X.N[j]? = some x → X.env.kindOf x = some .cell → (relabel scope X.env).names.lookup x = some .cell → (∃ c, cl.lookup x = some c) → Capt X scope cl r js → Capt X scope cl (x :: r) (j :: js)
section
variable {X : Cx} {scope : Scope} {cl : List (Str × Addr)}
theorem Capt.length : ∀ {r : List Str} {js : List Nat}, Capt X scope cl r js → r.length = js.length
  | _, _, .nil => rfl
  | _, _, .cons _ _ _ _ t => by rw [List.length_cons, List.length_cons, Capt.length t]
theorem Capt.get : ∀ {r : List Str} {js : List Nat} {k : Nat} {x : Str}, Capt X scope cl r js → r[k]? = some x → ∃ j, js[k]? = some j ∧ X.N[j]? = some x ∧ X.env.kindOf x = some .cell ∧ (relabel scope X.env).names.lookup x = some .cell ∧ ∃ c, cl.lookup x = some c
  | _, _, _, _, .nil, e => by simp at e
  | _, _, 0, _, .cons h1 h2 h3 h4 _, e => by
    simp at e; subst e
    exact ⟨_, rfl, h1, h2, h3, h4⟩
  | _, _, k + 1, x, .cons _ _ _ _ t, e => by
    obtain ⟨j, r⟩ := Capt.get (k := k) t (by simpa using e)
    exact ⟨j, by simpa using r⟩
theorem Capt.has {r : List Str} {js : List Nat} (h : Capt X scope cl r js) {x : Str} (hx : x ∈ r) : ∃ c, cl.lookup x = some c := by
  obtain ⟨k, hk⟩ := List.getElem?_of_mem hx
  obtain ⟨_, _, _, _, _, z⟩ := h.get hk
  exact z
end
def cxCompC (X : Cx) (NB FR : List Str) (scope : Scope) (cl : List (Str × Addr)) (s3 : Shared) (H3 : Hp) (fp : List Addr) : Cx :=
  { X with N := NB ++ FR, s₀ := s3, H₀ := H3, env := compEnvC scope cl s3.heap.objs.size X.env, outer := X.stack, stack := X.stack, ex := fp, fn := fun _ => false, pn := [], xe := fun _ _ => False }
def tCompC (n : Nat) (js : List Nat) (wi : TI) (g : TG) (tt : TT) (te : TE) : TE := fun σ H Q => wi σ H fun J H1 => ∀ D, H1 D = none → ∃ W : Nat → Nat → Hp → List V → Prop, (∃ m, W 0 m (upd H1 D (.lst [])) []) ∧
  ∀ i m H2 ys, W i m H2 ys → H2 D = some (.lst ys) → (J.stop i H2 ∧ Q (.ref D) H2) ∨
    (J.go i H2 ∧ ∀ zs x H3, zs.length = n → J.yld i H2 x H3 → g x (zs ++ caps σ js) H3 fun σ4 H4 => σ4.drop n = caps σ js ∧ tt σ4 H4 fun b H5 =>
      if b = true then te σ4 H5 (fun v H6 => H6 D = some (.lst ys) ∧ ys.length < sizeLine ∧ ∃ m', m' < m ∧ W (i + 1) m' (upd H6 D (.lst (ys ++ [v]))) (ys ++ [v]))
      else H5 D = some (.lst ys) ∧ ∃ m', m' < m ∧ W (i + 1) m' H5 ys)

theorem relabel_has {scope : Scope} {env : Env} {FR : List Str} {x : Str} (h : (relabel scope env).names.all (fun y => !(y.2 == .cell || y.2 == .free) || FR.contains y.1) = true)
    (e : (relabel scope env).names.lookup x = some .cell ∨ (relabel scope env).names.lookup x = some .free) : x ∈ FR := by
  have key : ∀ k : NameKind, (k == .cell || k == .free) = true → (x, k) ∈ (relabel scope env).names → x ∈ FR := fun k hk hm => by
    have z := List.all_eq_true.mp h _ hm
    simp only [hk, Bool.not_true, Bool.false_or, List.contains_iff_mem] at z
    exact z
  rcases e with e | e
  · exact key .cell rfl (PySem.mem_of_lookup e)
  · exact key .free rfl (PySem.mem_of_lookup e)

theorem comp_core {X : Cx} {elt tg iter : Expr} {ifs : List Expr} {scope : Scope} {cl : List (Str × Addr)} {pos : Pos} {NB FR : List Str} {js : List Nat} {wi : TI} {g : TG} {tt : TT} {te : TE} {Q : VK} {RR : Value → Addr → Result → Shared → Prop}
    {pins : List (Addr × Obj)} {s : Shared} {σ : St} {H : Hp} (hc : X.calm = true) (hcl : ∀ x c, cl.lookup x = some c → X.env.cells.lookup x = some c) (hcap : Capt X scope cl FR js)
    (hnm : (relabel scope X.env).names.all (fun y => !(y.2 == .cell || y.2 == .free) || FR.contains y.1) = true) (hcell : ∀ x ∈ scope.names, x.2 ≠ .cell) (hkind : scope.kind = .function)
    (hi : PI X tg iter wi) (hb : ∀ s3 H3 fp, PG (cxCompC X NB FR scope cl s3 H3 fp) tg g ∧ PTs (cxCompC X NB FR scope cl s3 H3 fp) ifs tt ∧ PE (cxCompC X NB FR scope cl s3 H3 fp) elt te)
    (I : Inv X pins σ H s) (h : tCompC NB.length js wi g tt te σ H Q)
    (hRR : ∀ D C H' s', Inv X pins σ H' s' → FpOk X pins H' C → (∃ m, s'.heap.Ns C m) → Q (.ref D) H' → RR (.ref D) C (.ok .next) s') :
    wpAny (model X.prog X.w) X.A (eval iter X.env) (fun v s1 => wpAny (model X.prog X.w) X.A (pyIter v) (fun it s2 => wpAny (model X.prog X.w) X.A (newList []) (fun acc s3 =>
      wpAny (model X.prog X.w) X.A (newFunctionEnv scope X.env.globals cl [] X.env.qual none .none (some X.env)) (fun cenv s4 =>
        codeAny (model X.prog X.w) X.A (.compStart (.ListComp elt [⟨tg, iter, ifs, 0⟩] scope pos) 0 it acc { cenv with scope := relabel scope X.env }) (RR acc cenv.locals) s4) X.xe s3) X.xe s2) X.xe s1) X.xe s := by
  refine thn (hi pins s σ H _ I h) fun v s1 h1 => thn h1 fun itv s2 h2 => ?_
  obtain ⟨it, fp, tn, J, H2, e, I2, T, st2, f2, q2⟩ := h2
  subst e
  have hf2 : H2 s2.heap.objs.size = none := I2.hok.fresh (Nat.le_refl _)
  obtain ⟨W, ⟨m0, w0⟩, turn⟩ := q2 _ hf2
  refine wpAny_newObj_type (hd := by size_fits) ?_
  have I3 : Inv X pins σ (upd H2 s2.heap.objs.size (.lst [])) { s2 with heap := s2.heap.push { cls := .type "list", dict := none, data := .seq ([] : List Value).toArray } } :=
    I2.laid (t' := s2.toks) (fun b u e => Heap.get?_push_of_some _ e) (Nat.le_refl _) ⟨by decide, [], 0, .nil, Heap.get?_push_size _ rfl⟩
  generalize hD : s2.heap.objs.size = D at *
  generalize hs3 : ({ s2 with heap := s2.heap.push { cls := .type "list", dict := none, data := .seq ([] : List Value).toArray } } : Shared) = s3 at *
  generalize hH3 : upd H2 D (.lst []) = H3 at *
  have h3D : H3 D = some (.lst []) := by rw [← hH3]; exact upd_same
  have fpD : ∀ b ∈ fp, b ≠ D := fun b hb => by
    obtain ⟨o, e, _⟩ := T.obj _ _ st2 b hb
    rw [← hD]; exact Nat.ne_of_lt (Heap.lt_size e)
  have k23 : ∀ b u, s2.heap.get? b = some u → s3.heap.get? b = some u := fun b u e => by rw [← hs3]; exact Heap.get?_push_of_some _ e
  have st3 : tn 0 s3.heap := T.keep _ _ _ st2 fun b _ o e => k23 b o e
  have f3 : ∀ b ∈ fp, FpOk X pins H3 b := fun b hb => ⟨by rw [← hH3, upd_ne (fpD b hb)]; exact (f2 b hb).1, (f2 b hb).2⟩
  refine wpAny_newFunctionEnv hcell (by intro y hy; simp at hy) (fun h4 hns4 hsb4 => ?_) hkind
  have k34 : ∀ b u, s3.heap.get? b = some u → h4.get? b = some u := fun b u e => hsb4.extBut b u (Nat.ne_of_lt (Heap.lt_size e)) (Heap.get?_push_of_some _ e)
  have okB : (cxCompC X NB FR scope cl s3 H3 fp).Ok := by
    refine ⟨I3.ok.mod, hkind, I3.ok.glob, I3.ok.blt, Nat.le_refl _, fun x y c e1 e2 => I3.ok.inj x y c (hcl _ _ e1) (hcl _ _ e2), fun x e => hcap.has (relabel_has hnm e), (fun x c e => nomatch e), I3.ok.hd, I3.ok.frames, .inl rfl, fun b hb => ⟨?_, fun x c e => ?_⟩, I3.bs, Nat.le_trans I3.ok.bsz I3.sz, fun b o e hb => ?_, fun b hb z => ?_, I3.stack, I3.stkFree⟩
    · obtain ⟨o, e, _⟩ := T.obj _ _ st3 b hb
      exact Nat.ne_of_lt (Heap.lt_size e)
    · exact (f3 b hb).2.2.2.2.1 x c (hcl _ _ e)
    · obtain ⟨_, _, _, z, _⟩ := f3 b hb
      rcases z with z | z
      · exact I3.ok.noex b o e z
      · exact absurd (Nat.lt_of_lt_of_le (Heap.lt_size e) (Nat.le_trans I3.ok.bsz z)) (Nat.lt_irrefl _)
    · obtain ⟨_, z1, z2, _⟩ := f3 b hb
      rcases List.mem_cons.mp (I3.stkSub b z) with e | e
      · exact z1 e
      · exact z2 e
  have IB : Inv (cxCompC X NB FR scope cl s3 H3 fp) [] (List.replicate NB.length none ++ caps σ js) H3 { s3 with heap := h4, toks := s3.toks + ([] : List (Str × Value)).length } := by
    refine ⟨okB, rfl, I3.bare, Un.kept k34, ⟨_, hns4, fun i x v e1 e2 e3 => ?_⟩, fun x c e => ?_, I3.hok.fresh (Nat.le_refl _), fun x c e => I3.freeC x c (hcl _ _ e), fun p hp => ?_, I3.hok.kept k34, ?_⟩
    · by_cases hi : i < NB.length
      · rw [List.getElem?_append_left (by simpa using hi), List.getElem?_replicate, if_pos hi] at e2
        cases e2
      · have e1' : FR[i - NB.length]? = some x := by
          have z : (NB ++ FR)[i]? = some x := e1
          rw [List.getElem?_append_right (by omega)] at z; exact z
        rw [List.getElem?_append_right (by simp; omega), List.length_replicate] at e2
        obtain ⟨j, hj, hN, hk, hb', c, hc'⟩ := hcap.get e1'
        have e2' : σ[j]? = some (some v) := by
          unfold caps at e2
          rw [List.getElem?_map, hj] at e2
          simp only [Option.map_some, Option.some.injEq] at e2
          cases hσ : σ[j]? with
          | none => rw [hσ] at e2; cases e2
          | some o => rw [hσ] at e2; simp only [Option.getD_some] at e2; rw [e2]
        obtain ⟨m, hn, hl⟩ := I3.loc
        obtain ⟨u, ru, lu⟩ := hl j x v hN e2' (.inr (.inl hk))
        refine ⟨u, ru, .inr ⟨.inl hb', c, hc', ?_⟩⟩
        rcases lu with ⟨z, _⟩ | ⟨_, c', z, q⟩
        · rw [hk] at z; cases z
        · rw [hcl _ _ hc'] at z; cases z
          obtain ⟨o, ho, hd⟩ := q
          exact ⟨o, k34 _ _ ho, hd⟩
    · obtain ⟨v, o, ho, hd⟩ := I3.cell x c (hcl _ _ e)
      exact ⟨v, o, k34 _ _ ho, hd⟩
    · exact absurd (show p ∈ ([] : List (Addr × Obj)) from hp) (by simp)
    · show _ = (NB ++ FR).length
      rw [List.length_append, List.length_append, List.length_replicate, hcap.length]
      unfold caps; rw [List.length_map]
  have st4 : tn 0 h4 := T.keep _ _ _ st3 fun b _ o e => k34 b o e
  have stat : ∀ {H' : Hp}, (∀ b ∈ fp, H' b = none) → ∀ b ∈ fp, FpOk (cxCompC X NB FR scope cl s3 H3 fp) [] H' b := fun hn b hb =>
    ⟨hn b hb, (okB.exf b hb).1, okB.exfs b hb, .inl hb, fun x c e => (f3 b hb).2.2.2.2.1 x c (hcl _ _ e), fun p hp => absurd (show p ∈ ([] : List (Addr × Obj)) from hp) (by simp)⟩
  obtain ⟨hg, ht, he⟩ := hb s3 H3 fp
  have fin : ∀ {σ' : St} {H' : Hp} {s' : Shared}, Inv (cxCompC X NB FR scope cl s3 H3 fp) [] σ' H' s' → Q (.ref D) H' → RR (.ref D) s3.heap.objs.size (.ok .next) s' := fun {σ' H' s'} J q => by
    have hm : ∃ m, s'.heap.Ns s3.heap.objs.size m := by
      obtain ⟨m, hm, _⟩ := J.loc
      exact ⟨m, hm⟩
    refine hRR D _ H' s' (I3.call' (ch := fp) J.os J.base J.hok J.bare fun b hb => ?_) (I3.fpOk (Nat.le_refl _) J.free) hm q
    obtain ⟨_, z1, z2, z3, z4, z5⟩ := f3 b hb
    exact ⟨z3, z1, z4, z5⟩
  have loop : ∀ s5 : Shared, s5 = { s3 with heap := h4, toks := s3.toks + ([] : List (Str × Value)).length } →
      codeAny (model X.prog X.w) X.A (.compLoop (.ListComp elt [⟨tg, iter, ifs, 0⟩] scope pos) 0 (.ref it) (.ref D) (compEnvC scope cl s3.heap.objs.size X.env)) (RR (.ref D) s3.heap.objs.size) s5 := by
    rintro s5 rfl
    refine compLoop_any (fun n s' => ∃ i zs H' ys, zs.length = NB.length ∧ Inv (cxCompC X NB FR scope cl s3 H3 fp) [] (zs ++ caps σ js) H' s' ∧ tn i s'.heap ∧ (∀ b ∈ fp, H' b = none) ∧ H' D = some (.lst ys) ∧ W i n H' ys) ?_ m0
      ⟨0, _, H3, [], List.length_replicate, IB, st4, fun b hb => (f3 b hb).1, h3D, by rw [← hH3] at *; exact w0⟩
    rintro n s6 ⟨i, zs, H6, ys, hzs, I6, st6, fr6, hD6, w6⟩
    rcases turn i n H6 ys w6 hD6 with ⟨stop, qn⟩ | ⟨go, step⟩
    · refine thn (T.done (cxCompC X NB FR scope cl s3 H3 fp) rfl rfl rfl hc i [] s6 _ H6 _ I6 (stat fr6) st6 stop) fun r s7 ⟨hr, I7⟩ => ?_
      subst hr
      exact fin I7 qn
    · refine thn (T.item (cxCompC X NB FR scope cl s3 H3 fp) rfl rfl rfl hc i [] s6 _ H6 _ I6 (stat fr6) st6 go) fun r s7 ⟨u, hr, h7⟩ => ?_
      subst hr
      refine thn h7 fun _ s8 ⟨x, H8, I8, r8, y8, st8, fr8⟩ => ?_
      have I8' := I8.pinned (stat fr8) (T.obj _ _ st8)
      have again : ∀ {σ9 : St} {H9 : Hp} {s9 : Shared} {ws : List V} {m' : Nat}, σ9.drop NB.length = caps σ js → Inv (cxCompC X NB FR scope cl s3 H3 fp) ([] ++ pinsAt fp s8.heap) σ9 H9 s9 → H9 D = some (.lst ws) → m' < n → W (i + 1) m' H9 ws →
          ∃ m, m < n ∧ ∃ i zs H' ys, zs.length = NB.length ∧ Inv (cxCompC X NB FR scope cl s3 H3 fp) [] (zs ++ caps σ js) H' s9 ∧ tn i s9.heap ∧ (∀ b ∈ fp, H' b = none) ∧ H' D = some (.lst ys) ∧ W i m H' ys := fun {σ9 H9 s9 ws m'} hdr I9 hz hm w9 => by
        have hl : σ9.length = (NB ++ FR).length := I9.len
        rw [List.length_append] at hl
        refine ⟨m', hm, i + 1, σ9.take NB.length, H9, ws, by rw [List.length_take]; omega, ?_, T.keep _ _ _ st8 fun b hb o e => (I9.pin (b, o) (List.mem_append_right _ (List.mem_append_right _ (mem_pinsAt hb e)))).1, fun b hb => ?_, hz, w9⟩
        · rw [← hdr, List.take_append_drop]; exact I9.unpinned
        · obtain ⟨o, e, d⟩ := T.obj _ _ st8 b hb
          exact (I9.pin (b, o) (List.mem_append_right _ (List.mem_append_right _ (mem_pinsAt hb e)))).2.1
      refine thn (hg _ s8 _ H8 x u _ I8' r8 (step zs x H8 hzs y8)) fun _ s9 ⟨σ9, H9, I9, hdr, q9⟩ => ?_
      refine thn (ht _ s9 σ9 H9 _ I9 q9) fun ok s10 ⟨H10, I10, q10⟩ => ?_
      cases ok with
      | false =>
        rw [if_neg (by decide)] at q10 ⊢
        obtain ⟨hz, m', hm, w'⟩ := q10
        exact again hdr I10 hz hm w'
      | true =>
        rw [if_pos rfl] at q10 ⊢
        refine thn (he _ s10 σ9 H10 _ I10 q10) fun y s11 ⟨v, H11, I11, r11, hz, hlen, m', hm, w'⟩ => ?_
        refine thn (mt_append _ s11 σ9 H11 (.ref D) [v] (.ref D) [y] (fun _ H12 => H12 = upd H11 D (.lst (ys ++ [v]))) I11 rfl (.cons r11 .nil) ⟨D, ys, v, rfl, rfl, hz, hlen, rfl⟩) fun _ s12 ⟨_, H12, I12, _, e12⟩ => ?_
        subst e12
        exact again hdr I12 upd_same hm w'
  exact codeAny_compStart_list (loop _ rfl) (T.self X.A 0 _ _ _ st4 (loop _ rfl))

section
variable {X : Cx} {elt tg iter : Expr} {ifs : List Expr} {scope : Scope} {cl : List (Str × Addr)} {pos spos py : Pos} {NB FR : List Str} {js : List Nat} {wi : TI} {g : TG} {tt : TT} {te : TE}
theorem pe_compC (hc : X.calm = true) (hclos : closureFor scope X.env = pure cl) (hcl : ∀ x c, cl.lookup x = some c → X.env.cells.lookup x = some c) (hcap : Capt X scope cl FR js)
    (hnm : (relabel scope X.env).names.all (fun y => !(y.2 == .cell || y.2 == .free) || FR.contains y.1) = true) (hcell : ∀ x ∈ scope.names, x.2 ≠ .cell) (hkind : scope.kind = .function) (hnames : ∀ x ∈ scope.names, x.2 = .local → scope.names.lookup x.1 = some .local)
    (hi : PI X tg iter wi) (hb : ∀ s3 H3 fp, PG (cxCompC X NB FR scope cl s3 H3 fp) tg g ∧ PTs (cxCompC X NB FR scope cl s3 H3 fp) ifs tt ∧ PE (cxCompC X NB FR scope cl s3 H3 fp) elt te)
    (hs : ∀ x, foldedSetIterable iter X.env x = pure x := by intro _; rfl) :
    PE X (.ListComp elt [⟨tg, iter, ifs, 0⟩] scope pos) (tCompC NB.length js wi g tt te) := by
  intro pins s σ H Q I h
  rw [eval_ListComp]
  refine wpAny_comprehension_free (use := none) rfl hs hclos hkind hnames (comp_core (RR := fun acc C => compPost (model X.prog X.w) X.A X.xe none (EP X pins σ Q) acc C) hc hcl hcap hnm hcell hkind hi hb I h ?_)
  intro D C H' s' I' ⟨f0, f1, f2, f3, f4, f5⟩ ⟨m, hm⟩ q
  exact ⟨m, hm, fun h' sb => ⟨.ref D, H', I'.turned (t' := s'.toks) (fun b o hb e => (sb.2 b hb).trans e) f0 f1 f3 f4 f5, rfl, q⟩⟩
end
end L2
set_option Elab.async false
set_option linter.all false
set_option maxRecDepth 100000
namespace L2
open PySem PySem.Spec PyProof.Rows

section
variable {prog : Program} {w : World} {A : Around} {E : Value → Shared → Prop} {s : Shared}
theorem nt_item {j t : Addr} {i : Nat} {vs : Array Value} {x : Value} {Q : Value → Shared → Prop} (kj : s.heap.IsTupleIter j t i) (kt : s.heap.IsTuple t vs) (kx : vs[i]? = some x)
    (q : ∀ h', h'.IsTupleIter j t (i + 1) → Heap.SameBut j s.heap h' → Q x { s with heap := h' }) : wpAny (model prog w) A (Builtin.SmallTypes.nextOf (.ref j)) Q E s := by
  obtain ⟨oj, e1, e2, e3⟩ := id kj
  obtain ⟨ot, f1, _, nt, f3⟩ := kt
  unfold Builtin.SmallTypes.nextOf
  refine wpAny_bind (wpAny_callSpecial?_slot (name := Str.ofString "__next__") kj.typeIs F.slot_tuple_iterator_next (wpAny_call_entry F.slot_tuple_iterator_next kj.typeIs F.entry_tuple_iterator_next ?_ (F.args_tuple_iterator_next_1 _)))
  show wpAny _ _ (field (.ref j) 0 >>= _) _ _ s
  refine wpAny_bind (wpAny_field e1 e3 (x := .ref t) rfl ?_)
  show wpAny _ _ (if (Value.ref t == .none) = true then _ else _) _ _ s
  rw [if_neg (show ¬ ((Value.ref t == .none) = true) from Bool.false_ne_true)]
  show wpAny _ _ (field (.ref j) 1 >>= _) _ _ s
  refine wpAny_bind (wpAny_field e1 e3 (x := .int i 0) rfl (?_ : wpAny _ _ (seqItems? (.ref t) >>= _) _ _ s))
  refine wpAny_bind (wpAny_seqItems f1 f3 ?_)
  simp only [Int.toNat_natCast, kx]
  refine wpAny_bind (wpAny_setField e1 e3 (by simp) (wpAny_pure ⟨x, rfl, wpAny_pure (q _ ⟨_, Heap.get?_update_self _ e1 (Obj.isFreed_of_fields (Obj.data_mapFields e3 _)), (Obj.cls_mapFields ..).trans e2, ?_⟩ (Heap.SameBut.update ..))⟩))
  rw [Obj.data_mapFields e3]; simp [rawInt]
theorem nt_end {j t : Addr} {i : Nat} {vs : Array Value} {Q : Value → Shared → Prop} (hh : A.handled = none) (kj : s.heap.IsTupleIter j t i) (kt : s.heap.IsTuple t vs) (kx : vs[i]? = none)
    (q : ∀ h' e, Heap.ExtBut j s.heap h' → (∃ o, h'.get? e = some o ∧ o.cls = .type "StopIteration") → E (.ref e) { s with heap := h' }) : wpAny (model prog w) A (Builtin.SmallTypes.nextOf (.ref j)) Q E s := by
  obtain ⟨oj, e1, e2, e3⟩ := id kj
  obtain ⟨ot, f1, _, nt, f3⟩ := kt
  unfold Builtin.SmallTypes.nextOf
  refine wpAny_bind (wpAny_callSpecial?_slot (name := Str.ofString "__next__") kj.typeIs F.slot_tuple_iterator_next (wpAny_call_entry F.slot_tuple_iterator_next kj.typeIs F.entry_tuple_iterator_next ?_ (F.args_tuple_iterator_next_1 _)))
  show wpAny _ _ (field (.ref j) 0 >>= _) _ _ s
  refine wpAny_bind (wpAny_field e1 e3 (x := .ref t) rfl ?_)
  show wpAny _ _ (if (Value.ref t == .none) = true then _ else _) _ _ s
  rw [if_neg (show ¬ ((Value.ref t == .none) = true) from Bool.false_ne_true)]
  show wpAny _ _ (field (.ref j) 1 >>= _) _ _ s
  refine wpAny_bind (wpAny_field e1 e3 (x := .int i 0) rfl (?_ : wpAny _ _ (seqItems? (.ref t) >>= _) _ _ s))
  refine wpAny_bind (wpAny_seqItems f1 f3 ?_)
  simp only [Int.toNat_natCast, kx]
  refine wpAny_bind (wpAny_rule (wpAny_bind (wpAny_setField e1 e3 (by simp) (?_ : wpAny _ _ (newExc (.type "StopIteration") [] >>= _) _ _ _))))
  refine wpAny_bind ?_
  simp only [newExc, newTuple]
  refine wpAny_bind (wpAny_newObj_type (wpAny_bind (m := firstArgMember _ _) (wpAny_of_eq (a := Value.none) (by first | rfl | (simp only [firstArgMember]; rfl)) (wpAny_newObj_type ?_ (by size_fits)))) (by size_fits))
  simp only [raiseNew]
  refine wpAny_bind (wpAny_handled (?_))
  first | rw [show A.in1.handled = none from hh] | rw [hh]
  exact wpAny_bind (wpAny_pure (wpAny_throw (q _ _ (((Heap.SameBut.update ..).extBut.push _).push _) ⟨_, Heap.get?_push_size _ rfl, rfl⟩)))

structure ZT (z TI TO j1 j2 t1 t2 : Addr) (f0 : Value) (i1 i2 : Nat) (h : Heap) : Prop where
  z : IsZip h z TI TO f0
  ti : IsPair h TI (.ref j1) (.ref j2)
  to : ∃ a b, IsPair h TO a b
  i1 : h.IsTupleIter j1 t1 i1
  i2 : h.IsTupleIter j2 t2 i2
structure ZNe (z TI TO j1 j2 : Addr) : Prop where
  a : TI ≠ z
  b : TO ≠ z
  c : j1 ≠ z
  d : j2 ≠ z
  e : TI ≠ TO
  f : TI ≠ j1
  g : TI ≠ j2
  k : TO ≠ j1
  l : TO ≠ j2
  m : j1 ≠ j2
section
variable {z TI TO j1 j2 t1 t2 : Addr} {i : Nat} {xs ys : Array Value}
theorem tup_ne_z {h : Heap} {f0 : Value} {vs : Array Value} {t : Addr} (ht : h.IsTuple t vs) (hz : IsZip h z TI TO f0) : t ≠ z := fun e => by
  obtain ⟨o, e1, e2, _⟩ := ht
  rw [e, hz] at e1; cases e1; simp at e2
theorem tup_ne_j {h : Heap} {vs : Array Value} {t j u : Addr} {n : Nat} (ht : h.IsTuple t vs) (hj : h.IsTupleIter j u n) : t ≠ j := fun e => by
  obtain ⟨o, e1, e2, _⟩ := ht
  obtain ⟨o', f1, f2, _⟩ := hj
  rw [e, f1] at e1; cases e1; rw [f2] at e2; simp at e2
theorem zt_item {x y : Value} {Q : Option Value → Shared → Prop} (D : ZNe z TI TO j1 j2) (Z : ZT z TI TO j1 j2 t1 t2 .none i i s.heap) (k1 : s.heap.IsTuple t1 xs) (k2 : s.heap.IsTuple t2 ys) (n1 : t1 ≠ TO) (n2 : t2 ≠ TO) (ex : xs[i]? = some x) (ey : ys[i]? = some y)
    (q : ∀ h', ZT z TI TO j1 j2 t1 t2 (rawInt s.heap.objs.size) (i + 1) (i + 1) h' → IsPair h' s.heap.objs.size x y → h'.objs.size = s.heap.objs.size + 1 →
      (∀ c o, c ≠ z → c ≠ TO → c ≠ j1 → c ≠ j2 → s.heap.get? c = some o → h'.get? c = some o) → Q (some (.ref s.heap.objs.size)) { s with heap := h' }) : wpAny (model prog w) A (pyNext (.ref z)) Q E s := by
  obtain ⟨Zz, Zi, ⟨a, b, Zo⟩, Z1, Z2⟩ := Z
  have ty : s.TypeIs (.ref z) "zip" := ⟨_, Zz, rfl⟩
  unfold pyNext
  refine wpAny_bind (wpAny_attempt (wpAny_callSpecial?_slot (name := Str.ofString "__next__") ty F.slot_zip_next (wpAny_call_entry F.slot_zip_next ty F.entry_zip_next ?_ (F.args_zip_next_1 _))))
  show wpAny _ _ (field (.ref z) 2 >>= _) _ _ s
  refine wpAny_bind (wpAny_field Zz rfl (x := .bool false) rfl (?_ : wpAny _ _ (field (.ref z) 3 >>= _) _ _ s))
  refine wpAny_bind (wpAny_field Zz rfl (x := .ref TI) rfl (wpAny_bind (wpAny_seqItems Zi rfl (?_ : wpAny _ _ (Builtin.SmallTypes.ownedTupleIsFree (.ref z) >>= _) _ _ s))))
  refine wpAny_bind ?_; unfold Builtin.SmallTypes.ownedTupleIsFree
  refine wpAny_bind (wpAny_field Zz rfl (x := .none) rfl (wpAny_pure ?_))
  simp only [if_true]
  refine wpAny_bind (wpAny_rule (wpAny_bind (wpAny_field Zz rfl (x := .ref TO) rfl (wpAny_bind (wpAny_setField_rec Zz (by simp) fun g1 Zz1 m1 => ?_)))))
  replace Zz1 : IsZip g1 z TI TO .ellipsis := Zz1
  refine wpAny_bind ?_; simp only [List.zipIdx_cons, List.zipIdx_nil, List.forIn_cons, List.forIn_nil]
  refine wpAny_bind (wpAny_bind (wpAny_onRaise (?_ : wpAny _ _ (Builtin.SmallTypes.nextOf (.ref j1) >>= _) _ _ _)))
  refine wpAny_bind (nt_item (Z1.extBut m1.extBut D.c) (k1.extBut m1.extBut (tup_ne_z k1 Zz)) ex fun g2 Z12 m2 => wpAny_pure ?_)
  have Zo2 : IsPair g2 TO a b := m2.extBut _ _ D.k (m1.extBut _ _ D.b Zo)
  refine wpAny_bind (wpAny_seqItems Zo2 rfl (wpAny_bind (wpAny_updateSeq_pair Zo2 fun g3 Zo3 m3 => wpAny_bind (wpAny_letGo (wpAny_pure ?_)))))
  replace Zo3 : IsPair g3 TO x b := Zo3
  refine wpAny_bind (wpAny_bind (wpAny_onRaise (?_ : wpAny _ _ (Builtin.SmallTypes.nextOf (.ref j2) >>= _) _ _ _)))
  refine wpAny_bind (nt_item (((Z2.extBut m1.extBut D.d).extBut m2.extBut D.m.symm).extBut m3.extBut D.l.symm) (((k2.extBut m1.extBut (tup_ne_z k2 Zz)).extBut m2.extBut (tup_ne_j k2 Z1)).extBut m3.extBut n2) ey fun g4 Z24 m4 => wpAny_pure ?_)
  have Zo4 : IsPair g4 TO x b := m4.extBut _ _ D.l Zo3
  refine wpAny_bind (wpAny_seqItems Zo4 rfl (wpAny_bind (wpAny_updateSeq_pair Zo4 fun g5 Zo5 m5 => wpAny_bind (wpAny_letGo (wpAny_pure (wpAny_pure ?_))))))
  replace Zo5 : IsPair g5 TO x y := Zo5
  refine wpAny_bind (wpAny_seqItems Zo5 rfl (wpAny_bind (wpAny_newTuple ?_)))
  have sz : g5.objs.size = s.heap.objs.size := by rw [m5.1, m4.1, m3.1, m2.1, m1.1]
  have Zz5 : IsZip g5 z TI TO .ellipsis := m5.extBut _ _ D.b.symm (m4.extBut _ _ D.d.symm (m3.extBut _ _ D.b.symm (m2.extBut _ _ D.c.symm Zz1)))
  have kp : ∀ c o, c ≠ z → c ≠ TO → c ≠ j1 → c ≠ j2 → s.heap.get? c = some o → g5.get? c = some o := fun c o c1 c2 c3 c4 e => m5.extBut _ _ c2 (m4.extBut _ _ c4 (m3.extBut _ _ c2 (m2.extBut _ _ c3 (m1.extBut _ _ c1 e))))
  have Z15 : g5.IsTupleIter j1 t1 (i + 1) := ((Z12.extBut m3.extBut D.k.symm).extBut m4.extBut D.m).extBut m5.extBut D.k.symm
  have Z25 : g5.IsTupleIter j2 t2 (i + 1) := Z24.extBut m5.extBut D.l.symm
  have zlt : g5.objs.size ≠ z := Nat.ne_of_gt (Heap.lt_size Zz5)
  show wpAny _ _ (Builtin.SmallTypes.ownedTupleHandOut (.ref z) (.ref g5.objs.size) >>= _) _ _ _
  refine wpAny_bind ?_; unfold Builtin.SmallTypes.ownedTupleHandOut
  refine wpAny_bind (wpAny_setField_rec (Heap.get?_push_of_some _ Zz5) (by simp) fun g7 Zz7 m7 => ?_)
  replace Zz7 : IsZip g7 z TI TO (rawInt g5.objs.size) := Zz7
  refine wpAny_setField_rec Zz7 (by simp) fun g8 Zz8 m8 => ?_
  replace Zz8 : IsZip g8 z TI TO (rawInt g5.objs.size) := Zz8
  have up : ∀ c o, c ≠ z → g5.get? c = some o → g8.get? c = some o := fun c o c1 e => m8.extBut _ _ c1 (m7.extBut _ _ c1 (Heap.get?_push_of_some _ e))
  have T8 : IsPair g8 g5.objs.size x y := m8.extBut _ _ zlt (m7.extBut _ _ zlt (Heap.get?_push_size _ rfl))
  have s8 : g8.objs.size = g5.objs.size + 1 := by rw [m8.1, m7.1, Heap.size_push]
  refine wpAny_pure ⟨_, rfl, wpAny_pure ?_⟩
  rw [sz] at Zz8 T8 s8
  show Q (some (.ref g5.objs.size)) _
  rw [sz]
  exact q g8 ⟨Zz8, up _ _ D.a (kp _ _ D.a D.e D.f D.g Zi), ⟨_, _, up _ _ D.b Zo5⟩, Z15.at fun o e => up _ o D.c e, Z25.at fun o e => up _ o D.d e⟩ T8 s8 fun c o c1 c2 c3 c4 e => up c o c1 (kp c o c1 c2 c3 c4 e)
theorem zt_end {Q : Option Value → Shared → Prop} (hh : A.handled = none) (D : ZNe z TI TO j1 j2) (Z : ZT z TI TO j1 j2 t1 t2 .none i i s.heap) (k1 : s.heap.IsTuple t1 xs) (k2 : s.heap.IsTuple t2 ys) (n2 : t2 ≠ TO) (en : xs[i]? = none ∨ ys[i]? = none)
    (q : ∀ h', (∀ c o, c ≠ z → c ≠ TO → c ≠ j1 → c ≠ j2 → s.heap.get? c = some o → h'.get? c = some o) → Q none { s with heap := h' }) : wpAny (model prog w) A (pyNext (.ref z)) Q E s := by
  obtain ⟨Zz, Zi, ⟨a, b, Zo⟩, Z1, Z2⟩ := Z
  have ty : s.TypeIs (.ref z) "zip" := ⟨_, Zz, rfl⟩
  have fin : ∀ (g' : Heap) (e : Addr), (∀ c o, c ≠ z → c ≠ TO → c ≠ j1 → c ≠ j2 → s.heap.get? c = some o → g'.get? c = some o) → (∃ o, g'.get? e = some o ∧ o.cls = .type "StopIteration") →
      wpAny (model prog w) A (do if ← isInstance (.ref e) (.type "StopIteration") then pure none else throw (.ref e) : Sem (Option Value)) Q E { s with heap := g' } := fun g' e kk ⟨o, ho, hc⟩ =>
    wpAny_bind (wpAny_isInstance (T := "StopIteration") (b := true) ⟨o, ho, hc⟩ isSubtype_stop (wpAny_pure (q g' kk)))
  unfold pyNext
  refine wpAny_bind (wpAny_attempt (wpAny_callSpecial?_slot (name := Str.ofString "__next__") ty F.slot_zip_next (wpAny_call_entry F.slot_zip_next ty F.entry_zip_next ?_ (F.args_zip_next_1 _))))
  show wpAny _ _ (field (.ref z) 2 >>= _) _ _ s
  refine wpAny_bind (wpAny_field Zz rfl (x := .bool false) rfl (?_ : wpAny _ _ (field (.ref z) 3 >>= _) _ _ s))
  refine wpAny_bind (wpAny_field Zz rfl (x := .ref TI) rfl (wpAny_bind (wpAny_seqItems Zi rfl (?_ : wpAny _ _ (Builtin.SmallTypes.ownedTupleIsFree (.ref z) >>= _) _ _ s))))
  refine wpAny_bind ?_; unfold Builtin.SmallTypes.ownedTupleIsFree
  refine wpAny_bind (wpAny_field Zz rfl (x := .none) rfl (wpAny_pure ?_))
  simp only [if_true]
  refine wpAny_bind (wpAny_rule (wpAny_bind (wpAny_field Zz rfl (x := .ref TO) rfl (wpAny_bind (wpAny_setField_rec Zz (by simp) fun g1 Zz1 m1 => ?_)))))
  replace Zz1 : IsZip g1 z TI TO .ellipsis := Zz1
  refine wpAny_bind ?_; simp only [List.zipIdx_cons, List.zipIdx_nil, List.forIn_cons, List.forIn_nil]
  refine wpAny_bind (wpAny_bind (wpAny_onRaise (?_ : wpAny _ _ (Builtin.SmallTypes.nextOf (.ref j1) >>= _) _ _ _)))
  cases ex : xs[i]? with
  | none =>
    refine wpAny_bind (nt_end hh (Z1.extBut m1.extBut D.c) (k1.extBut m1.extBut (tup_ne_z k1 Zz)) ex fun g2 e m2 ⟨oe, e1, e2⟩ => ?_)
    have Zz2 : IsZip g2 z TI TO .ellipsis := m2 _ _ D.c.symm Zz1
    have ne : e ≠ z := fun r => by subst r; rw [Zz2] at e1; cases e1; simp at e2
    exact wpAny_setField_rec Zz2 (by simp) fun g3 _ m3 => fin g3 e (fun c o c1 _ c3 _ r => m3.extBut _ _ c1 (m2 _ _ c3 (m1.extBut _ _ c1 r))) ⟨oe, m3.extBut _ _ ne e1, e2⟩
  | some x =>
    have ey : ys[i]? = none := by
      rcases en with r | r
      · rw [ex] at r; cases r
      · exact r
    refine wpAny_bind (nt_item (Z1.extBut m1.extBut D.c) (k1.extBut m1.extBut (tup_ne_z k1 Zz)) ex fun g2 Z12 m2 => wpAny_pure ?_)
    have Zo2 : IsPair g2 TO a b := m2.extBut _ _ D.k (m1.extBut _ _ D.b Zo)
    refine wpAny_bind (wpAny_seqItems Zo2 rfl (wpAny_bind (wpAny_updateSeq_pair Zo2 fun g3 Zo3 m3 => wpAny_bind (wpAny_letGo (wpAny_pure ?_)))))
    refine wpAny_bind (wpAny_bind (wpAny_onRaise (?_ : wpAny _ _ (Builtin.SmallTypes.nextOf (.ref j2) >>= _) _ _ _)))
    refine wpAny_bind (nt_end hh (((Z2.extBut m1.extBut D.d).extBut m2.extBut D.m.symm).extBut m3.extBut D.l.symm) (((k2.extBut m1.extBut (tup_ne_z k2 Zz)).extBut m2.extBut (tup_ne_j k2 Z1)).extBut m3.extBut n2) ey fun g4 e m4 ⟨oe, e1, e2⟩ => ?_)
    have Zz4 : IsZip g4 z TI TO .ellipsis := m4 _ _ D.d.symm (m3.extBut _ _ D.b.symm (m2.extBut _ _ D.c.symm Zz1))
    have ne : e ≠ z := fun r => by subst r; rw [Zz4] at e1; cases e1; simp at e2
    exact wpAny_setField_rec Zz4 (by simp) fun g5 _ m5 => fin g5 e (fun c o c1 c2 c3 c4 r => m5.extBut _ _ c1 (m4 _ _ c4 (m3.extBut _ _ c2 (m2.extBut _ _ c3 (m1.extBut _ _ c1 r))))) ⟨oe, m5.extBut _ _ ne e1, e2⟩
end
end

def Itz (K : PySem.W.Frag) (t1 t2 : Addr) : It :=
  ⟨fun i H => ∃ xs ys x y, SqT K H t1 xs ∧ SqT K H t2 ys ∧ xs[i]? = some x ∧ ys[i]? = some y,
   fun i H v H' => ∃ T x y, v = .ref T ∧ H T = none ∧ H' = upd H T (.tup [x, y]) ∧ (∀ xs, SqT K H t1 xs → xs[i]? = some x) ∧ ∀ ys, SqT K H t2 ys → ys[i]? = some y,
   fun i H => ∃ xs ys, SqT K H t1 xs ∧ SqT K H t2 ys ∧ (xs.length ≤ i ∨ ys.length ≤ i)⟩
theorem turn_zip {P : Program} {w : World} {K : PySem.W.Frag} {elts : List Expr} {kc : Nat} {tp : Pos} (z TI TO j1 j2 t1 t2 : Addr) (D : ZNe z TI TO j1 j2) (n1 : t1 ≠ TO) (n2 : t2 ≠ TO) :
    Turn P w K (.Tuple elts kc tp) (Itz K t1 t2) [z, TI, TO, j1, j2] z (fun i h => ZT z TI TO j1 j2 t1 t2 .none i i h) where
  mem := by simp
  obj := fun i h st b hb => by
    obtain ⟨Zz, Zi, ⟨u, v, Zo⟩, ⟨o1, e1, _, d1⟩, ⟨o2, e2, _, d2⟩⟩ := st
    simp only [List.mem_cons, List.not_mem_nil, or_false] at hb
    rcases hb with rfl | rfl | rfl | rfl | rfl
    · exact ⟨_, Zz, fun _ r => by cases r⟩
    · exact ⟨_, Zi, fun _ r => by cases r⟩
    · exact ⟨_, Zo, fun _ r => by cases r⟩
    · exact ⟨_, e1, fun _ r => by rw [d1] at r; cases r⟩
    · exact ⟨_, e2, fun _ r => by rw [d2] at r; cases r⟩
  keep := fun i h h' st k => by
    obtain ⟨Zz, Zi, ⟨u, v, Zo⟩, Z1, Z2⟩ := st
    exact ⟨k z (by simp) _ Zz, k TI (by simp) _ Zi, ⟨u, v, k TO (by simp) _ Zo⟩, Z1.at fun o e => k j1 (by simp) o e, Z2.at fun o e => k j2 (by simp) o e⟩
  item := by
    intro X hP hw hK hc i pins s σ H E I hf st hg
    subst hP hw hK
    obtain ⟨xs, ys, x, y, h1, h2, ex, ey⟩ := hg
    obtain ⟨us, r1, p1, _⟩ := I.tuple h1
    obtain ⟨vs, r2, p2, _⟩ := I.tuple h2
    obtain ⟨ux, eu, rx⟩ := r1.get ex
    obtain ⟨uy, ev, ry⟩ := r2.get ey
    refine zt_item D st (xs := us.toArray) (ys := vs.toArray) p1 p2 n1 n2 (x := ux) (y := uy) (by simpa using eu) (by simpa using ev) fun h' st' pr sz kk => ⟨_, rfl, ?_⟩
    obtain ⟨Zz, Zi, ⟨ua, ub, Zo⟩, Z1, Z2⟩ := st'
    refine wpAny_letOwnedTupleGo_zip Zz fun h2' Zz' sb => ?_
    have hTz : s.heap.objs.size ≠ z := Nat.ne_of_gt (Heap.lt_size st.z)
    have kk2 : ∀ c o, c ≠ z → c ≠ TO → c ≠ j1 → c ≠ j2 → s.heap.get? c = some o → h2'.get? c = some o := fun c o c1 c2 c3 c4 e => (sb.2 c c1).trans (kk c o c1 c2 c3 c4 e)
    have prT : h2'.get? s.heap.objs.size = some { cls := .type "tuple", data := .seq #[ux, uy] } := (sb.2 _ hTz).trans pr
    have hT : H s.heap.objs.size = none := I.hok.fresh (Nat.le_refl _)
    have neC : ∀ b, b ∉ [z, TO, j1, j2] → b ≠ z ∧ b ≠ TO ∧ b ≠ j1 ∧ b ≠ j2 := fun b hb => by simpa using hb
    have trk : ∀ b u, H b = some u → b ≠ z ∧ b ≠ TO ∧ b ≠ j1 ∧ b ≠ j2 := fun b u e => by
      refine ⟨?_, ?_, ?_, ?_⟩ <;> rintro rfl
      · rw [(hf b (by simp)).1] at e; cases e
      · rw [(hf b (by simp)).1] at e; cases e
      · rw [(hf b (by simp)).1] at e; cases e
      · rw [(hf b (by simp)).1] at e; cases e
    have ltT : ∀ b o, s.heap.get? b = some o → b ≠ s.heap.objs.size := fun b o e => Nat.ne_of_lt (Heap.lt_size e)
    have u : Un (frs X.stack) [z, TO, j1, j2] H (upd H s.heap.objs.size (.tup [x, y])) s.heap h2' :=
      ⟨fun b o e n _ hb => by obtain ⟨c1, c2, c3, c4⟩ := neC b hb; exact kk2 b o c1 c2 c3 c4 e, fun b o e n _ hb => by obtain ⟨c1, c2, c3, c4⟩ := neC b hb; exact ⟨o.slots, kk2 b o c1 c2 c3 c4 e⟩,
        fun b o e n hb => by rw [upd_ne (ltT b o e)]; exact n, fun b o e hb => by obtain ⟨c1, c2, c3, c4⟩ := neC b hb; exact ⟨o, kk2 b o c1 c2 c3 c4 e⟩,
        fun b ws e => by rw [upd_ne (ne_of_none e hT)]; exact e, fun b o ws e => by rw [upd_ne (ne_of_none e hT)]; exact e, fun b ps e => ⟨#[], by rw [upd_ne (ne_of_none e hT), e]; simp⟩⟩
    have hok : HOk X.prog X.w (upd H s.heap.objs.size (.tup [x, y])) h2' := fun b ob e => by
      by_cases hb : b = s.heap.objs.size
      · subst hb
        rw [upd_same] at e; cases e
        exact ⟨by show 2 ≤ sizeLine; decide, [ux, uy], .cons rx (.cons ry .nil), _, prT, rfl, 0, rfl⟩
      · rw [upd_ne hb] at e
        refine (I.hok b ob e).stay (fun c v hc' qc => ?_) (fun c q => by rw [upd_ne (ne_of_none q hT)]; exact q) fun c ws q => by rw [upd_ne (ne_of_none q hT)]; exact q
        have : ∃ o, H c = some o := by
          rcases hc' with rfl | hc'
          · exact ⟨_, e⟩
          · exact ⟨_, hc'⟩
        obtain ⟨o, ho⟩ := this
        obtain ⟨c1, c2, c3, c4⟩ := trk c o ho
        exact kk2 c v c1 c2 c3 c4 qc
    refine ⟨.ref s.heap.objs.size, upd H s.heap.objs.size (.tup [x, y]), ?_, rfl, ⟨_, x, y, rfl, hT, rfl, fun xs' h => by rw [I.tuple_inj h h1]; exact ex, fun ys' h => by rw [I.tuple_inj h h2]; exact ey⟩,
      ⟨Zz', (sb.2 _ D.a).trans Zi, ⟨_, _, (sb.2 _ D.b).trans Zo⟩, Z1.at fun o e => (sb.2 _ D.c).trans e, Z2.at fun o e => (sb.2 _ D.d).trans e⟩, fun b hb => ?_⟩
    · refine I.call' (s' := { s with heap := h2' }) (ch := [z, TO, j1, j2]) rfl u hok I.bare fun b hb => ?_
      obtain ⟨_, z1, z2, z3, z4, z5⟩ := hf b (by simp only [List.mem_cons, List.not_mem_nil, or_false] at hb ⊢; rcases hb with r | r | r | r <;> simp [r])
      exact ⟨z3, z1, z4, z5⟩
    · obtain ⟨o, e, _⟩ : ∃ o, s.heap.get? b = some o ∧ True := by
        obtain ⟨Zz, Zi, ⟨u, v, Zo⟩, ⟨o1, e1, _, d1⟩, ⟨o2, e2, _, d2⟩⟩ := st
        simp only [List.mem_cons, List.not_mem_nil, or_false] at hb
        rcases hb with rfl | rfl | rfl | rfl | rfl
        · exact ⟨_, Zz, trivial⟩
        · exact ⟨_, Zi, trivial⟩
        · exact ⟨_, Zo, trivial⟩
        · exact ⟨_, e1, trivial⟩
        · exact ⟨_, e2, trivial⟩
      rw [upd_ne (ltT b o e)]; exact (hf b hb).1
  done := by
    intro X hP hw hK hc i pins s σ H E I hf st hg
    subst hP hw hK
    obtain ⟨xs, ys, h1, h2, en⟩ := hg
    obtain ⟨us, r1, p1, _⟩ := I.tuple h1
    obtain ⟨vs, r2, p2, _⟩ := I.tuple h2
    have l1 := r1.length
    have l2 := r2.length
    refine zt_end (I.ok.hd hc) D st (xs := us.toArray) (ys := vs.toArray) p1 p2 n2 (by rcases en with r | r; exact .inl (by simp; omega); exact .inr (by simp; omega)) fun h' kk => ⟨rfl, ?_⟩
    have neC : ∀ b, b ∉ [z, TO, j1, j2] → b ≠ z ∧ b ≠ TO ∧ b ≠ j1 ∧ b ≠ j2 := fun b hb => by simpa using hb
    have u : Un (frs X.stack) [z, TO, j1, j2] H H s.heap h' :=
      ⟨fun b o e n _ hb => by obtain ⟨c1, c2, c3, c4⟩ := neC b hb; exact kk b o c1 c2 c3 c4 e, fun b o e n _ hb => by obtain ⟨c1, c2, c3, c4⟩ := neC b hb; exact ⟨o.slots, kk b o c1 c2 c3 c4 e⟩,
        fun b o e n hb => n, fun b o e hb => by obtain ⟨c1, c2, c3, c4⟩ := neC b hb; exact ⟨o, kk b o c1 c2 c3 c4 e⟩, fun b ws e => e, fun b o ws e => e, fun b ps e => ⟨#[], by rw [e]; simp⟩⟩
    have hok : HOk X.prog X.w H h' := fun b ob e => by
      refine (I.hok b ob e).stay (fun c v hc' qc => ?_) (fun c q => q) fun c ws q => q
      have : ∃ o, H c = some o := by
        rcases hc' with rfl | hc'
        · exact ⟨_, e⟩
        · exact ⟨_, hc'⟩
      obtain ⟨o, ho⟩ := this
      have nn : ∀ d ∈ [z, TI, TO, j1, j2], c ≠ d := fun d hd r => by subst r; rw [(hf c hd).1] at ho; cases ho
      exact kk c v (nn _ (by simp)) (nn _ (by simp)) (nn _ (by simp)) (nn _ (by simp)) qc
    refine I.call' (s' := { s with heap := h' }) (ch := [z, TO, j1, j2]) rfl u hok I.bare fun b hb => ?_
    obtain ⟨_, z1, z2, z3, z4, z5⟩ := hf b (by simp only [List.mem_cons, List.not_mem_nil, or_false] at hb ⊢; rcases hb with r | r | r | r <;> simp [r])
    exact ⟨z3, z1, z4, z5⟩
  self := fun _ _ _ _ _ st h => wpAny_pyIter_zip st.z h

def zp1 (h : Heap) (t : Addr) : Heap := h.push { cls := .type "tuple_iterator", data := .fields #[.ref t, .int 0 0] }
theorem zp1_size (h : Heap) (t : Addr) : (zp1 h t).objs.size = h.objs.size + 1 := Heap.size_push ..
def zp5 (h : Heap) (t u : Addr) : Heap := (((zp1 (zp1 h t) u).push { cls := .type "tuple", data := .seq #[.ref h.objs.size, .ref (zp1 h t).objs.size] }).push { cls := .type "tuple", data := .seq #[.none, .none] }).push
  { cls := .type "zip", data := .fields #[.none, .bool false, .bool false, .ref (h.objs.size + 2), .ref (h.objs.size + 3)] }
theorem zip_new (t u : Addr) (xs ys : Array Value) : Meets (Builtin.«zip.__new__» ⟨[.type "zip", .ref t, .ref u], []⟩) (fun _ R s => s.heap.IsTuple t xs ∧ s.heap.IsTuple u ys ∧ R (.ok (.ret (.ref (s.heap.objs.size + 4)))) { s with heap := zp5 s.heap t u }) :=
  .of_wp fun prog w A R s h => by
    obtain ⟨hp, g, d, tk, os⟩ := s; obtain ⟨k1, k2, h⟩ := h
    have hs := sub_zip
    have z1 : (hp.push { cls := .type "tuple_iterator", data := .fields #[.ref t, .int 0 0] }).objs.size = hp.objs.size + 1 := Heap.size_push ..
    have K1 : Heap.IsTuple (Shared.heap ⟨hp, g, d, tk, os⟩) t xs := k1
    have K2 : Heap.IsTuple (Shared.heap ⟨hp.push { cls := .type "tuple_iterator", data := .fields #[.ref t, .int 0 0] }, g, d, tk, os⟩) u ys := k2.push _
    wp_walk using wpAny_pyIter_tuple K1, wpAny_pyIter_tuple K2
    refine ⟨_, rfl, ?_⟩
    unfold zp5 zp1 at h
    simp only [Heap.size_push] at h ⊢
    exact h
end L2
set_option Elab.async false
set_option linter.all false
set_option maxRecDepth 100000
namespace L2
open PySem PySem.Spec PyProof.Rows
section
variable {X : Cx}
def iZip (K : PySem.W.Frag) (t : TA) : TI := fun σ H R => t σ H fun vs H1 => ∃ t1 t2, vs = [.ref t1, .ref t2] ∧ (∃ xs, SqT K H1 t1 xs) ∧ (∃ ys, SqT K H1 t2 ys) ∧ R (Itz K t1 t2) H1
theorem zp5_get {h : Heap} {t u : Addr} : IsZip (zp5 h t u) (h.objs.size + 4) (h.objs.size + 2) (h.objs.size + 3) .none ∧ IsPair (zp5 h t u) (h.objs.size + 2) (.ref h.objs.size) (.ref (h.objs.size + 1)) ∧ IsPair (zp5 h t u) (h.objs.size + 3) .none .none ∧
    (zp5 h t u).IsTupleIter h.objs.size t 0 ∧ (zp5 h t u).IsTupleIter (h.objs.size + 1) u 0 ∧ ∀ c o, h.get? c = some o → (zp5 h t u).get? c = some o := by
  have z1 := zp1_size h t
  have z2 : (zp1 (zp1 h t) u).objs.size = h.objs.size + 2 := by rw [zp1_size, z1]
  have z3 : ((zp1 (zp1 h t) u).push { cls := .type "tuple", data := .seq #[.ref h.objs.size, .ref (zp1 h t).objs.size] }).objs.size = h.objs.size + 3 := by rw [Heap.size_push, z2]
  have z4 : (((zp1 (zp1 h t) u).push { cls := .type "tuple", data := .seq #[.ref h.objs.size, .ref (zp1 h t).objs.size] }).push { cls := .type "tuple", data := .seq #[.none, .none] }).objs.size = h.objs.size + 4 := by rw [Heap.size_push, z3]
  unfold zp5
  refine ⟨?_, ?_, ?_, ?_, ?_, fun c o e => ?_⟩
  · rw [← z4]; exact Heap.get?_push_size _ rfl
  · refine Heap.get?_push_of_some _ (Heap.get?_push_of_some _ ?_)
    rw [← z2, ← z1]; exact Heap.get?_push_size _ rfl
  · refine Heap.get?_push_of_some _ ?_
    rw [← z3]; exact Heap.get?_push_size _ rfl
  · exact ⟨_, Heap.get?_push_of_some _ (Heap.get?_push_of_some _ (Heap.get?_push_of_some _ (Heap.get?_push_of_some _ (Heap.get?_push_size _ rfl)))), rfl, rfl⟩
  · refine ⟨{ cls := .type "tuple_iterator", data := .fields #[.ref u, .int 0 0] }, Heap.get?_push_of_some _ (Heap.get?_push_of_some _ (Heap.get?_push_of_some _ ?_)), rfl, rfl⟩
    rw [← z1]; exact Heap.get?_push_size _ rfl
  · exact Heap.get?_push_of_some _ (Heap.get?_push_of_some _ (Heap.get?_push_of_some _ (Heap.get?_push_of_some _ (Heap.get?_push_of_some _ e))))
theorem nne {a b : Nat} (h : a < b) : a ≠ b := Nat.ne_of_lt h
theorem pi_zip {a b : Expr} {ta : TA} {p pos tp : Pos} {elts : List Expr} {kc : Nat} (hg : Gl X "zip") (hm : X.mg "zip" = none) (ha : PA X [a, b] ta) (hs : starEach [a, b] X.env = [(false, eval a X.env), (false, eval b X.env)] := by rfl) (hs2 : starEach [b] X.env = [(false, eval b X.env)] := by rfl) :
    PI X (.Tuple elts kc tp) (.Call (.Name "zip" p) [a, b] [] pos) (iZip X.K ta) := by
  intro pins s σ H R I h
  refine Call_ (ld_blt I hg hm (by decide +kernel : bootBuiltins "zip" = some (.type "zip")) (PyProof.Rows.callWith_type1 (thn (ha pos pins s σ H _ I h) fun us s1 ⟨vs, H1, I1, r1, q1⟩ => ?_) (by rw [hs, hs2]) (by rw [hs2]; rfl)))
  obtain ⟨t1, t2, e, ⟨xs, k1⟩, ⟨ys, k2⟩, q⟩ := q1
  subst e
  obtain ⟨u1, u2, rfl, ru1, ru2⟩ := vals2 r1
  cases (show u1 = Value.ref t1 from ru1)
  cases (show u2 = Value.ref t2 from ru2)
  obtain ⟨as, ra, pa, _⟩ := I1.tuple k1
  obtain ⟨bs, rb, pb, _⟩ := I1.tuple k2
  refine callType_new F.called_zip (by decide) (F.typeCall_zip_2 _ _) (F.newCall_zip_2 _ _) (fun obj => F.args_object_init_3 obj _ _) F.entry_zip_new (zip_new t1 t2 as.toArray bs.toArray) ⟨pa, pb, ?_⟩
  obtain ⟨g1, g2, g3, g4, g5, g6⟩ := zp5_get (h := s1.heap) (t := t1) (u := t2)
  have l1 : t1 < s1.heap.objs.size := by obtain ⟨o, e, _⟩ := pa; exact Heap.lt_size e
  have l2 : t2 < s1.heap.objs.size := by obtain ⟨o, e, _⟩ := pb; exact Heap.lt_size e
  show _ ∧ _
  refine ⟨⟨_, g1, rfl⟩, wpAny_pyIter_zip g1 ⟨_, [s1.heap.objs.size + 4, s1.heap.objs.size + 2, s1.heap.objs.size + 3, s1.heap.objs.size, s1.heap.objs.size + 1], _, _, H1, rfl, I1.kept (t' := s1.toks) g6,
    turn_zip (s1.heap.objs.size + 4) (s1.heap.objs.size + 2) (s1.heap.objs.size + 3) s1.heap.objs.size (s1.heap.objs.size + 1) t1 t2 ?_ ?_ ?_, ⟨g1, g2, ⟨_, _, g3⟩, g4, g5⟩, fun b hb => ?_, q⟩⟩
  · constructor <;> (intro z; simp only [Nat.add_right_inj, Nat.add_eq_left, Nat.left_eq_add] at z; try omega)
  · exact nne (Nat.lt_of_lt_of_le l1 (Nat.le_add_right _ _))
  · exact nne (Nat.lt_of_lt_of_le l2 (Nat.le_add_right _ _))
  · have hb' : s1.heap.objs.size ≤ b := by
      simp only [List.mem_cons, List.not_mem_nil, or_false] at hb
      rcases hb with rfl | rfl | rfl | rfl | rfl
      · exact Nat.le_add_right _ _
      · exact Nat.le_add_right _ _
      · exact Nat.le_add_right _ _
      · exact Nat.le_refl _
      · exact Nat.le_add_right _ _
    exact I1.fpOk hb' (I1.hok.fresh hb')

theorem bls_get : ∀ {bs : List Bool} {us : List Value} {i : Nat} {v : Value}, Vals (bs.map V.bl) us → us[i]? = some v → ∃ b, bs[i]? = some b ∧ v = .bool b
  | [], _, _, _, r, e => by cases r; simp at e
  | b :: bs, _, i, v, r, e => by
    cases r with
    | cons h t =>
      cases i with
      | zero => simp at e; subst e; exact ⟨b, rfl, h⟩
      | succ i => obtain ⟨c, e1, e2⟩ := bls_get (i := i) t (by simpa using e); exact ⟨c, by simpa using e1, e2⟩
theorem all_range : ∀ (bs : List Bool) (k : Nat), ((List.range' k bs.length).all fun i => (bs[i - k]?).getD true) = bs.all id
  | [], k => rfl
  | b :: bs, k => by
    rw [List.length_cons, List.range'_succ, List.all_cons, List.all_cons]
    simp only [Nat.sub_self, List.getElem?_cons_zero, Option.getD_some, id]
    congr 1
    rw [← all_range bs (k + 1)]
    apply Bool.eq_iff_iff.mpr
    simp only [List.all_eq_true, List.mem_range'_1]
    constructor
    · intro h i hi
      have := h i hi
      rw [show i - k = (i - (k + 1)) + 1 by omega, List.getElem?_cons_succ] at this; exact this
    · intro h i hi
      rw [show i - k = (i - (k + 1)) + 1 by omega, List.getElem?_cons_succ]; exact h i hi
theorem call_all (hc : X.calm = true) : CallR X (.builtin "all") (fun xs H Q => ∃ (p : Addr) (bs : List Bool), xs = [.ref p] ∧ SqL X.K H p (bs.map V.bl) ∧ Q (.bl (bs.all id)) H) := by
  intro pins s σ H xs us Q I r h
  obtain ⟨p, bs, rfl, hq, q⟩ := h
  obtain ⟨u, rfl, ru⟩ := vals1 r
  cases ru
  obtain ⟨its, rv, pl, _⟩ := I.list hq
  have hlt : p < s.heap.objs.size := by obtain ⟨o, n, e, _⟩ := pl; exact Heap.lt_size e
  have hl := rv.length
  rw [List.length_map] at hl
  refine call_all_walk (wpAny_pyIter_list pl.isList ⟨s.heap.objs.size, _, _, _, _, _, fun i => (bs[i]?).getD true, rfl, Walks.list (A := X.A.in1) (show X.A.in1.handled = none from I.ok.hd hc) s.heap.objs.size p (Nat.ne_of_lt hlt) its.toArray,
    ⟨⟨_, Heap.get?_push_size _ rfl, rfl, rfl⟩, pl.isList.push _⟩, fun i v s' Q' E' hv hQ' => ?_, fun h' tk k => ⟨.bl (bs.all id), H, I.kept fun b o e => k b o (by simpa using Nat.ne_of_lt (Heap.lt_size e)) (Heap.get?_push_of_some _ e), ?_, q⟩⟩)
  · obtain ⟨b, e1, rfl⟩ := bls_get rv (by simpa using hv)
    simp only [e1, Option.getD_some] at hQ'
    exact wpAny_pure hQ'
  · have := all_range bs 0
    simp only [Nat.sub_zero] at this
    rw [show its.toArray.size = bs.length by simp [hl], List.range_eq_range', this]; rfl

end
end L2
set_option Elab.async false
set_option linter.all false
set_option maxRecDepth 100000
namespace HT
open PySem PyProof.Rows
section
variable {prog : Program} {w : World} {A : Around} {E : Value → Shared → Prop} {s : Shared}
theorem whole_cut {t sl : Addr} {items : Array Value} {vl vu : Value} {lo hi : Option Int} {Q : Value → Shared → Prop} (ht : IsTup s.heap t items) (hs : s.heap.IsSliceOf sl vl vu .none) (pl : IsPart vl lo) (pu : IsPart vu hi)
    (hw : sIx items.size 0 lo = 0 ∧ sIx items.size items.size hi = items.size) (h : Q (.ref t) s) : wpAny (model prog w) A (getItem (.ref t) (.ref sl)) Q E s := by
  obtain ⟨os, hos, hcs, hds⟩ := id hs
  have hTs : s.TypeIs (.ref sl) "slice" := ⟨os, hos, hcs⟩
  unfold getItem
  try with_reducible refine wpAny_holding ?_
  first | refine wpAny_bind (wpAny_pure ?_) | skip
  refine wpAny_bind (wpAny_sequenceKey ht.typeIs (by decide) ?_)
  refine wpAny_bind (wpAny_callSpecial?_slot (name := Str.ofString "__getitem__") ht.typeIs PyProof.Rows.slot_tuple_getitem
    (wpAny_call_entry PyProof.Rows.slot_tuple_getitem ht.typeIs entry_tuple_getitem ?_ (args_tuple_getitem _ _)))
  show wpAny _ _ (Builtin.Tuple.tupleItemsOf (.ref t) >>= _) _ _ s
  refine wpAny_bind (tupleItemsOf_ ht ?_)
  refine wpAny_bind (wpAny_typeOf hTs ?_)
  rw [if_pos (by decide)]
  refine wpAny_bind (sliceApplied_gen hs pl pu ?_)
  show wpAny _ _ (if (((sIx items.size 0 lo : Nat) : Int) == 0 && (1 : Int) == 1 && (sIx items.size items.size hi - sIx items.size 0 lo) == items.size) = true then _ else _) _ _ s
  rw [if_pos (by rw [hw.1, hw.2]; simp)]
  refine wpAny_bind ?_
  unfold Builtin.Tuple.tupleIsExact
  refine wpAny_bind (wpAny_typeOf ht.typeIs (wpAny_pure ?_))
  rw [if_pos (by decide)]
  first
    | exact wpAny_bind (wpAny_rule (wpAny_pure ⟨_, rfl, wpAny_pure h⟩))
    | exact wpAny_bind (wpAny_rule (wpAny_bind (wpAny_pure (wpAny_pure ⟨_, rfl, wpAny_pure h⟩))))
    | exact wpAny_bind (wpAny_rule (wpAny_bind (wpAny_pure ⟨_, rfl, wpAny_pure h⟩)))
end
end HT
namespace L2
open PySem PySem.Spec PyProof.Rows
section
variable {X : Cx}
def rSlW (K : PySem.W.Frag) : V → Option Int → Option Int → Hp → VK → Prop := fun x lo hi H Q => ∃ a xs, x = .ref a ∧ SqT K H a xs ∧ (HT.sIx xs.length 0 lo = 0 ∧ HT.sIx xs.length xs.length hi = xs.length) ∧ Q x H
theorem sl_whole : SlR X (rSlW X.K) := by
  intro pins s σ H x v vl vu lo hi sl Q I rx hs pl pu h
  obtain ⟨a, xs, rfl, hx, hw, q⟩ := h
  cases rx
  obtain ⟨its, r, ht, hz⟩ := I.tuple hx
  have hlen : its.toArray.size = xs.length := by rw [List.size_toArray]; exact r.length.symm
  exact ⟨"tuple", _, PyProof.Rows.slot_tuple_getitem.lookup, ht.typeIs, HT.whole_cut ht hs pl pu (by rw [hlen]; exact hw) ⟨.ref a, H, I, rfl, q⟩⟩
end
end L2
set_option Elab.async false
set_option linter.all false
set_option maxRecDepth 100000
namespace L2
open PySem PySem.Spec PyProof.Rows
section
variable {J : It} {D : Addr} {N n : Nat} {js : List Nat} {σ : St} {g : TG} {tt : TT} {te : TE} {Q : VK} {H : Hp}
theorem comp_by (Pv : Nat → Hp → List V → Prop) (h0 : Pv 0 (upd H D (.lst [])) []) (hgo : ∀ i H ys, i < N → Pv i H ys → J.go i H) (hst : ∀ H ys, Pv N H ys → J.stop N H)
    (hs : ∀ i x zs H2 H3 ys (Nx : Hp → List V → Prop), (∀ H ys, Pv (i + 1) H ys → Nx H ys) → i < N → zs.length = n → J.yld i H2 x H3 → Pv i H2 ys → H2 D = some (.lst ys) → g x zs H3 fun σ4 H4 => tt σ4 H4 fun b H5 =>
      if b = true then te σ4 H5 (fun v H6 => H6 D = some (.lst ys) ∧ ys.length < sizeLine ∧ Nx (upd H6 D (.lst (ys ++ [v]))) (ys ++ [v])) else H5 D = some (.lst ys) ∧ Nx H5 ys)
    (hd : ∀ H ys, Pv N H ys → H D = some (.lst ys) → Q (.ref D) H) :
    ∃ W : Nat → Nat → Hp → List V → Prop, (∃ m, W 0 m (upd H D (.lst [])) []) ∧ ∀ i m H2 ys, W i m H2 ys → H2 D = some (.lst ys) → (J.stop i H2 ∧ Q (.ref D) H2) ∨
      (J.go i H2 ∧ ∀ σB x H3, σB.length = n → J.yld i H2 x H3 → g x σB H3 fun σ4 H4 => tt σ4 H4 fun b H5 => if b = true then te σ4 H5 (fun v H6 => H6 D = some (.lst ys) ∧ ys.length < sizeLine ∧ ∃ m', m' < m ∧ W (i + 1) m' (upd H6 D (.lst (ys ++ [v]))) (ys ++ [v]))
        else H5 D = some (.lst ys) ∧ ∃ m', m' < m ∧ W (i + 1) m' H5 ys) := by
  refine ⟨fun i m H ys => m = N - i ∧ i ≤ N ∧ Pv i H ys, ⟨N, by simp, Nat.zero_le _, h0⟩, ?_⟩
  rintro i m H2 ys ⟨rfl, hi, p⟩ hD
  by_cases hlt : i < N
  · exact .inr ⟨hgo i H2 ys hlt p, fun σB x H3 hB y => hs i x σB H2 H3 ys (fun H' ys' => ∃ m', m' < N - i ∧ (m' = N - (i + 1) ∧ i + 1 ≤ N ∧ Pv (i + 1) H' ys')) (fun H' ys' z => ⟨N - (i + 1), by omega, rfl, hlt, z⟩) hlt hB y p hD⟩
  · obtain rfl : i = N := by omega
    exact .inl ⟨hst H2 ys p, hd H2 ys p hD⟩
theorem compC_by (Pv : Nat → Hp → List V → Prop) (h0 : Pv 0 (upd H D (.lst [])) []) (hgo : ∀ i H ys, i < N → Pv i H ys → J.go i H) (hst : ∀ H ys, Pv N H ys → J.stop N H)
    (hs : ∀ i x zs H2 H3 ys (Nx : Hp → List V → Prop), (∀ H ys, Pv (i + 1) H ys → Nx H ys) → i < N → zs.length = n → J.yld i H2 x H3 → Pv i H2 ys → H2 D = some (.lst ys) → g x (zs ++ caps σ js) H3 fun σ4 H4 => σ4.drop n = caps σ js ∧ tt σ4 H4 fun b H5 =>
      if b = true then te σ4 H5 (fun v H6 => H6 D = some (.lst ys) ∧ ys.length < sizeLine ∧ Nx (upd H6 D (.lst (ys ++ [v]))) (ys ++ [v])) else H5 D = some (.lst ys) ∧ Nx H5 ys)
    (hd : ∀ H ys, Pv N H ys → H D = some (.lst ys) → Q (.ref D) H) :
    ∃ W : Nat → Nat → Hp → List V → Prop, (∃ m, W 0 m (upd H D (.lst [])) []) ∧ ∀ i m H2 ys, W i m H2 ys → H2 D = some (.lst ys) → (J.stop i H2 ∧ Q (.ref D) H2) ∨
      (J.go i H2 ∧ ∀ zs x H3, zs.length = n → J.yld i H2 x H3 → g x (zs ++ caps σ js) H3 fun σ4 H4 => σ4.drop n = caps σ js ∧ tt σ4 H4 fun b H5 => if b = true then te σ4 H5 (fun v H6 => H6 D = some (.lst ys) ∧ ys.length < sizeLine ∧ ∃ m', m' < m ∧ W (i + 1) m' (upd H6 D (.lst (ys ++ [v]))) (ys ++ [v]))
        else H5 D = some (.lst ys) ∧ ∃ m', m' < m ∧ W (i + 1) m' H5 ys) := by
  refine ⟨fun i m H ys => m = N - i ∧ i ≤ N ∧ Pv i H ys, ⟨N, by simp, Nat.zero_le _, h0⟩, ?_⟩
  rintro i m H2 ys ⟨rfl, hi, p⟩ hD
  by_cases hlt : i < N
  · exact .inr ⟨hgo i H2 ys hlt p, fun σB x H3 hB y => hs i x σB H2 H3 ys (fun H' ys' => ∃ m', m' < N - i ∧ (m' = N - (i + 1) ∧ i + 1 ≤ N ∧ Pv (i + 1) H' ys')) (fun H' ys' z => ⟨N - (i + 1), by omega, rfl, hlt, z⟩) hlt hB y p hD⟩
  · obtain rfl : i = N := by omega
    exact .inl ⟨hst H2 ys p, hd H2 ys p hD⟩
end
theorem atI0 {α : Type} (a : α) (r : List α) : atI (a :: r) 0 = some a := atI_nat (xs := a :: r) (j := 0) rfl
theorem atI1 {α : Type} (a b : α) (r : List α) : atI (a :: b :: r) 1 = some b := atI_nat (xs := a :: b :: r) (j := 1) rfl
theorem same_mk {H H2 H3 : Hp} {D : Addr} {o : HO} (hD : H D = none) (e : Same H H2) (e2 : Same H2 H3) : Same H (upd H3 D o) := fun b u z => by rw [upd_ne (ne_of_none z hD)]; exact e2 _ _ (e _ _ z)
end L2
set_option Elab.async false
set_option linter.all false
set_option maxRecDepth 100000
namespace KK
open PySem L2
def top (i : Nat) : Stmt := PySem.Challenge.pw_clackrow_k04_what_is_no_row.main.body.getD i (.Pass ⟨0, 0, 0, 0⟩)
abbrev s_is_whole : Stmt := top 1
abbrev s_is_tuple : Stmt := top 2
abbrev s_greatest_divisor : Stmt := top 3
abbrev s_is_ratio : Stmt := top 4
abbrev s_less : Stmt := top 5
abbrev s_is_wall : Stmt := top 9
abbrev s_is_wall_pair : Stmt := top 10
abbrev s_walls_good : Stmt := top 11
abbrev s_is_ball_form : Stmt := top 12
abbrev s_is_weight : Stmt := top 13
abbrev s_is_ball : Stmt := top 14
abbrev s_follows : Stmt := top 15
abbrev s_is_ordered : Stmt := top 16
abbrev s_keeps_side : Stmt := top 17
abbrev s_is_between : Stmt := top 18
abbrev s_is_row : Stmt := top 19
abbrev s_law_cell : Stmt := top 21
abbrev s_law_dig : Stmt := top 22
abbrev s_law_next : Stmt := top 23
abbrev s_law_lowest : Stmt := top 24
abbrev s_law_far : Stmt := top 25
abbrev s_law_ratio : Stmt := top 26
abbrev s_law_row : Stmt := top 27
abbrev s_law_less : Stmt := top 28
abbrev s_law_sum : Stmt := top 29
abbrev s_law_product : Stmt := top 30
abbrev s_law_bound : Stmt := top 31
abbrev s_law_bounds : Stmt := top 32
abbrev s_law_put : Stmt := top 33
abbrev s_law_bent_balls : Stmt := top 34
abbrev s_law_mixed : Stmt := top 35
abbrev s_law_odd_bounds : Stmt := top 36
abbrev s_law_longer : Stmt := top 37
abbrev s_law_beside : Stmt := top 38
abbrev s_law : Stmt := top 39
end KK
set_option Elab.async false
set_option linter.all false
set_option maxRecDepth 100000
namespace KK
open PySem L2
structure TxB (K : PySem.W.Frag) (mg : Str → Option Value) : Prop where
  ii : PySem.W.kitOne K (.type "int") (.type "int") = some true
  ib : PySem.W.kitOne K (.type "int") (.type "bool") = some false
  nIs : mg "isinstance" = none
  nInt : mg "int" = none
  nBool : mg "bool" = none
  nAbs : mg "abs" = none
  nLen : mg "len" = none
  nMax : mg "max" = none
  nMin : mg "min" = none
  nRange : mg "range" = none
  nTuple : mg "tuple" = none
  nSum : mg "sum" = none
section
variable {P : Program} {w : World} {K : PySem.W.Frag} {mg : Str → Option Value} {base : Heap}

theorem sc_whole : FnScope ["thing"] ["thing"] (defScope s_is_whole) := ⟨rfl, rfl, rfl, by decide +kernel, rfl, by decide +kernel, by decide +kernel⟩
def spGcd : Sp := fun vs H Q _ => ∃ a b : Int, vs = [.int a, .int b] ∧ 0 ≤ a ∧ 0 ≤ b ∧ Q (.int (Int.gcd a b : Nat)) H
theorem sc_gcd : FnScope ["one", "other"] ["one", "other"] (defScope s_greatest_divisor) := ⟨rfl, rfl, rfl, by decide +kernel, rfl, by decide +kernel, by decide +kernel⟩
theorem ok_gcd (D : Df K mg "greatest_divisor" s_greatest_divisor ["one", "other"] []) : Cal P w K mg base "greatest_divisor" 1 ["one", "other"] [] spGcd := by
  refine D.cal (k := 0) sc_gcd (fun vs H Q E h => by obtain ⟨a, b, rfl, _⟩ := h; rfl) (fun f cdv A outer s H vs Q E hr h => ?_)
  obtain ⟨a, b, rfl, ha, hb, k⟩ := h
  refine ⟨_, pss_cons (ps_while PassesOwn.never (pt_cmpR op_gt (pv 1) pe_int (nomark _))
      (pss_one (ps_par (i := 0) (j := 1) rfl sc_gcd.nd rfl rfl (by decide) rfl rfl (pa_cons (pv 1) (pa_cons (pe_op op_mod (pv 0) (pv 1)) pa_nil)) (by rfl))))
    (pss_one (ps_ret (pv 0))), ?_⟩
  refine while_by (fun σ H1 => H1 = H ∧ ∃ x y : Int, σ = [some (.int x), some (.int y)] ∧ 0 ≤ x ∧ 0 ≤ y ∧ Int.gcd x y = Int.gcd a b)
    (fun σ _ => match σ with | [_, some (.int y)] => y.toNat | _ => 0) ⟨rfl, a, b, rfl, ha, hb, rfl⟩ ?_ ?_
  · rintro σ H1 ⟨rfl, x, y, rfl, hx, hy, e⟩
    refine ⟨_, rfl, _, _, rfl, rfl, _, rfl, ite2 (fun h => ?_) (fun h => ?_)⟩
    · have h' : 0 < y := of_decide_eq_true h
      refine ⟨_, rfl, _, rfl, _, rfl, _, _, rfl, rfl, h', _, _, rfl, ⟨rfl, _, _, rfl, hy, Int.emod_nonneg _ (by omega), ?_⟩, ?_⟩
      · rw [KM.gcd_step hx h']; exact e
      · show (x % y).toNat < y.toNat
        have := Int.emod_lt_of_pos x h'
        omega
    · have h' : ¬ 0 < y := fun z => h (decide_eq_true z)
      have : y = 0 := by omega
      subst this
      refine ⟨_, rfl, ?_⟩
      have e2 : x = (Int.gcd a b : Nat) := by rw [← e, Int.gcd_zero_right]; omega
      rw [e2]; exact k
  · rintro σ H1 Q1 Q2 hq ⟨v, e, i, j, e1, e2, k1, e3, q⟩
    exact ⟨v, e, i, j, e1, e2, k1, e3, hq _ _ q⟩

theorem abs_eq (i : Int) : (if i < 0 then -i else i) = (i.natAbs : Int) := by split <;> omega
end
end KK
set_option Elab.async false
set_option linter.all false
set_option maxRecDepth 100000
namespace KK
open PySem L2
section
variable {P : Program} {w : World} {K : PySem.W.Frag} {mg : Str → Option Value} {base : Heap}
theorem Bd4 {x : Rat} (h : Sz 4000 x) : Bd 1000000 x.num ∧ Bd 1000000 (x.den : Int) := ⟨h.1.mono (by decide), h.2.mono (by decide)⟩
section
variable {x y : Rat} {p q : Addr} {H : Hp}
theorem rd_plus {Q : VK} (hp : RatAt H p x) (hq : RatAt H q y) (hx : Sz 4000 x) (hy : Sz 4000 y) (k : ∀ r H', Same H H' → RatAt H' r (x + y) → Q (.ref r) H') :
    tRet (tCall spLow [] E0 (tCons (tOp (rI0 fun i j => .int (i + j)) (tOp (rI CMulB fun i j => .int (i * j)) (tOp (rIxT K) (tVar 0) (tC (.int 0))) (tOp (rIxT K) (tVar 1) (tC (.int 1)))) (tOp (rI CMulB fun i j => .int (i * j)) (tOp (rIxT K) (tVar 1) (tC (.int 0))) (tOp (rIxT K) (tVar 0) (tC (.int 1)))))
      (tCons (tOp (rI CMulB fun i j => .int (i * j)) (tOp (rIxT K) (tVar 0) (tC (.int 1))) (tOp (rIxT K) (tVar 1) (tC (.int 1)))) tNil))) { nx := fun _ H' => Q .non H', rt := Q } [some (.ref p), some (.ref q)] H := by
  have bx := Bd4 hx
  have b_y := Bd4 hy
  refine ⟨_, rfl, p, _, _, _, rfl, rfl, .of hp, at0 .., _, rfl, q, _, _, _, rfl, rfl, .of hq, at1 .., _, _, rfl, rfl, ⟨bx.1, b_y.2⟩, ?_⟩
  refine ⟨_, rfl, q, _, _, _, rfl, rfl, .of hq, at0 .., _, rfl, p, _, _, _, rfl, rfl, .of hp, at1 .., _, _, rfl, rfl, ⟨b_y.1, bx.2⟩, _, _, rfl, rfl, ?_⟩
  refine ⟨_, rfl, p, _, _, _, rfl, rfl, .of hp, at1 .., _, rfl, q, _, _, _, rfl, rfl, .of hq, at1 .., _, _, rfl, rfl, ⟨bx.2, b_y.2⟩, ?_⟩
  refine ⟨_, _, rfl, Int.mul_ne_zero (KM.den_ne x) (KM.den_ne y), (hx.2.mul hy.2).mono (by decide), fun r H' e h => k r H' e ?_⟩
  rw [← KM.plus_eq]; exact h
theorem rd_times {Q : VK} (hp : RatAt H p x) (hq : RatAt H q y) (hx : Sz 4000 x) (hy : Sz 4000 y) (k : ∀ r H', Same H H' → RatAt H' r (x * y) → Q (.ref r) H') :
    tRet (tCall spLow [] E0 (tCons (tOp (rI CMulB fun i j => .int (i * j)) (tOp (rIxT K) (tVar 0) (tC (.int 0))) (tOp (rIxT K) (tVar 1) (tC (.int 0))))
      (tCons (tOp (rI CMulB fun i j => .int (i * j)) (tOp (rIxT K) (tVar 0) (tC (.int 1))) (tOp (rIxT K) (tVar 1) (tC (.int 1)))) tNil))) { nx := fun _ H' => Q .non H', rt := Q } [some (.ref p), some (.ref q)] H := by
  have bx := Bd4 hx
  have b_y := Bd4 hy
  refine ⟨_, rfl, p, _, _, _, rfl, rfl, .of hp, at0 .., _, rfl, q, _, _, _, rfl, rfl, .of hq, at0 .., _, _, rfl, rfl, ⟨bx.1, b_y.1⟩, ?_⟩
  refine ⟨_, rfl, p, _, _, _, rfl, rfl, .of hp, at1 .., _, rfl, q, _, _, _, rfl, rfl, .of hq, at1 .., _, _, rfl, rfl, ⟨bx.2, b_y.2⟩, ?_⟩
  refine ⟨_, _, rfl, Int.mul_ne_zero (KM.den_ne x) (KM.den_ne y), (hx.2.mul hy.2).mono (by decide), fun r H' e h => k r H' e ?_⟩
  rw [← KM.times_eq]; exact h
end
theorem sc_lsum : FnScope ["one", "other"] ["one", "other"] (defScope s_law_sum) := ⟨rfl, rfl, rfl, by decide +kernel, rfl, by decide +kernel, by decide +kernel⟩
theorem ok_lsum (D : Df K mg "_law_sum" s_law_sum ["one", "other"] []) (c : Cal P w K mg base "_law_lowest" 1 ["top", "bottom"] [] spLow) : Cal P w K mg base "_law_sum" 2 ["one", "other"] [] (spBin Sz2 (· + ·)) := by
  refine D.cal (k := 1) sc_lsum (fun vs H Q E h => by obtain ⟨_, _, _, _, rfl, _⟩ := h; rfl) (fun f cdv A outer s H vs Q E hr h => ?_)
  obtain ⟨p, q, x, y, rfl, hp, hq, ⟨hx, hy⟩, k⟩ := h
  exact ⟨_, pss_one (ps_ret (pe_c c hr (pa_cons (pe_op op_add (pe_op op_mulB (pe_ix ix_tup (pv 0) pe_int (fun _ _ => rfl)) (pe_ix ix_tup (pv 1) pe_int (fun _ _ => rfl))) (pe_op op_mulB (pe_ix ix_tup (pv 1) pe_int (fun _ _ => rfl)) (pe_ix ix_tup (pv 0) pe_int (fun _ _ => rfl))))
    (pa_cons (pe_op op_mulB (pe_ix ix_tup (pv 0) pe_int (fun _ _ => rfl)) (pe_ix ix_tup (pv 1) pe_int (fun _ _ => rfl))) pa_nil)))), rd_plus hp hq hx hy k⟩
theorem sc_lprod : FnScope ["one", "other"] ["one", "other"] (defScope s_law_product) := ⟨rfl, rfl, rfl, by decide +kernel, rfl, by decide +kernel, by decide +kernel⟩
theorem ok_lprod (D : Df K mg "_law_product" s_law_product ["one", "other"] []) (c : Cal P w K mg base "_law_lowest" 1 ["top", "bottom"] [] spLow) : Cal P w K mg base "_law_product" 2 ["one", "other"] [] (spBin Sz2 (· * ·)) := by
  refine D.cal (k := 1) sc_lprod (fun vs H Q E h => by obtain ⟨_, _, _, _, rfl, _⟩ := h; rfl) (fun f cdv A outer s H vs Q E hr h => ?_)
  obtain ⟨p, q, x, y, rfl, hp, hq, ⟨hx, hy⟩, k⟩ := h
  exact ⟨_, pss_one (ps_ret (pe_c c hr (pa_cons (pe_op op_mulB (pe_ix ix_tup (pv 0) pe_int (fun _ _ => rfl)) (pe_ix ix_tup (pv 1) pe_int (fun _ _ => rfl)))
    (pa_cons (pe_op op_mulB (pe_ix ix_tup (pv 0) pe_int (fun _ _ => rfl)) (pe_ix ix_tup (pv 1) pe_int (fun _ _ => rfl))) pa_nil)))), rd_times hp hq hx hy k⟩
theorem sc_low : FnScope ["top", "bottom", "one", "other"] ["top", "bottom"] (defScope s_law_lowest) := ⟨rfl, rfl, rfl, by decide +kernel, rfl, by decide +kernel, by decide +kernel⟩
theorem ok_low (D : Df K mg "_law_lowest" s_law_lowest ["top", "bottom"] []) (T : TxB K mg) : Cal P w K mg base "_law_lowest" 1 ["top", "bottom"] [] spLow := by
  refine D.cal (k := 0) sc_low (fun vs H Q E h => by obtain ⟨a, b, rfl, _⟩ := h; rfl) (fun f cdv A outer s H vs Q E hr h => ?_)
  obtain ⟨t, b, rfl, hb, hz, k⟩ := h
  refine ⟨_, pss_cons (ps_par (i := 2) (j := 3) rfl sc_low.nd rfl rfl (by decide) rfl rfl (pa_cons (pe_callB call_abs rfl T.nAbs PyProof.Rows.boot_abs (pa_cons (pv 0) pa_nil)) (pa_cons (pe_callB call_abs rfl T.nAbs PyProof.Rows.boot_abs (pa_cons (pv 1) pa_nil)) pa_nil)) (by rfl))
    (pss_cons (ps_while PassesOwn.never (pt_cmpR op_gt (pv 3) pe_int (nomark _))
      (pss_one (ps_par (i := 2) (j := 3) rfl sc_low.nd rfl rfl (by decide) rfl rfl (pa_cons (pv 3) (pa_cons (pe_op op_mod (pv 2) (pv 3)) pa_nil)) (by rfl))))
    (pss_cons (ps_if (pt_cmpR op_lt (pv 1) pe_int (nomark _)) (pss_one (ps_set (i := 2) sc_low.nd rfl (Or.inl rfl) (pe_un un_neg (pv 2)))) pss_nil)
    (pss_one (ps_ret (pe_tup (pa_cons (pe_op op_fdivB (pv 0) (pv 2)) (pa_cons (pe_op op_fdivB (pv 1) (pv 2)) pa_nil))))))), ?_⟩
  have hd := KM.dv_ne (t := t) hb
  have hdz : Bd 8900 (KM.dv t b) := hz.of_le (KM.dv_le hb)
  have ge : (Int.gcd (if t < 0 then -t else t) (if b < 0 then -b else b) : Nat) = Int.gcd t b := by
    rw [abs_eq, abs_eq]; simp [Int.gcd]
  refine ⟨_, rfl, t, rfl, ⟨_, rfl, b, rfl, _, _, rfl, ?_⟩⟩
  have fin : ∀ (σ : St) (z : Option V), σ = [some (.int t), some (.int b), some (.int (KM.dv t b)), z] → tRet (tTup (tCons (tOp (rI CDivB fun i j => V.int (i.fdiv j)) (tVar 0) (tVar 2)) (tCons (tOp (rI CDivB fun i j => V.int (i.fdiv j)) (tVar 1) (tVar 2)) tNil))) { nx := fun _ H' => Q .non H', rt := Q } σ H := by
    rintro σ z rfl
    refine ⟨_, rfl, _, rfl, _, _, rfl, rfl, ⟨hd, hdz⟩, _, rfl, _, rfl, _, _, rfl, rfl, ⟨hd, hdz⟩, ?_⟩
    refine ⟨by show 2 ≤ sizeLine; decide, fun p hp => k p _ (Same.upd hp) ?_⟩
    show upd H p _ p = _
    rw [upd_same]
    dsimp only
    rw [KM.dv_num hb, KM.dv_den hb]; rfl
  refine while_by (fun σ H1 => H1 = H ∧ ∃ x y : Int, σ = [some (.int t), some (.int b), some (.int x), some (.int y)] ∧ 0 ≤ x ∧ 0 ≤ y ∧ Int.gcd x y = Int.gcd t b)
    (fun σ _ => match σ with | [_, _, _, some (.int y)] => y.toNat | _ => 0) ⟨rfl, _, _, rfl, (by rw [abs_eq]; omega), (by rw [abs_eq]; omega), ge⟩ ?_ ?_
  · rintro σ H1 ⟨rfl, x, y, rfl, hx, hy, e⟩
    refine ⟨_, rfl, _, _, rfl, rfl, _, rfl, ite2 (fun h => ?_) (fun h => ?_)⟩
    · have h' : 0 < y := of_decide_eq_true h
      refine ⟨_, rfl, _, rfl, _, rfl, _, _, rfl, rfl, h', _, _, rfl, ⟨rfl, _, _, rfl, hy, Int.emod_nonneg _ (by omega), ?_⟩, ?_⟩
      · rw [KM.gcd_step hx h']; exact e
      · show (x % y).toNat < y.toNat
        have := Int.emod_lt_of_pos x h'
        omega
    · have h' : ¬ 0 < y := fun z => h (decide_eq_true z)
      have : y = 0 := by omega
      subst this
      have e2 : x = (Int.gcd t b : Nat) := by rw [← e, Int.gcd_zero_right]; omega
      refine ⟨_, rfl, _, _, rfl, rfl, _, rfl, ite2 (fun h => ?_) (fun h => ?_)⟩
      · have h' : b < 0 := of_decide_eq_true h
        refine ⟨_, rfl, _, rfl, fin _ (some (.int 0)) ?_⟩
        rw [e2]; unfold KM.dv; rw [if_pos h']; rfl
      · have h' : ¬ b < 0 := fun z => h (decide_eq_true z)
        refine fin _ (some (.int 0)) ?_
        rw [e2]; unfold KM.dv; rw [if_neg h']
  · rintro σ H1 Q1 Q2 hq ⟨v, e, i, j, e1, e2, k1, e3, q⟩
    exact ⟨v, e, i, j, e1, e2, k1, e3, hq _ _ q⟩
end
end KK
section
set_option maxHeartbeats 4000000
set_option Elab.async false
set_option linter.all false
set_option maxRecDepth 100000
namespace KK
open PySem L2
def Pool (H : Hp) (p : Addr) : Prop := ∃ a b c : Int, H p = some (.lst [.int a, .int b, .int c])
structure Step (p : Addr) (H H' : Hp) : Prop where
  pool : Pool H' p
  keep : ∀ b o, H b = some o → b ≠ p → H' b = some o
theorem Step.trans {p : Addr} {H H1 H2 : Hp} (a : Step p H H1) (b : Step p H1 H2) : Step p H H2 := ⟨b.pool, fun c o e n => b.keep c o (a.keep c o e n) n⟩
theorem Step.same {p : Addr} {H H1 H2 : Hp} (a : Step p H H1) (b : Same H1 H2) : Step p H H2 := ⟨by obtain ⟨x, y, z, e⟩ := a.pool; exact ⟨x, y, z, b _ _ e⟩, fun c o e n => b c o (a.keep c o e n)⟩
theorem Step.pre {p : Addr} {H H1 H2 : Hp} (b : Step p H1 H2) (a : Same H H1) : Step p H H2 := ⟨b.pool, fun c o e n => b.keep c o (a c o e) n⟩
theorem Pool.new {H : Hp} {p l : Addr} {o : HO} (h : Pool H p) (hl : H l = none) : Pool (upd H l o) p := by obtain ⟨a, b, c, e⟩ := h; exact ⟨a, b, c, Same.upd hl _ _ e⟩
theorem Pool.ne {H : Hp} {p l : Addr} (h : Pool H p) (hl : H l = none) : l ≠ p := by obtain ⟨a, b, c, e⟩ := h; exact (ne_of_none e hl).symm
theorem Step.refl {p : Addr} {H : Hp} (h : Pool H p) : Step p H H := ⟨h, fun _ _ e _ => e⟩
theorem Step.tup {p a : Addr} {H H' : Hp} {xs : List V} (s : Step p H H') (hp : Pool H p) (h : H a = some (.tup xs)) : H' a = some (.tup xs) := by
  obtain ⟨_, _, _, e⟩ := hp
  exact s.keep a _ h (ne_of h e (by intro z; cases z))
theorem Step.rat {p a : Addr} {H H' : Hp} {q : Rat} (s : Step p H H') (hp : Pool H p) (h : RatAt H a q) : RatAt H' a q := s.tup hp h
section
variable {P : Program} {w : World} {K : PySem.W.Frag} {mg : Str → Option Value} {base : Heap}
def spCell (K : PySem.W.Frag) : Sp := fun vs H Q _ => ∃ (a : Addr) (ns : List Int) (k : Int), vs = [.ref a, .int k] ∧ SqL K H a (ns.map V.int) ∧ 0 ≤ k ∧ k < 1000 ∧ ∀ i, Q (.int i) H
theorem sc_cell : FnScope ["script", "k"] ["script", "k"] (defScope s_law_cell) := ⟨rfl, rfl, rfl, by decide +kernel, rfl, by decide +kernel, by decide +kernel⟩
theorem ok_cell (D : Df K mg "_law_cell" s_law_cell ["script", "k"] []) (T : TxB K mg) : Cal P w K mg base "_law_cell" 1 ["script", "k"] [] (spCell K) := by
  refine D.cal (k := 0) sc_cell (fun vs H Q E h => by obtain ⟨a, ns, i, rfl, _⟩ := h; rfl) (fun f cdv A outer s H vs Q E hr h => ?_)
  obtain ⟨a, ns, i, rfl, hS, h0, h1, k⟩ := h
  refine ⟨_, pss_cons (ps_if (pt_cmpR op_lt (pv 1) (pe_callB call_len_seq (by rfl) T.nLen PySem.boot_len (pa_cons (pv 0) pa_nil)) (nomark _)) (pss_one (ps_ret (pe_ix ix_list (pv 0) (pv 1) (fun _ _ => rfl)))) pss_nil)
    (pss_one (ps_ret (pe_op op_add (pe_op op_mul (pe_op op_mul pe_int (pv 1)) (pv 1)) (pe_op op_mul pe_int (pv 1))))), ?_⟩
  refine ⟨_, rfl, _, rfl, a, _, rfl, .inl hS, _, _, rfl, rfl, _, rfl, ite2 (fun h => ?_) (fun h => ?_)⟩
  · have h' : i < ((ns.map V.int).length : Int) := of_decide_eq_true h
    rw [List.length_map] at h'
    have hl : i.toNat < ns.length := by omega
    have e : (ns.map V.int)[i.toNat]? = some (.int ns[i.toNat]) := by rw [List.getElem?_map, List.getElem?_eq_getElem hl]; rfl
    have e2 := atI_nat e
    rw [show ((i.toNat : Nat) : Int) = i by omega] at e2
    exact ⟨_, rfl, _, rfl, a, _, _, _, rfl, rfl, hS, e2, k _⟩
  · exact ⟨_, rfl, _, _, rfl, rfl, .inl ⟨by decide, by decide⟩, _, rfl, _, _, rfl, rfl, .inr ⟨by omega, by omega⟩, _, rfl, _, _, rfl, rfl, .inl ⟨by decide, by decide⟩, _, _, rfl, rfl, k _⟩

def spDig : Sp := fun vs H Q _ => ∃ c : Int, vs = [.int c] ∧ ∀ p H', H p = none → Same H H' → Pool H' p → Q (.ref p) H'
theorem sc_dig : FnScope ["cell"] ["cell"] (defScope s_law_dig) := ⟨rfl, rfl, rfl, by decide +kernel, rfl, by decide +kernel, by decide +kernel⟩
theorem ok_dig (D : Df K mg "_law_dig" s_law_dig ["cell"] []) (T : TxB K mg) : Cal P w K mg base "_law_dig" 1 ["cell"] [] spDig := by
  refine D.cal (k := 0) sc_dig (fun vs H Q E h => by obtain ⟨a, rfl, _⟩ := h; rfl) (fun f cdv A outer s H vs Q E hr h => ?_)
  obtain ⟨c, rfl, k⟩ := h
  refine ⟨_, pss_one (ps_ret (pe_lst (pa_cons (pe_callB (call_max2 rfl) (by rfl) T.nMax PyProof.Rows.boot_max (pa_cons pe_int (pa_cons (pe_op op_sub (pv 0) (pe_op op_pow pe_int pe_int)) pa_nil))) (pa_cons (pe_op op_mod (pv 0) (pe_op op_pow pe_int pe_int)) (pa_cons pe_int pa_nil))))), ?_⟩
  refine ⟨_, rfl, _, _, rfl, rfl, ⟨by decide, by decide, by decide⟩, _, _, rfl, rfl, _, _, rfl, ?_⟩
  refine ⟨_, rfl, _, _, rfl, rfl, ⟨by decide, by decide, by decide⟩, _, _, rfl, rfl, (by show (0 : Int) < 10 ^ 18; decide), (by show 3 ≤ sizeLine; decide), fun p hp => ?_⟩
  exact k p _ hp (Same.upd hp) ⟨_, _, _, upd_same⟩

def spNext : Sp := fun vs H Q _ => ∃ (p : Addr) (n : Int), vs = [.ref p, .int n] ∧ 0 < n ∧ n < 1073741824 ∧ Pool H p ∧ ∀ (d : Int) H', 0 ≤ d → d < n → Step p H H' → Q (.int d) H'
theorem sc_next : FnScope ["pool", "base", "digit", "mixed", "stir"] ["pool", "base"] (defScope s_law_next) := ⟨rfl, rfl, rfl, by decide +kernel, rfl, by decide +kernel, by decide +kernel⟩
theorem step_set {H : Hp} {p : Addr} {a b c : Int} : Step p H (upd H p (.lst [.int a, .int b, .int c])) := ⟨⟨a, b, c, upd_same⟩, fun d o e n => by rw [upd_ne n]; exact e⟩
theorem ok_next (D : Df K mg "_law_next" s_law_next ["pool", "base"] []) : Cal P w K mg base "_law_next" 1 ["pool", "base"] [] spNext := by
  refine D.cal (k := 0) sc_next (fun vs H Q E h => by obtain ⟨a, b, rfl, _⟩ := h; rfl) (fun f cdv A outer s H vs Q E hr h => ?_)
  obtain ⟨p, n, rfl, n0, n1, ⟨a, b, c, hp⟩, k⟩ := h
  refine ⟨_, pss_cons (ps_if (pt_cmpR op_gt (pe_ix ix_list (pv 0) pe_int (fun _ _ => rfl)) pe_int (nomark _))
      (pss_cons (ps_set (i := 2) sc_next.nd rfl (Or.inl rfl) (pe_op op_mod (pe_ix ix_list (pv 0) pe_int (fun _ _ => rfl)) (pv 1)))
      (pss_cons (ps_asg (pe_op op_fdiv (pe_ix ix_list (pv 0) pe_int (fun _ _ => rfl)) (pv 1)) (pg_sub (pv 0) pe_int set_list))
      (pss_one (ps_ret (pv 2))))) pss_nil)
    (pss_cons (ps_asg (pe_op op_add (pe_ix ix_list (pv 0) pe_int (fun _ _ => rfl)) pe_int) (pg_sub (pv 0) pe_int set_list))
    (pss_cons (ps_set (i := 3) sc_next.nd rfl (Or.inl rfl) (pe_op op_mod (pe_op op_add (pe_ix ix_list (pv 0) pe_int (fun _ _ => rfl)) (pe_op op_mul pe_int (pe_ix ix_list (pv 0) pe_int (fun _ _ => rfl)))) pe_int))
    (pss_cons (ps_set (i := 4) sc_next.nd rfl (Or.inl rfl) (pe_op op_mod (pe_op op_mul (pe_op op_add (pv 3) pe_int) (pe_op op_add (pv 3) pe_int)) pe_int))
    (pss_one (ps_ret (pe_op op_mod (pe_op op_fdiv (pe_op op_mod (pe_op op_mul (pv 4) (pv 4)) pe_int) pe_int) (pv 1))))))), ?_⟩
  refine ⟨_, rfl, p, _, _, _, rfl, rfl, .of hp, rfl, _, _, rfl, rfl, _, rfl, ite2 (fun h => ?_) (fun h => ?_)⟩
  · refine ⟨_, rfl, p, _, _, _, rfl, rfl, .of hp, rfl, _, rfl, _, _, rfl, rfl, n0, ?_⟩
    refine ⟨_, rfl, p, _, _, _, rfl, rfl, .of hp, rfl, _, rfl, _, _, rfl, rfl, ⟨n0, n1⟩, ?_⟩
    refine ⟨_, rfl, p, _, _, 0, rfl, rfl, hp, rfl, ?_⟩
    exact ⟨_, rfl, k _ _ (Int.emod_nonneg _ (by omega)) (Int.emod_lt_of_pos _ n0) step_set⟩
  · refine ⟨_, rfl, p, _, _, _, rfl, rfl, .of hp, rfl, _, _, rfl, rfl, ?_⟩
    refine ⟨_, rfl, p, _, _, 2, rfl, rfl, hp, rfl, ?_⟩
    refine ⟨_, rfl, p, _, _, _, rfl, rfl, .of upd_same, rfl, _, rfl, p, _, _, _, rfl, rfl, .of upd_same, rfl, _, _, rfl, rfl, .inl ⟨by decide, by decide⟩, _, _, rfl, rfl, _, _, rfl, rfl, (by show (0 : Int) < 1000000007; decide), ?_⟩
    refine ⟨_, rfl, _, _, rfl, rfl, _, rfl, _, _, rfl, rfl, _, _, rfl, rfl, .inl (by constructor <;> omega), _, _, rfl, rfl, (by show (0 : Int) < 998244353; decide), ?_⟩
    refine ⟨_, rfl, _, rfl, _, _, rfl, rfl, .inl (by constructor <;> omega), _, _, rfl, rfl, (by show (0 : Int) < 2147483647; decide), _, _, rfl, rfl, ⟨by decide, by decide⟩, _, rfl, _, _, rfl, rfl, n0, ?_⟩
    exact k _ _ (Int.emod_nonneg _ (by omega)) (Int.emod_lt_of_pos _ n0) step_set

def spFar : Sp := fun vs H Q _ => ∃ (p : Addr), vs = [.ref p] ∧ Pool H p ∧ ∀ (d : Int) H', 0 ≤ d → d < 1000000000000000000000 → Step p H H' → Q (.int d) H'
theorem sc_far : FnScope ["pool", "found", "k"] ["pool"] (defScope s_law_far) := ⟨rfl, rfl, rfl, by decide +kernel, rfl, by decide +kernel, by decide +kernel⟩
theorem far_step {i : Nat} {f d : Int} (h0 : 0 ≤ f) (h1 : f < 10000000 ^ i) (d0 : 0 ≤ d) (d1 : d < 10000000) : 0 ≤ f * 10 ^ 7 + d ∧ f * 10 ^ 7 + d < 10000000 ^ (i + 1) := by
  have e : (10 : Int) ^ 7 = 10000000 := by decide
  rw [e, Int.pow_succ]
  generalize (10000000 : Int) ^ i = B at *
  omega
theorem ok_far (D : Df K mg "_law_far" s_law_far ["pool"] []) (T : TxB K mg) (cN : Cal P w K mg base "_law_next" 1 ["pool", "base"] [] spNext) : Cal P w K mg base "_law_far" 2 ["pool"] [] spFar := by
  refine D.cal (k := 1) sc_far (fun vs H Q E h => by obtain ⟨a, rfl, _⟩ := h; rfl) (fun f cdv A outer s H vs Q E hr h => ?_)
  obtain ⟨p, rfl, hp, k⟩ := h
  refine ⟨_, pss_cons (ps_set (i := 1) sc_far.nd rfl (Or.inl rfl) pe_int)
    (pss_cons (ps_for PassesOwn.never rfl (pi_range1 rfl T.nRange (pa_cons (pe_op op_add pe_int (pe_c cN hr (pa_cons (pv 0) (pa_cons pe_int pa_nil)))) pa_nil)) (pg_name (i := 2) sc_far.nd rfl (Or.inl rfl))
      (pss_one (ps_set (i := 1) sc_far.nd rfl (Or.inl rfl) (pe_op op_add (pe_op op_mul (pv 1) (pe_op op_pow pe_int pe_int)) (pe_c cN hr (pa_cons (pv 0) (pa_cons (pe_op op_pow pe_int pe_int) pa_nil)))))))
    (pss_one (ps_ret (pv 1)))), ?_⟩
  refine ⟨_, rfl, p, _, rfl, by decide, by decide, hp, fun d H1 d0 d1 s1 => ?_⟩
  refine ⟨_, _, rfl, rfl, _, rfl, (by omega), (by omega), ?_⟩
  have hn : ((1 : Int) + d).toNat ≤ 3 := by omega
  refine for_range (n := ((1 : Int) + d).toNat) (lo := 0) (fun i σ H2 => ∃ (z : Option V) (g : Int), σ = [some (.ref p), some (.int g), z] ∧ 0 ≤ g ∧ g < 10000000 ^ i ∧ Step p H H2) ⟨none, 0, rfl, by decide, by decide, s1⟩ ?_ ?_
  · rintro i σ H2 hi ⟨z, g, rfl, g0, g1, s2⟩
    refine ⟨_, rfl, _, _, rfl, rfl, ⟨by decide, by decide, by decide⟩, _, _, rfl, rfl, .inr ⟨by decide, by decide⟩, ?_⟩
    refine ⟨_, rfl, _, _, rfl, rfl, ⟨by decide, by decide, by decide⟩, p, _, rfl, by decide, by decide, s2.pool, fun e H3 e0 e1 s3 => ?_⟩
    have := far_step g0 g1 e0 e1
    exact ⟨_, _, rfl, rfl, _, _, rfl, this.1, this.2, s2.trans s3⟩
  · rintro σ H2 ⟨z, g, rfl, g0, g1, s2⟩
    refine ⟨_, rfl, k _ _ g0 ?_ s2⟩
    have : ((1 : Int) + d).toNat = 0 ∨ ((1 : Int) + d).toNat = 1 ∨ ((1 : Int) + d).toNat = 2 ∨ ((1 : Int) + d).toNat = 3 := by omega
    have e1 : (10000000 : Int) ^ 0 = 1 := by decide
    have e2 : (10000000 : Int) ^ 1 = 10000000 := by decide
    have e3 : (10000000 : Int) ^ 2 = 100000000000000 := by decide
    have e4 : (10000000 : Int) ^ 3 = 1000000000000000000000 := by decide
    rcases this with z | z | z | z <;> rw [z] at g1 <;> omega

def spRat : Sp := fun vs H Q _ => ∃ (p : Addr), vs = [.ref p] ∧ Pool H p ∧ ∀ (r : Addr) (q : Rat) H', Step p H H' → RatAt H' r q → Sz 80 q → Q (.ref r) H'
theorem sc_rat : FnScope ["pool", "bottom", "top", "way"] ["pool"] (defScope s_law_ratio) := ⟨rfl, rfl, rfl, by decide +kernel, rfl, by decide +kernel, by decide +kernel⟩
theorem menu8 {d : Int} (h0 : 0 ≤ d) (h1 : d < 8) : ∃ v : Int, atI [V.int 1, .int 1, .int 1, .int 2, .int 2, .int 3, .int 4, .int 6] d = some (.int v) ∧ 1 ≤ v ∧ v ≤ 6 := by
  have : d = 0 ∨ d = 1 ∨ d = 2 ∨ d = 3 ∨ d = 4 ∨ d = 5 ∨ d = 6 ∨ d = 7 := by omega
  rcases this with rfl | rfl | rfl | rfl | rfl | rfl | rfl | rfl
  all_goals exact ⟨_, rfl, by decide, by decide⟩
theorem menu2 {d : Int} (h0 : 0 ≤ d) (h1 : d < 2) (x y : V) : ∃ v, atI [x, y] d = some v ∧ (v = x ∨ v = y) := by
  have : d = 0 ∨ d = 1 := by omega
  rcases this with rfl | rfl
  · exact ⟨_, rfl, .inl rfl⟩
  · exact ⟨_, rfl, .inr rfl⟩
theorem ok_rat (D : Df K mg "_law_ratio" s_law_ratio ["pool"] []) (cN : Cal P w K mg base "_law_next" 1 ["pool", "base"] [] spNext) (cF : Cal P w K mg base "_law_far" 2 ["pool"] [] spFar) (cL : Cal P w K mg base "_law_lowest" 1 ["top", "bottom"] [] spLow) :
    Cal P w K mg base "_law_ratio" 3 ["pool"] [] spRat := by
  refine D.cal (k := 2) sc_rat (fun vs H Q E h => by obtain ⟨a, rfl, _⟩ := h; rfl) (fun f cdv A outer s H vs Q E hr h => ?_)
  obtain ⟨p, rfl, hp, k⟩ := h
  have hr1 : Room 1 _ := hr.mono (by decide)
  refine ⟨_, pss_cons (ps_set (i := 1) sc_rat.nd rfl (Or.inl rfl) (pe_ix ix_list (pe_lst (pa_cons pe_int (pa_cons pe_int (pa_cons pe_int (pa_cons pe_int (pa_cons pe_int (pa_cons pe_int (pa_cons pe_int (pa_cons pe_int pa_nil))))))))) (pe_c cN hr1 (pa_cons (pv 0) (pa_cons pe_int pa_nil))) (fun _ _ => rfl)))
    (pss_cons (ps_set (i := 2) sc_rat.nd rfl (Or.inl rfl) (pe_op op_sub (pe_c cN hr1 (pa_cons (pv 0) (pa_cons pe_int pa_nil))) pe_int))
    (pss_cons (ps_set (i := 3) sc_rat.nd rfl (Or.inl rfl) (pe_c cN hr1 (pa_cons (pv 0) (pa_cons pe_int pa_nil))))
    (pss_cons (ps_if (pt_cmpR op_eq (pv 3) pe_int (nomark _))
      (pss_cons (ps_set (i := 2) sc_rat.nd rfl (Or.inl rfl) (pe_op op_mul (pe_c cF hr (pa_cons (pv 0) pa_nil)) (pe_ix ix_list (pe_lst (pa_cons pe_int (pa_cons (pe_un un_neg pe_int) pa_nil))) (pe_c cN hr1 (pa_cons (pv 0) (pa_cons pe_int pa_nil))) (fun _ _ => rfl))))
      (pss_one (ps_set (i := 1) sc_rat.nd rfl (Or.inl rfl) (pe_op op_add pe_int (pe_c cN hr1 (pa_cons (pv 0) (pa_cons pe_int pa_nil))))))) pss_nil)
    (pss_cons (ps_if (pt_cmpR op_eq (pv 3) pe_int (nomark _)) (pss_one (ps_set (i := 2) sc_rat.nd rfl (Or.inl rfl) pe_int)) pss_nil)
    (pss_one (ps_ret (pe_c cL hr1 (pa_cons (pv 2) (pa_cons (pv 1) pa_nil))))))))), ?_⟩
  refine ⟨by show 8 ≤ sizeLine; decide, fun l hl => ?_⟩
  refine ⟨_, rfl, p, _, rfl, by decide, by decide, hp.new hl, fun d H1 d0 d1 s1 => ?_⟩
  obtain ⟨b, eb, b1, b2⟩ := menu8 d0 d1
  refine ⟨l, _, _, _, rfl, rfl, .of (s1.keep l _ upd_same (hp.ne hl)), eb, ?_⟩
  have S1 : Step p H H1 := s1.pre (Same.upd hl)
  refine ⟨_, rfl, p, _, rfl, by decide, by decide, S1.pool, fun d2 H2 e0 e1 s2 => ?_⟩
  refine ⟨_, _, rfl, rfl, ?_⟩
  refine ⟨_, rfl, p, _, rfl, by decide, by decide, s2.pool, fun wy H3 w0 w1 s3 => ?_⟩
  have S3 := S1.trans (s2.trans s3)
  have fin : ∀ (t b : Int) (H4 : Hp) (z : Option V), 1 ≤ b → b ≤ 12 → t.natAbs ≤ 1000000000000000000000 → Step p H H4 → tRet (tCall spLow [] E0 (tCons (tVar 2) (tCons (tVar 1) tNil))) { nx := fun _ H' => Q .non H', rt := Q } [some (.ref p), some (.int b), some (.int t), z] H4 := by
    intro t b H4 z hb1 hb2 ht S4
    have hbb : Bd 80 b := Nat.lt_of_le_of_lt (show b.natAbs ≤ 12 by omega) (by decide)
    have htt : Bd 80 t := Nat.lt_of_le_of_lt ht (by decide)
    refine ⟨_, rfl, _, rfl, _, _, rfl, (by omega), hbb.mono (by decide), fun r H' e h => k r _ H' (S4.same e) h (.divInt (by omega) htt hbb)⟩
  have cont : ∀ (t b : Int) (H4 : Hp), 1 ≤ b → b ≤ 12 → t.natAbs ≤ 1000000000000000000000 → Step p H H4 → tSeq (tIfS (tTest (tOp rEq (tVar 3) (tC (.int 1)))) (tAsg (tC (.int 0)) (gName 2)) tNext) (tRet (tCall spLow [] E0 (tCons (tVar 2) (tCons (tVar 1) tNil)))) { nx := fun _ H' => Q .non H', rt := Q } [some (.ref p), some (.int b), some (.int t), some (.int wy)] H4 := by
    intro t b H4 hb1 hb2 ht S4
    refine ⟨_, rfl, rfl, _, rfl, ite2 (fun _ => ?_) (fun _ => ?_)⟩
    · exact fin 0 b H4 (some (.int wy)) hb1 hb2 (by decide) S4
    · exact fin t b H4 (some (.int wy)) hb1 hb2 ht S4
  refine ⟨_, rfl, rfl, _, rfl, ite2 (fun _ => ?_) (fun _ => ?_)⟩
  · refine ⟨_, rfl, p, rfl, S3.pool, fun g H4 g0 g1 s4 => ?_⟩
    refine ⟨_, rfl, by show 2 ≤ sizeLine; decide, fun l2 hl2 => ?_⟩
    refine ⟨_, rfl, p, _, rfl, by decide, by decide, s4.pool.new hl2, fun d5 H5 f0 f1 s5 => ?_⟩
    obtain ⟨v, ev, hv⟩ := menu2 f0 f1 (V.int 1) (V.int (-1))
    refine ⟨l2, _, _, _, rfl, rfl, .of (s5.keep l2 _ upd_same (s4.pool.ne hl2)), ev, ?_⟩
    have S5 : Step p H H5 := S3.trans (s4.trans (s5.pre (Same.upd hl2)))
    rcases hv with rfl | rfl
    · refine ⟨_, _, rfl, rfl, .inr ⟨by decide, by decide⟩, ?_⟩
      refine ⟨_, rfl, p, _, rfl, by decide, by decide, S5.pool, fun d6 H6 h0 h1 s6 => ?_⟩
      refine ⟨_, _, rfl, rfl, ?_⟩
      exact cont _ _ H6 (by omega) (by omega) (by omega) (S5.trans s6)
    · refine ⟨_, _, rfl, rfl, .inr ⟨by decide, by decide⟩, ?_⟩
      refine ⟨_, rfl, p, _, rfl, by decide, by decide, S5.pool, fun d6 H6 h0 h1 s6 => ?_⟩
      refine ⟨_, _, rfl, rfl, ?_⟩
      exact cont _ _ H6 (by omega) (by omega) (by omega) (S5.trans s6)
  · exact cont _ _ H3 (by omega) (by omega) (by omega) S3
end
end KK
end
section
set_option maxHeartbeats 4000000
set_option Elab.async false
set_option linter.all false
set_option maxRecDepth 100000
namespace KK
open PySem L2 KM
inductive BallsAt (H : Hp) : List V → List Ball → Prop
  | nil : BallsAt H [] []
  | cons {a p q : Addr} {b : Ball} {vs : List V} {bs : List Ball} : H a = some (.tup [.ref p, .ref q, .int b.wt]) → RatAt H p b.pl → RatAt H q b.sp → BallsAt H vs bs → BallsAt H (.ref a :: vs) (b :: bs)
theorem BallsAt.mono {H H' : Hp} (m : ∀ b xs, H b = some (.tup xs) → H' b = some (.tup xs)) : ∀ {vs : List V} {bs : List Ball}, BallsAt H vs bs → BallsAt H' vs bs
  | _, _, .nil => .nil
  | _, _, .cons h1 h2 h3 t => .cons (m _ _ h1) (m _ _ h2) (m _ _ h3) (BallsAt.mono m t)
theorem BallsAt.same {H H' : Hp} {vs : List V} {bs : List Ball} (h : BallsAt H vs bs) (e : Same H H') : BallsAt H' vs bs := h.mono fun b xs z => e b _ z
theorem BallsAt.step {H H' : Hp} {p : Addr} {vs : List V} {bs : List Ball} (h : BallsAt H vs bs) (s : Step p H H') (hp : Pool H p) : BallsAt H' vs bs := h.mono fun b xs z => s.tup hp z
theorem BallsAt.length {H : Hp} : ∀ {vs : List V} {bs : List Ball}, BallsAt H vs bs → vs.length = bs.length
  | _, _, .nil => rfl
  | _, _, .cons _ _ _ t => by rw [List.length_cons, List.length_cons, BallsAt.length t]
theorem BallsAt.append {H : Hp} {us : List V} {cs : List Ball} (k : BallsAt H us cs) : ∀ {vs : List V} {bs : List Ball}, BallsAt H vs bs → BallsAt H (vs ++ us) (bs ++ cs)
  | _, _, .nil => k
  | _, _, .cons h1 h2 h3 t => .cons h1 h2 h3 (BallsAt.append k t)
theorem BallsAt.one {H : Hp} {a p q : Addr} {b : Ball} (h1 : H a = some (.tup [.ref p, .ref q, .int b.wt])) (h2 : RatAt H p b.pl) (h3 : RatAt H q b.sp) : BallsAt H [.ref a] [b] := .cons h1 h2 h3 .nil
theorem BallsAt.get {H : Hp} : ∀ {vs : List V} {bs : List Ball} {i : Nat} {v : V}, BallsAt H vs bs → vs[i]? = some v → ∃ (a p q : Addr) (b : Ball), bs[i]? = some b ∧ v = .ref a ∧ H a = some (.tup [.ref p, .ref q, .int b.wt]) ∧ RatAt H p b.pl ∧ RatAt H q b.sp
  | _, _, _, _, .nil, e => by simp at e
  | _, _, 0, _, .cons h1 h2 h3 _, e => by
    simp at e; subst e
    exact ⟨_, _, _, _, rfl, rfl, h1, h2, h3⟩
  | _, _, i + 1, v, .cons _ _ _ t, e => by
    obtain ⟨a, p, q, b, e1, r⟩ := BallsAt.get (i := i) t (by simpa using e)
    exact ⟨a, p, q, b, by simpa using e1, r⟩
theorem BallsAt.last {H : Hp} {vs : List V} {bs : List Ball} {b : Ball} (h : BallsAt H vs (bs ++ [b])) : ∃ (us : List V) (a p q : Addr), vs = us ++ [.ref a] ∧ H a = some (.tup [.ref p, .ref q, .int b.wt]) ∧ RatAt H p b.pl ∧ RatAt H q b.sp := by
  have hl := h.length
  rw [List.length_append, List.length_singleton] at hl
  have hi : bs.length < vs.length := by omega
  obtain ⟨a, p, q, c, e1, e2, r⟩ := h.get (i := bs.length) (List.getElem?_eq_getElem hi)
  rw [List.getElem?_append_right (Nat.le_refl _)] at e1
  simp at e1; subst e1
  refine ⟨vs.take bs.length, a, p, q, ?_, r⟩
  rw [← e2]
  have := List.take_append_getElem hi
  rw [this, List.take_of_length_le (by omega)]
def lexR (b c : Ball) : Prop := b.pl < c.pl ∨ (b.pl = c.pl ∧ b.sp < c.sp)
theorem lexR.trans {a b c : Ball} (h : lexR a b) (k : lexR b c) : lexR a c := by
  unfold lexR at *
  rcases h with h | ⟨h1, h2⟩ <;> rcases k with k | ⟨k1, k2⟩
  · exact .inl (by grind)
  · exact .inl (by grind)
  · exact .inl (by grind)
  · exact .inr ⟨by grind, by grind⟩
structure Good (bs : List Ball) : Prop where
  wt : ∀ b ∈ bs, 1 ≤ b.wt ∧ b.wt ≤ 1000
  sz : ∀ b ∈ bs, Sz 300 b.pl ∧ Sz 80 b.sp
  pw : bs.Pairwise lexR
theorem Good.nil : Good [] := ⟨(fun _ h => nomatch h), (fun _ h => nomatch h), List.Pairwise.nil⟩
theorem Good.snoc {bs : List Ball} {b : Ball} (G : Good bs) (hw : 1 ≤ b.wt ∧ b.wt ≤ 1000) (hs : Sz 300 b.pl ∧ Sz 80 b.sp) (h : ∀ cs c, bs = cs ++ [c] → lexR c b) : Good (bs ++ [b]) := by
  refine ⟨fun x hx => ?_, fun x hx => ?_, ?_⟩
  · rcases List.mem_append.mp hx with z | z
    · exact G.wt x z
    · simp at z; subst z; exact hw
  · rcases List.mem_append.mp hx with z | z
    · exact G.sz x z
    · simp at z; subst z; exact hs
  · rw [List.pairwise_append]
    refine ⟨G.pw, List.pairwise_singleton _ _, fun x hx y hy => ?_⟩
    simp at hy; subst hy
    rcases List.eq_nil_or_concat bs with e | ⟨cs, c, e⟩
    · subst e; exact (nomatch hx)
    · have e' : bs = cs ++ [c] := by simpa using e
      have hc := h cs c e'
      subst e'
      rcases List.mem_append.mp hx with z | z
      · have := (List.pairwise_append.mp G.pw).2.2 x z c (by simp)
        exact this.trans hc
      · simp at z; subst z; exact hc
section
variable {P : Program} {w : World} {K : PySem.W.Frag} {mg : Str → Option Value} {base : Heap}
def spLess : Sp := fun vs H Q _ => ∃ p q x y, vs = [.ref p, .ref q] ∧ RatAt H p x ∧ RatAt H q y ∧ Sz 4000 x ∧ Sz 4000 y ∧ Q (.bl (decide (x < y))) H
theorem sc_less : FnScope ["one", "other"] ["one", "other"] (defScope s_law_less) := ⟨rfl, rfl, rfl, by decide +kernel, rfl, by decide +kernel, by decide +kernel⟩
theorem ok_less (D : Df K mg "_law_less" s_law_less ["one", "other"] []) : Cal P w K mg base "_law_less" 1 ["one", "other"] [] spLess := by
  refine D.cal (k := 0) sc_less (fun vs H Q E h => by obtain ⟨_, _, _, _, rfl, _⟩ := h; rfl) (fun f cdv A outer s H vs Q E hr h => ?_)
  obtain ⟨p, q, x, y, rfl, hp, hq, hx, hy, k⟩ := h
  have bx := Bd4 hx
  have b_y := Bd4 hy
  refine ⟨_, pss_one (ps_ret (pe_cmpR op_lt (pe_op op_mulB (pe_ix ix_tup (pv 0) pe_int (fun _ _ => rfl)) (pe_ix ix_tup (pv 1) pe_int (fun _ _ => rfl))) (pe_op op_mulB (pe_ix ix_tup (pv 1) pe_int (fun _ _ => rfl)) (pe_ix ix_tup (pv 0) pe_int (fun _ _ => rfl))) (nomark _))), ?_⟩
  refine ⟨_, rfl, p, _, _, _, rfl, rfl, .of hp, at0 .., _, rfl, q, _, _, _, rfl, rfl, .of hq, at1 .., _, _, rfl, rfl, ⟨bx.1, b_y.2⟩, ?_⟩
  refine ⟨_, rfl, q, _, _, _, rfl, rfl, .of hq, at0 .., _, rfl, p, _, _, _, rfl, rfl, .of hp, at1 .., _, _, rfl, rfl, ⟨b_y.1, bx.2⟩, _, _, rfl, rfl, ?_⟩
  have e : decide (x.num * (y.den : Int) < y.num * (x.den : Int)) = decide (x < y) := by
    by_cases h : x < y
    · rw [decide_eq_true h, decide_eq_true ((KM.less_iff x y).mpr h)]
    · rw [decide_eq_false h, decide_eq_false fun z => h ((KM.less_iff x y).mp z)]
  show Q (.bl (decide (x.num * (y.den : Int) < y.num * (x.den : Int)))) H
  rw [e]; exact k
end
end KK
end
section
set_option maxHeartbeats 4000000
set_option Elab.async false
set_option linter.all false
set_option maxRecDepth 100000
namespace KK
open PySem L2 KM
theorem menu3 {d : Int} (h0 : 0 ≤ d) (h1 : d < 3) : ∃ v : Int, atI [V.int 1, .int 2, .int 3] d = some (.int v) ∧ 1 ≤ v ∧ v ≤ 3 := by
  have : d = 0 ∨ d = 1 ∨ d = 2 := by omega
  rcases this with rfl | rfl | rfl
  all_goals exact ⟨_, rfl, by decide, by decide⟩
theorem sz_zero : Sz 5 0 := ⟨(by show (0 : Int).natAbs < 2 ^ 5; decide), (by show ((1 : Nat) : Int).natAbs < 2 ^ 5; decide)⟩
theorem pos_divInt {t b : Int} (ht : 0 < t) (hb : 0 < b) : 0 < Rat.divInt t b := by
  rw [Rat.divInt_eq_div]
  have h1 : (0 : Rat) < (t : Rat) := by have : ((0 : Int) : Rat) < (t : Rat) := Rat.intCast_lt_intCast.mpr ht; simpa using this
  have h2 : (0 : Rat) < (b : Rat) := by have : ((0 : Int) : Rat) < (b : Rat) := Rat.intCast_lt_intCast.mpr hb; simpa using this
  rw [Rat.div_def]
  exact Rat.mul_pos h1 (Rat.inv_pos.mpr h2)
structure RS (p L pp : Addr) (pl : Rat) (us : List V) (bs : List Ball) (H H2 : Hp) : Prop where
  st : Step p H H2
  pl : RatAt H2 pp pl
  ls : H2 L = some (.lst us)
  bl : BallsAt H2 us bs
theorem RS.step {p L pp : Addr} {pl : Rat} {us : List V} {bs : List Ball} {H H2 H3 : Hp} (r : RS p L pp pl us bs H H2) (hL : L ≠ p) (s : Step p H2 H3) : RS p L pp pl us bs H H3 :=
  ⟨r.st.trans s, s.rat r.st.pool r.pl, s.keep _ _ r.ls hL, r.bl.step s r.st.pool⟩
def RowInv (p L : Addr) (n d al : Int) (H : Hp) (i : Nat) (σ : St) (H5 : Hp) : Prop := ∃ (z6 z7 z8 z9 : Option V) (pp : Addr) (pl : Rat) (us : List V) (bs : List Ball),
    σ = [some (.ref p), some (.int n), some (.int (1 + d)), some (.ref pp), some (.int al), some (.ref L), z6, z7, z8, z9] ∧ RS p L pp pl us bs H H5 ∧ Sz (80 + 10 * i) pl ∧ bs.length = i ∧ Good bs ∧ (∀ cs c, bs = cs ++ [c] → c.pl = pl)
def spRow : Sp := fun vs H Q _ => ∃ (p : Addr) (n : Int), vs = [.ref p, .int n] ∧ 0 < n ∧ n ≤ 8 ∧ Pool H p ∧
  ∀ (r : Addr) (us : List V) (bs : List Ball) H', Step p H H' → H' r = some (.tup us) → BallsAt H' us bs → Good bs → bs ≠ [] → (bs.length : Int) ≤ n → Q (.ref r) H'
section
variable {P : Program} {w : World} {K : PySem.W.Frag} {mg : Str → Option Value} {base : Heap}
theorem sc_row : FnScope ["pool", "most", "many", "place", "alike", "row", "k", "speed", "weight", "gap"] ["pool", "most"] (defScope s_law_row) := ⟨rfl, rfl, rfl, by decide +kernel, rfl, by decide +kernel, by decide +kernel⟩
theorem ok_row (D : Df K mg "_law_row" s_law_row ["pool", "most"] []) (T : TxB K mg) (cN : Cal P w K mg base "_law_next" 1 ["pool", "base"] [] spNext) (cR : Cal P w K mg base "_law_ratio" 3 ["pool"] [] spRat)
    (cL : Cal P w K mg base "_law_lowest" 1 ["top", "bottom"] [] spLow) (cLe : Cal P w K mg base "_law_less" 1 ["one", "other"] [] spLess) (cS : Cal P w K mg base "_law_sum" 2 ["one", "other"] [] (spBin Sz2 (· + ·))) :
    Cal P w K mg base "_law_row" 4 ["pool", "most"] [] spRow := by
  refine D.cal (k := 3) sc_row (fun vs H Q E h => by obtain ⟨a, b, rfl, _⟩ := h; rfl) (fun f cdv A outer s H vs Q E hr h => ?_)
  obtain ⟨p, n, rfl, n0, n1, hp, k⟩ := h
  have hr1 : Room 1 _ := hr.mono (by decide)
  have hr2 : Room 2 _ := hr.mono (by decide)
  refine ⟨_, (pss_cons (ps_set (i := 2) sc_row.nd rfl (Or.inl rfl) (pe_op op_add pe_int (pe_c cN hr1 (pa_cons (pv 0) (pa_cons (pv 1) pa_nil)))))
    (pss_cons (ps_set (i := 3) sc_row.nd rfl (Or.inl rfl) (pe_c cR hr (pa_cons (pv 0) pa_nil)))
    (pss_cons (ps_set (i := 4) sc_row.nd rfl (Or.inl rfl) (pe_ix ix_list (pe_lst (pa_cons pe_int (pa_cons (pe_op op_add pe_int (pe_c cN hr1 (pa_cons (pv 0) (pa_cons pe_int pa_nil)))) pa_nil))) (pe_callTy call_int1 (by rfl) T.nInt PyProof.Rows.boot_int (pa_cons (pe_cmpR op_eq (pe_c cN hr1 (pa_cons (pv 0) (pa_cons pe_int pa_nil))) pe_int (nomark _)) pa_nil)) (fun _ _ => rfl)))
    (pss_cons (ps_set (i := 5) sc_row.nd rfl (Or.inl rfl) (pe_lst pa_nil))
    (pss_cons (ps_for PassesOwn.never rfl (pi_range1 rfl T.nRange (pa_cons (pv 2) pa_nil)) (pg_name (i := 6) sc_row.nd rfl (Or.inl rfl)) (pss_cons (ps_set (i := 7) sc_row.nd rfl (Or.inl rfl) (pe_c cR hr (pa_cons (pv 0) pa_nil)))
    (pss_cons (ps_set (i := 8) sc_row.nd rfl (Or.inl rfl) (pe_ix ix_list (pe_lst (pa_cons (pv 4) (pa_cons (pe_ix ix_list (pe_lst (pa_cons (pe_op op_add pe_int (pe_c cN hr1 (pa_cons (pv 0) (pa_cons pe_int pa_nil)))) (pa_cons (pe_op op_add pe_int (pe_c cN hr1 (pa_cons (pv 0) (pa_cons pe_int pa_nil)))) pa_nil))) (pe_c cN hr1 (pa_cons (pv 0) (pa_cons pe_int pa_nil))) (fun _ _ => rfl)) pa_nil))) (pe_callTy call_int1 (by rfl) T.nInt PyProof.Rows.boot_int (pa_cons (pe_cmpR op_eq (pv 4) pe_int (nomark _)) pa_nil)) (fun _ _ => rfl)))
    (pss_cons (ps_set (i := 9) sc_row.nd rfl (Or.inl rfl) (pe_c cL hr1 (pa_cons (pe_op op_add pe_int (pe_c cN hr1 (pa_cons (pv 0) (pa_cons pe_int pa_nil)))) (pa_cons (pe_ix ix_list (pe_lst (pa_cons pe_int (pa_cons pe_int (pa_cons pe_int pa_nil)))) (pe_c cN hr1 (pa_cons (pv 0) (pa_cons pe_int pa_nil))) (fun _ _ => rfl)) pa_nil))))
    (pss_cons (ps_if ((pw_and (pt_cmpR op_gt (pv 6) pe_int (nomark _)) (pw_and (pt_cmpR op_eq (pe_c cN hr1 (pa_cons (pv 0) (pa_cons pe_int pa_nil))) pe_int (nomark _)) (pw_and1 (pt_truth (pe_c cLe hr1 (pa_cons (pe_ix ix_tup (pe_ix ix_list (pv 5) (pe_un un_neg pe_int) (fun _ _ => rfl)) pe_int (fun _ _ => rfl)) (pa_cons (pv 7) pa_nil))) fun _ => rfl))))).pt (pss_one (ps_set (i := 9) sc_row.nd rfl (Or.inl rfl) (pe_tup (pa_cons pe_int (pa_cons pe_int pa_nil))))) pss_nil)
    (pss_cons (ps_if (pt_cmpR op_gt (pv 6) pe_int (nomark _)) (pss_one (ps_set (i := 3) sc_row.nd rfl (Or.inl rfl) (pe_c cS hr2 (pa_cons (pv 3) (pa_cons (pv 9) pa_nil))))) pss_nil)
    (pss_one (ps_expr (pe_bm PySem.F.plainAttrs_list PySem.F.slot_list_append PySem.F.type_list_append mt_append (pv 5) (pa_cons (pe_tup (pa_cons (pv 3) (pa_cons (pv 7) (pa_cons (pv 8) pa_nil)))) pa_nil))))))))))
    (pss_one (ps_ret (pe_callTy call_tuple_of (by rfl) T.nTuple PyProof.Rows.boot_tuple (pa_cons (pv 5) pa_nil))))))))), ?_⟩
  refine ⟨_, rfl, _, rfl, p, n, rfl, n0, by omega, hp, fun d H1 d0 d1 s1 => ⟨_, _, rfl, rfl, ?_⟩⟩
  refine ⟨_, rfl, p, rfl, s1.pool, fun pp0 pl0 H2 s2 hpl0 spl0 => ?_⟩
  refine ⟨_, rfl, p, _, rfl, by decide, by decide, s2.pool, fun d3 H3 a0 a1 s3 => ⟨_, _, rfl, rfl, (by show 2 ≤ sizeLine; decide), fun l1 hl1 => ?_⟩⟩
  refine ⟨_, rfl, p, _, rfl, by decide, by decide, s3.pool.new hl1, fun d4 H4 _ _ s4 => ⟨rfl, .inr ⟨_, rfl, ?_⟩⟩⟩
  obtain ⟨al, eal, al0, al1⟩ : ∃ al : Int, atI [V.int 0, .int (1 + d3)] (if decide (V.int d4 = V.int 0) then 1 else 0) = some (.int al) ∧ 0 ≤ al ∧ al ≤ 9 := by
    cases decide (V.int d4 = V.int 0)
    · exact ⟨0, rfl, by decide, by decide⟩
    · exact ⟨1 + d3, rfl, by omega, by omega⟩
  refine ⟨l1, _, _, _, rfl, rfl, .of (s4.keep l1 _ upd_same (s3.pool.ne hl1)), eal, ?_⟩
  have S4 : Step p H H4 := s1.trans (s2.trans (s3.trans (s4.pre (Same.upd hl1))))
  have hpl4 : RatAt H4 pp0 pl0 := (s3.trans (s4.pre (Same.upd hl1))).rat s2.pool hpl0
  refine ⟨by show 0 ≤ sizeLine; decide, fun L hL => ?_⟩
  have hLp : L ≠ p := S4.pool.ne hL
  have hLn : ∀ b o, H b = some o → b ≠ p → b ≠ L := fun b o e nb => ne_of_none (S4.keep b o e nb) hL
  refine ⟨_, rfl, _, rfl, (by omega), (by omega), ?_⟩
  have hn : ((1 : Int) + d).toNat ≤ n.toNat := by omega
  refine for_range (n := ((1 : Int) + d).toNat) (lo := 0) (RowInv p L n d al H)
    ⟨none, none, none, none, pp0, pl0, [], [], rfl, ⟨S4.same (Same.upd hL), hpl4.same (Same.upd hL), upd_same, .nil⟩, spl0, rfl, .nil, fun cs c e => by simp at e⟩ ?_ ?_
  · rintro i σ H5 hi ⟨z6, z7, z8, z9, pp, pl, us, bs, rfl, R5, spl, hbl, G, hlast⟩
    -- speed
    refine ⟨_, rfl, p, rfl, R5.st.pool, fun sp q H6 s6 hsp ssp => ?_⟩
    -- weight
    refine ⟨_, rfl, _, rfl, p, _, rfl, by decide, by decide, s6.pool, fun d7 H7 b0 b1 s7 => ⟨_, _, rfl, rfl, ?_⟩⟩
    refine ⟨_, rfl, p, _, rfl, by decide, by decide, s7.pool, fun d8 H8 c0 c1 s8 => ⟨_, _, rfl, rfl, (by show 2 ≤ sizeLine; decide), fun l2 hl2 => ?_⟩⟩
    refine ⟨_, rfl, p, _, rfl, by decide, by decide, s8.pool.new hl2, fun d9 H9 e0 e1 s9 => ?_⟩
    obtain ⟨v, ev, hv⟩ := menu2 e0 e1 (V.int (1 + d7)) (V.int (1 + d8))
    refine ⟨l2, _, _, _, rfl, rfl, .of (s9.keep l2 _ upd_same (s8.pool.ne hl2)), ev, (by show 2 ≤ sizeLine; decide), fun l3 hl3 => ?_⟩
    obtain ⟨u, rfl, hu⟩ : ∃ u : Int, v = .int u ∧ 1 ≤ u ∧ u ≤ 1000 := by
      rcases hv with rfl | rfl
      · exact ⟨_, rfl, by omega, by omega⟩
      · exact ⟨_, rfl, by omega, by omega⟩
    refine ⟨_, rfl, rfl, .inr ⟨_, rfl, ?_⟩⟩
    obtain ⟨wt, ewt, hwt⟩ : ∃ wt : Int, atI [V.int al, .int u] (if decide (V.int al = V.int 0) then 1 else 0) = some (.int wt) ∧ 1 ≤ wt ∧ wt ≤ 1000 := by
      by_cases h : al = 0
      · subst h; exact ⟨u, rfl, hu⟩
      · have : decide (V.int al = V.int 0) = false := decide_eq_false (by intro z; injection z with z; exact h z)
        rw [this]
        exact ⟨al, rfl, by omega, by omega⟩
    refine ⟨l3, _, _, _, rfl, rfl, .of upd_same, ewt, ?_⟩
    have s59 : Step p H5 (upd H9 l3 (.lst [.int al, .int u])) := (s6.trans (s7.trans (s8.trans (s9.pre (Same.upd hl2))))).same (Same.upd hl3)
    have hsp9 : RatAt (upd H9 l3 (.lst [.int al, .int u])) sp q := ((s7.trans (s8.trans (s9.pre (Same.upd hl2)))).same (Same.upd hl3)).rat s6.pool hsp
    generalize upd H9 l3 (.lst [.int al, .int u]) = Ha at *
    -- gap
    refine ⟨_, rfl, p, _, rfl, by decide, by decide, s59.pool, fun d10 H10 f0 f1 s10 => ⟨_, _, rfl, rfl, (by show 3 ≤ sizeLine; decide), fun l4 hl4 => ?_⟩⟩
    refine ⟨_, rfl, p, _, rfl, by decide, by decide, s10.pool.new hl4, fun d11 H11 g0 g1 s11 => ?_⟩
    obtain ⟨bt, ebt, bt1, bt3⟩ := menu3 g0 g1
    refine ⟨l4, _, _, _, rfl, rfl, .of (s11.keep l4 _ upd_same (s10.pool.ne hl4)), ebt, ?_⟩
    have Bbt : Bd 5 bt := Nat.lt_of_le_of_lt (show bt.natAbs ≤ 3 by omega) (by decide)
    have Btp : Bd 5 (1 + d10) := Nat.lt_of_le_of_lt (show (1 + d10).natAbs ≤ 12 by omega) (by decide)
    refine ⟨_, _, rfl, (by omega), Bbt.mono (by decide), fun gp H12 e12 hg => ?_⟩
    have s12 : Step p Ha H12 := (s10.trans (s11.pre (Same.upd hl4))).same e12
    have R12 := R5.step hLp (s59.trans s12)
    have hsp12 : RatAt H12 sp q := s12.rat s59.pool hsp9
    -- what is wanted of the gap, and the rest of the turn
    have app : ∀ (D : Ends) (pp' gp : Addr) (pl' : Rat) (H14 : Hp), (∀ σ' H', RowInv p L n d al H (i + 1) σ' H' → D.nx σ' H') → RS p L pp' pl' us bs H H14 → RatAt H14 sp q → Sz (80 + 10 * (i + 1)) pl' → (∀ cs c, bs = cs ++ [c] → lexR c ⟨pl', q, wt⟩) →
        tDrop (tBM K "list" rAppend (tVar 5) (tCons (tTup (tCons (tVar 3) (tCons (tVar 7) (tCons (tVar 8) tNil)))) tNil)) D
          [some (.ref p), some (.int n), some (.int (1 + d)), some (.ref pp'), some (.int al), some (.ref L), some (.int (0 + (i : Int))), some (.ref sp), some (.int wt), some (.ref gp)] H14 := by
      intro D pp' gp pl' H14 hD R14 hsp14 sz14 hlex
      refine ⟨_, rfl, .inl ⟨rfl, _, SqL.of R14.ls⟩, _, rfl, _, rfl, _, rfl, (by show 3 ≤ sizeLine; decide), fun t ht => ?_⟩
      have hus : us.length = i := R14.bl.length.trans hbl
      refine ⟨L, us, _, rfl, rfl, Same.upd ht _ _ R14.ls, small1000 (by omega), hD _ _ ⟨_, _, _, _, pp', pl', us ++ [.ref t], bs ++ [⟨pl', q, wt⟩], rfl, ?_, sz14, (by rw [List.length_append, hbl]; rfl), ?_, ?_⟩⟩
      · have tl : t ≠ L := (ne_of_none R14.ls ht).symm
        have keepT : ∀ b xs, upd H14 t (.tup [.ref pp', .ref sp, .int wt]) b = some (.tup xs) → upd (upd H14 t (.tup [.ref pp', .ref sp, .int wt])) L (.lst (us ++ [.ref t])) b = some (.tup xs) := fun b xs e => by
          rw [upd_ne (ne_of e (Same.upd ht _ _ R14.ls) (by intro z; cases z))]; exact e
        refine ⟨⟨?_, fun b o e nb => ?_⟩, keepT _ _ (Same.upd ht _ _ R14.pl), upd_same, ?_⟩
        · obtain ⟨x, y, z, e⟩ := R14.st.pool
          exact ⟨x, y, z, by rw [upd_ne (Ne.symm hLp)]; exact Same.upd ht _ _ e⟩
        · rw [upd_ne (hLn b o e nb)]; exact Same.upd ht _ _ (R14.st.keep b o e nb)
        · exact BallsAt.append (.one (b := ⟨pl', q, wt⟩) (keepT _ _ upd_same) (keepT _ _ (Same.upd ht _ _ R14.pl)) (keepT _ _ (Same.upd ht _ _ hsp14))) ((R14.bl.same (Same.upd ht)).mono keepT)
      · exact G.snoc hwt ⟨sz14.mono (by omega), ssp⟩ hlex
      · intro cs c e
        have := List.append_inj_right' e rfl
        simp at this; rw [← this]
    have rest : ∀ (D : Ends) (gp : Addr) (g : Rat) (H13 : Hp), (∀ σ' H', RowInv p L n d al H (i + 1) σ' H' → D.nx σ' H') → RS p L pp pl us bs H H13 → RatAt H13 sp q → RatAt H13 gp g → Sz 5 g → (∀ cs c, bs = cs ++ [c] → 0 < g ∨ (g = 0 ∧ c.sp < q)) →
        tSeq (tIfS (tTest (tOp (rI0 fun i j => .bl (decide (j < i))) (tVar 6) (tC (.int 0)))) (tAsg (tCall (spBin Sz2 (· + ·)) [] E0 (tCons (tVar 3) (tCons (tVar 9) tNil))) (gName 3)) tNext)
          (tDrop (tBM K "list" rAppend (tVar 5) (tCons (tTup (tCons (tVar 3) (tCons (tVar 7) (tCons (tVar 8) tNil)))) tNil))) D
          [some (.ref p), some (.int n), some (.int (1 + d)), some (.ref pp), some (.int al), some (.ref L), some (.int (0 + (i : Int))), some (.ref sp), some (.int wt), some (.ref gp)] H13 := by
      intro D gp g H13 hD R13 hsp13 hg sg hrel
      refine ⟨_, rfl, _, _, rfl, rfl, _, rfl, ite2 (fun h => ?_) (fun h => ?_)⟩
      · refine ⟨_, rfl, _, rfl, pp, gp, pl, g, rfl, R13.pl, hg, ⟨spl.mono (by omega), sg.mono (by decide)⟩, fun pp' H14 e14 hpl' => ?_⟩
        refine app D pp' gp (pl + g) H14 hD ⟨R13.st.same e14, hpl', e14 _ _ R13.ls, R13.bl.same e14⟩ (hsp13.same e14) ((spl.add sg).mono (by omega)) fun cs c e => ?_
        have e1 := hlast cs c e
        rcases hrel cs c e with h1 | ⟨h1, h2⟩
        · exact .inl (by show c.pl < pl + g; rw [e1]; grind)
        · exact .inr ⟨by show c.pl = pl + g; rw [e1, h1]; grind, h2⟩
      · have h' : ¬ (0 : Int) < 0 + (i : Int) := fun z => h (decide_eq_true z)
        have i0 : i = 0 := by omega
        refine app D pp gp pl H13 hD R13 hsp13 (spl.mono (by omega)) fun cs c e => ?_
        have : bs = [] := List.length_eq_zero_iff.mp (by omega)
        rw [this] at e; simp at e
    have spos : 0 < Rat.divInt (1 + d10) bt := pos_divInt (by omega) (by omega)
    have sgap : Sz 5 (Rat.divInt (1 + d10) bt) := .divInt (by omega) Btp Bbt
    have hDn : ∀ (σ' : St) (H' : Hp), RowInv p L n d al H (i + 1) σ' H' → RowInv p L n d al H (i + 1) σ' H' := fun _ _ z => z
    refine ⟨_, rfl, _, _, rfl, rfl, _, rfl, ite2 (fun h => ?_) (fun h => ?_)⟩
    · refine ⟨_, rfl, p, _, rfl, by decide, by decide, R12.st.pool, fun d15 H15 _ _ s15 => ⟨rfl, _, rfl, ite2 (fun h2 => ?_) (fun h2 => ?_)⟩⟩
      · have h' : (0 : Int) < 0 + (i : Int) := of_decide_eq_true h
        have R15 := R12.step hLp s15
        obtain ⟨cs, c, ebs⟩ : ∃ cs c, bs = cs ++ [c] := by
          rcases List.eq_nil_or_concat bs with e | ⟨cs, c, e⟩
          · subst e; simp at hbl; omega
          · exact ⟨cs, c, by simpa using e⟩
        have hB := R15.bl
        rw [ebs] at hB
        obtain ⟨us', a, pa, qa, eus, ha, hpa, hqa⟩ := hB.last
        have szc : Sz 80 c.sp := (G.sz c (by rw [ebs]; simp)).2
        refine ⟨_, rfl, _, rfl, L, us, -1, .ref a, rfl, rfl, SqL.of R15.ls, (by rw [eus]; exact atI_last _ _), a, _, 1, _, rfl, rfl, SqT.of ha, rfl, _, rfl, qa, sp, c.sp, q, rfl, hqa, s15.rat R12.st.pool hsp12, szc.mono (by decide), ssp.mono (by decide), _, rfl, ite2 (fun h3 => ?_) (fun h3 => ?_)⟩
        · refine ⟨by show 2 ≤ sizeLine; decide, fun zp hz => ?_⟩
          refine rest _ zp 0 _ hDn ⟨R15.st.same (Same.upd hz), R15.pl.same (Same.upd hz), Same.upd hz _ _ R15.ls, R15.bl.same (Same.upd hz)⟩ ((s15.rat R12.st.pool hsp12).same (Same.upd hz)) upd_same sz_zero fun cs' c' e' => ?_
          have : c' = c := by
            rw [ebs] at e'
            have := List.append_inj_right' e' rfl
            simp at this; exact this.symm
          subst this
          exact .inr ⟨rfl, of_decide_eq_true h3⟩
        · exact rest _ gp _ _ hDn R15 (s15.rat R12.st.pool hsp12) (s15.rat R12.st.pool hg) sgap fun _ _ _ => .inl spos
      · exact rest _ gp _ _ hDn (R12.step hLp s15) (s15.rat R12.st.pool hsp12) (s15.rat R12.st.pool hg) sgap fun _ _ _ => .inl spos
    · exact rest _ gp _ _ hDn R12 hsp12 hg sgap fun _ _ _ => .inl spos
  · rintro σ H5 ⟨z6, z7, z8, z9, pp, pl, us, bs, rfl, R5, spl, hbl, G, hlast⟩
    refine ⟨_, rfl, L, us, rfl, .inl ⟨SqL.of R5.ls, fun r hr => ?_⟩⟩
    refine k r us bs _ (R5.st.same (Same.upd hr)) upd_same (R5.bl.same (Same.upd hr)) G ?_ (by omega)
    intro e; subst e; simp at hbl; omega
end
end KK
end
namespace KM
theorem divInt_lt {a b d : Int} (hd : 0 < d) : Rat.divInt a d < Rat.divInt b d ↔ a < b := by
  rw [Rat.divInt_eq_div, Rat.divInt_eq_div]
  have h : (0 : Rat) < d := Rat.intCast_pos.mpr hd
  rw [Rat.div_lt_iff h, Rat.div_mul_cancel (by grind)]; exact Rat.intCast_lt_intCast
theorem divInt_zero' (d : Int) : Rat.divInt 0 d = 0 := by simp
theorem divInt_pos {a d : Int} (hd : 0 < d) : 0 < Rat.divInt a d ↔ 0 < a := by
  have := divInt_lt (a := 0) (b := a) hd
  rw [divInt_zero'] at this; exact this
section
variable {x s : Rat}
end
section
variable {x : Rat} {f : Int}
end
end KM
section
set_option maxHeartbeats 8000000
set_option Elab.async false
set_option linter.all false
set_option maxRecDepth 100000
namespace KK
open PySem L2 KM
structure Tx3 (K : PySem.W.Frag) (mg : Str → Option Value) (tb tw : Tok) (aN : Addr) : Prop where
  nAll : mg "all" = none
  nZip : mg "zip" = none
  nList : mg "list" = none
  mb : mg "MOST_BALLS" = some (.int 8 tb)
  mw : mg "MOST_WEIGHT" = some (.int 1000 tw)
  tt : PySem.W.kitOne K (.type "tuple") (.type "tuple") = some true
  bb : PySem.W.kitOne K (.type "bool") (.type "bool") = some true
abbrev Wl := Option (Rat × Rat)
def WallAt (H : Hp) (v : V) : Wl → Prop
  | none => v = .non
  | some (x, y) => ∃ a p q, v = .ref a ∧ H a = some (.tup [.ref p, .ref q]) ∧ RatAt H p x ∧ RatAt H q y
theorem WallAt.same {H H' : Hp} {v : V} {l : Wl} (h : WallAt H v l) (e : Same H H') : WallAt H' v l := by
  cases l with
  | none => exact h
  | some z => obtain ⟨a, p, q, e1, e2, e3, e4⟩ := h; exact ⟨a, p, q, e1, e _ _ e2, e3.same e, e4.same e⟩
def WSz (l : Wl) : Prop := ∀ x y, l = some (x, y) → Sz 1000 x ∧ Sz 1000 y
def WS9 (l : Wl) : Prop := ∀ x y, l = some (x, y) → Sz 900 x ∧ Sz 900 y
theorem WS9.w {l : Wl} (h : WS9 l) : WSz l := fun x y e => ⟨(h x y e).1.mono (by decide), (h x y e).2.mono (by decide)⟩
def wgood : Wl → Wl → Bool
  | some l, some h => decide (l.1 < h.1)
  | _, _ => true
def fol (x y x' y' : Rat) : Bool := if x = x' then decide (y < y') else decide (x < x')
def Two (H : Hp) (v : V) (x y : Rat) : Prop := ∃ a p q r, v = .ref a ∧ H a = some (.tup (.ref p :: .ref q :: r)) ∧ RatAt H p x ∧ RatAt H q y ∧ (r = [] ∨ ∃ n, r = [.int n])
theorem Two.same {H H' : Hp} {v : V} {x y : Rat} (h : Two H v x y) (e : Same H H') : Two H' v x y := by
  obtain ⟨a, p, q, r, e1, e2, e3, e4, e5⟩ := h; exact ⟨a, p, q, r, e1, e _ _ e2, e3.same e, e4.same e, e5⟩
theorem WallAt.two {H : Hp} {v : V} {x y : Rat} (h : WallAt H v (some (x, y))) : Two H v x y := by
  obtain ⟨a, p, q, e1, e2, e3, e4⟩ := h; exact ⟨a, p, q, [], e1, e2, e3, e4, .inl rfl⟩
theorem eqv_two (x y x' y' : Rat) : PyData.eqv (.tuple [.tuple [.int x.num, .int (x.den : Int)], .tuple [.int y.num, .int (y.den : Int)]]) (.tuple [.tuple [.int x'.num, .int (x'.den : Int)], .tuple [.int y'.num, .int (y'.den : Int)]]) = (decide (x = x') && decide (y = y')) := by
  have e1 := eqv_rp x x'
  have e2 := eqv_rp y y'
  simp only [PyData.eqv, PyData.eqvAll, Bool.and_true] at e1 e2 ⊢
  rw [e1, e2]
section
variable {P : Program} {w : World} {K : PySem.W.Frag} {mg : Str → Option Value} {base : Heap} {tb tw : Tok} {aN : Addr}
theorem sc_istup : FnScope ["thing", "many"] ["thing", "many"] (defScope s_is_tuple) := ⟨rfl, rfl, rfl, by decide +kernel, rfl, by decide +kernel, by decide +kernel⟩
theorem sc_isr : FnScope ["thing", "top", "bottom"] ["thing"] (defScope s_is_ratio) := ⟨rfl, rfl, rfl, by decide +kernel, rfl, by decide +kernel, by decide +kernel⟩
def spLt : Sp := fun vs H Q _ => ∃ p q x y, vs = [.ref p, .ref q] ∧ RatAt H p x ∧ RatAt H q y ∧ Sz2 x y ∧ Q (.bl (decide (x < y))) H
theorem sc_lt : FnScope ["one", "other"] ["one", "other"] (defScope s_less) := ⟨rfl, rfl, rfl, by decide +kernel, rfl, by decide +kernel, by decide +kernel⟩
theorem lt_dec (x y : Rat) : decide (x.num * y.den < y.num * x.den) = decide (x < y) := by
  rw [Bool.eq_iff_iff, decide_eq_true_eq, decide_eq_true_eq]; exact less_iff x y
theorem ok_lt (D : Df K mg "less" s_less ["one", "other"] []) : Cal P w K mg base "less" 1 ["one", "other"] [] spLt := by
  refine D.cal (k := 0) sc_lt (fun vs H Q E h => by obtain ⟨_, _, _, _, rfl, _⟩ := h; rfl) (fun f cdv A outer s H vs Q E hr h => ?_)
  obtain ⟨p, q, x, y, rfl, hp, hq, ⟨hx, hy⟩, k⟩ := h
  have bx := Bd4 hx
  have b_y := Bd4 hy
  refine ⟨_, pss_one (ps_ret (pe_cmpR op_lt (pe_op op_mulB (pe_ix ix_tup (pv 0) pe_int (fun _ _ => rfl)) (pe_ix ix_tup (pv 1) pe_int (fun _ _ => rfl))) (pe_op op_mulB (pe_ix ix_tup (pv 1) pe_int (fun _ _ => rfl)) (pe_ix ix_tup (pv 0) pe_int (fun _ _ => rfl))) (nomark _))), ?_⟩
  refine ⟨_, rfl, p, _, _, _, rfl, rfl, .of hp, at0 .., _, rfl, q, _, _, _, rfl, rfl, .of hq, at1 .., _, _, rfl, rfl, ⟨bx.1, b_y.2⟩, _, rfl, q, _, _, _, rfl, rfl, .of hq, at0 .., _, rfl, p, _, _, _, rfl, rfl, .of hp, at1 .., _, _, rfl, rfl, ⟨b_y.1, bx.2⟩, _, _, rfl, rfl, ?_⟩
  show Q (.bl (decide (x.num * y.den < y.num * x.den))) H
  rw [lt_dec]; exact k
theorem sc_iswall : FnScope ["thing"] ["thing"] (defScope s_is_wall) := ⟨rfl, rfl, rfl, by decide +kernel, rfl, by decide +kernel, by decide +kernel⟩
theorem sc_iswp : FnScope ["thing"] ["thing"] (defScope s_is_wall_pair) := ⟨rfl, rfl, rfl, by decide +kernel, rfl, by decide +kernel, by decide +kernel⟩
theorem sc_wgood : FnScope ["thing", "low", "high"] ["thing"] (defScope s_walls_good) := ⟨rfl, rfl, rfl, by decide +kernel, rfl, by decide +kernel, by decide +kernel⟩
theorem sc_ballf : FnScope ["thing"] ["thing"] (defScope s_is_ball_form) := ⟨rfl, rfl, rfl, by decide +kernel, rfl, by decide +kernel, by decide +kernel⟩
theorem sc_iw : FnScope ["thing"] ["thing"] (defScope s_is_weight) := ⟨rfl, rfl, rfl, by decide +kernel, rfl, by decide +kernel, by decide +kernel⟩
theorem sc_ball : FnScope ["thing"] ["thing"] (defScope s_is_ball) := ⟨rfl, rfl, rfl, by decide +kernel, rfl, by decide +kernel, by decide +kernel⟩
def spFo : Sp := fun vs H Q _ => ∃ v u x y x' y', vs = [v, u] ∧ Two H v x y ∧ Two H u x' y' ∧ (Sz 1000 x ∧ Sz 1000 y ∧ Sz 1000 x' ∧ Sz 1000 y') ∧ Q (.bl (fol x y x' y')) H
theorem sc_fol : FnScope ["left", "right"] ["left", "right"] (defScope s_follows) := ⟨rfl, rfl, rfl, by decide +kernel, rfl, by decide +kernel, by decide +kernel⟩
theorem ok_fo (D : Df K mg "follows" s_follows ["left", "right"] []) (cLt : Cal P w K mg base "less" 1 ["one", "other"] [] spLt) : Cal P w K mg base "follows" 2 ["left", "right"] [] spFo := by
  refine D.cal (k := 1) sc_fol (fun vs H Q E h => by obtain ⟨_, _, _, _, _, _, rfl, _⟩ := h; rfl) (fun f cdv A outer s H vs Q E hr1 h => ?_)
  obtain ⟨v, u, x, y, x', y', rfl, ⟨a, p, q, r, rfl, ha, hp, hq, _⟩, ⟨a', p', q', r', rfl, ha', hp', hq', _⟩, ⟨zx, zy, zx', zy'⟩, k⟩ := h
  have hu := hr1.units
  refine ⟨_, (pss_cons (ps_if (pt_cmpR (op_eqD hu) (pe_ix ix_tup (pv 0) pe_int (fun _ _ => rfl)) (pe_ix ix_tup (pv 1) pe_int (fun _ _ => rfl)) (nomark _)) (pss_one (ps_ret (pe_c cLt hr1 (pa_cons (pe_ix ix_tup (pv 0) pe_int (fun _ _ => rfl)) (pa_cons (pe_ix ix_tup (pv 1) pe_int (fun _ _ => rfl)) pa_nil))))) pss_nil)
    (pss_one (ps_ret (pe_c cLt hr1 (pa_cons (pe_ix ix_tup (pv 0) pe_int (fun _ _ => rfl)) (pa_cons (pe_ix ix_tup (pv 1) pe_int (fun _ _ => rfl)) pa_nil)))))), ?_⟩
  refine ⟨_, rfl, a, _, _, _, rfl, rfl, .of ha, atI0 .., _, rfl, a', _, _, _, rfl, rfl, .of ha', atI0 .., _, _, hp.rd, hp'.rd, shaped_rp _, shaped_rp _, ?_⟩
  rw [eqv_rp]
  refine ⟨_, rfl, ite2 (fun h => ?_) (fun h => ?_)⟩
  · have hx : x = x' := of_decide_eq_true h
    refine ⟨_, rfl, a, _, _, _, rfl, rfl, .of ha, atI1 .., _, rfl, a', _, _, _, rfl, rfl, .of ha', atI1 .., q, q', y, y', rfl, hq, hq', ⟨zy.mono (by decide), zy'.mono (by decide)⟩, ?_⟩
    unfold fol at k; rw [if_pos hx] at k; exact k
  · have hx : ¬ x = x' := fun z => h (decide_eq_true z)
    refine ⟨_, rfl, a, _, _, _, rfl, rfl, .of ha, atI0 .., _, rfl, a', _, _, _, rfl, rfl, .of ha', atI0 .., p, p', x, x', rfl, hp, hp', ⟨zx.mono (by decide), zx'.mono (by decide)⟩, ?_⟩
    unfold fol at k; rw [if_neg hx] at k; exact k
def spKs : Sp := fun vs H Q _ => ∃ v u x y x' y', vs = [v, u] ∧ Two H v x y ∧ Two H u x' y' ∧ (Sz 1000 x ∧ Sz 1000 y ∧ Sz 1000 x' ∧ Sz 1000 y') ∧ ∀ H', Same H H' → Q (.bl ((decide (x = x') && decide (y = y')) || fol x y x' y')) H'
theorem two_cut {H : Hp} {v : V} {x y : Rat} {Q : VK} (h : Two H v x y) (k : ∀ a p q H', Same H H' → H' a = some (.tup [.ref p, .ref q]) → RatAt H' p x → RatAt H' q y → Q (.ref a) H') : rSlT K v none (some 2) H Q ∨ rSlW K v none (some 2) H Q := by
  obtain ⟨a, p, q, r, rfl, ha, hp, hq, hr⟩ := h
  rcases hr with rfl | ⟨n, rfl⟩
  · exact .inr ⟨a, _, rfl, .of ha, ⟨rfl, rfl⟩, k a p q H (Same.refl _) ha hp hq⟩
  · refine .inl ⟨a, _, rfl, .of ha, (by intro z; have z2 : HT.sIx 3 3 (some 2) = 3 := z.2; revert z2; decide), fun l hl => k l p q _ (Same.upd hl) upd_same (hp.same (Same.upd hl)) (hq.same (Same.upd hl))⟩
theorem sc_keep : FnScope ["left", "right"] ["left", "right"] (defScope s_keeps_side) := ⟨rfl, rfl, rfl, by decide +kernel, rfl, by decide +kernel, by decide +kernel⟩
theorem ok_ks (D : Df K mg "keeps_side" s_keeps_side ["left", "right"] []) (cFo : Cal P w K mg base "follows" 2 ["left", "right"] [] spFo) : Cal P w K mg base "keeps_side" 3 ["left", "right"] [] spKs := by
  refine D.cal (k := 2) sc_keep (fun vs H Q E h => by obtain ⟨_, _, _, _, _, _, rfl, _⟩ := h; rfl) (fun f cdv A outer s H vs Q E hr h => ?_)
  obtain ⟨v, u, x, y, x', y', rfl, hv, hu', zz, k⟩ := h
  have hu := hr.units
  refine ⟨_, (pss_one (ps_ret (pe_or (pe_cmpR (op_eqD hu) (pe_slice (sl_tup.or sl_whole) (pv 0) po_none (po_some pe_int)) (pe_slice (sl_tup.or sl_whole) (pv 1) po_none (po_some pe_int)) (nomark _)) (pe_one (pe_c cFo hr (pa_cons (pv 0) (pa_cons (pv 1) pa_nil))))))), ?_⟩
  refine ⟨_, rfl, _, rfl, two_cut hv fun a p q H1 e1 ha hp hq => ?_⟩
  refine ⟨_, rfl, _, rfl, two_cut (hu'.same e1) fun a' p' q' H2 e2 ha' hp' hq' => ?_⟩
  refine ⟨_, _, .tup (e2 _ _ ha) (.cons (hp.same e2).rd (.cons (hq.same e2).rd .nil)), .tup ha' (.cons hp'.rd (.cons hq'.rd .nil)), rfl, rfl, ?_⟩
  rw [eqv_two]
  have e3 := e1.trans e2
  cases hc : (decide (x = x') && decide (y = y')) with
  | true =>
    have := k H2 e3
    rw [hc, Bool.true_or] at this
    exact ⟨true, rfl, iteT this⟩
  | false =>
    have := k H2 e3
    rw [hc, Bool.false_or] at this
    exact ⟨false, rfl, iteF ⟨_, rfl, _, rfl, v, u, x, y, x', y', rfl, hv.same e3, hu'.same e3, zz, this⟩⟩
end
end KK
end
section
set_option maxHeartbeats 8000000
set_option Elab.async false
set_option linter.all false
set_option maxRecDepth 100000
namespace KK
open PySem L2 KM
theorem pg_tupK {X : Cx} {es : List Expr} {k : Nat} {pos : Pos} {t : TGs} {n : Nat} {K : PySem.W.Frag} (hK : X.K = K) (hc : X.calm = true) (h : PGs X es t)
    (hn : (assignEach es X.env).length = n := by rfl) (hst : (assignEach es X.env).findIdx? (·.1) = none := by rfl) : PG X (.Tuple es k pos) (gTup K n t) := by subst hK; exact pg_tup hc h hn hst
theorem tk_snoc {α : Type} {l : List α} {i : Nat} {x : α} (h : l[i]? = some x) : l.take (i + 1) = l.take i ++ [x] := by rw [List.take_add_one, h]; rfl
theorem ln1 {σ : St} (h : σ.length = 1) : ∃ a, σ = [a] := by
  match σ, h with
  | [a], _ => exact ⟨a, rfl⟩
theorem ln2 {σ : St} (h : σ.length = 2) : ∃ a b, σ = [a, b] := by
  match σ, h with
  | [a, b], _ => exact ⟨a, b, rfl⟩
def folB (z : Ball × Ball) : Bool := fol z.1.pl z.1.sp z.2.pl z.2.sp
def ordB (bs : List Ball) : Bool := (bs.zip bs.tail).all folB
def BSz (bs : List Ball) : Prop := ∀ b ∈ bs, Sz 1000 b.pl ∧ Sz 1000 b.sp
theorem ball_two {H : Hp} {a p q : Addr} {b : Ball} (h : H a = some (.tup [.ref p, .ref q, .int b.wt])) (hp : RatAt H p b.pl) (hq : RatAt H q b.sp) : Two H (.ref a) b.pl b.sp := ⟨a, p, q, _, rfl, h, hp, hq, .inr ⟨_, rfl⟩⟩
theorem sIx1 {n : Nat} (h : 1 ≤ n) : HT.sIx n 0 (some 1) = 1 := by
  show HT.sIx n 0 (some ((1 : Nat) : Int)) = 1
  rw [HT.sIx_nat]; omega
theorem cut1 {us : List V} (h : us ≠ []) : cutV us (some 1) none = us.drop 1 := by
  have hl : 1 ≤ us.length := by cases us with | nil => exact absurd rfl h | cons => simp
  unfold cutV
  rw [sIx1 hl, HT.sIx_none]
  rw [List.take_of_length_le (by rw [List.length_drop]; omega)]
section
variable {P : Program} {w : World} {K : PySem.W.Frag} {mg : Str → Option Value} {base : Heap} {tb tw : Tok} {aN : Addr}
theorem comp_ord {σ : St} {H : Hp} {Q : VK} {r : Addr} {us : List V} {bs : List Ball} (hσ : σ[0]? = some (some (.ref r))) (hr : H r = some (.tup us)) (hB : BallsAt H us bs) (hne : bs ≠ []) (hlen : bs.length ≤ 8) (hz : BSz bs)
    (k : ∀ D H', Same H H' → H' D = some (.lst (((bs.zip bs.tail).map folB).map V.bl)) → Q (.ref D) H') :
    tComp 2 (iZip K (tCons (tVar 0) (tCons (tSl (rSlT K) (tVar 0) (tPart (tC (.int 1))) tNoPart) tNil))) (gTup K 2 (gCons (gName 0) (gCons (gName 1) gNil))) (fun _ H Q => Q true H) (tCall spFo [] E0 (tCons (tVar 0) (tCons (tVar 1) tNil))) σ H Q := by
  have hl := hB.length
  have hus : us ≠ [] := by rintro rfl; simp at hl; exact hne (List.length_eq_zero_iff.mp hl.symm)
  have hl1 : 1 ≤ us.length := by cases us with | nil => exact absurd rfl hus | cons => simp
  refine ⟨_, hσ, _, hσ, _, rfl, r, us, rfl, .of hr, ?_, fun l hl' => ?_⟩
  · intro z
    have z1 : HT.sIx us.length 0 (some 1) = 0 := z.1
    rw [sIx1 hl1] at z1
    cases z1
  rw [cut1 hus]
  have hr1 := Same.upd (o := .tup (us.drop 1)) hl' _ _ hr
  refine ⟨r, l, rfl, ⟨_, .of hr1⟩, ⟨_, .of upd_same⟩, fun D hD => ?_⟩
  generalize hH1 : upd H l (.tup (us.drop 1)) = H1 at hr1 hD
  have e1 : Same H H1 := by rw [← hH1]; exact Same.upd hl'
  have hl1' : H1 l = some (.tup (us.drop 1)) := by rw [← hH1]; exact upd_same
  have hB1 := hB.same e1
  have hN : (bs.zip bs.tail).length = us.length - 1 := by rw [List.length_zip, List.length_tail, hl]; omega
  refine comp_by (J := Itz K r l) (g := gTup K 2 (gCons (gName 0) (gCons (gName 1) gNil))) (tt := fun _ H Q => Q true H) (te := tCall spFo [] E0 (tCons (tVar 0) (tCons (tVar 1) tNil))) (Q := Q) (N := us.length - 1) (n := 2) (fun i H2 ys => Same H1 H2 ∧ ys = (((bs.zip bs.tail).map folB).map V.bl).take i) ⟨Same.upd hD, rfl⟩ (fun i H2 ys hi ⟨s2, _⟩ => ?_) (fun H2 ys ⟨s2, _⟩ => ?_) ?_ ?_
  · exact ⟨us, us.drop 1, us[i]'(by omega), us[i + 1]'(by omega), .of (s2 _ _ hr1), .of (s2 _ _ hl1'), List.getElem?_eq_getElem _, by rw [List.getElem?_drop, Nat.add_comm 1 i]; exact List.getElem?_eq_getElem _⟩
  · exact ⟨us, us.drop 1, .of (s2 _ _ hr1), .of (s2 _ _ hl1'), .inr (by rw [List.length_drop]; exact Nat.le_refl _)⟩
  · rintro i x zs H2 H3 ys Nx hNx hi hzs ⟨T, x1, y1, rfl, hT, rfl, f1, f2⟩ ⟨s2, rfl⟩ hD2
    obtain ⟨z1, z2, rfl⟩ := ln2 hzs
    have g1 := f1 us (.of (s2 _ _ hr1))
    have g2 := f2 (us.drop 1) (.of (s2 _ _ hl1'))
    rw [List.getElem?_drop, Nat.add_comm 1 i] at g2
    obtain ⟨a, p, q, b, eb, rfl, ha, hp, hq⟩ := hB1.get g1
    obtain ⟨a', p', q', c, ec, rfl, ha', hp', hq'⟩ := hB1.get g2
    have s3 : Same H1 (upd H2 T (.tup [.ref a, .ref a'])) := s2.trans (Same.upd hT)
    refine ⟨T, _, rfl, .of upd_same, rfl, _, _, rfl, _, _, rfl, rfl, iteT ?_⟩
    have mb := List.mem_of_getElem? eb
    have mc := List.mem_of_getElem? ec
    refine ⟨_, rfl, _, rfl, _, _, b.pl, b.sp, c.pl, c.sp, rfl, (ball_two (s3 _ _ ha) (hp.same s3) (hq.same s3)), (ball_two (s3 _ _ ha') (hp'.same s3) (hq'.same s3)), ⟨(hz b mb).1, (hz b mb).2, (hz c mc).1, (hz c mc).2⟩, ?_⟩
    refine ⟨by rw [upd_ne (ne_of_none hD2 hT)]; exact hD2, ?_, hNx _ _ ⟨same_mk hD s2 (Same.upd hT), ?_⟩⟩
    · rw [List.length_take]; exact small1000 (by omega)
    · have ez : (bs.zip bs.tail)[i]? = some (b, c) := by
        have : bs.tail[i]? = some c := by rw [List.getElem?_tail]; exact ec
        rw [List.getElem?_zip_eq_some]; exact ⟨eb, this⟩
      rw [tk_snoc (x := V.bl (folB (b, c))) (by rw [List.getElem?_map, List.getElem?_map, ez]; rfl)]; rfl
  · rintro H2 ys ⟨s2, rfl⟩ hD2
    rw [List.take_of_length_le (by rw [List.length_map, List.length_map, hN]; exact Nat.le_refl _)] at hD2
    exact k D H2 (e1.trans s2) hD2
theorem all_map (f : α → Bool) (l : List α) : (l.map f).all id = l.all f := by rw [List.all_map]; rfl
def spOd : Sp := fun vs H Q _ => ∃ r us bs, vs = [.ref r] ∧ H r = some (.tup us) ∧ BallsAt H us bs ∧ bs ≠ [] ∧ bs.length ≤ 8 ∧ BSz bs ∧ ∀ H', Same H H' → Q (.bl (ordB bs)) H'
theorem sc_ord : FnScope ["row"] ["row"] (defScope s_is_ordered) := ⟨rfl, rfl, rfl, by decide +kernel, rfl, by decide +kernel, by decide +kernel⟩
theorem ok_od (D : Df K mg "is_ordered" s_is_ordered ["row"] []) (T3 : Tx3 K mg tb tw aN) (cFo : Cal P w K mg base "follows" 2 ["left", "right"] [] spFo) : Cal P w K mg base "is_ordered" 3 ["row"] [] spOd := by
  refine D.cal (k := 2) sc_ord (fun vs H Q E h => by obtain ⟨_, _, _, rfl, _⟩ := h; rfl) (fun f cdv A outer s H vs Q E hr h => ?_)
  obtain ⟨r, us, bs, rfl, hrr, hB, hne, hlen, hz, k⟩ := h
  refine ⟨_, (pss_one (ps_ret (pe_callB (call_all rfl) (by rfl) T3.nAll (by decide +kernel) (pa_cons (pe_comp (NB := ["left", "right"]) rfl (by decide +kernel) (by decide +kernel) rfl (by decide +kernel) (pi_zip (by rfl) T3.nZip (pa_cons (pv 0) (pa_cons (pe_slice sl_tup (pv 0) (po_some pe_int) po_none) pa_nil))) (by intro _ _ _; refine ⟨?_, ?_, ?_⟩; (exact (pg_tupK (K := K) (n := 2) rfl rfl (pgs_cons (pg_name (i := 0) (show List.Nodup (["left", "right"] : List Str) by decide +kernel) rfl (Or.inl rfl)) (pgs_cons (pg_name (i := 1) (show List.Nodup (["left", "right"] : List Str) by decide +kernel) rfl (Or.inl rfl)) pgs_nil)))); (exact pts_nil); (exact (pe_c cFo hr (pa_cons (pv 0) (pa_cons (pv 1) pa_nil)))))) pa_nil)))), ?_⟩
  unfold tRet tCB tCons
  refine comp_ord (K := K) rfl hrr hB hne hlen hz fun D H' e hD => ⟨D, _, rfl, SqL.of hD, ?_⟩
  rw [all_map]; exact k H' e
def loB (l : Wl) (b : Ball) : Bool := match l with | none => true | some (x, y) => (decide (x = b.pl) && decide (y = b.sp)) || fol x y b.pl b.sp
def hiB (l : Wl) (c : Ball) : Bool := match l with | none => true | some (x, y) => (decide (c.pl = x) && decide (c.sp = y)) || fol c.pl c.sp x y
def btwB (l h : Wl) (b c : Ball) : Bool := loB l b && hiB h c
def spBe : Sp := fun vs H Q _ => ∃ a v1 v2 l1 l2 r us bs b cs c, vs = [.ref a, .ref r] ∧ H a = some (.tup [v1, v2]) ∧ WallAt H v1 l1 ∧ WallAt H v2 l2 ∧ WSz l1 ∧ WSz l2 ∧ H r = some (.tup us) ∧ BallsAt H us bs ∧ bs[0]? = some b ∧ bs = cs ++ [c] ∧ BSz bs ∧ ∀ H', Same H H' → Q (.bl (btwB l1 l2 b c)) H'
theorem sc_betw : FnScope ["walls", "row", "low", "high"] ["walls", "row"] (defScope s_is_between) := ⟨rfl, rfl, rfl, by decide +kernel, rfl, by decide +kernel, by decide +kernel⟩
theorem ok_be (D : Df K mg "is_between" s_is_between ["walls", "row"] []) (cKs : Cal P w K mg base "keeps_side" 3 ["left", "right"] [] spKs) : Cal P w K mg base "is_between" 4 ["walls", "row"] [] spBe := by
  refine D.cal (k := 3) sc_betw (fun vs H Q E h => by obtain ⟨_, _, _, _, _, _, _, _, _, _, _, rfl, _⟩ := h; rfl) (fun f cdv A outer s H vs Q E hr h => ?_)
  obtain ⟨a, v1, v2, l1, l2, r, us, bs, b, cs, c, rfl, ha, h1, h2, z1, z2, hrr, hB, eb, ebs, hz, k⟩ := h
  refine ⟨_, (pss_cons (ps_asg (pv 0) (pg_tup rfl (pgs_cons (pg_name (i := 2) sc_betw.nd rfl (Or.inl rfl)) (pgs_cons (pg_name (i := 3) sc_betw.nd rfl (Or.inl rfl)) pgs_nil))))
    (pss_cons (ps_if ((pw_and (pt_cmpR op_notN (pv 2) pe_non (nomark _)) (pw_and1 (pt_not (pt_truth (pe_c cKs hr (pa_cons (pv 2) (pa_cons (pe_ix ix_tup (pv 1) pe_int (fun _ _ => rfl)) pa_nil))) fun _ => rfl))))).pt (pss_one (ps_ret pe_bl)) pss_nil)
    (pss_one (ps_ret (pe_or (pe_cmpR op_isN (pv 3) pe_non (nomark _)) (pe_one (pe_c cKs hr (pa_cons (pe_ix ix_tup (pv 1) (pe_un un_neg pe_int) (fun _ _ => rfl)) (pa_cons (pv 3) pa_nil))))))))), ?_⟩
  refine ⟨_, rfl, a, _, rfl, SqT.of ha, rfl, _, _, rfl, _, _, rfl, rfl, ?_⟩
  have mb : b ∈ bs := List.mem_of_getElem? eb
  have mc : c ∈ bs := by rw [ebs]; simp
  obtain ⟨b0, eu⟩ : ∃ v, us[0]? = some v := by
    have : 0 < us.length := by rw [hB.length, ebs]; simp
    exact ⟨us[0], List.getElem?_eq_getElem this⟩
  obtain ⟨ab, pb, qb, b', e1, rfl, hb1, hb2, hb3⟩ := hB.get eu
  rw [eb] at e1; cases e1
  obtain ⟨us', ac, pc, qc, eus, hc1, hc2, hc3⟩ := (ebs ▸ hB : BallsAt H us (cs ++ [c])).last
  have i0 : atI us 0 = some (.ref ab) := atI_nat (j := 0) eu
  have i1 : atI us (-1) = some (.ref ac) := by rw [eus]; exact atI_last _ _
  have hi : ∀ (H1 : Hp) (σ : St), Same H H1 → σ[1]? = some (some (.ref r)) → σ[3]? = some (some v2) → (∀ H', Same H H' → Q (.bl (hiB l2 c)) H') →
      tRet (tOrV (tOp (fun x y H Q => y = .non ∧ Q (.bl (decide (x = .non))) H) (tVar 3) (tC .non)) (tCall spKs [] E0 (tCons (tOp (rIxT K) (tVar 1) (tUn (rU fun i => V.int (-i)) (tC (.int 1)))) (tCons (tVar 3) tNil)))) { nx := fun _ H' => Q .non H', rt := Q } σ H1 := fun H1 σ e3 s1 s3 kk => by
    cases l2 with
    | none =>
      obtain rfl : v2 = .non := h2
      exact ⟨_, s3, rfl, true, rfl, iteT (kk H1 e3)⟩
    | some z =>
      obtain ⟨x, y⟩ := z
      have h2' := h2
      obtain ⟨a2, p2, q2, rfl, _⟩ := h2'
      exact ⟨_, s3, rfl, false, rfl, iteF ⟨_, s1, _, rfl, r, us, -1, _, rfl, rfl, .of (e3 _ _ hrr), i1, _, s3, _, _, c.pl, c.sp, x, y, rfl, ball_two (e3 _ _ hc1) (hc2.same e3) (hc3.same e3), (h2.same e3).two, ⟨(hz c mc).1, (hz c mc).2, (z2 _ _ rfl).1, (z2 _ _ rfl).2⟩, fun H2 e4 => kk H2 (e3.trans e4)⟩⟩
  cases l1 with
  | none =>
    obtain rfl : v1 = .non := h1
    refine ⟨_, rfl, rfl, false, rfl, iteF (iteF ?_)⟩
    exact hi H _ (Same.refl _) rfl rfl fun H' e => by have := k H' e; unfold btwB loB at this; rw [Bool.true_and] at this; exact this
  | some z =>
    obtain ⟨x, y⟩ := z
    have h1' := h1
    obtain ⟨a1, p1, q1, rfl, _⟩ := h1'
    refine ⟨_, rfl, rfl, true, rfl, iteT ?_⟩
    refine ⟨_, rfl, _, rfl, r, us, 0, _, rfl, rfl, .of hrr, i0, _, _, x, y, b.pl, b.sp, rfl, h1.two, ball_two hb1 hb2 hb3, ⟨(z1 _ _ rfl).1, (z1 _ _ rfl).2, (hz b mb).1, (hz b mb).2⟩, fun H2 e2 => ?_⟩
    have k2 := k H2 e2
    unfold btwB loB at k2
    cases hc : ((decide (x = b.pl) && decide (y = b.sp)) || fol x y b.pl b.sp) with
    | true =>
      refine ⟨true, rfl, iteF ?_⟩
      exact hi H2 _ e2 rfl rfl fun H' e => by have := k H' e; unfold btwB loB at this; simp only [hc, Bool.true_and] at this; exact this
    | false =>
      simp only [hc, Bool.false_and] at k2
      exact ⟨false, rfl, iteT k2⟩
def rowB (l h : Wl) (bs : List Ball) (b c : Ball) : Bool := wgood l h && (ordB bs && btwB l h b c)
theorem sc_isrow : FnScope ["walls", "thing"] ["walls", "thing"] (defScope s_is_row) := ⟨rfl, rfl, rfl, by decide +kernel, rfl, by decide +kernel, by decide +kernel⟩
end
end KK
end
section
set_option maxHeartbeats 8000000
set_option Elab.async false
set_option linter.all false
set_option maxRecDepth 100000
namespace KK
open PySem L2 KM
theorem vint_dec (i j : Int) : decide (V.int i = V.int j) = decide (i = j) := by
  rw [Bool.eq_iff_iff, decide_eq_true_eq, decide_eq_true_eq]
  exact ⟨fun z => by injection z, fun z => by rw [z]⟩
theorem rat_int {H : Hp} {p : Addr} {n : Int} (h : H p = some (.tup [.int n, .int 1])) : RatAt H p (n : Rat) := by
  unfold RatAt rp; rw [int_num, int_den]; exact h
theorem sz_sd {n : Int} (h : n = 1 ∨ n = -1) : Sz 1 (n : Rat) := by
  refine Sz.int ?_ (by decide)
  rcases h with rfl | rfl
  · show (1 : Int).natAbs < 2 ^ 1; decide
  · show (-1 : Int).natAbs < 2 ^ 1; decide
section
variable {P : Program} {w : World} {K : PySem.W.Frag} {mg : Str → Option Value} {base : Heap} {tb tw : Tok} {aN : Addr}
def okSide (sd : Int) (b : Ball) : Wl → Prop
  | none => True
  | some (x, y) => ∃ g : Rat, x = b.pl + g * ((-sd : Int) : Rat) ∧ (0 < g ∨ (g = 0 ∧ ¬ (b.sp * (sd : Rat) < y * (sd : Rat))))
def spBo : Sp := fun vs H Q _ => ∃ (p a pp qq : Addr) (b : Ball) (sd : Int), vs = [.ref p, .ref a, .int sd] ∧ (sd = 1 ∨ sd = -1) ∧ Pool H p ∧ H a = some (.tup [.ref pp, .ref qq, .int b.wt]) ∧ RatAt H pp b.pl ∧ RatAt H qq b.sp ∧ Sz 300 b.pl ∧ Sz 80 b.sp ∧
  ∀ v l H', Step p H H' → WallAt H' v l → WS9 l → okSide sd b l → Q v H'
theorem sc_bound : FnScope ["pool", "ball", "side", "way", "speed", "gap"] ["pool", "ball", "side"] (defScope s_law_bound) := ⟨rfl, rfl, rfl, by decide +kernel, rfl, by decide +kernel, by decide +kernel⟩
theorem ok_bo (D : Df K mg "_law_bound" s_law_bound ["pool", "ball", "side"] []) (cN : Cal P w K mg base "_law_next" 1 ["pool", "base"] [] spNext) (cR : Cal P w K mg base "_law_ratio" 3 ["pool"] [] spRat) (cL : Cal P w K mg base "_law_lowest" 1 ["top", "bottom"] [] spLow)
    (cLe : Cal P w K mg base "_law_less" 1 ["one", "other"] [] spLess) (cPr : Cal P w K mg base "_law_product" 2 ["one", "other"] [] (spBin Sz2 (· * ·))) (cS : Cal P w K mg base "_law_sum" 2 ["one", "other"] [] (spBin Sz2 (· + ·))) : Cal P w K mg base "_law_bound" 4 ["pool", "ball", "side"] [] spBo := by
  refine D.cal (k := 3) sc_bound (fun vs H Q E h => by obtain ⟨_, _, _, _, _, _, rfl, _⟩ := h; rfl) (fun f cdv A outer s H vs Q E hr h => ?_)
  obtain ⟨p, a, pp, qq, b, sd, rfl, hsd, hP, ha, hp, hq, zp, zq, k⟩ := h
  have hr1 : Room 1 _ := hr.mono (by decide)
  have hr2 : Room 2 _ := hr.mono (by decide)
  refine ⟨_, (pss_cons (ps_set (i := 3) sc_bound.nd rfl (Or.inl rfl) (pe_c cN hr1 (pa_cons (pv 0) (pa_cons pe_int pa_nil))))
    (pss_cons (ps_if (pt_cmpR op_eq (pv 3) pe_int (nomark _)) (pss_one (ps_ret pe_non)) pss_nil)
    (pss_cons (ps_set (i := 4) sc_bound.nd rfl (Or.inl rfl) (pe_ix ix_list (pe_lst (pa_cons (pe_tup (pa_cons pe_int (pa_cons pe_int pa_nil))) (pa_cons (pe_c cR hr (pa_cons (pv 0) pa_nil)) (pa_cons (pe_ix ix_tup (pv 1) pe_int (fun _ _ => rfl)) pa_nil)))) (pe_c cN hr1 (pa_cons (pv 0) (pa_cons pe_int pa_nil))) (fun _ _ => rfl)))
    (pss_cons (ps_set (i := 5) sc_bound.nd rfl (Or.inl rfl) (pe_c cL hr1 (pa_cons (pe_op op_add pe_int (pe_c cN hr1 (pa_cons (pv 0) (pa_cons pe_int pa_nil)))) (pa_cons (pe_op op_add pe_int (pe_c cN hr1 (pa_cons (pv 0) (pa_cons pe_int pa_nil)))) pa_nil))))
    (pss_cons (ps_if ((pw_and (pt_cmpR op_eq (pv 3) pe_int (nomark _)) (pw_and1 (pt_not (pt_truth (pe_c cLe hr1 (pa_cons (pe_c cPr hr2 (pa_cons (pe_ix ix_tup (pv 1) pe_int (fun _ _ => rfl)) (pa_cons (pe_tup (pa_cons (pv 2) (pa_cons pe_int pa_nil))) pa_nil))) (pa_cons (pe_c cPr hr2 (pa_cons (pv 4) (pa_cons (pe_tup (pa_cons (pv 2) (pa_cons pe_int pa_nil))) pa_nil))) pa_nil))) fun _ => rfl))))).pt (pss_one (ps_set (i := 5) sc_bound.nd rfl (Or.inl rfl) (pe_tup (pa_cons pe_int (pa_cons pe_int pa_nil))))) pss_nil)
    (pss_one (ps_ret (pe_tup (pa_cons (pe_c cS hr2 (pa_cons (pe_ix ix_tup (pv 1) pe_int (fun _ _ => rfl)) (pa_cons (pe_c cPr hr2 (pa_cons (pv 5) (pa_cons (pe_tup (pa_cons (pe_un un_neg (pv 2)) (pa_cons pe_int pa_nil))) pa_nil))) pa_nil))) (pa_cons (pv 4) pa_nil)))))))))), ?_⟩
  refine ⟨_, rfl, p, _, rfl, by decide, by decide, hP, fun wy H1 w0 w1 s1 => ?_⟩
  refine ⟨_, rfl, rfl, _, rfl, ite2 (fun _ => ?_) (fun _ => ?_)⟩
  · exact k .non none H1 s1 rfl (fun _ _ z => by cases z) trivial
  -- speed
  refine ⟨by show 2 ≤ sizeLine; decide, fun t0 ht0 => ?_⟩
  have hP1 : Pool (upd H1 t0 (.tup [.int 0, .int 1])) p := s1.pool.new ht0
  refine ⟨_, rfl, p, rfl, hP1, fun rs y1 H3 s3 hy1 zy1 => ?_⟩
  have S3 : Step p H H3 := s1.trans (s3.pre (Same.upd ht0))
  have ha3 := S3.tup hP ha
  have hq3 := S3.rat hP hq
  have t03 : RatAt H3 t0 ((0 : Int) : Rat) := rat_int (s3.tup hP1 upd_same)
  refine ⟨_, rfl, a, _, _, _, rfl, rfl, .of ha3, rfl, by show 3 ≤ sizeLine; decide, fun l hl => ?_⟩
  refine ⟨_, rfl, p, _, rfl, by decide, by decide, S3.pool.new hl, fun d H4 d0 d1 s4 => ?_⟩
  have m3 : ∃ v, atI [V.ref t0, V.ref rs, V.ref qq] d = some v ∧ (v = .ref t0 ∨ v = .ref rs ∨ v = .ref qq) := by
    have : d = 0 ∨ d = 1 ∨ d = 2 := by omega
    rcases this with rfl | rfl | rfl
    · exact ⟨_, rfl, .inl rfl⟩
    · exact ⟨_, rfl, .inr (.inl rfl)⟩
    · exact ⟨_, rfl, .inr (.inr rfl)⟩
  obtain ⟨v, ev, hv⟩ := m3
  refine ⟨l, _, _, _, rfl, rfl, .of (s4.keep l _ upd_same (S3.pool.ne hl)), ev, ?_⟩
  have S34 : Step p H3 H4 := s4.pre (Same.upd hl)
  have S4 : Step p H H4 := S3.trans S34
  obtain ⟨ps, y, rfl, hy, zy⟩ : ∃ ps y, v = .ref ps ∧ RatAt H4 ps y ∧ Sz 80 y := by
    rcases hv with rfl | rfl | rfl
    · exact ⟨t0, _, rfl, S34.rat S3.pool t03, (Sz.int (n := 80) (show (0 : Int).natAbs < 2 ^ 80 by decide) (by decide))⟩
    · exact ⟨rs, y1, rfl, S34.rat S3.pool hy1, zy1⟩
    · exact ⟨qq, b.sp, rfl, S4.rat hP hq, zq⟩
  -- gap
  refine ⟨_, rfl, p, _, rfl, by decide, by decide, S4.pool, fun g1 H5 g10 g11 s5 => ?_⟩
  refine ⟨_, _, rfl, rfl, ?_⟩
  refine ⟨_, rfl, p, _, rfl, by decide, by decide, s5.pool, fun g2 H6 g20 g21 s6 => ?_⟩
  refine ⟨_, _, rfl, rfl, ?_⟩
  have bb2 : Bd 80 (1 + g2) := Nat.lt_of_le_of_lt (show (1 + g2).natAbs ≤ 3 by omega) (by decide)
  have bb1 : Bd 80 (1 + g1) := Nat.lt_of_le_of_lt (show (1 + g1).natAbs ≤ 10 by omega) (by decide)
  refine ⟨_, _, rfl, (by omega), bb2.mono (by decide), fun pg H7 e7 hg => ?_⟩
  have hg0 : 0 < Rat.divInt (1 + g1) (1 + g2) := (divInt_pos (by omega)).mpr (by omega)
  have zg : Sz 80 (Rat.divInt (1 + g1) (1 + g2)) := .divInt (by omega) bb1 bb2
  have hg : RatAt H7 pg (Rat.divInt (1 + g1) (1 + g2)) := hg
  generalize Rat.divInt (1 + g1) (1 + g2) = gp at hg0 zg hg
  have S47 : Step p H4 H7 := (s5.trans s6).same e7
  have S7 : Step p H H7 := S4.trans S47
  have hy7 := S47.rat S4.pool hy
  have zsd := sz_sd hsd
  have zsd' : Sz 1 ((-sd : Int) : Rat) := sz_sd (by omega)
  -- the end
  have fin : ∀ (H8 : Hp) (pg : Addr) (gp : Rat) (z : Option V), Step p H H8 → RatAt H8 ps y → RatAt H8 pg gp → Sz 80 gp → (0 < gp ∨ (gp = 0 ∧ ¬ (b.sp * (sd : Rat) < y * (sd : Rat)))) →
      tRet (tTup (tCons (tCall (spBin Sz2 (· + ·)) [] E0 (tCons (tOp (rIxT K) (tVar 1) (tC (.int 0))) (tCons (tCall (spBin Sz2 (· * ·)) [] E0 (tCons (tVar 5) (tCons (tTup (tCons (tUn (rU fun i => V.int (-i)) (tVar 2)) (tCons (tC (.int 1)) tNil))) tNil))) tNil))) (tCons (tVar 4) tNil)))
        { nx := fun _ H' => Q .non H', rt := Q } [some (.ref p), some (.ref a), some (.int sd), z, some (.ref ps), some (.ref pg)] H8 := fun H8 pg gp z S8 hy8 hg8 zg8 ok => by
    have ha8 := S8.tup hP ha
    refine ⟨_, rfl, a, _, _, _, rfl, rfl, .of ha8, rfl, _, rfl, _, rfl, _, rfl, by show 2 ≤ sizeLine; decide, fun t1 ht1 => ?_⟩
    have e1 : Same H8 (upd H8 t1 (.tup [.int (-sd), .int 1])) := Same.upd ht1
    refine ⟨pg, t1, gp, ((-sd : Int) : Rat), rfl, hg8.same e1, rat_int upd_same, ⟨zg8.mono (by decide), zsd'.mono (by decide)⟩, fun pm H9 e9 hm => ?_⟩
    have e89 := e1.trans e9
    refine ⟨pp, pm, b.pl, _, rfl, (S8.rat hP hp).same e89, hm, ⟨zp.mono (by decide), (zg8.mul zsd').mono (by decide)⟩, fun pr H10 e10 hr10 => ?_⟩
    have e810 := e89.trans e10
    refine ⟨_, rfl, by show 2 ≤ sizeLine; decide, fun t2 ht2 => ?_⟩
    have e2 : Same H10 (upd H10 t2 (.tup [.ref pr, .ref ps])) := Same.upd ht2
    refine k (.ref t2) (some (b.pl + gp * ((-sd : Int) : Rat), y)) _ ((S8.same e810).same e2) ⟨t2, pr, ps, rfl, upd_same, hr10.same e2, (hy8.same e810).same e2⟩ (fun x' y' z => ?_) ⟨gp, rfl, ok⟩
    cases z
    exact ⟨(zp.add (zg8.mul zsd')).mono (by decide), zy.mono (by decide)⟩
  have ha7 := S7.tup hP ha
  refine ⟨_, rfl, rfl, _, rfl, ite2 (fun _ => ?_) (fun _ => ?_)⟩
  · refine ⟨_, rfl, a, _, _, _, rfl, rfl, .of ha7, rfl, _, rfl, by show 2 ≤ sizeLine; decide, fun t1 ht1 => ?_⟩
    have e1 : Same H7 (upd H7 t1 (.tup [.int sd, .int 1])) := Same.upd ht1
    refine ⟨qq, t1, b.sp, (sd : Rat), rfl, (S7.rat hP hq).same e1, rat_int upd_same, ⟨zq.mono (by decide), zsd.mono (by decide)⟩, fun p1 H8 e8 h8 => ?_⟩
    have e78 := e1.trans e8
    refine ⟨_, rfl, _, rfl, by show 2 ≤ sizeLine; decide, fun t2 ht2 => ?_⟩
    have e2 : Same H8 (upd H8 t2 (.tup [.int sd, .int 1])) := Same.upd ht2
    refine ⟨ps, t2, y, (sd : Rat), rfl, (hy7.same e78).same e2, rat_int upd_same, ⟨zy.mono (by decide), zsd.mono (by decide)⟩, fun p2 H9 e9 h9 => ?_⟩
    have e79 := e78.trans (e2.trans e9)
    refine ⟨p1, p2, _, _, rfl, h8.same (e2.trans e9), h9, (zq.mul zsd).mono (by decide), (zy.mul zsd).mono (by decide), ?_⟩
    cases hc : decide (b.sp * (sd : Rat) < y * (sd : Rat)) with
    | true => exact ⟨true, rfl, iteF (fin H9 pg gp _ (S7.same e79) (hy7.same e79) (hg.same e79) zg (.inl hg0))⟩
    | false =>
      refine ⟨false, rfl, iteT ⟨by show 2 ≤ sizeLine; decide, fun t3 ht3 => ?_⟩⟩
      have e3 := e79.trans (Same.upd (o := .tup [.int 0, .int 1]) ht3)
      exact fin _ t3 ((0 : Int) : Rat) _ (S7.same e3) (hy7.same e3) (rat_int upd_same) (Sz.int (n := 80) (show (0 : Int).natAbs < 2 ^ 80 by decide) (by decide)) (.inr ⟨rfl, of_decide_eq_false hc⟩)
  · exact iteF (fin H7 pg gp _ S7 hy7 hg zg (.inl hg0))
def spBs : Sp := fun vs H Q _ => ∃ (p r : Addr) (us : List V) (bs : List Ball) (b : Ball) (cs : List Ball) (c : Ball), vs = [.ref p, .ref r] ∧ Pool H p ∧ H r = some (.tup us) ∧ BallsAt H us bs ∧ bs[0]? = some b ∧ bs = cs ++ [c] ∧ (∀ b ∈ bs, Sz 300 b.pl ∧ Sz 80 b.sp) ∧
  ∀ a v1 v2 l1 l2 H', Step p H H' → H' a = some (.tup [v1, v2]) → WallAt H' v1 l1 → WallAt H' v2 l2 → WS9 l1 → WS9 l2 → okSide 1 b l1 → okSide (-1) c l2 → wgood l1 l2 = true → Q (.ref a) H'
theorem sc_bounds : FnScope ["pool", "row", "low", "high"] ["pool", "row"] (defScope s_law_bounds) := ⟨rfl, rfl, rfl, by decide +kernel, rfl, by decide +kernel, by decide +kernel⟩
theorem WallAt.step {p : Addr} {H H' : Hp} {v : V} {l : Wl} (h : WallAt H v l) (s : Step p H H') (hP : Pool H p) : WallAt H' v l := by
  cases l with
  | none => exact h
  | some z => obtain ⟨a, p', q, e1, e2, e3, e4⟩ := h; exact ⟨a, p', q, e1, s.tup hP e2, s.rat hP e3, s.rat hP e4⟩
theorem ok_bs (D : Df K mg "_law_bounds" s_law_bounds ["pool", "row"] []) (cBo : Cal P w K mg base "_law_bound" 4 ["pool", "ball", "side"] [] spBo) (cLe : Cal P w K mg base "_law_less" 1 ["one", "other"] [] spLess) : Cal P w K mg base "_law_bounds" 5 ["pool", "row"] [] spBs := by
  refine D.cal (k := 4) sc_bounds (fun vs H Q E h => by obtain ⟨_, _, _, _, _, _, _, rfl, _⟩ := h; rfl) (fun f cdv A outer s H vs Q E hr h => ?_)
  obtain ⟨p, r, us, bs, b, cs, c, rfl, hP, hrr, hB, eb, ebs, hz, k⟩ := h
  have hr1 : Room 1 _ := hr.mono (by decide)
  have mb : b ∈ bs := List.mem_of_getElem? eb
  have mc : c ∈ bs := by rw [ebs]; simp
  have hu0 : 0 < us.length := by rw [hB.length, ebs]; simp
  obtain ⟨ab, pb, qb, b', e1, f1, hb1, hb2, hb3⟩ := hB.get (i := 0) (List.getElem?_eq_getElem hu0)
  rw [eb] at e1; cases e1
  obtain ⟨us', ac, pc, qc, eus, hc1, hc2, hc3⟩ := (ebs ▸ hB : BallsAt H us (cs ++ [c])).last
  have i0 : atI us 0 = some (.ref ab) := by rw [← f1]; exact atI_nat (j := 0) (List.getElem?_eq_getElem hu0)
  have i1 : atI us (-1) = some (.ref ac) := by rw [eus]; exact atI_last _ _
  refine ⟨_, (pss_cons (ps_set (i := 2) sc_bounds.nd rfl (Or.inl rfl) (pe_c cBo hr (pa_cons (pv 0) (pa_cons (pe_ix ix_tup (pv 1) pe_int (fun _ _ => rfl)) (pa_cons pe_int pa_nil)))))
    (pss_cons (ps_set (i := 3) sc_bounds.nd rfl (Or.inl rfl) (pe_c cBo hr (pa_cons (pv 0) (pa_cons (pe_ix ix_tup (pv 1) (pe_un un_neg pe_int) (fun _ _ => rfl)) (pa_cons (pe_un un_neg pe_int) pa_nil)))))
    (pss_cons (ps_if ((pw_and (pt_cmpR op_notN (pv 2) pe_non (nomark _)) (pw_and (pt_cmpR op_notN (pv 3) pe_non (nomark _)) (pw_and1 (pt_not (pt_truth (pe_c cLe hr1 (pa_cons (pe_ix ix_tup (pv 2) pe_int (fun _ _ => rfl)) (pa_cons (pe_ix ix_tup (pv 3) pe_int (fun _ _ => rfl)) pa_nil))) fun _ => rfl)))))).pt (pss_one (ps_ret (pe_tup (pa_cons (pv 2) (pa_cons pe_non pa_nil))))) pss_nil)
    (pss_one (ps_ret (pe_tup (pa_cons (pv 2) (pa_cons (pv 3) pa_nil)))))))), ?_⟩
  refine ⟨_, rfl, _, rfl, r, us, 0, _, rfl, rfl, .of hrr, i0, p, ab, pb, qb, b, 1, rfl, .inl rfl, hP, hb1, hb2, hb3, (hz b mb).1, (hz b mb).2, fun v1 l1 H1 s1 w1 z1 o1 => ?_⟩
  have hP1 := s1.pool
  refine ⟨_, rfl, _, rfl, _, rfl, r, us, -1, _, rfl, rfl, .of (s1.tup hP hrr), i1, _, rfl, p, ac, pc, qc, c, -1, rfl, .inr rfl, hP1, s1.tup hP hc1, s1.rat hP hc2, s1.rat hP hc3, (hz c mc).1, (hz c mc).2, fun v2 l2 H2 s2 w2 z2 o2 => ?_⟩
  have S2 := s1.trans s2
  have w1 := w1.step s2 hP1
  have two : ∀ (H3 : Hp), Same H2 H3 → wgood l1 l2 = true → ∀ t, H3 t = none → Q (.ref t) (upd H3 t (.tup [v1, v2])) := fun H3 e3 hg t ht => k t v1 v2 l1 l2 _ ((S2.same e3).same (Same.upd ht)) upd_same ((w1.same e3).same (Same.upd ht)) ((w2.same e3).same (Same.upd ht)) z1 z2 o1 o2 hg
  have one : ∀ (H3 : Hp), Same H2 H3 → ∀ t, H3 t = none → Q (.ref t) (upd H3 t (.tup [v1, .non])) := fun H3 e3 t ht => k t v1 .non l1 none _ ((S2.same e3).same (Same.upd ht)) upd_same ((w1.same e3).same (Same.upd ht)) rfl z1 (fun _ _ z => by cases z) o1 trivial (by cases l1 <;> rfl)
  cases l1 with
  | none =>
    obtain rfl : v1 = .non := w1
    refine ⟨_, rfl, rfl, false, rfl, iteF (iteF ?_)⟩
    exact ⟨_, rfl, _, rfl, by show 2 ≤ sizeLine; decide, fun t ht => two H2 (Same.refl _) rfl t ht⟩
  | some m1 =>
    obtain ⟨x1, y1⟩ := m1
    obtain ⟨a1, p1, q1, rfl, g1, g2, g3⟩ := w1
    refine ⟨_, rfl, rfl, true, rfl, iteT ?_⟩
    cases l2 with
    | none =>
      obtain rfl : v2 = .non := w2
      refine ⟨_, rfl, rfl, false, rfl, iteF (iteF ?_)⟩
      exact ⟨_, rfl, _, rfl, by show 2 ≤ sizeLine; decide, fun t ht => two H2 (Same.refl _) rfl t ht⟩
    | some m2 =>
      obtain ⟨x2, y2⟩ := m2
      obtain ⟨a2, p2, q2, rfl, j1, j2, j3⟩ := w2
      refine ⟨_, rfl, rfl, true, rfl, iteT ?_⟩
      refine ⟨_, rfl, a1, _, _, _, rfl, rfl, .of g1, rfl, _, rfl, a2, _, _, _, rfl, rfl, .of j1, rfl, p1, p2, x1, x2, rfl, g2, j2, (z1 _ _ rfl).1.mono (by decide), (z2 _ _ rfl).1.mono (by decide), ?_⟩
      cases hc : decide (x1 < x2) with
      | true => exact ⟨true, rfl, iteF ⟨_, rfl, _, rfl, by show 2 ≤ sizeLine; decide, fun t ht => two H2 (Same.refl _) hc t ht⟩⟩
      | false => exact ⟨false, rfl, iteT ⟨_, rfl, by show 2 ≤ sizeLine; decide, fun t ht => one H2 (Same.refl _) t ht⟩⟩
end
end KK
end
set_option Elab.async false
set_option linter.all false
set_option maxRecDepth 100000
namespace L2
open PySem PySem.Spec PyProof.Rows
section
variable {prog : Program} {w : World} {A : Around} {E : Value → Shared → Prop} {s : Shared}
theorem cat_tup0 {t b : Addr} {ws : List Value} {Q : Value → Shared → Prop} (ht : IsTup s.heap t ([] : List Value).toArray) (hb : IsTup s.heap b ws.toArray) (h0 : Q (.ref b) s) : wpAny (model prog w) A (binaryOp .Add (.ref t) (.ref b)) Q E s := by
  obtain ⟨⟨cls, dd, data, sl⟩, ho, hc, n, hd⟩ := id ht
  obtain ⟨⟨cls2, dd2, data2, sl2⟩, ho2, hc2, n2, hd2⟩ := id hb
  simp only at hc hd hc2 hd2
  subst hc hd hc2 hd2
  exact concat_meets ⟨_, ho, rfl⟩ ⟨_, ho2, rfl⟩ noFill_tuple_add seq_tuple_add PySem.F.slot_tuple_add PySem.F.entry_tuple_add (PySem.F.args_tuple_add_2 _ _)
      (tuple_addW0 t b ([] : List Value).toArray ws.toArray n n2 dd dd2 sl sl2 (by simp)) ⟨ho, ho2, h0⟩
end
def rCatA (K : PySem.W.Frag) : R2 := fun x y H Q => ∃ a b xs ys, x = .ref a ∧ y = .ref b ∧ SqT K H a xs ∧ SqT K H b ys ∧ xs.length + ys.length ≤ sizeLine ∧ (xs = [] → Q (.ref b) H) ∧
  (xs ≠ [] → ys = [] → Q (.ref a) H) ∧ (xs ≠ [] → ys ≠ [] → ∀ p, H p = none → Q (.ref p) (upd H p (.tup (xs ++ ys))))
theorem op_catA {X : Cx} : OpR X (binaryOp .Add) (rCatA X.K) := by
  intro pins s σ H x y v u Q I rx ry h
  have h' := h
  obtain ⟨a, b, xs, ys, rfl, rfl, ha, hb, hz, q0, q1, q2⟩ := h'
  by_cases hx : xs = []
  · cases rx
    cases ry
    obtain ⟨its, r1, p1, _⟩ := I.tuple ha
    obtain ⟨its2, r2, p2, _⟩ := I.tuple hb
    subst hx
    cases r1
    exact cat_tup0 p1 p2 ⟨.ref b, H, I, rfl, q0 rfl⟩
  · exact op_catT pins s σ H _ _ v u Q I rx ry ⟨a, b, xs, ys, rfl, rfl, ha, hb, hx, hz, q1 hx, q2 hx⟩
theorem rep8 (v : Value) : List.foldl (fun x1 x2 => x1 ++ x2) #[] (List.replicate (Int.toNat 8) #[v]) = #[v, v, v, v, v, v, v, v] := by
  show List.foldl (fun x1 x2 => x1 ++ x2) #[] (List.replicate 8 #[v]) = _
  simp [List.replicate]
set_option maxHeartbeats 4000000 in
theorem tuple_mulW (l : Addr) (v : Value) (n : Nat) (dd : Option Addr) (sl : Array (Option Value)) (u : Tok) :
    Meets (Builtin.«tuple.__mul__» ⟨[.ref l, .int 8 u], []⟩) (fun _ R s => s.heap.get? l = some { cls := .type "tuple", dict := dd, data := .seq #[v] n, slots := sl } ∧ R (.ok (.ret (Value.ref s.heap.objs.size))) { s with heap := s.heap.push { cls := Value.type "tuple", data := Data.seq #[v, v, v, v, v, v, v, v] }, toks := s.toks }) :=
  .of_wp fun prog w A R s h => by
    obtain ⟨hp, g, d, tk, os⟩ := s; obtain ⟨hl, h⟩ := h
    have f1 := AutoSeq1.idx_int
    wp_walk using wpAny_loadPart' hl
    rw [rep8]
    exact ⟨_, rfl, h⟩
theorem noFill_tuple_mul : fillsNumberSlot (.type "tuple") "mul" = pure false :=
  PySem.fillsNumberSlot_seq (id := "tuple.__mul__") (r := some (.builtin "tuple.__rmul__")) F.slot_tuple_mul.lookup (by decide +kernel) F.slot_tuple_rmul.lookup (by decide +kernel)
theorem repeat_tuple : seqRepeat? (.type "tuple") = pure (some (.builtin "tuple.__mul__")) := by
  unfold seqRepeat?
  rw [PySem.seqSlot_of (T := "tuple") (name := "__mul__") (id := "tuple.__mul__") F.slot_tuple_mul.lookup (by decide +kernel), PySem.seqSlot_of (T := "tuple") (name := "__rmul__") (id := "tuple.__rmul__") F.slot_tuple_rmul.lookup (by decide +kernel)]
  rfl
theorem int_rmul_tuple (a : Int) (t : Tok) (l : Addr) (items : Array Value) (n : Nat) (dd : Option Addr) (sl : Array (Option Value)) :
    Meets (Builtin.«int.__rmul__» ⟨[.int a t, .ref l], []⟩) (fun _ R s => s.heap.get? l = some { cls := .type "tuple", dict := dd, data := .seq items n, slots := sl } ∧ R (.ok (.ret Value.notImplemented)) s) :=
  .of_wp fun prog w A R s h => by obtain ⟨hp, g, d, tk, os⟩ := s; obtain ⟨hl, h⟩ := h; wp_walk using wpAny_loadPart' hl; exact ⟨_, rfl, h⟩
def rRepT (K : PySem.W.Frag) : R2 := fun x y H Q => ∃ a z, x = .ref a ∧ y = .int 8 ∧ SqT K H a [z] ∧ ∀ p, H p = none → Q (.ref p) (upd H p (.tup [z, z, z, z, z, z, z, z]))
theorem op_repT {X : Cx} : OpR X (binaryOp .Mult) (rRepT X.K) := by
  intro pins s σ H x y v u Q I rx ry h
  obtain ⟨a, z, rfl, rfl, ha, q⟩ := h
  cases rx
  obtain ⟨t, rfl⟩ := ry
  obtain ⟨its, r, p1, _⟩ := I.tuple ha
  obtain ⟨v0, rfl, rz⟩ := vals1 r
  obtain ⟨⟨cls, dd, data, sl⟩, ho, hc, n, hd⟩ := id p1
  simp only at hc hd
  subst hc hd
  refine wpAny_binaryOp_repeat_ref (T := "tuple") (U := "int") (by decide) ⟨_, ho, rfl⟩ (fun s' => typeIs_int s' 8 t) noFill_tuple_mul F.fills_int_mul F.slot_int_rmul repeat_tuple F.slot_int_index.lookup
    (call_meets F.slot_int_rmul (typeIs_int s 8 t) F.entry_int_rmul (F.args_int_rmul_2 _ _) (int_rmul_tuple 8 t a _ n dd sl)
      ⟨ho, rfl, ⟨_, ho, rfl⟩, call_meets F.slot_tuple_mul ⟨_, ho, rfl⟩ F.entry_tuple_mul (F.args_tuple_mul_2 _ _) (tuple_mulW a v0 n dd sl t) ⟨ho, ?_⟩⟩)
  refine ⟨.ref s.heap.objs.size, _, I.laid (t' := s.toks) (o := .tup [z, z, z, z, z, z, z, z]) (fun b ob q => Heap.get?_push_of_some _ q) (Nat.le_refl _) ?_, rfl, q _ (I.hok.fresh (Nat.le_refl _))⟩
  exact ⟨by show 8 ≤ sizeLine; decide, [v0, v0, v0, v0, v0, v0, v0, v0], .cons rz (.cons rz (.cons rz (.cons rz (.cons rz (.cons rz (.cons rz (.cons rz .nil))))))), IsTup.new _ _⟩
end L2
set_option Elab.async false
set_option linter.all false
set_option maxRecDepth 100000
namespace L2
open PySem PySem.Spec PyProof.Rows
mutual
theorem RdD.same {H H' : Hp} (e : Same H H') : ∀ {v : V} {d : PyData}, RdD H v d → RdD H' v d
  | _, _, .non => .non
  | _, _, .bl b => .bl b
  | _, _, .int i => .int i
  | _, _, .str x => .str x
  | _, _, .tup h r => .tup (e _ _ h) (RdDs.same e r)
  | _, _, .lst h r => .lst (e _ _ h) (RdDs.same e r)
theorem RdDs.same {H H' : Hp} (e : Same H H') : ∀ {vs : List V} {ds : List PyData}, RdDs H vs ds → RdDs H' vs ds
  | _, _, .nil => .nil
  | _, _, .cons h t => .cons (RdD.same e h) (RdDs.same e t)
end
theorem RdDs.len {H : Hp} : ∀ {xs : List V} {ds : List PyData}, RdDs H xs ds → xs.length = ds.length
  | _, _, .nil => rfl
  | _, _, .cons _ t => by rw [List.length_cons, List.length_cons, RdDs.len t]
theorem RdDs.app {H : Hp} {ys : List V} {es : List PyData} (k : RdDs H ys es) : ∀ {xs : List V} {ds : List PyData}, RdDs H xs ds → RdDs H (xs ++ ys) (ds ++ es)
  | _, _, .nil => k
  | _, _, .cons h t => .cons h (RdDs.app k t)
theorem RdDs.drop {H : Hp} : ∀ {xs : List V} {ds : List PyData} (n : Nat), RdDs H xs ds → RdDs H (xs.drop n) (ds.drop n)
  | _, _, 0, h => h
  | _, _, _ + 1, .nil => .nil
  | _, _, n + 1, .cons _ t => RdDs.drop n t
theorem RdDs.take {H : Hp} : ∀ {xs : List V} {ds : List PyData} (n : Nat), RdDs H xs ds → RdDs H (xs.take n) (ds.take n)
  | _, _, 0, _ => .nil
  | _, _, _ + 1, .nil => .nil
  | _, _, n + 1, .cons h t => .cons h (RdDs.take n t)
theorem RdDs.get {H : Hp} : ∀ {xs : List V} {ds : List PyData} {i : Nat} {d : PyData}, RdDs H xs ds → ds[i]? = some d → ∃ x, xs[i]? = some x ∧ RdD H x d
  | _, _, _, _, .nil, e => by simp at e
  | _, _, 0, _, .cons h _, e => by simp at e; subst e; exact ⟨_, rfl, h⟩
  | _, _, i + 1, _, .cons _ t, e => by
    obtain ⟨x, h1, h2⟩ := RdDs.get t (i := i) (by simpa using e)
    exact ⟨x, by simpa using h1, h2⟩
theorem RdDs.at {H : Hp} {xs : List V} {ds : List PyData} {i : Int} {d : PyData} (h : RdDs H xs ds) (e : atI ds i = some d) : ∃ x, atI xs i = some x ∧ RdD H x d := by
  unfold atI at e ⊢
  rw [h.len]
  cases hj : ixN ds.length i with
  | none => rw [hj] at e; cases e
  | some j =>
    rw [hj] at e
    exact h.get e
def del (N : List Addr) (H : Hp) : Hp := fun a => if a ∈ N then none else H a
theorem del_some {N : List Addr} {H : Hp} {a : Addr} {o : HO} (h : del N H a = some o) : H a = some o ∧ a ∉ N := by
  unfold del at h
  split at h
  · cases h
  · exact ⟨h, ‹_›⟩
theorem del_of {N : List Addr} {H : Hp} {a : Addr} {o : HO} (h : H a = some o) (n : a ∉ N) : del N H a = some o := by unfold del; rw [if_neg n]; exact h
theorem del_nil (H : Hp) : del [] H = H := by funext a; unfold del; rw [if_neg (by simp)]
def Ls (N : List Addr) (H : Hp) : Prop := ∀ a ∈ N, ∃ xs, H a = some (.lst xs)
theorem Ls.nil {H : Hp} : Ls [] H := fun _ m => by cases m
theorem Ls.same {N : List Addr} {H H' : Hp} (h : Ls N H) (e : Same H H') : Ls N H' := fun a m => let ⟨xs, z⟩ := h a m; ⟨xs, e _ _ z⟩
theorem Ls.ntup {N : List Addr} {H : Hp} {a : Addr} {xs : List V} (h : Ls N H) (e : H a = some (.tup xs)) : a ∉ N := fun m => by
  obtain ⟨ys, z⟩ := h a m; rw [e] at z; cases z
theorem Ls.nnew {N : List Addr} {H : Hp} {a : Addr} (h : Ls N H) (e : H a = none) : a ∉ N := fun m => by
  obtain ⟨ys, z⟩ := h a m; rw [e] at z; cases z
theorem same_del {N : List Addr} {H H' : Hp} (e : Same H H') : Same (del N H) (del N H') := fun b o z => del_of (e _ _ (del_some z).1) (del_some z).2
theorem del_sub {N : List Addr} {H : Hp} : Same (del N H) H := fun b o z => (del_some z).1
theorem sameD {N : List Addr} {H : Hp} {p : Addr} {o : HO} (h : H p = none) : Same (del N H) (del N (upd H p o)) := same_del (Same.upd h)
structure At (N : List Addr) (H0 H1 : Hp) : Prop where
  s : Same H0 (del N H1)
  l : Ls N H1
theorem At.go {N : List Addr} {H0 H1 H2 : Hp} (h : At N H0 H1) (e : Same H1 H2) : At N H0 H2 := ⟨h.s.trans (same_del e), h.l.same e⟩
def Dt (N : List Addr) (t : TE) (σ : St) (H : Hp) (d : PyData) : Prop := ∀ H1, At N H H1 → ∀ Q : VK, (∀ v H2, Same H1 H2 → RdD (del N H2) v d → Q v H2) → t σ H1 Q
def Da (N : List Addr) (t : TA) (σ : St) (H : Hp) (ds : List PyData) : Prop := ∀ H1, At N H H1 → ∀ Q : List V → Hp → Prop, (∀ vs H2, Same H1 H2 → RdDs (del N H2) vs ds → Q vs H2) → t σ H1 Q
def Dp (N : List Addr) (t : TO) (σ : St) (H : Hp) (o : Option Int) : Prop := ∀ H1, At N H H1 → ∀ Q : Option Int → Hp → Prop, (∀ H2, Same H1 H2 → Q o H2) → t σ H1 Q
section
variable {N : List Addr} {σ : St} {H : Hp} {K : PySem.W.Frag}
theorem dt_var {i : Nat} {v : V} {d : PyData} (h : σ[i]? = some (some v)) (r : RdD H v d) : Dt N (tVar i) σ H d := fun H1 a Q k => ⟨v, h, k v H1 (Same.refl _) (r.same a.s)⟩
theorem dt_int {i : Int} : Dt N (tC (.int i)) σ H (.int i) := fun H1 a Q k => k _ H1 (Same.refl _) (.int i)
theorem dt_bl {i : Bool} : Dt N (tC (.bl i)) σ H (.bool i) := fun H1 a Q k => k _ H1 (Same.refl _) (.bl i)
theorem dt_non : Dt N (tC .non) σ H .none := fun H1 a Q k => k _ H1 (Same.refl _) .non
theorem dt_str {x : Str} : Dt N (tC (.str x)) σ H (.str x) := fun H1 a Q k => k _ H1 (Same.refl _) (.str x)
theorem da_nil : Da N tNil σ H [] := fun H1 a Q k => k _ H1 (Same.refl _) .nil
theorem da_cons {ta : TE} {tr : TA} {d : PyData} {ds : List PyData} (h : Dt N ta σ H d) (r : Da N tr σ H ds) : Da N (tCons ta tr) σ H (d :: ds) := fun H1 a Q k =>
  h H1 a _ fun v H2 e2 rv => r H2 (a.go e2) _ fun vs H3 e3 rs => k _ _ (e2.trans e3) (.cons (rv.same (same_del e3)) rs)
theorem dt_tup {t : TA} {ds : List PyData} (h : Da N t σ H ds) (l : ds.length ≤ sizeLine) : Dt N (tTup t) σ H (.tuple ds) := fun H1 a Q k =>
  h H1 a _ fun vs H2 e2 r => ⟨by rw [r.len]; exact l, fun p hp => k _ _ (e2.trans (Same.upd hp)) (.tup (del_of upd_same ((a.l.same e2).nnew hp)) (r.same (sameD hp)))⟩
theorem dt_lst {t : TA} {ds : List PyData} (h : Da N t σ H ds) (l : ds.length ≤ sizeLine) : Dt N (tLst t) σ H (.list ds) := fun H1 a Q k =>
  h H1 a _ fun vs H2 e2 r => ⟨by rw [r.len]; exact l, fun p hp => k _ _ (e2.trans (Same.upd hp)) (.lst (del_of upd_same ((a.l.same e2).nnew hp)) (r.same (sameD hp)))⟩
theorem dt_ix {ta tb : TE} {ds : List PyData} {i : Int} {d : PyData} (ha : Dt N ta σ H (.tuple ds)) (hb : Dt N tb σ H (.int i)) (hi : atI ds i = some d) : Dt N (tOp (rIxT K) ta tb) σ H d := fun H1 a Q k =>
  ha H1 a _ fun v H2 e2 r2 => hb H2 (a.go e2) _ fun y H3 e3 r3 => by
    cases r3
    cases r2 with
    | tup z zs =>
      obtain ⟨x, hx, rx⟩ := zs.at hi
      exact ⟨_, _, i, x, rfl, rfl, .of (e3 _ _ (del_some z).1), hx, k x H3 (e2.trans e3) (rx.same (same_del e3))⟩
theorem dt_i0 {g : Int → Int → Int} {ta tb : TE} {i j : Int} (ha : Dt N ta σ H (.int i)) (hb : Dt N tb σ H (.int j)) : Dt N (tOp (rI0 fun i j => .int (g i j)) ta tb) σ H (.int (g i j)) := fun H1 a Q k =>
  ha H1 a _ fun v H2 e2 r2 => hb H2 (a.go e2) _ fun y H3 e3 r3 => by
    cases r3; cases r2
    exact ⟨i, j, rfl, rfl, k _ H3 (e2.trans e3) (.int _)⟩
theorem dt_iC {C : Int → Int → Prop} {g : Int → Int → Int} {ta tb : TE} {i j : Int} (ha : Dt N ta σ H (.int i)) (hb : Dt N tb σ H (.int j)) (hC : C i j) : Dt N (tOp (rI C fun i j => .int (g i j)) ta tb) σ H (.int (g i j)) := fun H1 a Q k =>
  ha H1 a _ fun v H2 e2 r2 => hb H2 (a.go e2) _ fun y H3 e3 r3 => by
    cases r3; cases r2
    exact ⟨i, j, rfl, rfl, hC, k _ H3 (e2.trans e3) (.int _)⟩
theorem dt_neg {ta : TE} {i : Int} (ha : Dt N ta σ H (.int i)) : Dt N (tUn (rU fun i => .int (-i)) ta) σ H (.int (-i)) := fun H1 a Q k =>
  ha H1 a _ fun v H2 e2 r2 => by
    cases r2
    exact ⟨i, rfl, k _ H2 e2 (.int _)⟩
theorem dt_catT {ta tb : TE} {ds es : List PyData} (ha : Dt N ta σ H (.tuple ds)) (hb : Dt N tb σ H (.tuple es)) (l : ds.length + es.length ≤ sizeLine) : Dt N (tOp (rCatA K) ta tb) σ H (.tuple (ds ++ es)) := fun H1 a Q k =>
  ha H1 a _ fun v H2 e2 r2 => hb H2 (a.go e2) _ fun y H3 e3 r3 => by
    have r2' := r2.same (same_del e3)
    have L := (a.l.same (e2.trans e3))
    cases r2' with
    | @tup b xs _ z zs =>
      cases r3 with
      | @tup c ys _ y ys' =>
        refine ⟨b, c, xs, ys, rfl, rfl, .of (del_some z).1, .of (del_some y).1, (by rw [zs.len, ys'.len]; exact l), fun h => ?_, fun _ h => ?_, fun _ _ p hp => ?_⟩
        · subst h; cases zs; exact k _ H3 (e2.trans e3) (.tup y ys')
        · subst h; cases ys'; rw [List.append_nil] at k; exact k _ H3 (e2.trans e3) (.tup z zs)
        · exact k _ _ ((e2.trans e3).trans (Same.upd hp)) (.tup (del_of upd_same (L.nnew hp)) ((RdDs.app ys' zs).same (sameD hp)))
theorem dt_rep8 {ta tb : TE} {d : PyData} (ha : Dt N ta σ H (.tuple [d])) (hb : Dt N tb σ H (.int 8)) : Dt N (tOp (rRepT K) ta tb) σ H (.tuple [d, d, d, d, d, d, d, d]) := fun H1 a Q k =>
  ha H1 a _ fun v H2 e2 r2 => hb H2 (a.go e2) _ fun y H3 e3 r3 => by
    have r2' := r2.same (same_del e3)
    have L := (a.l.same (e2.trans e3))
    cases r3
    cases r2' with
    | @tup b xs _ z zs =>
      cases zs with
      | @cons x _ _ _ h hs =>
        cases hs
        refine ⟨b, x, rfl, rfl, .of (del_some z).1, fun p hp => ?_⟩
        have h' := h.same (sameD (o := .tup [x, x, x, x, x, x, x, x]) hp)
        exact k _ _ ((e2.trans e3).trans (Same.upd hp)) (.tup (del_of upd_same (L.nnew hp)) (.cons h' (.cons h' (.cons h' (.cons h' (.cons h' (.cons h' (.cons h' (.cons h' .nil)))))))))
def cutG {α : Type} (xs : List α) (lo hi : Option Int) : List α := (xs.drop (HT.sIx xs.length 0 lo)).take (HT.sIx xs.length xs.length hi - HT.sIx xs.length 0 lo)
theorem dp_none : Dp N tNoPart σ H none := fun H1 a Q k => k H1 (Same.refl _)
theorem dp_some {t : TE} {i : Int} (h : Dt N t σ H (.int i)) : Dp N (tPart t) σ H (some i) := fun H1 a Q k => h H1 a _ fun v H2 e2 r2 => by
  cases r2; exact ⟨i, rfl, k H2 e2⟩
theorem dt_sl {te : TE} {tl th : TO} {ds : List PyData} {lo hi : Option Int} (he : Dt N te σ H (.tuple ds)) (hl : Dp N tl σ H lo) (hh : Dp N th σ H hi) :
    Dt N (tSl (fun x lo hi H Q => rSlT K x lo hi H Q ∨ rSlW K x lo hi H Q) te tl th) σ H (.tuple (cutG ds lo hi)) := fun H1 a Q k =>
  he H1 a _ fun v H2 e2 r2 => hl H2 (a.go e2) _ fun H3 e3 => hh H3 ((a.go e2).go e3) _ fun H4 e4 => by
    have r2' := r2.same (same_del (e3.trans e4))
    have L := (a.l.same (e2.trans (e3.trans e4)))
    cases r2' with
    | @tup b xs _ z zs =>
      by_cases w : HT.sIx xs.length 0 lo = 0 ∧ HT.sIx xs.length xs.length hi = xs.length
      · refine .inr ⟨b, xs, rfl, .of (del_some z).1, w, ?_⟩
        have : cutG ds lo hi = ds := by
          unfold cutG; rw [← zs.len, w.1, w.2]; simp [zs.len]
        rw [this] at k
        exact k _ _ (e2.trans (e3.trans e4)) (.tup z zs)
      · refine .inl ⟨b, xs, rfl, .of (del_some z).1, w, fun p hp => ?_⟩
        refine k _ _ ((e2.trans (e3.trans e4)).trans (Same.upd hp)) (.tup (xs := cutV xs lo hi) (del_of upd_same (L.nnew hp)) ?_)
        have := ((zs.drop (HT.sIx xs.length 0 lo)).take (HT.sIx xs.length xs.length hi - HT.sIx xs.length 0 lo)).same (sameD (o := .tup (cutV xs lo hi)) hp)
        unfold cutG
        rw [← zs.len]
        exact this
theorem dt_listOf {t : TA} {ds : List PyData} (h : Da N t σ H [.tuple ds]) : Dt N (tCB (fun xs H Q => ∃ p ys, xs = [.ref p] ∧ (SqL K H p ys ∨ SqT K H p ys) ∧ ∀ l, H l = none → Q (.ref l) (upd H l (.lst ys))) t) σ H (.list ds) := fun H1 a Q k =>
  h H1 a _ fun vs H2 e2 r => by
    cases r with
    | cons h t =>
      cases t
      cases h with
      | @tup b xs _ z zs =>
        exact ⟨b, xs, rfl, .inr (.of (del_some z).1), fun p hp => k _ _ (e2.trans (Same.upd hp)) (.lst (del_of upd_same ((a.l.same e2).nnew hp)) (zs.same (sameD hp)))⟩
theorem dt_call {sp : Sp} {dvs : List V} {t : TA} {ds : List PyData} {d : PyData} (h : Da N t σ H ds)
    (hs : ∀ H1 vs (Q : VK), At N H H1 → RdDs (del N H1) vs ds → (∀ v H2, Same H1 H2 → RdD (del N H2) v d → Q v H2) → sp (vs ++ dvs) H1 Q E0) : Dt N (tCall sp dvs E0 t) σ H d := fun H1 a Q k =>
  h H1 a _ fun vs H2 e2 r => hs H2 vs Q (a.go e2) r fun v H3 e3 rv => k v H3 (e2.trans e3) rv
end
def rD (x : Rat) : PyData := .tuple [.int x.num, .int (x.den : Int)]
theorem rd_rat {H : Hp} {v : V} {x : Rat} (h : RdD H v (rD x)) : ∃ p, v = .ref p ∧ RatAt H p x := by
  cases h with
  | tup z zs =>
    cases zs with
    | cons h1 t =>
      cases t with
      | cons h2 t2 =>
        cases t2; cases h1; cases h2
        exact ⟨_, rfl, z⟩
theorem rat_rd {H : Hp} {p : Addr} {x : Rat} (h : RatAt H p x) : RdD H (.ref p) (rD x) := h.rd
theorem rat_del {N : List Addr} {H : Hp} {p : Addr} {x : Rat} (L : Ls N H) (h : RatAt H p x) : RatAt (del N H) p x := del_of h (L.ntup h)
theorem dt_bin {N : List Addr} {σ : St} {H : Hp} {C : Rat → Rat → Prop} {f : Rat → Rat → Rat} {t : TA} {x y : Rat} (h : Da N t σ H [rD x, rD y]) (hC : C x y) : Dt N (tCall (spBin C f) [] E0 t) σ H (rD (f x y)) :=
  dt_call h fun H1 vs Q a r k => by
    cases r with
    | cons h1 t =>
      cases t with
      | cons h2 t2 =>
        cases t2
        obtain ⟨p, rfl, hp⟩ := rd_rat h1
        obtain ⟨q, rfl, hq⟩ := rd_rat h2
        exact ⟨p, q, x, y, rfl, hp.same del_sub, hq.same del_sub, hC, fun r H2 e hr => k _ H2 e (rat_rd (rat_del (a.l.same e) hr))⟩
end L2
set_option Elab.async false
set_option linter.all false
set_option maxRecDepth 100000
namespace L2
open PySem PySem.Spec PyProof.Rows
theorem szl {n : Nat} (h : n ≤ 1000) : n ≤ sizeLine := Nat.le_of_lt (small1000 h)
theorem cutG_to {α : Type} (xs : List α) (j : Nat) : cutG xs none (some (j : Int)) = xs.take j := by
  unfold cutG
  rw [HT.sIx_none, HT.sIx_nat, List.drop_zero, Nat.sub_zero]
  rcases Nat.le_total j xs.length with h | h
  · rw [Nat.min_eq_left h]
  · rw [Nat.min_eq_right h, List.take_of_length_le (Nat.le_refl _), List.take_of_length_le h]
theorem cutG_from {α : Type} (xs : List α) (j : Nat) : cutG xs (some (j : Int)) none = xs.drop j := by
  unfold cutG
  rw [HT.sIx_none, HT.sIx_nat]
  rcases Nat.le_total j xs.length with h | h
  · rw [Nat.min_eq_left h, List.take_of_length_le (by rw [List.length_drop]; exact Nat.le_refl _)]
  · rw [Nat.min_eq_right h, Nat.sub_self, List.take_zero, List.drop_of_length_le h]
theorem cutG_to1 {α : Type} (xs : List α) (j : Nat) : cutG xs none (some ((j : Int) + 1)) = xs.take (j + 1) := cutG_to xs (j + 1)
theorem cutG_from1 {α : Type} (xs : List α) (j : Nat) : cutG xs (some ((j : Int) + 1)) none = xs.drop (j + 1) := cutG_from xs (j + 1)
theorem dt_eq {N : List Addr} {t : TE} {σ : St} {H : Hp} {d d' : PyData} (h : Dt N t σ H d) (e : d = d') : Dt N t σ H d' := e ▸ h
theorem dt_use {N : List Addr} {t : TE} {σ : St} {H H1 : Hp} {d : PyData} {Q : VK} (a : At N H H1) (h : Dt N t σ H d) (k : ∀ v H2, Same H1 H2 → RdD (del N H2) v d → Q v H2) : t σ H1 Q := h H1 a Q k
theorem dt_add {N : List Addr} {σ : St} {H : Hp} {ta tb : TE} {i j : Int} (ha : Dt N ta σ H (.int i)) (hb : Dt N tb σ H (.int j)) : Dt N (tOp (rI0 fun i j => .int (i + j)) ta tb) σ H (.int (i + j)) := dt_i0 (g := (· + ·)) ha hb
theorem dt_mul {N : List Addr} {σ : St} {H : Hp} {ta tb : TE} {i j : Int} (ha : Dt N ta σ H (.int i)) (hb : Dt N tb σ H (.int j)) (hC : CMulB i j) : Dt N (tOp (rI CMulB fun i j => .int (i * j)) ta tb) σ H (.int (i * j)) := dt_iC (g := (· * ·)) ha hb hC
theorem dt_pow {N : List Addr} {σ : St} {H : Hp} {ta tb : TE} {i j : Int} (ha : Dt N ta σ H (.int i)) (hb : Dt N tb σ H (.int j)) (hC : CPow i j) : Dt N (tOp (rI CPow fun i j => .int (i ^ j.toNat)) ta tb) σ H (.int (i ^ j.toNat)) := dt_iC (g := fun i j => i ^ j.toNat) ha hb hC
theorem dt_million {N : List Addr} {σ : St} {H : Hp} : Dt N (tOp (rI CPow fun i j => .int (i ^ j.toNat)) (tC (.int 10)) (tC (.int 6))) σ H (.int 1000000) := dt_eq (dt_pow dt_int dt_int ⟨by decide, by decide, by decide⟩) (congrArg PyData.int (show (10 : Int) ^ (6 : Int).toNat = 1000000 by decide))
theorem at_del {N : List Addr} {H : Hp} (h : Ls N H) : At N (del N H) H := ⟨Same.refl _, h⟩
theorem at_0 {H : Hp} : At [] H H := ⟨by rw [del_nil]; exact Same.refl _, .nil⟩
theorem bd2 : Bd 1000000 2 := Bd.mono (m := 2) (show (2 : Int).natAbs < 2 ^ 2 by decide) (by decide)
theorem cl_swap {a b : Str} {m n : Addr} (h : a ≠ b) (x : Str) (c : Addr) (e : List.lookup x [(a, m), (b, n)] = some c) : List.lookup x [(b, n), (a, m)] = some c := by
  simp only [List.lookup] at e ⊢
  cases h1 : (x == a) with
  | true =>
    cases h2 : (x == b) with
    | true => exact absurd ((eq_of_beq h1).symm.trans (eq_of_beq h2)) h
    | false => rw [h1] at e; exact e
  | false =>
    rw [h1] at e
    cases h2 : (x == b) with
    | true => rw [h2] at e; exact e
    | false => rw [h2] at e; cases e
theorem st_set {te : TE} {i : Nat} {u : TS} {D : Ends} {σ : St} {H : Hp} (h : te σ H fun v H1 => u D (σ.set i (some v)) H1) : tSeq (tAsg te (gName i)) u D σ H := h
theorem st_set1 {te : TE} {i : Nat} {D : Ends} {σ : St} {H : Hp} (h : te σ H fun v H1 => D.nx (σ.set i (some v)) H1) : tAsg te (gName i) D σ H := h
theorem st_drop {te : TE} {u : TS} {D : Ends} {σ : St} {H : Hp} (h : te σ H fun _ H1 => u D σ H1) : tSeq (tDrop te) u D σ H := h
theorem st_for {wi : TI} {g : TG} {tb : TS} {u : TS} {D : Ends} {σ : St} {H : Hp} (h : tFor wi g tb { D with nx := u D } σ H) : tSeq (tFor wi g tb) u D σ H := h
theorem st_while {c : TT} {tb : TS} {u : TS} {D : Ends} {σ : St} {H : Hp} (h : tWhile c tb { D with nx := u D } σ H) : tSeq (tWhile c tb) u D σ H := h
structure FS (H0 H1 : Hp) (l : Addr) (ds : List PyData) : Prop where
  at_ : At [l] H0 H1
  ex : ∃ xs, H1 l = some (.lst xs) ∧ RdDs (del [l] H1) xs ds
theorem FS.rd {H0 H1 : Hp} {l : Addr} {ds : List PyData} (f : FS H0 H1 l ds) : RdD H1 (.ref l) (.list ds) := by
  obtain ⟨xs, h, r⟩ := f.ex
  exact .lst h (r.same del_sub)
theorem FS.sm {H0 H1 : Hp} {l : Addr} {ds : List PyData} (f : FS H0 H1 l ds) : Same H0 H1 := f.at_.s.trans del_sub
theorem FS.go {H0 H1 H2 : Hp} {l : Addr} {ds : List PyData} (f : FS H0 H1 l ds) (e : Same H1 H2) : FS H0 H2 l ds := by
  obtain ⟨xs, h, r⟩ := f.ex
  exact ⟨f.at_.go e, xs, e _ _ h, r.same (same_del e)⟩
theorem same_hid {H : Hp} {p : Addr} {o : HO} (h : H p = none) : Same H (del [p] (upd H p o)) := fun b u z => by
  have n : b ≠ p := ne_of_none z h
  refine del_of ?_ (by simpa using n)
  rw [upd_ne n]; exact z
theorem del_upd {H : Hp} {p : Addr} {o : HO} : del [p] (upd H p o) = del [p] H := by
  funext a
  unfold del
  by_cases h : a = p
  · rw [if_pos (by simpa using h), if_pos (by simpa using h)]
  · rw [if_neg (by simpa using h), if_neg (by simpa using h), upd_ne h]
theorem ls1 {H : Hp} {p : Addr} {xs : List V} (h : H p = some (.lst xs)) : Ls [p] H := fun a m => by
  obtain rfl : a = p := by simpa using m
  exact ⟨xs, h⟩
theorem FS.re {H0 H1 : Hp} {l : Addr} {ds : List PyData} (f : FS H0 H1 l ds) : FS (del [l] H1) H1 l ds := ⟨⟨Same.refl _, f.at_.l⟩, f.ex⟩
section
variable {N : List Addr} {σ : St} {H0 : Hp} {K : PySem.W.Frag}
theorem fs_new {H0 H2 : Hp} {p : Addr} {vs : List V} {ds : List PyData} (a : At N H0 H2) (hp : H2 p = none) (r : RdDs (del N H2) vs ds) : FS H0 (upd H2 p (.lst vs)) p ds :=
  ⟨⟨(a.s.trans del_sub).trans (same_hid hp), ls1 upd_same⟩, vs, upd_same, (r.same del_sub).same (same_hid hp)⟩
theorem fs_lst {t : TA} {ds : List PyData} {H1 : Hp} {Q : VK} (a : At N H0 H1) (h : Da N t σ H0 ds) (l : ds.length ≤ sizeLine) (k : ∀ l H2, FS H0 H2 l ds → Q (.ref l) H2) : tLst t σ H1 Q :=
  h H1 a _ fun vs H2 e2 r => ⟨by rw [r.len]; exact l, fun p hp => k p _ (fs_new (a.go e2) hp r)⟩
theorem fs_cat {t : TA} {ds es : List PyData} {H1 : Hp} {Q : VK} {i : Nat} {l : Addr} (f : FS H0 H1 l ds) (h : Da [l] t σ H0 es) (hs : σ[i]? = some (some (.ref l))) (z : ds.length + es.length ≤ sizeLine)
    (k : ∀ p H3, FS H0 H3 p (ds ++ es) → Q (.ref p) H3) : tOp rCat (tVar i) (tLst t) σ H1 Q :=
  ⟨_, hs, h H1 f.at_ _ fun vs H2 e2 r => ⟨by rw [r.len]; omega, fun q hq => by
    obtain ⟨xs, hx, rx⟩ := (f.go e2).ex
    have e3 : Same H2 (upd H2 q (.lst vs)) := Same.upd hq
    refine ⟨l, q, xs, vs, rfl, rfl, e3 _ _ hx, upd_same, (by rw [rx.len, r.len]; exact z), fun p hp => k p _ ?_⟩
    have a3 : At [l] H0 (upd H2 q (.lst vs)) := (f.go e2).at_.go e3
    exact fs_new a3 hp (RdDs.app (r.same (same_del e3)) (rx.same (same_del e3)))⟩⟩
theorem fs_app {te : TE} {ds : List PyData} {d : PyData} {H1 : Hp} {Q : VK} {i : Nat} {l : Addr} (f : FS H0 H1 l ds) (h : Dt [l] te σ H0 d) (hs : σ[i]? = some (some (.ref l))) (z : ds.length ≤ 1000)
    (k : ∀ H3, FS H0 H3 l (ds ++ [d]) → Q .non H3) : tBM K "list" rAppend (tVar i) (tCons te tNil) σ H1 Q := by
  obtain ⟨xs, hx, rx⟩ := f.ex
  refine ⟨_, hs, .inl ⟨rfl, xs, .of hx⟩, h H1 f.at_ _ fun v H2 e2 r => ?_⟩
  refine ⟨l, xs, v, rfl, rfl, e2 _ _ hx, small1000 (by rw [rx.len]; exact z), k _ ?_⟩
  refine ⟨⟨by rw [del_upd]; exact (f.go e2).at_.s, ls1 upd_same⟩, _, upd_same, ?_⟩
  rw [del_upd]
  exact RdDs.app (.cons r .nil) (rx.same (same_del e2))
end
end L2
set_option Elab.async false
set_option linter.all false
set_option maxRecDepth 100000
namespace L2
open PySem PySem.Spec PyProof.Rows
inductive Bx (p : Prop) : Prop
  | mk (h : p) : Bx p
section
variable {X : Cx}
theorem bx_nil : Bx (PA X [] tNil) := ⟨pa_nil⟩
theorem bx_cons {e : Expr} {es : List Expr} {te : TE} {t : TA} (ha : Bx (PE X e te)) (hr : Bx (PA X es t)) (hs : starEach (e :: es) X.env = (false, eval e X.env) :: starEach es X.env := by rfl) : Bx (PA X (e :: es) (tCons te t)) := by
  obtain ⟨ha⟩ := ha; obtain ⟨hr⟩ := hr; exact ⟨pa_cons ha hr hs⟩
theorem bx_tup {es : List Expr} {t : TA} {x1 : Nat} {pos : Pos} (h : Bx (PA X es t)) : Bx (PE X (.Tuple es x1 pos) (tTup t)) := by
  obtain ⟨h⟩ := h; exact ⟨pe_tup h⟩
theorem bx_lst {es : List Expr} {t : TA} {pos : Pos} (h : Bx (PA X es t)) : Bx (PE X (.List es pos) (tLst t)) := by
  obtain ⟨h⟩ := h; exact ⟨pe_lst h⟩
theorem bx_set {i : Nat} {x : Str} {e : Expr} {te : TE} {pos pos' : Pos} (hN : X.N.Nodup) (hi : X.N[i]? = some x) (hx : Loc X.env.scope x) (he : Bx (PE X e te)) (hs : swapsWith e (some (.Name x pos')) pos.line X.env = pure false := by rfl)
    (hf : X.fn x = true ∨ X.env.scope.names.lookup x = some .local := by first | exact .inl rfl | exact .inr rfl | assumption) : Bx (PS X (.Assign [.Name x pos'] e pos) (tAsg te (gName i))) := by
  obtain ⟨he⟩ := he; exact ⟨ps_set hN hi hx he hs hf⟩
theorem bx_scons {st : Stmt} {rest : List Stmt} {t u : TS} (h1 : Bx (PS X st t)) (h2 : Bx (PSs X rest u)) : Bx (PSs X (st :: rest) (tSeq t u)) := by
  obtain ⟨h1⟩ := h1; obtain ⟨h2⟩ := h2; exact ⟨pss_cons h1 h2⟩
end
section
variable {P : Program} {w : World} {K : PySem.W.Frag} {mg : Str → Option Value} {base : Heap}
theorem Df.calB {x : Str} {st : Stmt} {N ps : List Str} {dvs : List V} {k : Nat} {sp : Sp} (D : Df K mg x st ps dvs) (S : FnScope N ps (defScope st)) (len : ∀ vs H Q E, sp vs H Q E → vs.length = ps.length)
    (hbody : ∀ (f : Addr) (cdv : Value) (A : Around) (outer : List Env) (s : Shared) (H : Hp) (vs : List V) (Q : VK) (E : XK), Room k (A.deeper (envOfC x (defScope st) s.heap.objs.size f cdv)) → sp vs H Q E →
      ∃ t, Bx (PSs (cxOf CX0 P w K mg base N x (defScope st) f cdv A outer s H E).nox (defBody st) t) ∧ t { nx := fun _ H' => Q .non H', rt := Q } (start N vs) H) : Cal P w K mg base x (k + 1) ps dvs sp :=
  D.cal S len fun f cdv A outer s H vs Q E hr h => by
    obtain ⟨t, ⟨p⟩, q⟩ := hbody f cdv A outer s H vs Q E hr h
    exact ⟨t, p, q⟩
end
end L2
section
set_option maxHeartbeats 8000000
set_option Elab.async false
set_option linter.all false
set_option maxRecDepth 100000
namespace KK
open PySem L2 KM
def tyD : PyData → Value
  | .none => .type "NoneType"
  | .bool _ => .type "bool"
  | .int _ => .type "int"
  | .str _ => .type "str"
  | .list _ => .type "list"
  | .tuple _ => .type "tuple"
  | .dict _ => .type "dict"
theorem ty_of {K : PySem.W.Frag} {H : Hp} {v : V} {d : PyData} (h : RdD H v d) : TyOf K H v (tyD d) := by
  cases h with
  | non => exact .non
  | bl b => exact .bl b
  | int i => exact .int i
  | str x => exact .str x
  | tup h _ => exact .tup h
  | lst h _ => exact .lst h
def isIntD : PyData → Bool
  | .int _ => true
  | .bool _ => true
  | _ => false
def isBlD : PyData → Bool
  | .bool _ => true
  | _ => false
def isTuD : PyData → Bool
  | .tuple _ => true
  | _ => false
theorem kt_int (K : PySem.W.Frag) : ∀ d, PySem.W.kitOne K (tyD d) (.type "int") = some (isIntD d)
  | .none => by with_unfolding_all rfl
  | .bool _ => by with_unfolding_all rfl
  | .int _ => if_pos (show (Value.type "int" == Value.type "int") = true by decide +kernel)
  | .str _ => by with_unfolding_all rfl
  | .list _ => by with_unfolding_all rfl
  | .tuple _ => by with_unfolding_all rfl
  | .dict _ => by with_unfolding_all rfl
theorem kt_bool (K : PySem.W.Frag) : ∀ d, PySem.W.kitOne K (tyD d) (.type "bool") = some (isBlD d)
  | .none => by with_unfolding_all rfl
  | .bool _ => if_pos (show (Value.type "bool" == Value.type "bool") = true by decide +kernel)
  | .int _ => by with_unfolding_all rfl
  | .str _ => by with_unfolding_all rfl
  | .list _ => by with_unfolding_all rfl
  | .tuple _ => by with_unfolding_all rfl
  | .dict _ => by with_unfolding_all rfl
theorem kt_tup (K : PySem.W.Frag) : ∀ d, PySem.W.kitOne K (tyD d) (.type "tuple") = some (isTuD d)
  | .none => by with_unfolding_all rfl
  | .bool _ => by with_unfolding_all rfl
  | .int _ => by with_unfolding_all rfl
  | .str _ => by with_unfolding_all rfl
  | .list _ => by with_unfolding_all rfl
  | .tuple _ => if_pos (show (Value.type "tuple" == Value.type "tuple") = true by decide +kernel)
  | .dict _ => by with_unfolding_all rfl
def wholeD : PyData → Bool
  | .int _ => true
  | _ => false
def tupD (n : Int) : PyData → Bool
  | .tuple ds => decide ((ds.length : Int) = n)
  | _ => false
def ratD : PyData → Bool
  | .tuple [.int t, .int b] => decide (1 ≤ b) && decide (Int.gcd t b = 1)
  | _ => false
def wallD : PyData → Bool
  | .none => true
  | .tuple [x, y] => ratD x && ratD y
  | _ => false
def wpD : PyData → Bool
  | .tuple [x, y] => wallD x && wallD y
  | _ => false
def bfD : PyData → Bool
  | .tuple [x, y, z] => ratD x && ratD y && wholeD z
  | _ => false
def ballD : PyData → Bool
  | .tuple [x, y, .int n] => ratD x && ratD y && (decide (1 ≤ n) && decide (n ≤ 1000))
  | _ => false
theorem ratD_int (t b : Int) : ratD (.tuple [.int t, .int b]) = (decide (1 ≤ b) && decide (Int.gcd t b = 1)) := rfl
theorem rds_len {H : Hp} : ∀ {xs : List V} {ds : List PyData}, RdDs H xs ds → xs.length = ds.length
  | _, _, .nil => rfl
  | _, _, .cons _ t => by rw [List.length_cons, List.length_cons, rds_len t]
section
variable {P : Program} {w : World} {K : PySem.W.Frag} {mg : Str → Option Value} {base : Heap} {tb tw : Tok} {aN : Addr}
def spD (f : PyData → Bool) : Sp := fun vs H Q _ => ∃ v d, vs = [v] ∧ RdD H v d ∧ Q (.bl (f d)) H
theorem ok_wholeD (D : Df K mg "is_whole" s_is_whole ["thing"] []) (T : TxB K mg) : Cal P w K mg base "is_whole" 1 ["thing"] [] (spD wholeD) := by
  refine D.cal (k := 0) sc_whole (fun vs H Q E h => by obtain ⟨_, _, rfl, _⟩ := h; rfl) (fun f cdv A outer s H vs Q E hr h => ?_)
  obtain ⟨v, d, rfl, hv, k⟩ := h
  refine ⟨_, pss_one (ps_ret (pe_and
    (pe_callB call_isinst rfl T.nIs PyProof.Rows.boot_isinstance (pa_cons (pv 0) (pa_cons (pe_bltn (v := .ty "int") (u := .type "int") rfl T.nInt PyProof.Rows.boot_int rfl) pa_nil)))
    (pe_one (pe_not (pe_callB call_isinst rfl T.nIs PyProof.Rows.boot_isinstance (pa_cons (pv 0) (pa_cons (pe_bltn (v := .ty "bool") (u := .type "bool") rfl T.nBool (by decide +kernel) rfl) pa_nil))))))), ?_⟩
  refine ⟨_, rfl, _, _, _, _, rfl, ty_of hv, kt_int K d, _, rfl, ?_⟩
  refine ite2 (fun h => ?_) (fun h => ?_)
  · refine ⟨_, rfl, _, _, _, _, rfl, ty_of hv, kt_bool K d, _, rfl, ?_⟩
    have : (!isBlD d) = wholeD d := by cases d <;> first | rfl | cases h
    rw [this]; exact k
  · have : wholeD d = false := by cases d <;> first | rfl | (exact absurd rfl h)
    rw [this] at k; exact k
def spTuD : Sp := fun vs H Q _ => ∃ v d n, vs = [v, .int n] ∧ RdD H v d ∧ Q (.bl (tupD n d)) H
theorem ok_tuD (D : Df K mg "is_tuple" s_is_tuple ["thing", "many"] []) (T : TxB K mg) : Cal P w K mg base "is_tuple" 1 ["thing", "many"] [] spTuD := by
  refine D.cal (k := 0) sc_istup (fun vs H Q E h => by obtain ⟨_, _, _, rfl, _⟩ := h; rfl) (fun f cdv A outer s H vs Q E hr h => ?_)
  obtain ⟨v, d, n, rfl, hv, k⟩ := h
  refine ⟨_, (pss_one (ps_ret (pe_and (pe_callB call_isinst (by rfl) T.nIs PyProof.Rows.boot_isinstance (pa_cons (pv 0) (pa_cons (pe_bltn (v := .ty "tuple") (u := .type "tuple") (by rfl) T.nTuple PyProof.Rows.boot_tuple rfl) pa_nil))) (pe_one (pe_cmpR op_eq (pe_callB call_len_seq (by rfl) T.nLen PySem.boot_len (pa_cons (pv 0) pa_nil)) (pv 1) (nomark _)))))), ?_⟩
  refine ⟨_, rfl, _, _, _, _, rfl, ty_of hv, kt_tup K d, _, rfl, ?_⟩
  cases hv with
  | @tup a xs ds ha hs =>
    refine iteT ⟨_, rfl, a, _, rfl, .inr (SqT.of ha), _, rfl, rfl, ?_⟩
    show Q (.bl (decide (V.int (xs.length : Nat) = V.int n))) H
    rw [vint_dec, rds_len hs]; exact k
  | non => exact iteF k
  | bl b => exact iteF k
  | int i => exact iteF k
  | str x => exact iteF k
  | lst h _ => exact iteF k
theorem ok_irD (D : Df K mg "is_ratio" s_is_ratio ["thing"] []) (T : TxB K mg) (cTu : Cal P w K mg base "is_tuple" 1 ["thing", "many"] [] spTuD) (cW : Cal P w K mg base "is_whole" 1 ["thing"] [] (spD wholeD)) (cG : Cal P w K mg base "greatest_divisor" 1 ["one", "other"] [] spGcd) :
    Cal P w K mg base "is_ratio" 2 ["thing"] [] (spD ratD) := by
  refine D.cal (k := 1) sc_isr (fun vs H Q E h => by obtain ⟨_, _, rfl, _⟩ := h; rfl) (fun f cdv A outer s H vs Q E hr1 h => ?_)
  obtain ⟨v, d, rfl, hv, k⟩ := h
  refine ⟨_, (pss_cons (ps_if (pt_not (pt_truth (pe_c cTu hr1 (pa_cons (pv 0) (pa_cons pe_int pa_nil))) fun _ => rfl)) (pss_one (ps_ret pe_bl)) pss_nil)
    (pss_cons (ps_asg (pv 0) (pg_tup rfl (pgs_cons (pg_name (i := 1) sc_isr.nd rfl (Or.inl rfl)) (pgs_cons (pg_name (i := 2) sc_isr.nd rfl (Or.inl rfl)) pgs_nil))))
    (pss_cons (ps_if ((pw_or (pt_not (pt_truth (pe_c cW hr1 (pa_cons (pv 1) pa_nil)) fun _ => rfl)) (pw_or (pt_not (pt_truth (pe_c cW hr1 (pa_cons (pv 2) pa_nil)) fun _ => rfl)) (pw_or1 (pt_cmpR op_lt (pv 2) pe_int (nomark _)))))).pt (pss_one (ps_ret pe_bl)) pss_nil)
    (pss_one (ps_ret (pe_cmpR op_eq (pe_c cG hr1 (pa_cons (pe_callB call_abs (by rfl) T.nAbs PyProof.Rows.boot_abs (pa_cons (pv 1) pa_nil)) (pa_cons (pv 2) pa_nil))) pe_int (nomark _))))))), ?_⟩
  refine ⟨_, rfl, v, d, _, rfl, hv, _, rfl, ?_⟩
  cases hc : tupD 2 d with
  | false =>
    have : ratD d = false := by
      unfold ratD
      split
      · cases hc
      · rfl
    rw [this] at k
    exact iteT k
  | true =>
    refine iteF ?_
    cases hv with
    | @tup a xs ds ha hs =>
      have hl : ds.length = 2 := by have := of_decide_eq_true hc; omega
      match ds, hl with
      | [d1, d2], _ =>
      cases hs with
      | @cons x1 _ _ _ h1 hs =>
      cases hs with
      | @cons x2 _ _ _ h2 hs =>
      cases hs
      refine ⟨_, rfl, a, _, rfl, SqT.of ha, rfl, _, _, rfl, _, _, rfl, rfl, ?_⟩
      refine ⟨_, rfl, x1, d1, rfl, h1, _, rfl, ?_⟩
      cases h1 with
      | int t =>
        refine iteF ⟨_, rfl, x2, d2, rfl, h2, _, rfl, ?_⟩
        cases h2 with
        | int b =>
          refine iteF ⟨_, rfl, _, _, rfl, rfl, _, rfl, ite2 (fun h => ?_) (fun h => ?_)⟩
          · have hb : b < 1 := of_decide_eq_true h
            have : ratD (.tuple [.int t, .int b]) = false := by rw [ratD_int, decide_eq_false (by omega)]; rfl
            rw [this] at k; exact k
          · have hb : ¬ b < 1 := fun z => h (decide_eq_true z)
            refine ⟨_, rfl, _, rfl, _, rfl, _, _, rfl, (by rw [abs_eq]; omega), (by omega), rfl, ?_⟩
            have e1 : Int.gcd (if t < 0 then -t else t) b = Int.gcd t b := by rw [abs_eq]; simp [Int.gcd]
            show Q (.bl (decide (V.int ((Int.gcd (if t < 0 then -t else t) b : Nat) : Int) = V.int 1))) H
            rw [e1, vint_dec]
            have : ratD (.tuple [.int t, .int b]) = decide (((Int.gcd t b : Nat) : Int) = 1) := by
              rw [ratD_int, decide_eq_true (show 1 ≤ b by omega), Bool.true_and]
              rw [Bool.eq_iff_iff, decide_eq_true_eq, decide_eq_true_eq]; omega
            rw [← this]; exact k
        | non => exact iteT (iteT k)
        | bl b => exact iteT (iteT k)
        | str x => exact iteT (iteT k)
        | tup h _ => exact iteT (iteT k)
        | lst h _ => exact iteT (iteT k)
      | non => exact iteT (iteT k)
      | bl b => exact iteT (iteT k)
      | str x => exact iteT (iteT k)
      | tup h _ => exact iteT (iteT k)
      | lst h _ => exact iteT (iteT k)
    | non => cases hc
    | bl b => cases hc
    | int i => cases hc
    | str x => cases hc
    | lst h _ => cases hc
end
end KK
end
section
set_option maxHeartbeats 8000000
set_option Elab.async false
set_option linter.all false
set_option maxRecDepth 100000
namespace KK
open PySem L2 KM
theorem rd2 {H : Hp} {v : V} {d : PyData} (h : RdD H v d) (c : tupD 2 d = true) : ∃ a x y d1 d2, v = .ref a ∧ d = .tuple [d1, d2] ∧ H a = some (.tup [x, y]) ∧ RdD H x d1 ∧ RdD H y d2 := by
  cases h with
  | @tup a xs ds ha hs =>
    have hl : ds.length = 2 := by have := of_decide_eq_true c; omega
    match ds, hl with
    | [d1, d2], _ =>
      cases hs with
      | cons h1 hs =>
      cases hs with
      | cons h2 hs => cases hs; exact ⟨a, _, _, d1, d2, rfl, rfl, ha, h1, h2⟩
  | non => cases c
  | bl b => cases c
  | int i => cases c
  | str x => cases c
  | lst h _ => cases c
theorem rd3 {H : Hp} {v : V} {d : PyData} (h : RdD H v d) (c : tupD 3 d = true) : ∃ a x y z d1 d2 d3, v = .ref a ∧ d = .tuple [d1, d2, d3] ∧ H a = some (.tup [x, y, z]) ∧ RdD H x d1 ∧ RdD H y d2 ∧ RdD H z d3 := by
  cases h with
  | @tup a xs ds ha hs =>
    have hl : ds.length = 3 := by have := of_decide_eq_true c; omega
    match ds, hl with
    | [d1, d2, d3], _ =>
      cases hs with
      | cons h1 hs =>
      cases hs with
      | cons h2 hs =>
      cases hs with
      | cons h3 hs => cases hs; exact ⟨a, _, _, _, d1, d2, d3, rfl, rfl, ha, h1, h2, h3⟩
  | non => cases c
  | bl b => cases c
  | int i => cases c
  | str x => cases c
  | lst h _ => cases c
theorem wallD_no {ds : List PyData} (c : tupD 2 (.tuple ds) = false) : wallD (.tuple ds) = false := by
  match ds with
  | [] => rfl
  | [_] => rfl
  | [_, _] => cases c
  | _ :: _ :: _ :: _ => rfl
theorem wpD_no {d : PyData} (c : tupD 2 d = false) : wpD d = false := by
  unfold wpD; split
  · cases c
  · rfl
theorem bfD_no {d : PyData} (c : tupD 3 d = false) : bfD d = false := by
  unfold bfD; split
  · cases c
  · rfl
theorem ballD_no {d : PyData} (c : bfD d = false) : ballD d = false := by
  unfold ballD; split
  · next x y n =>
    have : (ratD x && ratD y && true) = false := c
    rw [Bool.and_true] at this
    rw [this]; rfl
  · rfl
theorem ratD_rD (x : Rat) : ratD (rD x) = true := by
  show (decide (1 ≤ (x.den : Int)) && decide (Int.gcd x.num (x.den : Int) = 1)) = true
  have h1 := den_pos x
  have h2 : Int.gcd x.num (x.den : Int) = 1 := x.reduced
  rw [decide_eq_true (by omega), decide_eq_true h2]; rfl
def wlD : Wl → PyData
  | none => .none
  | some (x, y) => .tuple [rD x, rD y]
def wsD (l1 l2 : Wl) : PyData := .tuple [wlD l1, wlD l2]
theorem wallD_wl (l : Wl) : wallD (wlD l) = true := by
  cases l with
  | none => rfl
  | some z => show (ratD (rD z.1) && ratD (rD z.2)) = true; rw [ratD_rD, ratD_rD]; rfl
theorem wpD_ws (l1 l2 : Wl) : wpD (wsD l1 l2) = true := by
  show (wallD (wlD l1) && wallD (wlD l2)) = true; rw [wallD_wl, wallD_wl]; rfl
theorem rd_wall {H : Hp} {v : V} {l : Wl} (h : RdD H v (wlD l)) : WallAt H v l := by
  cases l with
  | none => cases h; rfl
  | some z =>
    obtain ⟨a, x, y, d1, d2, rfl, e, ha, h1, h2⟩ := rd2 h rfl
    cases e
    obtain ⟨p, rfl, hp⟩ := rd_rat h1
    obtain ⟨q, rfl, hq⟩ := rd_rat h2
    exact ⟨a, p, q, rfl, ha, hp, hq⟩
theorem wall_rd {H : Hp} {v : V} {l : Wl} (h : WallAt H v l) : RdD H v (wlD l) := by
  cases l with
  | none => obtain rfl : v = .non := h; exact .non
  | some z =>
    obtain ⟨a, p, q, rfl, ha, hp, hq⟩ := h
    exact .tup ha (.cons hp.rd (.cons hq.rd .nil))
def WgIs (d : PyData) (b : Bool) : Prop := (wpD d = false ∧ b = false) ∨ ∃ l1 l2, d = wsD l1 l2 ∧ WSz l1 ∧ WSz l2 ∧ b = wgood l1 l2
def bD (b : Ball) : PyData := .tuple [rD b.pl, rD b.sp, .int b.wt]
theorem balls_rd {H : Hp} : ∀ {us : List V} {bs : List Ball}, BallsAt H us bs → RdDs H us (bs.map bD)
  | _, _, .nil => .nil
  | _, _, .cons h1 h2 h3 t => .cons (.tup h1 (.cons h2.rd (.cons h3.rd (.cons (.int _) .nil)))) (balls_rd t)
theorem rd_balls {H : Hp} : ∀ {us : List V} {bs : List Ball}, RdDs H us (bs.map bD) → BallsAt H us bs
  | _, [], .nil => .nil
  | _, b :: bs, .cons h t => by
    obtain ⟨a, x, y, z, d1, d2, d3, rfl, e, ha, h1, h2, h3⟩ := rd3 h rfl
    cases e
    obtain ⟨p, rfl, hp⟩ := rd_rat h1
    obtain ⟨q, rfl, hq⟩ := rd_rat h2
    cases h3
    exact .cons ha hp hq (rd_balls t)
inductive Verd (l1 l2 : Wl) : PyData → Bool → Prop
  | kind {e : PyData} (h : isTuD e = false) : Verd l1 l2 e false
  | size {ds : List PyData} (h : ds = [] ∨ 8 < ds.length) : Verd l1 l2 (.tuple ds) false
  | part {ds : List PyData} (h1 : ds ≠ []) (h2 : ds.length ≤ 8) (h : ds.all ballD = false) : Verd l1 l2 (.tuple ds) false
  | row {bs : List Ball} {b c : Ball} {cs : List Ball} (h0 : bs[0]? = some b) (h1 : bs = cs ++ [c]) (hz : BSz bs) (hl : bs.length ≤ 8) (hw : ∀ b ∈ bs, 1 ≤ b.wt ∧ b.wt ≤ 1000) : Verd l1 l2 (.tuple (bs.map bD)) (rowB l1 l2 bs b c)
theorem ballD_bD {b : Ball} (h : 1 ≤ b.wt ∧ b.wt ≤ 1000) : ballD (bD b) = true := by
  show (ratD (rD b.pl) && ratD (rD b.sp) && (decide (1 ≤ b.wt) && decide (b.wt ≤ 1000))) = true
  rw [ratD_rD, ratD_rD, decide_eq_true h.1, decide_eq_true h.2]; rfl
section
variable {P : Program} {w : World} {K : PySem.W.Frag} {mg : Str → Option Value} {base : Heap} {tb tw : Tok} {aN : Addr}
theorem ok_waD (D : Df K mg "is_wall" s_is_wall ["thing"] []) (cTu : Cal P w K mg base "is_tuple" 1 ["thing", "many"] [] spTuD) (cIr : Cal P w K mg base "is_ratio" 2 ["thing"] [] (spD ratD)) : Cal P w K mg base "is_wall" 3 ["thing"] [] (spD wallD) := by
  refine D.cal (k := 2) sc_iswall (fun vs H Q E h => by obtain ⟨_, _, rfl, _⟩ := h; rfl) (fun f cdv A outer s H vs Q E hr2 h => ?_)
  obtain ⟨v, d, rfl, hv, k⟩ := h
  have hr1 : Room 1 _ := hr2.mono (by decide)
  refine ⟨_, (pss_cons (ps_if (pt_cmpR op_isN (pv 0) pe_non (nomark _)) (pss_one (ps_ret pe_bl)) pss_nil)
    (pss_one (ps_ret (pe_and (pe_c cTu hr1 (pa_cons (pv 0) (pa_cons pe_int pa_nil))) (pe_and (pe_c cIr hr2 (pa_cons (pe_ix ix_tup (pv 0) pe_int (fun _ _ => rfl)) pa_nil)) (pe_one (pe_c cIr hr2 (pa_cons (pe_ix ix_tup (pv 0) pe_int (fun _ _ => rfl)) pa_nil)))))))), ?_⟩
  cases hv with
  | non => exact ⟨_, rfl, rfl, _, rfl, iteT k⟩
  | bl b => exact ⟨_, rfl, rfl, _, rfl, iteF ⟨_, rfl, _, _, _, rfl, .bl b, _, rfl, iteF k⟩⟩
  | int b => exact ⟨_, rfl, rfl, _, rfl, iteF ⟨_, rfl, _, _, _, rfl, .int b, _, rfl, iteF k⟩⟩
  | str b => exact ⟨_, rfl, rfl, _, rfl, iteF ⟨_, rfl, _, _, _, rfl, .str b, _, rfl, iteF k⟩⟩
  | lst ha hs => exact ⟨_, rfl, rfl, _, rfl, iteF ⟨_, rfl, _, _, _, rfl, .lst ha hs, _, rfl, iteF k⟩⟩
  | @tup a xs ds ha hs =>
    refine ⟨_, rfl, rfl, _, rfl, iteF ⟨_, rfl, _, _, _, rfl, .tup ha hs, _, rfl, ?_⟩⟩
    cases hc : tupD 2 (.tuple ds) with
    | false => rw [wallD_no hc] at k; exact iteF k
    | true =>
      obtain ⟨a', x, y, d1, d2, e1, e2, ha', h1, h2⟩ := rd2 (.tup ha hs) hc
      cases e1; cases e2
      refine iteT ⟨_, rfl, a, _, _, _, rfl, rfl, .of ha', rfl, x, d1, rfl, h1, _, rfl, ?_⟩
      have k2 : Q (.bl (ratD d1 && ratD d2)) H := k
      cases hd : ratD d1 with
      | false => rw [hd, Bool.false_and] at k2; exact iteF k2
      | true => rw [hd, Bool.true_and] at k2; exact iteT ⟨_, rfl, a, _, _, _, rfl, rfl, .of ha', rfl, y, d2, rfl, h2, k2⟩
theorem ok_wpD (D : Df K mg "is_wall_pair" s_is_wall_pair ["thing"] []) (cTu : Cal P w K mg base "is_tuple" 1 ["thing", "many"] [] spTuD) (cWa : Cal P w K mg base "is_wall" 3 ["thing"] [] (spD wallD)) : Cal P w K mg base "is_wall_pair" 4 ["thing"] [] (spD wpD) := by
  refine D.cal (k := 3) sc_iswp (fun vs H Q E h => by obtain ⟨_, _, rfl, _⟩ := h; rfl) (fun f cdv A outer s H vs Q E hr3 h => ?_)
  obtain ⟨v, d, rfl, hv, k⟩ := h
  have hr1 : Room 1 _ := hr3.mono (by decide)
  refine ⟨_, (pss_one (ps_ret (pe_and (pe_c cTu hr1 (pa_cons (pv 0) (pa_cons pe_int pa_nil))) (pe_and (pe_c cWa hr3 (pa_cons (pe_ix ix_tup (pv 0) pe_int (fun _ _ => rfl)) pa_nil)) (pe_one (pe_c cWa hr3 (pa_cons (pe_ix ix_tup (pv 0) pe_int (fun _ _ => rfl)) pa_nil))))))), ?_⟩
  refine ⟨_, rfl, v, d, _, rfl, hv, _, rfl, ?_⟩
  cases hc : tupD 2 d with
  | false => rw [wpD_no hc] at k; exact iteF k
  | true =>
    obtain ⟨a, x, y, d1, d2, rfl, rfl, ha, h1, h2⟩ := rd2 hv hc
    refine iteT ⟨_, rfl, a, _, _, _, rfl, rfl, .of ha, rfl, x, d1, rfl, h1, _, rfl, ?_⟩
    have k2 : Q (.bl (wallD d1 && wallD d2)) H := k
    cases hd : wallD d1 with
    | false => rw [hd, Bool.false_and] at k2; exact iteF k2
    | true => rw [hd, Bool.true_and] at k2; exact iteT ⟨_, rfl, a, _, _, _, rfl, rfl, .of ha, rfl, y, d2, rfl, h2, k2⟩
def spWgD : Sp := fun vs H Q _ => ∃ v d b, vs = [v] ∧ RdD H v d ∧ WgIs d b ∧ Q (.bl b) H
theorem ok_wgD (D : Df K mg "walls_good" s_walls_good ["thing"] []) (cWp : Cal P w K mg base "is_wall_pair" 4 ["thing"] [] (spD wpD)) (cLt : Cal P w K mg base "less" 1 ["one", "other"] [] spLt) : Cal P w K mg base "walls_good" 5 ["thing"] [] spWgD := by
  refine D.cal (k := 4) sc_wgood (fun vs H Q E h => by obtain ⟨_, _, _, rfl, _⟩ := h; rfl) (fun f cdv A outer s H vs Q E hr h => ?_)
  obtain ⟨v, d, bb, rfl, hv, hw, k⟩ := h
  have hr1 : Room 1 _ := hr.mono (by decide)
  refine ⟨_, (pss_cons (ps_if (pt_not (pt_truth (pe_c cWp hr (pa_cons (pv 0) pa_nil)) fun _ => rfl)) (pss_one (ps_ret pe_bl)) pss_nil)
    (pss_cons (ps_asg (pv 0) (pg_tup rfl (pgs_cons (pg_name (i := 1) sc_wgood.nd rfl (Or.inl rfl)) (pgs_cons (pg_name (i := 2) sc_wgood.nd rfl (Or.inl rfl)) pgs_nil))))
    (pss_one (ps_ret (pe_or (pe_cmpR op_isN (pv 1) pe_non (nomark _)) (pe_or (pe_cmpR op_isN (pv 2) pe_non (nomark _)) (pe_one (pe_c cLt hr1 (pa_cons (pe_ix ix_tup (pv 1) pe_int (fun _ _ => rfl)) (pa_cons (pe_ix ix_tup (pv 2) pe_int (fun _ _ => rfl)) pa_nil)))))))))), ?_⟩
  refine ⟨_, rfl, v, d, rfl, hv, _, rfl, ?_⟩
  rcases hw with ⟨hc, rfl⟩ | ⟨l1, l2, rfl, z1, z2, rfl⟩
  · rw [hc]; exact iteT k
  · rw [wpD_ws]
    refine iteF ?_
    obtain ⟨a, v1, v2, d1, d2, rfl, e, ha, h1, h2⟩ := rd2 hv rfl
    cases e
    have h1 := rd_wall h1
    have h2 := rd_wall h2
    refine ⟨_, rfl, a, _, rfl, SqT.of ha, rfl, _, _, rfl, _, _, rfl, rfl, ?_⟩
    cases l1 with
    | none =>
      obtain rfl : v1 = .non := h1
      exact ⟨_, rfl, rfl, true, rfl, iteT k⟩
    | some l =>
      obtain ⟨x, y⟩ := l
      obtain ⟨b, p, q, rfl, hb, hp, hq⟩ := h1
      refine ⟨_, rfl, rfl, false, rfl, iteF ?_⟩
      cases l2 with
      | none =>
        obtain rfl : v2 = .non := h2
        exact ⟨_, rfl, rfl, true, rfl, iteT k⟩
      | some l' =>
        obtain ⟨x', y'⟩ := l'
        obtain ⟨b', p', q', rfl, hb', hp', hq'⟩ := h2
        refine ⟨_, rfl, rfl, false, rfl, iteF ?_⟩
        refine ⟨_, rfl, b, _, _, _, rfl, rfl, .of hb, rfl, _, rfl, b', _, _, _, rfl, rfl, .of hb', rfl, p, p', x, x', rfl, hp, hp', ⟨(z1 _ _ rfl).1.mono (by decide), (z2 _ _ rfl).1.mono (by decide)⟩, k⟩
theorem ok_bfD (D : Df K mg "is_ball_form" s_is_ball_form ["thing"] []) (cTu : Cal P w K mg base "is_tuple" 1 ["thing", "many"] [] spTuD) (cIr : Cal P w K mg base "is_ratio" 2 ["thing"] [] (spD ratD)) (cW : Cal P w K mg base "is_whole" 1 ["thing"] [] (spD wholeD)) : Cal P w K mg base "is_ball_form" 3 ["thing"] [] (spD bfD) := by
  refine D.cal (k := 2) sc_ballf (fun vs H Q E h => by obtain ⟨_, _, rfl, _⟩ := h; rfl) (fun f cdv A outer s H vs Q E hr2 h => ?_)
  obtain ⟨v, d, rfl, hv, k⟩ := h
  have hr1 : Room 1 _ := hr2.mono (by decide)
  refine ⟨_, (pss_one (ps_ret (pe_and (pe_c cTu hr1 (pa_cons (pv 0) (pa_cons pe_int pa_nil))) (pe_and (pe_c cIr hr2 (pa_cons (pe_ix ix_tup (pv 0) pe_int (fun _ _ => rfl)) pa_nil)) (pe_and (pe_c cIr hr2 (pa_cons (pe_ix ix_tup (pv 0) pe_int (fun _ _ => rfl)) pa_nil)) (pe_one (pe_c cW hr1 (pa_cons (pe_ix ix_tup (pv 0) pe_int (fun _ _ => rfl)) pa_nil)))))))), ?_⟩
  refine ⟨_, rfl, v, d, _, rfl, hv, _, rfl, ?_⟩
  cases hc : tupD 3 d with
  | false => rw [bfD_no hc] at k; exact iteF k
  | true =>
    obtain ⟨a, x, y, z, d1, d2, d3, rfl, rfl, ha, h1, h2, h3⟩ := rd3 hv hc
    refine iteT ⟨_, rfl, a, _, _, _, rfl, rfl, .of ha, rfl, x, d1, rfl, h1, _, rfl, ?_⟩
    have k2 : Q (.bl (ratD d1 && ratD d2 && wholeD d3)) H := k
    cases hd : ratD d1 with
    | false => rw [hd, Bool.false_and, Bool.false_and] at k2; exact iteF k2
    | true =>
      rw [hd, Bool.true_and] at k2
      refine iteT ⟨_, rfl, a, _, _, _, rfl, rfl, .of ha, rfl, y, d2, rfl, h2, _, rfl, ?_⟩
      cases he : ratD d2 with
      | false => rw [he, Bool.false_and] at k2; exact iteF k2
      | true => rw [he, Bool.true_and] at k2; exact iteT ⟨_, rfl, a, _, _, _, rfl, rfl, .of ha, rfl, z, d3, rfl, h3, k2⟩
def spIwD : Sp := fun vs H Q _ => ∃ n, vs = [.int n] ∧ Q (.bl (decide (1 ≤ n) && decide (n ≤ 1000))) H
theorem ok_iwD (D : Df K mg "is_weight" s_is_weight ["thing"] []) (T3 : Tx3 K mg tb tw aN) (cW : Cal P w K mg base "is_whole" 1 ["thing"] [] (spD wholeD)) : Cal P w K mg base "is_weight" 2 ["thing"] [] spIwD := by
  refine D.cal (k := 1) sc_iw (fun vs H Q E h => by obtain ⟨_, rfl, _⟩ := h; rfl) (fun f cdv A outer s H vs Q E hr h => ?_)
  obtain ⟨n, rfl, k⟩ := h
  refine ⟨_, (pss_one (ps_ret (pe_and (pe_c cW hr (pa_cons (pv 0) pa_nil)) (pe_one (pe_chain op_le op_le pe_int (pv 0) (pe_glob (v := .int 1000) (by rfl) T3.mw ⟨_, rfl⟩)))))), ?_⟩
  refine ⟨_, rfl, _, _, rfl, .int n, _, rfl, iteT ⟨_, rfl, _, _, rfl, rfl, _, rfl, ?_⟩⟩
  cases h1n : decide (1 ≤ n) with
  | false => rw [h1n, Bool.false_and] at k; exact iteF k
  | true => rw [h1n, Bool.true_and] at k; exact iteT ⟨_, _, rfl, rfl, k⟩
theorem ok_baD (D : Df K mg "is_ball" s_is_ball ["thing"] []) (cBf : Cal P w K mg base "is_ball_form" 3 ["thing"] [] (spD bfD)) (cIw : Cal P w K mg base "is_weight" 2 ["thing"] [] spIwD) : Cal P w K mg base "is_ball" 4 ["thing"] [] (spD ballD) := by
  refine D.cal (k := 3) sc_ball (fun vs H Q E h => by obtain ⟨_, _, rfl, _⟩ := h; rfl) (fun f cdv A outer s H vs Q E hr h => ?_)
  obtain ⟨v, d, rfl, hv, k⟩ := h
  have hr2 : Room 2 _ := hr.mono (by decide)
  refine ⟨_, (pss_one (ps_ret (pe_and (pe_c cBf hr (pa_cons (pv 0) pa_nil)) (pe_one (pe_c cIw hr2 (pa_cons (pe_ix ix_tup (pv 0) pe_int (fun _ _ => rfl)) pa_nil)))))), ?_⟩
  refine ⟨_, rfl, v, d, rfl, hv, _, rfl, ?_⟩
  cases hc : bfD d with
  | false => rw [ballD_no hc] at k; exact iteF k
  | true =>
    have h3 : tupD 3 d = true := by
      cases h : tupD 3 d with
      | true => rfl
      | false => rw [bfD_no h] at hc; cases hc
    obtain ⟨a, x, y, z, d1, d2, d3, rfl, rfl, ha, h1, h2, h3⟩ := rd3 hv h3
    have hc2 : (ratD d1 && ratD d2 && wholeD d3) = true := hc
    rw [Bool.and_eq_true] at hc2
    cases h3 with
    | int n =>
      have k2 : Q (.bl (ratD d1 && ratD d2 && (decide (1 ≤ n) && decide (n ≤ 1000)))) H := k
      rw [hc2.1, Bool.true_and] at k2
      exact iteT ⟨_, rfl, a, _, _, _, rfl, rfl, .of ha, rfl, n, rfl, k2⟩
    | non => cases hc2.2
    | bl b => cases hc2.2
    | str x => cases hc2.2
    | tup h _ => cases hc2.2
    | lst h _ => cases hc2.2
theorem comp_D {σ : St} {H : Hp} {Q : VK} {j : Nat} {r : Addr} {us : List V} {ds : List PyData} {f : PyData → Bool} (hσ : σ[j]? = some (some (.ref r))) (hr : H r = some (.tup us)) (hB : RdDs H us ds) (hlen : ds.length ≤ 8)
    (k : ∀ D H', Same H H' → H' D = some (.lst ((ds.map f).map V.bl)) → Q (.ref D) H') :
    tComp 1 (iTup K (tVar j)) (gName 0) (fun _ H Q => Q true H) (tCall (spD f) [] E0 (tCons (tVar 0) tNil)) σ H Q := by
  refine ⟨_, hσ, r, rfl, ⟨_, SqT.of hr⟩, fun D hD => ?_⟩
  have hl := hB.len
  refine comp_by (J := Itt K r) (g := gName 0) (tt := fun _ H Q => Q true H) (te := tCall (spD f) [] E0 (tCons (tVar 0) tNil)) (Q := Q) (N := us.length) (n := 1) (fun i H2 ys => Same H H2 ∧ ys = ((ds.map f).map V.bl).take i) ⟨Same.upd hD, rfl⟩ (fun i H2 ys hi ⟨s2, _⟩ => ?_) (fun H2 ys ⟨s2, _⟩ => ?_) ?_ ?_
  · exact ⟨us, us[i], .of (s2 _ _ hr), List.getElem?_eq_getElem hi⟩
  · exact ⟨us, .of (s2 _ _ hr), Nat.le_refl _⟩
  · rintro i x zs H2 H3 ys Nx hNx hi hzs ⟨rfl, f1⟩ ⟨s2, rfl⟩ hD2
    obtain ⟨z1, rfl⟩ := ln1 hzs
    have hx := f1 us (.of (s2 _ _ hr))
    obtain ⟨d, ed⟩ : ∃ d, ds[i]? = some d := ⟨ds[i]'(by omega), List.getElem?_eq_getElem _⟩
    obtain ⟨x', ex, rx⟩ := hB.get ed
    rw [hx] at ex; cases ex
    dsimp only [gName]
    try rw [if_pos rfl]
    refine ⟨_, rfl, x, d, rfl, rx.same s2, ?_⟩
    refine ⟨hD2, ?_, hNx _ _ ⟨same_mk hD s2 (Same.refl _), ?_⟩⟩
    · rw [List.length_take]; exact small1000 (by omega)
    · rw [tk_snoc (x := V.bl (f d)) (by rw [List.getElem?_map, List.getElem?_map, ed]; rfl)]
  · rintro H2 ys ⟨s2, rfl⟩ hD2
    rw [List.take_of_length_le (by rw [List.length_map, List.length_map, hl]; exact Nat.le_refl _)] at hD2
    exact k D H2 s2 hD2
def spIsD : Sp := fun vs H Q _ => ∃ u v l1 l2 e b, vs = [u, v] ∧ RdD H u (wsD l1 l2) ∧ WSz l1 ∧ WSz l2 ∧ RdD H v e ∧ Verd l1 l2 e b ∧ ∀ H', Same H H' → Q (.bl b) H'
theorem ok_isD (D : Df K mg "is_row" s_is_row ["walls", "thing"] []) (T : TxB K mg) (T3 : Tx3 K mg tb tw aN) (cWg : Cal P w K mg base "walls_good" 5 ["thing"] [] spWgD) (cBa : Cal P w K mg base "is_ball" 4 ["thing"] [] (spD ballD)) (cOd : Cal P w K mg base "is_ordered" 3 ["row"] [] spOd)
    (cBe : Cal P w K mg base "is_between" 4 ["walls", "row"] [] spBe) : Cal P w K mg base "is_row" 6 ["walls", "thing"] [] spIsD := by
  refine D.cal (k := 5) sc_isrow (fun vs H Q E h => by obtain ⟨_, _, _, _, _, _, rfl, _⟩ := h; rfl) (fun f cdv A outer s H vs Q E hr5 h => ?_)
  obtain ⟨u, v, l1, l2, e, bb, rfl, hu, z1, z2, hv, hV, k⟩ := h
  have hr3 : Room 3 _ := hr5.mono (by decide)
  have hr4 : Room 4 _ := hr5.mono (by decide)
  have k0 := k H (Same.refl _)
  refine ⟨_, (pss_cons (ps_if ((pw_or (pt_not (pt_truth (pe_c cWg hr5 (pa_cons (pv 0) pa_nil)) fun _ => rfl)) (pw_or1 (pt_not (pt_truth (pe_callB call_isinst (by rfl) T.nIs PyProof.Rows.boot_isinstance (pa_cons (pv 1) (pa_cons (pe_bltn (v := .ty "tuple") (u := .type "tuple") (by rfl) T.nTuple PyProof.Rows.boot_tuple rfl) pa_nil))) fun _ => rfl))))).pt (pss_one (ps_ret pe_bl)) pss_nil)
    (pss_cons (ps_if ((pw_or (pt_not (pt_chain op_le op_le pe_int (pe_callB call_len_seq (by rfl) T.nLen PySem.boot_len (pa_cons (pv 1) pa_nil)) (pe_glob (v := .int 8) (by rfl) T3.mb ⟨_, rfl⟩))) (pw_or1 (pt_not (pt_truth (pe_callB (call_all rfl) (by rfl) T3.nAll (by decide +kernel) (pa_cons (pe_comp (NB := ["ball"]) rfl (by decide +kernel) (by decide +kernel) rfl (by decide +kernel) (pi_tup (pv 1)) (by intro _ _ _; refine ⟨?_, ?_, ?_⟩; (exact (pg_name (i := 0) (show List.Nodup (["ball"] : List Str) by decide +kernel) rfl (Or.inl rfl))); (exact pts_nil); (exact (pe_c cBa hr4 (pa_cons (pv 0) pa_nil))))) pa_nil)) fun _ => rfl))))).pt (pss_one (ps_ret pe_bl)) pss_nil)
    (pss_one (ps_ret (pe_and (pe_c cOd hr3 (pa_cons (pv 1) pa_nil)) (pe_one (pe_c cBe hr4 (pa_cons (pv 0) (pa_cons (pv 1) pa_nil))))))))), ?_⟩
  refine ⟨_, rfl, u, _, wgood l1 l2, rfl, hu, .inr ⟨l1, l2, rfl, z1, z2, rfl⟩, ?_⟩
  cases hg : wgood l1 l2 with
  | false =>
    have : bb = false := by
      cases hV with
      | row => unfold rowB; rw [hg]; rfl
      | _ => rfl
    rw [this] at k0
    exact ⟨false, rfl, iteT (iteT k0)⟩
  | true =>
    refine ⟨true, rfl, iteF ?_⟩
    refine ⟨_, rfl, _, _, _, _, rfl, ty_of hv, kt_tup K e, _, rfl, ?_⟩
    obtain ⟨a, v1, v2, d1, d2, rfl, e2, ha, h1, h2⟩ := rd2 hu rfl
    cases e2
    have h1 := rd_wall h1
    have h2 := rd_wall h2
    cases ht : isTuD e with
    | false =>
      have : bb = false := by
        cases hV with
        | row => cases ht
        | _ => rfl
      rw [this] at k0
      exact iteT k0
    | true =>
      refine iteF ?_
      cases hv with
      | @tup r us ds hrr hB =>
        have hl := hB.len
        refine ⟨_, rfl, r, _, rfl, .inr (SqT.of hrr), _, _, rfl, rfl, _, rfl, ?_⟩
        by_cases hs : ds = [] ∨ 8 < ds.length
        · have hb : bb = false := by
            cases hV with
            | row h0 h1 hz hl' hw =>
              rcases hs with hs | hs
              · rename_i bs b c cs
                rw [List.map_eq_nil_iff] at hs; rw [h1] at hs; simp at hs
              · rw [List.length_map] at hs; omega
            | _ => rfl
          rw [hb] at k0
          rcases hs with hs | hs
          · subst hs
            have : us.length = 0 := hl
            rw [decide_eq_false (show ¬ (1 : Int) ≤ (us.length : Int) by omega)]
            exact iteF ⟨_, rfl, iteT (iteT k0)⟩
          · rw [decide_eq_true (show (1 : Int) ≤ (us.length : Int) by omega)]
            refine iteT ⟨_, _, rfl, rfl, _, rfl, ?_⟩
            rw [decide_eq_false (show ¬ (us.length : Int) ≤ 8 by omega)]
            exact iteT (iteT k0)
        · have hs1 : ds.length ≤ 8 := by omega
          have hs2 : 1 ≤ ds.length := by
            cases ds with
            | nil => exact absurd (.inl rfl) hs
            | cons => simp
          rw [decide_eq_true (show (1 : Int) ≤ (us.length : Int) by omega)]
          refine iteT ⟨_, _, rfl, rfl, _, rfl, ?_⟩
          rw [decide_eq_true (show (us.length : Int) ≤ 8 by omega)]
          refine iteF ?_
          unfold tNot tCB tCons
          refine comp_D (K := K) (j := 1) rfl hrr hB hs1 fun DD H2 e2 hD => ⟨DD, _, rfl, SqL.of hD, ?_⟩
          rw [all_map]
          cases hV with
          | kind h => cases h
          | size h => exact absurd h hs
          | part g1 g2 h =>
            rw [h]
            exact ⟨false, rfl, iteT (k H2 e2)⟩
          | @row bs b c cs h0 h3 hz hl' hw =>
            have hall : (bs.map bD).all ballD = true := by
              rw [List.all_map, List.all_eq_true]
              intro b mb
              exact ballD_bD (hw b mb)
            rw [hall]
            refine ⟨true, rfl, iteF ?_⟩
            have hB := rd_balls hB
            have hne : bs ≠ [] := by rw [h3]; simp
            have k' := k
            unfold rowB at k'
            simp only [hg, Bool.true_and] at k'
            refine ⟨_, rfl, r, us, bs, rfl, e2 _ _ hrr, hB.same e2, hne, hl', hz, fun H3 e3 => ?_⟩
            have e23 := e2.trans e3
            cases ho : ordB bs with
            | false =>
              have := k' H3 e23
              simp only [ho, Bool.false_and] at this
              exact ⟨false, rfl, iteF this⟩
            | true =>
              refine ⟨true, rfl, iteT ⟨_, rfl, _, rfl, a, v1, v2, l1, l2, r, us, bs, b, cs, c, rfl, e23 _ _ ha, h1.same e23, h2.same e23, z1, z2, e23 _ _ hrr, hB.same e23, h0, h3, hz, fun H4 e4 => ?_⟩⟩
              have := k' H4 (e23.trans e4)
              simp only [ho, Bool.true_and] at this
              exact this
      | _ => cases ht
end
end KK
end
section
set_option maxHeartbeats 8000000
set_option Elab.async false
set_option linter.all false
set_option maxRecDepth 100000
namespace KK
open PySem L2 KM
theorem bad_l {x y z : PyData} (h : ratD x = false) : ballD (.tuple [x, y, z]) = false := by
  unfold ballD; split
  · next e => cases e; rw [h]; rfl
  · rfl
theorem bad_r {x y z : PyData} (h : ratD y = false) : ballD (.tuple [x, y, z]) = false := by
  unfold ballD; split
  · next e => cases e; rw [h, Bool.and_false]; rfl
  · rfl
theorem bad_w {x y : PyData} {n : Int} (h : ¬ (1 ≤ n ∧ n ≤ 1000)) : ballD (.tuple [x, y, .int n]) = false := by
  show (ratD x && ratD y && (decide (1 ≤ n) && decide (n ≤ 1000))) = false
  have : (decide (1 ≤ n) && decide (n ≤ 1000)) = false := by
    rw [Bool.eq_false_iff]; intro z; rw [Bool.and_eq_true, decide_eq_true_eq, decide_eq_true_eq] at z; exact h z
  rw [this, Bool.and_false]
theorem bad_z {x y z : PyData} (h : wholeD z = false) : ballD (.tuple [x, y, z]) = false := by
  unfold ballD; split
  · next e => cases e; cases h
  · rfl
def putD (ds : List PyData) (j : Nat) (e : PyData) : PyData := .tuple ((ds.take j ++ [e]) ++ ds.drop (j + 1))
theorem verd_put {l1 l2 : Wl} {ds : List PyData} {j : Nat} {e : PyData} (hj : j < ds.length) (hl : ds.length ≤ 8) (he : ballD e = false) : Verd l1 l2 (putD ds j e) false := by
  refine .part (by simp) ?_ ?_
  · rw [List.length_append, List.length_append, List.length_take, List.length_drop, List.length_cons, List.length_nil]; omega
  · rw [List.all_append, List.all_append, List.all_cons, he]; simp
def VF (e : PyData) : Prop := ∀ l1 l2, Verd l1 l2 e false
section
variable {P : Program} {w : World} {K : PySem.W.Frag} {mg : Str → Option Value} {base : Heap} {tb tw : Tok} {aN : Addr}
def spPut : Sp := fun vs H Q _ => ∃ N v u ds j e, vs = [v, .int (j : Nat), u] ∧ Ls N H ∧ RdD (del N H) v (.tuple ds) ∧ RdD (del N H) u e ∧ j < ds.length ∧ ds.length ≤ 8 ∧ ∀ r H', Same H H' → RdD (del N H') r (putD ds j e) → Q r H'
theorem sc_put : FnScope ["things", "at", "thing"] ["things", "at", "thing"] (defScope s_law_put) := ⟨rfl, rfl, rfl, by decide +kernel, rfl, by decide +kernel, by decide +kernel⟩
theorem ok_put (D : Df K mg "_law_put" s_law_put ["things", "at", "thing"] []) : Cal P w K mg base "_law_put" 1 ["things", "at", "thing"] [] spPut := by
  refine D.cal (k := 0) sc_put (fun vs H Q E h => by obtain ⟨_, _, _, _, _, _, rfl, _⟩ := h; rfl) (fun f cdv A outer s H vs Q E hr h => ?_)
  obtain ⟨N, v, u, ds, j, e, rfl, hL, hv, hu, hj, hl, k⟩ := h
  refine ⟨_, (pss_one (ps_ret (pe_op op_catA (pe_op op_catA (pe_slice (sl_tup.or sl_whole) (pv 0) po_none (po_some (pv 1))) (pe_tup (pa_cons (pv 2) pa_nil))) (pe_slice (sl_tup.or sl_whole) (pv 0) (po_some (pe_op op_add (pv 1) pe_int)) po_none)))), ?_⟩
  unfold tRet
  apply dt_use (at_del hL)
  case h => exact (by apply dt_catT; apply dt_catT; apply dt_sl; exact dt_var rfl hv; exact dp_none; apply dp_some; exact dt_var rfl (.int ((j : Nat) : Int)); apply dt_tup; apply da_cons; exact dt_var rfl hu; exact da_nil; exact szl (show (1 : Nat) ≤ 1000 by decide); (first | (refine szl ?_; simp only [List.length_append, List.length_cons, List.length_nil, List.length_map, cutG_to, cutG_from, cutG_to1, cutG_from1, List.length_take, List.length_drop]; omega) | exact szl (show (3 : Nat) ≤ 1000 by decide)); apply dt_sl; exact dt_var rfl hv; apply dp_some; apply dt_add; exact dt_var rfl (.int ((j : Nat) : Int)); exact dt_int; exact dp_none; (first | (refine szl ?_; simp only [List.length_append, List.length_cons, List.length_nil, List.length_map, cutG_to, cutG_from, cutG_to1, cutG_from1, List.length_take, List.length_drop]; omega) | exact szl (show (3 : Nat) ≤ 1000 by decide)))
  case k =>
  intro r H' e' hr'
  refine k r H' e' ?_
  rw [cutG_to, cutG_from1] at hr'
  exact hr'
theorem comp_put {σ : St} {B H : Hp} {Q : VK} {l : Addr} {v : V} {ds fs : List PyData} {j : Nat} (h5 : σ[5]? = some (some (.ref l))) (h0 : σ[0]? = some (some v)) (h1 : σ[1]? = some (some (.int (j : Nat)))) (f : FS B H l fs) (hv : RdD B v (.tuple ds)) (hj : j < ds.length) (hl : ds.length ≤ 8) (hn : fs.length ≤ 100)
    (k : ∀ D H', Same H H' → RdD H' (.ref D) (.list (fs.map (putD ds j))) → Q (.ref D) H') :
    tCompC 1 [0, 1] (iList K (tVar 5)) (gName 0) (fun _ H Q => Q true H) (tCall spPut [] E0 (tCons (tVar 1) (tCons (tVar 2) (tCons (tVar 0) tNil)))) σ H Q := by
  have hcap : caps σ [0, 1] = [some v, some (.int (j : Nat))] := by simp [caps, h0, h1]
  obtain ⟨xs, hx, rx⟩ := f.ex
  have rx' : RdDs H xs fs := rx.same del_sub
  have hv' : RdD H v (.tuple ds) := hv.same f.sm
  have hl' := rx'.len
  refine ⟨_, h5, l, rfl, ⟨_, SqL.of hx⟩, fun D hD => ?_⟩
  refine compC_by (J := Itl K l) (g := gName 0) (tt := fun _ H Q => Q true H) (te := tCall spPut [] E0 (tCons (tVar 1) (tCons (tVar 2) (tCons (tVar 0) tNil)))) (Q := Q) (N := xs.length) (n := 1)
    (fun i H2 ys => Same H (del [D] H2) ∧ RdDs (del [D] H2) ys ((fs.map (putD ds j)).take i)) ⟨same_hid hD, .nil⟩ (fun i H2 ys hi ⟨s2, _⟩ => ?_) (fun H2 ys ⟨s2, _⟩ => ?_) ?_ ?_
  · exact ⟨xs, xs[i], .of ((s2.trans del_sub) _ _ hx), List.getElem?_eq_getElem hi⟩
  · exact ⟨xs, .of ((s2.trans del_sub) _ _ hx), Nat.le_refl _⟩
  · rintro i x zs H2 H3 ys Nx hNx hi hzs ⟨rfl, f1⟩ ⟨s2, ry⟩ hD2
    obtain ⟨z1, rfl⟩ := ln1 hzs
    have hxi := f1 xs (.of ((s2.trans del_sub) _ _ hx))
    obtain ⟨d, ed⟩ : ∃ d, fs[i]? = some d := ⟨fs[i]'(by omega), List.getElem?_eq_getElem _⟩
    obtain ⟨x', ex, rd⟩ := rx'.get ed
    rw [hxi] at ex; cases ex
    rw [hcap]
    dsimp only [gName]
    refine ⟨rfl, ?_⟩
    rw [if_pos rfl]
    refine ⟨_, rfl, _, rfl, _, rfl, [D], v, x, ds, j, d, rfl, ls1 hD2, hv'.same s2, rd.same s2, hj, hl, fun r H4 e4 hr4 => ?_⟩
    refine ⟨e4 _ _ hD2, small1000 (by rw [ry.len, List.length_take, List.length_map]; omega), hNx _ _ ⟨?_, ?_⟩⟩
    · rw [del_upd]; exact s2.trans (same_del e4)
    · rw [del_upd, tk_snoc (x := putD ds j d) (by rw [List.getElem?_map, ed]; rfl)]
      exact RdDs.app (.cons hr4 .nil) (ry.same (same_del e4))
  · rintro H2 ys ⟨s2, ry⟩ hD2
    rw [List.take_of_length_le (by rw [List.length_map, hl']; exact Nat.le_refl _)] at ry
    exact k D H2 (s2.trans del_sub) (.lst hD2 (ry.same del_sub))
def spBB : Sp := fun vs H Q _ => ∃ (v : V) (bs : List Ball) (j : Nat) (b : Ball), vs = [v, .int (j : Nat)] ∧ RdD H v (.tuple (bs.map bD)) ∧ bs[j]? = some b ∧ bs.length ≤ 8 ∧ Sz 300 b.pl ∧ ∀ r H' es, Same H H' → RdD H' r (.list es) → (∀ e ∈ es, VF e) → es.length ≤ 100 → Q r H'
theorem sc_bb : FnScope ["row", "at", "place", "speed", "weight", "found", "bad"] ["row", "at"] (defScope s_law_bent_balls) := ⟨rfl, rfl, rfl, by decide +kernel, rfl, by decide +kernel, by decide +kernel⟩
theorem ok_bb (D : Df K mg "_law_bent_balls" s_law_bent_balls ["row", "at"] []) (T3 : Tx3 K mg tb tw aN) (cPut : Cal P w K mg base "_law_put" 1 ["things", "at", "thing"] [] spPut) : Cal P w K mg base "_law_bent_balls" 2 ["row", "at"] [] spBB := by
  refine D.cal (k := 1) sc_bb (fun vs H Q E h => by obtain ⟨_, _, _, _, rfl, _⟩ := h; rfl) (fun f cdv A outer s H vs Q E hr1 h => ?_)
  obtain ⟨v, bs, j, b, rfl, hv, hb, hl, zp, k⟩ := h
  refine ⟨_, (pss_cons (ps_asg (pe_ix ix_tup (pv 0) (pv 1) (fun _ _ => rfl)) (pg_tup rfl (pgs_cons (pg_name (i := 2) sc_bb.nd rfl (Or.inl rfl)) (pgs_cons (pg_name (i := 3) sc_bb.nd rfl (Or.inl rfl)) (pgs_cons (pg_name (i := 4) sc_bb.nd rfl (Or.inl rfl)) pgs_nil)))))
    (pss_cons (ps_set (i := 5) sc_bb.nd rfl (Or.inl rfl) (pe_lst (pa_cons pe_non (pa_cons (pe_tup pa_nil) (pa_cons (pe_lst (pa_cons (pv 2) (pa_cons (pv 3) (pa_cons (pv 4) pa_nil)))) (pa_cons (pe_tup (pa_cons (pv 2) (pa_cons (pv 3) pa_nil))) (pa_cons (pe_tup (pa_cons (pv 2) (pa_cons (pv 3) (pa_cons (pv 4) (pa_cons pe_int pa_nil))))) (pa_cons (pe_tup (pa_cons (pv 2) (pa_cons (pv 3) (pa_cons pe_int pa_nil)))) (pa_cons (pv 2) pa_nil)))))))))
    (pss_cons (ps_expr (pe_bm PySem.F.plainAttrs_list PySem.F.slot_list_append PySem.F.type_list_append mt_append (pv 5) (pa_cons (pe_tup (pa_cons (pe_callTy call_list_of (by rfl) T3.nList PyProof.Rows.boot_list (pa_cons (pv 2) pa_nil)) (pa_cons (pv 3) (pa_cons (pv 4) pa_nil)))) pa_nil)))
    (pss_cons (ps_set (i := 5) sc_bb.nd rfl (Or.inl rfl) (pe_op op_cat (pv 5) (pe_lst (pa_cons (pe_tup (pa_cons (pv 2) (pa_cons (pv 3) (pa_cons pe_int pa_nil)))) (pa_cons (pe_tup (pa_cons (pv 2) (pa_cons (pv 3) (pa_cons (pe_un un_neg pe_int) pa_nil)))) (pa_cons (pe_tup (pa_cons (pv 2) (pa_cons (pv 3) (pa_cons pe_bl pa_nil)))) (pa_cons (pe_tup (pa_cons (pv 2) (pa_cons (pv 3) (pa_cons pe_str pa_nil)))) pa_nil)))))))
    (pss_cons (ps_set (i := 5) sc_bb.nd rfl (Or.inl rfl) (pe_op op_cat (pv 5) (pe_lst (pa_cons (pe_tup (pa_cons (pv 2) (pa_cons (pv 3) (pa_cons (pe_tup (pa_cons pe_int (pa_cons pe_int pa_nil))) pa_nil)))) (pa_cons (pe_tup (pa_cons (pe_ix ix_tup (pv 2) pe_int (fun _ _ => rfl)) (pa_cons (pv 3) (pa_cons (pv 4) pa_nil)))) (pa_cons (pe_tup (pa_cons (pv 2) (pa_cons (pe_callTy call_list_of (by rfl) T3.nList PyProof.Rows.boot_list (pa_cons (pv 3) pa_nil)) (pa_cons (pv 4) pa_nil)))) pa_nil))))))
    (pss_cons (ps_for PassesOwn.never rfl (pi_list (pe_lst (pa_cons (pe_tup (pa_cons (pe_op op_mulB pe_int (pe_ix ix_tup (pv 2) pe_int (fun _ _ => rfl))) (pa_cons (pe_op op_mulB pe_int (pe_ix ix_tup (pv 2) pe_int (fun _ _ => rfl))) pa_nil))) (pa_cons (pe_tup (pa_cons (pe_ix ix_tup (pv 2) pe_int (fun _ _ => rfl)) (pa_cons pe_int pa_nil))) (pa_cons (pe_tup (pa_cons (pe_ix ix_tup (pv 2) pe_int (fun _ _ => rfl)) (pa_cons (pe_un un_neg (pe_ix ix_tup (pv 2) pe_int (fun _ _ => rfl))) pa_nil))) (pa_cons (pe_tup (pa_cons pe_int (pa_cons pe_int pa_nil))) (pa_cons pe_non (pa_cons pe_int (pa_cons (pe_tup (pa_cons pe_bl (pa_cons pe_int pa_nil))) (pa_cons pe_str pa_nil)))))))))) (pg_name (i := 6) sc_bb.nd rfl (Or.inl rfl)) (pss_one (ps_set (i := 5) sc_bb.nd rfl (Or.inl rfl) (pe_op op_cat (pv 5) (pe_lst (pa_cons (pe_tup (pa_cons (pv 6) (pa_cons (pv 3) (pa_cons (pv 4) pa_nil)))) (pa_cons (pe_tup (pa_cons (pv 2) (pa_cons (pv 6) (pa_cons (pv 4) pa_nil)))) pa_nil)))))))
    (pss_one (ps_ret (pe_compC (NB := ["ball"]) (FR := ["row", "at"]) (js := [0, 1]) rfl rfl (cl_swap (by decide)) (.cons rfl rfl rfl ⟨_, rfl⟩ (.cons rfl rfl rfl ⟨_, rfl⟩ .nil)) rfl (by decide +kernel) rfl (by decide +kernel) (pi_list (pv 5)) (by intro _ _ _; refine ⟨?_, ?_, ?_⟩; (exact (pg_name (i := 0) (show List.Nodup (["ball", "row", "at"] : List Str) by decide +kernel) rfl (Or.inl rfl))); (exact pts_nil); (exact (pe_c cPut hr1 (pa_cons (pv 1) (pa_cons (pv 2) (pa_cons (pv 0) pa_nil))))))))))))))), ?_⟩
  have hv' := hv
  cases hv' with
  | @tup r us _ hrr hB =>
  obtain ⟨vb, evb, rb⟩ := hB.get (i := j) (d := bD b) (by rw [List.getElem?_map, hb]; rfl)
  obtain ⟨ab, x, y, z, d1, d2, d3, rfl, e, hab, hp, hs, hw⟩ := rd3 rb rfl
  cases e
  refine ⟨_, rfl, _, rfl, r, _, _, _, rfl, rfl, .of hrr, atI_nat evb, ab, _, rfl, SqT.of hab, rfl, _, _, rfl, _, _, rfl, _, _, rfl, rfl, ?_⟩
  dsimp only
  refine st_set ?_
  apply fs_lst at_0
  case h => exact (by apply da_cons; exact dt_non; apply da_cons; apply dt_tup; exact da_nil; exact szl (show (0 : Nat) ≤ 1000 by decide); apply da_cons; apply dt_lst; apply da_cons; exact dt_var rfl hp; apply da_cons; exact dt_var rfl hs; apply da_cons; exact dt_var rfl hw; exact da_nil; exact szl (show (3 : Nat) ≤ 1000 by decide); apply da_cons; apply dt_tup; apply da_cons; exact dt_var rfl hp; apply da_cons; exact dt_var rfl hs; exact da_nil; exact szl (show (2 : Nat) ≤ 1000 by decide); apply da_cons; apply dt_tup; apply da_cons; exact dt_var rfl hp; apply da_cons; exact dt_var rfl hs; apply da_cons; exact dt_var rfl hw; apply da_cons; exact dt_int; exact da_nil; exact szl (show (4 : Nat) ≤ 1000 by decide); apply da_cons; apply dt_tup; apply da_cons; exact dt_var rfl hp; apply da_cons; exact dt_var rfl hs; apply da_cons; exact dt_int; exact da_nil; exact szl (show (3 : Nat) ≤ 1000 by decide); apply da_cons; exact dt_var rfl hp; exact da_nil)
  case l => exact szl (show (7 : Nat) ≤ 1000 by decide)
  case k =>
  intro l1 H1 f1
  refine st_drop ?_
  apply fs_app f1
  case h => exact (by apply dt_tup; apply da_cons; apply dt_listOf; apply da_cons; exact dt_var rfl hp; exact da_nil; apply da_cons; exact dt_var rfl hs; apply da_cons; exact dt_var rfl hw; exact da_nil; exact szl (show (3 : Nat) ≤ 1000 by decide))
  case hs => exact rfl
  case z => exact (show (7 : Nat) ≤ 1000 by decide)
  case k =>
  intro H2 f2
  refine st_set ?_
  apply fs_cat f2
  case h => exact (by apply da_cons; apply dt_tup; apply da_cons; exact dt_var rfl hp; apply da_cons; exact dt_var rfl hs; apply da_cons; exact dt_int; exact da_nil; exact szl (show (3 : Nat) ≤ 1000 by decide); apply da_cons; apply dt_tup; apply da_cons; exact dt_var rfl hp; apply da_cons; exact dt_var rfl hs; apply da_cons; apply dt_neg; exact dt_int; exact da_nil; exact szl (show (3 : Nat) ≤ 1000 by decide); apply da_cons; apply dt_tup; apply da_cons; exact dt_var rfl hp; apply da_cons; exact dt_var rfl hs; apply da_cons; exact dt_bl; exact da_nil; exact szl (show (3 : Nat) ≤ 1000 by decide); apply da_cons; apply dt_tup; apply da_cons; exact dt_var rfl hp; apply da_cons; exact dt_var rfl hs; apply da_cons; exact dt_str; exact da_nil; exact szl (show (3 : Nat) ≤ 1000 by decide); exact da_nil)
  case hs => exact rfl
  case z => exact szl (show (12 : Nat) ≤ 1000 by decide)
  case k =>
  intro l3 H3 f3
  refine st_set ?_
  apply fs_cat f3
  case h => exact (by apply da_cons; apply dt_tup; apply da_cons; exact dt_var rfl hp; apply da_cons; exact dt_var rfl hs; apply da_cons; apply dt_tup; apply da_cons; exact dt_int; apply da_cons; exact dt_int; exact da_nil; exact szl (show (2 : Nat) ≤ 1000 by decide); exact da_nil; exact szl (show (3 : Nat) ≤ 1000 by decide); apply da_cons; apply dt_tup; apply da_cons; apply dt_ix; exact dt_var rfl hp; exact dt_int; exact rfl; apply da_cons; exact dt_var rfl hs; apply da_cons; exact dt_var rfl hw; exact da_nil; exact szl (show (3 : Nat) ≤ 1000 by decide); apply da_cons; apply dt_tup; apply da_cons; exact dt_var rfl hp; apply da_cons; apply dt_listOf; apply da_cons; exact dt_var rfl hs; exact da_nil; apply da_cons; exact dt_var rfl hw; exact da_nil; exact szl (show (3 : Nat) ≤ 1000 by decide); exact da_nil)
  case hs => exact rfl
  case z => exact szl (show (15 : Nat) ≤ 1000 by decide)
  case k =>
  intro l4 H4 f4
  refine st_for ?_
  unfold tFor iList
  apply dt_use f4.at_
  case h =>
    apply dt_lst
    · exact (by apply da_cons; apply dt_tup; apply da_cons; apply dt_mul; exact dt_int; apply dt_ix; exact dt_var rfl hp; exact dt_int; exact rfl; (first | exact ⟨bd2, zp.1.mono (by decide)⟩ | exact ⟨bd2, zp.2.mono (by decide)⟩); apply da_cons; apply dt_mul; exact dt_int; apply dt_ix; exact dt_var rfl hp; exact dt_int; exact rfl; (first | exact ⟨bd2, zp.1.mono (by decide)⟩ | exact ⟨bd2, zp.2.mono (by decide)⟩); exact da_nil; exact szl (show (2 : Nat) ≤ 1000 by decide); apply da_cons; apply dt_tup; apply da_cons; apply dt_ix; exact dt_var rfl hp; exact dt_int; exact rfl; apply da_cons; exact dt_int; exact da_nil; exact szl (show (2 : Nat) ≤ 1000 by decide); apply da_cons; apply dt_tup; apply da_cons; apply dt_ix; exact dt_var rfl hp; exact dt_int; exact rfl; apply da_cons; apply dt_neg; apply dt_ix; exact dt_var rfl hp; exact dt_int; exact rfl; exact da_nil; exact szl (show (2 : Nat) ≤ 1000 by decide); apply da_cons; apply dt_tup; apply da_cons; exact dt_int; apply da_cons; exact dt_int; exact da_nil; exact szl (show (2 : Nat) ≤ 1000 by decide); apply da_cons; exact dt_non; apply da_cons; exact dt_int; apply da_cons; apply dt_tup; apply da_cons; exact dt_bl; apply da_cons; exact dt_int; exact da_nil; exact szl (show (2 : Nat) ≤ 1000 by decide); apply da_cons; exact dt_str; exact da_nil)
    · exact szl (show (8 : Nat) ≤ 1000 by decide)
  case k =>
  intro v5 H5 e5 r5
  have f5 := (f4.go e5).re
  have q5 := (f4.go e5).at_.s
  generalize hBs : del [l4] H5 = Bs at r5 f5 q5
  have hv5 := hv.same q5
  have hp5 := hp.same q5
  have hs5 := hs.same q5
  have hw5 := hw.same q5
  cases r5 with
  | @lst a5 xs5 _ ha5 hx5 =>
  have hbad : ∀ (i : Nat) (d : PyData), ([PyData.tuple [.int (2 * b.pl.num), .int (2 * (b.pl.den : Int))], .tuple [.int b.pl.num, .int 0], .tuple [.int b.pl.num, .int (-(b.pl.den : Int))], .tuple [.int 0, .int 2], .none, .int 1, .tuple [.bool true, .int 1], .str "0"] : List PyData)[i]? = some d → ratD d = false := by
    intro i d hd
    have hm := List.mem_of_getElem? hd
    simp only [List.mem_cons, List.not_mem_nil, or_false] at hm
    have hden := den_pos b.pl
    rcases hm with rfl | rfl | rfl | rfl | rfl | rfl | rfl | rfl
    · rw [ratD_int]
      have : ¬ Int.gcd (2 * b.pl.num) (2 * (b.pl.den : Int)) = 1 := by rw [Int.gcd_mul_left]; intro z; have z2 := Nat.eq_one_of_mul_eq_one_right z; revert z2; decide
      rw [decide_eq_false this, Bool.and_false]
    · rw [ratD_int]; rfl
    · rw [ratD_int, decide_eq_false (by omega)]; rfl
    · rfl
    · rfl
    · rfl
    · rfl
    · rfl
  have h5 : ∀ e ∈ _, ballD e = false := fun e (he : e ∈ ([PyData.none, PyData.tuple [], PyData.list [rD b.pl, rD b.sp, PyData.int b.wt], PyData.tuple [rD b.pl, rD b.sp],
            PyData.tuple [rD b.pl, rD b.sp, PyData.int b.wt, PyData.int 1], PyData.tuple [rD b.pl, rD b.sp, PyData.int 0], rD b.pl] ++
          [PyData.tuple [PyData.list [PyData.int b.pl.num, PyData.int b.pl.den], rD b.sp, PyData.int b.wt]] ++
        [PyData.tuple [rD b.pl, rD b.sp, PyData.int 1001], PyData.tuple [rD b.pl, rD b.sp, PyData.int (-1)], PyData.tuple [rD b.pl, rD b.sp, PyData.bool true], PyData.tuple [rD b.pl, rD b.sp, PyData.str "1"]] ++
      [PyData.tuple [rD b.pl, rD b.sp, PyData.tuple [PyData.int 1, PyData.int 1]], PyData.tuple [PyData.int b.pl.num, rD b.sp, PyData.int b.wt],
        PyData.tuple [rD b.pl, PyData.list [PyData.int b.sp.num, PyData.int b.sp.den], PyData.int b.wt]])) => by
    simp only [List.cons_append, List.nil_append, List.mem_cons, List.not_mem_nil, or_false] at he
    rcases he with rfl | rfl | rfl | rfl | rfl | rfl | rfl | rfl | rfl | rfl | rfl | rfl | rfl | rfl | rfl
    · rfl
    · rfl
    · rfl
    · rfl
    · rfl
    · exact bad_w (by decide)
    · rfl
    · exact bad_l rfl
    · exact bad_w (by decide)
    · exact bad_w (by decide)
    · exact bad_z rfl
    · exact bad_z rfl
    · exact bad_z rfl
    · exact bad_l rfl
    · exact bad_r rfl
  refine ⟨a5, rfl, ⟨xs5, SqL.of (by rw [← hBs] at ha5; exact (del_some ha5).1)⟩, ?_⟩
  have s5 : Same Bs H5 := f5.sm
  refine for_list (K := K) (a := a5) (xs := xs5) (fun i σ Hc => ∃ zz l fs, σ = [some (.ref r), some (.int (j : Nat)), some x, some y, some z, some (.ref l), zz] ∧ FS Bs Hc l fs ∧ (∀ e ∈ fs, ballD e = false) ∧ fs.length = 15 + 2 * i) ⟨none, l4, _, rfl, f5, h5, rfl⟩ (fun _ _ _ _ ⟨_, _, _, _, g, _⟩ => SqL.of (g.sm _ _ ha5)) ?_ ?_
  · rintro i xx σ Hc hxx ⟨zz, l, fs, rfl, fc, hall, hlen⟩
    have hi : i < 8 := by
      have := (List.getElem?_eq_some_iff.mp hxx).1
      rw [hx5.len] at this; exact this
    obtain ⟨d, ed⟩ : ∃ d, ([PyData.tuple [.int (2 * b.pl.num), .int (2 * (b.pl.den : Int))], .tuple [.int b.pl.num, .int 0], .tuple [.int b.pl.num, .int (-(b.pl.den : Int))], .tuple [.int 0, .int 2], .none, .int 1, .tuple [.bool true, .int 1], .str "0"] : List PyData)[i]? = some d := ⟨_, List.getElem?_eq_getElem hi⟩
    obtain ⟨x', ex, hb'⟩ := hx5.get ed
    rw [hxx] at ex; cases ex
    have hbd := hbad i d ed
    refine st_set1 ?_
    apply fs_cat fc
    case h => exact (by apply da_cons; apply dt_tup; apply da_cons; exact dt_var rfl hb'; apply da_cons; exact dt_var rfl hs5; apply da_cons; exact dt_var rfl hw5; exact da_nil; exact szl (show (3 : Nat) ≤ 1000 by decide); apply da_cons; apply dt_tup; apply da_cons; exact dt_var rfl hp5; apply da_cons; exact dt_var rfl hb'; apply da_cons; exact dt_var rfl hw5; exact da_nil; exact szl (show (3 : Nat) ≤ 1000 by decide); exact da_nil)
    case hs => exact rfl
    case z => exact szl (by rw [hlen]; show 15 + 2 * i + 2 ≤ 1000; omega)
    case k =>
    intro l' H' f'
    refine ⟨_, l', _, rfl, f', ?_, by rw [List.length_append, hlen]; show 15 + 2 * i + 2 = _; omega⟩
    intro e he
    rw [List.mem_append] at he
    rcases he with he | he
    · exact hall e he
    · simp only [List.mem_cons, List.not_mem_nil, or_false] at he
      rcases he with rfl | rfl
      · exact bad_l hbd
      · exact bad_r hbd
  · rintro σ Hc ⟨zz, l, fs, rfl, fc, hall, hlen⟩
    have h8 : xs5.length = 8 := by rw [hx5.len]; rfl
    dsimp only
    unfold tRet
    have hj : j < (bs.map bD).length := by rw [List.length_map]; exact (List.getElem?_eq_some_iff.mp hb).1
    refine comp_put (K := K) rfl rfl rfl fc hv5 hj (by rw [List.length_map]; exact hl) (by omega) fun D2 H6 e6 r6 => ?_
    refine k _ H6 _ (q5.trans (fc.sm.trans e6)) r6 ?_ (by rw [List.length_map]; omega)
    intro e he
    rw [List.mem_map] at he
    obtain ⟨e0, m0, rfl⟩ := he
    intro l1 l2
    exact verd_put hj (by rw [List.length_map]; exact hl) (hall e0 m0)
end
end KK
end
section
set_option maxHeartbeats 8000000
set_option Elab.async false
set_option linter.all false
set_option maxRecDepth 100000
namespace KK
open PySem L2 KM
def s7 : Rat := ⟨-1, 7, by decide, by decide⟩
def sM : Rat := ⟨-1, 1000000, by decide, by decide⟩
def sP : Rat := ⟨1, 1000000, by decide, by decide⟩
def s1 : Rat := ⟨1, 1, by decide, by decide⟩
theorem s7_neg : s7 < 0 := by decide
theorem sM_neg : sM < 0 := by decide
theorem sP_pos : 0 < sP := by decide
theorem s1_pos : 0 < s1 := by decide
theorem z_s7 : Sz 20 s7 := ⟨(by show (-1 : Int).natAbs < 2 ^ 20; decide), (by show (7 : Int).natAbs < 2 ^ 20; decide)⟩
theorem z_sM : Sz 20 sM := ⟨(by show (-1 : Int).natAbs < 2 ^ 20; decide), (by show (1000000 : Int).natAbs < 2 ^ 20; decide)⟩
theorem z_sP : Sz 20 sP := ⟨(by show (1 : Int).natAbs < 2 ^ 20; decide), (by show (1000000 : Int).natAbs < 2 ^ 20; decide)⟩
theorem z_s1 : Sz 1 s1 := ⟨(by show (1 : Int).natAbs < 2 ^ 1; decide), (by show (1 : Int).natAbs < 2 ^ 1; decide)⟩
theorem ord_bad {p q : Ball} (h : folB (p, q) = false) (ys : List Ball) : ∀ xs : List Ball, ordB (xs ++ p :: q :: ys) = false
  | [] => by show (folB (p, q) && ordB (q :: ys)) = false; rw [h]; rfl
  | [x] => by
    have := ord_bad h ys []
    show (folB (x, p) && ordB ([] ++ p :: q :: ys)) = false
    rw [this, Bool.and_false]
  | x :: x' :: xs => by
    have := ord_bad h ys (x' :: xs)
    show (folB (x, x') && ordB (x' :: xs ++ p :: q :: ys)) = false
    rw [this, Bool.and_false]
theorem verd_unord {cs : List Ball} (hne : cs ≠ []) (hz : BSz cs) (hw : ∀ b ∈ cs, 1 ≤ b.wt ∧ b.wt ≤ 1000) (ho : ordB cs = false) : VF (.tuple (cs.map bD)) := by
  intro l1 l2
  by_cases h8 : cs.length ≤ 8
  · obtain ⟨b, eb⟩ : ∃ b, cs[0]? = some b := by
      cases cs with
      | nil => exact absurd rfl hne
      | cons b0 bt => exact ⟨b0, rfl⟩
    obtain ⟨ds, c, ebs⟩ : ∃ ds c, cs = ds ++ [c] := by
      rcases List.eq_nil_or_concat cs with e | ⟨ds, c, e⟩
      · exact absurd e hne
      · exact ⟨ds, c, by simpa using e⟩
    have v := Verd.row (l1 := l1) (l2 := l2) eb ebs hz h8 hw
    have : rowB l1 l2 cs b c = false := by unfold rowB; rw [ho, Bool.false_and, Bool.and_false]
    rw [this] at v
    exact v
  · exact .size (.inr (by rw [List.length_map]; omega))
theorem fol_ge {x y x' y' : Rat} (h : x' < x) : fol x y x' y' = false := by
  unfold fol; rw [if_neg (by grind), decide_eq_false (by grind)]
theorem fol_same {x y y' : Rat} (h : ¬ y < y') : fol x y x y' = false := by
  unfold fol; rw [if_pos rfl, decide_eq_false h]
section
variable {P : Program} {w : World} {K : PySem.W.Frag} {mg : Str → Option Value} {base : Heap} {tb tw : Tok} {aN : Addr}
def spMX : Sp := fun vs H Q _ => ∃ (v : V) (bs : List Ball) (j : Nat) (b : Ball), vs = [v, .int (j : Nat)] ∧ RdD H v (.tuple (bs.map bD)) ∧ bs[j]? = some b ∧ bs.length ≤ 8 ∧ (∀ b ∈ bs, 1 ≤ b.wt ∧ b.wt ≤ 1000) ∧ (∀ b ∈ bs, Sz 300 b.pl ∧ Sz 80 b.sp) ∧
  ∀ r H' es, Same H H' → RdD H' r (.list es) → (∀ e ∈ es, VF e) → es.length ≤ 100 → Q r H'
theorem sc_mx : FnScope ["row", "at", "place", "speed", "weight", "found"] ["row", "at"] (defScope s_law_mixed) := ⟨rfl, rfl, rfl, by decide +kernel, rfl, by decide +kernel, by decide +kernel⟩
theorem ok_mx (D : Df K mg "_law_mixed" s_law_mixed ["row", "at"] []) (T3 : Tx3 K mg tb tw aN) (cS : Cal P w K mg base "_law_sum" 2 ["one", "other"] [] (spBin Sz2 (· + ·))) : Cal P w K mg base "_law_mixed" 3 ["row", "at"] [] spMX := by
  refine D.cal (k := 2) sc_mx (fun vs H Q E h => by obtain ⟨_, _, _, _, rfl, _⟩ := h; rfl) (fun f cdv A outer s H vs Q E hr2 h => ?_)
  obtain ⟨v, bs, j, b, rfl, hv, hb, hl, hwt, hsz, k⟩ := h
  refine ⟨_, (pss_cons (ps_asg (pe_ix ix_tup (pv 0) (pv 1) (fun _ _ => rfl)) (pg_tup rfl (pgs_cons (pg_name (i := 2) sc_mx.nd rfl (Or.inl rfl)) (pgs_cons (pg_name (i := 3) sc_mx.nd rfl (Or.inl rfl)) (pgs_cons (pg_name (i := 4) sc_mx.nd rfl (Or.inl rfl)) pgs_nil)))))
    (pss_cons (ps_set (i := 5) sc_mx.nd rfl (Or.inl rfl) (pe_lst (pa_cons (pe_tup pa_nil) (pa_cons (pe_callTy call_list_of (by rfl) T3.nList PyProof.Rows.boot_list (pa_cons (pv 0) pa_nil)) (pa_cons pe_non (pa_cons (pe_op op_catA (pv 0) (pe_op op_repT (pe_slice (sl_tup.or sl_whole) (pv 0) po_none (po_some pe_int)) pe_int)) (pa_cons pe_str (pa_cons (pe_ix ix_tup (pv 0) (pv 1) (fun _ _ => rfl)) pa_nil))))))))
    (pss_cons (ps_expr (pe_bm PySem.F.plainAttrs_list PySem.F.slot_list_append PySem.F.type_list_append mt_append (pv 5) (pa_cons (pe_op op_catA (pe_op op_catA (pe_slice (sl_tup.or sl_whole) (pv 0) po_none (po_some (pe_op op_add (pv 1) pe_int))) (pe_tup (pa_cons (pe_op op_catA (pe_tup (pa_cons (pe_c cS hr2 (pa_cons (pv 2) (pa_cons (pe_tup (pa_cons (pe_un un_neg pe_int) (pa_cons pe_int pa_nil))) pa_nil))) pa_nil)) (pe_slice (sl_tup.or sl_whole) (pe_ix ix_tup (pv 0) (pv 1) (fun _ _ => rfl)) (po_some pe_int) po_none)) pa_nil))) (pe_slice (sl_tup.or sl_whole) (pv 0) (po_some (pe_op op_add (pv 1) pe_int)) po_none)) pa_nil)))
    (pss_cons (ps_expr (pe_bm PySem.F.plainAttrs_list PySem.F.slot_list_append PySem.F.type_list_append mt_append (pv 5) (pa_cons (pe_op op_catA (pe_slice (sl_tup.or sl_whole) (pv 0) po_none (po_some (pe_op op_add (pv 1) pe_int))) (pe_slice (sl_tup.or sl_whole) (pv 0) (po_some (pv 1)) po_none)) pa_nil)))
    (pss_cons (ps_expr (pe_bm PySem.F.plainAttrs_list PySem.F.slot_list_append PySem.F.type_list_append mt_append (pv 5) (pa_cons (pe_op op_catA (pe_op op_catA (pe_slice (sl_tup.or sl_whole) (pv 0) po_none (po_some (pe_op op_add (pv 1) pe_int))) (pe_tup (pa_cons (pe_tup (pa_cons (pv 2) (pa_cons (pe_c cS hr2 (pa_cons (pv 3) (pa_cons (pe_tup (pa_cons (pe_un un_neg pe_int) (pa_cons (pe_op op_pow pe_int pe_int) pa_nil))) pa_nil))) (pa_cons (pv 4) pa_nil)))) pa_nil))) (pe_slice (sl_tup.or sl_whole) (pv 0) (po_some (pe_op op_add (pv 1) pe_int)) po_none)) pa_nil)))
    (pss_one (ps_ret (pv 5)))))))), ?_⟩
  have hjl : j < bs.length := (List.getElem?_eq_some_iff.mp hb).1
  have mb : b ∈ bs := List.mem_of_getElem? hb
  have zp := (hsz b mb).1
  have zs := (hsz b mb).2
  have z1 : Sz2 b.pl s7 := ⟨zp.mono (by decide), z_s7.mono (by decide)⟩
  have z2 : Sz2 b.sp sM := ⟨zs.mono (by decide), z_sM.mono (by decide)⟩
  obtain ⟨b0, bt, ebs⟩ : ∃ b0 bt, bs = b0 :: bt := by
    cases bs with
    | nil => simp at hjl
    | cons b0 bt => exact ⟨b0, bt, rfl⟩
  have hc1 : PyData.tuple (cutG (bs.map bD) none (some 1)) = .tuple [bD b0] := by
    have := cutG_to (bs.map bD) 1
    rw [show cutG (bs.map bD) none (some 1) = (bs.map bD).take 1 from this, ebs]; rfl
  have hat : atI (bs.map bD) ((j : Nat) : Int) = some (bD b) := atI_nat (by rw [List.getElem?_map, hb]; rfl)
  have hv' := hv
  cases hv' with
  | @tup r us _ hrr hB =>
  obtain ⟨vb, evb, rb⟩ := hB.get (i := j) (d := bD b) (by rw [List.getElem?_map, hb]; rfl)
  obtain ⟨ab, x, y, z, d1, d2, d3, rfl, e, hab, hp, hs, hw⟩ := rd3 rb rfl
  cases e
  refine ⟨_, rfl, _, rfl, r, _, _, _, rfl, rfl, .of hrr, atI_nat evb, ab, _, rfl, SqT.of hab, rfl, _, _, rfl, _, _, rfl, _, _, rfl, rfl, ?_⟩
  dsimp only
  refine st_set ?_
  apply fs_lst at_0
  case h => exact (by apply da_cons; apply dt_tup; exact da_nil; exact szl (show (0 : Nat) ≤ 1000 by decide); apply da_cons; apply dt_listOf; apply da_cons; exact dt_var rfl hv; exact da_nil; apply da_cons; exact dt_non; apply da_cons; apply dt_catT; exact dt_var rfl hv; apply dt_rep8; exact (dt_eq (dt_sl (dt_var rfl hv) dp_none (dp_some dt_int)) hc1); exact dt_int; (first | (refine szl ?_; simp only [List.length_append, List.length_cons, List.length_nil, List.length_map, cutG_to, cutG_from, cutG_to1, cutG_from1, List.length_take, List.length_drop]; omega) | exact szl (show (3 : Nat) ≤ 1000 by decide)); apply da_cons; exact dt_str; apply da_cons; apply dt_ix; exact dt_var rfl hv; exact dt_var rfl (.int ((j : Nat) : Int)); exact hat; exact da_nil)
  case l => exact szl (show (6 : Nat) ≤ 1000 by decide)
  case k =>
  intro l1 H1 f1
  refine st_drop ?_
  apply fs_app f1
  case h => exact (by apply dt_catT; apply dt_catT; apply dt_sl; exact dt_var rfl hv; exact dp_none; apply dp_some; apply dt_add; exact dt_var rfl (.int ((j : Nat) : Int)); exact dt_int; apply dt_tup; apply da_cons; apply dt_catT; apply dt_tup; apply da_cons; apply dt_bin (x := b.pl) (y := s7); apply da_cons; exact dt_var rfl hp; apply da_cons; apply dt_tup; apply da_cons; apply dt_neg; exact dt_int; apply da_cons; exact dt_int; exact da_nil; exact szl (show (2 : Nat) ≤ 1000 by decide); exact da_nil; exact z1; exact da_nil; exact szl (show (1 : Nat) ≤ 1000 by decide); apply dt_sl; apply dt_ix; exact dt_var rfl hv; exact dt_var rfl (.int ((j : Nat) : Int)); exact hat; apply dp_some; exact dt_int; exact dp_none; (first | (refine szl ?_; simp only [List.length_append, List.length_cons, List.length_nil, List.length_map, cutG_to, cutG_from, cutG_to1, cutG_from1, List.length_take, List.length_drop]; omega) | exact szl (show (3 : Nat) ≤ 1000 by decide)); exact da_nil; exact szl (show (1 : Nat) ≤ 1000 by decide); (first | (refine szl ?_; simp only [List.length_append, List.length_cons, List.length_nil, List.length_map, cutG_to, cutG_from, cutG_to1, cutG_from1, List.length_take, List.length_drop]; omega) | exact szl (show (3 : Nat) ≤ 1000 by decide)); apply dt_sl; exact dt_var rfl hv; apply dp_some; apply dt_add; exact dt_var rfl (.int ((j : Nat) : Int)); exact dt_int; exact dp_none; (first | (refine szl ?_; simp only [List.length_append, List.length_cons, List.length_nil, List.length_map, cutG_to, cutG_from, cutG_to1, cutG_from1, List.length_take, List.length_drop]; omega) | exact szl (show (3 : Nat) ≤ 1000 by decide)))
  case hs => exact rfl
  case z => exact (show (6 : Nat) ≤ 1000 by decide)
  case k =>
  intro H2 f2
  refine st_drop ?_
  apply fs_app f2
  case h => exact (by apply dt_catT; apply dt_sl; exact dt_var rfl hv; exact dp_none; apply dp_some; apply dt_add; exact dt_var rfl (.int ((j : Nat) : Int)); exact dt_int; apply dt_sl; exact dt_var rfl hv; apply dp_some; exact dt_var rfl (.int ((j : Nat) : Int)); exact dp_none; (first | (refine szl ?_; simp only [List.length_append, List.length_cons, List.length_nil, List.length_map, cutG_to, cutG_from, cutG_to1, cutG_from1, List.length_take, List.length_drop]; omega) | exact szl (show (3 : Nat) ≤ 1000 by decide)))
  case hs => exact rfl
  case z => exact (show (7 : Nat) ≤ 1000 by decide)
  case k =>
  intro H3 f3
  refine st_drop ?_
  apply fs_app f3
  case h => exact (by apply dt_catT; apply dt_catT; apply dt_sl; exact dt_var rfl hv; exact dp_none; apply dp_some; apply dt_add; exact dt_var rfl (.int ((j : Nat) : Int)); exact dt_int; apply dt_tup; apply da_cons; apply dt_tup; apply da_cons; exact dt_var rfl hp; apply da_cons; apply dt_bin (x := b.sp) (y := sM); apply da_cons; exact dt_var rfl hs; apply da_cons; apply dt_tup; apply da_cons; apply dt_neg; exact dt_int; apply da_cons; exact dt_million; exact da_nil; exact szl (show (2 : Nat) ≤ 1000 by decide); exact da_nil; exact z2; apply da_cons; exact dt_var rfl hw; exact da_nil; exact szl (show (3 : Nat) ≤ 1000 by decide); exact da_nil; exact szl (show (1 : Nat) ≤ 1000 by decide); (first | (refine szl ?_; simp only [List.length_append, List.length_cons, List.length_nil, List.length_map, cutG_to, cutG_from, cutG_to1, cutG_from1, List.length_take, List.length_drop]; omega) | exact szl (show (3 : Nat) ≤ 1000 by decide)); apply dt_sl; exact dt_var rfl hv; apply dp_some; apply dt_add; exact dt_var rfl (.int ((j : Nat) : Int)); exact dt_int; exact dp_none; (first | (refine szl ?_; simp only [List.length_append, List.length_cons, List.length_nil, List.length_map, cutG_to, cutG_from, cutG_to1, cutG_from1, List.length_take, List.length_drop]; omega) | exact szl (show (3 : Nat) ≤ 1000 by decide)))
  case hs => exact rfl
  case z => exact (show (8 : Nat) ≤ 1000 by decide)
  case k =>
  intro H4 f4
  refine ⟨_, rfl, k _ H4 _ f4.sm f4.rd ?_ (show (9 : Nat) ≤ 100 by decide)⟩
  have et : bs.take (j + 1) = bs.take j ++ [b] := tk_snoc hb
  have ed : bs.drop j = b :: bs.drop (j + 1) := by
    rw [List.drop_eq_getElem_cons hjl]
    congr 1
    exact (List.getElem?_eq_some_iff.mp hb).2
  have hins : ∀ b' : Ball, folB (b, b') = false → (Sz 1000 b'.pl ∧ Sz 1000 b'.sp) → b'.wt = b.wt → VF (.tuple ((bs.map bD).take (j + 1) ++ [bD b'] ++ (bs.map bD).drop (j + 1))) := fun b' hf hz' hw' => by
    have e1 : (bs.map bD).take (j + 1) ++ [bD b'] ++ (bs.map bD).drop (j + 1) = (bs.take j ++ b :: b' :: bs.drop (j + 1)).map bD := by
      rw [← List.map_take, ← List.map_drop, et]; simp
    rw [e1]
    have hm : ∀ c ∈ bs.take j ++ b :: b' :: bs.drop (j + 1), c ∈ bs ∨ c = b' := fun c hc => by
      rw [List.mem_append, List.mem_cons, List.mem_cons] at hc
      rcases hc with hc | rfl | rfl | hc
      · exact .inl (List.mem_of_mem_take hc)
      · exact .inl mb
      · exact .inr rfl
      · exact .inl (List.mem_of_mem_drop hc)
    refine verd_unord (by simp) (fun c hc => ?_) (fun c hc => ?_) (ord_bad hf _ _)
    · rcases hm c hc with h | rfl
      · exact ⟨(hsz c h).1.mono (by decide), (hsz c h).2.mono (by decide)⟩
      · exact hz'
    · rcases hm c hc with h | rfl
      · exact hwt c h
      · rw [hw']; exact hwt b mb
  intro e he
  simp only [List.cons_append, List.nil_append, List.mem_cons, List.not_mem_nil, or_false] at he
  rcases he with rfl | rfl | rfl | rfl | rfl | rfl | rfl | rfl | rfl
  · exact fun _ _ => .size (.inl rfl)
  · exact fun _ _ => .kind rfl
  · exact fun _ _ => .kind rfl
  · refine fun _ _ => .size (.inr ?_)
    rw [List.length_append, List.length_map]
    show 8 < bs.length + 8
    omega
  · exact fun _ _ => .kind rfl
  · exact fun _ _ => .part (by simp) (show (3 : Nat) ≤ 8 by decide) rfl
  · rw [cutG_to1, cutG_from1]
    refine hins ⟨b.pl + s7, b.sp, b.wt⟩ (fol_ge ?_) ⟨(zp.add z_s7).mono (by decide), zs.mono (by decide)⟩ rfl
    have := s7_neg
    show b.pl + s7 < b.pl
    grind
  · rw [cutG_to1, cutG_from]
    have := hins b (fol_same (by grind)) ⟨zp.mono (by decide), zs.mono (by decide)⟩ rfl
    have e2 : (bs.map bD).take (j + 1) ++ [bD b] ++ (bs.map bD).drop (j + 1) = (bs.map bD).take (j + 1) ++ (bs.map bD).drop j := by
      rw [← List.map_drop, ← List.map_drop, ed]; simp
    rw [e2] at this
    exact this
  · rw [cutG_to1, cutG_from1]
    refine hins ⟨b.pl, b.sp + sM, b.wt⟩ (fol_same ?_) ⟨zp.mono (by decide), (zs.add z_sM).mono (by decide)⟩ rfl
    have := sM_neg
    show ¬ b.sp < b.sp + sM
    grind
end
end KK
end
section
set_option maxHeartbeats 8000000
set_option Elab.async false
set_option linter.all false
set_option maxRecDepth 100000
namespace KK
open PySem L2 KM
theorem wg_l {x y : PyData} (h : wallD x = false) : WgIs (.tuple [x, y]) false := .inl ⟨by show (wallD x && wallD y) = false; rw [h]; rfl, rfl⟩
theorem wg_r {x y : PyData} (h : wallD y = false) : WgIs (.tuple [x, y]) false := .inl ⟨by show (wallD x && wallD y) = false; rw [h, Bool.and_false], rfl⟩
theorem wl_l {x y : PyData} (h : ratD x = false) : wallD (.tuple [x, y]) = false := by show (ratD x && ratD y) = false; rw [h]; rfl
theorem wl_r {x y : PyData} (h : ratD y = false) : wallD (.tuple [x, y]) = false := by show (ratD x && ratD y) = false; rw [h, Bool.and_false]
theorem rat_twice (x : Rat) : ratD (.tuple [.int (2 * x.num), .int (2 * (x.den : Int))]) = false := by
  rw [ratD_int]
  have : ¬ Int.gcd (2 * x.num) (2 * (x.den : Int)) = 1 := by rw [Int.gcd_mul_left]; intro z; have z2 := Nat.eq_one_of_mul_eq_one_right z; revert z2; decide
  rw [decide_eq_false this, Bool.and_false]
section
variable {P : Program} {w : World} {K : PySem.W.Frag} {mg : Str → Option Value} {base : Heap} {tb tw : Tok} {aN : Addr}
def spOB : Sp := fun vs H Q _ => ∃ (v : V) (l1 l2 : Wl), vs = [v] ∧ RdD H v (wsD l1 l2) ∧ WS9 l1 ∧ WS9 l2 ∧ ∀ r H' es, Same H H' → RdD H' r (.list es) → (∀ e ∈ es, WgIs e false) → es.length ≤ 100 → Q r H'
theorem sc_ob : FnScope ["walls", "found", "wall"] ["walls"] (defScope s_law_odd_bounds) := ⟨rfl, rfl, rfl, by decide +kernel, rfl, by decide +kernel, by decide +kernel⟩
theorem ok_ob (D : Df K mg "_law_odd_bounds" s_law_odd_bounds ["walls"] []) (T3 : Tx3 K mg tb tw aN) (cS : Cal P w K mg base "_law_sum" 2 ["one", "other"] [] (spBin Sz2 (· + ·))) : Cal P w K mg base "_law_odd_bounds" 3 ["walls"] [] spOB := by
  refine D.calB (k := 2) sc_ob (fun vs H Q E h => by obtain ⟨_, _, _, rfl, _⟩ := h; rfl) (fun f cdv A outer s H vs Q E hr2 h => ?_)
  obtain ⟨v, l1, l2, rfl, hv, q1, q2, k⟩ := h
  refine ⟨_, (bx_scons (bx_set (i := 1) sc_ob.nd rfl (Or.inl rfl) (bx_lst (bx_cons (bx_tup (bx_cons (Bx.mk pe_non) bx_nil)) (bx_cons (Bx.mk pe_non) (bx_cons (bx_lst (bx_cons (Bx.mk pe_non) (bx_cons (Bx.mk pe_non) bx_nil))) (bx_cons (bx_tup (bx_cons (Bx.mk pe_non) (bx_cons (Bx.mk pe_non) (bx_cons (Bx.mk pe_non) bx_nil)))) (bx_cons (bx_tup (bx_cons (Bx.mk pe_int) (bx_cons (Bx.mk pe_non) bx_nil))) (bx_cons (bx_tup (bx_cons (Bx.mk pe_non) (bx_cons (bx_tup (bx_cons (bx_tup (bx_cons (Bx.mk pe_int) (bx_cons (Bx.mk pe_int) bx_nil))) bx_nil)) bx_nil))) (bx_cons (bx_tup (bx_cons (bx_tup (bx_cons (Bx.mk pe_int) (bx_cons (Bx.mk pe_int) bx_nil))) (bx_cons (Bx.mk pe_non) bx_nil))) bx_nil)))))))))
    (Bx.mk (pss_cons (ps_for PassesOwn.never rfl (pi_tup (pv 0)) (pg_name (i := 2) sc_ob.nd rfl (Or.inl rfl)) (pss_one (ps_if (pt_cmpR op_notN (pv 2) pe_non (nomark _)) (pss_cons (ps_set (i := 1) sc_ob.nd rfl (Or.inl rfl) (pe_op op_cat (pv 1) (pe_lst (pa_cons (pe_tup (pa_cons (pe_callTy call_list_of (by rfl) T3.nList PyProof.Rows.boot_list (pa_cons (pv 2) pa_nil)) (pa_cons pe_non pa_nil))) (pa_cons (pe_tup (pa_cons pe_non (pa_cons (pe_op op_catA (pv 2) (pe_tup (pa_cons (pe_tup (pa_cons pe_int (pa_cons pe_int pa_nil))) pa_nil))) pa_nil))) (pa_cons (pe_tup (pa_cons (pe_tup (pa_cons (pe_ix ix_tup (pv 2) pe_int (fun _ _ => rfl)) (pa_cons pe_non pa_nil))) (pa_cons pe_non pa_nil))) pa_nil))))))
    (pss_cons (ps_expr (pe_bm PySem.F.plainAttrs_list PySem.F.slot_list_append PySem.F.type_list_append mt_append (pv 1) (pa_cons (pe_tup (pa_cons (pe_tup (pa_cons (pe_callTy call_list_of (by rfl) T3.nList PyProof.Rows.boot_list (pa_cons (pe_ix ix_tup (pv 2) pe_int (fun _ _ => rfl)) pa_nil)) (pa_cons (pe_ix ix_tup (pv 2) pe_int (fun _ _ => rfl)) pa_nil))) (pa_cons pe_non pa_nil))) pa_nil)))
    (pss_cons (ps_set (i := 1) sc_ob.nd rfl (Or.inl rfl) (pe_op op_cat (pv 1) (pe_lst (pa_cons (pe_tup (pa_cons (pe_tup (pa_cons (pe_ix ix_tup (pe_ix ix_tup (pv 2) pe_int (fun _ _ => rfl)) pe_int (fun _ _ => rfl)) (pa_cons (pe_ix ix_tup (pv 2) pe_int (fun _ _ => rfl)) pa_nil))) (pa_cons pe_non pa_nil))) (pa_cons (pe_tup (pa_cons pe_non (pa_cons (pe_tup (pa_cons (pe_tup (pa_cons (pe_op op_mulB pe_int (pe_ix ix_tup (pe_ix ix_tup (pv 2) pe_int (fun _ _ => rfl)) pe_int (fun _ _ => rfl))) (pa_cons (pe_op op_mulB pe_int (pe_ix ix_tup (pe_ix ix_tup (pv 2) pe_int (fun _ _ => rfl)) pe_int (fun _ _ => rfl))) pa_nil))) (pa_cons (pe_ix ix_tup (pv 2) pe_int (fun _ _ => rfl)) pa_nil))) pa_nil))) pa_nil)))))
    (pss_one (ps_set (i := 1) sc_ob.nd rfl (Or.inl rfl) (pe_op op_cat (pv 1) (pe_lst (pa_cons (pe_tup (pa_cons (pv 2) (pa_cons (pv 2) pa_nil))) (pa_cons (pe_tup (pa_cons (pv 2) (pa_cons (pe_tup (pa_cons (pe_c cS hr2 (pa_cons (pe_ix ix_tup (pv 2) pe_int (fun _ _ => rfl)) (pa_cons (pe_tup (pa_cons (pe_un un_neg pe_int) (pa_cons (pe_op op_pow pe_int pe_int) pa_nil))) pa_nil))) (pa_cons (pe_ix ix_tup (pv 2) pe_int (fun _ _ => rfl)) pa_nil))) pa_nil))) (pa_cons (pe_tup (pa_cons (pv 2) (pa_cons pe_str pa_nil))) pa_nil)))))))))) pss_nil)))
    (pss_one (ps_ret (pv 1)))))), ?_⟩
  obtain ⟨a, v1, v2, d1, d2, rfl, e, ha, h1, h2⟩ := rd2 hv rfl
  cases e
  refine st_set ?_
  apply fs_lst at_0
  case h => exact (by apply da_cons; apply dt_tup; apply da_cons; exact dt_non; exact da_nil; exact szl (show (1 : Nat) ≤ 1000 by decide); apply da_cons; exact dt_non; apply da_cons; apply dt_lst; apply da_cons; exact dt_non; apply da_cons; exact dt_non; exact da_nil; exact szl (show (2 : Nat) ≤ 1000 by decide); apply da_cons; apply dt_tup; apply da_cons; exact dt_non; apply da_cons; exact dt_non; apply da_cons; exact dt_non; exact da_nil; exact szl (show (3 : Nat) ≤ 1000 by decide); apply da_cons; apply dt_tup; apply da_cons; exact dt_int; apply da_cons; exact dt_non; exact da_nil; exact szl (show (2 : Nat) ≤ 1000 by decide); apply da_cons; apply dt_tup; apply da_cons; exact dt_non; apply da_cons; apply dt_tup; apply da_cons; apply dt_tup; apply da_cons; exact dt_int; apply da_cons; exact dt_int; exact da_nil; exact szl (show (2 : Nat) ≤ 1000 by decide); exact da_nil; exact szl (show (1 : Nat) ≤ 1000 by decide); exact da_nil; exact szl (show (2 : Nat) ≤ 1000 by decide); apply da_cons; apply dt_tup; apply da_cons; apply dt_tup; apply da_cons; exact dt_int; apply da_cons; exact dt_int; exact da_nil; exact szl (show (2 : Nat) ≤ 1000 by decide); apply da_cons; exact dt_non; exact da_nil; exact szl (show (2 : Nat) ≤ 1000 by decide); exact da_nil)
  case l => exact szl (show (7 : Nat) ≤ 1000 by decide)
  case k =>
  intro l H1 f1
  refine st_for ?_
  refine ⟨_, rfl, a, rfl, ⟨_, SqT.of (f1.sm _ _ ha)⟩, ?_⟩
  refine for_tup (K := K) (a := a) (xs := [v1, v2]) (fun i σ Hc => ∃ zz l fs, σ = [some (.ref a), some (.ref l), zz] ∧ FS H Hc l fs ∧ (∀ e ∈ fs, WgIs e false) ∧ fs.length ≤ 7 + 9 * i) ⟨none, l, _, rfl, f1, ?_, by show 7 ≤ 7; decide⟩ (fun _ _ _ _ ⟨_, _, _, _, g, _⟩ => SqT.of (g.sm _ _ ha)) ?_ ?_
  · intro e he
    simp only [List.mem_cons, List.not_mem_nil, or_false] at he
    rcases he with rfl | rfl | rfl | rfl | rfl | rfl | rfl
    · exact .inl ⟨rfl, rfl⟩
    · exact .inl ⟨rfl, rfl⟩
    · exact .inl ⟨rfl, rfl⟩
    · exact .inl ⟨rfl, rfl⟩
    · exact wg_l rfl
    · exact wg_r rfl
    · exact wg_l rfl
  · rintro i xx σ Hc hxx ⟨zz, l, fs, rfl, fc, hall, hlen⟩
    have hi : i < 2 := (List.getElem?_eq_some_iff.mp hxx).1
    obtain ⟨lw, hx, hq⟩ : ∃ lw, RdD H xx (wlD lw) ∧ WS9 lw := by
      match i, hi with
      | 0, _ => simp at hxx; subst hxx; exact ⟨l1, h1, q1⟩
      | 1, _ => simp at hxx; subst hxx; exact ⟨l2, h2, q2⟩
    cases lw with
    | none =>
      have hw := rd_wall hx
      obtain rfl : xx = .non := hw
      exact ⟨_, rfl, rfl, _, rfl, iteF ⟨_, l, fs, rfl, fc, hall, by omega⟩⟩
    | some pxy =>
      obtain ⟨px, py⟩ := pxy
      have hw := rd_wall hx
      obtain ⟨aw, pw, qw, rfl, haw, hpw, hqw⟩ := hw
      have zp := (hq px py rfl).1
      have zy := (hq px py rfl).2
      have z2 : Sz2 px sM := ⟨zp.mono (by decide), z_sM.mono (by decide)⟩
      refine ⟨_, rfl, rfl, _, rfl, iteT ?_⟩
      refine st_set ?_
      apply fs_cat fc
      case h => exact (by apply da_cons; apply dt_tup; apply da_cons; apply dt_listOf; apply da_cons; exact dt_var rfl hx; exact da_nil; apply da_cons; exact dt_non; exact da_nil; exact szl (show (2 : Nat) ≤ 1000 by decide); apply da_cons; apply dt_tup; apply da_cons; exact dt_non; apply da_cons; apply dt_catT; exact dt_var rfl hx; apply dt_tup; apply da_cons; apply dt_tup; apply da_cons; exact dt_int; apply da_cons; exact dt_int; exact da_nil; exact szl (show (2 : Nat) ≤ 1000 by decide); exact da_nil; exact szl (show (1 : Nat) ≤ 1000 by decide); (first | (refine szl ?_; simp only [List.length_append, List.length_cons, List.length_nil, List.length_map, cutG_to, cutG_from, cutG_to1, cutG_from1, List.length_take, List.length_drop]; omega) | exact szl (show (3 : Nat) ≤ 1000 by decide)); exact da_nil; exact szl (show (2 : Nat) ≤ 1000 by decide); apply da_cons; apply dt_tup; apply da_cons; apply dt_tup; apply da_cons; apply dt_ix; exact dt_var rfl hx; exact dt_int; exact rfl; apply da_cons; exact dt_non; exact da_nil; exact szl (show (2 : Nat) ≤ 1000 by decide); apply da_cons; exact dt_non; exact da_nil; exact szl (show (2 : Nat) ≤ 1000 by decide); exact da_nil)
      case hs => exact rfl
      case z => exact szl (by show fs.length + 3 ≤ 1000; omega)
      case k =>
      intro l2' H2 f2
      refine st_drop ?_
      apply fs_app f2
      case h => exact (by apply dt_tup; apply da_cons; apply dt_tup; apply da_cons; apply dt_listOf; apply da_cons; apply dt_ix; exact dt_var rfl hx; exact dt_int; exact rfl; exact da_nil; apply da_cons; apply dt_ix; exact dt_var rfl hx; exact dt_int; exact rfl; exact da_nil; exact szl (show (2 : Nat) ≤ 1000 by decide); apply da_cons; exact dt_non; exact da_nil; exact szl (show (2 : Nat) ≤ 1000 by decide))
      case hs => exact rfl
      case z => rw [List.length_append]; show fs.length + 3 ≤ 1000; omega
      case k =>
      intro H3 f3
      refine st_set ?_
      apply fs_cat f3
      case h => exact (by apply da_cons; apply dt_tup; apply da_cons; apply dt_tup; apply da_cons; apply dt_ix; apply dt_ix; exact dt_var rfl hx; exact dt_int; exact rfl; exact dt_int; exact rfl; apply da_cons; apply dt_ix; exact dt_var rfl hx; exact dt_int; exact rfl; exact da_nil; exact szl (show (2 : Nat) ≤ 1000 by decide); apply da_cons; exact dt_non; exact da_nil; exact szl (show (2 : Nat) ≤ 1000 by decide); apply da_cons; apply dt_tup; apply da_cons; exact dt_non; apply da_cons; apply dt_tup; apply da_cons; apply dt_tup; apply da_cons; apply dt_mul; exact dt_int; apply dt_ix; apply dt_ix; exact dt_var rfl hx; exact dt_int; exact rfl; exact dt_int; exact rfl; (first | exact ⟨bd2, zp.1.mono (by decide)⟩ | exact ⟨bd2, zp.2.mono (by decide)⟩); apply da_cons; apply dt_mul; exact dt_int; apply dt_ix; apply dt_ix; exact dt_var rfl hx; exact dt_int; exact rfl; exact dt_int; exact rfl; (first | exact ⟨bd2, zp.1.mono (by decide)⟩ | exact ⟨bd2, zp.2.mono (by decide)⟩); exact da_nil; exact szl (show (2 : Nat) ≤ 1000 by decide); apply da_cons; apply dt_ix; exact dt_var rfl hx; exact dt_int; exact rfl; exact da_nil; exact szl (show (2 : Nat) ≤ 1000 by decide); exact da_nil; exact szl (show (2 : Nat) ≤ 1000 by decide); exact da_nil)
      case hs => exact rfl
      case z => refine szl ?_; rw [List.length_append, List.length_append]; show fs.length + 3 + 1 + 2 ≤ 1000; omega
      case k =>
      intro l4 H4 f4
      refine st_set1 ?_
      apply fs_cat f4
      case h => exact (by apply da_cons; apply dt_tup; apply da_cons; exact dt_var rfl hx; apply da_cons; exact dt_var rfl hx; exact da_nil; exact szl (show (2 : Nat) ≤ 1000 by decide); apply da_cons; apply dt_tup; apply da_cons; exact dt_var rfl hx; apply da_cons; apply dt_tup; apply da_cons; apply dt_bin (x := px) (y := sM); apply da_cons; apply dt_ix; exact dt_var rfl hx; exact dt_int; exact rfl; apply da_cons; apply dt_tup; apply da_cons; apply dt_neg; exact dt_int; apply da_cons; exact dt_million; exact da_nil; exact szl (show (2 : Nat) ≤ 1000 by decide); exact da_nil; exact z2; apply da_cons; apply dt_ix; exact dt_var rfl hx; exact dt_int; exact rfl; exact da_nil; exact szl (show (2 : Nat) ≤ 1000 by decide); exact da_nil; exact szl (show (2 : Nat) ≤ 1000 by decide); apply da_cons; apply dt_tup; apply da_cons; exact dt_var rfl hx; apply da_cons; exact dt_str; exact da_nil; exact szl (show (2 : Nat) ≤ 1000 by decide); exact da_nil)
      case hs => exact rfl
      case z => refine szl ?_; rw [List.length_append, List.length_append, List.length_append]; show fs.length + 3 + 1 + 2 + 3 ≤ 1000; omega
      case k =>
      intro l5 H5 f5
      refine ⟨_, l5, _, rfl, f5, ?_, by rw [List.length_append, List.length_append, List.length_append, List.length_append]; show fs.length + 3 + 1 + 2 + 3 ≤ _; omega⟩
      intro e he
      rw [List.mem_append, List.mem_append, List.mem_append, List.mem_append] at he
      simp only [List.mem_cons, List.not_mem_nil, or_false] at he
      rcases he with (((he | rfl | rfl | rfl) | rfl) | rfl | rfl) | rfl | rfl | rfl
      · exact hall e he
      · exact wg_l rfl
      · exact wg_r rfl
      · exact wg_l (wl_r rfl)
      · exact wg_l (wl_l rfl)
      · exact wg_l (wl_l rfl)
      · exact wg_r (wl_l (rat_twice px))
      · refine .inr ⟨some (px, py), some (px, py), rfl, hq.w, hq.w, ?_⟩
        show false = decide (px < px)
        rw [decide_eq_false (by grind)]
      · refine .inr ⟨some (px, py), some (px + sM, py), rfl, hq.w, ?_, ?_⟩
        · rintro x y z; cases z
          exact ⟨(zp.add z_sM).mono (by decide), zy.mono (by decide)⟩
        · show false = decide (px < px + sM)
          have := sM_neg
          rw [decide_eq_false (by grind)]
      · exact wg_r rfl
  · rintro σ Hc ⟨zz, l, fs, rfl, fc, hall, hlen⟩
    have h2 : fs.length ≤ 7 + 9 * 2 := hlen
    exact ⟨_, rfl, k _ Hc fs fc.sm fc.rd hall (by omega)⟩
end
end KK
end
section
set_option maxHeartbeats 8000000
set_option Elab.async false
set_option linter.all false
set_option maxRecDepth 100000
namespace KK
open PySem L2 KM
section
variable {P : Program} {w : World} {K : PySem.W.Frag} {mg : Str → Option Value} {base : Heap} {tb tw : Tok} {aN : Addr}
theorem pw_snoc {cs : List Ball} {c c' : Ball} (h : (cs ++ [c]).Pairwise lexR) (hl : lexR c c') : (cs ++ [c] ++ [c']).Pairwise lexR := by
  rw [List.pairwise_append]
  refine ⟨h, List.pairwise_singleton _ _, fun x hx y hy => ?_⟩
  obtain rfl : y = c' := by simpa using hy
  rw [List.mem_append] at hx
  rcases hx with hx | hx
  · exact ((List.pairwise_append.mp h).2.2 x hx c (by simp)).trans hl
  · obtain rfl : x = c := by simpa using hx
    exact hl
def spLg : Sp := fun vs H Q _ => ∃ (v : V) (bs : List Ball) (n : Nat), vs = [v, .int (n : Nat)] ∧ RdD H v (.tuple (bs.map bD)) ∧ Good bs ∧ bs ≠ [] ∧ bs.length ≤ 8 ∧ 8 ≤ n ∧ n ≤ 9 ∧
  ∀ r H' cs, Same H H' → RdD H' r (.tuple (cs.map bD)) → cs.length = n → cs[0]? = bs[0]? → BSz cs → (∀ b ∈ cs, 1 ≤ b.wt ∧ b.wt ≤ 1000) → cs.Pairwise lexR → Q r H'
structure LG (bs cs : List Ball) (n : Nat) : Prop where
  hd : cs[0]? = bs[0]?
  ne : cs ≠ []
  ln : cs.length ≤ n
  wt : ∀ b ∈ cs, 1 ≤ b.wt ∧ b.wt ≤ 1000
  sz : ∀ b ∈ cs, Sz (300 + 3 * cs.length) b.pl ∧ Sz 80 b.sp
  pw : cs.Pairwise lexR
theorem sc_lg : FnScope ["row", "many", "found"] ["row", "many"] (defScope s_law_longer) := ⟨rfl, rfl, rfl, by decide +kernel, rfl, by decide +kernel, by decide +kernel⟩
theorem ok_lg (D : Df K mg "_law_longer" s_law_longer ["row", "many"] []) (T : TxB K mg) (cS : Cal P w K mg base "_law_sum" 2 ["one", "other"] [] (spBin Sz2 (· + ·))) : Cal P w K mg base "_law_longer" 3 ["row", "many"] [] spLg := by
  refine D.cal (k := 2) sc_lg (fun vs H Q E h => by obtain ⟨_, _, _, rfl, _⟩ := h; rfl) (fun f cdv A outer s H vs Q E hr2 h => ?_)
  obtain ⟨v, bs, n, rfl, hv, G, hne, hl, n8, n9, k⟩ := h
  refine ⟨_, (pss_cons (ps_set (i := 2) sc_lg.nd rfl (Or.inl rfl) (pv 0))
    (pss_cons (ps_while PassesOwn.never (pt_cmpR op_lt (pe_callB call_len_seq (by rfl) T.nLen PySem.boot_len (pa_cons (pv 2) pa_nil)) (pv 1) (nomark _)) (pss_one (ps_set (i := 2) sc_lg.nd rfl (Or.inl rfl) (pe_op op_catA (pv 2) (pe_tup (pa_cons (pe_tup (pa_cons (pe_c cS hr2 (pa_cons (pe_ix ix_tup (pe_ix ix_tup (pv 2) (pe_un un_neg pe_int) (fun _ _ => rfl)) pe_int (fun _ _ => rfl)) (pa_cons (pe_tup (pa_cons pe_int (pa_cons pe_int pa_nil))) pa_nil))) (pa_cons (pe_ix ix_tup (pe_ix ix_tup (pv 2) (pe_un un_neg pe_int) (fun _ _ => rfl)) pe_int (fun _ _ => rfl)) (pa_cons pe_int pa_nil)))) pa_nil))))))
    (pss_one (ps_ret (pv 2))))), ?_⟩
  refine st_set ⟨_, rfl, ?_⟩
  refine st_while ?_
  refine ⟨fun m σ Hc => ∃ u cs, σ = [some v, some (.int (n : Nat)), some u] ∧ Same H Hc ∧ RdD Hc u (.tuple (cs.map bD)) ∧ LG bs cs n ∧ m = n - cs.length, ⟨_, v, bs, rfl, Same.refl _, hv, ⟨rfl, hne, by omega, G.wt, fun b m => ⟨(G.sz b m).1.mono (by omega), (G.sz b m).2⟩, G.pw⟩, rfl⟩, ?_⟩
  rintro m σ Hc ⟨u, cs, rfl, sc, hf, g, rfl⟩
  have hf' := hf
  cases hf' with
  | @tup r us _ hrr hB =>
  have hul : us.length = cs.length := by rw [hB.len, List.length_map]
  refine ⟨_, rfl, r, us, rfl, .inr (SqT.of hrr), _, rfl, _, _, rfl, rfl, _, rfl, ite2 (fun h => ?_) (fun h => ?_)⟩
  · have h' : ((us.length : Nat) : Int) < (n : Nat) := of_decide_eq_true h
    obtain ⟨ds, c, ebs⟩ : ∃ ds c, cs = ds ++ [c] := by
      rcases List.eq_nil_or_concat cs with e | ⟨ds, c, e⟩
      · exact absurd e g.ne
      · exact ⟨ds, c, by simpa using e⟩
    have hlast : atI (cs.map bD) (-1) = some (bD c) := by rw [ebs, List.map_append]; exact atI_last _ _
    have mc : c ∈ cs := by rw [ebs]; simp
    have zc := (g.sz c mc).1
    have z1 : Sz2 c.pl s1 := ⟨zc.mono (by omega), z_s1.mono (by decide)⟩
    have gl := g.ln
    refine ⟨fun σ' H' => ∃ u cs', σ' = [some v, some (.int (n : Nat)), some u] ∧ Same H H' ∧ RdD H' u (.tuple (cs'.map bD)) ∧ LG bs cs' n ∧ cs'.length = cs.length + 1, fun σ' H' ⟨u, cs', e1, e2, e3, e4, e5⟩ => ⟨n - cs'.length, by omega, u, cs', e1, e2, e3, e4, rfl⟩, ?_⟩
    refine st_set1 ?_
    apply dt_use (at_0 (H := Hc))
    case h => exact (by apply dt_catT; exact dt_var rfl hf; apply dt_tup; apply da_cons; apply dt_tup; apply da_cons; apply dt_bin (x := c.pl) (y := s1); apply da_cons; apply dt_ix; apply dt_ix; exact dt_var rfl hf; apply dt_neg; exact dt_int; exact hlast; exact dt_int; exact rfl; apply da_cons; apply dt_tup; apply da_cons; exact dt_int; apply da_cons; exact dt_int; exact da_nil; exact szl (show (2 : Nat) ≤ 1000 by decide); exact da_nil; exact z1; apply da_cons; apply dt_ix; apply dt_ix; exact dt_var rfl hf; apply dt_neg; exact dt_int; exact hlast; exact dt_int; exact rfl; apply da_cons; exact dt_int; exact da_nil; exact szl (show (3 : Nat) ≤ 1000 by decide); exact da_nil; exact szl (show (1 : Nat) ≤ 1000 by decide); (first | (refine szl ?_; simp only [List.length_append, List.length_cons, List.length_nil, List.length_map, cutG_to, cutG_from, cutG_to1, cutG_from1, List.length_take, List.length_drop]; omega) | exact szl (show (3 : Nat) ≤ 1000 by decide)))
    case k =>
    intro u' H' e' r'
    rw [del_nil] at r'
    refine ⟨u', cs ++ [⟨c.pl + s1, c.sp, 1000⟩], rfl, sc.trans e', by rw [List.map_append]; exact r', ⟨?_, by simp, by rw [List.length_append]; show cs.length + 1 ≤ n; omega, ?_, ?_, ?_⟩, by rw [List.length_append]; rfl⟩
    · rw [← g.hd]
      cases hcs : cs with
      | nil => exact absurd hcs g.ne
      | cons x xs => rfl
    · intro b hb
      rw [List.mem_append] at hb
      rcases hb with hb | hb
      · exact g.wt b hb
      · obtain rfl := (by simpa using hb : b = ⟨c.pl + s1, c.sp, 1000⟩)
        exact ⟨show (1 : Int) ≤ 1000 by decide, show (1000 : Int) ≤ 1000 by decide⟩
    · intro b hb
      rw [List.length_append]
      rw [List.mem_append] at hb
      rcases hb with hb | hb
      · exact ⟨(g.sz b hb).1.mono (by show _ ≤ 300 + 3 * (cs.length + 1); omega), (g.sz b hb).2⟩
      · obtain rfl := (by simpa using hb : b = ⟨c.pl + s1, c.sp, 1000⟩)
        exact ⟨(zc.add z_s1).mono (by show _ ≤ 300 + 3 * (cs.length + 1); omega), (g.sz c mc).2⟩
    · have := g.pw
      rw [ebs] at this ⊢
      refine pw_snoc this (.inl ?_)
      have := s1_pos
      show c.pl < c.pl + s1
      grind
  · have h' : ¬ ((us.length : Nat) : Int) < (n : Nat) := fun z => h (decide_eq_true z)
    have gl := g.ln
    exact ⟨_, rfl, k _ Hc cs sc hf (by omega) g.hd (fun b m => ⟨(g.sz b m).1.mono (by omega), (g.sz b m).2.mono (by decide)⟩) g.wt g.pw⟩
end
end KK
end
section
set_option maxHeartbeats 8000000
set_option Elab.async false
set_option linter.all false
set_option maxRecDepth 100000
namespace KK
open PySem L2 KM
section
variable {P : Program} {w : World} {K : PySem.W.Frag} {mg : Str → Option Value} {base : Heap} {tb tw : Tok} {aN : Addr}
def BW (b c : Ball) (e : PyData) : Prop := ∃ l1 l2, e = wsD l1 l2 ∧ WSz l1 ∧ WSz l2 ∧ wgood l1 l2 = true ∧ btwB l1 l2 b c = false
def spBes : Sp := fun vs H Q _ => ∃ (v : V) (bs : List Ball) (b c : Ball) (cs : List Ball), vs = [v] ∧ RdD H v (.tuple (bs.map bD)) ∧ bs[0]? = some b ∧ bs = cs ++ [c] ∧ (∀ b ∈ bs, Sz 300 b.pl ∧ Sz 80 b.sp) ∧
  ∀ r H' es, Same H H' → RdD H' r (.list es) → (∀ e ∈ es, BW b c e) → es.length ≤ 100 → Q r H'
theorem sc_bs : FnScope ["row", "first", "last", "near", "found"] ["row"] (defScope s_law_beside) := ⟨rfl, rfl, rfl, by decide +kernel, rfl, by decide +kernel, by decide +kernel⟩
theorem wsz_none : WSz none := fun _ _ z => by cases z
theorem wsz_some {x y : Rat} (h1 : Sz 1000 x) (h2 : Sz 1000 y) : WSz (some (x, y)) := fun _ _ z => by cases z; exact ⟨h1, h2⟩
theorem ok_bes (D : Df K mg "_law_beside" s_law_beside ["row"] []) (cS : Cal P w K mg base "_law_sum" 2 ["one", "other"] [] (spBin Sz2 (· + ·))) : Cal P w K mg base "_law_beside" 3 ["row"] [] spBes := by
  refine D.cal (k := 2) sc_bs (fun vs H Q E h => by obtain ⟨_, _, _, _, _, rfl, _⟩ := h; rfl) (fun f cdv A outer s H vs Q E hr2 h => ?_)
  obtain ⟨v, bs, b, c, cs, rfl, hv, hb, ebs, hsz, k⟩ := h
  refine ⟨_, (pss_cons (ps_par (i := 1) (j := 2) rfl sc_bs.nd rfl rfl (by decide) rfl rfl (pa_cons (pe_ix ix_tup (pv 0) pe_int (fun _ _ => rfl)) (pa_cons (pe_ix ix_tup (pv 0) (pe_un un_neg pe_int) (fun _ _ => rfl)) pa_nil)) (by rfl))
    (pss_cons (ps_set (i := 3) sc_bs.nd rfl (Or.inl rfl) (pe_tup (pa_cons pe_int (pa_cons (pe_op op_pow pe_int pe_int) pa_nil))))
    (pss_cons (ps_set (i := 4) sc_bs.nd rfl (Or.inl rfl) (pe_lst (pa_cons (pe_tup (pa_cons (pe_tup (pa_cons (pe_c cS hr2 (pa_cons (pe_ix ix_tup (pv 1) pe_int (fun _ _ => rfl)) (pa_cons (pv 3) pa_nil))) (pa_cons (pe_ix ix_tup (pv 1) pe_int (fun _ _ => rfl)) pa_nil))) (pa_cons pe_non pa_nil))) (pa_cons (pe_tup (pa_cons pe_non (pa_cons (pe_tup (pa_cons (pe_c cS hr2 (pa_cons (pe_ix ix_tup (pv 2) pe_int (fun _ _ => rfl)) (pa_cons (pe_tup (pa_cons (pe_un un_neg pe_int) (pa_cons (pe_op op_pow pe_int pe_int) pa_nil))) pa_nil))) (pa_cons (pe_ix ix_tup (pv 2) pe_int (fun _ _ => rfl)) pa_nil))) pa_nil))) pa_nil))))
    (pss_cons (ps_expr (pe_bm PySem.F.plainAttrs_list PySem.F.slot_list_append PySem.F.type_list_append mt_append (pv 4) (pa_cons (pe_tup (pa_cons (pe_tup (pa_cons (pe_ix ix_tup (pv 1) pe_int (fun _ _ => rfl)) (pa_cons (pe_c cS hr2 (pa_cons (pe_ix ix_tup (pv 1) pe_int (fun _ _ => rfl)) (pa_cons (pv 3) pa_nil))) pa_nil))) (pa_cons pe_non pa_nil))) pa_nil)))
    (pss_one (ps_ret (pe_op op_cat (pv 4) (pe_lst (pa_cons (pe_tup (pa_cons pe_non (pa_cons (pe_tup (pa_cons (pe_ix ix_tup (pv 2) pe_int (fun _ _ => rfl)) (pa_cons (pe_c cS hr2 (pa_cons (pe_ix ix_tup (pv 2) pe_int (fun _ _ => rfl)) (pa_cons (pe_tup (pa_cons (pe_un un_neg pe_int) (pa_cons (pe_op op_pow pe_int pe_int) pa_nil))) pa_nil))) pa_nil))) pa_nil))) pa_nil))))))))), ?_⟩
  have mb : b ∈ bs := List.mem_of_getElem? hb
  have mc : c ∈ bs := by rw [ebs]; simp
  have zb := hsz b mb
  have zc := hsz c mc
  have z1 : Sz2 b.pl sP := ⟨zb.1.mono (by decide), z_sP.mono (by decide)⟩
  have z2 : Sz2 c.pl sM := ⟨zc.1.mono (by decide), z_sM.mono (by decide)⟩
  have z3 : Sz2 b.sp sP := ⟨zb.2.mono (by decide), z_sP.mono (by decide)⟩
  have z4 : Sz2 c.sp sM := ⟨zc.2.mono (by decide), z_sM.mono (by decide)⟩
  have hv' := hv
  cases hv' with
  | @tup r us _ hrr hB =>
  have i0 : atI (bs.map bD) 0 = some (bD b) := atI_nat (j := 0) (by rw [List.getElem?_map, hb]; rfl)
  have i1 : atI (bs.map bD) (-1) = some (bD c) := by rw [ebs, List.map_append]; exact atI_last _ _
  obtain ⟨vb, evb, hf0⟩ := hB.at i0
  obtain ⟨vc, evc, hl0⟩ := hB.at i1
  refine ⟨_, rfl, r, us, 0, vb, rfl, rfl, .of hrr, evb, _, rfl, _, rfl, r, us, -1, vc, rfl, rfl, .of hrr, evc, _, _, rfl, ?_⟩
  dsimp only
  refine st_set ?_
  apply dt_use (at_0 (H := H))
  case h => exact (by apply dt_tup; apply da_cons; exact dt_int; apply da_cons; exact dt_million; exact da_nil; exact szl (show (2 : Nat) ≤ 1000 by decide))
  case k =>
  intro vn H1 e1 hn
  rw [del_nil] at hn
  have hf := hf0.same e1
  have hl := hl0.same e1
  refine st_set ?_
  apply fs_lst (at_0 (H := H1))
  case h => exact (by apply da_cons; apply dt_tup; apply da_cons; apply dt_tup; apply da_cons; apply dt_bin (x := b.pl) (y := sP); apply da_cons; apply dt_ix; exact dt_var rfl hf; exact dt_int; exact rfl; apply da_cons; exact dt_var rfl hn; exact da_nil; exact z1; apply da_cons; apply dt_ix; exact dt_var rfl hf; exact dt_int; exact rfl; exact da_nil; exact szl (show (2 : Nat) ≤ 1000 by decide); apply da_cons; exact dt_non; exact da_nil; exact szl (show (2 : Nat) ≤ 1000 by decide); apply da_cons; apply dt_tup; apply da_cons; exact dt_non; apply da_cons; apply dt_tup; apply da_cons; apply dt_bin (x := c.pl) (y := sM); apply da_cons; apply dt_ix; exact dt_var rfl hl; exact dt_int; exact rfl; apply da_cons; apply dt_tup; apply da_cons; apply dt_neg; exact dt_int; apply da_cons; exact dt_million; exact da_nil; exact szl (show (2 : Nat) ≤ 1000 by decide); exact da_nil; exact z2; apply da_cons; apply dt_ix; exact dt_var rfl hl; exact dt_int; exact rfl; exact da_nil; exact szl (show (2 : Nat) ≤ 1000 by decide); exact da_nil; exact szl (show (2 : Nat) ≤ 1000 by decide); exact da_nil)
  case l => exact szl (show (2 : Nat) ≤ 1000 by decide)
  case k =>
  intro l H2 f2
  refine st_drop ?_
  apply fs_app f2
  case h => exact (by apply dt_tup; apply da_cons; apply dt_tup; apply da_cons; apply dt_ix; exact dt_var rfl hf; exact dt_int; exact rfl; apply da_cons; apply dt_bin (x := b.sp) (y := sP); apply da_cons; apply dt_ix; exact dt_var rfl hf; exact dt_int; exact rfl; apply da_cons; exact dt_var rfl hn; exact da_nil; exact z3; exact da_nil; exact szl (show (2 : Nat) ≤ 1000 by decide); apply da_cons; exact dt_non; exact da_nil; exact szl (show (2 : Nat) ≤ 1000 by decide))
  case hs => exact rfl
  case z => exact (show (2 : Nat) ≤ 1000 by decide)
  case k =>
  intro H3 f3
  unfold tRet
  apply fs_cat f3
  case h => exact (by apply da_cons; apply dt_tup; apply da_cons; exact dt_non; apply da_cons; apply dt_tup; apply da_cons; apply dt_ix; exact dt_var rfl hl; exact dt_int; exact rfl; apply da_cons; apply dt_bin (x := c.sp) (y := sM); apply da_cons; apply dt_ix; exact dt_var rfl hl; exact dt_int; exact rfl; apply da_cons; apply dt_tup; apply da_cons; apply dt_neg; exact dt_int; apply da_cons; exact dt_million; exact da_nil; exact szl (show (2 : Nat) ≤ 1000 by decide); exact da_nil; exact z4; exact da_nil; exact szl (show (2 : Nat) ≤ 1000 by decide); exact da_nil; exact szl (show (2 : Nat) ≤ 1000 by decide); exact da_nil)
  case hs => exact rfl
  case z => exact szl (show (4 : Nat) ≤ 1000 by decide)
  case k =>
  intro l4 H4 f4
  refine k _ H4 _ (e1.trans f4.sm) f4.rd ?_ (show (4 : Nat) ≤ 100 by decide)
  intro e he
  have gP := sP_pos
  have gM := sM_neg
  simp only [List.cons_append, List.nil_append, List.mem_cons, List.not_mem_nil, or_false] at he
  rcases he with rfl | rfl | rfl | rfl
  · refine ⟨some (b.pl + sP, b.sp), none, rfl, wsz_some ((zb.1.add z_sP).mono (by decide)) (zb.2.mono (by decide)), wsz_none, rfl, ?_⟩
    show (((decide (b.pl + sP = b.pl) && decide (b.sp = b.sp)) || fol (b.pl + sP) b.sp b.pl b.sp) && true) = false
    rw [fol_ge (by grind), decide_eq_false (by grind)]; rfl
  · refine ⟨none, some (c.pl + sM, c.sp), rfl, wsz_none, wsz_some ((zc.1.add z_sM).mono (by decide)) (zc.2.mono (by decide)), rfl, ?_⟩
    show (true && ((decide (c.pl = c.pl + sM) && decide (c.sp = c.sp)) || fol c.pl c.sp (c.pl + sM) c.sp)) = false
    rw [fol_ge (by grind), decide_eq_false (by grind)]; rfl
  · refine ⟨some (b.pl, b.sp + sP), none, rfl, wsz_some (zb.1.mono (by decide)) ((zb.2.add z_sP).mono (by decide)), wsz_none, rfl, ?_⟩
    show (((decide (b.pl = b.pl) && decide (b.sp + sP = b.sp)) || fol b.pl (b.sp + sP) b.pl b.sp) && true) = false
    rw [fol_same (by grind), decide_eq_false (show ¬ b.sp + sP = b.sp by grind), Bool.and_false]; rfl
  · refine ⟨none, some (c.pl, c.sp + sM), rfl, wsz_none, wsz_some (zc.1.mono (by decide)) ((zc.2.add z_sM).mono (by decide)), rfl, ?_⟩
    show (true && ((decide (c.pl = c.pl) && decide (c.sp = c.sp + sM)) || fol c.pl c.sp c.pl (c.sp + sM))) = false
    rw [fol_same (by grind), decide_eq_false (show ¬ c.sp = c.sp + sM by grind), Bool.and_false]; rfl
end
end KK
end
section
set_option maxHeartbeats 8000000
set_option Elab.async false
set_option linter.all false
set_option maxRecDepth 100000
namespace KK
open PySem L2 KM
theorem neg1c : ((-1 : Int) : Rat) = -1 := rfl
theorem one1c : ((1 : Int) : Rat) = 1 := rfl
theorem negneg : ((-(-1) : Int) : Rat) = 1 := rfl
theorem fol_lt {x y x' y' : Rat} (h : x < x') : fol x y x' y' = true := by
  unfold fol; rw [if_neg (by grind), decide_eq_true h]
theorem fol_eq {x y y' : Rat} (h : y < y') : fol x y x y' = true := by
  unfold fol; rw [if_pos rfl, decide_eq_true h]
theorem lo_ok {b : Ball} {l : Wl} (h : okSide 1 b l) : loB l b = true := by
  cases l with
  | none => rfl
  | some z =>
    obtain ⟨x, y⟩ := z
    obtain ⟨g, hx, hg⟩ := h
    rw [neg1c] at hx; rw [one1c] at hg
    unfold loB
    show ((decide (x = b.pl) && decide (y = b.sp)) || fol x y b.pl b.sp) = true
    rcases hg with hg | ⟨hg, hn⟩
    · rw [fol_lt (by grind), Bool.or_true]
    · have e : x = b.pl := by grind
      subst e
      by_cases hy : y = b.sp
      · rw [decide_eq_true rfl, decide_eq_true hy]; rfl
      · rw [fol_eq (by grind), Bool.or_true]
theorem hi_ok {c : Ball} {l : Wl} (h : okSide (-1) c l) : hiB l c = true := by
  cases l with
  | none => rfl
  | some z =>
    obtain ⟨x, y⟩ := z
    obtain ⟨g, hx, hg⟩ := h
    rw [negneg] at hx; rw [neg1c] at hg
    unfold hiB
    show ((decide (c.pl = x) && decide (c.sp = y)) || fol c.pl c.sp x y) = true
    rcases hg with hg | ⟨hg, hn⟩
    · rw [fol_lt (by grind), Bool.or_true]
    · have e : x = c.pl := by grind
      subst e
      by_cases hy : c.sp = y
      · rw [decide_eq_true rfl, decide_eq_true hy]; rfl
      · rw [fol_eq (by grind), Bool.or_true]
theorem ord_ok : ∀ {bs : List Ball}, bs.Pairwise lexR → ordB bs = true
  | [], _ => rfl
  | [_], _ => rfl
  | b :: c :: r, h => by
    have h1 : lexR b c := (List.pairwise_cons.mp h).1 c (by simp)
    have h2 := ord_ok (List.pairwise_cons.mp h).2
    show (folB (b, c) && ordB (c :: r)) = true
    rw [h2, Bool.and_true]
    rcases h1 with h1 | ⟨h1, h1'⟩
    · exact fol_lt h1
    · show fol b.pl b.sp c.pl c.sp = true
      rw [h1]; exact fol_eq h1'
theorem row_ok {l h : Wl} {bs : List Ball} {b c : Ball} (hg : wgood l h = true) (ho : ordB bs = true) (h1 : loB l b = true) (h2 : hiB h c = true) : rowB l h bs b c = true := by
  unfold rowB btwB; rw [hg, ho, h1, h2]; rfl
def spLaw (K : PySem.W.Frag) : Sp := fun vs H Q _ => ∃ (a : Addr) (ns : List Int), vs = [.ref a] ∧ SqL K H a (ns.map V.int) ∧ ns.length ≤ 63 ∧ ∀ H', Q (.bl true) H'
section
variable {P : Program} {w : World} {K : PySem.W.Frag} {mg : Str → Option Value} {base : Heap} {tb tw : Tok} {aN : Addr}
theorem sc_law : FnScope ["script", "k", "pool", "row", "walls", "at", "thing"] ["script"] (defScope s_law) := ⟨rfl, rfl, rfl, by decide +kernel, rfl, by decide +kernel, by decide +kernel⟩
theorem ok_law {fl : Addr} {fdl : FuncData} (D : Fun K "law" "law" s_law fl fdl) (T : TxB K mg) (T3 : Tx3 K mg tb tw aN) (cC : Cal P w K mg base "_law_cell" 1 ["script", "k"] [] (spCell K)) (cD : Cal P w K mg base "_law_dig" 1 ["cell"] [] spDig) (cN : Cal P w K mg base "_law_next" 1 ["pool", "base"] [] spNext) (cRow : Cal P w K mg base "_law_row" 4 ["pool", "most"] [] spRow)
    (cBs : Cal P w K mg base "_law_bounds" 5 ["pool", "row"] [] spBs) (cWg : Cal P w K mg base "walls_good" 5 ["thing"] [] spWgD) (cIs : Cal P w K mg base "is_row" 6 ["walls", "thing"] [] spIsD) (cBB : Cal P w K mg base "_law_bent_balls" 2 ["row", "at"] [] spBB) (cMX : Cal P w K mg base "_law_mixed" 3 ["row", "at"] [] spMX)
    (cOB : Cal P w K mg base "_law_odd_bounds" 3 ["walls"] [] spOB) (cBes : Cal P w K mg base "_law_beside" 3 ["row"] [] spBes) (cLg : Cal P w K mg base "_law_longer" 3 ["row", "many"] [] spLg) :
    FnOk P w K mg base CX0 7 fl fdl ["script"] (spLaw K) := by
  refine D.ok (k := 6) sc_law (fun vs H Q E h => by obtain ⟨a, us, rfl, _⟩ := h; rfl) (fun cdv A outer s H vs Q E hr6 h => ?_)
  obtain ⟨a, ns, rfl, hS, hlen, k⟩ := h
  have hr1 : Room 1 _ := hr6.mono (by decide)
  have hr2 : Room 2 _ := hr6.mono (by decide)
  have hr3 : Room 3 _ := hr6.mono (by decide)
  have hr4 : Room 4 _ := hr6.mono (by decide)
  have hr5 : Room 5 _ := hr6.mono (by decide)
  refine ⟨_, (pss_cons (ps_for PassesOwn.never rfl (pi_range1 rfl T.nRange (pa_cons (pe_callB (call_max2 rfl) (by rfl) T.nMax PyProof.Rows.boot_max (pa_cons pe_int (pa_cons (pe_callB (call_min2 rfl) (by rfl) T.nMin PyProof.Rows.boot_min (pa_cons pe_int (pa_cons (pe_callB call_len_seq (by rfl) T.nLen PySem.boot_len (pa_cons (pv 0) pa_nil)) pa_nil))) pa_nil))) pa_nil)) (pg_name (i := 1) sc_law.nd rfl (Or.inl rfl)) (pss_cons (ps_set (i := 2) sc_law.nd rfl (Or.inl rfl) (pe_c cD hr1 (pa_cons (pe_c cC hr1 (pa_cons (pv 0) (pa_cons (pv 1) pa_nil))) pa_nil)))
    (pss_cons (ps_set (i := 3) sc_law.nd rfl (Or.inl rfl) (pe_c cRow hr4 (pa_cons (pv 2) (pa_cons pe_int pa_nil))))
    (pss_cons (ps_set (i := 4) sc_law.nd rfl (Or.inl rfl) (pe_c cBs hr5 (pa_cons (pv 2) (pa_cons (pv 3) pa_nil))))
    (pss_cons (ps_set (i := 5) sc_law.nd rfl (Or.inl rfl) (pe_c cN hr1 (pa_cons (pv 2) (pa_cons (pe_callB call_len_seq (by rfl) T.nLen PySem.boot_len (pa_cons (pv 3) pa_nil)) pa_nil))))
    (pss_cons (ps_for PassesOwn.never rfl (pi_list (pe_op op_cat (pe_c cBB hr2 (pa_cons (pv 3) (pa_cons (pv 5) pa_nil))) (pe_c cMX hr3 (pa_cons (pv 3) (pa_cons (pv 5) pa_nil))))) (pg_name (i := 6) sc_law.nd rfl (Or.inl rfl)) (pss_one (ps_if ((pw_or (pt_truth (pe_c cIs hr6 (pa_cons (pe_tup (pa_cons pe_non (pa_cons pe_non pa_nil))) (pa_cons (pv 6) pa_nil))) fun _ => rfl) (pw_or (pt_truth (pe_c cIs hr6 (pa_cons (pv 4) (pa_cons (pv 6) pa_nil))) fun _ => rfl) (pw_or1 (pt_not (pt_truth (pe_callB call_isinst (by rfl) T.nIs PyProof.Rows.boot_isinstance (pa_cons (pe_c cIs hr6 (pa_cons (pv 4) (pa_cons (pv 6) pa_nil))) (pa_cons (pe_bltn (v := .ty "bool") (u := .type "bool") (by rfl) T.nBool (by decide +kernel) rfl) pa_nil))) fun _ => rfl)))))).pt (pss_one (ps_ret pe_bl)) pss_nil)))
    (pss_cons (ps_for PassesOwn.never rfl (pi_list (pe_c cOB hr3 (pa_cons (pv 4) pa_nil))) (pg_name (i := 6) sc_law.nd rfl (Or.inl rfl)) (pss_one (ps_if ((pw_or (pt_truth (pe_c cWg hr5 (pa_cons (pv 6) pa_nil)) fun _ => rfl) (pw_or1 (pt_not (pt_truth (pe_callB call_isinst (by rfl) T.nIs PyProof.Rows.boot_isinstance (pa_cons (pe_c cWg hr5 (pa_cons (pv 6) pa_nil)) (pa_cons (pe_bltn (v := .ty "bool") (u := .type "bool") (by rfl) T.nBool (by decide +kernel) rfl) pa_nil))) fun _ => rfl))))).pt (pss_one (ps_ret pe_bl)) pss_nil)))
    (pss_cons (ps_for PassesOwn.never rfl (pi_list (pe_c cBes hr3 (pa_cons (pv 3) pa_nil))) (pg_name (i := 6) sc_law.nd rfl (Or.inl rfl)) (pss_one (ps_if ((pw_or (pt_not (pt_truth (pe_c cWg hr5 (pa_cons (pv 6) pa_nil)) fun _ => rfl)) (pw_or1 (pt_truth (pe_c cIs hr6 (pa_cons (pv 6) (pa_cons (pv 3) pa_nil))) fun _ => rfl)))).pt (pss_one (ps_ret pe_bl)) pss_nil)))
    (pss_cons (ps_if ((pw_or (pt_not (pt_truth (pe_c cIs hr6 (pa_cons (pv 4) (pa_cons (pv 3) pa_nil))) fun _ => rfl)) (pw_or (pt_not (pt_truth (pe_c cWg hr5 (pa_cons (pv 4) pa_nil)) fun _ => rfl)) (pw_or1 (pt_not (pt_truth (pe_c cIs hr6 (pa_cons (pe_tup (pa_cons (pe_ix ix_tup (pv 4) pe_int (fun _ _ => rfl)) (pa_cons pe_non pa_nil))) (pa_cons (pe_c cLg hr3 (pa_cons (pv 3) (pa_cons pe_int pa_nil))) pa_nil))) fun _ => rfl)))))).pt (pss_one (ps_ret pe_bl)) pss_nil)
    (pss_one (ps_if ((pw_or (pt_truth (pe_c cIs hr6 (pa_cons (pe_tup (pa_cons pe_non (pa_cons pe_non pa_nil))) (pa_cons (pe_c cLg hr3 (pa_cons (pv 3) (pa_cons pe_int pa_nil))) pa_nil))) fun _ => rfl) (pw_or1 (pt_truth (pe_c cIs hr6 (pa_cons (pe_tup (pa_cons (pe_ix ix_tup (pv 4) pe_int (fun _ _ => rfl)) (pa_cons pe_non pa_nil))) (pa_cons (pe_c cLg hr3 (pa_cons (pv 3) (pa_cons pe_int pa_nil))) pa_nil))) fun _ => rfl)))).pt (pss_one (ps_ret pe_bl)) pss_nil)))))))))))
    (pss_one (ps_ret pe_bl))), ?_⟩
  refine ⟨_, rfl, a, _, rfl, .inl hS, _, _, rfl, _, _, rfl, _, rfl, ?_, ?_, ?_⟩
  · simp only [List.length_map]; split <;> split <;> omega
  · simp only [List.length_map]; split <;> split <;> omega
  refine for_range (lo := 0) (fun i σ H2 => ∃ (z : List (Option V)), z.length = 6 ∧ σ = some (.ref a) :: z ∧ Same H H2) ⟨_, rfl, rfl, Same.refl _⟩ ?_ ?_
  · rintro i σ H2 hi ⟨z, hz, rfl, s2⟩
    have hi63 : i < 64 := by
      have h2 : i < Int.toNat 63 := Nat.lt_of_lt_of_le hi (by simp only [List.length_map]; split <;> split <;> omega)
      omega
    match z, hz with
    | [z1, z2, z3, z4, z5, z6], _ =>
    refine ⟨_, rfl, _, rfl, a, ns, _, rfl, s2.seq hS, by omega, by omega, fun c => ⟨c, rfl, fun p H3 hp3 s3 hP => ?_⟩⟩
    refine ⟨_, rfl, p, 8, rfl, by decide, by decide, hP, fun r us bs H4 st4 hr4' hB4 G hne hl8 => ?_⟩
    obtain ⟨b, eb⟩ : ∃ b, bs[0]? = some b := by
      cases bs with
      | nil => exact absurd rfl hne
      | cons b0 bt => exact ⟨b0, rfl⟩
    obtain ⟨cs, c, ebs⟩ : ∃ cs c, bs = cs ++ [c] := by
      rcases List.eq_nil_or_concat bs with e | ⟨cs, c, e⟩
      · exact absurd e hne
      · exact ⟨cs, c, by simpa using e⟩
    refine ⟨_, rfl, _, rfl, p, r, us, bs, b, cs, c, rfl, st4.pool, hr4', hB4, eb, ebs, G.sz, fun aw v1 v2 l1 l2 H5 st5 haw w1 w2 q1 q2 o1 o2 hg => ?_⟩
    have hl := hB4.length
    have hpos : 0 < bs.length := by rw [ebs]; simp
    refine ⟨_, rfl, _, rfl, r, us, rfl, .inr (SqT.of (st5.tup st4.pool hr4')), p, _, rfl, by omega, by omega, st5.pool, fun d H6 d0 d1 st6 => ?_⟩
    have s6 : Same H H6 := s2.trans fun b o e => ((st4.trans st5).trans st6).keep b o (s3 b o e) (ne_of_none e hp3)
    have hrr := st6.tup st5.pool (st5.tup st4.pool hr4')
    have hB := (hB4.step st5 st4.pool).step st6 st5.pool
    have haw6 := st6.tup st5.pool haw
    have w1' := w1.step st6 st5.pool
    have w2' := w2.step st6 st5.pool
    have l8 : bs.length ≤ 8 := by omega
    have bz : BSz bs := fun x hx => ⟨(G.sz x hx).1.mono (by decide), (G.sz x hx).2.mono (by decide)⟩
    have ho := ord_ok G.pw
    have lo := lo_ok o1
    have hh := hi_ok o2
    have R0 : rowB l1 l2 bs b c = true := row_ok hg ho lo hh
    have wn : WSz none := wsz_none
    have hv : RdD H6 (.ref r) (.tuple (bs.map bD)) := .tup hrr (balls_rd hB)
    have hw : RdD H6 (.ref aw) (wsD l1 l2) := .tup haw6 (.cons (wall_rd w1') (.cons (wall_rd w2') .nil))
    obtain ⟨j, rfl⟩ : ∃ j : Nat, d = (j : Int) := ⟨d.toNat, by omega⟩
    have hj : j < bs.length := by omega
    obtain ⟨bj, ebj⟩ : ∃ x, bs[j]? = some x := ⟨bs[j], List.getElem?_eq_getElem hj⟩
    have mbj : bj ∈ bs := List.mem_of_getElem? ebj
    clear st4 st5 st6 hP s3 hp3 hr4' hB4 w1 w2 haw
    refine ⟨_, rfl, _, rfl, _, bs, j, bj, rfl, hv, ebj, l8, (G.sz bj mbj).1, fun rB H7 es1 e7 r7 hall1 hl1 => ?_⟩
    refine ⟨_, rfl, _, rfl, _, bs, j, bj, rfl, hv.same e7, ebj, l8, G.wt, G.sz, fun rM H8 es2 e8 r8 hall2 hl2 => ?_⟩
    have r7' := r7.same e8
    cases r7' with
    | @lst LB xs _ hLB hxs =>
    cases r8 with
    | @lst LM zs _ hLM hzs =>
    refine ⟨LB, LM, xs, zs, rfl, rfl, hLB, hLM, szl (by rw [hxs.len, hzs.len]; omega), fun L hL => ?_⟩
    have e9 : Same H6 (upd H8 L (.lst (xs ++ zs))) := (e7.trans e8).trans (Same.upd hL)
    have hL9 : upd H8 L (.lst (xs ++ zs)) L = some (.lst (xs ++ zs)) := upd_same
    have hall : RdDs (upd H8 L (.lst (xs ++ zs))) (xs ++ zs) (es1 ++ es2) := (RdDs.app hzs hxs).same (Same.upd hL)
    generalize upd H8 L (.lst (xs ++ zs)) = H9 at e9 hL9 hall
    refine ⟨L, rfl, ⟨_, SqL.of hL9⟩, ?_⟩
    refine for_list (K := K) (a := L) (xs := xs ++ zs) (fun _ σ Hc => ∃ zz, σ = [some (.ref a), some (.int (0 + i)), some (.ref p), some (.ref r), some (.ref aw), some (.int (j : Nat)), zz] ∧ Same H9 Hc) ⟨z6, rfl, Same.refl _⟩ (fun _ _ _ _ ⟨_, _, e⟩ => SqL.of (e _ _ hL9)) ?_ ?_
    · rintro m x σ Hc hx ⟨zz, rfl, ec⟩
      obtain ⟨e, ee⟩ : ∃ e, (es1 ++ es2)[m]? = some e := ⟨_, List.getElem?_eq_getElem (by rw [← hall.len]; exact (List.getElem?_eq_some_iff.mp hx).1)⟩
      obtain ⟨x', ex, rx⟩ := hall.get ee
      rw [hx] at ex; cases ex
      have vf : VF e := by
        have := List.mem_of_getElem? ee
        rw [List.mem_append] at this
        rcases this with h | h
        · exact hall1 e h
        · exact hall2 e h
      refine ⟨by show 2 ≤ sizeLine; decide, fun t ht => ?_⟩
      have ec2 := ec.trans (Same.upd (o := .tup [.non, .non]) ht)
      refine ⟨_, rfl, _, _, none, none, e, false, rfl, .tup upd_same (.cons .non (.cons .non .nil)), wn, wn, rx.same ec2, vf none none, fun H10 e10 => ?_⟩
      have ec3 := ec2.trans e10
      refine ⟨false, rfl, iteF ?_⟩
      refine ⟨_, rfl, _, rfl, _, _, l1, l2, e, false, rfl, hw.same (e9.trans ec3), q1.w, q2.w, rx.same ec3, vf l1 l2, fun H11 e11 => ?_⟩
      have ec4 := ec3.trans e11
      refine ⟨false, rfl, iteF ?_⟩
      refine ⟨_, rfl, _, rfl, _, _, l1, l2, e, false, rfl, hw.same (e9.trans ec4), q1.w, q2.w, rx.same ec4, vf l1 l2, fun H12 e12 => ?_⟩
      refine ⟨_, _, _, true, rfl, .bl _, T3.bb, true, rfl, iteF ?_⟩
      exact ⟨_, rfl, ec4.trans e12⟩
    rintro σ Hc ⟨zz, rfl, ec⟩
    dsimp only
    -- walls that are none
    refine ⟨_, rfl, _, l1, l2, rfl, hw.same (e9.trans ec), q1, q2, fun rO H10 es3 e10 r10 hall3 hl3 => ?_⟩
    cases r10 with
    | @lst LO xo _ hLO hxo =>
    have e610 := (e9.trans ec).trans e10
    refine ⟨LO, rfl, ⟨_, SqL.of hLO⟩, ?_⟩
    refine for_list (K := K) (a := LO) (xs := xo) (fun _ σ Hc => ∃ zz, σ = [some (.ref a), some (.int (0 + i)), some (.ref p), some (.ref r), some (.ref aw), some (.int (j : Nat)), zz] ∧ Same H10 Hc) ⟨_, rfl, Same.refl _⟩ (fun _ _ _ _ ⟨_, _, e⟩ => SqL.of (e _ _ hLO)) ?_ ?_
    · rintro m x σ Hc hx ⟨zz, rfl, ec⟩
      obtain ⟨e, ee⟩ : ∃ e, es3[m]? = some e := ⟨_, List.getElem?_eq_getElem (by rw [← hxo.len]; exact (List.getElem?_eq_some_iff.mp hx).1)⟩
      obtain ⟨x', ex, rx⟩ := hxo.get ee
      rw [hx] at ex; cases ex
      have wf := hall3 e (List.mem_of_getElem? ee)
      refine ⟨_, rfl, _, e, false, rfl, rx.same ec, wf, false, rfl, iteF ?_⟩
      refine ⟨_, rfl, _, e, false, rfl, rx.same ec, wf, ?_⟩
      exact ⟨_, _, _, true, rfl, .bl _, T3.bb, true, rfl, iteF ⟨_, rfl, ec⟩⟩
    rintro σ Hc2 ⟨zz2, rfl, ec2⟩
    dsimp only
    -- walls beside
    have e6c := e610.trans ec2
    refine ⟨_, rfl, _, bs, b, c, cs, rfl, hv.same e6c, eb, ebs, G.sz, fun rS H11 es4 e11 r11 hall4 hl4 => ?_⟩
    cases r11 with
    | @lst LS xs4 _ hLS hx4 =>
    have e611 := e6c.trans e11
    refine ⟨LS, rfl, ⟨_, SqL.of hLS⟩, ?_⟩
    refine for_list (K := K) (a := LS) (xs := xs4) (fun _ σ Hc => ∃ zz, σ = [some (.ref a), some (.int (0 + i)), some (.ref p), some (.ref r), some (.ref aw), some (.int (j : Nat)), zz] ∧ Same H11 Hc) ⟨_, rfl, Same.refl _⟩ (fun _ _ _ _ ⟨_, _, e⟩ => SqL.of (e _ _ hLS)) ?_ ?_
    · rintro m x σ Hc hx ⟨zz, rfl, ec⟩
      obtain ⟨e, ee⟩ : ∃ e, es4[m]? = some e := ⟨_, List.getElem?_eq_getElem (by rw [← hx4.len]; exact (List.getElem?_eq_some_iff.mp hx).1)⟩
      obtain ⟨x', ex, rx⟩ := hx4.get ee
      rw [hx] at ex; cases ex
      obtain ⟨m1, m2, rfl, y1, y2, hg', hbt⟩ := hall4 e (List.mem_of_getElem? ee)
      have vd := Verd.row (l1 := m1) (l2 := m2) eb ebs bz l8 G.wt
      have hf : rowB m1 m2 bs b c = false := by unfold rowB; rw [hbt, Bool.and_false, Bool.and_false]
      rw [hf] at vd
      refine ⟨_, rfl, _, _, true, rfl, rx.same ec, .inr ⟨m1, m2, rfl, y1, y2, hg'.symm⟩, true, rfl, iteF ?_⟩
      refine ⟨_, rfl, _, rfl, _, _, m1, m2, _, false, rfl, rx.same ec, y1, y2, hv.same (e611.trans ec), vd, fun H12 e12 => ?_⟩
      exact ⟨false, rfl, iteF ⟨_, rfl, ec.trans e12⟩⟩
    rintro σ Hc3 ⟨zz3, rfl, ec3⟩
    dsimp only
    have e612 := e611.trans ec3
    -- the row itself
    have vd := Verd.row (l1 := l1) (l2 := l2) eb ebs bz l8 G.wt
    rw [R0] at vd
    refine ⟨_, rfl, _, rfl, _, _, l1, l2, _, true, rfl, hw.same e612, q1.w, q2.w, hv.same e612, vd, fun H13 e13 => ?_⟩
    have e613 := e612.trans e13
    refine ⟨true, rfl, iteF ?_⟩
    refine ⟨_, rfl, _, _, true, rfl, hw.same e613, .inr ⟨l1, l2, rfl, q1.w, q2.w, hg.symm⟩, true, rfl, iteF ?_⟩
    have haw13 := e613 _ _ haw6
    refine ⟨_, rfl, aw, _, _, _, rfl, rfl, .of haw13, rfl, by show 2 ≤ sizeLine; decide, fun t1 ht1 => ?_⟩
    have e14 := e613.trans (Same.upd (o := .tup [v1, .non]) ht1)
    have ht14 : RdD (upd H13 t1 (.tup [v1, .non])) (.ref t1) (wsD l1 none) := .tup upd_same (.cons ((wall_rd w1').same e14) (.cons .non .nil))
    generalize upd H13 t1 (.tup [v1, .non]) = H14 at e14 ht14
    refine ⟨_, rfl, _, bs, 8, rfl, hv.same e14, G, hne, l8, by decide, by decide, fun rL H15 cs8 e15 r15 n8 h8 z8 w8 p8 => ?_⟩
    have e615 := e14.trans e15
    obtain ⟨ds8, c8, ecs8⟩ : ∃ ds c, cs8 = ds ++ [c] := by
      rcases List.eq_nil_or_concat cs8 with e | ⟨ds, c, e⟩
      · rw [e] at n8; cases n8
      · exact ⟨ds, c, by simpa using e⟩
    have vd8 := Verd.row (l1 := l1) (l2 := none) (h8.trans eb) ecs8 z8 (by omega) w8
    rw [row_ok (by cases l1 <;> rfl) (ord_ok p8) lo rfl] at vd8
    refine ⟨_, _, l1, none, _, true, rfl, ht14.same e15, q1.w, wn, r15, vd8, fun H16 e16 => ?_⟩
    have e616 := e615.trans e16
    refine ⟨true, rfl, iteF ?_⟩
    -- nine
    refine ⟨by show 2 ≤ sizeLine; decide, fun t2 ht2 => ?_⟩
    have e17 := e616.trans (Same.upd (o := .tup [.non, .non]) ht2)
    have ht17 : RdD (upd H16 t2 (.tup [.non, .non])) (.ref t2) (wsD none none) := .tup upd_same (.cons .non (.cons .non .nil))
    generalize upd H16 t2 (.tup [.non, .non]) = H17 at e17 ht17
    refine ⟨_, rfl, _, bs, 9, rfl, hv.same e17, G, hne, l8, by decide, by decide, fun rL2 H18 cs9 e18 r18 n9 _ _ _ _ => ?_⟩
    have e618 := e17.trans e18
    have vd9 : ∀ m1 m2, Verd m1 m2 (.tuple (cs9.map bD)) false := fun m1 m2 => .size (.inr (by rw [List.length_map, n9]; decide))
    refine ⟨_, _, none, none, _, false, rfl, ht17.same e18, wn, wn, r18, vd9 _ _, fun H19 e19 => ?_⟩
    have e619 := e618.trans e19
    refine ⟨false, rfl, iteF ?_⟩
    have haw19 := e619 _ _ haw6
    refine ⟨_, rfl, aw, _, _, _, rfl, rfl, .of haw19, rfl, by show 2 ≤ sizeLine; decide, fun t3 ht3 => ?_⟩
    have e20 := e619.trans (Same.upd (o := .tup [v1, .non]) ht3)
    have ht20 : RdD (upd H19 t3 (.tup [v1, .non])) (.ref t3) (wsD l1 none) := .tup upd_same (.cons ((wall_rd w1').same e20) (.cons .non .nil))
    generalize upd H19 t3 (.tup [v1, .non]) = H20 at e20 ht20
    refine ⟨_, rfl, _, bs, 9, rfl, hv.same e20, G, hne, l8, by decide, by decide, fun rL3 H21 cs9b e21 r21 n9b _ _ _ _ => ?_⟩
    have vd9b : Verd l1 none (.tuple (cs9b.map bD)) false := .size (.inr (by rw [List.length_map, n9b]; decide))
    refine ⟨_, _, l1, none, _, false, rfl, ht20.same e21, q1.w, wn, r21, vd9b, fun H22 e22 => ?_⟩
    exact ⟨false, rfl, iteF ⟨_, rfl, rfl, s6.trans ((e20.trans e21).trans e22)⟩⟩
  · rintro σ H2 ⟨z, hz, rfl, s2⟩
    exact k H2
end
end KK
end
section
set_option maxHeartbeats 8000000
set_option Elab.async false
set_option linter.all false
set_option maxRecDepth 100000
namespace KK
open PySem L2 KM
theorem kit_ii (K : PySem.W.Frag) : PySem.W.kitOne K (.type "int") (.type "int") = some true := by
  unfold PySem.W.kitOne; rw [if_pos (by decide +kernel)]
theorem kit_ib (K : PySem.W.Frag) : PySem.W.kitOne K (.type "int") (.type "bool") = some false := by
  with_unfolding_all rfl
theorem kit_tt (K : PySem.W.Frag) : PySem.W.kitOne K (.type "tuple") (.type "tuple") = some true := by
  unfold PySem.W.kitOne; rw [if_pos (by decide +kernel)]
theorem kit_bb (K : PySem.W.Frag) : PySem.W.kitOne K (.type "bool") (.type "bool") = some true := by
  unfold PySem.W.kitOne; rw [if_pos (by decide +kernel)]
theorem all_mk {l : PySem.W.OpenLaw} {w : World} {K : PySem.W.Frag} {h : Heap} {mg : Str → Option Value} {fa : Addr} (X : K.In h) (G : h.Ns mainGlobals mg) (hfa : mg "law" = some (.ref fa))
    {f0 : Addr} {od0 an0 : Option Addr} {sl0 : Array (Option Value)} {oc0 kV0 dc0 pm0 cd0 ct0 : Value}
    (a0 : PySem.W.nsIn K mainGlobals "is_whole" = some (some (.ref f0))) (l0 : K.lookup f0 = some ⟨oc0, od0, .func (PySem.W.fnOf "is_whole" "is_whole" (defArgs s_is_whole) (defBody s_is_whole) (defScope s_is_whole) .none kV0 dc0 pm0 an0 cd0 ct0), sl0⟩) (c0 : PySem.W.codeIn K cd0 "is_whole" = true) (k0 : PySem.W.keepIn K (.ref f0) = true)
    {f1 : Addr} {od1 an1 : Option Addr} {sl1 : Array (Option Value)} {oc1 kV1 dc1 pm1 cd1 ct1 : Value}
    (a1 : PySem.W.nsIn K mainGlobals "is_tuple" = some (some (.ref f1))) (l1 : K.lookup f1 = some ⟨oc1, od1, .func (PySem.W.fnOf "is_tuple" "is_tuple" (defArgs s_is_tuple) (defBody s_is_tuple) (defScope s_is_tuple) .none kV1 dc1 pm1 an1 cd1 ct1), sl1⟩) (c1 : PySem.W.codeIn K cd1 "is_tuple" = true) (k1 : PySem.W.keepIn K (.ref f1) = true)
    {f2 : Addr} {od2 an2 : Option Addr} {sl2 : Array (Option Value)} {oc2 kV2 dc2 pm2 cd2 ct2 : Value}
    (a2 : PySem.W.nsIn K mainGlobals "greatest_divisor" = some (some (.ref f2))) (l2 : K.lookup f2 = some ⟨oc2, od2, .func (PySem.W.fnOf "greatest_divisor" "greatest_divisor" (defArgs s_greatest_divisor) (defBody s_greatest_divisor) (defScope s_greatest_divisor) .none kV2 dc2 pm2 an2 cd2 ct2), sl2⟩) (c2 : PySem.W.codeIn K cd2 "greatest_divisor" = true) (k2 : PySem.W.keepIn K (.ref f2) = true)
    {f3 : Addr} {od3 an3 : Option Addr} {sl3 : Array (Option Value)} {oc3 kV3 dc3 pm3 cd3 ct3 : Value}
    (a3 : PySem.W.nsIn K mainGlobals "is_ratio" = some (some (.ref f3))) (l3 : K.lookup f3 = some ⟨oc3, od3, .func (PySem.W.fnOf "is_ratio" "is_ratio" (defArgs s_is_ratio) (defBody s_is_ratio) (defScope s_is_ratio) .none kV3 dc3 pm3 an3 cd3 ct3), sl3⟩) (c3 : PySem.W.codeIn K cd3 "is_ratio" = true) (k3 : PySem.W.keepIn K (.ref f3) = true)
    {f4 : Addr} {od4 an4 : Option Addr} {sl4 : Array (Option Value)} {oc4 kV4 dc4 pm4 cd4 ct4 : Value}
    (a4 : PySem.W.nsIn K mainGlobals "less" = some (some (.ref f4))) (l4 : K.lookup f4 = some ⟨oc4, od4, .func (PySem.W.fnOf "less" "less" (defArgs s_less) (defBody s_less) (defScope s_less) .none kV4 dc4 pm4 an4 cd4 ct4), sl4⟩) (c4 : PySem.W.codeIn K cd4 "less" = true) (k4 : PySem.W.keepIn K (.ref f4) = true)
    {f5 : Addr} {od5 an5 : Option Addr} {sl5 : Array (Option Value)} {oc5 kV5 dc5 pm5 cd5 ct5 : Value}
    (a5 : PySem.W.nsIn K mainGlobals "is_wall" = some (some (.ref f5))) (l5 : K.lookup f5 = some ⟨oc5, od5, .func (PySem.W.fnOf "is_wall" "is_wall" (defArgs s_is_wall) (defBody s_is_wall) (defScope s_is_wall) .none kV5 dc5 pm5 an5 cd5 ct5), sl5⟩) (c5 : PySem.W.codeIn K cd5 "is_wall" = true) (k5 : PySem.W.keepIn K (.ref f5) = true)
    {f6 : Addr} {od6 an6 : Option Addr} {sl6 : Array (Option Value)} {oc6 kV6 dc6 pm6 cd6 ct6 : Value}
    (a6 : PySem.W.nsIn K mainGlobals "is_wall_pair" = some (some (.ref f6))) (l6 : K.lookup f6 = some ⟨oc6, od6, .func (PySem.W.fnOf "is_wall_pair" "is_wall_pair" (defArgs s_is_wall_pair) (defBody s_is_wall_pair) (defScope s_is_wall_pair) .none kV6 dc6 pm6 an6 cd6 ct6), sl6⟩) (c6 : PySem.W.codeIn K cd6 "is_wall_pair" = true) (k6 : PySem.W.keepIn K (.ref f6) = true)
    {f7 : Addr} {od7 an7 : Option Addr} {sl7 : Array (Option Value)} {oc7 kV7 dc7 pm7 cd7 ct7 : Value}
    (a7 : PySem.W.nsIn K mainGlobals "walls_good" = some (some (.ref f7))) (l7 : K.lookup f7 = some ⟨oc7, od7, .func (PySem.W.fnOf "walls_good" "walls_good" (defArgs s_walls_good) (defBody s_walls_good) (defScope s_walls_good) .none kV7 dc7 pm7 an7 cd7 ct7), sl7⟩) (c7 : PySem.W.codeIn K cd7 "walls_good" = true) (k7 : PySem.W.keepIn K (.ref f7) = true)
    {f8 : Addr} {od8 an8 : Option Addr} {sl8 : Array (Option Value)} {oc8 kV8 dc8 pm8 cd8 ct8 : Value}
    (a8 : PySem.W.nsIn K mainGlobals "is_ball_form" = some (some (.ref f8))) (l8 : K.lookup f8 = some ⟨oc8, od8, .func (PySem.W.fnOf "is_ball_form" "is_ball_form" (defArgs s_is_ball_form) (defBody s_is_ball_form) (defScope s_is_ball_form) .none kV8 dc8 pm8 an8 cd8 ct8), sl8⟩) (c8 : PySem.W.codeIn K cd8 "is_ball_form" = true) (k8 : PySem.W.keepIn K (.ref f8) = true)
    {f9 : Addr} {od9 an9 : Option Addr} {sl9 : Array (Option Value)} {oc9 kV9 dc9 pm9 cd9 ct9 : Value}
    (a9 : PySem.W.nsIn K mainGlobals "is_weight" = some (some (.ref f9))) (l9 : K.lookup f9 = some ⟨oc9, od9, .func (PySem.W.fnOf "is_weight" "is_weight" (defArgs s_is_weight) (defBody s_is_weight) (defScope s_is_weight) .none kV9 dc9 pm9 an9 cd9 ct9), sl9⟩) (c9 : PySem.W.codeIn K cd9 "is_weight" = true) (k9 : PySem.W.keepIn K (.ref f9) = true)
    {f10 : Addr} {od10 an10 : Option Addr} {sl10 : Array (Option Value)} {oc10 kV10 dc10 pm10 cd10 ct10 : Value}
    (a10 : PySem.W.nsIn K mainGlobals "is_ball" = some (some (.ref f10))) (l10 : K.lookup f10 = some ⟨oc10, od10, .func (PySem.W.fnOf "is_ball" "is_ball" (defArgs s_is_ball) (defBody s_is_ball) (defScope s_is_ball) .none kV10 dc10 pm10 an10 cd10 ct10), sl10⟩) (c10 : PySem.W.codeIn K cd10 "is_ball" = true) (k10 : PySem.W.keepIn K (.ref f10) = true)
    {f11 : Addr} {od11 an11 : Option Addr} {sl11 : Array (Option Value)} {oc11 kV11 dc11 pm11 cd11 ct11 : Value}
    (a11 : PySem.W.nsIn K mainGlobals "follows" = some (some (.ref f11))) (l11 : K.lookup f11 = some ⟨oc11, od11, .func (PySem.W.fnOf "follows" "follows" (defArgs s_follows) (defBody s_follows) (defScope s_follows) .none kV11 dc11 pm11 an11 cd11 ct11), sl11⟩) (c11 : PySem.W.codeIn K cd11 "follows" = true) (k11 : PySem.W.keepIn K (.ref f11) = true)
    {f12 : Addr} {od12 an12 : Option Addr} {sl12 : Array (Option Value)} {oc12 kV12 dc12 pm12 cd12 ct12 : Value}
    (a12 : PySem.W.nsIn K mainGlobals "is_ordered" = some (some (.ref f12))) (l12 : K.lookup f12 = some ⟨oc12, od12, .func (PySem.W.fnOf "is_ordered" "is_ordered" (defArgs s_is_ordered) (defBody s_is_ordered) (defScope s_is_ordered) .none kV12 dc12 pm12 an12 cd12 ct12), sl12⟩) (c12 : PySem.W.codeIn K cd12 "is_ordered" = true) (k12 : PySem.W.keepIn K (.ref f12) = true)
    {f13 : Addr} {od13 an13 : Option Addr} {sl13 : Array (Option Value)} {oc13 kV13 dc13 pm13 cd13 ct13 : Value}
    (a13 : PySem.W.nsIn K mainGlobals "keeps_side" = some (some (.ref f13))) (l13 : K.lookup f13 = some ⟨oc13, od13, .func (PySem.W.fnOf "keeps_side" "keeps_side" (defArgs s_keeps_side) (defBody s_keeps_side) (defScope s_keeps_side) .none kV13 dc13 pm13 an13 cd13 ct13), sl13⟩) (c13 : PySem.W.codeIn K cd13 "keeps_side" = true) (k13 : PySem.W.keepIn K (.ref f13) = true)
    {f14 : Addr} {od14 an14 : Option Addr} {sl14 : Array (Option Value)} {oc14 kV14 dc14 pm14 cd14 ct14 : Value}
    (a14 : PySem.W.nsIn K mainGlobals "is_between" = some (some (.ref f14))) (l14 : K.lookup f14 = some ⟨oc14, od14, .func (PySem.W.fnOf "is_between" "is_between" (defArgs s_is_between) (defBody s_is_between) (defScope s_is_between) .none kV14 dc14 pm14 an14 cd14 ct14), sl14⟩) (c14 : PySem.W.codeIn K cd14 "is_between" = true) (k14 : PySem.W.keepIn K (.ref f14) = true)
    {f15 : Addr} {od15 an15 : Option Addr} {sl15 : Array (Option Value)} {oc15 kV15 dc15 pm15 cd15 ct15 : Value}
    (a15 : PySem.W.nsIn K mainGlobals "is_row" = some (some (.ref f15))) (l15 : K.lookup f15 = some ⟨oc15, od15, .func (PySem.W.fnOf "is_row" "is_row" (defArgs s_is_row) (defBody s_is_row) (defScope s_is_row) .none kV15 dc15 pm15 an15 cd15 ct15), sl15⟩) (c15 : PySem.W.codeIn K cd15 "is_row" = true) (k15 : PySem.W.keepIn K (.ref f15) = true)
    {f16 : Addr} {od16 an16 : Option Addr} {sl16 : Array (Option Value)} {oc16 kV16 dc16 pm16 cd16 ct16 : Value}
    (a16 : PySem.W.nsIn K mainGlobals "_law_cell" = some (some (.ref f16))) (l16 : K.lookup f16 = some ⟨oc16, od16, .func (PySem.W.fnOf "_law_cell" "_law_cell" (defArgs s_law_cell) (defBody s_law_cell) (defScope s_law_cell) .none kV16 dc16 pm16 an16 cd16 ct16), sl16⟩) (c16 : PySem.W.codeIn K cd16 "_law_cell" = true) (k16 : PySem.W.keepIn K (.ref f16) = true)
    {f17 : Addr} {od17 an17 : Option Addr} {sl17 : Array (Option Value)} {oc17 kV17 dc17 pm17 cd17 ct17 : Value}
    (a17 : PySem.W.nsIn K mainGlobals "_law_dig" = some (some (.ref f17))) (l17 : K.lookup f17 = some ⟨oc17, od17, .func (PySem.W.fnOf "_law_dig" "_law_dig" (defArgs s_law_dig) (defBody s_law_dig) (defScope s_law_dig) .none kV17 dc17 pm17 an17 cd17 ct17), sl17⟩) (c17 : PySem.W.codeIn K cd17 "_law_dig" = true) (k17 : PySem.W.keepIn K (.ref f17) = true)
    {f18 : Addr} {od18 an18 : Option Addr} {sl18 : Array (Option Value)} {oc18 kV18 dc18 pm18 cd18 ct18 : Value}
    (a18 : PySem.W.nsIn K mainGlobals "_law_next" = some (some (.ref f18))) (l18 : K.lookup f18 = some ⟨oc18, od18, .func (PySem.W.fnOf "_law_next" "_law_next" (defArgs s_law_next) (defBody s_law_next) (defScope s_law_next) .none kV18 dc18 pm18 an18 cd18 ct18), sl18⟩) (c18 : PySem.W.codeIn K cd18 "_law_next" = true) (k18 : PySem.W.keepIn K (.ref f18) = true)
    {f19 : Addr} {od19 an19 : Option Addr} {sl19 : Array (Option Value)} {oc19 kV19 dc19 pm19 cd19 ct19 : Value}
    (a19 : PySem.W.nsIn K mainGlobals "_law_lowest" = some (some (.ref f19))) (l19 : K.lookup f19 = some ⟨oc19, od19, .func (PySem.W.fnOf "_law_lowest" "_law_lowest" (defArgs s_law_lowest) (defBody s_law_lowest) (defScope s_law_lowest) .none kV19 dc19 pm19 an19 cd19 ct19), sl19⟩) (c19 : PySem.W.codeIn K cd19 "_law_lowest" = true) (k19 : PySem.W.keepIn K (.ref f19) = true)
    {f20 : Addr} {od20 an20 : Option Addr} {sl20 : Array (Option Value)} {oc20 kV20 dc20 pm20 cd20 ct20 : Value}
    (a20 : PySem.W.nsIn K mainGlobals "_law_far" = some (some (.ref f20))) (l20 : K.lookup f20 = some ⟨oc20, od20, .func (PySem.W.fnOf "_law_far" "_law_far" (defArgs s_law_far) (defBody s_law_far) (defScope s_law_far) .none kV20 dc20 pm20 an20 cd20 ct20), sl20⟩) (c20 : PySem.W.codeIn K cd20 "_law_far" = true) (k20 : PySem.W.keepIn K (.ref f20) = true)
    {f21 : Addr} {od21 an21 : Option Addr} {sl21 : Array (Option Value)} {oc21 kV21 dc21 pm21 cd21 ct21 : Value}
    (a21 : PySem.W.nsIn K mainGlobals "_law_ratio" = some (some (.ref f21))) (l21 : K.lookup f21 = some ⟨oc21, od21, .func (PySem.W.fnOf "_law_ratio" "_law_ratio" (defArgs s_law_ratio) (defBody s_law_ratio) (defScope s_law_ratio) .none kV21 dc21 pm21 an21 cd21 ct21), sl21⟩) (c21 : PySem.W.codeIn K cd21 "_law_ratio" = true) (k21 : PySem.W.keepIn K (.ref f21) = true)
    {f22 : Addr} {od22 an22 : Option Addr} {sl22 : Array (Option Value)} {oc22 kV22 dc22 pm22 cd22 ct22 : Value}
    (a22 : PySem.W.nsIn K mainGlobals "_law_row" = some (some (.ref f22))) (l22 : K.lookup f22 = some ⟨oc22, od22, .func (PySem.W.fnOf "_law_row" "_law_row" (defArgs s_law_row) (defBody s_law_row) (defScope s_law_row) .none kV22 dc22 pm22 an22 cd22 ct22), sl22⟩) (c22 : PySem.W.codeIn K cd22 "_law_row" = true) (k22 : PySem.W.keepIn K (.ref f22) = true)
    {f23 : Addr} {od23 an23 : Option Addr} {sl23 : Array (Option Value)} {oc23 kV23 dc23 pm23 cd23 ct23 : Value}
    (a23 : PySem.W.nsIn K mainGlobals "_law_less" = some (some (.ref f23))) (l23 : K.lookup f23 = some ⟨oc23, od23, .func (PySem.W.fnOf "_law_less" "_law_less" (defArgs s_law_less) (defBody s_law_less) (defScope s_law_less) .none kV23 dc23 pm23 an23 cd23 ct23), sl23⟩) (c23 : PySem.W.codeIn K cd23 "_law_less" = true) (k23 : PySem.W.keepIn K (.ref f23) = true)
    {f24 : Addr} {od24 an24 : Option Addr} {sl24 : Array (Option Value)} {oc24 kV24 dc24 pm24 cd24 ct24 : Value}
    (a24 : PySem.W.nsIn K mainGlobals "_law_sum" = some (some (.ref f24))) (l24 : K.lookup f24 = some ⟨oc24, od24, .func (PySem.W.fnOf "_law_sum" "_law_sum" (defArgs s_law_sum) (defBody s_law_sum) (defScope s_law_sum) .none kV24 dc24 pm24 an24 cd24 ct24), sl24⟩) (c24 : PySem.W.codeIn K cd24 "_law_sum" = true) (k24 : PySem.W.keepIn K (.ref f24) = true)
    {f25 : Addr} {od25 an25 : Option Addr} {sl25 : Array (Option Value)} {oc25 kV25 dc25 pm25 cd25 ct25 : Value}
    (a25 : PySem.W.nsIn K mainGlobals "_law_product" = some (some (.ref f25))) (l25 : K.lookup f25 = some ⟨oc25, od25, .func (PySem.W.fnOf "_law_product" "_law_product" (defArgs s_law_product) (defBody s_law_product) (defScope s_law_product) .none kV25 dc25 pm25 an25 cd25 ct25), sl25⟩) (c25 : PySem.W.codeIn K cd25 "_law_product" = true) (k25 : PySem.W.keepIn K (.ref f25) = true)
    {f26 : Addr} {od26 an26 : Option Addr} {sl26 : Array (Option Value)} {oc26 kV26 dc26 pm26 cd26 ct26 : Value}
    (a26 : PySem.W.nsIn K mainGlobals "_law_bound" = some (some (.ref f26))) (l26 : K.lookup f26 = some ⟨oc26, od26, .func (PySem.W.fnOf "_law_bound" "_law_bound" (defArgs s_law_bound) (defBody s_law_bound) (defScope s_law_bound) .none kV26 dc26 pm26 an26 cd26 ct26), sl26⟩) (c26 : PySem.W.codeIn K cd26 "_law_bound" = true) (k26 : PySem.W.keepIn K (.ref f26) = true)
    {f27 : Addr} {od27 an27 : Option Addr} {sl27 : Array (Option Value)} {oc27 kV27 dc27 pm27 cd27 ct27 : Value}
    (a27 : PySem.W.nsIn K mainGlobals "_law_bounds" = some (some (.ref f27))) (l27 : K.lookup f27 = some ⟨oc27, od27, .func (PySem.W.fnOf "_law_bounds" "_law_bounds" (defArgs s_law_bounds) (defBody s_law_bounds) (defScope s_law_bounds) .none kV27 dc27 pm27 an27 cd27 ct27), sl27⟩) (c27 : PySem.W.codeIn K cd27 "_law_bounds" = true) (k27 : PySem.W.keepIn K (.ref f27) = true)
    {f28 : Addr} {od28 an28 : Option Addr} {sl28 : Array (Option Value)} {oc28 kV28 dc28 pm28 cd28 ct28 : Value}
    (a28 : PySem.W.nsIn K mainGlobals "_law_put" = some (some (.ref f28))) (l28 : K.lookup f28 = some ⟨oc28, od28, .func (PySem.W.fnOf "_law_put" "_law_put" (defArgs s_law_put) (defBody s_law_put) (defScope s_law_put) .none kV28 dc28 pm28 an28 cd28 ct28), sl28⟩) (c28 : PySem.W.codeIn K cd28 "_law_put" = true) (k28 : PySem.W.keepIn K (.ref f28) = true)
    {f29 : Addr} {od29 an29 : Option Addr} {sl29 : Array (Option Value)} {oc29 kV29 dc29 pm29 cd29 ct29 : Value}
    (a29 : PySem.W.nsIn K mainGlobals "_law_bent_balls" = some (some (.ref f29))) (l29 : K.lookup f29 = some ⟨oc29, od29, .func (PySem.W.fnOf "_law_bent_balls" "_law_bent_balls" (defArgs s_law_bent_balls) (defBody s_law_bent_balls) (defScope s_law_bent_balls) .none kV29 dc29 pm29 an29 cd29 ct29), sl29⟩) (c29 : PySem.W.codeIn K cd29 "_law_bent_balls" = true) (k29 : PySem.W.keepIn K (.ref f29) = true)
    {f30 : Addr} {od30 an30 : Option Addr} {sl30 : Array (Option Value)} {oc30 kV30 dc30 pm30 cd30 ct30 : Value}
    (a30 : PySem.W.nsIn K mainGlobals "_law_mixed" = some (some (.ref f30))) (l30 : K.lookup f30 = some ⟨oc30, od30, .func (PySem.W.fnOf "_law_mixed" "_law_mixed" (defArgs s_law_mixed) (defBody s_law_mixed) (defScope s_law_mixed) .none kV30 dc30 pm30 an30 cd30 ct30), sl30⟩) (c30 : PySem.W.codeIn K cd30 "_law_mixed" = true) (k30 : PySem.W.keepIn K (.ref f30) = true)
    {f31 : Addr} {od31 an31 : Option Addr} {sl31 : Array (Option Value)} {oc31 kV31 dc31 pm31 cd31 ct31 : Value}
    (a31 : PySem.W.nsIn K mainGlobals "_law_odd_bounds" = some (some (.ref f31))) (l31 : K.lookup f31 = some ⟨oc31, od31, .func (PySem.W.fnOf "_law_odd_bounds" "_law_odd_bounds" (defArgs s_law_odd_bounds) (defBody s_law_odd_bounds) (defScope s_law_odd_bounds) .none kV31 dc31 pm31 an31 cd31 ct31), sl31⟩) (c31 : PySem.W.codeIn K cd31 "_law_odd_bounds" = true) (k31 : PySem.W.keepIn K (.ref f31) = true)
    {f32 : Addr} {od32 an32 : Option Addr} {sl32 : Array (Option Value)} {oc32 kV32 dc32 pm32 cd32 ct32 : Value}
    (a32 : PySem.W.nsIn K mainGlobals "_law_longer" = some (some (.ref f32))) (l32 : K.lookup f32 = some ⟨oc32, od32, .func (PySem.W.fnOf "_law_longer" "_law_longer" (defArgs s_law_longer) (defBody s_law_longer) (defScope s_law_longer) .none kV32 dc32 pm32 an32 cd32 ct32), sl32⟩) (c32 : PySem.W.codeIn K cd32 "_law_longer" = true) (k32 : PySem.W.keepIn K (.ref f32) = true)
    {f33 : Addr} {od33 an33 : Option Addr} {sl33 : Array (Option Value)} {oc33 kV33 dc33 pm33 cd33 ct33 : Value}
    (a33 : PySem.W.nsIn K mainGlobals "_law_beside" = some (some (.ref f33))) (l33 : K.lookup f33 = some ⟨oc33, od33, .func (PySem.W.fnOf "_law_beside" "_law_beside" (defArgs s_law_beside) (defBody s_law_beside) (defScope s_law_beside) .none kV33 dc33 pm33 an33 cd33 ct33), sl33⟩) (c33 : PySem.W.codeIn K cd33 "_law_beside" = true) (k33 : PySem.W.keepIn K (.ref f33) = true)
    {f34 : Addr} {od34 an34 : Option Addr} {sl34 : Array (Option Value)} {oc34 kV34 dc34 pm34 cd34 ct34 : Value}
    (a34 : PySem.W.nsIn K mainGlobals "law" = some (some (.ref f34))) (l34 : K.lookup f34 = some ⟨oc34, od34, .func (PySem.W.fnOf "law" "law" (defArgs s_law) (defBody s_law) (defScope s_law) .none kV34 dc34 pm34 an34 cd34 ct34), sl34⟩) (c34 : PySem.W.codeIn K cd34 "law" = true) (k34 : PySem.W.keepIn K (.ref f34) = true)
    (z_isinstance : PySem.W.nsIn K mainGlobals "isinstance" = some none)
    (z_int : PySem.W.nsIn K mainGlobals "int" = some none)
    (z_bool : PySem.W.nsIn K mainGlobals "bool" = some none)
    (z_abs : PySem.W.nsIn K mainGlobals "abs" = some none)
    (z_len : PySem.W.nsIn K mainGlobals "len" = some none)
    (z_max : PySem.W.nsIn K mainGlobals "max" = some none)
    (z_min : PySem.W.nsIn K mainGlobals "min" = some none)
    (z_range : PySem.W.nsIn K mainGlobals "range" = some none)
    (z_tuple : PySem.W.nsIn K mainGlobals "tuple" = some none)
    (z_sum : PySem.W.nsIn K mainGlobals "sum" = some none)
    (z_all : PySem.W.nsIn K mainGlobals "all" = some none)
    (z_zip : PySem.W.nsIn K mainGlobals "zip" = some none)
    (z_list : PySem.W.nsIn K mainGlobals "list" = some none)
    {tk_MOST_BALLS : Tok} (v_MOST_BALLS : PySem.W.nsIn K mainGlobals "MOST_BALLS" = some (some (.int 8 tk_MOST_BALLS)))
    {tk_MOST_WEIGHT : Tok} (v_MOST_WEIGHT : PySem.W.nsIn K mainGlobals "MOST_WEIGHT" = some (some (.int 1000 tk_MOST_WEIGHT))) :
    ∃ fd : FuncData, (∀ (s : Shared) (v : Value), BindsTo s fd ⟨[v], []⟩ [("script", v)]) ∧ ∀ base : Heap, K.In base → base.Ns mainGlobals mg → FnOk l.prog w K mg base CX0 7 fa fd ["script"] (spLaw K) := by
  have e := hfa.symm.trans (PySem.W.mg_of X G a34)
  cases e
  have d_is_whole : Df K mg "is_whole" s_is_whole ["thing"] [] := df_mk l0 c0 k0 (PySem.W.mg_of X G a0) fun us hl => match us, hl with | [_], _ => rfl
  have d_is_tuple : Df K mg "is_tuple" s_is_tuple ["thing", "many"] [] := df_mk l1 c1 k1 (PySem.W.mg_of X G a1) fun us hl => match us, hl with | [_, _], _ => rfl
  have d_greatest_divisor : Df K mg "greatest_divisor" s_greatest_divisor ["one", "other"] [] := df_mk l2 c2 k2 (PySem.W.mg_of X G a2) fun us hl => match us, hl with | [_, _], _ => rfl
  have d_is_ratio : Df K mg "is_ratio" s_is_ratio ["thing"] [] := df_mk l3 c3 k3 (PySem.W.mg_of X G a3) fun us hl => match us, hl with | [_], _ => rfl
  have d_less : Df K mg "less" s_less ["one", "other"] [] := df_mk l4 c4 k4 (PySem.W.mg_of X G a4) fun us hl => match us, hl with | [_, _], _ => rfl
  have d_is_wall : Df K mg "is_wall" s_is_wall ["thing"] [] := df_mk l5 c5 k5 (PySem.W.mg_of X G a5) fun us hl => match us, hl with | [_], _ => rfl
  have d_is_wall_pair : Df K mg "is_wall_pair" s_is_wall_pair ["thing"] [] := df_mk l6 c6 k6 (PySem.W.mg_of X G a6) fun us hl => match us, hl with | [_], _ => rfl
  have d_walls_good : Df K mg "walls_good" s_walls_good ["thing"] [] := df_mk l7 c7 k7 (PySem.W.mg_of X G a7) fun us hl => match us, hl with | [_], _ => rfl
  have d_is_ball_form : Df K mg "is_ball_form" s_is_ball_form ["thing"] [] := df_mk l8 c8 k8 (PySem.W.mg_of X G a8) fun us hl => match us, hl with | [_], _ => rfl
  have d_is_weight : Df K mg "is_weight" s_is_weight ["thing"] [] := df_mk l9 c9 k9 (PySem.W.mg_of X G a9) fun us hl => match us, hl with | [_], _ => rfl
  have d_is_ball : Df K mg "is_ball" s_is_ball ["thing"] [] := df_mk l10 c10 k10 (PySem.W.mg_of X G a10) fun us hl => match us, hl with | [_], _ => rfl
  have d_follows : Df K mg "follows" s_follows ["left", "right"] [] := df_mk l11 c11 k11 (PySem.W.mg_of X G a11) fun us hl => match us, hl with | [_, _], _ => rfl
  have d_is_ordered : Df K mg "is_ordered" s_is_ordered ["row"] [] := df_mk l12 c12 k12 (PySem.W.mg_of X G a12) fun us hl => match us, hl with | [_], _ => rfl
  have d_keeps_side : Df K mg "keeps_side" s_keeps_side ["left", "right"] [] := df_mk l13 c13 k13 (PySem.W.mg_of X G a13) fun us hl => match us, hl with | [_, _], _ => rfl
  have d_is_between : Df K mg "is_between" s_is_between ["walls", "row"] [] := df_mk l14 c14 k14 (PySem.W.mg_of X G a14) fun us hl => match us, hl with | [_, _], _ => rfl
  have d_is_row : Df K mg "is_row" s_is_row ["walls", "thing"] [] := df_mk l15 c15 k15 (PySem.W.mg_of X G a15) fun us hl => match us, hl with | [_, _], _ => rfl
  have d_law_cell : Df K mg "_law_cell" s_law_cell ["script", "k"] [] := df_mk l16 c16 k16 (PySem.W.mg_of X G a16) fun us hl => match us, hl with | [_, _], _ => rfl
  have d_law_dig : Df K mg "_law_dig" s_law_dig ["cell"] [] := df_mk l17 c17 k17 (PySem.W.mg_of X G a17) fun us hl => match us, hl with | [_], _ => rfl
  have d_law_next : Df K mg "_law_next" s_law_next ["pool", "base"] [] := df_mk l18 c18 k18 (PySem.W.mg_of X G a18) fun us hl => match us, hl with | [_, _], _ => rfl
  have d_law_lowest : Df K mg "_law_lowest" s_law_lowest ["top", "bottom"] [] := df_mk l19 c19 k19 (PySem.W.mg_of X G a19) fun us hl => match us, hl with | [_, _], _ => rfl
  have d_law_far : Df K mg "_law_far" s_law_far ["pool"] [] := df_mk l20 c20 k20 (PySem.W.mg_of X G a20) fun us hl => match us, hl with | [_], _ => rfl
  have d_law_ratio : Df K mg "_law_ratio" s_law_ratio ["pool"] [] := df_mk l21 c21 k21 (PySem.W.mg_of X G a21) fun us hl => match us, hl with | [_], _ => rfl
  have d_law_row : Df K mg "_law_row" s_law_row ["pool", "most"] [] := df_mk l22 c22 k22 (PySem.W.mg_of X G a22) fun us hl => match us, hl with | [_, _], _ => rfl
  have d_law_less : Df K mg "_law_less" s_law_less ["one", "other"] [] := df_mk l23 c23 k23 (PySem.W.mg_of X G a23) fun us hl => match us, hl with | [_, _], _ => rfl
  have d_law_sum : Df K mg "_law_sum" s_law_sum ["one", "other"] [] := df_mk l24 c24 k24 (PySem.W.mg_of X G a24) fun us hl => match us, hl with | [_, _], _ => rfl
  have d_law_product : Df K mg "_law_product" s_law_product ["one", "other"] [] := df_mk l25 c25 k25 (PySem.W.mg_of X G a25) fun us hl => match us, hl with | [_, _], _ => rfl
  have d_law_bound : Df K mg "_law_bound" s_law_bound ["pool", "ball", "side"] [] := df_mk l26 c26 k26 (PySem.W.mg_of X G a26) fun us hl => match us, hl with | [_, _, _], _ => rfl
  have d_law_bounds : Df K mg "_law_bounds" s_law_bounds ["pool", "row"] [] := df_mk l27 c27 k27 (PySem.W.mg_of X G a27) fun us hl => match us, hl with | [_, _], _ => rfl
  have d_law_put : Df K mg "_law_put" s_law_put ["things", "at", "thing"] [] := df_mk l28 c28 k28 (PySem.W.mg_of X G a28) fun us hl => match us, hl with | [_, _, _], _ => rfl
  have d_law_bent_balls : Df K mg "_law_bent_balls" s_law_bent_balls ["row", "at"] [] := df_mk l29 c29 k29 (PySem.W.mg_of X G a29) fun us hl => match us, hl with | [_, _], _ => rfl
  have d_law_mixed : Df K mg "_law_mixed" s_law_mixed ["row", "at"] [] := df_mk l30 c30 k30 (PySem.W.mg_of X G a30) fun us hl => match us, hl with | [_, _], _ => rfl
  have d_law_odd_bounds : Df K mg "_law_odd_bounds" s_law_odd_bounds ["walls"] [] := df_mk l31 c31 k31 (PySem.W.mg_of X G a31) fun us hl => match us, hl with | [_], _ => rfl
  have d_law_longer : Df K mg "_law_longer" s_law_longer ["row", "many"] [] := df_mk l32 c32 k32 (PySem.W.mg_of X G a32) fun us hl => match us, hl with | [_, _], _ => rfl
  have d_law_beside : Df K mg "_law_beside" s_law_beside ["row"] [] := df_mk l33 c33 k33 (PySem.W.mg_of X G a33) fun us hl => match us, hl with | [_], _ => rfl
  have T : TxB K mg := ⟨kit_ii K, kit_ib K, PySem.W.mg_none_of X G z_isinstance, PySem.W.mg_none_of X G z_int, PySem.W.mg_none_of X G z_bool, PySem.W.mg_none_of X G z_abs, PySem.W.mg_none_of X G z_len, PySem.W.mg_none_of X G z_max, PySem.W.mg_none_of X G z_min, PySem.W.mg_none_of X G z_range, PySem.W.mg_none_of X G z_tuple, PySem.W.mg_none_of X G z_sum⟩
  have F := fun_mk (st := s_law) l34 c34 k34
  refine ⟨PySem.W.fnOf "law" "law" (defArgs s_law) (defBody s_law) (defScope s_law) .none kV34 dc34 pm34 an34 cd34 ct34, fun s v => .of_eq rfl, fun base hKb hGb => ?_⟩
  have T3 : Tx3 K mg tk_MOST_BALLS tk_MOST_WEIGHT 0 := ⟨PySem.W.mg_none_of X G z_all, PySem.W.mg_none_of X G z_zip, PySem.W.mg_none_of X G z_list, PySem.W.mg_of X G v_MOST_BALLS, PySem.W.mg_of X G v_MOST_WEIGHT, kit_tt K, kit_bb K⟩
  have cW := ok_wholeD (P := l.prog) (w := w) (base := base) d_is_whole T
  have cG := ok_gcd (P := l.prog) (w := w) (base := base) d_greatest_divisor
  have cTu := ok_tuD (P := l.prog) (w := w) (base := base) d_is_tuple T
  have cIr := ok_irD d_is_ratio T cTu cW cG
  have cLt := ok_lt (P := l.prog) (w := w) (base := base) d_less
  have cWa := ok_waD d_is_wall cTu cIr
  have cWp := ok_wpD d_is_wall_pair cTu cWa
  have cWg := ok_wgD d_walls_good cWp cLt
  have cBf := ok_bfD d_is_ball_form cTu cIr cW
  have cIw := ok_iwD d_is_weight T3 cW
  have cBa := ok_baD d_is_ball cBf cIw
  have cFo := ok_fo d_follows cLt
  have cOd := ok_od d_is_ordered T3 cFo
  have cKs := ok_ks d_keeps_side cFo
  have cBe := ok_be d_is_between cKs
  have cIs := ok_isD d_is_row T T3 cWg cBa cOd cBe
  have cC := ok_cell (P := l.prog) (w := w) (base := base) d_law_cell T
  have cD := ok_dig (P := l.prog) (w := w) (base := base) d_law_dig T
  have cN := ok_next (P := l.prog) (w := w) (base := base) d_law_next
  have cL := ok_low (P := l.prog) (w := w) (base := base) d_law_lowest T
  have cF := ok_far d_law_far T cN
  have cR := ok_rat d_law_ratio cN cF cL
  have cLe := ok_less (P := l.prog) (w := w) (base := base) d_law_less
  have cS := ok_lsum d_law_sum cL
  have cPr := ok_lprod d_law_product cL
  have cRow := ok_row d_law_row T cN cR cL cLe cS
  have cBo := ok_bo d_law_bound cN cR cL cLe cPr cS
  have cBs := ok_bs d_law_bounds cBo cLe
  have cPut := ok_put (P := l.prog) (w := w) (base := base) d_law_put
  have cBB := ok_bb d_law_bent_balls T3 cPut
  have cMX := ok_mx d_law_mixed T3 cS
  have cOB := ok_ob d_law_odd_bounds T3 cS
  have cBes := ok_bes d_law_beside cS
  have cLg := ok_lg d_law_longer T cS
  exact ok_law F T T3 cC cD cN cRow cBs cWg cIs cBB cMX cOB cBes cLg
theorem walk {l : PySem.W.OpenLaw} {q : Program} {loose : List Str} {XP : (Str → Option Value) → Heap → Prop} {YP : World → Heap → Prop} {d : DefRec} {K : Params → PySem.W.Frag} (hn : l.most = some 63) (hdf : d.params.defaults = [])
    (hY : ∀ (w : World) (h : Heap), YP w h → (K w.params).In h)
    (F : ∀ (w : World) (mg : Str → Option Value) (fa : Addr) (h : Heap), (K w.params).In h → h.Ns mainGlobals mg → mg d.name = some (.ref fa) →
      ∃ fd : FuncData, (∀ (s : Shared) (u : Value), BindsTo s fd ⟨[u], []⟩ [("script", u)]) ∧ ∀ base : Heap, (K w.params).In base → base.Ns mainGlobals mg → FnOk l.prog w (K w.params) mg base CX0 7 fa fd ["script"] (spLaw (K w.params))) :
    PySem.W.WalkO q loose XP YP l.row.toRowW d [] (fun f vs => PySem.call f vs) :=
  L2.walk_of (n := 63) (k := 7) (x := "script") (CX := fun _ => CX0) (sp := fun w => spLaw (K w.params)) hn (by decide) hdf ⟨rfl, by decide, by decide⟩ hY F (fun _ _ a ns hl _ hS => ⟨a, ns, rfl, hS, hl, fun _ => rfl⟩) fun _ _ _ _ _ z => z
end KK
open PySem PySem.W PyProof.Rows
set_option maxRecDepth 100000 in
set_option maxHeartbeats 0 in
theorem PySem.Challenge.cw_clackrow_k04_what_is_no_row_holds : PySem.Challenge.rw_clackrow_k04_what_is_no_row.Holds := by
  w_on; o_law; k_head; (case hw => w_witness2)
  k_fill
  refine KK.walk (l := PySem.Challenge.rw_clackrow_k04_what_is_no_row) rfl rfl (fun w h Y => PySem.W.kIn_of Y) ?F
  case F =>
    intro w mg fa h KX G hmg
    refine' KK.all_mk KX G hmg ?a0 ?l0 ?c0 ?k0 ?a1 ?l1 ?c1 ?k1 ?a2 ?l2 ?c2 ?k2 ?a3 ?l3 ?c3 ?k3 ?a4 ?l4 ?c4 ?k4 ?a5 ?l5 ?c5 ?k5 ?a6 ?l6 ?c6 ?k6 ?a7 ?l7 ?c7 ?k7 ?a8 ?l8 ?c8 ?k8 ?a9 ?l9 ?c9 ?k9 ?a10 ?l10 ?c10 ?k10 ?a11 ?l11 ?c11 ?k11 ?a12 ?l12 ?c12 ?k12 ?a13 ?l13 ?c13 ?k13 ?a14 ?l14 ?c14 ?k14 ?a15 ?l15 ?c15 ?k15 ?a16 ?l16 ?c16 ?k16 ?a17 ?l17 ?c17 ?k17 ?a18 ?l18 ?c18 ?k18 ?a19 ?l19 ?c19 ?k19 ?a20 ?l20 ?c20 ?k20 ?a21 ?l21 ?c21 ?k21 ?a22 ?l22 ?c22 ?k22 ?a23 ?l23 ?c23 ?k23 ?a24 ?l24 ?c24 ?k24 ?a25 ?l25 ?c25 ?k25 ?a26 ?l26 ?c26 ?k26 ?a27 ?l27 ?c27 ?k27 ?a28 ?l28 ?c28 ?k28 ?a29 ?l29 ?c29 ?k29 ?a30 ?l30 ?c30 ?k30 ?a31 ?l31 ?c31 ?k31 ?a32 ?l32 ?c32 ?k32 ?a33 ?l33 ?c33 ?k33 ?a34 ?l34 ?c34 ?k34 ?z_isinstance ?z_int ?z_bool ?z_abs ?z_len ?z_max ?z_min ?z_range ?z_tuple ?z_sum ?z_all ?z_zip ?z_list ?v_MOST_BALLS ?v_MOST_WEIGHT
    (case a0 => k_is)
    (case l0 => k_is)
    (case c0 => k_is)
    (case k0 => k_is)
    (case a1 => k_is)
    (case l1 => k_is)
    (case c1 => k_is)
    (case k1 => k_is)
    (case a2 => k_is)
    (case l2 => k_is)
    (case c2 => k_is)
    (case k2 => k_is)
    (case a3 => k_is)
    (case l3 => k_is)
    (case c3 => k_is)
    (case k3 => k_is)
    (case a4 => k_is)
    (case l4 => k_is)
    (case c4 => k_is)
    (case k4 => k_is)
    (case a5 => k_is)
    (case l5 => k_is)
    (case c5 => k_is)
    (case k5 => k_is)
    (case a6 => k_is)
    (case l6 => k_is)
    (case c6 => k_is)
    (case k6 => k_is)
    (case a7 => k_is)
    (case l7 => k_is)
    (case c7 => k_is)
    (case k7 => k_is)
    (case a8 => k_is)
    (case l8 => k_is)
    (case c8 => k_is)
    (case k8 => k_is)
    (case a9 => k_is)
    (case l9 => k_is)
    (case c9 => k_is)
    (case k9 => k_is)
    (case a10 => k_is)
    (case l10 => k_is)
    (case c10 => k_is)
    (case k10 => k_is)
    (case a11 => k_is)
    (case l11 => k_is)
    (case c11 => k_is)
    (case k11 => k_is)
    (case a12 => k_is)
    (case l12 => k_is)
    (case c12 => k_is)
    (case k12 => k_is)
    (case a13 => k_is)
    (case l13 => k_is)
    (case c13 => k_is)
    (case k13 => k_is)
    (case a14 => k_is)
    (case l14 => k_is)
    (case c14 => k_is)
    (case k14 => k_is)
    (case a15 => k_is)
    (case l15 => k_is)
    (case c15 => k_is)
    (case k15 => k_is)
    (case a16 => k_is)
    (case l16 => k_is)
    (case c16 => k_is)
    (case k16 => k_is)
    (case a17 => k_is)
    (case l17 => k_is)
    (case c17 => k_is)
    (case k17 => k_is)
    (case a18 => k_is)
    (case l18 => k_is)
    (case c18 => k_is)
    (case k18 => k_is)
    (case a19 => k_is)
    (case l19 => k_is)
    (case c19 => k_is)
    (case k19 => k_is)
    (case a20 => k_is)
    (case l20 => k_is)
    (case c20 => k_is)
    (case k20 => k_is)
    (case a21 => k_is)
    (case l21 => k_is)
    (case c21 => k_is)
    (case k21 => k_is)
    (case a22 => k_is)
    (case l22 => k_is)
    (case c22 => k_is)
    (case k22 => k_is)
    (case a23 => k_is)
    (case l23 => k_is)
    (case c23 => k_is)
    (case k23 => k_is)
    (case a24 => k_is)
    (case l24 => k_is)
    (case c24 => k_is)
    (case k24 => k_is)
    (case a25 => k_is)
    (case l25 => k_is)
    (case c25 => k_is)
    (case k25 => k_is)
    (case a26 => k_is)
    (case l26 => k_is)
    (case c26 => k_is)
    (case k26 => k_is)
    (case a27 => k_is)
    (case l27 => k_is)
    (case c27 => k_is)
    (case k27 => k_is)
    (case a28 => k_is)
    (case l28 => k_is)
    (case c28 => k_is)
    (case k28 => k_is)
    (case a29 => k_is)
    (case l29 => k_is)
    (case c29 => k_is)
    (case k29 => k_is)
    (case a30 => k_is)
    (case l30 => k_is)
    (case c30 => k_is)
    (case k30 => k_is)
    (case a31 => k_is)
    (case l31 => k_is)
    (case c31 => k_is)
    (case k31 => k_is)
    (case a32 => k_is)
    (case l32 => k_is)
    (case c32 => k_is)
    (case k32 => k_is)
    (case a33 => k_is)
    (case l33 => k_is)
    (case c33 => k_is)
    (case k33 => k_is)
    (case a34 => k_is)
    (case l34 => k_is)
    (case c34 => k_is)
    (case k34 => k_is)
    (case z_isinstance => k_is)
    (case z_int => k_is)
    (case z_bool => k_is)
    (case z_abs => k_is)
    (case z_len => k_is)
    (case z_max => k_is)
    (case z_min => k_is)
    (case z_range => k_is)
    (case z_tuple => k_is)
    (case z_sum => k_is)
    (case z_all => k_is)
    (case z_zip => k_is)
    (case z_list => k_is)
    (case v_MOST_BALLS => k_is)
    (case v_MOST_WEIGHT => k_is)
end
