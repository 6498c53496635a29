import PyProof.Rows.All
import Wide.All
import OpenK.AllK
import Wide.FinOn
import Lean
import PyProof.EqAt
import PyProof.EqKinds
import PyProof.TupleCall
import PySem.Challenge.RW_bitlead_k24_other_papers
set_option Elab.async false
set_option linter.all false
set_option maxRecDepth 100000
namespace L2
open PySem PySem.Spec PyProof.Rows

noncomputable abbrev Key := Sum Int Str
noncomputable def keyIs : Key → Value → Bool
  | .inl k, v => Value.isInt k v
  | .inr x, v => Value.isStrOf x v
noncomputable def keyH (w : World) : Key → Int
  | .inl k => hashInt k
  | .inr x => hashStr w x
theorem keyIs_shape : ∀ {k : Key} {v : Value}, keyIs k v = true → (∃ i t, k = Sum.inl i ∧ v = Value.int i t) ∨ (∃ x t, k = Sum.inr x ∧ v = Value.str x t)
  | .inl i, v, h => by
    obtain ⟨t, e⟩ := Value.isInt_shape (k := i) (v := v) h
    exact .inl ⟨i, t, rfl, e⟩
  | .inr x, v, h => by
    obtain ⟨t, e⟩ := Value.isStrOf_shape (x := x) (v := v) h
    exact .inr ⟨x, t, rfl, e⟩
theorem keyIs_int (i : Int) (t : Tok) : keyIs (.inl i) (.int i t) = true := by simp [keyIs, Value.isInt]
theorem keyIs_str (x : Str) (t : Tok) : keyIs (.inr x) (.str x t) = true := by simp [keyIs, Value.isStrOf]
theorem key_ll (a b : Int) : decide ((Sum.inl a : Key) = Sum.inl b) = (a == b) := by
  by_cases e : a = b
  · subst e; simp
  · have h : ¬ (Sum.inl a : Key) = Sum.inl b := fun q => e (Sum.inl.inj q)
    rw [decide_eq_false h]
    exact (beq_eq_false_iff_ne.mpr e).symm
theorem key_rr (a b : Str) : decide ((Sum.inr a : Key) = Sum.inr b) = decide (a = b) := by
  by_cases e : a = b
  · subst e; simp
  · have h : ¬ (Sum.inr a : Key) = Sum.inr b := fun q => e (Sum.inr.inj q)
    rw [decide_eq_false h, decide_eq_false e]
theorem key_lr (a : Int) (b : Str) : decide ((Sum.inl a : Key) = Sum.inr b) = false := decide_eq_false (fun q => nomatch q)
theorem key_rl (a : Str) (b : Int) : decide ((Sum.inr a : Key) = Sum.inl b) = false := decide_eq_false (fun q => nomatch q)

noncomputable def mixKind (prog : Program) (w : World) : PySem.KeyKind prog w Key where
  is := keyIs
  hash := keyH w
  inj := fun v a b ha hb => by
    rcases keyIs_shape ha with ⟨i, t, rfl, rfl⟩ | ⟨x, t, rfl, rfl⟩
    · rcases keyIs_shape hb with ⟨j, u, rfl, e⟩ | ⟨y, u, rfl, e⟩
      · injection e with e1 _; rw [e1]
      · exact nomatch e
    · rcases keyIs_shape hb with ⟨j, u, rfl, e⟩ | ⟨y, u, rfl, e⟩
      · exact nomatch e
      · injection e with e1 _; rw [e1]
  byValue := fun k v h => by
    rcases keyIs_shape h with ⟨i, t, rfl, rfl⟩ | ⟨x, t, rfl, rfl⟩ <;> rfl
  pyHash := fun hv h => by
    rcases keyIs_shape hv with ⟨i, t, rfl, rfl⟩ | ⟨x, t, rfl, rfl⟩
    · exact wpAny_pyHash_int h
    · exact wpAny_pyHash_str h
  eqBool := fun hu hv h => by
    rcases keyIs_shape hu with ⟨i, t, rfl, rfl⟩ | ⟨x, t, rfl, rfl⟩
    · rcases keyIs_shape hv with ⟨j, u, rfl, rfl⟩ | ⟨y, u, rfl, rfl⟩
      · rw [key_ll] at h; exact wpAny_eqBool_int h
      · rw [key_lr] at h; exact SeqAt.EqAt.int_str i t y u _ _ _ _ h
    · rcases keyIs_shape hv with ⟨j, u, rfl, rfl⟩ | ⟨y, u, rfl, rfl⟩
      · rw [key_rl] at h; exact SeqAt.EqAt.str_int x t j u _ _ _ _ h
      · rw [key_rr] at h; exact wpAny_eqBool_str h
  «strs» := fun k x t v h => by
    rcases keyIs_shape h with ⟨i, u, rfl, e⟩ | ⟨y, u, rfl, e⟩
    · exact nomatch e
    · injection e with e1 _
      subst e1
      cases v <;> rfl

theorem mixKind_int (prog : Program) (w : World) (i : Int) (t : Tok) : (mixKind prog w).is (.inl i) (.int i t) = true := keyIs_int i t
theorem mixKind_str (prog : Program) (w : World) (x : Str) (t : Tok) : (mixKind prog w).is (.inr x) (.str x t) = true := keyIs_str x t
end L2

namespace L2
open PySem PySem.Spec PyProof.Rows

inductive V where
  | non | bl (b : Bool) | int (i : Int) | str (x : Str) | byt (b : Array UInt8) | flt (b : UInt64) | ref (a : Addr) | ty (n : String)
  deriving DecidableEq

noncomputable def RelV : V → Value → Prop
  | .non, u => u = Value.none
  | .bl b, u => u = Value.bool b
  | .int i, u => ∃ t, u = Value.int i t
  | .str x, u => ∃ t, u = Value.str x t
  | .byt b, u => ∃ t, u = Value.bytes b t
  | .flt b, u => ∃ t, u = Value.float b t
  | .ref a, u => u = Value.ref a
  | .ty n, u => u = Value.type n

noncomputable abbrev Vals : List V → List Value → Prop := Paired RelV
theorem Vals.length {xs : List V} {us : List Value} (r : Vals xs us) : xs.length = us.length := Paired.length r
theorem Vals.get : ∀ {xs : List V} {us : List Value} {i : Nat} {x : V}, Vals xs us → xs[i]? = some x → ∃ u, us[i]? = some u ∧ RelV x u
  | _, _, _, _, .nil, e => by simp at e
  | _, _, 0, _, .cons r _, e => by simp at e; subst e; exact ⟨_, rfl, r⟩
  | _, _, i + 1, x, .cons _ t, e => by
    obtain ⟨u, h1, h2⟩ := Vals.get (i := i) (x := x) t (by simpa using e)
    exact ⟨u, by simpa using h1, h2⟩
theorem Vals.set {x : V} {u : Value} (r : RelV x u) : ∀ {xs : List V} {us : List Value} (i : Nat), Vals xs us → Vals (xs.set i x) (us.set i u)
  | _, _, _, .nil => .nil
  | _, _, 0, .cons _ t => .cons r t
  | _, _, i + 1, .cons q t => .cons q (Vals.set r i t)
theorem Vals.append : ∀ {xs ys : List V} {us ws : List Value}, Vals xs us → Vals ys ws → Vals (xs ++ ys) (us ++ ws)
  | _, _, _, _, .nil, s => s
  | _, _, _, _, .cons r t, s => .cons r (Vals.append t s)
theorem Vals.take : ∀ {xs : List V} {us : List Value} (n : Nat), Vals xs us → Vals (xs.take n) (us.take n)
  | _, _, 0, _ => .nil
  | _, _, _ + 1, .nil => .nil
  | _, _, n + 1, .cons r t => .cons r (Vals.take n t)
theorem Vals.drop : ∀ {xs : List V} {us : List Value} (n : Nat), Vals xs us → Vals (xs.drop n) (us.drop n)
  | _, _, 0, r => r
  | _, _, _ + 1, .nil => .nil
  | _, _, n + 1, .cons _ t => Vals.drop n t
noncomputable def RelO : Option V → Option Value → Prop
  | some v, some u => RelV v u
  | none, none => True
  | _, _ => False
noncomputable def KV {κ : Type} : List (κ × V) → List (κ × Value) → Prop := Paired fun (p : κ × V) (q : κ × Value) => p.1 = q.1 ∧ RelV p.2 q.2

noncomputable def kV : Key → V
  | .inl i => .int i
  | .inr x => .str x

inductive HO where
  /-- a list -/
  | lst (xs : List V)
  /-- a tuple (never changes) -/
  | tup (xs : List V)
  /-- a dict whose keys are ints and texts; one whose keys are tuples of ints and texts (the empty one is both) -/
  | dK (kvs : List (Key × V)) | dT (kvs : List (List Key × V))
  /-- a set of ints: its members, its size -/
  | set (S : Int → Bool) (n : Nat)
  /-- an instance of the class at C, its dict at dx, its attributes -/
  | ins (C dx : Addr) (fs : List (Str × V))
  /-- the dict of the instance at x -/
  | own (x : Addr)
  /-- the dict of an exception -/
  | xd (fs : List (Str × V))
  /-- a bound method, f of x -/
  | met (f x : Addr)
  /-- a range object lo, lo + 1, .. below hi -/
  | rng (lo hi : Int)
  /-- a thing that is known to the object (the script; a dict while a loop walks it): read, never written while it is so -/
  | frz (o : Obj) (u : HO)
  /-- a code object's table -/
  | tbl (ps : Array Value)
  /-- any other thing, by what is true of its one object (a def of one's own: SetO a S n := HO.ext fun h => ..) -/
  | ext (φ : Heap → Prop)

noncomputable abbrev Hp := Addr → Option HO
noncomputable def upd (H : Hp) (a : Addr) (o : HO) : Hp := fun b => if b = a then some o else H b
theorem upd_same {H : Hp} {a : Addr} {o : HO} : upd H a o a = some o := by unfold upd; rw [if_pos rfl]
theorem upd_ne {H : Hp} {a b : Addr} {o : HO} (h : b ≠ a) : upd H a o b = H b := by unfold upd; rw [if_neg h]
theorem upd_upd {H : Hp} {a : Addr} {o u : HO} : upd (upd H a o) a u = upd H a u := by
  funext b; unfold upd; split <;> rfl
theorem ne_of {H : Hp} {a b : Addr} {o u : HO} (h : H a = some o) (h' : H b = some u) (d : o ≠ u) : a ≠ b := by
  intro e; subst e; rw [h] at h'; exact d (Option.some.inj h')
theorem ne_of_none {H : Hp} {a b : Addr} {o : HO} (h : H a = some o) (h' : H b = none) : a ≠ b := by
  intro e; subst e; rw [h] at h'; cases h'

noncomputable def IsTupN (h : Heap) (a : Addr) (items : Array Value) : Prop := ∃ o, h.get? a = some o ∧ o.cls = .type "tuple" ∧ o.dict = none ∧ ∃ n, o.data = .seq items n
theorem IsTupN.tup {h : Heap} {a : Addr} {items : Array Value} (x : IsTupN h a items) : IsTup h a items := by
  obtain ⟨o, e, c, _, n⟩ := x
  exact ⟨o, e, c, n⟩
theorem IsTupN.lt {h : Heap} {a : Addr} {items : Array Value} (x : IsTupN h a items) : a < h.objs.size := x.tup.lt
theorem IsTupN.new (h : Heap) (items : Array Value) : IsTupN (h.push { cls := .type "tuple", data := .seq items }) h.objs.size items := ⟨_, Heap.get?_push_size _ rfl, rfl, rfl, _, rfl⟩
section
variable (P : Program) (w : World)
noncomputable def ObjOk (H : Hp) (h : Heap) (a : Addr) : HO → Prop
  | .lst xs => xs.length ≤ sizeLine ∧ ∃ (its : List Value) (n : Nat), Vals xs its ∧ h.get? a = some { cls := .type "list", data := .seq its.toArray n }
  | .tup xs => xs.length ≤ sizeLine ∧ ∃ its : List Value, Vals xs its ∧ IsTupN h a its.toArray
  | .dK kvs => kvs.length ≤ sizeLine ∧ (a == sysModules) = false ∧ ∃ vs, KV kvs vs ∧ h.DictOf (mixKind P w) a vs
  | .dT kvs => kvs.length ≤ sizeLine ∧ (a == sysModules) = false ∧ ∃ xs : List (List Key × Addr × Value),
      Paired (fun (p : List Key × V) (q : List Key × Addr × Value) => p.1 = q.1 ∧ H q.2.1 = some (.tup (p.1.map kV)) ∧ RelV p.2 q.2.2) kvs xs ∧
      ∃ o es ep, h.get? a = some o ∧ o.ExactDict ∧ o.data = .dict es ep ∧ es.toList = xs.map (entryOfKey (tupleKind (mixKind P w))) ∧ (xs.map (·.1)).Nodup
  | .set S n => h.SetOf (intKind P w) a S n
  | .ins C dx fs => H dx = some (.own a) ∧ fs.length ≤ 1000 ∧ dx ≠ a ∧ h.get? a = some (PySem.W.instObj C dx) ∧
      ∃ mA, h.Ns1 dx mA ∧ (∀ f, RelO (fs.lookup f) (mA f)) ∧ PySem.Within mA (fs.map (·.1))
  | .own _ => ∃ o, h.get? a = some o
  | .xd fs => ∃ mA, h.Ns1 a mA ∧ ∀ f, RelO (fs.lookup f) (mA f)
  | .rng lo hi => ∃ t u v, h.get? a = some { cls := .type "range", data := .fields #[.int lo t, .int hi u, .int 1 v] }
  | .frz o u => h.get? a = some o ∧ ObjOk H h a u
  | .tbl ps => h.get? a = some { cls := .none, data := .fields ps }
  | .met f x => h.get? a = some (PySem.W.methodObj (.ref f) (.ref x))
  | .ext φ => φ h ∧ (∃ o, h.get? a = some o) ∧ ∀ h1 h2 : Heap, φ h1 → (∀ o, h1.get? a = some o → h2.get? a = some o) → φ h2
noncomputable def HOk (H : Hp) (h : Heap) : Prop := ∀ a o, H a = some o → ObjOk P w H h a o
end

section
variable {P : Program} {w : World} {H H' : Hp} {h h' : Heap} {a : Addr} {o : HO}
theorem ObjOk.lt (x : ObjOk P w H h a o) : a < h.objs.size := by
  cases o with
  | lst xs => obtain ⟨_, _, _, _, e⟩ := x; exact Heap.lt_size e
  | tup xs => obtain ⟨_, _, _, p⟩ := x; exact p.lt
  | dK kvs => obtain ⟨_, _, _, _, o, _, _, e, _⟩ := x; exact Heap.lt_size e
  | dT kvs => obtain ⟨_, _, _, _, o, _, _, e, _⟩ := x; exact Heap.lt_size e
  | set S n => obtain ⟨o, _, _, _, e, _⟩ := x; exact Heap.lt_size e
  | ins C dx fs => obtain ⟨_, _, _, e, _⟩ := x; exact Heap.lt_size e
  | own y => obtain ⟨_, e⟩ := x; exact Heap.lt_size e
  | xd fs => obtain ⟨_, ⟨_, _, _, e, _⟩, _⟩ := x; exact Heap.lt_size e
  | rng lo hi => obtain ⟨_, _, _, e⟩ := x; exact Heap.lt_size e
  | frz ob u => obtain ⟨e, _⟩ := x; exact Heap.lt_size e
  | tbl ps => exact Heap.lt_size (show h.get? a = some _ from x)
  | met f y => exact Heap.lt_size (show h.get? a = some _ from x)
  | ext φ => obtain ⟨_, ⟨_, e⟩, _⟩ := x; exact Heap.lt_size e
theorem Paired.mapP {α β : Type} {F G : α → β → Prop} : ∀ {l₁ : List α} {l₂ : List β}, Paired F l₁ l₂ → (∀ a b, F a b → G a b) → Paired G l₁ l₂
  | _, _, .nil, _ => .nil
  | _, _, .cons r t, f => .cons (f _ _ r) (Paired.mapP t f)
theorem ObjOk.stay (x : ObjOk P w H h a o) (k : ∀ b u, (b = a ∨ H b = some (.own a)) → h.get? b = some u → h'.get? b = some u)
    (ho : ∀ b, H b = some (.own a) → H' b = some (.own a)) (ht : ∀ b xs, H b = some (.tup xs) → H' b = some (.tup xs)) : ObjOk P w H' h' a o := by
  induction o with
  | lst xs => obtain ⟨z, its, n, r, e⟩ := x; exact ⟨z, its, n, r, k _ _ (.inl rfl) e⟩
  | tup xs => obtain ⟨z, its, r, ob, e, c⟩ := x; exact ⟨z, its, r, ob, k _ _ (.inl rfl) e, c⟩
  | dK kvs => obtain ⟨z, y, vs, r, ob, es, ep, e, c⟩ := x; exact ⟨z, y, vs, r, ob, es, ep, k _ _ (.inl rfl) e, c⟩
  | dT kvs =>
    obtain ⟨z, y, xs, r, ob, es, ep, e, c⟩ := x
    exact ⟨z, y, xs, Paired.mapP r fun p q z => ⟨z.1, ht _ _ z.2.1, z.2.2⟩, ob, es, ep, k _ _ (.inl rfl) e, c⟩
  | set S n => obtain ⟨ob, es, ep, t, e, c⟩ := x; exact ⟨ob, es, ep, t, k _ _ (.inl rfl) e, c⟩
  | ins C dx fs =>
    obtain ⟨d, z, ne, e, mA, ⟨od, es, ep, e2, c⟩, r⟩ := x
    exact ⟨ho _ d, z, ne, k _ _ (.inl rfl) e, mA, ⟨od, es, ep, k _ _ (.inr d) e2, c⟩, r⟩
  | own y => obtain ⟨ob, e⟩ := x; exact ⟨ob, k _ _ (.inl rfl) e⟩
  | xd fs => obtain ⟨mA, ⟨od, es, ep, e, c⟩, r⟩ := x; exact ⟨mA, ⟨od, es, ep, k _ _ (.inl rfl) e, c⟩, r⟩
  | rng lo hi => obtain ⟨t, u, v, e⟩ := x; exact ⟨t, u, v, k _ _ (.inl rfl) e⟩
  | frz ob u ih => obtain ⟨e, q⟩ := x; exact ⟨k _ _ (.inl rfl) e, ih q⟩
  | tbl ps =>
    have e : h.get? a = some { cls := .none, data := .fields ps } := x
    show h'.get? a = some { cls := .none, data := .fields ps }
    exact k a _ (.inl rfl) e
  | met f y =>
    have e : h.get? a = some (PySem.W.methodObj (.ref f) (.ref y)) := x
    show h'.get? a = some (PySem.W.methodObj (.ref f) (.ref y))
    exact k a _ (.inl rfl) e
  | ext φ => obtain ⟨p, ⟨o, e⟩, st⟩ := x; exact ⟨st _ _ p fun o q => k _ _ (.inl rfl) q, ⟨o, k _ _ (.inl rfl) e⟩, st⟩
theorem HOk.lt (x : HOk P w H h) (e : H a = some o) : a < h.objs.size := (x a o e).lt
theorem HOk.fresh (x : HOk P w H h) (e : h.objs.size ≤ a) : H a = none := by
  cases q : H a with
  | none => rfl
  | some u => exact absurd (Nat.lt_of_lt_of_le (x.lt q) e) (Nat.lt_irrefl _)
theorem HOk.kept (x : HOk P w H h) (k : ∀ b u, h.get? b = some u → h'.get? b = some u) : HOk P w H h' := fun a o e =>
  (x a o e).stay (fun b u _ q => k b u q) (fun _ q => q) fun _ _ q => q
theorem HOk.laid (x : HOk P w H h) (k : ∀ b u, h.get? b = some u → h'.get? b = some u) (hp : h.objs.size ≤ a) (new : ObjOk P w (upd H a o) h' a o) : HOk P w (upd H a o) h' := fun b u e => by
  have hn := x.fresh hp
  by_cases hb : b = a
  · subst hb; rw [upd_same] at e; cases e; exact new
  · rw [upd_ne hb] at e
    exact (x b u e).stay (fun c v _ q => k c v q) (fun c q => by rw [upd_ne (ne_of_none q hn)]; exact q) fun c xs q => by rw [upd_ne (ne_of_none q hn)]; exact q
end

noncomputable def Rd (H : Hp) (a : Addr) (u : HO) : Prop := H a = some u ∨ ∃ o, H a = some (.frz o u)
theorem Rd.ok {P : Program} {w : World} {H : Hp} {h : Heap} {a : Addr} {u : HO} (r : Rd H a u) (x : HOk P w H h) : ObjOk P w H h a u := by
  rcases r with r | ⟨o, r⟩
  · exact x a u r
  · obtain ⟨_, q⟩ := x a _ r
    exact q
noncomputable def Mut : Option HO → Prop
  | some (.lst _) => True
  | some (.dK _) => True
  | some (.dT _) => True
  | some (.set _ _) => True
  | some (.ins _ _ _) => True
  | some (.ext _) => True
  | _ => False
section
variable {P : Program} {w : World} {H : Hp} {h h' : Heap} {x e : Addr} {o' : HO}
theorem HOk.write (ok : HOk P w H h) (mu : Mut (H x)) (he : e = x ∨ H e = some (.own x)) (k : ∀ b u, b ≠ e → h.get? b = some u → h'.get? b = some u) (heo : ∃ u, h'.get? e = some u)
    (new : ObjOk P w (upd H x o') h' x o') : HOk P w (upd H x o') h' := fun b u q => by
  have nown : ∀ c y, H c = some (.own y) → c ≠ x := fun c y r z => by subst z; rw [r] at mu; exact mu
  have ntup : ∀ c xs, H c = some (.tup xs) → c ≠ x := fun c xs r z => by subst z; rw [r] at mu; exact mu
  by_cases hb : b = x
  · subst hb; rw [upd_same] at q; cases q; exact new
  · rw [upd_ne hb] at q
    by_cases hbe : b = e
    · have q' : H b = some (.own x) := by
        rcases he with z | z
        · exact absurd (hbe.trans z) hb
        · rw [hbe]; exact z
      rw [q] at q'; cases q'
      obtain ⟨v, hv⟩ := heo
      exact ⟨v, by rw [hbe]; exact hv⟩
    · refine (ok b u q).stay (fun c v hc r => k c v ?_ r) (fun c r => by rw [upd_ne (nown c b r)]; exact r) fun c xs r => by rw [upd_ne (ntup c xs r)]; exact r
      rcases hc with rfl | hc
      · exact hbe
      · rintro rfl
        rcases he with z | z
        · exact nown c b hc z
        · rw [hc] at z; cases z; exact hb rfl
end

structure Un (fs ex : List Addr) (H H' : Hp) (h h' : Heap) : Prop where
  keep : ∀ b o, h.get? b = some o → H b = none → b ∉ fs → b ∉ ex → h'.get? b = some o
  slot : ∀ b o, h.get? b = some o → H b = none → b ∈ fs → b ∉ ex → ∃ sl, h'.get? b = some { o with slots := sl }
  free : ∀ b o, h.get? b = some o → H b = none → b ∉ ex → H' b = none
  there : ∀ b o, h.get? b = some o → b ∉ ex → ∃ o', h'.get? b = some o'
  tups : ∀ b xs, H b = some (.tup xs) → H' b = some (.tup xs)
  frzs : ∀ b o u, H b = some (.frz o u) → H' b = some (.frz o u)
  tbls : ∀ b ps, H b = some (.tbl ps) → ∃ more, H' b = some (.tbl (ps ++ more))
section
variable {fs fs' ex ex' : List Addr} {H H1 H2 : Hp} {h h1 h2 h' : Heap} {a x e : Addr} {o : HO}
theorem Un.any (u : Un fs ex H H1 h h1) {b : Addr} {ob : Obj} (q : h.get? b = some ob) (n : H b = none) (hx : b ∉ ex) : ∃ sl, h1.get? b = some { ob with slots := sl } := by
  by_cases hb : b ∈ fs
  · exact u.slot b ob q n hb hx
  · exact ⟨ob.slots, u.keep b ob q n hb hx⟩
theorem Un.kept (k : ∀ b u, h.get? b = some u → h'.get? b = some u) : Un fs ex H H h h' :=
  ⟨fun b ob q _ _ _ => k b ob q, fun b ob q _ _ _ => ⟨ob.slots, k b ob q⟩, fun _ _ _ n _ => n, fun b ob q _ => ⟨ob, k b ob q⟩, fun _ _ q => q, fun _ _ _ q => q, fun _ ps q => ⟨#[], by rw [q]; simp⟩⟩
theorem Un.refl : Un fs ex H H h h := Un.kept fun _ _ q => q
theorem Un.laid (k : ∀ b u, h.get? b = some u → h'.get? b = some u) (hp : h.objs.size ≤ a) (hn : H a = none) : Un fs ex H (upd H a o) h h' where
  keep := fun b u q _ _ _ => k b u q
  slot := fun b u q _ _ _ => ⟨u.slots, k b u q⟩
  free := fun b u q n _ => by rw [upd_ne (Nat.ne_of_lt (Nat.lt_of_lt_of_le (Heap.lt_size q) hp))]; exact n
  there := fun b u q _ => ⟨u, k b u q⟩
  tups := fun b xs q => by rw [upd_ne (ne_of_none q hn)]; exact q
  frzs := fun b u xs q => by rw [upd_ne (ne_of_none q hn)]; exact q
  tbls := fun b ps q => ⟨#[], by rw [upd_ne (ne_of_none q hn), q]; simp⟩
theorem Un.write (mu : Mut (H x)) (he : e = x ∨ H e = some (.own x)) (k : ∀ b u, b ≠ e → h.get? b = some u → h'.get? b = some u) (heo : ∃ u, h'.get? e = some u) : Un fs ex H (upd H x o) h h' := by
  have hx : ∀ b, H b = none → b ≠ x := fun b n z => by subst z; rw [n] at mu; exact mu
  have hb : ∀ b, H b = none → b ≠ e := fun b n z => by
    subst z
    rcases he with r | r
    · exact hx b n r
    · rw [n] at r; cases r
  have hm : ∀ b u, H b = some u → ¬ Mut (some u) → b ≠ x := fun b u q nm z => by subst z; rw [q] at mu; exact nm mu
  refine ⟨fun b u q n _ _ => k b u (hb b n) q, fun b u q n _ _ => ⟨u.slots, k b u (hb b n) q⟩, fun b u q n _ => by rw [upd_ne (hx b n)]; exact n, fun b u q _ => ?_,
    fun b xs q => by rw [upd_ne (hm b _ q fun z => z)]; exact q, fun b u xs q => by rw [upd_ne (hm b _ q fun z => z)]; exact q, fun b ps q => ⟨#[], by rw [upd_ne (hm b _ q fun z => z), q]; simp⟩⟩
  by_cases hbe : b = e
  · subst hbe; exact heo
  · exact ⟨u, k b u hbe q⟩
end

noncomputable def trk (h : Heap) (H : Hp) : List Addr := (List.range h.objs.size).filter fun a => (H a).isSome
noncomputable def hidT (h : Heap) (H : Hp) : Heap := PySem.W.hideAll h (trk h H)
theorem hidT_size (h : Heap) (H : Hp) : (hidT h H).objs.size = h.objs.size := PySem.W.hideAll_size _ _
theorem hidT_get {h : Heap} {H : Hp} {b : Addr} {o : Obj} (e : h.get? b = some o) (n : H b = none) : (hidT h H).get? b = some o :=
  PySem.W.hideAll_get _ e fun hm => by
    have q : (H b).isSome = true := (List.mem_filter.mp hm).2
    rw [n] at q; simp at q
theorem of_hidT {h : Heap} {H : Hp} {b : Addr} {o : Obj} (e : (hidT h H).get? b = some o) : h.get? b = some o ∧ H b = none := by
  have e' : h.get? b = some o := PySem.W.of_hideAll (trk h H) e
  refine ⟨e', ?_⟩
  cases q : H b with
  | none => rfl
  | some x =>
    have hm : b ∈ trk h H := List.mem_filter.mpr ⟨List.mem_range.mpr (Heap.lt_size e'), by simp [q]⟩
    have z : (hidT h H).get? b = none := PySem.W.hideAll_none (trk h H) hm
    rw [z] at e; cases e

noncomputable def allNews (g h : Heap) (L : Addr) : List (Addr × Obj) := (List.range h.objs.size).filterMap fun a => if a = L ∨ (g.get? a).isSome = true then none else (h.get? a).map fun o => (a, o)
noncomputable def rest (g h : Heap) (L d : Addr) : List (Addr × Obj) := (allNews g h L).filter fun p => decide (p.1 ≠ d)
end L2

namespace L2
open PySem PySem.Spec PyProof.Rows

structure Mod (K : PySem.W.Frag) (mg : Str → Option Value) (base : Heap) : Prop where
  kin : K.In base
  glob : base.Ns mainGlobals mg
  blt : ∃ mb, base.Ns builtinsNs mb ∧ ∀ x : Str, x ≠ "__name__" → mb x = bootBuiltins x
  nolimit : base.NoLimit

structure Cx where
  prog : Program
  w : World
  K : PySem.W.Frag
  mg : Str → Option Value
  base : Heap
  A : Around
  N : List Str
  s₀ : Shared
  H₀ : Hp
  env : Env
  outer : List Env
  stack : List Env
  ex : List Addr
  fn : Str → Bool
  calm : Bool
  pn : List (Addr × Obj)
  xe : Value → Shared → Prop
noncomputable def frs (l : List Env) : List Addr := l.filterMap (·.frame)
noncomputable abbrev Cx.fs (X : Cx) : List Addr := frs X.outer

noncomputable def Vis (sc : Scope) (x : Str) : Prop := sc.names.lookup x = some .local ∨ sc.names.lookup x = some .cell ∨ sc.names.lookup x = some .free
noncomputable def Loc (sc : Scope) (x : Str) : Prop := sc.names.lookup x = some .local ∨ sc.names.lookup x = some .cell
noncomputable def Look (env : Env) (h : Heap) (m : Str → Option Value) (x : Str) (u : Value) : Prop :=
  (env.kindOf x = some .local ∧ m x = some u) ∨ ((env.kindOf x = some .cell ∨ env.kindOf x = some .free) ∧ ∃ c, env.cells.lookup x = some c ∧ h.IsCell c (some u))

structure Cx.Ok (X : Cx) : Prop where
  mod : Mod X.K X.mg X.base
  kind : X.env.scope.kind = .function
  glob : X.env.globals = mainGlobals
  blt : X.env.builtins = builtinsNs
  above : X.s₀.heap.objs.size ≤ X.env.locals
  inj : ∀ x y c, X.env.cells.lookup x = some c → X.env.cells.lookup y = some c → x = y
  has : ∀ x, (X.env.kindOf x = some .cell ∨ X.env.kindOf x = some .free) → ∃ c, X.env.cells.lookup x = some c
  cab : ∀ x c, X.fn x = true → X.env.cells.lookup x = some c → X.s₀.heap.objs.size ≤ c
  hd : X.calm = true → X.A.handled = none
  frames : X.A.frames = some X.stack
  stk : X.stack = X.outer ∨ (X.stack = X.env :: X.outer ∧ X.env.frame = some X.env.locals)
  exf : ∀ b ∈ X.ex, b ≠ X.env.locals ∧ ∀ x c, X.env.cells.lookup x = some c → c ≠ b
  bs : ∀ b o, X.base.get? b = some o → X.s₀.heap.get? b = some o ∧ X.H₀ b = none
  bsz : X.base.objs.size ≤ X.s₀.heap.objs.size
  noex : ∀ b o, X.base.get? b = some o → b ∉ X.ex
  exfs : ∀ b ∈ X.ex, b ∉ X.fs
  funs : X.s₀.heap.FunFrames X.base X.outer
  frf : ∀ b ∈ X.fs, X.H₀ b = none

structure Inv (X : Cx) (pins : List (Addr × Obj)) (σ : List (Option V)) (H : Hp) (s : Shared) : Prop where
  ok : X.Ok
  os : s.os = X.s₀.os
  bare : AllBare s.gens
  base : Un X.fs X.ex X.H₀ H X.s₀.heap s.heap
  loc : ∃ m, s.heap.Ns X.env.locals m ∧ ∀ (i : Nat) (x : Str) (v : V), X.N[i]? = some x → σ[i]? = some (some v) → Vis X.env.scope x → ∃ u, RelV v u ∧ Look X.env s.heap m x u
  cell : ∀ x c, X.env.cells.lookup x = some c → ∃ v, s.heap.IsCell c v
  free : H X.env.locals = none
  freeC : ∀ x c, X.env.cells.lookup x = some c → H c = none
  pin : ∀ p ∈ X.pn ++ pins, s.heap.get? p.1 = some p.2 ∧ H p.1 = none ∧ p.1 ≠ X.env.locals ∧ p.1 ∉ X.fs ∧ ∀ v, p.2.data ≠ .cell v
  hok : HOk X.prog X.w H s.heap
  len : σ.length = X.N.length

section
variable {X : Cx} {pins : List (Addr × Obj)} {σ : List (Option V)} {H H' : Hp} {s : Shared} {h' : Heap}

theorem Cx.Ok.nofr (ok : X.Ok) {b : Addr} {o : Obj} (e : X.base.get? b = some o) : b ∉ X.fs := fun hb => by
  have := (ok.funs.mem hb).1
  rw [e] at this; cases this
theorem Inv.bs (I : Inv X pins σ H s) : ∀ b o, X.base.get? b = some o → s.heap.get? b = some o ∧ H b = none := fun b o e =>
  ⟨I.base.keep b o (I.ok.bs b o e).1 (I.ok.bs b o e).2 (I.ok.nofr e) (I.ok.noex b o e), I.base.free b o (I.ok.bs b o e).1 (I.ok.bs b o e).2 (I.ok.noex b o e)⟩
theorem Inv.bk (I : Inv X pins σ H s) : ∀ b o, X.base.get? b = some o → s.heap.get? b = some o := fun b o e => (I.bs b o e).1
theorem Inv.mod (I : Inv X pins σ H s) : Mod X.K X.mg X.base := I.ok.mod
theorem Inv.kIn (I : Inv X pins σ H s) : X.K.In s.heap := I.ok.mod.kin.keeps I.bk
theorem Inv.lt (I : Inv X pins σ H s) : X.env.locals < s.heap.objs.size := let ⟨_, hn, _⟩ := I.loc; hn.lt
theorem Inv.sz (I : Inv X pins σ H s) : X.s₀.heap.objs.size ≤ s.heap.objs.size := Nat.le_trans I.ok.above (Nat.le_of_lt I.lt)
theorem Inv.nofs (I : Inv X pins σ H s) {a : Addr} (h : s.heap.objs.size ≤ a) : a ∉ X.fs := fun hb => by
  obtain ⟨_, o, ho, _⟩ := I.ok.funs.mem hb
  exact absurd (Nat.lt_of_lt_of_le (Heap.lt_size ho) (Nat.le_trans I.sz h)) (Nat.lt_irrefl _)
theorem Inv.cne (I : Inv X pins σ H s) : ∀ x c, X.env.cells.lookup x = some c → c ≠ X.env.locals := fun x c e z => by
  obtain ⟨v, o, ho, hd⟩ := I.cell x c e
  obtain ⟨m, ⟨o', es, ep, ho', hd', _⟩, _⟩ := I.loc
  rw [z, ho'] at ho; cases ho; rw [hd'] at hd; cases hd
theorem Inv.funs (I : Inv X pins σ H s) : s.heap.FunFrames X.base X.outer := by
  have all : ∀ (l : List Env), (∀ b ∈ frs l, b ∈ X.fs) → X.s₀.heap.FunFrames X.base l → s.heap.FunFrames X.base l := by
    intro l
    induction l with
    | nil => intro _ _; trivial
    | cons env r ih =>
      intro hs hl
      obtain ⟨hk, ⟨L, o, hf, hn, ho, hd⟩, hr⟩ := hl
      have hL : L ∈ X.fs := hs L (by unfold frs; rw [List.filterMap_cons, hf]; exact List.mem_cons_self)
      obtain ⟨sl, e⟩ := I.base.slot L o ho (I.ok.frf L hL) hL fun z => I.ok.exfs L z hL
      exact ⟨hk, ⟨L, _, hf, hn, e, hd⟩, ih (fun b hb => hs b (by unfold frs; rw [List.filterMap_cons, hf]; exact List.mem_cons_of_mem _ hb)) hr⟩
  exact all X.outer (fun _ hb => hb) I.ok.funs

theorem Inv.stack (I : Inv X pins σ H s) : s.heap.FunFrames X.base X.stack := by
  rcases I.ok.stk with e | ⟨e, hf⟩
  · rw [e]; exact I.funs
  · rw [e]
    obtain ⟨m, hn, _⟩ := I.loc
    refine .cons (by rw [I.ok.kind]; decide) hf hn ?_ I.funs
    exact Heap.get?_none_of_le (Nat.le_trans I.ok.bsz I.ok.above)
theorem Inv.stkSub (I : Inv X pins σ H s) : ∀ b ∈ frs X.stack, b ∈ X.env.locals :: X.fs := fun b hb => by
  rcases I.ok.stk with e | ⟨e, hf⟩
  · rw [e] at hb; exact List.mem_cons_of_mem _ hb
  · rw [e] at hb
    unfold frs at hb
    rw [List.filterMap_cons, hf] at hb
    exact hb
theorem Inv.stkFree (I : Inv X pins σ H s) : ∀ b ∈ frs X.stack, H b = none := fun b hb => by
  rcases List.mem_cons.mp (I.stkSub b hb) with e | hb
  · rw [e]; exact I.free
  · obtain ⟨_, o, ho, _⟩ := I.ok.funs.mem hb
    exact I.base.free b o ho (I.ok.frf b hb) fun z => I.ok.exfs b z hb

theorem Inv.step {g' : Array GenState} {t' : Nat} {d' : Drawn} {ch : List Addr} (I : Inv X pins σ H s)
    (hch : ∀ b ∈ ch, (b ∈ X.ex ∨ X.s₀.heap.objs.size ≤ b) ∧ b ≠ X.env.locals ∧ (∀ x c, X.env.cells.lookup x = some c → c ≠ b) ∧ ∀ p ∈ X.pn ++ pins, p.1 ≠ b)
    (keep : ∀ b o, b ≠ X.env.locals → b ∉ X.fs → b ∉ ch → s.heap.get? b = some o → H b = none → h'.get? b = some o)
    (slot : ∀ b o, b ≠ X.env.locals → b ∈ X.fs → b ∉ ch → s.heap.get? b = some o → H b = none → ∃ sl, h'.get? b = some { o with slots := sl }) (free : ∀ b o, b ∉ ch → s.heap.get? b = some o → H b = none → H' b = none)
    (there : ∀ b o, b ∉ ch → s.heap.get? b = some o → ∃ o', h'.get? b = some o')
    (tups : ∀ b xs, H b = some (.tup xs) → H' b = some (.tup xs)) (frzs : ∀ b o u, H b = some (.frz o u) → H' b = some (.frz o u)) (tbls : ∀ b ps, H b = some (.tbl ps) → ∃ more, H' b = some (.tbl (ps ++ more)))
    (ns : ∀ m, s.heap.Ns X.env.locals m → h'.Ns X.env.locals m) (hok : HOk X.prog X.w H' h') (hg : AllBare g') :
    Inv X pins σ H' { s with heap := h', gens := g', drawn := d', toks := t' } := by
  have neL : ∀ b o, X.s₀.heap.get? b = some o → b ≠ X.env.locals := fun b o e => Nat.ne_of_lt (Nat.lt_of_lt_of_le (Heap.lt_size e) I.ok.above)
  have neC : ∀ b o, X.s₀.heap.get? b = some o → b ∉ X.ex → b ∉ ch := fun b o e hx hb => by
    rcases (hch b hb).1 with z | z
    · exact hx z
    · exact absurd (Nat.lt_of_lt_of_le (Heap.lt_size e) z) (Nat.lt_irrefl _)
  have cellK : ∀ x c, X.env.cells.lookup x = some c → ∀ v, s.heap.IsCell c v → h'.IsCell c v := fun x c e v ⟨o, ho, hd⟩ => by
    have nch : c ∉ ch := fun z => (hch c z).2.2.1 x c e rfl
    by_cases hc : c ∈ X.fs
    · obtain ⟨sl, q⟩ := slot c o (I.cne x c e) hc nch ho (I.freeC x c e)
      exact ⟨_, q, hd⟩
    · exact ⟨o, keep c o (I.cne x c e) hc nch ho (I.freeC x c e), hd⟩
  refine ⟨I.ok, I.os, hg, ⟨fun b o e n hb hx => ?_, fun b o e n hb hx => ?_, fun b o e n hx => ?_, fun b o e hx => ?_, fun b xs e => tups b xs (I.base.tups b xs e), fun b o xs e => frzs b o xs (I.base.frzs b o xs e), fun b ps e => ?_⟩, ?_, fun x c e => ?_, ?_, fun x c e => ?_, fun p hp => ?_, hok, I.len⟩
  · exact keep b o (neL b o e) hb (neC b o e hx) (I.base.keep b o e n hb hx) (I.base.free b o e n hx)
  · obtain ⟨sl, e1⟩ := I.base.slot b o e n hb hx
    obtain ⟨sl', e2⟩ := slot b _ (neL b o e) hb (neC b o e hx) e1 (I.base.free b o e n hx)
    exact ⟨sl', e2⟩
  · obtain ⟨o', e1⟩ := I.base.there b o e hx
    exact free b o' (neC b o e hx) e1 (I.base.free b o e n hx)
  · obtain ⟨o', e1⟩ := I.base.there b o e hx
    exact there b o' (neC b o e hx) e1
  · obtain ⟨m1, e1⟩ := I.base.tbls b ps e
    obtain ⟨m2, e2⟩ := tbls b _ e1
    exact ⟨m1 ++ m2, by rw [e2, Array.append_assoc]⟩
  · obtain ⟨m, hn, hl⟩ := I.loc
    refine ⟨m, ns m hn, fun i x v e1 e2 e3 => ?_⟩
    obtain ⟨u, r, l⟩ := hl i x v e1 e2 e3
    refine ⟨u, r, ?_⟩
    rcases l with l | ⟨k, c, e, z⟩
    · exact .inl l
    · exact .inr ⟨k, c, e, cellK x c e _ z⟩
  · obtain ⟨v, z⟩ := I.cell x c e
    exact ⟨v, cellK x c e v z⟩
  · obtain ⟨m, ⟨o, _, _, ho, _⟩, _⟩ := I.loc
    exact free _ o (fun z => (hch _ z).2.1 rfl) ho I.free
  · obtain ⟨v, o, ho, hd⟩ := I.cell x c e
    exact free c o (fun z => (hch c z).2.2.1 x c e rfl) ho (I.freeC x c e)
  · obtain ⟨e, n, ne, nf, d⟩ := I.pin p hp
    have nch : p.1 ∉ ch := fun z => (hch p.1 z).2.2.2 p hp rfl
    exact ⟨keep p.1 p.2 ne nf nch e n, free p.1 p.2 nch e n, ne, nf, d⟩
theorem Inv.un {t' : Nat} (I : Inv X pins σ H s) (u : Un X.fs [] H H' s.heap h') (hok : HOk X.prog X.w H' h') : Inv X pins σ H' { s with heap := h', toks := t' } := by
  obtain ⟨m, ⟨o, es, ep, ho, r⟩, _⟩ := id I.loc
  obtain ⟨sl, hL⟩ := u.any ho I.free (by simp)
  exact I.step (g' := s.gens) (d' := s.drawn) (ch := []) (fun _ z => nomatch z) (fun b o _ hb _ e n => u.keep b o e n hb (by simp)) (fun b o _ hb _ e n => u.slot b o e n hb (by simp)) (fun b o _ e n => u.free b o e n (by simp)) (fun b o _ e => u.there b o e (by simp)) u.tups u.frzs u.tbls (fun m' hm => by
    obtain ⟨o', es', ep', ho', r'⟩ := hm
    rw [ho] at ho'; cases ho'
    exact ⟨_, es', ep', hL, r'⟩) hok I.bare
theorem Inv.call {g' : Array GenState} {t' : Nat} {d' : Drawn} {ch : List Addr} (I : Inv X pins σ H s) (u : Un (frs X.stack) ch H H' s.heap h') (hok : HOk X.prog X.w H' h') (hg : AllBare g')
    (hch : ∀ b ∈ ch, (b ∈ X.ex ∨ X.s₀.heap.objs.size ≤ b) ∧ b ≠ X.env.locals ∧ (∀ x c, X.env.cells.lookup x = some c → c ≠ b) ∧ ∀ p ∈ X.pn ++ pins, p.1 ≠ b) :
    Inv X pins σ H' { s with heap := h', gens := g', drawn := d', toks := t' } := by
  obtain ⟨m, ⟨o, es, ep, ho, r⟩, _⟩ := id I.loc
  obtain ⟨sl, hL⟩ := u.any ho I.free fun z => (hch _ z).2.1 rfl
  exact I.step (ch := ch) hch (fun b o hL hb hc e n => u.keep b o e n (fun z => (List.mem_cons.mp (I.stkSub b z)).elim hL hb) hc) (fun b o _ _ hc e n => u.any e n hc) (fun b o hc e n => u.free b o e n hc) (fun b o hc e => u.there b o e hc) u.tups u.frzs u.tbls (fun m' hm => by
    obtain ⟨o', es', ep', ho', r'⟩ := hm
    rw [ho] at ho'; cases ho'
    exact ⟨_, es', ep', hL, r'⟩) hok hg
theorem Inv.turned {t' : Nat} {it : Addr} (I : Inv X pins σ H s) (k : ∀ b o, b ≠ it → s.heap.get? b = some o → h'.get? b = some o) (hn : H it = none) (hL : it ≠ X.env.locals)
    (h1 : it ∈ X.ex ∨ X.s₀.heap.objs.size ≤ it) (h2 : ∀ x c, X.env.cells.lookup x = some c → c ≠ it) (h3 : ∀ p ∈ X.pn ++ pins, p.1 ≠ it) : Inv X pins σ H { s with heap := h', toks := t' } := by
  have nit : ∀ b u, H b = some u → b ≠ it := fun b u e z => by rw [z, hn] at e; cases e
  refine I.step (g' := s.gens) (d' := s.drawn) (ch := [it]) (fun b hb => ?_) (fun b o _ _ hc e _ => k b o (fun z => hc (by simp [z])) e) (fun b o _ _ hc e _ => ⟨o.slots, k b o (fun z => hc (by simp [z])) e⟩) (fun _ _ _ _ n => n)
    (fun b o hc e => ⟨o, k b o (fun z => hc (by simp [z])) e⟩) (fun _ _ e => e) (fun _ _ _ e => e) (fun b ps e => ⟨#[], by rw [e]; simp⟩) (fun m hm => ?_) (fun b u e => ?_) I.bare
  · have e : b = it := by simpa using hb
    subst e
    exact ⟨h1, hL, h2, h3⟩
  · obtain ⟨o, es, ep, ho, r⟩ := hm
    exact ⟨o, es, ep, k _ o (Ne.symm hL) ho, r⟩
  · refine (I.hok b u e).stay (fun c v hc q => k c v ?_ q) (fun _ q => q) fun _ _ q => q
    rcases hc with z | z
    · rw [z]; exact nit b u e
    · exact nit c _ z
theorem Inv.tok (I : Inv X pins σ H s) (t : Nat) : Inv X pins σ H { s with toks := t } := I.un (h' := s.heap) (t' := t) Un.refl I.hok
theorem Inv.kept {t' : Nat} (I : Inv X pins σ H s) (k : ∀ b u, s.heap.get? b = some u → h'.get? b = some u) : Inv X pins σ H { s with heap := h', toks := t' } := I.un (Un.kept k) (I.hok.kept k)
theorem Inv.laid {a : Addr} {o : HO} {t' : Nat} (I : Inv X pins σ H s) (k : ∀ b u, s.heap.get? b = some u → h'.get? b = some u) (hp : s.heap.objs.size ≤ a) (new : ObjOk X.prog X.w (upd H a o) h' a o) :
    Inv X pins σ (upd H a o) { s with heap := h', toks := t' } := I.un (Un.laid k hp (I.hok.fresh hp)) (I.hok.laid k hp new)
theorem Inv.write {x e : Addr} {o : HO} {t' : Nat} (I : Inv X pins σ H s) (mu : Mut (H x)) (he : e = x ∨ H e = some (.own x)) (k : ∀ b u, b ≠ e → s.heap.get? b = some u → h'.get? b = some u) (heo : ∃ u, h'.get? e = some u)
    (new : ObjOk X.prog X.w (upd H x o) h' x o) : Inv X pins σ (upd H x o) { s with heap := h', toks := t' } := I.un (Un.write mu he k heo) (I.hok.write mu he k heo new)
theorem Inv.weak {σ' : List (Option V)} (I : Inv X pins σ H s) (hl : σ'.length = σ.length) (w : ∀ (i : Nat) v, σ'[i]? = some (some v) → σ[i]? = some (some v)) : Inv X pins σ' H s :=
  ⟨I.ok, I.os, I.bare, I.base, let ⟨m, hn, hl'⟩ := I.loc; ⟨m, hn, fun i x v e1 e2 e3 => hl' i x v e1 (w i v e2) e3⟩, I.cell, I.free, I.freeC, I.pin, I.hok, hl.trans I.len⟩
theorem Inv.pins_of {pins' : List (Addr × Obj)} (I : Inv X pins σ H s) (h : ∀ p ∈ pins', s.heap.get? p.1 = some p.2 ∧ H p.1 = none ∧ p.1 ≠ X.env.locals ∧ p.1 ∉ X.fs ∧ ∀ v, p.2.data ≠ .cell v) : Inv X pins' σ H s :=
  ⟨I.ok, I.os, I.bare, I.base, I.loc, I.cell, I.free, I.freeC, fun p hp => (List.mem_append.mp hp).elim (fun z => I.pin p (List.mem_append_left _ z)) (h p), I.hok, I.len⟩

theorem nodup_ix {N : List Str} (hN : N.Nodup) {i j : Nat} {x : Str} (a : N[i]? = some x) (b : N[j]? = some x) : i = j := by
  obtain ⟨h1, e1⟩ := List.getElem?_eq_some_iff.mp a
  obtain ⟨h2, e2⟩ := List.getElem?_eq_some_iff.mp b
  exact (List.getElem_inj hN).mp (e1.trans e2.symm)

theorem store_ok2 {M : Model} {A : Around} {E : Value → Shared → Prop} {i : Nat} {x : Str} {v : V} {u : Value} {Q : Unit → Shared → Prop} (I : Inv X pins σ H s) (hN : X.N.Nodup) (hi : X.N[i]? = some x) (hx : Loc X.env.scope x) (r : RelV v u)
    (h : ∀ s', Inv X pins (σ.set i (some v)) H s' → (∃ a, Heap.SameBut a s.heap s'.heap ∧ (a = X.env.locals ∨ X.env.cells.lookup x = some a)) → Q () s') (hf : X.fn x = true ∨ X.env.scope.names.lookup x = some .local := by first | exact .inl rfl | exact .inr rfl | assumption) : wpAny M A (storeName X.env x u) Q E s := by
  obtain ⟨m, hn, hl⟩ := id I.loc
  have hcls : (X.env.scope.kind == .class || (X.env.scope.kind == .module && X.env.locals != X.env.globals)) = false := by rw [I.ok.kind]; rfl
  have hiσ : i < σ.length := by rw [I.len]; exact (List.getElem?_eq_some_iff.mp hi).1
  have cne := I.cne
  have tracked : ∀ {a : Addr} {h' : Heap}, (∃ o, s.heap.get? a = some o ∧ H a = none) → Heap.SameBut a s.heap h' → HOk X.prog X.w H h' := fun {a h'} ha hs b ob e => by
    obtain ⟨_, _, hfree⟩ := ha
    refine (I.hok b ob e).stay (fun c w' hc q => (hs.2 c ?_).trans q) (fun _ q => q) fun _ _ q => q
    rintro rfl
    rcases hc with rfl | hc
    · rw [hfree] at e; cases e
    · rw [hfree] at hc; cases hc
  rcases hx with hk | hk
  · refine wpAny_storeName_local hk hn (fun h' hn' hs => ?_) hcls
    obtain ⟨oL, _, _, hoL, _⟩ := id hn
    refine h _ ⟨I.ok, I.os, I.bare, ⟨fun b o e n hb hx => ?_, fun b o e n hb hx => ?_, I.base.free, fun b o e hx => ?_, I.base.tups, I.base.frzs, I.base.tbls⟩, ⟨_, hn', fun j y v' e1 e2 e3 => ?_⟩, fun y c e => ?_, I.free, I.freeC, fun p hp => ?_, tracked ⟨oL, hoL, I.free⟩ hs, by simpa using I.len⟩ ⟨_, hs, .inl rfl⟩
    · exact (hs.2 b (Nat.ne_of_lt (Nat.lt_of_lt_of_le (Heap.lt_size e) I.ok.above))).trans (I.base.keep b o e n hb hx)
    · obtain ⟨sl, e1⟩ := I.base.slot b o e n hb hx
      exact ⟨sl, (hs.2 b (Nat.ne_of_lt (Nat.lt_of_lt_of_le (Heap.lt_size e) I.ok.above))).trans e1⟩
    · obtain ⟨o', e1⟩ := I.base.there b o e hx
      exact ⟨o', (hs.2 b (Nat.ne_of_lt (Nat.lt_of_lt_of_le (Heap.lt_size e) I.ok.above))).trans e1⟩
    · by_cases hj : j = i
      · subst hj
        rw [hi] at e1; cases e1
        rw [List.getElem?_set_self hiσ] at e2
        cases e2
        exact ⟨u, r, .inl ⟨hk, by simp⟩⟩
      · rw [List.getElem?_set_ne (Ne.symm hj)] at e2
        obtain ⟨u', r', q⟩ := hl j y v' e1 e2 e3
        refine ⟨u', r', ?_⟩
        rcases q with ⟨k, e⟩ | ⟨k, c, e, z⟩
        · refine .inl ⟨k, ?_⟩
          have : y ≠ x := fun e => hj (nodup_ix hN e1 (e ▸ hi))
          simp [this, e]
        · exact .inr ⟨k, c, e, z.sameBut hs (cne y c e)⟩
    · obtain ⟨w', z⟩ := I.cell y c e
      exact ⟨w', z.sameBut hs (cne y c e)⟩
    · obtain ⟨e, n, ne, nf, d⟩ := I.pin p hp
      exact ⟨(hs.2 p.1 ne).trans e, n, ne, nf, d⟩
  · have hfn : X.fn x = true := by
      rcases hf with z | z
      · exact z
      · rw [z] at hk; cases hk
    obtain ⟨c, hc⟩ := I.ok.has x (.inl hk)
    obtain ⟨w', z⟩ := I.cell x c hc
    refine wpAny_storeName_cell I.ok.kind hk hc z (fun h' hc' hs => ?_)
    obtain ⟨oc, hoc, hocd⟩ := id z
    refine h { s with heap := h' } ⟨I.ok, I.os, I.bare, ⟨fun b o e n hb hx => ?_, fun b o e n hb hx => ?_, I.base.free, fun b o e hx => ?_, I.base.tups, I.base.frzs, I.base.tbls⟩, ⟨m, hn.sameBut hs (Ne.symm (cne x c hc)), fun j y v' e1 e2 e3 => ?_⟩, fun y c' e => ?_, I.free, I.freeC, fun p hp => ?_, tracked ⟨oc, hoc, I.freeC x c hc⟩ hs, by simpa using I.len⟩ ⟨c, hs, .inr hc⟩
    · exact (hs.2 b (Nat.ne_of_lt (Nat.lt_of_lt_of_le (Heap.lt_size e) (I.ok.cab x c hfn hc)))).trans (I.base.keep b o e n hb hx)
    · obtain ⟨sl, e1⟩ := I.base.slot b o e n hb hx
      exact ⟨sl, (hs.2 b (Nat.ne_of_lt (Nat.lt_of_lt_of_le (Heap.lt_size e) (I.ok.cab x c hfn hc)))).trans e1⟩
    · obtain ⟨o', e1⟩ := I.base.there b o e hx
      exact ⟨o', (hs.2 b (Nat.ne_of_lt (Nat.lt_of_lt_of_le (Heap.lt_size e) (I.ok.cab x c hfn hc)))).trans e1⟩
    · by_cases hj : j = i
      · subst hj
        rw [hi] at e1; cases e1
        rw [List.getElem?_set_self hiσ] at e2
        cases e2
        exact ⟨u, r, .inr ⟨.inl hk, c, hc, hc'⟩⟩
      · rw [List.getElem?_set_ne (Ne.symm hj)] at e2
        obtain ⟨u', r', q⟩ := hl j y v' e1 e2 e3
        refine ⟨u', r', ?_⟩
        rcases q with q | ⟨k, c', e, z'⟩
        · exact .inl q
        · refine .inr ⟨k, c', e, z'.sameBut hs ?_⟩
          rintro rfl
          exact hj (nodup_ix hN e1 (I.ok.inj _ _ _ e hc ▸ hi))
    · by_cases hcc : c' = c
      · subst hcc; exact ⟨_, hc'⟩
      · obtain ⟨w2, z2⟩ := I.cell y c' e
        exact ⟨w2, z2.sameBut hs hcc⟩
    · obtain ⟨e, n, ne, nf, d⟩ := I.pin p hp
      refine ⟨(hs.2 p.1 ?_).trans e, n, ne, nf, d⟩
      intro q
      rw [q, hoc] at e
      have q' : oc = p.2 := Option.some.inj e
      exact d w' (by rw [← q']; exact hocd)
theorem store_ok {M : Model} {A : Around} {E : Value → Shared → Prop} {i : Nat} {x : Str} {v : V} {u : Value} {Q : Unit → Shared → Prop} (I : Inv X pins σ H s) (hN : X.N.Nodup) (hi : X.N[i]? = some x) (hx : Loc X.env.scope x) (r : RelV v u)
    (h : ∀ s', Inv X pins (σ.set i (some v)) H s' → Q () s') (hf : X.fn x = true ∨ X.env.scope.names.lookup x = some .local := by first | exact .inl rfl | exact .inr rfl | assumption) : wpAny M A (storeName X.env x u) Q E s :=
  store_ok2 I hN hi hx r (fun s' I' _ => h s' I') hf
end

noncomputable abbrev XK := Value → Option Addr → Hp → Prop
noncomputable abbrev St := List (Option V)
noncomputable abbrev VK := V → Hp → Prop
noncomputable abbrev TE := St → Hp → VK → Prop
noncomputable abbrev TT := St → Hp → (Bool → Hp → Prop) → Prop
noncomputable abbrev TA := St → Hp → (List V → Hp → Prop) → Prop
structure Ends where
  nx : St → Hp → Prop
  rt : VK
  bk : St → Hp → Prop := fun _ _ => False
  ct : St → Hp → Prop := fun _ _ => False
noncomputable abbrev TS := Ends → St → Hp → Prop

noncomputable def EP (X : Cx) (pins : List (Addr × Obj)) (σ : St) (Q : VK) (u : Value) (s' : Shared) : Prop := ∃ v H', Inv X pins σ H' s' ∧ RelV v u ∧ Q v H'
noncomputable def TP (X : Cx) (pins : List (Addr × Obj)) (σ : St) (Q : Bool → Hp → Prop) (b : Bool) (s' : Shared) : Prop := ∃ H', Inv X pins σ H' s' ∧ Q b H'
noncomputable def AP (X : Cx) (pins : List (Addr × Obj)) (σ : St) (Q : List V → Hp → Prop) (us : List Value) (s' : Shared) : Prop := ∃ vs H', Inv X pins σ H' s' ∧ Vals vs us ∧ Q vs H'
noncomputable def SP (X : Cx) (pins : List (Addr × Obj)) (D : Ends) (f : Flow) (s' : Shared) : Prop :=
  match f with
  | .next => ∃ σ' H', Inv X pins σ' H' s' ∧ D.nx σ' H'
  | .brk => ∃ σ' H', Inv X pins σ' H' s' ∧ D.bk σ' H'
  | .cont => ∃ σ' H', Inv X pins σ' H' s' ∧ D.ct σ' H'
  | .ret u => ∃ v σ' H', Inv X pins σ' H' s' ∧ RelV v u ∧ D.rt v H'

noncomputable def PE (X : Cx) (e : Expr) (t : TE) : Prop :=
  ∀ (pins : List (Addr × Obj)) (s : Shared) (σ : St) (H : Hp) (Q : VK), Inv X pins σ H s → t σ H Q → wpAny (model X.prog X.w) X.A (eval e X.env) (EP X pins σ Q) X.xe s
noncomputable def PT (X : Cx) (e : Expr) (t : TT) : Prop :=
  ∀ (pins : List (Addr × Obj)) (s : Shared) (σ : St) (H : Hp) (Q : Bool → Hp → Prop), Inv X pins σ H s → t σ H Q → wpAny (model X.prog X.w) X.A (isTrue e X.env (eval e X.env)) (TP X pins σ Q) X.xe s
noncomputable def PW (X : Cx) (e : Expr) (t : TT) : Prop :=
  ∀ (whole : Sem Value) (pins : List (Addr × Obj)) (s : Shared) (σ : St) (H : Hp) (Q : Bool → Hp → Prop), Inv X pins σ H s → t σ H Q → wpAny (model X.prog X.w) X.A (isTrue e X.env whole) (TP X pins σ Q) X.xe s
theorem PW.pt {X : Cx} {e : Expr} {t : TT} (h : PW X e t) : PT X e t := h _
noncomputable def PA (X : Cx) (es : List Expr) (t : TA) : Prop :=
  ∀ (pos : Pos) (pins : List (Addr × Obj)) (s : Shared) (σ : St) (H : Hp) (Q : List V → Hp → Prop), Inv X pins σ H s → t σ H Q → wpAny (model X.prog X.w) X.A (spliced (backTo pos (starEach es X.env))) (AP X pins σ Q) X.xe s
noncomputable def PS (X : Cx) (st : Stmt) (t : TS) : Prop :=
  ∀ (pins : List (Addr × Obj)) (s : Shared) (σ : St) (H : Hp) (D : Ends), Inv X pins σ H s → t D σ H → wpAny (model X.prog X.w) X.A (exec st X.env) (SP X pins D) X.xe s
noncomputable def PSs (X : Cx) (st : List Stmt) (t : TS) : Prop :=
  ∀ (pins : List (Addr × Obj)) (s : Shared) (σ : St) (H : Hp) (D : Ends), Inv X pins σ H s → t D σ H → wpAny (model X.prog X.w) X.A (execs st X.env) (SP X pins D) X.xe s
theorem thn {α : Type} {t : Sem α} {Q Q' : α → Shared → Prop} {M : Model} {A : Around} {E : Value → Shared → Prop} {s : Shared} (h : wpAny M A t Q E s) (hQ : ∀ a s, Q a s → Q' a s) : wpAny M A t Q' E s := wpAny_mono h hQ fun _ _ x => x
end L2

namespace L2
open PySem PySem.Spec PyProof.Rows
section
variable {X : Cx}

noncomputable def tVar (i : Nat) : TE := fun σ H Q => ∃ v, σ[i]? = some (some v) ∧ Q v H
noncomputable def tC (v : V) : TE := fun _ H Q => Q v H
theorem pe_var {i : Nat} {x : Str} {pos : Pos} (hN : X.N[i]? = some x) (hv : Vis X.env.scope x) (hd : (x == ("__debug__" : Str)) = false := by decide) (hcd : (x == ("__classdict__" : Str)) = false := by decide) : PE X (.Name x pos) (tVar i) := by
  intro pins s σ H Q I h
  obtain ⟨v, e, h⟩ := h
  obtain ⟨m, hn, hl⟩ := I.loc
  obtain ⟨u, r, l⟩ := hl i x v hN e hv
  have fin : EP X pins σ Q u s := ⟨v, H, I, r, h⟩
  rcases l with ⟨hk, hm⟩ | ⟨hk, c, hc, hcell⟩
  · exact wpAny_Name (wpAny_loadName_local I.ok.kind hk hn hm fin) hd
  · rcases hk with hk | hk
    · exact wpAny_Name (wpAny_loadName_cell I.ok.kind hk hc hcell fin) hd
    · exact wpAny_Name (wpAny_loadName_free I.ok.kind hk hc hcell fin hcd) hd
theorem pe_int {i j pos} : PE X (.Constant (.int i) j pos) (tC (.int i)) := fun _ _ _ H _ I h => wpAny_Constant_int ⟨.int i, H, I.tok _, ⟨_, rfl⟩, h⟩
theorem pe_bl {b j pos} : PE X (.Constant (.bool b) j pos) (tC (.bl b)) := fun _ _ _ H _ I h => Constant_bool ⟨.bl b, H, I, rfl, h⟩
theorem pe_str {x j pos} : PE X (.Constant (.str x) j pos) (tC (.str x)) := fun _ _ _ H _ I h => Calls.Constant_str ⟨.str x, H, I.tok _, ⟨_, rfl⟩, h⟩

noncomputable def Gl (X : Cx) (x : Str) : Prop := X.env.kindOf x = some .globalImplicit
theorem ld_glob {E : Value → Shared → Prop} {pins : List (Addr × Obj)} {s : Shared} {σ : St} {H : Hp} {x : Str} {u : Value} {pos : Pos} {Q : Value → Shared → Prop} (I : Inv X pins σ H s) (hg : Gl X x) (hm : X.mg x = some u) (h : Q u s)
    (hd : (x == ("__debug__" : Str)) = false := by decide) : wpAny (model X.prog X.w) X.A (eval (.Name x pos) X.env) Q E s :=
  Calls.Name_function_global I.ok.kind hg (Calls.loadGlobal_global (by rw [I.ok.glob]; exact I.mod.glob.keeps I.bk) hm h) hd
theorem ld_blt {E : Value → Shared → Prop} {pins : List (Addr × Obj)} {s : Shared} {σ : St} {H : Hp} {x : Str} {u : Value} {pos : Pos} {Q : Value → Shared → Prop} (I : Inv X pins σ H s) (hg : Gl X x) (hm : X.mg x = none) (hv : bootBuiltins x = some u) (h : Q u s)
    (hn : x ≠ "__name__" := by decide) (hd : (x == ("__debug__" : Str)) = false := by decide) : wpAny (model X.prog X.w) X.A (eval (.Name x pos) X.env) Q E s := by
  obtain ⟨mb, h1, h2⟩ := I.mod.blt
  exact Calls.Name_function_global I.ok.kind hg (Calls.loadGlobal_builtin (by rw [I.ok.glob]; exact I.mod.glob.keeps I.bk) hm (by rw [I.ok.blt]; exact h1.keeps I.bk) ((h2 x hn).trans hv) h) hd
theorem pe_glob {x : Str} {v : V} {u : Value} {pos : Pos} (hg : Gl X x) (hm : X.mg x = some u) (r : RelV v u) (hd : (x == ("__debug__" : Str)) = false := by decide) : PE X (.Name x pos) (tC v) :=
  fun _ _ _ H _ I h => ld_glob I hg hm ⟨v, H, I, r, h⟩ hd
theorem pe_bltn {x : Str} {v : V} {u : Value} {pos : Pos} (hg : Gl X x) (hm : X.mg x = none) (hv : bootBuiltins x = some u) (r : RelV v u) (hn : x ≠ "__name__" := by decide) (hd : (x == ("__debug__" : Str)) = false := by decide) : PE X (.Name x pos) (tC v) :=
  fun _ _ _ H _ I h => ld_blt I hg hm hv ⟨v, H, I, r, h⟩ hn hd

variable {a b : Expr} {ta tb : TE} {pos : Pos}
noncomputable def PC (X : Cx) (op : CmpOp) (a b : Expr) (t : TE) : Prop :=
  ∀ (pins : List (Addr × Obj)) (s : Shared) (σ : St) (H : Hp) (Q : VK), Inv X pins σ H s → t σ H Q →
    wpAny (model X.prog X.w) X.A (eval a X.env) (fun v s₁ => wpAny (model X.prog X.w) X.A (eval b X.env) (fun u s₂ => wpAny (model X.prog X.w) X.A (compareOp op v u) (EP X pins σ Q) X.xe s₂) X.xe s₁) X.xe s
noncomputable def tB (t : TE) : TT := fun σ H Q => t σ H fun x H1 => ∃ c, x = .bl c ∧ Q c H1
theorem pt_cmp {op : CmpOp} {t : TE} (h : PC X op a b t) (h1 : behindInMarks op b = false := by first | exact nobehind _ (by decide) (by decide) | rfl) : PT X (.Compare a [op] [b] pos) (tB t) := by
  intro pins s σ H Q I hw
  refine wpAny_isTrue_Compare1 (thn (h pins s σ H _ I hw) fun v s1 h1 => thn h1 fun u s2 h2 => thn h2 fun c s3 ⟨x, H1, I1, r1, q1⟩ => ?_) h1
  obtain ⟨d, rfl, q⟩ := q1
  cases r1
  exact wpAny_truthy_bool ⟨H1, I1, q⟩
theorem pt_val {e : Expr} {t : TE} (h : PE X e t) (he : ∀ whole, isTrue e X.env whole = (do let v ← whole; standAt e.pos; holding [v] (truthy v)) := by intro _; rfl) : PT X e (tB t) := by
  intro pins s σ H Q I hw
  refine isTrue_plain (thn (h pins s σ H _ I hw) fun v s1 ⟨x, H1, I1, r1, q1⟩ => ?_) (he _)
  obtain ⟨d, rfl, q⟩ := q1
  cases r1
  exact wpAny_truthy_bool ⟨H1, I1, q⟩

variable {tA tB' : TT} {rest : List Expr}
noncomputable def tAnd (t u : TT) : TT := fun σ H Q => t σ H fun c H1 => if c = true then u σ H1 Q else Q false H1
noncomputable def tOr (t u : TT) : TT := fun σ H Q => t σ H fun c H1 => if c = true then Q true H1 else u σ H1 Q
noncomputable def tNot (t : TT) : TT := fun σ H Q => t σ H fun c H1 => Q (!c) H1
theorem pw_and1 (ha : PT X a tA) : PW X (.BoolOp .And [a] pos) tA := by
  intro wh pins s σ H Q I h
  refine isTrue_and (thn (ha pins s σ H Q I h) fun c s1 e => ?_)
  cases c with
  | true => exact isTrue_and_nil e
  | false => exact e
theorem pw_or1 (ha : PT X a tA) : PW X (.BoolOp .Or [a] pos) tA := by
  intro wh pins s σ H Q I h
  refine isTrue_or (thn (ha pins s σ H Q I h) fun c s1 e => ?_)
  cases c with
  | false => exact isTrue_or_nil e
  | true => exact e
theorem pw_and (ha : PT X a tA) (hb : PW X (.BoolOp .And (b :: rest) pos) tB') : PW X (.BoolOp .And (a :: b :: rest) pos) (tAnd tA tB') := by
  intro wh pins s σ H Q I h
  refine isTrue_and (thn (ha pins s σ H _ I h) fun c s1 ⟨H1, I1, q1⟩ => ?_)
  cases c with
  | true => exact hb wh pins s1 σ H1 Q I1 q1
  | false => exact ⟨H1, I1, q1⟩
theorem pw_or (ha : PT X a tA) (hb : PW X (.BoolOp .Or (b :: rest) pos) tB') : PW X (.BoolOp .Or (a :: b :: rest) pos) (tOr tA tB') := by
  intro wh pins s σ H Q I h
  refine isTrue_or (thn (ha pins s σ H _ I h) fun c s1 ⟨H1, I1, q1⟩ => ?_)
  cases c with
  | true => exact ⟨H1, I1, q1⟩
  | false => exact hb wh pins s1 σ H1 Q I1 q1
theorem pt_not (ha : PT X a tA) : PT X (.UnaryOp .Not a pos) (tNot tA) := by
  intro pins s σ H Q I h
  exact isTrue_not (ha pins s σ H (fun c H1 => Q (!c) H1) I h)
noncomputable def tAndV (ta tb : TE) : TE := fun σ H Q => ta σ H fun x H1 => ∃ c, x = .bl c ∧ if c = true then tb σ H1 Q else Q (.bl false) H1
noncomputable def tNotV (ta : TE) : TE := fun σ H Q => ta σ H fun x H1 => ∃ c, x = .bl c ∧ Q (.bl (!c)) H1
theorem pe_one {op} {t : TE} (h : PE X a t) : PE X (.BoolOp op [a] pos) t := fun pins s σ H Q I hw => BoolOp_one (h pins s σ H Q I hw)
theorem pe_and (ha : PE X a ta) (hb : PE X (.BoolOp .And (b :: rest) pos) tb) : PE X (.BoolOp .And (a :: b :: rest) pos) (tAndV ta tb) := by
  intro pins s σ H Q I h
  refine BoolOp_and (thn (ha pins s σ H _ I h) fun v s1 ⟨x, H1, I1, r1, q1⟩ => ?_)
  obtain ⟨c, rfl, q1⟩ := q1
  cases r1
  refine wpAny_truthy_bool ?_
  cases c with
  | true => exact hb pins s1 σ H1 Q I1 q1
  | false => exact ⟨.bl false, H1, I1, rfl, q1⟩
theorem pe_not (ha : PE X a ta) : PE X (.UnaryOp .Not a pos) (tNotV ta) := by
  intro pins s σ H Q I h
  refine UnaryOp_ (thn (ha pins s σ H _ I h) fun v s1 ⟨x, H1, I1, r1, q1⟩ => ?_)
  obtain ⟨c, rfl, q1⟩ := q1
  cases r1
  exact not_of (wpAny_truthy_bool ⟨.bl (!c), H1, I1, rfl, q1⟩)
noncomputable def tIf (t : TT) (ta tb : TE) : TE := fun σ H Q => t σ H fun c H1 => if c = true then ta σ H1 Q else tb σ H1 Q
theorem pe_ifExp {c : Expr} (hc : PT X c tA) (ha : PE X a ta) (hb : PE X b tb) : PE X (.IfExp c a b pos) (tIf tA ta tb) := by
  intro pins s σ H Q I h
  refine wpAny_IfExp (thn (hc pins s σ H _ I h) fun d s1 ⟨H1, I1, q1⟩ => ?_)
  cases d with
  | true => exact ha pins s1 σ H1 Q I1 q1
  | false => exact hb pins s1 σ H1 Q I1 q1
end
end L2

namespace L2
open PySem PySem.Spec PyProof.Rows

noncomputable def SqL (K : PySem.W.Frag) (H : Hp) (a : Addr) (xs : List V) : Prop :=
  Rd H a (.lst xs) ∨
    ∃ (o : Obj) (its : Array Value) (n : Nat), K.lookup a = some o ∧ o.cls = .type "list" ∧ o.dict = none ∧ o.data = .seq its n ∧ its.size ≤ sizeLine ∧ Vals xs its.toList
noncomputable def SqT (K : PySem.W.Frag) (H : Hp) (a : Addr) (xs : List V) : Prop :=
  Rd H a (.tup xs) ∨
    ∃ (o : Obj) (its : Array Value) (n : Nat), K.lookup a = some o ∧ o.cls = .type "tuple" ∧ o.data = .seq its n ∧ its.size ≤ sizeLine ∧ Vals xs its.toList
noncomputable def absV : Value → Option V
  | .none => some .non
  | .bool b => some (.bl b)
  | .int i _ => some (.int i)
  | .str x _ => some (.str x)
  | .bytes b _ => some (.byt b)
  | .float b _ => some (.flt b)
  | .ref a => some (.ref a)
  | .type n => some (.ty n)
  | _ => none
theorem RelV.abs {x : V} {u : Value} (r : RelV x u) : absV u = some x := by
  cases x with
  | non => cases r; rfl
  | bl _ => cases r; rfl
  | int _ => obtain ⟨t, rfl⟩ := r; rfl
  | str _ => obtain ⟨t, rfl⟩ := r; rfl
  | byt _ => obtain ⟨t, rfl⟩ := r; rfl
  | flt _ => obtain ⟨t, rfl⟩ := r; rfl
  | ref _ => cases r; rfl
  | ty _ => cases r; rfl
theorem RelV.inj {x y : V} {u : Value} (r : RelV x u) (q : RelV y u) : x = y := Option.some.inj (r.abs.symm.trans q.abs)
theorem Vals.inj : ∀ {xs ys : List V} {us : List Value}, Vals xs us → Vals ys us → xs = ys
  | _, _, _, .nil, .nil => rfl
  | _, _, _, .cons r t, .cons r' t' => by rw [r.inj r', Vals.inj t t']
section
variable {X : Cx} {pins : List (Addr × Obj)} {σ : St} {H : Hp} {s : Shared} {a : Addr} {xs ys : List V}
theorem SqL.of {K : PySem.W.Frag} (h : H a = some (.lst xs)) : SqL K H a xs := .inl (.inl h)
theorem SqT.of {K : PySem.W.Frag} (h : H a = some (.tup xs)) : SqT K H a xs := .inl (.inl h)
theorem Inv.list (I : Inv X pins σ H s) (h : SqL X.K H a xs) : ∃ its : List Value, Vals xs its ∧ PlainL s.heap a its.toArray ∧ xs.length ≤ sizeLine := by
  rcases h with h | ⟨o, its, n, hk, hc, hd, hs, hz, r⟩
  · obtain ⟨z, its, n, r, e⟩ := h.ok I.hok
    exact ⟨its, r, ⟨_, n, e, rfl, rfl, rfl⟩, z⟩
  · refine ⟨its.toList, r, ⟨o, n, I.kIn a o hk, hc, hd, by simpa using hs⟩, ?_⟩
    have e := r.length
    simp only [Array.length_toList] at e
    omega
theorem Inv.tuple (I : Inv X pins σ H s) (h : SqT X.K H a xs) : ∃ its : List Value, Vals xs its ∧ IsTup s.heap a its.toArray ∧ xs.length ≤ sizeLine := by
  rcases h with h | ⟨o, its, n, hk, hc, hs, hz, r⟩
  · obtain ⟨z, its, r, p⟩ := h.ok I.hok
    exact ⟨its, r, p.tup, z⟩
  · refine ⟨its.toList, r, ⟨o, I.kIn a o hk, hc, n, by simpa using hs⟩, ?_⟩
    have e := r.length
    simp only [Array.length_toList] at e
    omega
theorem Inv.list_inj (I : Inv X pins σ H s) (h : SqL X.K H a xs) (h' : SqL X.K H a ys) : xs = ys := by
  obtain ⟨its, r, ⟨o, n, e, _, _, d⟩, _⟩ := I.list h
  obtain ⟨its', r', ⟨o', n', e', _, _, d'⟩, _⟩ := I.list h'
  rw [e] at e'; cases e'
  rw [d] at d'
  injection d' with d1 _
  have : its = its' := by simpa using congrArg Array.toList d1
  subst this
  exact r.inj r'
theorem Inv.tuple_inj (I : Inv X pins σ H s) (h : SqT X.K H a xs) (h' : SqT X.K H a ys) : xs = ys := by
  obtain ⟨its, r, ⟨o, e, _, n, d⟩, _⟩ := I.tuple h
  obtain ⟨its', r', ⟨o', e', _, n', d'⟩, _⟩ := I.tuple h'
  rw [e] at e'; cases e'
  rw [d] at d'
  injection d' with d1 _
  have : its = its' := by simpa using congrArg Array.toList d1
  subst this
  exact r.inj r'
end

noncomputable abbrev Cx.wish (X : Cx) (E : Value → Shared → Prop) : Cx := { X with xe := E }
noncomputable abbrev Cx.nox (X : Cx) : Cx := X.wish fun _ _ => False
theorem Cx.Ok.wish {X : Cx} (ok : X.Ok) (E : Value → Shared → Prop) : (X.wish E).Ok :=
  ⟨ok.mod, ok.kind, ok.glob, ok.blt, ok.above, ok.inj, ok.has, ok.cab, ok.hd, ok.frames, ok.stk, ok.exf, ok.bs, ok.bsz, ok.noex, ok.exfs, ok.funs, ok.frf⟩
theorem Cx.Ok.unwish {X : Cx} {E : Value → Shared → Prop} (ok : (X.wish E).Ok) : X.Ok :=
  ⟨ok.mod, ok.kind, ok.glob, ok.blt, ok.above, ok.inj, ok.has, ok.cab, ok.hd, ok.frames, ok.stk, ok.exf, ok.bs, ok.bsz, ok.noex, ok.exfs, ok.funs, ok.frf⟩
section
variable {X : Cx} {pins : List (Addr × Obj)} {σ : St} {H : Hp} {s : Shared} {E : Value → Shared → Prop}
theorem Inv.wish (I : Inv X pins σ H s) (E : Value → Shared → Prop) : Inv (X.wish E) pins σ H s := ⟨I.ok.wish E, I.os, I.bare, I.base, I.loc, I.cell, I.free, I.freeC, I.pin, I.hok, I.len⟩
theorem Inv.unwish (I : Inv (X.wish E) pins σ H s) : Inv X pins σ H s := ⟨I.ok.unwish, I.os, I.bare, I.base, I.loc, I.cell, I.free, I.freeC, I.pin, I.hok, I.len⟩
theorem SP.unwish {D : Ends} {f : Flow} {s' : Shared} (h : SP (X.wish E) pins D f s') : SP X pins D f s' := by
  cases f with
  | next => obtain ⟨σ', H', I, q⟩ := h; exact ⟨σ', H', I.unwish, q⟩
  | brk => obtain ⟨σ', H', I, q⟩ := h; exact ⟨σ', H', I.unwish, q⟩
  | cont => obtain ⟨σ', H', I, q⟩ := h; exact ⟨σ', H', I.unwish, q⟩
  | ret u => obtain ⟨v, σ', H', I, r, q⟩ := h; exact ⟨v, σ', H', I.unwish, r, q⟩
theorem PSs.nox {st : List Stmt} {t : TS} (h : PSs X.nox st t) : PSs X st t := fun pins s σ H D I hw =>
  wpAny_mono (h pins s σ H D (I.wish _) hw) (fun _ _ q => q.unwish) fun _ _ z => False.elim z
end

section
variable {X : Cx} {st : Stmt} {rest : List Stmt} {t u : TS} {e : Expr} {te : TE} {pos : Pos}
noncomputable def tNext : TS := fun D σ H => D.nx σ H
noncomputable def tSeq (t u : TS) : TS := fun D σ H => t { D with nx := u D } σ H
theorem pss_nil : PSs X [] tNext := fun _ _ σ H _ I h => wpAny_execs_nil ⟨σ, H, I, h⟩
theorem pss_cons (h1 : PS X st t) (h2 : PSs X rest u) : PSs X (st :: rest) (tSeq t u) := by
  intro pins s σ H D I h
  refine wpAny_execs_cons (thn (h1 pins s σ H { D with nx := u D } I h) fun f s1 q => ?_)
  cases f with
  | next =>
    obtain ⟨σ', H', I', q⟩ := q
    exact h2 pins s1 σ' H' D I' q
  | ret v => exact q
  | brk => exact q
  | cont => exact q
theorem pss_one (h1 : PS X st t) : PSs X [st] t := by
  intro pins s σ H D I h
  refine wpAny_execs_cons (thn (h1 pins s σ H D I h) fun f s1 q => ?_)
  cases f with
  | next => exact wpAny_execs_nil q
  | ret v => exact q
  | brk => exact q
  | cont => exact q
theorem Inv.quiet {pins : List (Addr × Obj)} {σ : St} {H : Hp} {s : Shared} (I : Inv X pins σ H s) : interactive X.env = false := by simp [interactive, I.ok.kind]
noncomputable def tDrop (te : TE) : TS := fun D σ H => te σ H fun _ H1 => D.nx σ H1
theorem ps_expr (he : PE X e te) (hs : swapsWith e none pos.line X.env = pure false := by rfl) : PS X (.Expr e pos) (tDrop te) := by
  intro pins s σ H D I h
  exact wpAny_Expr_any (thn (he pins s σ H _ I h) fun v s1 ⟨x, H1, I1, r1, q1⟩ => ⟨σ, H1, I1, q1⟩) I.quiet hs
noncomputable def tRet (te : TE) : TS := fun D σ H => te σ H D.rt
theorem ps_ret (he : PE X e te) : PS X (.Return (some e) pos) (tRet te) := by
  intro pins s σ H D I h
  exact wpAny_Return_some (thn (he pins s σ H _ I h) fun v s1 ⟨x, H1, I1, r1, q1⟩ => ⟨x, σ, H1, I1, r1, q1⟩)
noncomputable def tIfS (c : TT) (t u : TS) : TS := fun D σ H => c σ H fun b H1 => if b = true then t D σ H1 else u D σ H1
theorem ps_if {c : Expr} {a b : List Stmt} {tc : TT} (hc : PT X c tc) (ha : PSs X a t) (hb : PSs X b u) : PS X (.If c a b pos) (tIfS tc t u) := by
  intro pins s σ H D I h
  refine wpAny_If (thn (hc pins s σ H _ I h) fun d s1 ⟨H1, I1, q1⟩ => ?_)
  cases d with
  | true => exact ha pins s1 σ H1 D I1 q1
  | false => exact hb pins s1 σ H1 D I1 q1
end

noncomputable abbrev TG := V → St → Hp → (St → Hp → Prop) → Prop
noncomputable abbrev TGs := List V → St → Hp → (St → Hp → Prop) → Prop
noncomputable def PG (X : Cx) (target : Expr) (t : TG) : Prop :=
  ∀ (pins : List (Addr × Obj)) (s : Shared) (σ : St) (H : Hp) (v : V) (u : Value) (Q : St → Hp → Prop), Inv X pins σ H s → RelV v u → t v σ H Q →
    wpAny (model X.prog X.w) X.A (assign target X.env u) (fun _ s' => ∃ σ' H', Inv X pins σ' H' s' ∧ Q σ' H') X.xe s
noncomputable def PGs (X : Cx) (ts : List Expr) (t : TGs) : Prop :=
  ∀ (pins : List (Addr × Obj)) (s : Shared) (σ : St) (H : Hp) (vs : List V) (us : List Value) (Q : St → Hp → Prop), Inv X pins σ H s → Vals vs us → t vs σ H Q →
    wpAny (model X.prog X.w) X.A (assignInOrder ((assignEach ts X.env).map (·.2)) us) (fun _ s' => ∃ σ' H', Inv X pins σ' H' s' ∧ Q σ' H') X.xe s
noncomputable abbrev TSet := V → V → V → Hp → (Hp → Prop) → Prop
noncomputable def PSet (X : Cx) (t : TSet) : Prop :=
  ∀ (pins : List (Addr × Obj)) (s : Shared) (σ : St) (H : Hp) (o i v : V) (ov iv u : Value) (Q : Hp → Prop), Inv X pins σ H s → RelV o ov → RelV i iv → RelV v u → t o i v H Q →
    wpAny (model X.prog X.w) X.A (setItem ov iv u) (fun _ s' => ∃ H', Inv X pins σ H' s' ∧ Q H') X.xe s
section
variable {X : Cx} {pos : Pos}
noncomputable def gName (i : Nat) : TG := fun v σ H Q => Q (σ.set i (some v)) H
theorem pg_name {i : Nat} {x : Str} (hN : X.N.Nodup) (hi : X.N[i]? = some x) (hx : Loc X.env.scope x) (hf : X.fn x = true ∨ X.env.scope.names.lookup x = some .local := by first | exact .inl rfl | exact .inr rfl | assumption) : PG X (.Name x pos) (gName i) := by
  intro pins s σ H v u Q I r h
  exact wpAny_assign_Name (store_ok I hN hi hx r (fun s' I' => ⟨_, H, I', h⟩) hf)
noncomputable def gNil : TGs := fun vs σ H Q => vs = [] ∧ Q σ H
noncomputable def gCons (t : TG) (u : TGs) : TGs := fun vs σ H Q => ∃ v r, vs = v :: r ∧ t v σ H fun σ' H' => u r σ' H' Q
theorem pgs_nil : PGs X [] gNil := by
  intro pins s σ H vs us Q I r h
  obtain ⟨e, h⟩ := h
  subst e
  cases r
  exact assignInOrder_nil ⟨σ, H, I, h⟩
theorem pgs_cons {e : Expr} {es : List Expr} {t : TG} {u : TGs} (h1 : PG X e t) (h2 : PGs X es u)
    (hs : (assignEach (e :: es) X.env).map (·.2) = assign e X.env :: (assignEach es X.env).map (·.2) := by rfl) : PGs X (e :: es) (gCons t u) := by
  intro pins s σ H vs us Q I r h
  obtain ⟨v, vr, e1, h⟩ := h
  subst e1
  cases r with
  | cons r rr =>
    rw [hs]
    refine assignInOrder_cons (thn (h1 pins s σ H _ _ _ I r h) fun _ s1 ⟨σ1, H1, I1, q1⟩ => ?_)
    exact h2 pins s1 σ1 H1 _ _ Q I1 rr q1
noncomputable def gTup (K : PySem.W.Frag) (n : Nat) (t : TGs) : TG := fun v σ H Q => ∃ a xs, v = .ref a ∧ SqT K H a xs ∧ xs.length = n ∧ t xs σ H Q
theorem pg_tup {es : List Expr} {k : Nat} {t : TGs} {n : Nat} (hc : X.calm = true) (h : PGs X es t)
    (hn : (assignEach es X.env).length = n := by rfl) (hst : (assignEach es X.env).findIdx? (·.1) = none := by rfl) : PG X (.Tuple es k pos) (gTup X.K n t) := by
  intro pins s σ H v u Q I r hw
  obtain ⟨a, xs, e1, hq, hl, hw⟩ := hw
  subst e1
  cases r
  obtain ⟨its, rv, ht, hz⟩ := I.tuple hq
  refine assign_Tuple_tuple (I.ok.hd hc) ht (by simp [hn, ← hl, rv.length]) hst fun h' hx => ?_
  have I1 : Inv X pins σ H { s with heap := h' } := I.kept (t' := s.toks) fun b o e => hx b o (Nat.ne_of_lt (Heap.lt_size e)) e
  exact h pins _ σ H xs _ Q I1 (by simpa using rv) hw
noncomputable def gSub (to ti : TE) (t : TSet) : TG := fun v σ H Q => to σ H fun o H1 => ti σ H1 fun i H2 => t o i v H2 fun H3 => Q σ H3
theorem pg_sub {o i : Expr} {to ti : TE} {t : TSet} (ho : PE X o to) (hi : PE X i ti) (hs : PSet X t)
    (ha : ∀ v, assign (.Subscript o i pos) X.env v = (do
      let ov ← holding [v] (eval o X.env)
      let iv ← holding [v, ov] (eval i X.env)
      standAt pos
      holding [v, ov, iv] (setItem ov iv v)
      release [v, ov, iv] []) := by intro _; rfl) : PG X (.Subscript o i pos) (gSub to ti t) := by
  intro pins s σ H v u Q I r h
  rw [ha]
  refine wpAny_bind (wpAny_holding (thn (ho pins s σ H _ I h) fun ov s1 ⟨x, H1, I1, r1, q1⟩ => ?_))
  refine wpAny_bind (wpAny_holding (thn (hi pins s1 σ H1 _ I1 q1) fun iv s2 ⟨y, H2, I2, r2, q2⟩ => ?_))
  refine wpAny_bind (wpAny_standAt (wpAny_bind (wpAny_holding (thn (hs pins s2 σ H2 x y v ov iv u _ I2 r1 r2 r q2) fun _ s3 ⟨H3, I3, q3⟩ => ?_))))
  exact wpAny_release ⟨σ, H3, I3, q3⟩
noncomputable def tAsg (te : TE) (g : TG) : TS := fun D σ H => te σ H fun x H1 => g x σ H1 D.nx
theorem ps_asg {tg e : Expr} {te : TE} {g : TG} (he : PE X e te) (hg : PG X tg g) (hs : swapsWithSole [tg] e pos.line X.env = pure false := by rfl) (hw : swappedStores [tg] e X.env = pure none := by rfl)
    (h1 : (assignEach [tg] X.env).map (·.2) = [assign tg X.env] := by rfl) : PS X (.Assign [tg] e pos) (tAsg te g) := by
  intro pins s σ H D I h
  refine wpAny_Assign_stores (thn (he pins s σ H _ I h) fun v s1 ⟨x, H1, I1, r1, q1⟩ => ?_) hs hw
  rw [h1]
  exact thn (hg pins s1 σ H1 x v _ I1 r1 q1) fun _ s2 q => q
theorem ps_set {i : Nat} {x : Str} {e : Expr} {te : TE} {pos' : Pos} (hN : X.N.Nodup) (hi : X.N[i]? = some x) (hx : Loc X.env.scope x) (he : PE X e te) (hs : swapsWith e (some (.Name x pos')) pos.line X.env = pure false := by rfl) (hf : X.fn x = true ∨ X.env.scope.names.lookup x = some .local := by first | exact .inl rfl | exact .inr rfl | assumption) :
    PS X (.Assign [.Name x pos'] e pos) (tAsg te (gName i)) := by
  intro pins s σ H D I h
  refine wpAny_Assign_Name (thn (he pins s σ H _ I h) fun v s1 ⟨y, H1, I1, r1, q1⟩ => ?_) hs
  exact store_ok I1 hN hi hx r1 (fun s2 I2 => ⟨_, H1, I2, q1⟩) hf
noncomputable def tPar (i j : Nat) (ta : TA) : TS := fun D σ H => ta σ H fun vs H1 => ∃ v w, vs = [v, w] ∧ D.nx ((σ.set i (some v)).set j (some w)) H1
theorem ps_par {i j : Nat} {x y : Str} {a b : Expr} {ta : TA} {px py pt : Pos} {kt k2 pt2} (hc : X.calm = true) (hN : X.N.Nodup) (hi : X.N[i]? = some x) (hj : X.N[j]? = some y) (hij : i ≠ j)
    (hx : X.env.scope.names.lookup x = some .local) (hy : X.env.scope.names.lookup y = some .local) (ha : PA X [a, b] ta)
    (hw : swappedStores [.Tuple [.Name x px, .Name y py] kt pt] (.Tuple [a, b] k2 pt2) X.env = pure (some [x, y]))
    (hs : swapsWithSole [.Tuple [.Name x px, .Name y py] kt pt] (.Tuple [a, b] k2 pt2) pos.line X.env = pure false := by rfl) :
    PS X (.Assign [.Tuple [.Name x px, .Name y py] kt pt] (.Tuple [a, b] k2 pt2) pos) (tPar i j ta) := by
  intro pins s σ H D I h
  rw [exec_Assign_arm]
  refine wpAny_bind (wpAny_standAt ?_)
  rw [hs]
  refine wpAny_bind (wpAny_pure ?_)
  rw [if_neg (by decide)]
  refine wpAny_bind (Tuple_ (thn (ha _ pins s σ H _ I h) fun us s1 ⟨vs, H1, I1, r1, q1⟩ => ?_))
  obtain ⟨v, w, e1, q1⟩ := q1
  subst e1
  obtain ⟨u1, u2, rfl, rv, rw'⟩ : ∃ u1 u2, us = [u1, u2] ∧ RelV v u1 ∧ RelV w u2 := by
    cases r1 with
    | cons p q =>
      cases q with
      | cons p' q' =>
        cases q'
        exact ⟨_, _, rfl, p, p'⟩
  refine wpAny_newObj_type ?_ (by show 2 ≤ sizeLine; decide)
  have I2 : Inv X pins σ H1 { s1 with heap := s1.heap.push { cls := .type "tuple", data := .seq [u1, u2].toArray } } := I1.kept (t' := s1.toks) fun b o e => Heap.get?_push_of_some _ e
  rw [hw]
  refine wpAny_bind (wpAny_pure ?_)
  show wpAny (model X.prog X.w) X.A (do rule "assign.swapped-stores"; let items ← unpackItems (.ref s1.heap.objs.size) 2 none; assignInOrder [fun v => bindName X.env y v, fun v => bindName X.env x v] items.reverse; pure Flow.next) _ _ _
  refine wpAny_bind (wpAny_rule (wpAny_bind (unpackItems_tuple (items := #[u1, u2]) (I.ok.hd hc) (IsTup.new s1.heap _) fun h' hx' => ?_)))
  have I3 := I2.kept (h' := h') (t' := s1.toks) fun b o e => hx' b o (Nat.ne_of_lt (Heap.lt_size e)) e
  show wpAny _ _ (assignInOrder [fun v => bindName X.env y v, fun v => bindName X.env x v] [u2, u1] >>= fun _ => pure Flow.next) _ _ _
  refine wpAny_bind (assignInOrder_cons (wpAny_bindName (store_ok I3 hN hj (.inl hy) rw' (fun s2 I4 => ?_) (.inr hy))))
  refine assignInOrder_cons (wpAny_bindName (store_ok I4 hN hi (.inl hx) rv (fun s3 I5 => assignInOrder_nil (wpAny_pure ?_)) (.inr hx)))
  rw [List.set_comm _ _ (Ne.symm hij)] at I5
  exact ⟨_, H1, I5, q1⟩
end

section
variable {X : Cx} {pos : Pos}
noncomputable def tWhile (c : TT) (tb : TS) : TS := fun D σ H => ∃ W : Nat → St → Hp → Prop, (∃ m, W m σ H) ∧ ∀ m σ H, W m σ H →
  c σ H fun b H1 => if b = true then ∃ N : St → Hp → Prop, (∀ σ' H', N σ' H' → ∃ m', m' < m ∧ W m' σ' H') ∧ tb { D with nx := N, ct := N, bk := D.nx } σ H1 else D.nx σ H1
theorem ps_while {c : Expr} {body : List Stmt} {tc : TT} {tb : TS} (hp : PassesOwn (model X.prog X.w) X.A X.env X.xe) (hc : PT X c tc) (hb : PSs X body tb) : PS X (.While c body [] pos) (tWhile tc tb) := by
  intro pins s σ H D I h
  obtain ⟨W, ⟨m0, w0⟩, turn⟩ := h
  refine wpAny_While (codeAny_whileLoop (fun n s' => ∃ σ' H', Inv X pins σ' H' s' ∧ W n σ' H') ?_ m0 ⟨σ, H, I, w0⟩)
  rintro n s1 ⟨σ1, H1, I1, w1⟩
  refine wpAny_passesOwn hp (thn (hc pins s1 σ1 H1 _ I1 (turn n σ1 H1 w1)) fun b s2 ⟨H2, I2, q2⟩ => ?_)
  cases b with
  | true =>
    obtain ⟨N, hN, q2⟩ := q2
    rw [if_pos rfl]
    refine wpAny_passesOwn hp (thn (hb pins s2 σ1 H2 _ I2 q2) fun f s3 q3 => ?_)
    cases f with
    | next =>
      obtain ⟨σ3, H3, I3, n3⟩ := q3
      obtain ⟨m', hm, w3⟩ := hN σ3 H3 n3
      exact ⟨m', hm, σ3, H3, I3, w3⟩
    | cont =>
      obtain ⟨σ3, H3, I3, n3⟩ := q3
      obtain ⟨m', hm, w3⟩ := hN σ3 H3 n3
      exact ⟨m', hm, σ3, H3, I3, w3⟩
    | brk => exact q3
    | ret v => exact q3
  | false =>
    rw [if_neg Bool.false_ne_true]
    exact wpAny_execs_nil ⟨σ1, H2, I2, q2⟩
end

structure It where
  go : Nat → Hp → Prop
  yld : Nat → Hp → V → Hp → Prop
  stop : Nat → Hp → Prop
noncomputable def FpOk (X : Cx) (pins : List (Addr × Obj)) (H : Hp) (b : Addr) : Prop :=
  H b = none ∧ b ≠ X.env.locals ∧ b ∉ X.fs ∧ (b ∈ X.ex ∨ X.s₀.heap.objs.size ≤ b) ∧ (∀ x c, X.env.cells.lookup x = some c → c ≠ b) ∧ ∀ p ∈ X.pn ++ pins, p.1 ≠ b
theorem Inv.fpOk {X : Cx} {pins : List (Addr × Obj)} {σ : St} {H H' : Hp} {s : Shared} {b : Addr} (I : Inv X pins σ H s) (hb : s.heap.objs.size ≤ b) (hn : H' b = none) : FpOk X pins H' b := by
  refine ⟨hn, Nat.ne_of_gt (Nat.lt_of_lt_of_le I.lt hb), I.nofs hb, .inr (Nat.le_trans I.sz hb), fun x c e z => ?_, fun p hp z => ?_⟩
  · obtain ⟨v, q⟩ := I.cell x c e
    exact absurd (Nat.lt_of_lt_of_le q.lt (by rw [z]; exact hb)) (Nat.lt_irrefl _)
  · exact absurd (Nat.lt_of_lt_of_le (Heap.lt_size (I.pin p hp).1) (by rw [z]; exact hb)) (Nat.lt_irrefl _)
structure Turn (P : Program) (w : World) (K : PySem.W.Frag) (tg : Expr) (J : It) (fp : List Addr) (it : Addr) (tn : Nat → Heap → Prop) : Prop where
  mem : it ∈ fp
  obj : ∀ i h, tn i h → ∀ b ∈ fp, ∃ o, h.get? b = some o ∧ ∀ v, o.data ≠ .cell v
  keep : ∀ i h h', tn i h → (∀ b ∈ fp, ∀ o, h.get? b = some o → h'.get? b = some o) → tn i h'
  item : ∀ (X : Cx), X.prog = P → X.w = w → X.K = K → X.calm = true → ∀ (i : Nat) (pins : List (Addr × Obj)) (s : Shared) (σ : St) (H : Hp) (E : Value → Shared → Prop), Inv X pins σ H s → (∀ b ∈ fp, FpOk X pins H b) → tn i s.heap → J.go i H →
    wpAny (model P w) X.A (pyNext (.ref it)) (fun r s1 => ∃ u, r = some u ∧
      wpAny (model P w) X.A (letOwnedTupleGo tg (.ref it) u) (fun _ s2 => ∃ x H', Inv X pins σ H' s2 ∧ RelV x u ∧ J.yld i H x H' ∧ tn (i + 1) s2.heap ∧ ∀ b ∈ fp, H' b = none) E s1) E s
  done : ∀ (X : Cx), X.prog = P → X.w = w → X.K = K → X.calm = true → ∀ (i : Nat) (pins : List (Addr × Obj)) (s : Shared) (σ : St) (H : Hp) (E : Value → Shared → Prop), Inv X pins σ H s → (∀ b ∈ fp, FpOk X pins H b) → tn i s.heap → J.stop i H →
    wpAny (model P w) X.A (pyNext (.ref it)) (fun r s1 => r = none ∧ Inv X pins σ H s1) E s
  self : ∀ (A : Around) (i : Nat) (s : Shared) (Q : Value → Shared → Prop) (E : Value → Shared → Prop), tn i s.heap → Q (.ref it) s → wpAny (model P w) A (pyIter (.ref it)) Q E s
noncomputable abbrev TI := St → Hp → (It → Hp → Prop) → Prop
noncomputable def PIE (X : Cx) (pins : List (Addr × Obj)) (σ : St) (tg : Expr) (R : It → Hp → Prop) (itv : Value) (s2 : Shared) : Prop :=
  ∃ (it : Addr) (fp : List Addr) (tn : Nat → Heap → Prop) (J : It) (H' : Hp), itv = .ref it ∧ Inv X pins σ H' s2 ∧ Turn X.prog X.w X.K tg J fp it tn ∧ tn 0 s2.heap ∧ (∀ b ∈ fp, FpOk X pins H' b) ∧ R J H'
noncomputable def PI (X : Cx) (tg iter : Expr) (wi : TI) : Prop :=
  ∀ (pins : List (Addr × Obj)) (s : Shared) (σ : St) (H : Hp) (R : It → Hp → Prop), Inv X pins σ H s → wi σ H R →
    wpAny (model X.prog X.w) X.A (eval iter X.env) (fun v s1 => wpAny (model X.prog X.w) X.A (pyIter v) (PIE X pins σ tg R) X.xe s1) X.xe s

theorem go_of {M : Model} {A : Around} {E : Value → Shared → Prop} {s : Shared} {tg : Expr} {it : Addr} {u : Value} {o : Obj} {n : String} {vs : Array Value} {Q : Unit → Shared → Prop} (ho : s.heap.get? it = some o) (hc : o.cls = .type n) (hd : o.data = .fields vs)
    (hn : ["enumerate", "zip", "dict_itemiterator", "dict_reverseitemiterator", "odict_iterator", "itertools.zip_longest", "itertools.pairwise"].contains n = false) (hQ : Q () s) : wpAny M A (letOwnedTupleGo tg (.ref it) u) Q E s := by
  unfold letOwnedTupleGo
  cases tg <;> first
    | exact wpAny_pure hQ
    | (cases u <;> first
        | exact wpAny_pure hQ
        | (refine wpAny_bind (wpAny_load ho ?_)
           rw [hc, hd]
           show wpAny M A (if (["enumerate", "zip", "dict_itemiterator", "dict_reverseitemiterator", "odict_iterator", "itertools.zip_longest", "itertools.pairwise"].contains n && vs[0]? == some (rawInt _)) = true then _ else _) Q E s
           rw [if_neg (by intro h; rw [hn, Bool.false_and] at h; cases h)]
           exact wpAny_pure hQ))

noncomputable def Itl (K : PySem.W.Frag) (a : Addr) : It :=
  ⟨fun i H => ∃ xs x, SqL K H a xs ∧ xs[i]? = some x, fun i H x H' => H' = H ∧ ∀ xs, SqL K H a xs → xs[i]? = some x, fun i H => ∃ xs, SqL K H a xs ∧ xs.length ≤ i⟩
noncomputable def Itt (K : PySem.W.Frag) (a : Addr) : It :=
  ⟨fun i H => ∃ xs x, SqT K H a xs ∧ xs[i]? = some x, fun i H x H' => H' = H ∧ ∀ xs, SqT K H a xs → xs[i]? = some x, fun i H => ∃ xs, SqT K H a xs ∧ xs.length ≤ i⟩
noncomputable def Itr (lo : Int) (n : Nat) : It := ⟨fun i _ => i < n, fun i H x H' => H' = H ∧ x = .int (lo + i), fun i _ => n ≤ i⟩
theorem turn_list {P : Program} {w : World} {K : PySem.W.Frag} {tg : Expr} (a it : Addr) : Turn P w K tg (Itl K a) [it] it (fun i h => h.IsListIter it a i) where
  mem := by simp
  obj := fun i h st b hb => by
    have e : b = it := by simpa using hb
    subst e
    obtain ⟨o, e, c, d⟩ := st
    exact ⟨o, e, fun v z => by rw [d] at z; cases z⟩
  keep := fun i h h' st k => st.at fun o e => k it (by simp) o e
  item := by
    intro X hP hw hK hc i pins s σ H E I hf st hg
    subst hP hw hK
    obtain ⟨xs, x, hq, hx⟩ := hg
    obtain ⟨its, rv, p, hz⟩ := I.list hq
    obtain ⟨u, hu, ru⟩ := rv.get hx
    obtain ⟨f0, f1, f2, f3, f4, f5⟩ := hf it (by simp)
    refine wpAny_pyNext_list_item st p.isList (x := u) (by simpa using hu) fun h' st' sb => ?_
    have I1 : Inv X pins σ H { s with heap := h' } := I.turned (t' := s.toks) (fun b o hb e => (sb.2 b hb).trans e) f0 f1 f3 f4 f5
    obtain ⟨o, e, c, d⟩ := id st'
    exact ⟨u, rfl, go_of (s := { s with heap := h' }) e c d (by decide) ⟨x, H, I1, ru, ⟨rfl, fun ys hy => by rw [I.list_inj hy hq]; exact hx⟩, st', fun b hb => (hf b hb).1⟩⟩
  done := by
    intro X hP hw hK hc i pins s σ H E I hf st hg
    subst hP hw hK
    obtain ⟨xs, hq, hx⟩ := hg
    obtain ⟨its, rv, p, hz⟩ := I.list hq
    obtain ⟨f0, f1, f2, f3, f4, f5⟩ := hf it (by simp)
    have hl := rv.length
    exact wpAny_pyNext_list_end (I.ok.hd hc) st p.isList (by simp; omega) fun h' eb => ⟨rfl, I.turned (t' := s.toks) (fun b o hb e => eb b o hb e) f0 f1 f3 f4 f5⟩
  self := fun _ _ _ _ _ st h => wpAny_pyIter_listiter st h
theorem turn_tuple {P : Program} {w : World} {K : PySem.W.Frag} {tg : Expr} (a it : Addr) : Turn P w K tg (Itt K a) [it] it (fun i h => h.IsTupleIter it a i) where
  mem := by simp
  obj := fun i h st b hb => by
    have e : b = it := by simpa using hb
    subst e
    obtain ⟨o, e, c, d⟩ := st
    exact ⟨o, e, fun v z => by rw [d] at z; cases z⟩
  keep := fun i h h' st k => st.at fun o e => k it (by simp) o e
  item := by
    intro X hP hw hK hc i pins s σ H E I hf st hg
    subst hP hw hK
    obtain ⟨xs, x, hq, hx⟩ := hg
    obtain ⟨its, rv, p, hz⟩ := I.tuple hq
    obtain ⟨u, hu, ru⟩ := rv.get hx
    obtain ⟨f0, f1, f2, f3, f4, f5⟩ := hf it (by simp)
    refine wpAny_pyNext_tuple_item st (show s.heap.IsTuple a its.toArray from p) (x := u) (by simpa using hu) fun h' st' sb => ?_
    have I1 : Inv X pins σ H { s with heap := h' } := I.turned (t' := s.toks) (fun b o hb e => (sb.2 b hb).trans e) f0 f1 f3 f4 f5
    obtain ⟨o, e, c, d⟩ := id st'
    exact ⟨u, rfl, go_of (s := { s with heap := h' }) e c d (by decide) ⟨x, H, I1, ru, ⟨rfl, fun ys hy => by rw [I.tuple_inj hy hq]; exact hx⟩, st', fun b hb => (hf b hb).1⟩⟩
  done := by
    intro X hP hw hK hc i pins s σ H E I hf st hg
    subst hP hw hK
    obtain ⟨xs, hq, hx⟩ := hg
    obtain ⟨its, rv, p, hz⟩ := I.tuple hq
    obtain ⟨f0, f1, f2, f3, f4, f5⟩ := hf it (by simp)
    have hl := rv.length
    exact wpAny_pyNext_tuple_end (I.ok.hd hc) st (show s.heap.IsTuple a its.toArray from p) (by simp; omega) fun h' eb => ⟨rfl, I.turned (t' := s.toks) (fun b o hb e => eb b o hb e) f0 f1 f3 f4 f5⟩
  self := fun _ _ _ _ _ st h => wpAny_pyIter_tupleiter st h
theorem turn_range {P : Program} {w : World} {K : PySem.W.Frag} {tg : Expr} (it : Addr) (lo : Int) (n : Nat) : Turn P w K tg (Itr lo n) [it] it (fun i h => IsRangeIter h it (lo + (i : Nat) * 1) ((n : Int) - (i : Nat)) 1) where
  mem := by simp
  obj := fun i h st b hb => by
    have e : b = it := by simpa using hb
    subst e
    exact ⟨_, st, fun v z => by
      have z' : Data.fields _ = Data.cell v := z
      cases z'⟩
  keep := fun i h h' st k => k it (by simp) _ st
  item := by
    intro X hP hw hK hc i pins s σ H E I hf st hg
    subst hP hw hK
    obtain ⟨f0, f1, f2, f3, f4, f5⟩ := hf it (by simp)
    have W := Walks.range (prog := X.prog) (w := X.w) (I.ok.hd hc) it lo 1 n
    refine W.item i s _ _ hg st fun v h' tk hv st' kk => ?_
    obtain ⟨t, rfl⟩ := hv
    have I1 : Inv X pins σ H { s with heap := h', toks := tk } := I.turned (fun b o hb e => kk b o (by simpa using hb) e) f0 f1 f3 f4 f5
    refine ⟨_, rfl, go_of (s := { s with heap := h', toks := tk }) (n := "range_iterator") st' rfl rfl (by decide) ⟨.int (lo + i), H, I1, ⟨t, ?_⟩, ⟨rfl, rfl⟩, st', fun b hb => (hf b hb).1⟩⟩
    rw [Int.mul_one]
  done := by
    intro X hP hw hK hc i pins s σ H E I hf st hg
    subst hP hw hK
    obtain ⟨f0, f1, f2, f3, f4, f5⟩ := hf it (by simp)
    exact wpAny_pyNext_range_end (I.ok.hd hc) st (by have : n ≤ i := hg; omega) fun h' eb => ⟨rfl, I.turned (t' := s.toks) (fun b o hb e => eb b o hb e) f0 f1 f3 f4 f5⟩
  self := fun _ _ _ _ _ st h => wpAny_pyIter_rangeiter st h
end L2

namespace L2
open PySem PySem.Spec PyProof.Rows
section
variable {X : Cx} {tg : Expr}
theorem range_it {pins : List (Addr × Obj)} {σ : St} {H : Hp} {s : Shared} {R : It → Hp → Prop} {E : Value → Shared → Prop} {lo hi : Int} {t u v : Tok} {tk : Nat} (I : Inv X pins σ H s) (h1 : -(2 ^ 62) ≤ lo) (h2 : lo < 2 ^ 62) (h3 : -(2 ^ 62) ≤ hi) (h4 : hi < 2 ^ 62)
    (q : R (Itr lo (hi - lo).toNat) H) : wpAny (model X.prog X.w) X.A (pyIter (.ref s.heap.objs.size)) (PIE X pins σ tg R) E { s with heap := s.heap.push { cls := .type "range", data := .fields #[.int lo t, .int hi u, .int 1 v] }, toks := tk } := by
  refine wpAny_pyIter_range (IsRange.new ..) (small_one h1 h2 h3 h4) ?_
  have I1 : Inv X pins σ H { s with heap := s.heap.push { cls := .type "range", data := .fields #[.int lo t, .int hi u, .int 1 v] }, toks := tk } := I.kept fun b o e => Heap.get?_push_of_some _ e
  refine ⟨(s.heap.push { cls := .type "range", data := .fields #[.int lo t, .int hi u, .int 1 v] }).objs.size, [(s.heap.push { cls := .type "range", data := .fields #[.int lo t, .int hi u, .int 1 v] }).objs.size], _, _, H, rfl,
    I1.kept (t' := tk) fun b o e => Heap.get?_push_of_some _ e, turn_range _ lo (hi - lo).toNat, ?_, fun b hb => ?_, q⟩
  · have e1 : lo + ((0 : Nat) : Int) * 1 = lo := by simp
    have e2 : (((hi - lo).toNat : Nat) : Int) - ((0 : Nat) : Int) = Builtin.Range.rangeSize lo hi 1 := by rw [rangeSize_one]; split <;> omega
    show IsRangeIter _ _ (lo + ((0 : Nat) : Int) * 1) ((((hi - lo).toNat : Nat) : Int) - ((0 : Nat) : Int)) 1
    rw [e1, e2]
    exact Heap.get?_push_size _ rfl
  · have e : b = (s.heap.push { cls := .type "range", data := .fields #[.int lo t, .int hi u, .int 1 v] }).objs.size := by simpa using hb
    subst e
    exact I1.fpOk (Nat.le_refl _) (I1.hok.fresh (Nat.le_refl _))
noncomputable def iRng1 (ta : TA) : TI := fun σ H R => ta σ H fun vs H1 => ∃ j : Int, vs = [.int j] ∧ -(2 ^ 62) ≤ j ∧ j < 2 ^ 62 ∧ R (Itr 0 j.toNat) H1
theorem pi_range1 {a : Expr} {ta : TA} {p pos : Pos} (hg : Gl X "range") (hm : X.mg "range" = none) (ha : PA X [a] ta) (hs : starEach [a] X.env = [(false, eval a X.env)] := by rfl) : PI X tg (.Call (.Name "range" p) [a] [] pos) (iRng1 ta) := by
  intro pins s σ H R I h
  refine Call_ (ld_blt I hg hm boot_range (PyProof.Rows.callWith_type1 (thn (ha pos pins s σ H _ I h) fun us s1 ⟨vs, H1, I1, r1, q1⟩ => ?_) hs rfl))
  obtain ⟨j, e, q1, q2, q⟩ := q1
  subst e
  cases r1 with
  | cons r rr =>
    cases rr
    obtain ⟨t, rfl⟩ := r
    exact call_range_1 (range_it I1 (by omega) (by omega) q1 q2 (by simpa using q))
noncomputable def tFor (wi : TI) (g : TG) (tb : TS) : TS := fun D σ H => wi σ H fun J H1 => ∃ W : Nat → Nat → St → Hp → Prop, (∃ m, W 0 m σ H1) ∧ ∀ i m σ H, W i m σ H →
  (J.stop i H ∧ D.nx σ H) ∨ (J.go i H ∧ ∃ N : St → Hp → Prop, (∀ σ' H', N σ' H' → ∃ m', m' < m ∧ W (i + 1) m' σ' H') ∧ ∀ x H', J.yld i H x H' → g x σ H' fun σ2 H2 => tb { D with nx := N, ct := N, bk := D.nx } σ2 H2)
noncomputable def pinsAt (fp : List Addr) (h : Heap) : List (Addr × Obj) := fp.filterMap fun b => (h.get? b).map fun o => (b, o)
theorem mem_pinsAt {fp : List Addr} {h : Heap} {b : Addr} {o : Obj} (hb : b ∈ fp) (e : h.get? b = some o) : (b, o) ∈ pinsAt fp h := List.mem_filterMap.mpr ⟨b, hb, by rw [e]; rfl⟩
theorem of_pinsAt {fp : List Addr} {h : Heap} {p : Addr × Obj} (hp : p ∈ pinsAt fp h) : p.1 ∈ fp ∧ h.get? p.1 = some p.2 := by
  obtain ⟨b, hb, e⟩ := List.mem_filterMap.mp hp
  cases q : h.get? b with
  | none => rw [q] at e; cases e
  | some o =>
    rw [q] at e
    have e' : (b, o) = p := Option.some.inj e
    subst e'
    exact ⟨hb, q⟩
theorem Inv.pinned {pins : List (Addr × Obj)} {σ : St} {H : Hp} {s : Shared} {fp : List Addr} (I : Inv X pins σ H s) (hf : ∀ b ∈ fp, FpOk X pins H b) (ho : ∀ b ∈ fp, ∃ o, s.heap.get? b = some o ∧ ∀ v, o.data ≠ .cell v) : Inv X (pins ++ pinsAt fp s.heap) σ H s :=
  I.pins_of fun p hp => (List.mem_append.mp hp).elim (fun z => I.pin p (List.mem_append_right _ z)) fun z => by
    obtain ⟨hb, e⟩ := of_pinsAt z
    obtain ⟨f0, f1, f2, _⟩ := hf p.1 hb
    obtain ⟨o, e', d⟩ := ho p.1 hb
    rw [e] at e'; cases e'
    exact ⟨e, f0, f1, f2, d⟩
theorem Inv.unpinned {pins pl : List (Addr × Obj)} {σ : St} {H : Hp} {s : Shared} (I : Inv X (pins ++ pl) σ H s) : Inv X pins σ H s := I.pins_of fun p hp => I.pin p (List.mem_append_right _ (List.mem_append_left _ hp))
theorem ps_for {iter : Expr} {body : List Stmt} {wi : TI} {g : TG} {tb : TS} {pos : Pos} (hp : PassesOwn (model X.prog X.w) X.A X.env X.xe) (hc : X.calm = true) (hi : PI X tg iter wi) (hg : PG X tg g) (hb : PSs X body tb)
    (hs : ∀ x, foldedSetIterable iter X.env x = pure x := by intro _; rfl) : PS X (.For tg iter body [] pos) (tFor wi g tb) := by
  intro pins s σ H D I h
  refine wpAny_For (thn (hi pins s σ H _ I h) fun v s1 h1 => thn h1 fun itv s2 h2 => ?_) hs
  obtain ⟨it, fp, tn, J, H2, e, I2, T, st2, f2, W, ⟨m0, w0⟩, turn⟩ := h2
  subst e
  -- what stays true of the iterator's objects through the loop
  have stat : ∀ {H' : Hp}, (∀ b ∈ fp, H' b = none) → ∀ b ∈ fp, FpOk X pins H' b := fun hn b hb => ⟨hn b hb, (f2 b hb).2⟩
  refine codeAny_forLoop_any (fun n s' => ∃ i σ' H', Inv X pins σ' H' s' ∧ tn i s'.heap ∧ (∀ b ∈ fp, H' b = none) ∧ W i n σ' H') ?_ m0 ⟨0, σ, H2, I2, st2, fun b hb => (f2 b hb).1, w0⟩
  rintro n s3 ⟨i, σ3, H3, I3, st3, fr3, w3⟩
  rcases turn i n σ3 H3 w3 with ⟨stop, qn⟩ | ⟨go, N, hN, step⟩
  · refine wpAny_passesOwn hp (thn (T.done X rfl rfl rfl hc i pins s3 σ3 H3 X.xe I3 (stat fr3) st3 stop) fun r s4 ⟨hr, I4⟩ => ?_)
    subst hr
    exact wpAny_execs_nil ⟨σ3, H3, I4, qn⟩
  · refine wpAny_passesOwn hp (thn (T.item X rfl rfl rfl hc i pins s3 σ3 H3 X.xe I3 (stat fr3) st3 go) fun r s4 ⟨u, hr, h4⟩ => ?_)
    subst hr
    refine wpAny_passesOwn hp (thn h4 fun _ s5 ⟨x, H5, I5, r5, y5, st5, fr5⟩ => ?_)
    have I5' := I5.pinned (stat fr5) (T.obj _ _ st5)
    refine wpAny_passesOwn hp (thn (hg _ s5 σ3 H5 x u _ I5' r5 (step x H5 y5)) fun _ s6 ⟨σ6, H6, I6, q6⟩ => ?_)
    refine wpAny_passesOwn hp (thn (hb _ s6 σ6 H6 _ I6 q6) fun f s7 q7 => ?_)
    have again : ∀ {σ7 : St} {H7 : Hp}, Inv X (pins ++ pinsAt fp s5.heap) σ7 H7 s7 → N σ7 H7 → ∃ m, m < n ∧ ∃ i σ' H', Inv X pins σ' H' s7 ∧ tn i s7.heap ∧ (∀ b ∈ fp, H' b = none) ∧ W i m σ' H' := fun {σ7 H7} I7 n7 => by
      obtain ⟨m', hm, w7⟩ := hN σ7 H7 n7
      refine ⟨m', hm, i + 1, σ7, H7, I7.unpinned, T.keep _ _ _ st5 fun b hb o e => (I7.pin (b, o) (List.mem_append_right _ (List.mem_append_right _ (mem_pinsAt hb e)))).1, fun b hb => ?_, w7⟩
      obtain ⟨o, e, d⟩ := T.obj _ _ st5 b hb
      exact (I7.pin (b, o) (List.mem_append_right _ (List.mem_append_right _ (mem_pinsAt hb e)))).2.1
    cases f with
    | next => obtain ⟨σ7, H7, I7, n7⟩ := q7; exact again I7 n7
    | cont => obtain ⟨σ7, H7, I7, n7⟩ := q7; exact again I7 n7
    | brk => obtain ⟨σ7, H7, I7, q7⟩ := q7; exact ⟨σ7, H7, I7.unpinned, q7⟩
    | ret v => obtain ⟨x7, σ7, H7, I7, r7, q7⟩ := q7; exact ⟨x7, σ7, H7, I7.unpinned, r7, q7⟩
end

theorem for_list {K : PySem.W.Frag} {a : Addr} {xs : List V} {g : TG} {tb : TS} {D : Ends} {σ : St} {H : Hp} (Pv : Nat → St → Hp → Prop) (h0 : Pv 0 σ H) (hl : ∀ i σ H, i ≤ xs.length → Pv i σ H → SqL K H a xs)
    (hs : ∀ i x σ H, xs[i]? = some x → Pv i σ H → g x σ H fun σ2 H2 => tb { D with nx := Pv (i + 1), ct := Pv (i + 1), bk := D.nx } σ2 H2) (hd : ∀ σ H, Pv xs.length σ H → D.nx σ H) :
    ∃ W : Nat → Nat → St → Hp → Prop, (∃ m, W 0 m σ H) ∧ ∀ i m σ H, W i m σ H →
      ((Itl K a).stop i H ∧ D.nx σ H) ∨ ((Itl K a).go i H ∧ ∃ N : St → Hp → Prop, (∀ σ' H', N σ' H' → ∃ m', m' < m ∧ W (i + 1) m' σ' H') ∧ ∀ x H', (Itl K a).yld i H x H' → g x σ H' fun σ2 H2 => tb { D with nx := N, ct := N, bk := D.nx } σ2 H2) := by
  refine ⟨fun i m σ H => m = xs.length - i ∧ i ≤ xs.length ∧ Pv i σ H, ⟨xs.length, by simp, Nat.zero_le _, h0⟩, ?_⟩
  rintro i m σ H ⟨rfl, hi, p⟩
  have q := hl i σ H hi p
  by_cases hlt : i < xs.length
  · refine .inr ⟨⟨xs, xs[i], q, by simp [hlt]⟩, Pv (i + 1), fun σ' H' p' => ⟨xs.length - (i + 1), by omega, rfl, hlt, p'⟩, fun x H' y => ?_⟩
    obtain ⟨e, y⟩ := y
    subst e
    exact hs i x σ _ (y xs q) p
  · have e : i = xs.length := by omega
    subst e
    exact .inl ⟨⟨xs, q, Nat.le_refl _⟩, hd σ H p⟩
theorem for_tup {K : PySem.W.Frag} {a : Addr} {xs : List V} {g : TG} {tb : TS} {D : Ends} {σ : St} {H : Hp} (Pv : Nat → St → Hp → Prop) (h0 : Pv 0 σ H) (hl : ∀ i σ H, i ≤ xs.length → Pv i σ H → SqT K H a xs)
    (hs : ∀ i x σ H, xs[i]? = some x → Pv i σ H → g x σ H fun σ2 H2 => tb { D with nx := Pv (i + 1), ct := Pv (i + 1), bk := D.nx } σ2 H2) (hd : ∀ σ H, Pv xs.length σ H → D.nx σ H) :
    ∃ W : Nat → Nat → St → Hp → Prop, (∃ m, W 0 m σ H) ∧ ∀ i m σ H, W i m σ H →
      ((Itt K a).stop i H ∧ D.nx σ H) ∨ ((Itt K a).go i H ∧ ∃ N : St → Hp → Prop, (∀ σ' H', N σ' H' → ∃ m', m' < m ∧ W (i + 1) m' σ' H') ∧ ∀ x H', (Itt K a).yld i H x H' → g x σ H' fun σ2 H2 => tb { D with nx := N, ct := N, bk := D.nx } σ2 H2) := by
  refine ⟨fun i m σ H => m = xs.length - i ∧ i ≤ xs.length ∧ Pv i σ H, ⟨xs.length, by simp, Nat.zero_le _, h0⟩, ?_⟩
  rintro i m σ H ⟨rfl, hi, p⟩
  have q := hl i σ H hi p
  by_cases hlt : i < xs.length
  · refine .inr ⟨⟨xs, xs[i], q, by simp [hlt]⟩, Pv (i + 1), fun σ' H' p' => ⟨xs.length - (i + 1), by omega, rfl, hlt, p'⟩, fun x H' y => ?_⟩
    obtain ⟨e, y⟩ := y
    subst e
    exact hs i x σ _ (y xs q) p
  · have e : i = xs.length := by omega
    subst e
    exact .inl ⟨⟨xs, q, Nat.le_refl _⟩, hd σ H p⟩
theorem for_range {lo : Int} {n : Nat} {g : TG} {tb : TS} {D : Ends} {σ : St} {H : Hp} (Pv : Nat → St → Hp → Prop) (h0 : Pv 0 σ H)
    (hs : ∀ i σ H, i < n → Pv i σ H → g (.int (lo + i)) σ H fun σ2 H2 => tb { D with nx := Pv (i + 1), ct := Pv (i + 1), bk := D.nx } σ2 H2) (hd : ∀ σ H, Pv n σ H → D.nx σ H) :
    ∃ W : Nat → Nat → St → Hp → Prop, (∃ m, W 0 m σ H) ∧ ∀ i m σ H, W i m σ H →
      ((Itr lo n).stop i H ∧ D.nx σ H) ∨ ((Itr lo n).go i H ∧ ∃ N : St → Hp → Prop, (∀ σ' H', N σ' H' → ∃ m', m' < m ∧ W (i + 1) m' σ' H') ∧ ∀ x H', (Itr lo n).yld i H x H' → g x σ H' fun σ2 H2 => tb { D with nx := N, ct := N, bk := D.nx } σ2 H2) := by
  refine ⟨fun i m σ H => m = n - i ∧ i ≤ n ∧ Pv i σ H, ⟨n, by simp, Nat.zero_le _, h0⟩, ?_⟩
  rintro i m σ H ⟨rfl, hi, p⟩
  by_cases hlt : i < n
  · refine .inr ⟨hlt, Pv (i + 1), fun σ' H' p' => ⟨n - (i + 1), by omega, rfl, hlt, p'⟩, fun x H' y => ?_⟩
    obtain ⟨e, y⟩ := y
    subst e y
    exact hs i σ _ hlt p
  · have e : i = n := by omega
    subst e
    exact .inl ⟨Nat.le_refl _, hd σ H p⟩
theorem while_by {c : TT} {tb : TS} {D : Ends} {σ : St} {H : Hp} (Pv : St → Hp → Prop) (μ : St → Hp → Nat) (h0 : Pv σ H)
    (hs : ∀ σ H, Pv σ H → c σ H fun b H1 => if b = true then tb { D with nx := fun σ' H' => Pv σ' H' ∧ μ σ' H' < μ σ H, ct := fun σ' H' => Pv σ' H' ∧ μ σ' H' < μ σ H, bk := D.nx } σ H1 else D.nx σ H1)
    (mono : ∀ σ H Q Q', (∀ b H1, Q b H1 → Q' b H1) → c σ H Q → c σ H Q') : tWhile c tb D σ H := by
  refine ⟨fun m σ H => m = μ σ H ∧ Pv σ H, ⟨_, rfl, h0⟩, ?_⟩
  rintro m σ H ⟨rfl, p⟩
  refine mono σ H _ _ (fun b H1 q => ?_) (hs σ H p)
  cases b with
  | true => exact ⟨_, fun σ' H' ⟨p', l⟩ => ⟨_, l, rfl, p'⟩, q⟩
  | false => exact q
end L2

namespace L2
open PySem PySem.Spec PyProof.Rows

noncomputable abbrev R2 := V → V → Hp → VK → Prop
noncomputable def OpR (X : Cx) (f : Value → Value → Sem Value) (r : R2) : Prop :=
  ∀ (pins : List (Addr × Obj)) (s : Shared) (σ : St) (H : Hp) (x y : V) (v u : Value) (Q : VK), Inv X pins σ H s → RelV x v → RelV y u → r x y H Q →
    wpAny (model X.prog X.w) X.A (f v u) (EP X pins σ Q) X.xe s
noncomputable def UnR (X : Cx) (f : Value → Sem Value) (r : V → Hp → VK → Prop) : Prop :=
  ∀ (pins : List (Addr × Obj)) (s : Shared) (σ : St) (H : Hp) (x : V) (v : Value) (Q : VK), Inv X pins σ H s → RelV x v → r x H Q →
    wpAny (model X.prog X.w) X.A (f v) (EP X pins σ Q) X.xe s
noncomputable def CallR (X : Cx) (f : Value) (r : List V → Hp → VK → Prop) : Prop :=
  ∀ (pins : List (Addr × Obj)) (s : Shared) (σ : St) (H : Hp) (xs : List V) (us : List Value) (Q : VK), Inv X pins σ H s → Vals xs us → r xs H Q →
    wpAny (model X.prog X.w) X.A (call f us) (EP X pins σ Q) X.xe s
noncomputable def tOp (r : R2) (ta tb : TE) : TE := fun σ H Q => ta σ H fun x H1 => tb σ H1 fun y H2 => r x y H2 Q
noncomputable def tUn (r : V → Hp → VK → Prop) (ta : TE) : TE := fun σ H Q => ta σ H fun x H1 => r x H1 Q
noncomputable def rI (C : Int → Int → Prop) (g : Int → Int → V) : R2 := fun x y H Q => ∃ i j, x = .int i ∧ y = .int j ∧ C i j ∧ Q (g i j) H
noncomputable def rI0 (g : Int → Int → V) : R2 := fun x y H Q => ∃ i j, x = .int i ∧ y = .int j ∧ Q (g i j) H
noncomputable def rU (g : Int → V) : V → Hp → VK → Prop := fun x H Q => ∃ i, x = .int i ∧ Q (g i) H

section
variable {X : Cx} {a b c : Expr} {ta tb tc : TE} {pos : Pos}

theorem binT (ha : PE X a ta) (hb : PE X b tb) {pins : List (Addr × Obj)} {s : Shared} {σ : St} {H : Hp} {R : V → V → Hp → Prop} (I : Inv X pins σ H s)
    (h : ta σ H fun x H1 => tb σ H1 fun y H2 => R x y H2) {Q : Value → Shared → Prop} {f : Value → Value → Sem Value}
    (hf : ∀ v u s2 x y H2, Inv X pins σ H2 s2 → RelV x v → RelV y u → R x y H2 → wpAny (model X.prog X.w) X.A (f v u) Q X.xe s2) :
    wpAny (model X.prog X.w) X.A (eval a X.env) (fun v s₁ => wpAny (model X.prog X.w) X.A (eval b X.env) (fun u s₂ => wpAny (model X.prog X.w) X.A (f v u) Q X.xe s₂) X.xe s₁) X.xe s := by
  refine thn (ha pins s σ H _ I h) fun v s1 ⟨x, H1, I1, r1, q1⟩ => ?_
  refine thn (hb pins s1 σ H1 _ I1 q1) fun u s2 ⟨y, H2, I2, r2, q2⟩ => ?_
  exact hf v u s2 x y H2 I2 r1 r2 q2

theorem pe_op {op : Operator} {r : R2} (ho : OpR X (binaryOp op) r) (ha : PE X a ta) (hb : PE X b tb) : PE X (.BinOp a op b pos) (tOp r ta tb) := by
  intro pins s σ H Q I h
  exact wpAny_BinOp (binT ha hb I h fun v u s2 x y H2 I2 rx ry q => ho pins s2 σ H2 x y v u Q I2 rx ry q)
theorem pe_un {op : UnaryOp} {r : V → Hp → VK → Prop} (ho : UnR X (unaryOp op) r) (ha : PE X a ta) : PE X (.UnaryOp op a pos) (tUn r ta) := by
  intro pins s σ H Q I h
  exact UnaryOp_ (thn (ha pins s σ H _ I h) fun v s1 ⟨x, H1, I1, r1, q1⟩ => ho pins s1 σ H1 x v Q I1 r1 q1)
theorem opI {f : Value → Value → Sem Value} {C : Int → Int → Prop} {g : Int → Int → Int}
    (rule : ∀ (i j : Int) (t u : Tok) (s : Shared) (Q : Value → Shared → Prop) (E : Value → Shared → Prop), C i j → Q (.int (g i j) s.toks) { s with toks := s.toks + 1 } → wpAny (model X.prog X.w) X.A (f (.int i t) (.int j u)) Q E s) :
    OpR X f (rI C fun i j => .int (g i j)) := by
  intro pins s σ H x y v u Q I rx ry h
  obtain ⟨i, j, rfl, rfl, hc, q⟩ := h
  obtain ⟨t, rfl⟩ := rx
  obtain ⟨t', rfl⟩ := ry
  exact rule i j t t' s _ _ hc ⟨.int (g i j), H, I.tok _, ⟨_, rfl⟩, q⟩
theorem opI0 {f : Value → Value → Sem Value} {g : Int → Int → Int}
    (rule : ∀ (i j : Int) (t u : Tok) (s : Shared) (Q : Value → Shared → Prop) (E : Value → Shared → Prop), Q (.int (g i j) s.toks) { s with toks := s.toks + 1 } → wpAny (model X.prog X.w) X.A (f (.int i t) (.int j u)) Q E s) :
    OpR X f (rI0 fun i j => .int (g i j)) := by
  intro pins s σ H x y v u Q I rx ry h
  obtain ⟨i, j, rfl, rfl, q⟩ := h
  obtain ⟨t, rfl⟩ := rx
  obtain ⟨t', rfl⟩ := ry
  exact rule i j t t' s _ _ ⟨.int (g i j), H, I.tok _, ⟨_, rfl⟩, q⟩
theorem opB0 {f : Value → Value → Sem Value} {g : Int → Int → Bool}
    (rule : ∀ (i j : Int) (t u : Tok) (s : Shared) (Q : Value → Shared → Prop) (E : Value → Shared → Prop), Q (.bool (g i j)) s → wpAny (model X.prog X.w) X.A (f (.int i t) (.int j u)) Q E s) :
    OpR X f (rI0 fun i j => .bl (g i j)) := by
  intro pins s σ H x y v u Q I rx ry h
  obtain ⟨i, j, rfl, rfl, q⟩ := h
  obtain ⟨t, rfl⟩ := rx
  obtain ⟨t', rfl⟩ := ry
  exact rule i j t t' s _ _ ⟨.bl (g i j), H, I, rfl, q⟩

noncomputable def CPow (i j : Int) : Prop := 0 ≤ j ∧ j ≤ 1000000 ∧ i.natAbs < 2 ^ 64
noncomputable def CMul (i j : Int) : Prop := (-(2 ^ 64) < i ∧ i < 2 ^ 64) ∨ (-(2 ^ 64) < j ∧ j < 2 ^ 64)
theorem CMul.ok {i j : Int} (h : CMul i j) : IntMulOk i j := by
  rcases h with ⟨h1, h2⟩ | ⟨h1, h2⟩
  · exact .of_left (intBits_le_64 h1 h2)
  · exact .of_right (intBits_le_64 h1 h2)
theorem two_pow_nn (k : Nat) : (0 : Int) ≤ 2 ^ k := by
  rw [two_pow_cast]
  exact Int.natCast_nonneg _

theorem op_add : OpR X (binaryOp .Add) (rI0 fun i j => .int (i + j)) := opI0 fun _ _ _ _ _ _ _ q => add_int q
theorem op_sub : OpR X (binaryOp .Sub) (rI0 fun i j => .int (i - j)) := opI0 fun _ _ _ _ _ _ _ q => sub_int q
theorem op_mul : OpR X (binaryOp .Mult) (rI CMul fun i j => .int (i * j)) := opI fun _ _ _ _ _ _ _ hc q => mul_int q hc.ok
theorem op_mod : OpR X (binaryOp .Mod) (rI (fun _ j => 0 < j) fun i j => .int (i % j)) := opI fun i j _ _ _ _ _ hc q => by
  have h1 : (0 : Int) < j := hc
  exact mod_int' (by omega) (by rw [Int.fmod_eq_emod_of_nonneg i (by omega)]; exact q)
theorem op_pow : OpR X (binaryOp .Pow) (rI CPow fun i j => .int (i ^ j.toNat)) := opI fun _ _ _ _ _ _ _ hc q => pow_int_small hc.1 hc.2.1 hc.2.2 q
theorem op_shl : OpR X (binaryOp .LShift) (rI CPow fun i j => .int (i * 2 ^ j.toNat)) := opI fun _ _ _ _ _ _ _ hc q => lshift_int_small hc.1 hc.2.1 hc.2.2 q
theorem op_shr : OpR X (binaryOp .RShift) (rI (fun _ j => 0 ≤ j) fun i j => .int (i / 2 ^ j.toNat)) := opI fun i j _ _ _ _ _ hc q =>
  rshift_int hc (by rw [Int.fdiv_eq_ediv_of_nonneg i (two_pow_nn _)]; exact q)
theorem op_and : OpR X (binaryOp .BitAnd) (rI0 fun i j => .int (Builtin.bitAnd i j)) := opI0 fun _ _ _ _ _ _ _ q => and_int q
theorem op_or : OpR X (binaryOp .BitOr) (rI0 fun i j => .int (Builtin.bitOr i j)) := opI0 fun _ _ _ _ _ _ _ q => or_int q
theorem op_xor : OpR X (binaryOp .BitXor) (rI0 fun i j => .int (Builtin.bitXor i j)) := opI0 fun _ _ _ _ _ _ _ q => xor_int q

theorem unI {f : Value → Sem Value} {g : Int → Int}
    (rule : ∀ (i : Int) (t : Tok) (s : Shared) (Q : Value → Shared → Prop) (E : Value → Shared → Prop), Q (.int (g i) s.toks) { s with toks := s.toks + 1 } → wpAny (model X.prog X.w) X.A (f (.int i t)) Q E s) :
    UnR X f (rU fun i => .int (g i)) := by
  intro pins s σ H x v Q I rx h
  obtain ⟨i, rfl, q⟩ := h
  obtain ⟨t, rfl⟩ := rx
  exact rule i t s _ _ ⟨.int (g i), H, I.tok _, ⟨_, rfl⟩, q⟩
theorem un_neg : UnR X (unaryOp .USub) (rU fun i => .int (-i)) := unI fun _ _ _ _ _ q => neg_int q
end

section
variable {X : Cx} {a b c : Expr} {ta tb tc : TE} {pos : Pos}
theorem fin_bl {pins : List (Addr × Obj)} {σ : St} {H : Hp} {s : Shared} {Q : VK} {k k' : Bool} (I : Inv X pins σ H s) (q : Q (.bl k) H) (e : k = k') : EP X pins σ Q (.bool k') s := by
  subst e
  exact ⟨.bl k, H, I, rfl, q⟩
theorem op_lt : OpR X (compareOp .Lt) (rI0 fun i j => .bl (decide (i < j))) := opB0 fun _ _ _ _ _ _ _ q => lt_int q
theorem op_le : OpR X (compareOp .LtE) (rI0 fun i j => .bl (decide (i ≤ j))) := opB0 fun _ _ _ _ _ _ _ q => le_int q
theorem op_gt : OpR X (compareOp .Gt) (rI0 fun i j => .bl (decide (j < i))) := opB0 fun _ _ _ _ _ _ _ q => gt_int q
theorem op_ge : OpR X (compareOp .GtE) (rI0 fun i j => .bl (decide (j ≤ i))) := opB0 fun _ _ _ _ _ _ _ q => ge_int q
theorem op_notN : OpR X (compareOp .IsNot) (fun x y H Q => y = .non ∧ Q (.bl (!decide (x = .non))) H) := by
  intro pins s σ H x y v u Q I rx ry h
  obtain ⟨rfl, q⟩ := h
  cases ry
  refine isnot_none_gen (fin_bl I q ?_)
  cases x <;> first
    | (cases rx; rfl)
    | (obtain ⟨t, rfl⟩ := rx; rfl)

theorem OpR.or {f : Value → Value → Sem Value} {r r' : R2} (h : OpR X f r) (h' : OpR X f r') : OpR X f (fun x y H Q => r x y H Q ∨ r' x y H Q) := by
  intro pins s σ H x y v u Q I rx ry q
  rcases q with q | q
  · exact h pins s σ H x y v u Q I rx ry q
  · exact h' pins s σ H x y v u Q I rx ry q

theorem nomark (b : Expr) {op : CmpOp} (h : op ≠ .In := by decide) (h2 : op ≠ .NotIn := by decide) : behindInMarks op b = false := by
  have e1 : (op == CmpOp.In) = false := by cases op <;> first | rfl | exact absurd rfl h
  have e2 : (op == CmpOp.NotIn) = false := by cases op <;> first | rfl | exact absurd rfl h2
  cases b <;> simp [behindInMarks, e1, e2]
theorem pe_cmpR {op : CmpOp} {r : R2} (ho : OpR X (compareOp op) r) (ha : PE X a ta) (hb : PE X b tb) (hm : behindInMarks op b = false) : PE X (.Compare a [op] [b] pos) (tOp r ta tb) := by
  intro pins s σ H Q I h
  exact wpAny_Compare1 (binT ha hb I h fun v u s2 x y H2 I2 rx ry q => ho pins s2 σ H2 x y v u Q I2 rx ry q) hm
noncomputable def tTest (t : TE) : TT := fun σ H Q => t σ H fun x H' => ∃ k, x = .bl k ∧ Q k H'
theorem pt_cmpR {op : CmpOp} {r : R2} (ho : OpR X (compareOp op) r) (ha : PE X a ta) (hb : PE X b tb) (hm : behindInMarks op b = false) : PT X (.Compare a [op] [b] pos) (tTest (tOp r ta tb)) := by
  intro pins s σ H Q I h
  refine wpAny_isTrue_Compare1 (thn (ha pins s σ H _ I h) fun v s1 ⟨x, H1, I1, r1, q1⟩ => thn (hb pins s1 σ H1 _ I1 q1) fun u s2 ⟨y, H2, I2, r2, q2⟩ =>
    thn (ho pins s2 σ H2 x y v u _ I2 r1 r2 q2) fun c s3 ⟨z, H3, I3, r3, k, e, q3⟩ => ?_) hm
  subst e
  cases r3
  exact wpAny_truthy_bool ⟨H3, I3, q3⟩
noncomputable def tChain (r r' : R2) (ta tb tc : TE) : TE := fun σ H Q => ta σ H fun x H1 => tb σ H1 fun y H2 => r x y H2 fun z H3 => ∃ k, z = .bl k ∧
  (if k = true then tc σ H3 fun w' H4 => r' y w' H4 Q else Q (.bl false) H3)
theorem pe_chain {op op' : CmpOp} {r r' : R2} (ho : OpR X (compareOp op) r) (ho' : OpR X (compareOp op') r') (ha : PE X a ta) (hb : PE X b tb) (hc : PE X c tc)
    (hm : lastMarks [op, op'] [b, c] = false := by with_unfolding_all rfl) : PE X (.Compare a [op, op'] [b, c] pos) (tChain r r' ta tb tc) := by
  intro pins s σ H Q I h
  refine Compare_chain (thn (ha pins s σ H _ I h) fun v s1 ⟨x, H1, I1, r1, q1⟩ => chain_link (thn (hb pins s1 σ H1 _ I1 q1) fun u s2 ⟨y, H2, I2, r2, q2⟩ =>
    thn (ho pins s2 σ H2 x y v u _ I2 r1 r2 q2) fun d s3 ⟨z, H3, I3, r3, k, e, q3⟩ => ?_)) hm
  subst e
  cases r3
  refine wpAny_truthy_bool ?_
  cases k with
  | false => exact ite_ff ⟨.bl false, H3, I3, rfl, q3⟩
  | true => exact ite_tt (chain_last (thn (hc pins s3 σ H3 _ I3 q3) fun w' s4 ⟨z', H4, I4, r4, q4⟩ => ho' pins s4 σ H4 y z' u w' Q I4 r2 r4 q4))
theorem line63 : (sizeLine : Nat) < 2 ^ 63 := by rw [sizeLine_eq]; decide
theorem vals1 {x : V} {us : List Value} (r : Vals [x] us) : ∃ u, us = [u] ∧ RelV x u := by
  cases r with
  | cons r1 r2 => cases r2; exact ⟨_, rfl, r1⟩
theorem vals2 {x y : V} {us : List Value} (r : Vals [x, y] us) : ∃ u w', us = [u, w'] ∧ RelV x u ∧ RelV y w' := by
  cases r with
  | cons r1 r2 =>
    cases r2 with
    | cons r3 r4 => cases r4; exact ⟨_, _, rfl, r1, r3⟩
theorem call_abs : CallR X (.builtin "abs") (fun xs H Q => ∃ i, xs = [.int i] ∧ Q (.int (if i < 0 then -i else i)) H) := by
  intro pins s σ H xs us Q I r h
  obtain ⟨i, rfl, q⟩ := h
  obtain ⟨u, rfl, t, rfl⟩ := vals1 r
  exact call_abs_int fun u tk => ⟨.int (if i < 0 then -i else i), H, I.tok _, ⟨_, rfl⟩, q⟩
theorem call_max2 (hc : X.calm = true) : CallR X (.builtin "max") (fun xs H Q => ∃ i j, xs = [.int i, .int j] ∧ Q (.int (if j > i then j else i)) H) := by
  intro pins s σ H xs us Q I r h
  obtain ⟨i, j, rfl, q⟩ := h
  obtain ⟨u, w', rfl, ⟨t, rfl⟩, ⟨t', rfl⟩⟩ := vals2 r
  refine max_two_ints (I.ok.hd hc) fun h' tk k => ⟨_, H, I.kept k, ?_, q⟩
  by_cases hj : j > i
  · rw [if_pos hj, if_pos hj]; exact ⟨_, rfl⟩
  · rw [if_neg hj, if_neg hj]; exact ⟨_, rfl⟩
theorem call_min2 (hc : X.calm = true) : CallR X (.builtin "min") (fun xs H Q => ∃ i j, xs = [.int i, .int j] ∧ Q (.int (if j < i then j else i)) H) := by
  intro pins s σ H xs us Q I r h
  obtain ⟨i, j, rfl, q⟩ := h
  obtain ⟨u, w', rfl, ⟨t, rfl⟩, ⟨t', rfl⟩⟩ := vals2 r
  refine min_two_ints (I.ok.hd hc) fun h' tk k => ⟨_, H, I.kept k, ?_, q⟩
  by_cases hj : j < i
  · rw [if_pos hj, if_pos hj]; exact ⟨_, rfl⟩
  · rw [if_neg hj, if_neg hj]; exact ⟨_, rfl⟩
theorem call_int1 : CallR X (.type "int") (fun xs H Q => (∃ i, xs = [.int i] ∧ Q (.int i) H) ∨ ∃ k, xs = [.bl k] ∧ Q (.int (if k then 1 else 0)) H) := by
  intro pins s σ H xs us Q I r h
  rcases h with ⟨i, rfl, q⟩ | ⟨k, rfl, q⟩
  · obtain ⟨u, rfl, t, rfl⟩ := vals1 r
    exact call_int_int ⟨.int i, H, I, ⟨_, rfl⟩, q⟩
  · obtain ⟨u, rfl, r1⟩ := vals1 r
    cases r1
    exact call_int_bool ⟨.int (if k then 1 else 0), H, I.tok _, ⟨_, rfl⟩, q⟩
noncomputable def LenV (K : PySem.W.Frag) (x : V) (H : Hp) (n : Nat) : Prop :=
  match x with
  | .str y => y.length ≤ sizeLine ∧ n = y.length
  | .byt y => y.size ≤ sizeLine ∧ n = y.size
  | .ref p => (∃ xs, SqL K H p xs ∧ n = xs.length) ∨ ∃ xs, SqT K H p xs ∧ n = xs.length
  | _ => False
theorem call_len : CallR X (.builtin "len") (fun xs H Q => ∃ x n, xs = [x] ∧ LenV X.K x H n ∧ Q (.int n) H) := by
  intro pins s σ H xs us Q I r h
  obtain ⟨x, n, rfl, e, q⟩ := h
  obtain ⟨u, rfl, rx⟩ := vals1 r
  have hl := line63
  have hs : sizeLine = 16777216 := sizeLine_eq
  cases x with
  | str y =>
    obtain ⟨t, rfl⟩ := rx
    obtain ⟨hy, e'⟩ : y.length ≤ sizeLine ∧ n = y.length := e
    subst e'
    exact len_str (by omega) ⟨.int _, H, I.tok _, ⟨_, rfl⟩, q⟩
  | byt y =>
    obtain ⟨t, rfl⟩ := rx
    obtain ⟨hy, e'⟩ : y.size ≤ sizeLine ∧ n = y.size := e
    subst e'
    exact PySem.W.len_bytes (by omega) ⟨.int _, H, I.tok _, ⟨_, rfl⟩, q⟩
  | ref p =>
    cases rx
    have e' : (∃ xs, SqL X.K H p xs ∧ n = xs.length) ∨ ∃ xs, SqT X.K H p xs ∧ n = xs.length := e
    rcases e' with ⟨xs, hx, e'⟩ | ⟨xs, hx, e'⟩
    · subst e'
      obtain ⟨its, r', pl, hz⟩ := I.list hx
      have hlen := r'.length
      exact Calls.call_len_list pl.isList (by simp only [List.size_toArray]; omega) ⟨.int xs.length, H, I.tok _, ⟨_, by simp only [List.size_toArray]; rw [hlen]⟩, q⟩
    · subst e'
      obtain ⟨its, r', pl, hz⟩ := I.tuple hx
      have hlen := r'.length
      exact len_tuple pl (by simp only [List.size_toArray]; omega) ⟨.int xs.length, H, I.tok _, ⟨_, by simp only [List.size_toArray]; rw [hlen]⟩, q⟩
  | _ => exact (show False from e).elim
end
end L2

namespace L2
open PySem PySem.Spec PyProof.Rows

structure ObjM (h : Heap) (x dx C : Addr) (mA : Str → Option Value) : Prop where
  obj : h.get? x = some (PySem.W.instObj C dx)
  ns : h.Ns1 dx mA
  ne : dx ≠ x

theorem lookIn_ns {h : Heap} {dx : Addr} {mA : Str → Option Value} (n : h.Ns1 dx mA) : ∃ od, h.get? dx = some od ∧ ∀ name, PySem.W.lookIn name od = some (mA name) := by
  obtain ⟨o, es, ep, ho, hd, hk, _, hm⟩ := n
  refine ⟨o, ho, fun name => ?_⟩
  have e := hm name
  unfold nsFind findBy at e
  rw [← Array.find?_toList] at e
  unfold PySem.W.lookIn
  rw [hd]
  dsimp only
  split
  · rename_i y q
    rw [q] at e
    exact congrArg some e
  · rename_i q
    rw [q] at e
    have a : es.toList.any (·.refKey) = false := by
      rw [List.any_eq_false]
      intro y hy
      obtain ⟨z, t, hkey⟩ := hk y (Array.mem_toList_iff.mp hy)
      simp [DictEntry.refKey, hkey]
    have a' : ¬ es.toList.any (·.refKey) = true := by rw [a]; exact Bool.false_ne_true
    rw [if_neg a']
    exact congrArg some e

theorem ObjM.look {h : Heap} {x dx C : Addr} {mA : Str → Option Value} (I : ObjM h x dx C mA) : ∃ od, PySem.W.InstAt h x (PySem.W.instObj C dx) C (some od) ∧ ∀ name, PySem.W.lookIn name od = some (mA name) :=
  let ⟨od, ho, hl⟩ := lookIn_ns I.ns
  ⟨od, ⟨I.obj, rfl, rfl, ho⟩, hl⟩

section
variable {prog : Program} {w : World} {A : Around} {E : Value → Shared → Prop} {s : Shared} {K : PySem.W.Frag} {x dx C f : Addr} {mA : Str → Option Value} {name : Str} {v : Value}

end

theorem RelO.some_of {v : V} {o : Option Value} (r : RelO (some v) o) : ∃ u, o = some u ∧ RelV v u := by
  cases o with
  | none => exact (show False from r).elim
  | some u => exact ⟨u, rfl, r⟩
section
variable {P : Program} {w : World} {H H' : Hp} {h h' : Heap} {a C dx : Addr} {fs fs' : List (Str × V)}
theorem ins_get (hok : HOk P w H h) (e : H a = some (.ins C dx fs)) : ∃ mA, ObjM h a dx C mA ∧ (∀ f, RelO (fs.lookup f) (mA f)) ∧ PySem.Within mA (fs.map (·.1)) ∧ fs.length ≤ 1000 ∧ H dx = some (.own a) := by
  obtain ⟨d, z, ne, ob, mA, n, r, q⟩ := (show ObjOk P w H h a (.ins C dx fs) from hok a _ e)
  exact ⟨mA, ⟨ob, n, ne⟩, r, q, z, d⟩
end

structure Cls (K : PySem.W.Frag) (C : Addr) : Prop where
  pg : PySem.W.plainGet K C Str.empty = true
  hd : PySem.W.hasDictIn K C = true
  po : PySem.W.plainOver K C = true
  sa : PySem.W.findIn K (.ref C) "__setattr__" = some (some (.builtin "object.__setattr__"))
theorem Cls.get {K : PySem.W.Frag} {C : Addr} (c : Cls K C) (f : Str) : PySem.W.plainGet K C f = true := c.pg
section
variable {X : Cx} {pins : List (Addr × Obj)} {σ : St} {H : Hp} {s : Shared} {a C dx : Addr} {fs : List (Str × V)} {f : Str} {v : V} {A : Around} {E : Value → Shared → Prop}

end

section
variable {X : Cx} {o e value : Expr} {f : Str} {pos pos' tpos : Pos} {ta tv : TE}
end

section
variable {X : Cx} {pins : List (Addr × Obj)} {σ : St} {H : Hp} {s : Shared} {A : Around} {E : Value → Shared → Prop} {Q : Value → Shared → Prop} {c : Value} {b : Bool}
inductive TyOf (K : PySem.W.Frag) (H : Hp) : V → Value → Prop where
  | non : TyOf K H .non (.type "NoneType")
  | bl (x : Bool) : TyOf K H (.bl x) (.type "bool")
  | int (i : Int) : TyOf K H (.int i) (.type "int")
  | str (x : Str) : TyOf K H (.str x) (.type "str")
  | flt (x : UInt64) : TyOf K H (.flt x) (.type "float")
  | lst {a : Addr} {xs : List V} (e : H a = some (.lst xs)) : TyOf K H (.ref a) (.type "list")
  | frz {a : Addr} {o : Obj} {xs : List V} (e : H a = some (.frz o (.lst xs))) : TyOf K H (.ref a) (.type "list")
  | tup {a : Addr} {xs : List V} (e : H a = some (.tup xs)) : TyOf K H (.ref a) (.type "tuple")
  | dK {a : Addr} {kvs : List (Key × V)} (e : H a = some (.dK kvs)) : TyOf K H (.ref a) (.type "dict")
  | dT {a : Addr} {kvs : List (List Key × V)} (e : H a = some (.dT kvs)) : TyOf K H (.ref a) (.type "dict")
  | ins {a C dx : Addr} {fs : List (Str × V)} (e : H a = some (.ins C dx fs)) (cl : Cls K C) (ha : PySem.W.findIn K (.ref C) "__class__" = some (some (.builtin "object.__class__")))
      (hn : PySem.W.specialIn K (.builtin "object.__class__") "__get__" = some (some (.builtin "getset_descriptor.__get__"))) (htk : PySem.W.takesIn K (.builtin "object.__class__") = some true)
      (hm : PySem.W.mroIn K C (.type "object") = some true) : TyOf K H (.ref a) (.ref C)
theorem isinst_ok {x : V} {u t : Value} (I : Inv X pins σ H s) (rx : RelV x u) (ty : TyOf X.K H x t) (e : PySem.W.kitOne X.K t c = some b) (h : ∀ tk, Q (.bool b) { s with toks := tk }) :
    wpAny (model X.prog X.w) A (call (.builtin "isinstance") [u, c]) Q E s := by
  cases ty with
  | non => cases (show u = Value.none from rx); exact PySem.W.kia_one PySem.W.kitx_none I.kIn True.intro e (fun z => nomatch z) h
  | bl y => cases (show u = Value.bool y from rx); exact PySem.W.kia_one PySem.W.kitx_bool I.kIn True.intro e (fun z => nomatch z) h
  | int i => obtain ⟨t, q⟩ := (show ∃ t, u = Value.int i t from rx); cases q; exact PySem.W.kia_one PySem.W.kitx_int I.kIn True.intro e (fun z => nomatch z) h
  | str y => obtain ⟨t, q⟩ := (show ∃ t, u = Value.str y t from rx); cases q; exact PySem.W.kia_one PySem.W.kitx_str I.kIn True.intro e (fun z => nomatch z) h
  | flt y => obtain ⟨t, q⟩ := (show ∃ t, u = Value.float y t from rx); cases q; exact PySem.W.kia_one PySem.W.kitx_float I.kIn True.intro e (fun z => nomatch z) h
  | @lst a xs ea =>
    cases (show u = Value.ref a from rx)
    obtain ⟨_, _, n, _, h1⟩ := (show ObjOk X.prog X.w H s.heap a (.lst xs) from I.hok a _ ea)
    exact PySem.W.kia_one PySem.W.kitx_list I.kIn ⟨_, h1, rfl⟩ e (fun z => nomatch z) h
  | @frz a ob xs ea =>
    cases (show u = Value.ref a from rx)
    obtain ⟨_, _, _, n, _, h1⟩ := (show ObjOk X.prog X.w H s.heap a (.frz ob (.lst xs)) from I.hok a _ ea)
    exact PySem.W.kia_one PySem.W.kitx_list I.kIn ⟨_, h1, rfl⟩ e (fun z => nomatch z) h
  | @tup a xs ea =>
    cases (show u = Value.ref a from rx)
    obtain ⟨_, _, _, p⟩ := (show ObjOk X.prog X.w H s.heap a (.tup xs) from I.hok a _ ea)
    obtain ⟨o, h1, h2, _⟩ := p
    exact PySem.W.kia_one PySem.W.kitx_tuple I.kIn ⟨o, h1, h2⟩ e (fun z => nomatch z) h
  | @dK a kvs ea =>
    cases (show u = Value.ref a from rx)
    obtain ⟨_, _, vs, _, p⟩ := (show ObjOk X.prog X.w H s.heap a (.dK kvs) from I.hok a _ ea)
    obtain ⟨o, es, ep, h1, h2, _⟩ := p
    exact PySem.W.kia_one PySem.W.kitx_dict I.kIn ⟨o, h1, h2.1⟩ e (fun z => nomatch z) h
  | @dT a kvs ea =>
    cases (show u = Value.ref a from rx)
    obtain ⟨_, _, xs, _, o, es, ep, h1, h2, _⟩ := (show ObjOk X.prog X.w H s.heap a (.dT kvs) from I.hok a _ ea)
    exact PySem.W.kia_one PySem.W.kitx_dict I.kIn ⟨o, h1, h2.1⟩ e (fun z => nomatch z) h
  | @ins a C dx fs ea cl ha hn htk hm =>
    cases (show u = Value.ref a from rx)
    obtain ⟨mA, O, _⟩ := ins_get I.hok ea
    obtain ⟨od, J, _⟩ := O.look
    exact PySem.W.kia_one (PySem.W.kitx_own (cl.get _) cl.hd ha hn htk hm) I.kIn J e (fun z => nomatch z) h
end
end L2

namespace L2
open PySem PySem.Spec PyProof.Rows

structure Room (k : Nat) (A : Around) : Prop where
  hd : A.handled = none
  dp : A.depth + 3 * k + 5 < recursionLimit
  un : A.units + 16 * k + 200 < cLine
theorem Room.mono {j k : Nat} {A : Around} (r : Room k A) (h : j ≤ k) : Room j A := ⟨r.hd, by have := r.dp; omega, by have := r.un; omega⟩
theorem Room.deeper {k : Nat} {A : Around} (r : Room (k + 1) A) (env : Env) : Room k (A.deeper env) :=
  ⟨r.hd, by have := r.dp; show A.depth + 1 + 3 * k + 5 < _; omega, by have := r.un; show A.units + 3 + 16 * k + 200 < _; omega⟩
theorem Room.depth {k : Nat} {A : Around} (r : Room k A) : A.depth < recursionLimit := by have := r.dp; omega
theorem Room.units {k : Nat} {A : Around} (r : Room k A) : A.units + 64 < cLine := by have := r.un; omega
noncomputable def tNil : TA := fun _ H Q => Q [] H
noncomputable def tCons (ta : TE) (tr : TA) : TA := fun σ H Q => ta σ H fun x H1 => tr σ H1 fun xs H2 => Q (x :: xs) H2
section
variable {X : Cx} {e : Expr} {es : List Expr} {te : TE} {t : TA} {pos : Pos}
theorem pa_nil : PA X [] tNil := fun _ _ _ _ H Q I h => Calls.spliced_nil ⟨[], H, I, .nil, h⟩
theorem pa_cons (ha : PE X e te) (hr : PA X es t) (hs : starEach (e :: es) X.env = (false, eval e X.env) :: starEach es X.env := by rfl) : PA X (e :: es) (tCons te t) := by
  intro pos pins s σ H Q I h
  rw [hs]
  show wpAny _ _ (spliced ((false, eval e X.env) :: backTo pos (starEach es X.env))) _ _ s
  refine Calls.spliced_cons (thn (ha pins s σ H _ I h) fun u s1 ⟨x, H1, I1, r1, q1⟩ => ?_)
  exact thn (hr pos pins s1 σ H1 _ I1 q1) fun us s2 ⟨xs, H2, I2, r2, q2⟩ => ⟨x :: xs, H2, I2, .cons r1 r2, q2⟩

noncomputable def tTup (t : TA) : TE := fun σ H Q => t σ H fun xs H1 => xs.length ≤ sizeLine ∧ ∀ p, H1 p = none → Q (.ref p) (upd H1 p (.tup xs))
noncomputable def tLst (t : TA) : TE := fun σ H Q => t σ H fun xs H1 => xs.length ≤ sizeLine ∧ ∀ p, H1 p = none → Q (.ref p) (upd H1 p (.lst xs))
theorem pe_tup {x1} (h : PA X es t) : PE X (.Tuple es x1 pos) (tTup t) := by
  intro pins s σ H Q I hq
  refine wpAny_Tuple_spliced (thn (h pos pins s σ H _ I hq) fun us s1 ⟨xs, H1, I1, r, z, q⟩ => ⟨by rw [← r.length]; exact z, ?_⟩)
  have hf : H1 s1.heap.objs.size = none := I1.hok.fresh (Nat.le_refl _)
  refine ⟨.ref s1.heap.objs.size, upd H1 s1.heap.objs.size (.tup xs), I1.laid (t' := s1.toks) (fun b u e => Heap.get?_push_of_some _ e) (Nat.le_refl _) ?_, rfl, q _ hf⟩
  exact ⟨z, us, r, ⟨_, Heap.get?_push_size _ rfl, rfl, rfl, _, rfl⟩⟩
theorem pe_lst (h : PA X es t) : PE X (.List es pos) (tLst t) := by
  intro pins s σ H Q I hq
  refine wpAny_List_spliced (thn (h pos pins s σ H _ I hq) fun us s1 ⟨xs, H1, I1, r, z, q⟩ => ⟨by rw [← r.length]; exact z, ?_⟩)
  have hf : H1 s1.heap.objs.size = none := I1.hok.fresh (Nat.le_refl _)
  refine ⟨.ref s1.heap.objs.size, upd H1 s1.heap.objs.size (.lst xs), I1.laid (t' := s1.toks) (fun b u e => Heap.get?_push_of_some _ e) (Nat.le_refl _) ?_, rfl, q _ hf⟩
  exact ⟨z, us, 0, r, Heap.get?_push_size _ rfl⟩
end

noncomputable abbrev Sp := List V → Hp → VK → XK → Prop
noncomputable abbrev CXT := List Env → Hp → Shared → XK → Value → Shared → Prop

structure Env0 (P : Program) (w : World) (K : PySem.W.Frag) (mg : Str → Option Value) (base : Heap) (A : Around) (outer : List Env) (s : Shared) (H : Hp) : Prop where
  frames : A.frames = some outer
  mod : Mod K mg base
  bs : ∀ b o, base.get? b = some o → s.heap.get? b = some o ∧ H b = none
  bsz : base.objs.size ≤ s.heap.objs.size
  funs : s.heap.FunFrames base outer
  frf : ∀ b ∈ frs outer, H b = none
  hok : HOk P w H s.heap
  bare : AllBare s.gens
noncomputable def CE (outer : List Env) (P : Program) (w : World) (H : Hp) (s : Shared) (Q : VK) (u : Value) (s' : Shared) : Prop :=
  ∃ v H', s'.os = s.os ∧ AllBare s'.gens ∧ Un (frs outer) [] H H' s.heap s'.heap ∧ HOk P w H' s'.heap ∧ RelV v u ∧ Q v H'
noncomputable def CR (CX : CXT) (outer : List Env) (P : Program) (w : World) (H : Hp) (s : Shared) (Q : VK) (E : XK) (r : Result) (s' : Shared) : Prop :=
  match r with
  | .ok (.ret u) => CE outer P w H s Q u s'
  | .ok _ => False
  | .error e => CX outer H s E e s'
structure FnOk (P : Program) (w : World) (K : PySem.W.Frag) (mg : Str → Option Value) (base : Heap) (CX : CXT) (k : Nat) (f : Addr) (fd : FuncData) (ps : List Str) (sp : Sp) : Prop where
  len : ∀ vs H Q E, sp vs H Q E → vs.length = ps.length
  run : ∀ (A : Around) (outer : List Env) (s : Shared) (H : Hp) (args : Args) (us : List Value) (vs : List V) (Q : VK) (E : XK), Room k A → Env0 P w K mg base A outer s H → BindsTo s fd args (ps.zip us) → Vals vs us → sp vs H Q E →
    codeAny (model P w) A (.call (.ref f) args) (CR CX outer P w H s Q E) s
section
variable {X : Cx} {pins : List (Addr × Obj)} {σ : St} {H : Hp} {s s' : Shared}
theorem Inv.env0 (I : Inv X pins σ H s) : Env0 X.prog X.w X.K X.mg X.base X.A X.stack s H :=
  ⟨I.ok.frames, I.ok.mod, I.bs, Nat.le_trans I.ok.bsz I.sz, I.stack, I.stkFree, I.hok, I.bare⟩
theorem Inv.after {Q : VK} {u : Value} (I : Inv X pins σ H s) (h : CE X.stack X.prog X.w H s Q u s') : EP X pins σ Q u s' := by
  obtain ⟨v, H', os, bare, un, hok, r, q⟩ := h
  obtain ⟨hh, g, d, t, os'⟩ := s'
  obtain rfl : os' = s.os := os
  exact ⟨v, H', I.call (h' := hh) (g' := g) (d' := d) (t' := t) (ch := []) un hok bare (fun b z => absurd z (by simp)), r, q⟩
end

noncomputable def tCall (sp : Sp) (dvs : List V) (E : XK) (t : TA) : TE := fun σ H Q => t σ H fun vs H1 => sp (vs ++ dvs) H1 Q E
noncomputable def Binds (K : PySem.W.Frag) (fd : FuncData) (ps : List Str) (ds : List Value) : Prop :=
  ∀ (s : Shared) (us : List Value), K.In s.heap → (us ++ ds).length = ps.length → BindsTo s fd ⟨us, []⟩ (ps.zip (us ++ ds))
theorem Binds.all {K : PySem.W.Frag} {fd : FuncData} {ps : List Str} (h : ∀ us : List Value, us.length = ps.length → bindArgs fd ⟨us, []⟩ = pure (ps.zip us)) : Binds K fd ps [] := fun s us _ hl => by
  rw [List.append_nil] at hl ⊢
  exact .of_eq (h us hl)

noncomputable def Passes (CX : CXT) (X : Cx) (E : XK) : Prop := ∀ (pins : List (Addr × Obj)) (σ : St) (H : Hp) (s : Shared) (e : Value) (s' : Shared), Inv X pins σ H s → CX X.stack H s E e s' → X.xe e s'

section
variable {X : Cx} {CX : CXT} {k : Nat} {f C : Addr} {fd : FuncData} {ps : List Str} {sp : Sp} {dvs : List V} {ds : List Value} {E : XK} {x m : Str} {p pos apos : Pos} {e o : Expr} {es : List Expr} {ta : TE} {t : TA}

theorem run_fn {pins : List (Addr × Obj)} {σ : St} {H : Hp} {s : Shared} {Q : VK} {us : List Value} {vs : List V} (F : FnOk X.prog X.w X.K X.mg X.base CX k f fd ps sp) (hr : Room k X.A) (hb : Binds X.K fd ps ds) (hd : Vals dvs ds) (hx : Passes CX X E)
    (I : Inv X pins σ H s) (r : Vals vs us) (h : sp (vs ++ dvs) H Q E) : wpAny (model X.prog X.w) X.A (call (.ref f) us) (EP X pins σ Q) X.xe s := by
  have r2 : Vals (vs ++ dvs) (us ++ ds) := r.append hd
  have hl : (us ++ ds).length = ps.length := by rw [← r2.length]; exact F.len _ _ _ _ h
  refine wpAny_call (codeAny_mono (F.run X.A X.stack s H ⟨us, []⟩ (us ++ ds) (vs ++ dvs) Q E hr I.env0 (hb s us I.kIn hl) r2 h) fun r s' hq => ?_)
  cases r with
  | error e => exact hx pins σ H s e s' I hq
  | ok fl =>
    cases fl with
    | ret u => exact I.after hq
    | next => exact False.elim hq
    | brk => exact False.elim hq
    | cont => exact False.elim hq

theorem pe_call (F : FnOk X.prog X.w X.K X.mg X.base CX k f fd ps sp) (hr : Room k X.A) (hg : Gl X x) (hm : X.mg x = some (.ref f)) (hk : PySem.W.keepIn X.K (.ref f) = true) (hb : Binds X.K fd ps ds) (hd : Vals dvs ds) (hx : Passes CX X E)
    (ha : PA X (e :: es) t) (hdb : (x == ("__debug__" : Str)) = false := by decide) (he : starEach (e :: es) X.env = (false, eval e X.env) :: starEach es X.env := by rfl) (hpl : (backTo pos (starEach es X.env)).any (·.1) = false := by rfl) :
    PE X (.Call (.Name x p) (e :: es) [] pos) (tCall sp dvs E t) := by
  intro pins s σ H Q I h
  refine wpAny_Call_Name_kw (ld_glob I hg hm ?_ hdb)
  refine PySem.W.callWith_K (h₀ := X.base) I.ok.mod.kin hk (thn (ha pos pins s σ H _ I h) fun us s1 ⟨vs, H1, I1, r, q⟩ => ⟨I1.kIn, ?_⟩) he hpl
  exact run_fn F hr hb hd hx I1 r q
end

section
variable {X : Cx} {CX : CXT} {k : Nat} {f C : Addr} {fd : FuncData} {ps ks : List Str} {sp : Sp} {E : XK} {x m : Str} {p pos apos kpos : Pos} {e o : Expr} {es : List Expr} {kws : List Keyword} {te ta : TE} {t tk : TA} {nm : Option Str}
variable {g : List Value → List Value → List Value} {gV : List V → List V → List V}
end

structure FnScope (N P : List Str) (sc : Scope) : Prop where
  kind : sc.kind = .function
  co : sc.isCoroutine = false
  gen : sc.isGenerator = false
  nd : N.Nodup
  pre : N.take P.length = P
  par : ∀ x ∈ P, sc.names.lookup x = some .local ∨ sc.names.lookup x = some .cell
  nofree : ∀ y ∈ sc.names, y.2 ≠ .free

theorem bindL_out {kindOf : Str → Option NameKind} {x : Str} : ∀ {binds : List (Str × Value)} {m : Str → Option Value}, (∀ v, (x, v) ∉ binds) → bindL kindOf binds m x = m x
  | [], _, _ => rfl
  | (n, v) :: r, m, h => by
    unfold bindL
    rw [bindL_out fun w hw => h w (List.mem_cons_of_mem _ hw)]
    split
    · have : x ≠ n := by rintro rfl; exact h v List.mem_cons_self
      simp [this]
    · rfl
theorem bindC_out {kindOf : Str → Option NameKind} {x : Str} : ∀ {binds : List (Str × Value)} {m : Str → Option Value}, (∀ v, (x, v) ∉ binds) → bindC kindOf binds m x = m x
  | [], _, _ => rfl
  | (n, v) :: r, m, h => by
    unfold bindC
    rw [bindC_out fun w hw => h w (List.mem_cons_of_mem _ hw)]
    split
    · rfl
    · have : x ≠ n := by rintro rfl; exact h v List.mem_cons_self
      simp [this]
theorem bindL_get {kindOf : Str → Option NameKind} {x : Str} {v : Value} : ∀ {P : List Str} {vs : List Value} {i : Nat} {m : Str → Option Value}, P.Nodup → P[i]? = some x → vs[i]? = some v → kindOf x = some .local →
    bindL kindOf (P.zip vs) m x = some v
  | [], _, _, _, _, h, _, _ => by simp at h
  | _ :: _, [], _, _, _, _, h, _ => by simp at h
  | p :: P, w :: vs, 0, m, nd, h1, h2, hk => by
    simp at h1 h2; subst h1; subst h2
    show bindL kindOf ((p, w) :: P.zip vs) m p = _
    unfold bindL
    rw [bindL_out fun v hv => (List.nodup_cons.mp nd).1 (List.of_mem_zip hv).1, if_pos hk]
    simp
  | p :: P, w :: vs, i + 1, m, nd, h1, h2, hk => by
    show bindL kindOf ((p, w) :: P.zip vs) m x = _
    unfold bindL
    exact bindL_get (i := i) (List.nodup_cons.mp nd).2 (by simpa using h1) (by simpa using h2) hk
theorem bindC_get {kindOf : Str → Option NameKind} {x : Str} {v : Value} : ∀ {P : List Str} {vs : List Value} {i : Nat} {m : Str → Option Value}, P.Nodup → P[i]? = some x → vs[i]? = some v → kindOf x ≠ some .local →
    bindC kindOf (P.zip vs) m x = some v
  | [], _, _, _, _, h, _, _ => by simp at h
  | _ :: _, [], _, _, _, _, h, _ => by simp at h
  | p :: P, w :: vs, 0, m, nd, h1, h2, hk => by
    simp at h1 h2; subst h1; subst h2
    show bindC kindOf ((p, w) :: P.zip vs) m p = _
    unfold bindC
    rw [bindC_out fun v hv => (List.nodup_cons.mp nd).1 (List.of_mem_zip hv).1, if_neg hk]
    simp
  | p :: P, w :: vs, i + 1, m, nd, h1, h2, hk => by
    show bindC kindOf ((p, w) :: P.zip vs) m x = _
    unfold bindC
    exact bindC_get (i := i) (List.nodup_cons.mp nd).2 (by simpa using h1) (by simpa using h2) hk

noncomputable def start (N : List Str) (vs : List V) : St := vs.map some ++ List.replicate (N.length - vs.length) none

noncomputable def cxOf (CX : CXT) (P : Program) (w : World) (K : PySem.W.Frag) (mg : Str → Option Value) (base : Heap) (N : List Str) (qual : Str) (scope : Scope) (f : Addr) (cd : Value) (A : Around) (outer : List Env) (s : Shared) (H : Hp) (E : XK) : Cx where
  prog := P
  w := w
  K := K
  mg := mg
  base := base
  A := A.deeper (envOfC qual scope s.heap.objs.size f cd)
  N := N
  s₀ := s
  H₀ := H
  env := envOfC qual scope s.heap.objs.size f cd
  outer := outer
  stack := envOfC qual scope s.heap.objs.size f cd :: outer
  ex := []
  calm := true
  fn := fun _ => true
  pn := []
  xe := fun e s' => wpAny (model P w) (A.deeper (envOfC qual scope s.heap.objs.size f cd)) (leaving (envOfC qual scope s.heap.objs.size f cd) e) (fun _ s'' => CX outer H s E e s'') (fun e' s'' => CX outer H s E e' s'') s'

theorem cell_has {sc : Scope} {n : Nat} {x : Str} (h : sc.names.lookup x = some .cell) : ∃ c, (cellsFrom n sc.names []).lookup x = some c := by
  have q := PySem.W.cellsFrom_some sc.names n [] (.inl h)
  exact Option.isSome_iff_exists.mp q

theorem inv_start {CX : CXT} {P : Program} {w : World} {K : PySem.W.Frag} {mg : Str → Option Value} {base : Heap} {N ps : List Str} {qual : Str} {scope : Scope} {f : Addr} {cd : Value} {A : Around} {outer : List Env} {s s1 : Shared} {H : Hp} {E : XK} {us : List Value} {vs : List V}
    (S : FnScope N ps scope) (hd : A.handled = none) (e0 : Env0 P w K mg base A outer s H) (hl : vs.length = ps.length) (r : Vals vs us)
    (x : InCallC s s.heap.objs.size (bindL (envOfC qual scope s.heap.objs.size f cd).kindOf (ps.zip us) fun _ => none) (cellsFrom (s.heap.objs.size + 1) scope.names []) (bindC (envOfC qual scope s.heap.objs.size f cd).kindOf (ps.zip us) fun _ => none) s1) :
    Inv (cxOf CX P w K mg base N qual scope f cd A outer s H E) [] (start N vs) H s1 := by
  have hpl : ps.length ≤ N.length := by have := congrArg List.length S.pre; rw [List.length_take] at this; omega
  obtain ⟨h1, tk, rfl, hk⟩ := x.done
  have noA : ∀ b : Addr, b ∉ (cxOf CX P w K mg base N qual scope f cd A outer s H E).ex := fun b z => absurd (show b ∈ ([] : List Addr) from z) (by simp)
  refine ⟨⟨e0.mod, S.kind, rfl, rfl, Nat.le_refl _, fun y z c h1 h2 => ?_, fun y hy => ?_, fun y c _ h => ?_, fun _ => hd, Around.frames_deeper e0.frames, .inr ⟨rfl, rfl⟩, fun b z => absurd z (noA b), e0.bs, e0.bsz, fun b _ _ => noA b, fun b z => absurd z (noA b), e0.funs, e0.frf⟩,
    rfl, e0.bare, Un.kept hk, ⟨_, x.toInCall.ns, fun i y v h1 h2 h3 => ?_⟩, fun y c h => ⟨_, x.cell y c h⟩, e0.hok.fresh (Nat.le_refl _), fun y c h => ?_, fun p hp => absurd (show p ∈ ([] : List (Addr × Obj)) from hp) (by simp), e0.hok.kept hk, ?_⟩
  · exact name_of_addr x.apart (PySem.mem_of_lookup h1) (PySem.mem_of_lookup h2)
  · have hy : scope.names.lookup y = some .cell ∨ scope.names.lookup y = some .free := hy
    rcases hy with hy | hy
    · exact cell_has hy
    · exact absurd rfl (S.nofree _ (PySem.mem_of_lookup hy))
  · exact Nat.le_of_lt (x.above y c (PySem.mem_of_lookup h))
  · have hi : i < vs.length := by
      unfold start at h2
      by_cases hi : i < vs.length
      · exact hi
      · rw [List.getElem?_append_right (by simpa using hi)] at h2
        rw [List.getElem?_replicate] at h2
        split at h2 <;> cases h2
    have ha : vs[i]? = some v := by
      unfold start at h2
      rw [List.getElem?_append_left (by simpa using hi), List.getElem?_map] at h2
      cases e : vs[i]? with
      | none => rw [e] at h2; cases h2
      | some a => rw [e] at h2; cases h2; rfl
    obtain ⟨u, hu, rv⟩ := r.get ha
    have hp : ps[i]? = some y := by
      rw [← S.pre, List.getElem?_take_of_lt (by omega)]; exact h1
    have ndP : ps.Nodup := by rw [← S.pre]; exact S.nd.sublist (List.take_sublist _ _)
    refine ⟨u, rv, ?_⟩
    rcases S.par y (List.mem_of_getElem? hp) with k | k
    · exact .inl ⟨k, bindL_get ndP hp hu k⟩
    · obtain ⟨c, e⟩ := cell_has (n := s.heap.objs.size + 1) k
      refine .inr ⟨.inl k, c, e, ?_⟩
      have q := x.cell y c e
      rw [bindC_get ndP hp hu (by show scope.names.lookup y ≠ _; rw [k]; decide)] at q
      exact q
  · exact e0.hok.fresh (Nat.le_of_lt (x.above y c (PySem.mem_of_lookup h)))
  · unfold start
    show _ = N.length
    rw [List.length_append, List.length_map, List.length_replicate]
    omega

theorem fn_of {CX : CXT} {P : Program} {w : World} {K : PySem.W.Frag} {mg : Str → Option Value} {base : Heap} {k : Nat} {f : Addr} {name qual : Str} {params : Arguments} {body : List Stmt} {scope : Scope} {dV kV doc pm cdv ct oc : Value} {an od : Option Addr}
    {osl : Array (Option Value)} {N ps : List Str} {sp : Sp} (lk : K.lookup f = some ⟨oc, od, .func (PySem.W.fnOf name qual params body scope dV kV doc pm an cdv ct), osl⟩) (hcd : PySem.W.codeIn K cdv qual = true) (S : FnScope N ps scope)
    (len : ∀ vs H Q E, sp vs H Q E → vs.length = ps.length)
    (hbody : ∀ (A : Around) (outer : List Env) (s : Shared) (H : Hp) (vs : List V) (Q : VK) (E : XK), Room k (A.deeper (envOfC qual scope s.heap.objs.size f cdv)) → sp vs H Q E →
      ∃ t, PSs (cxOf CX P w K mg base N qual scope f cdv A outer s H E) body t ∧ t { nx := fun _ H' => Q .non H', rt := Q } (start N vs) H) :
    FnOk P w K mg base CX (k + 1) f (PySem.W.fnOf name qual params body scope dV kV doc pm an cdv ct) ps sp := by
  refine ⟨len, fun A outer s H args us vs Q E hr e0 hb r hsp => ?_⟩
  have hl := len _ _ _ _ hsp
  have KX : K.In s.heap := e0.mod.kin.keeps fun b o e => (e0.bs b o e).1
  have lim : s.heap.NoLimit := e0.mod.nolimit.keeps fun b o e => (e0.bs b o e).1
  have hkind : ∀ y ∈ ps.zip us, scope.names.lookup y.1 = some .local ∨ (scope.names.lookup y.1 = some .cell ∧ ((cellsFrom (s.heap.objs.size + 1) scope.names []).lookup y.1).isSome = true) := fun ⟨n, v⟩ hy => by
    rcases S.par n (List.of_mem_zip hy).1 with q | q
    · exact .inl q
    · exact .inr ⟨q, PySem.W.cellsFrom_some _ _ _ (.inl q)⟩
  refine codeAny_call_function hr.depth (KX _ _ lk) rfl S.co S.gen rfl (PySem.W.codeRec_of KX hcd) (hb _ _ _ _ ?_)
  refine wpAny_newFunctionEnv_cells S.kind hkind fun env he s1 x => ?_
  subst he
  refine ⟨lim.keeps x.toInCall.keep, codeAny_func ?_⟩
  obtain ⟨t, ht, hq⟩ := hbody A outer s H vs Q E (hr.deeper _) hsp
  have I : Inv (cxOf CX P w K mg base N qual scope f cdv A outer s H E) [] (start N vs) H s1 := inv_start S hr.hd e0 hl r x
  refine wpAny_mono (ht [] s1 (start N vs) H _ I hq) (fun fl s' hs => ?_) fun e s' hs => hs
  have fin : ∀ {σ' : St} {H' : Hp} {v : V} {u : Value}, Inv (cxOf CX P w K mg base N qual scope f cdv A outer s H E) [] σ' H' s' → RelV v u → Q v H' → CE outer P w H s Q u s' :=
    fun {σ' H' v u} J rv q => ⟨v, H', J.os, J.bare, J.base, J.hok, rv, q⟩
  cases fl with
  | ret u =>
    obtain ⟨v, σ', H', J, rv, q⟩ := hs
    exact fin J rv q
  | next =>
    obtain ⟨σ', H', J, q⟩ := hs
    exact fin (v := V.non) (u := Value.none) J rfl q
  | brk =>
    obtain ⟨_, _, _, q⟩ := hs
    exact False.elim q
  | cont =>
    obtain ⟨_, _, _, q⟩ := hs
    exact False.elim q
end L2

namespace L2
open PySem PySem.Spec PyProof.Rows
section
variable {X : Cx} {x : Str} {p pos : Pos} {e : Expr} {es : List Expr} {t : TA} {id T : String} {r : List V → Hp → VK → Prop}

noncomputable def tCB (r : List V → Hp → VK → Prop) (t : TA) : TE := fun σ H Q => t σ H fun vs H1 => r vs H1 Q
theorem pe_callB (hc : CallR X (.builtin id) r) (hg : Gl X x) (hm : X.mg x = none) (hv : bootBuiltins x = some (.builtin id)) (ha : PA X (e :: es) t) (hn : x ≠ "__name__" := by decide) (hdb : (x == ("__debug__" : Str)) = false := by decide)
    (he : starEach (e :: es) X.env = (false, eval e X.env) :: starEach es X.env := by rfl) (hpl : (backTo pos (starEach es X.env)).any (·.1) = false := by rfl) : PE X (.Call (.Name x p) (e :: es) [] pos) (tCB r t) := by
  intro pins s σ H Q I h
  refine wpAny_Call_Name_kw (ld_blt I hg hm hv ?_ hn hdb)
  exact PyProof.Rows.callWith_builtin1 (thn (ha pos pins s σ H _ I h) fun us s1 ⟨vs, H1, I1, r1, q1⟩ => hc pins s1 σ H1 vs us Q I1 r1 q1) he hpl
theorem pe_callTy (hc : CallR X (.type T) r) (hg : Gl X x) (hm : X.mg x = none) (hv : bootBuiltins x = some (.type T)) (ha : PA X (e :: es) t) (hn : x ≠ "__name__" := by decide) (hdb : (x == ("__debug__" : Str)) = false := by decide)
    (he : starEach (e :: es) X.env = (false, eval e X.env) :: starEach es X.env := by rfl) (hpl : (backTo pos (starEach es X.env)).any (·.1) = false := by rfl) : PE X (.Call (.Name x p) (e :: es) [] pos) (tCB r t) := by
  intro pins s σ H Q I h
  refine wpAny_Call_Name_kw (ld_blt I hg hm hv ?_ hn hdb)
  exact PyProof.Rows.callWith_type1 (thn (ha pos pins s σ H _ I h) fun us s1 ⟨vs, H1, I1, r1, q1⟩ => hc pins s1 σ H1 vs us Q I1 r1 q1) he hpl
end
end L2

namespace HT
open PySem PyProof.Rows

section
open PySem.SeqAt
open PySem.AutoSeq1 (wpAny_loadPart')
open PySem.MeetsSeq PySem.MeetsSeq2 PySem.MeetsSeq3

end

section
variable {prog : Program} {w : World} {A : Around} {E : Value → Shared → Prop} {s : Shared}

theorem cat_tup {t b : Addr} {vs ws : List Value} {Q : Value → Shared → Prop} (ht : IsTup s.heap t vs.toArray) (hb : IsTup s.heap b ws.toArray) (hv : vs ≠ [])
    (h1 : ws = [] → Q (.ref t) s) (h2 : ws ≠ [] → Q (.ref s.heap.objs.size) { s with heap := s.heap.push { cls := .type "tuple", data := .seq (vs ++ ws).toArray } })
    (hsz : vs.length + ws.length ≤ sizeLine) : wpAny (model prog w) A (binaryOp .Add (.ref t) (.ref b)) Q E s := by
  obtain ⟨⟨cls, dd, data, sl⟩, ho, hc, n, hd⟩ := id ht
  obtain ⟨⟨cls2, dd2, data2, sl2⟩, ho2, hc2, n2, hd2⟩ := id hb
  simp only at hc hd hc2 hd2
  subst hc hd hc2 hd2
  have e : vs.toArray ++ ws.toArray = (vs ++ ws).toArray := by simp
  by_cases hw : ws = []
  · exact concat_meets ⟨_, ho, rfl⟩ ⟨_, ho2, rfl⟩ noFill_tuple_add seq_tuple_add PySem.F.slot_tuple_add PySem.F.entry_tuple_add (PySem.F.args_tuple_add_2 _ _)
      (tuple_addW1 t b vs.toArray ws.toArray n n2 dd dd2 sl sl2 (by simpa using hv) (by simp [hw])) ⟨ho, ho2, h1 hw⟩
  · refine concat_meets ⟨_, ho, rfl⟩ ⟨_, ho2, rfl⟩ noFill_tuple_add seq_tuple_add PySem.F.slot_tuple_add PySem.F.entry_tuple_add (PySem.F.args_tuple_add_2 _ _)
      (tuple_addW2 t b vs.toArray ws.toArray n n2 dd dd2 sl sl2 (by simpa using hv) (by simpa using hw) (by rw [List.size_toArray, List.size_toArray]; exact hsz)) ⟨ho, ho2, ?_⟩
    rw [e]
    exact h2 hw

noncomputable def sIx (n d : Nat) : Option Int → Nat
  | none => d
  | some v => if v < 0 then (v + (n : Int)).toNat else min v.toNat n
theorem sIx_nat (n d k : Nat) : sIx n d (some (k : Int)) = min k n := by
  show (if (k : Int) < 0 then ((k : Int) + (n : Int)).toNat else min (k : Int).toNat n) = min k n
  rw [if_neg (by omega), Int.toNat_natCast]
theorem sIx_le (n d : Nat) (hd : d ≤ n) (o : Option Int) : sIx n d o ≤ n := by
  cases o with
  | none => exact hd
  | some v =>
    show (if v < 0 then (v + (n : Int)).toNat else min v.toNat n) ≤ n
    by_cases hv : v < 0
    · rw [if_pos hv]; omega
    · rw [if_neg hv]; exact Nat.min_le_right _ _
theorem clip_eq (v : Int) (n d : Nat) : (if v < 0 then max (v + (n : Int)) 0 else min v (n : Int)) = ((sIx n d (some v) : Nat) : Int) := by
  show (if v < 0 then max (v + (n : Int)) 0 else min v (n : Int)) = (((if v < 0 then (v + (n : Int)).toNat else min v.toNat n) : Nat) : Int)
  by_cases hv : v < 0
  · simp only [if_pos hv]; omega
  · simp only [if_neg hv]; omega
theorem adjust_gen (lo hi : Option Int) (n : Nat) : Builtin.Slice.sliceAdjust lo hi 1 (n : Int) = (((sIx n 0 lo : Nat) : Int), ((sIx n n hi : Nat) : Int)) := by
  have h1 : ¬ ((1 : Int) < 0) := by omega
  unfold Builtin.Slice.sliceAdjust
  simp only [h1, if_false]
  refine Prod.ext ?_ ?_
  · cases lo with
    | none => rfl
    | some v => exact clip_eq v n 0
  · cases hi with
    | none => rfl
    | some v => exact clip_eq v n n
theorem places_gen (i j : Nat) : Builtin.Slice.slicePlaces (i : Int) (j : Int) 1 = j - i := by
  unfold Builtin.Slice.slicePlaces
  have h1 : (1 : Int) > 0 := by omega
  simp only [h1, if_true, Int.ediv_one]
  split <;> omega
theorem slicePart_ {v : Value} {o : Option Int} {Q : Option Int → Shared → Prop} (p : IsPart v o) (h : Q o s) : wpAny (model prog w) A (Builtin.Slice.slicePartIndex v) Q E s := by
  cases p with
  | none => exact slicePart_none h
  | int i t => exact slicePart_int h
theorem sliceApplied_gen {sl : Addr} {vl vu : Value} {lo hi : Option Int} {n : Nat} {Q : Int × Int × Nat → Shared → Prop} (hs : s.heap.IsSliceOf sl vl vu .none) (pl : IsPart vl lo) (pu : IsPart vu hi)
    (h : Q (((sIx n 0 lo : Nat) : Int), 1, sIx n n hi - sIx n 0 lo) s) : wpAny (model prog w) A (Builtin.Slice.sliceApplied (.ref sl) (pure (n : Int))) Q E s := by
  obtain ⟨os, hos, hcs, hds⟩ := id hs
  unfold Builtin.Slice.sliceApplied Builtin.Slice.sliceFields
  refine wpAny_bind (wpAny_bind (wpAny_field hos hds (x := vl) rfl (wpAny_bind (wpAny_field hos hds (x := vu) rfl (wpAny_bind (wpAny_field hos hds (x := .none) rfl (wpAny_pure ?_)))))))
  refine wpAny_bind (slicePart_none ?_)
  show wpAny _ _ (if ((1 : Int) == 0) = true then _ else _) _ _ s
  rw [if_neg (by decide)]
  refine wpAny_bind (slicePart_ pl (wpAny_bind (slicePart_ pu (wpAny_bind (wpAny_pure ?_)))))
  show wpAny _ _ (match Builtin.Slice.sliceAdjust lo hi 1 (n : Int) with | (lo, hi) => pure (lo, (1 : Int), Builtin.Slice.slicePlaces lo hi 1)) _ _ s
  rw [adjust_gen lo hi n]
  show wpAny _ _ (pure (((sIx n 0 lo : Nat) : Int), (1 : Int), Builtin.Slice.slicePlaces ((sIx n 0 lo : Nat) : Int) ((sIx n n hi : Nat) : Int) 1)) _ _ s
  rw [places_gen]
  exact wpAny_pure h
theorem pick_gen (xs : Array Value) (i k : Nat) : ((List.range k).filterMap fun (m : Nat) => xs[((i : Int) + (m : Int) * 1).toNat]?).toArray = ((xs.toList.drop i).take k).toArray := by
  have e : (fun (m : Nat) => xs[((i : Int) + (m : Int) * 1).toNat]?) = fun m => xs[i + m]? := by
    funext m
    have : ((i : Int) + (m : Int) * 1).toNat = i + m := by omega
    rw [this]
  rw [e]
  have := pick_run xs i k
  rw [List.filterMap_map] at this
  have e2 : ((fun x => xs[x]?) ∘ fun x => i + x) = fun m => xs[i + m]? := rfl
  rw [e2] at this
  rw [this]

theorem getItem_tuple_cut {t sl : Addr} {items : Array Value} {vl vu : Value} {lo hi : Option Int} {Q : Value → Shared → Prop} (ht : IsTup s.heap t items) (hs : s.heap.IsSliceOf sl vl vu .none) (pl : IsPart vl lo) (pu : IsPart vu hi)
    (hw : ¬ (sIx items.size 0 lo = 0 ∧ sIx items.size items.size hi = items.size))
    (h : Q (.ref s.heap.objs.size) { s with heap := s.heap.push { cls := .type "tuple", data := .seq ((items.toList.drop (sIx items.size 0 lo)).take (sIx items.size items.size hi - sIx items.size 0 lo)).toArray } })
    (hsz : items.size ≤ sizeLine) : wpAny (model prog w) A (getItem (.ref t) (.ref sl)) Q E s := by
  have htake : sizeOk (.seq ((items.toList.drop (sIx items.size 0 lo)).take (sIx items.size items.size hi - sIx items.size 0 lo)).toArray) := by
    show ((items.toList.drop (sIx items.size 0 lo)).take (sIx items.size items.size hi - sIx items.size 0 lo)).toArray.size ≤ sizeLine
    rw [List.size_toArray, List.length_take, List.length_drop, Array.length_toList]
    omega
  have hj : sIx items.size items.size hi ≤ items.size := sIx_le _ _ (Nat.le_refl _) hi
  obtain ⟨os, hos, hcs, hds⟩ := id hs
  have hTs : s.TypeIs (.ref sl) "slice" := ⟨os, hos, hcs⟩
  unfold getItem
  try with_reducible refine wpAny_holding ?_
  first | refine wpAny_bind (wpAny_pure ?_) | skip
  refine wpAny_bind (wpAny_sequenceKey ht.typeIs (by decide) ?_)
  refine wpAny_bind (wpAny_callSpecial?_slot (name := Str.ofString "__getitem__") ht.typeIs PyProof.Rows.slot_tuple_getitem
    (wpAny_call_entry PyProof.Rows.slot_tuple_getitem ht.typeIs entry_tuple_getitem ?_ (args_tuple_getitem _ _)))
  show wpAny _ _ (Builtin.Tuple.tupleItemsOf (.ref t) >>= _) _ _ s
  refine wpAny_bind (tupleItemsOf_ ht ?_)
  refine wpAny_bind (wpAny_typeOf hTs ?_)
  rw [if_pos (by decide)]
  refine wpAny_bind (sliceApplied_gen hs pl pu ?_)
  have hno : ¬ ((((sIx items.size 0 lo : Nat) : Int) == 0 && (1 : Int) == 1 && (sIx items.size items.size hi - sIx items.size 0 lo) == items.size) = true) := by
    intro q
    rw [Bool.and_eq_true, Bool.and_eq_true] at q
    have q1 : ((sIx items.size 0 lo : Nat) : Int) = 0 := eq_of_beq q.1.1
    have q2 : sIx items.size items.size hi - sIx items.size 0 lo = items.size := eq_of_beq q.2
    exact hw ⟨by omega, by omega⟩
  show wpAny _ _ (if (((sIx items.size 0 lo : Nat) : Int) == 0 && (1 : Int) == 1 && (sIx items.size items.size hi - sIx items.size 0 lo) == items.size) = true then _ else _) _ _ s
  rw [if_neg hno, pick_gen]
  first
    | exact wpAny_bind (m := Builtin.Tuple.tupleExact _) (wpAny_newObj_type (wpAny_pure ⟨_, rfl, wpAny_pure h⟩) htake)
    | exact wpAny_bind (m := Builtin.Tuple.tupleExact _) (wpAny_newObj_type (wpAny_bind (wpAny_pure (wpAny_pure ⟨_, rfl, wpAny_pure h⟩))) htake)
    | exact wpAny_bind (wpAny_bind (m := Builtin.Tuple.tupleExact _) (wpAny_newObj_type (wpAny_pure (wpAny_pure ⟨_, rfl, wpAny_pure h⟩)) htake))
    | exact wpAny_bind (wpAny_bind (m := Builtin.Tuple.tupleExact _) (wpAny_newObj_type (wpAny_pure ⟨_, rfl, wpAny_pure h⟩) htake))
end
end HT

namespace L2
open PySem PySem.Spec PyProof.Rows

noncomputable abbrev TO := St → Hp → (Option Int → Hp → Prop) → Prop
noncomputable def PO (X : Cx) (e : Option Expr) (t : TO) : Prop :=
  ∀ (pins : List (Addr × Obj)) (s : Shared) (σ : St) (H : Hp) (Q : Option Int → Hp → Prop), Inv X pins σ H s → t σ H Q →
    wpAny (model X.prog X.w) X.A (evalPart e X.env) (fun u s' => ∃ o H', Inv X pins σ H' s' ∧ IsPart u o ∧ Q o H') X.xe s
noncomputable def tNoPart : TO := fun _ H Q => Q none H
noncomputable def tPart (t : TE) : TO := fun σ H Q => t σ H fun x H1 => ∃ i, x = .int i ∧ Q (some i) H1

section
variable {X : Cx} {e : Expr} {te : TE} {lo hi : Option Expr} {tl th : TO} {pos p2 : Pos}

theorem po_none : PO X none tNoPart := by
  intro pins s σ H Q I h
  rw [evalPart_none]
  exact wpAny_pure ⟨none, H, I, .none, h⟩
theorem po_some (h : PE X e te) : PO X (some e) (tPart te) := by
  intro pins s σ H Q I hw
  rw [evalPart_some]
  refine thn (h pins s σ H _ I hw) fun u s1 ⟨x, H1, I1, r1, q1⟩ => ?_
  obtain ⟨i, rfl, q⟩ := q1
  obtain ⟨t, rfl⟩ := r1
  exact ⟨some i, H1, I1, .int i t, q⟩

noncomputable def SlR (X : Cx) (r : V → Option Int → Option Int → Hp → VK → Prop) : Prop :=
  ∀ (pins : List (Addr × Obj)) (s : Shared) (σ : St) (H : Hp) (x : V) (v vl vu : Value) (lo hi : Option Int) (sl : Addr) (Q : VK), Inv X pins σ H s → RelV x v → s.heap.IsSliceOf sl vl vu .none → IsPart vl lo → IsPart vu hi → r x lo hi H Q →
    ∃ T id, typeLookup (.type T) "__getitem__" = pure (some (.builtin id)) ∧ s.TypeIs v T ∧ wpAny (model X.prog X.w) X.A (getItem v (.ref sl)) (EP X pins σ Q) X.xe s
theorem SlR.or {r r' : V → Option Int → Option Int → Hp → VK → Prop} (h : SlR X r) (h' : SlR X r') : SlR X (fun x lo hi H Q => r x lo hi H Q ∨ r' x lo hi H Q) := by
  intro pins s σ H x v vl vu lo hi sl Q I rx hs pl pu q
  rcases q with q | q
  · exact h pins s σ H x v vl vu lo hi sl Q I rx hs pl pu q
  · exact h' pins s σ H x v vl vu lo hi sl Q I rx hs pl pu q
noncomputable def tSl (r : V → Option Int → Option Int → Hp → VK → Prop) (te : TE) (tl th : TO) : TE := fun σ H Q => te σ H fun x H1 => tl σ H1 fun l H2 => th σ H2 fun u H3 => r x l u H3 Q
theorem pe_slice {r : V → Option Int → Option Int → Hp → VK → Prop} (hr : SlR X r) (he : PE X e te) (hl : PO X lo tl) (hu : PO X hi th) : PE X (.Subscript e (.Slice lo hi none p2) pos) (tSl r te tl th) := by
  intro pins s σ H Q I h
  refine Subscript_ (thn (he pins s σ H _ I h) fun v s1 ⟨x, H1, I1, r1, q1⟩ => ?_)
  refine wpAny_Slice (thn (hl pins s1 σ H1 _ I1 q1) fun vl s2 ⟨l, H2, I2, pl, q2⟩ => thn (hu pins s2 σ H2 _ I2 q2) fun vu s3 ⟨u, H3, I3, pu, q3⟩ => ?_)
  rw [evalPart_none]
  refine wpAny_pure ?_
  have I4 : Inv X pins σ H3 { s3 with heap := s3.heap.push { cls := .type "slice", data := .fields #[vl, vu, .none] } } := I3.kept (t' := s3.toks) fun b ob q => Heap.get?_push_of_some _ q
  obtain ⟨T, id, hT, ht, hg⟩ := hr pins { s3 with heap := s3.heap.push { cls := .type "slice", data := .fields #[vl, vu, .none] } } σ H3 x v vl vu l u s3.heap.objs.size Q I4 r1 (Heap.IsSliceOf.new ..) pl pu q3
  show wpAny (model X.prog X.w) X.A (subscriptTail e (.Slice lo hi none p2) v (.ref s3.heap.objs.size)) (EP X pins σ Q) X.xe { s3 with heap := s3.heap.push { cls := .type "slice", data := .fields #[vl, vu, .none] } }
  exact tail_any (ops := [.ref s3.heap.objs.size, v]) ht hT hg (by with_unfolding_all rfl)

noncomputable def cutV (xs : List V) (lo hi : Option Int) : List V := (xs.drop (HT.sIx xs.length 0 lo)).take (HT.sIx xs.length xs.length hi - HT.sIx xs.length 0 lo)
theorem cutV_length (xs : List V) (lo hi : Option Int) : (cutV xs lo hi).length ≤ xs.length := by
  unfold cutV
  rw [List.length_take, List.length_drop]
  omega
noncomputable def rSlT (K : PySem.W.Frag) : V → Option Int → Option Int → Hp → VK → Prop := fun x lo hi H Q => ∃ a xs, x = .ref a ∧ SqT K H a xs ∧
  ¬ (HT.sIx xs.length 0 lo = 0 ∧ HT.sIx xs.length xs.length hi = xs.length) ∧ ∀ p, H p = none → Q (.ref p) (upd H p (.tup (cutV xs lo hi)))
theorem sl_tup : SlR X (rSlT X.K) := by
  intro pins s σ H x v vl vu lo hi sl Q I rx hs pl pu h
  obtain ⟨a, xs, rfl, hx, hw, q⟩ := h
  cases rx
  obtain ⟨its, r, ht, hz⟩ := I.tuple hx
  have hlen : its.toArray.size = xs.length := by rw [List.size_toArray]; exact r.length.symm
  refine ⟨"tuple", _, PyProof.Rows.slot_tuple_getitem.lookup, ht.typeIs, ?_⟩
  refine HT.getItem_tuple_cut ht hs pl pu (by rw [hlen]; exact hw) ?_ (by rw [hlen]; exact hz)
  rw [hlen]
  refine ⟨.ref s.heap.objs.size, _, I.laid (t' := s.toks) (o := .tup (cutV xs lo hi)) (fun b ob q => Heap.get?_push_of_some _ q) (Nat.le_refl _) ?_, rfl, q _ (I.hok.fresh (Nat.le_refl _))⟩
  exact ⟨Nat.le_trans (cutV_length xs lo hi) hz, _, (r.drop (HT.sIx xs.length 0 lo)).take (HT.sIx xs.length xs.length hi - HT.sIx xs.length 0 lo), IsTupN.new _ _⟩

noncomputable def rCatT (K : PySem.W.Frag) : R2 := fun x y H Q => ∃ a b xs ys, x = .ref a ∧ y = .ref b ∧ SqT K H a xs ∧ SqT K H b ys ∧ xs ≠ [] ∧ xs.length + ys.length ≤ sizeLine ∧
  (ys = [] → Q (.ref a) H) ∧ (ys ≠ [] → ∀ p, H p = none → Q (.ref p) (upd H p (.tup (xs ++ ys))))
theorem Vals.nil_iff {xs : List V} {us : List Value} (r : Vals xs us) : us = [] ↔ xs = [] := by
  cases r with
  | nil => simp
  | cons _ _ => simp
theorem op_catT : OpR X (binaryOp .Add) (rCatT X.K) := by
  intro pins s σ H x y v u Q I rx ry h
  obtain ⟨a, b, xs, ys, rfl, rfl, ha, hb, hx, hz, q1, q2⟩ := h
  cases rx
  cases ry
  obtain ⟨its, r1, p1, _⟩ := I.tuple ha
  obtain ⟨its2, r2, p2, _⟩ := I.tuple hb
  refine HT.cat_tup p1 p2 (fun z => hx (r1.nil_iff.mp z)) (fun z => ⟨.ref a, H, I, rfl, q1 (r2.nil_iff.mp z)⟩) (fun z => ?_) (by rw [← r1.length, ← r2.length]; exact hz)
  refine ⟨.ref s.heap.objs.size, _, I.laid (t' := s.toks) (o := .tup (xs ++ ys)) (fun b ob q => Heap.get?_push_of_some _ q) (Nat.le_refl _) ?_, rfl, q2 (fun w => z (r2.nil_iff.mpr w)) _ (I.hok.fresh (Nat.le_refl _))⟩
  exact ⟨by rw [List.length_append]; exact hz, _, r1.append r2, IsTupN.new _ _⟩
end
end L2

namespace L2
open PySem PySem.Spec PyProof.Rows

noncomputable def ixN (n : Nat) (i : Int) : Option Nat := if 0 ≤ i then (if i < n then some i.toNat else none) else if -(n : Int) ≤ i then some (i + n).toNat else none
noncomputable def atI {α : Type} (xs : List α) (i : Int) : Option α := (ixN xs.length i).bind fun j => xs[j]?
theorem ixN_seq {n : Nat} {i : Int} {j : Nat} (h : ixN n i = some j) : seqIndex? i n = some j ∧ j < n ∧ -(n : Int) ≤ i ∧ i < n := by
  unfold ixN at h
  by_cases h0 : 0 ≤ i
  · rw [if_pos h0] at h
    by_cases h1 : i < n
    · rw [if_pos h1] at h
      have e : i.toNat = j := Option.some.inj h
      exact ⟨by rw [seqIndex_of h0 h1, e], by omega, by omega, h1⟩
    · rw [if_neg h1] at h; cases h
  · rw [if_neg h0] at h
    by_cases h1 : -(n : Int) ≤ i
    · rw [if_pos h1] at h
      have e : (i + n).toNat = j := Option.some.inj h
      exact ⟨by rw [seqIndex_neg (by omega) h1, e], by omega, h1, by omega⟩
    · rw [if_neg h1] at h; cases h
theorem atI_get {α : Type} {xs : List α} {i : Int} {v : α} (h : atI xs i = some v) : ∃ j, seqIndex? i xs.length = some j ∧ xs[j]? = some v ∧ j < xs.length ∧ -(xs.length : Int) ≤ i ∧ i < xs.length := by
  unfold atI at h
  cases e : ixN xs.length i with
  | none => rw [e] at h; cases h
  | some j =>
    rw [e] at h
    obtain ⟨h1, h2, h3, h4⟩ := ixN_seq e
    exact ⟨j, h1, h, h2, h3, h4⟩
theorem atI_nat {α : Type} {xs : List α} {j : Nat} {v : α} (h : xs[j]? = some v) : atI xs (j : Int) = some v := by
  have hj : j < xs.length := (List.getElem?_eq_some_iff.mp h).1
  have e : ixN xs.length (j : Int) = some j := by
    unfold ixN
    rw [if_pos (by omega), if_pos (by omega)]; simp
  unfold atI; rw [e]; exact h
noncomputable def PlainIx (b : Expr) : Prop := ∀ o i, subscripted b false o i = operate [o, i] (getItem o i)
noncomputable def IxR (X : Cx) (r : R2) : Prop :=
  ∀ (value slice : Expr) (pins : List (Addr × Obj)) (s : Shared) (σ : St) (H : Hp) (x y : V) (v u : Value) (Q : VK), Inv X pins σ H s → RelV x v → RelV y u → r x y H Q →
    subscripted slice false v u = operate [v, u] (getItem v u) → wpAny (model X.prog X.w) X.A (subscriptTail value slice v u) (EP X pins σ Q) X.xe s
noncomputable def MtR (X : Cx) (id : String) (r : V → List V → Hp → VK → Prop) : Prop :=
  ∀ (pins : List (Addr × Obj)) (s : Shared) (σ : St) (H : Hp) (x : V) (xs : List V) (v : Value) (us : List Value) (Q : VK), Inv X pins σ H s → RelV x v → Vals xs us → r x xs H Q →
    wpAny (model X.prog X.w) X.A (call (.builtin id) (v :: us)) (EP X pins σ Q) X.xe s
section
variable {X : Cx} {a b : Expr} {ta tb : TE} {pos : Pos}
theorem IxR.or {r r' : R2} (h : IxR X r) (h' : IxR X r') : IxR X (fun x y H Q => r x y H Q ∨ r' x y H Q) := by
  intro value slice pins s σ H x y v u Q I rx ry q hs
  rcases q with q | q
  · exact h value slice pins s σ H x y v u Q I rx ry q hs
  · exact h' value slice pins s σ H x y v u Q I rx ry q hs
theorem pe_ix {r : R2} (hr : IxR X r) (ha : PE X a ta) (hb : PE X b tb) (hs : PlainIx b) : PE X (.Subscript a b pos) (tOp r ta tb) := by
  intro pins s σ H Q I h
  exact Subscript_ (binT ha hb I h fun v u s2 x y H2 I2 rx ry q => hr a b pins s2 σ H2 x y v u Q I2 rx ry q (hs _ _))

noncomputable def rIxL (K : PySem.W.Frag) : R2 := fun x y H Q => ∃ p xs i v, x = .ref p ∧ y = .int i ∧ SqL K H p xs ∧ atI xs i = some v ∧ Q v H
noncomputable def rIxT (K : PySem.W.Frag) : R2 := fun x y H Q => ∃ p xs i v, x = .ref p ∧ y = .int i ∧ SqT K H p xs ∧ atI xs i = some v ∧ Q v H
noncomputable def rIxS : R2 := fun x y H Q => ∃ z i c, x = .str z ∧ y = .int i ∧ z.length ≤ sizeLine ∧ atI z.cps.toList i = some c ∧ Q (.str ⟨#[c]⟩) H
theorem ix_list : IxR X (rIxL X.K) := by
  intro value slice pins s σ H x y v u Q I rx ry h hs
  obtain ⟨p, xs, i, z, rfl, rfl, hq, he, q⟩ := h
  cases rx
  obtain ⟨t, rfl⟩ := ry
  obtain ⟨its, r, pl, hz⟩ := I.list hq
  obtain ⟨j, h1, h2, h3, h4, h5⟩ := atI_get he
  obtain ⟨w, ew, rw'⟩ := r.get h2
  have hl := r.length
  have hn := line63
  have fin : EP X pins σ Q w s := ⟨z, H, I, rw', q⟩
  by_cases h0 : 0 ≤ i
  · have hj : i.toNat = j := by
      rw [seqIndex_of h0 h5] at h1
      exact Option.some.inj h1
    exact item_listR pl.isList h0 (by omega) (by rw [hj]; simpa using ew) fin hs
  · have hj : (i + (its.toArray.size : Int)).toNat = j := by
      rw [seqIndex_neg (by omega) h4] at h1
      rw [List.size_toArray, ← hl]
      exact Option.some.inj h1
    exact subscriptTail_builtinR (x := w) pl.isList.typeIs slot_list_getitem.lookup
      (wpAny_getItem_list_neg (Q := fun r s' => r = w ∧ EP X pins σ Q r s') pl.isList (by omega) (by rw [List.size_toArray] <;> omega) (by omega) (by rw [hj]; simpa using ew) ⟨rfl, fin⟩) hs
theorem ix_tup : IxR X (rIxT X.K) := by
  intro value slice pins s σ H x y v u Q I rx ry h hs
  obtain ⟨p, xs, i, z, rfl, rfl, hq, he, q⟩ := h
  cases rx
  obtain ⟨t, rfl⟩ := ry
  obtain ⟨its, r, pl, hz⟩ := I.tuple hq
  obtain ⟨j, h1, h2, h3, h4, h5⟩ := atI_get he
  obtain ⟨w, ew, rw'⟩ := r.get h2
  have hl := r.length
  have hn := line63
  have fin : EP X pins σ Q w s := ⟨z, H, I, rw', q⟩
  exact subscriptTail_builtinR (x := w) pl.typeIs slot_tuple_getitem.lookup
    (getItem_tuple (j := j) (Q := fun r s' => r = w ∧ EP X pins σ Q r s') pl (by omega) (by omega) (by rw [List.size_toArray, ← hl]; exact h1) (by simpa using ew) ⟨rfl, fin⟩) hs
theorem ix_str : IxR X rIxS := by
  intro value slice pins s σ H x y v u Q I rx ry h hs
  obtain ⟨z, i, c, rfl, rfl, hz, he, q⟩ := h
  obtain ⟨t, rfl⟩ := rx
  obtain ⟨t', rfl⟩ := ry
  obtain ⟨j, h1, h2, h3, h4, h5⟩ := atI_get he
  have hl : z.cps.toList.length = z.length := by simp [Str.length]
  rw [hl] at h1 h4 h5
  have hn := line63
  exact tail_any (typeIs_str s z t) slot_str_getitem.lookup (getItem_str (c := c) (by
    have e1 : decide (i < -(2 ^ 63 : Int)) = false := decide_eq_false (by omega)
    have e2 : decide (i ≥ 2 ^ 63) = false := decide_eq_false (by omega)
    rw [e1, e2, Bool.or_false]) (by rw [h1]; simpa using h2) ⟨.str ⟨#[c]⟩, H, I.tok _, ⟨_, rfl⟩, q⟩) hs
noncomputable def rIx (K : PySem.W.Frag) : R2 := fun x y H Q => rIxL K x y H Q ∨ rIxT K x y H Q ∨ rIxS x y H Q
theorem ix_seq : IxR X (rIx X.K) := ix_list.or (ix_tup.or ix_str)

theorem mapSeq_set (its : List Value) (n j : Nat) (u : Value) : Obj.mapSeq (·.setIfInBounds j u) { cls := .type "list", data := .seq its.toArray n } = { cls := .type "list", data := .seq (its.set j u).toArray n } := by
  simp [Obj.mapSeq]
theorem Inv.lst {pins : List (Addr × Obj)} {σ : St} {H : Hp} {s : Shared} {p : Addr} {xs : List V} (I : Inv X pins σ H s) (h : H p = some (.lst xs)) :
    ∃ (its : List Value) (n : Nat), Vals xs its ∧ s.heap.get? p = some { cls := .type "list", data := .seq its.toArray n } ∧ xs.length ≤ sizeLine := by
  obtain ⟨z, its, n, r, e⟩ := I.hok p _ h
  exact ⟨its, n, r, e, z⟩
theorem Inv.lstUpd {pins : List (Addr × Obj)} {σ : St} {H : Hp} {s : Shared} {p : Addr} {xs ys : List V} {its its' : List Value} {n n' : Nat} {f : Obj → Obj} (I : Inv X pins σ H s) (h : H p = some (.lst xs))
    (ho : s.heap.get? p = some { cls := .type "list", data := .seq its.toArray n }) (hf : f { cls := .type "list", data := .seq its.toArray n } = { cls := .type "list", data := .seq its'.toArray n' }) (r : Vals ys its') (hz : ys.length ≤ sizeLine) (t : Nat) :
    Inv X pins σ (upd H p (.lst ys)) { s with heap := s.heap.update p f, toks := t } := by
  have e : (s.heap.update p f).get? p = some { cls := .type "list", data := .seq its'.toArray n' } := by
    rw [Heap.get?_update_self f ho (by rw [hf] <;> rfl), hf]
  refine I.write (x := p) (e := p) (by rw [h]; trivial) (.inl rfl) (fun b u hb q => (Heap.get?_update_other _ _ (Ne.symm hb)).trans q) ⟨_, e⟩ ?_
  exact ⟨hz, its', n', r, e⟩
noncomputable def rSetL : V → V → V → Hp → (Hp → Prop) → Prop := fun o i v H Q => ∃ p xs k j, o = .ref p ∧ i = .int k ∧ H p = some (.lst xs) ∧ ixN xs.length k = some j ∧ Q (upd H p (.lst (xs.set j v)))
theorem set_list : PSet X rSetL := by
  intro pins s σ H o i v ov iv u Q I ro ri rv h
  obtain ⟨p, xs, k, j, rfl, rfl, hp, hj, q⟩ := h
  cases ro
  obtain ⟨t, rfl⟩ := ri
  obtain ⟨its, n, r, ho, hz⟩ := I.lst hp
  obtain ⟨h1, h2, h3, h4⟩ := ixN_seq hj
  have hl := r.length
  have hn := line63
  have I' : Inv X pins σ (upd H p (.lst (xs.set j v))) { s with heap := s.heap.update p (Obj.mapSeq (·.setIfInBounds j u)) } :=
    I.lstUpd hp ho (mapSeq_set its n j u) (r.set rv j) (by rw [List.length_set]; exact hz) s.toks
  by_cases h0 : 0 ≤ k
  · have hk : k.toNat = j := by
      rw [seqIndex_of h0 h4] at h1
      exact Option.some.inj h1
    exact PySem.W.ki_setAt ho h0 (by omega) (by rw [List.size_toArray, ← hl]; exact h4) (by rw [hk]; exact ⟨_, I', q⟩)
  · have hk : (k + (its.toArray.size : Int)).toNat = j := by
      rw [seqIndex_neg (by omega) h3] at h1
      rw [List.size_toArray, ← hl]
      exact Option.some.inj h1
    exact PySem.W.ki_setBack ho (by omega) (by rw [List.size_toArray, ← hl]; exact h3) (by omega) (by rw [hk]; exact ⟨_, I', q⟩)

theorem slice_bounds (lo hi : Option Int) (n : Nat) : (sliceBounds lo hi none n).1 = ((HT.sIx n 0 lo : Nat) : Int) ∧ (sliceBounds lo hi none n).2.1 = ((HT.sIx n n hi : Nat) : Int) ∧ (sliceBounds lo hi none n).2.2 = 1 := by
  refine ⟨?_, ?_, rfl⟩
  · cases lo with
    | none => simp [sliceBounds, HT.sIx]
    | some i =>
      simp only [sliceBounds, HT.sIx, Option.getD_none, show (1 : Int) > 0 by decide, if_true]
      by_cases h : i < 0
      · simp only [h, if_true] <;> omega
      · simp only [h, if_false] <;> omega
  · cases hi with
    | none => simp [sliceBounds, HT.sIx]
    | some i =>
      simp only [sliceBounds, HT.sIx, Option.getD_none, show (1 : Int) > 0 by decide, if_true]
      by_cases h : i < 0
      · simp only [h, if_true] <;> omega
      · simp only [h, if_false] <;> omega
theorem slicePick_cut (its : List Value) (lo hi : Option Int) : slicePick its.toArray lo hi none = ((its.drop (HT.sIx its.length 0 lo)).take (HT.sIx its.length its.length hi - HT.sIx its.length 0 lo)).toArray := by
  obtain ⟨h1, h2, h3⟩ := slice_bounds lo hi its.toArray.size
  unfold slicePick
  rw [h1, h2, h3]
  simp only [sliceRange_one, pick_run, List.size_toArray] <;> rfl
noncomputable def rSlL (K : PySem.W.Frag) : V → Option Int → Option Int → Hp → VK → Prop := fun x lo hi H Q => ∃ a xs, x = .ref a ∧ SqL K H a xs ∧ ∀ p, H p = none → Q (.ref p) (upd H p (.lst (cutV xs lo hi)))
theorem sl_list : SlR X (rSlL X.K) := by
  intro pins s σ H x v vl vu lo hi sl Q I rx hs pl pu h
  obtain ⟨a, xs, rfl, hx, q⟩ := h
  cases rx
  obtain ⟨its, r, ht, hz⟩ := I.list hx
  have hlen := r.length
  refine ⟨"list", _, slot_list_getitem.lookup, ht.isList.typeIs, ?_⟩
  refine wpAny_getItem_list_slice ht.isList hs pl pu .none (by simp) ?_ (by rw [List.size_toArray] <;> omega)
  rw [slicePick_cut, ← hlen]
  refine ⟨.ref s.heap.objs.size, _, I.laid (t' := s.toks) (o := .lst (cutV xs lo hi)) (fun b ob q => Heap.get?_push_of_some _ q) (Nat.le_refl _) ?_, rfl, q _ (I.hok.fresh (Nat.le_refl _))⟩
  exact ⟨Nat.le_trans (cutV_length xs lo hi) hz, _, 0, (r.drop (HT.sIx xs.length 0 lo)).take (HT.sIx xs.length xs.length hi - HT.sIx xs.length 0 lo), Heap.get?_push_size _ rfl⟩

noncomputable def flatV : V → Bool
  | .non => true
  | .bl _ => true
  | .int _ => true
  | .str _ => true
  | _ => false
noncomputable def eqV : V → V → Bool
  | .non, .non => true
  | .bl a, .bl b => a == b
  | .bl a, .int b => (if a then 1 else 0) == b
  | .int a, .bl b => a == (if b then 1 else 0)
  | .int a, .int b => a == b
  | .str a, .str b => a == b
  | _, _ => false
theorem eqAt_V {A : Around} {s : Shared} {y x : V} {u v : Value} (ry : RelV y u) (rx : RelV x v) (fy : flatV y = true) (fx : flatV x = true) : SeqAt.EqAt A s u v (eqV y x) := by
  cases y with
  | non =>
    cases ry
    cases x with
    | non => cases rx; exact SeqAt.EqAt.same _
    | bl b => cases rx; exact SeqAt.EqAt.none_bool b
    | int b => obtain ⟨t, rfl⟩ := rx; exact SeqAt.EqAt.none_int b t
    | str b => obtain ⟨t, rfl⟩ := rx; exact SeqAt.EqAt.none_str b t
    | _ => exact absurd (show false = true from fx) Bool.false_ne_true
  | bl a =>
    cases ry
    cases x with
    | non => cases rx; exact SeqAt.EqAt.bool_none a
    | bl b => cases rx; exact SeqAt.EqAt.bool_bool a b
    | int b => obtain ⟨t, rfl⟩ := rx; exact SeqAt.EqAt.bool_int a b t
    | str b => obtain ⟨t, rfl⟩ := rx; exact SeqAt.EqAt.bool_str a b t
    | _ => exact absurd (show false = true from fx) Bool.false_ne_true
  | int a =>
    obtain ⟨t', rfl⟩ := ry
    cases x with
    | non => cases rx; exact SeqAt.EqAt.int_none a t'
    | bl b => cases rx; exact SeqAt.EqAt.int_bool a t' b
    | int b => obtain ⟨t, rfl⟩ := rx; exact SeqAt.EqAt.int_int a t' b t
    | str b => obtain ⟨t, rfl⟩ := rx; exact SeqAt.EqAt.int_str a t' b t
    | _ => exact absurd (show false = true from fx) Bool.false_ne_true
  | str a =>
    obtain ⟨t', rfl⟩ := ry
    cases x with
    | non => cases rx; exact SeqAt.EqAt.str_none a t'
    | bl b => cases rx; exact SeqAt.EqAt.str_bool a t' b
    | int b => obtain ⟨t, rfl⟩ := rx; exact SeqAt.EqAt.str_int a t' b t
    | str b => obtain ⟨t, rfl⟩ := rx; exact SeqAt.EqAt.str_str a t' b t
    | _ => exact absurd (show false = true from fx) Bool.false_ne_true
  | _ => exact absurd (show false = true from fy) Bool.false_ne_true
noncomputable def eqU (x : V) (u : Value) : Bool := match u with
  | .none => eqV .non x
  | .bool b => eqV (.bl b) x
  | .int i _ => eqV (.int i) x
  | .str z _ => eqV (.str z) x
  | _ => false
theorem eqU_of {x y : V} {u : Value} (r : RelV y u) (f : flatV y = true) : eqU x u = eqV y x := by
  cases y with
  | non => cases r; rfl
  | bl b => cases r; rfl
  | int i => obtain ⟨t, rfl⟩ := r; rfl
  | str z => obtain ⟨t, rfl⟩ := r; rfl
  | _ => exact absurd (show false = true from f) Bool.false_ne_true
theorem mem_eqAt {A : Around} {s : Shared} {x : V} {v : Value} (rx : RelV x v) (fx : flatV x = true) : ∀ {xs : List V} {us : List Value}, Vals xs us → xs.all flatV = true → ∀ u ∈ us, SeqAt.EqAt A s u v (eqU x u)
  | _, _, .nil, _ => fun u hu => by cases hu
  | y :: xs, u :: us, .cons r t, f => fun u' hu => by
    rw [List.all_cons, Bool.and_eq_true] at f
    rcases List.mem_cons.mp hu with rfl | hu
    · rw [eqU_of r f.1]; exact eqAt_V r rx f.1 fx
    · exact mem_eqAt rx fx t f.2 u' hu
theorem call_list_of : CallR X (.type "list") (fun xs H Q => ∃ p ys, xs = [.ref p] ∧ (SqL X.K H p ys ∨ SqT X.K H p ys) ∧ ∀ l, H l = none → Q (.ref l) (upd H l (.lst ys))) := by
  intro pins s σ H xs us Q I r h
  obtain ⟨p, ys, rfl, hq, q⟩ := h
  obtain ⟨u, rfl, rx⟩ := vals1 r
  cases rx
  have fin : ∀ (its : List Value), Vals ys its → ys.length ≤ sizeLine → ∀ (h' : Heap) (c' : Nat), (∀ b o', s.heap.get? b = some o' → h'.get? b = some o') →
      h'.get? s.heap.objs.size = some { cls := .type "list", dict := none, data := .seq its.toArray c', slots := #[] } → EP X pins σ Q (.ref s.heap.objs.size) { s with heap := h' } := fun its r' hz h' c' kp e =>
    ⟨.ref s.heap.objs.size, _, I.laid (t' := s.toks) kp (Nat.le_refl _) (show ObjOk X.prog X.w _ h' _ (.lst ys) from ⟨hz, its, c', r', e⟩), rfl, q _ (I.hok.fresh (Nat.le_refl _))⟩
  rcases hq with hq | hq
  · obtain ⟨its, r', pl, hz⟩ := I.list hq
    have hlen := r'.length
    obtain ⟨o, ho, hc, n, hd⟩ := pl.isList
    exact call_list_seq p (.inl rfl) ho hc hd (fun h' c' kp e => fin its r' hz h' c' kp e) (by simp only [List.size_toArray] <;> omega)
  · obtain ⟨its, r', pl, hz⟩ := I.tuple hq
    have hlen := r'.length
    obtain ⟨o, ho, hc, n, hd⟩ := pl
    exact call_list_seq p (.inr rfl) ho hc hd (fun h' c' kp e => fin its r' hz h' c' kp e) (by simp only [List.size_toArray] <;> omega)
theorem call_tuple_of : CallR X (.type "tuple") (fun xs H Q => ∃ p ys, xs = [.ref p] ∧ ((SqL X.K H p ys ∧ ∀ l, H l = none → Q (.ref l) (upd H l (.tup ys))) ∨ (SqT X.K H p ys ∧ Q (.ref p) H))) := by
  intro pins s σ H xs us Q I r h
  obtain ⟨p, ys, rfl, h⟩ := h
  obtain ⟨u, rfl, rx⟩ := vals1 r
  cases rx
  rcases h with ⟨hq, q⟩ | ⟨hq, q⟩
  · obtain ⟨its, r', pl, hz⟩ := I.list hq
    have hlen := r'.length
    refine call_tuple_list pl.isList (fun h' kp => ?_) (by simp only [List.size_toArray] <;> omega)
    have I1 : Inv X pins σ H { s with heap := h' } := I.kept (t' := s.toks) kp
    have I2 : Inv X pins σ (upd H h'.objs.size (.tup ys)) { s with heap := h'.push { cls := .type "tuple", data := .seq its.toArray } } :=
      I1.laid (t' := s.toks) (fun b o e => Heap.get?_push_of_some _ e) (Nat.le_refl _) (show ObjOk X.prog X.w _ _ _ (.tup ys) from ⟨hz, its, r', IsTupN.new _ _⟩)
    exact ⟨.ref h'.objs.size, _, I2, rfl, q _ (I1.hok.fresh (Nat.le_refl _))⟩
  · obtain ⟨its, r', pl, hz⟩ := I.tuple hq
    exact call_tuple_same pl ⟨.ref p, H, I, rfl, q⟩

noncomputable def tyV (K : PySem.W.Frag) (T : String) (x : V) (H : Hp) : Prop := match x with
  | .str _ => T = "str"
  | .int _ => T = "int"
  | .ref p => (T = "list" ∧ ∃ xs, SqL K H p xs) ∨ (T = "tuple" ∧ ((∃ o, K.lookup p = some o ∧ o.cls = .type "tuple" ∧ o.dict = none) ∨ ∃ xs, H p = some (.tup xs))) ∨
      (T = "dict" ∧ ((∃ kvs, H p = some (.dK kvs)) ∨ ∃ kvs, H p = some (.dT kvs))) ∨ (T = "set" ∧ ∃ S n, H p = some (.set S n))
  | _ => False
theorem tyV_is {pins : List (Addr × Obj)} {σ : St} {H : Hp} {s : Shared} {T : String} {x : V} {v : Value} (I : Inv X pins σ H s) (r : RelV x v) (ty : tyV X.K T x H) :
    s.TypeIs v T ∧ ∀ a, v = .ref a → ∃ ob, s.heap.get? a = some ob ∧ ob.dict = none := by
  cases x with
  | str z =>
    obtain ⟨t, rfl⟩ := r
    cases (show T = "str" from ty)
    exact ⟨typeIs_str s z t, fun _ e => nomatch e⟩
  | int i =>
    obtain ⟨t, rfl⟩ := r
    cases (show T = "int" from ty)
    exact ⟨typeIs_int s i t, fun _ e => nomatch e⟩
  | ref p =>
    cases r
    rcases ty with ⟨rfl, xs, hq⟩ | ⟨rfl, ⟨o, hk, hc, hd⟩ | ⟨xs, hx⟩⟩ | ⟨rfl, hk⟩ | ⟨rfl, S, n, hk⟩
    · obtain ⟨its, _, pl, _⟩ := I.list hq
      refine ⟨pl.isList.typeIs, fun a e => ?_⟩
      cases e
      obtain ⟨o, n, e, c, hd, _⟩ := pl
      exact ⟨o, e, hd⟩
    · refine ⟨⟨o, I.kIn p o hk, hc⟩, fun a e => ?_⟩
      cases e
      exact ⟨o, I.kIn _ o hk, hd⟩
    · obtain ⟨_, _, _, o, e, c, hd, _⟩ := I.hok p _ hx
      refine ⟨⟨o, e, c⟩, fun a e2 => ?_⟩
      cases e2
      exact ⟨o, e, hd⟩
    · have z : ∃ o, s.heap.get? p = some o ∧ o.ExactDict := by
        rcases hk with ⟨kvs, hk⟩ | ⟨kvs, hk⟩
        · obtain ⟨_, _, _, _, o, _, _, e, ex, _⟩ := I.hok p _ hk
          exact ⟨o, e, ex⟩
        · obtain ⟨_, _, _, _, o, _, _, e, ex, _⟩ := I.hok p _ hk
          exact ⟨o, e, ex⟩
      obtain ⟨o, e, ex⟩ := z
      refine ⟨⟨o, e, ex.1⟩, fun a e2 => ?_⟩
      cases e2
      exact ⟨o, e, ex.2.1⟩
    · obtain ⟨o, _, _, _, e, ex, _⟩ := I.hok p _ hk
      refine ⟨⟨o, e, ex.1⟩, fun a e2 => ?_⟩
      cases e2
      exact ⟨o, e, ex.2.1⟩
  | _ => exact False.elim ty
noncomputable def tBM0 (K : PySem.W.Frag) (T : String) (r : V → List V → Hp → VK → Prop) (to : TE) : TE := fun σ H Q => to σ H fun x H1 => tyV K T x H1 ∧ r x [] H1 Q
noncomputable def tBM (K : PySem.W.Frag) (T : String) (r : V → List V → Hp → VK → Prop) (to : TE) (t : TA) : TE := fun σ H Q => to σ H fun x H1 => tyV K T x H1 ∧ t σ H1 fun xs H2 => r x xs H2 Q
variable {o e : Expr} {es : List Expr} {to : TE} {t : TA} {name : Str} {apos cpos : Pos} {T id : String} {r : V → List V → Hp → VK → Prop}
theorem pe_bm0 (pa : PlainAttrs T) (slot : Slot T name id) (hty : typeOf (.builtin id) = pure (.type "method_descriptor")) (hm : MtR X id r) (ho : PE X o to)
    (hbase : attributeBase o name X.env (eval o X.env) = eval o X.env := by rfl) (hline : (apos.endLine == cpos.line) = true := by rfl) : PE X (.Call (.Attribute o name apos) [] [] cpos) (tBM0 X.K T r to) := by
  intro pins s σ H Q I h
  refine wpAny_Call_method0_late hbase hline (thn (ho pins s σ H _ I h) fun v s1 ⟨x, H1, I1, r1, ty, q1⟩ => ?_)
  obtain ⟨h1, h2⟩ := tyV_is I1 r1 ty
  exact ⟨T, id, pa, slot, hty, h1, h2, Calls.callWith_builtin rfl (PySem.evalArgs_none (hm pins s1 σ H1 x [] v [] Q I1 r1 .nil q1))⟩
theorem pe_bm (pa : PlainAttrs T) (slot : Slot T name id) (hty : typeOf (.builtin id) = pure (.type "method_descriptor")) (hm : MtR X id r) (ho : PE X o to) (ha : PA X (e :: es) t)
    (hbase : attributeBase o name X.env (eval o X.env) = eval o X.env := by rfl)
    (hfew : ((backTo cpos (starEach (e :: es) X.env)).all (fun x => !x.1) && (backToKw cpos (keywordEach [] X.env)).all (fun x => x.1.isSome)
      && decide ((e :: es).length + ([] : List Keyword).length + (if ([] : List Keyword).isEmpty then 0 else 1) < 30)) = true := by rfl)
    (hline : (apos.endLine == cpos.line) = true := by rfl) (hs : starEach (e :: es) X.env = (false, eval e X.env) :: starEach es X.env := by rfl) (hplain : (backTo cpos (starEach es X.env)).any (·.1) = false := by rfl) :
    PE X (.Call (.Attribute o name apos) (e :: es) [] cpos) (tBM X.K T r to t) := by
  intro pins s σ H Q I h
  refine wpAny_Call_method_late hbase hfew hline rfl (thn (ho pins s σ H _ I h) fun v s1 ⟨x, H1, I1, r1, ty, q1⟩ => ?_)
  obtain ⟨h1, h2⟩ := tyV_is I1 r1 ty
  refine ⟨T, id, pa, slot, hty, h1, h2, ?_⟩
  have hA := ha cpos pins s1 σ H1 _ I1 q1
  rw [hs] at hA ⊢
  refine Calls.callWith_builtin (by show (false || (backTo cpos (starEach es X.env)).any (·.1)) = false; rw [hplain] <;> rfl) (Calls.evalArgs_plain ?_)
  exact thn hA fun us s2 ⟨vs, H2, I2, r2, q2⟩ => hm pins s2 σ H2 x vs v us Q I2 r1 r2 q2
end
end L2

namespace L2
open PySem PySem.Spec PyProof.Rows

noncomputable def MtM (X : Cx) (id : String) (r : V → List V → Hp → VK → Prop) : Prop :=
  ∀ (pins : List (Addr × Obj)) (s : Shared) (σ : St) (H : Hp) (x : V) (xs : List V) (v : Value) (us : List Value) (Q : VK), Inv X pins σ H s → RelV x v → Vals xs us → r x xs H Q →
    wpAny (model X.prog X.w) X.A (call (.builtin id) (v :: us)) (EP X pins σ Q) X.xe s

theorem Vals.one : ∀ {x : V} {us : List Value}, Vals [x] us → ∃ u, us = [u] ∧ RelV x u
  | _, _, .cons r .nil => ⟨_, rfl, r⟩
theorem Vals.two : ∀ {x y : V} {us : List Value}, Vals [x, y] us → ∃ u v, us = [u, v] ∧ RelV x u ∧ RelV y v
  | _, _, _, .cons r (.cons q .nil) => ⟨_, _, rfl, r, q⟩
theorem Vals.zero : ∀ {us : List Value}, Vals [] us → us = []
  | _, .nil => rfl
theorem Vals.eraseIdx : ∀ {xs : List V} {us : List Value} (i : Nat), Vals xs us → Vals (xs.eraseIdx i) (us.eraseIdx i)
  | _, _, _, .nil => .nil
  | _, _, 0, .cons _ t => t
  | _, _, i + 1, .cons r t => .cons r (Vals.eraseIdx i t)
theorem Vals.reverse {xs : List V} {us : List Value} (h : Vals xs us) : Vals xs.reverse us.reverse := by
  induction h with
  | nil => exact .nil
  | cons r t ih => rw [List.reverse_cons, List.reverse_cons]; exact Vals.append ih (.cons r .nil)
theorem Vals.rep {xs : List V} {us : List Value} (h : Vals xs us) : ∀ k : Nat, Vals (List.replicate k xs).flatten (List.replicate k us).flatten
  | 0 => .nil
  | k + 1 => by
    rw [List.replicate_succ, List.replicate_succ, List.flatten_cons, List.flatten_cons]
    exact Vals.append h (Vals.rep h k)
theorem len_erase {α : Type} : ∀ (l : List α) (i : Nat), (l.eraseIdx i).length ≤ l.length
  | [], _ => Nat.le_refl _
  | _ :: _, 0 => Nat.le_succ _
  | _ :: r, i + 1 => Nat.succ_le_succ (len_erase r i)
theorem foldl_rep (its : List Value) : ∀ (k : Nat) (acc : List Value),
    List.foldl (fun x1 x2 => x1 ++ x2) acc.toArray (List.replicate k its.toArray) = (acc ++ (List.replicate k its).flatten).toArray
  | 0, acc => by simp
  | k + 1, acc => by
    have e : acc.toArray ++ its.toArray = (acc ++ its).toArray := by simp
    have e2 : (acc ++ its) ++ (List.replicate k its).flatten = acc ++ (List.replicate (k + 1) its).flatten := by
      rw [List.replicate_succ, List.flatten_cons, List.append_assoc]
    rw [← e2, ← foldl_rep its k (acc ++ its), ← e, List.replicate_succ, List.foldl_cons]

section
variable {X : Cx} {pins : List (Addr × Obj)} {σ : St} {H : Hp} {s : Shared} {l b : Addr} {xs ys zs : List V}

theorem Inv.lset {its its' : List Value} {n : Nat} {f : Array Value → Array Value} {t' : Nat} (I : Inv X pins σ H s) (hH : H l = some (.lst xs))
    (e : s.heap.get? l = some { cls := .type "list", data := .seq its.toArray n }) (hf : f its.toArray = its'.toArray) (hv : Vals ys its') (hz : ys.length ≤ sizeLine) :
    Inv X pins σ (upd H l (.lst ys)) { s with heap := s.heap.update l (Obj.mapSeq f), toks := t' } := by
  have q := PySem.IsL.update e f
  rw [hf] at q
  refine I.write (x := l) (e := l) (by rw [hH]; exact trivial) (.inl rfl) (fun b' u hb hu => (Heap.get?_update_other s.heap (Obj.mapSeq f) (Ne.symm hb)).trans hu) ⟨_, q⟩ ?_
  exact ⟨hz, its', _, hv, q⟩
theorem Inv.lnew {its : List Value} {t' : Nat} (I : Inv X pins σ H s) (hv : Vals ys its) (hz : ys.length ≤ sizeLine) :
    Inv X pins σ (upd H s.heap.objs.size (.lst ys)) { s with heap := s.heap.push { cls := .type "list", data := .seq its.toArray }, toks := t' } :=
  I.laid (fun _ _ q => Heap.get?_push_of_some _ q) (Nat.le_refl _) ⟨hz, its, 0, hv, Heap.get?_push_size _ rfl⟩
theorem Inv.fresh (I : Inv X pins σ H s) : H s.heap.objs.size = none := I.hok.fresh (Nat.le_refl _)
theorem Inv.lstM (I : Inv X pins σ H s) (hH : H l = some (.lst xs)) : xs.length ≤ sizeLine ∧ ∃ (its : List Value) (n : Nat), Vals xs its ∧ xs.length = its.length ∧ s.heap.get? l = some { cls := .type "list", data := .seq its.toArray n } := by
  obtain ⟨z, its, n, r, e⟩ := I.hok l _ hH
  exact ⟨z, its, n, r, r.length, e⟩

theorem notLongL {n : Nat} (h : n ≤ sizeLine) : Builtin.List.listTooLong n = false := by
  unfold Builtin.List.listTooLong
  exact decide_eq_false (by omega)
end

section
variable {X : Cx}

noncomputable def rAppend : V → List V → Hp → VK → Prop := fun x vs H Q => ∃ l xs y, x = .ref l ∧ vs = [y] ∧ H l = some (.lst xs) ∧ xs.length < sizeLine ∧ Q .non (upd H l (.lst (xs ++ [y])))
theorem mt_append : MtM X "list.append" rAppend := by
  intro pins s σ H x vs v us Q I rx rv h
  obtain ⟨l, xs, y, rfl, rfl, hH, hz, q⟩ := h
  cases rx
  obtain ⟨u, rfl, ru⟩ := rv.one
  obtain ⟨z, its, n, r, hl, e⟩ := I.lstM hH
  refine call_meets F.slot_list_append ⟨_, e, rfl⟩ F.entry_list_append (F.args_list_append_2 _ _) (PySem.list_append l its.toArray n u (by rw [List.size_toArray]; omega)) ⟨e, ?_⟩
  refine ⟨.non, _, I.lset (its' := its ++ [u]) hH e (by simp) (r.append (.cons ru .nil)) ?_, rfl, q⟩
  rw [List.length_append, List.length_singleton]
  omega

noncomputable def rExtend : V → List V → Hp → VK → Prop := fun x vs H Q => ∃ l b xs zs, x = .ref l ∧ vs = [.ref b] ∧ H l = some (.lst xs) ∧ H b = some (.lst zs) ∧ xs.length + zs.length ≤ sizeLine ∧ Q .non (upd H l (.lst (xs ++ zs)))
theorem mt_extend : MtM X "list.extend" rExtend := by
  intro pins s σ H x vs v us Q I rx rv h
  obtain ⟨l, b, xs, zs, rfl, rfl, hH, hB, hz, q⟩ := h
  cases rx
  obtain ⟨u, rfl, ru⟩ := rv.one
  cases ru
  obtain ⟨z, its, n, r, hl, e⟩ := I.lstM hH
  obtain ⟨z2, its2, n2, r2, hl2, e2⟩ := I.lstM hB
  have hsz : its.toArray.size + its2.toArray.size ≤ sizeLine := by rw [List.size_toArray, List.size_toArray]; omega
  have hlong : ¬ (!its.toArray.isEmpty && Builtin.List.listTooLong (its.toArray.size + its2.toArray.size)) = true := by
    rw [notLongL hsz, Bool.and_false]
    exact Bool.false_ne_true
  refine call_meets F.slot_list_extend ⟨_, e, rfl⟩ F.entry_list_extend (F.args_list_extend_2 _ _)
    (AutoSeq1.list_extend_list_list_0 l its.toArray n b its2.toArray n2 hlong (by rw [List.size_toArray]; omega) (by omega)) ⟨e, e2, ?_⟩
  refine ⟨.non, _, I.lset (its' := its ++ its2) hH e (by simp) (r.append r2) ?_, rfl, q⟩
  rw [List.length_append]
  omega

noncomputable def rPopAt : V → List V → Hp → VK → Prop := fun x vs H Q => ∃ l xs i k y, x = .ref l ∧ vs = [.int i] ∧ H l = some (.lst xs) ∧ -(2 ^ 63) ≤ i ∧ i < 2 ^ 63 ∧ seqIndex? i xs.length = some k ∧ xs[k]? = some y ∧ Q y (upd H l (.lst (xs.eraseIdx k)))
theorem mt_popAt : MtM X "list.pop" rPopAt := by
  intro pins s σ H x vs v us Q I rx rv h
  obtain ⟨l, xs, i, k, y, rfl, rfl, hH, h1, h2, hk, hy, q⟩ := h
  cases rx
  obtain ⟨u, rfl, ru⟩ := rv.one
  obtain ⟨t, rfl⟩ := ru
  obtain ⟨z, its, n, r, hl, e⟩ := I.lstM hH
  obtain ⟨w, hw, rw'⟩ := r.get hy
  refine call_meets F.slot_list_pop ⟨_, e, rfl⟩ F.entry_list_pop (F.args_list_pop_2 _ _)
    (MeetsSeq.list_pop_at l its.toArray n i t k w (fitsIndex_both h1 h2) (by rw [List.size_toArray, ← hl]; exact hk) (by rw [← Array.getElem?_toList]; exact hw) (by rw [List.size_toArray]; omega)) ⟨e, ?_⟩
  refine ⟨y, _, I.lset (its' := its.eraseIdx k) hH e ?_ (r.eraseIdx k) ?_, rw', q⟩
  · show its.toArray.eraseIdxIfInBounds k = (its.eraseIdx k).toArray
    rw [List.eraseIdxIfInBounds_toArray]
  · have := len_erase xs k
    omega

noncomputable def rCat : R2 := fun x y H Q => ∃ l b xs zs, x = .ref l ∧ y = .ref b ∧ H l = some (.lst xs) ∧ H b = some (.lst zs) ∧ xs.length + zs.length ≤ sizeLine ∧ ∀ p, H p = none → Q (.ref p) (upd H p (.lst (xs ++ zs)))
theorem op_cat : OpR X (binaryOp .Add) rCat := by
  intro pins s σ H x y v u Q I rx ry h
  obtain ⟨l, b, xs, zs, rfl, rfl, hH, hB, hz, q⟩ := h
  cases rx
  cases ry
  obtain ⟨z, its, n, r, hl, e⟩ := I.lstM hH
  obtain ⟨z2, its2, n2, r2, hl2, e2⟩ := I.lstM hB
  refine PySem.P.add_list e e2 ?_ (by rw [List.size_toArray, List.size_toArray]; omega)
  have ea : its.toArray ++ its2.toArray = (its ++ its2).toArray := by simp
  rw [ea]
  exact ⟨.ref _, _, I.lnew (t' := s.toks) (r.append r2) (by rw [List.length_append]; omega), rfl, q _ I.fresh⟩
noncomputable def rRep : R2 := fun x y H Q => ∃ l k xs, x = .ref l ∧ y = .int k ∧ H l = some (.lst xs) ∧ -(2 ^ 63) ≤ k ∧ k < 2 ^ 63 ∧ xs.length * k.toNat ≤ sizeLine ∧
  ∀ p, H p = none → Q (.ref p) (upd H p (.lst (List.replicate k.toNat xs).flatten))
theorem len_rep {α : Type} (xs : List α) (k : Nat) : (List.replicate k xs).flatten.length = k * xs.length := by
  induction k with
  | zero => simp
  | succ k ih => rw [List.replicate_succ, List.flatten_cons, List.length_append, ih, Nat.succ_mul, Nat.add_comm]
theorem op_rep : OpR X (binaryOp .Mult) rRep := by
  intro pins s σ H x y v u Q I rx ry h
  obtain ⟨l, k, xs, rfl, rfl, hH, h1, h2, hz, q⟩ := h
  cases rx
  obtain ⟨t, rfl⟩ := ry
  obtain ⟨z, its, n, r, hl, e⟩ := I.lstM hH
  have hlen : its.toArray.size * k.toNat ≤ sizeLine := by rw [List.size_toArray, ← hl]; exact hz
  have hcap : ¬ its.toArray.size * k.toNat > (2 ^ 63 - 1) / 8 := by
    have : (sizeLine : Nat) ≤ (2 ^ 63 - 1) / 8 := by decide
    omega
  have hfit : ¬ (!Builtin.List.listFitsIndex k) = true := by
    rw [fitsIndex_both h1 h2]
    exact Bool.false_ne_true
  have hlong : ¬ Builtin.List.listTooLong (its.toArray.size * k.toNat) = true := by
    rw [notLongL hlen]
    exact Bool.false_ne_true
  have hnew : List.foldl (fun x1 x2 => x1 ++ x2) #[] (List.replicate (if its.toArray.isEmpty = true then 0 else k.toNat) its.toArray) = (List.replicate k.toNat its).flatten.toArray := by
    have f0 : ∀ m : Nat, List.foldl (fun x1 x2 => x1 ++ x2) #[] (List.replicate m its.toArray) = (List.replicate m its).flatten.toArray := fun m => by
      have := foldl_rep its m []
      rw [List.nil_append] at this
      exact this
    rw [f0]
    cases its with
    | nil => simp
    | cons a r' => rw [if_neg (by simp)]
  refine wpAny_binaryOp_repeat_ref (T := "list") (U := "int") (by decide) ⟨_, e, rfl⟩ (fun s' => typeIs_int s' k t) noFill_list_mul F.fills_int_mul F.slot_int_rmul repeat_list F.slot_int_index.lookup
    (call_meets F.slot_int_rmul (typeIs_int s k t) F.entry_int_rmul (F.args_int_rmul_2 _ _) (int___rmul___int_list k t l its.toArray n)
      ⟨e, rfl, ⟨_, e, rfl⟩, call_meets F.slot_list_mul ⟨_, e, rfl⟩ F.entry_list_mul (F.args_list_mul_2 _ _) (AutoListH.list___mul___list_int_3 l its.toArray n k t hfit hcap hlong) ⟨e, ?_⟩⟩)
  rw [hnew]
  exact ⟨.ref _, _, I.lnew (t' := s.toks) (r.rep k.toNat) (by rw [len_rep, Nat.mul_comm]; exact hz), rfl, q _ I.fresh⟩

end

section
variable {prog : Program} {w : World} {A : Around} {E : Value → Shared → Prop} {s : Shared}
end

section
variable {X : Cx}
end
end L2

namespace Att
open PySem PySem.W PySem.Calls PyProof.Rows

theorem ints_of_wellAll {P : Params} {h : Heap} : ∀ (ns : List Int) (vs : List Value), WellAll P h vs (ns.map WData.int) → IntsAre vs ns := by
  intro ns
  induction ns with
  | nil =>
    intro vs w
    rw [List.map_nil] at w
    cases w
    exact .nil
  | cons n ns ih =>
    intro vs w
    rw [List.map_cons] at w
    cases w with
    | cons a b =>
      cases a
      exact .cons _ _ (ih _ b)

theorem script_of {l : OpenLaw} {n : Nat} (hn : l.most = some n) {P : Params} {h : Heap} {args : List WData} {vals : List Value}
    (hpre : l.row.toRowW.claim.pre args = true) (hwl : WellAll P h vals args) :
    ∃ a vs ns, vals = [Value.ref a] ∧ args = [WData.list (ns.map WData.int)] ∧ h.get? a = some { cls := .type "list", data := .seq vs.toArray } ∧ IntsAre vs ns ∧ ns.length ≤ n := by
  have hsh : WShape.hasAll [] args [.list .int] = true := (pre_splitW hpre).1
  have hc : l.pre.holds [] { args := args } = true := (pre_splitW hpre).2
  obtain ⟨d, r, rfl, h1, h2⟩ := hasAllW_cons hsh
  obtain rfl := hasAllW_nil h2
  obtain ⟨xs, rfl, h3⟩ := hasW_list h1
  obtain ⟨ns, rfl⟩ := items_int h3
  have hlen : ns.length ≤ n := by
    unfold OpenLaw.pre at hc
    have h4 : (WTm.not (.lt (.lit (.int (n : Int))) (.len (.arg 0)))).holds [] { args := [.list (ns.map .int)] } = true := by
      have h4 := (holds_andW hc).1
      rw [hn] at h4
      exact h4
    have h5 := condW_of h4 (w_not (w_lt w_lit (w_len_list (w_arg rfl))))
    rw [List.length_map] at h5
    refine Nat.le_of_not_lt fun q => ?_
    have q' : (n : Int) < ((ns.length : Nat) : Int) := by omega
    first
      | (rw [decide_eq_true q'] at h5; exact absurd h5 (by decide))
      | (simp at h5; omega)
  cases hwl with
  | cons w1 w2 =>
    cases w2
    cases w1 with
    | list ho hall => exact ⟨_, _, ns, rfl, rfl, ho, ints_of_wellAll ns _ hall, hlen⟩

theorem post_true (l : OpenLaw) (args : List WData) : l.row.toRowW.claim.post args (.bool true) args = true :=
  postW_of (r := l.row.toRowW) (X := (true == true))
    (show WShape.has [] (.bool true) .bool = true by first | rfl | decide | simp [WShape.has, WShape.arms, WShape.armsAll])
    (show (WTm.eq .res (.lit (.bool true))).value [] { args := args, res := some (.bool true), after := args } = some (.bool (true == true)) from w_eq_bool (w_res rfl) w_lit) rfl

theorem attach_call {l : OpenLaw} {n : Nat} {q : Program} {loose : List Str} {XP : (Str → Option Value) → Heap → Prop} {YP : World → Heap → Prop} {d : DefRec}
    (hn : l.most = some n) (hdf : d.params.defaults = [])
    (call : ∀ (w : World) (s₀ s₁ : Shared) (mg mb : Str → Option Value) (fa : Addr) (o : Obj) (pm cd doc : Value) (a : Addr) (vs : List Value) (ns : List Int),
      Ground q loose [] XP w s₀ mg mb s₁.heap → YP w s₁.heap →
      s₁.heap.get? fa = some o → o.data = .func (docDef d.name d.params d.body d.scope pm cd doc) → s₁.heap.CodeRec cd d.name → mg d.name = some (.ref fa) →
      s₁.heap.get? a = some { cls := .type "list", data := .seq vs.toArray } → IntsAre vs ns → ns.length ≤ n → s₁.gens = #[] →
      codeAny (model l.prog w) callerA (.call (.ref fa) ⟨[.ref a], []⟩) (fun r s' => r = .ok (.ret (.bool true)) ∧ OldK s₁.heap s'.heap ∧ s'.os = s₁.os ∧ AllBare s'.gens) s₁) :
    WalkO q loose XP YP l.row.toRowW d [] (fun f vs => PySem.call f vs) := by
  intro w s₀ s₁ mg mb G Y fa o pm cd doc dV kV ho hd hcd hD hmg hg args vals as hpre hlay hrd hwl hlo
  obtain rfl : dV = .none := Dflts.none hD hdf
  obtain rfl : kV = .none := Dflts.noKw hD
  obtain ⟨a, vs, ns, rfl, rfl, hobj, hints, hlen⟩ := script_of hn hpre hwl
  refine enter_call (codeAny_mono (call w s₀ s₁ mg mb fa o pm cd doc a vs ns G Y ho (fd_plain hd) hcd hmg hobj hints hlen hg) fun r s' hq => ?_)
  obtain ⟨rfl, h2, h3, h4⟩ := hq
  exact ⟨.inl ⟨.bool true, .bool true, [], rfl, fun _ => rfl, .bool true, post_true l _, fun _ => ⟨List.Pairwise.nil, fun _ hm => (nomatch hm)⟩⟩, h2, h3, h4⟩

section
variable {prog : Program} {w : World} {A : Around} {E : Value → Shared → Prop} {s : Shared} {K : Frag}

end
end Att

namespace L2
open PySem PySem.Spec PyProof.Rows

theorem vals_ints : ∀ {vs : List Value} {ns : List Int}, IntsAre vs ns → Vals (ns.map V.int) vs
  | _, _, .nil => .nil
  | _, _, .cons n t h => .cons ⟨t, rfl⟩ (vals_ints h)

noncomputable def Only (H : Hp) : Prop := ∀ b, H b = none ∨ ∃ o xs, H b = some (.frz o (.lst xs))

theorem law_call {P : Program} {w : World} {K : PySem.W.Frag} {mg mb : Str → Option Value} {CX : CXT} {k : Nat} {fa a : Addr} {fd : FuncData} {x : Str} {sp : Sp} {s₁ : Shared} {vs : List Value} {ns : List Int}
    (KX : K.In s₁.heap) (hns : s₁.heap.Ns mainGlobals mg) (hb : s₁.heap.Ns builtinsNs mb) (hbb : ∀ x : Str, x ≠ "__name__" → mb x = bootBuiltins x) (hlim : s₁.heap.NoLimit) (hg : s₁.gens = #[])
    (ha : s₁.heap.get? a = some { cls := .type "list", data := .seq vs.toArray }) (hi : IntsAre vs ns) (hl : ns.length ≤ sizeLine) (hr : Room k callerA)
    (F : ∀ base : Heap, K.In base → base.Ns mainGlobals mg → FnOk P w K mg base CX k fa fd [x] sp) (hbind : ∀ (s : Shared) (u : Value), BindsTo s fd ⟨[u], []⟩ [(x, u)])
    (hsp : ∀ H : Hp, Only H → SqL K H a (ns.map V.int) → sp [.ref a] H (fun v _ => v = .bl true) fun _ _ _ => False)
    (hCX : ∀ H e s', CX [] H s₁ (fun _ _ _ => False) e s' → False) :
    codeAny (model P w) callerA (.call (.ref fa) ⟨[.ref a], []⟩) (fun r s' => r = .ok (.ret (.bool true)) ∧ OldK s₁.heap s'.heap ∧ s'.os = s₁.os ∧ AllBare s'.gens) s₁ := by
  have rv := vals_ints hi
  have lenV := hi.length
  -- from an abstract heap in which nothing but the script may be tracked
  have core : ∀ H : Hp, Only H → SqL K H a (ns.map V.int) → HOk P w H s₁.heap → (∀ b, H b ≠ none → b = a) → (H a ≠ none → K.lookup a = none) →
      codeAny (model P w) callerA (.call (.ref fa) ⟨[.ref a], []⟩) (fun r s' => r = .ok (.ret (.bool true)) ∧ OldK s₁.heap s'.heap ∧ s'.os = s₁.os ∧ AllBare s'.gens) s₁ := by
    intro H hO hS hok hA hK
    have base_of : ∀ {b : Addr} {o : Obj}, s₁.heap.get? b = some o → H b = none → (hidT s₁.heap H).get? b = some o := fun e n => hidT_get e n
    have noA : ∀ {b : Addr} {o : Obj} {es : Array DictEntry} {ep : Nat}, s₁.heap.get? b = some o → o.data = .dict es ep → H b = none := fun {b o es ep} e d => by
      cases q : H b with
      | none => rfl
      | some u =>
        have e' : b = a := hA b (by rw [q]; simp)
        subst e'
        rw [ha] at e; cases e
        have d' : Data.seq vs.toArray _ = Data.dict es ep := d
        cases d'
    have nsK : ∀ {b : Addr} {m : Str → Option Value}, s₁.heap.Ns b m → (hidT s₁.heap H).Ns b m := fun {b m} ⟨o, es, ep, e, d, r⟩ => ⟨o, es, ep, base_of e (noA e d), d, r⟩
    have hKb : K.In (hidT s₁.heap H) := fun b o e => base_of (KX b o e) (by
      cases q : H b with
      | none => rfl
      | some u =>
        have e' : b = a := hA b (by rw [q]; simp)
        subst e'
        rw [hK (by rw [q]; simp)] at e; cases e)
    have hM : Mod K mg (hidT s₁.heap H) := ⟨hKb, nsK hns, ⟨mb, nsK hb, hbb⟩, let ⟨mc, h1, h2⟩ := hlim; ⟨mc, nsK h1, h2⟩⟩
    have e0 : Env0 P w K mg (hidT s₁.heap H) callerA [] s₁ H := ⟨rfl, hM, fun b o e => of_hidT e, Nat.le_of_eq (hidT_size _ _), trivial, fun b hb => absurd (show b ∈ ([] : List Addr) from hb) (by simp), hok, .of_eq hg⟩
    refine codeAny_mono ((F _ hKb (nsK hns)).run callerA [] s₁ H ⟨[.ref a], []⟩ [.ref a] [.ref a] _ _ hr e0 (hbind s₁ (.ref a)) (.cons rfl .nil) (hsp H hO hS)) fun r s' h => ?_
    cases r with
    | error e => exact (hCX H e s' h).elim
    | ok fl =>
      cases fl with
      | next => exact False.elim h
      | brk => exact False.elim h
      | cont => exact False.elim h
      | ret u =>
        obtain ⟨v, H', os, bare, un, hok', r', q⟩ := h
        have q' : v = .bl true := q
        subst q'
        obtain rfl : u = Value.bool true := r'
        refine ⟨rfl, OldK.of_keep fun b o e => ?_, os, bare⟩
        cases q : H b with
        | none => exact un.keep b o e q (by intro z; exact absurd (show b ∈ ([] : List Addr) from z) (by simp)) (by simp)
        | some u =>
          rcases hO b with z | ⟨ob, xs, z⟩
          · rw [q] at z; cases z
          · have z2 := un.frzs b ob _ z
            obtain ⟨e1, _⟩ := hok b _ z
            obtain ⟨e2, _⟩ := hok' b _ z2
            rw [e] at e1; cases e1
            exact e2
  cases hk : K.lookup a with
  | some o =>
    -- the script is one of the module's own objects
    have e := KX a o hk
    rw [ha] at e
    cases e
    refine core (fun _ => none) (fun _ => .inl rfl) (.inr ⟨_, vs.toArray, _, hk, rfl, rfl, rfl, by rw [List.size_toArray, lenV]; exact hl, by simpa using rv⟩) (fun b u z => by have z' : (none : Option HO) = some u := z; cases z') (fun b z => absurd rfl z) fun z => absurd rfl z
  | none =>
    refine core (fun b => if b = a then some (.frz { cls := .type "list", data := .seq vs.toArray } (.lst (ns.map V.int))) else none) (fun b => ?_) (.inl (.inr ⟨{ cls := .type "list", data := .seq vs.toArray }, if_pos rfl⟩)) (fun b u z => ?_) (fun b z => ?_) fun _ => hk
    · by_cases hb : b = a
      · exact .inr ⟨_, _, if_pos hb⟩
      · exact .inl (if_neg hb)
    · by_cases hb : b = a
      · have z' := (if_pos hb).symm.trans z
        cases z'
        subst hb
        exact ⟨ha, by rw [List.length_map]; exact hl, vs, _, rv, ha⟩
      · have z' := (if_neg hb).symm.trans z
        cases z'
    · by_cases hb : b = a
      · exact hb
      · exact absurd (if_neg hb) z
end L2

namespace L2
open PySem PySem.Spec PyProof.Rows

theorem walk_of {l : PySem.W.OpenLaw} {n k : Nat} {q : Program} {loose : List Str} {XP : (Str → Option Value) → Heap → Prop} {YP : World → Heap → Prop} {d : DefRec} {K : Params → PySem.W.Frag} {CX : World → CXT} {sp : World → Sp} {x : Str}
    (hn : l.most = some n) (hn2 : n ≤ sizeLine) (hdf : d.params.defaults = []) (hr : Room k callerA)
    (hY : ∀ (w : World) (h : Heap), YP w h → (K w.params).In h)
    (F : ∀ (w : World) (mg : Str → Option Value) (fa : Addr) (h : Heap), (K w.params).In h → h.Ns mainGlobals mg → mg d.name = some (.ref fa) →
      ∃ fd : FuncData, (∀ (s : Shared) (u : Value), BindsTo s fd ⟨[u], []⟩ [(x, u)]) ∧
        ∀ base : Heap, (K w.params).In base → base.Ns mainGlobals mg → FnOk l.prog w (K w.params) mg base (CX w) k fa fd [x] (sp w))
    (hsp : ∀ (w : World) (H : Hp) (a : Addr) (ns : List Int), ns.length ≤ n → Only H → SqL (K w.params) H a (ns.map V.int) → sp w [.ref a] H (fun v _ => v = .bl true) fun _ _ _ => False)
    (hCX : ∀ (w : World) (H : Hp) (s : Shared) (e : Value) (s' : Shared), CX w [] H s (fun _ _ _ => False) e s' → False) :
    PySem.W.WalkO q loose XP YP l.row.toRowW d [] (fun f vs => PySem.call f vs) := by
  refine Att.attach_call hn hdf fun w s₀ s₁ mg mb fa o pm cd doc a vs ns G Y ho hd hcd hmg hobj hints hlen hg => ?_
  have KX := hY w _ Y
  obtain ⟨fd, hb, hF⟩ := F w mg fa _ KX G.T.g hmg
  exact law_call KX G.T.g G.T.b G.T.builtins G.T.nolimit hg hobj hints (Nat.le_trans hlen hn2) hr hF hb (fun H hO hS => hsp w H a ns hlen hO hS) fun H e s' => hCX w H s₁ e s'
end L2


namespace L2
open PySem PySem.Spec PyProof.Rows

noncomputable def defArgs (s : Stmt) : Arguments := match s with
  | .FunctionDef _ a _ _ _ _ _ _ _ _ => a
  | _ => { posonlyargs := [], args := [], vararg := none, kwonlyargs := [], kw_defaults := [], kwarg := none, defaults := [] }
noncomputable def defBody (s : Stmt) : List Stmt := match s with
  | .FunctionDef _ _ b _ _ _ _ _ _ _ => b
  | _ => []
noncomputable def defScope (s : Stmt) : Scope := match s with
  | .FunctionDef _ _ _ _ _ _ sc _ _ _ => sc
  | _ => { kind := .function, names := [], isGenerator := false, isCoroutine := false }

noncomputable abbrev CX0 : CXT := fun _ _ _ _ _ _ => False
noncomputable abbrev E0 : XK := fun _ _ _ => False
theorem pass0 {X : Cx} : Passes CX0 X E0 := fun _ _ _ _ _ _ _ h => h.elim

structure Fun (K : PySem.W.Frag) (x qual : Str) (st : Stmt) (f : Addr) (fd : FuncData) : Prop where
  ex : ∃ (oc : Value) (od : Option Addr) (kV doc pm : Value) (an : Option Addr) (cdv ct : Value) (osl : Array (Option Value)),
    fd = PySem.W.fnOf x qual (defArgs st) (defBody st) (defScope st) .none kV doc pm an cdv ct ∧ K.lookup f = some ⟨oc, od, .func fd, osl⟩ ∧ PySem.W.codeIn K cdv qual = true
  kp : PySem.W.keepIn K (.ref f) = true
section
variable {P : Program} {w : World} {K : PySem.W.Frag} {mg : Str → Option Value} {base : Heap}
theorem Fun.ok {x qual : Str} {st : Stmt} {f : Addr} {fd : FuncData} {N ps : List Str} {k : Nat} {sp : Sp} (F : Fun K x qual st f fd) (S : FnScope N ps (defScope st)) (len : ∀ vs H Q E, sp vs H Q E → vs.length = ps.length)
    (hbody : ∀ (cdv : Value) (A : Around) (outer : List Env) (s : Shared) (H : Hp) (vs : List V) (Q : VK) (E : XK), Room k (A.deeper (envOfC qual (defScope st) s.heap.objs.size f cdv)) → sp vs H Q E →
      ∃ t, PSs (cxOf CX0 P w K mg base N qual (defScope st) f cdv A outer s H E).nox (defBody st) t ∧ t { nx := fun _ H' => Q .non H', rt := Q } (start N vs) H) : FnOk P w K mg base CX0 (k + 1) f fd ps sp := by
  obtain ⟨oc, od, kV, doc, pm, an, cdv, ct, osl, rfl, lk, hcd⟩ := F.ex
  refine fn_of lk hcd S len fun A outer s H vs Q E hr hsp => ?_
  obtain ⟨t, h, q⟩ := hbody cdv A outer s H vs Q E hr hsp
  exact ⟨t, h.nox, q⟩
theorem Fun.binds {x qual : Str} {st : Stmt} {f : Addr} {fd : FuncData} {ps : List Str} (F : Fun K x qual st f fd)
    (h : ∀ (kV doc pm : Value) (an : Option Addr) (cdv ct : Value) (us : List Value), us.length = ps.length → bindArgs (PySem.W.fnOf x qual (defArgs st) (defBody st) (defScope st) .none kV doc pm an cdv ct) ⟨us, []⟩ = pure (ps.zip us)) : Binds K fd ps [] := by
  obtain ⟨oc, od, kV, doc, pm, an, cdv, ct, osl, rfl, lk, hcd⟩ := F.ex
  exact .all (h kV doc pm an cdv ct)
theorem fun_mk {x qual : Str} {st : Stmt} {f : Addr} {oc : Value} {od an : Option Addr} {osl : Array (Option Value)} {kV doc pm cdv ct : Value} (l : K.lookup f = some ⟨oc, od, .func (PySem.W.fnOf x qual (defArgs st) (defBody st) (defScope st) .none kV doc pm an cdv ct), osl⟩)
    (c : PySem.W.codeIn K cdv qual = true) (k : PySem.W.keepIn K (.ref f) = true) : Fun K x qual st f (PySem.W.fnOf x qual (defArgs st) (defBody st) (defScope st) .none kV doc pm an cdv ct) := ⟨⟨oc, od, kV, doc, pm, an, cdv, ct, osl, rfl, l, c⟩, k⟩
end
section
variable {X : Cx}
theorem pv (i : Nat) {x : Str} {pos : Pos} (hN : X.N[i]? = some x := by rfl) (hv : Vis X.env.scope x := by first | exact Or.inl rfl | exact Or.inr (Or.inl rfl) | exact Or.inr (Or.inr rfl)) (hd : (x == ("__debug__" : Str)) = false := by decide)
    (hcd : (x == ("__classdict__" : Str)) = false := by decide) : PE X (.Name x pos) (tVar i) := pe_var hN hv hd hcd
end

theorem iteF {A B : Prop} (h : B) : if false = true then A else B := by
  rw [if_neg Bool.false_ne_true]
  exact h
theorem iteT {A B : Prop} (h : A) : if true = true then A else B := by
  rw [if_pos rfl]
  exact h
theorem ite2 {c A B : Prop} [Decidable c] (h1 : c → A) (h2 : ¬ c → B) : if c then A else B := by
  by_cases h : c
  · rw [if_pos h]
    exact h1 h
  · rw [if_neg h]
    exact h2 h
noncomputable def Same (H H' : Hp) : Prop := ∀ b o, H b = some o → H' b = some o
theorem Same.refl (H : Hp) : Same H H := fun _ _ h => h
theorem Same.trans {H H1 H2 : Hp} (a : Same H H1) (b : Same H1 H2) : Same H H2 := fun c o h => b c o (a c o h)
theorem Same.free {H H' : Hp} (e : Same H H') {l : Addr} (h : H' l = Option.none) : H l = Option.none := by
  cases q : H l with
  | none => rfl
  | some o =>
    rw [e l o q] at h
    cases h
theorem Same.seq {K : PySem.W.Frag} {H H' : Hp} {a : Addr} {xs : List V} (e : Same H H') (h : SqL K H a xs) : SqL K H' a xs := by
  rcases h with (h | ⟨o, h⟩) | h
  · exact .inl (.inl (e _ _ h))
  · exact .inl (.inr ⟨o, e _ _ h⟩)
  · exact .inr h

end L2

set_option linter.all false
set_option maxRecDepth 100000
namespace L2
open PySem PySem.Spec PyProof.Rows

noncomputable def closOf (cells : List (Str × Addr)) : List (Str × NameKind) → List (Str × Addr) → List (Str × Addr)
  | [], cs => cs
  | (n, k) :: r, cs => if k == .free then (match cells.lookup n with | some a => closOf cells r ((n, a) :: cs) | none => closOf cells r cs) else closOf cells r cs
noncomputable abbrev clOf (env : Env) (scope : Scope) : List (Str × Addr) := closOf env.cells scope.names []

theorem closFold {env : Env} : ∀ (names : List (Str × NameKind)) (cs : List (Str × Addr)), (∀ p ∈ names, p.2 = .free → ∃ c, env.cells.lookup p.1 = some c) →
    (forIn names cs fun x r => (if (x.2 == NameKind.free) = true then (do let a ← cellOf env x.1; pure (ForInStep.yield ((x.1, a) :: r))) else pure (ForInStep.yield r)) : Sem (List (Str × Addr))) = pure (closOf env.cells names cs)
  | [], cs, _ => by simp [closOf]
  | (n, k) :: r, cs, h => by
    have hr : ∀ p ∈ r, p.2 = .free → ∃ c, env.cells.lookup p.1 = some c := fun p hp => h p (List.mem_cons_of_mem _ hp)
    rw [List.forIn_cons]
    by_cases hk : k = .free
    · subst hk
      obtain ⟨c, e⟩ := h (n, .free) List.mem_cons_self rfl
      have ih := closFold r ((n, c) :: cs) hr
      simp only [beq_self_eq_true, if_true, cellOf, e, pure_bind, closOf]
      exact ih
    · have hb : (k == NameKind.free) = false := by simpa using hk
      have ih := closFold r cs hr
      simp only [hb, Bool.false_eq_true, if_false, pure_bind, closOf]
      exact ih
theorem closureFor_of {scope : Scope} {env : Env} (h : ∀ p ∈ scope.names, p.2 = .free → ∃ c, env.cells.lookup p.1 = some c) : closureFor scope env = pure (clOf env scope) := by
  have e := closFold (env := env) scope.names [] h
  unfold closureFor
  simp only [bind_pure]
  exact e
theorem closOf_sub {cells : List (Str × Addr)} : ∀ (names : List (Str × NameKind)) (cs : List (Str × Addr)), (∀ p ∈ cs, cells.lookup p.1 = some p.2) → ∀ p ∈ closOf cells names cs, cells.lookup p.1 = some p.2
  | [], _, h => h
  | (n, k) :: r, cs, h => by
    unfold closOf
    split
    · cases e : cells.lookup n with
      | none => exact closOf_sub r cs h
      | some a =>
        refine closOf_sub r _ fun p hp => ?_
        rcases List.mem_cons.mp hp with rfl | hp
        · exact e
        · exact h p hp
    · exact closOf_sub r cs h
theorem closOf_old {cells : List (Str × Addr)} {x : Str} : ∀ (names : List (Str × NameKind)) (cs : List (Str × Addr)), (cs.lookup x).isSome = true → ((closOf cells names cs).lookup x).isSome = true
  | [], _, h => h
  | (n, k) :: r, cs, h => by
    unfold closOf
    split
    · cases e : cells.lookup n with
      | none => exact closOf_old r cs h
      | some a =>
        refine closOf_old r _ ?_
        rw [List.lookup_cons]
        split
        · rfl
        · exact h
    · exact closOf_old r cs h
theorem closOf_has {cells : List (Str × Addr)} {x : Str} {c : Addr} (e : cells.lookup x = some c) : ∀ (names : List (Str × NameKind)) (cs : List (Str × Addr)), (x, NameKind.free) ∈ names → ((closOf cells names cs).lookup x).isSome = true
  | [], _, h => nomatch h
  | (n, k) :: r, cs, h => by
    unfold closOf
    rcases List.mem_cons.mp h with h | h
    · cases h
      rw [if_pos (by rfl), e]
      exact closOf_old r _ (by simp)
    · split
      · cases e' : cells.lookup n with
        | none => exact closOf_has e r cs h
        | some a => exact closOf_has e r _ h
      · exact closOf_has e r cs h
theorem clOf_sub {env : Env} {scope : Scope} {x : Str} {c : Addr} (h : (clOf env scope).lookup x = some c) : env.cells.lookup x = some c :=
  closOf_sub scope.names [] (fun _ z => nomatch z) (x, c) (PySem.mem_of_lookup h)
theorem clOf_get {env : Env} {scope : Scope} {x : Str} {c : Addr} (e : env.cells.lookup x = some c) (h : (x, NameKind.free) ∈ scope.names) : (clOf env scope).lookup x = some c := by
  obtain ⟨d, q⟩ := Option.isSome_iff_exists.mp (closOf_has e scope.names [] h)
  have := clOf_sub (scope := scope) q
  rw [e] at this
  cases this
  exact q
theorem lookup_relabel_free {env : Env} : ∀ {names : List (Str × NameKind)} {x : Str}, names.lookup x = some .free →
    (names.map fun (n, k) => if (k == NameKind.free && env.scope.kind == .function && env.kindOf n == some .cell) then (n, NameKind.cell) else (n, k)).lookup x = some .cell ∨
    (names.map fun (n, k) => if (k == NameKind.free && env.scope.kind == .function && env.kindOf n == some .cell) then (n, NameKind.cell) else (n, k)).lookup x = some .free
  | [], _, h => by simp at h
  | (n, k) :: r, x, h => by
    have ih := @lookup_relabel_free env r x
    show List.lookup x ((if (k == NameKind.free && env.scope.kind == .function && env.kindOf n == some .cell) = true then (n, NameKind.cell) else (n, k)) :: _) = _ ∨ List.lookup x ((if (k == NameKind.free && env.scope.kind == .function && env.kindOf n == some .cell) = true then (n, NameKind.cell) else (n, k)) :: _) = _
    cases hx : x == n with
    | true =>
      simp only [List.lookup_cons, hx] at h
      cases h
      by_cases hc : (NameKind.free == NameKind.free && env.scope.kind == .function && env.kindOf n == some .cell) = true
      · rw [if_pos hc]; simp [List.lookup_cons, hx]
      · rw [if_neg hc]; simp [List.lookup_cons, hx]
    | false =>
      simp only [List.lookup_cons, hx] at h
      by_cases hc : (k == NameKind.free && env.scope.kind == .function && env.kindOf n == some .cell) = true
      · rw [if_pos hc]; simp only [List.lookup_cons, hx]; exact ih h
      · rw [if_neg hc]; simp only [List.lookup_cons, hx]; exact ih h
theorem lookup_relabel_back {env : Env} : ∀ {names : List (Str × NameKind)} {x : Str}, (∀ y ∈ names, y.2 ≠ .cell) →
    ((names.map fun (n, k) => if (k == NameKind.free && env.scope.kind == .function && env.kindOf n == some .cell) then (n, NameKind.cell) else (n, k)).lookup x = some .cell ∨
    (names.map fun (n, k) => if (k == NameKind.free && env.scope.kind == .function && env.kindOf n == some .cell) then (n, NameKind.cell) else (n, k)).lookup x = some .free) → (x, NameKind.free) ∈ names
  | [], _, _, h => by simp at h
  | (n, k) :: r, x, hc, h => by
    have ih := @lookup_relabel_back env r x fun y hy => hc y (List.mem_cons_of_mem _ hy)
    have hk : k ≠ .cell := hc (n, k) List.mem_cons_self
    have h' : List.lookup x ((if (k == NameKind.free && env.scope.kind == .function && env.kindOf n == some .cell) = true then (n, NameKind.cell) else (n, k)) :: (r.map fun (n, k) => if (k == NameKind.free && env.scope.kind == .function && env.kindOf n == some .cell) then (n, NameKind.cell) else (n, k))) = some .cell ∨
      List.lookup x ((if (k == NameKind.free && env.scope.kind == .function && env.kindOf n == some .cell) = true then (n, NameKind.cell) else (n, k)) :: (r.map fun (n, k) => if (k == NameKind.free && env.scope.kind == .function && env.kindOf n == some .cell) then (n, NameKind.cell) else (n, k))) = some .free := h
    by_cases hq : (k == NameKind.free && env.scope.kind == .function && env.kindOf n == some .cell) = true
    · rw [if_pos hq] at h'
      have hf : k = .free := by
        have := hq
        simp only [Bool.and_eq_true] at this
        simpa using this.1.1
      cases hx : x == n with
      | true =>
        have : x = n := by simpa using hx
        subst this
        rw [hf]
        exact List.mem_cons_self
      | false =>
        simp only [List.lookup_cons, hx] at h'
        exact List.mem_cons_of_mem _ (ih h')
    · rw [if_neg hq] at h'
      cases hx : x == n with
      | true =>
        simp only [List.lookup_cons, hx, Option.some.injEq] at h'
        have : x = n := by simpa using hx
        subst this
        rcases h' with z | z
        · exact absurd z hk
        · rw [z]; exact List.mem_cons_self
      | false =>
        simp only [List.lookup_cons, hx] at h'
        exact List.mem_cons_of_mem _ (ih h')

noncomputable def capOk (N : List Str) (sc scope : Scope) : List Str → List (Option Nat) → Bool
  | [], [] => true
  | _ :: N', none :: src => capOk N sc scope N' src
  | x :: N', some j :: src => decide (N[j]? = some x) && (decide (sc.names.lookup x = some .cell) || decide (sc.names.lookup x = some .free)) && decide (scope.names.lookup x = some .free) && capOk N sc scope N' src
  | _, _ => false
noncomputable def compOk (N : List Str) (sc scope : Scope) (N' : List Str) (src : List (Option Nat)) : Bool :=
  scope.names.all (fun y => decide (y.2 ≠ .cell)) && decide (scope.kind = .function) && scope.names.all (fun y => decide (y.2 = .local → scope.names.lookup y.1 = some .local)) &&
  scope.names.all (fun y => decide (y.2 = .free → sc.names.lookup y.1 = some .cell ∨ sc.names.lookup y.1 = some .free)) && decide (src.length = N'.length) && capOk N sc scope N' src
structure CompOk (N : List Str) (sc scope : Scope) (N' : List Str) (src : List (Option Nat)) : Prop where
  cell : ∀ y ∈ scope.names, y.2 ≠ .cell
  kind : scope.kind = .function
  names : ∀ y ∈ scope.names, y.2 = .local → scope.names.lookup y.1 = some .local
  free : ∀ y ∈ scope.names, y.2 = .free → sc.names.lookup y.1 = some .cell ∨ sc.names.lookup y.1 = some .free
  len : src.length = N'.length
  cap : ∀ (i j : Nat) (x : Str), src[i]? = some (some j) → N'[i]? = some x → N[j]? = some x ∧ (sc.names.lookup x = some .cell ∨ sc.names.lookup x = some .free) ∧ scope.names.lookup x = some .free
theorem capOk_of {N : List Str} {sc scope : Scope} : ∀ {N' : List Str} {src : List (Option Nat)}, capOk N sc scope N' src = true → ∀ (i j : Nat) (x : Str), src[i]? = some (some j) → N'[i]? = some x →
    N[j]? = some x ∧ (sc.names.lookup x = some .cell ∨ sc.names.lookup x = some .free) ∧ scope.names.lookup x = some .free
  | [], [], _, i, j, x, h, _ => by simp at h
  | [], _ :: _, h, _, _, _, _, _ => by simp [capOk] at h
  | _ :: _, [], h, _, _, _, _, _ => by simp [capOk] at h
  | y :: N', none :: src, h, i, j, x, h1, h2 => by
    cases i with
    | zero => simp at h1
    | succ i => exact capOk_of (N' := N') (src := src) (by simpa [capOk] using h) i j x (by simpa using h1) (by simpa using h2)
  | y :: N', some k :: src, h, i, j, x, h1, h2 => by
    simp only [capOk, Bool.and_eq_true, Bool.or_eq_true, decide_eq_true_eq] at h
    cases i with
    | zero =>
      simp at h1 h2
      subst h1 h2
      exact ⟨h.1.1.1, h.1.1.2, h.1.2⟩
    | succ i => exact capOk_of (N' := N') (src := src) h.2 i j x (by simpa using h1) (by simpa using h2)
theorem compOk_of {N : List Str} {sc scope : Scope} {N' : List Str} {src : List (Option Nat)} (h : compOk N sc scope N' src = true) : CompOk N sc scope N' src := by
  simp only [compOk, Bool.and_eq_true, List.all_eq_true, decide_eq_true_eq] at h
  exact ⟨h.1.1.1.1.1, h.1.1.1.1.2, h.1.1.1.2, h.1.1.2, h.1.2, capOk_of h.2⟩

noncomputable def compCx (X : Cx) (scope : Scope) (N' : List Str) (C : Addr) (s : Shared) (H : Hp) (fp : List Addr) : Cx where
  prog := X.prog
  w := X.w
  K := X.K
  mg := X.mg
  base := X.base
  A := X.A
  N := N'
  s₀ := s
  H₀ := H
  env := compEnvC scope (clOf X.env scope) C X.env
  outer := X.stack
  stack := X.stack
  ex := fp
  fn := fun _ => false
  calm := X.calm
  pn := []
  xe := fun _ _ => False
noncomputable def capt (src : List (Option Nat)) (σ : St) : St := src.map fun o => o.bind fun j => (σ[j]?).getD none
noncomputable def Ext (σ σ' : St) : Prop := σ.length = σ'.length ∧ ∀ (i : Nat) v, σ[i]? = some (some v) → σ'[i]? = some (some v)

noncomputable def PTs (X : Cx) (ifs : List Expr) (t : TT) : Prop :=
  ∀ (pins : List (Addr × Obj)) (s : Shared) (σ : St) (H : Hp) (Q : Bool → Hp → Prop), Inv X pins σ H s → t σ H Q →
    wpAny (model X.prog X.w) X.A (forIn ifs true fun c r => if r = true then do let ok ← isTrue c X.env (eval c X.env); pure (ForInStep.yield ok) else pure (ForInStep.yield r)) (TP X pins σ Q) X.xe s
noncomputable def tTrue : TT := fun _ H Q => Q true H
theorem pts_nil {X : Cx} : PTs X [] tTrue := fun _ _ _ H _ I h => wpAny_tests_nil ⟨H, I, h⟩
theorem pts_one {X : Cx} {c : Expr} {t : TT} (h : PT X c t) : PTs X [c] t := fun pins s σ H Q I hw => wpAny_tests_one (h pins s σ H Q I hw)

noncomputable def CompW (J : It) (src : List (Option Nat)) (σ : St) (g : TG) (tc : TT) (te : TE) (Q : VK) (H1 : Hp) : Prop :=
  ∃ W : Nat → Nat → List V → Hp → Prop, (∃ m, W 0 m [] H1) ∧ ∀ i m acc H, W i m acc H → acc.length ≤ sizeLine ∧
    ((J.stop i H ∧ ∀ p, H p = none → Q (.ref p) (upd H p (.lst acc))) ∨
    (J.go i H ∧ ∃ (N1 : V → Hp → Prop) (N2 : Hp → Prop), (∀ y H4, N1 y H4 → ∃ m', m' < m ∧ W (i + 1) m' (acc ++ [y]) H4) ∧ (∀ H3, N2 H3 → ∃ m', m' < m ∧ W (i + 1) m' acc H3) ∧
      ∀ x H', J.yld i H x H' → g x (capt src σ) H' fun σ2 H2 => Ext (capt src σ) σ2 ∧ tc σ2 H2 fun b H3 => if b = true then te σ2 H3 N1 else N2 H3))
noncomputable def tComp (src : List (Option Nat)) (wi : TI) (g : TG) (tc : TT) (te : TE) : TE := fun σ H Q => wi σ H fun J H1 => CompW J src σ g tc te Q H1

section
variable {prog : Program} {w : World} {A : Around} {R : Result → Shared → Prop} {s : Shared}
theorem compLoop_nox {elt target iter : Expr} {ifs : List Expr} {scope : Scope} {pos : Pos} {it acc : Value} {env : Env} (I : Nat → Shared → Prop)
    (turn : ∀ n s, I n s → wpAny (model prog w) A (pyNext it) (fun r s₁ => match r with
      | none => R (.ok .next) s₁
      | some v => wpAny (model prog w) A (letOwnedTupleGo target it v) (fun _ s₁' => wpAny (model prog w) A (assign target env v) (fun _ s₂ =>
          wpAny (model prog w) A (forIn ifs true fun c r => if r = true then do let ok ← isTrue c env (eval c env); pure (ForInStep.yield ok) else pure (ForInStep.yield r)) (fun ok s₃ =>
            if ok = true then wpAny (model prog w) A (eval elt env) (fun x s₄ =>
              wpAny (model prog w) A (call (.builtin "list.append") [acc, x]) (fun _ s₅ => ∃ m, m < n ∧ I m s₅) (fun _ _ => False) s₄) (fun _ _ => False) s₃
            else ∃ m, m < n ∧ I m s₃) (fun _ _ => False) s₂) (fun _ _ => False) s₁') (fun _ _ => False) s₁) (fun _ _ => False) s)
    (n : Nat) (h : I n s) :
    codeAny (model prog w) A (.compLoop (.ListComp elt [⟨target, iter, ifs, 0⟩] scope pos) 0 it acc env) R s := by
  refine codeAny_loop rfl I (fun n s hI => ?_) n h
  show wpAny _ A ((compTurn (.ListComp elt [⟨target, iter, ifs, 0⟩] scope pos) 0 it acc env).onRaise (fun x => do noteFrame x env; theTreesLotGoes x)) _ _ s
  refine wpAny_noted ?_
  rw [compTurn_list]
  refine wpAny_bind (wpAny_standAt (wpAny_bind (wpAny_mono (turn n s hI) (fun r s₁ h₁ => ?_) fun _ _ h' => False.elim h')))
  cases r with
  | none => exact wpAny_pure h₁
  | some v =>
    refine wpAny_bind (wpAny_mono h₁ (fun _ s₁' h₁' => ?_) fun _ _ h' => False.elim h')
    refine wpAny_bind (wpAny_mono h₁' (fun _ s₂ h₂ => wpAny_bind (wpAny_mono h₂ (fun ok s₃ h₃ => ?_) fun _ _ h' => False.elim h')) fun _ _ h' => False.elim h')
    cases ok with
    | false => exact wpAny_pure ⟨rfl, h₃⟩
    | true =>
      exact wpAny_bind (wpAny_bind (wpAny_mono h₃ (fun x s₄ h₄ => wpAny_bind (wpAny_mono h₄ (fun _ s₅ h₅ => wpAny_pure (wpAny_pure ⟨rfl, h₅⟩)) fun _ _ h' => False.elim h')) fun _ _ h' => False.elim h'))
end

section
variable {X : Cx} {tg iter elt : Expr} {ifs : List Expr} {scope sc : Scope} {pos : Pos} {N N' : List Str} {src : List (Option Nat)} {wi : TI} {g : TG} {tc : TT} {te : TE}
theorem Inv.lst_made {pins : List (Addr × Obj)} {σ : St} {H : Hp} {h : Heap} {D : Addr} {acc : List V} {its : List Value} (P : Program) (w : World) (hok : HOk P w H h) (hn : H D = none) (hz : acc.length ≤ sizeLine) (r : Vals acc its) (e : h.PlainList D its.toArray) :
    HOk P w (upd H D (.lst acc)) h := fun b u q => by
  by_cases hb : b = D
  · subst hb
    rw [upd_same] at q
    cases q
    obtain ⟨n, e⟩ := e
    exact ⟨hz, its, n, r, e⟩
  · rw [upd_ne hb] at q
    exact (hok b u q).stay (fun c v _ q => q) (fun c q => by rw [upd_ne (ne_of_none q hn)]; exact q) fun c xs q => by rw [upd_ne (ne_of_none q hn)]; exact q

theorem comp_core (hc : X.calm = true) (hN : X.N = N) (hsc : X.env.scope = sc) (ok : CompOk N sc scope N' src)
    (hg : ∀ C s H fp, PG (compCx X scope N' C s H fp) tg g) (ht : ∀ C s H fp, PTs (compCx X scope N' C s H fp) ifs tc) (he : ∀ C s H fp, PE (compCx X scope N' C s H fp) elt te)
    {pins : List (Addr × Obj)} {σ : St} {H2 : Hp} {s₂ : Shared} {J : It} {it : Addr} {fp : List Addr} {tn : Nat → Heap → Prop} (I2 : Inv X pins σ H2 s₂) (T : Turn X.prog X.w X.K tg J fp it tn) (st2 : tn 0 s₂.heap) (f2 : ∀ b ∈ fp, FpOk X pins H2 b)
    {Q : VK} (hw : CompW J src σ g tc te Q H2) {E : Value → Shared → Prop} {RR : Value → Addr → Result → Shared → Prop}
    (fin : ∀ D C s' acc H' oC m, Inv X pins σ (upd H' D (.lst acc)) s' → Q (.ref D) (upd H' D (.lst acc)) → s'.heap.get? C = some oC → s'.heap.Ns C m → (∀ v, oC.data ≠ .cell v) → FpOk X pins (upd H' D (.lst acc)) C → RR (.ref D) C (.ok .next) s') :
    wpAny (model X.prog X.w) X.A (newList []) (fun acc s₃ => wpAny (model X.prog X.w) X.A (newFunctionEnv scope X.env.globals (clOf X.env scope) [] X.env.qual none .none (some X.env)) (fun cenv s₄ =>
      codeAny (model X.prog X.w) X.A (.compStart (.ListComp elt [⟨tg, iter, ifs, 0⟩] scope pos) 0 (.ref it) acc { cenv with scope := relabel scope X.env }) (RR acc cenv.locals) s₄) E s₃) E s₂ := by
  subst hN hsc
  refine wpAny_newObj_type (wpAny_newFunctionEnv ok.cell (by intro y hy; simp at hy) (fun h₁ hns₁ hsb₁ => ?_) ok.kind)
  dsimp only at hns₁ hsb₁ ⊢
  generalize hHp : s₂.heap.push { cls := .type "list", dict := none, data := .seq ([] : List Value).toArray } = Hp2 at hns₁ hsb₁ ⊢
  have hC : Hp2.objs.size = s₂.heap.objs.size + 1 := by rw [← hHp, Heap.size_push]
  have hDC : s₂.heap.objs.size ≠ Hp2.objs.size := by rw [hC]; exact Nat.ne_of_lt (Nat.lt_succ_self _)
  have hCle : s₂.heap.objs.size ≤ Hp2.objs.size := by rw [hC]; exact Nat.le_succ _
  have below : ∀ b, b < s₂.heap.objs.size → b ≠ Hp2.objs.size ∧ b ≠ s₂.heap.objs.size := fun b hb => ⟨by rw [hC]; exact Nat.ne_of_lt (Nat.lt_succ_of_lt hb), Nat.ne_of_lt hb⟩
  have old : ∀ b o, s₂.heap.get? b = some o → h₁.get? b = some o := fun b o e => hsb₁.extBut b o (below b (Heap.lt_size e)).1 (Heap.get?_push_of_some _ (hHp ▸ Heap.get?_push_of_some _ e))
  have hacc : h₁.PlainList s₂.heap.objs.size #[] := ⟨_, hsb₁.extBut _ _ hDC (Heap.get?_push_of_some _ (hHp ▸ Heap.get?_push_size _ rfl))⟩
  have hst₁ : tn 0 h₁ := T.keep _ _ _ st2 fun b _ o e => old b o e
  have fpl : ∀ b ∈ fp, b < s₂.heap.objs.size := fun b hb => by
    obtain ⟨o, e, _⟩ := T.obj 0 _ st2 b hb
    exact Heap.lt_size e
  generalize hCd : Hp2.objs.size = C at hns₁ hsb₁ hC hDC hCle below ⊢
  generalize hDd : s₂.heap.objs.size = D at hC hDC hCle below hacc fpl ⊢
  have freshH : ∀ a, D ≤ a → H2 a = none := fun a ha => I2.hok.fresh (by rw [hDd]; exact ha)
  have cellLt : ∀ x c, X.env.cells.lookup x = some c → c < D := fun x c e => by
    obtain ⟨v, o, ho, _⟩ := I2.cell x c e
    rw [← hDd]
    exact Heap.lt_size ho
  -- the block's context is right
  have oky : (compCx X scope N' C s₂ H2 fp).Ok := by
    refine ⟨I2.ok.mod, ?_, I2.ok.glob, I2.ok.blt, ?_, fun x y c h1 h2 => I2.ok.inj x y c (clOf_sub h1) (clOf_sub h2), fun x hx => ?_, fun x c z => absurd z (by simp [compCx]), I2.ok.hd, I2.ok.frames, .inl rfl, fun b hb => ?_, I2.bs, Nat.le_trans I2.ok.bsz I2.sz, fun b o e hb => ?_, fun b hb z => ?_, I2.stack, I2.stkFree⟩
    · exact ok.kind
    · show s₂.heap.objs.size ≤ C
      rw [hDd]; exact hCle
    · have hm := lookup_relabel_back (env := X.env) (x := x) ok.cell hx
      obtain ⟨c, e⟩ := I2.ok.has x (ok.free _ hm rfl)
      exact ⟨c, clOf_get e hm⟩
    · exact ⟨(below b (fpl b hb)).1, fun x c e => (f2 b hb).2.2.2.2.1 x c (clOf_sub e)⟩
    · have q := I2.ok.bs b o e
      rcases (f2 b hb).2.2.2.1 with z | z
      · exact I2.ok.noex b o e z
      · exact absurd (Nat.lt_of_lt_of_le (Heap.lt_size q.1) z) (Nat.lt_irrefl _)
    · rcases List.mem_cons.mp (I2.stkSub b z) with e | e
      · exact (f2 b hb).2.1 e
      · exact (f2 b hb).2.2.1 e
  have stkLt : ∀ b ∈ frs X.stack, b < D := fun b hb => by
    obtain ⟨_, o, ho, _⟩ := I2.stack.mem hb
    rw [← hDd]
    exact Heap.lt_size ho
  have fpo : ∀ {H' : Hp} {pl : List (Addr × Obj)}, (∀ b ∈ fp, H' b = none) → (∀ p ∈ pl, p.1 ∉ fp) → ∀ b ∈ fp, FpOk (compCx X scope N' C s₂ H2 fp) pl H' b := fun {H' pl} hn hp b hb =>
    ⟨hn b hb, (below b (fpl b hb)).1, fun z => (oky.exfs b hb) z, .inl hb, fun x c e => (f2 b hb).2.2.2.2.1 x c (clOf_sub e), fun p hp' z => by
      have hp' : p ∈ pl := by simpa [compCx] using hp'
      exact hp p hp' (by rw [z]; exact hb)⟩
  have Dfp : D ∉ fp := fun z => Nat.lt_irrefl _ (fpl D z)
  -- the start
  have Iy : ∀ tk, Inv (compCx X scope N' C s₂ H2 fp) [] (capt src σ) H2 { s₂ with heap := h₁, toks := tk } := fun tk => by
    refine ⟨oky, rfl, I2.bare, Un.kept old, ⟨_, hns₁, fun i x v h1 h2 _ => ?_⟩, fun x c e => ?_, freshH _ hCle, fun x c e => I2.freeC x c (clOf_sub e), fun p hp => absurd hp (by simp [compCx]), I2.hok.kept old, ?_⟩
    · have h2 : (src[i]?).map (fun o => o.bind fun j => (σ[j]?).getD none) = some (some v) := by
        rw [← h2]; simp [capt]
      cases e : src[i]? with
      | none => rw [e] at h2; cases h2
      | some o =>
        rw [e] at h2
        cases o with
        | none => cases h2
        | some j =>
          have h2 : (σ[j]?).getD none = some v := Option.some.inj h2
          have h3 : σ[j]? = some (some v) := by
            cases q : σ[j]? with
            | none => rw [q] at h2; cases h2
            | some y => rw [q] at h2; cases h2; rfl
          obtain ⟨a1, a2, a3⟩ := ok.cap i j x e h1
          obtain ⟨m, hn, hl⟩ := I2.loc
          obtain ⟨u, ru, lu⟩ := hl j x v a1 h3 (.inr a2)
          refine ⟨u, ru, ?_⟩
          rcases lu with ⟨k, _⟩ | ⟨k, c, ec, hcell⟩
          · have k : X.env.scope.names.lookup x = some .local := k
            rcases a2 with z | z <;> rw [k] at z <;> cases z
          · refine .inr ⟨lookup_relabel_free a3, c, clOf_get ec (PySem.mem_of_lookup a3), ?_⟩
            obtain ⟨o, ho, hd⟩ := hcell
            exact ⟨o, old c o ho, hd⟩
    · obtain ⟨v, o, ho, hd⟩ := I2.cell x c (clOf_sub e)
      exact ⟨v, o, old c o ho, hd⟩
    · show (capt src σ).length = N'.length
      rw [capt, List.length_map]; exact ok.len
  obtain ⟨W, ⟨m0, w0⟩, turn⟩ := hw
  have loop : ∀ tk, codeAny (model X.prog X.w) X.A (.compLoop (.ListComp elt [⟨tg, iter, ifs, 0⟩] scope pos) 0 (.ref it) (.ref D) (compEnvC scope (clOf X.env scope) C X.env)) (RR (.ref D) C) { s₂ with heap := h₁, toks := tk } := by
    intro tk
    refine compLoop_nox (fun n s' => ∃ i H' acc its, Inv (compCx X scope N' C s₂ H2 fp) [] (capt src σ) H' s' ∧ tn i s'.heap ∧ (∀ b ∈ fp, H' b = none) ∧ H' D = none ∧ s'.heap.PlainList D (List.toArray its) ∧ Vals acc its ∧ W i n acc H') ?_ m0
      ⟨0, H2, [], [], Iy tk, hst₁, fun b hb => (f2 b hb).1, freshH _ (Nat.le_refl _), hacc, .nil, w0⟩
    rintro n s3 ⟨i, H3, acc, its, I3, st3, fr3, hD3, pl3, v3, w3⟩
    obtain ⟨hz, turn⟩ := turn i n acc H3 w3
    obtain ⟨nD, eD⟩ := pl3
    have Dfs : D ∉ frs X.stack := fun z => Nat.lt_irrefl _ (stkLt D z)
    have I3D : Inv (compCx X scope N' C s₂ H2 fp) [(D, { cls := .type "list", data := .seq its.toArray nD })] (capt src σ) H3 s3 := I3.pins_of fun p hp => by
      have hp : p = (D, { cls := .type "list", data := .seq its.toArray nD }) := by simpa [compCx] using hp
      subst hp
      exact ⟨eD, hD3, hDC, Dfs, fun v z => nomatch z⟩
    have pD : ∀ p ∈ [(D, ({ cls := .type "list", data := .seq its.toArray nD } : Obj))], p.1 ∉ fp := fun p hp => by
      have hp : p = (D, { cls := .type "list", data := .seq its.toArray nD }) := by simpa using hp
      subst hp
      exact Dfp
    rcases turn with ⟨stop, qn⟩ | ⟨go, N1, N2, hN1, hN2, step⟩
    · refine thn (T.done (compCx X scope N' C s₂ H2 fp) rfl rfl rfl hc i _ s3 _ H3 _ I3D (fpo fr3 pD) st3 stop) fun r s4 ⟨hr, I4⟩ => ?_
      subst hr
      obtain ⟨eD4, hD4, _⟩ := I4.pin (D, { cls := .type "list", data := .seq its.toArray nD }) (by simp [compCx])
      have hok4 : HOk X.prog X.w (upd H3 D (.lst acc)) s4.heap := Inv.lst_made (pins := []) (σ := []) _ _ I4.hok hD3 hz v3 ⟨nD, eD4⟩
      have un : Un (frs X.stack) fp H2 (upd H3 D (.lst acc)) s₂.heap s4.heap := by
        have u : Un (frs X.stack) fp H2 H3 s₂.heap s4.heap := I4.base
        have ne : ∀ b o, s₂.heap.get? b = some o → b ≠ D := fun b o e => Nat.ne_of_lt (hDd ▸ Heap.lt_size e)
        refine ⟨u.keep, u.slot, fun b o e n hx => ?_, u.there, fun b xs e => ?_, fun b o x e => ?_, fun b ps e => ?_⟩
        · rw [upd_ne (ne b o e)]; exact u.free b o e n hx
        · have q := u.tups b xs e
          rw [upd_ne (ne_of_none q hD3)]; exact q
        · have q := u.frzs b o x e
          rw [upd_ne (ne_of_none q hD3)]; exact q
        · obtain ⟨more, q⟩ := u.tbls b ps e
          exact ⟨more, by rw [upd_ne (ne_of_none q hD3)]; exact q⟩
      have chk : ∀ b ∈ fp, (b ∈ X.ex ∨ X.s₀.heap.objs.size ≤ b) ∧ b ≠ X.env.locals ∧ (∀ x c, X.env.cells.lookup x = some c → c ≠ b) ∧ ∀ p ∈ X.pn ++ pins, p.1 ≠ b := fun b hb => by
        obtain ⟨_, f1, _, f3, f4, f5⟩ := f2 b hb
        exact ⟨f3, f1, f4, f5⟩
      have IX : Inv X pins σ (upd H3 D (.lst acc)) s4 := by
        have hos : s4.os = s₂.os := I4.os
        have hb4 := I4.bare
        obtain ⟨hh, gg, dd, tt, os'⟩ := s4
        obtain rfl : os' = s₂.os := hos
        exact I2.call (h' := hh) (g' := gg) (d' := dd) (t' := tt) (ch := fp) un hok4 hb4 chk
      obtain ⟨mC, hnC, _⟩ := I4.loc
      have hnC : s4.heap.Ns C mC := hnC
      obtain ⟨oC, es, ep, eC, dC, rC⟩ := id hnC
      have fC : FpOk X pins (upd H3 D (.lst acc)) C := by
        refine ⟨by rw [upd_ne hDC.symm]; exact I4.free, Nat.ne_of_gt (Nat.lt_of_lt_of_le I2.lt (by rw [hDd]; exact hCle)), I2.nofs (by rw [hDd]; exact hCle), .inr (Nat.le_trans I2.sz (by rw [hDd]; exact hCle)), fun x c e z => ?_, fun p hp z => ?_⟩
        · have := cellLt x c e
          rw [z] at this
          exact Nat.lt_irrefl _ (Nat.lt_of_lt_of_le this hCle)
        · have := Heap.lt_size (I2.pin p hp).1
          rw [z, hDd] at this
          exact Nat.lt_irrefl _ (Nat.lt_of_lt_of_le this hCle)
      exact fin D C s4 acc H3 oC mC IX (qn D hD3) eC hnC (fun v z => by rw [dC] at z; cases z) fC
    · refine thn (T.item (compCx X scope N' C s₂ H2 fp) rfl rfl rfl hc i _ s3 _ H3 _ I3D (fpo fr3 pD) st3 go) fun r s4 ⟨u, hr, h4⟩ => ?_
      subst hr
      refine thn h4 fun _ s5 ⟨x, H5, I5, r5, y5, st5, fr5⟩ => ?_
      have I5' := I5.pinned (fpo fr5 pD) (T.obj _ _ st5)
      refine thn (hg C s₂ H2 fp _ s5 _ H5 x u _ I5' r5 (step x H5 y5)) fun _ s6 ⟨σ6, H6, I6, ex6, q6⟩ => ?_
      refine thn (ht C s₂ H2 fp _ s6 σ6 H6 _ I6 q6) fun b s7 ⟨H7, I7, q7⟩ => ?_
      -- back to the start of a turn
      have back : ∀ {s8 : Shared} {H8 : Hp}, Inv (compCx X scope N' C s₂ H2 fp) ([(D, ({ cls := .type "list", data := .seq its.toArray nD } : Obj))] ++ pinsAt fp s5.heap) σ6 H8 s8 →
          Inv (compCx X scope N' C s₂ H2 fp) [] (capt src σ) H8 s8 ∧ tn (i + 1) s8.heap ∧ (∀ b ∈ fp, H8 b = none) ∧ H8 D = none ∧ s8.heap.get? D = some { cls := .type "list", data := .seq its.toArray nD } := fun {s8 H8} I8 => by
        have pf : ∀ b ∈ fp, ∀ o, s5.heap.get? b = some o → s8.heap.get? b = some o ∧ H8 b = none := fun b hb o e => by
          have q := I8.pin (b, o) (List.mem_append_right _ (List.mem_append_right _ (mem_pinsAt hb e)))
          exact ⟨q.1, q.2.1⟩
        have qD := I8.pin (D, { cls := .type "list", data := .seq its.toArray nD }) (List.mem_append_right _ (List.mem_append_left _ List.mem_cons_self))
        refine ⟨(I8.pins_of (pins' := []) fun p hp => absurd hp (by simp [compCx])).weak ex6.1 ex6.2, T.keep _ _ _ st5 fun b hb o e => (pf b hb o e).1, fun b hb => ?_, qD.2.1, qD.1⟩
        obtain ⟨o, e, _⟩ := T.obj _ _ st5 b hb
        exact (pf b hb o e).2
      cases b with
      | false =>
        obtain ⟨m', hm, w7⟩ := hN2 H7 (by simpa using q7)
        obtain ⟨J8, st8, fr8, hD8, eD8⟩ := back I7
        exact (by simpa using (⟨m', hm, i + 1, H7, acc, its, J8, st8, fr8, hD8, ⟨nD, eD8⟩, v3, w7⟩ : ∃ m, m < n ∧ ∃ i H' acc its, Inv (compCx X scope N' C s₂ H2 fp) [] (capt src σ) H' s7 ∧ tn i s7.heap ∧ (∀ b ∈ fp, H' b = none) ∧ H' D = none ∧ s7.heap.PlainList D (List.toArray its) ∧ Vals acc its ∧ W i m acc H'))
      | true =>
        have q7 : te σ6 H7 N1 := by simpa using q7
        show wpAny _ _ _ _ _ _
        refine thn (he C s₂ H2 fp _ s7 σ6 H7 _ I7 q7) fun u8 s8 ⟨y, H8, I8, r8, n8⟩ => ?_
        obtain ⟨m', hm, w8⟩ := hN1 y H8 n8
        obtain ⟨J8, st8, fr8, hD8, eD8⟩ := back I8
        have hl8 : its.toArray.size ≤ sizeLine := by
          have := v3.length
          simp only [List.size_toArray]
          omega
        refine wpAny_list_append_plain (l := D) (items := its.toArray) ⟨nD, eD8⟩ (fun h' pl9 sb9 => ?_) hl8
        have kp : ∀ b o, b ≠ D → s8.heap.get? b = some o → h'.get? b = some o := fun b o hb e => (sb9.2 b hb).trans e
        have J9 : Inv (compCx X scope N' C s₂ H2 fp) [] (capt src σ) H8 { s8 with heap := h' } := J8.turned (t' := s8.toks) kp hD8 hDC (.inr (show s₂.heap.objs.size ≤ D from Nat.le_of_eq hDd))
          (fun x c e z => Nat.lt_irrefl D (by have := cellLt x c (clOf_sub e); rw [z] at this; exact this)) (fun p hp => absurd hp (by simp [compCx]))
        refine ⟨m', hm, i + 1, H8, acc ++ [y], its ++ [u8], J9, T.keep _ _ _ st8 fun b hb o e => kp b o (fun z => Dfp (z ▸ hb)) e, fr8, hD8, ?_, v3.append (.cons r8 .nil), w8⟩
        have e9 : its.toArray.push u8 = (its ++ [u8]).toArray := by simp
        rw [← e9]; exact pl9
  exact codeAny_compStart_list (loop _) (T.self _ 0 _ _ _ hst₁ (loop _))

theorem pe_comp (hc : X.calm = true) (hi : PI X tg iter wi) (hg : ∀ C s H fp, PG (compCx X scope N' C s H fp) tg g) (ht : ∀ C s H fp, PTs (compCx X scope N' C s H fp) ifs tc) (he : ∀ C s H fp, PE (compCx X scope N' C s H fp) elt te)
    (ok : compOk N sc scope N' src = true) (hN : X.N = N := by rfl) (hsc : X.env.scope = sc := by rfl) (hs : ∀ x, foldedSetIterable iter X.env x = pure x := by intro _; rfl) :
    PE X (.ListComp elt [⟨tg, iter, ifs, 0⟩] scope pos) (tComp src wi g tc te) := by
  intro pins s σ H Q I h
  have ok := compOk_of ok
  rw [eval_ListComp]
  have hclos : closureFor scope X.env = pure (clOf X.env scope) := closureFor_of fun p hp hf => I.ok.has p.1 (by subst hsc; exact ok.free p hp hf)
  refine wpAny_comprehension_free (use := none) rfl hs hclos ok.kind ok.names (thn (hi pins s σ H _ I h) fun xv s₁ h₁ => thn h₁ fun itv s₂ h₂ => ?_)
  obtain ⟨it, fp, tn, J, H2, e, I2, T, st2, f2, hw⟩ := h₂
  subst e
  refine comp_core hc hN hsc ok hg ht he I2 T st2 f2 hw (RR := fun acc C => compPost (model X.prog X.w) X.A X.xe none (EP X pins σ Q) acc C) ?_
  intro D C s' acc H' oC m IX q eC hn nc f
  obtain ⟨f0, f1, f2', f3, f4, f5⟩ := f
  refine ⟨m, hn, fun h' sb => ⟨.ref D, upd H' D (.lst acc), ?_, rfl, q⟩⟩
  exact IX.turned (t' := s'.toks) (fun b o hb e => (sb.2 b hb).trans e) f0 f1 f3 f4 f5

noncomputable def tAsgComp (src : List (Option Nat)) (wi : TI) (g : TG) (tc : TT) (te : TE) (j : Nat) : TS := fun D σ H => tComp src wi g tc te σ H fun x H1 => D.nx (σ.set j (some x)) H1
theorem ps_setComp {j : Nat} {y : Str} {py spos : Pos} (hnd : X.N.Nodup) (hj : X.N[j]? = some y) (hy : Loc X.env.scope y)
    (hc : X.calm = true) (hi : PI X tg iter wi) (hg : ∀ C s H fp, PG (compCx X scope N' C s H fp) tg g) (ht : ∀ C s H fp, PTs (compCx X scope N' C s H fp) ifs tc) (he : ∀ C s H fp, PE (compCx X scope N' C s H fp) elt te)
    (ok : compOk N sc scope N' src = true) (hN : X.N = N := by rfl) (hsc : X.env.scope = sc := by rfl) (hs : ∀ x, foldedSetIterable iter X.env x = pure x := by intro _; rfl)
    (hsw : swapsWith (.ListComp elt [⟨tg, iter, ifs, 0⟩] scope pos) (some (.Name y py)) spos.line X.env = pure true := by rfl)
    (hf : X.fn y = true ∨ X.env.scope.names.lookup y = some .local := by first | exact .inl rfl | exact .inr rfl | assumption) :
    PS X (.Assign [.Name y py] (.ListComp elt [⟨tg, iter, ifs, 0⟩] scope pos) spos) (tAsgComp src wi g tc te j) := by
  intro pins s σ H D I h
  have ok := compOk_of ok
  rw [exec_Assign_Name_used _ _ _ _ hsw]
  refine wpAny_bind (wpAny_standAt (wpAny_bind ?_))
  show wpAny _ _ (do let _ ← comprehension (.ListComp elt [⟨tg, iter, ifs, 0⟩] scope pos) scope X.env _ (newList []) false (eval iter X.env) (some (assign (.Name y py) X.env))) _ _ s
  have hclos : closureFor scope X.env = pure (clOf X.env scope) := closureFor_of fun p hp hf => I.ok.has p.1 (by subst hsc; exact ok.free p hp hf)
  refine wpAny_bind (wpAny_mono (wpAny_comprehension_free (use := some (assign (.Name y py) X.env)) (Q := fun _ s' => SP X pins D .next s') rfl hs hclos ok.kind ok.names
    (thn (hi pins s σ H _ I h) fun xv s₁ h₁ => thn h₁ fun itv s₂ h₂ => ?_)) (fun _ s' hq => wpAny_pure (wpAny_pure hq)) fun _ _ e => e)
  obtain ⟨it, fp, tn, J, H2, e, I2, T, st2, f2, hw⟩ := h₂
  subst e
  refine comp_core hc hN hsc ok hg ht he I2 T st2 f2 hw (RR := fun acc C => compPost (model X.prog X.w) X.A X.xe (some (assign (.Name y py) X.env)) (fun _ s' => SP X pins D .next s') acc C) ?_
  intro D' C s' acc H' oC m IX q eC hn nc f
  obtain ⟨f0, f1, f2', f3, f4, f5⟩ := f
  show wpAny _ _ (assign (.Name y py) X.env (.ref D')) _ _ s'
  have IC : Inv X (pins ++ [(C, oC)]) σ (upd H' D' (.lst acc)) s' := IX.pins_of fun p hp => (List.mem_append.mp hp).elim (fun z => IX.pin p (List.mem_append_right _ z)) fun z => by
    have z : p = (C, oC) := by simpa using z
    subst z
    exact ⟨eC, f0, f1, f2', nc⟩
  refine wpAny_assign_Name (store_ok IC hnd hj hy (show RelV (.ref D') (.ref D') from rfl) (fun s2 I2' => ?_) hf)
  have qC := I2'.pin (C, oC) (List.mem_append_right _ (List.mem_append_right _ List.mem_cons_self))
  obtain ⟨oC', es, ep, eC', r⟩ := hn
  rw [eC] at eC'
  cases eC'
  refine ⟨m, ⟨oC, es, ep, qC.1, r⟩, fun h' sb => ⟨σ.set j (some (.ref D')), upd H' D' (.lst acc), ?_, q⟩⟩
  exact I2'.unpinned.turned (t' := s2.toks) (fun b o hb e => (sb.2 b hb).trans e) f0 f1 f3 f4 f5
end

theorem ext_set {σ : St} {i : Nat} {v : V} (h : σ[i]? = some none) : Ext σ (σ.set i (some v)) := by
  refine ⟨by simp, fun k u e => ?_⟩
  by_cases hk : i = k
  · subst hk; rw [h] at e; cases e
  · rw [List.getElem?_set_ne hk]; exact e
theorem comp_range {lo : Int} {n : Nat} {src : List (Option Nat)} {σ : St} {g : TG} {tc : TT} {te : TE} {Q : VK} {H : Hp} (Pv : Nat → List V → Hp → Prop) (h0 : Pv 0 [] H) (len : ∀ i acc H, Pv i acc H → acc.length ≤ sizeLine)
    (step : ∀ i acc H, i < n → Pv i acc H → g (.int (lo + i)) (capt src σ) H fun σ2 H2 => Ext (capt src σ) σ2 ∧ tc σ2 H2 fun b H3 => if b = true then te σ2 H3 (fun y H4 => Pv (i + 1) (acc ++ [y]) H4) else Pv (i + 1) acc H3)
    (done : ∀ acc H, Pv n acc H → ∀ p, H p = none → Q (.ref p) (upd H p (.lst acc))) : CompW (Itr lo n) src σ g tc te Q H := by
  refine ⟨fun i m acc H => m = n - i ∧ i ≤ n ∧ Pv i acc H, ⟨n, by simp, Nat.zero_le _, h0⟩, ?_⟩
  rintro i m acc H ⟨rfl, hi, p⟩
  refine ⟨len i acc H p, ?_⟩
  by_cases hlt : i < n
  · refine .inr ⟨hlt, fun y H4 => Pv (i + 1) (acc ++ [y]) H4, fun H3 => Pv (i + 1) acc H3, fun y H4 q => ⟨n - (i + 1), by omega, rfl, hlt, q⟩, fun H3 q => ⟨n - (i + 1), by omega, rfl, hlt, q⟩, fun x H' y => ?_⟩
    obtain ⟨e, y⟩ := y
    subst e y
    exact step i acc _ hlt p
  · have e : i = n := by omega
    subst e
    exact .inl ⟨Nat.le_refl _, done acc H p⟩
theorem comp_list {K : PySem.W.Frag} {a : Addr} {xs : List V} {src : List (Option Nat)} {σ : St} {g : TG} {tc : TT} {te : TE} {Q : VK} {H : Hp} (Pv : Nat → List V → Hp → Prop) (h0 : Pv 0 [] H) (len : ∀ i acc H, Pv i acc H → acc.length ≤ sizeLine)
    (hl : ∀ i acc H, Pv i acc H → SqL K H a xs)
    (step : ∀ i x acc H, xs[i]? = some x → Pv i acc H → g x (capt src σ) H fun σ2 H2 => Ext (capt src σ) σ2 ∧ tc σ2 H2 fun b H3 => if b = true then te σ2 H3 (fun y H4 => Pv (i + 1) (acc ++ [y]) H4) else Pv (i + 1) acc H3)
    (done : ∀ acc H, Pv xs.length acc H → ∀ p, H p = none → Q (.ref p) (upd H p (.lst acc))) : CompW (Itl K a) src σ g tc te Q H := by
  refine ⟨fun i m acc H => m = xs.length - i ∧ i ≤ xs.length ∧ Pv i acc H, ⟨xs.length, by simp, Nat.zero_le _, h0⟩, ?_⟩
  rintro i m acc H ⟨rfl, hi, p⟩
  refine ⟨len i acc H p, ?_⟩
  by_cases hlt : i < xs.length
  · refine .inr ⟨⟨xs, xs[i], hl i acc H p, by simp [hlt]⟩, fun y H4 => Pv (i + 1) (acc ++ [y]) H4, fun H3 => Pv (i + 1) acc H3, fun y H4 q => ⟨xs.length - (i + 1), by omega, rfl, hlt, q⟩, fun H3 q => ⟨xs.length - (i + 1), by omega, rfl, hlt, q⟩, fun x H' y => ?_⟩
    obtain ⟨e, y⟩ := y
    subst e
    exact step i x acc _ (y xs (hl i acc _ p)) p
  · have e : i = xs.length := by omega
    subst e
    exact .inl ⟨⟨xs, hl _ acc H p, Nat.le_refl _⟩, done acc H p⟩
theorem comp_tup {K : PySem.W.Frag} {a : Addr} {xs : List V} {src : List (Option Nat)} {σ : St} {g : TG} {tc : TT} {te : TE} {Q : VK} {H : Hp} (Pv : Nat → List V → Hp → Prop) (h0 : Pv 0 [] H) (len : ∀ i acc H, Pv i acc H → acc.length ≤ sizeLine)
    (hl : ∀ i acc H, Pv i acc H → SqT K H a xs)
    (step : ∀ i x acc H, xs[i]? = some x → Pv i acc H → g x (capt src σ) H fun σ2 H2 => Ext (capt src σ) σ2 ∧ tc σ2 H2 fun b H3 => if b = true then te σ2 H3 (fun y H4 => Pv (i + 1) (acc ++ [y]) H4) else Pv (i + 1) acc H3)
    (done : ∀ acc H, Pv xs.length acc H → ∀ p, H p = none → Q (.ref p) (upd H p (.lst acc))) : CompW (Itt K a) src σ g tc te Q H := by
  refine ⟨fun i m acc H => m = xs.length - i ∧ i ≤ xs.length ∧ Pv i acc H, ⟨xs.length, by simp, Nat.zero_le _, h0⟩, ?_⟩
  rintro i m acc H ⟨rfl, hi, p⟩
  refine ⟨len i acc H p, ?_⟩
  by_cases hlt : i < xs.length
  · refine .inr ⟨⟨xs, xs[i], hl i acc H p, by simp [hlt]⟩, fun y H4 => Pv (i + 1) (acc ++ [y]) H4, fun H3 => Pv (i + 1) acc H3, fun y H4 q => ⟨xs.length - (i + 1), by omega, rfl, hlt, q⟩, fun H3 q => ⟨xs.length - (i + 1), by omega, rfl, hlt, q⟩, fun x H' y => ?_⟩
    obtain ⟨e, y⟩ := y
    subst e
    exact step i x acc _ (y xs (hl i acc _ p)) p
  · have e : i = xs.length := by omega
    subst e
    exact .inl ⟨⟨xs, hl _ acc H p, Nat.le_refl _⟩, done acc H p⟩
theorem Ext.trans {a b c : St} (h : Ext a b) (k : Ext b c) : Ext a c := ⟨h.1.trans k.1, fun i v e => k.2 i v (h.2 i v e)⟩
end L2

set_option linter.all false
set_option maxRecDepth 100000
namespace L2
open PySem PySem.Spec PyProof.Rows

noncomputable def FnAt (P : Program) (w : World) (K : PySem.W.Frag) (mg : Str → Option Value) (base : Heap) (x : Str) (ps : List Str) (k : Nat) (sp : Sp) : Prop :=
  ∃ f fd, mg x = some (.ref f) ∧ PySem.W.keepIn K (.ref f) = true ∧ Binds K fd ps [] ∧ FnOk P w K mg base CX0 k f fd ps sp
section
variable {X : Cx} {x : Str} {p pos : Pos} {e : Expr} {es : List Expr} {t : TA} {ps : List Str} {k : Nat} {sp : Sp}
theorem pe_own (h : FnAt X.prog X.w X.K X.mg X.base x ps k sp) (hr : Room k X.A) (ha : PA X (e :: es) t) (hg : Gl X x := by rfl) (hdb : (x == ("__debug__" : Str)) = false := by decide)
    (he : starEach (e :: es) X.env = (false, eval e X.env) :: starEach es X.env := by rfl) (hpl : (backTo pos (starEach es X.env)).any (·.1) = false := by rfl) : PE X (.Call (.Name x p) (e :: es) [] pos) (tCall sp [] E0 t) := by
  obtain ⟨f, fd, hm, hk, hb, F⟩ := h
  exact pe_call F hr hg hm hk hb .nil pass0 ha hdb he hpl
end

noncomputable def iSeq (K : PySem.W.Frag) (tl : TE) : TI := fun σ H R => tl σ H fun x H1 => ∃ a, x = .ref a ∧ (((∃ xs, SqL K H1 a xs) ∧ R (Itl K a) H1) ∨ ((∃ xs, SqT K H1 a xs) ∧ R (Itt K a) H1))
section
variable {X : Cx} {tg : Expr}
theorem pi_seq {l : Expr} {tl : TE} (hl : PE X l tl) : PI X tg l (iSeq X.K tl) := by
  intro pins s σ H R I h
  refine thn (hl pins s σ H _ I h) fun v s1 ⟨x, H1, I1, r1, q1⟩ => ?_
  obtain ⟨a, e, q1⟩ := q1
  subst e
  cases r1
  rcases q1 with ⟨⟨xs, hq⟩, q⟩ | ⟨⟨xs, hq⟩, q⟩
  · obtain ⟨its, rv, p, hz⟩ := I1.list hq
    refine wpAny_pyIter_list p.isList ?_
    refine ⟨s1.heap.objs.size, [s1.heap.objs.size], _, _, H1, rfl, I1.kept (t' := s1.toks) fun b o e => Heap.get?_push_of_some _ e, turn_list a _, ⟨_, Heap.get?_push_size _ rfl, rfl, rfl⟩, fun b hb => ?_, q⟩
    have e : b = s1.heap.objs.size := by simpa using hb
    subst e
    exact I1.fpOk (Nat.le_refl _) (I1.hok.fresh (Nat.le_refl _))
  · obtain ⟨its, rv, p, hz⟩ := I1.tuple hq
    refine wpAny_pyIter_tuple (show s1.heap.IsTuple a its.toArray from p) ?_
    refine ⟨s1.heap.objs.size, [s1.heap.objs.size], _, _, H1, rfl, I1.kept (t' := s1.toks) fun b o e => Heap.get?_push_of_some _ e, turn_tuple a _, ⟨_, Heap.get?_push_size _ rfl, rfl, rfl⟩, fun b hb => ?_, q⟩
    have e : b = s1.heap.objs.size := by simpa using hb
    subst e
    exact I1.fpOk (Nat.le_refl _) (I1.hok.fresh (Nat.le_refl _))
end

section
variable {X : Cx} {pins : List (Addr × Obj)} {σ : St} {H : Hp} {s : Shared} {h' : Heap} {ch : List Addr}
theorem Inv.turnL {t' : Nat} (I : Inv X pins σ H s) (hf : ∀ b ∈ ch, FpOk X pins H b) (k : ∀ b o, b ∉ ch → s.heap.get? b = some o → h'.get? b = some o) : Inv X pins σ H { s with heap := h', toks := t' } := by
  have nit : ∀ b u, H b = some u → b ∉ ch := fun b u e z => by rw [(hf b z).1] at e; cases e
  refine I.step (g' := s.gens) (d' := s.drawn) (ch := ch) (fun b hb => ?_) (fun b o _ _ hc e _ => k b o hc e) (fun b o _ _ hc e _ => ⟨o.slots, k b o hc e⟩) (fun _ _ _ _ n => n)
    (fun b o hc e => ⟨o, k b o hc e⟩) (fun _ _ e => e) (fun _ _ _ e => e) (fun b ps e => ⟨#[], by rw [e]; simp⟩) (fun m hm => ?_) (fun b u e => ?_) I.bare
  · obtain ⟨_, f1, _, f3, f4, f5⟩ := hf b hb
    exact ⟨f3, f1, f4, f5⟩
  · obtain ⟨o, es, ep, ho, r⟩ := hm
    exact ⟨o, es, ep, k _ o (fun z => (hf _ z).2.1 rfl) ho, r⟩
  · refine (I.hok b u e).stay (fun c v hc q => k c v ?_ q) (fun _ q => q) fun _ _ q => q
    rcases hc with rfl | hc
    · exact nit _ _ e
    · exact nit _ _ hc
theorem zip_itemN {prog : Program} {w : World} {A : Around} {z TI TO i1 i2 l1 l2 : Addr} (D : ZipApart z TI TO i1 i2 l1 l2) {xs ys : Array Value} {i : Nat} {s : Shared} {Q : Option Value → Shared → Prop} {E : Value → Shared → Prop} (hi : i < min xs.size ys.size)
    (hst : IsZip s.heap z TI TO .none ∧ IsPair s.heap TI (.ref i1) (.ref i2) ∧ (∃ a b, IsPair s.heap TO a b) ∧ s.heap.IsListIter i1 l1 i ∧ s.heap.IsListIter i2 l2 i ∧ s.heap.IsList l1 xs ∧ s.heap.IsList l2 ys)
    (hQ : ∀ T vals h' tk, (∃ x y, xs[i]? = some x ∧ ys[i]? = some y ∧ vals = #[x, y]) → s.heap.objs.size ≤ T → IsTupN h' T vals →
      (IsZip h' z TI TO (rawInt T) ∧ IsPair h' TI (.ref i1) (.ref i2) ∧ (∃ a b, IsPair h' TO a b) ∧ h'.IsListIter i1 l1 (i + 1) ∧ h'.IsListIter i2 l2 (i + 1) ∧ h'.IsList l1 xs ∧ h'.IsList l2 ys ∧ T ≠ z ∧ T ≠ TO ∧ T ≠ i1 ∧ T ≠ i2) →
      (∀ b o, b ∉ [z, TO, i1, i2] → s.heap.get? b = some o → h'.get? b = some o) → Q (some (.ref T)) { s with heap := h', toks := tk }) :
    wpAny (model prog w) A (pyNext (.ref z)) Q E s := by
  obtain ⟨hz, hTI, ⟨a, b, hTO⟩, h1, h2, hl1, hl2⟩ := hst
  have hix : i < xs.size := Nat.lt_of_lt_of_le hi (Nat.min_le_left ..)
  have hiy : i < ys.size := Nat.lt_of_lt_of_le hi (Nat.min_le_right ..)
  have ne : ∀ {c o}, s.heap.get? c = some o → s.heap.objs.size ≠ c := fun e => Nat.ne_of_gt (Heap.lt_size e)
  refine wpAny_pyNext_zip_item D hz hTI hTO h1 h2 hl1 hl2 (Array.getElem?_eq_getElem hix) (Array.getElem?_eq_getElem hiy) fun h' a1 a2 a3 a4 a5 a6 hk => ?_
  refine hQ s.heap.objs.size #[xs[i], ys[i]] h' s.toks ⟨_, _, Array.getElem?_eq_getElem hix, Array.getElem?_eq_getElem hiy, rfl⟩ (Nat.le_refl _) ⟨_, a5, rfl, rfl, _, rfl⟩ ⟨a1, hk _ _ D.TIz D.TITO D.TIi1 D.TIi2 hTI, ⟨_, _, a2⟩, a3, a4, ?_, ?_, ne hz, ne hTO, ?_, ?_⟩ ?_
  · exact hl1.at fun o e => hk _ o D.l1z D.l1TO D.l1i1 D.l1i2 e
  · exact hl2.at fun o e => hk _ o D.l2z D.l2TO D.l2i1 D.l2i2 e
  · obtain ⟨_, e, _⟩ := h1; exact ne e
  · obtain ⟨_, e, _⟩ := h2; exact ne e
  · exact fun c o hc e => hk c o (fun x => hc (by simp [x])) (fun x => hc (by simp [x])) (fun x => hc (by simp [x])) (fun x => hc (by simp [x])) e
theorem Inv.turnTup {T : Addr} {xs : List V} {its : List Value} {t' : Nat} (I : Inv X pins σ H s) (hf : ∀ b ∈ ch, FpOk X pins H b) (k : ∀ b o, b ∉ ch → s.heap.get? b = some o → h'.get? b = some o)
    (hT : s.heap.objs.size ≤ T) (ht : IsTupN h' T its.toArray) (r : Vals xs its) (hz : xs.length ≤ sizeLine) : Inv X pins σ (upd H T (.tup xs)) { s with heap := h', toks := t' } := by
  have J : Inv X pins σ H { s with heap := h', toks := t' } := I.turnL hf k
  have hn : H T = none := I.hok.fresh hT
  have ne : ∀ b o, s.heap.get? b = some o → b ≠ T := fun b o e => Nat.ne_of_lt (Nat.lt_of_lt_of_le (Heap.lt_size e) hT)
  refine ⟨J.ok, J.os, J.bare, ?_, J.loc, J.cell, ?_, fun x c e => ?_, fun p hp => ?_, fun b u q => ?_, J.len⟩
  · have u := J.base
    refine ⟨u.keep, u.slot, fun b o e n hx => ?_, u.there, fun b ys e => ?_, fun b o x e => ?_, fun b ps e => ?_⟩
    · rw [upd_ne (Nat.ne_of_lt (Nat.lt_of_lt_of_le (Heap.lt_size e) (Nat.le_trans I.sz hT)))]
      exact u.free b o e n hx
    · have q := u.tups b ys e
      rw [upd_ne (ne_of_none q hn)]; exact q
    · have q := u.frzs b o x e
      rw [upd_ne (ne_of_none q hn)]; exact q
    · obtain ⟨more, q⟩ := u.tbls b ps e
      exact ⟨more, by rw [upd_ne (ne_of_none q hn)]; exact q⟩
  · rw [upd_ne (Nat.ne_of_lt (Nat.lt_of_lt_of_le I.lt hT))]; exact I.free
  · obtain ⟨v, o, ho, _⟩ := I.cell x c e
    rw [upd_ne (ne c o ho)]; exact I.freeC x c e
  · obtain ⟨e, n, r⟩ := J.pin p hp
    refine ⟨e, ?_, r⟩
    rw [upd_ne (ne _ _ (I.pin p hp).1)]; exact n
  · by_cases hb : b = T
    · subst hb
      rw [upd_same] at q
      cases q
      exact ⟨hz, its, r, ht⟩
    · rw [upd_ne hb] at q
      exact (J.hok b u q).stay (fun c v _ q => q) (fun c q => by rw [upd_ne (ne_of_none q hn)]; exact q) fun c xs q => by rw [upd_ne (ne_of_none q hn)]; exact q
end

noncomputable def Itz (K : PySem.W.Frag) (a b : Addr) (xs ys : List V) : It :=
  ⟨fun i H => i < min xs.length ys.length ∧ SqL K H a xs ∧ SqL K H b ys, fun i H x H' => ∃ T u v, x = .ref T ∧ H T = none ∧ H' = upd H T (.tup [u, v]) ∧ xs[i]? = some u ∧ ys[i]? = some v,
    fun i H => i = min xs.length ys.length ∧ SqL K H a xs ∧ SqL K H b ys⟩
theorem turn_zip {P : Program} {w : World} {K : PySem.W.Frag} {elts : List Expr} {kk : Nat} {tpos : Pos} (a b z TI TO i1 i2 : Addr) (hne : [z, TI, TO, i1, i2].Nodup) (ha : a ∉ [z, TI, TO, i1, i2]) (hb : b ∉ [z, TI, TO, i1, i2]) (xs ys : List V) :
    Turn P w K (.Tuple elts kk tpos) (Itz K a b xs ys) [z, TI, TO, i1, i2] z (fun i h => IsZip h z TI TO .none ∧ IsPair h TI (.ref i1) (.ref i2) ∧ (∃ u v, IsPair h TO u v) ∧ h.IsListIter i1 a i ∧ h.IsListIter i2 b i) := by
  have D : ZipApart z TI TO i1 i2 a b := by
    simp only [List.nodup_cons, List.mem_cons, not_or, List.not_mem_nil, not_false_eq_true, and_true, List.nodup_nil] at hne ha hb
    obtain ⟨⟨h1, h2, h3, h4⟩, ⟨h5, h6, h7⟩, ⟨h8, h9⟩, h10⟩ := hne
    obtain ⟨a1, a2, a3, a4, a5⟩ := ha
    obtain ⟨b1, b2, b3, b4, b5⟩ := hb
    exact ⟨Ne.symm h1, Ne.symm h2, Ne.symm h3, Ne.symm h4, h5, h6, h7, h8, h9, h10, a1, a3, a4, a5, b1, b3, b4, b5⟩
  have wrs : ∀ c, c ∈ [z, TO, i1, i2] → c ∈ [z, TI, TO, i1, i2] := fun c hc => by
    simp only [List.mem_cons, List.not_mem_nil, or_false] at hc ⊢
    rcases hc with h | h | h | h <;> simp [h]
  refine ⟨by simp, ?_, ?_, ?_, ?_, ?_⟩
  · rintro i h ⟨hz, hTI, ⟨u, v, hTO⟩, h1, h2⟩ c hc
    simp only [List.mem_cons, List.not_mem_nil, or_false] at hc
    rcases hc with rfl | rfl | rfl | rfl | rfl
    · exact ⟨_, hz, fun v q => nomatch q⟩
    · exact ⟨_, hTI, fun v q => nomatch q⟩
    · exact ⟨_, hTO, fun v q => nomatch q⟩
    · obtain ⟨o, e, c, d⟩ := h1; exact ⟨o, e, fun v q => by rw [d] at q; cases q⟩
    · obtain ⟨o, e, c, d⟩ := h2; exact ⟨o, e, fun v q => by rw [d] at q; cases q⟩
  · rintro i h h' ⟨hz, hTI, ⟨u, v, hTO⟩, h1, h2⟩ k
    exact ⟨k z (by simp) _ hz, k TI (by simp) _ hTI, ⟨u, v, k TO (by simp) _ hTO⟩, h1.at fun o e => k i1 (by simp) o e, h2.at fun o e => k i2 (by simp) o e⟩
  · intro X hP hw hK hc i pins s σ H E I hf st hg
    subst hP hw hK
    obtain ⟨hi, hqa, hqb⟩ := hg
    obtain ⟨hz, hTI, hTO, h1, h2⟩ := st
    obtain ⟨ia, ra, pa, za⟩ := I.list hqa
    obtain ⟨ib, rb, pb, zb⟩ := I.list hqb
    have la := ra.length
    have lb := rb.length
    have W := WalksT.zip2 (prog := X.prog) (w := X.w) (A := X.A) (I.ok.hd hc) z TI TO i1 i2 a b D ia.toArray ib.toArray
    refine zip_itemN (xs := ia.toArray) (ys := ib.toArray) D (by simpa [← la, ← lb] using hi) ⟨hz, hTI, hTO, h1, h2, pa.isList, pb.isList⟩ fun T vals h' tk hP hfr hT hm hk => ?_
    obtain ⟨u, v, eu, ev, rfl⟩ := hP
    refine ⟨_, rfl, W.go elts kk tpos i T _ _ _ hm fun h2 st2 hk2 => ?_⟩
    obtain ⟨gz, gTI, gTO, g1, g2, _, _⟩ := st2
    have eu' : ia[i]? = some u := by simpa using eu
    have ev' : ib[i]? = some v := by simpa using ev
    have hix : i < xs.length := by omega
    have hiy : i < ys.length := by omega
    obtain ⟨u', hu', ru⟩ := ra.get (List.getElem?_eq_getElem hix)
    obtain ⟨v', hv', rv⟩ := rb.get (List.getElem?_eq_getElem hiy)
    rw [eu'] at hu'; cases hu'
    rw [ev'] at hv'; cases hv'
    have hTw : T ∉ [z, TO, i1, i2] := W.apart i T _ hm
    have hT2 : IsTupN h2 T [u, v].toArray := by
      obtain ⟨o, e, c, n, d⟩ := hT
      exact ⟨o, hk2 T o hTw e, c, n, d⟩
    refine ⟨.ref T, upd H T (.tup [xs[i], ys[i]]), I.turnTup (ch := [z, TO, i1, i2]) (t' := tk) (fun c hc => hf c (wrs c hc)) (fun c o hc e => hk2 c o hc (hk c o hc e)) hfr hT2 (.cons ru (.cons rv .nil)) (by show 2 ≤ sizeLine; decide), rfl,
      ⟨T, _, _, rfl, I.hok.fresh hfr, rfl, List.getElem?_eq_getElem hix, List.getElem?_eq_getElem hiy⟩, ⟨gz, gTI, gTO, g1, g2⟩, fun c hc => ?_⟩
    have hcl : c < s.heap.objs.size := by
      simp only [List.mem_cons, List.not_mem_nil, or_false] at hc
      obtain ⟨u, v, hTO⟩ := hTO
      rcases hc with rfl | rfl | rfl | rfl | rfl
      · exact Heap.lt_size hz
      · exact Heap.lt_size hTI
      · exact Heap.lt_size hTO
      · obtain ⟨o, e, _⟩ := h1; exact Heap.lt_size e
      · obtain ⟨o, e, _⟩ := h2; exact Heap.lt_size e
    rw [upd_ne (Nat.ne_of_lt (Nat.lt_of_lt_of_le hcl hfr))]
    exact (hf c hc).1
  · intro X hP hw hK hc i pins s σ H E I hf st hg
    subst hP hw hK
    obtain ⟨hi, hqa, hqb⟩ := hg
    obtain ⟨hz, hTI, hTO, h1, h2⟩ := st
    obtain ⟨ia, ra, pa, za⟩ := I.list hqa
    obtain ⟨ib, rb, pb, zb⟩ := I.list hqb
    have la := ra.length
    have lb := rb.length
    have W := WalksT.zip2 (prog := X.prog) (w := X.w) (A := X.A) (I.ok.hd hc) z TI TO i1 i2 a b D ia.toArray ib.toArray
    have hi' : i = min ia.toArray.size ib.toArray.size := by simpa [← la, ← lb] using hi
    refine W.done s _ _ (hi' ▸ ⟨hz, hTI, hTO, h1, h2, pa.isList, pb.isList⟩) fun h' tk hk => ⟨rfl, I.turnL (ch := [z, TO, i1, i2]) (fun c hc => hf c (wrs c hc)) hk⟩
  · rintro A i s Q E ⟨hz, _⟩ h
    exact wpAny_pyIter_zip hz h
noncomputable def iZip (K : PySem.W.Frag) (ta : TA) : TI := fun σ H R => ta σ H fun vs H1 => ∃ a b xs ys, vs = [.ref a, .ref b] ∧ SqL K H1 a xs ∧ SqL K H1 b ys ∧ R (Itz K a b xs ys) H1
theorem pi_zip {X : Cx} {elts : List Expr} {kk : Nat} {tpos : Pos} {a b : Expr} {ta : TA} {p pos : Pos} (hm : X.mg "zip" = none) (ha : PA X [a, b] ta) (hg : Gl X "zip" := by rfl)
    (hs : starEach [a, b] X.env = [(false, eval a X.env), (false, eval b X.env)] := by rfl) (hs2 : starEach [b] X.env = [(false, eval b X.env)] := by rfl) : PI X (.Tuple elts kk tpos) (.Call (.Name "zip" p) [a, b] [] pos) (iZip X.K ta) := by
  intro pins s σ H R I h
  refine Call_ (ld_blt I hg hm boot_zip (PyProof.Rows.callWith_type1 (thn (ha pos pins s σ H _ I h) fun us s1 ⟨vs, H1, I1, r1, q1⟩ => ?_) (by rw [hs, hs2]) (by rw [hs2]; rfl)))
  obtain ⟨a, b, xs, ys, e, hqa, hqb, q⟩ := q1
  subst e
  cases r1 with
  | cons r rr =>
    cases rr with
    | cons r' rr =>
      cases rr
      cases r
      cases r'
      obtain ⟨ia, ra, pa, za⟩ := I1.list hqa
      obtain ⟨ib, rb, pb, zb⟩ := I1.list hqb
      have al : a < s1.heap.objs.size := by obtain ⟨o, n, e, _⟩ := pa; exact Heap.lt_size e
      have bl : b < s1.heap.objs.size := by obtain ⟨o, n, e, _⟩ := pb; exact Heap.lt_size e
      refine call_zip_2 pa.isList pb.isList fun h' hz hTI hTO h1 h2 hsz hk => ?_
      have I2 : Inv X pins σ H1 { s1 with heap := h' } := I1.kept (t' := s1.toks) hk
      refine wpAny_pyIter_zip hz ?_
      refine ⟨s1.heap.objs.size + 4, [s1.heap.objs.size + 4, s1.heap.objs.size + 2, s1.heap.objs.size + 3, s1.heap.objs.size, s1.heap.objs.size + 1], _, _, H1, rfl, I2, turn_zip a b _ _ _ _ _ ?_ ?_ ?_ xs ys, ⟨hz, hTI, ⟨_, _, hTO⟩, h1, h2⟩, fun c hc => ?_, q⟩
      · simp
      · intro z
        simp only [List.mem_cons, List.not_mem_nil, or_false] at z
        have al' : @LT.lt Nat _ a s1.heap.objs.size := al
        rcases z with z | z | z | z | z <;> (have z' : @Eq Nat a _ := z; omega)
      · intro z
        simp only [List.mem_cons, List.not_mem_nil, or_false] at z
        have bl' : @LT.lt Nat _ b s1.heap.objs.size := bl
        rcases z with z | z | z | z | z <;> (have z' : @Eq Nat b _ := z; omega)
      · have hc' : s1.heap.objs.size ≤ c := by
          simp only [List.mem_cons, List.not_mem_nil, or_false] at hc
          show @LE.le Nat _ s1.heap.objs.size c
          rcases hc with z | z | z | z | z <;> (have z' : @Eq Nat c _ := z; omega)
        exact I1.fpOk hc' (I1.hok.fresh hc')

theorem comp_zip {K : PySem.W.Frag} {a b : Addr} {xs ys : List V} {src : List (Option Nat)} {σ : St} {g : TG} {tc : TT} {te : TE} {Q : VK} {H : Hp} (Pv : Nat → List V → Hp → Prop) (h0 : Pv 0 [] H) (len : ∀ i acc H, Pv i acc H → acc.length ≤ sizeLine)
    (hl : ∀ i acc H, Pv i acc H → SqL K H a xs ∧ SqL K H b ys)
    (step : ∀ i u v T acc H, xs[i]? = some u → ys[i]? = some v → H T = none → Pv i acc H → g (.ref T) (capt src σ) (upd H T (.tup [u, v])) fun σ2 H2 => Ext (capt src σ) σ2 ∧ tc σ2 H2 fun b H3 => if b = true then te σ2 H3 (fun y H4 => Pv (i + 1) (acc ++ [y]) H4) else Pv (i + 1) acc H3)
    (done : ∀ acc H, Pv (min xs.length ys.length) acc H → ∀ p, H p = none → Q (.ref p) (upd H p (.lst acc))) : CompW (Itz K a b xs ys) src σ g tc te Q H := by
  refine ⟨fun i m acc H => m = min xs.length ys.length - i ∧ i ≤ min xs.length ys.length ∧ Pv i acc H, ⟨min xs.length ys.length, by simp, Nat.zero_le _, h0⟩, ?_⟩
  rintro i m acc H ⟨rfl, hi, p⟩
  refine ⟨len i acc H p, ?_⟩
  by_cases hlt : i < min xs.length ys.length
  · refine .inr ⟨⟨hlt, hl i acc H p⟩, fun y H4 => Pv (i + 1) (acc ++ [y]) H4, fun H3 => Pv (i + 1) acc H3, fun y H4 q => ⟨min xs.length ys.length - (i + 1), by omega, rfl, hlt, q⟩, fun H3 q => ⟨min xs.length ys.length - (i + 1), by omega, rfl, hlt, q⟩, fun x H' y => ?_⟩
    obtain ⟨T, u, v, rfl, hT, rfl, hu, hv⟩ := y
    exact step i u v T acc H hu hv hT p
  · have e : i = min xs.length ys.length := by omega
    subst e
    exact .inl ⟨⟨rfl, hl _ acc H p⟩, done acc H p⟩
end L2

set_option linter.all false
set_option maxRecDepth 100000
namespace L2
open PySem PySem.Spec PyProof.Rows

mutual
noncomputable def DatV (K : PySem.W.Frag) (H : Hp) : PyData → V → Prop
  | .none, v => v = .non
  | .bool b, v => v = .bl b
  | .int i, v => v = .int i
  | .str x, v => v = .str x
  | .list ds, v => ∃ a xs, v = .ref a ∧ SqL K H a xs ∧ DatVs K H ds xs
  | .tuple ds, v => ∃ a xs, v = .ref a ∧ SqT K H a xs ∧ DatVs K H ds xs
  | .dict _, _ => False
noncomputable def DatVs (K : PySem.W.Frag) (H : Hp) : List PyData → List V → Prop
  | [], xs => xs = []
  | d :: ds, xs => ∃ y ys, xs = y :: ys ∧ DatV K H d y ∧ DatVs K H ds ys
end
section
variable {X : Cx} {pins : List (Addr × Obj)} {σ : St} {H : Hp} {s : Shared}
mutual
theorem DatV.reads (I : Inv X pins σ H s) : ∀ (d : PyData) {x : V} {u : Value}, DatV X.K H d x → RelV x u → ∃ as, Reads s.heap u d as
  | .none, x, u, h, r => by
    rw [DatV] at h; subst h; cases r; exact ⟨_, .none⟩
  | .bool b, x, u, h, r => by
    rw [DatV] at h; subst h; cases r; exact ⟨_, .bool b⟩
  | .int i, x, u, h, r => by
    rw [DatV] at h; subst h; obtain ⟨t, rfl⟩ := r; exact ⟨_, .int i t⟩
  | .str z, x, u, h, r => by
    rw [DatV] at h; subst h; obtain ⟨t, rfl⟩ := r; exact ⟨_, .str z t⟩
  | .list ds, x, u, h, r => by
    rw [DatV] at h
    obtain ⟨a, xs, rfl, hq, hd⟩ := h
    cases r
    obtain ⟨its, rv, ⟨o, n, e, c, _, d⟩, hz⟩ := I.list hq
    obtain ⟨as, ra⟩ := DatVs.reads I ds hd rv
    exact ⟨_, .list e c d (by simpa using ra)⟩
  | .tuple ds, x, u, h, r => by
    rw [DatV] at h
    obtain ⟨a, xs, rfl, hq, hd⟩ := h
    cases r
    obtain ⟨its, rv, ⟨o, e, c, n, d⟩, hz⟩ := I.tuple hq
    obtain ⟨as, ra⟩ := DatVs.reads I ds hd rv
    exact ⟨_, .tuple e c d (by simpa using ra)⟩
  | .dict _, x, u, h, r => by
    rw [DatV] at h; exact h.elim
theorem DatVs.reads (I : Inv X pins σ H s) : ∀ (ds : List PyData) {xs : List V} {us : List Value}, DatVs X.K H ds xs → Vals xs us → ∃ as, ReadsAll s.heap us ds as
  | [], xs, us, h, r => by
    rw [DatVs] at h; subst h; cases r; exact ⟨_, .nil⟩
  | d :: ds, xs, us, h, r => by
    rw [DatVs] at h
    obtain ⟨y, ys, rfl, h1, h2⟩ := h
    cases r with
    | cons r1 r2 =>
      obtain ⟨as, a1⟩ := DatV.reads I d h1 r1
      obtain ⟨bs, a2⟩ := DatVs.reads I ds h2 r2
      exact ⟨_, .cons a1 a2⟩
end
end
theorem DatV.int (K : PySem.W.Frag) (H : Hp) (i : Int) : DatV K H (.int i) (.int i) := by rw [DatV]
theorem DatV.bool (K : PySem.W.Frag) (H : Hp) (i : Bool) : DatV K H (.bool i) (.bl i) := by rw [DatV]
theorem DatV.str (K : PySem.W.Frag) (H : Hp) (i : Str) : DatV K H (.str i) (.str i) := by rw [DatV]
theorem DatV.list {K : PySem.W.Frag} {H : Hp} {a : Addr} {xs : List V} {ds : List PyData} (h : SqL K H a xs) (k : DatVs K H ds xs) : DatV K H (.list ds) (.ref a) := by rw [DatV]; exact ⟨a, xs, rfl, h, k⟩
theorem DatV.tuple {K : PySem.W.Frag} {H : Hp} {a : Addr} {xs : List V} {ds : List PyData} (h : SqT K H a xs) (k : DatVs K H ds xs) : DatV K H (.tuple ds) (.ref a) := by rw [DatV]; exact ⟨a, xs, rfl, h, k⟩
theorem DatVs.nil {K : PySem.W.Frag} {H : Hp} : DatVs K H [] [] := by rw [DatVs]
theorem DatVs.cons {K : PySem.W.Frag} {H : Hp} {d : PyData} {ds : List PyData} {x : V} {xs : List V} (h : DatV K H d x) (k : DatVs K H ds xs) : DatVs K H (d :: ds) (x :: xs) := by rw [DatVs]; exact ⟨x, xs, rfl, h, k⟩
theorem DatVs.ints (K : PySem.W.Frag) (H : Hp) : ∀ ns : List Int, DatVs K H (ns.map .int) (ns.map V.int)
  | [] => .nil
  | n :: ns => .cons (.int K H n) (DatVs.ints K H ns)
noncomputable abbrev shpd := SeqAt.shaped
theorem shpd_ints (ns : List Int) : shpd (.list (ns.map PyData.int)) = true := PySem.W.ke_shaped_ints ns
theorem shpd_tints (ns : List Int) : shpd (.tuple (ns.map PyData.int)) = true := by
  have h := PySem.W.ke_shaped_ints ns
  simpa [SeqAt.shaped, PyData.canLay0, PyData.depth] using h
theorem eqvAll_ints : ∀ ns ms : List Int, PyData.eqvAll (ns.map .int) (ms.map .int) = decide (ns = ms)
  | [], [] => by simp [PyData.eqvAll]
  | [], _ :: _ => by simp [PyData.eqvAll]
  | _ :: _, [] => by simp [PyData.eqvAll]
  | a :: r, b :: t => by
    simp only [List.map_cons, PyData.eqvAll, PyData.eqv, eqvAll_ints r t]
    by_cases h : a = b <;> by_cases h' : r = t <;> simp [h, h']

noncomputable def rEqU (K : PySem.W.Frag) : R2 := fun x y H Q => ∃ d e, DatV K H d x ∧ DatV K H e y ∧ shpd d = true ∧ shpd e = true ∧ Q (.bl (PyData.eqv d e)) H
noncomputable def rNeU (K : PySem.W.Frag) : R2 := fun x y H Q => ∃ d e, DatV K H d x ∧ DatV K H e y ∧ shpd d = true ∧ shpd e = true ∧ Q (.bl (!PyData.eqv d e)) H
section
variable {X : Cx}
theorem opU_eq (hu : X.A.units + 64 < cLine) : OpR X (compareOp .Eq) (rEqU X.K) := by
  intro pins s σ H x y v u Q I rx ry h
  obtain ⟨d, e, hd, he, sd, se, q⟩ := h
  obtain ⟨as, ra⟩ := DatV.reads I d hd rx
  obtain ⟨bs, rb⟩ := DatV.reads I e he ry
  exact eq_dataH ra rb sd se hu ⟨.bl _, H, I, rfl, q⟩
theorem opU_ne (hu : X.A.units + 64 < cLine) : OpR X (compareOp .NotEq) (rNeU X.K) := by
  intro pins s σ H x y v u Q I rx ry h
  obtain ⟨d, e, hd, he, sd, se, q⟩ := h
  obtain ⟨as, ra⟩ := DatV.reads I d hd rx
  obtain ⟨bs, rb⟩ := DatV.reads I e he ry
  exact ne_dataH ra rb sd se hu ⟨.bl _, H, I, rfl, q⟩

noncomputable def rAddU (K : PySem.W.Frag) : R2 := fun x y H Q => rI0 (fun i j => .int (i + j)) x y H Q ∨ (rCat x y H Q ∨ rCatT K x y H Q)
theorem opU_add : OpR X (binaryOp .Add) (rAddU X.K) := op_add.or (op_cat.or op_catT)
noncomputable def rMulU : R2 := fun x y H Q => rI CMul (fun i j => .int (i * j)) x y H Q ∨ rRep x y H Q
theorem opU_mul : OpR X (binaryOp .Mult) rMulU := op_mul.or op_rep
noncomputable def rIsnU : R2 := fun x y H Q => (y = .non ∧ Q (.bl (!decide (x = .non))) H) ∨ (∃ a b, x = .bl a ∧ y = .bl b ∧ Q (.bl (a != b)) H)
theorem op_isnB : OpR X (compareOp .IsNot) (fun x y H Q => ∃ a b, x = .bl a ∧ y = .bl b ∧ Q (.bl (a != b)) H) := by
  intro pins s σ H x y v u Q I rx ry h
  obtain ⟨a, b, rfl, rfl, q⟩ := h
  cases rx
  cases ry
  exact isnot_bool ⟨.bl _, H, I, rfl, q⟩
theorem opU_isnot : OpR X (compareOp .IsNot) rIsnU := op_notN.or op_isnB
theorem slU : SlR X (fun x lo hi H Q => rSlL X.K x lo hi H Q ∨ rSlT X.K x lo hi H Q) := sl_list.or sl_tup

noncomputable def rBits : V → List V → Hp → VK → Prop := fun x xs H Q => ∃ i, x = .int i ∧ xs = [] ∧ Q (.int (Builtin.Int.intBits i)) H
theorem mt_bits : MtR X "int.bit_length" rBits := by
  intro pins s σ H x xs v us Q I rx rv h
  obtain ⟨i, rfl, rfl, q⟩ := h
  obtain ⟨t, rfl⟩ := rx
  have hus := rv.zero
  subst hus
  exact call_int_bit_length ⟨.int _, H, I.tok _, ⟨_, rfl⟩, q⟩

theorem range_all (bs : List Bool) : (List.range bs.length).all (fun i => bs[i]?.getD false) = bs.all id := by
  rw [Bool.eq_iff_iff]
  simp only [List.all_eq_true, List.mem_range, id]
  constructor
  · intro h b hb
    obtain ⟨i, hi, e⟩ := List.mem_iff_getElem.mp hb
    have := h i hi
    simp only [List.getElem?_eq_getElem hi, Option.getD_some, e] at this
    exact this
  · intro h i hi
    simp only [List.getElem?_eq_getElem hi, Option.getD_some]
    exact h _ (List.getElem_mem hi)
noncomputable def rAllL (K : PySem.W.Frag) (g : List Bool → Bool) : List V → Hp → VK → Prop := fun xs H Q => ∃ a bs, xs = [.ref a] ∧ SqL K H a (bs.map V.bl) ∧ Q (.bl (g bs)) H
theorem vals_bools : ∀ {bs : List Bool} {us : List Value}, Vals (bs.map V.bl) us → us = bs.map Value.bool
  | [], _, .nil => rfl
  | b :: bs, _, .cons r t => by
    have e : _ = Value.bool b := r
    rw [e, vals_bools t]
    rfl
theorem call_allL (hc : X.calm = true) : CallR X (.builtin "all") (rAllL X.K fun bs => bs.all id) := by
  intro pins s σ H xs us Q I r h
  obtain ⟨a, bs, rfl, hq, q⟩ := h
  obtain ⟨u, rfl, ru⟩ := r.one
  cases ru
  obtain ⟨its, rv, pl, hz⟩ := I.list hq
  have ei := vals_bools rv
  subst ei
  have hh : X.A.in1.handled = none := I.ok.hd hc
  have al : a < s.heap.objs.size := by obtain ⟨o, n, e, _⟩ := pl; exact Heap.lt_size e
  refine call_all_walk (wpAny_pyIter_list pl.isList ?_)
  refine ⟨s.heap.objs.size, _, _, _, _, _, fun i => bs[i]?.getD false, rfl, Walks.list hh s.heap.objs.size a (Nat.ne_of_lt al) (bs.map Value.bool).toArray, ⟨⟨_, Heap.get?_push_size _ rfl, rfl, rfl⟩, pl.isList.push _⟩, ?_, fun h' tk hk => ?_⟩
  · intro i v s' Q' E' hv hQ
    have hv : (bs.map Value.bool)[i]? = some v := by simpa using hv
    rw [List.getElem?_map] at hv
    cases e : bs[i]? with
    | none => rw [e] at hv; cases hv
    | some b =>
      rw [e] at hv
      cases hv
      simp only [e, Option.getD_some] at hQ
      exact wpAny_truthy_bool hQ
  · have I2 : Inv X pins σ H { s with heap := h', toks := tk } := I.kept fun b o e => hk b o (by
      intro z
      have z : b = s.heap.objs.size := by simpa using z
      exact absurd (Heap.lt_size e) (by rw [z]; exact Nat.lt_irrefl _)) (Heap.get?_push_of_some _ e)
    refine ⟨.bl _, H, I2, rfl, ?_⟩
    have e : (bs.map Value.bool).toArray.size = bs.length := by simp
    rw [e, range_all]
    exact q
noncomputable def rIsi (K : PySem.W.Frag) : List V → Hp → VK → Prop := fun xs H Q => ∃ x T t b, xs = [x, .ty T] ∧ TyOf K H x t ∧ PySem.W.kitOne K t (.type T) = some b ∧ Q (.bl b) H
theorem call_isi : CallR X (.builtin "isinstance") (rIsi X.K) := by
  intro pins s σ H xs us Q I r h
  obtain ⟨x, T, t, b, rfl, ty, e, q⟩ := h
  obtain ⟨u, v, rfl, ru, rv⟩ := r.two
  cases rv
  exact isinst_ok I ru ty e fun tk => ⟨.bl b, H, I.tok tk, rfl, q⟩

noncomputable def rLen (K : PySem.W.Frag) : List V → Hp → VK → Prop := fun xs H Q => ∃ x n, xs = [x] ∧ LenV K x H n ∧ Q (.int n) H
theorem call_lenN : CallR X (.builtin "len") (rLen X.K) := call_len
noncomputable def rAbs : List V → Hp → VK → Prop := fun xs H Q => ∃ i, xs = [.int i] ∧ Q (.int (if i < 0 then -i else i)) H
theorem call_absN : CallR X (.builtin "abs") rAbs := call_abs
noncomputable def rInt1 : List V → Hp → VK → Prop := fun xs H Q => (∃ i, xs = [.int i] ∧ Q (.int i) H) ∨ ∃ k, xs = [.bl k] ∧ Q (.int (if k then 1 else 0)) H
theorem call_intN : CallR X (.type "int") rInt1 := call_int1
noncomputable def rListOf (K : PySem.W.Frag) : List V → Hp → VK → Prop := fun xs H Q => ∃ p ys, xs = [.ref p] ∧ (SqL K H p ys ∨ SqT K H p ys) ∧ ∀ l, H l = none → Q (.ref l) (upd H l (.lst ys))
theorem call_listN : CallR X (.type "list") (rListOf X.K) := call_list_of
noncomputable def rTupOf (K : PySem.W.Frag) : List V → Hp → VK → Prop := fun xs H Q => ∃ p ys, xs = [.ref p] ∧ ((SqL K H p ys ∧ ∀ l, H l = none → Q (.ref l) (upd H l (.tup ys))) ∨ (SqT K H p ys ∧ Q (.ref p) H))
theorem call_tupN : CallR X (.type "tuple") (rTupOf X.K) := call_tuple_of
noncomputable def rMax2 : List V → Hp → VK → Prop := fun xs H Q => ∃ i j, xs = [.int i, .int j] ∧ Q (.int (if j > i then j else i)) H
theorem call_maxN (hc : X.calm = true) : CallR X (.builtin "max") rMax2 := call_max2 hc
noncomputable def rMin2 : List V → Hp → VK → Prop := fun xs H Q => ∃ i j, xs = [.int i, .int j] ∧ Q (.int (if j < i then j else i)) H
theorem call_minN (hc : X.calm = true) : CallR X (.builtin "min") rMin2 := call_min2 hc
theorem pe_globI {x : Str} {i : Int} {pos : Pos} (h : ∃ t, X.mg x = some (.int i t)) (hg : Gl X x := by rfl) (hd : (x == ("__debug__" : Str)) = false := by decide) : PE X (.Name x pos) (tC (.int i)) := by
  obtain ⟨t, e⟩ := h
  exact pe_glob hg e ⟨t, rfl⟩ hd
end
end L2

set_option linter.all false
set_option maxRecDepth 100000
namespace L2
open PySem PySem.Spec PyProof.Rows
noncomputable abbrev NewL (xs : List V) (H : Hp) (Q : VK) : Prop := xs.length ≤ sizeLine ∧ ∀ p, H p = none → Q (.ref p) (upd H p (.lst xs))
noncomputable abbrev NewT (xs : List V) (H : Hp) (Q : VK) : Prop := xs.length ≤ sizeLine ∧ ∀ p, H p = none → Q (.ref p) (upd H p (.tup xs))
section
variable {D : Ends} {σ : St} {H : Hp} {Q : VK}
theorem s_seq {t u : TS} (h : t { D with nx := u D } σ H) : tSeq t u D σ H := h
theorem s_next (h : D.nx σ H) : tNext D σ H := h
theorem s_nx {f : St → Hp → Prop} {r : VK} {b c : St → Hp → Prop} (h : f σ H) : Ends.nx { nx := f, rt := r, bk := b, ct := c } σ H := h
theorem s_rt {f : St → Hp → Prop} {r : VK} {b c : St → Hp → Prop} {v : V} (h : r v H) : Ends.rt { nx := f, rt := r, bk := b, ct := c } v H := h
theorem s_asg {te : TE} {g : TG} (h : te σ H fun x H1 => g x σ H1 D.nx) : tAsg te g D σ H := h
theorem s_ret {te : TE} (h : te σ H D.rt) : tRet te D σ H := h
theorem s_drop {te : TE} (h : te σ H fun _ H1 => D.nx σ H1) : tDrop te D σ H := h
theorem s_if {c : TT} {t u : TS} (h : c σ H fun b H1 => if b = true then t D σ H1 else u D σ H1) : tIfS c t u D σ H := h
theorem s_gname {i : Nat} {v : V} {K : St → Hp → Prop} (h : K (σ.set i (some v)) H) : gName i v σ H K := h
theorem s_gnil {K : St → Hp → Prop} (h : K σ H) : gNil [] σ H K := ⟨rfl, h⟩
theorem s_gcons {t : TG} {u : TGs} {v : V} {r : List V} {K : St → Hp → Prop} (h : t v σ H fun σ' H' => u r σ' H' K) : gCons t u (v :: r) σ H K := ⟨v, r, rfl, h⟩
theorem s_gsub {to ti : TE} {t : TSet} {v : V} {K : St → Hp → Prop} (h : to σ H fun o H1 => ti σ H1 fun i H2 => t o i v H2 fun H3 => K σ H3) : gSub to ti t v σ H K := h
theorem s_var {i : Nat} {v : V} (e : σ[i]? = some (some v)) (h : Q v H) : tVar i σ H Q := ⟨v, e, h⟩
theorem s_c {v : V} (h : Q v H) : tC v σ H Q := h
theorem s_op {r : R2} {ta tb : TE} (h : ta σ H fun x H1 => tb σ H1 fun y H2 => r x y H2 Q) : tOp r ta tb σ H Q := h
theorem s_un {r : V → Hp → VK → Prop} {ta : TE} (h : ta σ H fun x H1 => r x H1 Q) : tUn r ta σ H Q := h
theorem s_cb {r : List V → Hp → VK → Prop} {t : TA} (h : t σ H fun vs H1 => r vs H1 Q) : tCB r t σ H Q := h
theorem s_call {sp : Sp} {E : XK} {t : TA} (h : t σ H fun vs H1 => sp (vs ++ []) H1 Q E) : tCall sp [] E t σ H Q := h
theorem s_nil {K : List V → Hp → Prop} (h : K [] H) : tNil σ H K := h
theorem s_cons {ta : TE} {tr : TA} {K : List V → Hp → Prop} (h : ta σ H fun x H1 => tr σ H1 fun xs H2 => K (x :: xs) H2) : tCons ta tr σ H K := h
theorem s_lst {t : TA} (h : t σ H fun xs H1 => NewL xs H1 Q) : tLst t σ H Q := h
theorem s_tup {t : TA} (h : t σ H fun xs H1 => NewT xs H1 Q) : tTup t σ H Q := h
theorem s_test {t : TE} {K : Bool → Hp → Prop} (h : t σ H fun x H' => ∃ k, x = .bl k ∧ K k H') : tTest t σ H K := h
theorem s_b {t : TE} {K : Bool → Hp → Prop} (h : t σ H fun x H' => ∃ k, x = .bl k ∧ K k H') : tB t σ H K := h
theorem s_ebl {b : Bool} {K : Bool → Prop} (h : K b) : ∃ k, V.bl b = .bl k ∧ K k := ⟨b, rfl, h⟩
theorem s_and {t u : TT} {K : Bool → Hp → Prop} (h : t σ H fun c H1 => if c = true then u σ H1 K else K false H1) : tAnd t u σ H K := h
theorem s_or {t u : TT} {K : Bool → Hp → Prop} (h : t σ H fun c H1 => if c = true then K true H1 else u σ H1 K) : tOr t u σ H K := h
theorem s_not {t : TT} {K : Bool → Hp → Prop} (h : t σ H fun c H1 => K (!c) H1) : tNot t σ H K := h
theorem s_andV {ta tb : TE} (h : ta σ H fun x H1 => ∃ c, x = .bl c ∧ if c = true then tb σ H1 Q else Q (.bl false) H1) : tAndV ta tb σ H Q := h
theorem s_notV {ta : TE} (h : ta σ H fun x H1 => ∃ c, x = .bl c ∧ Q (.bl (!c)) H1) : tNotV ta σ H Q := h
theorem s_ifE {t : TT} {ta tb : TE} (h : t σ H fun c H1 => if c = true then ta σ H1 Q else tb σ H1 Q) : tIf t ta tb σ H Q := h
theorem s_chain {r r' : R2} {ta tb tc : TE} (h : ta σ H fun x H1 => tb σ H1 fun y H2 => r x y H2 fun z H3 => ∃ k, z = .bl k ∧ if k = true then tc σ H3 fun u H4 => r' y u H4 Q else Q (.bl false) H3) : tChain r r' ta tb tc σ H Q := by
    exact h
theorem s_true {K : Bool → Hp → Prop} (h : K true H) : tTrue σ H K := h
theorem s_ri {C : Int → Int → Prop} {g : Int → Int → V} {i j : Int} (c : C i j) (h : Q (g i j) H) : rI C g (.int i) (.int j) H Q := ⟨i, j, rfl, rfl, c, h⟩
theorem s_ri0 {g : Int → Int → V} {i j : Int} (h : Q (g i j) H) : rI0 g (.int i) (.int j) H Q := ⟨i, j, rfl, rfl, h⟩
theorem s_ru {g : Int → V} {i : Int} (h : Q (g i) H) : rU g (.int i) H Q := ⟨i, rfl, h⟩
theorem s_add_i {K : PySem.W.Frag} {i j : Int} (h : Q (.int (i + j)) H) : rAddU K (.int i) (.int j) H Q := .inl ⟨i, j, rfl, rfl, h⟩
theorem s_eq_i {K : PySem.W.Frag} {i j : Int} (h : Q (.bl (i == j)) H) : rEqU K (.int i) (.int j) H Q := ⟨.int i, .int j, .int K H i, .int K H j, rfl, rfl, h⟩
theorem s_ne_i {K : PySem.W.Frag} {i j : Int} (h : Q (.bl (!(i == j))) H) : rNeU K (.int i) (.int j) H Q := ⟨.int i, .int j, .int K H i, .int K H j, rfl, rfl, h⟩
theorem s_eq_b {K : PySem.W.Frag} {i j : Bool} (h : Q (.bl (i == j)) H) : rEqU K (.bl i) (.bl j) H Q := ⟨.bool i, .bool j, .bool K H i, .bool K H j, rfl, rfl, h⟩
theorem s_ix_l {K : PySem.W.Frag} {p : Addr} {i : Int} {xs : List V} {v : V} (hq : SqL K H p xs) (h0 : 0 ≤ i) (e : xs[i.toNat]? = some v) (h : Q v H) : rIx K (.ref p) (.int i) H Q := by
  have e' : atI xs i = some v := by
    have := atI_nat e
    rwa [Int.toNat_of_nonneg h0] at this
  exact .inl ⟨p, xs, i, v, rfl, rfl, hq, e', h⟩
theorem s_ix_t {K : PySem.W.Frag} {p : Addr} {i : Int} {xs : List V} {v : V} (hq : SqT K H p xs) (h0 : 0 ≤ i) (e : xs[i.toNat]? = some v) (h : Q v H) : rIx K (.ref p) (.int i) H Q := by
  have e' : atI xs i = some v := by
    have := atI_nat e
    rwa [Int.toNat_of_nonneg h0] at this
  exact .inr (.inl ⟨p, xs, i, v, rfl, rfl, hq, e', h⟩)
theorem s_rng1 {t : TA} {R : It → Hp → Prop} (h : t σ H fun vs H1 => ∃ j : Int, vs = [.int j] ∧ -(2 ^ 62) ≤ j ∧ j < 2 ^ 62 ∧ R (Itr 0 j.toNat) H1) : iRng1 t σ H R := h
theorem s_iseq {K : PySem.W.Frag} {t : TE} {R : It → Hp → Prop} (h : t σ H fun x H1 => ∃ a, x = .ref a ∧ (((∃ xs, SqL K H1 a xs) ∧ R (Itl K a) H1) ∨ ((∃ xs, SqT K H1 a xs) ∧ R (Itt K a) H1))) : iSeq K t σ H R := h
theorem s_bm0 {K : PySem.W.Frag} {T : String} {r : V → List V → Hp → VK → Prop} {t : TE} (h : t σ H fun x H1 => tyV K T x H1 ∧ r x [] H1 Q) : tBM0 K T r t σ H Q := h
theorem s_bm {K : PySem.W.Frag} {T : String} {r : V → List V → Hp → VK → Prop} {t : TE} {ta : TA} (h : t σ H fun x H1 => tyV K T x H1 ∧ ta σ H1 fun xs H2 => r x xs H2 Q) : tBM K T r t ta σ H Q := h
end
section
variable {σ : St} {H : Hp} {Q : VK}
theorem s_lenL {K : PySem.W.Frag} {a : Addr} {xs : List V} (hq : SqL K H a xs) (h : Q (.int xs.length) H) : rLen K [.ref a] H Q := ⟨_, _, rfl, .inl ⟨xs, hq, rfl⟩, h⟩
theorem s_lenT {K : PySem.W.Frag} {a : Addr} {xs : List V} (hq : SqT K H a xs) (h : Q (.int xs.length) H) : rLen K [.ref a] H Q := ⟨_, _, rfl, .inr ⟨xs, hq, rfl⟩, h⟩
theorem s_abs {i : Int} (h : Q (.int (if i < 0 then -i else i)) H) : rAbs [.int i] H Q := ⟨i, rfl, h⟩
theorem s_int_b {k : Bool} (h : Q (.int (if k then 1 else 0)) H) : rInt1 [.bl k] H Q := .inr ⟨k, rfl, h⟩
theorem s_max {i j : Int} (h : Q (.int (if j > i then j else i)) H) : rMax2 [.int i, .int j] H Q := ⟨i, j, rfl, h⟩
theorem s_min {i j : Int} (h : Q (.int (if j < i then j else i)) H) : rMin2 [.int i, .int j] H Q := ⟨i, j, rfl, h⟩
theorem s_isnB {a b : Bool} (h : Q (.bl (a != b)) H) : rIsnU (.bl a) (.bl b) H Q := .inr ⟨a, b, rfl, rfl, h⟩
theorem s_app {p : Addr} {xs : List V} {y : V} (hp : H p = some (.lst xs)) (hz : xs.length < sizeLine) (h : Q .non (upd H p (.lst (xs ++ [y])))) : rAppend (.ref p) [y] H Q := ⟨p, xs, y, rfl, rfl, hp, hz, h⟩
theorem s_bits {i : Int} (h : Q (.int (Builtin.Int.intBits i)) H) : rBits (.int i) [] H Q := ⟨i, rfl, rfl, h⟩
theorem s_isi_ii {K : PySem.W.Frag} {i : Int} (h : Q (.bl true) H) : rIsi K [.int i, .ty "int"] H Q := ⟨_, "int", _, true, rfl, TyOf.int i, rfl, h⟩
theorem s_isi_ib {K : PySem.W.Frag} {i : Int} (h : Q (.bl false) H) : rIsi K [.int i, .ty "bool"] H Q := ⟨_, "bool", _, false, rfl, TyOf.int i, rfl, h⟩
theorem s_isi_tt {K : PySem.W.Frag} {a : Addr} {xs : List V} (hq : H a = some (.tup xs)) (h : Q (.bl true) H) : rIsi K [.ref a, .ty "tuple"] H Q := ⟨_, "tuple", _, true, rfl, TyOf.tup hq, rfl, h⟩
theorem s_sl {r : V → Option Int → Option Int → Hp → VK → Prop} {te : TE} {tl th : TO} (h : te σ H fun x H1 => tl σ H1 fun l H2 => th σ H2 fun u H3 => r x l u H3 Q) : tSl r te tl th σ H Q := h
theorem s_nopart {K : Option Int → Hp → Prop} (h : K none H) : tNoPart σ H K := h
theorem s_part {t : TE} {K : Option Int → Hp → Prop} (h : t σ H fun x H1 => ∃ i, x = .int i ∧ K (some i) H1) : tPart t σ H K := h
theorem s_eint {j : Int} {K : Int → Prop} (h : K j) : ∃ i, V.int j = .int i ∧ K i := ⟨j, rfl, h⟩
theorem s_zip {K : PySem.W.Frag} {t : TA} {R : It → Hp → Prop} (h : t σ H fun vs H1 => ∃ a b xs ys, vs = [.ref a, .ref b] ∧ SqL K H1 a xs ∧ SqL K H1 b ys ∧ R (Itz K a b xs ys) H1) : iZip K t σ H R := h
theorem s_gtup {K : PySem.W.Frag} {n : Nat} {t : TGs} {a : Addr} {xs : List V} {K' : St → Hp → Prop} (hq : SqT K H a xs) (hl : xs.length = n) (h : t xs σ H K') : gTup K n t (.ref a) σ H K' := ⟨a, xs, rfl, hq, hl, h⟩
theorem s_set {p : Addr} {xs : List V} {k : Int} {j : Nat} {v : V} {K : Hp → Prop} (hp : H p = some (.lst xs)) (e : ixN xs.length k = some j) (h : K (upd H p (.lst (xs.set j v)))) : rSetL (.ref p) (.int k) v H K := ⟨p, xs, k, j, rfl, rfl, hp, e, h⟩
end
theorem s_tyI {K : PySem.W.Frag} {i : Int} {H : Hp} {P : Prop} (h : P) : tyV K "int" (.int i) H ∧ P := ⟨rfl, h⟩
theorem s_tyL {K : PySem.W.Frag} {p : Addr} {xs : List V} {H : Hp} {P : Prop} (hq : SqL K H p xs) (h : P) : tyV K "list" (.ref p) H ∧ P := ⟨.inl ⟨rfl, xs, hq⟩, h⟩
theorem comp_range0 {n : Nat} {src : List (Option Nat)} {σ : St} {g : TG} {tc : TT} {te : TE} {Q : VK} {H : Hp} (Pv : Nat → List V → Hp → Prop) (h0 : Pv 0 [] H) (len : ∀ i acc H, Pv i acc H → acc.length ≤ sizeLine)
    (step : ∀ i acc H, i < n → Pv i acc H → g (.int (i : Nat)) (capt src σ) H fun σ2 H2 => Ext (capt src σ) σ2 ∧ tc σ2 H2 fun b H3 => if b = true then te σ2 H3 (fun y H4 => Pv (i + 1) (acc ++ [y]) H4) else Pv (i + 1) acc H3)
    (done : ∀ acc H, Pv n acc H → ∀ p, H p = none → Q (.ref p) (upd H p (.lst acc))) : CompW (Itr 0 n) src σ g tc te Q H :=
  comp_range Pv h0 len (fun i acc H hi p => by rw [Int.zero_add]; exact step i acc H hi p) done
theorem small5 {n : Nat} (h : n ≤ 100000) : n < sizeLine := Nat.lt_of_le_of_lt h (by decide)
theorem s_ifd {c A B : Prop} [Decidable c] (h1 : c → A) (h2 : ¬ c → B) : if decide c = true then A else B := by
  by_cases h : c
  · rw [if_pos (decide_eq_true h)]; exact h1 h
  · rw [if_neg (by rw [decide_eq_false h]; exact Bool.false_ne_true)]; exact h2 h
theorem s_ifeq {i j : Int} {A B : Prop} (h1 : i = j → A) (h2 : ¬ i = j → B) : if (i == j) = true then A else B := by
  by_cases h : i = j
  · rw [if_pos (by simpa using h)]; exact h1 h
  · rw [if_neg (by simpa using h)]; exact h2 h
theorem s_ifnt {A B : Prop} (h : B) : if (!true) = true then A else B := iteF h
theorem s_ifnf {A B : Prop} (h : A) : if (!false) = true then A else B := iteT h
theorem s_ext1 {σ : St} {i : Nat} {v : V} {P : Prop} (h : σ[i]? = some none) (p : P) : Ext σ (σ.set i (some v)) ∧ P := ⟨ext_set h, p⟩
theorem s_ext2 {σ : St} {i j : Nat} {v u : V} {P : Prop} (h : σ[i]? = some none) (k : (σ.set i (some v))[j]? = some none) (p : P) : Ext σ ((σ.set i (some v)).set j (some u)) ∧ P := ⟨(ext_set h).trans (ext_set k), p⟩
section
variable {X : Cx} {K : PySem.W.Frag} {tg l a b e o : Expr} {es : List Expr} {tl ta tb to : TE} {tA : TA}
theorem k_eq (hu : X.A.units + 64 < cLine) (hK : X.K = K := by rfl) : OpR X (compareOp .Eq) (rEqU K) := hK ▸ opU_eq hu
theorem k_ne (hu : X.A.units + 64 < cLine) (hK : X.K = K := by rfl) : OpR X (compareOp .NotEq) (rNeU K) := hK ▸ opU_ne hu
theorem k_add (hK : X.K = K := by rfl) : OpR X (binaryOp .Add) (rAddU K) := hK ▸ opU_add
theorem k_ix (hK : X.K = K := by rfl) : IxR X (rIx K) := hK ▸ ix_seq
noncomputable def rSlU (K : PySem.W.Frag) : V → Option Int → Option Int → Hp → VK → Prop := fun x lo hi H Q => rSlL K x lo hi H Q ∨ rSlT K x lo hi H Q
theorem k_sl (hK : X.K = K := by rfl) : SlR X (rSlU K) := hK ▸ slU
theorem k_pi_seq (hl : PE X l tl) (hK : X.K = K := by rfl) : PI X tg l (iSeq K tl) := hK ▸ pi_seq hl
theorem k_pi_zip {elts : List Expr} {kk : Nat} {tpos p pos : Pos} (hm : X.mg "zip" = none) (ha : PA X [a, b] tA) (hg : Gl X "zip" := by rfl)
    (hs : starEach [a, b] X.env = [(false, eval a X.env), (false, eval b X.env)] := by rfl) (hs2 : starEach [b] X.env = [(false, eval b X.env)] := by rfl) (hK : X.K = K := by rfl) : PI X (.Tuple elts kk tpos) (.Call (.Name "zip" p) [a, b] [] pos) (iZip K tA) := hK ▸ pi_zip hm ha hg hs hs2
theorem k_len (hK : X.K = K := by rfl) : CallR X (.builtin "len") (rLen K) := hK ▸ call_lenN
theorem k_list (hK : X.K = K := by rfl) : CallR X (.type "list") (rListOf K) := hK ▸ call_listN
theorem k_tup (hK : X.K = K := by rfl) : CallR X (.type "tuple") (rTupOf K) := hK ▸ call_tupN
theorem k_all (hc : X.calm = true) (hK : X.K = K := by rfl) : CallR X (.builtin "all") (rAllL K fun bs => bs.all id) := hK ▸ call_allL hc
theorem k_isi (hK : X.K = K := by rfl) : CallR X (.builtin "isinstance") (rIsi K) := hK ▸ call_isi
theorem k_pgtup {pos : Pos} {k : Nat} {t : TGs} {n : Nat} (hc : X.calm = true) (h : PGs X es t) (hn : (assignEach es X.env).length = n := by rfl) (hst : (assignEach es X.env).findIdx? (·.1) = none := by rfl) (hK : X.K = K := by rfl) : PG X (.Tuple es k pos) (gTup K n t) := hK ▸ pg_tup hc h hn hst
theorem k_bm0 {name : Str} {apos cpos : Pos} {T id : String} {r : V → List V → Hp → VK → Prop} (pa : PlainAttrs T) (slot : Slot T name id) (hty : typeOf (.builtin id) = pure (.type "method_descriptor")) (hm : MtR X id r) (ho : PE X o to)
    (hbase : attributeBase o name X.env (eval o X.env) = eval o X.env := by rfl) (hline : (apos.endLine == cpos.line) = true := by rfl) (hK : X.K = K := by rfl) : PE X (.Call (.Attribute o name apos) [] [] cpos) (tBM0 K T r to) := hK ▸ pe_bm0 pa slot hty hm ho hbase hline
theorem k_bm {name : Str} {apos cpos : Pos} {T id : String} {r : V → List V → Hp → VK → Prop} (pa : PlainAttrs T) (slot : Slot T name id) (hty : typeOf (.builtin id) = pure (.type "method_descriptor")) (hm : MtR X id r) (ho : PE X o to) (ha : PA X (e :: es) tA)
    (hbase : attributeBase o name X.env (eval o X.env) = eval o X.env := by rfl)
    (hfew : ((backTo cpos (starEach (e :: es) X.env)).all (fun x => !x.1) && (backToKw cpos (keywordEach [] X.env)).all (fun x => x.1.isSome)
      && decide ((e :: es).length + ([] : List Keyword).length + (if ([] : List Keyword).isEmpty then 0 else 1) < 30)) = true := by rfl)
    (hline : (apos.endLine == cpos.line) = true := by rfl) (hs : starEach (e :: es) X.env = (false, eval e X.env) :: starEach es X.env := by rfl) (hplain : (backTo cpos (starEach es X.env)).any (·.1) = false := by rfl) (hK : X.K = K := by rfl) :
    PE X (.Call (.Attribute o name apos) (e :: es) [] cpos) (tBM K T r to tA) := hK ▸ pe_bm pa slot hty hm ho ha hbase hfew hline hs hplain
end
noncomputable abbrev ForW (J : It) (g : TG) (tb : TS) (D : Ends) (σ : St) (H1 : Hp) : Prop := ∃ W : Nat → Nat → St → Hp → Prop, (∃ m, W 0 m σ H1) ∧ ∀ i m σ H, W i m σ H →
  (J.stop i H ∧ D.nx σ H) ∨ (J.go i H ∧ ∃ N : St → Hp → Prop, (∀ σ' H', N σ' H' → ∃ m', m' < m ∧ W (i + 1) m' σ' H') ∧ ∀ x H', J.yld i H x H' → g x σ H' fun σ2 H2 => tb { D with nx := N, ct := N, bk := D.nx } σ2 H2)
theorem for_range0 {n : Nat} {g : TG} {tb : TS} {D : Ends} {σ : St} {H : Hp} (Pv : Nat → St → Hp → Prop) (h0 : Pv 0 σ H)
    (hs : ∀ i σ H, i < n → Pv i σ H → g (.int (i : Nat)) σ H fun σ2 H2 => tb { D with nx := Pv (i + 1), ct := Pv (i + 1), bk := D.nx } σ2 H2) (hd : ∀ σ H, Pv n σ H → D.nx σ H) : ForW (Itr 0 n) g tb D σ H :=
  for_range Pv h0 (fun i σ H hi p => by rw [Int.zero_add]; exact hs i σ H hi p) hd
theorem s_for {wi : TI} {g : TG} {tb : TS} {D : Ends} {σ : St} {H : Hp} (h : wi σ H fun J H1 => ForW J g tb D σ H1) : tFor wi g tb D σ H := h
theorem s_rngF {j : Int} {n : Nat} {g : TG} {tb : TS} {D : Ends} {σ : St} {H : Hp} (e : j = (n : Int)) (hn : n ≤ 1000000) (h : ForW (Itr 0 n) g tb D σ H) : ∃ i : Int, [V.int j] = [V.int i] ∧ -(2 ^ 62) ≤ i ∧ i < 2 ^ 62 ∧ ForW (Itr 0 i.toNat) g tb D σ H := by
  subst e
  exact ⟨n, rfl, by omega, by omega, by simpa using h⟩
theorem s_rngC {j : Int} {n : Nat} {src : List (Option Nat)} {g : TG} {tc : TT} {te : TE} {Q : VK} {σ : St} {H : Hp} (e : j = (n : Int)) (hn : n ≤ 1000000) (h : CompW (Itr 0 n) src σ g tc te Q H) : ∃ i : Int, [V.int j] = [V.int i] ∧ -(2 ^ 62) ≤ i ∧ i < 2 ^ 62 ∧ CompW (Itr 0 i.toNat) src σ g tc te Q H := by
  subst e
  exact ⟨n, rfl, by omega, by omega, by simpa using h⟩
theorem s_comp {src : List (Option Nat)} {wi : TI} {g : TG} {tc : TT} {te : TE} {σ : St} {H : Hp} {Q : VK} (h : wi σ H fun J H1 => CompW J src σ g tc te Q H1) : tComp src wi g tc te σ H Q := h
theorem s_asgComp {src : List (Option Nat)} {wi : TI} {g : TG} {tc : TT} {te : TE} {j : Nat} {D : Ends} {σ : St} {H : Hp} (h : tComp src wi g tc te σ H fun x H1 => D.nx (σ.set j (some x)) H1) : tAsgComp src wi g tc te j D σ H := h
theorem comp_seqL {K : PySem.W.Frag} {a : Addr} {xs : List V} {src : List (Option Nat)} {σ : St} {g : TG} {tc : TT} {te : TE} {Q : VK} {H : Hp} (hA : SqL K H a xs)
    (h : CompW (Itl K a) src σ g tc te Q H) : ∃ b, V.ref a = .ref b ∧ (((∃ xs, SqL K H b xs) ∧ CompW (Itl K b) src σ g tc te Q H) ∨ ((∃ xs, SqT K H b xs) ∧ CompW (Itt K b) src σ g tc te Q H)) := ⟨a, rfl, .inl ⟨⟨xs, hA⟩, h⟩⟩
theorem same_upd {H : Hp} {p : Addr} {o : HO} (h : H p = none) : Same H (upd H p o) := fun b u e => by rw [upd_ne (ne_of_none e h)]; exact e
structure But (p : Addr) (H H' : Hp) : Prop where
  keep : ∀ b o, b ≠ p → H b = some o → H' b = some o
  fst : ∀ q r, H p = some (.lst (.ref q :: r)) → ∃ r', H' p = some (.lst (.ref q :: r'))
theorem But.trans {p : Addr} {H H1 H2 : Hp} (a : But p H H1) (b : But p H1 H2) : But p H H2 := ⟨fun c o n h => b.keep c o n (a.keep c o n h), fun q r h => by
  obtain ⟨r1, h1⟩ := a.fst q r h
  exact b.fst q r1 h1⟩
theorem Same.but {p : Addr} {H H' : Hp} (s : Same H H') : But p H H' := ⟨fun b o _ h => s b o h, fun q r h => ⟨r, s _ _ h⟩⟩
theorem But.updL {p q : Addr} {H : Hp} {r r' : List V} (h : H p = some (.lst (.ref q :: r))) : But p H (upd H p (.lst (.ref q :: r'))) := ⟨fun b u n e => by rw [upd_ne n]; exact e, fun q' r2 e => by
  rw [h] at e
  cases e
  exact ⟨r', upd_same⟩⟩
theorem But.upd' {p q : Addr} {H0 H : Hp} {o : HO} (b : But p H0 H) (hq : H0 q = none) : But p H0 (L2.upd H q o) := ⟨fun c u n h => by rw [upd_ne (ne_of_none h hq)]; exact b.keep c u n h, fun q' r h => by
  obtain ⟨r', h'⟩ := b.fst q' r h
  exact ⟨r', by rw [upd_ne (ne_of_none h hq)]; exact h'⟩⟩
theorem Same.upd' {q : Addr} {H0 H : Hp} {o : HO} (b : Same H0 H) (hq : H0 q = none) : Same H0 (L2.upd H q o) := fun c u h => by rw [upd_ne (ne_of_none h hq)]; exact b c u h
end L2

set_option linter.all false
set_option maxRecDepth 100000
namespace PySem
namespace F
end F
section
variable {prog : Program} {w : World} {A : Around} {E : Value → Shared → Prop} {s : Shared}
end
end PySem
namespace L2
open PySem PySem.Spec PyProof.Rows
section
variable {X : Cx} {pins : List (Addr × Obj)} {σ : St} {H : Hp} {s : Shared} {h' : Heap} {ch : List Addr}
end
section
variable {X : Cx} {K : PySem.W.Frag} {a : Expr} {ta : TA} {p p2 pos pos2 : Pos}
end
section
variable {σ : St} {H : Hp} {Q : VK}
end
end L2

set_option linter.all false
set_option maxRecDepth 100000
namespace L2
open PySem PySem.Spec PyProof.Rows
theorem enum_itemN {prog : Program} {w : World} {A : Around} {e it l : Addr} (hei : e ≠ it) (hle : l ≠ e) (hli : l ≠ it) {items : Array Value} {i : Nat} {s : Shared} {Q : Option Value → Shared → Prop} {E : Value → Shared → Prop} (hi : i < items.size)
    (hst : (∃ old, IsEnum s.heap e it i old) ∧ s.heap.IsListIter it l i ∧ s.heap.IsList l items)
    (hQ : ∀ T vals h' tk, (∃ t x, items[i]? = some x ∧ vals = #[.int i t, x]) → s.heap.objs.size ≤ T → IsTupN h' T vals →
      ((∃ x, IsEnumOut h' e it ((i : Int) + 1) x T) ∧ h'.IsListIter it l (i + 1) ∧ h'.IsList l items ∧ T ≠ e ∧ T ≠ it) →
      (∀ b o, b ∉ [e, it] → s.heap.get? b = some o → h'.get? b = some o) → Q (some (.ref T)) { s with heap := h', toks := tk }) :
    wpAny (model prog w) A (pyNext (.ref e)) Q E s := by
  obtain ⟨⟨old, he⟩, hit, hl⟩ := hst
  have hx : items[i]? = some items[i] := Array.getElem?_eq_getElem hi
  have l1 : e < s.heap.objs.size := Heap.lt_size he
  have l2 : it < s.heap.objs.size := by obtain ⟨_, x, _⟩ := hit; exact Heap.lt_size x
  refine wpAny_pyNext_enum_item he hit hl hx hei fun h' ho hit' hT hsz hk => ?_
  refine hQ s.heap.objs.size #[.int i s.toks, items[i]] h' (s.toks + 1) ⟨_, _, hx, rfl⟩ (Nat.le_refl _) ⟨_, hT, rfl, rfl, _, rfl⟩ ⟨⟨_, ho⟩, hit', ?_, Nat.ne_of_gt l1, Nat.ne_of_gt l2⟩ ?_
  · exact hl.at fun o x => hk l o hle hli x
  · exact fun b o hb x => hk b o (fun z => hb (by simp [z])) (fun z => hb (by simp [z])) x
theorem enumD_itemN {prog : Program} {w : World} {A : Around} {it : Addr} {fp : List Addr} {n : Nat} {P : Nat → Value → Prop} {St : Nat → Heap → Prop} (D : Draws prog w A.in1 it fp n P St) {e : Addr} (hei : e ≠ it) (hef : e ∉ fp) {i : Nat} {s : Shared} {Q : Option Value → Shared → Prop} {E : Value → Shared → Prop} (hi : i < n)
    (hst : (∃ old, IsEnum s.heap e it i old) ∧ St i s.heap)
    (hQ : ∀ T vals h' tk, (∃ t x, P i x ∧ vals = #[.int i t, x]) → s.heap.objs.size ≤ T → IsTupN h' T vals →
      ((∃ x, IsEnumOut h' e it ((i : Int) + 1) x T) ∧ St (i + 1) h' ∧ T ≠ e ∧ T ≠ it) →
      (∀ b o, b ∉ [e, it] → s.heap.get? b = some o → h'.get? b = some o) → Q (some (.ref T)) { s with heap := h', toks := tk }) :
    wpAny (model prog w) A (pyNext (.ref e)) Q E s := by
  obtain ⟨⟨old, he⟩, hs⟩ := hst
  have l1 : e < s.heap.objs.size := Heap.lt_size he
  have l2 : it < s.heap.objs.size := by obtain ⟨_, y⟩ := D.live _ _ hs; exact Heap.lt_size y
  refine wpAny_pyNext_enum_itemD D he hs hi hei hef fun x h' tk hP ho hs' hT hsz hk => ?_
  refine hQ s.heap.objs.size #[.int i tk, x] h' (tk + 1) ⟨_, _, hP, rfl⟩ (Nat.le_refl _) ⟨_, hT, rfl, rfl, _, rfl⟩ ⟨⟨_, ho⟩, hs', Nat.ne_of_gt l1, Nat.ne_of_gt l2⟩ ?_
  exact fun b o hb y => hk b o (fun z => hb (by simp [z])) (fun z => hb (by simp [z])) y
end L2
namespace PySem
open Sem (wp)
open AutoSeq1 (wpAny_loadPart')
section
variable {prog : Program} {w : World} {A : Around} {E : Value → Shared → Prop} {s : Shared}
end
section
variable {prog : Program} {w : World} {A : Around} {E : Value → Shared → Prop} {s : Shared}
theorem wpAny_nextOf_tuple_item {it l : Addr} {i : Nat} {items} {x : Value} {Q : Value → Shared → Prop} (hit : s.heap.IsTupleIter it l i)
    (hl : s.heap.IsTuple l items) (hx : items[i]? = some x)
    (hQ : ∀ h', h'.IsTupleIter it l (i + 1) → Heap.SameBut it s.heap h' → Q x { s with heap := h' }) :
    wpAny (model prog w) A (Builtin.SmallTypes.nextOf (.ref it)) Q E s := by
  obtain ⟨o, ho, hc, hd⟩ := id hit
  obtain ⟨ol, hol, _, nl, hdl⟩ := hl
  unfold Builtin.SmallTypes.nextOf
  refine wpAny_bind (wpAny_callSpecial?_slot (name := Str.ofString "__next__") hit.typeIs F.slot_tuple_iterator_next
    (wpAny_call_entry F.slot_tuple_iterator_next hit.typeIs F.entry_tuple_iterator_next ?_ (F.args_tuple_iterator_next_1 _)))
  show wpAny _ _ (field (.ref it) 0 >>= _) _ _ s
  refine wpAny_bind (wpAny_field ho hd (x := .ref l) rfl ?_)
  show wpAny _ _ (if (Value.ref l == Value.none) = true then _ else _) _ _ s
  rw [if_neg (show ¬ ((Value.ref l == Value.none) = true) from Bool.false_ne_true)]
  show wpAny _ _ (field (.ref it) 1 >>= _) _ _ s
  refine wpAny_bind (wpAny_field ho hd (x := .int i 0) rfl ?_)
  show wpAny _ _ (seqItems? (.ref l) >>= _) _ _ s
  refine wpAny_bind (wpAny_seqItems hol hdl ?_)
  simp only [Int.toNat_natCast, hx]
  refine wpAny_bind (wpAny_setField ho hd (by simp) (wpAny_pure ⟨x, rfl, wpAny_pure (hQ _ ?_ (Heap.SameBut.update ..))⟩))
  exact ⟨_, Heap.get?_update_self _ ho (Obj.isFreed_of_fields (Obj.data_mapFields hd _)), (Obj.cls_mapFields ..).trans hc, by
    rw [Obj.data_mapFields hd]; simp [rawInt]⟩
theorem wpAny_nextOf_tuple_end {it l : Addr} {i : Nat} {items} {Q : Value → Shared → Prop} (hh : A.handled = none)
    (hit : s.heap.IsTupleIter it l i) (hl : s.heap.IsTuple l items) (hx : items[i]? = none)
    (hE : ∀ h' e, Heap.ExtBut it s.heap h' → (∃ o, h'.get? e = some o ∧ o.cls = .type "StopIteration") → E (.ref e) { s with heap := h' }) :
    wpAny (model prog w) A (Builtin.SmallTypes.nextOf (.ref it)) Q E s := by
  obtain ⟨o, ho, hc, hd⟩ := id hit
  obtain ⟨ol, hol, _, nl, hdl⟩ := hl
  unfold Builtin.SmallTypes.nextOf
  refine wpAny_bind (wpAny_callSpecial?_slot (name := Str.ofString "__next__") hit.typeIs F.slot_tuple_iterator_next
    (wpAny_call_entry F.slot_tuple_iterator_next hit.typeIs F.entry_tuple_iterator_next ?_ (F.args_tuple_iterator_next_1 _)))
  show wpAny _ _ (field (.ref it) 0 >>= _) _ _ s
  refine wpAny_bind (wpAny_field ho hd (x := .ref l) rfl ?_)
  show wpAny _ _ (if (Value.ref l == Value.none) = true then _ else _) _ _ s
  rw [if_neg (show ¬ ((Value.ref l == Value.none) = true) from Bool.false_ne_true)]
  show wpAny _ _ (field (.ref it) 1 >>= _) _ _ s
  refine wpAny_bind (wpAny_field ho hd (x := .int i 0) rfl ?_)
  show wpAny _ _ (seqItems? (.ref l) >>= _) _ _ s
  refine wpAny_bind (wpAny_seqItems hol hdl ?_)
  simp only [Int.toNat_natCast, hx]
  refine wpAny_bind (wpAny_rule (wpAny_bind (wpAny_setField ho hd (by simp) ?_)))
  show wpAny _ _ (newExc (.type "StopIteration") [] >>= _) _ _ _
  refine wpAny_bind ?_
  simp only [newExc, newTuple]
  refine wpAny_bind (wpAny_newObj_type ?_ (by size_fits))
  refine wpAny_bind (m := firstArgMember _ _) (wpAny_of_eq (a := Value.none) (by first | rfl | (simp only [firstArgMember]; rfl)) ?_)
  refine wpAny_newObj_type ?_ (by size_fits)
  simp only [raiseNew]
  refine wpAny_bind (wpAny_handled ?_)
  first | rw [show A.in1.handled = none from hh] | rw [hh]
  refine wpAny_bind (wpAny_pure (wpAny_throw ?_))
  exact hE _ _ (((Heap.SameBut.update ..).extBut.push _).push _) ⟨_, Heap.get?_push_size _ rfl, rfl⟩
end
theorem Draws.tuple {prog : Program} {w : World} {A : Around} (hh : A.handled = none) (it l : Addr) (hne : l ≠ it) (items : Array Value) :
    Draws prog w A it [it, l] items.size (fun i v => items[i]? = some v) (fun i h => h.IsTupleIter it l i ∧ h.IsTuple l items) where
  live := fun _ _ st => let ⟨o, ho, _⟩ := st.1; ⟨o, ho⟩
  frame := fun _ _ _ st hk => ⟨st.1.at fun o e => hk it (by simp) o e, st.2.at fun o e => hk l (by simp) o e⟩
  item := fun i s Q E hi st hQ => by
    refine wpAny_nextOf_tuple_item st.1 st.2 (x := items[i]) (by simp [hi]) fun h' hit' hs' => ?_
    exact hQ _ h' s.toks (by simp [hi]) ⟨hit', st.2.at fun o e => hs'.extBut _ o hne e⟩ hs'
  done := fun s Q E st hE => wpAny_nextOf_tuple_end hh st.1 st.2 (by simp) hE
theorem meets_enumerate_newT (l : Addr) (items : Array Value) (n : Nat) (dct : Option Addr) (sl : Array (Option Value)) :
    Meets (Builtin.«enumerate.__new__» ⟨[.type "enumerate", .ref l], []⟩) (fun _ R s => s.heap.get? l = some { cls := .type "tuple", dict := dct, data := .seq items n, slots := sl } ∧
      R (.ok (.ret (.ref (s.heap.push { cls := .type "tuple_iterator", data := .fields #[.ref l, .int 0 0] }).objs.size)))
        { s with heap := (s.heap.push { cls := .type "tuple_iterator", data := .fields #[.ref l, .int 0 0] }).push { cls := .type "enumerate", data := .fields #[.none, .bool false, .ref s.heap.objs.size, rawInt 0, .none, .none] } }) :=
  .of_wp fun prog w A R s h => by
    obtain ⟨hp, g, d, tk, os⟩ := s; obtain ⟨hl, h⟩ := h
    have hsub := sub_enumerate
    have hL : Heap.IsTuple (Shared.heap ⟨hp, g, d, tk, os⟩) l items := ⟨_, hl, rfl, n, rfl⟩
    wp_walk using wpAny_loadPart' hl
    refine wpAny_stack_any fun st => wpAny_pure ?_
    split
    · rename_i c _ _ _ _ _
      cases (c == Value.type "enumerate")
      · wp_walk using wpAny_loadPart' hl, wpAny_pyIter_tuple hL
        exact ⟨_, rfl, h⟩
      · wp_walk using wpAny_loadPart' hl, wpAny_pyIter_tuple hL
        exact ⟨_, rfl, h⟩
    · wp_walk using wpAny_loadPart' hl, wpAny_pyIter_tuple hL
      exact ⟨_, rfl, h⟩
section
variable {prog : Program} {w : World} {A : Around} {E : Value → Shared → Prop} {s : Shared}
theorem call_enumerate_tuple {l : Addr} {items : Array Value} {Q : Value → Shared → Prop} (hL : s.heap.IsTuple l items)
    (h : ∀ h', IsEnum h' (s.heap.objs.size + 1) s.heap.objs.size 0 .none → h'.IsTupleIter s.heap.objs.size l 0 → h'.objs.size = s.heap.objs.size + 2 →
      (∀ b o, s.heap.get? b = some o → h'.get? b = some o) → Q (.ref (s.heap.objs.size + 1)) { s with heap := h' }) :
    wpAny (model prog w) A (call (.type "enumerate") [.ref l]) Q E s := by
  obtain ⟨⟨c, dct, dt, sl⟩, hl, hc, n, hd⟩ := hL
  replace hc : c = .type "tuple" := hc
  replace hd : dt = .seq items n := hd
  subst hc hd
  refine callType_new F.called_enumerate (by decide) (F.typeCall_enumerate_1 _) (F.newCall_enumerate_1 _) (fun obj => F.args_object_init_2 obj _) F.entry_enumerate_new
    (meets_enumerate_newT l items n dct sl) ⟨hl, ?_⟩
  have hz : (s.heap.push { cls := .type "tuple_iterator", data := .fields #[.ref l, .int 0 0] }).objs.size = s.heap.objs.size + 1 := Heap.size_push ..
  show _ ∧ _
  rw [hz]
  have he : IsEnum ((s.heap.push { cls := .type "tuple_iterator", data := .fields #[.ref l, .int 0 0] }).push
      { cls := .type "enumerate", data := .fields #[.none, .bool false, .ref s.heap.objs.size, rawInt 0, .none, .none] }) (s.heap.objs.size + 1) s.heap.objs.size 0 .none := by
    have := Heap.get?_push_size (s.heap.push { cls := .type "tuple_iterator", data := .fields #[.ref l, .int 0 0] })
      (o := { cls := .type "enumerate", data := .fields #[.none, .bool false, .ref s.heap.objs.size, rawInt 0, .none, .none] }) rfl
    rw [hz] at this; exact this
  refine ⟨⟨_, he, rfl⟩, h _ he ⟨_, Heap.get?_push_of_some _ (Heap.get?_push_size _ rfl), rfl, rfl⟩ (by rw [Heap.size_push, hz]) fun b o x => Heap.get?_push_of_some _ (Heap.get?_push_of_some _ x)⟩
end
end PySem
namespace L2
open PySem PySem.Spec PyProof.Rows
section
variable {X : Cx} {K : PySem.W.Frag} {a : Expr} {ta : TA} {p p2 pos pos2 : Pos}
theorem items_range {acc : Array Value} {n : Nat} (h : ItemsOf (fun i v => ∃ t, v = Value.int ((0 : Int) + i * 1) t) acc n) : Vals ((List.range n).map fun (x : Nat) => V.int (x : Int)) acc.toList := by
  obtain ⟨h1, h2⟩ := h
  have key : ∀ (k : Nat) (l : List Value) (j : Nat), l.length = k → (∀ i v, l[i]? = some v → ∃ t, v = Value.int ((j + i : Nat) : Int) t) → Vals ((List.range' j k).map fun (x : Nat) => V.int (x : Int)) l := by
    intro k
    induction k with
    | zero =>
      intro l j hl _
      cases l with
      | nil => exact .nil
      | cons _ _ => simp at hl
    | succ k ih =>
      intro l j hl hv
      cases l with
      | nil => simp at hl
      | cons x r =>
        rw [List.range'_succ, List.map_cons]
        refine .cons (hv 0 x rfl) (ih r (j + 1) (by simpa using hl) fun i v e => ?_)
        obtain ⟨t, q⟩ := hv (i + 1) v (by simpa using e)
        exact ⟨t, by rw [q]; congr 1; omega⟩
  rw [List.range_eq_range']
  refine key n acc.toList 0 (by simpa using h1) fun i v e => ?_
  obtain ⟨t, q⟩ := h2 i v (by simpa using e)
  exact ⟨t, by rw [q]; congr 1; omega⟩
noncomputable def tLrange (ta : TA) : TE := fun σ H Q => ta σ H fun vs H1 => ∃ n : Nat, vs = [.int n] ∧ n ≤ 1000000 ∧ ∀ l, H1 l = none → Q (.ref l) (upd H1 l (.lst ((List.range n).map fun (x : Nat) => V.int (x : Int))))
theorem small_n {n : Nat} (h : n ≤ 1000000) : Builtin.Range.small 0 (n : Int) 1 = true := small_one (by omega) (by omega) (by omega) (by omega)
theorem size_n {n : Nat} : Builtin.Range.rangeSize 0 (n : Int) 1 = (n : Nat) := by
  rw [rangeSize_one]; split <;> omega
theorem pe_list_of_range (hc : X.calm = true) (hml : X.mg "list" = none) (hmr : X.mg "range" = none) (ha : PA X [a] ta) (hgl : Gl X "list" := by rfl) (hgr : Gl X "range" := by rfl) (hK : X.K = K := by rfl)
    (hs : starEach [a] X.env = [(false, eval a X.env)] := by rfl)
    (hs1 : starEach [(.Call (.Name "range" p) [a] [] pos : Expr)] X.env = [(false, eval (.Call (.Name "range" p) [a] [] pos) X.env)] := by rfl) :
    PE X (.Call (.Name "list" p2) [.Call (.Name "range" p) [a] [] pos] [] pos2) (tLrange ta) := by
  intro pins s σ H Q I h
  refine wpAny_Call_Name_kw (ld_blt I hgl hml boot_list ?_)
  refine PyProof.Rows.callWith_type1 ?_ hs1 rfl
  rw [hs1]
  show wpAny _ _ (spliced ((false, eval (.Call (.Name "range" p) [a] [] pos) X.env) :: backTo pos2 [])) _ _ s
  refine Calls.spliced_cons ?_
  refine Call_ (ld_blt I hgr hmr boot_range (PyProof.Rows.callWith_type1 (thn (ha pos pins s σ H _ I h) fun us s1 ⟨vs, H1, I1, r1, q1⟩ => ?_) hs rfl))
  obtain ⟨n, e, hn, q⟩ := q1
  subst e
  cases r1 with
  | cons r rr =>
    cases rr
    obtain ⟨t, rfl⟩ := r
    refine call_range_1 ?_
    have I2 : Inv X pins σ H1 { s1 with heap := s1.heap.push { cls := .type "range", data := .fields #[.int 0 s1.toks, .int n t, .int 1 (s1.toks + 1)] }, toks := s1.toks + 1 + 1 } := I1.kept fun b o e => Heap.get?_push_of_some _ e
    refine Calls.spliced_nil ?_
    refine call_list_range (I.ok.hd hc) (IsRange.new ..) (small_n hn) size_n (by omega) fun h' tk acc' c' hk hS' hacc => ?_
    have rv := items_range hacc
    exact ⟨.ref _, _, I2.laid (t' := tk) (o := .lst _) hk (Nat.le_refl _) ⟨by rw [List.length_map, List.length_range, sizeLine_eq]; omega, _, c', rv, by simpa using hS'⟩, rfl, q _ (I2.hok.fresh (Nat.le_refl _))⟩
end
section
variable {σ : St} {H : Hp} {Q : VK}
theorem s_lrange {t : TA} (h : t σ H fun vs H1 => ∃ n : Nat, vs = [.int n] ∧ n ≤ 1000000 ∧ ∀ l, H1 l = none → Q (.ref l) (upd H1 l (.lst ((List.range n).map fun (x : Nat) => V.int (x : Int))))) : tLrange t σ H Q := h
end
noncomputable def IteL (K : PySem.W.Frag) (a : Addr) (xs : List V) : It :=
  ⟨fun i H => i < xs.length ∧ SqL K H a xs, fun i H x H' => ∃ T u, x = .ref T ∧ H T = none ∧ H' = upd H T (.tup [.int (i : Int), u]) ∧ xs[i]? = some u, fun i H => i = xs.length ∧ SqL K H a xs⟩
theorem turn_enumL {P : Program} {w : World} {K : PySem.W.Frag} {elts : List Expr} {kk : Nat} {tpos : Pos} (a e it : Addr) (hei : e ≠ it) (hae : a ≠ e) (hai : a ≠ it) (xs : List V) :
    Turn P w K (.Tuple elts kk tpos) (IteL K a xs) [e, it] e (fun i h => (∃ old, IsEnum h e it i old) ∧ h.IsListIter it a i) := by
  refine ⟨by simp, ?_, ?_, ?_, ?_, ?_⟩
  · rintro i h ⟨⟨old, he⟩, h1⟩ c hc
    simp only [List.mem_cons, List.not_mem_nil, or_false] at hc
    rcases hc with rfl | rfl
    · exact ⟨_, he, fun v q => nomatch q⟩
    · obtain ⟨o, e, c, d⟩ := h1; exact ⟨o, e, fun v q => by rw [d] at q; cases q⟩
  · rintro i h h' ⟨⟨old, he⟩, h1⟩ k
    exact ⟨⟨old, k e (by simp) _ he⟩, h1.at fun o q => k it (by simp) o q⟩
  · intro X hP hw hK hc i pins s σ H E I hf st hg
    subst hP hw hK
    obtain ⟨hi, hqa⟩ := hg
    obtain ⟨he, h1⟩ := st
    obtain ⟨ia, ra, pa, za⟩ := I.list hqa
    have la := ra.length
    have W := WalksT.enumerate (prog := X.prog) (w := X.w) (A := X.A) (I.ok.hd hc) e it a hei hae hai ia.toArray
    refine enum_itemN (items := ia.toArray) hei hae hai (by simpa [← la] using hi) ⟨he, h1, pa.isList⟩ fun T vals h' tk hP hfr hT hm hk => ?_
    obtain ⟨t, u, eu, rfl⟩ := hP
    refine ⟨_, rfl, W.go elts kk tpos i T _ _ _ hm fun h2 st2 hk2 => ?_⟩
    have eu' : ia[i]? = some u := by simpa using eu
    obtain ⟨u', hu', ru⟩ := ra.get (List.getElem?_eq_getElem hi)
    rw [eu'] at hu'; cases hu'
    have hTw : T ∉ [e, it] := W.apart i T _ hm
    have hT2 : IsTupN h2 T [Value.int (i : Int) t, u].toArray := by
      obtain ⟨o, e, c, n, d⟩ := hT
      exact ⟨o, hk2 T o hTw e, c, n, d⟩
    refine ⟨.ref T, upd H T (.tup [.int (i : Int), xs[i]]), I.turnTup (ch := [e, it]) (t' := tk) (fun c hc => hf c hc) (fun c o hc q => hk2 c o hc (hk c o hc q)) hfr hT2 (.cons ⟨t, rfl⟩ (.cons ru .nil)) (by show 2 ≤ sizeLine; decide), rfl,
      ⟨T, _, rfl, I.hok.fresh hfr, rfl, List.getElem?_eq_getElem hi⟩, ⟨st2.1, st2.2.1⟩, fun c hc => ?_⟩
    have hcl : c < s.heap.objs.size := by
      simp only [List.mem_cons, List.not_mem_nil, or_false] at hc
      obtain ⟨old, he⟩ := he
      rcases hc with rfl | rfl
      · exact Heap.lt_size he
      · obtain ⟨o, e, _⟩ := h1; exact Heap.lt_size e
    rw [upd_ne (Nat.ne_of_lt (Nat.lt_of_lt_of_le hcl hfr))]
    exact (hf c hc).1
  · intro X hP hw hK hc i pins s σ H E I hf st hg
    subst hP hw hK
    obtain ⟨hi, hqa⟩ := hg
    obtain ⟨he, h1⟩ := st
    obtain ⟨ia, ra, pa, za⟩ := I.list hqa
    have la := ra.length
    have W := WalksT.enumerate (prog := X.prog) (w := X.w) (A := X.A) (I.ok.hd hc) e it a hei hae hai ia.toArray
    have hi' : i = ia.toArray.size := by simpa [← la] using hi
    refine W.done s _ _ (hi' ▸ ⟨he, h1, pa.isList⟩) fun h' tk hk => ⟨rfl, I.turnL (ch := [e, it]) (fun c hc => hf c hc) hk⟩
  · rintro A i s Q E ⟨⟨old, he⟩, _⟩ h
    exact wpAny_pyIter_enum he h

noncomputable def IteT (K : PySem.W.Frag) (a : Addr) (xs : List V) : It :=
  ⟨fun i H => i < xs.length ∧ SqT K H a xs, fun i H x H' => ∃ T u, x = .ref T ∧ H T = none ∧ H' = upd H T (.tup [.int (i : Int), u]) ∧ xs[i]? = some u, fun i H => i = xs.length ∧ SqT K H a xs⟩
theorem turn_enumT {P : Program} {w : World} {K : PySem.W.Frag} {elts : List Expr} {kk : Nat} {tpos : Pos} (a e it : Addr) (hei : e ≠ it) (hae : a ≠ e) (hai : a ≠ it) (xs : List V) :
    Turn P w K (.Tuple elts kk tpos) (IteT K a xs) [e, it] e (fun i h => (∃ old, IsEnum h e it i old) ∧ h.IsTupleIter it a i) := by
  refine ⟨by simp, ?_, ?_, ?_, ?_, ?_⟩
  · rintro i h ⟨⟨old, he⟩, h1⟩ c hc
    simp only [List.mem_cons, List.not_mem_nil, or_false] at hc
    rcases hc with rfl | rfl
    · exact ⟨_, he, fun v q => nomatch q⟩
    · obtain ⟨o, e, c, d⟩ := h1; exact ⟨o, e, fun v q => by rw [d] at q; cases q⟩
  · rintro i h h' ⟨⟨old, he⟩, h1⟩ k
    exact ⟨⟨old, k e (by simp) _ he⟩, h1.at fun o q => k it (by simp) o q⟩
  · intro X hP hw hK hc i pins s σ H E I hf st hg
    subst hP hw hK
    obtain ⟨hi, hqa⟩ := hg
    obtain ⟨he, h1⟩ := st
    obtain ⟨ia, ra, pa, za⟩ := I.tuple hqa
    have la := ra.length
    have W := WalksT.enumerateD (prog := X.prog) (w := X.w) (A := X.A) (Draws.tuple (A := X.A.in1) (I.ok.hd hc) it a hai ia.toArray) e hei (fun z => (List.mem_cons.mp z).elim (fun q => hei q) (fun q => hae (List.mem_singleton.mp q).symm)) (by simp)
    refine enumD_itemN (Draws.tuple (A := X.A.in1) (I.ok.hd hc) it a hai ia.toArray) hei (fun z => (List.mem_cons.mp z).elim (fun q => hei q) (fun q => hae (List.mem_singleton.mp q).symm)) (by simpa [← la] using hi) ⟨he, h1, (show s.heap.IsTuple a ia.toArray from pa)⟩ fun T vals h' tk hP hfr hT hm hk => ?_
    obtain ⟨t, u, eu, rfl⟩ := hP
    refine ⟨_, rfl, W.go elts kk tpos i T _ _ _ hm fun h2 st2 hk2 => ?_⟩
    have eu' : ia[i]? = some u := by simpa using eu
    obtain ⟨u', hu', ru⟩ := ra.get (List.getElem?_eq_getElem hi)
    rw [eu'] at hu'; cases hu'
    have hTw : T ∉ [e, it] := W.apart i T _ hm
    have hT2 : IsTupN h2 T [Value.int (i : Int) t, u].toArray := by
      obtain ⟨o, e, c, n, d⟩ := hT
      exact ⟨o, hk2 T o hTw e, c, n, d⟩
    refine ⟨.ref T, upd H T (.tup [.int (i : Int), xs[i]]), I.turnTup (ch := [e, it]) (t' := tk) (fun c hc => hf c hc) (fun c o hc q => hk2 c o hc (hk c o hc q)) hfr hT2 (.cons ⟨t, rfl⟩ (.cons ru .nil)) (by show 2 ≤ sizeLine; decide), rfl,
      ⟨T, _, rfl, I.hok.fresh hfr, rfl, List.getElem?_eq_getElem hi⟩, ⟨st2.1, st2.2.1⟩, fun c hc => ?_⟩
    have hcl : c < s.heap.objs.size := by
      simp only [List.mem_cons, List.not_mem_nil, or_false] at hc
      obtain ⟨old, he⟩ := he
      rcases hc with rfl | rfl
      · exact Heap.lt_size he
      · obtain ⟨o, e, _⟩ := h1; exact Heap.lt_size e
    rw [upd_ne (Nat.ne_of_lt (Nat.lt_of_lt_of_le hcl hfr))]
    exact (hf c hc).1
  · intro X hP hw hK hc i pins s σ H E I hf st hg
    subst hP hw hK
    obtain ⟨hi, hqa⟩ := hg
    obtain ⟨he, h1⟩ := st
    obtain ⟨ia, ra, pa, za⟩ := I.tuple hqa
    have la := ra.length
    have W := WalksT.enumerateD (prog := X.prog) (w := X.w) (A := X.A) (Draws.tuple (A := X.A.in1) (I.ok.hd hc) it a hai ia.toArray) e hei (fun z => (List.mem_cons.mp z).elim (fun q => hei q) (fun q => hae (List.mem_singleton.mp q).symm)) (by simp)
    have hi' : i = ia.toArray.size := by simpa [← la] using hi
    refine W.done s _ _ (hi' ▸ ⟨he, h1, (show s.heap.IsTuple a ia.toArray from pa)⟩) fun h' tk hk => ⟨rfl, I.turnL (ch := [e, it]) (fun c hc => hf c hc) hk⟩
  · rintro A i s Q E ⟨⟨old, he⟩, _⟩ h
    exact wpAny_pyIter_enum he h

noncomputable def iEnum (K : PySem.W.Frag) (ta : TA) : TI := fun σ H R => ta σ H fun vs H1 => ∃ a xs, vs = [.ref a] ∧ ((SqL K H1 a xs ∧ R (IteL K a xs) H1) ∨ (SqT K H1 a xs ∧ R (IteT K a xs) H1))
theorem k_pi_enum {X : Cx} {K : PySem.W.Frag} {elts : List Expr} {kk : Nat} {tpos : Pos} {a : Expr} {ta : TA} {p pos : Pos} (hm : X.mg "enumerate" = none) (ha : PA X [a] ta) (hg : Gl X "enumerate" := by rfl) (hs : starEach [a] X.env = [(false, eval a X.env)] := by rfl) (hK : X.K = K := by rfl) :
    PI X (.Tuple elts kk tpos) (.Call (.Name "enumerate" p) [a] [] pos) (iEnum K ta) := by
  subst hK
  intro pins s σ H R I h
  refine Call_ (ld_blt I hg hm boot_enumerate (PyProof.Rows.callWith_type1 (thn (ha pos pins s σ H _ I h) fun us s1 ⟨vs, H1, I1, r1, q1⟩ => ?_) hs rfl))
  obtain ⟨a, xs, e, q⟩ := q1
  subst e
  cases r1 with
  | cons r rr =>
    cases rr
    cases r
    have fpo : ∀ c ∈ [s1.heap.objs.size + 1, s1.heap.objs.size], FpOk X pins H1 c := fun c hc => by
      have hc' : s1.heap.objs.size ≤ c := by
        simp only [List.mem_cons, List.not_mem_nil, or_false] at hc
        show @LE.le Nat _ s1.heap.objs.size c
        rcases hc with z | z <;> (have z' : @Eq Nat c _ := z; omega)
      exact I1.fpOk hc' (I1.hok.fresh hc')
    rcases q with ⟨hqa, q⟩ | ⟨hqa, q⟩
    · obtain ⟨ia, ra, pa, za⟩ := I1.list hqa
      have al : @LT.lt Nat _ a s1.heap.objs.size := by obtain ⟨o, n, e, _⟩ := pa; exact Heap.lt_size e
      refine call_enumerate_list pa.isList fun h' he h1 hsz hk => ?_
      have I2 : Inv X pins σ H1 { s1 with heap := h' } := I1.kept (t' := s1.toks) hk
      refine wpAny_pyIter_enum he ?_
      exact ⟨s1.heap.objs.size + 1, [s1.heap.objs.size + 1, s1.heap.objs.size], _, _, H1, rfl, I2, turn_enumL a _ _ (by intro z; have z' : @Eq Nat _ _ := z; omega) (by intro z; have z' : @Eq Nat _ _ := z; omega) (by intro z; have z' : @Eq Nat _ _ := z; omega) xs, ⟨⟨_, he⟩, h1⟩, fpo, q⟩
    · obtain ⟨ia, ra, pa, za⟩ := I1.tuple hqa
      have al : @LT.lt Nat _ a s1.heap.objs.size := by obtain ⟨o, e, _⟩ := pa; exact Heap.lt_size e
      refine call_enumerate_tuple (show s1.heap.IsTuple a ia.toArray from pa) fun h' he h1 hsz hk => ?_
      have I2 : Inv X pins σ H1 { s1 with heap := h' } := I1.kept (t' := s1.toks) hk
      refine wpAny_pyIter_enum he ?_
      exact ⟨s1.heap.objs.size + 1, [s1.heap.objs.size + 1, s1.heap.objs.size], _, _, H1, rfl, I2, turn_enumT a _ _ (by intro z; have z' : @Eq Nat _ _ := z; omega) (by intro z; have z' : @Eq Nat _ _ := z; omega) (by intro z; have z' : @Eq Nat _ _ := z; omega) xs, ⟨⟨_, he⟩, h1⟩, fpo, q⟩
theorem s_enum {σ : St} {H : Hp} {K : PySem.W.Frag} {t : TA} {R : It → Hp → Prop} (h : t σ H fun vs H1 => ∃ a xs, vs = [.ref a] ∧ ((SqL K H1 a xs ∧ R (IteL K a xs) H1) ∨ (SqT K H1 a xs ∧ R (IteT K a xs) H1))) : iEnum K t σ H R := h
end L2

set_option linter.all false
set_option maxRecDepth 100000
namespace PySem
section
variable {prog : Program} {w : World} {A : Around} {E : Value → Shared → Prop} {s : Shared}
end
end PySem
namespace L2
open PySem PySem.Spec PyProof.Rows
theorem comp_seqT {K : PySem.W.Frag} {a : Addr} {xs : List V} {src : List (Option Nat)} {σ : St} {g : TG} {tc : TT} {te : TE} {Q : VK} {H : Hp} (hA : SqT K H a xs)
    (h : CompW (Itt K a) src σ g tc te Q H) : ∃ b, V.ref a = .ref b ∧ (((∃ xs, SqL K H b xs) ∧ CompW (Itl K b) src σ g tc te Q H) ∨ ((∃ xs, SqT K H b xs) ∧ CompW (Itt K b) src σ g tc te Q H)) := ⟨a, rfl, .inr ⟨⟨xs, hA⟩, h⟩⟩
end L2

set_option linter.all false
set_option maxRecDepth 100000
namespace PySem
open Sem (wp)
open Builtin
theorem noFill_tuple_mulP : fillsNumberSlot (.type "tuple") "mul" = pure false :=
  fillsNumberSlot_seq (id := "tuple.__mul__") (r := some (.builtin "tuple.__rmul__")) F.slot_tuple_mul.lookup (by decide +kernel) F.slot_tuple_rmul.lookup (by decide +kernel)
theorem repeat_tupleP : seqRepeat? (.type "tuple") = pure (some (.builtin "tuple.__mul__")) := by
  unfold seqRepeat?
  rw [seqSlot_of (T := "tuple") (name := "__mul__") (id := "tuple.__mul__") F.slot_tuple_mul.lookup (by decide +kernel), seqSlot_of (T := "tuple") (name := "__rmul__") (id := "tuple.__rmul__") F.slot_tuple_rmul.lookup (by decide +kernel)]
  rfl
theorem int_rmul_tupleP (a : Int) (t : Tok) (l : Addr) (items : Array Value) (n : Nat) {dd} {sl} :
    Meets (Builtin.«int.__rmul__» ⟨[.int a t, .ref l], []⟩) (fun _ R s => s.heap.get? l = some { cls := .type "tuple", dict := dd, data := .seq items n, slots := sl } ∧ R (.ok (.ret Value.notImplemented)) s) :=
  .of_wp fun prog w A R s h => by obtain ⟨hp, g, d, tk, os⟩ := s; obtain ⟨hl, h⟩ := h; wp_walk; exact ⟨_, rfl, h⟩
theorem tuple_mulP1 (l : Addr) (items : Array Value) (n : Nat) (x : Int) (u : Tok) {dd} {sl} (h0 : items.isEmpty = false) (h1 : 1 < x) (h2 : x < 2 ^ 63) (hz : items.size * x.toNat ≤ sizeLine) :
    Meets (Builtin.«tuple.__mul__» ⟨[.ref l, .int x u], []⟩) (fun _ R s => s.heap.get? l = some { cls := .type "tuple", dict := dd, data := .seq items n, slots := sl } ∧ R (.ok (.ret (Value.ref s.heap.objs.size))) { s with heap := s.heap.push { cls := Value.type "tuple", data := Data.seq (List.foldl (fun x1 x2 => x1 ++ x2) #[] (List.replicate x.toNat items)) }, toks := s.toks }) :=
  .of_wp fun prog w A R s h => by
    obtain ⟨hp, g, d, tk, os⟩ := s; obtain ⟨hl, h⟩ := h
    have hm : (items.size : Int) * x = ((items.size * x.toNat : Nat) : Int) := by
      rw [Int.natCast_mul, Int.toNat_of_nonneg (by omega)]
    have hcap : (sizeLine : Nat) ≤ (2 ^ 63 - 1) / 8 := by decide
    have hc0 : ¬(decide (x < -2 ^ 63) || decide (x ≥ 2 ^ 63)) = true := by
      rw [decide_eq_false (by omega), decide_eq_false (by omega)]; decide
    have hc1 : ¬(items.isEmpty || x == 1) = true := by
      rw [h0, beq_eq_false_iff_ne.mpr (by omega)]; decide
    have hc2 : ¬(decide (x ≤ 0) || items.isEmpty) = true := by
      rw [h0, decide_eq_false (by omega)]; decide
    have hc3 : ¬ (items.size : Int) * x > (2 ^ 63 - 1) / 8 := by
      rw [hm]; omega
    have hc4 : ¬ Builtin.Tuple.tupleTooMany ((items.size : Int) * x) = true := by
      rw [hm]
      unfold Builtin.Tuple.tupleTooMany
      rw [decide_eq_false (by omega)]
      decide
    wp_walk
    rw [if_neg hc0]
    wp_walk using wpAny_loadPart' hl
    rw [if_neg hc1]
    wp_walk
    rw [if_neg hc2]
    wp_walk
    rw [if_neg hc3]
    wp_walk
    rw [if_neg hc4]
    wp_walk
    rw [if_neg (by
      have e := Nat.mul_comm items.size x.toNat
      rw [AutoListH.size_joined]; simp only [Array.size_empty]; omega)]
    wp_walk
    exact ⟨_, rfl, h⟩
theorem tuple_mulP0 (l : Addr) (items : Array Value) (n : Nat) (u : Tok) {dd} {sl} :
    Meets (Builtin.«tuple.__mul__» ⟨[.ref l, .int 1 u], []⟩) (fun _ R s => s.heap.get? l = some { cls := .type "tuple", dict := dd, data := .seq items n, slots := sl } ∧ R (.ok (.ret (Value.ref l))) s) :=
  .of_wp fun prog w A R s h => by
    obtain ⟨hp, g, d, tk, os⟩ := s; obtain ⟨hl, h⟩ := h
    wp_walk
    exact ⟨_, rfl, h⟩
end PySem
namespace L2
open PySem PySem.Spec PyProof.Rows
section
variable {X : Cx}
noncomputable def rRepT (K : PySem.W.Frag) : R2 := fun x y H Q => ∃ a k xs, x = .ref a ∧ y = .int k ∧ SqT K H a xs ∧ 1 ≤ k ∧ k < 2 ^ 63 ∧ xs ≠ [] ∧ xs.length * k.toNat ≤ sizeLine ∧
  (k = 1 → Q (.ref a) H) ∧ (k ≠ 1 → ∀ p, H p = none → Q (.ref p) (upd H p (.tup (List.replicate k.toNat xs).flatten)))
theorem op_repT : OpR X (binaryOp .Mult) (rRepT X.K) := by
  intro pins s σ H x y v u Q I rx ry h
  obtain ⟨a, k, xs, rfl, rfl, ha, h1, h2, hx, hz, q1, q2⟩ := h
  cases rx
  obtain ⟨t, rfl⟩ := ry
  obtain ⟨its, r, p1, _⟩ := I.tuple ha
  obtain ⟨⟨cls, dd, data, sl⟩, ho, hc, n, hd⟩ := id p1
  simp only at hc hd
  subst hc hd
  refine wpAny_binaryOp_repeat_ref (T := "tuple") (U := "int") (by decide) ⟨_, ho, rfl⟩ (fun s' => typeIs_int s' k t) noFill_tuple_mulP F.fills_int_mul F.slot_int_rmul repeat_tupleP F.slot_int_index.lookup
    (call_meets F.slot_int_rmul (typeIs_int s k t) F.entry_int_rmul (F.args_int_rmul_2 _ _) (int_rmul_tupleP k t a its.toArray n) ⟨ho, rfl, ⟨_, ho, rfl⟩, ?_⟩)
  by_cases e : k = 1
  · subst e
    exact call_meets F.slot_tuple_mul ⟨_, ho, rfl⟩ F.entry_tuple_mul (F.args_tuple_mul_2 _ _) (tuple_mulP0 a its.toArray n t) ⟨ho, .ref a, H, I, rfl, q1 rfl⟩
  · refine call_meets F.slot_tuple_mul ⟨_, ho, rfl⟩ F.entry_tuple_mul (F.args_tuple_mul_2 _ _) (tuple_mulP1 a its.toArray n k t ?_ (by omega) h2 (by rw [List.size_toArray, ← r.length]; exact hz)) ⟨ho, ?_⟩
    · cases its with
      | nil => exact absurd (r.nil_iff.mp rfl) hx
      | cons _ _ => rfl
    · have f0 : List.foldl (fun x1 x2 => x1 ++ x2) #[] (List.replicate k.toNat its.toArray) = (List.replicate k.toNat its).flatten.toArray := by
        have := foldl_rep its k.toNat []
        rw [List.nil_append] at this
        exact this
      rw [f0]
      refine ⟨.ref s.heap.objs.size, _, I.laid (t' := s.toks) (o := .tup (List.replicate k.toNat xs).flatten) (fun b ob q => Heap.get?_push_of_some _ q) (Nat.le_refl _) ?_, rfl, q2 e _ (I.hok.fresh (Nat.le_refl _))⟩
      exact ⟨by rw [len_rep, Nat.mul_comm]; exact hz, _, r.rep k.toNat, IsTupN.new _ _⟩
noncomputable def rMulK (K : PySem.W.Frag) : R2 := fun x y H Q => rMulU x y H Q ∨ rRepT K x y H Q
theorem k_mul {K : PySem.W.Frag} (hK : X.K = K := by rfl) : OpR X (binaryOp .Mult) (rMulK K) := hK ▸ opU_mul.or op_repT
end
theorem s_mulk_i {K : PySem.W.Frag} {i j : Int} {H : Hp} {Q : VK} (c : CMul i j) (h : Q (.int (i * j)) H) : rMulK K (.int i) (.int j) H Q := .inl (.inl ⟨i, j, rfl, rfl, c, h⟩)
end L2

set_option linter.all false
set_option maxRecDepth 100000
namespace L2
open PySem PySem.Spec PyProof.Rows PySem.W
section
variable {prog : Program} {w : World} {A : Around} {E : Value → Shared → Prop} {s : Shared} {t : Addr}
theorem sum_listG {xs : Array (Int × Tok)} {Q : Value → Shared → Prop} (hh : A.handled = none) (ht : s.heap.IsList t (intItems xs))
    (h : ∀ h' tk t', (∀ b o, s.heap.get? b = some o → h'.get? b = some o) → Q (.int (preSum (numAt xs) xs.size) t') { s with heap := h', toks := tk }) :
    wpAny (model prog w) A (call (.builtin "sum") [.ref t]) Q E s := by
  obtain ⟨o, ho, hc, n, hd⟩ := id ht
  have hne : t ≠ s.heap.objs.size := Nat.ne_of_lt (Heap.lt_size ho)
  have hsz : (intItems xs).size = xs.size := by simp [intItems]
  have W := (Walks.list (prog := prog) (w := w) (A := A.in1) hh s.heap.objs.size t hne (intItems xs)).toS
  rw [hsz] at W
  refine call_sum_walkAnyS (wpAny_pyIter_list ht ?_)
  refine ⟨s.heap.objs.size, _, _, _, _, _, _, numAt xs, rfl, W, ⟨⟨_, Heap.get?_push_size _ rfl, rfl, rfl⟩, ht.push _⟩, fun b hb => ?_, fun i v hP => intItems_at hP, fun s' t' hm => ?_⟩
  · rcases List.mem_cons.mp hb with rfl | hb
    · exact Heap.lt_size (Heap.get?_push_size _ rfl)
    · obtain rfl := List.mem_singleton.mp hb
      exact Heap.lt_size (Heap.get?_push_of_some _ ho)
  · obtain ⟨h', g', d', tk', os'⟩ := s'
    have e1 : g' = s.gens := hm.gens
    have e2 : d' = s.drawn := hm.drawn
    have e3 : os' = s.os := hm.os
    subst e1 e2 e3
    exact h h' tk' t' fun b o e => hm.heap b o (fun hb => absurd (Heap.lt_size e) ((List.mem_singleton.mp hb) ▸ Nat.lt_irrefl _)) (Heap.get?_push_of_some _ e)
end
section
variable {X : Cx}
theorem vals_intsP : ∀ {ns : List Int} {us : List Value}, Vals (ns.map V.int) us → IntsAre us ns
  | [], _, .nil => .nil
  | n :: ns, _, .cons r t => by
    obtain ⟨k, rfl⟩ := r
    exact .cons n k (vals_intsP t)
noncomputable def rSumL (K : PySem.W.Frag) : List V → Hp → VK → Prop := fun xs H Q => ∃ (a : Addr) (ns : List Int), xs = [.ref a] ∧ SqL K H a (ns.map V.int) ∧ Q (.int ns.sum) H
theorem call_sumL (hc : X.calm = true) : CallR X (.builtin "sum") (rSumL X.K) := by
  intro pins s σ H xs us Q I r h
  obtain ⟨a, ns, rfl, hq, q⟩ := h
  obtain ⟨u, rfl, ru⟩ := r.one
  cases ru
  obtain ⟨its, rv, pl, hz⟩ := I.list hq
  have hi := vals_intsP rv
  obtain ⟨ys, hx⟩ := hi.allInts.items
  have hn : numsOf its.toArray.toList = ns := by rw [show its.toArray.toList = its from rfl, hi.numsOf]
  have hl := pl.isList
  rw [hx] at hl hn
  rw [nums_intItems] at hn
  refine sum_listG (I.ok.hd hc) hl fun h' tk t' hk => ?_
  rw [preSum_eq, List.take_of_length_le (by simp), hn]
  exact ⟨.int _, H, I.kept hk, ⟨_, rfl⟩, q⟩
theorem k_sum {K : PySem.W.Frag} (hc : X.calm = true) (hK : X.K = K := by rfl) : CallR X (.builtin "sum") (rSumL K) := hK ▸ call_sumL hc
end
end L2

set_option linter.all false
set_option maxRecDepth 100000
namespace L2
open PySem PySem.Spec PyProof.Rows
section
variable {X : Cx} {pos : Pos}
end
theorem s_par2 {i j : Nat} {ta : TA} {D : Ends} {σ : St} {H : Hp} (h : ta σ H fun vs H1 => ∃ v w, vs = [v, w] ∧ D.nx ((σ.set i (some v)).set j (some w)) H1) : tPar i j ta D σ H := h
theorem s_two {u v : V} {P : V → V → Prop} (h : P u v) : ∃ u' v', [u, v] = [u', v'] ∧ P u' v' := ⟨u, v, rfl, h⟩
theorem s_eq_s {K : PySem.W.Frag} {a b : Str} {H : Hp} {Q : VK} (ha : shpd (.str a) = true) (hb : shpd (.str b) = true) (h : Q (.bl (a == b)) H) : rEqU K (.str a) (.str b) H Q := ⟨.str a, .str b, .str K H a, .str K H b, ha, hb, h⟩
end L2

namespace Bm

theorem testBit_div (n k : Nat) : (n / 2 ^ k) &&& 1 = (n.testBit k).toNat := by
  rw [Nat.and_one_is_mod, Nat.testBit_eq_decide_div_mod_eq]
  have h : n / 2 ^ k % 2 < 2 := Nat.mod_lt _ (by decide)
  by_cases e : n / 2 ^ k % 2 = 1
  · simp [e]
  · have : n / 2 ^ k % 2 = 0 := by omega
    simp [this]

theorem or_xor_and : ∀ (a b : Nat), (a ||| b) = (a ^^^ b) + (a &&& b) := by
  intro a
  induction a using Nat.strongRecOn with
  | ind a ih =>
    intro b
    by_cases h : a = 0
    · subst h; simp
    · have i := ih (a / 2) (by omega) (b / 2)
      have e1 := Nat.or_div_two (a := a) (b := b)
      have e2 := Nat.xor_div_two (a := a) (b := b)
      have e3 := Nat.and_div_two (a := a) (b := b)
      have m1 : (a ||| b) % 2 = (a ^^^ b) % 2 + (a &&& b) % 2 := by
        have ha : a % 2 = 0 ∨ a % 2 = 1 := by omega
        have hb : b % 2 = 0 ∨ b % 2 = 1 := by omega
        have o := Nat.or_mod_two_pow (a := a) (b := b) (n := 1)
        have x := Nat.xor_mod_two_pow (a := a) (b := b) (n := 1)
        have n := Nat.and_mod_two_pow (a := a) (b := b) (n := 1)
        simp only [Nat.pow_one] at o x n
        rw [o, x, n]
        rcases ha with ha | ha <;> rcases hb with hb | hb <;> simp [ha, hb]
      omega
noncomputable def maskN (ps : List Nat) : Nat := ps.foldl (fun m p => m ||| 2 ^ p) 0
theorem testBit_foldl (k : Nat) : ∀ (ps : List Nat) (m : Nat), (ps.foldl (fun m p => m ||| 2 ^ p) m).testBit k = (m.testBit k || decide (k ∈ ps))
  | [], m => by simp
  | p :: ps, m => by
    rw [List.foldl_cons, testBit_foldl k ps, Nat.testBit_or, Nat.testBit_two_pow]
    by_cases h : p = k
    · subst h; simp
    · have h' : ¬ k = p := fun e => h e.symm
      simp [h, h']
theorem testBit_maskN (ps : List Nat) (k : Nat) : (maskN ps).testBit k = decide (k ∈ ps) := by
  unfold maskN
  rw [testBit_foldl]
  simp
theorem maskN_snoc (ps : List Nat) (p : Nat) : maskN (ps ++ [p]) = maskN ps ||| 2 ^ p := by
  simp [maskN, List.foldl_append]

noncomputable def bitsB (n w : Nat) : List Bool := (List.range w).map n.testBit
noncomputable def bitsOf (n : Nat) : Nat := if n = 0 then 0 else n.log2 + 1
theorem lt_bitsOf (n : Nat) : n < 2 ^ bitsOf n := by
  unfold bitsOf
  split
  · rename_i h; subst h; decide
  · exact Nat.lt_log2_self
theorem bitsOf_le {n w : Nat} (h : n < 2 ^ w) : bitsOf n ≤ w := by
  unfold bitsOf
  split
  · exact Nat.zero_le _
  · rename_i h0
    exact (Nat.log2_lt h0).mpr h
theorem testBit_above {n k : Nat} (h : bitsOf n ≤ k) : n.testBit k = false :=
  Nat.testBit_lt_two_pow (Nat.lt_of_lt_of_le (lt_bitsOf n) (Nat.pow_le_pow_right (by decide) h))
noncomputable def placesN (n : Nat) : List Nat := (List.range (bitsOf n)).filter n.testBit
theorem filter_range_ext {p : Nat → Bool} {a b : Nat} (h : a ≤ b) (hp : ∀ i, a ≤ i → p i = false) : (List.range b).filter p = (List.range a).filter p := by
  induction b with
  | zero => have : a = 0 := by omega
            subst this; rfl
  | succ b ih =>
    by_cases e : a = b + 1
    · subst e; rfl
    · rw [List.range_succ, List.filter_append, ih (by omega)]
      simp [hp b (by omega)]
theorem placesN_width {n w : Nat} (h : n < 2 ^ w) : placesN n = (List.range w).filter n.testBit := by
  unfold placesN
  exact (filter_range_ext (bitsOf_le h) fun i hi => testBit_above hi).symm
theorem mem_placesN {n k : Nat} : k ∈ placesN n ↔ n.testBit k = true := by
  unfold placesN
  rw [List.mem_filter, List.mem_range]
  constructor
  · exact fun h => h.2
  · intro h
    refine ⟨?_, h⟩
    by_cases hk : k < bitsOf n
    · exact hk
    · rw [testBit_above (by omega)] at h; cases h
theorem maskN_placesN (n : Nat) : maskN (placesN n) = n := by
  apply Nat.eq_of_testBit_eq
  intro k
  rw [testBit_maskN]
  by_cases h : n.testBit k = true
  · simp [mem_placesN, h]
  · have : n.testBit k = false := by simpa using h
    simp [mem_placesN, this]
end Bm

set_option linter.all false
set_option maxRecDepth 100000
namespace L2
open PySem PySem.Spec PyProof.Rows Bm

noncomputable abbrev nV (n : Nat) : V := V.int (n : Int)
noncomputable def SqA (K : PySem.W.Frag) (H : Hp) (a : Addr) (xs : List V) : Prop := SqL K H a xs ∨ SqT K H a xs

theorem bitAnd_nat (a b : Nat) : Builtin.bitAnd (a : Int) (b : Int) = ((a &&& b : Nat) : Int) := by
  simp [Builtin.bitAnd]
theorem bitNot_nat (a : Nat) : Builtin.bitNot (a : Int) = -((a : Int) + 1) := by
  simp [Builtin.bitNot]; omega
theorem bitOr_nat (a b : Nat) : Builtin.bitOr (a : Int) (b : Int) = ((a ||| b : Nat) : Int) := by
  have h1 : decide (0 ≤ Builtin.bitNot (a : Int)) = false := by rw [bitNot_nat]; apply decide_eq_false; omega
  have h2 : decide (0 ≤ Builtin.bitNot (b : Int)) = false := by rw [bitNot_nat]; apply decide_eq_false; omega
  have n1 : (Builtin.bitNot (Builtin.bitNot (a : Int))).toNat = a := by simp [Builtin.bitNot]; omega
  have n2 : (Builtin.bitNot (Builtin.bitNot (b : Int))).toNat = b := by simp [Builtin.bitNot]; omega
  unfold Builtin.bitOr Builtin.bitAnd
  rw [h1, h2]
  dsimp only
  rw [n1, n2]
  simp [Builtin.bitNot]
  omega
theorem bitXor_nat (a b : Nat) : Builtin.bitXor (a : Int) (b : Int) = ((a ^^^ b : Nat) : Int) := by
  unfold Builtin.bitXor
  rw [bitOr_nat, bitAnd_nat]
  have h := or_xor_and a b
  omega
theorem intBits_nat (n : Nat) : Builtin.Int.intBits (n : Int) = bitsOf n := by
  unfold Builtin.Int.intBits bitsOf
  by_cases h : n = 0
  · subst h; rfl
  · have : ((n : Int) == 0) = false := by
      apply beq_eq_false_iff_ne.mpr
      omega
    rw [this, if_neg h]
    simp

theorem modN {n : Nat} (x : Int) (h : 0 < n) : ∃ r : Nat, r < n ∧ x % (n : Int) = (r : Int) := by
  have h1 := Int.emod_nonneg x (show (n : Int) ≠ 0 by omega)
  have h2 := Int.emod_lt_of_pos x (show (0 : Int) < n by omega)
  exact ⟨(x % (n : Int)).toNat, by omega, by omega⟩
theorem nth_map {α β : Type} {f : α → β} {xs : List α} {i : Nat} {y : β} (h : (xs.map f)[i]? = some y) : ∃ x, xs[i]? = some x ∧ y = f x := by
  rw [List.getElem?_map] at h
  cases e : xs[i]? with
  | none => rw [e] at h; cases h
  | some x => rw [e] at h; cases h; exact ⟨x, rfl, rfl⟩
theorem bitAt_val (n k : Nat) : Builtin.bitAnd ((n : Int) / 2 ^ ((k : Int)).toNat) 1 = ((n.testBit k).toNat : Int) := by
  rw [Int.toNat_natCast]
  have e : ((n : Int) / 2 ^ k) = ((n / 2 ^ k : Nat) : Int) := by simp
  rw [e]
  have := bitAnd_nat (n / 2 ^ k) 1
  rw [testBit_div] at this
  exact this
theorem low_val (n : Nat) : (1 : Int) * 2 ^ ((n : Int)).toNat - 1 = ((2 ^ n - 1 : Nat) : Int) := by
  rw [Int.toNat_natCast]
  have h : 1 ≤ 2 ^ n := Nat.one_le_two_pow
  rw [Int.natCast_sub h]
  simp
theorem cut63 (ns : List Int) : ∃ ms : List Int, cutV (ns.map V.int) none (some 63) = ms.map V.int ∧ ms.length ≤ 63 := by
  refine ⟨(ns.drop (HT.sIx (ns.map V.int).length 0 none)).take (HT.sIx (ns.map V.int).length (ns.map V.int).length (some 63) - HT.sIx (ns.map V.int).length 0 none), ?_, ?_⟩
  · unfold cutV
    rw [List.map_take, List.map_drop]
  · rw [List.length_take]
    have h : HT.sIx (ns.map V.int).length (ns.map V.int).length (some 63) = min 63 (ns.map V.int).length := HT.sIx_nat _ _ 63
    rw [h]
    omega
theorem abs_val (z : Int) : (if z < 0 then -z else z) = (z.natAbs : Int) := by
  split <;> omega
theorem datvs_nats {K : PySem.W.Frag} {H : Hp} (ps : List Nat) : DatVs K H ((ps.map (fun (x : Nat) => (x : Int))).map .int) (ps.map nV) := by
  have := DatVs.ints K H (ps.map (fun (x : Nat) => (x : Int)))
  rw [List.map_map (f := fun (x : Nat) => (x : Int)) (g := V.int)] at this
  exact this
noncomputable def spBitAt : Sp := fun vs H Q _ => ∃ n k : Nat, vs = [nV n, nV k] ∧ Q (nV (n.testBit k).toNat) H
noncomputable def spPlaces : Sp := fun vs H Q _ => ∃ n : Nat, vs = [nV n] ∧ n < 2 ^ 64 ∧ ∀ p H', H p = none → Same H H' → H' p = some (.lst ((placesN n).map nV)) → Q (.ref p) H'
noncomputable def spLow : Sp := fun vs H Q _ => ∃ n : Nat, vs = [nV n] ∧ n ≤ 64 ∧ Q (nV (2 ^ n - 1)) H
noncomputable def Hand (H : Hp) (p : Addr) : Prop := ∃ (q : Addr) (cells : List Nat) (a b c : Nat), H p = some (.lst [.ref q, nV a, nV b, nV c]) ∧ H q = some (.lst (cells.map nV)) ∧ cells.length ≤ 63
theorem Hand.of {H : Hp} {p q : Addr} {cells : List Nat} {a b c : Nat} (h1 : H p = some (.lst [.ref q, nV a, nV b, nV c])) (h2 : H q = some (.lst (cells.map nV))) (h3 : cells.length ≤ 63) : Hand H p := ⟨q, cells, a, b, c, h1, h2, h3⟩
theorem Hand.same {H H' : Hp} {p : Addr} (h : Hand H p) (s : Same H H') : Hand H' p := by
  obtain ⟨q, cells, a, b, c, h1, h2, h3⟩ := h
  exact ⟨q, cells, a, b, c, s _ _ h1, s _ _ h2, h3⟩
theorem But.free {H H' : Hp} {p l : Addr} (b : But p H H') (hp : Hand H' p) (h : H' l = none) : H l = none ∧ l ≠ p := by
  have ne : l ≠ p := by
    rintro rfl
    obtain ⟨q, cells, a, b, c, e1, _⟩ := hp
    rw [h] at e1
    cases e1
  refine ⟨?_, ne⟩
  cases e : H l with
  | none => rfl
  | some o =>
    rw [b.keep l o ne e] at h
    cases h
noncomputable def spHand (K : PySem.W.Frag) : Sp := fun vs H Q _ => ∃ (a : Addr) (ns : List Int), vs = [.ref a] ∧ SqL K H a (ns.map V.int) ∧ ∀ p H', H p = none → Same H H' → Hand H' p → Q (.ref p) H'
noncomputable def spDraw : Sp := fun vs H Q _ => ∃ (p : Addr) (n : Nat), vs = [.ref p, nV n] ∧ Hand H p ∧ 0 < n ∧ n < 1073741824 ∧ ∀ (r : Nat) (H' : Hp), r < n → But p H H' → Hand H' p → Q (nV r) H'
noncomputable def spLaw (K : PySem.W.Frag) : Sp := fun vs H Q _ => ∃ (a : Addr) (ns : List Int), vs = [.ref a] ∧ SqL K H a (ns.map V.int) ∧ ns.length ≤ 63 ∧ ∀ H', Q (.bl true) H'

noncomputable def Ld (w : Nat) (ls : List Int) : Prop := ls.length = w ∧ ∀ e ∈ ls, -2 ≤ e ∧ e < (w : Int)
noncomputable def stayL (w : Nat) : List Int := (List.range w).map fun (x : Nat) => (x : Int)
noncomputable def thenL (ls ms : List Int) : List Int := ms.map fun e => if 0 ≤ e then ls.getD e.toNat 0 else e
theorem stay_map (w : Nat) : ((List.range w).map fun (x : Nat) => V.int (x : Int)) = (stayL w).map V.int := by
  unfold stayL
  rw [List.map_map]
  rfl
theorem stay_ld (w : Nat) : Ld w (stayL w) := by
  refine ⟨by simp [stayL], fun e he => ?_⟩
  simp only [stayL, List.mem_map, List.mem_range] at he
  obtain ⟨x, hx, rfl⟩ := he
  omega
theorem then_ld {w : Nat} {ls ms : List Int} (h1 : Ld w ls) (h2 : Ld w ms) : Ld w (thenL ls ms) := by
  refine ⟨by rw [thenL, List.length_map]; exact h2.1, fun e he => ?_⟩
  simp only [thenL, List.mem_map] at he
  obtain ⟨x, hx, rfl⟩ := he
  have q := h2.2 x hx
  split
  · rename_i h0
    have hl : x.toNat < ls.length := by rw [h1.1]; omega
    rw [List.getD_eq_getElem?_getD, List.getElem?_eq_getElem hl]
    exact h1.2 _ (List.getElem_mem hl)
  · exact q
noncomputable def spThen : Sp := fun vs H Q _ => ∃ (a b : Addr) (ls ms : List Int) (w : Nat), vs = [.ref a, .ref b] ∧ H a = some (.tup (ls.map V.int)) ∧ H b = some (.tup (ms.map V.int)) ∧ Ld w ls ∧ Ld w ms ∧ w ≤ 64 ∧
  ∀ t H', Same H H' → H' t = some (.tup ((thenL ls ms).map V.int)) → Q (.ref t) H'
noncomputable def spEven : Sp := fun vs H Q _ => ∃ (p : Addr) (w : Nat), vs = [.ref p, nV w] ∧ Hand H p ∧ 1 ≤ w ∧ w ≤ 64 ∧ ∀ (t : Addr) (ms : List Nat) (H' : Hp), ms.Perm (List.range w) → But p H H' → Hand H' p → H' t = some (.tup (ms.map nV)) → Q (.ref t) H'
theorem erase_perm {α : Type} : ∀ (l : List α) (i : Nat) (h : i < l.length), (l[i] :: l.eraseIdx i).Perm l
  | [], _, h => absurd h (Nat.not_lt_zero _)
  | _ :: _, 0, _ => by simp
  | x :: l, i + 1, h => by
    have ih := erase_perm l i (by simpa using h)
    simp only [List.getElem_cons_succ, List.eraseIdx_cons_succ]
    exact (List.Perm.swap _ _ _).trans (List.Perm.cons x ih)
theorem map_erase {α β : Type} (f : α → β) : ∀ (l : List α) (i : Nat), (l.map f).eraseIdx i = (l.eraseIdx i).map f
  | [], _ => by simp
  | _ :: _, 0 => by simp
  | x :: l, i + 1 => by simp [map_erase f l i]
theorem Hand.upd {H H' : Hp} {p l : Addr} {o : HO} (h0 : Hand H p) (b : But p H H') (h : Hand H' p) (hl : H l = none) : Hand (L2.upd H' l o) p := by
  obtain ⟨q, cells, a1, a2, a3, e1, e2, e3⟩ := h0
  obtain ⟨q', cells', b1, b2, b3, f1, f2, f3⟩ := h
  obtain ⟨r', g⟩ := b.fst q _ e1
  rw [f1] at g
  cases g
  exact ⟨q, cells', b1, b2, b3, by rw [upd_ne (ne_of_none e1 hl)]; exact f1, by rw [upd_ne (ne_of_none e2 hl)]; exact f2, f3⟩
theorem Hand.ne {H : Hp} {p l : Addr} (h : Hand H p) (e : H l = none) : l ≠ p := by
  rintro rfl
  obtain ⟨q, cells, a, b, c, e1, _⟩ := h
  rw [e] at e1
  cases e1

noncomputable def spWithin : Sp := fun vs H Q _ => ∃ i lo hi : Int, vs = [.int i, .int lo, .int hi] ∧ Q (.bl (decide (lo ≤ i) && decide (i ≤ hi))) H
noncomputable def spIsLd : Sp := fun vs H Q _ => ∃ (a : Addr) (ls : List Int) (w : Nat), vs = [.ref a] ∧ H a = some (.tup (ls.map V.int)) ∧ Ld w ls ∧ 1 ≤ w ∧ w ≤ 64 ∧ ∀ H', Same H H' → Q (.bl true) H'
theorem then_stayL {w : Nat} {ls : List Int} (h : Ld w ls) : thenL (stayL w) ls = ls := by
  have : ∀ e ∈ ls, (if 0 ≤ e then (stayL w).getD e.toNat 0 else e) = e := fun e he => by
    have q := h.2 e he
    by_cases z : 0 ≤ e
    · rw [if_pos z, List.getD_eq_getElem?_getD, stayL, List.getElem?_map, List.getElem?_range (by omega)]
      simp
      omega
    · rw [if_neg z]
  rw [thenL, List.map_congr_left this, List.map_id']
theorem then_stayR {w : Nat} {ls : List Int} (h : Ld w ls) : thenL ls (stayL w) = ls := by
  apply List.ext_getElem?
  intro i
  rw [thenL, stayL, List.map_map, List.getElem?_map]
  by_cases hi : i < w
  · rw [List.getElem?_range hi]
    have hl : i < ls.length := by rw [h.1]; exact hi
    simp [List.getElem?_eq_getElem hl]
  · rw [List.getElem?_eq_none (by rw [List.length_range]; omega), List.getElem?_eq_none (by rw [h.1]; omega)]
    rfl
theorem then_get {w : Nat} {ls ms : List Int} (h : Ld w ms) {i : Nat} (hi : i < w) : (thenL ls ms).getD i 0 = (if 0 ≤ ms.getD i 0 then ls.getD (ms.getD i 0).toNat 0 else ms.getD i 0) := by
  have hl : i < ms.length := by rw [h.1]; exact hi
  rw [List.getD_eq_getElem?_getD, thenL, List.getElem?_map, List.getD_eq_getElem?_getD, List.getElem?_eq_getElem hl]
  rfl
theorem then_assoc {w : Nat} {a b c : List Int} (hb : Ld w b) (hc : Ld w c) : thenL (thenL a b) c = thenL a (thenL b c) := by
  rw [show thenL a (thenL b c) = (c.map fun e => if 0 ≤ e then b.getD e.toNat 0 else e).map fun e => if 0 ≤ e then a.getD e.toNat 0 else e from rfl, List.map_map]
  rw [show thenL (thenL a b) c = c.map fun e => if 0 ≤ e then (thenL a b).getD e.toNat 0 else e from rfl]
  apply List.map_congr_left
  intro e he
  have q := hc.2 e he
  by_cases z : 0 ≤ e
  · show _ = (if 0 ≤ (if 0 ≤ e then b.getD e.toNat 0 else e) then a.getD (if 0 ≤ e then b.getD e.toNat 0 else e).toNat 0 else (if 0 ≤ e then b.getD e.toNat 0 else e))
    rw [if_pos z, if_pos z, then_get hb (by omega)]
  · show _ = (if 0 ≤ (if 0 ≤ e then b.getD e.toNat 0 else e) then a.getD (if 0 ≤ e then b.getD e.toNat 0 else e).toNat 0 else (if 0 ≤ e then b.getD e.toNat 0 else e))
    rw [if_neg z, if_neg z, if_neg z]
theorem s_ne_t {K : PySem.W.Frag} {a b : Addr} {xs ys : List Int} {H : Hp} {Q : VK} (ha : SqT K H a (xs.map V.int)) (hb : SqT K H b (ys.map V.int)) (h : Q (.bl (!decide (xs = ys))) H) : rNeU K (.ref a) (.ref b) H Q := by
  refine ⟨.tuple (xs.map .int), .tuple (ys.map .int), DatV.tuple ha (DatVs.ints K H xs), DatV.tuple hb (DatVs.ints K H ys), shpd_tints _, shpd_tints _, ?_⟩
  rw [show PyData.eqv (.tuple (xs.map .int)) (.tuple (ys.map .int)) = decide (xs = ys) by rw [PyData.eqv, eqvAll_ints]]
  exact h
theorem Hand.neT {H : Hp} {p t : Addr} {xs : List V} (h : Hand H p) (e : H t = some (.tup xs)) : t ≠ p := by
  rintro rfl
  obtain ⟨q, cells, a, b, c, e1, _⟩ := h
  rw [e] at e1
  cases e1
theorem places_len {m w : Nat} (h : m < 2 ^ w) : (placesN m).length ≤ w := by
  rw [placesN_width h]
  have := List.length_filter_le m.testBit (List.range w)
  rw [List.length_range] at this
  exact this
theorem places_lt {m w x : Nat} (h : m < 2 ^ w) (hx : x ∈ placesN m) : x < w := by
  rw [placesN_width h] at hx
  exact List.mem_range.mp (List.mem_filter.mp hx).1
theorem places_getD {m w j : Nat} (h : m < 2 ^ w) (hj : j < (placesN m).length) : (placesN m).getD j 0 < w := by
  rw [List.getD_eq_getElem?_getD, List.getElem?_eq_getElem hj]
  exact places_lt h (List.getElem_mem hj)
theorem places_up {m i j : Nat} (hij : i < j) (hj : j < (placesN m).length) : (placesN m).getD i 0 < (placesN m).getD j 0 := by
  have hp : (placesN m).Pairwise (· < ·) := List.Pairwise.filter _ List.pairwise_lt_range
  rw [List.getD_eq_getElem?_getD, List.getElem?_eq_getElem (Nat.lt_trans hij hj), List.getD_eq_getElem?_getD, List.getElem?_eq_getElem hj]
  exact List.pairwise_iff_getElem.mp hp i j _ _ hij
theorem mask_lt {ps : List Nat} {w : Nat} (h : ∀ p ∈ ps, p < w) : maskN ps < 2 ^ w := by
  apply Nat.lt_pow_two_of_testBit
  intro i hi
  rw [testBit_maskN]
  apply decide_eq_false
  intro z
  have := h i z
  omega
theorem lt64 {m w : Nat} (h : m < 2 ^ w) (hw : w ≤ 64) : m < 2 ^ 64 := Nat.lt_of_lt_of_le h (Nat.pow_le_pow_right (by decide) hw)
theorem places_inj {m i j : Nat} (hi : i < (placesN m).length) (hj : j < (placesN m).length) (e : (placesN m).getD i 0 = (placesN m).getD j 0) : i = j := by
  rcases Nat.lt_trichotomy i j with h | h | h
  · have := places_up h hj; omega
  · exact h
  · have := places_up h hi; omega
theorem places_at {m x : Nat} : m.testBit x = true ↔ ∃ j, j < (placesN m).length ∧ (placesN m).getD j 0 = x := by
  rw [← mem_placesN, List.mem_iff_getElem]
  constructor
  · rintro ⟨j, hj, e⟩
    exact ⟨j, hj, by rw [List.getD_eq_getElem?_getD, List.getElem?_eq_getElem hj]; exact e⟩
  · rintro ⟨j, hj, e⟩
    exact ⟨j, hj, by rw [List.getD_eq_getElem?_getD, List.getElem?_eq_getElem hj] at e; exact e⟩
end L2

set_option linter.all false
set_option maxRecDepth 100000
namespace L2
open PySem PySem.Spec PyProof.Rows
section
variable {X : Cx}
theorem flat_at {xs : List V} {i : Nat} {u : V} (h : xs.all flatV = true) (e : xs[i]? = some u) : flatV u = true := List.all_eq_true.mp h u (List.mem_of_getElem? e)
end
theorem pa_str {X : Cx} {x : Str} {j pos} {es : List Expr} {t : TA} (hr : PA X es t) : PA X (.Constant (.str x) j pos :: es) (tCons (tC (.str x)) t) := pa_cons pe_str hr rfl
noncomputable def CDivW (i j : Int) : Prop := 0 < j ∧ j < 18446744073709551616
theorem op_fdivW {X : Cx} : OpR X (binaryOp .FloorDiv) (rI CDivW fun i j => .int (i / j)) := opI fun i j _ _ _ _ _ hc q => by
  have h1 : (0 : Int) < j := hc.1
  have h2 : j < 18446744073709551616 := hc.2
  refine floordiv_int (by omega) (by rw [Int.fdiv_eq_ediv_of_nonneg i (by omega)]; exact q) (.inl (PyProof.noPylong_of_log2 ?_))
  have h3 : j.natAbs < 2 ^ 64 := by omega
  have h4 : j.natAbs ≠ 0 := by omega
  have := (Nat.log2_lt h4).mpr h3
  omega
theorem s_eq_sT {K : PySem.W.Frag} {a b : Str} {H : Hp} {Q : VK} (e : (shpd (.str a) && shpd (.str b) && (a == b)) = true) (h : Q (.bl true) H) : rEqU K (.str a) (.str b) H Q := by
  rw [Bool.and_eq_true, Bool.and_eq_true] at e
  refine s_eq_s e.1.1 e.1.2 ?_
  rw [e.2]
  exact h
theorem s_eq_sF {K : PySem.W.Frag} {a b : Str} {H : Hp} {Q : VK} (e : (shpd (.str a) && shpd (.str b) && !(a == b)) = true) (h : Q (.bl false) H) : rEqU K (.str a) (.str b) H Q := by
  rw [Bool.and_eq_true, Bool.and_eq_true, Bool.not_eq_true'] at e
  refine s_eq_s e.1.1 e.1.2 ?_
  rw [e.2]
  exact h
theorem s_newL {xs : List V} {H : Hp} {Q : VK} (hz : xs.length ≤ 100000) (h : ∀ p H', H p = none → Same H H' → H' p = some (.lst xs) → Q (.ref p) H') : NewL xs H Q := ⟨Nat.le_of_lt (small5 hz), fun p hp => h p _ hp (same_upd hp) upd_same⟩
theorem s_newT {xs : List V} {H : Hp} {Q : VK} (hz : xs.length ≤ 100000) (h : ∀ p H', H p = none → Same H H' → H' p = some (.tup xs) → Q (.ref p) H') : NewT xs H Q := ⟨Nat.le_of_lt (small5 hz), fun p hp => h p _ hp (same_upd hp) upd_same⟩
end L2

set_option linter.all false
set_option maxRecDepth 100000
namespace L2
open PySem PySem.Spec PyProof.Rows Bm

inductive Dd where
  | and (m : Nat) | or (m : Nat) | left (n : Nat) | right (n : Nat) | turn (n : Nat) | gather (m : Nat) | strew (m : Nat) | swap (m n : Nat) | copy (m : Nat) (n : Int)
  deriving DecidableEq
noncomputable def Dd.vals : Dd → List V
  | .and m => [.str "and", nV m]
  | .or m => [.str "or", nV m]
  | .left n => [.str "left", nV n]
  | .right n => [.str "right", nV n]
  | .turn n => [.str "turn", nV n]
  | .gather m => [.str "gather", nV m]
  | .strew m => [.str "strew", nV m]
  | .swap m n => [.str "swap", nV m, nV n]
  | .copy m n => [.str "copy", nV m, .int n]
noncomputable def inM (m : Nat) (z : Int) : Bool := decide (0 ≤ z) && m.testBit z.toNat
noncomputable def Dd.ok (w : Nat) : Dd → Prop
  | .and m => m < 2 ^ w
  | .or m => m < 2 ^ w
  | .left n => n ≤ w
  | .right n => n ≤ w
  | .turn n => n < w
  | .gather m => m < 2 ^ w
  | .strew m => m < 2 ^ w
  | .swap m n => 1 ≤ n ∧ n < w ∧ ∀ p, m.testBit p = true → p + n < w ∧ m.testBit (p + n) = false
  | .copy m n => n ≠ 0 ∧ -(w : Int) < n ∧ n < w ∧ m < 2 ^ w ∧ ∀ p, m.testBit p = true → 0 ≤ (p : Int) + n ∧ (p : Int) + n < w
noncomputable def Dd.src (w : Nat) (p : Nat) : Dd → Int
  | .and m => if m.testBit p then (p : Int) else -1
  | .or m => if m.testBit p then -2 else (p : Int)
  | .left n => if n ≤ p then (p : Int) - n else -1
  | .right n => if p + n < w then (p : Int) + n else -1
  | .turn n => if n ≤ p then (p : Int) - n else (p : Int) - n + w
  | .gather m => if p < (placesN m).length then ((placesN m).getD p 0 : Int) else -1
  | .strew m => if m.testBit p then ((placesN m).idxOf p : Int) else -1
  | .swap m n => if inM m ((p : Int) - n) then (p : Int) - n else if m.testBit p then (p : Int) + n else p
  | .copy m n => if inM m ((p : Int) - n) then (p : Int) - n else p
noncomputable def Dd.led (w : Nat) (d : Dd) : List Int := (List.range w).map fun p => d.src w p
theorem inM_nat (m k : Nat) : inM m (k : Int) = m.testBit k := by
  unfold inM; simp
theorem bit_ge {x w i : Nat} (h : x < 2 ^ w) (hi : w ≤ i) : x.testBit i = false := Nat.testBit_lt_two_pow (Nat.lt_of_lt_of_le h (Nat.pow_le_pow_right (by decide) hi))
theorem places_idx {m p : Nat} (h : m.testBit p = true) : (placesN m).idxOf p < (placesN m).length ∧ (placesN m).getD ((placesN m).idxOf p) 0 = p := by
  have hm : p ∈ placesN m := mem_placesN.mpr h
  have hl := List.idxOf_lt_length_iff.mpr hm
  refine ⟨hl, ?_⟩
  rw [List.getD_eq_getElem?_getD, List.getElem?_eq_getElem hl]
  exact List.getElem_idxOf hl
theorem Dd.src_ld {w : Nat} {d : Dd} (h : d.ok w) {p : Nat} (hp : p < w) : -2 ≤ d.src w p ∧ d.src w p < (w : Int) := by
  cases d with
  | and m => simp only [Dd.src]; split <;> omega
  | or m => simp only [Dd.src]; split <;> omega
  | left n => simp only [Dd.src]; split <;> omega
  | right n => simp only [Dd.src]; split <;> omega
  | turn n => simp only [Dd.src, Dd.ok] at h ⊢; split <;> omega
  | gather m =>
    simp only [Dd.src, Dd.ok] at h ⊢
    split
    · rename_i k; have := places_getD h k; omega
    · omega
  | strew m =>
    simp only [Dd.src, Dd.ok] at h ⊢
    split
    · rename_i k; have := (places_idx k).1; have := places_len h; omega
    · omega
  | swap m n =>
    simp only [Dd.src, Dd.ok] at h ⊢
    split
    · rename_i k; simp only [inM, Bool.and_eq_true, decide_eq_true_iff] at k; omega
    · split
      · rename_i k; have := (h.2.2 p k).1; omega
      · omega
  | copy m n =>
    simp only [Dd.src, Dd.ok] at h ⊢
    split
    · rename_i k
      simp only [inM, Bool.and_eq_true, decide_eq_true_iff] at k
      have : ((p : Int) - n).toNat < w := by
        by_cases z : ((p : Int) - n).toNat < w
        · exact z
        · rw [bit_ge h.2.2.2.1 (by omega)] at k; exact absurd k.2 Bool.false_ne_true
      omega
    · omega
theorem Dd.led_ld {w : Nat} {d : Dd} (h : d.ok w) : Ld w (d.led w) := by
  refine ⟨by simp [Dd.led], fun e he => ?_⟩
  simp only [Dd.led, List.mem_map, List.mem_range] at he
  obtain ⟨p, hp, rfl⟩ := he
  exact d.src_ld h hp
end L2

set_option linter.all false
set_option maxRecDepth 100000
namespace L2
open PySem PySem.Spec PyProof.Rows Bm
theorem shl_val (x n : Nat) : (x : Int) * 2 ^ ((n : Int)).toNat = ((x * 2 ^ n : Nat) : Int) := by rw [Int.toNat_natCast]; simp
noncomputable def Dd.mask : Dd → Nat
  | .and m => m | .or m => m | .left _ => 0 | .right _ => 0 | .turn _ => 0 | .gather m => m | .strew m => m | .swap m _ => m | .copy m _ => m
theorem for_enumL {K : PySem.W.Frag} {a : Addr} {xs : List V} {g : TG} {tb : TS} {D : Ends} {σ : St} {H : Hp} (Pv : Nat → St → Hp → Prop) (h0 : Pv 0 σ H) (hl : ∀ i σ H, Pv i σ H → SqL K H a xs)
    (hs : ∀ i u T σ H, xs[i]? = some u → H T = none → Pv i σ H → g (.ref T) σ (upd H T (.tup [.int (i : Int), u])) fun σ2 H2 => tb { D with nx := Pv (i + 1), ct := Pv (i + 1), bk := D.nx } σ2 H2) (hd : ∀ σ H, Pv xs.length σ H → D.nx σ H) :
    ForW (IteL K a xs) g tb D σ H := by
  refine ⟨fun i m σ H => m = xs.length - i ∧ i ≤ xs.length ∧ Pv i σ H, ⟨xs.length, by simp, Nat.zero_le _, h0⟩, ?_⟩
  rintro i m σ H ⟨rfl, hi, p⟩
  by_cases hlt : i < xs.length
  · refine .inr ⟨⟨hlt, hl i σ H p⟩, Pv (i + 1), fun σ' H' p' => ⟨xs.length - (i + 1), by omega, rfl, hlt, p'⟩, fun x H' y => ?_⟩
    obtain ⟨T, u, rfl, hT, rfl, hu⟩ := y
    exact hs i u T σ H hu hT p
  · have e : i = xs.length := by omega
    subst e
    exact .inl ⟨⟨rfl, hl _ σ H p⟩, hd σ H p⟩
theorem s_repL {K : PySem.W.Frag} {a : Addr} {x : V} {k : Int} {n : Nat} {H : Hp} {Q : VK} (ha : H a = some (.lst [x])) (e : k = (n : Int)) (h2 : n ≤ 100000) (h : ∀ t H', H t = none → Same H H' → H' t = some (.lst (List.replicate n x)) → Q (.ref t) H') : rMulK K (.ref a) (.int k) H Q := by
  subst e
  refine .inl (.inr ⟨a, _, _, rfl, rfl, ha, by omega, by omega, ?_, fun p hp => ?_⟩)
  · rw [Int.toNat_natCast]
    show 1 * n ≤ sizeLine
    rw [Nat.one_mul]
    exact Nat.le_of_lt (small5 h2)
  · have e : (List.replicate ((n : Int)).toNat [x]).flatten = List.replicate n x := by
      rw [Int.toNat_natCast]
      clear h2 h
      induction n with
      | zero => rfl
      | succ n ih => rw [List.replicate_succ, List.flatten_cons, ih, List.replicate_succ]; rfl
    rw [e]
    exact h p _ hp (same_upd hp) upd_same
theorem s_catL {K : PySem.W.Frag} {a b : Addr} {xs ys : List V} {H : Hp} {Q : VK} (ha : H a = some (.lst xs)) (hb : H b = some (.lst ys)) (hz : xs.length + ys.length ≤ 100000) (h : ∀ t H', H t = none → Same H H' → H' t = some (.lst (xs ++ ys)) → Q (.ref t) H') : rAddU K (.ref a) (.ref b) H Q :=
  .inr (.inl ⟨a, b, _, _, rfl, rfl, ha, hb, Nat.le_of_lt (small5 hz), fun p hp => h p _ hp (same_upd hp) upd_same⟩)
theorem s_setN {p : Addr} {xs : List V} {j : Nat} {v : V} {H : Hp} {K : Hp → Prop} (hp : H p = some (.lst xs)) (hj : j < xs.length) (h : K (upd H p (.lst (xs.set j v)))) : rSetL (.ref p) (.int (j : Int)) v H K :=
  s_set hp (by unfold ixN; rw [if_pos (by omega), if_pos (by omega)]; simp) h
theorem s_tupOf {K : PySem.W.Frag} {a : Addr} {xs : List V} {H : Hp} {Q : VK} (ha : H a = some (.lst xs)) (h : ∀ t H', H t = none → Same H H' → H' t = some (.tup xs) → Q (.ref t) H') : rTupOf K [.ref a] H Q :=
  ⟨a, xs, rfl, .inl ⟨SqL.of ha, fun t ht => h t _ ht (same_upd ht) upd_same⟩⟩
theorem cut_drop (xs : List V) (k : Nat) (h : k ≤ xs.length) : cutV xs (some (k : Int)) none = xs.drop k := by
  unfold cutV
  rw [HT.sIx_nat, Nat.min_eq_left h]
  show (xs.drop k).take (xs.length - k) = _
  rw [List.take_of_length_le (by rw [List.length_drop]; omega)]
noncomputable def pon (w : Nat) (z : Int) : Int := if 0 ≤ z ∧ z ≤ (w : Int) - 1 then z else -1
noncomputable def spPon : Sp := fun vs H Q _ => ∃ (w : Nat) (z : Int), vs = [nV w, .int z] ∧ Q (.int (pon w z)) H
noncomputable def spCopySrc : Sp := fun vs H Q _ => ∃ (m : Nat) (n : Int) (p : Nat), vs = [nV m, .int n, nV p] ∧ Q (.int (if inM m ((p : Int) - n) then (p : Int) - n else p)) H
noncomputable def Dd.flat : Dd → Bool
  | .gather _ => false
  | .strew _ => false
  | _ => true
noncomputable def spSource : Sp := fun vs H Q _ => ∃ (w p : Nat) (a : Addr) (d : Dd), vs = [nV w, .ref a, nV p] ∧ H a = some (.tup d.vals) ∧ d.ok w ∧ d.flat = true ∧ p < w ∧ w ≤ 64 ∧ Q (.int (d.src w p)) H
noncomputable def spGathLd : Sp := fun vs H Q _ => ∃ (w m : Nat), vs = [nV w, nV m] ∧ m < 2 ^ w ∧ w ≤ 64 ∧ ∀ t H', Same H H' → H' t = some (.tup (((Dd.gather m).led w).map V.int)) → Q (.ref t) H'
noncomputable def spStrewLd : Sp := fun vs H Q _ => ∃ (w m : Nat), vs = [nV w, nV m] ∧ m < 2 ^ w ∧ w ≤ 64 ∧ ∀ t H', Same H H' → H' t = some (.tup (((Dd.strew m).led w).map V.int)) → Q (.ref t) H'
noncomputable def spDeedLd : Sp := fun vs H Q _ => ∃ (w : Nat) (a : Addr) (d : Dd), vs = [nV w, .ref a] ∧ H a = some (.tup d.vals) ∧ d.ok w ∧ w ≤ 64 ∧ ∀ t H', Same H H' → H' t = some (.tup ((d.led w).map V.int)) → Q (.ref t) H'
theorem gather_led {m w : Nat} (h : m < 2 ^ w) : ((Dd.gather m).led w).map V.int = (placesN m).map nV ++ (List.replicate (w - (placesN m).length) (V.int (-1))) := by
  have hl := places_len h
  apply List.ext_getElem?
  intro i
  rw [Dd.led, List.map_map, List.getElem?_map]
  by_cases hi : i < w
  · rw [List.getElem?_range hi]
    show some (V.int ((Dd.gather m).src w i)) = _
    simp only [Dd.src]
    by_cases hp : i < (placesN m).length
    · rw [if_pos hp, List.getElem?_append_left (by rw [List.length_map]; exact hp), List.getElem?_map, List.getElem?_eq_getElem hp, List.getD_eq_getElem?_getD, List.getElem?_eq_getElem hp]
      rfl
    · rw [if_neg hp, List.getElem?_append_right (by rw [List.length_map]; omega), List.getElem?_replicate, List.length_map, if_pos (by omega)]
  · rw [List.getElem?_eq_none (by rw [List.length_range]; omega), List.getElem?_eq_none (by rw [List.length_append, List.length_map, List.length_replicate]; omega)]
    rfl
noncomputable def strewE (w m i : Nat) : List Int := (List.range w).map fun p => if (placesN m).idxOf p < i ∧ m.testBit p = true then ((placesN m).idxOf p : Int) else -1
theorem strewE_zero (w m : Nat) : strewE w m 0 = List.replicate w (-1) := by
  rw [strewE, List.map_congr_left (g := fun _ => (-1 : Int)) (fun p _ => by rw [if_neg (by omega)])]
  rw [List.map_const', List.length_range]
theorem strewE_succ {w m i y : Nat} (h : m < 2 ^ w) (hi : (placesN m)[i]? = some y) : (strewE w m i).set y (i : Int) = strewE w m (i + 1) := by
  have hil : i < (placesN m).length := (List.getElem?_eq_some_iff.mp hi).1
  have eg : (placesN m).getD i 0 = y := by rw [List.getD_eq_getElem?_getD, hi]; rfl
  have hy : m.testBit y = true := places_at.mpr ⟨i, hil, eg⟩
  have hyw : y < w := places_lt h (mem_placesN.mpr hy)
  have ei : (placesN m).idxOf y = i := by
    obtain ⟨h1, h2⟩ := places_idx hy
    exact places_inj h1 hil (h2.trans eg.symm)
  apply List.ext_getElem?
  intro p
  rw [List.getElem?_set]
  by_cases e : y = p
  · subst e
    rw [if_pos rfl, if_pos (by simp [strewE]; exact hyw), strewE, List.getElem?_map, List.getElem?_range hyw]
    show some (i : Int) = some (if (placesN m).idxOf y < i + 1 ∧ m.testBit y = true then ((placesN m).idxOf y : Int) else -1)
    rw [if_pos ⟨by omega, hy⟩, ei]
  · rw [if_neg e, strewE, strewE, List.getElem?_map, List.getElem?_map]
    by_cases hp : p < w
    · rw [List.getElem?_range hp]
      show some (if (placesN m).idxOf p < i ∧ m.testBit p = true then ((placesN m).idxOf p : Int) else -1) = some (if (placesN m).idxOf p < i + 1 ∧ m.testBit p = true then ((placesN m).idxOf p : Int) else -1)
      have : ((placesN m).idxOf p < i ∧ m.testBit p = true) ↔ ((placesN m).idxOf p < i + 1 ∧ m.testBit p = true) := by
        constructor
        · exact fun ⟨a, b⟩ => ⟨by omega, b⟩
        · rintro ⟨a, b⟩
          refine ⟨?_, b⟩
          have : (placesN m).idxOf p ≠ i := fun z => by
            have := (places_idx b).2
            rw [z, eg] at this
            exact e this
          omega
      by_cases c : (placesN m).idxOf p < i ∧ m.testBit p = true
      · rw [if_pos c, if_pos (this.mp c)]
      · rw [if_neg c, if_neg (fun z => c (this.mpr z))]
    · rw [List.getElem?_eq_none (by rw [List.length_range]; omega)]
      rfl
theorem strewE_all {w m : Nat} : strewE w m (placesN m).length = (Dd.strew m).led w := by
  rw [strewE, Dd.led]
  apply List.map_congr_left
  intro p hp
  simp only [Dd.src]
  by_cases c : m.testBit p = true
  · rw [if_pos c, if_pos ⟨(places_idx c).1, c⟩]
  · rw [if_neg c, if_neg (fun z => c z.2)]
theorem strewE_len (w m i : Nat) : (strewE w m i).length = w := by simp [strewE]
noncomputable def rowV (L : List (Addr × Dd)) : List V := L.map fun q => V.ref q.1
noncomputable def Rw (H : Hp) (w : Nat) (L : List (Addr × Dd)) : Prop := ∀ q ∈ L, H q.1 = some (.tup q.2.vals) ∧ q.2.ok w
theorem Rw.same {H H' : Hp} {w : Nat} {L : List (Addr × Dd)} (h : Rw H w L) (s : Same H H') : Rw H' w L := fun q hq => ⟨s _ _ (h q hq).1, (h q hq).2⟩
noncomputable def dds (L : List (Addr × Dd)) : List Dd := L.map fun q => q.2
noncomputable def rowL (w : Nat) (ds : List Dd) : List Int := ds.foldl (fun l d => thenL l (d.led w)) (stayL w)
theorem rowL_from {w : Nat} : ∀ (ds : List Dd) (l : List Int), (∀ d ∈ ds, d.ok w) → Ld w l → Ld w (ds.foldl (fun l d => thenL l (d.led w)) l)
  | [], _, _, h => h
  | d :: ds, l, hd, h => rowL_from ds _ (fun e he => hd e (.tail _ he)) (then_ld h (d.led_ld (hd d (.head _))))
theorem row_ld {w : Nat} {ds : List Dd} (h : ∀ d ∈ ds, d.ok w) : Ld w (rowL w ds) := rowL_from ds _ h (stay_ld w)
theorem rowL_then {w : Nat} : ∀ (ds : List Dd) (l : List Int), (∀ d ∈ ds, d.ok w) → Ld w l → ds.foldl (fun l d => thenL l (d.led w)) l = thenL l (rowL w ds)
  | [], l, _, h => (then_stayR h).symm
  | d :: ds, l, hd, h => by
    have h0 := d.led_ld (hd d (.head _))
    have ht : ∀ e ∈ ds, e.ok w := fun e he => hd e (.tail _ he)
    show ds.foldl (fun l d => thenL l (d.led w)) (thenL l (d.led w)) = thenL l (ds.foldl (fun l d => thenL l (d.led w)) (thenL (stayL w) (d.led w)))
    rw [rowL_then ds _ ht (then_ld h h0), rowL_then ds _ ht (then_ld (stay_ld w) h0), then_stayL h0, then_assoc h0 (row_ld ht)]
theorem rowV_len (L : List (Addr × Dd)) : (rowV L).length = L.length := by rw [rowV, List.length_map]
theorem dds_app (L M : List (Addr × Dd)) : dds (L ++ M) = dds L ++ dds M := by rw [dds, dds, dds, List.map_append]
theorem Rw.take {H : Hp} {w : Nat} {L : List (Addr × Dd)} (h : Rw H w L) (k : Nat) : Rw H w (L.take k) := fun q hq => h q (List.mem_of_mem_take hq)
theorem s_if_f {A B : Prop} {c : Bool} (e : c = false) (h : B) : if c = true then A else B := by subst e; exact iteF h
theorem s_if_t {A B : Prop} {c : Bool} (e : c = true) (h : A) : if c = true then A else B := by subst e; exact iteT h
theorem Rw.ok {H : Hp} {w : Nat} {L : List (Addr × Dd)} (h : Rw H w L) : ∀ d ∈ dds L, d.ok w := fun d hd => by
  obtain ⟨q, hq, rfl⟩ := List.mem_map.mp hd
  exact (h q hq).2
theorem Rw.snoc {H H' : Hp} {w : Nat} {L : List (Addr × Dd)} {t : Addr} {d : Dd} (h : Rw H w L) (s : Same H H') (n : H' t = some (.tup d.vals)) (hd : d.ok w) : Rw H' w (L ++ [(t, d)]) := fun q hq => by
  rcases List.mem_append.mp hq with z | z
  · exact h.same s q z
  · rw [List.mem_singleton.mp z]; exact ⟨n, hd⟩
theorem Rw.nil (H : Hp) (w : Nat) : Rw H w [] := fun _ z => (nomatch z)
theorem s_ext {K : PySem.W.Frag} {a b : Addr} {xs ys : List V} {H : Hp} {Q : VK} (ha : H a = some (.lst xs)) (hb : H b = some (.lst ys)) (hz : xs.length + ys.length ≤ 100000) (h : Q .non (upd H a (.lst (xs ++ ys)))) : rExtend (.ref a) [.ref b] H Q := ⟨a, b, xs, ys, rfl, rfl, ha, hb, Nat.le_of_lt (small5 hz), h⟩
theorem for_seqN {K : PySem.W.Frag} {a : Addr} {xs : List V} {g : TG} {tb : TS} {D : Ends} {σ : St} {H : Hp} (Pv : Nat → St → Hp → Prop) (h0 : Pv 0 σ H) (hl : ∀ i σ H', Pv i σ H' → SqL K H' a xs)
    (step : ∀ i x σ H', xs[i]? = some x → Pv i σ H' → g x σ H' fun σ2 H2 => tb { D with nx := Pv (i + 1), ct := Pv (i + 1), bk := D.nx } σ2 H2) (done : ∀ σ H', Pv xs.length σ H' → D.nx σ H') :
    ∃ b, V.ref a = .ref b ∧ (((∃ xs, SqL K H b xs) ∧ ForW (Itl K b) g tb D σ H) ∨ ((∃ xs, SqT K H b xs) ∧ ForW (Itt K b) g tb D σ H)) :=
  ⟨a, rfl, .inl ⟨⟨xs, hl 0 σ H h0⟩, for_list Pv h0 (fun i σ H' _ p => hl i σ H' p) step done⟩⟩
theorem s_eq_l {K : PySem.W.Frag} {a b : Addr} {xs ys : List Int} {H : Hp} {Q : VK} (ha : SqL K H a (xs.map V.int)) (hb : SqL K H b (ys.map V.int)) (h : Q (.bl (decide (xs = ys))) H) : rEqU K (.ref a) (.ref b) H Q := by
  refine ⟨.list (xs.map .int), .list (ys.map .int), DatV.list ha (DatVs.ints K H xs), DatV.list hb (DatVs.ints K H ys), shpd_ints _, shpd_ints _, ?_⟩
  rw [show PyData.eqv (.list (xs.map .int)) (.list (ys.map .int)) = decide (xs = ys) by rw [PyData.eqv, eqvAll_ints]]
  exact h
end L2

set_option linter.all false
set_option maxRecDepth 100000
namespace L2
open PySem PySem.Spec PyProof.Rows Bm
end L2

set_option linter.all false
set_option maxRecDepth 100000
namespace L2
open PySem PySem.Spec PyProof.Rows Bm

noncomputable abbrev plc (m j : Nat) : Nat := (placesN m).getD j 0
theorem plc_far {m i : Nat} : ∀ d, i + d < (placesN m).length → plc m i + d ≤ plc m (i + d)
  | 0, _ => Nat.le_refl _
  | d + 1, h => by
    have a := plc_far (m := m) (i := i) d (by omega)
    have b := places_up (m := m) (i := i + d) (j := i + (d + 1)) (by omega) h
    show plc m i + (d + 1) ≤ plc m (i + (d + 1))
    have b' : plc m (i + d) < plc m (i + (d + 1)) := b
    omega
theorem plc_ge {m j : Nat} (h : j < (placesN m).length) : j ≤ plc m j := by
  have := plc_far (m := m) (i := 0) j (by omega)
  rw [Nat.zero_add] at this
  omega
theorem for_zip {K : PySem.W.Frag} {a b : Addr} {xs ys : List V} {g : TG} {tb : TS} {D : Ends} {σ : St} {H : Hp} (Pv : Nat → St → Hp → Prop) (h0 : Pv 0 σ H) (hl : ∀ i σ H, Pv i σ H → SqL K H a xs ∧ SqL K H b ys)
    (hs : ∀ i u v T σ H, xs[i]? = some u → ys[i]? = some v → H T = none → Pv i σ H → g (.ref T) σ (upd H T (.tup [u, v])) fun σ2 H2 => tb { D with nx := Pv (i + 1), ct := Pv (i + 1), bk := D.nx } σ2 H2) (hd : ∀ σ H, Pv (min xs.length ys.length) σ H → D.nx σ H) :
    ForW (Itz K a b xs ys) g tb D σ H := by
  refine ⟨fun i m σ H => m = min xs.length ys.length - i ∧ i ≤ min xs.length ys.length ∧ Pv i σ H, ⟨min xs.length ys.length, by simp, Nat.zero_le _, h0⟩, ?_⟩
  rintro i m σ H ⟨rfl, hi, p⟩
  by_cases hlt : i < min xs.length ys.length
  · refine .inr ⟨⟨hlt, hl i σ H p⟩, Pv (i + 1), fun σ' H' p' => ⟨min xs.length ys.length - (i + 1), by omega, rfl, hlt, p'⟩, fun x H' y => ?_⟩
    obtain ⟨T, u, v, rfl, hT, rfl, hu, hv⟩ := y
    exact hs i u v T σ H hu hv hT p
  · have e : i = min xs.length ys.length := by omega
    subst e
    exact .inl ⟨⟨rfl, hl _ σ H p⟩, hd σ H p⟩
end L2

set_option linter.all false
set_option maxRecDepth 100000
namespace L2
open PySem PySem.Spec PyProof.Rows Bm
end L2

set_option linter.all false
set_option maxRecDepth 100000
namespace L2
open PySem PySem.Spec PyProof.Rows Bm
section
variable {X : Cx} {K : PySem.W.Frag}
end
end L2

set_option linter.all false
set_option maxRecDepth 100000
namespace L2
open PySem PySem.Spec PyProof.Rows Bm
noncomputable def SqIt : Bool → Heap → Addr → Addr → Nat → Prop
  | true, h, it, l, i => h.IsListIter it l i
  | false, h, it, l, i => h.IsTupleIter it l i
noncomputable def SqOb : Bool → Heap → Addr → Array Value → Prop
  | true, h, l, xs => h.IsList l xs
  | false, h, l, xs => h.IsTuple l xs
section
variable {prog : Program} {w : World} {A : Around} {E : Value → Shared → Prop} {s : Shared}
variable {z TI TO i1 i2 : Addr} {f1 f2 : List Addr} {n1 n2 k : Nat} {P1 P2 : Nat → Value → Prop} {S1 S2 : Nat → Heap → Prop} {a b : Value}
end
section
variable {prog : Program} {w : World} {A : Around} {E : Value → Shared → Prop} {s : Shared}
end
noncomputable def SqB : Bool → PySem.W.Frag → Hp → Addr → List V → Prop
  | true, K, H, a, xs => SqL K H a xs
  | false, K, H, a, xs => SqT K H a xs
end L2

set_option linter.all false
set_option maxRecDepth 100000
namespace L2
open PySem PySem.Spec PyProof.Rows Bm
inductive Alike (H : Hp) : Nat → V → V → Prop where
  | non (n : Nat) : Alike H n .non .non
  | bl (n : Nat) (b : Bool) : Alike H n (.bl b) (.bl b)
  | int (n : Nat) (i : Int) : Alike H n (.int i) (.int i)
  | str (n : Nat) (s : Str) (h : shpd (.str s) = true) : Alike H n (.str s) (.str s)
  | lst {n : Nat} {a b : Addr} {xs ys : List V} (ha : H a = some (.lst xs)) (hb : H b = some (.lst ys)) (hl : xs.length = ys.length) (hz : xs.length ≤ 10000) (hi : ∀ (i : Nat) (x y : V), xs[i]? = some x → ys[i]? = some y → Alike H n x y) : Alike H (n + 1) (.ref a) (.ref b)
  | tup {n : Nat} {a b : Addr} {xs ys : List V} (ha : H a = some (.tup xs)) (hb : H b = some (.tup ys)) (hl : xs.length = ys.length) (hz : xs.length ≤ 10000) (hi : ∀ (i : Nat) (x y : V), xs[i]? = some x → ys[i]? = some y → Alike H n x y) : Alike H (n + 1) (.ref a) (.ref b)
section
variable {K : PySem.W.Frag} {H : Hp} {Q : VK}
end
end L2

set_option linter.all false
set_option maxRecDepth 100000
namespace L2
open PySem PySem.Spec PyProof.Rows Bm
noncomputable def goesB (w m : Nat) (n : Int) : Bool := (placesN m).all fun (p : Nat) => decide ((0 : Int) ≤ (p : Int) + n) && decide ((p : Int) + n ≤ (w : Int) - 1)
end L2

set_option linter.all false
set_option maxRecDepth 100000
namespace L2
open PySem PySem.Spec PyProof.Rows Bm
section
variable {K : PySem.W.Frag} {H : Hp} {Q : VK} {x y : V} {d : PyData}
end
theorem rowL_snoc (w : Nat) (ds : List Dd) (d : Dd) : rowL w (ds ++ [d]) = thenL (rowL w ds) (d.led w) := by
  unfold rowL; rw [List.foldl_append]; rfl
theorem SqA.of {K : PySem.W.Frag} {H : Hp} {a : Addr} {xs : List V} (h : H a = some (.lst xs)) : SqA K H a xs := .inl (SqL.of h)
noncomputable def SqH (H : Hp) (a : Addr) (xs : List V) : Prop := H a = some (.lst xs) ∨ H a = some (.tup xs)
end L2

set_option linter.all false
set_option maxRecDepth 100000
namespace L2
open PySem PySem.Spec PyProof.Rows Bm
end L2

set_option linter.all false
set_option maxRecDepth 100000
namespace Bm
end Bm
namespace L2
open PySem PySem.Spec PyProof.Rows Bm
theorem s_listOf {K : PySem.W.Frag} {a : Addr} {xs : List V} {H : Hp} {Q : VK} (ha : SqA K H a xs) (h : ∀ t H', H t = none → Same H H' → H' t = some (.lst xs) → Q (.ref t) H') : rListOf K [.ref a] H Q :=
  ⟨a, xs, rfl, ha, fun t ht => h t _ ht (same_upd ht) upd_same⟩
end L2

set_option linter.all false
set_option maxRecDepth 100000
namespace L2
open PySem PySem.Spec PyProof.Rows Bm
section
variable {X : Cx} {K : PySem.W.Frag}
noncomputable def rCat0 (K : PySem.W.Frag) : R2 := fun x y H Q => ∃ a b ys, x = .ref a ∧ y = .ref b ∧ SqT K H a [] ∧ SqT K H b ys ∧ Q (.ref b) H
theorem cat_tup0 {prog : Program} {w : World} {A : Around} {E : Value → Shared → Prop} {s : Shared} {t b : Addr} {ws : List Value} {Q : Value → Shared → Prop} (ht : IsTup s.heap t ([] : List Value).toArray) (hb : IsTup s.heap b ws.toArray) (q : Q (.ref b) s) : wpAny (model prog w) A (binaryOp .Add (.ref t) (.ref b)) Q E s := by
  obtain ⟨⟨c1, d1, x1, l1⟩, g1, e1, n1, f1⟩ := ht
  obtain ⟨⟨c2, d2, x2, l2⟩, g2, e2, n2, f2⟩ := hb
  dsimp only at e1 f1 e2 f2
  subst e1 f1 e2 f2
  exact concat_meets ⟨_, g1, rfl⟩ ⟨_, g2, rfl⟩ noFill_tuple_add seq_tuple_add PySem.F.slot_tuple_add PySem.F.entry_tuple_add (PySem.F.args_tuple_add_2 _ _) (tuple_addW0 t b _ _ n1 n2 d1 d2 l1 l2 rfl) ⟨g1, g2, q⟩
theorem op_cat0 : OpR X (binaryOp .Add) (rCat0 X.K) := by
  intro pins s σ H x y v u Q I rx ry h
  obtain ⟨a, b, ys, rfl, rfl, ha, hb, q⟩ := h
  cases rx
  cases ry
  obtain ⟨i1, r1, p1, _⟩ := I.tuple ha
  obtain ⟨i2, r2, p2, _⟩ := I.tuple hb
  cases r1
  exact cat_tup0 p1 p2 ⟨.ref b, H, I, rfl, q⟩
noncomputable def rAdd2 (K : PySem.W.Frag) : R2 := fun x y H Q => rAddU K x y H Q ∨ rCat0 K x y H Q
theorem k_add2 (hK : X.K = K := by rfl) : OpR X (binaryOp .Add) (rAdd2 K) := hK ▸ opU_add.or op_cat0
theorem s_add2_i {i j : Int} {H : Hp} {Q : VK} (h : Q (.int (i + j)) H) : rAdd2 K (.int i) (.int j) H Q := .inl (.inl ⟨i, j, rfl, rfl, h⟩)
theorem s_catT {a b : Addr} {xs ys : List V} {H : Hp} {Q : VK} (ha : H a = some (.tup xs)) (hb : H b = some (.tup ys)) (hz : xs.length + ys.length ≤ 100000) (h : ∀ t H', Same H H' → H' t = some (.tup (xs ++ ys)) → Q (.ref t) H') : rAdd2 K (.ref a) (.ref b) H Q := by
  by_cases e : xs = []
  · subst e
    exact .inr ⟨a, b, ys, rfl, rfl, SqT.of ha, SqT.of hb, h b H (Same.refl H) hb⟩
  · refine .inl (.inr (.inr ⟨a, b, xs, ys, rfl, rfl, SqT.of ha, SqT.of hb, e, Nat.le_of_lt (small5 hz), fun z => ?_, fun _ p hp => h p _ (same_upd hp) upd_same⟩))
    subst z
    exact h a H (Same.refl H) (by rw [List.append_nil]; exact ha)
variable {a b : Expr} {ta : TA} {p p2 pos pos2 : Pos}
end
section
variable {σ : St} {H : Hp} {Q : VK}
end
end L2

set_option linter.all false
set_option maxRecDepth 100000
namespace L2
open PySem PySem.Spec PyProof.Rows Bm
noncomputable def higherL (k : Nat) (ls : List Int) : List Int := ls.map fun e => if 0 ≤ e then e + (k : Int) else e
theorem higher_len (k : Nat) (ls : List Int) : (higherL k ls).length = ls.length := by simp [higherL]
theorem higher_ld {k w : Nat} {ls : List Int} (h : Ld w ls) : ∀ e ∈ higherL k ls, -2 ≤ e ∧ e < ((k + w : Nat) : Int) := fun e he => by
  simp only [higherL, List.mem_map] at he
  obtain ⟨x, hx, rfl⟩ := he
  have := h.2 x hx
  split <;> omega
theorem app_ld {n w : Nat} {a b : List Int} (ha : Ld n a) (hb : Ld w b) : Ld (n + w) (a ++ higherL n b) := by
  refine ⟨by rw [List.length_append, higher_len, ha.1, hb.1], fun e he => ?_⟩
  rcases List.mem_append.mp he with z | z
  · have := ha.2 e z; omega
  · exact higher_ld hb e z
noncomputable def LdE (ls : List Int) : Prop := Ld ls.length ls
noncomputable def Lds (H : Hp) (A : List (Addr × List Int)) : Prop := ∀ q ∈ A, H q.1 = some (.tup (q.2.map V.int)) ∧ LdE q.2
end L2

set_option linter.all false
set_option maxRecDepth 100000
namespace L2
open PySem PySem.Spec PyProof.Rows Bm
end L2

set_option linter.all false
set_option maxRecDepth 100000
namespace L2
open PySem PySem.Spec PyProof.Rows Bm
end L2

set_option linter.all false
set_option maxRecDepth 100000
namespace L2
open PySem PySem.Spec PyProof.Rows Bm
section
variable {X : Cx}
end
noncomputable def Rws (H : Hp) (w : Nat) (T : List (Addr × List (Addr × Dd))) : Prop := ∀ q ∈ T, SqH H q.1 (rowV q.2) ∧ Rw H w q.2
end L2

set_option linter.all false
set_option maxRecDepth 100000
namespace L2
open PySem PySem.Spec PyProof.Rows Bm
end L2

set_option linter.all false
set_option maxRecDepth 100000
namespace L2
open PySem PySem.Spec PyProof.Rows Bm
theorem led_getD {w : Nat} (d : Dd) {q : Nat} (h : q < w) : (d.led w).getD q 0 = d.src w q := by
  rw [Dd.led, List.getD_eq_getElem?_getD, List.getElem?_map, List.getElem?_range h]; rfl
noncomputable def Dd.nm : Dd → Str
  | .and _ => "and" | .or _ => "or" | .left _ => "left" | .right _ => "right" | .turn _ => "turn" | .gather _ => "gather" | .strew _ => "strew" | .swap _ _ => "swap" | .copy _ _ => "copy"
noncomputable def Dd.num : Dd → Nat
  | .and m => m | .or m => m | .left m => m | .right m => m | .turn m => m | .gather m => m | .strew m => m | .swap m _ => m | .copy m _ => m
noncomputable def Dd.rest : Dd → List V
  | .swap _ n => [nV n] | .copy _ n => [.int n] | _ => []
noncomputable def TogV (H : Hp) (r : V) : Option Dd → Prop
  | none => r = .non
  | some f => ∃ t, r = .ref t ∧ H t = some (.tup f.vals)
end L2

set_option linter.all false
set_option maxRecDepth 100000
namespace L2
open PySem PySem.Spec PyProof.Rows Bm
section
variable {X : Cx} {K : PySem.W.Frag}
end
theorem sum_filter (f : Nat → Nat) : ∀ (l : List Nat), (((l.map f).map fun (x : Nat) => (x : Int)).sum) = ((l.map f).sum : Nat) := fun l => by
  induction l with
  | nil => rfl
  | cons x l ih => simp only [List.map_cons, List.sum_cons, ih]; omega
end L2

set_option linter.all false
set_option maxRecDepth 100000
namespace L2
open PySem PySem.Spec PyProof.Rows Bm
inductive AlikeI (H : Hp) : Nat → V → V → Prop where
  | non (n : Nat) : AlikeI H n .non .non
  | int (n : Nat) (i : Int) : AlikeI H n (.int i) (.int i)
  | str (n : Nat) (s : Str) (h : shpd (.str s) = true) : AlikeI H n (.str s) (.str s)
  | lst {n : Nat} {a b : Addr} {xs ys : List V} (ha : H a = some (.lst xs)) (hb : H b = some (.lst ys)) (hl : xs.length = ys.length) (hz : xs.length ≤ 10000) (hi : ∀ (i : Nat) (x y : V), xs[i]? = some x → ys[i]? = some y → AlikeI H n x y) : AlikeI H (n + 1) (.ref a) (.ref b)
  | tup {n : Nat} {a b : Addr} {xs ys : List V} (ha : H a = some (.tup xs)) (hb : H b = some (.tup ys)) (hl : xs.length = ys.length) (hz : xs.length ≤ 10000) (hi : ∀ (i : Nat) (x y : V), xs[i]? = some x → ys[i]? = some y → AlikeI H n x y) : AlikeI H (n + 1) (.ref a) (.ref b)
end L2

set_option linter.all false
set_option maxRecDepth 100000
namespace L2
open PySem PySem.Spec PyProof.Rows Bm
section
variable {X : Cx}
end
end L2

set_option linter.all false
set_option maxRecDepth 100000
namespace HT
open PySem PySem.Spec PyProof.Rows
section
variable {prog : Program} {w : World} {A : Around} {E : Value → Shared → Prop} {s : Shared}
end
end HT
namespace L2
open PySem PySem.Spec PyProof.Rows Bm
section
variable {X : Cx}
end
noncomputable def SqHB : Bool → Hp → Addr → List V → Prop
  | true, H, a, xs => H a = some (.lst xs)
  | false, H, a, xs => H a = some (.tup xs)
noncomputable def LR (H : Hp) (p l l2 : Addr) (w : Nat) (L2 L : List (Addr × Dd)) (H' : Hp) : Prop := But p H H' ∧ Hand H' p ∧ H' l2 = some (.lst (rowV L2)) ∧ Rw H' w L2 ∧ Rw H' w L ∧ H' l = some (.lst (rowV L))
theorem Same.updF {H H' : Hp} {t : Addr} {o : HO} (s : Same H H') (h : H t = none) : Same H (upd H' t o) := fun b u e => by rw [upd_ne (ne_of_none e h)]; exact s b u e
end L2

namespace L2
open PySem PySem.Spec PyProof.Rows

section
variable {κ : Type} [DecidableEq κ]
noncomputable def valV (kvs : List (κ × V)) (k : κ) : Option V := (kvs.find? fun kv => decide (kv.1 = k)).map (·.2)
noncomputable def putK (kvs : List (κ × V)) (k : κ) (v : V) : List (κ × V) :=
  if (kvs.any fun kv => decide (kv.1 = k)) = true then kvs.map (fun kv => if kv.1 = k then (kv.1, v) else kv) else kvs ++ [(k, v)]
noncomputable def dropK (kvs : List (κ × V)) (k : κ) : List (κ × V) := kvs.filter fun kv => decide (kv.1 ≠ k)

theorem valV_pos {p : κ × V} {r : List (κ × V)} {k : κ} (e : p.1 = k) : valV (p :: r) k = some p.2 := by simp [valV, List.find?_cons, e]
theorem valV_neg {p : κ × V} {r : List (κ × V)} {k : κ} (e : ¬ p.1 = k) : valV (p :: r) k = valV r k := by simp [valV, List.find?_cons, e]
theorem valV_any (k : κ) : ∀ kvs : List (κ × V), (kvs.any fun kv => decide (kv.1 = k)) = (valV kvs k).isSome
  | [] => rfl
  | p :: r => by
    rw [List.any_cons]
    by_cases e : p.1 = k
    · simp only [valV_pos e, decide_eq_true e, Bool.true_or, Option.isSome_some]
    · rw [valV_neg e, decide_eq_false e, Bool.false_or]; exact valV_any k r
theorem valV_map (k j : κ) (y : V) : ∀ kvs : List (κ × V), valV (kvs.map fun kv => if kv.1 = k then (kv.1, y) else kv) j = (valV kvs j).map fun x => if j = k then y else x
  | [] => rfl
  | p :: r => by
    have ih := valV_map k j y r
    rw [List.map_cons]
    by_cases h : p.1 = k
    · rw [if_pos h]
      by_cases e : p.1 = j
      · rw [valV_pos (p := (p.1, y)) e, valV_pos e, Option.map_some, if_pos (e.symm.trans h)]
      · rw [valV_neg (p := (p.1, y)) e, valV_neg e, ih]
    · rw [if_neg h]
      by_cases e : p.1 = j
      · rw [valV_pos (p := p) e, valV_pos e, Option.map_some, if_neg (fun z => h (e.trans z))]
      · rw [valV_neg (p := p) e, valV_neg e, ih]
theorem valV_snoc (k j : κ) (y : V) : ∀ kvs : List (κ × V), valV kvs k = none → valV (kvs ++ [(k, y)]) j = if j = k then some y else valV kvs j
  | [], _ => by
    by_cases e : k = j
    · rw [if_pos e.symm]; exact valV_pos (p := (k, y)) e
    · rw [if_neg (fun z => e z.symm)]; exact valV_neg (p := (k, y)) e
  | p :: r, hn => by
    rw [List.cons_append]
    have hk : ¬ p.1 = k := fun z => by rw [valV_pos z] at hn; cases hn
    rw [valV_neg hk] at hn
    have ih := valV_snoc k j y r hn
    by_cases e : p.1 = j
    · rw [valV_pos e, valV_pos e, if_neg (fun z => hk (e.trans z))]
    · rw [valV_neg e, valV_neg e, ih]
theorem valV_put (kvs : List (κ × V)) (k j : κ) (y : V) : valV (putK kvs k y) j = if j = k then some y else valV kvs j := by
  unfold putK
  by_cases a : (kvs.any fun kv => decide (kv.1 = k)) = true
  · rw [if_pos a, valV_map]
    rw [valV_any] at a
    by_cases e : j = k
    · obtain ⟨x, hx⟩ := Option.isSome_iff_exists.mp a
      rw [if_pos e, e, hx, Option.map_some, if_pos rfl]
    · rw [if_neg e]
      cases valV kvs j with
      | none => rfl
      | some x => rw [Option.map_some, if_neg e]
  · rw [if_neg a]
    refine valV_snoc k j y kvs ?_
    rw [valV_any] at a
    cases q : valV kvs k with
    | none => rfl
    | some x => rw [q] at a; exact (a rfl).elim
theorem length_putK (kvs : List (κ × V)) (k : κ) (v : V) : (putK kvs k v).length ≤ kvs.length + 1 := by
  unfold putK
  split
  · rw [List.length_map]; omega
  · rw [List.length_append, List.length_cons, List.length_nil]; omega
theorem RelO.isSome_eq {o : Option V} {u : Option Value} (r : RelO o u) : o.isSome = u.isSome := by
  cases o with
  | none => cases u with
    | none => rfl
    | some _ => exact (show False from r).elim
  | some _ => cases u with
    | none => exact (show False from r).elim
    | some _ => rfl
theorem KV.val {kvs : List (κ × V)} {vs : List (κ × Value)} (r : KV kvs vs) (k : κ) : RelO (valV kvs k) (valueAt vs k) := by
  unfold KV at r
  induction r with
  | nil => exact True.intro
  | @cons p q ps qs h t ih =>
    obtain ⟨h1, h2⟩ := h
    by_cases e : p.1 = k
    · have e' : q.1 = k := h1.symm.trans e
      have b : valueAt (q :: qs) k = some q.2 := by simp [valueAt, List.find?_cons, e']
      rw [valV_pos e, b]; exact h2
    · have e' : ¬ q.1 = k := fun z => e (h1.trans z)
      have b : valueAt (q :: qs) k = valueAt qs k := by simp [valueAt, List.find?_cons, e']
      rw [valV_neg e, b]; exact ih
theorem KV.any {kvs : List (κ × V)} {vs : List (κ × Value)} (r : KV kvs vs) (k : κ) : (kvs.any fun kv => decide (kv.1 = k)) = vs.any fun kv => decide (kv.1 = k) := by
  unfold KV at r
  induction r with
  | nil => rfl
  | cons h t ih => rw [List.any_cons, List.any_cons, ih, h.1]
theorem KV.repl {kvs : List (κ × V)} {vs : List (κ × Value)} (r : KV kvs vs) (k : κ) {y : V} {u : Value} (ry : RelV y u) :
    KV (kvs.map fun kv => if kv.1 = k then (kv.1, y) else kv) (vs.map fun kv => if kv.1 = k then (kv.1, u) else kv) := by
  unfold KV at r ⊢
  induction r with
  | nil => exact .nil
  | @cons p q ps qs h t ih =>
    rw [List.map_cons, List.map_cons]
    refine .cons ?_ ih
    obtain ⟨h1, h2⟩ := h
    by_cases e : p.1 = k
    · rw [if_pos e, if_pos (h1.symm.trans e)]; exact ⟨h1, ry⟩
    · rw [if_neg e, if_neg (fun z => e (h1.trans z))]; exact ⟨h1, h2⟩
theorem KV.put {kvs : List (κ × V)} {vs : List (κ × Value)} (r : KV kvs vs) (k : κ) {y : V} {u : Value} (ry : RelV y u) : KV (putK kvs k y) (stored vs k u) := by
  unfold putK stored
  rw [r.any k]
  by_cases e : (vs.any fun kv => decide (kv.1 = k)) = true
  · rw [if_pos e, if_pos e]; exact r.repl k ry
  · rw [if_neg e, if_neg e]; exact Paired.snoc r ⟨rfl, ry⟩
theorem KV.length {kvs : List (κ × V)} {vs : List (κ × Value)} (r : KV kvs vs) : kvs.length = vs.length := Paired.length r
end


theorem kV_is {P : Program} {w : World} {k : Key} {u : Value} (r : RelV (kV k) u) : (mixKind P w).is k u = true := by
  cases k with
  | inl i => obtain ⟨t, e⟩ := (show ∃ t, u = Value.int i t from r); subst e; exact mixKind_int P w i t
  | inr x => obtain ⟨t, e⟩ := (show ∃ t, u = Value.str x t from r); subst e; exact mixKind_str P w x t
theorem items_are {P : Program} {w : World} : ∀ {ks : List Key} {us : List Value}, Vals (ks.map kV) us → ItemsAre (mixKind P w) ks us
  | [], _, r => by rw [List.map_nil] at r; cases r; exact .nil
  | k :: ks, _, r => by
    rw [List.map_cons] at r
    cases r with
    | cons h t => exact .cons (kV_is h) (items_are t)

noncomputable abbrev KT (H : Hp) : List (List Key × V) → List (List Key × Addr × Value) → Prop := Paired fun p q => p.1 = q.1 ∧ H q.2.1 = some (.tup (p.1.map kV)) ∧ RelV p.2 q.2.2
theorem KT.val {H : Hp} {kvs : List (List Key × V)} {xs : List (List Key × Addr × Value)} (r : KT H kvs xs) (k : List Key) : RelO (valV kvs k) ((atKey xs k).map (·.2)) := by
  induction r with
  | nil => exact True.intro
  | @cons p q ps qs h t ih =>
    obtain ⟨h1, _, h2⟩ := h
    by_cases e : p.1 = k
    · have e' : q.1 = k := h1.symm.trans e
      have b : atKey (q :: qs) k = some q.2 := by simp [atKey, List.find?_cons, e']
      rw [valV_pos e, b]; exact h2
    · have e' : ¬ q.1 = k := fun z => e (h1.trans z)
      have b : atKey (q :: qs) k = atKey qs k := by simp [atKey, List.find?_cons, e']
      rw [valV_neg e, b]; exact ih
theorem KT.repl {H : Hp} {kvs : List (List Key × V)} {xs : List (List Key × Addr × Value)} (r : KT H kvs xs) (k : List Key) {y : V} {u : Value} (ry : RelV y u) :
    KT H (kvs.map fun kv => if kv.1 = k then (kv.1, y) else kv) (xs.map (putAt k u)) := by
  induction r with
  | nil => exact .nil
  | @cons p q ps qs h t ih =>
    rw [List.map_cons, List.map_cons]
    refine .cons ?_ ih
    obtain ⟨h1, h2, h3⟩ := h
    unfold putAt
    by_cases e : p.1 = k
    · rw [if_pos e, if_pos (h1.symm.trans e)]; exact ⟨h1, h2, ry⟩
    · rw [if_neg e, if_neg (fun z => e (h1.trans z))]; exact ⟨h1, h2, h3⟩
theorem KT.put {H : Hp} {kvs : List (List Key × V)} {xs : List (List Key × Addr × Value)} (r : KT H kvs xs) (k : List Key) {b : Addr} {y : V} {u : Value} (hb : H b = some (.tup (k.map kV))) (ry : RelV y u) :
    KT H (putK kvs k y) (storedH xs k b u) := by
  have e : (kvs.any fun kv => decide (kv.1 = k)) = (atKey xs k).isSome := by
    rw [valV_any, (r.val k).isSome_eq, Option.isSome_map]
  unfold putK storedH
  rw [e]
  by_cases q : (atKey xs k).isSome = true
  · rw [if_pos q, if_pos q]; exact r.repl k ry
  · rw [if_neg q, if_neg q]; exact Paired.snoc r ⟨rfl, hb, ry⟩
theorem KT.keeps {H H' : Hp} {kvs : List (List Key × V)} {xs : List (List Key × Addr × Value)} (r : KT H kvs xs) (ht : ∀ b ys, H b = some (.tup ys) → H' b = some (.tup ys)) : KT H' kvs xs :=
  Paired.mapP r fun _ _ z => ⟨z.1, ht _ _ z.2.1, z.2.2⟩

section
variable {P : Program} {w : World} {H : Hp} {h : Heap} {a : Addr}
theorem rd_of {u : HO} (ok : HOk P w H h) (e : Rd H a u) : ObjOk P w H h a u := e.ok ok
theorem dk_rd {kvs : List (Key × V)} (ok : HOk P w H h) (e : Rd H a (.dK kvs)) : kvs.length ≤ sizeLine ∧ (a == sysModules) = false ∧ ∃ vs, KV kvs vs ∧ h.DictOf (mixKind P w) a vs :=
  show ObjOk P w H h a (.dK kvs) from rd_of ok e
theorem dk_of {kvs : List (Key × V)} (ok : HOk P w H h) (e : H a = some (.dK kvs)) : kvs.length ≤ sizeLine ∧ (a == sysModules) = false ∧ ∃ vs, KV kvs vs ∧ h.DictOf (mixKind P w) a vs := dk_rd ok (.inl e)
theorem key_of {ks : List Key} (ok : HOk P w H h) (e : H a = some (.tup (ks.map kV))) : (tupleKind (mixKind P w)).is h ks a := by
  obtain ⟨_, its, r, o, h1, h2, _, n, h3⟩ := (show ObjOk P w H h a (.tup (ks.map kV)) from ok a _ e)
  exact ⟨o, its.toArray, n, h1, h2, h3, by simpa using items_are r⟩
theorem dt_rd {kvs : List (List Key × V)} (ok : HOk P w H h) (e : Rd H a (.dT kvs)) : kvs.length ≤ sizeLine ∧ (a == sysModules) = false ∧
    ∃ xs, KT H kvs xs ∧ h.DictOfH (tupleKind (mixKind P w)) a xs := by
  obtain ⟨z, y, xs, r, o, es, ep, h1, h2, h3, h4, h5⟩ := (show ObjOk P w H h a (.dT kvs) from rd_of ok e)
  refine ⟨z, y, xs, r, o, es, ep, h1, h2, h3, h4, fun x hx => ?_, h5⟩
  have all : ∀ {l : List (List Key × V)} {m : List (List Key × Addr × Value)}, KT H l m → ∀ x ∈ m, (tupleKind (mixKind P w)).is h x.1 x.2.1 := by
    intro l m q
    induction q with
    | nil => intro x hx; exact nomatch hx
    | @cons p q ps qs hq t ih =>
      intro x hx
      rcases List.mem_cons.mp hx with e | hx
      · subst e
        exact key_of ok (by rw [← hq.1]; exact hq.2.1)
      · exact ih x hx
  exact all r x hx
theorem dt_of {kvs : List (List Key × V)} (ok : HOk P w H h) (e : H a = some (.dT kvs)) : kvs.length ≤ sizeLine ∧ (a == sysModules) = false ∧
    ∃ xs, KT H kvs xs ∧ h.DictOfH (tupleKind (mixKind P w)) a xs := dt_rd ok (.inl e)
end

noncomputable def DGet (H : Hp) (a : Addr) (y : V) (r : Option V) : Prop :=
  (∃ kvs k, Rd H a (.dK kvs) ∧ y = kV k ∧ r = valV kvs k) ∨ ∃ kvs k b, Rd H a (.dT kvs) ∧ y = .ref b ∧ H b = some (.tup (k.map kV)) ∧ r = valV kvs k
noncomputable def DPut (H : Hp) (a : Addr) (y v : V) (H' : Hp) : Prop :=
  (∃ kvs k, H a = some (.dK kvs) ∧ y = kV k ∧ kvs.length < sizeLine ∧ H' = upd H a (.dK (putK kvs k v))) ∨
  ∃ kvs k b, H a = some (.dT kvs) ∧ y = .ref b ∧ H b = some (.tup (k.map kV)) ∧ kvs.length < sizeLine ∧ H' = upd H a (.dT (putK kvs k v))
theorem DGet.k {H : Hp} {a : Addr} {kvs : List (Key × V)} {k : Key} (e : H a = some (.dK kvs)) : DGet H a (kV k) (valV kvs k) := .inl ⟨kvs, k, .inl e, rfl, rfl⟩
theorem DPut.k {H : Hp} {a : Addr} {kvs : List (Key × V)} {k : Key} {v : V} (e : H a = some (.dK kvs)) (hl : kvs.length < sizeLine) : DPut H a (kV k) v (upd H a (.dK (putK kvs k v))) := .inl ⟨kvs, k, e, rfl, hl, rfl⟩
section
variable {X : Cx} {pins : List (Addr × Obj)} {σ : St} {H : Hp} {s : Shared} {a : Addr} {y v : V} {u r : Value} {o : Option V} {A : Around} {E : Value → Shared → Prop}

theorem Inv.big (I : Inv X pins σ H s) : sysModules < s.heap.objs.size := by
  have h : mainGlobals < s.heap.objs.size := (I.mod.glob.keeps I.bk).lt
  exact Nat.lt_trans (by decide) h

theorem d_getItem {Q : Value → Shared → Prop} (hu : A.units + 1 < cLine) (I : Inv X pins σ H s) (g : DGet H a y (some v)) (ry : RelV y u) (h : ∀ w' s', Inv X pins σ H s' → RelV v w' → Q w' s') :
    wpAny (model X.prog X.w) A (getItem (.ref a) u) Q E s := by
  rcases g with ⟨kvs, k, e, ey, l⟩ | ⟨kvs, k, b, e, ey, eb, l⟩
  · subst ey
    obtain ⟨z, hd, vs, rel, dd⟩ := dk_rd I.hok e
    obtain ⟨w', hw, rw'⟩ := RelO.some_of (v := v) (o := valueAt vs k) (by rw [l]; exact rel.val k)
    exact wpAny_getItem_of (kV_is ry) dd.mapOf hw (h w' _ (I.tok _) rw')
  · subst ey
    cases (show u = Value.ref b from ry)
    obtain ⟨z, hd, xs, rel, dd⟩ := dt_rd I.hok e
    obtain ⟨w', hw, rw'⟩ := RelO.some_of (v := v) (o := (atKey xs k).map (·.2)) (by rw [l]; exact rel.val k)
    obtain ⟨p, hp, hp2⟩ := Option.map_eq_some_iff.mp hw
    refine wpAny_getItem_heap (tupleKind_room_in1 hu) (key_of I.hok eb) dd hp ?_
    rw [hp2]
    exact h w' _ (I.tok _) rw'
theorem d_notIn {Q : Value → Shared → Prop} (hu : A.units + 1 < cLine) (I : Inv X pins σ H s) (g : DGet H a y o) (ry : RelV y u) (h : ∀ s', Inv X pins σ H s' → Q (.bool (!o.isSome)) s') :
    wpAny (model X.prog X.w) A (compareOp .NotIn u (.ref a)) Q E s := by
  rcases g with ⟨kvs, k, e, ey, l⟩ | ⟨kvs, k, b, e, ey, eb, l⟩
  · subst ey
    obtain ⟨z, hd, vs, rel, dd⟩ := dk_rd I.hok e
    refine wpAny_notIn_of (kV_is ry) hd dd.mapOf ?_
    rw [← (rel.val k).isSome_eq, ← l]
    exact h _ (I.tok _)
  · subst ey
    cases (show u = Value.ref b from ry)
    obtain ⟨z, hd, xs, rel, dd⟩ := dt_rd I.hok e
    refine wpAny_notIn_heap (tupleKind_room_in1 hu) (key_of I.hok eb) hd dd ?_
    have q := (rel.val k).isSome_eq
    rw [Option.isSome_map] at q
    rw [← q, ← l]
    exact h _ (I.tok _)
theorem d_write {h' : Heap} {t' : Nat} {ob : HO} (I : Inv X pins σ H s) (mu : Mut (H a)) (hs : Heap.SameBut a s.heap h') (he : ∃ q, h'.get? a = some q) (new : ObjOk X.prog X.w (upd H a ob) h' a ob) :
    Inv X pins σ (upd H a ob) { s with heap := h', toks := t' } :=
  I.write (x := a) (e := a) mu (.inl rfl) (fun b q hb z => (hs.2 b hb).trans z) he new
theorem dk_new {P : Program} {w : World} {H' : Hp} {h' : Heap} {kvs : List (Key × V)} {vs : List (Key × Value)} (z : kvs.length ≤ sizeLine) (hd : (a == sysModules) = false) (rel : KV kvs vs) (dd : h'.DictOf (mixKind P w) a vs) :
    ObjOk P w H' h' a (.dK kvs) := ⟨z, hd, vs, rel, dd⟩
theorem d_setItem {H' : Hp} {Q : Unit → Shared → Prop} (hu : A.units + 1 < cLine) (I : Inv X pins σ H s) (g : DPut H a y v H') (ry : RelV y u) (rv : RelV v r) (h : ∀ s', Inv X pins σ H' s' → Q () s') :
    wpAny (model X.prog X.w) A (setItem (.ref a) u r) Q E s := by
  rcases g with ⟨kvs, k, e, ey, l, eH⟩ | ⟨kvs, k, b, e, ey, eb, l, eH⟩
  · subst ey eH
    obtain ⟨z, hd, vs, rel, dd⟩ := dk_of I.hok e
    have hz : vs.length ≤ sizeLine := by rw [← rel.length]; exact z
    have hl : (putK kvs k v).length ≤ sizeLine := by have := length_putK kvs k v; omega
    refine wpAny_setItem_pairs (hsz := hz) (kV_is ry) dd fun h' dd' hs => h _ ?_
    have he : ∃ q, h'.get? a = some q := let ⟨q, _, _, hq, _⟩ := dd'; ⟨q, hq⟩
    exact d_write I (by rw [e]; exact True.intro) hs he (dk_new hl hd (rel.put k rv) dd')
  · subst ey eH
    cases (show u = Value.ref b from ry)
    obtain ⟨z, hd, xs, rel, dd⟩ := dt_of I.hok e
    have hz : xs.length ≤ sizeLine := by rw [← Paired.length rel]; exact z
    have hl : (putK kvs k v).length ≤ sizeLine := by have := length_putK kvs k v; omega
    refine wpAny_setItem_heap (hsz := hz) (tupleKind_room_in1 hu) (key_of I.hok eb) dd fun h' dd' hs => h _ ?_
    obtain ⟨q, es, ep, hq, h2, h3, h4, _, h5⟩ := dd'
    refine d_write I (by rw [e]; exact True.intro) hs ⟨q, hq⟩ ⟨hl, hd, _, (rel.put k eb rv).keeps fun c ys ec => ?_, q, es, ep, hq, h2, h3, h4, h5⟩
    rw [upd_ne (ne_of ec e (fun z => nomatch z))]
    exact ec
end

section
variable {X : Cx} {pins : List (Addr × Obj)} {σ : St} {H : Hp} {s : Shared} {a : Addr} {kvs : List (Key × V)} {k : Key} {u : Value} {A : Around} {E : Value → Shared → Prop}
end


noncomputable def NoSl (i : Expr) : Prop := ∀ ov iv, subscripted i false ov iv = operate [ov, iv] (getItem ov iv)
theorem subD_of {prog : Program} {w : World} {A : Around} {E : Value → Shared → Prop} {s : Shared} {env : Env} {value slice : Expr} {pos : Pos} {T id : String} {Q : Value → Shared → Prop}
    (hl : typeLookup (.type T) "__getitem__" = pure (some (.builtin id))) (hs : NoSl slice)
    (h : wpAny (model prog w) A (eval value env) (fun o s₁ => wpAny (model prog w) A (eval slice env) (fun i s₂ => s₂.TypeIs o T ∧ wpAny (model prog w) A (getItem o i) Q E s₂) E s₁) E s) :
    wpAny (model prog w) A (eval (.Subscript value slice pos) env) Q E s := by
  refine Subscript_ (wpAny_mono h (fun o s₁ h₁ => wpAny_mono h₁ (fun i s₂ h₂ => ?_) fun _ _ x => x) fun _ _ x => x)
  obtain ⟨hT, h₂⟩ := h₂
  unfold subscriptTail
  refine wpAny_bind ?_
  rw [getitemInPython_of_ne hT.not_modules]
  refine wpAny_bind (wpAny_specialOf hT hl ?_)
  have fin : wpAny (model prog w) A (subscripted slice false o i) (fun r s₃ => wpAny (model prog w) A (letTemporaryGo value o r >>= fun _ => pure r) Q E s₃) E s₂ := by
    rw [hs o i]
    exact wpAny_operating (wpAny_mono h₂ (fun r s₃ h₃ => wpAny_bind (wpAny_letTemporaryGo (wpAny_pure h₃))) fun _ _ x => x)
  first
    | exact wpAny_pure (wpAny_bind fin)
    | exact wpAny_bind (wpAny_pure (wpAny_bind fin))
    | exact wpAny_bind fin

theorem dict_typeIs {X : Cx} {pins : List (Addr × Obj)} {σ : St} {H : Hp} {s : Shared} {a : Addr} {y : V} {o : Option V} (I : Inv X pins σ H s) (g : DGet H a y o) : s.TypeIs (.ref a) "dict" := by
  rcases g with ⟨kvs, k, e, _, _⟩ | ⟨kvs, k, b, e, _, _, _⟩
  · obtain ⟨_, _, vs, _, dd⟩ := dk_rd I.hok e
    exact dd.typeIs
  · obtain ⟨_, _, xs, _, dd⟩ := dt_rd I.hok e
    exact dd.typeIs
noncomputable def tDGet (td ty : TE) : TE := fun σ H Q => td σ H fun x H1 => ty σ H1 fun y H2 => ∃ a v, x = .ref a ∧ DGet H2 a y (some v) ∧ Q v H2
noncomputable def tDNotIn (ty td : TE) : TE := fun σ H Q => ty σ H fun y H1 => td σ H1 fun x H2 => ∃ a o, x = .ref a ∧ DGet H2 a y o ∧ Q (.bl (!o.isSome)) H2
noncomputable def sDPut (td ty tv : TE) : TS := fun D σ H => tv σ H fun v H1 => td σ H1 fun x H2 => ty σ H2 fun y H3 => ∃ a H4, x = .ref a ∧ DPut H3 a y v H4 ∧ D.nx σ H4
section
variable {X : Cx} {o i e value : Expr} {pos pos' tpos : Pos} {td ty tv : TE}
theorem pe_dget (hu : X.A.units + 1 < cLine) (ho : PE X o td) (hi : PE X i ty) (hs : NoSl i) : PE X (.Subscript o i pos) (tDGet td ty) := by
  intro pins s σ H Q I h
  refine subD_of PySem.F.slot_dict_getitem.lookup hs (thn (ho pins s σ H _ I h) fun u s1 ⟨x, H1, I1, rx, q1⟩ => thn (hi pins s1 σ H1 _ I1 q1) fun iv s2 ⟨y, H2, I2, ry, a, v, ex, g, q2⟩ => ?_)
  subst ex
  obtain rfl : u = Value.ref a := rx
  exact ⟨dict_typeIs I2 g, d_getItem hu I2 g ry fun w' s3 I3 rw' => ⟨v, H2, I3, rw', q2⟩⟩
theorem pc_dnotin (hu : X.A.units + 1 < cLine) (hi : PE X i ty) (ho : PE X o td) : PC X .NotIn i o (tDNotIn ty td) := by
  intro pins s σ H Q I h
  refine thn (hi pins s σ H _ I h) fun iv s1 ⟨y, H1, I1, ry, q1⟩ => thn (ho pins s1 σ H1 _ I1 q1) fun u s2 ⟨x, H2, I2, rx, a, ov, ex, g, q2⟩ => ?_
  subst ex
  obtain rfl : u = Value.ref a := rx
  exact d_notIn hu I2 g ry fun s3 I3 => ⟨.bl (!ov.isSome), H2, I3, rfl, q2⟩
theorem ps_dput (hu : X.A.units + 1 < cLine) (ho : PE X o td) (hi : PE X i ty) (hv : PE X value tv) (hs : swapsWith value (some (.Subscript o i pos')) pos.line X.env = pure false) :
    PS X (.Assign [.Subscript o i pos'] value pos) (sDPut td ty tv) := by
  intro pins s σ H D I h
  refine wpAny_Assign_Subscript (thn (hv pins s σ H _ I h) fun r s1 ⟨v, H1, I1, rv, q1⟩ => thn (ho pins s1 σ H1 _ I1 q1) fun u s2 ⟨x, H2, I2, rx, q2⟩ => thn (hi pins s2 σ H2 _ I2 q2) fun iv s3 ⟨y, H3, I3, ry, a, H4, ex, g, q3⟩ => ?_) hs
  subst ex
  obtain rfl : u = Value.ref a := rx
  exact d_setItem hu I3 g ry rv fun s4 I4 => ⟨σ, H4, I4, q3⟩
end


theorem dk_empty {P : Program} {w : World} {H : Hp} (h : Heap) (hb : sysModules < h.objs.size) : ObjOk P w H (h.push { cls := .type "dict", data := .dict #[] }) h.objs.size (.dK []) :=
  ⟨Nat.zero_le _, beq_eq_false_iff_ne.mpr (Ne.symm (Nat.ne_of_lt hb)), [], .nil, Heap.DictOf.new h⟩
noncomputable def tDNewK : TE := fun _ H Q => ∀ p, H p = none → Q (.ref p) (upd H p (.dK []))
section
variable {X : Cx} {pos : Pos}
theorem pe_dnewK : PE X (.Dict [] [] pos) tDNewK := fun pins s σ H Q I h =>
  wpAny_Dict_empty ⟨.ref s.heap.objs.size, _, I.laid (a := s.heap.objs.size) (o := .dK []) (t' := s.toks) (fun _ _ q => Heap.get?_push_of_some _ q) (Nat.le_refl _) (dk_empty s.heap I.big), rfl, h _ (I.hok.fresh (Nat.le_refl _))⟩
end

section
variable {X : Cx} {pins : List (Addr × Obj)} {σ : St} {H : Hp} {s : Shared} {a : Addr} {y d : V} {u r : Value} {o : Option V} {A : Around} {E : Value → Shared → Prop}
end

section
variable {X : Cx} {o e f : Expr} {apos cpos : Pos} {td ty tx : TE}
end

section
variable {X : Cx} {pins : List (Addr × Obj)} {σ : St} {H : Hp} {s : Shared} {a : Addr} {kvs : List (Key × V)} {A : Around} {E : Value → Shared → Prop}
end


section
variable {X : Cx} {pins : List (Addr × Obj)} {σ : St} {H : Hp} {s : Shared} {a : Addr} {y : V} {u : Value} {A : Around} {E : Value → Shared → Prop}
end
end L2
set_option linter.all false
set_option maxRecDepth 100000
namespace L2
open PySem PySem.Spec PyProof.Rows Bm
theorem pv1 {X : Cx} (i : Nat) {x : Str} {pos : Pos} (h : X.N[i]? = some x ∧ Vis X.env.scope x ∧ (x == ("__debug__" : Str)) = false ∧ (x == ("__classdict__" : Str)) = false) : PE X (.Name x pos) (tVar i) := pv i h.1 h.2.1 h.2.2.1 h.2.2.2
end L2

set_option linter.all false
set_option maxRecDepth 100000
namespace L2
open PySem PySem.Spec PyProof.Rows Bm
noncomputable def KeepBut (l : Addr) (H H' : Hp) : Prop := ∀ b o, b ≠ l → H b = some o → H' b = some o
theorem KeepBut.refl (l : Addr) (H : Hp) : KeepBut l H H := fun _ _ _ h => h
theorem KeepBut.trans {l : Addr} {H H1 H2 : Hp} (a : KeepBut l H H1) (b : KeepBut l H1 H2) : KeepBut l H H2 := fun c o n h => b c o n (a c o n h)
theorem KeepBut.upd (l : Addr) (H : Hp) (o : HO) : KeepBut l H (L2.upd H l o) := fun b u n h => by rw [upd_ne n]; exact h
theorem KeepBut.same {l : Addr} {H H0 H' : Hp} (k : KeepBut l H0 H') (s : Same H H0) (h : H l = none) : Same H H' := fun b o e => k b o (ne_of_none e h) (s b o e)
end L2

set_option linter.all false
set_option maxRecDepth 100000
namespace L2
open PySem PySem.Spec PyProof.Rows Bm
inductive Nt (H : Hp) : V → Prop where
  | non : Nt H .non
  | bl (b : Bool) : Nt H (.bl b)
  | int (i : Int) : Nt H (.int i)
  | str (s : Str) : Nt H (.str s)
  | lst {a : Addr} {xs : List V} (e : H a = some (.lst xs)) : Nt H (.ref a)
noncomputable def Kd (H : Hp) (v : V) : Prop := Nt H v ∨ ∃ a xs, v = .ref a ∧ H a = some (.tup xs)
noncomputable def withinV (v : V) (lo hi : Int) : Bool := match v with
  | .int i => decide (lo ≤ i) && decide (i ≤ hi)
  | _ => false
noncomputable def leadV (xs : List V) : Bool := decide (1 ≤ xs.length) && decide (xs.length ≤ 64) && xs.all fun v => withinV v (-2) ((xs.length : Int) - 1)
noncomputable def LeadIs (H : Hp) (v : V) (r : Bool) : Prop := (∃ a xs, v = .ref a ∧ H a = some (.tup xs) ∧ (∀ x ∈ xs, Kd H x) ∧ xs.length ≤ 10000 ∧ r = leadV xs) ∨ (Nt H v ∧ r = false)
noncomputable def ToldP (p : Addr) (H : Hp) (v : V) : Prop := v ≠ .ref p ∧ ((∃ a xs, v = .ref a ∧ H a = some (.tup xs) ∧ (∀ x ∈ xs, Kd H x ∧ x ≠ .ref p) ∧ xs.length ≤ 10000) ∨ Nt H v)
theorem s_slDropT {K : PySem.W.Frag} {a : Addr} {xs : List V} {k : Nat} {H : Hp} {Q : VK} (ha : H a = some (.tup xs)) (h1 : 1 ≤ k) (hk : k ≤ xs.length) (h : ∀ t H', H t = none → Same H H' → H' t = some (.tup (xs.drop k)) → Q (.ref t) H') : rSlU K (.ref a) (some (k : Int)) none H Q :=
  .inr ⟨a, xs, rfl, SqT.of ha, fun z => by have := z.1; rw [HT.sIx_nat] at this; omega, fun p hp => by rw [cut_drop xs k hk]; exact h p _ hp (same_upd hp) upd_same⟩
end L2

set_option linter.all false
set_option maxRecDepth 100000
namespace L2
open PySem PySem.Spec PyProof.Rows Bm
inductive Kx (H : Hp) : V → Prop where
  | non : Kx H .non
  | bl (b : Bool) : Kx H (.bl b)
  | int (i : Int) : Kx H (.int i)
  | str (s : Str) (h : shpd (.str s) = true) : Kx H (.str s)
  | lst {a : Addr} (is : List Int) (e : H a = some (.lst (is.map V.int))) : Kx H (.ref a)
  | tup {a : Addr} (is : List Int) (hl : is.length ≤ 1) (e : H a = some (.tup (is.map V.int))) : Kx H (.ref a)
noncomputable def eqS (s : Str) : V → Bool
  | .str t => s == t
  | _ => false
noncomputable def inS (ss : List Str) (v : V) : Bool := ss.any fun s => eqS s v
section
variable {X : Cx} {K : PySem.W.Frag}
end
noncomputable def fits1V (w : Nat) (a b : V) : Bool := if inS ["and", "or", "gather", "strew"] a then withinV b 0 ((2 ^ w - 1 : Nat) : Int) else if inS ["left", "right"] a then withinV b 0 (w : Int) else eqS "turn" a && withinV b 0 ((w : Int) - 1)
noncomputable def natV : V → Nat
  | .int i => i.toNat
  | _ => 0
noncomputable def intV : V → Int
  | .int i => i
  | _ => 0
noncomputable def fits2V (w : Nat) (a m n : V) : Bool := withinV m 0 ((2 ^ w - 1 : Nat) : Int) && (if eqS "swap" a then withinV n 1 ((w : Int) - 1) && (goesB w (natV m) (intV n) && decide ((natV m &&& natV m * 2 ^ natV n) = 0)) else if eqS "copy" a then withinV n (1 - (w : Int)) ((w : Int) - 1) && (intV n != 0) && goesB w (natV m) (intV n) else false)
noncomputable def deedV (w : Nat) : List V → Bool
  | [a, b] => fits1V w a b
  | [a, m, n] => fits2V w a m n
  | _ => false
noncomputable def Tu (H : Hp) (a : Addr) (xs : List V) : Prop := H a = some (.tup xs) ∧ (∀ x ∈ xs, Kd H x) ∧ xs.length ≤ 1000 ∧ ∀ x r, xs = x :: r → r ≠ [] → Kx H x
noncomputable def DeedIs (w : Nat) (H : Hp) (v : V) (r : Bool) : Prop := (∃ a xs, v = .ref a ∧ Tu H a xs ∧ r = deedV w xs) ∨ (Nt H v ∧ r = false)
noncomputable def Th (H : Hp) (v : V) : Prop := (∃ a xs, v = .ref a ∧ Tu H a xs) ∨ Nt H v
noncomputable def KxP (p : Addr) (H : Hp) (v : V) : Prop := Kx H v ∧ v ≠ .ref p
noncomputable def ThP (p : Addr) (H : Hp) (v : V) : Prop := v ≠ .ref p ∧ ((∃ a xs, v = .ref a ∧ H a = some (.tup xs) ∧ (∀ x ∈ xs, KxP p H x) ∧ xs.length ≤ 1000) ∨ Nt H v)
noncomputable def RowIs (w : Nat) (H : Hp) (v : V) (r : Bool) : Prop := (∃ (a : Addr) (xs : List V) (f : Nat → Bool), v = .ref a ∧ SqH H a xs ∧ (∀ i x, xs[i]? = some x → DeedIs w H x (f i)) ∧ xs.length ≤ 1000 ∧ r = (List.range xs.length).all f) ∨ (flatV v = true ∧ r = false)
end L2

set_option linter.all false
set_option maxRecDepth 100000
namespace L2
open PySem PySem.Spec PyProof.Rows Bm
noncomputable abbrev En := Nat × List Int
noncomputable def nmE : List Str := ["and", "or", "left", "right", "turn", "swap", "gather", "strew", "copy"]
noncomputable def nmK (k : Nat) : Str := nmE.getD k "and"
noncomputable def dec (e : En) : List V := .str (nmK e.1) :: e.2.map V.int
noncomputable def fastD (w : Nat) (e : En) : Bool := match e.2 with
  | [b] => if e.1 = 0 ∨ e.1 = 1 ∨ e.1 = 6 ∨ e.1 = 7 then withinV (.int b) 0 ((2 ^ w - 1 : Nat) : Int) else if e.1 = 2 ∨ e.1 = 3 then withinV (.int b) 0 (w : Int) else decide (e.1 = 4) && withinV (.int b) 0 ((w : Int) - 1)
  | [m, n] => withinV (.int m) 0 ((2 ^ w - 1 : Nat) : Int) && (if e.1 = 5 then withinV (.int n) 1 ((w : Int) - 1) && (goesB w m.toNat n && decide ((m.toNat &&& m.toNat * 2 ^ n.toNat) = 0)) else if e.1 = 8 then withinV (.int n) (1 - (w : Int)) ((w : Int) - 1) && (n != 0) && goesB w m.toNat n else false)
  | _ => false
noncomputable def TL (H : Hp) (L : List (Addr × En)) : Prop := ∀ q ∈ L, H q.1 = some (.tup (dec q.2))
noncomputable def tlV (L : List (Addr × En)) : List V := L.map fun q => .ref q.1
noncomputable def Gr (H H' : Hp) (l : Addr) (L : List (Addr × En)) : Prop := Same H H' ∧ H' l = some (.lst (tlV L)) ∧ TL H' L
end L2

set_option linter.all false
set_option maxRecDepth 100000
namespace L2
open PySem PySem.Spec PyProof.Rows Bm
noncomputable def Dl (H : Hp) (L : List (Addr × Dd)) : Prop := ∀ q ∈ L, H q.1 = some (.tup q.2.vals)
noncomputable def AllSw (L : List (Addr × Dd)) : Prop := ∀ q ∈ L, ∃ m n, q.2 = .swap m n
noncomputable def spWalkedS : Sp := fun vs H Q _ => ∃ (w : Nat) (l : Addr) (L : List (Addr × Dd)), vs = [nV w, .ref l] ∧ H l = some (.lst (rowV L)) ∧ Rw H w L ∧ AllSw L ∧ w ≤ 64 ∧ ∀ (t : Addr) (H' : Hp), Same H H' → H' t = some (.tup ((rowL w (dds L)).map V.int)) → Q (.ref t) H'
noncomputable def stepF (A : List Int) (w m n i : Nat) : List Int := (List.range w).map fun q => if q < i ∧ m.testBit q = true then A.getD (q + n) 0 else if n ≤ q ∧ q - n < i ∧ m.testBit (q - n) = true then A.getD (q - n) 0 else A.getD q 0
theorem stepF_len (A : List Int) (w m n i : Nat) : (stepF A w m n i).length = w := by rw [stepF, List.length_map, List.length_range]
theorem stepF_zero {A : List Int} {w : Nat} (m n : Nat) (h : A.length = w) : stepF A w m n 0 = A := by
  apply List.ext_getElem (by rw [stepF_len, h])
  intro q h1 h2
  simp only [stepF, List.getElem_map, List.getElem_range]
  rw [if_neg (by omega), if_neg (by omega), List.getD_eq_getElem?_getD, List.getElem?_eq_getElem h2]
  rfl
theorem stepF_no {A : List Int} {w m n i : Nat} (hb : m.testBit i = false) : stepF A w m n (i + 1) = stepF A w m n i := by
  apply List.ext_getElem (by rw [stepF_len, stepF_len])
  intro q h1 h2
  simp only [stepF, List.getElem_map, List.getElem_range]
  have a1 : (q < i + 1 ∧ m.testBit q = true) ↔ (q < i ∧ m.testBit q = true) := by
    constructor
    · rintro ⟨x, y⟩
      have : q ≠ i := fun z => by rw [z, hb] at y; cases y
      exact ⟨by omega, y⟩
    · exact fun ⟨x, y⟩ => ⟨by omega, y⟩
  have a2 : (n ≤ q ∧ q - n < i + 1 ∧ m.testBit (q - n) = true) ↔ (n ≤ q ∧ q - n < i ∧ m.testBit (q - n) = true) := by
    constructor
    · rintro ⟨z, x, y⟩
      have : q - n ≠ i := fun z => by rw [z, hb] at y; cases y
      exact ⟨z, by omega, y⟩
    · exact fun ⟨z, x, y⟩ => ⟨z, by omega, y⟩
  simp only [a1, a2]
theorem stepF_yes {A : List Int} {w m n i : Nat} (hn : 1 ≤ n) (hb : m.testBit i = true) : ((stepF A w m n i).set i (A.getD (i + n) 0)).set (i + n) (A.getD i 0) = stepF A w m n (i + 1) := by
  apply List.ext_getElem (by rw [List.length_set, List.length_set, stepF_len, stepF_len])
  intro q h1 h2
  rw [List.getElem_set, List.getElem_set]
  simp only [stepF, List.getElem_map, List.getElem_range]
  by_cases c1 : i + n = q
  · subst c1
    rw [if_pos rfl, if_neg (by omega), if_pos ⟨by omega, by omega, by rw [Nat.add_sub_cancel]; exact hb⟩, Nat.add_sub_cancel]
  · rw [if_neg c1]
    by_cases c2 : i = q
    · subst c2
      rw [if_pos rfl, if_pos ⟨by omega, hb⟩]
    · rw [if_neg c2]
      have a1 : (q < i + 1 ∧ m.testBit q = true) ↔ (q < i ∧ m.testBit q = true) := ⟨fun ⟨x, y⟩ => ⟨by omega, y⟩, fun ⟨x, y⟩ => ⟨by omega, y⟩⟩
      have a2 : (n ≤ q ∧ q - n < i + 1 ∧ m.testBit (q - n) = true) ↔ (n ≤ q ∧ q - n < i ∧ m.testBit (q - n) = true) := ⟨fun ⟨z, x, y⟩ => ⟨z, by omega, y⟩, fun ⟨z, x, y⟩ => ⟨z, by omega, y⟩⟩
      simp only [a1, a2]
theorem stepF_all {A : List Int} {w m n : Nat} (h : (Dd.swap m n).ok w) : stepF A w m n w = thenL A ((Dd.swap m n).led w) := by
  obtain ⟨h1, h2, hp⟩ := h
  unfold stepF thenL Dd.led
  rw [List.map_map]
  apply List.map_congr_left
  intro q hq
  have hqw := List.mem_range.mp hq
  show _ = (if (0 : Int) ≤ (if inM m ((q : Int) - n) then (q : Int) - n else if m.testBit q then (q : Int) + n else q) then A.getD (if inM m ((q : Int) - n) then (q : Int) - n else if m.testBit q then (q : Int) + n else q).toNat 0 else _)
  by_cases c1 : n ≤ q ∧ m.testBit (q - n) = true
  · have e : inM m ((q : Int) - n) = true := by rw [show (q : Int) - n = ((q - n : Nat) : Int) by omega, inM_nat]; exact c1.2
    have nb : m.testBit q = false := by have := (hp _ c1.2).2; rw [Nat.sub_add_cancel c1.1] at this; exact this
    rw [if_neg (by rw [nb]; simp), if_pos ⟨c1.1, by omega, c1.2⟩, if_pos e, if_pos (by omega), show ((q : Int) - n).toNat = q - n by omega]
  · have e : ¬ (inM m ((q : Int) - n) = true) := fun z => by
      unfold inM at z
      rw [Bool.and_eq_true, decide_eq_true_iff] at z
      exact c1 ⟨by omega, by rw [show q - n = ((q : Int) - n).toNat by omega]; exact z.2⟩
    rw [if_neg e]
    by_cases c2 : m.testBit q = true
    · rw [if_pos ⟨hqw, c2⟩, if_pos c2, if_pos (by omega), show ((q : Int) + n).toNat = q + n by omega]
    · rw [if_neg (fun z => c2 z.2), if_neg (fun z => c1 ⟨z.1, z.2.2⟩), if_neg c2, if_pos (by omega), Int.toNat_natCast]
noncomputable def On (H : Hp) (L : List (Addr × Nat)) : Prop := ∀ q ∈ L, H q.1 = some (.tup [nV q.2])
end L2

set_option linter.all false
set_option maxRecDepth 100000
namespace Srt
open PySem PyProof.Rows

noncomputable def gallop' : Bool → Keyed → Array Keyed → Nat → Nat → Nat → StateT SortSt Sem (Option Nat) := sortPriv% PySem.Builtin.gallop
noncomputable def beyond' (left : Bool) (key : Keyed) (arr : Array Keyed) (base i : Nat) : StateT SortSt Sem (Option Bool) := do
    let x ← elem' arr (base + i)
    if left then lt' x key else return (← lt' key x).map (!·)
noncomputable def halve (left : Bool) (key : Keyed) (arr : Array Keyed) (base n lo0 hi0 : Nat) : StateT SortSt Sem (Option Nat) := do
  let mut lo := lo0
  let mut hi := hi0
  for _ in [0:n] do
    if lo ≥ hi then break
    let m := lo + (hi - lo) / 2
    let some more ← beyond' left key arr base m | return none
    if more then lo := m + 1 else hi := m
  return some hi
noncomputable def goUp (left : Bool) (key : Keyed) (arr : Array Keyed) (base n hint : Nat) : StateT SortSt Sem (Option Nat) := do
  let mut lastofs := 0
  let mut ofs := 1
  let maxofs := n - hint
  for _ in [0:n] do
    if ofs ≥ maxofs then break
    let some more ← beyond' left key arr base (hint + ofs) | return none
    if !more then break
    lastofs := ofs
    ofs := 2 * ofs + 1
  halve left key arr base n (hint + lastofs + 1) (hint + min ofs maxofs)
noncomputable def goDown (left : Bool) (key : Keyed) (arr : Array Keyed) (base n hint : Nat) : StateT SortSt Sem (Option Nat) := do
  let mut lastofs := 0
  let mut ofs := 1
  let maxofs := hint + 1
  for _ in [0:n] do
    if ofs ≥ maxofs then break
    let some found ← beyond' left key arr base (hint - ofs) | return none
    if found then break
    lastofs := ofs
    ofs := 2 * ofs + 1
  halve left key arr base n (hint + 1 - min ofs maxofs) (hint - lastofs)
theorem gallop'_eq (left : Bool) (key : Keyed) (arr : Array Keyed) (base n hint : Nat) : gallop' left key arr base n hint = (do
  let some right ← beyond' left key arr base hint | return none
  if right then goUp left key arr base n hint else goDown left key arr base n hint) := rfl

noncomputable def mergeLo' : Array Keyed → Array Keyed → StateT SortSt Sem (Array Keyed) := sortPriv% PySem.Builtin.mergeLo
noncomputable def mergeHi' : Array Keyed → Array Keyed → StateT SortSt Sem (Array Keyed) := sortPriv% PySem.Builtin.mergeHi
noncomputable def setMinGallop' : Nat → StateT SortSt Sem Unit := sortPriv% PySem.Builtin.setMinGallop
noncomputable abbrev setGal (st : SortSt) (g : Nat) : SortSt := SortSt.mk' (kindOf st) (arrOf st) (pendingOf st) g (failedOf st)
theorem setMinGallop'_eq (g : Nat) : setMinGallop' g = modify (fun s => setGal s g) := rfl

section
variable {prog : Program} {w : World} {A : Around} {E : Value → Shared → Prop} {s : Shared}

noncomputable def KeyInt (x : Keyed) : Prop := ∃ n t, x.1 = .int n t
noncomputable def AllInt (xs : Array Keyed) : Prop := ∀ (i : Nat) (x : Keyed), xs[i]? = some x → KeyInt x

theorem wpS_lt {st : SortSt} {x y : Keyed} {Q : Option Bool → SortSt → Prop} (hk : kindOf st = oneType') (hx : KeyInt x) (hy : KeyInt y)
    (h : Q (some (decide (numOf x.1 < numOf y.1))) st) : wpS (model prog w) A E s (lt' x y) Q st := by
  obtain ⟨a, t, e1⟩ := hx
  obtain ⟨b, u, e2⟩ := hy
  rw [lt'_eq]
  refine wpS_bind (wpS_get ?_)
  rw [hk, keyLt'_oneType, e1, e2]
  rw [e1, e2] at h
  refine wpS_bind (wpS_lift (wpAny_attempt (oneLt_int ⟨rfl, ?_⟩)))
  exact wpS_pure h

theorem wpS_elem {st : SortSt} {xs : Array Keyed} {i : Nat} {Q : Keyed → SortSt → Prop} (hi : i < xs.size) (h : ∀ x, xs[i]? = some x → Q x st) :
    wpS (model prog w) A E s (elem' xs i) Q st := by
  have e : xs[i]? = some xs[i] := getElem?_pos _ i hi
  rw [elem'_eq, e]
  exact wpS_pure (h _ e)

theorem K_at {xs : Array Keyed} {i : Nat} {x : Keyed} (h : xs[i]? = some x) : K xs i = numOf x.1 := by unfold K; rw [h]

noncomputable def Ahead (left : Bool) (k a : Int) : Prop := if left = true then a < k else a ≤ k
instance (left : Bool) (k a : Int) : Decidable (Ahead left k a) := by unfold Ahead; infer_instance
theorem Ahead.mono {left : Bool} {k a b : Int} (h : Ahead left k b) (hab : a ≤ b) : Ahead left k a := by
  unfold Ahead at *
  split at h
  · rename_i e; rw [if_pos e]; omega
  · rename_i e; rw [if_neg e]; omega

theorem wpS_beyond {st : SortSt} {left : Bool} {key : Keyed} {arr : Array Keyed} {base i : Nat} {Q : Option Bool → SortSt → Prop} (hk : kindOf st = oneType') (hkey : KeyInt key) (ha : AllInt arr)
    (hi : base + i < arr.size) (h : Q (some (decide (Ahead left (numOf key.1) (K arr (base + i))))) st) :
    wpS (model prog w) A E s (beyond' left key arr base i) Q st := by
  unfold beyond'
  refine wpS_bind (wpS_elem hi fun x ex => ?_)
  rw [K_at ex] at h
  by_cases hl : left = true
  · rw [if_pos hl]
    refine wpS_lt hk (ha _ _ ex) hkey ?_
    unfold Ahead at h
    simpa only [if_pos hl] using h
  · rw [if_neg hl]
    refine wpS_bind (wpS_lt hk hkey (ha _ _ ex) (wpS_pure ?_))
    unfold Ahead at h
    have e : (!decide (numOf key.1 < numOf x.1)) = decide (numOf x.1 ≤ numOf key.1) := by
      by_cases hh : numOf key.1 < numOf x.1
      · rw [decide_eq_true hh, decide_eq_false (by omega)]; rfl
      · rw [decide_eq_false hh, decide_eq_true (by omega)]; rfl
    simp only [if_neg hl] at h
    simpa only [Option.map_some, e] using h

theorem wpS_halve {st : SortSt} {left : Bool} {key : Keyed} {arr : Array Keyed} {base n lo hi : Nat} {Q : Option Nat → SortSt → Prop} (hk : kindOf st = oneType') (hkey : KeyInt key) (ha : AllInt arr)
    (hn : base + n ≤ arr.size) (mono : ∀ i j, i ≤ j → j < n → K arr (base + i) ≤ K arr (base + j)) (hlh : lo ≤ hi) (hhn : hi ≤ n)
    (hlo : ∀ i, i < lo → Ahead left (numOf key.1) (K arr (base + i))) (hhi : ∀ i, hi ≤ i → i < n → ¬ Ahead left (numOf key.1) (K arr (base + i)))
    (h : ∀ k, k ≤ n → (∀ i, i < k → Ahead left (numOf key.1) (K arr (base + i))) → (∀ i, k ≤ i → i < n → ¬ Ahead left (numOf key.1) (K arr (base + i))) → Q (some k) st) :
    wpS (model prog w) A E s (halve left key arr base n lo hi) Q st := by
  unfold halve
  dsimp only
  refine wpS_bind (wpS_mono (wpS_forRange (I := fun x c st' => st' = st ∧ ∃ l r, c = (none, l, r) ∧ l ≤ r ∧ r ≤ n ∧ r - l ≤ n - x ∧
      (∀ i, i < l → Ahead left (numOf key.1) (K arr (base + i))) ∧ (∀ i, r ≤ i → i < n → ¬ Ahead left (numOf key.1) (K arr (base + i))))
    (Q := fun c st' => st' = st ∧ ∃ l r, c = (none, l, r) ∧ r ≤ n ∧
      (∀ i, i < r → Ahead left (numOf key.1) (K arr (base + i))) ∧ (∀ i, r ≤ i → i < n → ¬ Ahead left (numOf key.1) (K arr (base + i)))) ?step ?fin ?init) ?post)
  case init => exact ⟨rfl, lo, hi, rfl, hlh, hhn, by omega, hlo, hhi⟩
  case fin =>
    rintro c st' ⟨rfl, l, r, rfl, h1, h2, h3, h4, h5⟩
    have : l = r := by omega
    subst this
    exact ⟨rfl, l, l, rfl, h2, h4, h5⟩
  case step =>
    rintro x c st' _ hx ⟨rfl, l, r, rfl, h1, h2, h3, h4, h5⟩
    dsimp only
    by_cases hge : l ≥ r
    · rw [if_pos hge]
      have : l = r := by omega
      subst this
      exact wpS_pure ⟨rfl, l, l, rfl, h2, h4, h5⟩
    · rw [if_neg hge]
      refine wpS_bind (wpS_beyond hk hkey ha (by omega) ?_)
      by_cases hl : Ahead left (numOf key.1) (K arr (base + (l + (r - l) / 2)))
      · simp only [hl, decide_true, if_true]
        exact wpS_pure ⟨rfl, _, r, rfl, by omega, h2, by omega, fun i hi => hl.mono (mono _ _ (by omega) (by omega)), h5⟩
      · simp only [hl, decide_false, Bool.false_eq_true, if_false]
        exact wpS_pure ⟨rfl, l, _, rfl, by omega, by omega, by omega, h4, fun i hi hin z => hl (z.mono (mono _ _ (by omega) (by omega)))⟩
  case post =>
    rintro c st' ⟨rfl, l, r, rfl, h2, h4, h5⟩
    exact wpS_pure (h r h2 h4 h5)

theorem wpS_gallop {st : SortSt} {left : Bool} {key : Keyed} {arr : Array Keyed} {base n hint : Nat} {Q : Option Nat → SortSt → Prop} (hk : kindOf st = oneType') (hkey : KeyInt key) (ha : AllInt arr)
    (hn : base + n ≤ arr.size) (hh : hint < n) (mono : ∀ i j, i ≤ j → j < n → K arr (base + i) ≤ K arr (base + j))
    (h : ∀ k, k ≤ n → (∀ i, i < k → Ahead left (numOf key.1) (K arr (base + i))) → (∀ i, k ≤ i → i < n → ¬ Ahead left (numOf key.1) (K arr (base + i))) → Q (some k) st) :
    wpS (model prog w) A E s (gallop' left key arr base n hint) Q st := by
  rw [gallop'_eq]
  refine wpS_bind (wpS_beyond hk hkey ha (by omega) ?_)
  dsimp only
  by_cases hr : Ahead left (numOf key.1) (K arr (base + hint))
  · simp only [hr, decide_true, if_true]
    unfold goUp
    dsimp only
    refine wpS_bind (wpS_mono (wpS_forRange (I := fun x c st' => st' = st ∧ ∃ l r, c = (none, l, r) ∧ l < r ∧ x + 1 ≤ r ∧ hint + l < n ∧ Ahead left (numOf key.1) (K arr (base + (hint + l))))
      (Q := fun c st' => st' = st ∧ ∃ l r, c = (none, l, r) ∧ l < r ∧ hint + l < n ∧ Ahead left (numOf key.1) (K arr (base + (hint + l))) ∧ (r ≥ n - hint ∨ ¬ Ahead left (numOf key.1) (K arr (base + (hint + r))))) ?step ?fin ?init) ?post)
    case init => exact ⟨rfl, 0, 1, rfl, by omega, by omega, by omega, hr⟩
    case fin =>
      rintro c st' ⟨rfl, l, r, rfl, h1, h2, h3, h4⟩
      exact ⟨rfl, l, r, rfl, h1, h3, h4, .inl (by omega)⟩
    case step =>
      rintro x c st' _ hx ⟨rfl, l, r, rfl, h1, h2, h3, h4⟩
      dsimp only
      by_cases hge : r ≥ n - hint
      · rw [if_pos hge]
        exact wpS_pure ⟨rfl, l, r, rfl, h1, h3, h4, .inl hge⟩
      · rw [if_neg hge]
        refine wpS_bind (wpS_beyond hk hkey ha (by omega) ?_)
        by_cases hl : Ahead left (numOf key.1) (K arr (base + (hint + r)))
        · simp only [hl, decide_true, Bool.not_true, Bool.false_eq_true, if_false]
          exact wpS_pure ⟨rfl, r, _, rfl, by omega, by omega, by omega, hl⟩
        · simp only [hl, decide_false, Bool.not_false, if_true]
          exact wpS_pure ⟨rfl, l, r, rfl, h1, h3, h4, .inr hl⟩
    case post =>
      rintro c st' ⟨rfl, l, r, rfl, h1, h3, h4, h5⟩
      dsimp only
      refine wpS_halve (lo := hint + l + 1) (hi := hint + min r (n - hint)) hk hkey ha hn mono (by omega) (by omega) (fun i hi => h4.mono (mono _ _ (by omega) (by omega))) (fun i hi hin z => ?_) h
      rcases h5 with h5 | h5
      · omega
      · by_cases hq : r ≤ n - hint
        · rw [Nat.min_eq_left hq] at hi
          exact h5 (z.mono (mono _ _ (by omega) (by omega)))
        · omega
  · simp only [hr, decide_false, Bool.false_eq_true, if_false]
    unfold goDown
    dsimp only
    refine wpS_bind (wpS_mono (wpS_forRange (I := fun x c st' => st' = st ∧ ∃ l r, c = (none, l, r) ∧ l < r ∧ x + 1 ≤ r ∧ l ≤ hint ∧ ¬ Ahead left (numOf key.1) (K arr (base + (hint - l))))
      (Q := fun c st' => st' = st ∧ ∃ l r, c = (none, l, r) ∧ l < r ∧ l ≤ hint ∧ ¬ Ahead left (numOf key.1) (K arr (base + (hint - l))) ∧ (r ≥ hint + 1 ∨ Ahead left (numOf key.1) (K arr (base + (hint - r))))) ?step ?fin ?init) ?post)
    case init => exact ⟨rfl, 0, 1, rfl, by omega, by omega, by omega, hr⟩
    case fin =>
      rintro c st' ⟨rfl, l, r, rfl, h1, h2, h3, h4⟩
      exact ⟨rfl, l, r, rfl, h1, h3, h4, .inl (by omega)⟩
    case step =>
      rintro x c st' _ hx ⟨rfl, l, r, rfl, h1, h2, h3, h4⟩
      dsimp only
      by_cases hge : r ≥ hint + 1
      · rw [if_pos hge]
        exact wpS_pure ⟨rfl, l, r, rfl, h1, h3, h4, .inl hge⟩
      · rw [if_neg hge]
        refine wpS_bind (wpS_beyond hk hkey ha (by omega) ?_)
        by_cases hl : Ahead left (numOf key.1) (K arr (base + (hint - r)))
        · simp only [hl, decide_true, if_true]
          exact wpS_pure ⟨rfl, l, r, rfl, h1, h3, h4, .inr hl⟩
        · simp only [hl, decide_false, Bool.false_eq_true, if_false]
          exact wpS_pure ⟨rfl, r, _, rfl, by omega, by omega, by omega, hl⟩
    case post =>
      rintro c st' ⟨rfl, l, r, rfl, h1, h3, h4, h5⟩
      dsimp only
      refine wpS_halve (lo := hint + 1 - min r (hint + 1)) (hi := hint - l) hk hkey ha hn mono (by omega) (by omega) (fun i hi => ?_) (fun i hi hin z => h4 (z.mono (mono _ _ (by omega) (by omega)))) h
      rcases h5 with h5 | h5
      · omega
      · by_cases hq : r ≤ hint + 1
        · rw [Nat.min_eq_left hq] at hi
          exact h5.mono (mono _ _ (by omega) (by omega))
        · omega

end
end Srt

namespace Srt
open PySem PyProof.Rows

noncomputable abbrev kf (x : Keyed) : Int := numOf x.1
noncomputable def Sr (l : List Keyed) : Prop := l.Pairwise fun x y => kf x ≤ kf y
structure MI (T L A B : List Keyed) : Prop where
  perm : (L ++ (A ++ B)).Perm T
  sa : Sr (L ++ A)
  sb : Sr (L ++ B)
theorem MI.symm {T L A B : List Keyed} (h : MI T L A B) : MI T L B A := ⟨((List.Perm.append_left L List.perm_append_comm).trans h.perm), h.sb, h.sa⟩
theorem MI.take {T L A B : List Keyed} (h : MI T L A B) (k : Nat) (hk : ∀ x ∈ A.take k, ∀ y ∈ B, kf x ≤ kf y) : MI T (L ++ A.take k) (A.drop k) B := by
  refine ⟨?_, ?_, ?_⟩
  · have e : L ++ A.take k ++ (A.drop k ++ B) = L ++ (A ++ B) := by rw [List.append_assoc, ← List.append_assoc (A.take k), List.take_append_drop]
    rw [e]; exact h.perm
  · rw [List.append_assoc, List.take_append_drop]; exact h.sa
  · have h1 := List.pairwise_append.mp h.sa
    have h2 := List.pairwise_append.mp h.sb
    rw [Sr, List.append_assoc, List.pairwise_append]
    refine ⟨h1.1, List.pairwise_append.mpr ⟨h1.2.1.sublist (List.take_sublist _ _), h2.2.1, hk⟩, fun x hx y hy => ?_⟩
    rcases List.mem_append.mp hy with hy | hy
    · exact h1.2.2 x hx y (List.mem_of_mem_take hy)
    · exact h2.2.2 x hx y hy
theorem MI.one {T L A B : List Keyed} {x : Keyed} (h : MI T L (x :: A) B) (hk : ∀ y ∈ B, kf x ≤ kf y) : MI T (L ++ [x]) A B :=
  h.take 1 fun z hz y hy => by
    have : z = x := by simpa using hz
    subst this; exact hk y hy
theorem MI.last {T L B : List Keyed} {z : Keyed} (h : MI T L [z] B) (hz : ∀ y ∈ B, kf y ≤ kf z) : (L ++ B ++ [z]).Perm T ∧ Sr (L ++ B ++ [z]) := by
  have h' := h.symm
  refine ⟨by rw [List.append_assoc]; exact h'.perm, ?_⟩
  rw [Sr, List.pairwise_append]
  refine ⟨h.sb, List.pairwise_singleton _ _, fun x hx y hy => ?_⟩
  have : y = z := by simpa using hy
  subst this
  rcases List.mem_append.mp hx with hx | hx
  · exact (List.pairwise_append.mp h.sa).2.2 x hx y (by simp)
  · exact hz x hx

structure MH (T R A B : List Keyed) : Prop where
  perm : ((A ++ B) ++ R).Perm T
  sa : Sr (A ++ R)
  sb : Sr (B ++ R)
theorem MH.symm {T R A B : List Keyed} (h : MH T R A B) : MH T R B A := ⟨((List.Perm.append_right R List.perm_append_comm).trans h.perm), h.sb, h.sa⟩
theorem MH.take {T R A B : List Keyed} (h : MH T R A B) (k : Nat) (hk : ∀ x ∈ A.drop k, ∀ y ∈ B, kf y ≤ kf x) : MH T (A.drop k ++ R) (A.take k) B := by
  refine ⟨?_, ?_, ?_⟩
  · have e : (A.take k ++ B ++ (A.drop k ++ R)).Perm (A ++ B ++ R) := by
      have p1 : (A.take k ++ B ++ A.drop k).Perm (A.take k ++ A.drop k ++ B) := by
        rw [List.append_assoc, List.append_assoc]; exact List.Perm.append_left _ List.perm_append_comm
      rw [List.take_append_drop] at p1
      rw [← List.append_assoc]
      exact List.Perm.append_right R p1
    exact e.trans h.perm
  · rw [← List.append_assoc, List.take_append_drop]; exact h.sa
  · have h1 := List.pairwise_append.mp h.sa
    have h2 := List.pairwise_append.mp h.sb
    rw [Sr, List.pairwise_append]
    refine ⟨h2.1, List.pairwise_append.mpr ⟨h1.1.sublist (List.drop_sublist _ _), h1.2.1, fun x hx y hy => h1.2.2 x (List.mem_of_mem_drop hx) y hy⟩, fun x hx y hy => ?_⟩
    rcases List.mem_append.mp hy with hy | hy
    · exact hk y hy x hx
    · exact h2.2.2 x hx y hy
theorem MH.one {T R A B : List Keyed} {x : Keyed} (h : MH T R (A ++ [x]) B) (hk : ∀ y ∈ B, kf y ≤ kf x) : MH T (x :: R) A B := by
  have e1 : (A ++ [x]).drop A.length = [x] := by simp
  have e2 : (A ++ [x]).take A.length = A := by simp
  have := h.take A.length (by rw [e1]; intro z hz y hy; have : z = x := by simpa using hz
                              subst this; exact hk y hy)
  rw [e1, e2] at this
  exact this
theorem MH.first {T R A : List Keyed} {z : Keyed} (h : MH T R A [z]) (hz : ∀ y ∈ A, kf z ≤ kf y) : ([z] ++ A ++ R).Perm T ∧ Sr ([z] ++ A ++ R) := by
  have h' := h.symm
  refine ⟨h'.perm, ?_⟩
  rw [Sr, List.append_assoc, List.pairwise_append]
  refine ⟨List.pairwise_singleton _ _, h.sa, fun x hx y hy => ?_⟩
  have : x = z := by simpa using hx
  subst this
  rcases List.mem_append.mp hy with hy | hy
  · exact hz y hy
  · exact (List.pairwise_append.mp h.sb).2.2 x (by simp) y hy

theorem drop_at {xs : Array Keyed} {i : Nat} {x : Keyed} (h : xs[i]? = some x) : xs.toList.drop i = x :: xs.toList.drop (i + 1) := by
  have hi : i < xs.size := by
    rcases Nat.lt_or_ge i xs.size with h1 | h1
    · exact h1
    · rw [getElem?_neg xs i (by omega)] at h; cases h
  rw [getElem?_pos xs i hi] at h
  have e := Option.some.inj h
  rw [List.drop_eq_getElem_cons (by simpa using hi)]
  simp [e]
theorem take_at {xs : Array Keyed} {i : Nat} {x : Keyed} (h : xs[i]? = some x) : xs.toList.take (i + 1) = xs.toList.take i ++ [x] := by
  have hi : i < xs.size := by
    rcases Nat.lt_or_ge i xs.size with h1 | h1
    · exact h1
    · rw [getElem?_neg xs i (by omega)] at h; cases h
  rw [getElem?_pos xs i hi] at h
  have e := Option.some.inj h
  rw [List.take_succ_eq_append_getElem (by simpa using hi)]
  simp [e]
theorem mem_drop_K {xs : Array Keyed} {i : Nat} {x : Keyed} (h : x ∈ xs.toList.drop i) : ∃ j, i ≤ j ∧ j < xs.size ∧ kf x = K xs j := by
  obtain ⟨k, hk, e⟩ := List.getElem_of_mem h
  have hk' : i + k < xs.size := by simp at hk; omega
  refine ⟨i + k, by omega, hk', ?_⟩
  rw [List.getElem_drop] at e
  rw [K_at (getElem?_pos xs (i + k) hk'), ← e]
  simp
theorem mem_take_K {xs : Array Keyed} {i : Nat} {x : Keyed} (h : x ∈ xs.toList.take i) : ∃ j, j < i ∧ j < xs.size ∧ kf x = K xs j := by
  obtain ⟨k, hk, e⟩ := List.getElem_of_mem h
  have hk' : k < i ∧ k < xs.size := by simp at hk; omega
  refine ⟨k, by omega, hk'.2, ?_⟩
  rw [List.getElem_take] at e
  rw [K_at (getElem?_pos xs k hk'.2), ← e]
  simp
theorem mem_part_K {xs : Array Keyed} {i k : Nat} {x : Keyed} (h : x ∈ (xs.toList.drop i).take k) : ∃ j, j < k ∧ i + j < xs.size ∧ kf x = K xs (i + j) := by
  obtain ⟨m, hm, e⟩ := List.getElem_of_mem h
  have hm' : m < k ∧ i + m < xs.size := by simp at hm; omega
  refine ⟨m, hm'.1, hm'.2, ?_⟩
  rw [List.getElem_take, List.getElem_drop] at e
  rw [K_at (getElem?_pos xs (i + m) hm'.2), ← e]
  simp
theorem mem_part2_K {xs : Array Keyed} {i k : Nat} {x : Keyed} (h : x ∈ (xs.toList.take i).drop k) : ∃ j, k ≤ j ∧ j < i ∧ j < xs.size ∧ kf x = K xs j := by
  obtain ⟨m, hm, e⟩ := List.getElem_of_mem h
  have hm' : k + m < i ∧ k + m < xs.size := by simp at hm; omega
  refine ⟨k + m, by omega, hm'.1, hm'.2, ?_⟩
  rw [List.getElem_drop, List.getElem_take] at e
  rw [K_at (getElem?_pos xs (k + m) hm'.2), ← e]
  simp
theorem part_list {xs : Array Keyed} {i k : Nat} : (xs.extract i (i + k)).toList = (xs.toList.drop i).take k := by
  rw [Array.toList_extract, List.extract_eq_take_drop]
  congr 1; omega
theorem rest_list {xs : Array Keyed} {i : Nat} : (xs.extract i xs.size).toList = xs.toList.drop i := by
  rw [Array.toList_extract, List.extract_eq_take_drop]
  exact List.take_of_length_le (by simp)
theorem head_list {xs : Array Keyed} {i : Nat} : (xs.extract 0 i).toList = xs.toList.take i := by
  rw [Array.toList_extract, List.extract_eq_take_drop]
  simp
theorem mid_list {xs : Array Keyed} {i k : Nat} : (xs.extract k i).toList = (xs.toList.take i).drop k := by
  rw [Array.toList_extract, List.extract_eq_take_drop, List.drop_take]
theorem sr_of {xs : Array Keyed} (h : SortedTo xs xs.size) : Sr xs.toList := by
  rw [Sr, List.pairwise_iff_getElem]
  intro i j hi hj hij
  have h1 := h i j (by omega) (by simpa using hj)
  rw [K_eq (by simpa using hi), K_eq (by simpa using hj)] at h1
  simpa using h1
end Srt

namespace Srt
open PySem PyProof.Rows

noncomputable abbrev LoSt := Option (Array Keyed) × Array Keyed × Nat × Nat × Nat × Nat × Nat
noncomputable abbrev doneLo (a b out : Array Keyed) (ia ib : Nat) : Array Keyed := out ++ a.extract ia a.size ++ b.extract ib b.size
noncomputable abbrev lastLo (a b out : Array Keyed) (ia ib : Nat) : Array Keyed := out ++ b.extract ib b.size ++ a.extract ia a.size
noncomputable def lo3 (a b out : Array Keyed) (ia ib mg k k1 : Nat) : StateT SortSt Sem (ForInStep LoSt) := do
  let x ← elem' a ia
  if ia + 1 + 1 == a.size then pure (.done (some (lastLo a b (out.push x) (ia + 1) ib), out.push x, ia + 1, ib, mg, k, k1))
  else if k < 7 && k1 < 7 then pure (.done (none, out.push x, ia + 1, ib, mg, k, k1))
  else pure (.yield (none, out.push x, ia + 1, ib, mg, k, k1))
noncomputable def lo2 (a b out : Array Keyed) (ia ib mg k bc : Nat) : StateT SortSt Sem (ForInStep LoSt) := do
  let y ← elem' b ib
  if ib + 1 == b.size then pure (.done (some (doneLo a b (out.push y) ia (ib + 1)), out.push y, ia, ib + 1, mg, k, bc))
  else do
    let z ← elem' a ia
    let r ← gallop' true z b (ib + 1) (b.size - (ib + 1)) 0
    match r with
    | some k1 =>
      if k1 > 0 then
        if ib + 1 + k1 == b.size then pure (.done (some (doneLo a b (out.push y ++ b.extract (ib + 1) (ib + 1 + k1)) ia (ib + 1 + k1)), out.push y ++ b.extract (ib + 1) (ib + 1 + k1), ia, ib + 1 + k1, mg, k, k1))
        else lo3 a b (out.push y ++ b.extract (ib + 1) (ib + 1 + k1)) ia (ib + 1 + k1) mg k k1
      else lo3 a b (out.push y) ia (ib + 1) mg k k1
    | _ => pure (.done (some (doneLo a b (out.push y) ia (ib + 1)), out.push y, ia, ib + 1, mg, k, bc))
noncomputable def lo1 (a b out : Array Keyed) (ia ib mg ac bc : Nat) : StateT SortSt Sem (ForInStep LoSt) := do
  setMinGallop' mg
  let y ← elem' b ib
  let r ← gallop' false y a ia (a.size - ia) 0
  match r with
  | some k =>
    if k > 0 then
      if ia + k + 1 == a.size then pure (.done (some (lastLo a b (out ++ a.extract ia (ia + k)) (ia + k) ib), out ++ a.extract ia (ia + k), ia + k, ib, mg, k, bc))
      else if ia + k == a.size then pure (.done (some (doneLo a b (out ++ a.extract ia (ia + k)) (ia + k) ib), out ++ a.extract ia (ia + k), ia + k, ib, mg, k, bc))
      else lo2 a b (out ++ a.extract ia (ia + k)) (ia + k) ib mg k bc
    else lo2 a b out ia ib mg k bc
  | _ => pure (.done (some (doneLo a b out ia ib), out, ia, ib, mg, ac, bc))
noncomputable abbrev LoS1 := Option (Array Keyed) × Array Keyed × Nat × Nat × Nat × Nat
noncomputable def loB (a b : Array Keyed) (mg : Nat) (out : Array Keyed) (ia ib ac bc : Nat) : StateT SortSt Sem (ForInStep LoS1) := do
  let r ← lt' (← elem' b ib) (← elem' a ia)
  match r with
  | some bWins =>
    if bWins then do
      let y ← elem' b ib
      if ib + 1 == b.size then pure (.done (some (doneLo a b (out.push y) ia (ib + 1)), out.push y, ia, ib + 1, 0, bc + 1))
      else if bc + 1 ≥ mg then pure (.done (none, out.push y, ia, ib + 1, 0, bc + 1))
      else pure (.yield (none, out.push y, ia, ib + 1, 0, bc + 1))
    else do
      let x ← elem' a ia
      if ia + 1 + 1 == a.size then pure (.done (some (lastLo a b (out.push x) (ia + 1) ib), out.push x, ia + 1, ib, ac + 1, 0))
      else if ac + 1 ≥ mg then pure (.done (none, out.push x, ia + 1, ib, ac + 1, 0))
      else pure (.yield (none, out.push x, ia + 1, ib, ac + 1, 0))
  | _ => pure (.done (some (doneLo a b out ia ib), out, ia, ib, ac, bc))
noncomputable def loTurn (a b : Array Keyed) (out : Array Keyed) (ia ib mg : Nat) : StateT SortSt Sem (ForInStep (Option (Array Keyed) × Array Keyed × Nat × Nat × Nat)) := do
  let c ← forIn [0:a.size + b.size] ((none, out, ia, ib, 0, 0) : LoS1) fun _ c => loB a b mg c.2.1 c.2.2.1 c.2.2.2.1 c.2.2.2.2.1 c.2.2.2.2.2
  match c.1 with
  | some r => pure (.done (some r, c.2.1, c.2.2.1, c.2.2.2.1, mg))
  | none => do
    liftM (rule "list.sort.gallop")
    let d ← forIn [0:a.size + b.size] ((none, c.2.1, c.2.2.1, c.2.2.2.1, mg + 1, c.2.2.2.2.1, c.2.2.2.2.2) : LoSt) fun _ d =>
      if d.2.2.2.2.1 > 1 then lo1 a b d.2.1 d.2.2.1 d.2.2.2.1 (d.2.2.2.2.1 - 1) d.2.2.2.2.2.1 d.2.2.2.2.2.2 else lo1 a b d.2.1 d.2.2.1 d.2.2.2.1 d.2.2.2.2.1 d.2.2.2.2.2.1 d.2.2.2.2.2.2
    match d.1 with
    | some r => pure (.done (some r, d.2.1, d.2.2.1, d.2.2.2.1, d.2.2.2.2.1))
    | none => do
      setMinGallop' (d.2.2.2.2.1 + 1)
      pure (.yield (none, d.2.1, d.2.2.1, d.2.2.2.1, d.2.2.2.2.1 + 1))
theorem mergeLo_parts (a b : Array Keyed) : mergeLo' a b = (do
  liftM (rule "list.sort.merge-lo")
  let y ← elem' b 0
  if 1 == b.size then pure (doneLo a b #[y] 0 1)
  else if 0 + 1 == a.size then pure (lastLo a b #[y] 0 1)
  else do
    let st ← get
    let c ← forIn [0:a.size + b.size] ((none, #[y], 0, 1, gallopOf st) : Option (Array Keyed) × Array Keyed × Nat × Nat × Nat) fun _ c => loTurn a b c.2.1 c.2.2.1 c.2.2.2.1 c.2.2.2.2
    match c.1 with
    | some r => pure r
    | none => unsupported "internal:list.sort.merge-bound") := by
  kernel_rfl
end Srt

namespace Srt
open PySem PyProof.Rows

structure Cm (a b : Array Keyed) : Prop where
  ia : AllInt a
  ib : AllInt b
  sa : SortedTo a a.size
  sb : SortedTo b b.size
  pa : 0 < a.size
  pb : 0 < b.size
  last : ∀ j, j < b.size → K b j ≤ K a (a.size - 1)
  first : ∀ j, j < a.size → K b 0 ≤ K a j
noncomputable def Good (T : List Keyed) (r : Array Keyed) : Prop := r.toList.Perm T ∧ Sr r.toList
noncomputable abbrev tot (a b : Array Keyed) : List Keyed := a.toList ++ b.toList
noncomputable abbrev ML (a b out : Array Keyed) (ia ib : Nat) : Prop := MI (tot a b) out.toList (a.toList.drop ia) (b.toList.drop ib)
variable {a b out : Array Keyed} {ia ib : Nat}

theorem done_good (h : ML a b out ia ib) (hz : ib = b.size ∨ ia = a.size) : Good (tot a b) (doneLo a b out ia ib) := by
  have e : (doneLo a b out ia ib).toList = out.toList ++ a.toList.drop ia ++ b.toList.drop ib := by
    rw [Array.toList_append, Array.toList_append, rest_list, rest_list]
  unfold Good
  rw [e]
  refine ⟨by rw [List.append_assoc]; exact h.perm, ?_⟩
  rcases hz with hz | hz
  · have e2 : b.toList.drop ib = [] := List.drop_eq_nil_of_le (by simp [hz])
    rw [e2, List.append_nil]; exact h.sa
  · have e2 : a.toList.drop ia = [] := List.drop_eq_nil_of_le (by simp [hz])
    rw [e2, List.append_nil]; exact h.sb
theorem last_good (C : Cm a b) (h : ML a b out ia ib) (hz : ia + 1 = a.size) : Good (tot a b) (lastLo a b out ia ib) := by
  have e : (lastLo a b out ia ib).toList = out.toList ++ b.toList.drop ib ++ a.toList.drop ia := by
    rw [Array.toList_append, Array.toList_append, rest_list, rest_list]
  have ha : a[ia]? = some a[ia] := getElem?_pos a ia (by omega)
  have e2 : a.toList.drop ia = [a[ia]] := by
    rw [drop_at ha, List.drop_eq_nil_of_le (by simp; omega)]
  unfold Good
  rw [e, e2]
  have h' := h
  unfold ML at h'
  rw [e2] at h'
  refine h'.last fun y hy => ?_
  obtain ⟨j, _, h2, h3⟩ := mem_drop_K hy
  rw [h3, show kf a[ia] = K a ia from (K_at ha).symm, show ia = a.size - 1 by omega]
  exact C.last j h2
theorem push_b (h : ML a b out ia ib) {y : Keyed} (hy : b[ib]? = some y) (hle : ∀ j, ia ≤ j → j < a.size → kf y ≤ K a j) : ML a b (out.push y) ia (ib + 1) := by
  have h' := h.symm
  rw [drop_at hy] at h'
  have := (h'.one fun z hz => by
    obtain ⟨j, h1, h2, h3⟩ := mem_drop_K hz
    rw [h3]; exact hle j h1 h2).symm
  unfold ML
  rw [Array.toList_push]; exact this
theorem push_a (h : ML a b out ia ib) {x : Keyed} (hx : a[ia]? = some x) (hle : ∀ j, ib ≤ j → j < b.size → kf x ≤ K b j) : ML a b (out.push x) (ia + 1) ib := by
  have h' := h
  unfold ML at h'
  rw [drop_at hx] at h'
  have := h'.one fun z hz => by
    obtain ⟨j, h1, h2, h3⟩ := mem_drop_K hz
    rw [h3]; exact hle j h1 h2
  unfold ML
  rw [Array.toList_push]; exact this
theorem part_a (h : ML a b out ia ib) {k : Nat} (hle : ∀ i, i < k → ∀ j, ib ≤ j → j < b.size → ia + i < a.size → K a (ia + i) ≤ K b j) : ML a b (out ++ a.extract ia (ia + k)) (ia + k) ib := by
  have := h.take k fun x hx y hy => by
    obtain ⟨i, h1, h2, h3⟩ := mem_part_K hx
    obtain ⟨j, g1, g2, g3⟩ := mem_drop_K hy
    rw [h3, g3]; exact hle i h1 j g1 g2 h2
  unfold ML
  rw [Array.toList_append, part_list]
  rw [List.drop_drop] at this
  exact this
theorem part_b (h : ML a b out ia ib) {k : Nat} (hle : ∀ i, i < k → ∀ j, ia ≤ j → j < a.size → ib + i < b.size → K b (ib + i) ≤ K a j) : ML a b (out ++ b.extract ib (ib + k)) ia (ib + k) := by
  have := (h.symm.take k fun x hx y hy => by
    obtain ⟨i, h1, h2, h3⟩ := mem_part_K hx
    obtain ⟨j, g1, g2, g3⟩ := mem_drop_K hy
    rw [h3, g3]; exact hle i h1 j g1 g2 h2).symm
  unfold ML
  rw [Array.toList_append, part_list]
  rw [List.drop_drop] at this
  exact this

structure LI (a b out : Array Keyed) (ia ib : Nat) : Prop where
  ml : ML a b out ia ib
  ha : ia + 1 < a.size
  hb : ib < b.size
noncomputable def GP (a b : Array Keyed) (n0 : Nat) (c : Option (Array Keyed)) (out : Array Keyed) (ia ib : Nat) : Prop :=
  match c with
  | some r => Good (tot a b) r
  | none => LI a b out ia ib ∧ n0 ≤ ia + ib

section
variable {prog : Program} {w : World} {A : Around} {E : Value → Shared → Prop} {s : Shared} {st : SortSt} {mg k k1 ac bc n0 : Nat}

theorem wpS_lo3 (C : Cm a b) (h : LI a b out ia ib) (hn : n0 ≤ ia + ib) (hle : ∀ j, ib ≤ j → j < b.size → K a ia ≤ K b j) {Q : ForInStep LoSt → SortSt → Prop}
    (h1 : ∀ d : LoSt, GP a b n0 d.1 d.2.1 d.2.2.1 d.2.2.2.1 → Q (.done d) st) (h2 : ∀ d : LoSt, d.1 = none → GP a b n0 d.1 d.2.1 d.2.2.1 d.2.2.2.1 → Q (.yield d) st) :
    wpS (model prog w) A E s (lo3 a b out ia ib mg k k1) Q st := by
  unfold lo3
  have ha := h.ha
  have hb := h.hb
  refine wpS_bind (wpS_elem (by omega) fun x hx => ?_)
  have m := push_a h.ml hx fun j h1 h2 => by rw [show kf x = K a ia from (K_at hx).symm]; exact hle j h1 h2
  by_cases hz : ia + 1 + 1 = a.size
  · rw [if_pos (by simpa using hz)]
    exact wpS_pure (h1 _ (last_good C m hz))
  · rw [if_neg (by simpa using hz)]
    have g : GP a b n0 none (out.push x) (ia + 1) ib := ⟨⟨m, by omega, h.hb⟩, by omega⟩
    split
    · exact wpS_pure (h1 _ g)
    · exact wpS_pure (h2 _ rfl g)
theorem wpS_lo2 (C : Cm a b) (hk : kindOf st = oneType') (h : LI a b out ia ib) (hn : n0 ≤ ia + ib) (hle : ∀ j, ia ≤ j → j < a.size → K b ib ≤ K a j) {Q : ForInStep LoSt → SortSt → Prop}
    (h1 : ∀ d : LoSt, GP a b n0 d.1 d.2.1 d.2.2.1 d.2.2.2.1 → Q (.done d) st) (h2 : ∀ d : LoSt, d.1 = none → GP a b n0 d.1 d.2.1 d.2.2.1 d.2.2.2.1 → Q (.yield d) st) :
    wpS (model prog w) A E s (lo2 a b out ia ib mg k bc) Q st := by
  unfold lo2
  have ha := h.ha
  have hb := h.hb
  refine wpS_bind (wpS_elem (by omega) fun y hy => ?_)
  have m := push_b h.ml hy fun j h1 h2 => by rw [show kf y = K b ib from (K_at hy).symm]; exact hle j h1 h2
  by_cases hz : ib + 1 = b.size
  · rw [if_pos (by simpa using hz)]
    exact wpS_pure (h1 _ (done_good m (.inl hz)))
  · rw [if_neg (by simpa using hz)]
    refine wpS_bind (wpS_elem (by omega) fun z hz' => ?_)
    refine wpS_bind (wpS_gallop hk (C.ia _ _ hz') C.ib (by omega) (by omega) (fun i j hij hj => C.sb _ _ (by omega) (by omega)) fun k2 hk2 p1 p2 => ?_)
    dsimp only
    have hzk : numOf z.1 = K a ia := (K_at hz').symm
    have ah : ∀ i, Ahead true (numOf z.1) (K b (ib + 1 + i)) ↔ K b (ib + 1 + i) < K a ia := fun i => by unfold Ahead; rw [if_pos rfl, hzk]
    have m2 : ML a b (out.push y ++ b.extract (ib + 1) (ib + 1 + k2)) ia (ib + 1 + k2) := part_b m fun i hi j h1 h2 h3 => by
      have := (ah i).mp (p1 i hi)
      exact Int.le_trans (Int.le_of_lt this) (C.sa _ _ h1 h2)
    have nx : ∀ j, ib + 1 + k2 ≤ j → j < b.size → K a ia ≤ K b j := fun j h1 h2 => by
      have := mt (ah (j - (ib + 1))).mpr (p2 (j - (ib + 1)) (by omega) (by omega))
      rw [show ib + 1 + (j - (ib + 1)) = j by omega] at this
      omega
    by_cases hk0 : k2 > 0
    · rw [if_pos hk0]
      by_cases hq : ib + 1 + k2 = b.size
      · rw [if_pos (by simpa using hq)]
        exact wpS_pure (h1 _ (done_good m2 (.inl hq)))
      · rw [if_neg (by simpa using hq)]
        exact wpS_lo3 C ⟨m2, h.ha, by omega⟩ (by omega) nx h1 h2
    · rw [if_neg hk0]
      have : k2 = 0 := by omega
      subst this
      exact wpS_lo3 C ⟨m, h.ha, by omega⟩ (by omega) nx h1 h2
theorem wpS_lo1 (C : Cm a b) (hk : kindOf st = oneType') (h : LI a b out ia ib) (hn : n0 ≤ ia + ib) {Q : ForInStep LoSt → SortSt → Prop}
    (h1 : ∀ d : LoSt, GP a b n0 d.1 d.2.1 d.2.2.1 d.2.2.2.1 → Q (.done d) (setGal st mg)) (h2 : ∀ d : LoSt, d.1 = none → GP a b n0 d.1 d.2.1 d.2.2.1 d.2.2.2.1 → Q (.yield d) (setGal st mg)) :
    wpS (model prog w) A E s (lo1 a b out ia ib mg ac bc) Q st := by
  unfold lo1
  have ha := h.ha
  have hb := h.hb
  rw [setMinGallop'_eq]
  refine wpS_bind (wpS_modify ?_)
  refine wpS_bind (wpS_elem (by omega) fun y hy => ?_)
  refine wpS_bind (wpS_gallop (st := setGal st mg) hk (C.ib _ _ hy) C.ia (by omega) (by omega) (fun i j hij hj => C.sa _ _ (by omega) (by omega)) fun k2 hk2 p1 p2 => ?_)
  dsimp only
  have hyk : numOf y.1 = K b ib := (K_at hy).symm
  have ah : ∀ i, Ahead false (numOf y.1) (K a (ia + i)) ↔ K a (ia + i) ≤ K b ib := fun i => by unfold Ahead; rw [if_neg (by decide), hyk]
  have m2 : ML a b (out ++ a.extract ia (ia + k2)) (ia + k2) ib := part_a h.ml fun i hi j h1 h2 h3 => Int.le_trans ((ah i).mp (p1 i hi)) (C.sb _ _ h1 h2)
  have nx : ∀ j, ia + k2 ≤ j → j < a.size → K b ib ≤ K a j := fun j h1 h2 => by
    have := mt (ah (j - ia)).mpr (p2 (j - ia) (by omega) (by omega))
    rw [show ia + (j - ia) = j by omega] at this
    omega
  by_cases hk0 : k2 > 0
  · rw [if_pos hk0]
    by_cases hq : ia + k2 + 1 = a.size
    · rw [if_pos (by simpa using hq)]
      exact wpS_pure (h1 _ (last_good C m2 hq))
    · rw [if_neg (by simpa using hq)]
      by_cases hq2 : ia + k2 = a.size
      · rw [if_pos (by simpa using hq2)]
        exact wpS_pure (h1 _ (done_good m2 (.inr hq2)))
      · rw [if_neg (by simpa using hq2)]
        exact wpS_lo2 (st := setGal st mg) C hk ⟨m2, by omega, h.hb⟩ (by omega) nx h1 h2
  · rw [if_neg hk0]
    have : k2 = 0 := by omega
    subst this
    exact wpS_lo2 (st := setGal st mg) C hk h (by omega) nx h1 h2
theorem wpS_loB (C : Cm a b) (hk : kindOf st = oneType') (h : LI a b out ia ib) (hn : n0 ≤ ia + ib + 1) {Q : ForInStep LoS1 → SortSt → Prop}
    (h1 : ∀ d : LoS1, GP a b n0 d.1 d.2.1 d.2.2.1 d.2.2.2.1 → Q (.done d) st) (h2 : ∀ d : LoS1, d.1 = none → GP a b n0 d.1 d.2.1 d.2.2.1 d.2.2.2.1 → Q (.yield d) st) :
    wpS (model prog w) A E s (loB a b mg out ia ib ac bc) Q st := by
  unfold loB
  have ha := h.ha
  have hb := h.hb
  refine wpS_bind (wpS_elem (by omega) fun y hy => ?_)
  refine wpS_bind (wpS_elem (by omega) fun x hx => ?_)
  refine wpS_bind (wpS_lt hk (C.ib _ _ hy) (C.ia _ _ hx) ?_)
  dsimp only
  have ey : numOf y.1 = K b ib := (K_at hy).symm
  have ex : numOf x.1 = K a ia := (K_at hx).symm
  by_cases hl : numOf y.1 < numOf x.1
  · rw [if_pos (by simpa using hl)]
    refine wpS_bind (wpS_elem (by omega) fun y' hy' => ?_)
    obtain rfl : y = y' := by rw [hy] at hy'; exact Option.some.inj hy'
    have m := push_b h.ml hy fun j g1 g2 => by
      have := C.sa _ _ g1 g2
      show numOf y.1 ≤ _
      omega
    by_cases hz : ib + 1 = b.size
    · rw [if_pos (by simpa using hz)]
      exact wpS_pure (h1 _ (done_good m (.inl hz)))
    · rw [if_neg (by simpa using hz)]
      have g : GP a b n0 none (out.push y) ia (ib + 1) := ⟨⟨m, h.ha, by omega⟩, by omega⟩
      split
      · exact wpS_pure (h1 _ g)
      · exact wpS_pure (h2 _ rfl g)
  · rw [if_neg (by simpa using hl)]
    refine wpS_bind (wpS_elem (by omega) fun x' hx' => ?_)
    obtain rfl : x = x' := by rw [hx] at hx'; exact Option.some.inj hx'
    have m := push_a h.ml hx fun j g1 g2 => by
      have := C.sb _ _ g1 g2
      show numOf x.1 ≤ _
      omega
    by_cases hz : ia + 1 + 1 = a.size
    · rw [if_pos (by simpa using hz)]
      exact wpS_pure (h1 _ (last_good C m hz))
    · rw [if_neg (by simpa using hz)]
      have g : GP a b n0 none (out.push x) (ia + 1) ib := ⟨⟨m, by omega, h.hb⟩, by omega⟩
      split
      · exact wpS_pure (h1 _ g)
      · exact wpS_pure (h2 _ rfl g)
noncomputable abbrev Gs (st st' : SortSt) : Prop := ∃ g, st' = setGal st g
theorem wpS_loTurn (C : Cm a b) (hk : kindOf st = oneType') (h : LI a b out ia ib) {Q : ForInStep (Option (Array Keyed) × Array Keyed × Nat × Nat × Nat) → SortSt → Prop}
    (h1 : ∀ d st', Gs st st' → (∃ r, d.1 = some r ∧ Good (tot a b) r) → Q (.done d) st') (h2 : ∀ d st', Gs st st' → d.1 = none → LI a b d.2.1 d.2.2.1 d.2.2.2.1 → ia + ib + 1 ≤ d.2.2.1 + d.2.2.2.1 → Q (.yield d) st') :
    wpS (model prog w) A E s (loTurn a b out ia ib mg) Q st := by
  unfold loTurn
  have pa := C.pa
  refine wpS_bind (wpS_mono (wpS_forRange (I := fun x c st' => st' = st ∧ c.1 = none ∧ GP a b (ia + ib + x) c.1 c.2.1 c.2.2.1 c.2.2.2.1) (Q := fun c st' => st' = st ∧ GP a b (ia + ib + 1) c.1 c.2.1 c.2.2.1 c.2.2.2.1) ?step ?fin ?init) ?post)
  case init => exact ⟨rfl, rfl, h, by show ia + ib + 0 ≤ ia + ib; omega⟩
  case fin =>
    rintro ⟨c1, c2⟩ st' ⟨rfl, z, g⟩
    obtain rfl : c1 = none := z
    refine ⟨rfl, g.1, ?_⟩
    have := g.2
    omega
  case step =>
    rintro x ⟨c1, c2⟩ st' _ hx ⟨rfl, z, g⟩
    obtain rfl : c1 = none := z
    have g1 := g.1
    have g2 := g.2
    refine wpS_loB (n0 := ia + ib + x + 1) C hk g1 (by omega) (fun d hd => ⟨rfl, ?_⟩) (fun d hz hd => ⟨rfl, hz, hd⟩)
    obtain ⟨d1, d2⟩ := d
    cases d1 with
    | some r => exact hd
    | none => exact ⟨hd.1, by have := hd.2; omega⟩
  case post =>
    rintro ⟨c1, c2⟩ st' ⟨rfl, g⟩
    cases c1 with
    | some r => exact wpS_pure (h1 _ _ ⟨gallopOf st', rfl⟩ ⟨r, rfl, g⟩)
    | none =>
      dsimp only
      refine wpS_bind (wpS_lift (wpAny_rule ⟨rfl, ?_⟩))
      refine wpS_bind (wpS_mono (wpS_forRange (I := fun x c st'' => Gs st' st'' ∧ c.1 = none ∧ GP a b (ia + ib + 1) c.1 c.2.1 c.2.2.1 c.2.2.2.1) (Q := fun c st'' => Gs st' st'' ∧ GP a b (ia + ib + 1) c.1 c.2.1 c.2.2.1 c.2.2.2.1) ?step2 ?fin2 ⟨⟨gallopOf st', rfl⟩, rfl, g⟩) ?post2)
      case fin2 =>
        rintro c st'' ⟨gs, z, g⟩
        exact ⟨gs, g⟩
      case step2 =>
        rintro x ⟨d1, d2⟩ st'' _ hx ⟨⟨gg, rfl⟩, z, g⟩
        obtain rfl : d1 = none := z
        dsimp only
        have one : ∀ m, wpS (model prog w) A E s (lo1 a b d2.1 d2.2.1 d2.2.2.1 m d2.2.2.2.2.1 d2.2.2.2.2.2) (fun r st'' => match r with | .done c => Gs st' st'' ∧ GP a b (ia + ib + 1) c.1 c.2.1 c.2.2.1 c.2.2.2.1 | .yield c => Gs st' st'' ∧ c.1 = none ∧ GP a b (ia + ib + 1) c.1 c.2.1 c.2.2.1 c.2.2.2.1) (setGal st' gg) := fun m =>
          wpS_lo1 (st := setGal st' gg) (out := d2.1) (ia := d2.2.1) (ib := d2.2.2.1) (n0 := ia + ib + 1) C hk g.1 g.2 (fun d hd => ⟨⟨m, rfl⟩, hd⟩) (fun d hz hd => ⟨⟨m, rfl⟩, hz, hd⟩)
        split
        · exact wpS_mono (one _) fun r _ hr => by cases r <;> exact hr
        · exact wpS_mono (one _) fun r _ hr => by cases r <;> exact hr
      case post2 =>
        rintro ⟨d1, d2⟩ st'' ⟨⟨gg, rfl⟩, g⟩
        cases d1 with
        | some r => exact wpS_pure (h1 _ _ ⟨gg, rfl⟩ ⟨r, rfl, g⟩)
        | none =>
          dsimp only
          rw [setMinGallop'_eq]
          exact wpS_bind (wpS_modify (wpS_pure (h2 _ _ ⟨_, rfl⟩ rfl g.1 g.2)))
theorem wpS_mergeLo (C : Cm a b) (hk : kindOf st = oneType') {Q : Array Keyed → SortSt → Prop} (h : ∀ r st', Gs st st' → Good (tot a b) r → Q r st') :
    wpS (model prog w) A E s (mergeLo' a b) Q st := by
  rw [mergeLo_parts]
  have pa := C.pa
  have pb := C.pb
  refine wpS_bind (wpS_lift (wpAny_rule ⟨rfl, ?_⟩))
  refine wpS_bind (wpS_elem (by omega) fun y hy => ?_)
  have m0 : ML a b #[] 0 0 := ⟨List.Perm.refl _, sr_of C.sa, sr_of C.sb⟩
  have m : ML a b #[y] 0 1 := push_b m0 hy fun j _ h2 => by
    rw [show kf y = K b 0 from (K_at hy).symm]; exact C.first j h2
  by_cases hz : 1 = b.size
  · rw [if_pos (by simpa using hz)]
    exact wpS_pure (h _ _ ⟨gallopOf st, rfl⟩ (done_good m (.inl hz)))
  · rw [if_neg (by simpa using hz)]
    by_cases hq : 0 + 1 = a.size
    · rw [if_pos (by simpa using hq)]
      exact wpS_pure (h _ _ ⟨gallopOf st, rfl⟩ (last_good C m hq))
    · rw [if_neg (by simpa using hq)]
      refine wpS_bind (wpS_get ?_)
      refine wpS_bind (wpS_mono (wpS_forRange (I := fun x c st' => Gs st st' ∧ c.1 = none ∧ LI a b c.2.1 c.2.2.1 c.2.2.2.1 ∧ x ≤ c.2.2.1 + c.2.2.2.1) (Q := fun c st' => Gs st st' ∧ ∃ r, c.1 = some r ∧ Good (tot a b) r) ?step ?fin ⟨⟨gallopOf st, rfl⟩, rfl, ⟨m, by show 0 + 1 < a.size; omega, by show 1 < b.size; omega⟩, by omega⟩) ?post)
      case fin =>
        rintro c st' ⟨_, _, l, hx⟩
        have := l.ha
        have := l.hb
        omega
      case step =>
        rintro x c st' _ hx ⟨⟨g, rfl⟩, z, l, hn⟩
        refine wpS_loTurn (st := setGal st g) C hk l (fun d st'' gs hd => ?_) (fun d st'' gs hz l2 hn2 => ?_)
        · obtain ⟨g2, rfl⟩ := gs
          exact ⟨⟨g2, rfl⟩, hd⟩
        · obtain ⟨g2, rfl⟩ := gs
          exact ⟨⟨g2, rfl⟩, hz, l2, by omega⟩
      case post =>
        rintro ⟨c1, c2⟩ st' ⟨gs, r, hr, g⟩
        obtain rfl : c1 = some r := hr
        exact wpS_pure (h r st' gs g)
end
end Srt

namespace Srt
open PySem PyProof.Rows

noncomputable abbrev HiSt := Option (Array Keyed) × Nat × Nat × Array Keyed × Nat × Nat × Nat
noncomputable abbrev HiS1 := Option (Array Keyed) × Nat × Nat × Array Keyed × Nat × Nat
noncomputable abbrev doneHi (a b out : Array Keyed) (na nb : Nat) : Array Keyed := a.extract 0 na ++ b.extract 0 nb ++ out.reverse
noncomputable abbrev firstHi (a b out : Array Keyed) (na nb : Nat) : Array Keyed := b.extract 0 nb ++ a.extract 0 na ++ out.reverse
noncomputable def hi3 (a b out : Array Keyed) (na nb mg k k1 : Nat) : StateT SortSt Sem (ForInStep HiSt) := do
  let x ← elem' a (na - 1)
  if na - 1 == 0 then pure (.done (some (doneHi a b (out.push x) (na - 1) nb), na - 1, nb, out.push x, mg, k, k1))
  else if k < 7 && k1 < 7 then pure (.done (none, na - 1, nb, out.push x, mg, k, k1))
  else pure (.yield (none, na - 1, nb, out.push x, mg, k, k1))
noncomputable def hi2 (a b out : Array Keyed) (na nb mg k bc : Nat) : StateT SortSt Sem (ForInStep HiSt) := do
  let y ← elem' b (nb - 1)
  if nb - 1 == 1 then pure (.done (some (firstHi a b (out.push y) na (nb - 1)), na, nb - 1, out.push y, mg, k, bc))
  else do
    let z ← elem' a (na - 1)
    let r ← gallop' true z b 0 (nb - 1) (nb - 1 - 1)
    match r with
    | some at_ =>
      if nb - 1 - at_ > 0 then
        if at_ == 1 then pure (.done (some (firstHi a b (out.push y ++ (b.extract at_ (nb - 1)).reverse) na at_), na, at_, out.push y ++ (b.extract at_ (nb - 1)).reverse, mg, k, nb - 1 - at_))
        else if at_ == 0 then pure (.done (some (doneHi a b (out.push y ++ (b.extract at_ (nb - 1)).reverse) na at_), na, at_, out.push y ++ (b.extract at_ (nb - 1)).reverse, mg, k, nb - 1 - at_))
        else hi3 a b (out.push y ++ (b.extract at_ (nb - 1)).reverse) na at_ mg k (nb - 1 - at_)
      else hi3 a b (out.push y) na (nb - 1) mg k (nb - 1 - at_)
    | _ => pure (.done (some (doneHi a b (out.push y) na (nb - 1)), na, nb - 1, out.push y, mg, k, bc))
noncomputable def hi1 (a b out : Array Keyed) (na nb mg ac bc : Nat) : StateT SortSt Sem (ForInStep HiSt) := do
  setMinGallop' mg
  let y ← elem' b (nb - 1)
  let r ← gallop' false y a 0 na (na - 1)
  match r with
  | some at_ =>
    if na - at_ > 0 then
      if at_ == 0 then pure (.done (some (doneHi a b (out ++ (a.extract at_ na).reverse) at_ nb), at_, nb, out ++ (a.extract at_ na).reverse, mg, na - at_, bc))
      else hi2 a b (out ++ (a.extract at_ na).reverse) at_ nb mg (na - at_) bc
    else hi2 a b out na nb mg (na - at_) bc
  | _ => pure (.done (some (doneHi a b out na nb), na, nb, out, mg, ac, bc))
noncomputable def hiB (a b : Array Keyed) (mg na nb : Nat) (out : Array Keyed) (ac bc : Nat) : StateT SortSt Sem (ForInStep HiS1) := do
  let r ← lt' (← elem' b (nb - 1)) (← elem' a (na - 1))
  match r with
  | some aWins =>
    if aWins then do
      let x ← elem' a (na - 1)
      if na - 1 == 0 then pure (.done (some (doneHi a b (out.push x) (na - 1) nb), na - 1, nb, out.push x, ac + 1, 0))
      else if ac + 1 ≥ mg then pure (.done (none, na - 1, nb, out.push x, ac + 1, 0))
      else pure (.yield (none, na - 1, nb, out.push x, ac + 1, 0))
    else do
      let y ← elem' b (nb - 1)
      if nb - 1 == 1 then pure (.done (some (firstHi a b (out.push y) na (nb - 1)), na, nb - 1, out.push y, 0, bc + 1))
      else if bc + 1 ≥ mg then pure (.done (none, na, nb - 1, out.push y, 0, bc + 1))
      else pure (.yield (none, na, nb - 1, out.push y, 0, bc + 1))
  | _ => pure (.done (some (doneHi a b out na nb), na, nb, out, ac, bc))
noncomputable def hiTurn (a b : Array Keyed) (na nb : Nat) (out : Array Keyed) (mg : Nat) : StateT SortSt Sem (ForInStep (Option (Array Keyed) × Nat × Nat × Array Keyed × Nat)) := do
  let c ← forIn [0:a.size + b.size] ((none, na, nb, out, 0, 0) : HiS1) fun _ c => hiB a b mg c.2.1 c.2.2.1 c.2.2.2.1 c.2.2.2.2.1 c.2.2.2.2.2
  match c.1 with
  | some r => pure (.done (some r, c.2.1, c.2.2.1, c.2.2.2.1, mg))
  | none => do
    liftM (rule "list.sort.gallop")
    let d ← forIn [0:a.size + b.size] ((none, c.2.1, c.2.2.1, c.2.2.2.1, mg + 1, c.2.2.2.2.1, c.2.2.2.2.2) : HiSt) fun _ d =>
      if d.2.2.2.2.1 > 1 then hi1 a b d.2.2.2.1 d.2.1 d.2.2.1 (d.2.2.2.2.1 - 1) d.2.2.2.2.2.1 d.2.2.2.2.2.2 else hi1 a b d.2.2.2.1 d.2.1 d.2.2.1 d.2.2.2.2.1 d.2.2.2.2.2.1 d.2.2.2.2.2.2
    match d.1 with
    | some r => pure (.done (some r, d.2.1, d.2.2.1, d.2.2.2.1, d.2.2.2.2.1))
    | none => do
      setMinGallop' (d.2.2.2.2.1 + 1)
      pure (.yield (none, d.2.1, d.2.2.1, d.2.2.2.1, d.2.2.2.2.1 + 1))
theorem mergeHi_parts (a b : Array Keyed) : mergeHi' a b = (do
  liftM (rule "list.sort.merge-hi")
  let x ← elem' a (a.size - 1)
  if a.size - 1 == 0 then pure (doneHi a b #[x] (a.size - 1) b.size)
  else if b.size == 1 then pure (firstHi a b #[x] (a.size - 1) b.size)
  else do
    let st ← get
    let c ← forIn [0:a.size + b.size] ((none, a.size - 1, b.size, #[x], gallopOf st) : Option (Array Keyed) × Nat × Nat × Array Keyed × Nat) fun _ c => hiTurn a b c.2.1 c.2.2.1 c.2.2.2.1 c.2.2.2.2
    match c.1 with
    | some r => pure r
    | none => unsupported "internal:list.sort.merge-bound") := by
  kernel_rfl

noncomputable abbrev MR (a b out : Array Keyed) (na nb : Nat) : Prop := MH (tot a b) out.toList.reverse (a.toList.take na) (b.toList.take nb)
variable {a b out : Array Keyed} {na nb : Nat}
theorem done_goodH (h : MR a b out na nb) (hz : na = 0 ∨ nb = 0) : Good (tot a b) (doneHi a b out na nb) := by
  have e : (doneHi a b out na nb).toList = a.toList.take na ++ b.toList.take nb ++ out.toList.reverse := by
    rw [Array.toList_append, Array.toList_append, head_list, head_list, Array.toList_reverse]
  unfold Good
  rw [e]
  refine ⟨h.perm, ?_⟩
  rcases hz with rfl | rfl
  · rw [List.take_zero, List.nil_append]; exact h.sb
  · rw [List.take_zero, List.append_nil]; exact h.sa
theorem first_good (C : Cm a b) (h : MR a b out na 1) : Good (tot a b) (firstHi a b out na 1) := by
  have pb := C.pb
  have hb : b[0]? = some b[0] := getElem?_pos b 0 (by omega)
  have e2 : b.toList.take 1 = [b[0]] := by rw [take_at hb]; rfl
  have e : (firstHi a b out na 1).toList = [b[0]] ++ a.toList.take na ++ out.toList.reverse := by
    rw [Array.toList_append, Array.toList_append, head_list, head_list, Array.toList_reverse, e2]
  unfold Good
  rw [e]
  have h' := h
  unfold MR at h'
  rw [e2] at h'
  refine h'.first fun y hy => ?_
  obtain ⟨j, h1, h2, h3⟩ := mem_take_K hy
  rw [h3, show kf b[0] = K b 0 from (K_at hb).symm]
  exact C.first j h2
theorem pushH_a (h : MR a b out na nb) (h1 : 1 ≤ na) {x : Keyed} (hx : a[na - 1]? = some x) (hle : ∀ j, j < nb → j < b.size → K b j ≤ kf x) : MR a b (out.push x) (na - 1) nb := by
  have h' := h
  unfold MR at h'
  rw [show na = na - 1 + 1 by omega, take_at hx] at h'
  have := h'.one fun z hz => by
    obtain ⟨j, h1, h2, h3⟩ := mem_take_K hz
    rw [h3]; exact hle j h1 h2
  unfold MR
  rw [Array.toList_push, List.reverse_append]; exact this
theorem pushH_b (h : MR a b out na nb) (h1 : 1 ≤ nb) {y : Keyed} (hy : b[nb - 1]? = some y) (hle : ∀ j, j < na → j < a.size → K a j ≤ kf y) : MR a b (out.push y) na (nb - 1) := by
  have h' := h.symm
  rw [show nb = nb - 1 + 1 by omega, take_at hy] at h'
  have := (h'.one fun z hz => by
    obtain ⟨j, h1, h2, h3⟩ := mem_take_K hz
    rw [h3]; exact hle j h1 h2).symm
  unfold MR
  rw [Array.toList_push, List.reverse_append]; exact this
theorem partH_a (h : MR a b out na nb) {k : Nat} (hk : k ≤ na) (hle : ∀ i, k ≤ i → i < na → i < a.size → ∀ j, j < nb → j < b.size → K b j ≤ K a i) : MR a b (out ++ (a.extract k na).reverse) k nb := by
  have := h.take k fun x hx y hy => by
    obtain ⟨i, h1, h2, h2', h3⟩ := mem_part2_K hx
    obtain ⟨j, g1, g2, g3⟩ := mem_take_K hy
    rw [h3, g3]; exact hle i h1 h2 h2' j g1 g2
  unfold MR
  rw [Array.toList_append, Array.toList_reverse, mid_list, List.reverse_append, List.reverse_reverse]
  rw [List.take_take, Nat.min_eq_left hk] at this
  exact this
theorem partH_b (h : MR a b out na nb) {k : Nat} (hk : k ≤ nb) (hle : ∀ i, k ≤ i → i < nb → i < b.size → ∀ j, j < na → j < a.size → K a j ≤ K b i) : MR a b (out ++ (b.extract k nb).reverse) na k := by
  have := (h.symm.take k fun x hx y hy => by
    obtain ⟨i, h1, h2, h2', h3⟩ := mem_part2_K hx
    obtain ⟨j, g1, g2, g3⟩ := mem_take_K hy
    rw [h3, g3]; exact hle i h1 h2 h2' j g1 g2).symm
  unfold MR
  rw [Array.toList_append, Array.toList_reverse, mid_list, List.reverse_append, List.reverse_reverse]
  rw [List.take_take, Nat.min_eq_left hk] at this
  exact this
structure HI (a b out : Array Keyed) (na nb : Nat) : Prop where
  mr : MR a b out na nb
  h1 : 1 ≤ na
  h2 : 2 ≤ nb
  ha : na ≤ a.size
  hb : nb ≤ b.size
noncomputable def HP (a b : Array Keyed) (n0 : Nat) (c : Option (Array Keyed)) (na nb : Nat) (out : Array Keyed) : Prop :=
  match c with
  | some r => Good (tot a b) r
  | none => HI a b out na nb ∧ na + nb ≤ n0

section
variable {prog : Program} {w : World} {A : Around} {E : Value → Shared → Prop} {s : Shared} {st : SortSt} {mg k k1 ac bc n0 : Nat}

theorem wpS_hi3 (C : Cm a b) (h : HI a b out na nb) (hn : na + nb ≤ n0) (hle : ∀ j, j < nb → j < b.size → K b j ≤ K a (na - 1)) {Q : ForInStep HiSt → SortSt → Prop}
    (h1 : ∀ d : HiSt, HP a b n0 d.1 d.2.1 d.2.2.1 d.2.2.2.1 → Q (.done d) st) (h2 : ∀ d : HiSt, d.1 = none → HP a b n0 d.1 d.2.1 d.2.2.1 d.2.2.2.1 → Q (.yield d) st) :
    wpS (model prog w) A E s (hi3 a b out na nb mg k k1) Q st := by
  unfold hi3
  obtain ⟨mr, q1, q2, ha, hb⟩ := h
  refine wpS_bind (wpS_elem (by omega) fun x hx => ?_)
  have m := pushH_a mr q1 hx fun j h1 h2 => by rw [show kf x = K a (na - 1) from (K_at hx).symm]; exact hle j h1 h2
  by_cases hz : na - 1 = 0
  · rw [if_pos (by simpa using hz)]
    exact wpS_pure (h1 _ (done_goodH m (.inl hz)))
  · rw [if_neg (by simpa using hz)]
    have g : HP a b n0 none (na - 1) nb (out.push x) := ⟨⟨m, by omega, q2, by omega, hb⟩, by omega⟩
    split
    · exact wpS_pure (h1 _ g)
    · exact wpS_pure (h2 _ rfl g)
theorem wpS_hi2 (C : Cm a b) (hk : kindOf st = oneType') (h : HI a b out na nb) (hn : na + nb ≤ n0) (hle : ∀ j, j < na → j < a.size → K a j ≤ K b (nb - 1)) {Q : ForInStep HiSt → SortSt → Prop}
    (h1 : ∀ d : HiSt, HP a b n0 d.1 d.2.1 d.2.2.1 d.2.2.2.1 → Q (.done d) st) (h2 : ∀ d : HiSt, d.1 = none → HP a b n0 d.1 d.2.1 d.2.2.1 d.2.2.2.1 → Q (.yield d) st) :
    wpS (model prog w) A E s (hi2 a b out na nb mg k bc) Q st := by
  unfold hi2
  obtain ⟨mr, q1, q2, ha, hb⟩ := h
  refine wpS_bind (wpS_elem (by omega) fun y hy => ?_)
  have m := pushH_b mr (by omega) hy fun j h1 h2 => by rw [show kf y = K b (nb - 1) from (K_at hy).symm]; exact hle j h1 h2
  by_cases hz : nb - 1 = 1
  · rw [if_pos (by simpa using hz)]
    refine wpS_pure (h1 _ ?_)
    dsimp only
    rw [hz] at m ⊢
    exact first_good C m
  · rw [if_neg (by simpa using hz)]
    refine wpS_bind (wpS_elem (by omega) fun z hz' => ?_)
    refine wpS_bind (wpS_gallop hk (C.ia _ _ hz') C.ib (by omega) (by omega) (fun i j hij hj => C.sb _ _ (by omega) (by omega)) fun k2 hk2 p1 p2 => ?_)
    dsimp only
    have hzk : numOf z.1 = K a (na - 1) := (K_at hz').symm
    have ah : ∀ i, Ahead true (numOf z.1) (K b (0 + i)) ↔ K b i < K a (na - 1) := fun i => by unfold Ahead; rw [if_pos rfl, hzk, Nat.zero_add]
    have m2 : MR a b (out.push y ++ (b.extract k2 (nb - 1)).reverse) na k2 := partH_b m hk2 fun i h1 h2 h2' j g1 g2 => by
      have := mt (ah i).mpr (p2 i h1 h2)
      have := C.sa j (na - 1) (by omega) (by omega)
      omega
    have nx : ∀ j, j < k2 → j < b.size → K b j ≤ K a (na - 1) := fun j h1 h2 => Int.le_of_lt ((ah j).mp (p1 j h1))
    by_cases hk0 : nb - 1 - k2 > 0
    · rw [if_pos hk0]
      by_cases hq : k2 = 1
      · rw [if_pos (by simpa using hq)]
        subst hq
        exact wpS_pure (h1 _ (first_good C m2))
      · rw [if_neg (by simpa using hq)]
        by_cases hq2 : k2 = 0
        · rw [if_pos (by simpa using hq2)]
          exact wpS_pure (h1 _ (done_goodH m2 (.inr hq2)))
        · rw [if_neg (by simpa using hq2)]
          exact wpS_hi3 C ⟨m2, q1, by omega, ha, by omega⟩ (by omega) nx h1 h2
    · rw [if_neg hk0]
      have e : k2 = nb - 1 := by omega
      subst e
      exact wpS_hi3 C ⟨m, q1, by omega, ha, by omega⟩ (by omega) nx h1 h2
theorem wpS_hi1 (C : Cm a b) (hk : kindOf st = oneType') (h : HI a b out na nb) (hn : na + nb ≤ n0) {Q : ForInStep HiSt → SortSt → Prop}
    (h1 : ∀ d : HiSt, HP a b n0 d.1 d.2.1 d.2.2.1 d.2.2.2.1 → Q (.done d) (setGal st mg)) (h2 : ∀ d : HiSt, d.1 = none → HP a b n0 d.1 d.2.1 d.2.2.1 d.2.2.2.1 → Q (.yield d) (setGal st mg)) :
    wpS (model prog w) A E s (hi1 a b out na nb mg ac bc) Q st := by
  unfold hi1
  have h0 := h
  obtain ⟨mr, q1, q2, ha, hb⟩ := h
  rw [setMinGallop'_eq]
  refine wpS_bind (wpS_modify ?_)
  refine wpS_bind (wpS_elem (by omega) fun y hy => ?_)
  refine wpS_bind (wpS_gallop (st := setGal st mg) hk (C.ib _ _ hy) C.ia (by omega) (by omega) (fun i j hij hj => C.sa _ _ (by omega) (by omega)) fun k2 hk2 p1 p2 => ?_)
  dsimp only
  have hyk : numOf y.1 = K b (nb - 1) := (K_at hy).symm
  have ah : ∀ i, Ahead false (numOf y.1) (K a (0 + i)) ↔ K a i ≤ K b (nb - 1) := fun i => by unfold Ahead; rw [if_neg (by decide), hyk, Nat.zero_add]
  have m2 : MR a b (out ++ (a.extract k2 na).reverse) k2 nb := partH_a mr hk2 fun i h1 h2 h2' j g1 g2 => by
    have := mt (ah i).mpr (p2 i h1 h2)
    have := C.sb j (nb - 1) (by omega) (by omega)
    omega
  have nx : ∀ j, j < k2 → j < a.size → K a j ≤ K b (nb - 1) := fun j h1 h2 => (ah j).mp (p1 j h1)
  by_cases hk0 : na - k2 > 0
  · rw [if_pos hk0]
    by_cases hq : k2 = 0
    · rw [if_pos (by simpa using hq)]
      exact wpS_pure (h1 _ (done_goodH m2 (.inl hq)))
    · rw [if_neg (by simpa using hq)]
      exact wpS_hi2 (st := setGal st mg) C hk ⟨m2, by omega, q2, by omega, hb⟩ (by omega) nx h1 h2
  · rw [if_neg hk0]
    have : k2 = na := by omega
    subst this
    exact wpS_hi2 (st := setGal st mg) C hk h0 (by omega) nx h1 h2
theorem wpS_hiB (C : Cm a b) (hk : kindOf st = oneType') (h : HI a b out na nb) (hn : na + nb ≤ n0 + 1) {Q : ForInStep HiS1 → SortSt → Prop}
    (h1 : ∀ d : HiS1, HP a b n0 d.1 d.2.1 d.2.2.1 d.2.2.2.1 → Q (.done d) st) (h2 : ∀ d : HiS1, d.1 = none → HP a b n0 d.1 d.2.1 d.2.2.1 d.2.2.2.1 → Q (.yield d) st) :
    wpS (model prog w) A E s (hiB a b mg na nb out ac bc) Q st := by
  unfold hiB
  obtain ⟨mr, q1, q2, ha, hb⟩ := h
  refine wpS_bind (wpS_elem (by omega) fun y hy => ?_)
  refine wpS_bind (wpS_elem (by omega) fun x hx => ?_)
  refine wpS_bind (wpS_lt hk (C.ib _ _ hy) (C.ia _ _ hx) ?_)
  dsimp only
  have ey : numOf y.1 = K b (nb - 1) := (K_at hy).symm
  have ex : numOf x.1 = K a (na - 1) := (K_at hx).symm
  by_cases hl : numOf y.1 < numOf x.1
  · rw [if_pos (by simpa using hl)]
    refine wpS_bind (wpS_elem (by omega) fun x' hx' => ?_)
    obtain rfl : x = x' := by rw [hx] at hx'; exact Option.some.inj hx'
    have m := pushH_a mr q1 hx fun j g1 g2 => by
      have := C.sb j (nb - 1) (by omega) (by omega)
      show _ ≤ numOf x.1
      omega
    by_cases hz : na - 1 = 0
    · rw [if_pos (by simpa using hz)]
      exact wpS_pure (h1 _ (done_goodH m (.inl hz)))
    · rw [if_neg (by simpa using hz)]
      have g : HP a b n0 none (na - 1) nb (out.push x) := ⟨⟨m, by omega, q2, by omega, hb⟩, by omega⟩
      split
      · exact wpS_pure (h1 _ g)
      · exact wpS_pure (h2 _ rfl g)
  · rw [if_neg (by simpa using hl)]
    refine wpS_bind (wpS_elem (by omega) fun y' hy' => ?_)
    obtain rfl : y = y' := by rw [hy] at hy'; exact Option.some.inj hy'
    have m := pushH_b mr (by omega) hy fun j g1 g2 => by
      have := C.sa j (na - 1) (by omega) (by omega)
      show _ ≤ numOf y.1
      omega
    by_cases hz : nb - 1 = 1
    · rw [if_pos (by simpa using hz)]
      refine wpS_pure (h1 _ ?_)
      dsimp only
      rw [hz] at m ⊢
      exact first_good C m
    · rw [if_neg (by simpa using hz)]
      have g : HP a b n0 none na (nb - 1) (out.push y) := ⟨⟨m, q1, by omega, ha, by omega⟩, by omega⟩
      split
      · exact wpS_pure (h1 _ g)
      · exact wpS_pure (h2 _ rfl g)
theorem wpS_hiTurn (C : Cm a b) (hk : kindOf st = oneType') (h : HI a b out na nb) {Q : ForInStep (Option (Array Keyed) × Nat × Nat × Array Keyed × Nat) → SortSt → Prop}
    (h1 : ∀ d st', Gs st st' → (∃ r, d.1 = some r ∧ Good (tot a b) r) → Q (.done d) st') (h2 : ∀ d st', Gs st st' → d.1 = none → HI a b d.2.2.2.1 d.2.1 d.2.2.1 → d.2.1 + d.2.2.1 + 1 ≤ na + nb → Q (.yield d) st') :
    wpS (model prog w) A E s (hiTurn a b na nb out mg) Q st := by
  unfold hiTurn
  have pa := C.pa
  have p1 := h.h1
  have p2 := h.h2
  have p3 := h.ha
  have p4 := h.hb
  refine wpS_bind (wpS_mono (wpS_forRange (I := fun x c st' => st' = st ∧ c.1 = none ∧ HP a b (na + nb - x) c.1 c.2.1 c.2.2.1 c.2.2.2.1) (Q := fun c st' => st' = st ∧ HP a b (na + nb - 1) c.1 c.2.1 c.2.2.1 c.2.2.2.1) ?step ?fin ?init) ?post)
  case init => exact ⟨rfl, rfl, h, by show na + nb ≤ na + nb - 0; omega⟩
  case fin =>
    rintro ⟨c1, c2⟩ st' ⟨rfl, z, g⟩
    obtain rfl : c1 = none := z
    refine ⟨rfl, g.1, ?_⟩
    have := g.2
    omega
  case step =>
    rintro x ⟨c1, c2⟩ st' _ hx ⟨rfl, z, g⟩
    obtain rfl : c1 = none := z
    have g1 := g.1
    have g2 := g.2
    have g3 := g1.h1
    refine wpS_hiB (n0 := na + nb - x - 1) C hk g1 (by omega) (fun d hd => ⟨rfl, ?_⟩) (fun d hz hd => ⟨rfl, hz, ?_⟩)
    · obtain ⟨d1, d2⟩ := d
      cases d1 with
      | some r => exact hd
      | none => exact ⟨hd.1, by have := hd.2; omega⟩
    · rw [show na + nb - (x + 1) = na + nb - x - 1 by omega]; exact hd
  case post =>
    rintro ⟨c1, c2⟩ st' ⟨rfl, g⟩
    cases c1 with
    | some r => exact wpS_pure (h1 _ _ ⟨gallopOf st', rfl⟩ ⟨r, rfl, g⟩)
    | none =>
      dsimp only
      refine wpS_bind (wpS_lift (wpAny_rule ⟨rfl, ?_⟩))
      refine wpS_bind (wpS_mono (wpS_forRange (I := fun x c st'' => Gs st' st'' ∧ c.1 = none ∧ HP a b (na + nb - 1) c.1 c.2.1 c.2.2.1 c.2.2.2.1) (Q := fun c st'' => Gs st' st'' ∧ HP a b (na + nb - 1) c.1 c.2.1 c.2.2.1 c.2.2.2.1) ?step2 ?fin2 ⟨⟨gallopOf st', rfl⟩, rfl, g⟩) ?post2)
      case fin2 =>
        rintro c st'' ⟨gs, z, g⟩
        exact ⟨gs, g⟩
      case step2 =>
        rintro x ⟨d1, d2⟩ st'' _ hx ⟨⟨gg, rfl⟩, z, g⟩
        obtain rfl : d1 = none := z
        dsimp only
        have one : ∀ m, wpS (model prog w) A E s (hi1 a b d2.2.2.1 d2.1 d2.2.1 m d2.2.2.2.2.1 d2.2.2.2.2.2) (fun r st'' => match r with | .done c => Gs st' st'' ∧ HP a b (na + nb - 1) c.1 c.2.1 c.2.2.1 c.2.2.2.1 | .yield c => Gs st' st'' ∧ c.1 = none ∧ HP a b (na + nb - 1) c.1 c.2.1 c.2.2.1 c.2.2.2.1) (setGal st' gg) := fun m =>
          wpS_hi1 (st := setGal st' gg) (out := d2.2.2.1) (na := d2.1) (nb := d2.2.1) (n0 := na + nb - 1) C hk g.1 g.2 (fun d hd => ⟨⟨m, rfl⟩, hd⟩) (fun d hz hd => ⟨⟨m, rfl⟩, hz, hd⟩)
        split
        · exact wpS_mono (one _) fun r _ hr => by cases r <;> exact hr
        · exact wpS_mono (one _) fun r _ hr => by cases r <;> exact hr
      case post2 =>
        rintro ⟨d1, d2⟩ st'' ⟨⟨gg, rfl⟩, g⟩
        cases d1 with
        | some r => exact wpS_pure (h1 _ _ ⟨gg, rfl⟩ ⟨r, rfl, g⟩)
        | none =>
          dsimp only
          rw [setMinGallop'_eq]
          have := g.2
          exact wpS_bind (wpS_modify (wpS_pure (h2 _ _ ⟨_, rfl⟩ rfl g.1 (by dsimp only at *; omega))))
theorem wpS_mergeHi (C : Cm a b) (hk : kindOf st = oneType') {Q : Array Keyed → SortSt → Prop} (h : ∀ r st', Gs st st' → Good (tot a b) r → Q r st') :
    wpS (model prog w) A E s (mergeHi' a b) Q st := by
  rw [mergeHi_parts]
  have pa := C.pa
  have pb := C.pb
  refine wpS_bind (wpS_lift (wpAny_rule ⟨rfl, ?_⟩))
  refine wpS_bind (wpS_elem (by omega) fun x hx => ?_)
  have m0 : MR a b #[] a.size b.size := by
    unfold MR
    have e1 : a.toList.take a.size = a.toList := List.take_of_length_le (by simp)
    have e2 : b.toList.take b.size = b.toList := List.take_of_length_le (by simp)
    rw [e1, e2]
    exact ⟨by show (tot a b ++ []).Perm _; rw [List.append_nil], by show Sr (a.toList ++ []); rw [List.append_nil]; exact sr_of C.sa, by show Sr (b.toList ++ []); rw [List.append_nil]; exact sr_of C.sb⟩
  have m : MR a b #[x] (a.size - 1) b.size := pushH_a m0 (by omega) hx fun j h2 _ => by
    rw [show kf x = K a (a.size - 1) from (K_at hx).symm]; exact C.last j h2
  by_cases hz : a.size - 1 = 0
  · rw [if_pos (by simpa using hz)]
    exact wpS_pure (h _ _ ⟨gallopOf st, rfl⟩ (done_goodH m (.inl hz)))
  · rw [if_neg (by simpa using hz)]
    by_cases hq : b.size = 1
    · rw [if_pos (by simpa using hq)]
      refine wpS_pure (h _ _ ⟨gallopOf st, rfl⟩ ?_)
      rw [hq] at m ⊢
      exact first_good C m
    · rw [if_neg (by simpa using hq)]
      refine wpS_bind (wpS_get ?_)
      refine wpS_bind (wpS_mono (wpS_forRange (I := fun x c st' => Gs st st' ∧ c.1 = none ∧ HI a b c.2.2.2.1 c.2.1 c.2.2.1 ∧ c.2.1 + c.2.2.1 + x ≤ a.size + b.size) (Q := fun c st' => Gs st st' ∧ ∃ r, c.1 = some r ∧ Good (tot a b) r) ?step ?fin ?init) ?post)
      case init => exact ⟨⟨gallopOf st, rfl⟩, rfl, ⟨m, by show 1 ≤ a.size - 1; omega, by show 2 ≤ b.size; omega, by show a.size - 1 ≤ _; omega, Nat.le_refl _⟩, by show a.size - 1 + b.size + 0 ≤ _; omega⟩
      case fin =>
        rintro c st' ⟨_, _, l, hx⟩
        have := l.h1
        have := l.h2
        omega
      case step =>
        rintro x c st' _ hx ⟨⟨g, rfl⟩, z, l, hn⟩
        refine wpS_hiTurn (st := setGal st g) C hk l (fun d st'' gs hd => ?_) (fun d st'' gs hz l2 hn2 => ?_)
        · obtain ⟨g2, rfl⟩ := gs
          exact ⟨⟨g2, rfl⟩, hd⟩
        · obtain ⟨g2, rfl⟩ := gs
          exact ⟨⟨g2, rfl⟩, hz, l2, by omega⟩
      case post =>
        rintro ⟨c1, c2⟩ st' ⟨gs, r, hr, g⟩
        obtain rfl : c1 = some r := hr
        exact wpS_pure (h r st' gs g)
end
end Srt

namespace Srt
open PySem PyProof.Rows

noncomputable def laid (xs : Array Keyed) (at_ : Nat) (ys : List Keyed) : Array Keyed := ys.zipIdx.foldl (fun a (p, j) => a.setIfInBounds (at_ + j) p) xs
noncomputable def layIn (at_ : Nat) (m : Array Keyed) : StateT SortSt Sem Bool := do
  modify fun s => setArr s (laid (arrOf s) at_ m.toList)
  pure (failedOf (← get)).isNone
noncomputable def twoRuns (a : Array Keyed) (sa na sb nb : Nat) : StateT SortSt Sem Bool := do
  let y ← elem' a sb
  let r ← gallop' false y a sa na 0
  match r with
  | some k =>
    if na - k == 0 then pure true
    else do
      let x ← elem' a (sa + k + (na - k) - 1)
      let q ← gallop' true x a sb nb (nb - 1)
      match q with
      | some nb2 =>
        if nb2 == 0 then pure true
        else if na - k ≤ nb2 then mergeLo' (a.extract (sa + k) sb) (a.extract sb (sb + nb2)) >>= layIn (sa + k)
        else mergeHi' (a.extract (sa + k) sb) (a.extract sb (sb + nb2)) >>= layIn (sa + k)
      | _ => pure false
  | _ => pure false
theorem mergeAt_eq (i : Nat) : mergeAt' i = (do
   let st ← get
   match (pendingOf st)[i]?, (pendingOf st)[i + 1]? with
    | some (sa, na, p), some (sb, nb, _) => do
       set (setPending st (((pendingOf st).setIfInBounds i (sa, na + nb, p)).eraseIdxIfInBounds (i + 1)))
       twoRuns (arrOf st) sa na sb nb
    | _, _ => unsupported "internal:list.sort.pending") := by
  kernel_rfl

theorem laid_size (ys : List Keyed) : ∀ (xs : Array Keyed) (k n : Nat), ((ys.zipIdx n).foldl (fun a (p, j) => a.setIfInBounds (k + j) p) xs).size = xs.size := by
  induction ys with
  | nil => intros; rfl
  | cons y ys ih => intro xs k n; rw [List.zipIdx_cons, List.foldl_cons, ih]; simp
theorem laid_get (ys : List Keyed) : ∀ (xs : Array Keyed) (k n i : Nat), k + n + ys.length ≤ xs.size →
    ((ys.zipIdx n).foldl (fun a (p, j) => a.setIfInBounds (k + j) p) xs)[i]? = if k + n ≤ i ∧ i < k + n + ys.length then ys[i - (k + n)]? else xs[i]? := by
  induction ys with
  | nil => intro xs k n i _; rw [if_neg (by simp)]; rfl
  | cons y ys ih =>
    intro xs k n i h
    rw [List.length_cons] at h
    rw [List.zipIdx_cons, List.foldl_cons, ih _ _ _ _ (by simp; omega)]
    by_cases h1 : i = k + n
    · subst h1
      rw [if_neg (by omega), if_pos (by simp)]
      simp only [Nat.sub_self, List.getElem?_cons_zero]
      rw [Array.getElem?_setIfInBounds_self_of_lt (by omega)]
    · by_cases h2 : k + (n + 1) ≤ i ∧ i < k + (n + 1) + ys.length
      · rw [if_pos h2, if_pos (by simp; omega), show i - (k + n) = i - (k + (n + 1)) + 1 by omega, List.getElem?_cons_succ]
      · rw [if_neg h2, if_neg (by simp; omega), Array.getElem?_setIfInBounds_ne (by omega)]
theorem laid_list {xs : Array Keyed} {k : Nat} {ys : List Keyed} (h : k + ys.length ≤ xs.size) : (laid xs k ys).toList = xs.toList.take k ++ ys ++ xs.toList.drop (k + ys.length) := by
  apply List.ext_getElem?
  intro i
  have e := laid_get ys xs k 0 i (by omega)
  have e' : (laid xs k ys).toList[i]? = (laid xs k ys)[i]? := by simp
  rw [e']
  unfold laid
  rw [show (ys.zipIdx) = ys.zipIdx 0 from rfl, e]
  by_cases h1 : i < k
  · rw [if_neg (by omega), List.append_assoc, List.getElem?_append_left (by simp; omega), List.getElem?_take_of_lt h1]
    simp
  · by_cases h2 : i < k + ys.length
    · rw [if_pos (by omega), List.append_assoc, List.getElem?_append_right (by simp; omega), List.getElem?_append_left (by simp; omega)]
      congr 1
      simp; omega
    · rw [if_neg (by omega), List.append_assoc, List.getElem?_append_right (by simp; omega), List.getElem?_append_right (by simp; omega), List.getElem?_drop]
      rw [show xs[i]? = xs.toList[i]? by simp]
      congr 1
      simp; omega
theorem sr_to {xs : Array Keyed} (h : Sr xs.toList) : SortedTo xs xs.size := by
  intro i j hij hj
  rw [K_eq (by omega), K_eq hj]
  rcases Nat.lt_or_ge i j with h1 | h1
  · have := List.pairwise_iff_getElem.mp h i j (by simp; omega) (by simpa using hj) h1
    simpa using this
  · have : i = j := by omega
    subst this; exact Int.le_refl _
theorem K_extract {xs : Array Keyed} {i j k : Nat} (hj : j ≤ xs.size) (h : i + k < j) : K (xs.extract i j) k = K xs (i + k) := by
  refine K_congr ?_
  rw [Array.getElem?_extract]
  rw [if_pos (by omega)]
theorem allInt_extract {xs : Array Keyed} (h : AllInt xs) (i j : Nat) : AllInt (xs.extract i j) := by
  intro k x hx
  rw [Array.getElem?_extract] at hx
  split at hx
  · exact h _ _ hx
  · cases hx

theorem between {L1 X Y L2 M : List Keyed} (h1 : Sr (L1 ++ X)) (h2 : Sr (Y ++ L2)) (h3 : ∀ l ∈ L1, ∀ y ∈ Y ++ L2, kf l ≤ kf y) (h4 : ∀ x ∈ X, ∀ y ∈ L2, kf x ≤ kf y) (hp : M.Perm (X ++ Y)) (hs : Sr M) :
    (L1 ++ M ++ L2).Perm (L1 ++ X ++ (Y ++ L2)) ∧ Sr (L1 ++ M ++ L2) := by
  refine ⟨?_, ?_⟩
  · rw [List.append_assoc, List.append_assoc, ← List.append_assoc X]
    exact List.Perm.append_left _ (List.Perm.append_right _ hp)
  · have q1 := List.pairwise_append.mp h1
    have q2 := List.pairwise_append.mp h2
    rw [Sr, List.append_assoc, List.pairwise_append]
    refine ⟨q1.1, List.pairwise_append.mpr ⟨hs, q2.2.1, fun m hm y hy => ?_⟩, fun l hl y hy => ?_⟩
    · rcases List.mem_append.mp (hp.mem_iff.mp hm) with hm | hm
      · exact h4 m hm y hy
      · exact q2.2.2 m hm y hy
    · rcases List.mem_append.mp hy with hy | hy
      · rcases List.mem_append.mp (hp.mem_iff.mp hy) with hy | hy
        · exact q1.2.2 l hl y hy
        · exact h3 l hl y (List.mem_append_left _ hy)
      · exact h3 l hl y (List.mem_append_right _ hy)

section
variable {prog : Program} {w : World} {A : Around} {E : Value → Shared → Prop} {s : Shared} {st : SortSt}
theorem wpS_twoRuns {a : Array Keyed} {n : Nat} (hk : kindOf st = oneType') (hf : failedOf st = none) (ha : arrOf st = a) (hi : AllInt a) (h1 : 1 ≤ n) (h2 : n < a.size)
    (s1 : SortedTo a n) (s2 : ∀ i j, n ≤ i → i ≤ j → j < a.size → K a i ≤ K a j) {Q : Bool → SortSt → Prop}
    (h : ∀ st', pendingOf st' = pendingOf st → failedOf st' = none → (arrOf st').Perm a → SortedTo (arrOf st') a.size → Q true st') :
    wpS (model prog w) A E s (twoRuns a 0 n n (a.size - n)) Q st := by
  unfold twoRuns
  -- already in order
  have inOrder : K a (n - 1) ≤ K a n → Q true st := fun hle => by
    refine h st rfl hf (by rw [ha]) ?_
    rw [ha]
    intro i j hij hj
    by_cases c1 : j < n
    · exact s1 i j hij c1
    · by_cases c2 : n ≤ i
      · exact s2 i j c2 hij hj
      · exact Int.le_trans (s1 i (n - 1) (by omega) (by omega)) (Int.le_trans hle (s2 n j (by omega) (by omega) hj))
  refine wpS_bind (wpS_elem (by omega) fun y hy => ?_)
  refine wpS_bind (wpS_gallop hk (hi _ _ hy) hi (by omega) (by omega) (fun i j hij hj => s1 _ _ (by omega) (by omega)) fun k hk1 p1 p2 => ?_)
  dsimp only
  have hyk : numOf y.1 = K a n := (K_at hy).symm
  have ah : ∀ i, Ahead false (numOf y.1) (K a (0 + i)) ↔ K a i ≤ K a n := fun i => by unfold Ahead; rw [if_neg (by decide), hyk, Nat.zero_add]
  by_cases hz : n - k = 0
  · rw [if_pos (by simpa using hz)]
    exact wpS_pure (inOrder ((ah (n - 1)).mp (p1 (n - 1) (by omega))))
  · rw [if_neg (by simpa using hz)]
    have e0 : 0 + k + (n - k) - 1 = n - 1 := by omega
    refine wpS_bind (wpS_elem (by omega) fun x hx => ?_)
    refine wpS_bind (wpS_gallop hk (hi _ _ hx) hi (by omega) (by omega) (fun i j hij hj => s2 _ _ (by omega) (by omega) (by omega)) fun k2 hk2 r1 r2 => ?_)
    dsimp only
    have hxk : numOf x.1 = K a (n - 1) := by rw [← e0]; exact (K_at hx).symm
    have ah2 : ∀ i, Ahead true (numOf x.1) (K a (n + i)) ↔ K a (n + i) < K a (n - 1) := fun i => by unfold Ahead; rw [if_pos rfl, hxk]
    by_cases hz2 : k2 = 0
    · rw [if_pos (by simpa using hz2)]
      refine wpS_pure (inOrder ?_)
      have := mt (ah2 0).mpr (r2 0 (by omega) (by omega))
      simp only [Nat.add_zero] at this
      omega
    · rw [if_neg (by simpa using hz2)]
      rw [Nat.zero_add]
      have zX : (a.extract k n).size = n - k := by simp; omega
      have zY : (a.extract n (n + k2)).size = k2 := by simp; omega
      have kX : ∀ i, i < n - k → K (a.extract k n) i = K a (k + i) := fun i hi => K_extract (by omega) (by omega)
      have kY : ∀ i, i < k2 → K (a.extract n (n + k2)) i = K a (n + i) := fun i hi => K_extract (by omega) (by omega)
      have up : ∀ i, k ≤ i → i < n → K a n < K a i := fun i q1 q2 => by
        have := mt (ah i).mpr (p2 i q1 q2)
        omega
      have C : Cm (a.extract k n) (a.extract n (n + k2)) := by
        refine ⟨allInt_extract hi _ _, allInt_extract hi _ _, ?_, ?_, by omega, by omega, ?_, ?_⟩
        · rw [zX]; intro i j hij hj
          rw [kX i (by omega), kX j hj]; exact s1 _ _ (by omega) (by omega)
        · rw [zY]; intro i j hij hj
          rw [kY i (by omega), kY j hj]; exact s2 _ _ (by omega) (by omega) (by omega)
        · rw [zX, zY]; intro j hj
          rw [kY j hj, kX _ (by omega), show k + (n - k - 1) = n - 1 by omega]
          exact Int.le_of_lt ((ah2 j).mp (r1 j hj))
        · rw [zX]; intro j hj
          rw [kY 0 (by omega), kX j hj]
          exact Int.le_of_lt (up _ (by omega) (by omega))
      have fin : ∀ r st', Gs st st' → Good (tot (a.extract k n) (a.extract n (n + k2))) r → wpS (model prog w) A E s (layIn k r) Q st' := by
        rintro r st' ⟨g, rfl⟩ ⟨gp, gs⟩
        unfold layIn
        refine wpS_bind (wpS_modify (wpS_bind (wpS_get ?_)))
        have ef : (failedOf st).isNone = true := by rw [hf]; rfl
        show wpS _ _ _ _ (pure (failedOf st).isNone) Q _
        rw [ef]
        refine wpS_pure (h _ rfl hf ?_ ?_)
        all_goals
          have hl : r.toList.length = n - k + k2 := by
            rw [gp.length_eq]; simp only [tot, List.length_append, Array.length_toList, zX, zY]
          have el : (laid a k r.toList).toList = a.toList.take k ++ r.toList ++ a.toList.drop (n + k2) := by
            rw [laid_list (by omega), hl, show k + (n - k + k2) = n + k2 by omega]
          have eX : (a.extract k n).toList = (a.toList.take n).drop k := mid_list
          have eY : (a.extract n (n + k2)).toList = (a.toList.drop n).take k2 := part_list
          have sA : Sr (a.toList.take k ++ (a.toList.take n).drop k) := by
            have e : a.toList.take k ++ (a.toList.take n).drop k = a.toList.take n := by
              have := List.take_append_drop k (a.toList.take n)
              rwa [List.take_take, Nat.min_eq_left (by omega)] at this
            rw [e, Sr, List.pairwise_iff_getElem]
            intro i j hi' hj' hij
            simp at hi' hj'
            have := s1 i j (by omega) (by omega)
            rw [K_eq (by omega), K_eq (by omega)] at this
            simpa using this
          have sB : Sr ((a.toList.drop n).take k2 ++ a.toList.drop (n + k2)) := by
            rw [← List.drop_drop, List.take_append_drop, Sr, List.pairwise_iff_getElem]
            intro i j hi' hj' hij
            simp at hi' hj'
            have := s2 (n + i) (n + j) (by omega) (by omega) (by omega)
            rw [K_eq (by omega), K_eq (by omega)] at this
            simpa using this
          have whole : a.toList.take k ++ (a.toList.take n).drop k ++ ((a.toList.drop n).take k2 ++ a.toList.drop (n + k2)) = a.toList := by
            have e : a.toList.take k ++ (a.toList.take n).drop k = a.toList.take n := by
              have := List.take_append_drop k (a.toList.take n)
              rwa [List.take_take, Nat.min_eq_left (by omega)] at this
            rw [e, ← List.drop_drop, List.take_append_drop, List.take_append_drop]
          have bt := between (L1 := a.toList.take k) (X := (a.toList.take n).drop k) (Y := (a.toList.drop n).take k2) (L2 := a.toList.drop (n + k2)) (M := r.toList) sA sB (fun l hl' y hy' => by
            obtain ⟨i, i1, i2, i3⟩ := mem_take_K hl'
            have hy2 : y ∈ a.toList.drop n := by rwa [← List.drop_drop, List.take_append_drop] at hy'
            obtain ⟨j, j1, j2, j3⟩ := mem_drop_K hy2
            rw [i3, j3]
            exact Int.le_trans ((ah i).mp (p1 i i1)) (s2 n j (by omega) j1 j2)) (fun x' hx' y hy' => by
            obtain ⟨i, i1, i2, i2', i3⟩ := mem_part2_K hx'
            obtain ⟨j, j1, j2, j3⟩ := mem_drop_K hy'
            rw [i3, j3]
            have q := mt (ah2 (j - n)).mpr (r2 (j - n) (by omega) (by omega))
            rw [show n + (j - n) = j by omega] at q
            exact Int.le_trans (s1 i (n - 1) (by omega) (by omega)) (by omega)) (by rw [← eX, ← eY]; exact gp) gs
          rw [whole] at bt
          have arr : arrOf (setArr (setGal st g) (laid (arrOf (setGal st g)) k r.toList)) = laid a k r.toList := by
            show laid (arrOf st) k r.toList = _
            rw [ha]
        · rw [arr, Array.perm_iff_toList_perm, el]; exact bt.1
        · rw [arr]
          have := sr_to (xs := laid a k r.toList) (by rw [el]; exact bt.2)
          have e : (laid a k r.toList).size = a.size := laid_size _ _ _ _
          rwa [e] at this
      split
      · exact wpS_bind (wpS_mergeLo C hk fun r st' gs gd => fin r st' gs gd)
      · exact wpS_bind (wpS_mergeHi C hk fun r st' gs gd => fin r st' gs gd)
end
end Srt

namespace Srt
open PySem PyProof.Rows

noncomputable def rise (lo a nrem : Nat) : StateT SortSt Sem (Option (Option Nat) × Nat) :=
  forIn [a:nrem] ((none, a) : Option (Option Nat) × Nat) fun _ c => do
    match ← ltAt' (lo + c.2) (lo + c.2 - 1) with
    | some b => if b then pure (.done (none, c.2)) else pure (.yield (none, c.2 + 1))
    | _ => pure (.done (some none, c.2))
noncomputable def fall (lo a nrem : Nat) : StateT SortSt Sem (Option (Option Nat) × Nat × Nat) :=
  forIn [a:nrem] ((none, a, 0) : Option (Option Nat) × Nat × Nat) fun _ c => do
    match ← ltAt' (lo + c.2.1) (lo + c.2.1 - 1) with
    | some b =>
      if b then
        if c.2.2 > 0 then do
          reverseSlice' (lo + c.2.1 - (c.2.2 + 1)) (lo + c.2.1)
          pure (.yield (none, c.2.1 + 1, 0))
        else pure (.yield (none, c.2.1 + 1, 0))
      else do
        match ← ltAt' (lo + c.2.1 - 1) (lo + c.2.1) with
        | some g => if g then pure (.done (none, c.2.1, c.2.2)) else pure (.yield (none, c.2.1 + 1, c.2.2 + 1))
        | _ => pure (.done (some none, c.2.1, c.2.2))
    | _ => pure (.done (some none, c.2.1, c.2.2))
noncomputable def turnAbout (lo n nrem : Nat) : StateT SortSt Sem (Option Nat) := do
  reverseSlice' lo (lo + n)
  let c ← rise lo n nrem
  match c.1 with
  | some r => pure r
  | none => pure (some c.2)
noncomputable def falling (lo n nrem : Nat) : StateT SortSt Sem (Option Nat) := do
  liftM (rule "list.sort.descending-run")
  let c ← fall lo (n + 1) nrem
  match c.1 with
  | some r => pure r
  | none => if c.2.2 > 0 then (reverseSlice' (lo + c.2.1 - (c.2.2 + 1)) (lo + c.2.1) >>= fun _ => turnAbout lo c.2.1 nrem) else turnAbout lo c.2.1 nrem
theorem countRun_parts (lo nrem : Nat) : countRun' lo nrem = (do
    let c ← rise lo 1 nrem
    match c.1 with
    | some r => pure r
    | none =>
      if c.2 == nrem then pure (some c.2)
      else if c.2 > 1 then do
        match ← ltAt' lo (lo + c.2 - 1) with
        | some b => if b then pure (some c.2) else do
            reverseSlice' lo (lo + c.2)
            falling lo c.2 nrem
        | _ => pure none
      else falling lo c.2 nrem) := by
  kernel_rfl

structure SB (a₀ : Array Keyed) (lo : Nat) (p : Array (Nat × Nat × Nat)) (f : Nat → Int) (st : SortSt) : Prop where
  perm : (arrOf st).Perm a₀
  kind : kindOf st = oneType'
  failed : failedOf st = none
  pend : pendingOf st = p
  low : ∀ i, i < lo → K (arrOf st) i = f i
variable {a₀ : Array Keyed} {lo : Nat} {p : Array (Nat × Nat × Nat)} {f : Nat → Int} {st : SortSt}
theorem SB.size (h : SB a₀ lo p f st) : (arrOf st).size = a₀.size := h.perm.size_eq
theorem SB.put (h : SB a₀ lo p f st) {xs : Array Keyed} (hp : xs.Perm (arrOf st)) (hl : ∀ i, i < lo → K xs i = K (arrOf st) i) : SB a₀ lo p f (setArr st xs) :=
  ⟨hp.trans h.perm, h.kind, h.failed, h.pend, fun i hi => (hl i hi).trans (h.low i hi)⟩
theorem allInt_perm {xs : Array Keyed} (h0 : IntKeys a₀) (hp : xs.Perm a₀) : AllInt xs := by
  intro i x hx
  have hi : i < xs.size := by
    rcases Nat.lt_or_ge i xs.size with h1 | h1
    · exact h1
    · rw [getElem?_neg xs i (by omega)] at hx; cases hx
  rw [getElem?_pos xs i hi] at hx
  have e := Option.some.inj hx
  exact h0 _ ((Array.perm_iff_toList_perm.mp hp).mem_iff.mp (by rw [← e]; simp))
noncomputable def Up (lo : Nat) (xs : Array Keyed) (m : Nat) : Prop := ∀ i j, i ≤ j → j < m → K xs (lo + i) ≤ K xs (lo + j)
noncomputable def Dn (lo : Nat) (xs : Array Keyed) (m : Nat) : Prop := ∀ i j, i ≤ j → j < m → K xs (lo + j) ≤ K xs (lo + i)
theorem Up.one {xs : Array Keyed} : Up lo xs 1 := fun i j h1 h2 => by
  have : i = j := by omega
  subst this; exact Int.le_refl _
theorem Up.more {xs : Array Keyed} {m : Nat} (h : Up lo xs m) (h1 : 1 ≤ m) (hl : K xs (lo + (m - 1)) ≤ K xs (lo + m)) : Up lo xs (m + 1) := fun i j hij hj => by
  by_cases c : j < m
  · exact h i j hij c
  · have : j = m := by omega
    subst this
    by_cases c2 : i = j
    · subst c2; exact Int.le_refl _
    · exact Int.le_trans (h i (j - 1) (by omega) (by omega)) hl
theorem Dn.more {xs : Array Keyed} {m : Nat} (h : Dn lo xs m) (h1 : 1 ≤ m) (hl : K xs (lo + m) ≤ K xs (lo + (m - 1))) : Dn lo xs (m + 1) := fun i j hij hj => by
  by_cases c : j < m
  · exact h i j hij c
  · have : j = m := by omega
    subst this
    by_cases c2 : i = j
    · subst c2; exact Int.le_refl _
    · exact Int.le_trans hl (h i (j - 1) (by omega) (by omega))

section
variable {prog : Program} {w : World} {A : Around} {E : Value → Shared → Prop} {s : Shared}
theorem wpS_ltO {i j : Nat} {Q : Option Bool → SortSt → Prop} (hB : SB a₀ lo p f st) (h0 : IntKeys a₀) (hi : i < a₀.size) (hj : j < a₀.size)
    (h : Q (some (decide (K (arrOf st) i < K (arrOf st) j))) st) : wpS (model prog w) A E s (ltAt' i j) Q st := by
  have hs := hB.size
  have ai := allInt_perm h0 hB.perm
  have e1 : (arrOf st)[i]? = some (arrOf st)[i] := getElem?_pos _ i (by omega)
  have e2 : (arrOf st)[j]? = some (arrOf st)[j] := getElem?_pos _ j (by omega)
  rw [ltAt'_eq]
  refine wpS_bind (wpS_get (wpS_bind (wpS_elem (by omega) fun x hx => wpS_bind (wpS_elem (by omega) fun y hy => wpS_lt hB.kind (ai _ _ hx) (ai _ _ hy) ?_))))
  rw [K_at hx, K_at hy] at h
  exact h
theorem wpS_rise {m nrem : Nat} {Q : Option (Option Nat) × Nat → SortSt → Prop} (h0 : IntKeys a₀) (hn : lo + nrem ≤ a₀.size) (h1 : 1 ≤ m) (hmn : m ≤ nrem) (hB : SB a₀ lo p f st) (hu : Up lo (arrOf st) m)
    (h : ∀ n, m ≤ n → n ≤ nrem → Up lo (arrOf st) n → (n = nrem ∨ K (arrOf st) (lo + n) < K (arrOf st) (lo + (n - 1))) → Q (none, n) st) :
    wpS (model prog w) A E s (rise lo m nrem) Q st := by
  unfold rise
  refine wpS_forRange (I := fun x c st' => st' = st ∧ c = (none, x) ∧ Up lo (arrOf st) x) ?step ?fin ⟨rfl, rfl, hu⟩
  case fin =>
    rintro c st' ⟨rfl, rfl, hu'⟩
    rw [show max m nrem = nrem by omega] at hu' ⊢
    exact h nrem hmn (Nat.le_refl _) hu' (.inl rfl)
  case step =>
    rintro x c st' h2 h3 ⟨rfl, rfl, hu'⟩
    dsimp only
    refine wpS_bind (wpS_ltO hB h0 (by omega) (by omega) ?_)
    rw [show lo + x - 1 = lo + (x - 1) by omega]
    by_cases hl : K (arrOf st') (lo + x) < K (arrOf st') (lo + (x - 1))
    · simp only [hl, decide_true, if_true]
      exact wpS_pure (h x h2 (by omega) hu' (.inr hl))
    · simp only [hl, decide_false, Bool.false_eq_true, if_false]
      exact wpS_pure ⟨rfl, rfl, hu'.more (by omega) (by omega)⟩
theorem K_same {xs : Array Keyed} {i j : Nat} (hj : j ≤ xs.size) (heq : ∀ k, i ≤ k → k < j → K xs k = K xs (j - 1)) (k : Nat) : K (mirror xs i j ((j - i) / 2)) k = K xs k := by
  rw [K_mirror hj]
  split
  · rw [heq (i + j - 1 - k) (by omega) (by omega), heq k (by omega) (by omega)]
  · rfl
theorem wpS_turnAbout {n nrem : Nat} {Q : Option Nat → SortSt → Prop} (h0 : IntKeys a₀) (hn : lo + nrem ≤ a₀.size) (h1 : 1 ≤ n) (hnn : n ≤ nrem) (hB : SB a₀ lo p f st) (hd : Dn lo (arrOf st) n)
    (h : ∀ m st', SB a₀ lo p f st' → 1 ≤ m → m ≤ nrem → Up lo (arrOf st') m → Q (some m) st') :
    wpS (model prog w) A E s (turnAbout lo n nrem) Q st := by
  unfold turnAbout
  have hsz : lo + n ≤ (arrOf st).size := by rw [hB.size]; omega
  refine wpS_bind (wpS_reverse ?_)
  have hB' : SB a₀ lo p f (setArr st (mirror (arrOf st) lo (lo + n) ((lo + n - lo) / 2))) := hB.put (mirror_perm _ _ _ _) fun i hi => by rw [K_mirror hsz, if_neg (by omega)]
  refine wpS_bind (wpS_rise h0 hn h1 hnn hB' ?_ fun m hm1 hm2 hsm _ => wpS_pure (h m _ hB' (by omega) hm2 hsm))
  intro i j hij hj
  show K (mirror (arrOf st) lo (lo + n) ((lo + n - lo) / 2)) (lo + i) ≤ K (mirror (arrOf st) lo (lo + n) ((lo + n - lo) / 2)) (lo + j)
  rw [K_mirror hsz, K_mirror hsz, if_pos (by omega), if_pos (by omega), show lo + (lo + n) - 1 - (lo + i) = lo + (n - 1 - i) by omega, show lo + (lo + n) - 1 - (lo + j) = lo + (n - 1 - j) by omega]
  exact hd _ _ (by omega) (by omega)
theorem wpS_fall {n nrem : Nat} {Q : Option (Option Nat) × Nat × Nat → SortSt → Prop} (h0 : IntKeys a₀) (hn : lo + nrem ≤ a₀.size) (h1 : 1 ≤ n) (hnn : n ≤ nrem) (hB : SB a₀ lo p f st) (hd : Dn lo (arrOf st) n)
    (h : ∀ m q st', SB a₀ lo p f st' → n ≤ m → m ≤ nrem → Dn lo (arrOf st') m → q + 1 ≤ m → (∀ i, lo + m - (q + 1) ≤ i → i < lo + m → K (arrOf st') i = K (arrOf st') (lo + m - 1)) → Q (none, m, q) st') :
    wpS (model prog w) A E s (fall lo n nrem) Q st := by
  unfold fall
  refine wpS_forRange (I := fun x c st' => ∃ q, c = (none, x, q) ∧ SB a₀ lo p f st' ∧ Dn lo (arrOf st') x ∧ q + 1 ≤ x ∧ (∀ i, lo + x - (q + 1) ≤ i → i < lo + x → K (arrOf st') i = K (arrOf st') (lo + x - 1))) ?step ?fin ⟨0, rfl, hB, hd, by omega, fun i _ _ => by congr 1; omega⟩
  case fin =>
    rintro c st' ⟨q, rfl, hB', hd', hq, he⟩
    rw [show max n nrem = nrem by omega] at hd' hq he ⊢
    exact h nrem q st' hB' hnn (Nat.le_refl _) hd' hq he
  case step =>
    rintro x c st' h2 h3 ⟨q, rfl, hB', hd', hq, he⟩
    dsimp only
    have hsz : lo + x ≤ (arrOf st').size := by rw [hB'.size]; omega
    have ex : lo + x - 1 = lo + (x - 1) := by omega
    refine wpS_bind (wpS_ltO hB' h0 (by omega) (by omega) ?_)
    by_cases hl : K (arrOf st') (lo + x) < K (arrOf st') (lo + x - 1)
    · simp only [hl, decide_true, if_true]
      rw [ex] at hl
      have d1 := hd'.more (by omega) (Int.le_of_lt hl)
      by_cases hq0 : q > 0
      · rw [if_pos hq0]
        have sm := K_same hsz he
        refine wpS_bind (wpS_reverse (wpS_pure ⟨0, rfl, hB'.put (mirror_perm _ _ _ _) fun i _ => sm i, fun i j hij hj => ?_, by omega, fun i _ _ => by congr 1; omega⟩))
        show K (mirror (arrOf st') _ _ _) _ ≤ K (mirror (arrOf st') _ _ _) _
        rw [sm, sm]; exact d1 i j hij hj
      · rw [if_neg hq0]
        exact wpS_pure ⟨0, rfl, hB', d1, by omega, fun i _ _ => by congr 1; omega⟩
    · simp only [hl, decide_false, Bool.false_eq_true, if_false]
      refine wpS_bind (wpS_ltO hB' h0 (by omega) (by omega) ?_)
      by_cases hg : K (arrOf st') (lo + x - 1) < K (arrOf st') (lo + x)
      · simp only [hg, decide_true, if_true]
        exact wpS_pure (h x q st' hB' h2 (by omega) hd' hq he)
      · simp only [hg, decide_false, Bool.false_eq_true, if_false]
        have eqx : K (arrOf st') (lo + x) = K (arrOf st') (lo + x - 1) := by omega
        refine wpS_pure ⟨q + 1, rfl, hB', hd'.more (by omega) (by rw [← ex]; omega), by omega, fun i g1 g2 => ?_⟩
        rw [show lo + (x + 1) - 1 = lo + x by omega]
        by_cases c : i = lo + x
        · rw [c]
        · rw [eqx]; exact he i (by omega) (by omega)
theorem wpS_falling {n nrem : Nat} {Q : Option Nat → SortSt → Prop} (h0 : IntKeys a₀) (hn : lo + nrem ≤ a₀.size) (hnn : n + 1 ≤ nrem) (hB : SB a₀ lo p f st) (hd : Dn lo (arrOf st) (n + 1))
    (h : ∀ m st', SB a₀ lo p f st' → 1 ≤ m → m ≤ nrem → Up lo (arrOf st') m → Q (some m) st') :
    wpS (model prog w) A E s (falling lo n nrem) Q st := by
  unfold falling
  refine wpS_bind (wpS_lift (wpAny_rule ⟨rfl, ?_⟩))
  refine wpS_bind (wpS_fall h0 hn (by omega) hnn hB hd fun m q st' hB' hm1 hm2 hd' hq he => ?_)
  dsimp only
  have hsz : lo + m ≤ (arrOf st').size := by rw [hB'.size]; omega
  by_cases hq0 : q > 0
  · rw [if_pos hq0]
    have sm := K_same hsz he
    refine wpS_bind (wpS_reverse (wpS_turnAbout h0 hn (by omega) hm2 (hB'.put (mirror_perm _ _ _ _) fun i _ => sm i) (fun i j hij hj => ?_) h))
    show K (mirror (arrOf st') _ _ _) _ ≤ K (mirror (arrOf st') _ _ _) _
    rw [sm, sm]; exact hd' i j hij hj
  · rw [if_neg hq0]
    exact wpS_turnAbout h0 hn (by omega) hm2 hB' hd' h
theorem wpS_countRunO {nrem : Nat} {Q : Option Nat → SortSt → Prop} (h0 : IntKeys a₀) (hn : lo + nrem ≤ a₀.size) (h1 : 1 ≤ nrem) (hB : SB a₀ lo p f st)
    (h : ∀ m st', SB a₀ lo p f st' → 1 ≤ m → m ≤ nrem → Up lo (arrOf st') m → Q (some m) st') :
    wpS (model prog w) A E s (countRun' lo nrem) Q st := by
  rw [countRun_parts]
  refine wpS_bind (wpS_rise h0 hn (Nat.le_refl 1) h1 hB Up.one fun n hn1 hn2 hu hor => ?_)
  dsimp only
  by_cases hnn : n = nrem
  · rw [if_pos (by simpa using hnn)]
    exact wpS_pure (h n st hB hn1 hn2 hu)
  · rw [if_neg (by simpa using hnn)]
    have hlt := hor.resolve_left hnn
    have hsz : lo + n ≤ (arrOf st).size := by rw [hB.size]; omega
    by_cases hgt : n > 1
    · rw [if_pos hgt]
      refine wpS_bind (wpS_ltO hB h0 (by omega) (by omega) ?_)
      rw [show lo + n - 1 = lo + (n - 1) by omega]
      by_cases hr : K (arrOf st) lo < K (arrOf st) (lo + (n - 1))
      · simp only [hr, decide_true, if_true]
        exact wpS_pure (h n st hB hn1 hn2 hu)
      · simp only [hr, decide_false, Bool.false_eq_true, if_false]
        have hall : ∀ k, lo ≤ k → k < lo + n → K (arrOf st) k = K (arrOf st) (lo + n - 1) := by
          intro k g1 g2
          have a1 := hu 0 (k - lo) (by omega) (by omega)
          have a2 := hu (k - lo) (n - 1) (by omega) (by omega)
          rw [show lo + (k - lo) = k by omega] at a1 a2
          rw [show lo + n - 1 = lo + (n - 1) by omega]
          simp only [Nat.add_zero] at a1
          omega
        have sm := K_same hsz hall
        refine wpS_bind (wpS_reverse (wpS_falling h0 hn (by omega) (hB.put (mirror_perm _ _ _ _) fun i _ => sm i) (fun i j hij hj => ?_) h))
        show K (mirror (arrOf st) _ _ _) _ ≤ K (mirror (arrOf st) _ _ _) _
        rw [sm, sm]
        by_cases c : j < n
        · rw [hall (lo + i) (by omega) (by omega), hall (lo + j) (by omega) (by omega)]; exact Int.le_refl _
        · have : j = n := by omega
          subst this
          by_cases c2 : i = j
          · subst c2; exact Int.le_refl _
          · rw [hall (lo + i) (by omega) (by omega), show lo + j - 1 = lo + (j - 1) by omega]; exact Int.le_of_lt hlt
    · rw [if_neg hgt]
      have : n = 1 := by omega
      subst this
      refine wpS_falling h0 hn (by omega) hB (fun i j hij hj => ?_) h
      by_cases c : i = j
      · subst c; exact Int.le_refl _
      · have e1 : i = 0 := by omega
        have e2 : j = 1 := by omega
        subst e1; subst e2
        exact Int.le_of_lt hlt
theorem wpS_binarySortO {n ok : Nat} {Q : Bool → SortSt → Prop} (h0 : IntKeys a₀) (hn : lo + n ≤ a₀.size) (hok : ok ≤ n) (hB : SB a₀ lo p f st) (hu : Up lo (arrOf st) ok)
    (h : ∀ st', SB a₀ lo p f st' → Up lo (arrOf st') n → Q true st') : wpS (model prog w) A E s (binarySort' lo n ok) Q st := by
  rw [binarySort'_eq]
  refine wpS_bind (wpS_mono (wpS_forRange (I := fun k c st' => c = (none, ()) ∧ SB a₀ lo p f st' ∧ Up lo (arrOf st') (min k n)) (Q := fun c st' => c = (none, ()) ∧ SB a₀ lo p f st' ∧ Up lo (arrOf st') n) ?step ?fin ?init) ?post)
  case post =>
    rintro c st' ⟨rfl, hB', hu'⟩
    exact wpS_pure (h st' hB' hu')
  case init =>
    refine ⟨rfl, hB, fun i j hij hj => ?_⟩
    by_cases c : ok = 0
    · have : i = j := by omega
      subst this; exact Int.le_refl _
    · exact hu i j hij (by omega)
  case fin =>
    rintro c st' ⟨hc, hB', hu'⟩
    rw [show min (max (max ok 1) n) n = n by omega] at hu'
    exact ⟨hc, hB', hu'⟩
  case step =>
    rintro k c st' g1 g2 ⟨rfl, hB', hu'⟩
    rw [show min k n = k by omega] at hu'
    refine wpS_bind (wpS_mono (wpS_forRange (I := fun x c st'' => st'' = st' ∧ ∃ l r, c = (none, l, r) ∧ l ≤ r ∧ r ≤ k ∧ r - l ≤ k - x ∧
        (∀ i, i < l → K (arrOf st') (lo + i) ≤ K (arrOf st') (lo + k)) ∧ (∀ i, r ≤ i → i < k → K (arrOf st') (lo + k) < K (arrOf st') (lo + i)))
      (Q := fun c st'' => st'' = st' ∧ ∃ l r, c = (none, l, r) ∧ l ≤ k ∧
        (∀ i, i < l → K (arrOf st') (lo + i) ≤ K (arrOf st') (lo + k)) ∧ (∀ i, l ≤ i → i < k → K (arrOf st') (lo + k) < K (arrOf st') (lo + i))) ?istep ?ifin ?iinit) ?ipost)
    case iinit => exact ⟨rfl, 0, k, rfl, by omega, by omega, by omega, fun i hi => by omega, fun i h1 h2 => by omega⟩
    case ifin =>
      rintro c st'' ⟨rfl, l, r, rfl, q1, q2, q3, q4, q5⟩
      have : l = r := by omega
      subst this
      exact ⟨rfl, l, l, rfl, q2, q4, q5⟩
    case istep =>
      rintro x c st'' _ hx ⟨rfl, l, r, rfl, q1, q2, q3, q4, q5⟩
      dsimp only
      by_cases hge : l ≥ r
      · rw [if_pos hge]
        have : l = r := by omega
        subst this
        exact wpS_pure ⟨rfl, l, l, rfl, q2, q4, q5⟩
      · rw [if_neg hge]
        refine wpS_bind (wpS_ltO hB' h0 (by omega) (by omega) ?_)
        by_cases hl : K (arrOf st'') (lo + k) < K (arrOf st'') (lo + (l + r) / 2)
        · simp only [hl, decide_true, if_true]
          exact wpS_pure ⟨rfl, l, _, rfl, by omega, by omega, by omega, q4, fun i g3 g4 => Int.lt_of_lt_of_le hl (hu' _ _ g3 g4)⟩
        · simp only [hl, decide_false, Bool.false_eq_true, if_false]
          exact wpS_pure ⟨rfl, _, r, rfl, by omega, by omega, by omega, fun i g3 => Int.le_trans (hu' i ((l + r) / 2) (by omega) (by omega)) (Int.not_lt.mp hl), q5⟩
    case ipost =>
      rintro c st'' ⟨rfl, l, r, rfl, q1, q4, q5⟩
      show wpS _ _ _ _ (do moveDown' (lo + k) (lo + l); pure (ForInStep.yield (none, ()))) _ _
      rw [moveDown'_eq]
      have hks : lo + k < (arrOf st'').size := by rw [hB'.size]; omega
      have kb : ∀ i, K (bubble (arrOf st'') (lo + k) (lo + k - (lo + l))) i = if i = lo + l then K (arrOf st'') (lo + k) else if lo + l < i ∧ i ≤ lo + k then K (arrOf st'') (i - 1) else K (arrOf st'') i := fun i => by
        rw [K_bubble hks (by omega), show lo + k - (lo + k - (lo + l)) = lo + l by omega]
      refine wpS_bind (wpS_modify (wpS_pure ⟨rfl, hB'.put (bubble_perm _ _ _) fun i hi => by rw [kb, if_neg (by omega), if_neg (by omega)], ?_⟩))
      rw [show min (k + 1) n = k + 1 by omega]
      intro i j hij hj
      show K (bubble (arrOf st'') (lo + k) (lo + k - (lo + l))) (lo + i) ≤ K (bubble (arrOf st'') (lo + k) (lo + k - (lo + l))) (lo + j)
      rw [kb, kb]
      repeat' split
      all_goals first
        | (exfalso; omega)
        | exact Int.le_refl _
        | (rw [show lo + i - 1 = lo + (i - 1) by omega, show lo + j - 1 = lo + (j - 1) by omega]; exact hu' _ _ (by omega) (by omega))
        | (rw [show lo + j - 1 = lo + (j - 1) by omega]; exact Int.le_of_lt (q5 _ (by omega) (by omega)))
        | (rw [show lo + j - 1 = lo + (j - 1) by omega]; exact hu' _ _ (by omega) (by omega))
        | exact q4 _ (by omega)
        | exact hu' _ _ (by omega) (by omega)
end
end Srt

namespace Srt
open PySem PyProof.Rows

noncomputable def olderOnes (pw : Nat) : StateT SortSt Sem (ForInStep (Option Unit × Unit)) := do
  let st ← get
  match (if (pendingOf st).size > 1 then (pendingOf st)[(pendingOf st).size - 2]? else none) with
  | some (_, _, older) => if older ≤ pw then pure (.done (none, ())) else do
      let b ← mergeAt' ((pendingOf st).size - 2)
      if !b then pure (.done (some (), ())) else pure (.yield (none, ()))
  | _ => pure (.done (none, ()))
noncomputable def noted (sz lo n : Nat) : StateT SortSt Sem (ForInStep (Option Unit × Nat)) := do
  let st ← get
  match (pendingOf st).back? with
  | some (s1, n1, _) => do
    let c ← forIn [0:sz] ((none, ()) : Option Unit × Unit) fun _ _ => olderOnes (power' sz (2 * s1 + n1) (2 * s1 + n1 + n1 + n) sz)
    match c.1 with
    | some r => pure (.done (some r, lo))
    | none => do
      modify fun s => setPending s ((pendingOf s).modify ((pendingOf s).size - 1) fun x => (x.1, x.2.1, power' sz (2 * s1 + n1) (2 * s1 + n1 + n1 + n) sz))
      modify fun s => setPending s ((pendingOf s).push (lo, n, 0))
      pure (.yield (none, lo + n))
  | _ => do
    modify fun s => setPending s ((pendingOf s).push (lo, n, 0))
    pure (.yield (none, lo + n))
noncomputable def runStep (sz mr lo : Nat) : StateT SortSt Sem (ForInStep (Option Unit × Nat)) :=
  if lo ≥ sz then pure (.done (none, lo)) else do
    match ← countRun' lo (sz - lo) with
    | some found =>
      if found < mr then do
        liftM (rule "list.sort.binary-insertion")
        let b ← binarySort' lo (min (sz - lo) mr) found
        if !b then pure (.done (some (), lo)) else noted sz lo (min (sz - lo) mr)
      else noted sz lo found
    | _ => pure (.done (some (), lo))
noncomputable def whichTwo (p : Array (Nat × Nat × Nat)) : Nat :=
  if Option.any (fun x => decide (x < p[p.size - 2 + 1]?.elim 0 fun x => x.2.1)) (if p.size - 2 > 0 then p[p.size - 2 - 1]?.map (fun x => x.2.1) else none) = true then p.size - 2 - 1 else p.size - 2
noncomputable def lastStep : StateT SortSt Sem (ForInStep (Option Unit × Unit)) := do
  let st ← get
  if (pendingOf st).size ≤ 1 then pure (.done (none, ())) else do
    let b ← mergeAt' (whichTwo (pendingOf st))
    if !b then pure (.done (some (), ())) else pure (.yield (none, ()))
theorem sortRuns_parts : sortRuns' = (do
    let st ← get
    let c ← forIn [0:(arrOf st).size] ((none, 0) : Option Unit × Nat) fun _ c => runStep (arrOf st).size (minRun' (arrOf st).size (arrOf st).size 0) c.2
    match c.1 with
    | some r => pure r
    | none => do
      let d ← forIn [0:(arrOf st).size] ((none, ()) : Option Unit × Unit) fun _ _ => lastStep
      match d.1 with
      | some r => pure r
      | none => pure ()) := by
  kernel_rfl
theorem wpS_set {σ : Type} {M : Model} {A : Around} {E : Value → Shared → Prop} {s : Shared} {x : σ} {Q : PUnit → σ → Prop} {st : σ} (h : Q ⟨⟩ x) : wpS M A E s (set x : StateT σ Sem PUnit) Q st := by
  unfold wpS; rw [StateT.run_set]; exact wpAny_pure ⟨rfl, h⟩

section
variable {prog : Program} {w : World} {A : Around} {E : Value → Shared → Prop} {s : Shared} {a₀ : Array Keyed}
structure Fst (a₀ : Array Keyed) (n : Nat) (st : SortSt) : Prop where
  perm : (arrOf st).Perm a₀
  kind : kindOf st = oneType'
  failed : failedOf st = none
  pend : pendingOf st = #[(0, n, 0)]
  up : SortedTo (arrOf st) n
structure Snd (a₀ : Array Keyed) (n pw : Nat) (st : SortSt) : Prop where
  perm : (arrOf st).Perm a₀
  kind : kindOf st = oneType'
  failed : failedOf st = none
  pend : pendingOf st = #[(0, n, pw), (n, a₀.size - n, 0)]
  up : SortedTo (arrOf st) n
  up2 : ∀ i j, n ≤ i → i ≤ j → j < a₀.size → K (arrOf st) i ≤ K (arrOf st) j
theorem wpS_noted1 {st : SortSt} {sz n : Nat} {Q : ForInStep (Option Unit × Nat) → SortSt → Prop} (hB : SBase a₀ st) (hs : SortedTo (arrOf st) n) (h : ∀ st', Fst a₀ n st' → Q (.yield (none, n)) st') :
    wpS (model prog w) A E s (noted sz 0 n) Q st := by
  unfold noted
  refine wpS_bind (wpS_get ?_)
  have hb : (pendingOf st).back? = none := by rw [hB.pend]; rfl
  rw [hb]
  dsimp only
  refine wpS_bind (wpS_modify (wpS_pure ?_))
  rw [Nat.zero_add]
  exact h _ ⟨hB.perm, hB.kind, hB.failed, by show (pendingOf st).push _ = _; rw [hB.pend]; rfl, hs⟩
theorem wpS_noted2 {st : SortSt} {sz n m : Nat} {f : Nat → Int} {Q : ForInStep (Option Unit × Nat) → SortSt → Prop} (hB : SB a₀ n #[(0, n, 0)] f st) (hs : SortedTo (arrOf st) n) (hu : Up n (arrOf st) m) (hm : m = a₀.size - n) (hn : n ≤ a₀.size)
    (h : ∀ pw st', Snd a₀ n pw st' → Q (.yield (none, a₀.size)) st') :
    wpS (model prog w) A E s (noted sz n m) Q st := by
  unfold noted
  refine wpS_bind (wpS_get ?_)
  have hb : (pendingOf st).back? = some (0, n, 0) := by rw [hB.pend]; rfl
  rw [hb]
  dsimp only
  generalize power' sz (2 * 0 + n) (2 * 0 + n + n + m) sz = pw
  refine wpS_bind (wpS_mono (wpS_forRange (I := fun _ c st' => st' = st ∧ c = (none, ())) (Q := fun c st' => st' = st ∧ c = (none, ())) ?_ (fun _ _ hh => hh) ⟨rfl, rfl⟩) ?_)
  · rintro x c st' _ _ ⟨rfl, rfl⟩
    unfold olderOnes
    refine wpS_bind (wpS_get ?_)
    have e : (if (pendingOf st').size > 1 then (pendingOf st')[(pendingOf st').size - 2]? else none) = none := by
      rw [if_neg]
      rw [hB.pend]; simp
    rw [e]
    exact wpS_pure ⟨rfl, rfl⟩
  · rintro c st' ⟨rfl, rfl⟩
    dsimp only
    refine wpS_bind (wpS_modify (wpS_bind (wpS_modify (wpS_pure ?_))))
    rw [show n + m = a₀.size by omega]
    refine h pw _ ⟨hB.perm, hB.kind, hB.failed, ?_, hs, fun i j h1 h2 h3 => ?_⟩
    · show ((pendingOf st').modify ((pendingOf st').size - 1) _).push _ = _
      rw [hB.pend, hm]
      rfl
    · have := hu (i - n) (j - n) (by omega) (by omega)
      rw [show n + (i - n) = i by omega, show n + (j - n) = j by omega] at this
      exact this
theorem wpS_merge2 {st : SortSt} {n pw : Nat} {Q : Bool → SortSt → Prop} (h0 : IntKeys a₀) (h1 : 1 ≤ n) (h2 : n < a₀.size) (hS : Snd a₀ n pw st)
    (h : ∀ st', pendingOf st' = #[(0, a₀.size, pw)] → failedOf st' = none → (arrOf st').Perm a₀ → SortedTo (arrOf st') a₀.size → Q true st') :
    wpS (model prog w) A E s (mergeAt' 0) Q st := by
  rw [mergeAt_eq]
  refine wpS_bind (wpS_get ?_)
  have e1 : (pendingOf st)[0]? = some (0, n, pw) := by rw [hS.pend]; rfl
  have e2 : (pendingOf st)[0 + 1]? = some (n, a₀.size - n, 0) := by rw [hS.pend]; rfl
  have hz : (arrOf st).size = a₀.size := hS.perm.size_eq
  rw [e1, e2]
  dsimp only
  refine wpS_bind (wpS_set ?_)
  have ep : ((pendingOf st).setIfInBounds 0 (0, n + (a₀.size - n), pw)).eraseIdxIfInBounds (0 + 1) = #[(0, a₀.size, pw)] := by
    rw [hS.pend, show n + (a₀.size - n) = a₀.size by omega]
    apply Array.ext'
    simp [Array.eraseIdxIfInBounds]
  rw [ep, ← hz]
  refine wpS_twoRuns (st := setPending st #[(0, (arrOf st).size, pw)]) (a := arrOf st) hS.kind hS.failed rfl (allInt_perm h0 hS.perm) h1 (by omega) hS.up (by rw [hz]; exact hS.up2) fun st' p1 p2 p3 p4 => h st' ?_ p2 (p3.trans hS.perm) (by rw [← hz]; exact p4)
  rw [p1, ← hz]
theorem wpS_sortRuns64 {st : SortSt} {Q : Unit → SortSt → Prop} (h0 : IntKeys a₀) (hB : SBase a₀ st) (h64 : a₀.size = 64)
    (h : ∀ st', (arrOf st').Perm a₀ → failedOf st' = none → SortedTo (arrOf st') a₀.size → Q () st') : wpS (model prog w) A E s sortRuns' Q st := by
  rw [sortRuns_parts]
  refine wpS_bind (wpS_get ?_)
  have hs := hB.size
  rw [h64] at hs
  have hmr : minRun' 64 64 0 = 32 := rfl
  simp only [hs, hmr]
  refine wpS_bind (wpS_mono (wpS_forRange
    (I := fun x c st' => (x = 0 ∧ c = (none, 0) ∧ SBase a₀ st') ∨ (x = 1 ∧ ∃ n, 32 ≤ n ∧ n ≤ 64 ∧ c = (none, n) ∧ Fst a₀ n st') ∨ (2 ≤ x ∧ c = (none, 64) ∧ ∃ n pw, 32 ≤ n ∧ n < 64 ∧ Snd a₀ n pw st'))
    (Q := fun c st' => c = (none, 64) ∧ (Fst a₀ 64 st' ∨ ∃ n pw, 32 ≤ n ∧ n < 64 ∧ Snd a₀ n pw st')) ?step ?fin (.inl ⟨rfl, rfl, hB⟩)) ?post)
  case fin =>
    rintro c st' (⟨hx, _⟩ | ⟨hx, _⟩ | ⟨_, hc, hD⟩)
    · omega
    · omega
    · exact ⟨hc, .inr hD⟩
  case step =>
    rintro x c st' _ hx (⟨rfl, rfl, hB'⟩ | ⟨rfl, n, hn1, hn2, rfl, hF⟩ | ⟨hx2, rfl, hD⟩)
    · unfold runStep
      rw [if_neg (by omega)]
      refine wpS_bind (wpS_countRun h0 (by omega) (by omega) hB' fun m st2 hB2 hm1 hm2 hs2 => ?_)
      dsimp only
      by_cases hlt : m < 32
      · rw [if_pos hlt]
        refine wpS_bind (wpS_lift (wpAny_rule ⟨rfl, ?_⟩))
        rw [show min (64 - 0) 32 = 32 by omega]
        refine wpS_bind (wpS_binarySort h0 (by omega) (by omega) hB2 hs2 fun st3 hB3 hs3 => ?_)
        simp only [Bool.not_true, Bool.false_eq_true, if_false]
        exact wpS_noted1 hB3 hs3 fun st4 hF => .inr (.inl ⟨by simp, 32, by omega, by omega, rfl, hF⟩)
      · rw [if_neg hlt]
        exact wpS_noted1 hB2 hs2 fun st4 hF => .inr (.inl ⟨rfl, m, by omega, by omega, rfl, hF⟩)
    · unfold runStep
      by_cases hge : n ≥ 64
      · rw [if_pos hge]
        have : n = 64 := by omega
        subst this
        exact wpS_pure ⟨rfl, .inl hF⟩
      · rw [if_neg hge]
        have hB1 : SB a₀ n #[(0, n, 0)] (K (arrOf st')) st' := ⟨hF.perm, hF.kind, hF.failed, hF.pend, fun i _ => rfl⟩
        have low : ∀ st2, SB a₀ n #[(0, n, 0)] (K (arrOf st')) st2 → SortedTo (arrOf st2) n := fun st2 q i j hij hj => by
          rw [q.low i (by omega), q.low j hj]; exact hF.up i j hij hj
        refine wpS_bind (wpS_countRunO h0 (by omega) (by omega) hB1 fun m st2 hB2 hm1 hm2 hs2 => ?_)
        dsimp only
        by_cases hlt : m < 32
        · rw [if_pos hlt]
          refine wpS_bind (wpS_lift (wpAny_rule ⟨rfl, ?_⟩))
          rw [show min (64 - n) 32 = 64 - n by omega]
          refine wpS_bind (wpS_binarySortO h0 (by omega) hm2 hB2 hs2 fun st3 hB3 hs3 => ?_)
          simp only [Bool.not_true, Bool.false_eq_true, if_false]
          exact wpS_noted2 hB3 (low _ hB3) hs3 (by omega) (by omega) fun pw st4 hS => .inr (.inr ⟨by omega, by rw [h64], n, pw, hn1, by omega, hS⟩)
        · rw [if_neg hlt]
          exact wpS_noted2 hB2 (low _ hB2) hs2 (by omega) (by omega) fun pw st4 hS => .inr (.inr ⟨by omega, by rw [h64], n, pw, hn1, by omega, hS⟩)
    · unfold runStep
      rw [if_pos (by dsimp only; omega)]
      exact wpS_pure ⟨rfl, .inr hD⟩
  case post =>
    rintro c st' ⟨rfl, hD⟩
    dsimp only
    refine wpS_bind (wpS_mono (wpS_forRange (I := fun x c st'' => c = (none, ()) ∧ ((x = 0 ∧ st'' = st') ∨ (1 ≤ x ∧ (pendingOf st'').size ≤ 1 ∧ (arrOf st'').Perm a₀ ∧ failedOf st'' = none ∧ SortedTo (arrOf st'') a₀.size)))
      (Q := fun c st'' => c = (none, ()) ∧ (arrOf st'').Perm a₀ ∧ failedOf st'' = none ∧ SortedTo (arrOf st'') a₀.size) ?step2 ?fin2 ⟨rfl, .inl ⟨rfl, rfl⟩⟩) ?post2)
    case fin2 =>
      rintro c st'' ⟨hc, ⟨hx, _⟩ | ⟨_, _, hh⟩⟩
      · omega
      · exact ⟨hc, hh⟩
    case step2 =>
      rintro x c st'' _ _ ⟨rfl, ⟨rfl, rfl⟩ | ⟨_, hz, hh⟩⟩
      · unfold lastStep
        refine wpS_bind (wpS_get ?_)
        rcases hD with hF | ⟨n, pw, hn1, hn2, hS⟩
        · rw [if_pos (by rw [hF.pend]; exact Nat.le_refl 1)]
          exact wpS_pure ⟨rfl, hF.perm, hF.failed, by rw [h64]; exact hF.up⟩
        · rw [if_neg (by rw [hS.pend]; simp)]
          have e : whichTwo (pendingOf st'') = 0 := by rw [hS.pend]; rfl
          rw [e]
          refine wpS_bind (wpS_merge2 h0 (by omega) (by omega) hS fun st3 p1 p2 p3 p4 => ?_)
          simp only [Bool.not_true, Bool.false_eq_true, if_false]
          exact wpS_pure ⟨rfl, .inr ⟨by omega, by rw [p1]; exact Nat.le_refl 1, p3, p2, p4⟩⟩
      · unfold lastStep
        refine wpS_bind (wpS_get ?_)
        rw [if_pos hz]
        exact wpS_pure ⟨rfl, hh⟩
    case post2 =>
      rintro c st'' ⟨rfl, h1, h2, h3⟩
      exact wpS_pure (h _ h1 h2 h3)
end
end Srt

namespace Srt
open PySem PyProof.Rows
section
variable {prog : Program} {w : World} {A : Around} {E : Value → Shared → Prop} {s : Shared}
theorem wpS_sortRuns_all {a₀ : Array Keyed} {st : SortSt} {Q : Unit → SortSt → Prop} (h0 : IntKeys a₀) (hB : SBase a₀ st) (h2 : 2 ≤ a₀.size) (h64 : a₀.size ≤ 64)
    (h : ∀ st', (arrOf st').Perm a₀ → failedOf st' = none → SortedTo (arrOf st') a₀.size → Q () st') : wpS (model prog w) A E s sortRuns' Q st := by
  rcases Nat.lt_or_ge a₀.size 64 with hlt | hge
  · exact wpS_sortRuns h0 hB h2 hlt h
  · exact wpS_sortRuns64 h0 hB (by omega) h
theorem sort_tree {a : Addr} {vs : List Value} {ns : List Int} {n : Nat} {P : Fin → Shared → Prop} (ho : s.heap.get? a = some (seqObj "list" vs.toArray n)) (hI : IntsAre vs ns) (h64 : vs.length ≤ 64)
    (h : ∀ (out : Array Value) (ns' : List Int), IntsAre out.toList ns' → ns'.Perm ns → ns'.Pairwise (· ≤ ·) → P (.done (.ret .none)) { s with heap := sortedHeap s.heap a vs out }) :
    wpAny (model prog w) A (Builtin.«list.sort» ⟨[.ref a], []⟩) P E s := by
  by_cases hlt : vs.length < 64
  · exact list_sort_tree ho hI hlt h
  have hl : vs.length = 64 := by omega
  have la : a < s.heap.objs.size := Heap.lt_size ho
  have e1 := get?_update_seq ho (fun _ => #[])
  have e6 : (((s.heap.update a (Obj.mapSeq fun _ => #[])).push (seqObj "tuple" vs.toArray 0)).push (seqObj "list" #[] 0)).get? a = some (seqObj "list" #[] (if (#[] : Array Value).size == vs.toArray.size then n else n + 1)) := by
    rw [Heap.get?_push_ne _ _ _ (by rw [size_push', Heap.size_update]; exact Nat.ne_of_lt (Nat.lt_succ_of_lt la)), Heap.get?_push_ne _ _ _ (by rw [Heap.size_update]; exact Nat.ne_of_lt la)]
    exact e1
  have kk : keyKind' vs.toArray = pure oneType' := by
    match vs, hl with
    | v₁ :: v₂ :: rest, _ => exact keyKind_ints hI
  have n2 : ¬ vs.toArray.size < 2 := by simp; omega
  rw [list_sort_plain]
  refine wpAny_bind (listItems_at ho rfl (wpAny_bind (listUpdate_at ho rfl (wpAny_bind (seqEpoch_at e1 rfl (wpAny_bind (wpAny_newTuple (wpAny_bind (wpAny_newList (wpAny_holding ?_)))))) ))))
  show wpAny (model prog w) A _ P E { s with heap := ((s.heap.update a (Obj.mapSeq fun _ => #[])).push (seqObj "tuple" vs.toArray 0)).push (seqObj "list" #[] 0) }
  dsimp only
  rw [if_neg n2, if_neg n2, kk]
  refine wpAny_bind (wpAny_pure (wpAny_bind (wpAny_mono (wpS_sortRuns_all (a₀ := pairsOf vs) (st := SortSt.mk' oneType' (vs.toArray.zip vs.toArray) #[] 7 none)
    (Q := fun _ st' => (arrOf st').Perm (pairsOf vs) ∧ failedOf st' = none ∧ SortedTo (arrOf st') (pairsOf vs).size)
    hI.intKeys ⟨Array.Perm.refl _, rfl, rfl, rfl⟩ (by rw [pairsOf_size]; omega) (by rw [pairsOf_size]; omega) fun st' a1 a2 a3 => ⟨a1, a2, a3⟩) ?_ fun _ _ e => e)))
  rintro ⟨⟨⟩, st'⟩ s' ⟨rfl, hp, hf, hs⟩
  dsimp only
  obtain ⟨ns', g1, g2, g3⟩ := sorted_out hI hp hs
  have hz : ((arrOf st').map (·.2)).size = 64 := by rw [Array.size_map, hp.size_eq, pairsOf_size, hl]
  refine wpAny_bind (seqEpoch_at e6 rfl (wpAny_bind (listUpdate_at e6 rfl ?_ (hsz2 := by show ((arrOf st').map (·.2)).size ≤ _; rw [hz, sizeLine_eq]; omega))))
  rw [hf]
  simp only [bne_self_eq_false, Bool.false_eq_true, if_false]
  exact wpAny_pure (h _ ns' g1 g2 g3)
theorem collect_seq {l : Addr} {o : Obj} {T : String} {n : Nat} {vs : List Value} {Q : List Value → Shared → Prop} (ho : s.heap.get? l = some o) (hc : o.cls = .type T) (hT : T = "list" ∨ T = "tuple") (hd : o.data = .seq vs.toArray n) (hz : vs.length ≤ 64)
    (h : Q vs { s with heap := (s.heap.push (seqObj "list" #[] 0)).update s.heap.objs.size (Obj.mapSeq (· ++ vs.toArray)) }) :
    wpAny (model prog w) A (collect (.ref l)) Q E s := by
  unfold collect
  refine wpAny_bind (wpAny_runValue (codeAny_builtin entry_proto_collect' ?_))
  show wpAny _ _ (do again (.builtin "list.__iadd__" ⟨[← newList [], .ref l], []⟩)) _ _ s
  refine wpAny_bind (wpAny_newList (wpAny_pure ⟨Code.quiet_builtin _ (by decide +kernel), codeAny_builtin entry_list_iadd' ?_⟩))
  show wpAny _ _ (Builtin.List.listExtendWith (.ref s.heap.objs.size) (.ref l) (.ref s.heap.objs.size)) _ _ { s with heap := s.heap.push (seqObj "list" #[] 0) }
  unfold Builtin.List.listExtendWith
  have ho' : (s.heap.push (seqObj "list" #[] 0)).get? l = some o := Heap.get?_push_of_some _ ho
  refine wpAny_bind (wpAny_typeOf (T := T) ⟨o, ho', hc⟩ ?_)
  have b1 : (Value.type "list" == Value.type "list") = true := rfl
  have b2 : (Value.type "tuple" == Value.type "tuple") = true := rfl
  rw [if_pos (by rcases hT with rfl | rfl <;> simp [b1, b2])]
  have hne : ¬ ((!(#[] : Array Value).isEmpty && Builtin.List.listTooLong ((#[] : Array Value).size + vs.toArray.size)) = true) := by simp
  refine wpAny_bind (listItems_at ho' hd (wpAny_bind (listItems_at (xs := #[]) (n := 0) (Heap.get?_push_size _ rfl) rfl ?_)))
  rw [if_neg hne]
  refine wpAny_bind (listUpdate_at (xs := #[]) (n := 0) (Heap.get?_push_size _ rfl) rfl (wpAny_pure ?_) (Nat.zero_le _) (by show (#[] ++ vs.toArray).size ≤ sizeLine + 1; simp only [Array.size_append, List.size_toArray, List.length_nil, sizeLine_eq]; omega))
  show wpAny (model prog w) A (do
      let o ← load s.heap.objs.size
      match o.data with
      | .seq xs _ => pure xs.toList
      | _ => unsupported "internal:collect") Q E { s with heap := (s.heap.push (seqObj "list" #[] 0)).update s.heap.objs.size (Obj.mapSeq (· ++ vs.toArray)) }
  refine wpAny_bind (wpAny_load (get?_update_seq (Heap.get?_push_size _ rfl) _) ?_)
  have ev : ((#[] : Array Value) ++ vs.toArray).toList = vs := by simp
  show wpAny _ _ (pure ((#[] : Array Value) ++ vs.toArray).toList) Q E _
  rw [ev]
  exact wpAny_pure h
theorem sorted_seq {l : Addr} {o : Obj} {T : String} {n : Nat} {vs : List Value} {ns : List Int} {Q : Value → Shared → Prop} (ho : s.heap.get? l = some o) (hc : o.cls = .type T) (hT : T = "list" ∨ T = "tuple") (hd : o.data = .seq vs.toArray n) (hI : IntsAre vs ns) (hz : vs.length ≤ 64)
    (h : ∀ (h' : Heap) (vs' : List Value) (ns' : List Int) (e : Nat), (∀ b u, s.heap.get? b = some u → h'.get? b = some u) → h'.get? (s.heap.objs.size + 1) = some (seqObj "list" vs'.toArray e) →
      IntsAre vs' ns' → ns'.Perm ns → ns'.Pairwise (· ≤ ·) → Q (.ref (s.heap.objs.size + 1)) { s with heap := h' }) :
    wpAny (model prog w) A (call (.builtin "sorted") [.ref l]) Q E s := by
  refine Calls.call_function_entry kind_sorted plain_sorted entry_sorted (args_sorted1 _) ?_
  unfold Builtin.«sorted»
  refine wpAny_bind (m := checkCount "sorted" 1 1 _) (wpAny_pure (wpAny_bind (collect_seq ho hc hT hd hz (wpAny_bind (wpAny_newList ?_)))))
  have hsz : ((s.heap.push (seqObj "list" #[] 0)).update s.heap.objs.size (Obj.mapSeq (· ++ vs.toArray))).objs.size = s.heap.objs.size + 1 := by
    rw [Heap.size_update, size_push']
  have hoL : (((s.heap.push (seqObj "list" #[] 0)).update s.heap.objs.size (Obj.mapSeq (· ++ vs.toArray))).push (seqObj "list" vs.toArray 0)).get? (s.heap.objs.size + 1) = some (seqObj "list" vs.toArray 0) := by
    rw [← hsz]; exact Heap.get?_push_size _ rfl
  show wpAny _ _ _ _ _ { s with heap := ((s.heap.push (seqObj "list" #[] 0)).update s.heap.objs.size (Obj.mapSeq (· ++ vs.toArray))).push (seqObj "list" vs.toArray 0) }
  rw [hsz]
  refine wpAny_bind (wpAny_holding (wpAny_call_entry slot_list_sort ⟨_, hoL, rfl⟩ entry_list_sort (sort_tree hoL hI hz fun out ns' a1 a2 a3 => ⟨_, rfl, wpAny_pure ⟨_, rfl, ?_⟩⟩) (args_list_sort _)))
  obtain ⟨e, he⟩ := sortedAll_at s.heap vs out
  exact h _ out.toList ns' e (fun _ _ => sortedAll_old) he a1 a2 a3
end
end Srt

namespace L2
open PySem PySem.Spec PyProof.Rows
section
variable {X : Cx}
theorem ints_vals : ∀ {ns : List Int} {us : List Value}, IntsAre us ns → Vals (ns.map V.int) us
  | _, _, .nil => .nil
  | _, _, .cons n t h => .cons ⟨t, rfl⟩ (ints_vals h)
noncomputable def rSorted (K : PySem.W.Frag) : List V → Hp → VK → Prop := fun xs H Q => ∃ (a : Addr) (ns : List Int), xs = [.ref a] ∧ (SqL K H a (ns.map V.int) ∨ SqT K H a (ns.map V.int)) ∧ ns.length ≤ 64 ∧
  ∀ (p : Addr) (ns' : List Int), H p = none → ns'.Perm ns → ns'.Pairwise (· ≤ ·) → Q (.ref p) (upd H p (.lst (ns'.map V.int)))
theorem call_sorted : CallR X (.builtin "sorted") (rSorted X.K) := by
  intro pins s σ H xs us Q I r h
  obtain ⟨a, ns, rfl, hq, hz, q⟩ := h
  obtain ⟨u, rfl, ru⟩ := r.one
  cases ru
  have go : ∀ (o : Obj) (T : String) (n : Nat) (its : List Value), s.heap.get? a = some o → o.cls = .type T → (T = "list" ∨ T = "tuple") → o.data = .seq its.toArray n → Vals (ns.map V.int) its →
      wpAny (model X.prog X.w) X.A (call (.builtin "sorted") [.ref a]) (EP X pins σ Q) X.xe s := by
    intro o T n its ho hc hT hd rv
    have hi := vals_intsP rv
    have hl : its.length = ns.length := by have := rv.length; simp at this; omega
    refine Srt.sorted_seq ho hc hT hd hi (by omega) fun h' vs' ns' e hk he hi' hp hs => ?_
    have hl' := (ints_vals hi').length
    have hle : s.heap.objs.size ≤ s.heap.objs.size + 1 := Nat.le_succ _
    refine ⟨.ref (s.heap.objs.size + 1), _, I.laid hk hle ?_, rfl, q _ ns' (I.hok.fresh hle) hp hs⟩
    refine ⟨?_, vs', e, ints_vals hi', he⟩
    have := hp.length_eq
    simp only [List.length_map]
    rw [sizeLine_eq]
    omega
  rcases hq with hq | hq
  · obtain ⟨its, rv, ⟨o, n, ho, hc, hd, hs⟩, _⟩ := I.list hq
    exact go o "list" n its ho hc (.inl rfl) hs rv
  · obtain ⟨its, rv, ht, _⟩ := I.tuple hq
    obtain ⟨o, ho, hc, n, hd⟩ := ht
    exact go o "tuple" n its ho hc (.inr rfl) hd rv
theorem k_sorted {K : PySem.W.Frag} (hK : X.K = K := by rfl) : CallR X (.builtin "sorted") (rSorted K) := hK ▸ call_sorted
end
end L2

set_option linter.all false
set_option maxRecDepth 100000
namespace PySem.SeqAt
open PySem PySem.Spec PyProof.Rows
theorem wp_range {M : Model} {A : Around} {E : Value → Shared → Prop} {s : Shared} {β : Type} {a b : Nat} {f : Nat → β → Sem (ForInStep β)} (I : Nat → β → Shared → Prop) {Q : β → Shared → Prop} {c : β}
    (turn : ∀ i c s, a ≤ i → i < b → I i c s → wpAny M A (f i c) (fun r s' => match r with | .done c' => Q c' s' | .yield c' => I (i + 1) c' s') E s)
    (fin : ∀ c s, I (max a b) c s → Q c s) (h : I a c s) : wpAny M A (forIn [a:b] c f) Q E s := by
  rw [Std.Legacy.Range.forIn_eq_forIn_range']
  have hsz : ([a:b] : Std.Legacy.Range).size = b - a := by simp [Std.Legacy.Range.size]
  show wpAny M A (forIn (List.range' a ([a:b] : Std.Legacy.Range).size 1) c f) Q E s
  rw [hsz]
  refine wpAny_forIn_list f (fun l c s => ∃ i, a ≤ i ∧ i ≤ max a b ∧ l = List.range' i (max a b - i) 1 ∧ I i c s) Q ?_ ?_ _ c ⟨a, Nat.le_refl _, by omega, by congr 1; omega, h⟩
  · rintro x rest c s ⟨i, h1, h2, h3, h4⟩
    have hlt : i < max a b := by
      rcases Nat.lt_or_ge i (max a b) with z | z
      · exact z
      · rw [show max a b - i = 0 by omega] at h3; simp at h3
    obtain ⟨n, hn⟩ : ∃ n, max a b - i = n + 1 := ⟨max a b - i - 1, by omega⟩
    rw [hn, List.range'_succ] at h3
    obtain ⟨rfl, rfl⟩ := List.cons.inj h3
    refine wpAny_mono (turn x c s h1 (by omega) h4) (fun r s' q => ?_) fun _ _ e => e
    cases r with
    | done c' => exact q
    | yield c' => exact ⟨x + 1, by omega, by omega, by congr 1; omega, q⟩
  · rintro c s ⟨i, h1, h2, h3, h4⟩
    have : i = max a b := by
      rcases Nat.lt_or_ge i (max a b) with z | z
      · obtain ⟨n, hn⟩ : ∃ n, max a b - i = n + 1 := ⟨max a b - i - 1, by omega⟩
        rw [hn, List.range'_succ] at h3; simp at h3
      · omega
    subst this; exact fin _ _ h4
theorem tuple_indexAt (l : Addr) (items : Array Value) (n : Nat) (dd : Option Addr) (sl : Array (Option Value)) (x : Value) (e : Value → Bool) (j : Nat) (hj : j < items.size) (hit : e items[j] = true)
    (hno : ∀ m (hm : m < items.size), m < j → e items[m] = false) :
    Meets (Builtin.«tuple.index» ⟨[.ref l, x], []⟩)
      (fun A R s => s.heap.get? l = some { cls := .type "tuple", dict := dd, data := .seq items n, slots := sl } ∧ (∀ y, y ∈ items → EqAt A.in1 s y x (e y)) ∧ R (.ok (.ret (.int j s.toks))) { s with toks := s.toks + 1 }) :=
  .of_wp fun prog w A R s h => by
    obtain ⟨hp, g, d, tk, os⟩ := s; obtain ⟨hl, he, h⟩ := h
    wp_walk using PySem.AutoSeq1.wpAny_loadPart' hl, wp_range (fun i c s' => c = (none, ()) ∧ s' = ⟨hp, g, d, tk, os⟩ ∧ i ≤ j)
    case turn =>
      rintro i c s' _ hi ⟨rfl, rfl, hij⟩
      have hz : i < items.size := by omega
      dsimp only
      rw [getElem?_pos items i hz]
      dsimp only
      refine wpAny_bind (he _ (Array.getElem_mem hz) prog w _ _ ?_)
      by_cases hq : i = j
      · subst hq
        rw [hit]
        wp_walk
        exact ⟨_, rfl, h⟩
      · rw [hno i hz (by omega)]
        wp_walk
        exact ⟨rfl, rfl, by omega⟩
    case fin =>
      rintro c s' ⟨rfl, rfl, hij⟩
      omega
    case h => exact ⟨rfl, rfl, by omega⟩
end PySem.SeqAt
namespace L2
open PySem PySem.Spec PyProof.Rows Bm
section
variable {X : Cx}
noncomputable def rIndexT (K : PySem.W.Frag) : V → List V → Hp → VK → Prop := fun x vs H Q => ∃ (l : Addr) (xs : List V) (y u : V) (j : Nat), x = .ref l ∧ vs = [y] ∧ SqT K H l xs ∧ flatV y = true ∧ xs.all flatV = true ∧ xs[j]? = some u ∧ eqV u y = true ∧
  (∀ (m : Nat) (u : V), m < j → xs[m]? = some u → eqV u y = false) ∧ Q (.int (j : Int)) H
theorem mt_indexT {K : PySem.W.Frag} (hK : X.K = K := by rfl) : MtR X "tuple.index" (rIndexT K) := by
  subst hK
  intro pins s σ H x vs v us Q I rx rv h
  obtain ⟨l, xs, y, u, j, rfl, rfl, hH, fy, fs, hj, hit, hno, q⟩ := h
  cases rx
  obtain ⟨uy, rfl, ry⟩ := Vals.one rv
  obtain ⟨its, r, ⟨⟨cls, dd, data, sl⟩, e, hc, n, hd⟩, z⟩ := I.tuple hH
  obtain rfl : cls = .type "tuple" := hc
  obtain rfl : data = .seq its.toArray n := hd
  have hl := r.length
  obtain ⟨ju, hju, rju⟩ := r.get hj
  have hjl : j < its.length := (List.getElem?_eq_some_iff.mp hju).1
  have eju : its[j] = ju := (List.getElem?_eq_some_iff.mp hju).2
  refine call_meets F.slot_tuple_index ⟨_, e, rfl⟩ F.entry_tuple_index (F.args_tuple_index_2 _ _)
    (SeqAt.tuple_indexAt l its.toArray n dd sl uy (eqU y) j (by simpa using hjl) ?_ ?_) ⟨e, fun w hw => mem_eqAt ry fy r fs w (by simpa using hw), ?_⟩
  · show eqU y its[j] = true
    rw [eju, eqU_of rju (flat_at fs hj)]
    exact hit
  · intro m hm hlt
    have hm' : m < xs.length := by rw [hl]; simpa using hm
    obtain ⟨mu, hmu, rmu⟩ := r.get (List.getElem?_eq_getElem hm')
    have emu : its[m]'(by simpa using hm) = mu := (List.getElem?_eq_some_iff.mp hmu).2
    show eqU y (its[m]'(by simpa using hm)) = false
    rw [emu, eqU_of rmu (flat_at fs (List.getElem?_eq_getElem hm'))]
    exact hno m _ hlt (List.getElem?_eq_getElem hm')
  · exact ⟨.int _, H, I.tok _, ⟨_, rfl⟩, q⟩
end
end L2

set_option linter.all false
set_option maxRecDepth 100000
namespace L2
open PySem PySem.Spec PyProof.Rows Bm
noncomputable abbrev evenP (ls : List Int) : Prop := ls.Perm (stayL ls.length)
noncomputable def evenB (ls : List Int) : Bool := decide (evenP ls)
theorem stay_len (w : Nat) : (stayL w).length = w := by simp [stayL]
theorem stay_sorted (w : Nat) : (stayL w).Pairwise (· ≤ ·) := by
  rw [stayL, List.pairwise_map]
  exact List.pairwise_lt_range.imp fun h => by omega
theorem even_sorted {ls ns : List Int} (hp : ns.Perm ls) (hs : ns.Pairwise (· ≤ ·)) : decide (ns = stayL ls.length) = evenB ls := by
  unfold evenB
  apply decide_eq_decide.mpr
  constructor
  · intro e
    rw [e] at hp
    exact hp.symm
  · intro e
    exact PySem.W.ksm_same (hp.trans e) hs (stay_sorted _)
theorem even_mem {ls : List Int} (h : evenP ls) {p : Nat} (hp : p < ls.length) : (p : Int) ∈ ls :=
  h.mem_iff.mpr (by rw [stayL, List.mem_map]; exact ⟨p, List.mem_range.mpr hp, rfl⟩)
theorem even_bound {ls : List Int} (h : evenP ls) {e : Int} (he : e ∈ ls) : 0 ≤ e ∧ e < (ls.length : Int) := by
  have := h.mem_iff.mp he
  rw [stayL, List.mem_map] at this
  obtain ⟨x, hx, rfl⟩ := this
  have := List.mem_range.mp hx
  omega
theorem stay_nodup (w : Nat) : (stayL w).Nodup := by
  rw [stayL, List.Nodup, List.pairwise_map]
  exact List.pairwise_lt_range.imp fun h => by omega
theorem even_nodup {ls : List Int} (h : evenP ls) : ls.Nodup := h.nodup_iff.mpr (stay_nodup _)
theorem even_ld {ls : List Int} (h : evenP ls) : Ld ls.length ls := ⟨rfl, fun e he => by have := even_bound h he; omega⟩
theorem idx_at {ls : List Int} {x : Int} (h : x ∈ ls) : ls.idxOf x < ls.length ∧ ls.getD (ls.idxOf x) 0 = x := by
  have h1 := List.idxOf_lt_length_of_mem h
  refine ⟨h1, ?_⟩
  rw [List.getD_eq_getElem?_getD, List.getElem?_eq_getElem h1]
  exact List.getElem_idxOf h1
theorem idx_nodup {ls : List Int} (h : ls.Nodup) {i : Nat} (hi : i < ls.length) : ls.idxOf (ls.getD i 0) = i := by
  have e : ls.getD i 0 = ls[i] := by rw [List.getD_eq_getElem?_getD, List.getElem?_eq_getElem hi]; rfl
  rw [e]
  have hm : ls[i] ∈ ls := List.getElem_mem hi
  have q := idx_at hm
  have e2 : ls[ls.idxOf ls[i]]'q.1 = ls[i] := List.getElem_idxOf q.1
  rcases Nat.lt_trichotomy (ls.idxOf ls[i]) i with z | z | z
  · exact absurd e2 (List.pairwise_iff_getElem.mp h _ _ q.1 hi z)
  · exact z
  · exact absurd e2.symm (List.pairwise_iff_getElem.mp h _ _ hi q.1 z)
theorem getD_map_range (ls : List Int) : ls = (List.range ls.length).map fun i => ls.getD i 0 := by
  apply List.ext_getElem?
  intro i
  by_cases hi : i < ls.length
  · rw [List.getElem?_map, List.getElem?_range hi, List.getElem?_eq_getElem hi]
    simp [List.getD_eq_getElem?_getD, List.getElem?_eq_getElem hi]
  · rw [List.getElem?_eq_none (by omega), List.getElem?_eq_none (by rw [List.length_map, List.length_range]; omega)]
theorem getD_mem' {ls : List Int} {k : Nat} (hk : k < ls.length) : ls.getD k 0 ∈ ls := by
  rw [List.getD_eq_getElem?_getD, List.getElem?_eq_getElem hk]; exact List.getElem_mem hk
theorem ones_bit (w k : Nat) : (2 ^ w - 1).testBit k = decide (k < w) := Nat.testBit_two_pow_sub_one w k
noncomputable def spIsEven : Sp := fun vs H Q _ => ∃ (a : Addr) (ls : List Int) (w : Nat), vs = [.ref a] ∧ H a = some (.tup (ls.map V.int)) ∧ Ld w ls ∧ w ≤ 64 ∧ ∀ H', Same H H' → Q (.bl (evenB ls)) H'
theorem tyT {K : PySem.W.Frag} {H : Hp} {p : Addr} {xs : List V} (h : H p = some (.tup xs)) : tyV K "tuple" (.ref p) H := .inr (.inl ⟨rfl, .inr ⟨xs, h⟩⟩)
theorem flat_ints (ls : List Int) : (ls.map V.int).all flatV = true := by
  rw [List.all_eq_true]
  intro x hx
  obtain ⟨z, _, rfl⟩ := List.mem_map.mp hx
  rfl
theorem eqV_ints (a b : Int) : eqV (.int a) (.int b) = decide (a = b) := by
  by_cases h : a = b
  · subst h; rw [decide_eq_true rfl]; exact beq_self_eq_true a
  · rw [decide_eq_false h]; exact beq_eq_false_iff_ne.mpr h
theorem s_indexT {K : PySem.W.Frag} {ls : List Int} {z : Int} {l : Addr} {H : Hp} {Q : VK} (hl : SqT K H l (ls.map V.int)) (hq : ls.idxOf z < ls.length ∧ ls.getD (ls.idxOf z) 0 = z) (h : Q (.int ((ls.idxOf z : Nat) : Int)) H) : rIndexT K (.ref l) [.int z] H Q := by
  refine ⟨l, _, .int z, .int z, ls.idxOf z, rfl, rfl, hl, rfl, flat_ints ls, ?_, by rw [eqV_ints, decide_eq_true rfl], fun m u hm hu => ?_, h⟩
  · have e := hq.2
    rw [List.getD_eq_getElem?_getD, List.getElem?_eq_getElem hq.1] at e
    rw [List.getElem?_map, List.getElem?_eq_getElem hq.1]
    have e : ls[ls.idxOf z] = z := e
    rw [e]; rfl
  · obtain ⟨x, hx, rfl⟩ := nth_map hu
    rw [eqV_ints]
    apply decide_eq_false
    rintro rfl
    have hml : m < ls.length := (List.getElem?_eq_some_iff.mp hx).1
    have := List.not_of_lt_findIdx (p := (· == x)) (xs := ls) (i := m) (by exact hm)
    rw [(List.getElem?_eq_some_iff.mp hx).2] at this
    simp at this
end L2

set_option linter.all false
set_option maxRecDepth 100000
namespace L2
open PySem PySem.Spec PyProof.Rows Bm
theorem ext_getD {a b : List Int} (hl : a.length = b.length) (h : ∀ p, p < a.length → a.getD p 0 = b.getD p 0) : a = b := by
  rw [getD_map_range a, getD_map_range b, hl]
  apply List.map_congr_left
  intro p hp
  exact h p (by rw [hl]; exact List.mem_range.mp hp)
theorem stay_getD {w p : Nat} (hp : p < w) : (stayL w).getD p 0 = (p : Int) := by
  rw [stayL, List.getD_eq_getElem?_getD, List.getElem?_map, List.getElem?_range hp]; rfl
theorem even_low {ls : List Int} (h : evenP ls) (hl : ∀ p, p < ls.length → ls.getD p 0 ≤ (p : Int)) : ls = stayL ls.length := by
  refine ext_getD (by rw [stay_len]) fun p hp => ?_
  rw [stay_getD hp]
  have nd := even_nodup h
  have key : ∀ n, ∀ p, p < n → p < ls.length → ls.getD p 0 = (p : Int) := by
    intro n
    induction n with
    | zero => intro p h1; omega
    | succ n ih =>
      intro p h1 h2
      by_cases c : p < n
      · exact ih p c h2
      · have : p = n := by omega
        subst this
        have hm := even_bound h (getD_mem' h2)
        have hle := hl p h2
        by_cases e : ls.getD p 0 = (p : Int)
        · exact e
        · exfalso
          obtain ⟨q, hq⟩ : ∃ q : Nat, ls.getD p 0 = (q : Int) := ⟨(ls.getD p 0).toNat, by omega⟩
          have hqp : q < p := by omega
          have e1 := ih q hqp (by omega)
          have i1 := idx_nodup nd h2
          have i2 := idx_nodup nd (show q < ls.length by omega)
          rw [hq] at i1
          rw [e1] at i2
          omega
  exact key (p + 1) p (by omega) hp
theorem even_high {ls : List Int} (h : evenP ls) (hl : ∀ p, p < ls.length → (p : Int) ≤ ls.getD p 0) : ls = stayL ls.length := by
  refine ext_getD (by rw [stay_len]) fun p hp => ?_
  rw [stay_getD hp]
  have nd := even_nodup h
  have key : ∀ n, ∀ p, p < ls.length → ls.length - p ≤ n → ls.getD p 0 = (p : Int) := by
    intro n
    induction n with
    | zero => intro p h1 h2; omega
    | succ n ih =>
      intro p h2 h1
      have hm := even_bound h (getD_mem' h2)
      have hle := hl p h2
      by_cases e : ls.getD p 0 = (p : Int)
      · exact e
      · exfalso
        obtain ⟨q, hq⟩ : ∃ q : Nat, ls.getD p 0 = (q : Int) := ⟨(ls.getD p 0).toNat, by omega⟩
        have hqp : p < q := by omega
        have e1 := ih q (by omega) (by omega)
        have i1 := idx_nodup nd h2
        have i2 := idx_nodup nd (show q < ls.length by omega)
        rw [hq] at i1
        rw [e1] at i2
        omega
  exact key (ls.length - p) p hp (Nat.le_refl _)
theorem Dd.led_len (w : Nat) (d : Dd) : (d.led w).length = w := by simp [Dd.led]
theorem Dd.led_getD {w p : Nat} (d : Dd) (hp : p < w) : (d.led w).getD p 0 = d.src w p := by
  rw [Dd.led, List.getD_eq_getElem?_getD, List.getElem?_map, List.getElem?_range hp]; rfl
noncomputable def Dd.flatE : Dd → Bool
  | .turn _ => false
  | .swap _ _ => false
  | _ => true
theorem even_flat {w : Nat} {d : Dd} (h : evenP (d.led w)) (ok : d.ok w) (hf : d.flatE = true) : d.led w = stayL w := by
  have el : (d.led w).length = w := d.led_len w
  have low : (∀ p, p < w → d.src w p ≤ (p : Int)) → d.led w = stayL w := fun hh => by
    have := even_low h (fun p hp => by rw [d.led_getD (by omega)]; exact hh p (by omega))
    rw [el] at this; exact this
  have high : (∀ p, p < w → (p : Int) ≤ d.src w p) → d.led w = stayL w := fun hh => by
    have := even_high h (fun p hp => by rw [d.led_getD (by omega)]; exact hh p (by omega))
    rw [el] at this; exact this
  have pos : ∀ p, p < w → 0 ≤ d.src w p := fun p hp => by
    rw [← d.led_getD hp]; exact (even_bound h (getD_mem' (by omega))).1
  cases d with
  | and m =>
    refine low fun p hp => ?_
    rw [show (Dd.and m).src w p = if m.testBit p then (p : Int) else -1 from rfl]; split <;> omega
  | or m =>
    refine low fun p hp => ?_
    rw [show (Dd.or m).src w p = if m.testBit p then -2 else (p : Int) from rfl]; split <;> omega
  | left n =>
    refine low fun p hp => ?_
    rw [show (Dd.left n).src w p = if n ≤ p then (p : Int) - n else -1 from rfl]; split <;> omega
  | right n =>
    refine high fun p hp => ?_
    have := pos p hp
    rw [show (Dd.right n).src w p = if p + n < w then (p : Int) + n else -1 from rfl] at this ⊢
    by_cases c : p + n < w
    · rw [if_pos c]; omega
    · rw [if_neg c] at this; omega
  | turn n => cases hf
  | swap m n => cases hf
  | gather m =>
    refine high fun p hp => ?_
    have := pos p hp
    rw [show (Dd.gather m).src w p = if p < (placesN m).length then ((placesN m).getD p 0 : Int) else -1 from rfl] at this ⊢
    by_cases c : p < (placesN m).length
    · rw [if_pos c]
      have e : p ≤ (placesN m).getD p 0 := plc_ge c
      omega
    · rw [if_neg c] at this
      omega
  | strew m =>
    refine low fun p hp => ?_
    rw [show (Dd.strew m).src w p = if m.testBit p then ((placesN m).idxOf p : Int) else -1 from rfl]
    by_cases c : m.testBit p = true
    · rw [if_pos c]
      have q := places_idx c
      have e : (placesN m).idxOf p ≤ (placesN m).getD ((placesN m).idxOf p) 0 := plc_ge q.1
      rw [q.2] at e
      omega
    · rw [if_neg c]; omega
  | copy m n =>
    have s : ∀ p, (Dd.copy m n).src w p = if inM m ((p : Int) - n) then (p : Int) - n else p := fun p => rfl
    by_cases hn : 0 ≤ n
    · exact low fun p hp => by rw [s]; split <;> omega
    · exact high fun p hp => by rw [s]; split <;> omega
noncomputable def undoD (w : Nat) : Dd → Dd
  | .turn n => .turn ((w - n) % w)
  | d => d
theorem undo_ok {w : Nat} {d : Dd} (ok : d.ok w) : (undoD w d).ok w := by
  cases d with
  | turn n =>
    have : n < w := ok
    exact Nat.mod_lt _ (by omega)
  | _ => exact ok
theorem undo_flat {w : Nat} {d : Dd} (hf : d.flatE = true) : undoD w d = d := by cases d <;> first | rfl | cases hf
theorem then_getD {ls ms : List Int} {p : Nat} (hp : p < ms.length) (h0 : 0 ≤ ms.getD p 0) : (thenL ls ms).getD p 0 = ls.getD (ms.getD p 0).toNat 0 := by
  have e : ms.getD p 0 = ms[p] := by rw [List.getD_eq_getElem?_getD, List.getElem?_eq_getElem hp]; rfl
  rw [e] at h0 ⊢
  have e2 : (thenL ls ms).getD p 0 = if 0 ≤ ms[p] then ls.getD ms[p].toNat 0 else ms[p] := by
    rw [thenL, List.getD_eq_getElem?_getD, List.getElem?_map, List.getElem?_eq_getElem hp]; rfl
  rw [e2, if_pos h0]
theorem then_len (ls ms : List Int) : (thenL ls ms).length = ms.length := by simp [thenL]
theorem turn_undone {w n m : Nat} (hn : n < w) (hm : m < w) (e : n + m = 0 ∨ n + m = w) : thenL ((Dd.turn n).led w) ((Dd.turn m).led w) = stayL w := by
  refine ext_getD (by rw [then_len, Dd.led_len, stay_len]) fun p hp => ?_
  rw [then_len, Dd.led_len] at hp
  rw [stay_getD hp]
  have s1 : (Dd.turn m).src w p = if m ≤ p then (p : Int) - m else (p : Int) - m + w := rfl
  have h0 : 0 ≤ ((Dd.turn m).led w).getD p 0 := by
    rw [Dd.led_getD _ hp, s1]; split <;> omega
  rw [then_getD (by rw [Dd.led_len]; exact hp) h0, Dd.led_getD _ hp, s1]
  have hq : (if m ≤ p then (p : Int) - m else (p : Int) - m + w).toNat < w := by split <;> omega
  rw [Dd.led_getD _ hq]
  generalize hqq : (if m ≤ p then (p : Int) - m else (p : Int) - m + w).toNat = q at hq
  have s2 : (Dd.turn n).src w q = if n ≤ q then (q : Int) - n else (q : Int) - n + w := rfl
  rw [s2]
  split at hqq <;> split <;> omega
theorem swap_undone {w m n : Nat} (ok : (Dd.swap m n).ok w) : thenL ((Dd.swap m n).led w) ((Dd.swap m n).led w) = stayL w := by
  obtain ⟨h1, h2, h3⟩ := ok
  have sr : ∀ p, (Dd.swap m n).src w p = if inM m ((p : Int) - n) then (p : Int) - n else if m.testBit p then (p : Int) + n else p := fun p => rfl
  refine ext_getD (by rw [then_len, Dd.led_len, stay_len]) fun p hp => ?_
  rw [then_len, Dd.led_len] at hp
  rw [stay_getD hp]
  have inm : ∀ q : Nat, inM m ((q : Int) - n) = true ↔ n ≤ q ∧ m.testBit (q - n) = true := fun q => by
    unfold inM
    rw [Bool.and_eq_true, decide_eq_true_iff]
    constructor
    · rintro ⟨a, b⟩
      refine ⟨by omega, ?_⟩
      rw [show q - n = ((q : Int) - n).toNat by omega]; exact b
    · rintro ⟨a, b⟩
      refine ⟨by omega, ?_⟩
      rw [show ((q : Int) - n).toNat = q - n by omega]; exact b
  have cases3 : ((Dd.swap m n).src w p = (p : Int) - n ∧ n ≤ p ∧ m.testBit (p - n) = true) ∨ ((Dd.swap m n).src w p = (p : Int) + n ∧ m.testBit p = true ∧ ¬ inM m ((p : Int) - n) = true) ∨ ((Dd.swap m n).src w p = (p : Int) ∧ m.testBit p = false ∧ ¬ inM m ((p : Int) - n) = true) := by
    rw [sr]
    by_cases c1 : inM m ((p : Int) - n) = true
    · rw [if_pos c1]; exact .inl ⟨rfl, (inm p).mp c1⟩
    · rw [if_neg c1]
      by_cases c2 : m.testBit p = true
      · rw [if_pos c2]; exact .inr (.inl ⟨rfl, c2, c1⟩)
      · rw [if_neg c2]; exact .inr (.inr ⟨rfl, by simpa using c2, c1⟩)
  have go : ∀ q : Nat, (Dd.swap m n).src w p = (q : Int) → q < w → (Dd.swap m n).src w q = (p : Int) → (thenL ((Dd.swap m n).led w) ((Dd.swap m n).led w)).getD p 0 = (p : Int) := fun q e1 hq e2 => by
    rw [then_getD (by rw [Dd.led_len]; exact hp) (by rw [Dd.led_getD _ hp, e1]; omega), Dd.led_getD _ hp, e1, Int.toNat_natCast, Dd.led_getD _ hq, e2]
  rcases cases3 with ⟨e, c1, c2⟩ | ⟨e, c1, c2⟩ | ⟨e, c1, c2⟩
  · refine go (p - n) (by rw [e]; omega) (by omega) ?_
    rw [sr, if_neg, if_pos c2]
    · omega
    · intro z
      have := (inm (p - n)).mp z
      have q := (h3 _ this.2).2
      rw [show p - n - n + n = p - n by omega] at q
      rw [c2] at q; cases q
  · have q := h3 p c1
    refine go (p + n) (by rw [e]; omega) q.1 ?_
    rw [sr, if_pos ((inm (p + n)).mpr ⟨by omega, by rw [show p + n - n = p by omega]; exact c1⟩)]
    omega
  · refine go p e hp e
theorem undo_then {w : Nat} {d : Dd} (ok : d.ok w) (he : evenP (d.led w)) : thenL (d.led w) ((undoD w d).led w) = stayL w ∧ thenL ((undoD w d).led w) (d.led w) = stayL w := by
  by_cases hf : d.flatE = true
  · rw [undo_flat hf, even_flat he ok hf, then_stayL (stay_ld w)]
    exact ⟨rfl, rfl⟩
  · cases d with
    | turn n =>
      have hn : n < w := ok
      have hm : (w - n) % w < w := Nat.mod_lt _ (by omega)
      have e : n + (w - n) % w = 0 ∨ n + (w - n) % w = w := by
        by_cases z : n = 0
        · subst z; rw [Nat.sub_zero, Nat.mod_self]; exact .inl rfl
        · rw [Nat.mod_eq_of_lt (by omega)]; exact .inr (by omega)
      exact ⟨turn_undone hn hm e, turn_undone hm hn (by omega)⟩
    | swap m n => exact ⟨swap_undone ok, swap_undone ok⟩
    | _ => exact absurd rfl hf
noncomputable def undoR (w : Nat) (ds : List Dd) : List Dd := (ds.map (undoD w)).reverse
theorem undoR_ok {w : Nat} {ds : List Dd} (h : ∀ d ∈ ds, d.ok w) : ∀ d ∈ undoR w ds, d.ok w := fun d hd => by
  rw [undoR, List.mem_reverse, List.mem_map] at hd
  obtain ⟨e, he, rfl⟩ := hd
  exact undo_ok (h e he)
theorem rowL_cons {w : Nat} {d : Dd} {ds : List Dd} (hd : d.ok w) (h : ∀ e ∈ ds, e.ok w) : rowL w (d :: ds) = thenL (d.led w) (rowL w ds) := by
  show ds.foldl (fun l d => thenL l (d.led w)) (thenL (stayL w) (d.led w)) = _
  rw [then_stayL (Dd.led_ld hd)]
  exact rowL_then ds _ h (Dd.led_ld hd)
theorem undo_row {w : Nat} : ∀ {ds : List Dd}, (∀ d ∈ ds, d.ok w) → (∀ d ∈ ds, evenP (d.led w)) → thenL (rowL w ds) (rowL w (undoR w ds)) = stayL w
  | [], _, _ => by show thenL (stayL w) (stayL w) = stayL w; exact then_stayL (stay_ld w)
  | d :: ds, h, he => by
    have hd := h d (by simp)
    have hds : ∀ e ∈ ds, e.ok w := fun e hx => h e (by simp [hx])
    have eu : undoR w (d :: ds) = undoR w ds ++ [undoD w d] := by simp [undoR]
    have ih := undo_row hds fun e hx => he e (by simp [hx])
    have l1 := row_ld hds
    have l2 := row_ld (undoR_ok hds)
    have l3 := Dd.led_ld (undo_ok hd)
    rw [eu, rowL_snoc, rowL_cons hd hds, then_assoc l1 (then_ld l2 l3), ← then_assoc l2 l3, ih, then_stayL l3]
    exact (undo_then hd (he d (by simp))).1
theorem even_two {w : Nat} {a b : List Int} (ha : Ld w a) (hb : Ld w b) (h1 : thenL a b = stayL w) (h2 : thenL b a = stayL w) : evenP a := by
  have pos : ∀ {x y : List Int}, Ld w x → Ld w y → thenL x y = stayL w → ∀ p, p < w → 0 ≤ y.getD p 0 ∧ (y.getD p 0).toNat < w ∧ x.getD (y.getD p 0).toNat 0 = (p : Int) := fun {x y} hx hy e p hp => by
    have hpl : p < y.length := by rw [hy.1]; exact hp
    have q := hy.2 _ (getD_mem' hpl)
    have ey : y.getD p 0 = y[p] := by rw [List.getD_eq_getElem?_getD, List.getElem?_eq_getElem hpl]; rfl
    have e2 : (thenL x y).getD p 0 = if 0 ≤ y[p] then x.getD y[p].toNat 0 else y[p] := by
      rw [thenL, List.getD_eq_getElem?_getD, List.getElem?_map, List.getElem?_eq_getElem hpl]; rfl
    rw [e, stay_getD hp] at e2
    rw [ey] at q ⊢
    by_cases c : 0 ≤ y[p]
    · rw [if_pos c] at e2
      exact ⟨c, by omega, e2.symm⟩
    · rw [if_neg c] at e2
      omega
  unfold evenP
  rw [ha.1]
  refine (List.perm_ext_iff_of_nodup ?_ (stay_nodup w)).mpr fun z => ?_
  · rw [List.Nodup, List.pairwise_iff_getElem]
    intro i j hi hj hij e
    have gi : a.getD i 0 = a[i] := by rw [List.getD_eq_getElem?_getD, List.getElem?_eq_getElem hi]; rfl
    have gj : a.getD j 0 = a[j] := by rw [List.getD_eq_getElem?_getD, List.getElem?_eq_getElem hj]; rfl
    have q1 := (pos hb ha h2 i (by rw [← ha.1]; exact hi)).2.2
    have q2 := (pos hb ha h2 j (by rw [← ha.1]; exact hj)).2.2
    rw [gi, e] at q1
    rw [gj] at q2
    omega
  · constructor
    · intro hz
      obtain ⟨i, hi, rfl⟩ := List.mem_iff_getElem.mp hz
      have gi : a.getD i 0 = a[i] := by rw [List.getD_eq_getElem?_getD, List.getElem?_eq_getElem hi]; rfl
      have q1 := pos hb ha h2 i (by rw [← ha.1]; exact hi)
      rw [gi] at q1
      rw [stayL, List.mem_map]
      exact ⟨a[i].toNat, List.mem_range.mpr q1.2.1, by omega⟩
    · intro hz
      rw [stayL, List.mem_map] at hz
      obtain ⟨p, hp, rfl⟩ := hz
      have q := pos ha hb h1 p (List.mem_range.mp hp)
      rw [← q.2.2]
      exact getD_mem' (by rw [ha.1]; exact q.2.1)
theorem turn_even {w n : Nat} (hn : n < w) : evenP ((Dd.turn n).led w) := by
  have hm : (w - n) % w < w := Nat.mod_lt _ (by omega)
  have e : n + (w - n) % w = 0 ∨ n + (w - n) % w = w := by
    by_cases z : n = 0
    · subst z; rw [Nat.sub_zero, Nat.mod_self]; exact .inl rfl
    · rw [Nat.mod_eq_of_lt (by omega)]; exact .inr (by omega)
  exact even_two (Dd.led_ld (d := .turn n) hn) (Dd.led_ld (d := .turn _) hm) (turn_undone hn hm e) (turn_undone hm hn (by omega))
theorem swap_even {w m n : Nat} (ok : (Dd.swap m n).ok w) : evenP ((Dd.swap m n).led w) := even_two (Dd.led_ld ok) (Dd.led_ld ok) (swap_undone ok) (swap_undone ok)
theorem full_bit {w p : Nat} (hp : p < w) : (2 ^ w - 1).testBit p = true := by rw [ones_bit, decide_eq_true hp]
theorem or_shift {a c : Nat} (b : Nat) (h : a < 2 ^ c) : a ||| b * 2 ^ c = a + 2 ^ c * b := by
  rw [Nat.mul_comm b, Nat.or_comm, Nat.two_pow_add_eq_or_of_lt h b |>.symm, Nat.add_comm]
end L2

set_option linter.all false
set_option maxRecDepth 100000
namespace L2
open PySem PySem.Spec PyProof.Rows
section
variable {X : Cx} {tg iter elt : Expr} {ifs : List Expr} {scope sc : Scope} {pos : Pos} {N N' : List Str} {src : List (Option Nat)} {wi : TI} {g : TG} {tc : TT} {te : TE}
end
end L2

set_option linter.all false
set_option maxRecDepth 100000
namespace L2
open PySem PySem.Spec PyProof.Rows Bm
end L2

set_option linter.all false
set_option maxRecDepth 100000
namespace L2
open PySem PySem.Spec PyProof.Rows Bm
noncomputable abbrev Mat := Nat → Nat → Bool
noncomputable def rowB (n : Nat) (f : Mat) (i : Nat) : List Bool := (List.range n).map fun j => f i j
noncomputable def bV (l : List Bool) : List V := l.map fun b => nV b.toNat
noncomputable def Mx (H : Hp) (l : Addr) (n : Nat) (f : Mat) : Prop := ∃ as : List Addr, as.length = n ∧ H l = some (.lst (as.map V.ref)) ∧ ∀ i (h : i < as.length), H as[i] = some (.lst (bV (rowB n f i)))
end L2

set_option linter.all false
set_option maxRecDepth 100000
namespace L2
open PySem PySem.Spec PyProof.Rows Bm
noncomputable def opp (h p : Nat) : Nat := if h ≤ p then p - h else p + h
theorem opp_lt {h p : Nat} (hp : p < 2 * h) : opp h p < 2 * h := by unfold opp; split <;> omega
theorem opp_opp {h p : Nat} (hp : p < 2 * h) : opp h (opp h p) = p := by unfold opp; split <;> split <;> omega
theorem opp_ne {h p : Nat} (hp : p < 2 * h) : opp h p ≠ p := by unfold opp; split <;> omega
theorem mod_two {h p : Nat} (hp : p < 2 * h) : p % h = if p < h then p else p - h := by
  split
  · exact Nat.mod_eq_of_lt (by omega)
  · rw [Nat.mod_eq_sub_mod (by omega)]; exact Nat.mod_eq_of_lt (by omega)
theorem mod_opp {h p y : Nat} (hp : p < 2 * h) (hy : y < 2 * h) (e : y % h = p % h) : y = p ∨ y = opp h p := by
  rw [mod_two hp, mod_two hy] at e
  unfold opp
  split at e <;> split at e <;> split <;> omega
structure Prs (h : Nat) (τ : Nat → Nat) : Prop where
  lt : ∀ p, p < 2 * h → τ p < 2 * h
  inv : ∀ p, p < 2 * h → τ (τ p) = p
  ne : ∀ p, p < 2 * h → τ p ≠ p
noncomputable abbrev Cr := Nat → Option Bool
noncomputable def putC (c : Cr) (p : Nat) (b : Bool) : Cr := fun q => if q = p then some b else c q
theorem put_same (c : Cr) (p : Nat) (b : Bool) : putC c p b p = some b := if_pos rfl
theorem put_ne {c : Cr} {p q : Nat} (b : Bool) (h : q ≠ p) : putC c p b q = c q := if_neg h
structure Closed (h : Nat) (τ : Nat → Nat) (c : Cr) : Prop where
  t : ∀ p b, p < 2 * h → c p = some b → c (τ p) = some (!b)
  o : ∀ p b, p < 2 * h → c p = some b → c (opp h p) = some (!b)
structure Chain (h : Nat) (τ : Nat → Nat) (c : Cr) (p0 q : Nat) : Prop where
  l0 : p0 < 2 * h
  lq : q < 2 * h
  t : ∀ p b, p < 2 * h → c p = some b → c (τ p) = some (!b)
  c0 : c p0 = some false
  cz : c (opp h q) = some true
  o : ∀ p b, p < 2 * h → c p = some b → p ≠ p0 → p ≠ opp h q → c (opp h p) = some (!b)
  en : c q = none ∨ q = p0
variable {h : Nat} {τ : Nat → Nat} {c : Cr} {p0 q : Nat}
theorem tau_none (P : Prs h τ) (t : ∀ p b, p < 2 * h → c p = some b → c (τ p) = some (!b)) (hq : q < 2 * h) (hn : c q = none) : c (τ q) = none := by
  cases e : c (τ q) with
  | none => rfl
  | some b =>
    have := t _ _ (P.lt q hq) e
    rw [P.inv q hq, hn] at this
    cases this
theorem put_t (P : Prs h τ) (t : ∀ p b, p < 2 * h → c p = some b → c (τ p) = some (!b)) (hq : q < 2 * h) (hn : c q = none) : ∀ p b, p < 2 * h → putC (putC c q false) (τ q) true p = some b → putC (putC c q false) (τ q) true (τ p) = some (!b) := by
  intro p b hp e
  by_cases c1 : p = τ q
  · subst c1
    rw [put_same] at e
    cases e
    rw [P.inv q hq, put_ne true (P.ne q hq).symm, put_same]
    rfl
  · by_cases c2 : p = q
    · subst c2
      rw [put_ne true (P.ne p hp).symm, put_same] at e
      cases e
      rw [put_same]; rfl
    · rw [put_ne true c1, put_ne false c2] at e
      have e2 := t p b hp e
      have n1 : τ p ≠ τ q := fun z => c2 (by rw [← P.inv p hp, z, P.inv q hq])
      have n2 : τ p ≠ q := fun z => c1 (by rw [← z, P.inv p hp])
      rw [put_ne true n1, put_ne false n2]
      exact e2
theorem chain_start (P : Prs h τ) (C : Closed h τ c) (hp : p0 < 2 * h) (hn : c p0 = none) : Chain h τ (putC (putC c p0 false) (τ p0) true) p0 (opp h (τ p0)) := by
  have lz := P.lt p0 hp
  have zn := tau_none P C.t hp hn
  refine ⟨hp, opp_lt lz, put_t P C.t hp hn, ?_, ?_, fun p b hp' e n0 nz => ?_, ?_⟩
  · rw [put_ne true (P.ne p0 hp).symm, put_same]
  · rw [opp_opp lz, put_same]
  · rw [opp_opp lz] at nz
    rw [put_ne true nz, put_ne false n0] at e
    have e2 := C.o p b hp' e
    have n1 : opp h p ≠ τ p0 := fun z => by rw [z, zn] at e2; cases e2
    have n2 : opp h p ≠ p0 := fun z => by rw [z, hn] at e2; cases e2
    rw [put_ne true n1, put_ne false n2]
    exact e2
  · by_cases c1 : opp h (τ p0) = p0
    · exact .inr c1
    · refine .inl ?_
      rw [put_ne true (opp_ne lz), put_ne false c1]
      cases e : c (opp h (τ p0)) with
      | none => rfl
      | some b =>
        have := C.o _ _ (opp_lt lz) e
        rw [opp_opp lz, zn] at this
        cases this
theorem chain_step (P : Prs h τ) (C : Chain h τ c p0 q) (hn : c q = none) : Chain h τ (putC (putC c q false) (τ q) true) p0 (opp h (τ q)) := by
  have lq := C.lq
  have lz := P.lt q lq
  have zn := tau_none P C.t lq hn
  have n0q : p0 ≠ q := fun z => by rw [← z, C.c0] at hn; cases hn
  have n0z : p0 ≠ τ q := fun z => by rw [← z, C.c0] at zn; cases zn
  have oq : opp h q ≠ q := opp_ne lq
  have oz : opp h q ≠ τ q := fun z => by rw [← z, C.cz] at zn; cases zn
  refine ⟨C.l0, opp_lt lz, put_t P C.t lq hn, ?_, ?_, fun p b hp' e n0 nz => ?_, ?_⟩
  · rw [put_ne true n0z, put_ne false n0q]; exact C.c0
  · rw [opp_opp lz, put_same]
  · rw [opp_opp lz] at nz
    rw [put_ne true nz] at e
    by_cases c1 : p = q
    · subst c1
      rw [put_same] at e
      cases e
      rw [put_ne true oz, put_ne false oq]
      exact C.cz
    · rw [put_ne false c1] at e
      by_cases c2 : p = opp h q
      · subst c2
        rw [C.cz] at e
        cases e
        rw [opp_opp lq, put_ne true (P.ne q lq).symm, put_same]
        rfl
      · have e2 := C.o p b hp' e n0 c2
        have n1 : opp h p ≠ τ q := fun z => by rw [z, zn] at e2; cases e2
        have n2 : opp h p ≠ q := fun z => by rw [z, hn] at e2; cases e2
        rw [put_ne true n1, put_ne false n2]
        exact e2
  · by_cases c0 : opp h (τ q) = p0
    · exact .inr c0
    · refine .inl ?_
      have n1 : opp h (τ q) ≠ q := fun z => by
        have := congrArg (opp h) z
        rw [opp_opp lz] at this
        exact oz this.symm
      rw [put_ne true (opp_ne lz), put_ne false n1]
      cases e : c (opp h (τ q)) with
      | none => rfl
      | some b =>
        have n2 : opp h (τ q) ≠ opp h q := fun z => P.ne q lq (by rw [← opp_opp lz, z, opp_opp lq])
        have := C.o _ _ (opp_lt lz) e c0 n2
        rw [opp_opp lz, zn] at this
        cases this
theorem chain_end (C : Chain h τ c p0 q) (hn : c q ≠ none) : Closed h τ c := by
  have e : q = p0 := C.en.resolve_left hn
  refine ⟨C.t, fun p b hp ep => ?_⟩
  by_cases c0 : p = p0
  · rw [c0] at ep ⊢
    rw [C.c0] at ep
    cases ep
    rw [← e]
    exact C.cz
  · by_cases cz : p = opp h q
    · rw [cz] at ep ⊢
      rw [C.cz] at ep
      cases ep
      rw [opp_opp C.lq, e]
      exact C.c0
    · exact C.o p b hp ep c0 cz
noncomputable def openN (h : Nat) (c : Cr) : Nat := (List.range (2 * h)).countP fun p => (c p).isNone
theorem countP_lt {α : Type} {f g : α → Bool} : ∀ {l : List α} {x : α}, x ∈ l → (∀ y, g y = true → f y = true) → f x = true → g x = false → l.countP g < l.countP f
  | a :: l, x, hx, himp, h1, h2 => by
    have le : l.countP g ≤ l.countP f := List.countP_mono_left fun y _ => himp y
    rw [List.countP_cons, List.countP_cons]
    rcases List.mem_cons.mp hx with rfl | hx
    · rw [h1, h2]; simp; omega
    · have ih := countP_lt hx himp h1 h2
      cases e : g a with
      | false => cases f a <;> simp <;> omega
      | true => rw [himp a e]; simp; omega
theorem open_less {τq : Nat} (hq : q < 2 * h) (hn : c q = none) : openN h (putC (putC c q false) τq true) < openN h c := by
  refine countP_lt (x := q) (List.mem_range.mpr hq) (fun y hy => ?_) (by rw [hn]; rfl) ?_
  · unfold putC at hy
    split at hy
    · cases hy
    · split at hy
      · cases hy
      · exact hy
  · unfold putC
    split
    · rfl
    · rw [if_pos rfl]; rfl
noncomputable def srcP (ls : List Int) (p : Nat) : Nat := (ls.getD p 0).toNat
noncomputable def plcE (ls : List Int) (e : Nat) : Nat := ls.idxOf (e : Int)
noncomputable def tauL (h : Nat) (ls : List Int) (p : Nat) : Nat := plcE ls (opp h (srcP ls p))
variable {ls : List Int}
theorem src_of (E : evenP ls) {p : Nat} (hp : p < ls.length) : srcP ls p < ls.length ∧ ls.getD p 0 = (srcP ls p : Int) ∧ plcE ls (srcP ls p) = p := by
  have b := even_bound E (getD_mem' hp)
  have e : ls.getD p 0 = (srcP ls p : Int) := by unfold srcP; omega
  refine ⟨by unfold srcP; omega, e, ?_⟩
  unfold plcE
  rw [← e]
  exact idx_nodup (even_nodup E) hp
theorem plc_of (E : evenP ls) {e : Nat} (he : e < ls.length) : plcE ls e < ls.length ∧ srcP ls (plcE ls e) = e := by
  have q := idx_at (even_mem E he)
  refine ⟨q.1, ?_⟩
  unfold srcP plcE
  rw [q.2, Int.toNat_natCast]
theorem tau_prs (E : evenP ls) (hl : ls.length = 2 * h) : Prs h (tauL h ls) := by
  refine ⟨fun p hp => ?_, fun p hp => ?_, fun p hp z => ?_⟩
  · have s := src_of E (p := p) (by omega)
    exact (by have := (plc_of E (e := opp h (srcP ls p)) (by have := opp_lt (h := h) (p := srcP ls p) (by omega); omega)).1; unfold tauL; omega)
  · have s := src_of E (p := p) (by omega)
    have o := opp_lt (h := h) (p := srcP ls p) (by omega)
    have q := plc_of E (e := opp h (srcP ls p)) (by omega)
    unfold tauL
    rw [q.2, opp_opp (by omega), s.2.2]
  · have s := src_of E (p := p) (by omega)
    have o := opp_lt (h := h) (p := srcP ls p) (by omega)
    have q := plc_of E (e := opp h (srcP ls p)) (by omega)
    unfold tauL at z
    have := congrArg (srcP ls) z
    rw [q.2] at this
    exact opp_ne (by omega) this
structure Cross (h : Nat) (ls : List Int) (X : Nat → Bool) : Prop where
  t : ∀ p, p < 2 * h → X (tauL h ls p) = !X p
  o : ∀ p, p < 2 * h → X (opp h p) = !X p
theorem cross_of {c : Cr} (C : Closed h (tauL h ls) c) (P : Prs h (tauL h ls)) (all : ∀ p, p < h → c p ≠ none) : ∃ X, Cross h ls X ∧ ∀ p, p < 2 * h → c p = some (X p) := by
  have tot : ∀ p, p < 2 * h → c p ≠ none := fun p hp z => by
    by_cases c1 : p < h
    · exact all p c1 z
    · have hq : p - h < h := by omega
      cases e : c (p - h) with
      | none => exact all _ hq e
      | some b =>
        have := C.o _ _ (by omega) e
        rw [show opp h (p - h) = p by unfold opp; rw [if_neg (by omega)]; omega, z] at this
        cases this
  have val : ∀ p, p < 2 * h → c p = some ((c p).getD false) := fun p hp => by
    cases e : c p with
    | none => exact absurd e (tot p hp)
    | some b => rfl
  refine ⟨fun p => (c p).getD false, ⟨fun p hp => ?_, fun p hp => ?_⟩, val⟩
  · have := C.t p _ hp (val p hp)
    rw [this]; rfl
  · have := C.o p _ hp (val p hp)
    rw [this]; rfl
section
variable {X : Nat → Bool}
noncomputable def lowE (h : Nat) (ls : List Int) (X : Nat → Bool) (r : Nat) : Nat := srcP ls (if X r then r + h else r) % h
noncomputable def uppE (h : Nat) (ls : List Int) (X : Nat → Bool) (r : Nat) : Nat := srcP ls (if X r then r else r + h) % h
noncomputable def lowL (h : Nat) (ls : List Int) (X : Nat → Bool) : List Int := (List.range h).map fun r => (lowE h ls X r : Int)
noncomputable def uppL (h : Nat) (ls : List Int) (X : Nat → Bool) : List Int := (List.range h).map fun r => (uppE h ls X r : Int)
noncomputable def m1N (h : Nat) (ls : List Int) (X : Nat → Bool) : Nat := maskN ((List.range h).filter fun e => X (plcE ls e))
noncomputable def m2N (h : Nat) (X : Nat → Bool) : Nat := maskN ((List.range h).filter X)
theorem m1_bit (e : Nat) : (m1N h ls X).testBit e = (decide (e < h) && X (plcE ls e)) := by
  rw [m1N, testBit_maskN]
  by_cases a : e < h <;> cases b : X (plcE ls e) <;> simp [a, b]
theorem m2_bit (e : Nat) : (m2N h X).testBit e = (decide (e < h) && X e) := by
  rw [m2N, testBit_maskN]
  by_cases a : e < h <;> cases b : X e <;> simp [a, b]
theorem mask_in (m : Nat) (hm : ∀ e, m.testBit e = true → e < h) : m < 2 ^ h := by
  rw [← maskN_placesN m]
  exact mask_lt fun p hp => hm p (mem_placesN.mp hp)
theorem m1_lt : m1N h ls X < 2 ^ h := mask_in _ fun e he => by rw [m1_bit, Bool.and_eq_true, decide_eq_true_eq] at he; exact he.1
theorem m2_lt : m2N h X < 2 ^ h := mask_in _ fun e he => by rw [m2_bit, Bool.and_eq_true, decide_eq_true_eq] at he; exact he.1
theorem half_perm (E : evenP ls) (hl : ls.length = 2 * h) (C : Cross h ls X) (b : Bool) (f : Nat → Nat) (hf : ∀ r, r < h → f r < 2 * h ∧ X (f r) = b ∧ f r % h = r) : evenP ((List.range h).map fun r => ((srcP ls (f r) % h : Nat) : Int)) := by
  by_cases h0 : h = 0
  · subst h0; exact List.Perm.refl _
  have hpos : 0 < h := by omega
  have inj : ∀ p q, p < 2 * h → q < 2 * h → X p = b → X q = b → srcP ls p % h = srcP ls q % h → p = q := fun p q hp hq xp xq e => by
    have sp := src_of E (p := p) (by omega)
    have sq := src_of E (p := q) (by omega)
    by_cases z : srcP ls p = srcP ls q
    · rw [← sp.2.2, z, sq.2.2]
    · have e2 : srcP ls p = opp h (srcP ls q) := (mod_opp (by omega) (by omega) e).resolve_left z
      have e3 : tauL h ls q = p := by unfold tauL; rw [← e2, sp.2.2]
      have := C.t q hq
      rw [e3, xp, xq] at this
      cases b <;> cases this
  have len : ((List.range h).map fun r => ((srcP ls (f r) % h : Nat) : Int)).length = h := by simp
  unfold evenP
  rw [len]
  refine (List.perm_ext_iff_of_nodup ?_ (stay_nodup h)).mpr fun z => ?_
  · rw [List.Nodup, List.pairwise_map]
    refine List.Pairwise.imp_of_mem (fun {r r'} hr hr' hlt e => ?_) List.pairwise_lt_range
    have a := hf r (List.mem_range.mp hr)
    have a' := hf r' (List.mem_range.mp hr')
    have := inj _ _ a.1 a'.1 a.2.1 a'.2.1 (by omega)
    have := congrArg (· % h) this
    simp only [a.2.2, a'.2.2] at this
    omega
  · rw [List.mem_map, stayL, List.mem_map]
    constructor
    · rintro ⟨r, hr, rfl⟩
      exact ⟨_, List.mem_range.mpr (Nat.mod_lt _ hpos), rfl⟩
    · rintro ⟨v, hv, rfl⟩
      have hv := List.mem_range.mp hv
      have q := plc_of E (e := v) (by omega)
      have qo := plc_of E (e := v + h) (by omega)
      obtain ⟨p, hp, xp, ep⟩ : ∃ p, p < 2 * h ∧ X p = b ∧ srcP ls p % h = v := by
        by_cases c : X (plcE ls v) = b
        · exact ⟨plcE ls v, by omega, c, by rw [q.2]; exact Nat.mod_eq_of_lt hv⟩
        · have e3 : tauL h ls (plcE ls v) = plcE ls (v + h) := by
            unfold tauL
            rw [q.2, show opp h v = v + h by unfold opp; rw [if_neg (by omega)]]
          have := C.t (plcE ls v) (by omega)
          rw [e3] at this
          refine ⟨plcE ls (v + h), by omega, ?_, by rw [qo.2, Nat.add_mod_right]; exact Nat.mod_eq_of_lt hv⟩
          rw [this]
          revert c
          cases X (plcE ls v) <;> cases b <;> simp
      have hr : p % h < h := Nat.mod_lt _ hpos
      have a := hf (p % h) hr
      have same : f (p % h) = p := by
        rcases mod_opp hp a.1 a.2.2 with z | e4
        · exact z
        · exfalso
          have := C.o p hp
          rw [← e4, a.2.1, xp] at this
          cases b <;> cases this
      exact ⟨p % h, List.mem_range.mpr hr, by rw [same, ep]⟩
theorem low_even (E : evenP ls) (hl : ls.length = 2 * h) (C : Cross h ls X) : evenP (lowL h ls X) := by
  refine half_perm E hl C false (fun r => if X r then r + h else r) fun r hr => ?_
  have o := C.o r (by omega)
  rw [show opp h r = r + h by unfold opp; rw [if_neg (by omega)]] at o
  cases e : X r with
  | true => rw [e] at o; simp only [if_true]; exact ⟨by omega, o, by rw [Nat.add_mod_right]; exact Nat.mod_eq_of_lt hr⟩
  | false => simp only [Bool.false_eq_true, if_false]; exact ⟨by omega, e, Nat.mod_eq_of_lt hr⟩
theorem upp_even (E : evenP ls) (hl : ls.length = 2 * h) (C : Cross h ls X) : evenP (uppL h ls X) := by
  refine half_perm E hl C true (fun r => if X r then r else r + h) fun r hr => ?_
  have o := C.o r (by omega)
  rw [show opp h r = r + h by unfold opp; rw [if_neg (by omega)]] at o
  cases e : X r with
  | false => rw [e] at o; simp only [Bool.false_eq_true, if_false]; exact ⟨by omega, o, by rw [Nat.add_mod_right]; exact Nat.mod_eq_of_lt hr⟩
  | true => simp only [if_true]; exact ⟨by omega, e, Nat.mod_eq_of_lt hr⟩
end
end L2

set_option linter.all false
set_option maxRecDepth 100000
namespace L2
open PySem PySem.Spec PyProof.Rows Bm
variable {h : Nat} {ls : List Int} {X : Nat → Bool}
theorem inM_sub (m p n : Nat) : inM m ((p : Int) - n) = (decide (n ≤ p) && m.testBit (p - n)) := by
  unfold inM
  by_cases c : n ≤ p
  · rw [decide_eq_true c, decide_eq_true (show (0 : Int) ≤ (p : Int) - n by omega), show ((p : Int) - n).toNat = p - n by omega]
  · rw [decide_eq_false c, decide_eq_false (show ¬ (0 : Int) ≤ (p : Int) - n by omega)]; rfl
theorem swap_src (w m n p : Nat) : (Dd.swap m n).src w p = if (decide (n ≤ p) && m.testBit (p - n)) then (p : Int) - n else if m.testBit p then (p : Int) + n else p := by
  rw [← inM_sub]; rfl
theorem half_ok {m : Nat} (h1 : 1 ≤ h) (hm : m < 2 ^ h) : (Dd.swap m h).ok (2 * h) := by
  refine ⟨h1, by omega, fun p hp => ?_⟩
  have hb : p < h := by
    rcases Nat.lt_or_ge p h with z | z
    · exact z
    · rw [bit_ge hm z] at hp; cases hp
  exact ⟨by omega, bit_ge hm (by omega)⟩
theorem half_src {m p : Nat} (hm : m < 2 ^ h) (hp : p < 2 * h) : (Dd.swap m h).src (2 * h) p = ((if m.testBit (p % h) then opp h p else p : Nat) : Int) := by
  rw [swap_src, mod_two hp]
  by_cases c : p < h
  · rw [decide_eq_false (by omega), Bool.false_and, if_pos c]
    unfold opp
    rw [if_neg (show ¬ h ≤ p by omega)]
    cases m.testBit p <;> simp
  · rw [decide_eq_true (by omega), Bool.true_and, if_neg c, bit_ge hm (show h ≤ p by omega)]
    unfold opp
    rw [if_pos (show h ≤ p by omega)]
    cases m.testBit (p - h) <;> simp <;> omega
theorem cat_low {a b : List Int} {p : Nat} (hp : p < a.length) : (a ++ b).getD p 0 = a.getD p 0 := by
  rw [List.getD_eq_getElem?_getD, List.getD_eq_getElem?_getD, List.getElem?_append_left hp]
theorem cat_high {a b : List Int} {p : Nat} (hp : a.length ≤ p) : (a ++ b).getD p 0 = b.getD (p - a.length) 0 := by
  rw [List.getD_eq_getElem?_getD, List.getD_eq_getElem?_getD, List.getElem?_append_right hp]
theorem higher_getD {k p : Nat} {a : List Int} (hp : p < a.length) (h0 : 0 ≤ a.getD p 0) : (higherL k a).getD p 0 = a.getD p 0 + k := by
  have e : a.getD p 0 = a[p] := by rw [List.getD_eq_getElem?_getD, List.getElem?_eq_getElem hp]; rfl
  rw [e] at h0 ⊢
  rw [higherL, List.getD_eq_getElem?_getD, List.getElem?_map, List.getElem?_eq_getElem hp]
  show (if 0 ≤ a[p] then a[p] + (k : Int) else a[p]) = _
  rw [if_pos h0]
noncomputable def joinL (h m1 m2 : Nat) (lo up : List Int) : List Int := thenL (thenL ((Dd.swap m1 h).led (2 * h)) (lo ++ higherL h up)) ((Dd.swap m2 h).led (2 * h))
theorem join_cross (E : evenP ls) (hl : ls.length = 2 * h) (C : Cross h ls X) : joinL h (m1N h ls X) (m2N h X) (lowL h ls X) (uppL h ls X) = ls := by
  have ll : (lowL h ls X).length = h := by simp [lowL]
  have lu : (uppL h ls X).length = h := by simp [uppL]
  refine ext_getD (by rw [joinL, then_len, Dd.led_len, hl]) fun p hp => ?_
  rw [joinL, then_len, Dd.led_len] at hp
  have hpos : 0 < h := by omega
  have sp := src_of E (p := p) (by omega)
  have hr : p % h < h := Nat.mod_lt _ hpos
  -- the last exchange
  have e2 : ((Dd.swap (m2N h X) h).led (2 * h)).getD p 0 = ((if X p then p % h + h else p % h : Nat) : Int) := by
    rw [Dd.led_getD _ hp, half_src m2_lt hp, m2_bit, decide_eq_true hr, Bool.true_and]
    have key : (if X (p % h) = true then opp h p else p) = (if X p = true then p % h + h else p % h) := by
      have o := C.o p hp
      by_cases c : p < h
      · rw [Nat.mod_eq_of_lt c, show opp h p = p + h by unfold opp; rw [if_neg (by omega)]]
      · have em : p % h = p - h := by rw [mod_two hp, if_neg c]
        have eo : opp h p = p - h := by unfold opp; rw [if_pos (by omega)]
        rw [eo] at o
        rw [em, eo, o]
        cases X p
        · simp
        · simp; omega
    rw [key]
  rw [joinL, then_getD (by rw [Dd.led_len]; exact hp) (by rw [e2]; omega), e2, Int.toNat_natCast]
  -- between
  have e1 : (lowL h ls X ++ higherL h (uppL h ls X)).getD (if X p then p % h + h else p % h) 0 = ((srcP ls p % h + (if X p then h else 0) : Nat) : Int) := by
    have same : ∀ y, y < 2 * h → X y = X p → y % h = p % h → y = p := fun y hy xy e => by
      rcases mod_opp hp hy e with z | z
      · exact z
      · have := C.o p hp
        rw [← z, xy] at this
        revert this
        cases X p <;> simp
    have or := C.o (p % h) (by omega)
    rw [show opp h (p % h) = p % h + h by unfold opp; rw [if_neg (by omega)]] at or
    cases xp : X p with
    | false =>
      simp only [Bool.false_eq_true, if_false]
      rw [cat_low (by rw [ll]; exact hr), lowL, List.getD_eq_getElem?_getD, List.getElem?_map, List.getElem?_range hr]
      show ((lowE h ls X (p % h) : Nat) : Int) = _
      rw [lowE, Nat.add_zero, show (if X (p % h) = true then p % h + h else p % h) = p by
        cases xr : X (p % h) with
        | true => rw [xr] at or; simp only [if_true]; exact same _ (by omega) (by rw [or, xp]; rfl) (by rw [Nat.add_mod_right, Nat.mod_mod])
        | false => simp only [Bool.false_eq_true, if_false]; exact same _ (by omega) (by rw [xr, xp]) (Nat.mod_mod _ _)]
    | true =>
      simp only [if_true]
      have eu : (uppL h ls X).getD (p % h) 0 = ((uppE h ls X (p % h) : Nat) : Int) := by
        rw [uppL, List.getD_eq_getElem?_getD, List.getElem?_map, List.getElem?_range hr]; rfl
      rw [cat_high (by rw [ll]; omega), ll, Nat.add_sub_cancel, higher_getD (by rw [lu]; exact hr) (by rw [eu]; omega), eu, uppE]
      rw [show (if X (p % h) = true then p % h else p % h + h) = p by
        cases xr : X (p % h) with
        | true => simp only [if_true]; exact same _ (by omega) (by rw [xr, xp]) (Nat.mod_mod _ _)
        | false => rw [xr] at or; simp only [Bool.false_eq_true, if_false]; exact same _ (by omega) (by rw [or, xp]; rfl) (by rw [Nat.add_mod_right, Nat.mod_mod])]
      omega
  have hv : srcP ls p % h + (if X p then h else 0) < 2 * h := by
    have := Nat.mod_lt (srcP ls p) hpos
    split <;> omega
  rw [then_getD (by rw [List.length_append, higher_len, ll, lu]; split <;> omega) (by rw [e1]; omega), e1, Int.toNat_natCast, Dd.led_getD _ hv, half_src m1_lt hv, sp.2.1]
  refine congrArg (fun n : Nat => (n : Int)) ?_
  -- the first exchange
  have ep : (srcP ls p % h + (if X p then h else 0)) % h = srcP ls p % h := by
    split
    · rw [Nat.add_mod_right, Nat.mod_mod]
    · rw [Nat.add_zero, Nat.mod_mod]
  rw [ep, m1_bit, decide_eq_true (Nat.mod_lt _ hpos), Bool.true_and]
  have t := C.t p hp
  unfold tauL at t
  have s2 : srcP ls p < 2 * h := by omega
  rw [mod_two s2]
  by_cases c : srcP ls p < h
  · rw [if_pos c, sp.2.2]
    cases X p <;> simp [opp] <;> omega
  · rw [if_neg c]
    rw [show opp h (srcP ls p) = srcP ls p - h by unfold opp; rw [if_pos (by omega)]] at t
    rw [t]
    cases X p with
    | false =>
      simp only [Bool.not_false, Bool.false_eq_true, if_true, if_false, Nat.add_zero]
      unfold opp
      rw [if_neg (by omega)]
      omega
    | true =>
      simp only [Bool.not_true, Bool.false_eq_true, if_true, if_false]
      omega
inductive Pap where
  | nil
  | node (m1 m2 : Nat) (lo : List Int) (pl : Pap) (up : List Int) (pu : Pap)
noncomputable def Shows : List Int → Pap → Prop
  | ls, .nil => ls.length = 1 ∧ evenP ls
  | ls, .node m1 m2 lo pl up pu => ∃ h, 1 ≤ h ∧ ls.length = 2 * h ∧ m1 < 2 ^ h ∧ m2 < 2 ^ h ∧ lo.length = h ∧ up.length = h ∧ evenP lo ∧ evenP up ∧ joinL h m1 m2 lo up = ls ∧ Shows lo pl ∧ Shows up pu
noncomputable def besideD (h : Nat) : Dd → Dd → Dd
  | .swap a n, .swap b _ => .swap (a ||| b * 2 ^ h) n
  | d, _ => d
noncomputable def rowP (w : Nat) : Pap → List Dd
  | .nil => []
  | .node m1 m2 _ pl _ pu => if w / 2 = 1 then [.swap (m1 ^^^ m2) 1] else [.swap m1 (w / 2)] ++ List.zipWith (besideD (w / 2)) (rowP (w / 2) pl) (rowP (w / 2) pu) ++ [.swap m2 (w / 2)]
theorem then_cat {a b c d : List Int} (ha : Ld h a) (hb : Ld h b) (hc : evenP c) (lc : c.length = h) (hd : evenP d) (ld : d.length = h) : thenL (a ++ higherL h b) (c ++ higherL h d) = thenL a c ++ higherL h (thenL b d) := by
  rw [thenL, List.map_append]
  congr 1
  · rw [thenL]
    apply List.map_congr_left
    intro e he
    have q := even_bound hc he
    rw [if_pos q.1, if_pos q.1, cat_low (by rw [ha.1]; omega)]
  · rw [show higherL h d = d.map (fun e => if 0 ≤ e then e + (h : Int) else e) from rfl, List.map_map, show higherL h (thenL b d) = (thenL b d).map (fun e => if 0 ≤ e then e + (h : Int) else e) from rfl, thenL, List.map_map]
    apply List.map_congr_left
    intro e he
    have q := even_bound hd he
    show (if 0 ≤ (if 0 ≤ e then e + (h : Int) else e) then (a ++ higherL h b).getD (if 0 ≤ e then e + (h : Int) else e).toNat 0 else (if 0 ≤ e then e + (h : Int) else e)) = (if 0 ≤ (if 0 ≤ e then b.getD e.toNat 0 else e) then (if 0 ≤ e then b.getD e.toNat 0 else e) + (h : Int) else (if 0 ≤ e then b.getD e.toNat 0 else e))
    rw [if_pos q.1, if_pos (show (0 : Int) ≤ e + h by omega), cat_high (by rw [ha.1]; omega), ha.1, show (e + (h : Int)).toNat - h = e.toNat by omega, if_pos q.1]
    have hl : e.toNat < b.length := by rw [hb.1]; omega
    have eg : b.getD e.toNat 0 = b[e.toNat] := by rw [List.getD_eq_getElem?_getD, List.getElem?_eq_getElem hl]; rfl
    rw [higherL, List.getD_eq_getElem?_getD, List.getElem?_map, List.getElem?_eq_getElem hl, eg]
    rfl
theorem stay_cat (h : Nat) : stayL (2 * h) = stayL h ++ higherL h (stayL h) := by
  refine ext_getD (by rw [List.length_append, higher_len, stay_len, stay_len]; omega) fun p hp => ?_
  rw [stay_len] at hp
  rw [stay_getD hp]
  by_cases c : p < h
  · rw [cat_low (by rw [stay_len]; exact c), stay_getD c]
  · rw [cat_high (by rw [stay_len]; omega), stay_len, higher_getD (by rw [stay_len]; omega) (by rw [stay_getD (by omega)]; omega), stay_getD (by omega)]
    omega
theorem beside_bit {a b : Nat} (p : Nat) (ha : a < 2 ^ h) : (a ||| b * 2 ^ h).testBit p = if p < h then a.testBit p else b.testBit (p - h) := by
  rw [Nat.testBit_or, Nat.testBit_mul_two_pow]
  by_cases c : p < h
  · rw [if_pos c, decide_eq_false (by omega), Bool.false_and, Bool.or_false]
  · rw [if_neg c, bit_ge ha (by omega), decide_eq_true (by omega), Bool.true_and, Bool.false_or]
theorem swap_lt {w a n : Nat} (ok : (Dd.swap a n).ok w) : a < 2 ^ w := mask_in _ fun e he => by have := (ok.2.2 e he).1; omega
theorem beside_ok {a b n : Nat} (oa : (Dd.swap a n).ok h) (ob : (Dd.swap b n).ok h) : (Dd.swap (a ||| b * 2 ^ h) n).ok (2 * h) := by
  refine ⟨oa.1, by have := oa.2.1; omega, fun p hp => ?_⟩
  have la := swap_lt oa
  rw [beside_bit p la] at hp
  rw [beside_bit (p + n) la]
  by_cases c : p < h
  · rw [if_pos c] at hp
    have q := oa.2.2 p hp
    rw [if_pos q.1]
    exact ⟨by omega, q.2⟩
  · rw [if_neg c] at hp
    have q := ob.2.2 _ hp
    rw [if_neg (by omega), show p + n - h = p - h + n by omega]
    exact ⟨by omega, q.2⟩
theorem beside_led {a b n : Nat} (oa : (Dd.swap a n).ok h) (ob : (Dd.swap b n).ok h) : (Dd.swap (a ||| b * 2 ^ h) n).led (2 * h) = (Dd.swap a n).led h ++ higherL h ((Dd.swap b n).led h) := by
  have la := swap_lt oa
  refine ext_getD (by rw [List.length_append, higher_len, Dd.led_len, Dd.led_len, Dd.led_len]; omega) fun p hp => ?_
  rw [Dd.led_len] at hp
  rw [Dd.led_getD _ hp, swap_src, beside_bit _ la, beside_bit _ la]
  by_cases c : p < h
  · rw [cat_low (by rw [Dd.led_len]; exact c), Dd.led_getD _ c, swap_src, if_pos c, if_pos (show p - n < h by omega)]
  · have hp' : p - h < h := by omega
    have e0 : 0 ≤ ((Dd.swap b n).led h).getD (p - h) 0 := (even_bound (swap_even ob) (getD_mem' (by rw [Dd.led_len]; exact hp'))).1
    rw [cat_high (by rw [Dd.led_len]; omega), Dd.led_len, higher_getD (by rw [Dd.led_len]; exact hp') e0, Dd.led_getD _ hp', swap_src, if_neg c]
    by_cases c2 : p - n < h
    · have af : a.testBit (p - n) = false ∨ ¬ n ≤ p := by
        by_cases c3 : n ≤ p
        · cases e : a.testBit (p - n) with
          | false => exact .inl rfl
          | true => have := (oa.2.2 _ e).1; omega
        · exact .inr c3
      rw [if_pos c2]
      have z1 : (decide (n ≤ p) && a.testBit (p - n)) = false := by
        rcases af with z | z
        · rw [z, Bool.and_false]
        · rw [decide_eq_false z, Bool.false_and]
      have n1 := oa.2.1
      by_cases c4 : n ≤ p - h
      · omega
      · rw [z1, decide_eq_false c4, Bool.false_and]
        cases b.testBit (p - h) <;> simp <;> omega
    · rw [if_neg c2, show p - n - h = p - h - n by omega, decide_eq_true (show n ≤ p by omega), decide_eq_true (show n ≤ p - h by omega), Bool.true_and]
      cases b.testBit (p - h - n) <;> cases b.testBit (p - h) <;> simp <;> omega
theorem zip_swap {d : Dd} : ∀ {ms ns : List Nat}, d ∈ List.zipWith Dd.swap ms ns → ∃ m n, d = .swap m n
  | [], _, h => by simp at h
  | _ :: _, [], h => by simp at h
  | m :: ms, n :: ns, h => by
    rw [List.zipWith_cons_cons] at h
    rcases List.mem_cons.mp h with z | z
    · exact ⟨m, n, z⟩
    · exact zip_swap z
noncomputable def SwF (h : Nat) (ds : List Dd) (ns : List Nat) : Prop := ∃ ms : List Nat, ms.length = ns.length ∧ ds = List.zipWith Dd.swap ms ns ∧ ∀ d ∈ ds, d.ok h
theorem sw_even {ds : List Dd} {ns : List Nat} (S : SwF h ds ns) : evenP (rowL h ds) ∧ Ld h (rowL h ds) := by
  obtain ⟨ms, _, e, ok⟩ := S
  have l := row_ld ok
  refine ⟨?_, l⟩
  have hev : ∀ d ∈ ds, evenP (d.led h) := fun d hd => by
    have : ∃ m n, d = .swap m n := by
      rw [e] at hd
      exact zip_swap hd
    obtain ⟨m, n, rfl⟩ := this
    exact swap_even (ok _ hd)
  have hu := undoR_ok ok
  have h1 := undo_row ok hev
  have rr : undoR h (undoR h ds) = ds := by
    rw [undoR, undoR, List.map_reverse, List.reverse_reverse, List.map_map]
    conv => rhs; rw [← List.map_id ds]
    apply List.map_congr_left
    intro d hd
    have : ∃ m n, d = .swap m n := by
      rw [e] at hd
      exact zip_swap hd
    obtain ⟨m, n, rfl⟩ := this
    rfl
  have hev2 : ∀ d ∈ undoR h ds, evenP (d.led h) := fun d hd => by
    rw [undoR, List.mem_reverse, List.mem_map] at hd
    obtain ⟨e', he, rfl⟩ := hd
    by_cases hf : e'.flatE = true
    · rw [undo_flat hf]; exact hev e' he
    · cases e' with
      | turn n => exact turn_even (Nat.mod_lt _ (by have : n < h := ok _ he; omega))
      | swap m n => exact swap_even (ok _ he)
      | _ => exact absurd rfl hf
  have h2 := undo_row hu hev2
  rw [rr] at h2
  exact even_two l (row_ld hu) h1 h2
end L2

set_option linter.all false
set_option maxRecDepth 100000
namespace L2
open PySem PySem.Spec PyProof.Rows Bm
variable {h : Nat}
theorem zip_rows : ∀ {ns as bs : List Nat}, as.length = ns.length → bs.length = ns.length → (∀ d ∈ List.zipWith Dd.swap as ns, d.ok h) → (∀ d ∈ List.zipWith Dd.swap bs ns, d.ok h) →
    rowL (2 * h) (List.zipWith (besideD h) (List.zipWith Dd.swap as ns) (List.zipWith Dd.swap bs ns)) = rowL h (List.zipWith Dd.swap as ns) ++ higherL h (rowL h (List.zipWith Dd.swap bs ns)) ∧
    ∃ ms : List Nat, ms.length = ns.length ∧ List.zipWith (besideD h) (List.zipWith Dd.swap as ns) (List.zipWith Dd.swap bs ns) = List.zipWith Dd.swap ms ns ∧ ∀ d ∈ List.zipWith Dd.swap ms ns, d.ok (2 * h)
  | [], [], [], _, _, _, _ => ⟨by show stayL (2 * h) = stayL h ++ higherL h (stayL h); exact stay_cat h, [], rfl, rfl, fun _ z => (nomatch z)⟩
  | n :: ns, a :: as, b :: bs, h1, h2, h3, h4 => by
    simp only [List.zipWith_cons_cons] at h3 h4 ⊢
    have oa := h3 _ List.mem_cons_self
    have ob := h4 _ List.mem_cons_self
    have ta : ∀ d ∈ List.zipWith Dd.swap as ns, d.ok h := fun d hd => h3 d (List.mem_cons_of_mem _ hd)
    have tb : ∀ d ∈ List.zipWith Dd.swap bs ns, d.ok h := fun d hd => h4 d (List.mem_cons_of_mem _ hd)
    obtain ⟨ih, ms, m1, m2, m3⟩ := zip_rows (by simpa using h1) (by simpa using h2) ta tb
    have ev : ∀ (xs : List Nat), xs.length = ns.length → (∀ d ∈ List.zipWith Dd.swap xs ns, d.ok h) → evenP (rowL h (List.zipWith Dd.swap xs ns)) ∧ Ld h (rowL h (List.zipWith Dd.swap xs ns)) := fun xs l o => sw_even ⟨xs, l, rfl, o⟩
    have ea := ev as (by simpa using h1) ta
    have eb := ev bs (by simpa using h2) tb
    have ok := beside_ok oa ob
    refine ⟨?_, (a ||| b * 2 ^ h) :: ms, by simp [m1], by rw [m2]; rfl, fun d hd => ?_⟩
    · show rowL (2 * h) (Dd.swap (a ||| b * 2 ^ h) n :: _) = _
      rw [rowL_cons ok (by rw [m2]; exact m3), ih, rowL_cons oa ta, rowL_cons ob tb, beside_led oa ob]
      exact then_cat (Dd.led_ld oa) (Dd.led_ld ob) ea.1 ea.2.1 eb.1 eb.2.1
    · rw [List.zipWith_cons_cons] at hd
      rcases List.mem_cons.mp hd with rfl | z
      · exact ok
      · exact m3 d z
noncomputable def formK : Nat → List Nat
  | 0 => []
  | 1 => [1]
  | k + 2 => [2 ^ (k + 1)] ++ formK (k + 1) ++ [2 ^ (k + 1)]
theorem zip_cat {a b : List Nat} (c d : List Nat) (hl : a.length = b.length) : List.zipWith Dd.swap (a ++ c) (b ++ d) = List.zipWith Dd.swap a b ++ List.zipWith Dd.swap c d := List.zipWith_append hl
theorem even_one {ls : List Int} (h : evenP ls) (hl : ls.length = 1) : ls = [0] := by
  have := h
  unfold evenP at this
  rw [hl] at this
  exact List.perm_singleton.mp this
theorem join_one : ∀ m1 < 2, ∀ m2 < 2, (rowL 2 [Dd.swap (m1 ^^^ m2) 1] = joinL 1 m1 m2 [0] [0]) := by decide +kernel
theorem join_one_ok {m1 m2 : Nat} (h1 : m1 < 2) (h2 : m2 < 2) : (Dd.swap (m1 ^^^ m2) 1).ok 2 := half_ok (h := 1) (by omega) (Nat.xor_lt_two_pow (n := 1) (by omega) (by omega))
theorem row_paper : ∀ (k : Nat) (P : Pap) (ls : List Int), ls.length = 2 ^ k → Shows ls P → SwF (2 ^ k) (rowP (2 ^ k) P) (formK k) ∧ rowL (2 ^ k) (rowP (2 ^ k) P) = ls := by
  intro k
  induction k with
  | zero =>
    intro P ls hl S
    cases P with
    | nil =>
      refine ⟨⟨[], rfl, rfl, fun _ z => (nomatch z)⟩, ?_⟩
      rw [even_one S.2 S.1]
      rfl
    | node m1 m2 lo pl up pu =>
      obtain ⟨h, h1, h2, _⟩ := S
      rw [hl] at h2
      omega
  | succ k ih =>
    intro P ls hl S
    cases P with
    | nil =>
      have h1 := S.1
      rw [hl, Nat.pow_succ] at h1
      have := Nat.two_pow_pos k
      omega
    | node m1 m2 lo pl up pu =>
      obtain ⟨h, h1, h2, b1, b2, l1, l2, e1, e2, ej, s1, s2⟩ := S
      have hh : h = 2 ^ k := by rw [hl, Nat.pow_succ] at h2; omega
      subst hh
      have ew : 2 ^ (k + 1) / 2 = 2 ^ k := by rw [Nat.pow_succ]; omega
      have e2w : 2 ^ (k + 1) = 2 * 2 ^ k := by rw [Nat.pow_succ]; omega
      cases k with
      | zero =>
        have r : rowP (2 ^ (0 + 1)) (.node m1 m2 lo pl up pu) = [.swap (m1 ^^^ m2) 1] := rfl
        rw [r]
        refine ⟨⟨[m1 ^^^ m2], rfl, rfl, fun d hd => ?_⟩, ?_⟩
        · rw [List.mem_singleton.mp hd]
          exact join_one_ok b1 b2
        · rw [← ej, even_one e1 l1, even_one e2 l2]
          exact join_one m1 b1 m2 b2
      | succ k =>
        obtain ⟨⟨as, a1, a2, a3⟩, a4⟩ := ih pl lo l1 s1
        obtain ⟨⟨bs, c1, c2, c3⟩, c4⟩ := ih pu up l2 s2
        have r : rowP (2 ^ (k + 1 + 1)) (.node m1 m2 lo pl up pu) = [.swap m1 (2 ^ (k + 1))] ++ List.zipWith (besideD (2 ^ (k + 1))) (rowP (2 ^ (k + 1)) pl) (rowP (2 ^ (k + 1)) pu) ++ [.swap m2 (2 ^ (k + 1))] := by
          show (if 2 ^ (k + 1 + 1) / 2 = 1 then _ else _) = _
          rw [ew, if_neg]
          have := Nat.two_pow_pos k
          rw [Nat.pow_succ]; omega
        rw [a2] at a3 a4
        rw [c2] at c3 c4
        obtain ⟨z1, ms, z2, z3, z4⟩ := zip_rows (h := 2 ^ (k + 1)) a1 c1 a3 c3
        rw [a4, c4] at z1
        have o1 := half_ok (h := 2 ^ (k + 1)) (m := m1) h1 b1
        have o2 := half_ok (h := 2 ^ (k + 1)) (m := m2) h1 b2
        rw [r, a2, c2, z3, e2w]
        rw [z3] at z1
        refine ⟨⟨[m1] ++ ms ++ [m2], ?_, ?_, fun d hd => ?_⟩, ?_⟩
        · show ([m1] ++ ms ++ [m2]).length = ([2 ^ (k + 1)] ++ formK (k + 1) ++ [2 ^ (k + 1)]).length
          simp [z2]
        · show _ = List.zipWith Dd.swap ([m1] ++ ms ++ [m2]) ([2 ^ (k + 1)] ++ formK (k + 1) ++ [2 ^ (k + 1)])
          rw [zip_cat _ _ (by simp [z2])]
          rfl
        · rcases List.mem_append.mp hd with z | z
          · rcases List.mem_append.mp z with z | z
            · rw [List.mem_singleton.mp z]; exact o1
            · exact z4 d z
          · rw [List.mem_singleton.mp z]; exact o2
        · rw [List.append_assoc, List.singleton_append, rowL_cons o1 (fun d hd => (List.mem_append.mp hd).elim (z4 d) (fun z => by rw [List.mem_singleton.mp z]; exact o2)), rowL_snoc, z1, ← ej, joinL]
          have ll : Ld (2 * 2 ^ (k + 1)) (lo ++ higherL (2 ^ (k + 1)) up) := by
            have := app_ld (n := 2 ^ (k + 1)) (w := 2 ^ (k + 1)) (l1 ▸ even_ld e1) (l2 ▸ even_ld e2)
            rw [show 2 ^ (k + 1) + 2 ^ (k + 1) = 2 * 2 ^ (k + 1) by omega] at this
            exact this
          rw [then_assoc ll (Dd.led_ld o2)]
noncomputable def PapH (H : Hp) : Addr → Pap → Prop
  | a, .nil => H a = some (.tup [])
  | a, .node m1 m2 lo pl up pu => ∃ x y lx px ly py : Addr, H a = some (.tup [nV m1, nV m2, .ref x, .ref y]) ∧ H x = some (.tup [.ref lx, .ref px]) ∧ H lx = some (.tup (lo.map V.int)) ∧ PapH H px pl ∧
      H y = some (.tup [.ref ly, .ref py]) ∧ H ly = some (.tup (up.map V.int)) ∧ PapH H py pu
theorem PapH.same {H H' : Hp} (s : Same H H') : ∀ {P : Pap} {a : Addr}, PapH H a P → PapH H' a P
  | .nil, _, h => s _ _ h
  | .node _ _ _ _ _ _, _, ⟨x, y, lx, px, ly, py, h1, h2, h3, h4, h5, h6, h7⟩ => ⟨x, y, lx, px, ly, py, s _ _ h1, s _ _ h2, s _ _ h3, PapH.same s h4, s _ _ h5, s _ _ h6, PapH.same s h7⟩
theorem PapH.but {H H' : Hp} {p : Addr} (hH : Hand H p) (b : But p H H') : ∀ {P : Pap} {a : Addr}, PapH H a P → PapH H' a P
  | .nil, _, h => b.keep _ _ (hH.neT h) h
  | .node _ _ _ _ _ _, _, ⟨x, y, lx, px, ly, py, h1, h2, h3, h4, h5, h6, h7⟩ => ⟨x, y, lx, px, ly, py, b.keep _ _ (hH.neT h1) h1, b.keep _ _ (hH.neT h2) h2, b.keep _ _ (hH.neT h3) h3, PapH.but hH b h4, b.keep _ _ (hH.neT h5) h5, b.keep _ _ (hH.neT h6) h6, PapH.but hH b h7⟩
variable {ls : List Int}
theorem pow_le64 {k : Nat} (hk : k ≤ 6) : 2 ^ k ≤ 64 := Nat.pow_le_pow_right (n := 2) (by decide) hk
end L2

set_option linter.all false
set_option maxRecDepth 100000
set_option maxHeartbeats 1000000
namespace L2
open PySem PyProof.Rows Bm
theorem slicePick_rev (its : List Value) : slicePick its.toArray none none (some (-1)) = its.reverse.toArray := by
  unfold slicePick
  congr 1
  have b1 : (sliceBounds none none (some (-1)) its.toArray.size).1 = (its.length : Int) - 1 := by simp [sliceBounds]
  have b2 : (sliceBounds none none (some (-1)) its.toArray.size).2.1 = -1 := by simp [sliceBounds]
  have b3 : (sliceBounds none none (some (-1)) its.toArray.size).2.2 = -1 := rfl
  rw [b1, b2, b3]
  unfold sliceRange
  have hc : (if (-1 : Int) > 0 then (if (its.length : Int) - 1 < -1 then (-1 - ((its.length : Int) - 1) + -1 - 1) / -1 else 0) else (if (its.length : Int) - 1 > -1 then ((its.length : Int) - 1 - -1 - -1 - 1) / - -1 else 0)) = (its.length : Int) := by
    rw [if_neg (by decide)]
    by_cases h : (its.length : Int) - 1 > -1
    · rw [if_pos h, show (- -1 : Int) = 1 by decide, Int.ediv_one]; omega
    · rw [if_neg h]; omega
  simp only [hc, Int.toNat_natCast]
  apply List.ext_getElem?
  intro i
  have key : ∀ n, n ≤ its.length → List.filterMap (fun x => its.toArray[x]?) ((List.range n).map fun (k : Nat) => ((its.length : Int) - 1 + -1 * (k : Int)).toNat) = its.reverse.take n := by
    intro n
    induction n with
    | zero => intro _; rfl
    | succ n ih =>
      intro hn
      rw [List.range_succ, List.map_append, List.filterMap_append, ih (by omega), List.take_add_one]
      congr 1
      have e : ((its.length : Int) - 1 + -1 * (n : Int)).toNat = its.length - 1 - n := by omega
      rw [List.map_cons, List.map_nil, e, List.getElem?_reverse (by omega), List.getElem?_eq_getElem (by omega)]
      simp only [List.filterMap_cons, List.filterMap_nil, List.getElem?_toArray]
      rw [List.getElem?_eq_getElem (by omega)]
      rfl
  rw [key its.length (Nat.le_refl _), List.take_of_length_le (by simp)]
section
variable {X : Cx} {e st : Expr} {te : TE} {ts : TE} {pos p2 : Pos}
noncomputable def tRevS (K : PySem.W.Frag) (te ts : TE) : TE := fun σ H Q => te σ H fun x H1 => ts σ H1 fun y H2 => y = .int (-1) ∧ ∃ a xs, x = .ref a ∧ SqL K H2 a xs ∧ ∀ p, H2 p = none → Q (.ref p) (upd H2 p (.lst xs.reverse))
theorem pe_revS (he : PE X e te) (hs : PE X st ts) : PE X (.Subscript e (.Slice none none (some st) p2) pos) (tRevS X.K te ts) := by
  intro pins s σ H Q I h
  refine Subscript_ (thn (he pins s σ H _ I h) fun v s1 ⟨x, H1, I1, r1, q1⟩ => ?_)
  refine wpAny_Slice ?_
  rw [evalPart_none]
  refine wpAny_pure (wpAny_pure ?_)
  rw [evalPart_some]
  refine thn (hs pins s1 σ H1 _ I1 q1) fun vs s3 ⟨y, H3, I3, r3, q3⟩ => ?_
  obtain ⟨rfl, a, xs, rfl, hx, q⟩ := q3
  cases r1
  obtain ⟨t, rfl⟩ := r3
  have I4 : Inv X pins σ H3 { s3 with heap := s3.heap.push { cls := .type "slice", data := .fields #[.none, .none, .int (-1) t] } } := I3.kept (t' := s3.toks) fun b ob q => Heap.get?_push_of_some _ q
  obtain ⟨its, r, ht, hz⟩ := I4.list hx
  have hlen := r.length
  have hg : wpAny (model X.prog X.w) X.A (getItem (.ref a) (.ref s3.heap.objs.size)) (EP X pins σ Q) X.xe { s3 with heap := s3.heap.push { cls := .type "slice", data := .fields #[.none, .none, .int (-1) t] } } := by
    refine wpAny_getItem_list_slice ht.isList (Heap.IsSliceOf.new ..) .none .none (.int _ t) (by simp) ?_ (by rw [List.size_toArray] <;> omega)
    rw [slicePick_rev]
    refine ⟨.ref _, _, I4.laid (t' := s3.toks) (o := .lst xs.reverse) (fun b ob q => Heap.get?_push_of_some _ q) (Nat.le_refl _) ?_, rfl, q _ (I4.hok.fresh (Nat.le_refl _))⟩
    exact ⟨by rw [List.length_reverse]; exact hz, _, 0, r.reverse, Heap.get?_push_size _ rfl⟩
  exact tail_any (ops := [.ref a, .ref s3.heap.objs.size]) ht.isList.typeIs slot_list_getitem.lookup hg (by with_unfolding_all rfl)
theorem s_revS {K : PySem.W.Frag} {te ts : TE} {σ : St} {H : Hp} {Q : VK} (h : te σ H fun x H1 => ts σ H1 fun y H2 => y = .int (-1) ∧ ∃ a xs, x = .ref a ∧ SqL K H2 a xs ∧ ∀ p, H2 p = none → Q (.ref p) (upd H2 p (.lst xs.reverse))) : tRevS K te ts σ H Q := h
end
section
variable {h n : Nat} {ls : List Int} {X : Nat → Bool}
end
theorem formK_len : ∀ k, (formK k).length ≤ 2 * k
  | 0 => Nat.le_refl _
  | 1 => by show 1 ≤ 2; decide
  | k + 2 => by
    have ih := formK_len (k + 1)
    unfold formK
    rw [List.length_append, List.length_append, List.length_singleton]
    omega
theorem k_revS {X : Cx} {K : PySem.W.Frag} {e st : Expr} {te ts : TE} {pos p2 : Pos} (he : PE X e te) (hs : PE X st ts) (hK : X.K = K := by rfl) : PE X (.Subscript e (.Slice none none (some st) p2) pos) (tRevS K te ts) := hK ▸ pe_revS he hs
noncomputable def spHalvedD : Sp := fun vs H Q _ => ∃ p : Addr, vs = [.ref p] ∧ Hand H p ∧ ∀ (k : Nat) (H' : Hp), k ≤ 6 → But p H H' → Hand H' p → Q (nV (2 ^ k)) H'
noncomputable def spOrdered : Sp := fun vs H Q _ => ∃ (p : Addr) (w : Nat), vs = [.ref p, nV w] ∧ Hand H p ∧ 1 ≤ w ∧ w ≤ 64 ∧ ∀ (t : Addr) (ls : List Int) (H' : Hp), evenP ls → ls.length = w → But p H H' → Hand H' p → H' t = some (.tup (ls.map V.int)) → Q (.ref t) H'
noncomputable def spWaysK : Sp := fun vs H Q _ => ∃ k : Nat, vs = [nV (2 ^ k)] ∧ k ≤ 6 ∧ ∀ (l : Addr) (H' : Hp), Same H H' → H' l = some (.lst ((formK k).map nV)) → Q (.ref l) H'
noncomputable def upsK (k : Nat) : List Nat := [2, 4, 8, 16, 32].filter fun b => decide (b < 2 ^ k)
theorem ways_form : ∀ k, k ≤ 6 → (upsK k).reverse ++ List.replicate (if 2 ^ k > 1 then 1 else 0) 1 ++ upsK k = formK k := by
  intro k hk
  rcases (show k = 0 ∨ k = 1 ∨ k = 2 ∨ k = 3 ∨ k = 4 ∨ k = 5 ∨ k = 6 by omega) with rfl | rfl | rfl | rfl | rfl | rfl | rfl <;> decide
theorem even_of_perm {ms : List Nat} {w : Nat} (h : ms.Perm (List.range w)) : evenP (ms.map fun (x : Nat) => (x : Int)) := by
  unfold evenP
  rw [List.length_map, h.length_eq, List.length_range]
  exact h.map _
theorem swap_permL {α : Type} (l : List α) (i j : Nat) (hi : i < l.length) (hj : j < l.length) : ((l.set i l[j]).set j l[i]).Perm l := by
  have h := Array.swap_perm (xs := l.toArray) (i := i) (j := j) (by simpa using hi) (by simpa using hj)
  have := Array.perm_iff_toList_perm.mp h
  simpa [Array.swap] using this
theorem rev_range (w : Nat) : (List.range w).map (fun i => w - 1 - i) = (List.range w).reverse := by
  apply List.ext_getElem
  · simp
  · intro i h1 h2
    simp
theorem rot_range {w b : Nat} (hb : b < w) : (List.range w).map (fun i => (i + b) % w) = (List.range w).drop b ++ (List.range w).take b := by
  apply List.ext_getElem
  · simp; omega
  · intro i h1 h2
    rw [List.length_map, List.length_range] at h1
    rw [List.getElem_map, List.getElem_range, List.getElem_append]
    split
    · rename_i c
      rw [List.length_drop, List.length_range] at c
      rw [List.getElem_drop, List.getElem_range, Nat.mod_eq_of_lt (by omega)]
      omega
    · rename_i c
      rw [List.length_drop, List.length_range] at c
      rw [List.getElem_take, List.getElem_range, List.length_drop, List.length_range, Nat.mod_eq_sub_mod (by omega), Nat.mod_eq_of_lt (by omega)]
      omega
theorem rot_perm {w b : Nat} (hb : b < w) : ((List.range w).map fun i => (i + b) % w).Perm (List.range w) := by
  rw [rot_range hb]
  exact List.perm_append_comm.trans (by rw [List.take_append_drop])
theorem nV_int (ms : List Nat) : ms.map nV = (ms.map fun (x : Nat) => (x : Int)).map V.int := by rw [List.map_map]; rfl
end L2

set_option linter.all false
set_option maxRecDepth 100000
namespace L2
open PySem PySem.Spec PyProof.Rows Bm
noncomputable def PapOk : Nat → Pap → Prop
  | 0, .nil => True
  | k + 1, .node m1 m2 lo pl up pu => m1 < 2 ^ 2 ^ k ∧ m2 < 2 ^ 2 ^ k ∧ evenP lo ∧ lo.length = 2 ^ k ∧ evenP up ∧ up.length = 2 ^ k ∧ PapOk k pl ∧ PapOk k pu
  | _, _ => False
noncomputable def showsB : List Int → Pap → Bool
  | _, .nil => true
  | ls, .node m1 m2 lo pl up pu => decide (joinL lo.length m1 m2 lo up = ls) && (showsB lo pl && showsB up pu)
noncomputable def spExchH : Sp := fun vs H Q _ => ∃ (h m : Nat), vs = [nV h, nV m] ∧ 1 ≤ h ∧ h ≤ 32 ∧ m < 2 ^ h ∧ ∀ (t : Addr) (H' : Hp), Same H H' → H' t = some (.tup (((Dd.swap m h).led (2 * h)).map V.int)) → Q (.ref t) H'
noncomputable def spIsPart : Sp := fun vs H Q _ => ∃ (h : Nat) (x a t : Addr) (lo : List Int), vs = [nV h, .ref x] ∧ H x = some (.tup [.ref a, .ref t]) ∧ H a = some (.tup (lo.map V.int)) ∧ evenP lo ∧ lo.length = h ∧ 1 ≤ h ∧ h ≤ 32 ∧ ∀ H', Same H H' → Q (.bl true) H'
noncomputable def Four (H : Hp) (h : Nat) (t : Addr) (m1 m2 : Nat) (lo up : List Int) : Prop := ∃ x y a p b q : Addr, H t = some (.tup [nV m1, nV m2, .ref x, .ref y]) ∧ H x = some (.tup [.ref a, .ref p]) ∧ H a = some (.tup (lo.map V.int)) ∧ H y = some (.tup [.ref b, .ref q]) ∧ H b = some (.tup (up.map V.int)) ∧
  m1 < 2 ^ h ∧ m2 < 2 ^ h ∧ evenP lo ∧ lo.length = h ∧ evenP up ∧ up.length = h ∧ 1 ≤ h ∧ h ≤ 32
theorem Four.same {H H' : Hp} {h : Nat} {t : Addr} {m1 m2 : Nat} {lo up : List Int} (F : Four H h t m1 m2 lo up) (s : Same H H') : Four H' h t m1 m2 lo up := by
  obtain ⟨x, y, a, p, b, q, h1, h2, h3, h4, h5, r⟩ := F
  exact ⟨x, y, a, p, b, q, s _ _ h1, s _ _ h2, s _ _ h3, s _ _ h4, s _ _ h5, r⟩
noncomputable def spHasForm : Sp := fun vs H Q _ => ∃ (h : Nat) (t : Addr) (m1 m2 : Nat) (lo up : List Int), vs = [nV h, .ref t] ∧ Four H h t m1 m2 lo up ∧ ∀ H', Same H H' → Q (.bl true) H'
noncomputable def spJoined : Sp := fun vs H Q _ => ∃ (h : Nat) (t : Addr) (m1 m2 : Nat) (lo up : List Int), vs = [nV h, .ref t] ∧ Four H h t m1 m2 lo up ∧ ∀ (r : Addr) (H' : Hp), Same H H' → H' r = some (.tup ((joinL h m1 m2 lo up).map V.int)) → Q (.ref r) H'
noncomputable def spShowsH : Nat → Sp
  | 0 => fun _ _ _ _ => False
  | j + 1 => fun vs H Q _ => ∃ (a t : Addr) (ls : List Int) (P : Pap) (k : Nat), vs = [.ref a, .ref t] ∧ H a = some (.tup (ls.map V.int)) ∧ ls.length = 2 ^ k ∧ PapH H t P ∧ PapOk k P ∧ k ≤ j ∧ k ≤ 6 ∧ ∀ H', Same H H' → Q (.bl (showsB ls P)) H'
noncomputable def spShowsP : Nat → Sp
  | 0 => fun _ _ _ _ => False
  | j + 1 => fun vs H Q _ => ∃ (x a t : Addr) (ls : List Int) (P : Pap) (k : Nat), vs = [.ref x] ∧ H x = some (.tup [.ref a, .ref t]) ∧ H a = some (.tup (ls.map V.int)) ∧ ls.length = 2 ^ k ∧ PapH H t P ∧ PapOk k P ∧ k < j ∧ k ≤ 6 ∧ ∀ H', Same H H' → Q (.bl (showsB ls P)) H'
theorem even_ldw {ls : List Int} {w : Nat} (E : evenP ls) (hl : ls.length = w) : Ld w ls := hl ▸ even_ld E
theorem cat_ldw {h : Nat} {lo up : List Int} (E1 : evenP lo) (l1 : lo.length = h) (E2 : evenP up) (l2 : up.length = h) : Ld (2 * h) (lo ++ higherL h up) := by
  have := app_ld (n := h) (w := h) (even_ldw E1 l1) (even_ldw E2 l2)
  rw [show h + h = 2 * h by omega] at this
  exact this
section
variable {h : Nat} {A B : List Int}
theorem cat_even (eA : evenP A) (lA : A.length = h) (eB : evenP B) (lB : B.length = h) : evenP (A ++ higherL h B) := by
  unfold evenP at *
  rw [List.length_append, higher_len, lA, lB, show h + h = 2 * h by omega, stay_cat]
  rw [lA] at eA
  rw [lB] at eB
  exact eA.append (eB.map _)
end
end L2

set_option linter.all false
set_option maxRecDepth 100000
namespace L2
open PySem PySem.Spec PyProof.Rows Bm
end L2

set_option linter.all false
set_option maxRecDepth 100000
namespace L2
open PySem PySem.Spec PyProof.Rows Bm
section
variable {X : Cx} {a b c : Expr} {ta : TA} {p p2 pos pos2 : Pos}
end
end L2

set_option linter.all false
set_option maxRecDepth 100000
namespace L2
open PySem PySem.Spec PyProof.Rows Bm
noncomputable def Evs (H : Hp) (A : List (Addr × List Int)) (w : Nat) : Prop := ∀ q ∈ A, H q.1 = some (.tup (q.2.map V.int)) ∧ evenP q.2 ∧ q.2.length = w
end L2

set_option linter.all false
set_option maxRecDepth 100000
namespace L2
open PySem PySem.Spec PyProof.Rows Bm
section
variable {X : Cx} {i o : Expr} {ty td : TE} {pos : Pos}
theorem pt_dNotIn (hu : X.A.units + 64 < cLine) (hi : PE X i ty) (ho : PE X o td) (h1 : behindInMarks .NotIn o = false := by rfl) : PT X (.Compare i [.NotIn] [o] pos) (tB (tDNotIn ty td)) := pt_cmp (pc_dnotin (Nat.lt_of_le_of_lt (Nat.add_le_add_left (by decide) _) hu) hi ho) h1
theorem pe_dIx (hu : X.A.units + 64 < cLine) (ho : PE X o td) (hi : PE X i ty) (hs : NoSl i := by exact fun _ _ => rfl) : PE X (.Subscript o i pos) (tDGet td ty) := pe_dget (Nat.lt_of_le_of_lt (Nat.add_le_add_left (by decide) _) hu) ho hi hs
end
section
variable {ty td : TE} {σ : St} {H : Hp} {Q : VK}
theorem s_tDNotIn (h : ty σ H fun y H1 => td σ H1 fun x H2 => ∃ a o, x = .ref a ∧ DGet H2 a y o ∧ Q (.bl (!o.isSome)) H2) : tDNotIn ty td σ H Q := h
theorem s_tDGet (h : td σ H fun x H1 => ty σ H1 fun y H2 => ∃ a v, x = .ref a ∧ DGet H2 a y (some v) ∧ Q v H2) : tDGet td ty σ H Q := h
end
end L2

set_option linter.all false
set_option maxRecDepth 100000
namespace PySem
open Sem (wp)
open AutoSeq1 (wpAny_loadPart')
section
variable {prog : Program} {w : World} {A : Around} {E : Value → Shared → Prop} {s : Shared}
end
section
variable {prog : Program} {w : World} {A : Around} {E : Value → Shared → Prop} {s : Shared}
end
end PySem
namespace L2
open PySem PySem.Spec PyProof.Rows Bm
section
variable {X : Cx} {a : Expr} {ta : TA} {p p1 p2 pos pos1 pos2 : Pos}
end
section
variable {X : Cx} {e lw st : Expr} {te tl : TE} {ts : TE} {pos p2 : Pos}
end
end L2

set_option linter.all false
set_option maxRecDepth 100000
namespace L2
open PySem PySem.Spec PyProof.Rows Bm
noncomputable def MxN (H : Hp) (l : Addr) (n : Nat) (g : Nat → Nat → Nat) : Prop := ∃ as : List Addr, as.length = n ∧ H l = some (.lst (as.map V.ref)) ∧ ∀ i (h : i < as.length), H as[i] = some (.lst (((List.range n).map (g i)).map nV))
end L2

set_option linter.all false
set_option maxRecDepth 100000
namespace L2
open PySem PySem.Spec PyProof.Rows Bm
end L2

set_option linter.all false
set_option maxRecDepth 100000
namespace L2
open PySem PySem.Spec PyProof.Rows Bm
theorem maskN_lt {w : Nat} {ps : List Nat} (h : ∀ x ∈ ps, x < w) : maskN ps < 2 ^ w := by
  refine Nat.lt_pow_two_of_testBit _ fun i hi => ?_
  rw [testBit_maskN, decide_eq_false_iff_not]
  exact fun z => absurd (h i z) (by omega)
end L2

set_option linter.all false
set_option maxRecDepth 100000
namespace L2
open PySem PySem.Spec PyProof.Rows Bm
section
variable {X : Cx} {o i value : Expr} {td ty tv : TE} {pos pos' : Pos}
theorem ps_dputE (hu : X.A.units + 64 < cLine) (ho : PE X o td) (hi : PE X i ty) (hv : PE X value tv) (hs : swapsWith value (some (.Subscript o i pos')) pos.line X.env = pure false := by rfl) :
    PS X (.Assign [.Subscript o i pos'] value pos) (sDPut td ty tv) := ps_dput (Nat.lt_of_le_of_lt (Nat.add_le_add_left (by decide) _) hu) ho hi hv hs
end
section
variable {td ty tv : TE} {D : Ends} {σ : St} {H : Hp} {Q : VK}
theorem s_dput (h : tv σ H fun v H1 => td σ H1 fun x H2 => ty σ H2 fun y H3 => ∃ a H4, x = .ref a ∧ DPut H3 a y v H4 ∧ D.nx σ H4) : sDPut td ty tv D σ H := h
theorem s_dnew (h : ∀ p H', H p = none → Same H H' → H' p = some (.dK []) → Q (.ref p) H') : tDNewK σ H Q := fun p hp => h p _ hp (same_upd hp) upd_same
end
noncomputable def flipC (b : Bool) (c : Cr) : Cr := fun p => (c p).map fun x => x ^^ b
theorem flip_none {b : Bool} {c : Cr} {p : Nat} : flipC b c p = none ↔ c p = none := by
  unfold flipC
  cases c p <;> simp
theorem flip_put {b x : Bool} {c : Cr} {q : Nat} : flipC b (putC c q x) = putC (flipC b c) q (x ^^ b) := by
  funext p
  unfold flipC putC
  split <;> rfl
theorem flip_flip {b : Bool} {c : Cr} : flipC b (flipC b c) = c := by
  funext p
  unfold flipC
  cases c p with
  | none => rfl
  | some x => cases x <;> cases b <;> rfl
theorem flip_closed {h : Nat} {τ : Nat → Nat} {b : Bool} {c : Cr} (C : Closed h τ c) : Closed h τ (flipC b c) := by
  have key : ∀ p q : Nat, (∀ x, c p = some x → c q = some (!x)) → ∀ x, flipC b c p = some x → flipC b c q = some (!x) := fun p q hh x hx => by
    unfold flipC at hx ⊢
    cases e : c p with
    | none => rw [e] at hx; cases hx
    | some y =>
      rw [e] at hx
      rw [hh y e]
      have : (y ^^ b) = x := Option.some.inj hx
      rw [← this]
      cases y <;> cases b <;> rfl
  exact ⟨fun p x hp => key p _ (fun y => C.t p y hp) x, fun p x hp => key p _ (fun y => C.o p y hp) x⟩
theorem flip_open {h : Nat} {b : Bool} {c : Cr} : openN h (flipC b c) = openN h c := by
  unfold openN
  congr 1
  funext p
  unfold flipC
  cases c p <;> rfl
noncomputable def SideD (ls : List Int) (h : Nat) (c : Cr) (kvs : List (Key × V)) : Prop :=
  (∀ e, e < 2 * h → valV kvs (.inl (e : Int)) = (c (plcE ls e)).map fun x => V.bl (!x)) ∧ kvs.length ≤ 2 * (2 * h - openN h c) ∧ openN h c ≤ 2 * h
theorem side_nil (ls : List Int) (h : Nat) : SideD ls h (fun _ => none) [] := by
  refine ⟨fun e he => rfl, Nat.zero_le _, ?_⟩
  unfold openN
  have := List.countP_le_length (p := fun p => ((fun _ => none : Cr) p).isNone) (l := List.range (2 * h))
  rw [List.length_range] at this
  exact this
theorem side_put {ls : List Int} {h : Nat} {c : Cr} {kvs : List (Key × V)} {e : Nat} {x : Bool} (E : evenP ls) (hl : ls.length = 2 * h) (he : e < 2 * h) (S : ∀ e, e < 2 * h → valV kvs (.inl (e : Int)) = (c (plcE ls e)).map fun x => V.bl (!x)) :
    ∀ e', e' < 2 * h → valV (putK kvs (.inl (e : Int)) (.bl x)) (.inl (e' : Int)) = (putC c (plcE ls e) (!x) (plcE ls e')).map fun x => V.bl (!x) := by
  intro e' he'
  rw [valV_put]
  by_cases h1 : e' = e
  · subst h1
    rw [if_pos rfl, put_same]
    simp
  · have h2 : plcE ls e' ≠ plcE ls e := fun z => h1 (by
      have a1 := (plc_of E (e := e') (by omega)).2
      have a2 := (plc_of E (e := e) (by omega)).2
      rw [← a1, ← a2, z])
    rw [if_neg (fun z => h1 (by have := Sum.inl.inj z; omega)), put_ne _ h2, S e' he']
theorem side_step {ls : List Int} {h q p0 : Nat} {c : Cr} {kvs : List (Key × V)} {b : Bool} (E : evenP ls) (hl : ls.length = 2 * h) (hq : q < 2 * h) (hn : c (plcE ls q) = none) (S : SideD ls h c kvs) :
    SideD ls h (putC (putC c (plcE ls q) b) (tauL h ls (plcE ls q)) (!b)) (putK (putK kvs (.inl (q : Int)) (.bl (!b))) (.inl ((opp h q : Nat) : Int)) (.bl b)) ∧ openN h (putC (putC c (plcE ls q) b) (tauL h ls (plcE ls q)) (!b)) < openN h c := by
  have a1 := plc_of E (e := q) (by omega)
  have et : tauL h ls (plcE ls q) = plcE ls (opp h q) := by unfold tauL; rw [a1.2]
  have ho : openN h (putC (putC c (plcE ls q) b) (tauL h ls (plcE ls q)) (!b)) < openN h c := by
    have h1 := open_less (h := h) (c := flipC b c) (τq := tauL h ls (plcE ls q)) (q := plcE ls q) (by omega) (flip_none.mpr hn)
    rw [flip_open] at h1
    have h2 : putC (putC (flipC b c) (plcE ls q) false) (tauL h ls (plcE ls q)) true = flipC b (putC (putC c (plcE ls q) b) (tauL h ls (plcE ls q)) (!b)) := by
      rw [flip_put, flip_put]
      cases b <;> rfl
    rw [h2, flip_open] at h1
    exact h1
  refine ⟨⟨?_, ?_, ?_⟩, ho⟩
  · rw [et]
    have s1 := side_put E hl hq S.1 (x := !b)
    rw [Bool.not_not] at s1
    have s2 := side_put E hl (opp_lt hq) s1 (x := b)
    exact s2
  · have l1 := length_putK kvs (.inl (q : Int)) (.bl (!b))
    have l2 := length_putK (putK kvs (.inl (q : Int)) (.bl (!b))) (.inl ((opp h q : Nat) : Int)) (.bl b)
    have := S.2.1
    have := S.2.2
    omega
  · have := S.2.2
    omega
noncomputable def ChainF (h : Nat) (ls : List Int) (b : Bool) (c : Cr) (p0 q : Nat) : Prop := Chain h (tauL h ls) (flipC b c) p0 q
theorem chainF_start {h p0 : Nat} {ls : List Int} {c : Cr} {b : Bool} (P : Prs h (tauL h ls)) (C : Closed h (tauL h ls) c) (hp : p0 < 2 * h) (hn : c p0 = none) : ChainF h ls b (putC (putC c p0 b) (tauL h ls p0) (!b)) p0 (opp h (tauL h ls p0)) := by
  have := chain_start P (flip_closed (b := b) C) hp (flip_none.mpr hn)
  unfold ChainF
  rw [flip_put, flip_put]
  cases b <;> exact this
theorem chainF_step {h p0 q : Nat} {ls : List Int} {c : Cr} {b : Bool} (P : Prs h (tauL h ls)) (C : ChainF h ls b c p0 q) (hn : c q = none) : ChainF h ls b (putC (putC c q b) (tauL h ls q) (!b)) p0 (opp h (tauL h ls q)) := by
  have := chain_step P C (flip_none.mpr hn)
  unfold ChainF
  rw [flip_put, flip_put]
  cases b <;> exact this
theorem chainF_end {h p0 q : Nat} {ls : List Int} {c : Cr} {b : Bool} (C : ChainF h ls b c p0 q) (hn : c q ≠ none) : Closed h (tauL h ls) c := by
  have := flip_closed (b := b) (chain_end C (fun z => hn (flip_none.mp z)))
  rw [flip_flip] at this
  exact this
noncomputable def Good (k : Nat) (ls : List Int) (P : Pap) : Prop := PapOk k P ∧ showsB ls P = true ∧ Shows ls P
theorem good_node {k : Nat} {ls : List Int} {X : Nat → Bool} {pl pu : Pap} (E : evenP ls) (hl : ls.length = 2 ^ (k + 1)) (C : Cross (2 ^ k) ls X) (g1 : Good k (lowL (2 ^ k) ls X) pl) (g2 : Good k (uppL (2 ^ k) ls X) pu) :
    Good (k + 1) ls (.node (m1N (2 ^ k) ls X) (m2N (2 ^ k) X) (lowL (2 ^ k) ls X) pl (uppL (2 ^ k) ls X) pu) := by
  have h2 : ls.length = 2 * 2 ^ k := by rw [hl, Nat.pow_succ]; omega
  have e1 := low_even E h2 C
  have e2 := upp_even E h2 C
  have l1 : (lowL (2 ^ k) ls X).length = 2 ^ k := by simp [lowL]
  have l2 : (uppL (2 ^ k) ls X).length = 2 ^ k := by simp [uppL]
  refine ⟨⟨m1_lt, m2_lt, e1, l1, e2, l2, g1.1, g2.1⟩, ?_, ⟨2 ^ k, Nat.two_pow_pos k, h2, m1_lt, m2_lt, l1, l2, e1, e2, join_cross E h2 C, g1.2.2, g2.2.2⟩⟩
  show (decide (joinL (lowL (2 ^ k) ls X).length _ _ _ _ = ls) && (showsB _ _ && showsB _ _)) = true
  rw [l1, g1.2.1, g2.2.1, decide_eq_true (join_cross E h2 C)]
  rfl
noncomputable def masksP (w : Nat) : Pap → List Nat
  | .nil => []
  | .node m1 m2 _ pl _ pu => if w / 2 = 1 then [m1 ^^^ m2] else [m1] ++ List.zipWith (fun a b => a ||| b * 2 ^ (w / 2)) (masksP (w / 2) pl) (masksP (w / 2) pu) ++ [m2]
noncomputable def spSides : Sp := fun vs H Q _ => ∃ (p a : Addr) (ls : List Int) (h : Nat), vs = [.ref p, .ref a] ∧ Hand H p ∧ H a = some (.tup (ls.map V.int)) ∧ evenP ls ∧ ls.length = 2 * h ∧ 1 ≤ h ∧ h ≤ 32 ∧
  ∀ (d : Addr) (kvs : List (Key × V)) (X : Nat → Bool) (H' : Hp), Cross h ls X → (∀ e, e < 2 * h → valV kvs (.inl (e : Int)) = some (.bl (!X (plcE ls e)))) → d ≠ p → But p H H' → Hand H' p → H' d = some (.dK kvs) → Q (.ref d) H'
noncomputable def spMade24 : Nat → Sp
  | 0 => fun _ _ _ _ => False
  | j + 1 => fun vs H Q _ => ∃ (p a : Addr) (ls : List Int) (k : Nat), vs = [.ref p, .ref a] ∧ Hand H p ∧ H a = some (.tup (ls.map V.int)) ∧ evenP ls ∧ ls.length = 2 ^ k ∧ k ≤ j ∧ k ≤ 6 ∧
      ∀ (t : Addr) (P : Pap) (H' : Hp), Good k ls P → But p H H' → Hand H' p → PapH H' t P → Q (.ref t) H'
noncomputable def spMasks24 : Nat → Sp
  | 0 => fun _ _ _ _ => False
  | j + 1 => fun vs H Q _ => ∃ (a : Addr) (ls : List Int) (P : Pap) (k : Nat), vs = [.ref a, nV (2 ^ k)] ∧ PapH H a P ∧ Shows ls P ∧ ls.length = 2 ^ k ∧ k ≤ j ∧ k ≤ 6 ∧
      ∀ (l : Addr) (H' : Hp), H l = none → Same H H' → H' l = some (.lst ((masksP (2 ^ k) P).map nV)) → Q (.ref l) H'
theorem sum_mask (f : Nat → Bool) : ∀ h : Nat, ((((List.range h).filter f).map fun p => 2 ^ p).sum) = maskN ((List.range h).filter f)
  | 0 => rfl
  | h + 1 => by
    have ih := sum_mask f h
    have lt : maskN ((List.range h).filter f) < 2 ^ h := maskN_lt fun x hx => List.mem_range.mp (List.mem_filter.mp hx).1
    rw [List.range_succ, List.filter_append]
    cases hf : f h with
    | true =>
      rw [List.filter_cons_of_pos hf, List.map_append, List.sum_append, ih, List.filter_nil, maskN_snoc]
      have := or_shift (c := h) 1 lt
      rw [Nat.one_mul] at this
      rw [this]
      simp
    | false =>
      rw [List.filter_cons_of_neg (by rw [hf]; decide), List.filter_nil, List.append_nil]
      exact ih
noncomputable def halfL (b : Bool) (h : Nat) (ls : List Int) (X : Nat → Bool) : List Int := if b then lowL h ls X else uppL h ls X
noncomputable def halfE (b : Bool) (h : Nat) (ls : List Int) (X : Nat → Bool) (r : Nat) : Nat := if b then lowE h ls X r else uppE h ls X r
theorem halfL_eq (b : Bool) (h : Nat) (ls : List Int) (X : Nat → Bool) : halfL b h ls X = (List.range h).map fun r => (halfE b h ls X r : Int) := by cases b <;> rfl
theorem halfL_even {b : Bool} {h : Nat} {ls : List Int} {X : Nat → Bool} (E : evenP ls) (hl : ls.length = 2 * h) (C : Cross h ls X) : evenP (halfL b h ls X) ∧ (halfL b h ls X).length = h := by
  cases b
  · exact ⟨upp_even E hl C, by simp [halfL, uppL]⟩
  · exact ⟨low_even E hl C, by simp [halfL, lowL]⟩
theorem half_pick {b : Bool} {h r : Nat} {ls : List Int} {X : Nat → Bool} (E : evenP ls) (hl : ls.length = 2 * h) (C : Cross h ls X) (hr : r < h) :
    (([srcP ls r, srcP ls (r + h)].filter fun s => (!X (plcE ls s)) == b).map fun s => nV (s % h)) = [nV (halfE b h ls X r)] := by
  have p0 := (src_of E (p := r) (by omega)).2.2
  have p1 := (src_of E (p := r + h) (by omega)).2.2
  have o := C.o r (by omega)
  rw [show opp h r = r + h by unfold opp; rw [if_neg (by omega)]] at o
  unfold halfE lowE uppE
  cases hx : X r <;> cases b <;> simp [p0, p1, o, hx]
noncomputable def Part (H : Hp) (k : Nat) (x : Addr) (ls : List Int) (P : Pap) : Prop := ∃ lx px : Addr, H x = some (.tup [.ref lx, .ref px]) ∧ H lx = some (.tup (ls.map V.int)) ∧ PapH H px P ∧ Good k ls P
theorem Part.same {H H' : Hp} {k : Nat} {x : Addr} {ls : List Int} {P : Pap} (s : Same H H') : Part H k x ls P → Part H' k x ls P := fun ⟨lx, px, h1, h2, h3, h4⟩ => ⟨lx, px, s _ _ h1, s _ _ h2, h3.same s, h4⟩
theorem Part.but {H H' : Hp} {p : Addr} (hH : Hand H p) (b : But p H H') {k : Nat} {x : Addr} {ls : List Int} {P : Pap} : Part H k x ls P → Part H' k x ls P := fun ⟨lx, px, h1, h2, h3, h4⟩ => ⟨lx, px, b.keep _ _ (hH.neT h1) h1, b.keep _ _ (hH.neT h2) h2, h3.but hH b, h4⟩
theorem PapH.updL {H : Hp} {l : Addr} {xs : List V} {o : HO} (e : H l = some (.lst xs)) : ∀ {P : Pap} {a : Addr}, PapH H a P → PapH (upd H l o) a P
  | .nil, a, h => by
    show upd H l o a = _
    rw [upd_ne (fun z => by rw [z] at h; exact absurd (e.symm.trans h) (by simp))]
    exact h
  | .node _ _ _ _ _ _, a, ⟨x, y, lx, px, ly, py, h1, h2, h3, h4, h5, h6, h7⟩ => by
    have nt : ∀ {b : Addr} {ys : List V}, H b = some (.tup ys) → upd H l o b = some (.tup ys) := fun {b ys} q => by
      rw [upd_ne (fun z => by rw [z] at q; exact absurd (e.symm.trans q) (by simp))]
      exact q
    exact ⟨x, y, lx, px, ly, py, nt h1, nt h2, nt h3, PapH.updL e h4, nt h5, nt h6, PapH.updL e h7⟩
theorem Part.updL {H : Hp} {l : Addr} {xs : List V} {o : HO} (e : H l = some (.lst xs)) {k : Nat} {x : Addr} {ls : List Int} {P : Pap} : Part H k x ls P → Part (upd H l o) k x ls P := fun ⟨lx, px, h1, h2, h3, h4⟩ => by
  have nt : ∀ {b : Addr} {ys : List V}, H b = some (.tup ys) → upd H l o b = some (.tup ys) := fun {b ys} q => by
    rw [upd_ne (fun z => by rw [z] at q; exact absurd (e.symm.trans q) (by simp))]
    exact q
  exact ⟨lx, px, nt h1, nt h2, PapH.updL e h3, h4⟩
theorem for_seqTN {K : PySem.W.Frag} {a : Addr} {xs : List V} {g : TG} {tb : TS} {D : Ends} {σ : St} {H : Hp} (Pv : Nat → St → Hp → Prop) (h0 : Pv 0 σ H) (hl : ∀ i σ H', Pv i σ H' → SqT K H' a xs)
    (step : ∀ i x σ H', xs[i]? = some x → Pv i σ H' → g x σ H' fun σ2 H2 => tb { D with nx := Pv (i + 1), ct := Pv (i + 1), bk := D.nx } σ2 H2) (done : ∀ σ H', Pv xs.length σ H' → D.nx σ H') :
    ∃ b, V.ref a = .ref b ∧ (((∃ xs, SqL K H b xs) ∧ ForW (Itl K b) g tb D σ H) ∨ ((∃ xs, SqT K H b xs) ∧ ForW (Itt K b) g tb D σ H)) :=
  ⟨a, rfl, .inr ⟨⟨xs, hl 0 σ H h0⟩, for_tup Pv h0 (fun i σ H' _ q => hl i σ H' q) step done⟩⟩
theorem zip_beside (h : Nat) : ∀ (F A B : List Nat), A.length = F.length → B.length = F.length → List.zipWith (besideD h) (List.zipWith Dd.swap A F) (List.zipWith Dd.swap B F) = List.zipWith Dd.swap (List.zipWith (fun a b => a ||| b * 2 ^ h) A B) F
  | [], [], [], _, _ => rfl
  | f :: F, a :: A, b :: B, ha, hb => by
    have := zip_beside h F A B (by simpa using ha) (by simpa using hb)
    simp only [List.zipWith_cons_cons, this]
    rfl
theorem masks_ok : ∀ (k : Nat) (P : Pap) (ls : List Int), ls.length = 2 ^ k → Shows ls P → rowP (2 ^ k) P = List.zipWith Dd.swap (masksP (2 ^ k) P) (formK k) ∧ (masksP (2 ^ k) P).length = (formK k).length ∧ ∀ m ∈ masksP (2 ^ k) P, m < 2 ^ 2 ^ k
  | 0, .nil, _, _, _ => ⟨rfl, rfl, fun _ z => (nomatch z)⟩
  | 0, .node m1 m2 lo pl up pu, ls, hl, ⟨h, h1, e, _⟩ => by rw [hl] at e; exact absurd e (by omega)
  | k + 1, .nil, ls, hl, ⟨e, _⟩ => by
    rw [hl] at e
    have := Nat.two_pow_pos k
    rw [Nat.pow_succ] at e
    omega
  | k + 1, .node m1 m2 lo pl up pu, ls, hl, ⟨h, h1, e, b1, b2, ll, lu, el, eu, ej, sl, su⟩ => by
    have ep : 2 ^ (k + 1) = 2 * 2 ^ k := by rw [Nat.pow_succ]; omega
    have hh : h = 2 ^ k := by omega
    subst hh
    have hd : 2 ^ (k + 1) / 2 = 2 ^ k := by omega
    obtain ⟨r1, z1, m1b⟩ := masks_ok k pl lo ll sl
    obtain ⟨r2, z2, m2b⟩ := masks_ok k pu up lu su
    have up2 : 2 ^ 2 ^ k ≤ 2 ^ 2 ^ (k + 1) := Nat.pow_le_pow_right (by decide) (by omega)
    have er : rowP (2 ^ (k + 1)) (.node m1 m2 lo pl up pu) = if 2 ^ k = 1 then [.swap (m1 ^^^ m2) 1] else [.swap m1 (2 ^ k)] ++ List.zipWith (besideD (2 ^ k)) (rowP (2 ^ k) pl) (rowP (2 ^ k) pu) ++ [.swap m2 (2 ^ k)] := by
      rw [rowP, hd]
    have em : masksP (2 ^ (k + 1)) (.node m1 m2 lo pl up pu) = if 2 ^ k = 1 then [m1 ^^^ m2] else [m1] ++ List.zipWith (fun a b => a ||| b * 2 ^ 2 ^ k) (masksP (2 ^ k) pl) (masksP (2 ^ k) pu) ++ [m2] := by
      rw [masksP, hd]
    rw [er, em]
    cases k with
    | zero =>
      refine ⟨rfl, rfl, fun m hm => ?_⟩
      rw [if_pos rfl, List.mem_singleton] at hm
      rw [hm]
      exact Nat.lt_of_lt_of_le (Nat.xor_lt_two_pow b1 b2) up2
    | succ k =>
      have n1 : ¬ 2 ^ (k + 1) = 1 := by
        have := Nat.two_pow_pos k
        rw [Nat.pow_succ]
        omega
      rw [if_neg n1, if_neg n1, r1, r2, zip_beside _ _ _ _ z1 z2]
      have zz : (List.zipWith (fun a b => a ||| b * 2 ^ 2 ^ (k + 1)) (masksP (2 ^ (k + 1)) pl) (masksP (2 ^ (k + 1)) pu)).length = (formK (k + 1)).length := by rw [List.length_zipWith, z1, z2]; omega
      refine ⟨?_, ?_, fun m hm => ?_⟩
      · show _ = List.zipWith Dd.swap _ ([2 ^ (k + 1)] ++ formK (k + 1) ++ [2 ^ (k + 1)])
        rw [zip_cat _ _ (by rw [List.length_append, List.length_append, zz]; rfl), zip_cat (a := [m1]) (b := [2 ^ (k + 1)]) _ _ rfl]
        rfl
      · show _ = ([2 ^ (k + 1)] ++ formK (k + 1) ++ [2 ^ (k + 1)]).length
        simp only [List.length_append, zz, List.length_cons, List.length_nil]
      · rcases List.mem_append.mp hm with hm | hm
        · rcases List.mem_append.mp hm with hm | hm
          · rw [List.mem_singleton.mp hm]; exact Nat.lt_of_lt_of_le b1 up2
          · obtain ⟨i, hi, rfl⟩ := List.mem_iff_getElem.mp hm
            rw [List.getElem_zipWith]
            have q1 := m1b _ (List.getElem_mem (l := masksP (2 ^ (k + 1)) pl) (n := i) (by rw [List.length_zipWith] at hi; omega))
            have q2 := m2b _ (List.getElem_mem (l := masksP (2 ^ (k + 1)) pu) (n := i) (by rw [List.length_zipWith] at hi; omega))
            refine Nat.or_lt_two_pow (Nat.lt_of_lt_of_le q1 up2) ?_
            rw [show 2 ^ 2 ^ (k + 1 + 1) = 2 ^ 2 ^ (k + 1) * 2 ^ 2 ^ (k + 1) by rw [← Nat.pow_add]; congr 1; omega]
            exact Nat.mul_lt_mul_of_pos_right q2 (Nat.two_pow_pos _)
        · rw [List.mem_singleton.mp hm]; exact Nat.lt_of_lt_of_le b2 up2
theorem join_other {h m1 m2 : Nat} {lo up ls : List Int} (h1 : 1 ≤ h) (b1 : m1 < 2 ^ h) (b2 : m2 < 2 ^ h) (el : evenP lo) (ll : lo.length = h) (eu : evenP up) (lu : up.length = h) (e : joinL h m1 m2 lo up = ls) : joinL h ((2 ^ h - 1) ^^^ m1) m2 lo up ≠ ls := by
  have E := cat_even el ll eu lu
  have lA : (lo ++ higherL h up).length = 2 * h := by rw [List.length_append, higher_len, ll, lu]; omega
  have val : ∀ m, m < 2 ^ h → (joinL h m m2 lo up).getD 0 0 = ((if m.testBit (srcP (lo ++ higherL h up) (if m2.testBit (0 % h) then opp h 0 else 0) % h) then opp h (srcP (lo ++ higherL h up) (if m2.testBit (0 % h) then opp h 0 else 0)) else srcP (lo ++ higherL h up) (if m2.testBit (0 % h) then opp h 0 else 0) : Nat) : Int) := fun m hm => by
    have z0 : 0 < 2 * h := by omega
    have g2 : ((Dd.swap m2 h).led (2 * h)).getD 0 0 = ((if m2.testBit (0 % h) then opp h 0 else 0 : Nat) : Int) := by rw [Dd.led_getD _ z0, half_src b2 z0]
    have e1 : (if m2.testBit (0 % h) then opp h 0 else 0) < 2 * h := by
      split
      · exact opp_lt z0
      · exact z0
    generalize (if m2.testBit (0 % h) then opp h 0 else 0) = x at g2 e1
    have sA := src_of E (p := x) (by omega)
    have e2 : srcP (lo ++ higherL h up) x < 2 * h := by omega
    unfold joinL
    rw [then_getD (by rw [Dd.led_len]; exact z0) (by rw [g2]; exact Int.natCast_nonneg _), g2, Int.toNat_natCast, then_getD (by omega) (by rw [sA.2.1]; exact Int.natCast_nonneg _), sA.2.1, Int.toNat_natCast, Dd.led_getD _ e2, half_src hm e2]
  have hm' : (2 ^ h - 1) ^^^ m1 < 2 ^ h := Nat.xor_lt_two_pow (Nat.sub_lt (Nat.two_pow_pos h) (by decide)) b1
  intro z
  have v1 := val m1 b1
  have v2 := val _ hm'
  rw [e] at v1
  rw [z, v1] at v2
  have z0 : 0 < 2 * h := by omega
  have e1 : (if m2.testBit (0 % h) then opp h 0 else 0) < 2 * h := by
    split
    · exact opp_lt z0
    · exact z0
  generalize (if m2.testBit (0 % h) then opp h 0 else 0) = x at v2 e1
  have sA := src_of E (p := x) (by omega)
  have e2 : srcP (lo ++ higherL h up) x < 2 * h := by omega
  generalize srcP (lo ++ higherL h up) x = y at v2 e2
  have hb : ((2 ^ h - 1) ^^^ m1).testBit (y % h) = !m1.testBit (y % h) := by
    rw [Nat.testBit_xor, full_bit (Nat.mod_lt _ (by omega))]
    simp
  rw [hb] at v2
  have ne := opp_ne e2
  cases hc : m1.testBit (y % h) <;> rw [hc] at v2 <;> simp at v2 <;> omega
end L2



set_option maxHeartbeats 4000000
open L2 in
local macro_rules | `(tactic| walk_at "pv") => `(tactic| exact ⟨rfl, by first | exact Or.inl rfl | exact Or.inr (.inl rfl) | exact Or.inr (.inr rfl), by decide, by decide⟩)
open L2 in
local macro_rules | `(tactic| walk_at "vis") => `(tactic| first | exact .inl rfl | exact .inr rfl | assumption)
open L2 in
local macro_rules | `(tactic| walk_at "lk2") => `(tactic| first | assumption | exact upd_same | (refine (?h : ∀ o, upd _ _ o _ = some (HO.lst _)) _; (case h => assumption)))
open L2 in
local macro_rules | `(tactic| walk_at "lk") => `(tactic| first | assumption | exact upd_same | exact SqL.of (by walk_at "lk2") | exact SqT.of (by walk_at "lk2") | (refine (?h : ∀ o, upd _ _ o _ = some (HO.lst _)) _; (case h => assumption)))
open L2 in
local macro_rules | `(tactic| walk_at "side") => `(tactic| first | omega | decide | exact ⟨by omega, by omega⟩ | exact ⟨by omega, by omega, by omega⟩ | exact .inl ⟨by omega, by omega⟩ | exact .inr ⟨by omega, by omega⟩)
open L2 in
local macro_rules | `(tactic| walk_at "sz") => `(tactic| (refine small5 ?_; first | omega | (simp only [List.length_map, List.length_append, List.length_cons, List.length_nil, List.length_range, List.length_take, Bm.bitsB]; omega)))
open L2 in
local macro_rules | `(tactic| walk_at "st") => `(tactic| first
  | (with_reducible first | refine s_seq ?_ | refine s_nx ?_ | refine s_rt ?_ | refine s_asg ?_ | refine s_gname ?_)
  | ((with_reducible refine s_var (v := ?v) ?e ?_); (case e => exact rfl))
  | (with_reducible first | refine s_c ?_ | refine s_op ?_ | refine s_cons ?_ | refine s_nil ?_ | refine s_ri0 ?_)
  | ((with_reducible refine s_ri ?c ?_); (case c => walk_at "side"))
  | (with_reducible first | refine s_add_i ?_)
  | ((with_reducible refine s_mulk_i ?c ?_); (case c => walk_at "side"))
  | (with_reducible first | refine s_eq_i ?_ | refine s_ne_i ?_ | refine s_eq_b ?_)
  | ((with_reducible refine s_eq_sT ?e ?_); (case e => decide +kernel))
  | ((with_reducible refine s_eq_sF ?e ?_); (case e => decide +kernel))
  | (with_reducible first | refine s_ret ?_ | refine s_if ?_ | refine s_test ?_ | refine s_b ?_ | refine s_ebl ?_ | refine s_not ?_ | refine s_or ?_ | refine s_and ?_ | refine s_andV ?_ | refine s_notV ?_ | refine s_ifE ?_ | refine s_un ?_ | refine s_ru ?_ | refine s_cb ?_ | refine s_call ?_ | refine s_lst ?_ | refine s_tup ?_ | refine s_drop ?_ | refine s_next ?_ | refine s_gcons ?_ | refine s_gnil ?_ | refine s_gsub ?_ | refine s_true ?_ | refine s_iseq ?_ | refine s_rng1 ?_ | refine s_for ?_ | refine s_comp ?_ | refine s_asgComp ?_ | refine s_sl ?_ | refine s_nopart ?_ | refine s_part ?_ | refine s_eint ?_ | refine s_zip ?_)
  | ((with_reducible refine s_lenL (xs := ?xs) ?hq ?_); (case hq => walk_at "lk"))
  | ((with_reducible refine s_lenT (xs := ?xs) ?hq ?_); (case hq => walk_at "lk"))
  | ((with_reducible refine s_ix_l (xs := ?xs) (v := ?v) ?hq ?h0 ?e ?_); (case hq => walk_at "lk"); (case h0 => decide); (case e => exact rfl))
  | ((with_reducible refine s_ix_t (xs := ?xs) (v := ?v) ?hq ?h0 ?e ?_); (case hq => walk_at "lk"); (case h0 => decide); (case e => exact rfl))
  | ((with_reducible refine s_set (xs := ?xs) (j := ?j) ?hp ?e ?_); (case hp => walk_at "lk"); (case e => exact rfl); (try rw [upd_upd]))
  | (with_reducible first | refine s_revS ?_ | refine s_abs ?_ | refine s_int_b ?_ | refine s_max ?_ | refine s_min ?_ | refine s_isnB ?_ | refine s_bits ?_ | refine s_isi_ii ?_ | refine s_isi_ib ?_)
  | ((with_reducible refine s_isi_tt (xs := ?xs) ?hq ?_); (case hq => walk_at "lk"))
  | (with_reducible first | refine s_ifnt ?_ | refine s_ifnf ?_)
  | ((with_reducible refine s_gtup (xs := ?xs) ?hq ?hl ?_); (case hq => walk_at "lk"); (case hl => exact rfl))
  | ((with_reducible refine s_ext1 ?e ?_); (case e => exact rfl))
  | ((with_reducible refine s_ext2 ?e ?f ?_); (case e => exact rfl); (case f => exact rfl))
  | (with_reducible first | refine s_tyI ?_)
  | ((with_reducible refine s_tyL (xs := ?xs) ?hq ?_); (case hq => walk_at "lk"))
  | ((with_reducible refine s_app (xs := ?xs) ?hp ?hz ?_); (case hp => walk_at "lk"); (case hz => walk_at "sz"); (try rw [upd_upd]))
  | (with_reducible first | refine s_chain ?_ | refine s_lrange ?_ | refine s_add2_i ?_ | refine s_enum ?_)
  | (with_reducible first | refine s_par2 ?_ | refine s_two ?_ | refine s_bm0 ?_ | refine s_bm ?_ | refine iteT ?_ | refine iteF ?_))
open L2 in
local macro_rules | `(tactic| walk_at "go") => `(tactic| repeat (walk_at "st"))
open L2 in
local macro_rules | `(tactic| walk_at "goI") => `(tactic| repeat ((fail_if_success (with_reducible refine s_ifE ?_)); (fail_if_success (with_reducible refine s_if ?_)); walk_at "st"))
def PySem.W.Fast.tw14218698251402938030 := 0
def PySem.W.Fast.tw3692468334495350686 := 0
def PySem.W.Fast.tw4431041595891806035 := 0
def PySem.W.Fast.tw10452993710984744983 := 0
def PySem.W.Fast.tw2713560338313830050 := 0
def PySem.W.Fast.tw820835738462893100 := 0
def PySem.W.Fast.tw16268719441923544122 := 0
def PySem.W.Fast.tw15786475393847248367 := 0
def PySem.W.Fast.tw1363542758570894063 := 0
def PySem.W.Fast.tw319714181767344561 := 0
def PySem.W.Fast.tw4832514532287350922 := 0
def PySem.W.Fast.tw5958095352121538064 := 0
def PySem.W.Fast.tw5996795333205295759 := 0
def PySem.W.Fast.tw9383431816631791674 := 0
def PySem.W.Fast.tw1289872247185788222 := 0
def PySem.W.Fast.tw8455625822658534978 := 0
def PySem.W.Fast.tw16539601532422157581 := 0
def PySem.W.Fast.tw4115195560990345752 := 0
def PySem.W.Fast.tw8637910509483983691 := 0
def PySem.W.Fast.tw16523517960736586104 := 0
def PySem.W.Fast.tw10860377955410905180 := 0
def PySem.W.Fast.tw11237030891175365153 := 0
def PySem.W.Fast.tw10427156346426122890 := 0
def PySem.W.Fast.tw11998126824781639689 := 0
def PySem.W.Fast.tw16220315637408452452 := 0
def PySem.W.Fast.tw13088550735199281069 := 0
def PySem.W.Fast.tw16886593850049217402 := 0
def PySem.W.Fast.tw10510998954431649543 := 0
def PySem.W.Fast.tw4685431347083144166 := 0
def PySem.W.Fast.tw3003629923786982679 := 0
def PySem.W.Fast.tw9448006243654416031 := 0
def PySem.W.Fast.tw6807742019599874613 := 0
def PySem.W.Fast.tw15370134779004155803 := 0
def PySem.W.Fast.tw6896801230820228015 := 0
def PySem.W.Fast.tw7846707698151595638 := 0
def PySem.W.Fast.tw5634130960641626710 := 0
def PySem.W.Fast.tw8156060145951383651 := 0
def PySem.W.Fast.tw2894412513551123218 := 0
def PySem.W.Fast.tw860718703735402891 := 0
def PySem.W.Fast.tw16663472853185655111 := 0
def PySem.W.Fast.tw17675820461428674963 := 0
def PySem.W.Fast.tw11021626479400159602 := 0
def PySem.W.Fast.tw11117638990936097862 := 0
def PySem.W.Fast.tw17442681381748795643 := 0
def PySem.W.Fast.tw8638314447149680022 := 0
def PySem.W.Fast.tw13295847309742011884 := 0
def PySem.W.Fast.tw13706788340014447349 := 0
def PySem.W.Fast.tw10496466008139573324 := 0
def PySem.W.Fast.tw16218817289975909279 := 0
def PySem.W.Fast.tw16341612257848065157 := 0
def PySem.W.Fast.tw15469640205137503261 := 0
def PySem.W.Fast.tw6423474655665992602 := 0
def PySem.W.Fast.tw601631886808198193 := 0
def PySem.W.Fast.tw9187244612479867067 := 0
def PySem.W.Fast.tw6933458149378654142 := 0
def PySem.W.Fast.tw15699061617441952403 := 0
def PySem.W.Fast.tw7828080145913186938 := 0
def PySem.W.Fast.tw3993783464163388632 := 0
def PySem.W.Fast.tw7004196146764994428 := 0
def PySem.W.Fast.tw17360819390029894722 := 0
def PySem.W.Fast.tw8411057581641207805 := 0
def PySem.W.Fast.tw10523862496714311445 := 0
def PySem.W.Fast.tw9875204250237323596 := 0
def PySem.W.Fast.tw12907869557088489486 := 0
def PySem.W.Fast.tw11218569636815056413 := 0
def PySem.W.Fast.tw9498323414090189877 := 0
def PySem.W.Fast.tw3149312902602973236 := 0
namespace Lw
open PySem PyProof.Rows L2 Bm
def top (i : Nat) : Stmt := PySem.Challenge.pw_bitlead_k24_other_papers.main.body.getD i (.Pass ⟨0, 0, 0, 0⟩)
abbrev s_low : Stmt := top 3
abbrev s_is_within : Stmt := top 5
abbrev s_is_leading : Stmt := top 10
abbrev s_is_even : Stmt := top 12
abbrev s_is_part : Stmt := top 23
abbrev s_has_form : Stmt := top 22
abbrev s_then : Stmt := top 11
abbrev s_bit_at : Stmt := top 1
abbrev s_places_in : Stmt := top 2
abbrev s_gather_leading : Stmt := top 15
abbrev s_strew_leading : Stmt := top 16
abbrev s_place_or_nought : Stmt := top 18
abbrev s_copy_source : Stmt := top 19
abbrev s_source_of : Stmt := top 17
abbrev s_deed_leading : Stmt := top 14
abbrev s_exchange : Stmt := top 26
abbrev s_joined : Stmt := top 25
abbrev s_shows_part : Stmt := top 24
abbrev s_shows_halves : Stmt := top 21
abbrev s__law_hand : Stmt := top 28
abbrev s__law_draw : Stmt := top 29
abbrev s__law_halved : Stmt := top 30
abbrev s__law_even : Stmt := top 31
abbrev s__law_ordered : Stmt := top 32
abbrev s__law_walked : Stmt := top 33
abbrev s__law_ways : Stmt := top 34
abbrev s__law_sides : Stmt := top 35
abbrev s__law_made : Stmt := top 36
abbrev s__law_masks : Stmt := top 37
abbrev s_law : Stmt := top 38
structure Blt (K : PySem.W.Frag) (mg : Str → Option Value) : Prop where
  b_abs : mg "abs" = none
  b_all : mg "all" = none
  b_bool : mg "bool" = none
  b_enumerate : mg "enumerate" = none
  b_int : mg "int" = none
  b_isinstance : mg "isinstance" = none
  b_len : mg "len" = none
  b_list : mg "list" = none
  b_max : mg "max" = none
  b_min : mg "min" = none
  b_range : mg "range" = none
  b_sorted : mg "sorted" = none
  b_sum : mg "sum" = none
  b_tuple : mg "tuple" = none
  b_zip : mg "zip" = none
  g_NOUGHT : ∃ t, mg "NOUGHT" = some (.int (-1) t)
  g_ONE : ∃ t, mg "ONE" = some (.int (-2) t)
  g_WIDEST : ∃ t, mg "WIDEST" = some (.int (64) t)
section
variable {P : Program} {w : World} {K : PySem.W.Frag} {mg : Str → Option Value} {base : Heap}
theorem sc_low : FnScope ["many"] ["many"] (defScope s_low) := ⟨rfl, rfl, rfl, by decide +kernel, rfl, by decide +kernel, by decide +kernel⟩
theorem ok_low {a : Addr} {fd : FuncData} (B : Blt K mg)  (F : Fun K "low" "low" s_low a fd) : FnOk P w K mg base CX0 1 a fd ["many"] spLow := by
  refine F.ok sc_low (fun vs H Q E h => ?_) (fun cdv A outer s H vs Q E hr h => ?_)
  · obtain ⟨n, rfl, _⟩ := h
    rfl
  · have nd := sc_low.nd
    have hu := hr.units
    obtain ⟨n, rfl, hn, q⟩ := h
    refine ⟨_, (@pss_one _ _ _ (@ps_ret _ _ _ _ (@pe_op _ _ _ _ _ _ _ _ (@op_sub _) (@pe_op _ _ _ _ _ _ _ _ (@op_shl _) (@pe_int _ _ _ _) (@pv1 _ 0 _ _ (by walk_at "pv"))) (@pe_int _ _ _ _)))), ?_⟩
    walk_at "go"
    rw [low_val]
    exact q
theorem sc_is_within : FnScope ["thing", "least", "most"] ["thing", "least", "most"] (defScope s_is_within) := ⟨rfl, rfl, rfl, by decide +kernel, rfl, by decide +kernel, by decide +kernel⟩
theorem ok_is_within {a : Addr} {fd : FuncData} (B : Blt K mg)  (F : Fun K "is_within" "is_within" s_is_within a fd) : FnOk P w K mg base CX0 1 a fd ["thing", "least", "most"] spWithin := by
  refine F.ok sc_is_within (fun vs H Q E h => ?_) (fun cdv A outer s H vs Q E hr h => ?_)
  · obtain ⟨i, lo, hi, rfl, _⟩ := h
    rfl
  · have nd := sc_is_within.nd
    have hu := hr.units
    obtain ⟨i, lo, hi, rfl, k⟩ := h
    refine ⟨_, (@pss_cons _ _ _ _ _ (@ps_if _ _ _ _ _ _ _ _ (@PW.pt _ _ _ (@pw_or _ _ _ _ _ _ _ (@pt_val _ _ _ (@pe_callB _ _ _ _ _ _ _ _ _ (@k_isi _ K (by rfl)) rfl B.b_isinstance boot_isinstance (@pa_cons _ _ _ _ _ (@pv1 _ 0 _ _ (by walk_at "pv")) (@pa_cons _ _ _ _ _ (@pe_bltn _ _ (.ty "bool") _ _ rfl B.b_bool boot_bool rfl (by decide) (by decide)) (@pa_nil _) (by rfl)) (by rfl)) (by decide) (by decide) (by rfl) (by rfl)) (by intro _; rfl)) (@pw_or1 _ _ _ _ (@pt_not _ _ _ _ (@pt_val _ _ _ (@pe_callB _ _ _ _ _ _ _ _ _ (@k_isi _ K (by rfl)) rfl B.b_isinstance boot_isinstance (@pa_cons _ _ _ _ _ (@pv1 _ 0 _ _ (by walk_at "pv")) (@pa_cons _ _ _ _ _ (@pe_bltn _ _ (.ty "int") _ _ rfl B.b_int boot_int rfl (by decide) (by decide)) (@pa_nil _) (by rfl)) (by rfl)) (by decide) (by decide) (by rfl) (by rfl)) (by intro _; rfl)))))) (@pss_one _ _ _ (@ps_ret _ _ _ _ (@pe_bl _ _ _ _))) (@pss_nil _)) (@pss_one _ _ _ (@ps_ret _ _ _ _ (@pe_chain _ _ _ _ _ _ _ _ _ _ _ _ (@op_le _) (@op_le _) (@pv1 _ 1 _ _ (by walk_at "pv")) (@pv1 _ 0 _ _ (by walk_at "pv")) (@pv1 _ 2 _ _ (by walk_at "pv")) (by with_unfolding_all rfl))))), ?_⟩
    walk_at "go"
    refine s_ifd (fun h1 => ?_) (fun h1 => ?_)
    · walk_at "go"
      rw [decide_eq_true h1, Bool.true_and] at k
      exact k
    · walk_at "go"
      rw [decide_eq_false h1, Bool.false_and] at k
      exact k
theorem sc_is_leading : FnScope ["thing", "width"] ["thing"] (defScope s_is_leading) := ⟨rfl, rfl, rfl, by decide +kernel, rfl, by decide +kernel, by decide +kernel⟩
theorem ok_is_leading {a : Addr} {fd : FuncData} (B : Blt K mg) (g_is_within : FnAt P w K mg base "is_within" ["thing", "least", "most"] 1 spWithin) (F : Fun K "is_leading" "is_leading" s_is_leading a fd) : FnOk P w K mg base CX0 2 a fd ["thing"] spIsLd := by
  refine F.ok sc_is_leading (fun vs H Q E h => ?_) (fun cdv A outer s H vs Q E hr h => ?_)
  · obtain ⟨b, ls, w, rfl, _⟩ := h
    rfl
  · have nd := sc_is_leading.nd
    have hu := hr.units
    obtain ⟨b, ls, w, rfl, hb, hL, hw1, hw2, k⟩ := h
    have hlen : (ls.map V.int).length = w := by rw [List.length_map]; exact hL.1
    refine ⟨_, (@pss_cons _ _ _ _ _ (@ps_if _ _ _ _ _ _ _ _ (@pt_not _ _ _ _ (@pt_val _ _ _ (@pe_callB _ _ _ _ _ _ _ _ _ (@k_isi _ K (by rfl)) rfl B.b_isinstance boot_isinstance (@pa_cons _ _ _ _ _ (@pv1 _ 0 _ _ (by walk_at "pv")) (@pa_cons _ _ _ _ _ (@pe_bltn _ _ (.ty "tuple") _ _ rfl B.b_tuple boot_tuple rfl (by decide) (by decide)) (@pa_nil _) (by rfl)) (by rfl)) (by decide) (by decide) (by rfl) (by rfl)) (by intro _; rfl))) (@pss_one _ _ _ (@ps_ret _ _ _ _ (@pe_bl _ _ _ _))) (@pss_nil _)) (@pss_cons _ _ _ _ _ (@ps_set _ _ 1 _ _ _ _ nd rfl (Or.inr rfl) (@pe_callB _ _ _ _ _ _ _ _ _ (@k_len _ K (by rfl)) rfl B.b_len boot_len (@pa_cons _ _ _ _ _ (@pv1 _ 0 _ _ (by walk_at "pv")) (@pa_nil _) (by rfl)) (by decide) (by decide) (by rfl) (by rfl)) (by rfl) (by walk_at "vis")) (@pss_one _ _ _ (@ps_ret _ _ _ _ (@pe_and _ _ _ _ _ _ _ (@pe_chain _ _ _ _ _ _ _ _ _ _ _ _ (@op_le _) (@op_le _) (@pe_int _ _ _ _) (@pv1 _ 1 _ _ (by walk_at "pv")) (@pe_globI _ _ _ _ B.g_WIDEST (by rfl) (by decide)) (by with_unfolding_all rfl)) (@pe_one _ _ _ _ _ (@pe_callB _ _ _ _ _ _ _ _ _ (@k_all _ K rfl (by rfl)) rfl B.b_all boot_all (@pa_cons _ _ _ _ _ (@pe_comp _ _ _ _ _ _ (defScope s_is_leading) _ ["thing", "width"] ["entry", "width"] [none, some 1] _ _ _ _ rfl (@k_pi_seq _ K _ _ _ (@pv1 _ 0 _ _ (by walk_at "pv")) (by rfl)) (fun _ _ _ _ => (@pg_name _ _ 0 _ (show List.Nodup (["entry", "width"] : List Str) by decide +kernel) rfl (Or.inl rfl) (by walk_at "vis"))) (fun _ _ _ _ => (@pts_nil _)) (fun _ _ _ _ => (@pe_own _ _ _ _ _ _ _ _ _ _ g_is_within (hr.mono (by decide)) (@pa_cons _ _ _ _ _ (@pv1 _ 0 _ _ (by walk_at "pv")) (@pa_cons _ _ _ _ _ (@pe_globI _ _ _ _ B.g_ONE (by rfl) (by decide)) (@pa_cons _ _ _ _ _ (@pe_op _ _ _ _ _ _ _ _ (@op_sub _) (@pv1 _ 1 _ _ (by walk_at "pv")) (@pe_int _ _ _ _)) (@pa_nil _) (by rfl)) (by rfl)) (by rfl)) (by rfl) (by decide) (by rfl) (by rfl))) (by decide +kernel) (by rfl) (by rfl) (by intro _; rfl)) (@pa_nil _) (by rfl)) (by decide) (by decide) (by rfl) (by rfl)))))))), ?_⟩
    walk_at "go"
    rw [hlen]
    refine s_ifd (fun h1 => ?_) (fun h1 => absurd (show (1 : Int) ≤ (w : Int) by omega) h1)
    walk_at "go"
    rw [decide_eq_true (show (w : Int) ≤ 64 by omega)]
    walk_at "go"
    refine comp_seqT (SqT.of hb) ?_
    refine comp_tup (xs := ls.map V.int) (fun i acc H' => H' = H ∧ i ≤ 64 ∧ acc = (List.replicate i true).map V.bl) ⟨rfl, by omega, rfl⟩ (fun i acc H' h => ?_) (fun i acc H' h => by rw [h.1]; exact SqT.of hb) ?_ ?_
    · obtain ⟨_, hi, rfl⟩ := h
      rw [List.length_map, List.length_replicate]
      exact Nat.le_of_lt (small5 (by omega))
    · rintro i x acc H' hx ⟨rfl, hi, rfl⟩
      obtain ⟨e, he, rfl⟩ := nth_map hx
      have hil : i < ls.length := (List.getElem?_eq_some_iff.mp he).1
      have hi2 : i < w := by rw [← hL.1]; exact hil
      have q := hL.2 e (List.mem_of_getElem? he)
      walk_at "go"
      refine ⟨e, -2, (w : Int) - 1, rfl, ?_⟩
      rw [decide_eq_true q.1, decide_eq_true (show e ≤ (w : Int) - 1 by omega)]
      refine ⟨rfl, by omega, ?_⟩
      rw [List.replicate_succ', List.map_append]
      rfl
    · rintro acc H' ⟨rfl, _, rfl⟩ p hp
      walk_at "go"
      refine ⟨p, _, rfl, SqL.of upd_same, ?_⟩
      rw [show (fun bs : List Bool => bs.all id) (List.replicate (ls.map V.int).length true) = true by simp]
      exact k _ (same_upd hp)
theorem sc_is_even : FnScope ["leading"] ["leading"] (defScope s_is_even) := ⟨rfl, rfl, rfl, by decide +kernel, rfl, by decide +kernel, by decide +kernel⟩
theorem ok_is_even {a : Addr} {fd : FuncData} (B : Blt K mg)  (F : Fun K "is_even" "is_even" s_is_even a fd) : FnOk P w K mg base CX0 1 a fd ["leading"] spIsEven := by
  refine F.ok sc_is_even (fun vs H Q E h => ?_) (fun cdv A outer s H vs Q E hr h => ?_)
  · obtain ⟨b, ls, w, rfl, _⟩ := h
    rfl
  · have nd := sc_is_even.nd
    have hu := hr.units
    obtain ⟨b, ls, w, rfl, hb, hL, hw, k⟩ := h
    have hlen : ls.length ≤ 64 := by rw [hL.1]; exact hw
    refine ⟨_, (@pss_one _ _ _ (@ps_ret _ _ _ _ (@pe_cmpR _ _ _ _ _ _ _ _ (@k_eq _ K hu (by rfl)) (@pe_callB _ _ _ _ _ _ _ _ _ (@k_sorted _ K (by rfl)) rfl B.b_sorted boot_sorted (@pa_cons _ _ _ _ _ (@pv1 _ 0 _ _ (by walk_at "pv")) (@pa_nil _) (by rfl)) (by decide) (by decide) (by rfl) (by rfl)) (@pe_list_of_range _ K _ _ _ _ _ _ rfl B.b_list B.b_range (@pa_cons _ _ _ _ _ (@pe_callB _ _ _ _ _ _ _ _ _ (@k_len _ K (by rfl)) rfl B.b_len boot_len (@pa_cons _ _ _ _ _ (@pv1 _ 0 _ _ (by walk_at "pv")) (@pa_nil _) (by rfl)) (by decide) (by decide) (by rfl) (by rfl)) (@pa_nil _) (by rfl)) (by rfl) (by rfl) (by rfl) (by rfl) (by rfl)) (@nomark _ _ (by decide) (by decide))))), ?_⟩
    walk_at "go"
    refine ⟨b, ls, rfl, .inr (SqT.of hb), hlen, fun p ns hp pm sd => ?_⟩
    have s1 := same_upd (o := .lst (ns.map V.int)) hp
    have n1 : upd H p (.lst (ns.map V.int)) p = some (.lst (ns.map V.int)) := upd_same
    generalize upd H p (.lst (ns.map V.int)) = H1 at s1 n1 ⊢
    have hb := s1 _ _ hb
    walk_at "go"
    rw [List.length_map]
    refine ⟨ls.length, rfl, by omega, fun l hl => ?_⟩
    rw [stay_map]
    have s2 := same_upd (o := .lst ((stayL ls.length).map V.int)) hl
    refine s_eq_l (SqL.of (s2 _ _ n1)) (SqL.of upd_same) ?_
    rw [even_sorted pm sd]
    exact k _ (s1.trans s2)
theorem sc_is_part : FnScope ["half", "thing"] ["half", "thing"] (defScope s_is_part) := ⟨rfl, rfl, rfl, by decide +kernel, rfl, by decide +kernel, by decide +kernel⟩
theorem ok_is_part {a : Addr} {fd : FuncData} (B : Blt K mg) (g_is_leading : FnAt P w K mg base "is_leading" ["thing"] 2 spIsLd) (g_is_even : FnAt P w K mg base "is_even" ["leading"] 1 spIsEven) (F : Fun K "is_part" "is_part" s_is_part a fd) : FnOk P w K mg base CX0 3 a fd ["half", "thing"] spIsPart := by
  refine F.ok sc_is_part (fun vs H Q E h => ?_) (fun cdv A outer s H vs Q E hr h => ?_)
  · obtain ⟨h, x, a, t, lo, rfl, _⟩ := h
    rfl
  · have nd := sc_is_part.nd
    have hu := hr.units
    obtain ⟨h, x, a, t, lo, rfl, hx, ha, hev, hl, h1, h32, k⟩ := h
    refine ⟨_, (@pss_cons _ _ _ _ _ (@ps_if _ _ _ _ _ _ _ _ (@PW.pt _ _ _ (@pw_or _ _ _ _ _ _ _ (@pt_not _ _ _ _ (@pt_val _ _ _ (@pe_callB _ _ _ _ _ _ _ _ _ (@k_isi _ K (by rfl)) rfl B.b_isinstance boot_isinstance (@pa_cons _ _ _ _ _ (@pv1 _ 1 _ _ (by walk_at "pv")) (@pa_cons _ _ _ _ _ (@pe_bltn _ _ (.ty "tuple") _ _ rfl B.b_tuple boot_tuple rfl (by decide) (by decide)) (@pa_nil _) (by rfl)) (by rfl)) (by decide) (by decide) (by rfl) (by rfl)) (by intro _; rfl))) (@pw_or1 _ _ _ _ (@pt_cmpR _ _ _ _ _ _ _ _ (@k_ne _ K hu (by rfl)) (@pe_callB _ _ _ _ _ _ _ _ _ (@k_len _ K (by rfl)) rfl B.b_len boot_len (@pa_cons _ _ _ _ _ (@pv1 _ 1 _ _ (by walk_at "pv")) (@pa_nil _) (by rfl)) (by decide) (by decide) (by rfl) (by rfl)) (@pe_int _ _ _ _) (@nomark _ _ (by decide) (by decide)))))) (@pss_one _ _ _ (@ps_ret _ _ _ _ (@pe_bl _ _ _ _))) (@pss_nil _)) (@pss_one _ _ _ (@ps_ret _ _ _ _ (@pe_and _ _ _ _ _ _ _ (@pe_own _ _ _ _ _ _ _ _ _ _ g_is_leading (hr.mono (by decide)) (@pa_cons _ _ _ _ _ (@pe_ix _ _ _ _ _ _ _ (@k_ix _ K (by rfl)) (@pv1 _ 1 _ _ (by walk_at "pv")) (@pe_int _ _ _ _) (fun _ _ => rfl)) (@pa_nil _) (by rfl)) (by rfl) (by decide) (by rfl) (by rfl)) (@pe_and _ _ _ _ _ _ _ (@pe_cmpR _ _ _ _ _ _ _ _ (@k_eq _ K hu (by rfl)) (@pe_callB _ _ _ _ _ _ _ _ _ (@k_len _ K (by rfl)) rfl B.b_len boot_len (@pa_cons _ _ _ _ _ (@pe_ix _ _ _ _ _ _ _ (@k_ix _ K (by rfl)) (@pv1 _ 1 _ _ (by walk_at "pv")) (@pe_int _ _ _ _) (fun _ _ => rfl)) (@pa_nil _) (by rfl)) (by decide) (by decide) (by rfl) (by rfl)) (@pv1 _ 0 _ _ (by walk_at "pv")) (@nomark _ _ (by decide) (by decide))) (@pe_one _ _ _ _ _ (@pe_own _ _ _ _ _ _ _ _ _ _ g_is_even (hr.mono (by decide)) (@pa_cons _ _ _ _ _ (@pe_ix _ _ _ _ _ _ _ (@k_ix _ K (by rfl)) (@pv1 _ 1 _ _ (by walk_at "pv")) (@pe_int _ _ _ _) (fun _ _ => rfl)) (@pa_nil _) (by rfl)) (by rfl) (by decide) (by rfl) (by rfl)))))))), ?_⟩
    walk_at "go"
    refine s_if_f rfl ?_
    walk_at "go"
    refine ⟨a, lo, h, rfl, ha, even_ldw hev hl, h1, by omega, fun H1 s1 => ?_⟩
    have hx := s1 _ _ hx
    have ha := s1 _ _ ha
    walk_at "go"
    rw [List.length_map, hl, beq_self_eq_true]
    walk_at "go"
    refine ⟨a, lo, h, rfl, ha, even_ldw hev hl, by omega, fun H2 s2 => ?_⟩
    rw [show evenB lo = true from decide_eq_true hev]
    exact k H2 (s1.trans s2)
theorem sc_has_form : FnScope ["half", "paper"] ["half", "paper"] (defScope s_has_form) := ⟨rfl, rfl, rfl, by decide +kernel, rfl, by decide +kernel, by decide +kernel⟩
theorem ok_has_form {a : Addr} {fd : FuncData} (B : Blt K mg) (g_low : FnAt P w K mg base "low" ["many"] 1 spLow) (g_is_within : FnAt P w K mg base "is_within" ["thing", "least", "most"] 1 spWithin) (g_is_part : FnAt P w K mg base "is_part" ["half", "thing"] 3 spIsPart) (F : Fun K "has_form" "has_form" s_has_form a fd) : FnOk P w K mg base CX0 4 a fd ["half", "paper"] spHasForm := by
  refine F.ok sc_has_form (fun vs H Q E h => ?_) (fun cdv A outer s H vs Q E hr h => ?_)
  · obtain ⟨h, t, m1, m2, lo, up, rfl, _⟩ := h
    rfl
  · have nd := sc_has_form.nd
    have hu := hr.units
    obtain ⟨h, t, m1, m2, lo, up, rfl, ⟨x, y, a, p, b, q, ht, hx, ha, hy, hb, b1, b2, e1, l1, e2, l2, h1, h32⟩, k⟩ := h
    have w1 : (decide ((0 : Int) ≤ (m1 : Int)) && decide ((m1 : Int) ≤ ((2 ^ h - 1 : Nat) : Int))) = true := by
      rw [decide_eq_true (by omega), decide_eq_true (by omega)]; rfl
    have w2 : (decide ((0 : Int) ≤ (m2 : Int)) && decide ((m2 : Int) ≤ ((2 ^ h - 1 : Nat) : Int))) = true := by
      rw [decide_eq_true (by omega), decide_eq_true (by omega)]; rfl
    refine ⟨_, (@pss_cons _ _ _ _ _ (@ps_if _ _ _ _ _ _ _ _ (@pt_cmpR _ _ _ _ _ _ _ _ (@k_ne _ K hu (by rfl)) (@pe_callB _ _ _ _ _ _ _ _ _ (@k_len _ K (by rfl)) rfl B.b_len boot_len (@pa_cons _ _ _ _ _ (@pv1 _ 1 _ _ (by walk_at "pv")) (@pa_nil _) (by rfl)) (by decide) (by decide) (by rfl) (by rfl)) (@pe_int _ _ _ _) (@nomark _ _ (by decide) (by decide))) (@pss_one _ _ _ (@ps_ret _ _ _ _ (@pe_bl _ _ _ _))) (@pss_nil _)) (@pss_cons _ _ _ _ _ (@ps_if _ _ _ _ _ _ _ _ (@PW.pt _ _ _ (@pw_or _ _ _ _ _ _ _ (@pt_not _ _ _ _ (@pt_val _ _ _ (@pe_own _ _ _ _ _ _ _ _ _ _ g_is_within (hr.mono (by decide)) (@pa_cons _ _ _ _ _ (@pe_ix _ _ _ _ _ _ _ (@k_ix _ K (by rfl)) (@pv1 _ 1 _ _ (by walk_at "pv")) (@pe_int _ _ _ _) (fun _ _ => rfl)) (@pa_cons _ _ _ _ _ (@pe_int _ _ _ _) (@pa_cons _ _ _ _ _ (@pe_own _ _ _ _ _ _ _ _ _ _ g_low (hr.mono (by decide)) (@pa_cons _ _ _ _ _ (@pv1 _ 0 _ _ (by walk_at "pv")) (@pa_nil _) (by rfl)) (by rfl) (by decide) (by rfl) (by rfl)) (@pa_nil _) (by rfl)) (by rfl)) (by rfl)) (by rfl) (by decide) (by rfl) (by rfl)) (by intro _; rfl))) (@pw_or1 _ _ _ _ (@pt_not _ _ _ _ (@pt_val _ _ _ (@pe_own _ _ _ _ _ _ _ _ _ _ g_is_within (hr.mono (by decide)) (@pa_cons _ _ _ _ _ (@pe_ix _ _ _ _ _ _ _ (@k_ix _ K (by rfl)) (@pv1 _ 1 _ _ (by walk_at "pv")) (@pe_int _ _ _ _) (fun _ _ => rfl)) (@pa_cons _ _ _ _ _ (@pe_int _ _ _ _) (@pa_cons _ _ _ _ _ (@pe_own _ _ _ _ _ _ _ _ _ _ g_low (hr.mono (by decide)) (@pa_cons _ _ _ _ _ (@pv1 _ 0 _ _ (by walk_at "pv")) (@pa_nil _) (by rfl)) (by rfl) (by decide) (by rfl) (by rfl)) (@pa_nil _) (by rfl)) (by rfl)) (by rfl)) (by rfl) (by decide) (by rfl) (by rfl)) (by intro _; rfl)))))) (@pss_one _ _ _ (@ps_ret _ _ _ _ (@pe_bl _ _ _ _))) (@pss_nil _)) (@pss_one _ _ _ (@ps_ret _ _ _ _ (@pe_and _ _ _ _ _ _ _ (@pe_own _ _ _ _ _ _ _ _ _ _ g_is_part (hr.mono (by decide)) (@pa_cons _ _ _ _ _ (@pv1 _ 0 _ _ (by walk_at "pv")) (@pa_cons _ _ _ _ _ (@pe_ix _ _ _ _ _ _ _ (@k_ix _ K (by rfl)) (@pv1 _ 1 _ _ (by walk_at "pv")) (@pe_int _ _ _ _) (fun _ _ => rfl)) (@pa_nil _) (by rfl)) (by rfl)) (by rfl) (by decide) (by rfl) (by rfl)) (@pe_one _ _ _ _ _ (@pe_own _ _ _ _ _ _ _ _ _ _ g_is_part (hr.mono (by decide)) (@pa_cons _ _ _ _ _ (@pv1 _ 0 _ _ (by walk_at "pv")) (@pa_cons _ _ _ _ _ (@pe_ix _ _ _ _ _ _ _ (@k_ix _ K (by rfl)) (@pv1 _ 1 _ _ (by walk_at "pv")) (@pe_int _ _ _ _) (fun _ _ => rfl)) (@pa_nil _) (by rfl)) (by rfl)) (by rfl) (by decide) (by rfl) (by rfl)))))))), ?_⟩
    walk_at "go"
    refine s_if_f rfl ?_
    walk_at "go"
    refine ⟨h, rfl, by omega, ?_⟩
    walk_at "go"
    refine ⟨m1, 0, _, rfl, ?_⟩
    rw [w1]
    walk_at "go"
    refine ⟨h, rfl, by omega, ?_⟩
    walk_at "go"
    refine ⟨m2, 0, _, rfl, ?_⟩
    rw [w2]
    walk_at "go"
    refine ⟨h, x, a, p, lo, rfl, hx, ha, e1, l1, h1, h32, fun H1 s1 => ?_⟩
    have ht := s1 _ _ ht
    walk_at "go"
    refine ⟨h, y, b, q, up, rfl, s1 _ _ hy, s1 _ _ hb, e2, l2, h1, h32, fun H2 s2 => ?_⟩
    exact k H2 (s1.trans s2)
theorem sc_then : FnScope ["one", "other"] ["one", "other"] (defScope s_then) := ⟨rfl, rfl, rfl, by decide +kernel, rfl, by decide +kernel, by decide +kernel⟩
theorem ok_then {a : Addr} {fd : FuncData} (B : Blt K mg)  (F : Fun K "then" "then" s_then a fd) : FnOk P w K mg base CX0 1 a fd ["one", "other"] spThen := by
  refine F.ok sc_then (fun vs H Q E h => ?_) (fun cdv A outer s H vs Q E hr h => ?_)
  · obtain ⟨b, c, ls, ms, w, rfl, _⟩ := h
    rfl
  · have nd := sc_then.nd
    have hu := hr.units
    obtain ⟨b, c, ls, ms, w, rfl, hb, hc, h1, h2, hw, k⟩ := h
    refine ⟨_, (@pss_one _ _ _ (@ps_ret _ _ _ _ (@pe_callTy _ _ _ _ _ _ _ _ _ (@k_tup _ K (by rfl)) rfl B.b_tuple boot_tuple (@pa_cons _ _ _ _ _ (@pe_comp _ _ _ _ _ _ (defScope s_then) _ ["one", "other"] ["entry", "one"] [none, some 0] _ _ _ _ rfl (@k_pi_seq _ K _ _ _ (@pv1 _ 1 _ _ (by walk_at "pv")) (by rfl)) (fun _ _ _ _ => (@pg_name _ _ 0 _ (show List.Nodup (["entry", "one"] : List Str) by decide +kernel) rfl (Or.inl rfl) (by walk_at "vis"))) (fun _ _ _ _ => (@pts_nil _)) (fun _ _ _ _ => (@pe_ifExp _ _ _ _ _ _ _ _ (@pt_cmpR _ _ _ _ _ _ _ _ (@op_ge _) (@pv1 _ 0 _ _ (by walk_at "pv")) (@pe_int _ _ _ _) (@nomark _ _ (by decide) (by decide))) (@pe_ix _ _ _ _ _ _ _ (@k_ix _ K (by rfl)) (@pv1 _ 1 _ _ (by walk_at "pv")) (@pv1 _ 0 _ _ (by walk_at "pv")) (fun _ _ => rfl)) (@pv1 _ 0 _ _ (by walk_at "pv")))) (by decide +kernel) (by rfl) (by rfl) (by intro _; rfl)) (@pa_nil _) (by rfl)) (by decide) (by decide) (by rfl) (by rfl)))), ?_⟩
    walk_at "go"
    refine comp_seqT (SqT.of hc) ?_
    refine comp_tup (xs := ms.map V.int) (fun i acc H' => H' = H ∧ i ≤ 64 ∧ acc = ((thenL ls ms).take i).map V.int) ⟨rfl, by omega, rfl⟩ (fun i acc H' h => ?_) (fun i acc H' h => by rw [h.1]; exact SqT.of hc) ?_ ?_
    · obtain ⟨_, hi, rfl⟩ := h
      rw [List.length_map, List.length_take]
      exact Nat.le_of_lt (small5 (by omega))
    · rintro i x acc H' hx ⟨rfl, hi, rfl⟩
      obtain ⟨e, he, rfl⟩ := nth_map hx
      have hil : i < ms.length := (List.getElem?_eq_some_iff.mp he).1
      have q := h2.2 e (List.mem_of_getElem? he)
      have hi2 : i < w := by rw [← h2.1]; exact hil
      have tk : ∀ v : Int, v = (if 0 ≤ e then ls.getD e.toNat 0 else e) → ((thenL ls ms).take i).map V.int ++ [V.int v] = ((thenL ls ms).take (i + 1)).map V.int := fun v hv => by
        rw [List.take_add_one, thenL, List.getElem?_map, he, List.map_append]
        simp [hv]
      walk_at "go"
      refine s_ifd (fun h0 => ?_) (fun h0 => ?_)
      · have hl : e.toNat < ls.length := by rw [h1.1]; omega
        walk_at "go"
        refine s_ix_t (SqT.of hb) h0 (by rw [List.getElem?_map, List.getElem?_eq_getElem hl]; rfl) ?_
        refine ⟨rfl, by omega, (tk _ ?_)⟩
        rw [if_pos h0, List.getD_eq_getElem?_getD, List.getElem?_eq_getElem hl]
        rfl
      · walk_at "go"
        exact ⟨rfl, by omega, tk _ (by rw [if_neg h0])⟩
    · rintro acc H' ⟨rfl, _, rfl⟩ p hp
      rw [List.length_map, List.take_of_length_le (by rw [thenL, List.length_map]; omega)]
      walk_at "go"
      refine ⟨p, _, rfl, .inl ⟨SqL.of upd_same, fun t ht => ?_⟩⟩
      exact k t _ ((same_upd hp).trans (same_upd ht)) upd_same
theorem sc_bit_at : FnScope ["word", "place"] ["word", "place"] (defScope s_bit_at) := ⟨rfl, rfl, rfl, by decide +kernel, rfl, by decide +kernel, by decide +kernel⟩
theorem ok_bit_at {a : Addr} {fd : FuncData} (B : Blt K mg)  (F : Fun K "bit_at" "bit_at" s_bit_at a fd) : FnOk P w K mg base CX0 1 a fd ["word", "place"] spBitAt := by
  refine F.ok sc_bit_at (fun vs H Q E h => ?_) (fun cdv A outer s H vs Q E hr h => ?_)
  · obtain ⟨n, k, rfl, _⟩ := h
    rfl
  · have nd := sc_bit_at.nd
    have hu := hr.units
    obtain ⟨n, k, rfl, q⟩ := h
    refine ⟨_, (@pss_one _ _ _ (@ps_ret _ _ _ _ (@pe_op _ _ _ _ _ _ _ _ (@op_and _) (@pe_op _ _ _ _ _ _ _ _ (@op_shr _) (@pv1 _ 0 _ _ (by walk_at "pv")) (@pv1 _ 1 _ _ (by walk_at "pv"))) (@pe_int _ _ _ _)))), ?_⟩
    walk_at "go"
    rw [bitAt_val]
    exact q
theorem sc_places_in : FnScope ["mask"] ["mask"] (defScope s_places_in) := ⟨rfl, rfl, rfl, by decide +kernel, rfl, by decide +kernel, by decide +kernel⟩
theorem ok_places_in {a : Addr} {fd : FuncData} (B : Blt K mg) (g_bit_at : FnAt P w K mg base "bit_at" ["word", "place"] 1 spBitAt) (F : Fun K "places_in" "places_in" s_places_in a fd) : FnOk P w K mg base CX0 2 a fd ["mask"] spPlaces := by
  refine F.ok sc_places_in (fun vs H Q E h => ?_) (fun cdv A outer s H vs Q E hr h => ?_)
  · obtain ⟨n, rfl, _⟩ := h
    rfl
  · have nd := sc_places_in.nd
    have hu := hr.units
    obtain ⟨n, rfl, hn, q⟩ := h
    have hb64 : bitsOf n ≤ 64 := bitsOf_le hn
    refine ⟨_, (@pss_one _ _ _ (@ps_ret _ _ _ _ (@pe_comp _ _ _ _ _ _ (defScope s_places_in) _ ["mask"] ["place", "mask"] [none, some 0] _ _ _ _ rfl (@pi_range1 _ _ _ _ _ _ rfl B.b_range (@pa_cons _ _ _ _ _ (@k_bm0 _ K _ _ _ _ _ _ _ _ PySem.F.plainAttrs_int PySem.F.slot_int_bit_length PySem.F.type_int_bit_length (@mt_bits _) (@pv1 _ 0 _ _ (by walk_at "pv")) (by rfl) (by rfl) (by rfl)) (@pa_nil _) (by rfl)) (by rfl)) (fun _ _ _ _ => (@pg_name _ _ 0 _ (show List.Nodup (["place", "mask"] : List Str) by decide +kernel) rfl (Or.inl rfl) (by walk_at "vis"))) (fun _ _ _ _ => (@pts_one _ _ _ (@pt_cmpR _ _ _ _ _ _ _ _ (@k_eq _ K hu (by rfl)) (@pe_own _ _ _ _ _ _ _ _ _ _ g_bit_at (hr.mono (by decide)) (@pa_cons _ _ _ _ _ (@pv1 _ 1 _ _ (by walk_at "pv")) (@pa_cons _ _ _ _ _ (@pv1 _ 0 _ _ (by walk_at "pv")) (@pa_nil _) (by rfl)) (by rfl)) (by rfl) (by decide) (by rfl) (by rfl)) (@pe_int _ _ _ _) (@nomark _ _ (by decide) (by decide))))) (fun _ _ _ _ => (@pv1 _ 0 _ _ (by walk_at "pv"))) (by decide +kernel) (by rfl) (by rfl) (by intro _; rfl)))), ?_⟩
    walk_at "go"
    refine s_rngC (n := bitsOf n) (by rw [intBits_nat]) (by omega) ?_
    refine comp_range0 (fun i acc H' => H' = H ∧ i ≤ 64 ∧ acc = ((List.range i).filter n.testBit).map nV) ⟨rfl, by omega, rfl⟩ (fun i acc H' h => ?_) ?_ ?_
    · obtain ⟨_, hi, rfl⟩ := h
      have := List.length_filter_le n.testBit (List.range i)
      rw [List.length_range] at this
      rw [List.length_map]
      exact Nat.le_of_lt (small5 (by omega))
    · rintro i acc H' hi ⟨rfl, hi64, rfl⟩
      walk_at "go"
      refine ⟨n, i, rfl, ?_⟩
      walk_at "go"
      refine s_ifeq (fun h => ?_) (fun h => ?_)
      · have hb : n.testBit i = true := by
          cases e : n.testBit i
          · rw [e] at h; cases h
          · rfl
        walk_at "go"
        refine ⟨rfl, by omega, ?_⟩
        rw [List.range_succ, List.filter_append]
        simp [hb]
      · have hb : n.testBit i = false := by
          cases e : n.testBit i
          · rfl
          · rw [e] at h; exact absurd rfl h
        refine ⟨rfl, by omega, ?_⟩
        rw [List.range_succ, List.filter_append]
        simp [hb]
    · rintro acc H' ⟨rfl, _, rfl⟩ p hp
      exact q p _ hp (same_upd hp) upd_same
theorem sc_gather_leading : FnScope ["width", "mask", "places"] ["width", "mask"] (defScope s_gather_leading) := ⟨rfl, rfl, rfl, by decide +kernel, rfl, by decide +kernel, by decide +kernel⟩
theorem ok_gather_leading {a : Addr} {fd : FuncData} (B : Blt K mg) (g_places_in : FnAt P w K mg base "places_in" ["mask"] 2 spPlaces) (F : Fun K "gather_leading" "gather_leading" s_gather_leading a fd) : FnOk P w K mg base CX0 3 a fd ["width", "mask"] spGathLd := by
  refine F.ok sc_gather_leading (fun vs H Q E h => ?_) (fun cdv A outer s H vs Q E hr h => ?_)
  · obtain ⟨w, m, rfl, _⟩ := h
    rfl
  · have nd := sc_gather_leading.nd
    have hu := hr.units
    obtain ⟨w, m, rfl, hm, hw, k⟩ := h
    have hl := places_len hm
    refine ⟨_, (@pss_cons _ _ _ _ _ (@ps_set _ _ 2 _ _ _ _ nd rfl (Or.inl rfl) (@pe_own _ _ _ _ _ _ _ _ _ _ g_places_in (hr.mono (by decide)) (@pa_cons _ _ _ _ _ (@pv1 _ 1 _ _ (by walk_at "pv")) (@pa_nil _) (by rfl)) (by rfl) (by decide) (by rfl) (by rfl)) (by rfl) (by walk_at "vis")) (@pss_one _ _ _ (@ps_ret _ _ _ _ (@pe_callTy _ _ _ _ _ _ _ _ _ (@k_tup _ K (by rfl)) rfl B.b_tuple boot_tuple (@pa_cons _ _ _ _ _ (@pe_op _ _ _ _ _ _ _ _ (@k_add _ K (by rfl)) (@pv1 _ 2 _ _ (by walk_at "pv")) (@pe_op _ _ _ _ _ _ _ _ (@k_mul _ K (by rfl)) (@pe_lst _ _ _ _ (@pa_cons _ _ _ _ _ (@pe_globI _ _ _ _ B.g_NOUGHT (by rfl) (by decide)) (@pa_nil _) (by rfl))) (@pe_op _ _ _ _ _ _ _ _ (@op_sub _) (@pv1 _ 0 _ _ (by walk_at "pv")) (@pe_callB _ _ _ _ _ _ _ _ _ (@k_len _ K (by rfl)) rfl B.b_len boot_len (@pa_cons _ _ _ _ _ (@pv1 _ 2 _ _ (by walk_at "pv")) (@pa_nil _) (by rfl)) (by decide) (by decide) (by rfl) (by rfl))))) (@pa_nil _) (by rfl)) (by decide) (by decide) (by rfl) (by rfl))))), ?_⟩
    walk_at "go"
    refine ⟨m, rfl, lt64 hm hw, fun q H1 fq s1 n1 => ?_⟩
    walk_at "go"
    refine s_newL (by simp) fun a H2 f2 s2 n2 => ?_
    have n1' := s2 _ _ n1
    walk_at "go"
    rw [List.length_map]
    refine s_repL (n := w - (placesN m).length) n2 (by omega) (by omega) fun r H3 f3 s3 n3 => ?_
    have n1'' := s3 _ _ n1'
    refine s_catL n1'' n3 (by rw [List.length_map, List.length_replicate]; omega) fun c H4 f4 s4 n4 => ?_
    walk_at "go"
    refine s_tupOf n4 fun t H5 f5 s5 n5 => ?_
    exact k t H5 (s1.trans (s2.trans (s3.trans (s4.trans s5)))) (by rw [n5, gather_led hm])
theorem sc_strew_leading : FnScope ["width", "mask", "entries", "place", "to"] ["width", "mask"] (defScope s_strew_leading) := ⟨rfl, rfl, rfl, by decide +kernel, rfl, by decide +kernel, by decide +kernel⟩
theorem ok_strew_leading {a : Addr} {fd : FuncData} (B : Blt K mg) (g_places_in : FnAt P w K mg base "places_in" ["mask"] 2 spPlaces) (F : Fun K "strew_leading" "strew_leading" s_strew_leading a fd) : FnOk P w K mg base CX0 3 a fd ["width", "mask"] spStrewLd := by
  refine F.ok sc_strew_leading (fun vs H Q E h => ?_) (fun cdv A outer s H vs Q E hr h => ?_)
  · obtain ⟨w, m, rfl, _⟩ := h
    rfl
  · have nd := sc_strew_leading.nd
    have hu := hr.units
    obtain ⟨w, m, rfl, hm, hw, k⟩ := h
    have hl := places_len hm
    refine ⟨_, (@pss_cons _ _ _ _ _ (@ps_set _ _ 2 _ _ _ _ nd rfl (Or.inl rfl) (@pe_op _ _ _ _ _ _ _ _ (@k_mul _ K (by rfl)) (@pe_lst _ _ _ _ (@pa_cons _ _ _ _ _ (@pe_globI _ _ _ _ B.g_NOUGHT (by rfl) (by decide)) (@pa_nil _) (by rfl))) (@pv1 _ 0 _ _ (by walk_at "pv"))) (by rfl) (by walk_at "vis")) (@pss_cons _ _ _ _ _ (@ps_for _ _ _ _ _ _ _ _ PassesOwn.never rfl (@k_pi_enum _ K _ _ _ _ _ _ _ B.b_enumerate (@pa_cons _ _ _ _ _ (@pe_own _ _ _ _ _ _ _ _ _ _ g_places_in (hr.mono (by decide)) (@pa_cons _ _ _ _ _ (@pv1 _ 1 _ _ (by walk_at "pv")) (@pa_nil _) (by rfl)) (by rfl) (by decide) (by rfl) (by rfl)) (@pa_nil _) (by rfl)) (by rfl) (by rfl) (by rfl)) (@k_pgtup _ K _ _ _ _ 2 rfl (@pgs_cons _ _ _ _ _ (@pg_name _ _ 3 _ nd rfl (Or.inl rfl) (by walk_at "vis")) (@pgs_cons _ _ _ _ _ (@pg_name _ _ 4 _ nd rfl (Or.inl rfl) (by walk_at "vis")) (@pgs_nil _) (by rfl)) (by rfl)) (by rfl) (by rfl) (by rfl)) (@pss_one _ _ _ (@ps_asg _ _ _ _ _ _ (@pv1 _ 3 _ _ (by walk_at "pv")) (@pg_sub _ _ _ _ _ _ _ (@pv1 _ 2 _ _ (by walk_at "pv")) (@pv1 _ 4 _ _ (by walk_at "pv")) (@set_list _) (by intro _; rfl)) (by rfl) (by rfl) (by rfl))) (by intro _; rfl)) (@pss_one _ _ _ (@ps_ret _ _ _ _ (@pe_callTy _ _ _ _ _ _ _ _ _ (@k_tup _ K (by rfl)) rfl B.b_tuple boot_tuple (@pa_cons _ _ _ _ _ (@pv1 _ 2 _ _ (by walk_at "pv")) (@pa_nil _) (by rfl)) (by decide) (by decide) (by rfl) (by rfl)))))), ?_⟩
    walk_at "go"
    refine s_newL (by simp) fun a H2 f2 s2 n2 => ?_
    walk_at "go"
    refine s_repL (n := w) n2 rfl (by omega) fun r H3 f3 s3 n3 => ?_
    have s3 := s2.trans s3
    have fr := s2.free f3
    walk_at "go"
    refine ⟨m, rfl, lt64 hm hw, fun q H4 fq s4 n4 => ?_⟩
    have n3' : H4 r = some (.lst ((strewE w m 0).map V.int)) := by
      rw [strewE_zero, List.map_replicate]
      exact s4 _ _ n3
    have s4 := s3.trans s4
    have nqr : q ≠ r := fun e => by rw [e] at fq; rw [n3] at fq; cases fq
    walk_at "go"
    refine ⟨q, _, rfl, .inl ⟨SqL.of n4, ?_⟩⟩
    refine for_enumL (fun i σ H' => Same H H' ∧ i ≤ 64 ∧ H' q = some (.lst ((placesN m).map nV)) ∧ H' r = some (.lst ((strewE w m i).map V.int)) ∧ ∃ v3 v4, σ = [some (nV w), some (nV m), some (.ref r), v3, v4]) ⟨s4, by omega, n4, n3', _, _, rfl⟩ (fun i σ H' h => SqL.of h.2.2.1) ?_ ?_
    · rintro i u T σ H' hu hT ⟨s5, hi, nq, nr, v3, v4, rfl⟩
      obtain ⟨y, hy, rfl⟩ := nth_map hu
      have hil : i < (placesN m).length := (List.getElem?_eq_some_iff.mp hy).1
      have hyw : y < w := places_lt hm (List.mem_of_getElem? hy)
      have s6 := same_upd (o := .tup [V.int (i : Int), nV y]) hT
      have nT : upd H' T (.tup [V.int (i : Int), nV y]) T = some (.tup [V.int (i : Int), nV y]) := upd_same
      generalize upd H' T (.tup [V.int (i : Int), nV y]) = H6 at s6 nT ⊢
      have nq6 := s6 _ _ nq
      have nr6 := s6 _ _ nr
      walk_at "go"
      refine s_setN nr6 (by rw [List.length_map, strewE_len]; exact hyw) ?_
      refine ⟨(s5.trans s6).upd' fr, by omega, by rw [upd_ne nqr]; exact nq6, ?_, _, _, rfl⟩
      rw [upd_same, ← strewE_succ hm hy, List.map_set]
    · rintro σ H' ⟨s5, _, nq, nr, v3, v4, rfl⟩
      rw [List.length_map, strewE_all] at nr
      walk_at "go"
      refine s_tupOf nr fun t H7 f7 s7 n7 => ?_
      exact k t H7 (s5.trans s7) n7
theorem sc_place_or_nought : FnScope ["width", "place"] ["width", "place"] (defScope s_place_or_nought) := ⟨rfl, rfl, rfl, by decide +kernel, rfl, by decide +kernel, by decide +kernel⟩
theorem ok_place_or_nought {a : Addr} {fd : FuncData} (B : Blt K mg) (g_is_within : FnAt P w K mg base "is_within" ["thing", "least", "most"] 1 spWithin) (F : Fun K "place_or_nought" "place_or_nought" s_place_or_nought a fd) : FnOk P w K mg base CX0 2 a fd ["width", "place"] spPon := by
  refine F.ok sc_place_or_nought (fun vs H Q E h => ?_) (fun cdv A outer s H vs Q E hr h => ?_)
  · obtain ⟨w, z, rfl, _⟩ := h
    rfl
  · have nd := sc_place_or_nought.nd
    have hu := hr.units
    obtain ⟨w, z, rfl, q⟩ := h
    refine ⟨_, (@pss_one _ _ _ (@ps_ret _ _ _ _ (@pe_ifExp _ _ _ _ _ _ _ _ (@pt_val _ _ _ (@pe_own _ _ _ _ _ _ _ _ _ _ g_is_within (hr.mono (by decide)) (@pa_cons _ _ _ _ _ (@pv1 _ 1 _ _ (by walk_at "pv")) (@pa_cons _ _ _ _ _ (@pe_int _ _ _ _) (@pa_cons _ _ _ _ _ (@pe_op _ _ _ _ _ _ _ _ (@op_sub _) (@pv1 _ 0 _ _ (by walk_at "pv")) (@pe_int _ _ _ _)) (@pa_nil _) (by rfl)) (by rfl)) (by rfl)) (by rfl) (by decide) (by rfl) (by rfl)) (by intro _; rfl)) (@pv1 _ 1 _ _ (by walk_at "pv")) (@pe_globI _ _ _ _ B.g_NOUGHT (by rfl) (by decide))))), ?_⟩
    walk_at "go"
    refine ⟨z, 0, (w : Int) - 1, rfl, ?_⟩
    walk_at "go"
    refine ite2 (fun h => ?_) (fun h => ?_)
    · walk_at "go"
      rw [Bool.and_eq_true, decide_eq_true_iff, decide_eq_true_iff] at h
      rw [pon, if_pos h] at q
      exact q
    · walk_at "go"
      rw [Bool.and_eq_true, decide_eq_true_iff, decide_eq_true_iff] at h
      rw [pon, if_neg h] at q
      exact q
theorem sc_copy_source : FnScope ["mask", "by", "place", "source"] ["mask", "by", "place"] (defScope s_copy_source) := ⟨rfl, rfl, rfl, by decide +kernel, rfl, by decide +kernel, by decide +kernel⟩
theorem ok_copy_source {a : Addr} {fd : FuncData} (B : Blt K mg) (g_bit_at : FnAt P w K mg base "bit_at" ["word", "place"] 1 spBitAt) (F : Fun K "copy_source" "copy_source" s_copy_source a fd) : FnOk P w K mg base CX0 2 a fd ["mask", "by", "place"] spCopySrc := by
  refine F.ok sc_copy_source (fun vs H Q E h => ?_) (fun cdv A outer s H vs Q E hr h => ?_)
  · obtain ⟨m, n, p, rfl, _⟩ := h
    rfl
  · have nd := sc_copy_source.nd
    have hu := hr.units
    obtain ⟨m, n, p, rfl, q⟩ := h
    refine ⟨_, (@pss_cons _ _ _ _ _ (@ps_set _ _ 3 _ _ _ _ nd rfl (Or.inl rfl) (@pe_op _ _ _ _ _ _ _ _ (@op_sub _) (@pv1 _ 2 _ _ (by walk_at "pv")) (@pv1 _ 1 _ _ (by walk_at "pv"))) (by rfl) (by walk_at "vis")) (@pss_one _ _ _ (@ps_ret _ _ _ _ (@pe_ifExp _ _ _ _ _ _ _ _ (@PW.pt _ _ _ (@pw_and _ _ _ _ _ _ _ (@pt_cmpR _ _ _ _ _ _ _ _ (@op_ge _) (@pv1 _ 3 _ _ (by walk_at "pv")) (@pe_int _ _ _ _) (@nomark _ _ (by decide) (by decide))) (@pw_and1 _ _ _ _ (@pt_cmpR _ _ _ _ _ _ _ _ (@k_eq _ K hu (by rfl)) (@pe_own _ _ _ _ _ _ _ _ _ _ g_bit_at (hr.mono (by decide)) (@pa_cons _ _ _ _ _ (@pv1 _ 0 _ _ (by walk_at "pv")) (@pa_cons _ _ _ _ _ (@pv1 _ 3 _ _ (by walk_at "pv")) (@pa_nil _) (by rfl)) (by rfl)) (by rfl) (by decide) (by rfl) (by rfl)) (@pe_int _ _ _ _) (@nomark _ _ (by decide) (by decide)))))) (@pv1 _ 3 _ _ (by walk_at "pv")) (@pv1 _ 2 _ _ (by walk_at "pv")))))), ?_⟩
    walk_at "go"
    refine s_ifd (fun h => ?_) (fun h => ?_)
    · obtain ⟨y, ey⟩ : ∃ y : Nat, (p : Int) - n = (y : Int) := ⟨((p : Int) - n).toNat, by omega⟩
      rw [ey] at q ⊢
      rw [inM_nat] at q
      walk_at "go"
      refine ⟨m, y, rfl, ?_⟩
      walk_at "go"
      refine s_ifeq (fun h2 => ?_) (fun h2 => ?_)
      · walk_at "go"
        have : m.testBit y = true := by
          cases e : m.testBit y
          · rw [e] at h2; cases h2
          · rfl
        rw [if_pos this] at q
        exact q
      · walk_at "go"
        have : ¬ m.testBit y = true := fun e => h2 (by rw [e]; rfl)
        rw [if_neg this] at q
        exact q
    · walk_at "go"
      rw [if_neg (by unfold inM; rw [decide_eq_false (by omega)]; exact Bool.false_ne_true)] at q
      exact q
theorem sc_source_of : FnScope ["width", "deed", "place", "name"] ["width", "deed", "place"] (defScope s_source_of) := ⟨rfl, rfl, rfl, by decide +kernel, rfl, by decide +kernel, by decide +kernel⟩
theorem ok_source_of {a : Addr} {fd : FuncData} (B : Blt K mg) (g_bit_at : FnAt P w K mg base "bit_at" ["word", "place"] 1 spBitAt) (g_place_or_nought : FnAt P w K mg base "place_or_nought" ["width", "place"] 2 spPon) (g_copy_source : FnAt P w K mg base "copy_source" ["mask", "by", "place"] 2 spCopySrc) (F : Fun K "source_of" "source_of" s_source_of a fd) : FnOk P w K mg base CX0 3 a fd ["width", "deed", "place"] spSource := by
  refine F.ok sc_source_of (fun vs H Q E h => ?_) (fun cdv A outer s H vs Q E hr h => ?_)
  · obtain ⟨w, p, b, d, rfl, _⟩ := h
    rfl
  · have nd := sc_source_of.nd
    have hu := hr.units
    obtain ⟨w, p, b, d, rfl, hb, hd, hf, hp, hw, q⟩ := h
    refine ⟨_, (@pss_cons _ _ _ _ _ (@ps_set _ _ 3 _ _ _ _ nd rfl (Or.inl rfl) (@pe_ix _ _ _ _ _ _ _ (@k_ix _ K (by rfl)) (@pv1 _ 1 _ _ (by walk_at "pv")) (@pe_int _ _ _ _) (fun _ _ => rfl)) (by rfl) (by walk_at "vis")) (@pss_cons _ _ _ _ _ (@ps_if _ _ _ _ _ _ _ _ (@pt_cmpR _ _ _ _ _ _ _ _ (@k_eq _ K hu (by rfl)) (@pv1 _ 3 _ _ (by walk_at "pv")) (@pe_str _ _ _ _) (@nomark _ _ (by decide) (by decide))) (@pss_one _ _ _ (@ps_ret _ _ _ _ (@pe_ifExp _ _ _ _ _ _ _ _ (@pt_cmpR _ _ _ _ _ _ _ _ (@k_eq _ K hu (by rfl)) (@pe_own _ _ _ _ _ _ _ _ _ _ g_bit_at (hr.mono (by decide)) (@pa_cons _ _ _ _ _ (@pe_ix _ _ _ _ _ _ _ (@k_ix _ K (by rfl)) (@pv1 _ 1 _ _ (by walk_at "pv")) (@pe_int _ _ _ _) (fun _ _ => rfl)) (@pa_cons _ _ _ _ _ (@pv1 _ 2 _ _ (by walk_at "pv")) (@pa_nil _) (by rfl)) (by rfl)) (by rfl) (by decide) (by rfl) (by rfl)) (@pe_int _ _ _ _) (@nomark _ _ (by decide) (by decide))) (@pv1 _ 2 _ _ (by walk_at "pv")) (@pe_globI _ _ _ _ B.g_NOUGHT (by rfl) (by decide))))) (@pss_nil _)) (@pss_cons _ _ _ _ _ (@ps_if _ _ _ _ _ _ _ _ (@pt_cmpR _ _ _ _ _ _ _ _ (@k_eq _ K hu (by rfl)) (@pv1 _ 3 _ _ (by walk_at "pv")) (@pe_str _ _ _ _) (@nomark _ _ (by decide) (by decide))) (@pss_one _ _ _ (@ps_ret _ _ _ _ (@pe_ifExp _ _ _ _ _ _ _ _ (@pt_cmpR _ _ _ _ _ _ _ _ (@k_eq _ K hu (by rfl)) (@pe_own _ _ _ _ _ _ _ _ _ _ g_bit_at (hr.mono (by decide)) (@pa_cons _ _ _ _ _ (@pe_ix _ _ _ _ _ _ _ (@k_ix _ K (by rfl)) (@pv1 _ 1 _ _ (by walk_at "pv")) (@pe_int _ _ _ _) (fun _ _ => rfl)) (@pa_cons _ _ _ _ _ (@pv1 _ 2 _ _ (by walk_at "pv")) (@pa_nil _) (by rfl)) (by rfl)) (by rfl) (by decide) (by rfl) (by rfl)) (@pe_int _ _ _ _) (@nomark _ _ (by decide) (by decide))) (@pe_globI _ _ _ _ B.g_ONE (by rfl) (by decide)) (@pv1 _ 2 _ _ (by walk_at "pv"))))) (@pss_nil _)) (@pss_cons _ _ _ _ _ (@ps_if _ _ _ _ _ _ _ _ (@pt_cmpR _ _ _ _ _ _ _ _ (@k_eq _ K hu (by rfl)) (@pv1 _ 3 _ _ (by walk_at "pv")) (@pe_str _ _ _ _) (@nomark _ _ (by decide) (by decide))) (@pss_one _ _ _ (@ps_ret _ _ _ _ (@pe_own _ _ _ _ _ _ _ _ _ _ g_place_or_nought (hr.mono (by decide)) (@pa_cons _ _ _ _ _ (@pv1 _ 0 _ _ (by walk_at "pv")) (@pa_cons _ _ _ _ _ (@pe_op _ _ _ _ _ _ _ _ (@op_sub _) (@pv1 _ 2 _ _ (by walk_at "pv")) (@pe_ix _ _ _ _ _ _ _ (@k_ix _ K (by rfl)) (@pv1 _ 1 _ _ (by walk_at "pv")) (@pe_int _ _ _ _) (fun _ _ => rfl))) (@pa_nil _) (by rfl)) (by rfl)) (by rfl) (by decide) (by rfl) (by rfl)))) (@pss_nil _)) (@pss_cons _ _ _ _ _ (@ps_if _ _ _ _ _ _ _ _ (@pt_cmpR _ _ _ _ _ _ _ _ (@k_eq _ K hu (by rfl)) (@pv1 _ 3 _ _ (by walk_at "pv")) (@pe_str _ _ _ _) (@nomark _ _ (by decide) (by decide))) (@pss_one _ _ _ (@ps_ret _ _ _ _ (@pe_own _ _ _ _ _ _ _ _ _ _ g_place_or_nought (hr.mono (by decide)) (@pa_cons _ _ _ _ _ (@pv1 _ 0 _ _ (by walk_at "pv")) (@pa_cons _ _ _ _ _ (@pe_op _ _ _ _ _ _ _ _ (@k_add _ K (by rfl)) (@pv1 _ 2 _ _ (by walk_at "pv")) (@pe_ix _ _ _ _ _ _ _ (@k_ix _ K (by rfl)) (@pv1 _ 1 _ _ (by walk_at "pv")) (@pe_int _ _ _ _) (fun _ _ => rfl))) (@pa_nil _) (by rfl)) (by rfl)) (by rfl) (by decide) (by rfl) (by rfl)))) (@pss_nil _)) (@pss_cons _ _ _ _ _ (@ps_if _ _ _ _ _ _ _ _ (@pt_cmpR _ _ _ _ _ _ _ _ (@k_eq _ K hu (by rfl)) (@pv1 _ 3 _ _ (by walk_at "pv")) (@pe_str _ _ _ _) (@nomark _ _ (by decide) (by decide))) (@pss_one _ _ _ (@ps_ret _ _ _ _ (@pe_op _ _ _ _ _ _ _ _ (@op_mod _) (@pe_op _ _ _ _ _ _ _ _ (@op_sub _) (@pv1 _ 2 _ _ (by walk_at "pv")) (@pe_ix _ _ _ _ _ _ _ (@k_ix _ K (by rfl)) (@pv1 _ 1 _ _ (by walk_at "pv")) (@pe_int _ _ _ _) (fun _ _ => rfl))) (@pv1 _ 0 _ _ (by walk_at "pv"))))) (@pss_nil _)) (@pss_cons _ _ _ _ _ (@ps_if _ _ _ _ _ _ _ _ (@PW.pt _ _ _ (@pw_and _ _ _ _ _ _ _ (@pt_cmpR _ _ _ _ _ _ _ _ (@k_eq _ K hu (by rfl)) (@pv1 _ 3 _ _ (by walk_at "pv")) (@pe_str _ _ _ _) (@nomark _ _ (by decide) (by decide))) (@pw_and1 _ _ _ _ (@pt_cmpR _ _ _ _ _ _ _ _ (@k_eq _ K hu (by rfl)) (@pe_own _ _ _ _ _ _ _ _ _ _ g_bit_at (hr.mono (by decide)) (@pa_cons _ _ _ _ _ (@pe_ix _ _ _ _ _ _ _ (@k_ix _ K (by rfl)) (@pv1 _ 1 _ _ (by walk_at "pv")) (@pe_int _ _ _ _) (fun _ _ => rfl)) (@pa_cons _ _ _ _ _ (@pv1 _ 2 _ _ (by walk_at "pv")) (@pa_nil _) (by rfl)) (by rfl)) (by rfl) (by decide) (by rfl) (by rfl)) (@pe_int _ _ _ _) (@nomark _ _ (by decide) (by decide)))))) (@pss_one _ _ _ (@ps_ret _ _ _ _ (@pe_op _ _ _ _ _ _ _ _ (@k_add _ K (by rfl)) (@pv1 _ 2 _ _ (by walk_at "pv")) (@pe_ix _ _ _ _ _ _ _ (@k_ix _ K (by rfl)) (@pv1 _ 1 _ _ (by walk_at "pv")) (@pe_int _ _ _ _) (fun _ _ => rfl))))) (@pss_nil _)) (@pss_one _ _ _ (@ps_ret _ _ _ _ (@pe_own _ _ _ _ _ _ _ _ _ _ g_copy_source (hr.mono (by decide)) (@pa_cons _ _ _ _ _ (@pe_ix _ _ _ _ _ _ _ (@k_ix _ K (by rfl)) (@pv1 _ 1 _ _ (by walk_at "pv")) (@pe_int _ _ _ _) (fun _ _ => rfl)) (@pa_cons _ _ _ _ _ (@pe_ix _ _ _ _ _ _ _ (@k_ix _ K (by rfl)) (@pv1 _ 1 _ _ (by walk_at "pv")) (@pe_int _ _ _ _) (fun _ _ => rfl)) (@pa_cons _ _ _ _ _ (@pv1 _ 2 _ _ (by walk_at "pv")) (@pa_nil _) (by rfl)) (by rfl)) (by rfl)) (by rfl) (by decide) (by rfl) (by rfl))))))))))), ?_⟩
    cases d with
    | and m =>
      walk_at "go"
      refine ⟨m, p, rfl, ?_⟩
      walk_at "go"
      refine s_ifeq (fun h2 => ?_) (fun h2 => ?_)
      · walk_at "go"
        have : m.testBit p = true := by
          cases e : m.testBit p
          · rw [e] at h2; cases h2
          · rfl
        simp only [Dd.src] at q
        rw [if_pos this] at q
        exact q
      · walk_at "go"
        have : ¬ m.testBit p = true := fun e => h2 (by rw [e]; rfl)
        simp only [Dd.src] at q
        rw [if_neg this] at q
        exact q
    | or m =>
      walk_at "go"
      refine ⟨m, p, rfl, ?_⟩
      walk_at "go"
      refine s_ifeq (fun h2 => ?_) (fun h2 => ?_)
      · walk_at "go"
        have : m.testBit p = true := by
          cases e : m.testBit p
          · rw [e] at h2; cases h2
          · rfl
        simp only [Dd.src] at q
        rw [if_pos this] at q
        exact q
      · walk_at "go"
        have : ¬ m.testBit p = true := fun e => h2 (by rw [e]; rfl)
        simp only [Dd.src] at q
        rw [if_neg this] at q
        exact q
    | left n =>
      walk_at "go"
      refine ⟨w, (p : Int) - n, rfl, ?_⟩
      have e : pon w ((p : Int) - n) = (Dd.left n).src w p := by
        simp only [Dd.src, pon]
        by_cases h : n ≤ p
        · rw [if_pos h, if_pos ⟨by omega, by omega⟩]
        · rw [if_neg h, if_neg (by omega)]
      rw [e]
      exact q
    | right n =>
      walk_at "go"
      refine ⟨w, (p : Int) + n, rfl, ?_⟩
      have e : pon w ((p : Int) + n) = (Dd.right n).src w p := by
        simp only [Dd.src, pon]
        by_cases h : p + n < w
        · rw [if_pos h, if_pos ⟨by omega, by omega⟩]
        · rw [if_neg h, if_neg (by omega)]
      rw [e]
      exact q
    | turn n =>
      have hn : n < w := hd
      walk_at "go"
      have e : ((p : Int) - n) % (w : Int) = (Dd.turn n).src w p := by
        simp only [Dd.src]
        by_cases h : n ≤ p
        · rw [if_pos h]
          exact Int.emod_eq_of_lt (by omega) (by omega)
        · rw [if_neg h, ← Int.add_emod_right]
          exact Int.emod_eq_of_lt (by omega) (by omega)
      rw [e]
      exact q
    | gather m => cases hf
    | strew m => cases hf
    | swap m n =>
      have e0 : (Dd.swap m n).src w p = (if inM m ((p : Int) - n) then (p : Int) - n else if m.testBit p then (p : Int) + n else p) := rfl
      rw [e0] at q
      walk_at "go"
      refine ⟨m, p, rfl, ?_⟩
      walk_at "go"
      refine s_ifeq (fun h2 => ?_) (fun h2 => ?_)
      · walk_at "go"
        have h3 : m.testBit p = true := by
          cases e : m.testBit p
          · rw [e] at h2; cases h2
          · rfl
        have h4 : ¬ inM m ((p : Int) - n) = true := fun z => by
          simp only [inM, Bool.and_eq_true, decide_eq_true_iff] at z
          have := (hd.2.2 _ z.2).2
          rw [show ((p : Int) - n).toNat + n = p by omega, h3] at this
          cases this
        rw [if_neg h4, if_pos h3] at q
        exact q
      · walk_at "go"
        have h3 : ¬ m.testBit p = true := fun e => h2 (by rw [e]; rfl)
        rw [if_neg h3] at q
        exact ⟨m, n, p, rfl, q⟩
    | copy m n =>
      walk_at "go"
      exact ⟨m, n, p, rfl, q⟩
theorem sc_deed_leading : FnScope ["width", "deed"] ["width", "deed"] (defScope s_deed_leading) := ⟨rfl, rfl, rfl, by decide +kernel, rfl, by decide +kernel, by decide +kernel⟩
theorem ok_deed_leading {a : Addr} {fd : FuncData} (B : Blt K mg) (g_gather_leading : FnAt P w K mg base "gather_leading" ["width", "mask"] 3 spGathLd) (g_strew_leading : FnAt P w K mg base "strew_leading" ["width", "mask"] 3 spStrewLd) (g_source_of : FnAt P w K mg base "source_of" ["width", "deed", "place"] 3 spSource) (F : Fun K "deed_leading" "deed_leading" s_deed_leading a fd) : FnOk P w K mg base CX0 4 a fd ["width", "deed"] spDeedLd := by
  refine F.ok sc_deed_leading (fun vs H Q E h => ?_) (fun cdv A outer s H vs Q E hr h => ?_)
  · obtain ⟨w, b, d, rfl, _⟩ := h
    rfl
  · have nd := sc_deed_leading.nd
    have hu := hr.units
    obtain ⟨w, b, d, rfl, hb, hd, hw, k⟩ := h
    have tk : ∀ i, i < w → ((d.led w).take i).map V.int ++ [V.int (d.src w i)] = ((d.led w).take (i + 1)).map V.int := fun i hi => by
      rw [List.take_add_one, Dd.led, List.getElem?_map, List.getElem?_range hi, List.map_append]
      rfl
    refine ⟨_, (@pss_cons _ _ _ _ _ (@ps_if _ _ _ _ _ _ _ _ (@pt_cmpR _ _ _ _ _ _ _ _ (@k_eq _ K hu (by rfl)) (@pe_ix _ _ _ _ _ _ _ (@k_ix _ K (by rfl)) (@pv1 _ 1 _ _ (by walk_at "pv")) (@pe_int _ _ _ _) (fun _ _ => rfl)) (@pe_str _ _ _ _) (@nomark _ _ (by decide) (by decide))) (@pss_one _ _ _ (@ps_ret _ _ _ _ (@pe_own _ _ _ _ _ _ _ _ _ _ g_gather_leading (hr.mono (by decide)) (@pa_cons _ _ _ _ _ (@pv1 _ 0 _ _ (by walk_at "pv")) (@pa_cons _ _ _ _ _ (@pe_ix _ _ _ _ _ _ _ (@k_ix _ K (by rfl)) (@pv1 _ 1 _ _ (by walk_at "pv")) (@pe_int _ _ _ _) (fun _ _ => rfl)) (@pa_nil _) (by rfl)) (by rfl)) (by rfl) (by decide) (by rfl) (by rfl)))) (@pss_nil _)) (@pss_cons _ _ _ _ _ (@ps_if _ _ _ _ _ _ _ _ (@pt_cmpR _ _ _ _ _ _ _ _ (@k_eq _ K hu (by rfl)) (@pe_ix _ _ _ _ _ _ _ (@k_ix _ K (by rfl)) (@pv1 _ 1 _ _ (by walk_at "pv")) (@pe_int _ _ _ _) (fun _ _ => rfl)) (@pe_str _ _ _ _) (@nomark _ _ (by decide) (by decide))) (@pss_one _ _ _ (@ps_ret _ _ _ _ (@pe_own _ _ _ _ _ _ _ _ _ _ g_strew_leading (hr.mono (by decide)) (@pa_cons _ _ _ _ _ (@pv1 _ 0 _ _ (by walk_at "pv")) (@pa_cons _ _ _ _ _ (@pe_ix _ _ _ _ _ _ _ (@k_ix _ K (by rfl)) (@pv1 _ 1 _ _ (by walk_at "pv")) (@pe_int _ _ _ _) (fun _ _ => rfl)) (@pa_nil _) (by rfl)) (by rfl)) (by rfl) (by decide) (by rfl) (by rfl)))) (@pss_nil _)) (@pss_one _ _ _ (@ps_ret _ _ _ _ (@pe_callTy _ _ _ _ _ _ _ _ _ (@k_tup _ K (by rfl)) rfl B.b_tuple boot_tuple (@pa_cons _ _ _ _ _ (@pe_comp _ _ _ _ _ _ (defScope s_deed_leading) _ ["width", "deed"] ["place", "width", "deed"] [none, some 0, some 1] _ _ _ _ rfl (@pi_range1 _ _ _ _ _ _ rfl B.b_range (@pa_cons _ _ _ _ _ (@pv1 _ 0 _ _ (by walk_at "pv")) (@pa_nil _) (by rfl)) (by rfl)) (fun _ _ _ _ => (@pg_name _ _ 0 _ (show List.Nodup (["place", "width", "deed"] : List Str) by decide +kernel) rfl (Or.inl rfl) (by walk_at "vis"))) (fun _ _ _ _ => (@pts_nil _)) (fun _ _ _ _ => (@pe_own _ _ _ _ _ _ _ _ _ _ g_source_of (hr.mono (by decide)) (@pa_cons _ _ _ _ _ (@pv1 _ 1 _ _ (by walk_at "pv")) (@pa_cons _ _ _ _ _ (@pv1 _ 2 _ _ (by walk_at "pv")) (@pa_cons _ _ _ _ _ (@pv1 _ 0 _ _ (by walk_at "pv")) (@pa_nil _) (by rfl)) (by rfl)) (by rfl)) (by rfl) (by decide) (by rfl) (by rfl))) (by decide +kernel) (by rfl) (by rfl) (by intro _; rfl)) (@pa_nil _) (by rfl)) (by decide) (by decide) (by rfl) (by rfl)))))), ?_⟩
    cases hf : d.flat with
    | false =>
      cases d with
      | gather m => walk_at "go"; exact ⟨w, m, rfl, hd, hw, k⟩
      | strew m => walk_at "go"; exact ⟨w, m, rfl, hd, hw, k⟩
      | _ => cases hf
    | true =>
      have nm : ∃ s xs, d.vals = .str s :: xs ∧ (shpd (.str s) = true) ∧ (s == "gather") = false ∧ (s == "strew") = false := by
        cases d with
        | gather m => cases hf
        | strew m => cases hf
        | _ => exact ⟨_, _, rfl, by decide +kernel, by decide +kernel, by decide +kernel⟩
      obtain ⟨sn, xs, ev, hs0, hs1, hs2⟩ := nm
      have hb' := hb
      rw [ev] at hb'
      walk_at "go"
      refine s_eq_s hs0 (by decide +kernel) ?_
      rw [hs1]
      walk_at "go"
      refine s_eq_s hs0 (by decide +kernel) ?_
      rw [hs2]
      walk_at "go"
      refine s_rngC (n := w) rfl (by omega) ?_
      refine comp_range0 (fun i acc H' => H' = H ∧ i ≤ 64 ∧ acc = (((d.led w).take i).map V.int)) ⟨rfl, by omega, rfl⟩ (fun i acc H' h => ?_) ?_ ?_
      · obtain ⟨_, hi, rfl⟩ := h
        rw [List.length_map, List.length_take]
        exact Nat.le_of_lt (small5 (by omega))
      · rintro i acc H' hi ⟨rfl, hi2, rfl⟩
        walk_at "go"
        refine ⟨w, i, b, d, rfl, hb, hd, hf, hi, hw, ?_⟩
        exact ⟨rfl, by omega, tk i hi⟩
      · rintro acc H' ⟨rfl, _, rfl⟩ q hq
        rw [List.take_of_length_le (by simp [Dd.led])]
        walk_at "go"
        refine s_tupOf upd_same fun t H5 f5 s5 n5 => ?_
        exact k t H5 ((same_upd hq).trans s5) n5
theorem sc_exchange : FnScope ["half", "mask"] ["half", "mask"] (defScope s_exchange) := ⟨rfl, rfl, rfl, by decide +kernel, rfl, by decide +kernel, by decide +kernel⟩
theorem ok_exchange {a : Addr} {fd : FuncData} (B : Blt K mg) (g_deed_leading : FnAt P w K mg base "deed_leading" ["width", "deed"] 4 spDeedLd) (F : Fun K "exchange" "exchange" s_exchange a fd) : FnOk P w K mg base CX0 5 a fd ["half", "mask"] spExchH := by
  refine F.ok sc_exchange (fun vs H Q E h => ?_) (fun cdv A outer s H vs Q E hr h => ?_)
  · obtain ⟨h, m, rfl, _⟩ := h
    rfl
  · have nd := sc_exchange.nd
    have hu := hr.units
    obtain ⟨h, m, rfl, h1, h32, hm, k⟩ := h
    refine ⟨_, (@pss_one _ _ _ (@ps_ret _ _ _ _ (@pe_own _ _ _ _ _ _ _ _ _ _ g_deed_leading (hr.mono (by decide)) (@pa_cons _ _ _ _ _ (@pe_op _ _ _ _ _ _ _ _ (@k_mul _ K (by rfl)) (@pe_int _ _ _ _) (@pv1 _ 0 _ _ (by walk_at "pv"))) (@pa_cons _ _ _ _ _ (@pe_tup _ _ _ _ _ (@pa_str _ _ _ _ _ _ (@pa_cons _ _ _ _ _ (@pv1 _ 1 _ _ (by walk_at "pv")) (@pa_cons _ _ _ _ _ (@pv1 _ 0 _ _ (by walk_at "pv")) (@pa_nil _) (by rfl)) (by rfl)))) (@pa_nil _) (by rfl)) (by rfl)) (by rfl) (by decide) (by rfl) (by rfl)))), ?_⟩
    walk_at "go"
    refine s_newT (by simp) fun t H1 f1 s1 n1 => ?_
    walk_at "go"
    rw [show (2 : Int) * (h : Int) = ((2 * h : Nat) : Int) by omega]
    refine ⟨2 * h, t, .swap m h, rfl, n1, half_ok h1 hm, by omega, fun r H2 s2 n2 => ?_⟩
    exact k r H2 (s1.trans s2) n2
theorem sc_joined : FnScope ["half", "paper", "between"] ["half", "paper"] (defScope s_joined) := ⟨rfl, rfl, rfl, by decide +kernel, rfl, by decide +kernel, by decide +kernel⟩
theorem ok_joined {a : Addr} {fd : FuncData} (B : Blt K mg) (g_then : FnAt P w K mg base "then" ["one", "other"] 1 spThen) (g_exchange : FnAt P w K mg base "exchange" ["half", "mask"] 5 spExchH) (F : Fun K "joined" "joined" s_joined a fd) : FnOk P w K mg base CX0 6 a fd ["half", "paper"] spJoined := by
  refine F.ok sc_joined (fun vs H Q E h => ?_) (fun cdv A outer s H vs Q E hr h => ?_)
  · obtain ⟨h, t, m1, m2, lo, up, rfl, _⟩ := h
    rfl
  · have nd := sc_joined.nd
    have hu := hr.units
    obtain ⟨h, t, m1, m2, lo, up, rfl, ⟨x, y, a, p, b, q, ht, hx, ha, hy, hb, b1, b2, e1, l1, e2, l2, h1, h32⟩, k⟩ := h
    refine ⟨_, (@pss_cons _ _ _ _ _ (@ps_set _ _ 2 _ _ _ _ nd rfl (Or.inl rfl) (@pe_op _ _ _ _ _ _ _ _ (@k_add2 _ K (by rfl)) (@pe_ix _ _ _ _ _ _ _ (@k_ix _ K (by rfl)) (@pe_ix _ _ _ _ _ _ _ (@k_ix _ K (by rfl)) (@pv1 _ 1 _ _ (by walk_at "pv")) (@pe_int _ _ _ _) (fun _ _ => rfl)) (@pe_int _ _ _ _) (fun _ _ => rfl)) (@pe_callTy _ _ _ _ _ _ _ _ _ (@k_tup _ K (by rfl)) rfl B.b_tuple boot_tuple (@pa_cons _ _ _ _ _ (@pe_comp _ _ _ _ _ _ (defScope s_joined) _ ["half", "paper", "between"] ["entry", "half"] [none, some 0] _ _ _ _ rfl (@k_pi_seq _ K _ _ _ (@pe_ix _ _ _ _ _ _ _ (@k_ix _ K (by rfl)) (@pe_ix _ _ _ _ _ _ _ (@k_ix _ K (by rfl)) (@pv1 _ 1 _ _ (by walk_at "pv")) (@pe_int _ _ _ _) (fun _ _ => rfl)) (@pe_int _ _ _ _) (fun _ _ => rfl)) (by rfl)) (fun _ _ _ _ => (@pg_name _ _ 0 _ (show List.Nodup (["entry", "half"] : List Str) by decide +kernel) rfl (Or.inl rfl) (by walk_at "vis"))) (fun _ _ _ _ => (@pts_nil _)) (fun _ _ _ _ => (@pe_op _ _ _ _ _ _ _ _ (@k_add2 _ K (by rfl)) (@pv1 _ 0 _ _ (by walk_at "pv")) (@pv1 _ 1 _ _ (by walk_at "pv")))) (by decide +kernel) (by rfl) (by rfl) (by intro _; rfl)) (@pa_nil _) (by rfl)) (by decide) (by decide) (by rfl) (by rfl))) (by rfl) (by walk_at "vis")) (@pss_one _ _ _ (@ps_ret _ _ _ _ (@pe_own _ _ _ _ _ _ _ _ _ _ g_then (hr.mono (by decide)) (@pa_cons _ _ _ _ _ (@pe_own _ _ _ _ _ _ _ _ _ _ g_then (hr.mono (by decide)) (@pa_cons _ _ _ _ _ (@pe_own _ _ _ _ _ _ _ _ _ _ g_exchange (hr.mono (by decide)) (@pa_cons _ _ _ _ _ (@pv1 _ 0 _ _ (by walk_at "pv")) (@pa_cons _ _ _ _ _ (@pe_ix _ _ _ _ _ _ _ (@k_ix _ K (by rfl)) (@pv1 _ 1 _ _ (by walk_at "pv")) (@pe_int _ _ _ _) (fun _ _ => rfl)) (@pa_nil _) (by rfl)) (by rfl)) (by rfl) (by decide) (by rfl) (by rfl)) (@pa_cons _ _ _ _ _ (@pv1 _ 2 _ _ (by walk_at "pv")) (@pa_nil _) (by rfl)) (by rfl)) (by rfl) (by decide) (by rfl) (by rfl)) (@pa_cons _ _ _ _ _ (@pe_own _ _ _ _ _ _ _ _ _ _ g_exchange (hr.mono (by decide)) (@pa_cons _ _ _ _ _ (@pv1 _ 0 _ _ (by walk_at "pv")) (@pa_cons _ _ _ _ _ (@pe_ix _ _ _ _ _ _ _ (@k_ix _ K (by rfl)) (@pv1 _ 1 _ _ (by walk_at "pv")) (@pe_int _ _ _ _) (fun _ _ => rfl)) (@pa_nil _) (by rfl)) (by rfl)) (by rfl) (by decide) (by rfl) (by rfl)) (@pa_nil _) (by rfl)) (by rfl)) (by rfl) (by decide) (by rfl) (by rfl))))), ?_⟩
    walk_at "go"
    refine comp_seqT (SqT.of hb) ?_
    refine comp_tup (xs := up.map V.int) (fun i acc H' => H' = H ∧ i ≤ 64 ∧ acc = ((higherL h up).take i).map V.int) ⟨rfl, by omega, rfl⟩ (fun i acc H' h => ?_) (fun i acc H' h => by rw [h.1]; exact SqT.of hb) ?_ ?_
    · obtain ⟨_, hi, rfl⟩ := h
      rw [List.length_map, List.length_take]
      exact Nat.le_of_lt (small5 (by omega))
    · rintro i z acc H' hz ⟨rfl, hi, rfl⟩
      obtain ⟨e, he, rfl⟩ := nth_map hz
      have hil : i < up.length := (List.getElem?_eq_some_iff.mp he).1
      have e0 := even_bound e2 (List.mem_of_getElem? he)
      walk_at "go"
      refine ⟨rfl, by omega, ?_⟩
      rw [List.take_add_one, higherL, List.getElem?_map, he, List.map_append]
      simp [e0.1]
    · rintro acc H' ⟨rfl, _, rfl⟩ u hu
      rw [List.take_of_length_le (by rw [List.length_map, higherL, List.length_map]; omega)]
      have s2 := same_upd (o := .lst ((higherL h up).map V.int)) hu
      have n2 : upd H' u (.lst ((higherL h up).map V.int)) u = some (.lst ((higherL h up).map V.int)) := upd_same
      generalize upd H' u (.lst ((higherL h up).map V.int)) = H2 at s2 n2 ⊢
      walk_at "go"
      refine ⟨u, _, rfl, .inl ⟨SqL.of n2, fun v hv => ?_⟩⟩
      have s3 := s2.trans (same_upd (o := .tup ((higherL h up).map V.int)) hv)
      have n3 : upd H2 v (.tup ((higherL h up).map V.int)) v = some (.tup ((higherL h up).map V.int)) := upd_same
      generalize upd H2 v (.tup ((higherL h up).map V.int)) = H3 at s3 n3 ⊢
      have hll : (higherL h up).length = h := by rw [higherL, List.length_map, l2]
      refine s_catT (s3 _ _ ha) n3 (by rw [List.length_map, List.length_map]; omega) fun r H4 s4 n4 => ?_
      rw [← List.map_append] at n4
      have ht4 := s4 _ _ (s3 _ _ ht)
      walk_at "go"
      refine ⟨h, m1, rfl, h1, h32, b1, fun r1 H5 s5 n5 => ?_⟩
      walk_at "go"
      refine ⟨r1, r, _, _, 2 * h, rfl, n5, s5 _ _ n4, Dd.led_ld (half_ok h1 b1), cat_ldw e1 l1 e2 l2, by omega, fun r2 H6 s6 n6 => ?_⟩
      have ht6 := s6 _ _ (s5 _ _ ht4)
      walk_at "go"
      refine ⟨h, m2, rfl, h1, h32, b2, fun r3 H7 s7 n7 => ?_⟩
      walk_at "go"
      refine ⟨r2, r3, _, _, 2 * h, rfl, s7 _ _ n6, n7, then_ld (Dd.led_ld (half_ok h1 b1)) (cat_ldw e1 l1 e2 l2), Dd.led_ld (half_ok h1 b2), by omega, fun r4 H8 s8 n8 => ?_⟩
      exact k r4 H8 (s3.trans (s4.trans (s5.trans (s6.trans (s7.trans s8))))) n8
theorem sc_shows_part : FnScope ["part"] ["part"] (defScope s_shows_part) := ⟨rfl, rfl, rfl, by decide +kernel, rfl, by decide +kernel, by decide +kernel⟩
theorem ok_shows_part {a : Addr} {fd : FuncData} (B : Blt K mg) {j : Nat}  (g_shows_halves : FnAt P w K mg base "shows_halves" ["leading", "paper"] (2 * j + 6) (spShowsH j)) (F : Fun K "shows_part" "shows_part" s_shows_part a fd) : FnOk P w K mg base CX0 (2 * j + 6 + 1) a fd ["part"] (spShowsP (j + 1)) := by
  refine F.ok sc_shows_part (fun vs H Q E h => ?_) (fun cdv A outer s H vs Q E hr h => ?_)
  · obtain ⟨x, a, t, ls, P, k, rfl, _⟩ := h
    rfl
  · have nd := sc_shows_part.nd
    have hu := hr.units
    obtain ⟨x, a, t, ls, P, k, rfl, hx, ha, hl, hP, ok, hk, hk6, kk⟩ := h
    obtain ⟨i, rfl⟩ : ∃ i, j = i + 1 := ⟨j - 1, by omega⟩
    refine ⟨_, (@pss_one _ _ _ (@ps_ret _ _ _ _ (@pe_own _ _ _ _ _ _ _ _ _ _ g_shows_halves (hr.mono (by omega)) (@pa_cons _ _ _ _ _ (@pe_ix _ _ _ _ _ _ _ (@k_ix _ K (by rfl)) (@pv1 _ 0 _ _ (by walk_at "pv")) (@pe_int _ _ _ _) (fun _ _ => rfl)) (@pa_cons _ _ _ _ _ (@pe_ix _ _ _ _ _ _ _ (@k_ix _ K (by rfl)) (@pv1 _ 0 _ _ (by walk_at "pv")) (@pe_int _ _ _ _) (fun _ _ => rfl)) (@pa_nil _) (by rfl)) (by rfl)) (by rfl) (by decide) (by rfl) (by rfl)))), ?_⟩
    walk_at "go"
    refine ⟨a, t, ls, P, k, rfl, ha, hl, hP, ok, by omega, hk6, kk⟩
theorem sc_shows_halves : FnScope ["leading", "paper", "half"] ["leading", "paper"] (defScope s_shows_halves) := ⟨rfl, rfl, rfl, by decide +kernel, rfl, by decide +kernel, by decide +kernel⟩
theorem ok_shows_halves {a : Addr} {fd : FuncData} (B : Blt K mg) {j : Nat} (g_has_form : FnAt P w K mg base "has_form" ["half", "paper"] 4 spHasForm) (g_joined : FnAt P w K mg base "joined" ["half", "paper"] 6 spJoined) (g_shows_part : FnAt P w K mg base "shows_part" ["part"] (2 * j + 7) (spShowsP (j + 1))) (F : Fun K "shows_halves" "shows_halves" s_shows_halves a fd) : FnOk P w K mg base CX0 (2 * j + 7 + 1) a fd ["leading", "paper"] (spShowsH (j + 1)) := by
  refine F.ok sc_shows_halves (fun vs H Q E h => ?_) (fun cdv A outer s H vs Q E hr h => ?_)
  · obtain ⟨a, t, ls, P, k, rfl, _⟩ := h
    rfl
  · have nd := sc_shows_halves.nd
    have hu := hr.units
    obtain ⟨a, t, ls, P, k, rfl, ha, hl, hP, ok, hk, hk6, kk⟩ := h
    have h64 := pow_le64 hk6
    refine ⟨_, (@pss_cons _ _ _ _ _ (@ps_if _ _ _ _ _ _ _ _ (@pt_not _ _ _ _ (@pt_val _ _ _ (@pe_callB _ _ _ _ _ _ _ _ _ (@k_isi _ K (by rfl)) rfl B.b_isinstance boot_isinstance (@pa_cons _ _ _ _ _ (@pv1 _ 1 _ _ (by walk_at "pv")) (@pa_cons _ _ _ _ _ (@pe_bltn _ _ (.ty "tuple") _ _ rfl B.b_tuple boot_tuple rfl (by decide) (by decide)) (@pa_nil _) (by rfl)) (by rfl)) (by decide) (by decide) (by rfl) (by rfl)) (by intro _; rfl))) (@pss_one _ _ _ (@ps_ret _ _ _ _ (@pe_bl _ _ _ _))) (@pss_nil _)) (@pss_cons _ _ _ _ _ (@ps_set _ _ 2 _ _ _ _ nd rfl (Or.inl rfl) (@pe_op _ _ _ _ _ _ _ _ (@op_fdivW _) (@pe_callB _ _ _ _ _ _ _ _ _ (@k_len _ K (by rfl)) rfl B.b_len boot_len (@pa_cons _ _ _ _ _ (@pv1 _ 0 _ _ (by walk_at "pv")) (@pa_nil _) (by rfl)) (by decide) (by decide) (by rfl) (by rfl)) (@pe_int _ _ _ _)) (by rfl) (by walk_at "vis")) (@pss_cons _ _ _ _ _ (@ps_if _ _ _ _ _ _ _ _ (@pt_cmpR _ _ _ _ _ _ _ _ (@k_eq _ K hu (by rfl)) (@pv1 _ 2 _ _ (by walk_at "pv")) (@pe_int _ _ _ _) (@nomark _ _ (by decide) (by decide))) (@pss_one _ _ _ (@ps_ret _ _ _ _ (@pe_cmpR _ _ _ _ _ _ _ _ (@k_eq _ K hu (by rfl)) (@pe_callB _ _ _ _ _ _ _ _ _ (@k_len _ K (by rfl)) rfl B.b_len boot_len (@pa_cons _ _ _ _ _ (@pv1 _ 1 _ _ (by walk_at "pv")) (@pa_nil _) (by rfl)) (by decide) (by decide) (by rfl) (by rfl)) (@pe_int _ _ _ _) (@nomark _ _ (by decide) (by decide))))) (@pss_nil _)) (@pss_cons _ _ _ _ _ (@ps_if _ _ _ _ _ _ _ _ (@PW.pt _ _ _ (@pw_or _ _ _ _ _ _ _ (@pt_not _ _ _ _ (@pt_val _ _ _ (@pe_own _ _ _ _ _ _ _ _ _ _ g_has_form (hr.mono (by omega)) (@pa_cons _ _ _ _ _ (@pv1 _ 2 _ _ (by walk_at "pv")) (@pa_cons _ _ _ _ _ (@pv1 _ 1 _ _ (by walk_at "pv")) (@pa_nil _) (by rfl)) (by rfl)) (by rfl) (by decide) (by rfl) (by rfl)) (by intro _; rfl))) (@pw_or1 _ _ _ _ (@pt_cmpR _ _ _ _ _ _ _ _ (@k_ne _ K hu (by rfl)) (@pe_own _ _ _ _ _ _ _ _ _ _ g_joined (hr.mono (by omega)) (@pa_cons _ _ _ _ _ (@pv1 _ 2 _ _ (by walk_at "pv")) (@pa_cons _ _ _ _ _ (@pv1 _ 1 _ _ (by walk_at "pv")) (@pa_nil _) (by rfl)) (by rfl)) (by rfl) (by decide) (by rfl) (by rfl)) (@pv1 _ 0 _ _ (by walk_at "pv")) (@nomark _ _ (by decide) (by decide)))))) (@pss_one _ _ _ (@ps_ret _ _ _ _ (@pe_bl _ _ _ _))) (@pss_nil _)) (@pss_one _ _ _ (@ps_ret _ _ _ _ (@pe_and _ _ _ _ _ _ _ (@pe_own _ _ _ _ _ _ _ _ _ _ g_shows_part (hr.mono (by omega)) (@pa_cons _ _ _ _ _ (@pe_ix _ _ _ _ _ _ _ (@k_ix _ K (by rfl)) (@pv1 _ 1 _ _ (by walk_at "pv")) (@pe_int _ _ _ _) (fun _ _ => rfl)) (@pa_nil _) (by rfl)) (by rfl) (by decide) (by rfl) (by rfl)) (@pe_one _ _ _ _ _ (@pe_own _ _ _ _ _ _ _ _ _ _ g_shows_part (hr.mono (by omega)) (@pa_cons _ _ _ _ _ (@pe_ix _ _ _ _ _ _ _ (@k_ix _ K (by rfl)) (@pv1 _ 1 _ _ (by walk_at "pv")) (@pe_int _ _ _ _) (fun _ _ => rfl)) (@pa_nil _) (by rfl)) (by rfl) (by decide) (by rfl) (by rfl)))))))))), ?_⟩
    cases k with
    | zero =>
      cases P with
      | node _ _ _ _ _ _ => exact ok.elim
      | nil =>
        have hP : H t = some (.tup []) := hP
        walk_at "go"
        refine s_ifeq (fun z => ?_) (fun z => absurd (show _ = (0 : Int) by rw [List.length_map, hl]; rfl) z)
        walk_at "go"
        exact kk H (Same.refl _)
    | succ k =>
      cases P with
      | nil => exact ok.elim
      | node m1 m2 lo pl up pu =>
        obtain ⟨x, y, lx, px, ly, py, ht, hx, hlx, hpx, hy, hly, hpy⟩ := hP
        obtain ⟨b1, b2, e1, l1, e2, l2, o1, o2⟩ := ok
        obtain ⟨h, eh⟩ : ∃ h, h = 2 ^ k := ⟨_, rfl⟩
        rw [← eh] at b1 b2 l1 l2
        have h1 : 1 ≤ h := by rw [eh]; exact Nat.two_pow_pos k
        have hl2 : ls.length = 2 * h := by rw [hl, eh, Nat.pow_succ]; omega
        have h32 : h ≤ 32 := by rw [Nat.pow_succ, ← eh] at h64; omega
        have F : Four H h t m1 m2 lo up := ⟨x, y, lx, px, ly, py, ht, hx, hlx, hy, hly, b1, b2, e1, l1, e2, l2, h1, h32⟩
        walk_at "go"
        rw [show ((ls.map V.int).length : Int) / 2 = (h : Int) by rw [List.length_map, hl2]; omega]
        refine s_ifeq (fun z => absurd z (by omega)) (fun _ => ?_)
        walk_at "go"
        refine ⟨h, t, m1, m2, lo, up, rfl, F, fun H1 s1 => ?_⟩
        walk_at "go"
        refine ⟨h, t, m1, m2, lo, up, rfl, F.same s1, fun r H2 s2 n2 => ?_⟩
        have s02 := s1.trans s2
        have ha := s02 _ _ ha
        have ht := s02 _ _ ht
        have hx := s02 _ _ hx
        have hy := s02 _ _ hy
        walk_at "go"
        refine s_ne_t (SqT.of n2) (SqT.of ha) ?_
        by_cases c : joinL h m1 m2 lo up = ls
        · rw [decide_eq_true c]
          walk_at "go"
          refine ⟨x, lx, px, lo, pl, k, rfl, hx, s02 _ _ hlx, by rw [l1, eh], hpx.same s02, o1, by omega, by omega, fun H3 s3 => ?_⟩
          walk_at "go"
          cases hb : showsB lo pl
          · refine iteF ?_
            have := kk _ (s02.trans s3)
            rw [show showsB ls (.node m1 m2 lo pl up pu) = false by show (decide (joinL lo.length m1 m2 lo up = ls) && (showsB lo pl && showsB up pu)) = _; rw [hb, Bool.false_and, Bool.and_false]] at this
            exact this
          · refine iteT ?_
            have ht := s3 _ _ ht
            walk_at "go"
            have s03 := s02.trans s3
            refine ⟨y, ly, py, up, pu, k, rfl, s3 _ _ hy, s03 _ _ hly, by rw [l2, eh], hpy.same s03, o2, by omega, by omega, fun H4 s4 => ?_⟩
            have := kk _ (s03.trans s4)
            rw [show showsB ls (.node m1 m2 lo pl up pu) = showsB up pu by show (decide (joinL lo.length m1 m2 lo up = ls) && (showsB lo pl && showsB up pu)) = _; rw [hb, l1, decide_eq_true c, Bool.true_and, Bool.true_and]] at this
            exact this
        · rw [decide_eq_false c]
          walk_at "go"
          have := kk _ s02
          rw [show showsB ls (.node m1 m2 lo pl up pu) = false by show (decide (joinL lo.length m1 m2 lo up = ls) && (showsB lo pl && showsB up pu)) = _; rw [l1, decide_eq_false c]; rfl] at this
          exact this
theorem sc__law_hand : FnScope ["_law_script"] ["_law_script"] (defScope s__law_hand) := ⟨rfl, rfl, rfl, by decide +kernel, rfl, by decide +kernel, by decide +kernel⟩
theorem ok__law_hand {a : Addr} {fd : FuncData} (B : Blt K mg)  (F : Fun K "_law_hand" "_law_hand" s__law_hand a fd) : FnOk P w K mg base CX0 1 a fd ["_law_script"] (spHand K) := by
  refine F.ok sc__law_hand (fun vs H Q E h => ?_) (fun cdv A outer s H vs Q E hr h => ?_)
  · obtain ⟨b, ns, rfl, _⟩ := h
    rfl
  · have nd := sc__law_hand.nd
    have hu := hr.units
    obtain ⟨b, ns, rfl, hS, k⟩ := h
    obtain ⟨ms, ems, lms⟩ := cut63 ns
    refine ⟨_, (@pss_one _ _ _ (@ps_ret _ _ _ _ (@pe_lst _ _ _ _ (@pa_cons _ _ _ _ _ (@pe_comp _ _ _ _ _ _ (defScope s__law_hand) _ ["_law_script"] ["_law_cell"] [none] _ _ _ _ rfl (@k_pi_seq _ K _ _ _ (@pe_slice _ _ _ _ _ _ _ _ _ _ (@k_sl _ K (by rfl)) (@pv1 _ 0 _ _ (by walk_at "pv")) (@po_none _) (@po_some _ _ _ (@pe_int _ _ _ _))) (by rfl)) (fun _ _ _ _ => (@pg_name _ _ 0 _ (show List.Nodup (["_law_cell"] : List Str) by decide +kernel) rfl (Or.inl rfl) (by walk_at "vis"))) (fun _ _ _ _ => (@pts_nil _)) (fun _ _ _ _ => (@pe_callB _ _ _ _ _ _ _ _ _ (@call_absN _) rfl B.b_abs boot_abs (@pa_cons _ _ _ _ _ (@pv1 _ 0 _ _ (by walk_at "pv")) (@pa_nil _) (by rfl)) (by decide) (by decide) (by rfl) (by rfl))) (by decide +kernel) (by rfl) (by rfl) (by intro _; rfl)) (@pa_cons _ _ _ _ _ (@pe_int _ _ _ _) (@pa_cons _ _ _ _ _ (@pe_int _ _ _ _) (@pa_cons _ _ _ _ _ (@pe_int _ _ _ _) (@pa_nil _) (by rfl)) (by rfl)) (by rfl)) (by rfl))))), ?_⟩
    walk_at "go"
    refine .inl ⟨b, _, rfl, hS, fun p1 hp1 => ?_⟩
    have s1 := same_upd (o := .lst (cutV (ns.map V.int) none (some 63))) hp1
    generalize hH1 : upd H p1 (.lst (cutV (ns.map V.int) none (some 63))) = H1 at s1 ⊢
    have n1 : H1 p1 = some (.lst (ms.map V.int)) := by rw [← hH1, upd_same, ems]
    refine comp_seqL (SqL.of n1) ?_
    refine comp_list (xs := ms.map V.int) (fun i acc H' => H' = H1 ∧ i ≤ 63 ∧ acc = (ms.take i).map fun z => nV z.natAbs) ⟨rfl, by omega, rfl⟩ (fun i acc H' h => ?_) (fun i acc H' h => by rw [h.1]; exact SqL.of n1) ?_ ?_
    · obtain ⟨_, hi, rfl⟩ := h
      rw [List.length_map, List.length_take]
      exact Nat.le_of_lt (small5 (by omega))
    · rintro i x acc H' hx ⟨rfl, hi, rfl⟩
      obtain ⟨z, hz, rfl⟩ := nth_map hx
      have hil : i < ms.length := (List.getElem?_eq_some_iff.mp hz).1
      walk_at "go"
      refine ⟨rfl, by omega, ?_⟩
      rw [List.take_add_one, hz, show ((some z).toList : List Int) = [z] from rfl, List.map_append, List.map_cons, List.map_nil, abs_val]
    · rintro acc H' ⟨rfl, _, rfl⟩ p2 hp2
      rw [List.length_map, List.take_length]
      walk_at "go"
      refine ⟨Nat.le_of_lt (small5 (by simp)), fun p3 hp3 => ?_⟩
      have e2 : H' p2 = none := hp2
      have ne23 : p2 ≠ p3 := ne_of_none upd_same hp3
      refine k p3 _ (s1.free ((same_upd hp2).free hp3)) ?_ (Hand.of (q := p2) (cells := ms.map Int.natAbs) (a := 0) (b := 0) (c := 0) upd_same ?_ (by rw [List.length_map]; exact lms))
      · exact s1.trans ((same_upd hp2).trans (same_upd hp3))
      · rw [upd_ne ne23, upd_same, List.map_map]
        rfl
theorem sc__law_draw : FnScope ["_law_hand_here", "_law_many", "_law_cell", "_law_once", "_law_twice", "_law_found"] ["_law_hand_here", "_law_many"] (defScope s__law_draw) := ⟨rfl, rfl, rfl, by decide +kernel, rfl, by decide +kernel, by decide +kernel⟩
theorem ok__law_draw {a : Addr} {fd : FuncData} (B : Blt K mg)  (F : Fun K "_law_draw" "_law_draw" s__law_draw a fd) : FnOk P w K mg base CX0 1 a fd ["_law_hand_here", "_law_many"] spDraw := by
  refine F.ok sc__law_draw (fun vs H Q E h => ?_) (fun cdv A outer s H vs Q E hr h => ?_)
  · obtain ⟨p, n, rfl, _⟩ := h
    rfl
  · have nd := sc__law_draw.nd
    have hu := hr.units
    obtain ⟨p, n, rfl, hH, hn0, hn1, k⟩ := h
    obtain ⟨q, cells, ca, cb, cc, h1, h2, h3⟩ := hH
    have npq : q ≠ p := by
      intro e
      rw [e, h1] at h2
      cases cells with
      | nil => cases h2
      | cons c r => cases h2
    have hq : ∀ o, upd H p o q = some (.lst (cells.map nV)) := fun o => by rw [upd_ne npq]; exact h2
    have fin : ∀ (r a b c : Nat), r < n → Q (nV r) (upd H p (.lst [.ref q, nV a, nV b, nV c])) := fun r a b c hr => k r _ hr (But.updL h1) ⟨q, cells, a, b, c, upd_same, hq _, h3⟩
    refine ⟨_, (@pss_cons _ _ _ _ _ (@ps_asg _ _ _ _ _ _ (@pe_op _ _ _ _ _ _ _ _ (@k_add _ K (by rfl)) (@pe_ix _ _ _ _ _ _ _ (@k_ix _ K (by rfl)) (@pv1 _ 0 _ _ (by walk_at "pv")) (@pe_int _ _ _ _) (fun _ _ => rfl)) (@pe_int _ _ _ _)) (@pg_sub _ _ _ _ _ _ _ (@pv1 _ 0 _ _ (by walk_at "pv")) (@pe_int _ _ _ _) (@set_list _) (by intro _; rfl)) (by rfl) (by rfl) (by rfl)) (@pss_cons _ _ _ _ _ (@ps_if _ _ _ _ _ _ _ _ (@pt_cmpR _ _ _ _ _ _ _ _ (@k_eq _ K hu (by rfl)) (@pe_ix _ _ _ _ _ _ _ (@k_ix _ K (by rfl)) (@pv1 _ 0 _ _ (by walk_at "pv")) (@pe_int _ _ _ _) (fun _ _ => rfl)) (@pe_int _ _ _ _) (@nomark _ _ (by decide) (by decide))) (@pss_cons _ _ _ _ _ (@ps_set _ _ 2 _ _ _ _ nd rfl (Or.inl rfl) (@pe_int _ _ _ _) (by rfl) (by walk_at "vis")) (@pss_cons _ _ _ _ _ (@ps_if _ _ _ _ _ _ _ _ (@pt_cmpR _ _ _ _ _ _ _ _ (@op_gt _) (@pe_callB _ _ _ _ _ _ _ _ _ (@k_len _ K (by rfl)) rfl B.b_len boot_len (@pa_cons _ _ _ _ _ (@pe_ix _ _ _ _ _ _ _ (@k_ix _ K (by rfl)) (@pv1 _ 0 _ _ (by walk_at "pv")) (@pe_int _ _ _ _) (fun _ _ => rfl)) (@pa_nil _) (by rfl)) (by decide) (by decide) (by rfl) (by rfl)) (@pe_int _ _ _ _) (@nomark _ _ (by decide) (by decide))) (@pss_one _ _ _ (@ps_set _ _ 2 _ _ _ _ nd rfl (Or.inl rfl) (@pe_ix _ _ _ _ _ _ _ (@k_ix _ K (by rfl)) (@pe_ix _ _ _ _ _ _ _ (@k_ix _ K (by rfl)) (@pv1 _ 0 _ _ (by walk_at "pv")) (@pe_int _ _ _ _) (fun _ _ => rfl)) (@pe_op _ _ _ _ _ _ _ _ (@op_mod _) (@pe_ix _ _ _ _ _ _ _ (@k_ix _ K (by rfl)) (@pv1 _ 0 _ _ (by walk_at "pv")) (@pe_int _ _ _ _) (fun _ _ => rfl)) (@pe_callB _ _ _ _ _ _ _ _ _ (@k_len _ K (by rfl)) rfl B.b_len boot_len (@pa_cons _ _ _ _ _ (@pe_ix _ _ _ _ _ _ _ (@k_ix _ K (by rfl)) (@pv1 _ 0 _ _ (by walk_at "pv")) (@pe_int _ _ _ _) (fun _ _ => rfl)) (@pa_nil _) (by rfl)) (by decide) (by decide) (by rfl) (by rfl))) (fun _ _ => rfl)) (by rfl) (by walk_at "vis"))) (@pss_nil _)) (@pss_cons _ _ _ _ _ (@ps_asg _ _ _ _ _ _ (@pe_op _ _ _ _ _ _ _ _ (@k_add _ K (by rfl)) (@pe_ix _ _ _ _ _ _ _ (@k_ix _ K (by rfl)) (@pv1 _ 0 _ _ (by walk_at "pv")) (@pe_int _ _ _ _) (fun _ _ => rfl)) (@pe_int _ _ _ _)) (@pg_sub _ _ _ _ _ _ _ (@pv1 _ 0 _ _ (by walk_at "pv")) (@pe_int _ _ _ _) (@set_list _) (by intro _; rfl)) (by rfl) (by rfl) (by rfl)) (@pss_cons _ _ _ _ _ (@ps_if _ _ _ _ _ _ _ _ (@PW.pt _ _ _ (@pw_or _ _ _ _ _ _ _ (@pt_cmpR _ _ _ _ _ _ _ _ (@op_lt _) (@pv1 _ 2 _ _ (by walk_at "pv")) (@pe_op _ _ _ _ _ _ _ _ (@op_pow _) (@pe_int _ _ _ _) (@pe_int _ _ _ _)) (@nomark _ _ (by decide) (by decide))) (@pw_or1 _ _ _ _ (@pt_cmpR _ _ _ _ _ _ _ _ (@op_gt _) (@pe_ix _ _ _ _ _ _ _ (@k_ix _ K (by rfl)) (@pv1 _ 0 _ _ (by walk_at "pv")) (@pe_int _ _ _ _) (fun _ _ => rfl)) (@pe_callB _ _ _ _ _ _ _ _ _ (@k_len _ K (by rfl)) rfl B.b_len boot_len (@pa_cons _ _ _ _ _ (@pe_ix _ _ _ _ _ _ _ (@k_ix _ K (by rfl)) (@pv1 _ 0 _ _ (by walk_at "pv")) (@pe_int _ _ _ _) (fun _ _ => rfl)) (@pa_nil _) (by rfl)) (by decide) (by decide) (by rfl) (by rfl)) (@nomark _ _ (by decide) (by decide)))))) (@pss_cons _ _ _ _ _ (@ps_set _ _ 3 _ _ _ _ nd rfl (Or.inl rfl) (@pe_op _ _ _ _ _ _ _ _ (@op_mod _) (@pe_op _ _ _ _ _ _ _ _ (@k_mul _ K (by rfl)) (@pe_op _ _ _ _ _ _ _ _ (@k_add _ K (by rfl)) (@pe_op _ _ _ _ _ _ _ _ (@k_add _ K (by rfl)) (@pe_op _ _ _ _ _ _ _ _ (@op_mod _) (@pv1 _ 2 _ _ (by walk_at "pv")) (@pe_int _ _ _ _)) (@pe_op _ _ _ _ _ _ _ _ (@k_mul _ K (by rfl)) (@pe_int _ _ _ _) (@pe_ix _ _ _ _ _ _ _ (@k_ix _ K (by rfl)) (@pv1 _ 0 _ _ (by walk_at "pv")) (@pe_int _ _ _ _) (fun _ _ => rfl)))) (@pe_int _ _ _ _)) (@pe_int _ _ _ _)) (@pe_int _ _ _ _)) (by rfl) (by walk_at "vis")) (@pss_cons _ _ _ _ _ (@ps_set _ _ 4 _ _ _ _ nd rfl (Or.inl rfl) (@pe_op _ _ _ _ _ _ _ _ (@op_mod _) (@pe_op _ _ _ _ _ _ _ _ (@k_add _ K (by rfl)) (@pe_op _ _ _ _ _ _ _ _ (@k_mul _ K (by rfl)) (@pv1 _ 3 _ _ (by walk_at "pv")) (@pe_op _ _ _ _ _ _ _ _ (@k_add _ K (by rfl)) (@pe_op _ _ _ _ _ _ _ _ (@op_mod _) (@pv1 _ 3 _ _ (by walk_at "pv")) (@pe_int _ _ _ _)) (@pe_ix _ _ _ _ _ _ _ (@k_ix _ K (by rfl)) (@pv1 _ 0 _ _ (by walk_at "pv")) (@pe_int _ _ _ _) (fun _ _ => rfl)))) (@pe_op _ _ _ _ _ _ _ _ (@k_mul _ K (by rfl)) (@pe_int _ _ _ _) (@pe_ix _ _ _ _ _ _ _ (@k_ix _ K (by rfl)) (@pv1 _ 0 _ _ (by walk_at "pv")) (@pe_int _ _ _ _) (fun _ _ => rfl)))) (@pe_int _ _ _ _)) (by rfl) (by walk_at "vis")) (@pss_one _ _ _ (@ps_ret _ _ _ _ (@pe_op _ _ _ _ _ _ _ _ (@op_mod _) (@pe_op _ _ _ _ _ _ _ _ (@op_fdivW _) (@pv1 _ 4 _ _ (by walk_at "pv")) (@pe_int _ _ _ _)) (@pv1 _ 1 _ _ (by walk_at "pv"))))))) (@pss_nil _)) (@pss_one _ _ _ (@ps_asg _ _ _ _ _ _ (@pv1 _ 2 _ _ (by walk_at "pv")) (@pg_sub _ _ _ _ _ _ _ (@pv1 _ 0 _ _ (by walk_at "pv")) (@pe_int _ _ _ _) (@set_list _) (by intro _; rfl)) (by rfl) (by rfl) (by rfl))))))) (@pss_nil _)) (@pss_cons _ _ _ _ _ (@ps_set _ _ 5 _ _ _ _ nd rfl (Or.inl rfl) (@pe_op _ _ _ _ _ _ _ _ (@op_mod _) (@pe_ix _ _ _ _ _ _ _ (@k_ix _ K (by rfl)) (@pv1 _ 0 _ _ (by walk_at "pv")) (@pe_int _ _ _ _) (fun _ _ => rfl)) (@pv1 _ 1 _ _ (by walk_at "pv"))) (by rfl) (by walk_at "vis")) (@pss_cons _ _ _ _ _ (@ps_asg _ _ _ _ _ _ (@pe_op _ _ _ _ _ _ _ _ (@op_fdivW _) (@pe_ix _ _ _ _ _ _ _ (@k_ix _ K (by rfl)) (@pv1 _ 0 _ _ (by walk_at "pv")) (@pe_int _ _ _ _) (fun _ _ => rfl)) (@pv1 _ 1 _ _ (by walk_at "pv"))) (@pg_sub _ _ _ _ _ _ _ (@pv1 _ 0 _ _ (by walk_at "pv")) (@pe_int _ _ _ _) (@set_list _) (by intro _; rfl)) (by rfl) (by rfl) (by rfl)) (@pss_one _ _ _ (@ps_ret _ _ _ _ (@pv1 _ 5 _ _ (by walk_at "pv")))))))), ?_⟩
    walk_at "go"
    refine s_ifeq (fun hc => ?_) (fun hc => ?_)
    · walk_at "go"
      refine s_ifd (fun hl => ?_) (fun hl => ?_)
      · have hl' : 0 < cells.length := by simpa using hl
        walk_at "go"
        have hidx : ((ca : Int) % ((cells.map nV).length : Int)).toNat = ca % cells.length := by
          rw [List.length_map, ← Int.natCast_emod, Int.toNat_natCast]
        have e0 : (cells.map nV)[((ca : Int) % ((cells.map nV).length : Int)).toNat]? = some (nV (cells[ca % cells.length]'(Nat.mod_lt _ hl'))) := by
          rw [hidx, List.getElem?_map, List.getElem?_eq_getElem (Nat.mod_lt _ hl')]
          rfl
        refine s_ix_l (SqL.of (hq _)) (Int.emod_nonneg _ (by rw [List.length_map]; omega)) e0 ?_
        walk_at "go"
        generalize (10 : Int) ^ Int.toNat 18 = big
        refine ite2 (fun h18 => ?_) (fun h18 => ?_)
        · walk_at "go"
          obtain ⟨r, hr1, er⟩ := modN _ hn0
          rw [er]
          exact fin r (ca + 1) cb (cc + 1) hr1
        · walk_at "go"
          refine ite2 (fun h19 => ?_) (fun h19 => ?_)
          · walk_at "go"
            obtain ⟨r, hr1, er⟩ := modN _ hn0
            rw [er]
            exact fin r (ca + 1) cb (cc + 1) hr1
          · walk_at "go"
            exact fin ((cells[ca % cells.length]'(Nat.mod_lt _ hl')) % n) (ca + 1) ((cells[ca % cells.length]'(Nat.mod_lt _ hl')) / n) (cc + 1) (Nat.mod_lt _ hn0)
      · skip
        walk_at "go"
        generalize (10 : Int) ^ Int.toNat 18 = big
        refine ite2 (fun h18 => ?_) (fun h18 => ?_)
        · walk_at "go"
          obtain ⟨r, hr1, er⟩ := modN _ hn0
          rw [er]
          exact fin r (ca + 1) cb (cc + 1) hr1
        · walk_at "go"
          refine ite2 (fun h19 => ?_) (fun h19 => ?_)
          · walk_at "go"
            obtain ⟨r, hr1, er⟩ := modN _ hn0
            rw [er]
            exact fin r (ca + 1) cb (cc + 1) hr1
          · walk_at "go"
            exact fin (0 % n) (ca + 1) (0 / n) (cc + 1) (Nat.mod_lt _ hn0)
    · walk_at "go"
      exact fin (cb % n) ca (cb / n) (cc + 1) (Nat.mod_lt _ hn0)
theorem sc__law_halved : FnScope ["_law_hand_here"] ["_law_hand_here"] (defScope s__law_halved) := ⟨rfl, rfl, rfl, by decide +kernel, rfl, by decide +kernel, by decide +kernel⟩
theorem ok__law_halved {a : Addr} {fd : FuncData} (B : Blt K mg) (g__law_draw : FnAt P w K mg base "_law_draw" ["_law_hand_here", "_law_many"] 1 spDraw) (F : Fun K "_law_halved" "_law_halved" s__law_halved a fd) : FnOk P w K mg base CX0 2 a fd ["_law_hand_here"] spHalvedD := by
  refine F.ok sc__law_halved (fun vs H Q E h => ?_) (fun cdv A outer s H vs Q E hr h => ?_)
  · obtain ⟨p, rfl, _⟩ := h
    rfl
  · have nd := sc__law_halved.nd
    have hu := hr.units
    obtain ⟨p, rfl, hH, k⟩ := h
    refine ⟨_, (@pss_one _ _ _ (@ps_ret _ _ _ _ (@pe_ix _ _ _ _ _ _ _ (@k_ix _ K (by rfl)) (@pe_lst _ _ _ _ (@pa_cons _ _ _ _ _ (@pe_int _ _ _ _) (@pa_cons _ _ _ _ _ (@pe_int _ _ _ _) (@pa_cons _ _ _ _ _ (@pe_int _ _ _ _) (@pa_cons _ _ _ _ _ (@pe_int _ _ _ _) (@pa_cons _ _ _ _ _ (@pe_int _ _ _ _) (@pa_cons _ _ _ _ _ (@pe_int _ _ _ _) (@pa_cons _ _ _ _ _ (@pe_int _ _ _ _) (@pa_cons _ _ _ _ _ (@pe_int _ _ _ _) (@pa_nil _) (by rfl)) (by rfl)) (by rfl)) (by rfl)) (by rfl)) (by rfl)) (by rfl)) (by rfl))) (@pe_own _ _ _ _ _ _ _ _ _ _ g__law_draw (hr.mono (by decide)) (@pa_cons _ _ _ _ _ (@pv1 _ 0 _ _ (by walk_at "pv")) (@pa_cons _ _ _ _ _ (@pe_int _ _ _ _) (@pa_nil _) (by rfl)) (by rfl)) (by rfl) (by decide) (by rfl) (by rfl)) (fun _ _ => rfl)))), ?_⟩
    walk_at "go"
    refine s_newL (by simp) fun l H1 f1 s1 n1 => ?_
    walk_at "go"
    refine ⟨p, 8, rfl, hH.same s1, by decide, by decide, fun r H2 hr b2 h2 => ?_⟩
    have n2 := b2.keep _ _ (hH.ne f1) n1
    have b := s1.but.trans b2
    rcases (show r = 0 ∨ r = 1 ∨ r = 2 ∨ r = 3 ∨ r = 4 ∨ r = 5 ∨ r = 6 ∨ r = 7 by omega) with rfl | rfl | rfl | rfl | rfl | rfl | rfl | rfl
    · walk_at "go"
      exact k 0 H2 (by decide) b h2
    · walk_at "go"
      exact k 1 H2 (by decide) b h2
    · walk_at "go"
      exact k 2 H2 (by decide) b h2
    · walk_at "go"
      exact k 3 H2 (by decide) b h2
    · walk_at "go"
      exact k 3 H2 (by decide) b h2
    · walk_at "go"
      exact k 4 H2 (by decide) b h2
    · walk_at "go"
      exact k 5 H2 (by decide) b h2
    · walk_at "go"
      exact k 6 H2 (by decide) b h2
theorem sc__law_even : FnScope ["_law_hand_here", "_law_width", "_law_left", "_law_found"] ["_law_hand_here", "_law_width"] (defScope s__law_even) := ⟨rfl, rfl, rfl, by decide +kernel, rfl, by decide +kernel, by decide +kernel⟩
theorem ok__law_even {a : Addr} {fd : FuncData} (B : Blt K mg) (g__law_draw : FnAt P w K mg base "_law_draw" ["_law_hand_here", "_law_many"] 1 spDraw) (F : Fun K "_law_even" "_law_even" s__law_even a fd) : FnOk P w K mg base CX0 2 a fd ["_law_hand_here", "_law_width"] spEven := by
  refine F.ok sc__law_even (fun vs H Q E h => ?_) (fun cdv A outer s H vs Q E hr h => ?_)
  · obtain ⟨p, w, rfl, _⟩ := h
    rfl
  · have nd := sc__law_even.nd
    have hu := hr.units
    obtain ⟨p, w, rfl, hH, hw1, hw2, k⟩ := h
    refine ⟨_, (@pss_cons _ _ _ _ _ (@ps_set _ _ 2 _ _ _ _ nd rfl (Or.inl rfl) (@pe_list_of_range _ K _ _ _ _ _ _ rfl B.b_list B.b_range (@pa_cons _ _ _ _ _ (@pv1 _ 1 _ _ (by walk_at "pv")) (@pa_nil _) (by rfl)) (by rfl) (by rfl) (by rfl) (by rfl) (by rfl)) (by rfl) (by walk_at "vis")) (@pss_cons _ _ _ _ _ (@ps_set _ _ 3 _ _ _ _ nd rfl (Or.inl rfl) (@pe_lst _ _ _ _ (@pa_nil _)) (by rfl) (by walk_at "vis")) (@pss_cons _ _ _ _ _ (@ps_while _ _ _ _ _ _ PassesOwn.never (@pt_cmpR _ _ _ _ _ _ _ _ (@k_ne _ K hu (by rfl)) (@pv1 _ 2 _ _ (by walk_at "pv")) (@pe_lst _ _ _ _ (@pa_nil _)) (@nomark _ _ (by decide) (by decide))) (@pss_one _ _ _ (@ps_expr _ _ _ _ (@k_bm _ K _ _ _ _ _ _ _ _ _ _ _ PySem.F.plainAttrs_list PySem.F.slot_list_append PySem.F.type_list_append (@mt_append _) (@pv1 _ 3 _ _ (by walk_at "pv")) (@pa_cons _ _ _ _ _ (@k_bm _ K _ _ _ _ _ _ _ _ _ _ _ PySem.F.plainAttrs_list PySem.F.slot_list_pop PySem.F.type_list_pop (@mt_popAt _) (@pv1 _ 2 _ _ (by walk_at "pv")) (@pa_cons _ _ _ _ _ (@pe_own _ _ _ _ _ _ _ _ _ _ g__law_draw (hr.mono (by decide)) (@pa_cons _ _ _ _ _ (@pv1 _ 0 _ _ (by walk_at "pv")) (@pa_cons _ _ _ _ _ (@pe_callB _ _ _ _ _ _ _ _ _ (@k_len _ K (by rfl)) rfl B.b_len boot_len (@pa_cons _ _ _ _ _ (@pv1 _ 2 _ _ (by walk_at "pv")) (@pa_nil _) (by rfl)) (by decide) (by decide) (by rfl) (by rfl)) (@pa_nil _) (by rfl)) (by rfl)) (by rfl) (by decide) (by rfl) (by rfl)) (@pa_nil _) (by rfl)) (by rfl) (by rfl) (by rfl) (by rfl) (by rfl) (by rfl)) (@pa_nil _) (by rfl)) (by rfl) (by rfl) (by rfl) (by rfl) (by rfl) (by rfl)) (by rfl)))) (@pss_one _ _ _ (@ps_ret _ _ _ _ (@pe_callTy _ _ _ _ _ _ _ _ _ (@k_tup _ K (by rfl)) rfl B.b_tuple boot_tuple (@pa_cons _ _ _ _ _ (@pv1 _ 3 _ _ (by walk_at "pv")) (@pa_nil _) (by rfl)) (by decide) (by decide) (by rfl) (by rfl))))))), ?_⟩
    walk_at "go"
    refine ⟨w, rfl, by omega, fun l hl => ?_⟩
    have nlp := hH.ne hl
    have b1 : But p H (upd H l (.lst ((List.range w).map fun (x : Nat) => V.int (x : Int)))) := (same_upd hl).but
    have h1 := hH.same (same_upd (o := .lst ((List.range w).map fun (x : Nat) => V.int (x : Int))) hl)
    have n1 : upd H l (.lst ((List.range w).map fun (x : Nat) => V.int (x : Int))) l = some (.lst ((List.range w).map nV)) := upd_same
    generalize upd H l (.lst ((List.range w).map fun (x : Nat) => V.int (x : Int))) = H1 at b1 h1 n1 ⊢
    walk_at "go"
    refine ⟨Nat.zero_le _, fun f hf => ?_⟩
    have nfl : f ≠ l := fun z => by rw [z, n1] at hf; cases hf
    have nfp := h1.ne hf
    have fH : H f = none := (But.free b1 h1 hf).1
    walk_at "go"
    refine while_by (fun σ H' => σ = [some (.ref p), some (nV w), some (.ref l), some (.ref f)] ∧ But p H H' ∧ Hand H' p ∧ ∃ L F : List Nat, H' l = some (.lst (L.map nV)) ∧ H' f = some (.lst (F.map nV)) ∧ (F ++ L).Perm (List.range w)) (fun _ H' => match H' l with | some (.lst xs) => xs.length | _ => 0)
      ⟨rfl, b1.trans (same_upd hf).but, h1.same (same_upd hf), List.range w, [], (same_upd hf) _ _ n1, upd_same, List.Perm.refl _⟩ ?_ ?_
    · rintro σ H' ⟨rfl, b2, h2, L, F, nL, nF, pm⟩
      have lenF : F.length + L.length = w := by
        have := pm.length_eq
        rw [List.length_append, List.length_range] at this
        exact this
      walk_at "go"
      refine ⟨Nat.zero_le _, fun e he => ?_⟩
      have se := same_upd (o := .lst []) he
      have ne0 : upd H' e (.lst []) e = some (.lst []) := upd_same
      have hle : ∀ o, upd H' e o l = some (.lst (L.map nV)) := fun o => (same_upd he) _ _ nL
      generalize hHe : upd H' e (.lst []) = H3 at se ne0 ⊢
      have nL3 := se _ _ nL
      have nF3 := se _ _ nF
      have h3 := h2.same se
      have b3 : But p H H3 := b2.trans se.but
      refine ⟨.list ((L.map (fun (x : Nat) => (x : Int))).map .int), .list [], DatV.list (SqL.of nL3) (datvs_nats L), DatV.list (SqL.of ne0) DatVs.nil, shpd_ints _, rfl, ?_⟩
      cases L with
      | nil =>
        rw [show (!PyData.eqv (.list ((([] : List Nat).map (fun (x : Nat) => (x : Int))).map .int)) (.list [])) = false from rfl]
        walk_at "go"
        refine ⟨f, _, rfl, .inl ⟨SqL.of nF3, fun t ht => ?_⟩⟩
        rw [List.append_nil] at pm
        exact k t F _ pm (b3.trans (same_upd ht).but) (h3.same (same_upd ht)) upd_same
      | cons y ys =>
        rw [show (!PyData.eqv (.list (((y :: ys).map (fun (x : Nat) => (x : Int))).map .int)) (.list [])) = true from rfl]
        walk_at "go"
        rw [List.length_map]
        refine ⟨p, (y :: ys).length, rfl, h3, by simp, by rw [List.length_cons] at lenF ⊢; omega, fun r H4 hr4 b4 h4 => ?_⟩
        have nL4 := b4.keep _ _ nlp nL3
        have nF4 := b4.keep _ _ nfp nF3
        walk_at "go"
        have er : ((y :: ys).map nV)[r]? = some (nV ((y :: ys)[r])) := by rw [List.getElem?_map, List.getElem?_eq_getElem hr4]; rfl
        refine ⟨l, _, _, r, _, rfl, rfl, nL4, by omega, by omega, ?_, er, ?_⟩
        · rw [seqIndex_of (Int.natCast_nonneg r) (by rw [List.length_map]; omega), Int.toNat_natCast]
        · have nF5 : ∀ o, upd H4 l o f = some (.lst (F.map nV)) := fun o => by rw [upd_ne nfl]; exact nF4
          refine s_nil ?_
          refine s_app (nF5 _) (small5 (by rw [List.length_map]; omega)) ?_
          walk_at "go"
          refine ⟨⟨rfl, ?_, ?_, (y :: ys).eraseIdx r, F ++ [(y :: ys)[r]], ?_, ?_, ?_⟩, ?_⟩
          · exact ((b3.trans b4).upd' hl).upd' fH
          · exact Hand.upd hH ((b3.trans b4).upd' hl) (Hand.upd hH (b3.trans b4) h4 hl) fH
          · rw [upd_ne nfl.symm, upd_same, map_erase]
          · rw [upd_same, List.map_append]; rfl
          · rw [List.append_assoc]
            exact (List.Perm.append_left F (erase_perm _ r hr4)).trans pm
          · have e6 : upd (upd H4 l (.lst (((y :: ys).map nV).eraseIdx r))) f (.lst (F.map nV ++ [nV ((y :: ys)[r])])) l = some (.lst (((y :: ys).map nV).eraseIdx r)) := by rw [upd_ne nfl.symm, upd_same]
            rw [e6, nL]
            show (((y :: ys).map nV).eraseIdx r).length < ((y :: ys).map nV).length
            rw [List.length_eraseIdx_of_lt (by rw [List.length_map]; exact hr4), List.length_map]
            simp
    · rintro σ H' Q' Q'' hq ⟨v, e1, hz, h⟩
      refine ⟨v, e1, hz, fun q hq0 => ?_⟩
      obtain ⟨d, e, h1, h2, h3, h4, kk, e5, h6⟩ := h q hq0
      exact ⟨d, e, h1, h2, h3, h4, kk, e5, hq _ _ h6⟩
theorem sc__law_ordered : FnScope ["_law_hand_here", "_law_width", "_law_way", "_law_by", "_law_found", "_law_turn", "_law_one", "_law_other"] ["_law_hand_here", "_law_width"] (defScope s__law_ordered) := ⟨rfl, rfl, rfl, by decide +kernel, rfl, by decide +kernel, by decide +kernel⟩
theorem ok__law_ordered {a : Addr} {fd : FuncData} (B : Blt K mg) (g__law_draw : FnAt P w K mg base "_law_draw" ["_law_hand_here", "_law_many"] 1 spDraw) (g__law_even : FnAt P w K mg base "_law_even" ["_law_hand_here", "_law_width"] 2 spEven) (F : Fun K "_law_ordered" "_law_ordered" s__law_ordered a fd) : FnOk P w K mg base CX0 3 a fd ["_law_hand_here", "_law_width"] spOrdered := by
  refine F.ok sc__law_ordered (fun vs H Q E h => ?_) (fun cdv A outer s H vs Q E hr h => ?_)
  · obtain ⟨p, w, rfl, _⟩ := h
    rfl
  · have nd := sc__law_ordered.nd
    have hu := hr.units
    obtain ⟨p, w, rfl, hH, hw1, hw2, k⟩ := h
    refine ⟨_, (@pss_cons _ _ _ _ _ (@ps_set _ _ 2 _ _ _ _ nd rfl (Or.inl rfl) (@pe_own _ _ _ _ _ _ _ _ _ _ g__law_draw (hr.mono (by decide)) (@pa_cons _ _ _ _ _ (@pv1 _ 0 _ _ (by walk_at "pv")) (@pa_cons _ _ _ _ _ (@pe_int _ _ _ _) (@pa_nil _) (by rfl)) (by rfl)) (by rfl) (by decide) (by rfl) (by rfl)) (by rfl) (by walk_at "vis")) (@pss_cons _ _ _ _ _ (@ps_if _ _ _ _ _ _ _ _ (@pt_cmpR _ _ _ _ _ _ _ _ (@op_lt _) (@pv1 _ 2 _ _ (by walk_at "pv")) (@pe_int _ _ _ _) (@nomark _ _ (by decide) (by decide))) (@pss_one _ _ _ (@ps_ret _ _ _ _ (@pe_own _ _ _ _ _ _ _ _ _ _ g__law_even (hr.mono (by decide)) (@pa_cons _ _ _ _ _ (@pv1 _ 0 _ _ (by walk_at "pv")) (@pa_cons _ _ _ _ _ (@pv1 _ 1 _ _ (by walk_at "pv")) (@pa_nil _) (by rfl)) (by rfl)) (by rfl) (by decide) (by rfl) (by rfl)))) (@pss_nil _)) (@pss_cons _ _ _ _ _ (@ps_if _ _ _ _ _ _ _ _ (@pt_cmpR _ _ _ _ _ _ _ _ (@k_eq _ K hu (by rfl)) (@pv1 _ 2 _ _ (by walk_at "pv")) (@pe_int _ _ _ _) (@nomark _ _ (by decide) (by decide))) (@pss_one _ _ _ (@ps_ret _ _ _ _ (@pe_callTy _ _ _ _ _ _ _ _ _ (@k_tup _ K (by rfl)) rfl B.b_tuple boot_tuple (@pa_cons _ _ _ _ _ (@pe_comp _ _ _ _ _ _ (defScope s__law_ordered) _ ["_law_hand_here", "_law_width", "_law_way", "_law_by", "_law_found", "_law_turn", "_law_one", "_law_other"] ["_law_place", "_law_width"] [none, some 1] _ _ _ _ rfl (@pi_range1 _ _ _ _ _ _ rfl B.b_range (@pa_cons _ _ _ _ _ (@pv1 _ 1 _ _ (by walk_at "pv")) (@pa_nil _) (by rfl)) (by rfl)) (fun _ _ _ _ => (@pg_name _ _ 0 _ (show List.Nodup (["_law_place", "_law_width"] : List Str) by decide +kernel) rfl (Or.inl rfl) (by walk_at "vis"))) (fun _ _ _ _ => (@pts_nil _)) (fun _ _ _ _ => (@pe_op _ _ _ _ _ _ _ _ (@op_sub _) (@pe_op _ _ _ _ _ _ _ _ (@op_sub _) (@pv1 _ 1 _ _ (by walk_at "pv")) (@pe_int _ _ _ _)) (@pv1 _ 0 _ _ (by walk_at "pv")))) (by decide +kernel) (by rfl) (by rfl) (by intro _; rfl)) (@pa_nil _) (by rfl)) (by decide) (by decide) (by rfl) (by rfl)))) (@pss_nil _)) (@pss_cons _ _ _ _ _ (@ps_if _ _ _ _ _ _ _ _ (@pt_cmpR _ _ _ _ _ _ _ _ (@k_eq _ K hu (by rfl)) (@pv1 _ 2 _ _ (by walk_at "pv")) (@pe_int _ _ _ _) (@nomark _ _ (by decide) (by decide))) (@pss_cons _ _ _ _ _ (@ps_set _ _ 3 _ _ _ _ nd rfl (Or.inr rfl) (@pe_own _ _ _ _ _ _ _ _ _ _ g__law_draw (hr.mono (by decide)) (@pa_cons _ _ _ _ _ (@pv1 _ 0 _ _ (by walk_at "pv")) (@pa_cons _ _ _ _ _ (@pv1 _ 1 _ _ (by walk_at "pv")) (@pa_nil _) (by rfl)) (by rfl)) (by rfl) (by decide) (by rfl) (by rfl)) (by rfl) (by walk_at "vis")) (@pss_one _ _ _ (@ps_ret _ _ _ _ (@pe_callTy _ _ _ _ _ _ _ _ _ (@k_tup _ K (by rfl)) rfl B.b_tuple boot_tuple (@pa_cons _ _ _ _ _ (@pe_comp _ _ _ _ _ _ (defScope s__law_ordered) _ ["_law_hand_here", "_law_width", "_law_way", "_law_by", "_law_found", "_law_turn", "_law_one", "_law_other"] ["_law_place", "_law_by", "_law_width"] [none, some 3, some 1] _ _ _ _ rfl (@pi_range1 _ _ _ _ _ _ rfl B.b_range (@pa_cons _ _ _ _ _ (@pv1 _ 1 _ _ (by walk_at "pv")) (@pa_nil _) (by rfl)) (by rfl)) (fun _ _ _ _ => (@pg_name _ _ 0 _ (show List.Nodup (["_law_place", "_law_by", "_law_width"] : List Str) by decide +kernel) rfl (Or.inl rfl) (by walk_at "vis"))) (fun _ _ _ _ => (@pts_nil _)) (fun _ _ _ _ => (@pe_op _ _ _ _ _ _ _ _ (@op_mod _) (@pe_op _ _ _ _ _ _ _ _ (@k_add _ K (by rfl)) (@pv1 _ 0 _ _ (by walk_at "pv")) (@pv1 _ 1 _ _ (by walk_at "pv"))) (@pv1 _ 2 _ _ (by walk_at "pv")))) (by decide +kernel) (by rfl) (by rfl) (by intro _; rfl)) (@pa_nil _) (by rfl)) (by decide) (by decide) (by rfl) (by rfl))))) (@pss_nil _)) (@pss_cons _ _ _ _ _ (@ps_set _ _ 4 _ _ _ _ nd rfl (Or.inl rfl) (@pe_list_of_range _ K _ _ _ _ _ _ rfl B.b_list B.b_range (@pa_cons _ _ _ _ _ (@pv1 _ 1 _ _ (by walk_at "pv")) (@pa_nil _) (by rfl)) (by rfl) (by rfl) (by rfl) (by rfl) (by rfl)) (by rfl) (by walk_at "vis")) (@pss_cons _ _ _ _ _ (@ps_for _ _ _ _ _ _ _ _ PassesOwn.never rfl (@pi_range1 _ _ _ _ _ _ rfl B.b_range (@pa_cons _ _ _ _ _ (@pe_ix _ _ _ _ _ _ _ (@k_ix _ K (by rfl)) (@pe_lst _ _ _ _ (@pa_cons _ _ _ _ _ (@pe_int _ _ _ _) (@pa_cons _ _ _ _ _ (@pe_int _ _ _ _) (@pa_cons _ _ _ _ _ (@pe_int _ _ _ _) (@pa_cons _ _ _ _ _ (@pe_int _ _ _ _) (@pa_nil _) (by rfl)) (by rfl)) (by rfl)) (by rfl))) (@pe_own _ _ _ _ _ _ _ _ _ _ g__law_draw (hr.mono (by decide)) (@pa_cons _ _ _ _ _ (@pv1 _ 0 _ _ (by walk_at "pv")) (@pa_cons _ _ _ _ _ (@pe_int _ _ _ _) (@pa_nil _) (by rfl)) (by rfl)) (by rfl) (by decide) (by rfl) (by rfl)) (fun _ _ => rfl)) (@pa_nil _) (by rfl)) (by rfl)) (@pg_name _ _ 5 _ nd rfl (Or.inl rfl) (by walk_at "vis")) (@pss_cons _ _ _ _ _ (@ps_par _ _ 6 7 _ _ _ _ _ _ _ _ _ _ _ rfl nd rfl rfl (by decide) rfl rfl (@pa_cons _ _ _ _ _ (@pe_own _ _ _ _ _ _ _ _ _ _ g__law_draw (hr.mono (by decide)) (@pa_cons _ _ _ _ _ (@pv1 _ 0 _ _ (by walk_at "pv")) (@pa_cons _ _ _ _ _ (@pv1 _ 1 _ _ (by walk_at "pv")) (@pa_nil _) (by rfl)) (by rfl)) (by rfl) (by decide) (by rfl) (by rfl)) (@pa_cons _ _ _ _ _ (@pe_own _ _ _ _ _ _ _ _ _ _ g__law_draw (hr.mono (by decide)) (@pa_cons _ _ _ _ _ (@pv1 _ 0 _ _ (by walk_at "pv")) (@pa_cons _ _ _ _ _ (@pv1 _ 1 _ _ (by walk_at "pv")) (@pa_nil _) (by rfl)) (by rfl)) (by rfl) (by decide) (by rfl) (by rfl)) (@pa_nil _) (by rfl)) (by rfl)) rfl (by rfl)) (@pss_one _ _ _ (@ps_asg _ _ _ _ _ _ (@pe_tup _ _ _ _ _ (@pa_cons _ _ _ _ _ (@pe_ix _ _ _ _ _ _ _ (@k_ix _ K (by rfl)) (@pv1 _ 4 _ _ (by walk_at "pv")) (@pv1 _ 7 _ _ (by walk_at "pv")) (fun _ _ => rfl)) (@pa_cons _ _ _ _ _ (@pe_ix _ _ _ _ _ _ _ (@k_ix _ K (by rfl)) (@pv1 _ 4 _ _ (by walk_at "pv")) (@pv1 _ 6 _ _ (by walk_at "pv")) (fun _ _ => rfl)) (@pa_nil _) (by rfl)) (by rfl))) (@k_pgtup _ K _ _ _ _ 2 rfl (@pgs_cons _ _ _ _ _ (@pg_sub _ _ _ _ _ _ _ (@pv1 _ 4 _ _ (by walk_at "pv")) (@pv1 _ 6 _ _ (by walk_at "pv")) (@set_list _) (by intro _; rfl)) (@pgs_cons _ _ _ _ _ (@pg_sub _ _ _ _ _ _ _ (@pv1 _ 4 _ _ (by walk_at "pv")) (@pv1 _ 7 _ _ (by walk_at "pv")) (@set_list _) (by intro _; rfl)) (@pgs_nil _) (by rfl)) (by rfl)) (by rfl) (by rfl) (by rfl)) (by rfl) (by rfl) (by rfl)))) (by intro _; rfl)) (@pss_one _ _ _ (@ps_ret _ _ _ _ (@pe_callTy _ _ _ _ _ _ _ _ _ (@k_tup _ K (by rfl)) rfl B.b_tuple boot_tuple (@pa_cons _ _ _ _ _ (@pv1 _ 4 _ _ (by walk_at "pv")) (@pa_nil _) (by rfl)) (by decide) (by decide) (by rfl) (by rfl)))))))))), ?_⟩
    walk_at "go"
    refine ⟨p, 8, rfl, hH, by decide, by decide, fun r H1 hr b1 h1 => ?_⟩
    walk_at "go"
    refine s_ifd (fun _ => ?_) (fun _ => ?_)
    · walk_at "go"
      refine ⟨p, w, rfl, h1, hw1, hw2, fun t ms H2 pm b2 h2 n2 => ?_⟩
      rw [nV_int] at n2
      exact k t _ H2 (even_of_perm pm) (by rw [List.length_map, pm.length_eq, List.length_range]) (b1.trans b2) h2 n2
    walk_at "go"
    refine s_ifeq (fun _ => ?_) (fun _ => ?_)
    · walk_at "go"
      refine s_rngC (n := w) rfl (by omega) ?_
      refine comp_range0 (fun i acc H' => H' = H1 ∧ i ≤ w ∧ acc = ((List.range i).map fun i => w - 1 - i).map nV) ⟨rfl, by omega, rfl⟩ (fun i acc H' z => ?_) ?_ ?_
      · obtain ⟨_, hi, rfl⟩ := z
        rw [List.length_map, List.length_map, List.length_range]
        exact Nat.le_of_lt (small5 (by omega))
      · rintro i acc H' hi ⟨rfl, _, rfl⟩
        walk_at "go"
        rw [show (w : Int) - 1 - (i : Int) = ((w - 1 - i : Nat) : Int) by omega]
        refine ⟨rfl, by omega, ?_⟩
        rw [List.range_succ, List.map_append, List.map_append]
        rfl
      · rintro acc H2 ⟨rfl, _, rfl⟩ q hq
        walk_at "go"
        refine ⟨q, _, rfl, .inl ⟨SqL.of upd_same, fun t ht => ?_⟩⟩
        have s2 := (same_upd (o := .lst (((List.range w).map fun i => w - 1 - i).map nV)) hq).trans (same_upd (o := .tup (((List.range w).map fun i => w - 1 - i).map nV)) ht)
        refine k t (((List.range w).map fun i => w - 1 - i).map fun (x : Nat) => (x : Int)) _ (even_of_perm (w := w) (by rw [rev_range]; exact List.reverse_perm _)) (by simp) (b1.trans s2.but) (h1.same s2) ?_
        rw [← nV_int]
        exact upd_same
    walk_at "go"
    refine s_ifeq (fun _ => ?_) (fun _ => ?_)
    · walk_at "go"
      refine ⟨p, w, rfl, h1, by omega, by omega, fun b H2 hb b2 h2 => ?_⟩
      walk_at "go"
      refine s_rngC (n := w) rfl (by omega) ?_
      refine comp_range0 (fun i acc H' => H' = H2 ∧ i ≤ w ∧ acc = ((List.range i).map fun i => (i + b) % w).map nV) ⟨rfl, by omega, rfl⟩ (fun i acc H' z => ?_) ?_ ?_
      · obtain ⟨_, hi, rfl⟩ := z
        rw [List.length_map, List.length_map, List.length_range]
        exact Nat.le_of_lt (small5 (by omega))
      · rintro i acc H' hi ⟨rfl, _, rfl⟩
        walk_at "go"
        rw [show ((i : Int) + (b : Int)) % (w : Int) = (((i + b) % w : Nat) : Int) by simp]
        refine ⟨rfl, by omega, ?_⟩
        rw [List.range_succ, List.map_append, List.map_append]
        rfl
      · rintro acc H3 ⟨rfl, _, rfl⟩ q hq
        walk_at "go"
        refine ⟨q, _, rfl, .inl ⟨SqL.of upd_same, fun t ht => ?_⟩⟩
        have s2 := (same_upd (o := .lst (((List.range w).map fun i => (i + b) % w).map nV)) hq).trans (same_upd (o := .tup (((List.range w).map fun i => (i + b) % w).map nV)) ht)
        refine k t (((List.range w).map fun i => (i + b) % w).map fun (x : Nat) => (x : Int)) _ (even_of_perm (rot_perm hb)) (by simp) ((b1.trans b2).trans s2.but) (h2.same s2) ?_
        rw [← nV_int]
        exact upd_same
    walk_at "go"
    refine ⟨w, rfl, by omega, fun l hl => ?_⟩
    have s2 := same_upd (o := .lst ((List.range w).map fun (x : Nat) => V.int (x : Int))) hl
    have n2 : upd H1 l (.lst ((List.range w).map fun (x : Nat) => V.int (x : Int))) l = some (.lst ((List.range w).map nV)) := upd_same
    generalize upd H1 l (.lst ((List.range w).map fun (x : Nat) => V.int (x : Int))) = H2 at s2 n2 ⊢
    have nlp := h1.ne hl
    have b2 := b1.trans (Same.but (p := p) s2)
    have h2 := h1.same s2
    walk_at "go"
    refine s_newL (by simp) fun l2 H3 f3 s3 n3 => ?_
    walk_at "go"
    refine ⟨p, 4, rfl, h2.same s3, by decide, by decide, fun r4 H4 hr4 b4 h4 => ?_⟩
    have nl2 := h2.ne f3
    have n4 := b4.keep _ _ nl2 n3
    have n2 := b4.keep _ _ nlp (s3 _ _ n2)
    have b4 : But p H1 H4 := (Same.but (s2.trans s3)).trans b4
    refine s_ix_l (xs := [V.int 0, V.int 1, V.int 2, V.int 3]) (v := nV r4) (SqL.of n4) (by omega) (by
      show [V.int 0, V.int 1, V.int 2, V.int 3][r4]? = _
      rcases (show r4 = 0 ∨ r4 = 1 ∨ r4 = 2 ∨ r4 = 3 by omega) with rfl | rfl | rfl | rfl <;> rfl) ?_
    walk_at "go"
    refine s_rngF (n := r4) rfl (by omega) ?_
    refine for_range0 (fun i σ H' => But p H1 H' ∧ Hand H' p ∧ (∃ ms : List Nat, H' l = some (.lst (ms.map nV)) ∧ ms.Perm (List.range w)) ∧ ∃ v3 v5 v6 v7, σ = [some (.ref p), some (nV w), some (nV r), v3, some (.ref l), v5, v6, v7]) ⟨b4, h4, ⟨_, n2, List.Perm.refl _⟩, _, _, _, _, rfl⟩ ?_ ?_
    · rintro i σ H5 hi ⟨b5, h5, ⟨ms, n5, pm⟩, v3, v5, v6, v7, rfl⟩
      have lm : ms.length = w := by rw [pm.length_eq, List.length_range]
      walk_at "go"
      refine ⟨p, w, rfl, h5, by omega, by omega, fun x H6 hx b6 h6 => ?_⟩
      walk_at "go"
      refine ⟨p, w, rfl, h6, by omega, by omega, fun y H7 hy b7 h7 => ?_⟩
      have n7 := (b6.trans b7).keep _ _ nlp n5
      have b07 := b5.trans (b6.trans b7)
      walk_at "go"
      refine s_ix_l (xs := ms.map nV) (v := nV ms[y]) (SqL.of n7) (by omega) (by show (ms.map nV)[y]? = _; rw [List.getElem?_map, List.getElem?_eq_getElem (by omega)]; rfl) ?_
      walk_at "go"
      refine s_ix_l (xs := ms.map nV) (v := nV ms[x]) (SqL.of n7) (by omega) (by show (ms.map nV)[x]? = _; rw [List.getElem?_map, List.getElem?_eq_getElem (by omega)]; rfl) ?_
      walk_at "go"
      refine s_newT (by simp) fun t8 H8 f8 s8 n8 => ?_
      have n7 := s8 _ _ n7
      have b08 := b07.trans s8.but
      have h8 := h7.same s8
      walk_at "go"
      refine s_setN n7 (by rw [List.length_map]; omega) ?_
      have b9 : But p H1 (upd H8 l (.lst ((ms.map nV).set x (nV ms[y])))) := b08.upd' hl
      have h9 : Hand (upd H8 l (.lst ((ms.map nV).set x (nV ms[y])))) p := Hand.upd h1 b08 h8 hl
      have n9 : upd H8 l (.lst ((ms.map nV).set x (nV ms[y]))) l = some (.lst ((ms.map nV).set x (nV ms[y]))) := upd_same
      generalize upd H8 l (.lst ((ms.map nV).set x (nV ms[y]))) = H9 at b9 h9 n9 ⊢
      walk_at "go"
      refine s_setN n9 (by rw [List.length_set, List.length_map]; omega) ?_
      walk_at "go"
      refine ⟨b9.upd' hl, Hand.upd h1 b9 h9 hl, ⟨(ms.set x ms[y]).set y ms[x], ?_, (swap_permL ms x y (by omega) (by omega)).trans pm⟩, _, _, _, _, rfl⟩
      rw [List.map_set, List.map_set]
      exact upd_same
    · rintro σ H5 ⟨b5, h5, ⟨ms, n5, pm⟩, v3, v5, v6, v7, rfl⟩
      walk_at "go"
      refine ⟨l, _, rfl, .inl ⟨SqL.of n5, fun t ht => ?_⟩⟩
      have s6 := same_upd (o := .tup (ms.map nV)) ht
      refine k t (ms.map fun (x : Nat) => (x : Int)) _ (even_of_perm pm) (by rw [List.length_map, pm.length_eq, List.length_range]) (b1.trans (b5.trans s6.but)) (h5.same s6) ?_
      rw [← nV_int]
      exact upd_same
theorem sc__law_walked : FnScope ["_law_width", "_law_row", "_law_found", "_law_deed", "_law_ahead", "_law_place"] ["_law_width", "_law_row"] (defScope s__law_walked) := ⟨rfl, rfl, rfl, by decide +kernel, rfl, by decide +kernel, by decide +kernel⟩
theorem ok__law_walked {a : Addr} {fd : FuncData} (B : Blt K mg)  (F : Fun K "_law_walked" "_law_walked" s__law_walked a fd) : FnOk P w K mg base CX0 1 a fd ["_law_width", "_law_row"] spWalkedS := by
  refine F.ok sc__law_walked (fun vs H Q E h => ?_) (fun cdv A outer s H vs Q E hr h => ?_)
  · obtain ⟨w, l, L, rfl, _⟩ := h
    rfl
  · have nd := sc__law_walked.nd
    have hu := hr.units
    obtain ⟨w, l, L, rfl, hl, hR, hS, hw, k⟩ := h
    refine ⟨_, (@pss_cons _ _ _ _ _ (@ps_set _ _ 2 _ _ _ _ nd rfl (Or.inl rfl) (@pe_list_of_range _ K _ _ _ _ _ _ rfl B.b_list B.b_range (@pa_cons _ _ _ _ _ (@pv1 _ 0 _ _ (by walk_at "pv")) (@pa_nil _) (by rfl)) (by rfl) (by rfl) (by rfl) (by rfl) (by rfl)) (by rfl) (by walk_at "vis")) (@pss_cons _ _ _ _ _ (@ps_for _ _ _ _ _ _ _ _ PassesOwn.never rfl (@k_pi_seq _ K _ _ _ (@pv1 _ 1 _ _ (by walk_at "pv")) (by rfl)) (@pg_name _ _ 3 _ nd rfl (Or.inl rfl) (by walk_at "vis")) (@pss_cons _ _ _ _ _ (@ps_set _ _ 4 _ _ _ _ nd rfl (Or.inl rfl) (@pe_callTy _ _ _ _ _ _ _ _ _ (@k_list _ K (by rfl)) rfl B.b_list boot_list (@pa_cons _ _ _ _ _ (@pv1 _ 2 _ _ (by walk_at "pv")) (@pa_nil _) (by rfl)) (by decide) (by decide) (by rfl) (by rfl)) (by rfl) (by walk_at "vis")) (@pss_one _ _ _ (@ps_for _ _ _ _ _ _ _ _ PassesOwn.never rfl (@pi_range1 _ _ _ _ _ _ rfl B.b_range (@pa_cons _ _ _ _ _ (@pv1 _ 0 _ _ (by walk_at "pv")) (@pa_nil _) (by rfl)) (by rfl)) (@pg_name _ _ 5 _ nd rfl (Or.inl rfl) (by walk_at "vis")) (@pss_one _ _ _ (@ps_if _ _ _ _ _ _ _ _ (@pt_cmpR _ _ _ _ _ _ _ _ (@k_eq _ K hu (by rfl)) (@pe_op _ _ _ _ _ _ _ _ (@op_and _) (@pe_op _ _ _ _ _ _ _ _ (@op_shr _) (@pe_ix _ _ _ _ _ _ _ (@k_ix _ K (by rfl)) (@pv1 _ 3 _ _ (by walk_at "pv")) (@pe_int _ _ _ _) (fun _ _ => rfl)) (@pv1 _ 5 _ _ (by walk_at "pv"))) (@pe_int _ _ _ _)) (@pe_int _ _ _ _) (@nomark _ _ (by decide) (by decide))) (@pss_one _ _ _ (@ps_if _ _ _ _ _ _ _ _ (@pt_cmpR _ _ _ _ _ _ _ _ (@k_eq _ K hu (by rfl)) (@pe_ix _ _ _ _ _ _ _ (@k_ix _ K (by rfl)) (@pv1 _ 3 _ _ (by walk_at "pv")) (@pe_int _ _ _ _) (fun _ _ => rfl)) (@pe_str _ _ _ _) (@nomark _ _ (by decide) (by decide))) (@pss_cons _ _ _ _ _ (@ps_asg _ _ _ _ _ _ (@pe_ix _ _ _ _ _ _ _ (@k_ix _ K (by rfl)) (@pv1 _ 4 _ _ (by walk_at "pv")) (@pe_op _ _ _ _ _ _ _ _ (@k_add _ K (by rfl)) (@pv1 _ 5 _ _ (by walk_at "pv")) (@pe_ix _ _ _ _ _ _ _ (@k_ix _ K (by rfl)) (@pv1 _ 3 _ _ (by walk_at "pv")) (@pe_int _ _ _ _) (fun _ _ => rfl))) (fun _ _ => rfl)) (@pg_sub _ _ _ _ _ _ _ (@pv1 _ 2 _ _ (by walk_at "pv")) (@pv1 _ 5 _ _ (by walk_at "pv")) (@set_list _) (by intro _; rfl)) (by rfl) (by rfl) (by rfl)) (@pss_one _ _ _ (@ps_asg _ _ _ _ _ _ (@pe_ix _ _ _ _ _ _ _ (@k_ix _ K (by rfl)) (@pv1 _ 4 _ _ (by walk_at "pv")) (@pv1 _ 5 _ _ (by walk_at "pv")) (fun _ _ => rfl)) (@pg_sub _ _ _ _ _ _ _ (@pv1 _ 2 _ _ (by walk_at "pv")) (@pe_op _ _ _ _ _ _ _ _ (@k_add _ K (by rfl)) (@pv1 _ 5 _ _ (by walk_at "pv")) (@pe_ix _ _ _ _ _ _ _ (@k_ix _ K (by rfl)) (@pv1 _ 3 _ _ (by walk_at "pv")) (@pe_int _ _ _ _) (fun _ _ => rfl))) (@set_list _) (by intro _; rfl)) (by rfl) (by rfl) (by rfl)))) (@pss_one _ _ _ (@ps_if _ _ _ _ _ _ _ _ (@pt_cmpR _ _ _ _ _ _ _ _ (@k_eq _ K hu (by rfl)) (@pe_ix _ _ _ _ _ _ _ (@k_ix _ K (by rfl)) (@pv1 _ 3 _ _ (by walk_at "pv")) (@pe_int _ _ _ _) (fun _ _ => rfl)) (@pe_str _ _ _ _) (@nomark _ _ (by decide) (by decide))) (@pss_one _ _ _ (@ps_asg _ _ _ _ _ _ (@pe_ix _ _ _ _ _ _ _ (@k_ix _ K (by rfl)) (@pv1 _ 4 _ _ (by walk_at "pv")) (@pv1 _ 5 _ _ (by walk_at "pv")) (fun _ _ => rfl)) (@pg_sub _ _ _ _ _ _ _ (@pv1 _ 2 _ _ (by walk_at "pv")) (@pe_op _ _ _ _ _ _ _ _ (@k_add _ K (by rfl)) (@pv1 _ 5 _ _ (by walk_at "pv")) (@pe_ix _ _ _ _ _ _ _ (@k_ix _ K (by rfl)) (@pv1 _ 3 _ _ (by walk_at "pv")) (@pe_int _ _ _ _) (fun _ _ => rfl))) (@set_list _) (by intro _; rfl)) (by rfl) (by rfl) (by rfl))) (@pss_one _ _ _ (@ps_if _ _ _ _ _ _ _ _ (@pt_cmpR _ _ _ _ _ _ _ _ (@k_eq _ K hu (by rfl)) (@pe_ix _ _ _ _ _ _ _ (@k_ix _ K (by rfl)) (@pv1 _ 3 _ _ (by walk_at "pv")) (@pe_int _ _ _ _) (fun _ _ => rfl)) (@pe_str _ _ _ _) (@nomark _ _ (by decide) (by decide))) (@pss_one _ _ _ (@ps_asg _ _ _ _ _ _ (@pe_un _ _ _ _ _ _ (@un_neg _) (@pe_int _ _ _ _)) (@pg_sub _ _ _ _ _ _ _ (@pv1 _ 2 _ _ (by walk_at "pv")) (@pv1 _ 5 _ _ (by walk_at "pv")) (@set_list _) (by intro _; rfl)) (by rfl) (by rfl) (by rfl))) (@pss_nil _))))))) (@pss_one _ _ _ (@ps_if _ _ _ _ _ _ _ _ (@pt_cmpR _ _ _ _ _ _ _ _ (@k_eq _ K hu (by rfl)) (@pe_ix _ _ _ _ _ _ _ (@k_ix _ K (by rfl)) (@pv1 _ 3 _ _ (by walk_at "pv")) (@pe_int _ _ _ _) (fun _ _ => rfl)) (@pe_str _ _ _ _) (@nomark _ _ (by decide) (by decide))) (@pss_one _ _ _ (@ps_asg _ _ _ _ _ _ (@pe_un _ _ _ _ _ _ (@un_neg _) (@pe_int _ _ _ _)) (@pg_sub _ _ _ _ _ _ _ (@pv1 _ 2 _ _ (by walk_at "pv")) (@pv1 _ 5 _ _ (by walk_at "pv")) (@set_list _) (by intro _; rfl)) (by rfl) (by rfl) (by rfl))) (@pss_nil _))))) (by intro _; rfl)))) (by intro _; rfl)) (@pss_one _ _ _ (@ps_ret _ _ _ _ (@pe_callTy _ _ _ _ _ _ _ _ _ (@k_tup _ K (by rfl)) rfl B.b_tuple boot_tuple (@pa_cons _ _ _ _ _ (@pv1 _ 2 _ _ (by walk_at "pv")) (@pa_nil _) (by rfl)) (by decide) (by decide) (by rfl) (by rfl)))))), ?_⟩
    walk_at "go"
    refine ⟨w, rfl, by omega, fun l0 f0 => ?_⟩
    have s0 := same_upd (o := .lst ((List.range w).map fun (x : Nat) => V.int (x : Int))) f0
    have n0 : upd H l0 (.lst ((List.range w).map fun (x : Nat) => V.int (x : Int))) l0 = some (.lst ((rowL w (dds (L.take 0))).map V.int)) := by
      rw [upd_same, show rowL w (dds (L.take 0)) = stayL w from rfl]
      simp [stayL]
    generalize upd H l0 (.lst ((List.range w).map fun (x : Nat) => V.int (x : Int))) = H0 at s0 n0
    walk_at "go"
    refine for_seqN (xs := rowV L) (fun j σ H' => Same H H' ∧ H' l0 = some (.lst ((rowL w (dds (L.take j))).map V.int)) ∧ ∃ v3 v4 v5, σ = [some (nV w), some (.ref l), some (.ref l0), v3, v4, v5]) ⟨s0, n0, none, none, none, rfl⟩ (fun j σ H' h => SqL.of (h.1 _ _ hl)) ?_ ?_
    · rintro j y σ H1 hy ⟨s1, n1, v3, v4, v5, rfl⟩
      obtain ⟨q, hq, rfl⟩ := nth_map hy
      obtain ⟨h1, h2⟩ := hR q (List.mem_of_getElem? hq)
      obtain ⟨m, n, eq⟩ := hS q (List.mem_of_getElem? hq)
      have hok : ∀ d ∈ dds (L.take j), d.ok w := (hR.take j).ok
      have e2 : rowL w (dds (L.take (j + 1))) = thenL (rowL w (dds (L.take j))) (q.2.led w) := by
        rw [List.take_add_one, hq, show dds (L.take j ++ (some q).toList) = dds (L.take j) ++ [q.2] by simp [dds], rowL_snoc]
      have hA : (rowL w (dds (L.take j))).length = w := (row_ld hok).1
      rw [eq] at h1 h2 e2
      rw [← stepF_all h2] at e2
      have h1' : H q.1 = some (.tup [.str "swap", nV m, nV n]) := h1
      obtain ⟨hn1, hn2, hp⟩ := h2
      generalize rowL w (dds (L.take j)) = A at n1 e2 hA
      have nq0 : q.1 ≠ l0 := fun z => by rw [z, f0] at h1'; cases h1'
      walk_at "go"
      refine s_listOf (SqA.of n1) fun a H2 f2 s2 n2 => ?_
      have na0 : a ≠ l0 := fun z => by rw [z, n1] at f2; cases f2
      walk_at "go"
      refine s_rngF (n := w) rfl (by omega) ?_
      refine for_range0 (fun i σ H' => i ≤ 64 ∧ KeepBut l0 H2 H' ∧ H' l0 = some (.lst ((stepF A w m n i).map V.int)) ∧ ∃ v5, σ = [some (nV w), some (.ref l), some (.ref l0), some (.ref q.1), some (.ref a), v5]) ⟨by omega, KeepBut.refl _ _, by rw [stepF_zero m n hA]; exact s2 _ _ n1, _, rfl⟩ ?_ ?_
      · rintro i σ H3 hi ⟨hi64, kb, n3, v5, rfl⟩
        have hq3 := kb _ _ nq0 (s2 _ _ (s1 _ _ h1'))
        have ha3 := kb _ _ na0 n2
        walk_at "go"
        rw [bitAt_val]
        refine s_ifeq (fun h => ?_) (fun h => ?_)
        · have hb : m.testBit i = true := by
            cases e : m.testBit i
            · rw [e] at h; cases h
            · rfl
          have hpi := (hp i hb).1
          have ag : ∀ z, z < w → (A.map V.int)[z]? = some (.int (A.getD z 0)) := fun z hz => by
            rw [List.getElem?_map, List.getD_eq_getElem?_getD, List.getElem?_eq_getElem (by omega)]
            rfl
          walk_at "go"
          refine s_ix_l (SqL.of ha3) (by omega) (by rw [show ((i : Int) + (n : Int)).toNat = i + n by omega]; exact ag _ hpi) ?_
          walk_at "go"
          refine s_setN n3 (by rw [List.length_map, stepF_len]; exact hi) ?_
          have kb4 := kb.trans (KeepBut.upd l0 H3 (.lst (((stepF A w m n i).map V.int).set i (.int (A.getD (i + n) 0)))))
          have n4 : upd H3 l0 (.lst (((stepF A w m n i).map V.int).set i (.int (A.getD (i + n) 0)))) l0 = some (.lst (((stepF A w m n i).set i (A.getD (i + n) 0)).map V.int)) := by rw [upd_same, List.map_set]
          generalize upd H3 l0 (.lst (((stepF A w m n i).map V.int).set i (.int (A.getD (i + n) 0)))) = H4 at kb4 n4
          have ha4 := kb4 _ _ na0 n2
          have hq4 := kb4 _ _ nq0 (s2 _ _ (s1 _ _ h1'))
          walk_at "go"
          refine s_ix_l (SqL.of ha4) (by omega) (by rw [Int.toNat_natCast]; exact ag _ hi) ?_
          walk_at "go"
          rw [show (i : Int) + (n : Int) = ((i + n : Nat) : Int) by omega]
          refine s_setN n4 (by rw [List.length_map, List.length_set, stepF_len]; exact hpi) ?_
          exact ⟨by omega, kb4.trans (KeepBut.upd l0 H4 _), by rw [upd_same, ← List.map_set, stepF_yes hn1 hb], _, rfl⟩
        · have hb : m.testBit i = false := by
            cases e : m.testBit i
            · rfl
            · rw [e] at h; exact absurd rfl h
          walk_at "go"
          exact ⟨by omega, kb, by rw [stepF_no hb]; exact n3, _, rfl⟩
      · rintro σ H3 ⟨hi64, kb, n3, v5, rfl⟩
        rw [← e2] at n3
        exact ⟨(kb.same (s1.trans s2) f0), n3, _, _, _, rfl⟩
    · rintro σ H1 ⟨s1, n1, v3, v4, v5, rfl⟩
      rw [show (rowV L).length = L.length by rw [rowV, List.length_map], List.take_of_length_le (Nat.le_refl _)] at n1
      walk_at "go"
      refine s_tupOf n1 fun t H2 f2 s2 n2 => ?_
      exact k t H2 (s1.trans s2) n2
theorem sc__law_ways : FnScope ["_law_width", "_law_ups"] ["_law_width"] (defScope s__law_ways) := ⟨rfl, rfl, rfl, by decide +kernel, rfl, by decide +kernel, by decide +kernel⟩
theorem ok__law_ways {a : Addr} {fd : FuncData} (B : Blt K mg)  (F : Fun K "_law_ways" "_law_ways" s__law_ways a fd) : FnOk P w K mg base CX0 1 a fd ["_law_width"] spWaysK := by
  refine F.ok sc__law_ways (fun vs H Q E h => ?_) (fun cdv A outer s H vs Q E hr h => ?_)
  · obtain ⟨k, rfl, _⟩ := h
    rfl
  · have nd := sc__law_ways.nd
    have hu := hr.units
    obtain ⟨k, rfl, hk, kk⟩ := h
    have h64 := pow_le64 hk
    refine ⟨_, (@pss_cons _ _ _ _ _ (@ps_setComp _ _ _ _ _ _ (defScope s__law_ways) _ ["_law_width", "_law_ups"] ["_law_by", "_law_width"] [none, some 0] _ _ _ _ 1 _ _ _ nd rfl (Or.inl rfl) rfl (@k_pi_seq _ K _ _ _ (@pe_tup _ _ _ _ _ (@pa_cons _ _ _ _ _ (@pe_int _ _ _ _) (@pa_cons _ _ _ _ _ (@pe_int _ _ _ _) (@pa_cons _ _ _ _ _ (@pe_int _ _ _ _) (@pa_cons _ _ _ _ _ (@pe_int _ _ _ _) (@pa_cons _ _ _ _ _ (@pe_int _ _ _ _) (@pa_nil _) (by rfl)) (by rfl)) (by rfl)) (by rfl)) (by rfl))) (by rfl)) (fun _ _ _ _ => (@pg_name _ _ 0 _ (show List.Nodup (["_law_by", "_law_width"] : List Str) by decide +kernel) rfl (Or.inl rfl) (by walk_at "vis"))) (fun _ _ _ _ => (@pts_one _ _ _ (@pt_cmpR _ _ _ _ _ _ _ _ (@op_lt _) (@pv1 _ 0 _ _ (by walk_at "pv")) (@pv1 _ 1 _ _ (by walk_at "pv")) (@nomark _ _ (by decide) (by decide))))) (fun _ _ _ _ => (@pv1 _ 0 _ _ (by walk_at "pv"))) (by decide +kernel) (by rfl) (by rfl) (by intro _; rfl) (by rfl) (by walk_at "vis")) (@pss_one _ _ _ (@ps_ret _ _ _ _ (@pe_op _ _ _ _ _ _ _ _ (@k_add _ K (by rfl)) (@pe_op _ _ _ _ _ _ _ _ (@k_add _ K (by rfl)) (@k_revS _ K _ _ _ _ _ _ (@pv1 _ 1 _ _ (by walk_at "pv")) (@pe_un _ _ _ _ _ _ (@un_neg _) (@pe_int _ _ _ _)) (by rfl)) (@pe_op _ _ _ _ _ _ _ _ (@k_mul _ K (by rfl)) (@pe_lst _ _ _ _ (@pa_cons _ _ _ _ _ (@pe_int _ _ _ _) (@pa_nil _) (by rfl))) (@pe_callTy _ _ _ _ _ _ _ _ _ (@call_intN _) rfl B.b_int boot_int (@pa_cons _ _ _ _ _ (@pe_cmpR _ _ _ _ _ _ _ _ (@op_gt _) (@pv1 _ 0 _ _ (by walk_at "pv")) (@pe_int _ _ _ _) (@nomark _ _ (by decide) (by decide))) (@pa_nil _) (by rfl)) (by decide) (by decide) (by rfl) (by rfl)))) (@pv1 _ 1 _ _ (by walk_at "pv")))))), ?_⟩
    walk_at "go"
    refine s_newT (by simp) fun t H1 f1 s1 n1 => ?_
    have n1 : H1 t = some (.tup (([2, 4, 8, 16, 32] : List Nat).map nV)) := n1
    walk_at "go"
    refine comp_seqT (SqT.of n1) ?_
    refine comp_tup (xs := ([2, 4, 8, 16, 32] : List Nat).map nV) (fun j acc H' => H' = H1 ∧ j ≤ 5 ∧ acc = (((([2, 4, 8, 16, 32] : List Nat).take j).filter fun b => decide (b < 2 ^ k))).map nV) ⟨rfl, by omega, rfl⟩ (fun j acc H' h => ?_) (fun j acc H' h => by rw [h.1]; exact SqT.of n1) ?_ ?_
    · obtain ⟨_, hj, rfl⟩ := h
      have := List.length_filter_le (fun b => decide (b < 2 ^ k)) (([2, 4, 8, 16, 32] : List Nat).take j)
      rw [List.length_take] at this
      rw [List.length_map]
      exact Nat.le_of_lt (small5 (by omega))
    · rintro j y acc H' hy ⟨rfl, _, rfl⟩
      obtain ⟨b, hb, rfl⟩ := nth_map hy
      have hj : j < 5 := (List.getElem?_eq_some_iff.mp hb).1
      walk_at "go"
      by_cases c : b < 2 ^ k
      · refine s_ifd (fun _ => ?_) (fun z => absurd (by omega) z)
        walk_at "go"
        refine ⟨rfl, by omega, ?_⟩
        rw [List.take_add_one, hb, List.filter_append, List.map_append]
        simp [c]
      · refine s_ifd (fun z => absurd z (by omega)) (fun _ => ?_)
        refine ⟨rfl, by omega, ?_⟩
        rw [List.take_add_one, hb, List.filter_append, List.map_append]
        simp [c]
    · rintro acc H2 ⟨rfl, _, rfl⟩ q hq
      have e : ((([2, 4, 8, 16, 32] : List Nat).take (([2, 4, 8, 16, 32] : List Nat).map nV).length).filter fun b => decide (b < 2 ^ k)) = upsK k := rfl
      rw [e]
      have lu : (upsK k).length ≤ 5 := List.length_filter_le _ _
      have s2 := same_upd (o := .lst ((upsK k).map nV)) hq
      have n2 : upd H2 q (.lst ((upsK k).map nV)) q = some (.lst ((upsK k).map nV)) := upd_same
      generalize upd H2 q (.lst ((upsK k).map nV)) = H3 at s2 n2 ⊢
      walk_at "go"
      refine ⟨rfl, q, _, rfl, SqL.of n2, fun r hr => ?_⟩
      have s3 := same_upd (o := .lst ((upsK k).map nV).reverse) hr
      have n3 : upd H3 r (.lst ((upsK k).map nV).reverse) r = some (.lst ((upsK k).map nV).reverse) := upd_same
      generalize upd H3 r (.lst ((upsK k).map nV).reverse) = H4 at s3 n3 ⊢
      walk_at "go"
      refine s_newL (by simp) fun l1 H5 f5 s5 n5 => ?_
      walk_at "go"
      have ei : (if decide ((1 : Int) < ((2 ^ k : Nat) : Int)) = true then (1 : Int) else 0) = (((if 2 ^ k > 1 then 1 else 0) : Nat) : Int) := by
        by_cases c : 2 ^ k > 1
        · rw [if_pos c, decide_eq_true (by omega)]; rfl
        · rw [if_neg c, decide_eq_false (by omega)]; rfl
      refine s_repL n5 (n := if 2 ^ k > 1 then 1 else 0) ei (by split <;> decide) fun l2 H6 f6 s6 n6 => ?_
      walk_at "go"
      have ll : (List.replicate (if 2 ^ k > 1 then 1 else 0) (V.int 1)).length ≤ 1 := by rw [List.length_replicate]; split <;> omega
      refine s_catL (s6 _ _ (s5 _ _ n3)) n6 (by rw [List.length_reverse, List.length_map]; omega) fun l3 H7 f7 s7 n7 => ?_
      walk_at "go"
      refine s_catL n7 (s7 _ _ (s6 _ _ (s5 _ _ (s3 _ _ n2)))) (by rw [List.length_append, List.length_reverse, List.length_map]; omega) fun l4 H8 f8 s8 n8 => ?_
      refine kk l4 H8 (s1.trans (s2.trans (s3.trans (s5.trans (s6.trans (s7.trans s8)))))) ?_
      rw [n8, ← ways_form k hk, List.map_append, List.map_append, List.map_reverse, List.map_replicate]
      rfl
theorem sc__law_sides : FnScope ["_law_hand_here", "_law_leading", "_law_half", "_law_side", "_law_start", "_law_source", "_law_lower", "_law_mate"] ["_law_hand_here", "_law_leading"] (defScope s__law_sides) := ⟨rfl, rfl, rfl, by decide +kernel, rfl, by decide +kernel, by decide +kernel⟩
theorem ok__law_sides {a : Addr} {fd : FuncData} (B : Blt K mg) (g__law_draw : FnAt P w K mg base "_law_draw" ["_law_hand_here", "_law_many"] 1 spDraw) (F : Fun K "_law_sides" "_law_sides" s__law_sides a fd) : FnOk P w K mg base CX0 2 a fd ["_law_hand_here", "_law_leading"] spSides := by
  refine F.ok sc__law_sides (fun vs H Q E h => ?_) (fun cdv A outer s H vs Q E hr h => ?_)
  · obtain ⟨p, a, ls, h, rfl, _⟩ := h
    rfl
  · have nd := sc__law_sides.nd
    have hu := hr.units
    obtain ⟨p, a, ls, h, rfl, hH, ha, hev, hl, h1, h32, k⟩ := h
    have P := tau_prs hev hl
    have eh : ((ls.map V.int).length : Int) / 2 = (h : Int) := by rw [List.length_map, hl]; omega
    have el : (ls.map V.int).length = 2 * h := by rw [List.length_map, hl]
    have hap : a ≠ p := hH.neT ha
    have eo : ∀ q, q < 2 * h → ((q : Int) + (h : Int)) % ((2 * h : Nat) : Int) = ((opp h q : Nat) : Int) := fun q hq => by
      unfold opp
      split
      · rw [show (q : Int) + (h : Int) = ((q - h : Nat) : Int) + ((2 * h : Nat) : Int) by omega, Int.add_emod_right]
        exact Int.emod_eq_of_lt (by omega) (by omega)
      · rw [show (q : Int) + (h : Int) = ((q + h : Nat) : Int) by omega]
        exact Int.emod_eq_of_lt (by omega) (by omega)
    refine ⟨_, (@pss_cons _ _ _ _ _ (@ps_set _ _ 2 _ _ _ _ nd rfl (Or.inl rfl) (@pe_op _ _ _ _ _ _ _ _ (@op_fdivW _) (@pe_callB _ _ _ _ _ _ _ _ _ (@k_len _ K (by rfl)) rfl B.b_len boot_len (@pa_cons _ _ _ _ _ (@pv1 _ 1 _ _ (by walk_at "pv")) (@pa_nil _) (by rfl)) (by decide) (by decide) (by rfl) (by rfl)) (@pe_int _ _ _ _)) (by rfl) (by walk_at "vis")) (@pss_cons _ _ _ _ _ (@ps_set _ _ 3 _ _ _ _ nd rfl (Or.inl rfl) (@pe_dnewK _ _) (by rfl) (by walk_at "vis")) (@pss_cons _ _ _ _ _ (@ps_for _ _ _ _ _ _ _ _ PassesOwn.never rfl (@pi_range1 _ _ _ _ _ _ rfl B.b_range (@pa_cons _ _ _ _ _ (@pe_callB _ _ _ _ _ _ _ _ _ (@k_len _ K (by rfl)) rfl B.b_len boot_len (@pa_cons _ _ _ _ _ (@pv1 _ 1 _ _ (by walk_at "pv")) (@pa_nil _) (by rfl)) (by decide) (by decide) (by rfl) (by rfl)) (@pa_nil _) (by rfl)) (by rfl)) (@pg_name _ _ 4 _ nd rfl (Or.inl rfl) (by walk_at "vis")) (@pss_cons _ _ _ _ _ (@ps_par _ _ 5 6 _ _ _ _ _ _ _ _ _ _ _ rfl nd rfl rfl (by decide) rfl rfl (@pa_cons _ _ _ _ _ (@pv1 _ 4 _ _ (by walk_at "pv")) (@pa_cons _ _ _ _ _ (@pe_cmpR _ _ _ _ _ _ _ _ (@k_eq _ K hu (by rfl)) (@pe_own _ _ _ _ _ _ _ _ _ _ g__law_draw (hr.mono (by decide)) (@pa_cons _ _ _ _ _ (@pv1 _ 0 _ _ (by walk_at "pv")) (@pa_cons _ _ _ _ _ (@pe_int _ _ _ _) (@pa_nil _) (by rfl)) (by rfl)) (by rfl) (by decide) (by rfl) (by rfl)) (@pe_int _ _ _ _) (@nomark _ _ (by decide) (by decide))) (@pa_nil _) (by rfl)) (by rfl)) rfl (by rfl)) (@pss_one _ _ _ (@ps_while _ _ _ _ _ _ PassesOwn.never (@pt_dNotIn _ _ _ _ _ _ hu (@pv1 _ 5 _ _ (by walk_at "pv")) (@pv1 _ 3 _ _ (by walk_at "pv")) (by rfl)) (@pss_cons _ _ _ _ _ (@ps_set _ _ 7 _ _ _ _ nd rfl (Or.inl rfl) (@pe_op _ _ _ _ _ _ _ _ (@op_mod _) (@pe_op _ _ _ _ _ _ _ _ (@k_add _ K (by rfl)) (@pv1 _ 5 _ _ (by walk_at "pv")) (@pv1 _ 2 _ _ (by walk_at "pv"))) (@pe_callB _ _ _ _ _ _ _ _ _ (@k_len _ K (by rfl)) rfl B.b_len boot_len (@pa_cons _ _ _ _ _ (@pv1 _ 1 _ _ (by walk_at "pv")) (@pa_nil _) (by rfl)) (by decide) (by decide) (by rfl) (by rfl))) (by rfl) (by walk_at "vis")) (@pss_cons _ _ _ _ _ (@ps_dputE _ _ _ _ _ _ _ _ _ hu (@pv1 _ 3 _ _ (by walk_at "pv")) (@pv1 _ 5 _ _ (by walk_at "pv")) (@pv1 _ 6 _ _ (by walk_at "pv")) (by rfl)) (@pss_cons _ _ _ _ _ (@ps_dputE _ _ _ _ _ _ _ _ _ hu (@pv1 _ 3 _ _ (by walk_at "pv")) (@pv1 _ 7 _ _ (by walk_at "pv")) (@pe_not _ _ _ _ (@pv1 _ 6 _ _ (by walk_at "pv"))) (by rfl)) (@pss_one _ _ _ (@ps_set _ _ 5 _ _ _ _ nd rfl (Or.inl rfl) (@pe_ix _ _ _ _ _ _ _ (@k_ix _ K (by rfl)) (@pv1 _ 1 _ _ (by walk_at "pv")) (@pe_op _ _ _ _ _ _ _ _ (@op_mod _) (@pe_op _ _ _ _ _ _ _ _ (@k_add _ K (by rfl)) (@k_bm _ K _ _ _ _ _ _ _ _ _ _ _ PySem.F.plainAttrs_tuple PySem.F.slot_tuple_index PySem.F.type_tuple_index (@mt_indexT _ K (by rfl)) (@pv1 _ 1 _ _ (by walk_at "pv")) (@pa_cons _ _ _ _ _ (@pv1 _ 7 _ _ (by walk_at "pv")) (@pa_nil _) (by rfl)) (by rfl) (by rfl) (by rfl) (by rfl) (by rfl) (by rfl)) (@pv1 _ 2 _ _ (by walk_at "pv"))) (@pe_callB _ _ _ _ _ _ _ _ _ (@k_len _ K (by rfl)) rfl B.b_len boot_len (@pa_cons _ _ _ _ _ (@pv1 _ 1 _ _ (by walk_at "pv")) (@pa_nil _) (by rfl)) (by decide) (by decide) (by rfl) (by rfl))) (fun _ _ => rfl)) (by rfl) (by walk_at "vis"))))))))) (by intro _; rfl)) (@pss_one _ _ _ (@ps_ret _ _ _ _ (@pv1 _ 3 _ _ (by walk_at "pv"))))))), ?_⟩
    walk_at "go"
    rw [eh]
    refine s_dnew fun d H1 f1 s1 n1 => ?_
    have h1' := hH.same s1
    have dp : d ≠ p := hH.ne f1
    have ha1 := s1 _ _ ha
    walk_at "go"
    refine s_rngF (n := 2 * h) (by rw [el]) (by omega) ?_
    refine for_range0 (fun i σ H' => But p H H' ∧ Hand H' p ∧ i ≤ 2 * h ∧ (∃ (c : Cr) (kvs : List (Key × V)), Closed h (tauL h ls) c ∧ (∀ e, e < i → c (plcE ls e) ≠ none) ∧ SideD ls h c kvs ∧ H' d = some (.dK kvs)) ∧ ∃ v4 v5 v6 v7, σ = [some (.ref p), some (.ref a), some (nV h), some (.ref d), v4, v5, v6, v7])
      ⟨s1.but, h1', by omega, ⟨fun _ => none, [], ⟨fun _ _ _ z => (nomatch z), fun _ _ _ z => (nomatch z)⟩, fun e he => absurd he (by omega), side_nil ls h, n1⟩, none, none, none, none, rfl⟩ ?_ ?_
    · rintro i σ H2 hi ⟨b2, h2, hi2, ⟨c, kvs, hC, hA, hS, n2⟩, v4, v5, v6, v7, rfl⟩
      walk_at "go"
      refine ⟨p, 2, rfl, h2, by decide, by decide, fun r H3 hr b3 h3 => ?_⟩
      walk_at "go"
      generalize ((r : Int) == 0) = lo
      have b03 := b2.trans b3
      have n3 := b3.keep _ _ dp n2
      refine ⟨fun m σ H' => But p H H' ∧ Hand H' p ∧ ∃ (c : Cr) (kvs : List (Key × V)) (q : Nat) (v7 : Option V), m = openN h c ∧ q < 2 * h ∧ SideD ls h c kvs ∧ H' d = some (.dK kvs) ∧ ((Closed h (tauL h ls) c ∧ q = i) ∨ ChainF h ls (!lo) c (plcE ls i) (plcE ls q)) ∧ (∀ e, e < i → c (plcE ls e) ≠ none) ∧
        σ = [some (.ref p), some (.ref a), some (nV h), some (.ref d), some (nV i), some (nV q), some (.bl lo), v7], ⟨openN h c, b03, h3, c, kvs, i, v7, rfl, hi, hS, n3, .inl ⟨hC, rfl⟩, hA, rfl⟩, ?_⟩
      rintro m σ H4 ⟨b4, h4, c, kvs, q, v7, rfl, hq, hS, n4, hch, hA, rfl⟩
      have a4 := b4.keep _ _ hap ha
      have hv := hS.1 q hq
      have hpq := plc_of hev (e := q) (by omega)
      refine s_tDNotIn ?_
      walk_at "go"
      refine ⟨d, _, rfl, DGet.k (k := .inl (q : Int)) n4, ?_⟩
      cases hcq : c (plcE ls q) with
      | some x =>
        rw [hv, hcq]
        walk_at "go"
        refine s_if_f rfl ?_
        walk_at "go"
        have hC2 : Closed h (tauL h ls) c ∧ c (plcE ls i) ≠ none := by
          rcases hch with ⟨hC, rfl⟩ | hF
          · exact ⟨hC, by rw [hcq]; simp⟩
          · exact ⟨chainF_end hF (by rw [hcq]; simp), fun z => by
              have := hF.c0
              rw [flip_none.mpr z] at this
              cases this⟩
        refine ⟨b4, h4, by omega, ⟨c, kvs, hC2.1, fun e he => ?_, hS, n4⟩, _, _, _, _, rfl⟩
        by_cases z : e = i
        · subst z; exact hC2.2
        · exact hA e (by omega)
      | none =>
        rw [hv, hcq]
        walk_at "go"
        refine s_if_t rfl ?_
        refine ⟨fun σ' H' => ∃ m', m' < openN h c ∧ But p H H' ∧ Hand H' p ∧ ∃ (c : Cr) (kvs : List (Key × V)) (q : Nat) (v7 : Option V), m' = openN h c ∧ q < 2 * h ∧ SideD ls h c kvs ∧ H' d = some (.dK kvs) ∧ ((Closed h (tauL h ls) c ∧ q = i) ∨ ChainF h ls (!lo) c (plcE ls i) (plcE ls q)) ∧ (∀ e, e < i → c (plcE ls e) ≠ none) ∧
          σ' = [some (.ref p), some (.ref a), some (nV h), some (.ref d), some (nV i), some (nV q), some (.bl lo), v7], fun _ _ z => z, ?_⟩
        have zk : kvs.length ≤ 128 := by
          have := hS.2.1
          omega
        walk_at "go"
        rw [el]
        walk_at "go"
        rw [eo q hq]
        walk_at "go"
        refine s_dput ?_
        walk_at "go"
        refine ⟨d, _, rfl, DPut.k (k := .inl (q : Int)) n4 (small5 (by omega)), ?_⟩
        have zk1 := length_putK kvs (.inl (q : Int)) (.bl lo)
        have b5 : But p H (upd H4 d (.dK (putK kvs (.inl (q : Int)) (.bl lo)))) := b4.upd' f1
        have h5 : Hand (upd H4 d (.dK (putK kvs (.inl (q : Int)) (.bl lo)))) p := hH.upd b4 h4 f1
        have n5 : upd H4 d (.dK (putK kvs (.inl (q : Int)) (.bl lo))) d = some (.dK (putK kvs (.inl (q : Int)) (.bl lo))) := upd_same
        generalize upd H4 d (.dK (putK kvs (.inl (q : Int)) (.bl lo))) = H5 at b5 h5 n5 ⊢
        walk_at "go"
        refine s_dput ?_
        walk_at "go"
        refine ⟨d, _, rfl, DPut.k (k := .inl ((opp h q : Nat) : Int)) n5 (small5 (by omega)), ?_⟩
        have b6 : But p H (upd H5 d (.dK (putK (putK kvs (.inl (q : Int)) (.bl lo)) (.inl ((opp h q : Nat) : Int)) (.bl (!lo))))) := b5.upd' f1
        have h6 : Hand (upd H5 d (.dK (putK (putK kvs (.inl (q : Int)) (.bl lo)) (.inl ((opp h q : Nat) : Int)) (.bl (!lo))))) p := hH.upd b5 h5 f1
        have n6 : upd H5 d (.dK (putK (putK kvs (.inl (q : Int)) (.bl lo)) (.inl ((opp h q : Nat) : Int)) (.bl (!lo)))) d = some (.dK (putK (putK kvs (.inl (q : Int)) (.bl lo)) (.inl ((opp h q : Nat) : Int)) (.bl (!lo)))) := upd_same
        generalize upd H5 d (.dK (putK (putK kvs (.inl (q : Int)) (.bl lo)) (.inl ((opp h q : Nat) : Int)) (.bl (!lo)))) = H6 at b6 h6 n6 ⊢
        have a6 := b6.keep _ _ hap ha
        have hoq := opp_lt hq
        have hpo := plc_of hev (e := opp h q) (by omega)
        walk_at "go"
        refine ⟨tyT a6, ?_⟩
        walk_at "go"
        refine s_indexT (SqT.of a6) ⟨hpo.1, ?_⟩ ?_
        · have := (src_of hev hpo.1).2.1
          rw [hpo.2] at this
          exact this
        rw [show ls.idxOf ((opp h q : Nat) : Int) = plcE ls (opp h q) from rfl]
        walk_at "go"
        rw [el]
        walk_at "go"
        rw [eo _ (by omega)]
        have hz : opp h (plcE ls (opp h q)) < 2 * h := opp_lt (by omega)
        have hsz := src_of hev (p := opp h (plcE ls (opp h q))) (by omega)
        refine s_ix_t (v := nV (srcP ls (opp h (plcE ls (opp h q))))) (SqT.of a6) (Int.natCast_nonneg _) ?_ ?_
        · have hz' : opp h (plcE ls (opp h q)) < ls.length := by omega
          have := hsz.2.1
          rw [List.getD_eq_getElem?_getD, List.getElem?_eq_getElem hz'] at this
          rw [Int.toNat_natCast, List.getElem?_map, List.getElem?_eq_getElem hz']
          exact congrArg (fun z => some (V.int z)) this
        walk_at "go"
        obtain ⟨hS6, ho6⟩ := side_step (b := !lo) (p0 := 0) hev hl hq hcq hS
        rw [Bool.not_not] at hS6 ho6
        have et : tauL h ls (plcE ls q) = plcE ls (opp h q) := by unfold tauL; rw [hpq.2]
        refine ⟨_, ho6, b6, h6, _, _, srcP ls (opp h (plcE ls (opp h q))), _, rfl, by omega, hS6, n6, .inr ?_, fun e he => ?_, rfl⟩
        · rw [hsz.2.2, ← et]
          rcases hch with ⟨hC, rfl⟩ | hF
          · have := chainF_start (b := !lo) P hC (by omega) hcq
            rw [Bool.not_not] at this
            exact this
          · have := chainF_step P hF hcq
            rw [Bool.not_not] at this
            exact this
        · have := hA e he
          unfold putC
          split
          · simp
          · split
            · simp
            · exact this
    · rintro σ H2 ⟨b2, h2, hi2, ⟨c, kvs, hC, hA, hS, n2⟩, v4, v5, v6, v7, rfl⟩
      walk_at "go"
      obtain ⟨X, hX, hc⟩ := cross_of hC P fun p hp => by
        have := src_of hev (p := p) (by omega)
        rw [← this.2.2]
        exact hA _ (by omega)
      exact k d kvs X H2 hX (fun e he => by
        have := plc_of hev (e := e) (by omega)
        rw [hS.1 e he, hc _ (by omega)]
        rfl) dp b2 h2 n2
theorem sc__law_made : FnScope ["_law_hand_here", "_law_leading", "_law_width", "_law_half", "_law_side", "_law_first", "_law_last", "_law_parts", "_law_lower", "_law_own", "_law_goal"] ["_law_hand_here", "_law_leading"] (defScope s__law_made) := ⟨rfl, rfl, rfl, by decide +kernel, rfl, by decide +kernel, by decide +kernel⟩
theorem ok__law_made {a : Addr} {fd : FuncData} (B : Blt K mg) {j : Nat} (g__law_sides : FnAt P w K mg base "_law_sides" ["_law_hand_here", "_law_leading"] 2 spSides) (g__law_made : FnAt P w K mg base "_law_made" ["_law_hand_here", "_law_leading"] (j + 2) (spMade24 j)) (F : Fun K "_law_made" "_law_made" s__law_made a fd) : FnOk P w K mg base CX0 (j + 2 + 1) a fd ["_law_hand_here", "_law_leading"] (spMade24 (j + 1)) := by
  refine F.ok sc__law_made (fun vs H Q E h => ?_) (fun cdv A outer s H vs Q E hr h => ?_)
  · obtain ⟨p, a, ls, k, rfl, _⟩ := h
    rfl
  · have nd := sc__law_made.nd
    have hu := hr.units
    obtain ⟨p, a, ls, k, rfl, hH, ha, hev, hl, hk, hk6, kk⟩ := h
    have h64 := pow_le64 hk6
    have el : (ls.map V.int).length = 2 ^ k := by rw [List.length_map, hl]
    have hap : a ≠ p := hH.neT ha
    refine ⟨_, (@pss_cons _ _ _ _ _ (@ps_set _ _ 2 _ _ _ _ nd rfl (Or.inl rfl) (@pe_callB _ _ _ _ _ _ _ _ _ (@k_len _ K (by rfl)) rfl B.b_len boot_len (@pa_cons _ _ _ _ _ (@pv1 _ 1 _ _ (by walk_at "pv")) (@pa_nil _) (by rfl)) (by decide) (by decide) (by rfl) (by rfl)) (by rfl) (by walk_at "vis")) (@pss_cons _ _ _ _ _ (@ps_if _ _ _ _ _ _ _ _ (@pt_cmpR _ _ _ _ _ _ _ _ (@k_eq _ K hu (by rfl)) (@pv1 _ 2 _ _ (by walk_at "pv")) (@pe_int _ _ _ _) (@nomark _ _ (by decide) (by decide))) (@pss_one _ _ _ (@ps_ret _ _ _ _ (@pe_tup _ _ _ _ _ (@pa_nil _)))) (@pss_nil _)) (@pss_cons _ _ _ _ _ (@ps_set _ _ 3 _ _ _ _ nd rfl (Or.inr rfl) (@pe_op _ _ _ _ _ _ _ _ (@op_fdivW _) (@pv1 _ 2 _ _ (by walk_at "pv")) (@pe_int _ _ _ _)) (by rfl) (by walk_at "vis")) (@pss_cons _ _ _ _ _ (@ps_set _ _ 4 _ _ _ _ nd rfl (Or.inr rfl) (@pe_own _ _ _ _ _ _ _ _ _ _ g__law_sides (hr.mono (by omega)) (@pa_cons _ _ _ _ _ (@pv1 _ 0 _ _ (by walk_at "pv")) (@pa_cons _ _ _ _ _ (@pv1 _ 1 _ _ (by walk_at "pv")) (@pa_nil _) (by rfl)) (by rfl)) (by rfl) (by decide) (by rfl) (by rfl)) (by rfl) (by walk_at "vis")) (@pss_cons _ _ _ _ _ (@ps_set _ _ 5 _ _ _ _ nd rfl (Or.inl rfl) (@pe_callB _ _ _ _ _ _ _ _ _ (@k_sum _ K rfl (by rfl)) rfl B.b_sum boot_sum (@pa_cons _ _ _ _ _ (@pe_comp _ _ _ _ _ _ (defScope s__law_made) _ ["_law_hand_here", "_law_leading", "_law_width", "_law_half", "_law_side", "_law_first", "_law_last", "_law_parts", "_law_lower", "_law_own", "_law_goal"] ["_law_p", "_law_side"] [none, some 4] _ _ _ _ rfl (@pi_range1 _ _ _ _ _ _ rfl B.b_range (@pa_cons _ _ _ _ _ (@pv1 _ 3 _ _ (by walk_at "pv")) (@pa_nil _) (by rfl)) (by rfl)) (fun _ _ _ _ => (@pg_name _ _ 0 _ (show List.Nodup (["_law_p", "_law_side"] : List Str) by decide +kernel) rfl (Or.inl rfl) (by walk_at "vis"))) (fun _ _ _ _ => (@pts_one _ _ _ (@pt_not _ _ _ _ (@pt_val _ _ _ (@pe_dIx _ _ _ _ _ _ hu (@pv1 _ 1 _ _ (by walk_at "pv")) (@pv1 _ 0 _ _ (by walk_at "pv")) (by exact fun _ _ => rfl)) (by intro _; rfl))))) (fun _ _ _ _ => (@pe_op _ _ _ _ _ _ _ _ (@op_shl _) (@pe_int _ _ _ _) (@pv1 _ 0 _ _ (by walk_at "pv")))) (by decide +kernel) (by rfl) (by rfl) (by intro _; rfl)) (@pa_nil _) (by rfl)) (by decide) (by decide) (by rfl) (by rfl)) (by rfl) (by walk_at "vis")) (@pss_cons _ _ _ _ _ (@ps_set _ _ 6 _ _ _ _ nd rfl (Or.inl rfl) (@pe_callB _ _ _ _ _ _ _ _ _ (@k_sum _ K rfl (by rfl)) rfl B.b_sum boot_sum (@pa_cons _ _ _ _ _ (@pe_comp _ _ _ _ _ _ (defScope s__law_made) _ ["_law_hand_here", "_law_leading", "_law_width", "_law_half", "_law_side", "_law_first", "_law_last", "_law_parts", "_law_lower", "_law_own", "_law_goal"] ["_law_p", "_law_side", "_law_leading"] [none, some 4, some 1] _ _ _ _ rfl (@pi_range1 _ _ _ _ _ _ rfl B.b_range (@pa_cons _ _ _ _ _ (@pv1 _ 3 _ _ (by walk_at "pv")) (@pa_nil _) (by rfl)) (by rfl)) (fun _ _ _ _ => (@pg_name _ _ 0 _ (show List.Nodup (["_law_p", "_law_side", "_law_leading"] : List Str) by decide +kernel) rfl (Or.inl rfl) (by walk_at "vis"))) (fun _ _ _ _ => (@pts_one _ _ _ (@pt_not _ _ _ _ (@pt_val _ _ _ (@pe_dIx _ _ _ _ _ _ hu (@pv1 _ 1 _ _ (by walk_at "pv")) (@pe_ix _ _ _ _ _ _ _ (@k_ix _ K (by rfl)) (@pv1 _ 2 _ _ (by walk_at "pv")) (@pv1 _ 0 _ _ (by walk_at "pv")) (fun _ _ => rfl)) (by exact fun _ _ => rfl)) (by intro _; rfl))))) (fun _ _ _ _ => (@pe_op _ _ _ _ _ _ _ _ (@op_shl _) (@pe_int _ _ _ _) (@pv1 _ 0 _ _ (by walk_at "pv")))) (by decide +kernel) (by rfl) (by rfl) (by intro _; rfl)) (@pa_nil _) (by rfl)) (by decide) (by decide) (by rfl) (by rfl)) (by rfl) (by walk_at "vis")) (@pss_cons _ _ _ _ _ (@ps_set _ _ 7 _ _ _ _ nd rfl (Or.inl rfl) (@pe_lst _ _ _ _ (@pa_nil _)) (by rfl) (by walk_at "vis")) (@pss_cons _ _ _ _ _ (@ps_for _ _ _ _ _ _ _ _ PassesOwn.never rfl (@k_pi_seq _ K _ _ _ (@pe_tup _ _ _ _ _ (@pa_cons _ _ _ _ _ (@pe_bl _ _ _ _) (@pa_cons _ _ _ _ _ (@pe_bl _ _ _ _) (@pa_nil _) (by rfl)) (by rfl))) (by rfl)) (@pg_name _ _ 8 _ nd rfl (Or.inr rfl) (by walk_at "vis")) (@pss_cons _ _ _ _ _ (@ps_set _ _ 9 _ _ _ _ nd rfl (Or.inl rfl) (@pe_lst _ _ _ _ (@pa_nil _)) (by rfl) (by walk_at "vis")) (@pss_cons _ _ _ _ _ (@ps_for _ _ _ _ _ _ _ _ PassesOwn.never rfl (@pi_range1 _ _ _ _ _ _ rfl B.b_range (@pa_cons _ _ _ _ _ (@pv1 _ 3 _ _ (by walk_at "pv")) (@pa_nil _) (by rfl)) (by rfl)) (@pg_name _ _ 10 _ nd rfl (Or.inl rfl) (by walk_at "vis")) (@pss_one _ _ _ (@ps_expr _ _ _ _ (@k_bm _ K _ _ _ _ _ _ _ _ _ _ _ PySem.F.plainAttrs_list PySem.F.slot_list_extend PySem.F.type_list_extend (@mt_extend _) (@pv1 _ 9 _ _ (by walk_at "pv")) (@pa_cons _ _ _ _ _ (@pe_comp _ _ _ _ _ _ (defScope s__law_made) _ ["_law_hand_here", "_law_leading", "_law_width", "_law_half", "_law_side", "_law_first", "_law_last", "_law_parts", "_law_lower", "_law_own", "_law_goal"] ["_law_one", "_law_half", "_law_side", "_law_lower"] [none, some 3, some 4, some 8] _ _ _ _ rfl (@k_pi_seq _ K _ _ _ (@pe_tup _ _ _ _ _ (@pa_cons _ _ _ _ _ (@pe_ix _ _ _ _ _ _ _ (@k_ix _ K (by rfl)) (@pv1 _ 1 _ _ (by walk_at "pv")) (@pv1 _ 10 _ _ (by walk_at "pv")) (fun _ _ => rfl)) (@pa_cons _ _ _ _ _ (@pe_ix _ _ _ _ _ _ _ (@k_ix _ K (by rfl)) (@pv1 _ 1 _ _ (by walk_at "pv")) (@pe_op _ _ _ _ _ _ _ _ (@k_add _ K (by rfl)) (@pv1 _ 10 _ _ (by walk_at "pv")) (@pv1 _ 3 _ _ (by walk_at "pv"))) (fun _ _ => rfl)) (@pa_nil _) (by rfl)) (by rfl))) (by rfl)) (fun _ _ _ _ => (@pg_name _ _ 0 _ (show List.Nodup (["_law_one", "_law_half", "_law_side", "_law_lower"] : List Str) by decide +kernel) rfl (Or.inl rfl) (by walk_at "vis"))) (fun _ _ _ _ => (@pts_one _ _ _ (@pt_cmpR _ _ _ _ _ _ _ _ (@k_eq _ K hu (by rfl)) (@pe_dIx _ _ _ _ _ _ hu (@pv1 _ 2 _ _ (by walk_at "pv")) (@pv1 _ 0 _ _ (by walk_at "pv")) (by exact fun _ _ => rfl)) (@pv1 _ 3 _ _ (by walk_at "pv")) (@nomark _ _ (by decide) (by decide))))) (fun _ _ _ _ => (@pe_op _ _ _ _ _ _ _ _ (@op_mod _) (@pv1 _ 0 _ _ (by walk_at "pv")) (@pv1 _ 1 _ _ (by walk_at "pv")))) (by decide +kernel) (by rfl) (by rfl) (by intro _; rfl)) (@pa_nil _) (by rfl)) (by rfl) (by rfl) (by rfl) (by rfl) (by rfl) (by rfl)) (by rfl))) (by intro _; rfl)) (@pss_one _ _ _ (@ps_expr _ _ _ _ (@k_bm _ K _ _ _ _ _ _ _ _ _ _ _ PySem.F.plainAttrs_list PySem.F.slot_list_append PySem.F.type_list_append (@mt_append _) (@pv1 _ 7 _ _ (by walk_at "pv")) (@pa_cons _ _ _ _ _ (@pe_tup _ _ _ _ _ (@pa_cons _ _ _ _ _ (@pe_callTy _ _ _ _ _ _ _ _ _ (@k_tup _ K (by rfl)) rfl B.b_tuple boot_tuple (@pa_cons _ _ _ _ _ (@pv1 _ 9 _ _ (by walk_at "pv")) (@pa_nil _) (by rfl)) (by decide) (by decide) (by rfl) (by rfl)) (@pa_cons _ _ _ _ _ (@pe_own _ _ _ _ _ _ _ _ _ _ g__law_made (hr.mono (by omega)) (@pa_cons _ _ _ _ _ (@pv1 _ 0 _ _ (by walk_at "pv")) (@pa_cons _ _ _ _ _ (@pe_callTy _ _ _ _ _ _ _ _ _ (@k_tup _ K (by rfl)) rfl B.b_tuple boot_tuple (@pa_cons _ _ _ _ _ (@pv1 _ 9 _ _ (by walk_at "pv")) (@pa_nil _) (by rfl)) (by decide) (by decide) (by rfl) (by rfl)) (@pa_nil _) (by rfl)) (by rfl)) (by rfl) (by decide) (by rfl) (by rfl)) (@pa_nil _) (by rfl)) (by rfl))) (@pa_nil _) (by rfl)) (by rfl) (by rfl) (by rfl) (by rfl) (by rfl) (by rfl)) (by rfl))))) (by intro _; rfl)) (@pss_one _ _ _ (@ps_ret _ _ _ _ (@pe_tup _ _ _ _ _ (@pa_cons _ _ _ _ _ (@pv1 _ 5 _ _ (by walk_at "pv")) (@pa_cons _ _ _ _ _ (@pv1 _ 6 _ _ (by walk_at "pv")) (@pa_cons _ _ _ _ _ (@pe_ix _ _ _ _ _ _ _ (@k_ix _ K (by rfl)) (@pv1 _ 7 _ _ (by walk_at "pv")) (@pe_int _ _ _ _) (fun _ _ => rfl)) (@pa_cons _ _ _ _ _ (@pe_ix _ _ _ _ _ _ _ (@k_ix _ K (by rfl)) (@pv1 _ 7 _ _ (by walk_at "pv")) (@pe_int _ _ _ _) (fun _ _ => rfl)) (@pa_nil _) (by rfl)) (by rfl)) (by rfl)) (by rfl))))))))))))), ?_⟩
    walk_at "go"
    rw [el]
    cases k with
    | zero =>
      refine s_ifeq (fun _ => ?_) (fun z => absurd rfl z)
      walk_at "go"
      refine s_newT (by simp) fun t H1 f1 s1 n1 => ?_
      exact kk t .nil H1 ⟨trivial, rfl, hl, hev⟩ s1.but (hH.same s1) n1
    | succ k =>
      have ep : 2 ^ (k + 1) = 2 * 2 ^ k := by rw [Nat.pow_succ]; omega
      have hp1 := Nat.two_pow_pos k
      have hl2 : ls.length = 2 * 2 ^ k := by rw [hl, ep]
      generalize hhd : 2 ^ k = h at hp1 hl2 ep
      rw [ep] at h64
      refine s_ifeq (fun z => absurd z (by rw [ep]; omega)) (fun _ => ?_)
      walk_at "go"
      rw [show ((2 ^ (k + 1) : Nat) : Int) / 2 = (h : Int) by rw [ep]; omega]
      walk_at "go"
      refine ⟨p, a, ls, h, rfl, hH, ha, hev, hl2, by omega, by omega, fun d kvs X H1 hX hv dp b1 h1 n1 => ?_⟩
      have a1 := b1.keep _ _ hap ha
      have vS : ∀ e, e < 2 * h → DGet H1 d (nV e) (some (.bl (!X (plcE ls e)))) := fun e he => (hv e he) ▸ DGet.k (k := .inl (e : Int)) n1
      have ix : ∀ x, x < 2 * h → (ls.map V.int)[((x : Nat) : Int).toNat]? = some (nV (srcP ls x)) := fun x hx => by
        have hx' : x < ls.length := by omega
        have := (src_of hev hx').2.1
        rw [List.getD_eq_getElem?_getD, List.getElem?_eq_getElem hx'] at this
        rw [Int.toNat_natCast, List.getElem?_map, List.getElem?_eq_getElem hx']
        exact congrArg (fun z => some (V.int z)) this
      walk_at "go"
      refine s_rngC (n := h) rfl (by omega) ?_
      refine comp_range0 (fun i acc H' => H' = H1 ∧ i ≤ 32 ∧ acc = (((List.range i).filter fun e => X (plcE ls e)).map fun e => 2 ^ e).map nV) ⟨rfl, by omega, rfl⟩ (fun i acc H' z => ?_) ?_ ?_
      · obtain ⟨_, hi, rfl⟩ := z
        have := List.length_filter_le (fun e => X (plcE ls e)) (List.range i)
        rw [List.length_range] at this
        rw [List.length_map, List.length_map]
        exact Nat.le_of_lt (small5 (by omega))
      · rintro i acc H' hi ⟨rfl, hi2, rfl⟩
        walk_at "go"
        refine s_tDGet ?_
        walk_at "go"
        refine ⟨d, _, rfl, vS i (by omega), ?_⟩
        cases hc : X (plcE ls i) with
        | true =>
          rw [Bool.not_true]
          walk_at "go"
          refine ⟨rfl, by omega, ?_⟩
          rw [List.range_succ, List.filter_append, List.filter_cons_of_pos (p := fun e => X (plcE ls e)) (a := i) hc, List.map_append, List.map_append]
          congr 1
          simp [nV]
        | false =>
          rw [Bool.not_false]
          walk_at "go"
          refine ⟨rfl, by omega, ?_⟩
          rw [List.range_succ, List.filter_append, List.filter_cons_of_neg (p := fun e => X (plcE ls e)) (a := i) (by rw [hc]; decide)]
          simp
      rintro acc Hx ⟨rfl, _, rfl⟩ l2 f2
      have s2 := same_upd (o := .lst ((((List.range h).filter fun e => X (plcE ls e)).map fun e => 2 ^ e).map nV)) f2
      have n2 : upd Hx l2 (.lst ((((List.range h).filter fun e => X (plcE ls e)).map fun e => 2 ^ e).map nV)) l2 = some (.lst ((((List.range h).filter fun e => X (plcE ls e)).map fun e => 2 ^ e).map nV)) := upd_same
      generalize upd Hx l2 (.lst ((((List.range h).filter fun e => X (plcE ls e)).map fun e => 2 ^ e).map nV)) = H2 at s2 n2 ⊢
      walk_at "go"
      refine ⟨l2, ((((List.range h).filter fun e => X (plcE ls e)).map fun e => 2 ^ e).map fun (n : Nat) => (n : Int)), rfl, SqL.of (by rw [n2, List.map_map, List.map_map, List.map_map]; rfl), ?_⟩
      rw [sum_filter, sum_mask, show maskN ((List.range h).filter fun e => X (plcE ls e)) = m1N h ls X from rfl]
      have a2 := s2 _ _ a1
      have nd2 := s2 _ _ n1
      have vS2 : ∀ e, e < 2 * h → DGet H2 d (nV e) (some (.bl (!X (plcE ls e)))) := fun e he => (hv e he) ▸ DGet.k (k := .inl (e : Int)) nd2
      walk_at "go"
      refine s_rngC (n := h) rfl (by omega) ?_
      refine comp_range0 (fun i acc H' => H' = H2 ∧ i ≤ 32 ∧ acc = (((List.range i).filter fun e => X e).map fun e => 2 ^ e).map nV) ⟨rfl, by omega, rfl⟩ (fun i acc H' z => ?_) ?_ ?_
      · obtain ⟨_, hi, rfl⟩ := z
        have := List.length_filter_le (fun e => X e) (List.range i)
        rw [List.length_range] at this
        rw [List.length_map, List.length_map]
        exact Nat.le_of_lt (small5 (by omega))
      · rintro i acc H' hi ⟨rfl, hi2, rfl⟩
        walk_at "go"
        refine s_tDGet ?_
        walk_at "go"
        refine s_ix_t (v := nV (srcP ls i)) (SqT.of a2) (Int.natCast_nonneg i) (ix i (by omega)) ?_
        have hs := src_of hev (p := i) (by omega)
        refine ⟨d, _, rfl, vS2 (srcP ls i) (by omega), ?_⟩
        rw [hs.2.2]
        cases hc : X i with
        | true =>
          rw [Bool.not_true]
          walk_at "go"
          refine ⟨rfl, by omega, ?_⟩
          rw [List.range_succ, List.filter_append, List.filter_cons_of_pos (p := fun e => X e) (a := i) hc, List.map_append, List.map_append]
          congr 1
          simp [nV]
        | false =>
          rw [Bool.not_false]
          walk_at "go"
          refine ⟨rfl, by omega, ?_⟩
          rw [List.range_succ, List.filter_append, List.filter_cons_of_neg (p := fun e => X e) (a := i) (by rw [hc]; decide)]
          simp
      rintro acc Hy ⟨rfl, _, rfl⟩ l3 f3
      have s3 := same_upd (o := .lst ((((List.range h).filter fun e => X e).map fun e => 2 ^ e).map nV)) f3
      have n3 : upd Hy l3 (.lst ((((List.range h).filter fun e => X e).map fun e => 2 ^ e).map nV)) l3 = some (.lst ((((List.range h).filter fun e => X e).map fun e => 2 ^ e).map nV)) := upd_same
      generalize upd Hy l3 (.lst ((((List.range h).filter fun e => X e).map fun e => 2 ^ e).map nV)) = H3 at s3 n3 ⊢
      walk_at "go"
      refine ⟨l3, ((((List.range h).filter fun e => X e).map fun e => 2 ^ e).map fun (n : Nat) => (n : Int)), rfl, SqL.of (by rw [n3, List.map_map, List.map_map, List.map_map]; rfl), ?_⟩
      rw [sum_filter, sum_mask, show maskN ((List.range h).filter fun e => X e) = m2N h X from rfl]
      walk_at "go"
      refine s_newL (by simp) fun lp H4 f4 s4 n4 => ?_
      have s14 := s2.trans (s3.trans s4)
      have b4 := b1.trans s14.but
      have h4 := h1.same s14
      have lpp : lp ≠ p := (h1.same (s2.trans s3)).ne f4
      walk_at "go"
      refine s_newT (by simp) fun tt H5 f5 s5 n5 => ?_
      have fH4 : H lp = none := ((b1.trans (s2.trans s3).but).free (h1.same (s2.trans s3)) f4).1
      have s15 := s14.trans s5
      refine for_seqTN (xs := [.bl true, .bl false]) (fun i σ H' => But p H H' ∧ Hand H' p ∧ H' d = some (.dK kvs) ∧ H' tt = some (.tup [.bl true, .bl false]) ∧
         ((i = 0 ∧ H' lp = some (.lst [])) ∨ (i = 1 ∧ ∃ (x0 : Addr) (P0 : Pap), H' lp = some (.lst [.ref x0]) ∧ Part H' k x0 (halfL true h ls X) P0) ∨ (i = 2 ∧ ∃ (x0 : Addr) (P0 : Pap) (x1 : Addr) (P1 : Pap), H' lp = some (.lst [.ref x0, .ref x1]) ∧ Part H' k x0 (halfL true h ls X) P0 ∧ Part H' k x1 (halfL false h ls X) P1)) ∧
         ∃ v8 v9 v10, σ = [some (.ref p), some (.ref a), some (nV (2 ^ (k + 1))), some (nV h), some (.ref d), some (nV (m1N h ls X)), some (nV (m2N h X)), some (.ref lp), v8, v9, v10])
         ⟨b1.trans s15.but, h1.same s15, s15 _ _ n1, n5, .inl ⟨rfl, s5 _ _ n4⟩, none, none, none, rfl⟩ (fun i σ H' z => SqT.of z.2.2.2.1) ?_ ?_
      · rintro i x σ H6 hx ⟨b6, h6, d6, tt6, hP6, v8, v9, v10, rfl⟩
        obtain ⟨bo, rfl, hbo⟩ : ∃ bo : Bool, x = .bl bo ∧ ((i = 0 ∧ bo = true) ∨ (i = 1 ∧ bo = false)) := by
          match i, hx with
          | 0, hx => cases hx; exact ⟨true, rfl, .inl ⟨rfl, rfl⟩⟩
          | 1, hx => cases hx; exact ⟨false, rfl, .inr ⟨rfl, rfl⟩⟩
        have a6 := b6.keep _ _ hap ha
        walk_at "go"
        refine s_newL (by simp) fun lo H7 f7 s7 n7 => ?_
        have fH7 : H lo = none := (b6.free h6 f7).1
        have a7 := s7 _ _ a6
        have d7 := s7 _ _ d6
        walk_at "go"
        refine s_rngF (n := h) rfl (by omega) ?_
        refine for_range0 (fun r σ H' => Same H6 H' ∧ r ≤ 32 ∧ H' lo = some (.lst (((List.range r).map fun r => halfE bo h ls X r).map nV)) ∧ ∃ v10, σ = [some (.ref p), some (.ref a), some (nV (2 ^ (k + 1))), some (nV h), some (.ref d), some (nV (m1N h ls X)), some (nV (m2N h X)), some (.ref lp), some (.bl bo), some (.ref lo), v10]) ⟨s7, by omega, n7, _, rfl⟩ ?_ ?_
        · rintro r σ H8 hr ⟨s8, hr32, n8, v10', rfl⟩
          have a8 := s8 _ _ a6
          have d8 := s8 _ _ d6
          walk_at "go"
          refine s_ix_t (v := nV (srcP ls r)) (SqT.of a8) (Int.natCast_nonneg r) (ix r (by omega)) ?_
          walk_at "go"
          rw [show (r : Int) + (h : Int) = ((r + h : Nat) : Int) by omega]
          refine s_ix_t (v := nV (srcP ls (r + h))) (SqT.of a8) (Int.natCast_nonneg _) (ix (r + h) (by omega)) ?_
          walk_at "go"
          refine s_newT (by simp) fun t9 H9 f9 s9 n9 => ?_
          have n9' : H9 t9 = some (.tup ([srcP ls r, srcP ls (r + h)].map nV)) := n9
          have d9 := s9 _ _ d8
          refine comp_seqT (SqT.of n9') ?_
          refine comp_tup (xs := [srcP ls r, srcP ls (r + h)].map nV) (fun i acc H' => Same H9 H' ∧ i ≤ 2 ∧ acc = (([srcP ls r, srcP ls (r + h)].take i).filter fun s => (!X (plcE ls s)) == bo).map fun s => nV (s % h)) ⟨Same.refl _, by omega, rfl⟩ (fun i acc H' z => ?_) (fun i acc H' z => SqT.of (z.1 _ _ n9')) ?_ ?_
          · obtain ⟨_, hi, rfl⟩ := z
            have h1 := List.length_filter_le (fun s => (!X (plcE ls s)) == bo) ([srcP ls r, srcP ls (r + h)].take i)
            have h2 := List.length_take_le i [srcP ls r, srcP ls (r + h)]
            rw [List.length_map]
            exact Nat.le_of_lt (small5 (by omega))
          · rintro i x acc H10 hx ⟨s10, hi, rfl⟩
            obtain ⟨e, he, rfl⟩ := nth_map hx
            have hil : i < 2 := (List.getElem?_eq_some_iff.mp he).1
            have he2 : e < 2 * h := by
              have hm := List.mem_of_getElem? he
              have q0 := (src_of hev (p := r) (by omega)).1
              have q1 := (src_of hev (p := r + h) (by omega)).1
              simp only [List.mem_cons, List.not_mem_nil, or_false] at hm
              rcases hm with rfl | rfl <;> omega
            have vS10 : DGet H10 d (nV e) (some (.bl (!X (plcE ls e)))) := (hv e he2) ▸ DGet.k (k := .inl (e : Int)) (s10 _ _ d9)
            walk_at "go"
            refine s_tDGet ?_
            walk_at "go"
            refine ⟨d, _, rfl, vS10, ?_⟩
            walk_at "go"
            cases hc : ((!X (plcE ls e)) == bo) with
            | true =>
              walk_at "go"
              refine ⟨s10, by omega, ?_⟩
              rw [List.take_add_one, he, List.filter_append, List.map_append]
              show _ = _ ++ List.map _ (List.filter _ [e])
              rw [List.filter_cons_of_pos (p := fun s => (!X (plcE ls s)) == bo) (a := e) hc]
              simp [nV]
            | false =>
              walk_at "go"
              refine ⟨s10, by omega, ?_⟩
              rw [List.take_add_one, he, List.filter_append, List.map_append]
              show _ = _ ++ List.map _ (List.filter _ [e])
              rw [List.filter_cons_of_neg (p := fun s => (!X (plcE ls s)) == bo) (a := e) (by rw [hc]; decide)]
              simp
          rintro acc H10 ⟨s10, _, rfl⟩ l11 f11
          rw [List.length_map, List.take_of_length_le (Nat.le_refl _), half_pick hev hl2 hX hr]
          have s11 := same_upd (o := .lst [nV (halfE bo h ls X r)]) f11
          have n11 : upd H10 l11 (.lst [nV (halfE bo h ls X r)]) l11 = some (.lst [nV (halfE bo h ls X r)]) := upd_same
          generalize upd H10 l11 (.lst [nV (halfE bo h ls X r)]) = H11 at s11 n11 ⊢
          have s811 := s9.trans (s10.trans s11)
          walk_at "go"
          refine s_ext (K := K) (s811 _ _ n8) n11 (by rw [List.length_map, List.length_map, List.length_range]; simp; omega) ?_
          walk_at "go"
          refine ⟨Same.updF (s8.trans s811) f7, by omega, ?_, _, rfl⟩
          rw [upd_same, List.range_succ, List.map_append, List.map_append]
          rfl
        · rintro σ H8 ⟨s8, _, n8, v10', rfl⟩
          obtain ⟨hE, hEl⟩ := halfL_even (b := bo) hev hl2 hX
          have n8' : H8 lo = some (.lst ((halfL bo h ls X).map V.int)) := by rw [n8, halfL_eq, List.map_map, List.map_map]; rfl
          obtain ⟨xs, nlp, zx⟩ : ∃ xs, H6 lp = some (.lst xs) ∧ xs.length ≤ 2 := by
            rcases hP6 with ⟨_, z⟩ | ⟨_, x0, P0, z, _⟩ | ⟨_, x0, P0, x1, P1, z, _⟩
            · exact ⟨_, z, by simp⟩
            · exact ⟨_, z, by simp⟩
            · exact ⟨_, z, by simp⟩
          have nlp8 := s8 _ _ nlp
          cases j with
          | zero => exact absurd hk (by omega)
          | succ j =>
            walk_at "go"
            refine s_tupOf n8' fun t9 H9 f9 s9 n9 => ?_
            walk_at "go"
            refine s_tupOf (s9 _ _ n8') fun t10 H10 f10 s10 n10 => ?_
            have s610 := s8.trans (s9.trans s10)
            have h10 := h6.same s610
            walk_at "go"
            refine ⟨p, t10, halfL bo h ls X, k, rfl, h10, n10, hE, by rw [hEl, hhd], by omega, by omega, fun pt PP H11 hg b11 h11 pp => ?_⟩
            walk_at "go"
            refine s_newT (by simp) fun t12 H12 f12 s12 n12 => ?_
            have n12lp := s12 _ _ (b11.keep _ _ lpp (s610 _ _ nlp))
            walk_at "go"
            have b12 := b6.trans (s610.but.trans (b11.trans s12.but))
            have h12 := h11.same s12
            have dlp : d ≠ lp := fun z => by rw [z, nlp] at d6; cases d6
            have ttlp : tt ≠ lp := fun z => by rw [z, nlp] at tt6; cases tt6
            have d12 := s12 _ _ (b11.keep _ _ dp (s610 _ _ d6))
            have tt12 := s12 _ _ (b11.keep _ _ (h10.neT (s610 _ _ tt6)) (s610 _ _ tt6))
            have pt12 : Part (upd H12 lp (.lst (xs ++ [.ref t12]))) k t12 (halfL bo h ls X) PP := Part.updL n12lp ⟨t9, pt, n12, s12 _ _ (b11.keep _ _ (h10.neT (s10 _ _ n9)) (s10 _ _ n9)), pp.same s12, hg⟩
            have old : ∀ {x : Addr} {l' : List Int} {P' : Pap}, Part H6 k x l' P' → Part (upd H12 lp (.lst (xs ++ [.ref t12]))) k x l' P' := fun q => Part.updL n12lp (((q.same s610).but h10 b11).same s12)
            refine ⟨b12.upd' fH4, hH.upd b12 h12 fH4, by rw [upd_ne dlp]; exact d12, by rw [upd_ne ttlp]; exact tt12, ?_, _, _, _, rfl⟩
            rcases hbo with ⟨rfl, rfl⟩ | ⟨rfl, rfl⟩
            · refine .inr (.inl ⟨rfl, t12, PP, ?_, pt12⟩)
              rcases hP6 with ⟨_, z⟩ | ⟨z, _⟩ | ⟨z, _⟩
              · rw [nlp] at z
                cases z
                exact upd_same
              · cases z
              · cases z
            · rcases hP6 with ⟨z, _⟩ | ⟨_, x0, P0, z, q0⟩ | ⟨z, _⟩
              · cases z
              · rw [nlp] at z
                cases z
                exact .inr (.inr ⟨rfl, x0, P0, t12, PP, upd_same, old q0, pt12⟩)
              · cases z
      · rintro σ H6 ⟨b6, h6, d6, tt6, hP6, v8, v9, v10, rfl⟩
        obtain ⟨x0, P0, x1, P1, n6, ⟨lx0, px0, q1, q2, q3, q4⟩, lx1, px1, r1, r2, r3, r4⟩ : ∃ (x0 : Addr) (P0 : Pap) (x1 : Addr) (P1 : Pap), H6 lp = some (.lst [.ref x0, .ref x1]) ∧ Part H6 k x0 (halfL true h ls X) P0 ∧ Part H6 k x1 (halfL false h ls X) P1 := by
          rcases hP6 with ⟨z, _⟩ | ⟨z, _⟩ | ⟨_, z⟩
          · cases z
          · cases z
          · exact z
        walk_at "go"
        refine s_newT (by simp) fun t7 H7 f7 s7 n7 => ?_
        subst hhd
        exact kk t7 (.node (m1N (2 ^ k) ls X) (m2N (2 ^ k) X) (lowL (2 ^ k) ls X) P0 (uppL (2 ^ k) ls X) P1) H7 (good_node hev hl hX q4 r4) (b6.trans s7.but) (h6.same s7) ⟨x0, x1, lx0, px0, lx1, px1, n7, s7 _ _ q1, s7 _ _ q2, q3.same s7, s7 _ _ r1, s7 _ _ r2, r3.same s7⟩
theorem sc__law_masks : FnScope ["_law_paper", "_law_width", "_law_half", "_law_found", "_law_one", "_law_other"] ["_law_paper", "_law_width"] (defScope s__law_masks) := ⟨rfl, rfl, rfl, by decide +kernel, rfl, by decide +kernel, by decide +kernel⟩
theorem ok__law_masks {a : Addr} {fd : FuncData} (B : Blt K mg) {j : Nat}  (g__law_masks : FnAt P w K mg base "_law_masks" ["_law_paper", "_law_width"] (j + 0) (spMasks24 j)) (F : Fun K "_law_masks" "_law_masks" s__law_masks a fd) : FnOk P w K mg base CX0 (j + 0 + 1) a fd ["_law_paper", "_law_width"] (spMasks24 (j + 1)) := by
  refine F.ok sc__law_masks (fun vs H Q E h => ?_) (fun cdv A outer s H vs Q E hr h => ?_)
  · obtain ⟨a, ls, P, k, rfl, _⟩ := h
    rfl
  · have nd := sc__law_masks.nd
    have hu := hr.units
    obtain ⟨a, ls, P, k, rfl, ha, hS, hl, hk, hk6, kk⟩ := h
    have h64 := pow_le64 hk6
    obtain ⟨mr, mz, mb⟩ := masks_ok k P ls hl hS
    refine ⟨_, (@pss_cons _ _ _ _ _ (@ps_if _ _ _ _ _ _ _ _ (@pt_cmpR _ _ _ _ _ _ _ _ (@op_lt _) (@pv1 _ 1 _ _ (by walk_at "pv")) (@pe_int _ _ _ _) (@nomark _ _ (by decide) (by decide))) (@pss_one _ _ _ (@ps_ret _ _ _ _ (@pe_ifExp _ _ _ _ _ _ _ _ (@pt_cmpR _ _ _ _ _ _ _ _ (@k_eq _ K hu (by rfl)) (@pv1 _ 1 _ _ (by walk_at "pv")) (@pe_int _ _ _ _) (@nomark _ _ (by decide) (by decide))) (@pe_lst _ _ _ _ (@pa_cons _ _ _ _ _ (@pe_op _ _ _ _ _ _ _ _ (@op_xor _) (@pe_ix _ _ _ _ _ _ _ (@k_ix _ K (by rfl)) (@pv1 _ 0 _ _ (by walk_at "pv")) (@pe_int _ _ _ _) (fun _ _ => rfl)) (@pe_ix _ _ _ _ _ _ _ (@k_ix _ K (by rfl)) (@pv1 _ 0 _ _ (by walk_at "pv")) (@pe_int _ _ _ _) (fun _ _ => rfl))) (@pa_nil _) (by rfl))) (@pe_lst _ _ _ _ (@pa_nil _))))) (@pss_nil _)) (@pss_cons _ _ _ _ _ (@ps_set _ _ 2 _ _ _ _ nd rfl (Or.inl rfl) (@pe_op _ _ _ _ _ _ _ _ (@op_fdivW _) (@pv1 _ 1 _ _ (by walk_at "pv")) (@pe_int _ _ _ _)) (by rfl) (by walk_at "vis")) (@pss_cons _ _ _ _ _ (@ps_set _ _ 3 _ _ _ _ nd rfl (Or.inl rfl) (@pe_lst _ _ _ _ (@pa_cons _ _ _ _ _ (@pe_ix _ _ _ _ _ _ _ (@k_ix _ K (by rfl)) (@pv1 _ 0 _ _ (by walk_at "pv")) (@pe_int _ _ _ _) (fun _ _ => rfl)) (@pa_nil _) (by rfl))) (by rfl) (by walk_at "vis")) (@pss_cons _ _ _ _ _ (@ps_for _ _ _ _ _ _ _ _ PassesOwn.never rfl (@k_pi_zip _ K _ _ _ _ _ _ _ _ B.b_zip (@pa_cons _ _ _ _ _ (@pe_own _ _ _ _ _ _ _ _ _ _ g__law_masks (hr.mono (by omega)) (@pa_cons _ _ _ _ _ (@pe_ix _ _ _ _ _ _ _ (@k_ix _ K (by rfl)) (@pe_ix _ _ _ _ _ _ _ (@k_ix _ K (by rfl)) (@pv1 _ 0 _ _ (by walk_at "pv")) (@pe_int _ _ _ _) (fun _ _ => rfl)) (@pe_int _ _ _ _) (fun _ _ => rfl)) (@pa_cons _ _ _ _ _ (@pv1 _ 2 _ _ (by walk_at "pv")) (@pa_nil _) (by rfl)) (by rfl)) (by rfl) (by decide) (by rfl) (by rfl)) (@pa_cons _ _ _ _ _ (@pe_own _ _ _ _ _ _ _ _ _ _ g__law_masks (hr.mono (by omega)) (@pa_cons _ _ _ _ _ (@pe_ix _ _ _ _ _ _ _ (@k_ix _ K (by rfl)) (@pe_ix _ _ _ _ _ _ _ (@k_ix _ K (by rfl)) (@pv1 _ 0 _ _ (by walk_at "pv")) (@pe_int _ _ _ _) (fun _ _ => rfl)) (@pe_int _ _ _ _) (fun _ _ => rfl)) (@pa_cons _ _ _ _ _ (@pv1 _ 2 _ _ (by walk_at "pv")) (@pa_nil _) (by rfl)) (by rfl)) (by rfl) (by decide) (by rfl) (by rfl)) (@pa_nil _) (by rfl)) (by rfl)) (by rfl) (by rfl) (by rfl) (by rfl)) (@k_pgtup _ K _ _ _ _ 2 rfl (@pgs_cons _ _ _ _ _ (@pg_name _ _ 4 _ nd rfl (Or.inl rfl) (by walk_at "vis")) (@pgs_cons _ _ _ _ _ (@pg_name _ _ 5 _ nd rfl (Or.inl rfl) (by walk_at "vis")) (@pgs_nil _) (by rfl)) (by rfl)) (by rfl) (by rfl) (by rfl)) (@pss_one _ _ _ (@ps_expr _ _ _ _ (@k_bm _ K _ _ _ _ _ _ _ _ _ _ _ PySem.F.plainAttrs_list PySem.F.slot_list_append PySem.F.type_list_append (@mt_append _) (@pv1 _ 3 _ _ (by walk_at "pv")) (@pa_cons _ _ _ _ _ (@pe_op _ _ _ _ _ _ _ _ (@op_or _) (@pv1 _ 4 _ _ (by walk_at "pv")) (@pe_op _ _ _ _ _ _ _ _ (@op_shl _) (@pv1 _ 5 _ _ (by walk_at "pv")) (@pv1 _ 2 _ _ (by walk_at "pv")))) (@pa_nil _) (by rfl)) (by rfl) (by rfl) (by rfl) (by rfl) (by rfl) (by rfl)) (by rfl))) (by intro _; rfl)) (@pss_one _ _ _ (@ps_ret _ _ _ _ (@pe_op _ _ _ _ _ _ _ _ (@k_add _ K (by rfl)) (@pv1 _ 3 _ _ (by walk_at "pv")) (@pe_lst _ _ _ _ (@pa_cons _ _ _ _ _ (@pe_ix _ _ _ _ _ _ _ (@k_ix _ K (by rfl)) (@pv1 _ 0 _ _ (by walk_at "pv")) (@pe_int _ _ _ _) (fun _ _ => rfl)) (@pa_nil _) (by rfl)))))))))), ?_⟩
    cases k with
    | zero =>
      cases P with
      | node m1 m2 lo pl up pu =>
        obtain ⟨h, h1, e, _⟩ := hS
        rw [hl] at e
        exact absurd e (by omega)
      | nil =>
        walk_at "go"
        refine s_if_t rfl ?_
        walk_at "go"
        refine s_ifeq (fun z => absurd z (by decide)) (fun _ => ?_)
        walk_at "go"
        refine s_newL (by simp) fun l H1 f1 s1 n1 => ?_
        exact kk l H1 f1 s1 n1
    | succ k =>
      cases P with
      | nil =>
        have e := hS.1
        rw [hl, Nat.pow_succ] at e
        have := Nat.two_pow_pos k
        omega
      | node m1 m2 lo pl up pu =>
        obtain ⟨x, y, lx, px, ly, py, n1, n2, n3, n4, n5, n6, n7⟩ := ha
        have hS' := hS
        obtain ⟨h, h1, e, b1, b2, ll, lu, el, eu, ej, sl, su⟩ := hS'
        have ep : 2 ^ (k + 1) = 2 * 2 ^ k := by rw [Nat.pow_succ]; omega
        obtain rfl : h = 2 ^ k := by omega
        have hd : 2 ^ (k + 1) / 2 = 2 ^ k := by omega
        cases k with
        | zero =>
          walk_at "go"
          refine s_if_t rfl ?_
          walk_at "go"
          refine s_ifeq (fun _ => ?_) (fun z => absurd rfl z)
          walk_at "go"
          rw [bitXor_nat]
          refine s_newL (by simp) fun l H1 f1 s1 n1 => ?_
          exact kk l H1 f1 s1 n1
        | succ k =>
          have h2 : 2 ≤ 2 ^ (k + 1) := by rw [Nat.pow_succ]; have := Nat.two_pow_pos k; omega
          walk_at "go"
          refine s_if_f (decide_eq_false (by omega)) ?_
          walk_at "go"
          rw [show ((2 ^ (k + 1 + 1) : Nat) : Int) / 2 = ((2 ^ (k + 1) : Nat) : Int) by omega]
          walk_at "go"
          refine s_newL (by simp) fun l1 H1 f1 s1 m1' => ?_
          have na0 := n1
          have n1 := s1 _ _ n1
          have n2 := s1 _ _ n2
          have n5 := s1 _ _ n5
          have em : masksP (2 ^ (k + 1 + 1)) (.node m1 m2 lo pl up pu) = [m1] ++ List.zipWith (fun a b => a ||| b * 2 ^ 2 ^ (k + 1)) (masksP (2 ^ (k + 1)) pl) (masksP (2 ^ (k + 1)) pu) ++ [m2] := by
            rw [masksP, hd, if_neg (by omega)]
          obtain ⟨_, za, ba⟩ := masks_ok (k + 1) pl lo ll sl
          obtain ⟨_, zb, bb⟩ := masks_ok (k + 1) pu up lu su
          have zf := formK_len (k + 1)
          rw [em] at kk
          generalize hA : masksP (2 ^ (k + 1)) pl = A at za ba kk
          generalize hB : masksP (2 ^ (k + 1)) pu = B at zb bb kk
          cases j with
          | zero => exact absurd hk (by omega)
          | succ j =>
            walk_at "go"
            refine ⟨px, lo, pl, k + 1, rfl, n4.same s1, sl, ll, by omega, by omega, fun l2 H2 f2 s2 e2 => ?_⟩
            rw [hA] at e2
            have l21 : l2 ≠ l1 := fun z => by rw [z, m1'] at f2; cases f2
            have m2' := s2 _ _ m1'
            have n1 := s2 _ _ n1
            have n5 := s2 _ _ n5
            walk_at "go"
            refine ⟨py, up, pu, k + 1, rfl, (n7.same s1).same s2, su, lu, by omega, by omega, fun l3 H3 f3 s3 e3 => ?_⟩
            rw [hB] at e3
            have l31 : l3 ≠ l1 := fun z => by rw [z, m2'] at f3; cases f3
            have e2 := s3 _ _ e2
            have m1' := s3 _ _ (s2 _ _ m1')
            have n1 := s3 _ _ n1
            have s13 := s1.trans (s2.trans s3)
            have zB2 : B.length ≤ 12 := by omega
            walk_at "go"
            refine ⟨l2, l3, _, _, rfl, SqL.of e2, SqL.of e3, ?_⟩
            refine for_zip (fun i σ H' => Same H H' ∧ H' a = some (.tup [nV m1, nV m2, .ref x, .ref y]) ∧ H' l2 = some (.lst (A.map nV)) ∧ H' l3 = some (.lst (B.map nV)) ∧ H' l1 = some (.lst (([m1] ++ (List.zipWith (fun a b => a ||| b * 2 ^ 2 ^ (k + 1)) A B).take i).map nV)) ∧ ∃ v4 v5, σ = [some (.ref a), some (nV (2 ^ (k + 1 + 1))), some (nV (2 ^ (k + 1))), some (.ref l1), v4, v5]) ⟨s13, n1, e2, e3, m1', none, none, rfl⟩ (fun i σ H' z => ⟨SqL.of z.2.2.1, SqL.of z.2.2.2.1⟩) ?_ ?_
            · rintro i u v T σ H4 hu hv hT ⟨s4, na4, e24, e34, n14, v4, v5, rfl⟩
              obtain ⟨c, hc, rfl⟩ := nth_map hu
              obtain ⟨b, hb, rfl⟩ := nth_map hv
              have bc := ba c (List.mem_of_getElem? hc)
              have bv := bb b (List.mem_of_getElem? hb)
              have bv64 : b < 18446744073709551616 := Nat.lt_of_lt_of_le bv (Nat.le_trans (Nat.pow_le_pow_right (by decide) (show 2 ^ (k + 1) ≤ 64 by omega)) (by decide))
              have hil : i < A.length := (List.getElem?_eq_some_iff.mp hc).1
              have hib : i < B.length := (List.getElem?_eq_some_iff.mp hb).1
              have sT := same_upd (o := .tup [nV c, nV b]) hT
              have nT : upd H4 T (.tup [nV c, nV b]) T = some (.tup [nV c, nV b]) := upd_same
              generalize upd H4 T (.tup [nV c, nV b]) = H5 at sT nT ⊢
              have n15 := sT _ _ n14
              have h32 : 2 ^ (k + 1) ≤ 64 := by omega
              walk_at "go"
              rw [shl_val, bitOr_nat]
              have sE := Same.updF (o := .lst (([m1] ++ (List.zipWith (fun a b => a ||| b * 2 ^ 2 ^ (k + 1)) A B).take i).map nV ++ [nV (c ||| b * 2 ^ 2 ^ (k + 1))])) (s4.trans sT) f1
              refine ⟨sE, sE _ _ na0, by rw [upd_ne l21]; exact sT _ _ e24, by rw [upd_ne l31]; exact sT _ _ e34, ?_, _, _, rfl⟩
              have hz : (List.zipWith (fun a b => a ||| b * 2 ^ 2 ^ (k + 1)) A B)[i]? = some (c ||| b * 2 ^ 2 ^ (k + 1)) := by
                rw [List.getElem?_zipWith, hc, hb]
              rw [upd_same, List.take_add_one, hz]
              simp
            · rintro σ H4 ⟨s4, na4, e24, e34, n14, v4, v5, rfl⟩
              rw [List.take_of_length_le (by rw [List.length_zipWith, List.length_map, List.length_map]; exact Nat.le_refl _)] at n14
              walk_at "go"
              refine s_newL (by simp) fun l5 H5 f5 s5 n5' => ?_
              walk_at "go"
              refine s_catL (s5 _ _ n14) n5' (by simp; omega) fun l6 H6 f6 s6 n6' => ?_
              exact kk l6 H6 ((s4.trans s5).free f6) (s4.trans (s5.trans s6)) (by rw [n6']; simp)
theorem sc_law : FnScope ["_law_script", "_law_hand_here", "_law_turn", "_law_width", "_law_leading", "_law_paper", "_law_row", "_law_half"] ["_law_script"] (defScope s_law) := ⟨rfl, rfl, rfl, by decide +kernel, rfl, by decide +kernel, by decide +kernel⟩
theorem ok_law {a : Addr} {fd : FuncData} (B : Blt K mg) (g_shows_halves : FnAt P w K mg base "shows_halves" ["leading", "paper"] 20 (spShowsH 7)) (g__law_hand : FnAt P w K mg base "_law_hand" ["_law_script"] 1 (spHand K)) (g__law_halved : FnAt P w K mg base "_law_halved" ["_law_hand_here"] 2 spHalvedD) (g__law_ordered : FnAt P w K mg base "_law_ordered" ["_law_hand_here", "_law_width"] 3 spOrdered) (g__law_walked : FnAt P w K mg base "_law_walked" ["_law_width", "_law_row"] 1 spWalkedS) (g__law_ways : FnAt P w K mg base "_law_ways" ["_law_width"] 1 spWaysK) (g__law_made : FnAt P w K mg base "_law_made" ["_law_hand_here", "_law_leading"] 9 (spMade24 7)) (g__law_masks : FnAt P w K mg base "_law_masks" ["_law_paper", "_law_width"] 7 (spMasks24 7)) (F : Fun K "law" "law" s_law a fd) : FnOk P w K mg base CX0 21 a fd ["_law_script"] (spLaw K) := by
  refine F.ok sc_law (fun vs H Q E h => ?_) (fun cdv A outer s H vs Q E hr h => ?_)
  · obtain ⟨b, ns, rfl, _⟩ := h
    rfl
  · have nd := sc_law.nd
    have hu := hr.units
    obtain ⟨b, ns, rfl, hS, hlen, k⟩ := h
    refine ⟨_, (@pss_cons _ _ _ _ _ (@ps_set _ _ 1 _ _ _ _ nd rfl (Or.inl rfl) (@pe_own _ _ _ _ _ _ _ _ _ _ g__law_hand (hr.mono (by decide)) (@pa_cons _ _ _ _ _ (@pv1 _ 0 _ _ (by walk_at "pv")) (@pa_nil _) (by rfl)) (by rfl) (by decide) (by rfl) (by rfl)) (by rfl) (by walk_at "vis")) (@pss_cons _ _ _ _ _ (@ps_for _ _ _ _ _ _ _ _ PassesOwn.never rfl (@pi_range1 _ _ _ _ _ _ rfl B.b_range (@pa_cons _ _ _ _ _ (@pe_op _ _ _ _ _ _ _ _ (@k_add2 _ K (by rfl)) (@pe_int _ _ _ _) (@pe_callB _ _ _ _ _ _ _ _ _ (@call_minN _ rfl) rfl B.b_min boot_min (@pa_cons _ _ _ _ _ (@pe_int _ _ _ _) (@pa_cons _ _ _ _ _ (@pe_callB _ _ _ _ _ _ _ _ _ (@k_len _ K (by rfl)) rfl B.b_len boot_len (@pa_cons _ _ _ _ _ (@pv1 _ 0 _ _ (by walk_at "pv")) (@pa_nil _) (by rfl)) (by decide) (by decide) (by rfl) (by rfl)) (@pa_nil _) (by rfl)) (by rfl)) (by decide) (by decide) (by rfl) (by rfl))) (@pa_nil _) (by rfl)) (by rfl)) (@pg_name _ _ 2 _ nd rfl (Or.inl rfl) (by walk_at "vis")) (@pss_cons _ _ _ _ _ (@ps_set _ _ 3 _ _ _ _ nd rfl (Or.inl rfl) (@pe_callB _ _ _ _ _ _ _ _ _ (@call_maxN _ rfl) rfl B.b_max boot_max (@pa_cons _ _ _ _ _ (@pe_int _ _ _ _) (@pa_cons _ _ _ _ _ (@pe_own _ _ _ _ _ _ _ _ _ _ g__law_halved (hr.mono (by decide)) (@pa_cons _ _ _ _ _ (@pv1 _ 1 _ _ (by walk_at "pv")) (@pa_nil _) (by rfl)) (by rfl) (by decide) (by rfl) (by rfl)) (@pa_nil _) (by rfl)) (by rfl)) (by decide) (by decide) (by rfl) (by rfl)) (by rfl) (by walk_at "vis")) (@pss_cons _ _ _ _ _ (@ps_set _ _ 4 _ _ _ _ nd rfl (Or.inl rfl) (@pe_own _ _ _ _ _ _ _ _ _ _ g__law_ordered (hr.mono (by decide)) (@pa_cons _ _ _ _ _ (@pv1 _ 1 _ _ (by walk_at "pv")) (@pa_cons _ _ _ _ _ (@pv1 _ 3 _ _ (by walk_at "pv")) (@pa_nil _) (by rfl)) (by rfl)) (by rfl) (by decide) (by rfl) (by rfl)) (by rfl) (by walk_at "vis")) (@pss_cons _ _ _ _ _ (@ps_set _ _ 5 _ _ _ _ nd rfl (Or.inl rfl) (@pe_own _ _ _ _ _ _ _ _ _ _ g__law_made (hr.mono (by decide)) (@pa_cons _ _ _ _ _ (@pv1 _ 1 _ _ (by walk_at "pv")) (@pa_cons _ _ _ _ _ (@pv1 _ 4 _ _ (by walk_at "pv")) (@pa_nil _) (by rfl)) (by rfl)) (by rfl) (by decide) (by rfl) (by rfl)) (by rfl) (by walk_at "vis")) (@pss_cons _ _ _ _ _ (@ps_if _ _ _ _ _ _ _ _ (@pt_cmpR _ _ _ _ _ _ _ _ (@opU_isnot _) (@pe_own _ _ _ _ _ _ _ _ _ _ g_shows_halves (hr.mono (by decide)) (@pa_cons _ _ _ _ _ (@pv1 _ 4 _ _ (by walk_at "pv")) (@pa_cons _ _ _ _ _ (@pv1 _ 5 _ _ (by walk_at "pv")) (@pa_nil _) (by rfl)) (by rfl)) (by rfl) (by decide) (by rfl) (by rfl)) (@pe_bl _ _ _ _) (@nomark _ _ (by decide) (by decide))) (@pss_one _ _ _ (@ps_ret _ _ _ _ (@pe_bl _ _ _ _))) (@pss_nil _)) (@pss_cons _ _ _ _ _ (@ps_setComp _ _ _ _ _ _ (defScope s_law) _ ["_law_script", "_law_hand_here", "_law_turn", "_law_width", "_law_leading", "_law_paper", "_law_row", "_law_half"] ["_law_mask", "_law_by"] [none, none] _ _ _ _ 6 _ _ _ nd rfl (Or.inl rfl) rfl (@k_pi_zip _ K _ _ _ _ _ _ _ _ B.b_zip (@pa_cons _ _ _ _ _ (@pe_own _ _ _ _ _ _ _ _ _ _ g__law_masks (hr.mono (by decide)) (@pa_cons _ _ _ _ _ (@pv1 _ 5 _ _ (by walk_at "pv")) (@pa_cons _ _ _ _ _ (@pv1 _ 3 _ _ (by walk_at "pv")) (@pa_nil _) (by rfl)) (by rfl)) (by rfl) (by decide) (by rfl) (by rfl)) (@pa_cons _ _ _ _ _ (@pe_own _ _ _ _ _ _ _ _ _ _ g__law_ways (hr.mono (by decide)) (@pa_cons _ _ _ _ _ (@pv1 _ 3 _ _ (by walk_at "pv")) (@pa_nil _) (by rfl)) (by rfl) (by decide) (by rfl) (by rfl)) (@pa_nil _) (by rfl)) (by rfl)) (by rfl) (by rfl) (by rfl) (by rfl)) (fun _ _ _ _ => (@k_pgtup _ K _ _ _ _ 2 rfl (@pgs_cons _ _ _ _ _ (@pg_name _ _ 0 _ (show List.Nodup (["_law_mask", "_law_by"] : List Str) by decide +kernel) rfl (Or.inl rfl) (by walk_at "vis")) (@pgs_cons _ _ _ _ _ (@pg_name _ _ 1 _ (show List.Nodup (["_law_mask", "_law_by"] : List Str) by decide +kernel) rfl (Or.inl rfl) (by walk_at "vis")) (@pgs_nil _) (by rfl)) (by rfl)) (by rfl) (by rfl) (by rfl))) (fun _ _ _ _ => (@pts_nil _)) (fun _ _ _ _ => (@pe_tup _ _ _ _ _ (@pa_str _ _ _ _ _ _ (@pa_cons _ _ _ _ _ (@pv1 _ 0 _ _ (by walk_at "pv")) (@pa_cons _ _ _ _ _ (@pv1 _ 1 _ _ (by walk_at "pv")) (@pa_nil _) (by rfl)) (by rfl))))) (by decide +kernel) (by rfl) (by rfl) (by intro _; rfl) (by rfl) (by walk_at "vis")) (@pss_cons _ _ _ _ _ (@ps_if _ _ _ _ _ _ _ _ (@pt_cmpR _ _ _ _ _ _ _ _ (@k_ne _ K hu (by rfl)) (@pe_own _ _ _ _ _ _ _ _ _ _ g__law_walked (hr.mono (by decide)) (@pa_cons _ _ _ _ _ (@pv1 _ 3 _ _ (by walk_at "pv")) (@pa_cons _ _ _ _ _ (@pv1 _ 6 _ _ (by walk_at "pv")) (@pa_nil _) (by rfl)) (by rfl)) (by rfl) (by decide) (by rfl) (by rfl)) (@pv1 _ 4 _ _ (by walk_at "pv")) (@nomark _ _ (by decide) (by decide))) (@pss_one _ _ _ (@ps_ret _ _ _ _ (@pe_bl _ _ _ _))) (@pss_nil _)) (@pss_cons _ _ _ _ _ (@ps_set _ _ 7 _ _ _ _ nd rfl (Or.inl rfl) (@pe_op _ _ _ _ _ _ _ _ (@op_sub _) (@pe_op _ _ _ _ _ _ _ _ (@op_shl _) (@pe_int _ _ _ _) (@pe_op _ _ _ _ _ _ _ _ (@op_fdivW _) (@pv1 _ 3 _ _ (by walk_at "pv")) (@pe_int _ _ _ _))) (@pe_int _ _ _ _)) (by rfl) (by walk_at "vis")) (@pss_one _ _ _ (@ps_if _ _ _ _ _ _ _ _ (@pt_cmpR _ _ _ _ _ _ _ _ (@opU_isnot _) (@pe_own _ _ _ _ _ _ _ _ _ _ g_shows_halves (hr.mono (by decide)) (@pa_cons _ _ _ _ _ (@pv1 _ 4 _ _ (by walk_at "pv")) (@pa_cons _ _ _ _ _ (@pe_op _ _ _ _ _ _ _ _ (@k_add2 _ K (by rfl)) (@pe_tup _ _ _ _ _ (@pa_cons _ _ _ _ _ (@pe_op _ _ _ _ _ _ _ _ (@op_xor _) (@pv1 _ 7 _ _ (by walk_at "pv")) (@pe_ix _ _ _ _ _ _ _ (@k_ix _ K (by rfl)) (@pv1 _ 5 _ _ (by walk_at "pv")) (@pe_int _ _ _ _) (fun _ _ => rfl))) (@pa_nil _) (by rfl))) (@pe_slice _ _ _ _ _ _ _ _ _ _ (@k_sl _ K (by rfl)) (@pv1 _ 5 _ _ (by walk_at "pv")) (@po_some _ _ _ (@pe_int _ _ _ _)) (@po_none _))) (@pa_nil _) (by rfl)) (by rfl)) (by rfl) (by decide) (by rfl) (by rfl)) (@pe_bl _ _ _ _) (@nomark _ _ (by decide) (by decide))) (@pss_one _ _ _ (@ps_ret _ _ _ _ (@pe_bl _ _ _ _))) (@pss_nil _)))))))))) (by intro _; rfl)) (@pss_one _ _ _ (@ps_ret _ _ _ _ (@pe_bl _ _ _ _))))), ?_⟩
    walk_at "go"
    refine ⟨b, ns, rfl, hS, fun p H1 fp s1 h1 => ?_⟩
    have hS1 := s1.seq hS
    walk_at "go"
    obtain ⟨m, hm, em⟩ : ∃ m : Nat, m ≤ 9 ∧ (1 : Int) + (if ((ns.map V.int).length : Int) < 4 then ((ns.map V.int).length : Int) else 4) = (m : Int) := by
      split
      · exact ⟨1 + (ns.map V.int).length, by omega, by omega⟩
      · exact ⟨5, by omega, by omega⟩
    rw [em]
    refine s_rngF (n := m) rfl (by omega) ?_
    refine for_range0 (fun i σ H' => Hand H' p ∧ ∃ v2 v3 v4 v5 v6 v7, σ = [some (.ref b), some (.ref p), v2, v3, v4, v5, v6, v7]) ⟨h1, none, none, none, none, none, none, rfl⟩ ?_ ?_
    · rintro i σ H' hi ⟨h2, v2, v3, v4, v5, v6, v7, rfl⟩
      walk_at "go"
      refine ⟨p, rfl, h2, fun k0 H3 hk0 b3 h3 => ?_⟩
      walk_at "go"
      obtain ⟨kk, hk1, hk6, ek⟩ : ∃ kk : Nat, 1 ≤ kk ∧ kk ≤ 6 ∧ (if ((2 ^ k0 : Nat) : Int) > 2 then ((2 ^ k0 : Nat) : Int) else 2) = ((2 ^ kk : Nat) : Int) := by
        split
        · rename_i hgt
          refine ⟨k0, ?_, hk0, rfl⟩
          cases k0 with
          | zero => exact absurd hgt (by decide)
          | succ z => omega
        · exact ⟨1, by omega, by omega, rfl⟩
      rw [ek]
      obtain ⟨q, rfl⟩ : ∃ q, kk = q + 1 := ⟨kk - 1, by omega⟩
      have ep : 2 ^ (q + 1) = 2 * 2 ^ q := by rw [Nat.pow_succ]; omega
      have hw2 := pow_le64 hk6
      have hp1 := Nat.two_pow_pos q
      refine ⟨p, 2 ^ (q + 1), rfl, h3, by omega, hw2, fun t4 ls H4 hev hl b4 h4 n4 => ?_⟩
      walk_at "go"
      refine ⟨p, t4, ls, q + 1, rfl, h4, n4, hev, hl, by omega, by omega, fun t5 P5 H5 hg b5 h5 pp => ?_⟩
      have n5 := b5.keep _ _ (h4.neT n4) n4
      obtain ⟨gOk, gB, gS⟩ := hg
      walk_at "go"
      refine ⟨t4, t5, ls, P5, q + 1, rfl, n5, hl, pp, gOk, by omega, by omega, fun H6 s6 => ?_⟩
      rw [gB]
      walk_at "go"
      refine s_if_f rfl ?_
      have n6 := s6 _ _ n5
      have pp6 := pp.same s6
      have h6 := h5.same s6
      obtain ⟨mr, mz, mb⟩ := masks_ok (q + 1) P5 ls hl gS
      obtain ⟨hsw, hrow⟩ := row_paper (q + 1) P5 ls hl gS
      have hok : ∀ d ∈ rowP (2 ^ (q + 1)) P5, d.ok (2 ^ (q + 1)) := by
        obtain ⟨_, _, _, z⟩ := hsw
        exact z
      have zf := formK_len (q + 1)
      walk_at "go"
      refine ⟨t5, ls, P5, q + 1, rfl, pp6, gS, hl, by omega, by omega, fun lm H7 f7 s7 n7 => ?_⟩
      walk_at "go"
      refine ⟨q + 1, rfl, hk6, fun lf H8 s8 n8 => ?_⟩
      have n7 := s8 _ _ n7
      rw [mr] at hok hrow
      generalize masksP (2 ^ (q + 1)) P5 = A at n7 mz mb hok hrow
      generalize formK (q + 1) = F at n8 mz hok hrow zf
      walk_at "go"
      refine ⟨lm, lf, _, _, rfl, SqL.of n7, SqL.of n8, ?_⟩
      refine comp_zip (fun i acc H' => Same H8 H' ∧ i ≤ 20 ∧ ∃ L : List (Addr × Dd), L.length = i ∧ acc = rowV L ∧ Rw H' (2 ^ (q + 1)) L ∧ dds L = (List.zipWith Dd.swap A F).take i) ⟨Same.refl _, by omega, [], rfl, rfl, Rw.nil _ _, rfl⟩ (fun i acc H' z => ?_) (fun i acc H' z => ⟨SqL.of (z.1 _ _ n7), SqL.of (z.1 _ _ n8)⟩) ?_ ?_
      · obtain ⟨_, hi, L, zL, rfl, _⟩ := z
        rw [rowV_len]
        exact Nat.le_of_lt (small5 (by omega))
      · rintro i u v T acc H9 hu hv hT ⟨s9, hi, L, zL, rfl, RL, eL⟩
        obtain ⟨a, ha, rfl⟩ := nth_map hu
        obtain ⟨f, hf, rfl⟩ := nth_map hv
        have hil : i < F.length := (List.getElem?_eq_some_iff.mp hf).1
        have hz : (List.zipWith Dd.swap A F)[i]? = some (.swap a f) := by rw [List.getElem?_zipWith, ha, hf]
        have sT := same_upd (o := .tup [nV a, nV f]) hT
        have nT : upd H9 T (.tup [nV a, nV f]) T = some (.tup [nV a, nV f]) := upd_same
        generalize upd H9 T (.tup [nV a, nV f]) = H10 at sT nT ⊢
        walk_at "go"
        refine s_newT (by simp) fun t11 H11 f11 s11 n11 => ?_
        refine ⟨s9.trans (sT.trans s11), by omega, L ++ [(t11, .swap a f)], by rw [List.length_append, zL]; rfl, by rw [rowV, rowV, List.map_append]; rfl, RL.snoc (d := .swap a f) (sT.trans s11) n11 (hok _ (List.mem_of_getElem? hz)), ?_⟩
        rw [dds_app, eL, List.take_add_one, hz]
        rfl
      rintro acc H9 ⟨s9, _, L, zL, rfl, RL, eL⟩ l10 f10
      rw [List.take_of_length_le (by rw [List.length_zipWith, List.length_map, List.length_map]; exact Nat.le_refl _)] at eL
      have s10 := same_upd (o := .lst (rowV L)) f10
      have n10 : upd H9 l10 (.lst (rowV L)) l10 = some (.lst (rowV L)) := upd_same
      generalize upd H9 l10 (.lst (rowV L)) = H10 at s10 n10 ⊢
      have R10 := RL.same s10
      have s610 := s7.trans (s8.trans (s9.trans s10))
      have hsL : AllSw L := fun x hx => by
        have : x.2 ∈ List.zipWith Dd.swap A F := by rw [← eL]; exact List.mem_map.mpr ⟨x, hx, rfl⟩
        exact zip_swap this
      walk_at "go"
      refine ⟨2 ^ (q + 1), l10, L, rfl, n10, R10, hsL, hw2, fun t11 H11 s11 n11 => ?_⟩
      rw [eL, hrow] at n11
      have s611 := s610.trans s11
      walk_at "go"
      refine s_ne_t (SqT.of n11) (SqT.of (s611 _ _ n6)) ?_
      rw [decide_eq_true rfl]
      have pp11 := pp6.same s611
      have n11' := s611 _ _ n6
      have h11 := h6.same s611
      cases P5 with
      | nil =>
        have e := gS.1
        rw [hl] at e
        omega
      | node m1 m2 lo pl up pu =>
        obtain ⟨x, y, lx, px, ly, py, q1, q2, q3, q4, q5, q6, q7⟩ := pp11
        obtain ⟨h, hh1, e, b1, b2, ll, lu, el, eu, ej, sl, su⟩ := gS
        obtain rfl : h = 2 ^ q := by omega
        walk_at "go"
        rw [show ((2 ^ (q + 1) : Nat) : Int) / 2 = ((2 ^ q : Nat) : Int) by omega, low_val, bitXor_nat]
        refine s_newT (by simp) fun t12 H12 f12 s12 n12 => ?_
        have q1 := s12 _ _ q1
        walk_at "go"
        refine s_slDropT (k := 1) q1 (by omega) (by simp) fun t13 H13 f13 s13 n13 => ?_
        walk_at "go"
        refine s_catT (s13 _ _ n12) n13 (by simp) fun t14 H14 s14 n14 => ?_
        have sF := s12.trans (s13.trans s14)
        have hm' : (2 ^ 2 ^ q - 1) ^^^ m1 < 2 ^ 2 ^ q := Nat.xor_lt_two_pow (Nat.sub_lt (Nat.two_pow_pos _) (by decide)) b1
        have ok' : PapOk (q + 1) (.node ((2 ^ 2 ^ q - 1) ^^^ m1) m2 lo pl up pu) := by
          obtain ⟨_, z⟩ := gOk
          exact ⟨hm', z⟩
        walk_at "go"
        refine ⟨t4, t14, ls, .node ((2 ^ 2 ^ q - 1) ^^^ m1) m2 lo pl up pu, q + 1, rfl, sF _ _ n11', hl, ⟨x, y, lx, px, ly, py, n14, sF _ _ q2, sF _ _ q3, q4.same sF, sF _ _ q5, sF _ _ q6, q7.same sF⟩, ok', by omega, by omega, fun H15 s15 => ?_⟩
        rw [show showsB ls (.node ((2 ^ 2 ^ q - 1) ^^^ m1) m2 lo pl up pu) = false by
          show (decide (joinL lo.length _ _ _ _ = ls) && _) = false
          rw [ll, decide_eq_false (join_other hp1 b1 b2 el ll eu lu ej)]
          rfl]
        walk_at "go"
        refine s_if_f rfl ?_
        walk_at "go"
        exact ⟨h11.same (sF.trans s15), _, _, _, _, _, _, rfl⟩
    · rintro σ H2 ⟨h2, v2, v3, v4, v5, v6, v7, rfl⟩
      walk_at "go"
      exact k _
end
theorem all_mk {l : PySem.W.OpenLaw} {w : World} {K : PySem.W.Frag} {h : Heap} {mg : Str → Option Value} {fa : Addr} (X : K.In h) (G : h.Ns mainGlobals mg) (hfa : mg "law" = some (.ref fa))
    {f0 f1 f2 f3 f4 f5 f6 f7 f8 f9 f10 f11 f12 f13 f14 f15 f16 f17 f18 f19 f20 f21 f22 f23 f24 f25 f26 f27 f28 f29 : Addr} {od0 an0 od1 an1 od2 an2 od3 an3 od4 an4 od5 an5 od6 an6 od7 an7 od8 an8 od9 an9 od10 an10 od11 an11 od12 an12 od13 an13 od14 an14 od15 an15 od16 an16 od17 an17 od18 an18 od19 an19 od20 an20 od21 an21 od22 an22 od23 an23 od24 an24 od25 an25 od26 an26 od27 an27 od28 an28 od29 an29 : Option Addr} {sl0 sl1 sl2 sl3 sl4 sl5 sl6 sl7 sl8 sl9 sl10 sl11 sl12 sl13 sl14 sl15 sl16 sl17 sl18 sl19 sl20 sl21 sl22 sl23 sl24 sl25 sl26 sl27 sl28 sl29 : Array (Option Value)} {oc0 kV0 dc0 pm0 cd0 ct0 oc1 kV1 dc1 pm1 cd1 ct1 oc2 kV2 dc2 pm2 cd2 ct2 oc3 kV3 dc3 pm3 cd3 ct3 oc4 kV4 dc4 pm4 cd4 ct4 oc5 kV5 dc5 pm5 cd5 ct5 oc6 kV6 dc6 pm6 cd6 ct6 oc7 kV7 dc7 pm7 cd7 ct7 oc8 kV8 dc8 pm8 cd8 ct8 oc9 kV9 dc9 pm9 cd9 ct9 oc10 kV10 dc10 pm10 cd10 ct10 oc11 kV11 dc11 pm11 cd11 ct11 oc12 kV12 dc12 pm12 cd12 ct12 oc13 kV13 dc13 pm13 cd13 ct13 oc14 kV14 dc14 pm14 cd14 ct14 oc15 kV15 dc15 pm15 cd15 ct15 oc16 kV16 dc16 pm16 cd16 ct16 oc17 kV17 dc17 pm17 cd17 ct17 oc18 kV18 dc18 pm18 cd18 ct18 oc19 kV19 dc19 pm19 cd19 ct19 oc20 kV20 dc20 pm20 cd20 ct20 oc21 kV21 dc21 pm21 cd21 ct21 oc22 kV22 dc22 pm22 cd22 ct22 oc23 kV23 dc23 pm23 cd23 ct23 oc24 kV24 dc24 pm24 cd24 ct24 oc25 kV25 dc25 pm25 cd25 ct25 oc26 kV26 dc26 pm26 cd26 ct26 oc27 kV27 dc27 pm27 cd27 ct27 oc28 kV28 dc28 pm28 cd28 ct28 oc29 kV29 dc29 pm29 cd29 ct29 : Value}
    {t_NOUGHT t_ONE t_WIDEST : Tok}
    (a0 : PySem.W.nsIn K mainGlobals "low" = some (some (.ref f0))) (l0 : K.lookup f0 = some ⟨oc0, od0, .func (PySem.W.fnOf "low" "low" (defArgs s_low) (defBody s_low) (defScope s_low) .none kV0 dc0 pm0 an0 cd0 ct0), sl0⟩) (c0 : PySem.W.codeIn K cd0 "low" = true) (k0 : PySem.W.keepIn K (.ref f0) = true)
    (a1 : PySem.W.nsIn K mainGlobals "is_within" = some (some (.ref f1))) (l1 : K.lookup f1 = some ⟨oc1, od1, .func (PySem.W.fnOf "is_within" "is_within" (defArgs s_is_within) (defBody s_is_within) (defScope s_is_within) .none kV1 dc1 pm1 an1 cd1 ct1), sl1⟩) (c1 : PySem.W.codeIn K cd1 "is_within" = true) (k1 : PySem.W.keepIn K (.ref f1) = true)
    (a2 : PySem.W.nsIn K mainGlobals "is_leading" = some (some (.ref f2))) (l2 : K.lookup f2 = some ⟨oc2, od2, .func (PySem.W.fnOf "is_leading" "is_leading" (defArgs s_is_leading) (defBody s_is_leading) (defScope s_is_leading) .none kV2 dc2 pm2 an2 cd2 ct2), sl2⟩) (c2 : PySem.W.codeIn K cd2 "is_leading" = true) (k2 : PySem.W.keepIn K (.ref f2) = true)
    (a3 : PySem.W.nsIn K mainGlobals "is_even" = some (some (.ref f3))) (l3 : K.lookup f3 = some ⟨oc3, od3, .func (PySem.W.fnOf "is_even" "is_even" (defArgs s_is_even) (defBody s_is_even) (defScope s_is_even) .none kV3 dc3 pm3 an3 cd3 ct3), sl3⟩) (c3 : PySem.W.codeIn K cd3 "is_even" = true) (k3 : PySem.W.keepIn K (.ref f3) = true)
    (a4 : PySem.W.nsIn K mainGlobals "is_part" = some (some (.ref f4))) (l4 : K.lookup f4 = some ⟨oc4, od4, .func (PySem.W.fnOf "is_part" "is_part" (defArgs s_is_part) (defBody s_is_part) (defScope s_is_part) .none kV4 dc4 pm4 an4 cd4 ct4), sl4⟩) (c4 : PySem.W.codeIn K cd4 "is_part" = true) (k4 : PySem.W.keepIn K (.ref f4) = true)
    (a5 : PySem.W.nsIn K mainGlobals "has_form" = some (some (.ref f5))) (l5 : K.lookup f5 = some ⟨oc5, od5, .func (PySem.W.fnOf "has_form" "has_form" (defArgs s_has_form) (defBody s_has_form) (defScope s_has_form) .none kV5 dc5 pm5 an5 cd5 ct5), sl5⟩) (c5 : PySem.W.codeIn K cd5 "has_form" = true) (k5 : PySem.W.keepIn K (.ref f5) = true)
    (a6 : PySem.W.nsIn K mainGlobals "then" = some (some (.ref f6))) (l6 : K.lookup f6 = some ⟨oc6, od6, .func (PySem.W.fnOf "then" "then" (defArgs s_then) (defBody s_then) (defScope s_then) .none kV6 dc6 pm6 an6 cd6 ct6), sl6⟩) (c6 : PySem.W.codeIn K cd6 "then" = true) (k6 : PySem.W.keepIn K (.ref f6) = true)
    (a7 : PySem.W.nsIn K mainGlobals "bit_at" = some (some (.ref f7))) (l7 : K.lookup f7 = some ⟨oc7, od7, .func (PySem.W.fnOf "bit_at" "bit_at" (defArgs s_bit_at) (defBody s_bit_at) (defScope s_bit_at) .none kV7 dc7 pm7 an7 cd7 ct7), sl7⟩) (c7 : PySem.W.codeIn K cd7 "bit_at" = true) (k7 : PySem.W.keepIn K (.ref f7) = true)
    (a8 : PySem.W.nsIn K mainGlobals "places_in" = some (some (.ref f8))) (l8 : K.lookup f8 = some ⟨oc8, od8, .func (PySem.W.fnOf "places_in" "places_in" (defArgs s_places_in) (defBody s_places_in) (defScope s_places_in) .none kV8 dc8 pm8 an8 cd8 ct8), sl8⟩) (c8 : PySem.W.codeIn K cd8 "places_in" = true) (k8 : PySem.W.keepIn K (.ref f8) = true)
    (a9 : PySem.W.nsIn K mainGlobals "gather_leading" = some (some (.ref f9))) (l9 : K.lookup f9 = some ⟨oc9, od9, .func (PySem.W.fnOf "gather_leading" "gather_leading" (defArgs s_gather_leading) (defBody s_gather_leading) (defScope s_gather_leading) .none kV9 dc9 pm9 an9 cd9 ct9), sl9⟩) (c9 : PySem.W.codeIn K cd9 "gather_leading" = true) (k9 : PySem.W.keepIn K (.ref f9) = true)
    (a10 : PySem.W.nsIn K mainGlobals "strew_leading" = some (some (.ref f10))) (l10 : K.lookup f10 = some ⟨oc10, od10, .func (PySem.W.fnOf "strew_leading" "strew_leading" (defArgs s_strew_leading) (defBody s_strew_leading) (defScope s_strew_leading) .none kV10 dc10 pm10 an10 cd10 ct10), sl10⟩) (c10 : PySem.W.codeIn K cd10 "strew_leading" = true) (k10 : PySem.W.keepIn K (.ref f10) = true)
    (a11 : PySem.W.nsIn K mainGlobals "place_or_nought" = some (some (.ref f11))) (l11 : K.lookup f11 = some ⟨oc11, od11, .func (PySem.W.fnOf "place_or_nought" "place_or_nought" (defArgs s_place_or_nought) (defBody s_place_or_nought) (defScope s_place_or_nought) .none kV11 dc11 pm11 an11 cd11 ct11), sl11⟩) (c11 : PySem.W.codeIn K cd11 "place_or_nought" = true) (k11 : PySem.W.keepIn K (.ref f11) = true)
    (a12 : PySem.W.nsIn K mainGlobals "copy_source" = some (some (.ref f12))) (l12 : K.lookup f12 = some ⟨oc12, od12, .func (PySem.W.fnOf "copy_source" "copy_source" (defArgs s_copy_source) (defBody s_copy_source) (defScope s_copy_source) .none kV12 dc12 pm12 an12 cd12 ct12), sl12⟩) (c12 : PySem.W.codeIn K cd12 "copy_source" = true) (k12 : PySem.W.keepIn K (.ref f12) = true)
    (a13 : PySem.W.nsIn K mainGlobals "source_of" = some (some (.ref f13))) (l13 : K.lookup f13 = some ⟨oc13, od13, .func (PySem.W.fnOf "source_of" "source_of" (defArgs s_source_of) (defBody s_source_of) (defScope s_source_of) .none kV13 dc13 pm13 an13 cd13 ct13), sl13⟩) (c13 : PySem.W.codeIn K cd13 "source_of" = true) (k13 : PySem.W.keepIn K (.ref f13) = true)
    (a14 : PySem.W.nsIn K mainGlobals "deed_leading" = some (some (.ref f14))) (l14 : K.lookup f14 = some ⟨oc14, od14, .func (PySem.W.fnOf "deed_leading" "deed_leading" (defArgs s_deed_leading) (defBody s_deed_leading) (defScope s_deed_leading) .none kV14 dc14 pm14 an14 cd14 ct14), sl14⟩) (c14 : PySem.W.codeIn K cd14 "deed_leading" = true) (k14 : PySem.W.keepIn K (.ref f14) = true)
    (a15 : PySem.W.nsIn K mainGlobals "exchange" = some (some (.ref f15))) (l15 : K.lookup f15 = some ⟨oc15, od15, .func (PySem.W.fnOf "exchange" "exchange" (defArgs s_exchange) (defBody s_exchange) (defScope s_exchange) .none kV15 dc15 pm15 an15 cd15 ct15), sl15⟩) (c15 : PySem.W.codeIn K cd15 "exchange" = true) (k15 : PySem.W.keepIn K (.ref f15) = true)
    (a16 : PySem.W.nsIn K mainGlobals "joined" = some (some (.ref f16))) (l16 : K.lookup f16 = some ⟨oc16, od16, .func (PySem.W.fnOf "joined" "joined" (defArgs s_joined) (defBody s_joined) (defScope s_joined) .none kV16 dc16 pm16 an16 cd16 ct16), sl16⟩) (c16 : PySem.W.codeIn K cd16 "joined" = true) (k16 : PySem.W.keepIn K (.ref f16) = true)
    (a17 : PySem.W.nsIn K mainGlobals "shows_part" = some (some (.ref f17))) (l17 : K.lookup f17 = some ⟨oc17, od17, .func (PySem.W.fnOf "shows_part" "shows_part" (defArgs s_shows_part) (defBody s_shows_part) (defScope s_shows_part) .none kV17 dc17 pm17 an17 cd17 ct17), sl17⟩) (c17 : PySem.W.codeIn K cd17 "shows_part" = true) (k17 : PySem.W.keepIn K (.ref f17) = true)
    (a18 : PySem.W.nsIn K mainGlobals "shows_halves" = some (some (.ref f18))) (l18 : K.lookup f18 = some ⟨oc18, od18, .func (PySem.W.fnOf "shows_halves" "shows_halves" (defArgs s_shows_halves) (defBody s_shows_halves) (defScope s_shows_halves) .none kV18 dc18 pm18 an18 cd18 ct18), sl18⟩) (c18 : PySem.W.codeIn K cd18 "shows_halves" = true) (k18 : PySem.W.keepIn K (.ref f18) = true)
    (a19 : PySem.W.nsIn K mainGlobals "_law_hand" = some (some (.ref f19))) (l19 : K.lookup f19 = some ⟨oc19, od19, .func (PySem.W.fnOf "_law_hand" "_law_hand" (defArgs s__law_hand) (defBody s__law_hand) (defScope s__law_hand) .none kV19 dc19 pm19 an19 cd19 ct19), sl19⟩) (c19 : PySem.W.codeIn K cd19 "_law_hand" = true) (k19 : PySem.W.keepIn K (.ref f19) = true)
    (a20 : PySem.W.nsIn K mainGlobals "_law_draw" = some (some (.ref f20))) (l20 : K.lookup f20 = some ⟨oc20, od20, .func (PySem.W.fnOf "_law_draw" "_law_draw" (defArgs s__law_draw) (defBody s__law_draw) (defScope s__law_draw) .none kV20 dc20 pm20 an20 cd20 ct20), sl20⟩) (c20 : PySem.W.codeIn K cd20 "_law_draw" = true) (k20 : PySem.W.keepIn K (.ref f20) = true)
    (a21 : PySem.W.nsIn K mainGlobals "_law_halved" = some (some (.ref f21))) (l21 : K.lookup f21 = some ⟨oc21, od21, .func (PySem.W.fnOf "_law_halved" "_law_halved" (defArgs s__law_halved) (defBody s__law_halved) (defScope s__law_halved) .none kV21 dc21 pm21 an21 cd21 ct21), sl21⟩) (c21 : PySem.W.codeIn K cd21 "_law_halved" = true) (k21 : PySem.W.keepIn K (.ref f21) = true)
    (a22 : PySem.W.nsIn K mainGlobals "_law_even" = some (some (.ref f22))) (l22 : K.lookup f22 = some ⟨oc22, od22, .func (PySem.W.fnOf "_law_even" "_law_even" (defArgs s__law_even) (defBody s__law_even) (defScope s__law_even) .none kV22 dc22 pm22 an22 cd22 ct22), sl22⟩) (c22 : PySem.W.codeIn K cd22 "_law_even" = true) (k22 : PySem.W.keepIn K (.ref f22) = true)
    (a23 : PySem.W.nsIn K mainGlobals "_law_ordered" = some (some (.ref f23))) (l23 : K.lookup f23 = some ⟨oc23, od23, .func (PySem.W.fnOf "_law_ordered" "_law_ordered" (defArgs s__law_ordered) (defBody s__law_ordered) (defScope s__law_ordered) .none kV23 dc23 pm23 an23 cd23 ct23), sl23⟩) (c23 : PySem.W.codeIn K cd23 "_law_ordered" = true) (k23 : PySem.W.keepIn K (.ref f23) = true)
    (a24 : PySem.W.nsIn K mainGlobals "_law_walked" = some (some (.ref f24))) (l24 : K.lookup f24 = some ⟨oc24, od24, .func (PySem.W.fnOf "_law_walked" "_law_walked" (defArgs s__law_walked) (defBody s__law_walked) (defScope s__law_walked) .none kV24 dc24 pm24 an24 cd24 ct24), sl24⟩) (c24 : PySem.W.codeIn K cd24 "_law_walked" = true) (k24 : PySem.W.keepIn K (.ref f24) = true)
    (a25 : PySem.W.nsIn K mainGlobals "_law_ways" = some (some (.ref f25))) (l25 : K.lookup f25 = some ⟨oc25, od25, .func (PySem.W.fnOf "_law_ways" "_law_ways" (defArgs s__law_ways) (defBody s__law_ways) (defScope s__law_ways) .none kV25 dc25 pm25 an25 cd25 ct25), sl25⟩) (c25 : PySem.W.codeIn K cd25 "_law_ways" = true) (k25 : PySem.W.keepIn K (.ref f25) = true)
    (a26 : PySem.W.nsIn K mainGlobals "_law_sides" = some (some (.ref f26))) (l26 : K.lookup f26 = some ⟨oc26, od26, .func (PySem.W.fnOf "_law_sides" "_law_sides" (defArgs s__law_sides) (defBody s__law_sides) (defScope s__law_sides) .none kV26 dc26 pm26 an26 cd26 ct26), sl26⟩) (c26 : PySem.W.codeIn K cd26 "_law_sides" = true) (k26 : PySem.W.keepIn K (.ref f26) = true)
    (a27 : PySem.W.nsIn K mainGlobals "_law_made" = some (some (.ref f27))) (l27 : K.lookup f27 = some ⟨oc27, od27, .func (PySem.W.fnOf "_law_made" "_law_made" (defArgs s__law_made) (defBody s__law_made) (defScope s__law_made) .none kV27 dc27 pm27 an27 cd27 ct27), sl27⟩) (c27 : PySem.W.codeIn K cd27 "_law_made" = true) (k27 : PySem.W.keepIn K (.ref f27) = true)
    (a28 : PySem.W.nsIn K mainGlobals "_law_masks" = some (some (.ref f28))) (l28 : K.lookup f28 = some ⟨oc28, od28, .func (PySem.W.fnOf "_law_masks" "_law_masks" (defArgs s__law_masks) (defBody s__law_masks) (defScope s__law_masks) .none kV28 dc28 pm28 an28 cd28 ct28), sl28⟩) (c28 : PySem.W.codeIn K cd28 "_law_masks" = true) (k28 : PySem.W.keepIn K (.ref f28) = true)
    (a29 : PySem.W.nsIn K mainGlobals "law" = some (some (.ref f29))) (l29 : K.lookup f29 = some ⟨oc29, od29, .func (PySem.W.fnOf "law" "law" (defArgs s_law) (defBody s_law) (defScope s_law) .none kV29 dc29 pm29 an29 cd29 ct29), sl29⟩) (c29 : PySem.W.codeIn K cd29 "law" = true) (k29 : PySem.W.keepIn K (.ref f29) = true)
    (z_abs : PySem.W.nsIn K mainGlobals "abs" = some none)
    (z_all : PySem.W.nsIn K mainGlobals "all" = some none)
    (z_bool : PySem.W.nsIn K mainGlobals "bool" = some none)
    (z_enumerate : PySem.W.nsIn K mainGlobals "enumerate" = some none)
    (z_int : PySem.W.nsIn K mainGlobals "int" = some none)
    (z_isinstance : PySem.W.nsIn K mainGlobals "isinstance" = some none)
    (z_len : PySem.W.nsIn K mainGlobals "len" = some none)
    (z_list : PySem.W.nsIn K mainGlobals "list" = some none)
    (z_max : PySem.W.nsIn K mainGlobals "max" = some none)
    (z_min : PySem.W.nsIn K mainGlobals "min" = some none)
    (z_range : PySem.W.nsIn K mainGlobals "range" = some none)
    (z_sorted : PySem.W.nsIn K mainGlobals "sorted" = some none)
    (z_sum : PySem.W.nsIn K mainGlobals "sum" = some none)
    (z_tuple : PySem.W.nsIn K mainGlobals "tuple" = some none)
    (z_zip : PySem.W.nsIn K mainGlobals "zip" = some none)
    (y_NOUGHT : PySem.W.nsIn K mainGlobals "NOUGHT" = some (some (.int (-1) t_NOUGHT)))
    (y_ONE : PySem.W.nsIn K mainGlobals "ONE" = some (some (.int (-2) t_ONE)))
    (y_WIDEST : PySem.W.nsIn K mainGlobals "WIDEST" = some (some (.int (64) t_WIDEST)))
    : ∃ fd : FuncData, (∀ (s : Shared) (v : Value), BindsTo s fd ⟨[v], []⟩ [("_law_script", v)]) ∧ ∀ base : Heap, K.In base → base.Ns mainGlobals mg → FnOk l.prog w K mg base CX0 21 fa fd ["_law_script"] (spLaw K) := by
  have e := hfa.symm.trans (PySem.W.mg_of X G a29)
  cases e
  have B : Blt K mg := ⟨PySem.W.mg_none_of X G z_abs, PySem.W.mg_none_of X G z_all, PySem.W.mg_none_of X G z_bool, PySem.W.mg_none_of X G z_enumerate, PySem.W.mg_none_of X G z_int, PySem.W.mg_none_of X G z_isinstance, PySem.W.mg_none_of X G z_len, PySem.W.mg_none_of X G z_list, PySem.W.mg_none_of X G z_max, PySem.W.mg_none_of X G z_min, PySem.W.mg_none_of X G z_range, PySem.W.mg_none_of X G z_sorted, PySem.W.mg_none_of X G z_sum, PySem.W.mg_none_of X G z_tuple, PySem.W.mg_none_of X G z_zip, ⟨_, PySem.W.mg_of X G y_NOUGHT⟩, ⟨_, PySem.W.mg_of X G y_ONE⟩, ⟨_, PySem.W.mg_of X G y_WIDEST⟩⟩
  have F0 := fun_mk (st := s_low) l0 c0 k0
  have b0 := F0.binds (ps := ["many"]) fun _ _ _ _ _ _ us hl => match us, hl with | [_], _ => rfl
  have F1 := fun_mk (st := s_is_within) l1 c1 k1
  have b1 := F1.binds (ps := ["thing", "least", "most"]) fun _ _ _ _ _ _ us hl => match us, hl with | [_, _, _], _ => rfl
  have F2 := fun_mk (st := s_is_leading) l2 c2 k2
  have b2 := F2.binds (ps := ["thing"]) fun _ _ _ _ _ _ us hl => match us, hl with | [_], _ => rfl
  have F3 := fun_mk (st := s_is_even) l3 c3 k3
  have b3 := F3.binds (ps := ["leading"]) fun _ _ _ _ _ _ us hl => match us, hl with | [_], _ => rfl
  have F4 := fun_mk (st := s_is_part) l4 c4 k4
  have b4 := F4.binds (ps := ["half", "thing"]) fun _ _ _ _ _ _ us hl => match us, hl with | [_, _], _ => rfl
  have F5 := fun_mk (st := s_has_form) l5 c5 k5
  have b5 := F5.binds (ps := ["half", "paper"]) fun _ _ _ _ _ _ us hl => match us, hl with | [_, _], _ => rfl
  have F6 := fun_mk (st := s_then) l6 c6 k6
  have b6 := F6.binds (ps := ["one", "other"]) fun _ _ _ _ _ _ us hl => match us, hl with | [_, _], _ => rfl
  have F7 := fun_mk (st := s_bit_at) l7 c7 k7
  have b7 := F7.binds (ps := ["word", "place"]) fun _ _ _ _ _ _ us hl => match us, hl with | [_, _], _ => rfl
  have F8 := fun_mk (st := s_places_in) l8 c8 k8
  have b8 := F8.binds (ps := ["mask"]) fun _ _ _ _ _ _ us hl => match us, hl with | [_], _ => rfl
  have F9 := fun_mk (st := s_gather_leading) l9 c9 k9
  have b9 := F9.binds (ps := ["width", "mask"]) fun _ _ _ _ _ _ us hl => match us, hl with | [_, _], _ => rfl
  have F10 := fun_mk (st := s_strew_leading) l10 c10 k10
  have b10 := F10.binds (ps := ["width", "mask"]) fun _ _ _ _ _ _ us hl => match us, hl with | [_, _], _ => rfl
  have F11 := fun_mk (st := s_place_or_nought) l11 c11 k11
  have b11 := F11.binds (ps := ["width", "place"]) fun _ _ _ _ _ _ us hl => match us, hl with | [_, _], _ => rfl
  have F12 := fun_mk (st := s_copy_source) l12 c12 k12
  have b12 := F12.binds (ps := ["mask", "by", "place"]) fun _ _ _ _ _ _ us hl => match us, hl with | [_, _, _], _ => rfl
  have F13 := fun_mk (st := s_source_of) l13 c13 k13
  have b13 := F13.binds (ps := ["width", "deed", "place"]) fun _ _ _ _ _ _ us hl => match us, hl with | [_, _, _], _ => rfl
  have F14 := fun_mk (st := s_deed_leading) l14 c14 k14
  have b14 := F14.binds (ps := ["width", "deed"]) fun _ _ _ _ _ _ us hl => match us, hl with | [_, _], _ => rfl
  have F15 := fun_mk (st := s_exchange) l15 c15 k15
  have b15 := F15.binds (ps := ["half", "mask"]) fun _ _ _ _ _ _ us hl => match us, hl with | [_, _], _ => rfl
  have F16 := fun_mk (st := s_joined) l16 c16 k16
  have b16 := F16.binds (ps := ["half", "paper"]) fun _ _ _ _ _ _ us hl => match us, hl with | [_, _], _ => rfl
  have F17 := fun_mk (st := s_shows_part) l17 c17 k17
  have b17 := F17.binds (ps := ["part"]) fun _ _ _ _ _ _ us hl => match us, hl with | [_], _ => rfl
  have F18 := fun_mk (st := s_shows_halves) l18 c18 k18
  have b18 := F18.binds (ps := ["leading", "paper"]) fun _ _ _ _ _ _ us hl => match us, hl with | [_, _], _ => rfl
  have F19 := fun_mk (st := s__law_hand) l19 c19 k19
  have b19 := F19.binds (ps := ["_law_script"]) fun _ _ _ _ _ _ us hl => match us, hl with | [_], _ => rfl
  have F20 := fun_mk (st := s__law_draw) l20 c20 k20
  have b20 := F20.binds (ps := ["_law_hand_here", "_law_many"]) fun _ _ _ _ _ _ us hl => match us, hl with | [_, _], _ => rfl
  have F21 := fun_mk (st := s__law_halved) l21 c21 k21
  have b21 := F21.binds (ps := ["_law_hand_here"]) fun _ _ _ _ _ _ us hl => match us, hl with | [_], _ => rfl
  have F22 := fun_mk (st := s__law_even) l22 c22 k22
  have b22 := F22.binds (ps := ["_law_hand_here", "_law_width"]) fun _ _ _ _ _ _ us hl => match us, hl with | [_, _], _ => rfl
  have F23 := fun_mk (st := s__law_ordered) l23 c23 k23
  have b23 := F23.binds (ps := ["_law_hand_here", "_law_width"]) fun _ _ _ _ _ _ us hl => match us, hl with | [_, _], _ => rfl
  have F24 := fun_mk (st := s__law_walked) l24 c24 k24
  have b24 := F24.binds (ps := ["_law_width", "_law_row"]) fun _ _ _ _ _ _ us hl => match us, hl with | [_, _], _ => rfl
  have F25 := fun_mk (st := s__law_ways) l25 c25 k25
  have b25 := F25.binds (ps := ["_law_width"]) fun _ _ _ _ _ _ us hl => match us, hl with | [_], _ => rfl
  have F26 := fun_mk (st := s__law_sides) l26 c26 k26
  have b26 := F26.binds (ps := ["_law_hand_here", "_law_leading"]) fun _ _ _ _ _ _ us hl => match us, hl with | [_, _], _ => rfl
  have F27 := fun_mk (st := s__law_made) l27 c27 k27
  have b27 := F27.binds (ps := ["_law_hand_here", "_law_leading"]) fun _ _ _ _ _ _ us hl => match us, hl with | [_, _], _ => rfl
  have F28 := fun_mk (st := s__law_masks) l28 c28 k28
  have b28 := F28.binds (ps := ["_law_paper", "_law_width"]) fun _ _ _ _ _ _ us hl => match us, hl with | [_, _], _ => rfl
  have F29 := fun_mk (st := s_law) l29 c29 k29
  have b29 := F29.binds (ps := ["_law_script"]) fun _ _ _ _ _ _ us hl => match us, hl with | [_], _ => rfl
  refine ⟨PySem.W.fnOf "law" "law" (defArgs s_law) (defBody s_law) (defScope s_law) .none kV29 dc29 pm29 an29 cd29 ct29, fun s v => .of_eq rfl, fun base _ _ => ?_⟩
  have g_low : FnAt l.prog w K mg base "low" ["many"] 1 spLow := ⟨f0, _, PySem.W.mg_of X G a0, k0, b0, ok_low B  F0⟩
  have g_is_within : FnAt l.prog w K mg base "is_within" ["thing", "least", "most"] 1 spWithin := ⟨f1, _, PySem.W.mg_of X G a1, k1, b1, ok_is_within B  F1⟩
  have g_is_leading : FnAt l.prog w K mg base "is_leading" ["thing"] 2 spIsLd := ⟨f2, _, PySem.W.mg_of X G a2, k2, b2, ok_is_leading B g_is_within F2⟩
  have g_is_even : FnAt l.prog w K mg base "is_even" ["leading"] 1 spIsEven := ⟨f3, _, PySem.W.mg_of X G a3, k3, b3, ok_is_even B  F3⟩
  have g_is_part : FnAt l.prog w K mg base "is_part" ["half", "thing"] 3 spIsPart := ⟨f4, _, PySem.W.mg_of X G a4, k4, b4, ok_is_part B g_is_leading g_is_even F4⟩
  have g_has_form : FnAt l.prog w K mg base "has_form" ["half", "paper"] 4 spHasForm := ⟨f5, _, PySem.W.mg_of X G a5, k5, b5, ok_has_form B g_low g_is_within g_is_part F5⟩
  have g_then : FnAt l.prog w K mg base "then" ["one", "other"] 1 spThen := ⟨f6, _, PySem.W.mg_of X G a6, k6, b6, ok_then B  F6⟩
  have g_bit_at : FnAt l.prog w K mg base "bit_at" ["word", "place"] 1 spBitAt := ⟨f7, _, PySem.W.mg_of X G a7, k7, b7, ok_bit_at B  F7⟩
  have g_places_in : FnAt l.prog w K mg base "places_in" ["mask"] 2 spPlaces := ⟨f8, _, PySem.W.mg_of X G a8, k8, b8, ok_places_in B g_bit_at F8⟩
  have g_gather_leading : FnAt l.prog w K mg base "gather_leading" ["width", "mask"] 3 spGathLd := ⟨f9, _, PySem.W.mg_of X G a9, k9, b9, ok_gather_leading B g_places_in F9⟩
  have g_strew_leading : FnAt l.prog w K mg base "strew_leading" ["width", "mask"] 3 spStrewLd := ⟨f10, _, PySem.W.mg_of X G a10, k10, b10, ok_strew_leading B g_places_in F10⟩
  have g_place_or_nought : FnAt l.prog w K mg base "place_or_nought" ["width", "place"] 2 spPon := ⟨f11, _, PySem.W.mg_of X G a11, k11, b11, ok_place_or_nought B g_is_within F11⟩
  have g_copy_source : FnAt l.prog w K mg base "copy_source" ["mask", "by", "place"] 2 spCopySrc := ⟨f12, _, PySem.W.mg_of X G a12, k12, b12, ok_copy_source B g_bit_at F12⟩
  have g_source_of : FnAt l.prog w K mg base "source_of" ["width", "deed", "place"] 3 spSource := ⟨f13, _, PySem.W.mg_of X G a13, k13, b13, ok_source_of B g_bit_at g_place_or_nought g_copy_source F13⟩
  have g_deed_leading : FnAt l.prog w K mg base "deed_leading" ["width", "deed"] 4 spDeedLd := ⟨f14, _, PySem.W.mg_of X G a14, k14, b14, ok_deed_leading B g_gather_leading g_strew_leading g_source_of F14⟩
  have g_exchange : FnAt l.prog w K mg base "exchange" ["half", "mask"] 5 spExchH := ⟨f15, _, PySem.W.mg_of X G a15, k15, b15, ok_exchange B g_deed_leading F15⟩
  have g_joined : FnAt l.prog w K mg base "joined" ["half", "paper"] 6 spJoined := ⟨f16, _, PySem.W.mg_of X G a16, k16, b16, ok_joined B g_then g_exchange F16⟩
  have g0_shows_halves : FnAt l.prog w K mg base "shows_halves" ["leading", "paper"] (2 * 0 + 6) (spShowsH 0) := ⟨f18, _, PySem.W.mg_of X G a18, k18, b18, ⟨fun _ _ _ _ h => h.elim, fun _ _ _ _ _ _ _ _ _ _ _ _ _ h => h.elim⟩⟩
  have g1_shows_part : FnAt l.prog w K mg base "shows_part" ["part"] (2 * 0 + 7) (spShowsP (0 + 1)) := ⟨f17, _, PySem.W.mg_of X G a17, k17, b17, ok_shows_part (j := 0) B  g0_shows_halves F17⟩
  have g1_shows_halves : FnAt l.prog w K mg base "shows_halves" ["leading", "paper"] (2 * 1 + 6) (spShowsH 1) := ⟨f18, _, PySem.W.mg_of X G a18, k18, b18, ok_shows_halves (j := 0) B g_has_form g_joined g1_shows_part F18⟩
  have g2_shows_part : FnAt l.prog w K mg base "shows_part" ["part"] (2 * 1 + 7) (spShowsP (1 + 1)) := ⟨f17, _, PySem.W.mg_of X G a17, k17, b17, ok_shows_part (j := 1) B  g1_shows_halves F17⟩
  have g2_shows_halves : FnAt l.prog w K mg base "shows_halves" ["leading", "paper"] (2 * 2 + 6) (spShowsH 2) := ⟨f18, _, PySem.W.mg_of X G a18, k18, b18, ok_shows_halves (j := 1) B g_has_form g_joined g2_shows_part F18⟩
  have g3_shows_part : FnAt l.prog w K mg base "shows_part" ["part"] (2 * 2 + 7) (spShowsP (2 + 1)) := ⟨f17, _, PySem.W.mg_of X G a17, k17, b17, ok_shows_part (j := 2) B  g2_shows_halves F17⟩
  have g3_shows_halves : FnAt l.prog w K mg base "shows_halves" ["leading", "paper"] (2 * 3 + 6) (spShowsH 3) := ⟨f18, _, PySem.W.mg_of X G a18, k18, b18, ok_shows_halves (j := 2) B g_has_form g_joined g3_shows_part F18⟩
  have g4_shows_part : FnAt l.prog w K mg base "shows_part" ["part"] (2 * 3 + 7) (spShowsP (3 + 1)) := ⟨f17, _, PySem.W.mg_of X G a17, k17, b17, ok_shows_part (j := 3) B  g3_shows_halves F17⟩
  have g4_shows_halves : FnAt l.prog w K mg base "shows_halves" ["leading", "paper"] (2 * 4 + 6) (spShowsH 4) := ⟨f18, _, PySem.W.mg_of X G a18, k18, b18, ok_shows_halves (j := 3) B g_has_form g_joined g4_shows_part F18⟩
  have g5_shows_part : FnAt l.prog w K mg base "shows_part" ["part"] (2 * 4 + 7) (spShowsP (4 + 1)) := ⟨f17, _, PySem.W.mg_of X G a17, k17, b17, ok_shows_part (j := 4) B  g4_shows_halves F17⟩
  have g5_shows_halves : FnAt l.prog w K mg base "shows_halves" ["leading", "paper"] (2 * 5 + 6) (spShowsH 5) := ⟨f18, _, PySem.W.mg_of X G a18, k18, b18, ok_shows_halves (j := 4) B g_has_form g_joined g5_shows_part F18⟩
  have g6_shows_part : FnAt l.prog w K mg base "shows_part" ["part"] (2 * 5 + 7) (spShowsP (5 + 1)) := ⟨f17, _, PySem.W.mg_of X G a17, k17, b17, ok_shows_part (j := 5) B  g5_shows_halves F17⟩
  have g6_shows_halves : FnAt l.prog w K mg base "shows_halves" ["leading", "paper"] (2 * 6 + 6) (spShowsH 6) := ⟨f18, _, PySem.W.mg_of X G a18, k18, b18, ok_shows_halves (j := 5) B g_has_form g_joined g6_shows_part F18⟩
  have g7_shows_part : FnAt l.prog w K mg base "shows_part" ["part"] (2 * 6 + 7) (spShowsP (6 + 1)) := ⟨f17, _, PySem.W.mg_of X G a17, k17, b17, ok_shows_part (j := 6) B  g6_shows_halves F17⟩
  have g_shows_halves : FnAt l.prog w K mg base "shows_halves" ["leading", "paper"] (2 * 7 + 6) (spShowsH 7) := ⟨f18, _, PySem.W.mg_of X G a18, k18, b18, ok_shows_halves (j := 6) B g_has_form g_joined g7_shows_part F18⟩
  have g__law_hand : FnAt l.prog w K mg base "_law_hand" ["_law_script"] 1 (spHand K) := ⟨f19, _, PySem.W.mg_of X G a19, k19, b19, ok__law_hand B  F19⟩
  have g__law_draw : FnAt l.prog w K mg base "_law_draw" ["_law_hand_here", "_law_many"] 1 spDraw := ⟨f20, _, PySem.W.mg_of X G a20, k20, b20, ok__law_draw B  F20⟩
  have g__law_halved : FnAt l.prog w K mg base "_law_halved" ["_law_hand_here"] 2 spHalvedD := ⟨f21, _, PySem.W.mg_of X G a21, k21, b21, ok__law_halved B g__law_draw F21⟩
  have g__law_even : FnAt l.prog w K mg base "_law_even" ["_law_hand_here", "_law_width"] 2 spEven := ⟨f22, _, PySem.W.mg_of X G a22, k22, b22, ok__law_even B g__law_draw F22⟩
  have g__law_ordered : FnAt l.prog w K mg base "_law_ordered" ["_law_hand_here", "_law_width"] 3 spOrdered := ⟨f23, _, PySem.W.mg_of X G a23, k23, b23, ok__law_ordered B g__law_draw g__law_even F23⟩
  have g__law_walked : FnAt l.prog w K mg base "_law_walked" ["_law_width", "_law_row"] 1 spWalkedS := ⟨f24, _, PySem.W.mg_of X G a24, k24, b24, ok__law_walked B  F24⟩
  have g__law_ways : FnAt l.prog w K mg base "_law_ways" ["_law_width"] 1 spWaysK := ⟨f25, _, PySem.W.mg_of X G a25, k25, b25, ok__law_ways B  F25⟩
  have g__law_sides : FnAt l.prog w K mg base "_law_sides" ["_law_hand_here", "_law_leading"] 2 spSides := ⟨f26, _, PySem.W.mg_of X G a26, k26, b26, ok__law_sides B g__law_draw F26⟩
  have g0__law_made : FnAt l.prog w K mg base "_law_made" ["_law_hand_here", "_law_leading"] (0 + 2) (spMade24 0) := ⟨f27, _, PySem.W.mg_of X G a27, k27, b27, ⟨fun _ _ _ _ h => h.elim, fun _ _ _ _ _ _ _ _ _ _ _ _ _ h => h.elim⟩⟩
  have g1__law_made : FnAt l.prog w K mg base "_law_made" ["_law_hand_here", "_law_leading"] (1 + 2) (spMade24 1) := ⟨f27, _, PySem.W.mg_of X G a27, k27, b27, ok__law_made (j := 0) B g__law_sides g0__law_made F27⟩
  have g2__law_made : FnAt l.prog w K mg base "_law_made" ["_law_hand_here", "_law_leading"] (2 + 2) (spMade24 2) := ⟨f27, _, PySem.W.mg_of X G a27, k27, b27, ok__law_made (j := 1) B g__law_sides g1__law_made F27⟩
  have g3__law_made : FnAt l.prog w K mg base "_law_made" ["_law_hand_here", "_law_leading"] (3 + 2) (spMade24 3) := ⟨f27, _, PySem.W.mg_of X G a27, k27, b27, ok__law_made (j := 2) B g__law_sides g2__law_made F27⟩
  have g4__law_made : FnAt l.prog w K mg base "_law_made" ["_law_hand_here", "_law_leading"] (4 + 2) (spMade24 4) := ⟨f27, _, PySem.W.mg_of X G a27, k27, b27, ok__law_made (j := 3) B g__law_sides g3__law_made F27⟩
  have g5__law_made : FnAt l.prog w K mg base "_law_made" ["_law_hand_here", "_law_leading"] (5 + 2) (spMade24 5) := ⟨f27, _, PySem.W.mg_of X G a27, k27, b27, ok__law_made (j := 4) B g__law_sides g4__law_made F27⟩
  have g6__law_made : FnAt l.prog w K mg base "_law_made" ["_law_hand_here", "_law_leading"] (6 + 2) (spMade24 6) := ⟨f27, _, PySem.W.mg_of X G a27, k27, b27, ok__law_made (j := 5) B g__law_sides g5__law_made F27⟩
  have g__law_made : FnAt l.prog w K mg base "_law_made" ["_law_hand_here", "_law_leading"] (7 + 2) (spMade24 7) := ⟨f27, _, PySem.W.mg_of X G a27, k27, b27, ok__law_made (j := 6) B g__law_sides g6__law_made F27⟩
  have g0__law_masks : FnAt l.prog w K mg base "_law_masks" ["_law_paper", "_law_width"] (0 + 0) (spMasks24 0) := ⟨f28, _, PySem.W.mg_of X G a28, k28, b28, ⟨fun _ _ _ _ h => h.elim, fun _ _ _ _ _ _ _ _ _ _ _ _ _ h => h.elim⟩⟩
  have g1__law_masks : FnAt l.prog w K mg base "_law_masks" ["_law_paper", "_law_width"] (1 + 0) (spMasks24 1) := ⟨f28, _, PySem.W.mg_of X G a28, k28, b28, ok__law_masks (j := 0) B  g0__law_masks F28⟩
  have g2__law_masks : FnAt l.prog w K mg base "_law_masks" ["_law_paper", "_law_width"] (2 + 0) (spMasks24 2) := ⟨f28, _, PySem.W.mg_of X G a28, k28, b28, ok__law_masks (j := 1) B  g1__law_masks F28⟩
  have g3__law_masks : FnAt l.prog w K mg base "_law_masks" ["_law_paper", "_law_width"] (3 + 0) (spMasks24 3) := ⟨f28, _, PySem.W.mg_of X G a28, k28, b28, ok__law_masks (j := 2) B  g2__law_masks F28⟩
  have g4__law_masks : FnAt l.prog w K mg base "_law_masks" ["_law_paper", "_law_width"] (4 + 0) (spMasks24 4) := ⟨f28, _, PySem.W.mg_of X G a28, k28, b28, ok__law_masks (j := 3) B  g3__law_masks F28⟩
  have g5__law_masks : FnAt l.prog w K mg base "_law_masks" ["_law_paper", "_law_width"] (5 + 0) (spMasks24 5) := ⟨f28, _, PySem.W.mg_of X G a28, k28, b28, ok__law_masks (j := 4) B  g4__law_masks F28⟩
  have g6__law_masks : FnAt l.prog w K mg base "_law_masks" ["_law_paper", "_law_width"] (6 + 0) (spMasks24 6) := ⟨f28, _, PySem.W.mg_of X G a28, k28, b28, ok__law_masks (j := 5) B  g5__law_masks F28⟩
  have g__law_masks : FnAt l.prog w K mg base "_law_masks" ["_law_paper", "_law_width"] (7 + 0) (spMasks24 7) := ⟨f28, _, PySem.W.mg_of X G a28, k28, b28, ok__law_masks (j := 6) B  g6__law_masks F28⟩
  exact ok_law B g_shows_halves g__law_hand g__law_halved g__law_ordered g__law_walked g__law_ways g__law_made g__law_masks F29
theorem walk {l : PySem.W.OpenLaw} {q : Program} {loose : List Str} {XP : (Str → Option Value) → Heap → Prop} {YP : World → Heap → Prop} {d : DefRec} {K : Params → PySem.W.Frag} (hn : l.most = some 63) (hdf : d.params.defaults = [])
    (hY : ∀ (w : World) (h : Heap), YP w h → (K w.params).In h)
    (F : ∀ (w : World) (mg : Str → Option Value) (fa : Addr) (h : Heap), (K w.params).In h → h.Ns mainGlobals mg → mg d.name = some (.ref fa) →
      ∃ fd : FuncData, (∀ (s : Shared) (u : Value), BindsTo s fd ⟨[u], []⟩ [("_law_script", u)]) ∧ ∀ base : Heap, (K w.params).In base → base.Ns mainGlobals mg → FnOk l.prog w (K w.params) mg base CX0 21 fa fd ["_law_script"] (spLaw (K w.params))) :
    PySem.W.WalkO q loose XP YP l.row.toRowW d [] (fun f vs => PySem.call f vs) :=
  L2.walk_of (n := 63) (k := 21) (x := "_law_script") (CX := fun _ => CX0) (sp := fun w => spLaw (K w.params)) hn (by decide) hdf ⟨rfl, by decide, by decide⟩ hY F (fun _ _ a ns hl _ hS => ⟨a, ns, rfl, hS, hl, fun _ => rfl⟩) fun _ _ _ _ _ z => z
end Lw
open PySem PySem.W PyProof.Rows
set_option maxRecDepth 100000 in
set_option maxHeartbeats 0 in
theorem PySem.Challenge.cw_bitlead_k24_other_papers_holds : PySem.Challenge.rw_bitlead_k24_other_papers.Holds := by
  w_on; o_law; k_head; (case hw => w_witness2)
  k_fill
  refine Lw.walk (l := PySem.Challenge.rw_bitlead_k24_other_papers) rfl rfl (fun w h Y => PySem.W.kIn_of Y) ?F
  case F =>
    intro w mg fa h KX G hmg
    refine' Lw.all_mk KX G hmg ?a0 ?l0 ?c0 ?k0 ?a1 ?l1 ?c1 ?k1 ?a2 ?l2 ?c2 ?k2 ?a3 ?l3 ?c3 ?k3 ?a4 ?l4 ?c4 ?k4 ?a5 ?l5 ?c5 ?k5 ?a6 ?l6 ?c6 ?k6 ?a7 ?l7 ?c7 ?k7 ?a8 ?l8 ?c8 ?k8 ?a9 ?l9 ?c9 ?k9 ?a10 ?l10 ?c10 ?k10 ?a11 ?l11 ?c11 ?k11 ?a12 ?l12 ?c12 ?k12 ?a13 ?l13 ?c13 ?k13 ?a14 ?l14 ?c14 ?k14 ?a15 ?l15 ?c15 ?k15 ?a16 ?l16 ?c16 ?k16 ?a17 ?l17 ?c17 ?k17 ?a18 ?l18 ?c18 ?k18 ?a19 ?l19 ?c19 ?k19 ?a20 ?l20 ?c20 ?k20 ?a21 ?l21 ?c21 ?k21 ?a22 ?l22 ?c22 ?k22 ?a23 ?l23 ?c23 ?k23 ?a24 ?l24 ?c24 ?k24 ?a25 ?l25 ?c25 ?k25 ?a26 ?l26 ?c26 ?k26 ?a27 ?l27 ?c27 ?k27 ?a28 ?l28 ?c28 ?k28 ?a29 ?l29 ?c29 ?k29 ?z_abs ?z_all ?z_bool ?z_enumerate ?z_int ?z_isinstance ?z_len ?z_list ?z_max ?z_min ?z_range ?z_sorted ?z_sum ?z_tuple ?z_zip ?y_NOUGHT ?y_ONE ?y_WIDEST
    (case a0 => k_is)
    (case l0 => k_is)
    (case c0 => k_is)
    (case k0 => k_is)
    (case a1 => k_is)
    (case l1 => k_is)
    (case c1 => k_is)
    (case k1 => k_is)
    (case a2 => k_is)
    (case l2 => k_is)
    (case c2 => k_is)
    (case k2 => k_is)
    (case a3 => k_is)
    (case l3 => k_is)
    (case c3 => k_is)
    (case k3 => k_is)
    (case a4 => k_is)
    (case l4 => k_is)
    (case c4 => k_is)
    (case k4 => k_is)
    (case a5 => k_is)
    (case l5 => k_is)
    (case c5 => k_is)
    (case k5 => k_is)
    (case a6 => k_is)
    (case l6 => k_is)
    (case c6 => k_is)
    (case k6 => k_is)
    (case a7 => k_is)
    (case l7 => k_is)
    (case c7 => k_is)
    (case k7 => k_is)
    (case a8 => k_is)
    (case l8 => k_is)
    (case c8 => k_is)
    (case k8 => k_is)
    (case a9 => k_is)
    (case l9 => k_is)
    (case c9 => k_is)
    (case k9 => k_is)
    (case a10 => k_is)
    (case l10 => k_is)
    (case c10 => k_is)
    (case k10 => k_is)
    (case a11 => k_is)
    (case l11 => k_is)
    (case c11 => k_is)
    (case k11 => k_is)
    (case a12 => k_is)
    (case l12 => k_is)
    (case c12 => k_is)
    (case k12 => k_is)
    (case a13 => k_is)
    (case l13 => k_is)
    (case c13 => k_is)
    (case k13 => k_is)
    (case a14 => k_is)
    (case l14 => k_is)
    (case c14 => k_is)
    (case k14 => k_is)
    (case a15 => k_is)
    (case l15 => k_is)
    (case c15 => k_is)
    (case k15 => k_is)
    (case a16 => k_is)
    (case l16 => k_is)
    (case c16 => k_is)
    (case k16 => k_is)
    (case a17 => k_is)
    (case l17 => k_is)
    (case c17 => k_is)
    (case k17 => k_is)
    (case a18 => k_is)
    (case l18 => k_is)
    (case c18 => k_is)
    (case k18 => k_is)
    (case a19 => k_is)
    (case l19 => k_is)
    (case c19 => k_is)
    (case k19 => k_is)
    (case a20 => k_is)
    (case l20 => k_is)
    (case c20 => k_is)
    (case k20 => k_is)
    (case a21 => k_is)
    (case l21 => k_is)
    (case c21 => k_is)
    (case k21 => k_is)
    (case a22 => k_is)
    (case l22 => k_is)
    (case c22 => k_is)
    (case k22 => k_is)
    (case a23 => k_is)
    (case l23 => k_is)
    (case c23 => k_is)
    (case k23 => k_is)
    (case a24 => k_is)
    (case l24 => k_is)
    (case c24 => k_is)
    (case k24 => k_is)
    (case a25 => k_is)
    (case l25 => k_is)
    (case c25 => k_is)
    (case k25 => k_is)
    (case a26 => k_is)
    (case l26 => k_is)
    (case c26 => k_is)
    (case k26 => k_is)
    (case a27 => k_is)
    (case l27 => k_is)
    (case c27 => k_is)
    (case k27 => k_is)
    (case a28 => k_is)
    (case l28 => k_is)
    (case c28 => k_is)
    (case k28 => k_is)
    (case a29 => k_is)
    (case l29 => k_is)
    (case c29 => k_is)
    (case k29 => k_is)
    (case z_abs => k_is)
    (case z_all => k_is)
    (case z_bool => k_is)
    (case z_enumerate => k_is)
    (case z_int => k_is)
    (case z_isinstance => k_is)
    (case z_len => k_is)
    (case z_list => k_is)
    (case z_max => k_is)
    (case z_min => k_is)
    (case z_range => k_is)
    (case z_sorted => k_is)
    (case z_sum => k_is)
    (case z_tuple => k_is)
    (case z_zip => k_is)
    (case y_NOUGHT => k_is)
    (case y_ONE => k_is)
    (case y_WIDEST => k_is)
