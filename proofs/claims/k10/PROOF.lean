import PyProof.Rows.All
import Wide.All
import OpenK.AllK
import Wide.FinOn
import Lean
import PyProof.EqAt
import PyProof.EqKinds
import PyProof.TupleCall
import PyProof.NeKinds
import KE.LcSums
import PySem.Challenge.RW_asitruns_k10_run
set_option Elab.async false
set_option linter.all false
set_option maxRecDepth 100000
namespace L2
open PySem PySem.Spec PyProof.Rows
noncomputable abbrev Key := Sum Int Str
noncomputable def keyIs : Key → Value → Bool
  | .inl k, v => Value.isInt k v
  | .inr x, v => Value.isStrOf x v
noncomputable def keyH (w : World) : Key → Int
  | .inl k => hashInt k
  | .inr x => hashStr w x
theorem keyIs_shape : ∀ {k : Key} {v : Value}, keyIs k v = true → (∃ i t, k = Sum.inl i ∧ v = Value.int i t) ∨ (∃ x t, k = Sum.inr x ∧ v = Value.str x t)
  | .inl i, v, h => by
    obtain ⟨t, e⟩ := Value.isInt_shape (k := i) (v := v) h
    exact .inl ⟨i, t, rfl, e⟩
  | .inr x, v, h => by
    obtain ⟨t, e⟩ := Value.isStrOf_shape (x := x) (v := v) h
    exact .inr ⟨x, t, rfl, e⟩
theorem keyIs_int (i : Int) (t : Tok) : keyIs (.inl i) (.int i t) = true := by simp [keyIs, Value.isInt]
theorem keyIs_str (x : Str) (t : Tok) : keyIs (.inr x) (.str x t) = true := by simp [keyIs, Value.isStrOf]
theorem key_ll (a b : Int) : decide ((Sum.inl a : Key) = Sum.inl b) = (a == b) := by
  by_cases e : a = b
  · subst e; simp
  · have h : ¬ (Sum.inl a : Key) = Sum.inl b := fun q => e (Sum.inl.inj q)
    rw [decide_eq_false h]
    exact (beq_eq_false_iff_ne.mpr e).symm
theorem key_rr (a b : Str) : decide ((Sum.inr a : Key) = Sum.inr b) = decide (a = b) := by
  by_cases e : a = b
  · subst e; simp
  · have h : ¬ (Sum.inr a : Key) = Sum.inr b := fun q => e (Sum.inr.inj q)
    rw [decide_eq_false h, decide_eq_false e]
theorem key_lr (a : Int) (b : Str) : decide ((Sum.inl a : Key) = Sum.inr b) = false := decide_eq_false (fun q => nomatch q)
theorem key_rl (a : Str) (b : Int) : decide ((Sum.inr a : Key) = Sum.inl b) = false := decide_eq_false (fun q => nomatch q)
noncomputable def mixKind (prog : Program) (w : World) : PySem.KeyKind prog w Key where
  is := keyIs
  hash := keyH w
  inj := fun v a b ha hb => by
    rcases keyIs_shape ha with ⟨i, t, rfl, rfl⟩ | ⟨x, t, rfl, rfl⟩
    · rcases keyIs_shape hb with ⟨j, u, rfl, e⟩ | ⟨y, u, rfl, e⟩
      · injection e with e1 _; rw [e1]
      · exact nomatch e
    · rcases keyIs_shape hb with ⟨j, u, rfl, e⟩ | ⟨y, u, rfl, e⟩
      · exact nomatch e
      · injection e with e1 _; rw [e1]
  byValue := fun k v h => by
    rcases keyIs_shape h with ⟨i, t, rfl, rfl⟩ | ⟨x, t, rfl, rfl⟩ <;> rfl
  pyHash := fun hv h => by
    rcases keyIs_shape hv with ⟨i, t, rfl, rfl⟩ | ⟨x, t, rfl, rfl⟩
    · exact wpAny_pyHash_int h
    · exact wpAny_pyHash_str h
  eqBool := fun hu hv h => by
    rcases keyIs_shape hu with ⟨i, t, rfl, rfl⟩ | ⟨x, t, rfl, rfl⟩
    · rcases keyIs_shape hv with ⟨j, u, rfl, rfl⟩ | ⟨y, u, rfl, rfl⟩
      · rw [key_ll] at h; exact wpAny_eqBool_int h
      · rw [key_lr] at h; exact SeqAt.EqAt.int_str i t y u _ _ _ _ h
    · rcases keyIs_shape hv with ⟨j, u, rfl, rfl⟩ | ⟨y, u, rfl, rfl⟩
      · rw [key_rl] at h; exact SeqAt.EqAt.str_int x t j u _ _ _ _ h
      · rw [key_rr] at h; exact wpAny_eqBool_str h
  «strs» := fun k x t v h => by
    rcases keyIs_shape h with ⟨i, u, rfl, e⟩ | ⟨y, u, rfl, e⟩
    · exact nomatch e
    · injection e with e1 _
      subst e1
      cases v <;> rfl
theorem mixKind_int (prog : Program) (w : World) (i : Int) (t : Tok) : (mixKind prog w).is (.inl i) (.int i t) = true := keyIs_int i t
theorem mixKind_str (prog : Program) (w : World) (x : Str) (t : Tok) : (mixKind prog w).is (.inr x) (.str x t) = true := keyIs_str x t
end L2
namespace L2
open PySem PySem.Spec PyProof.Rows
inductive V where
  | non | bl (b : Bool) | int (i : Int) | str (x : Str) | byt (b : Array UInt8) | flt (b : UInt64) | ref (a : Addr) | ty (n : String)
  deriving DecidableEq
noncomputable def RelV : V → Value → Prop
  | .non, u => u = Value.none
  | .bl b, u => u = Value.bool b
  | .int i, u => ∃ t, u = Value.int i t
  | .str x, u => ∃ t, u = Value.str x t
  | .byt b, u => ∃ t, u = Value.bytes b t
  | .flt b, u => ∃ t, u = Value.float b t
  | .ref a, u => u = Value.ref a
  | .ty n, u => u = Value.type n
noncomputable abbrev Vals : List V → List Value → Prop := Paired RelV
theorem Vals.length {xs : List V} {us : List Value} (r : Vals xs us) : xs.length = us.length := Paired.length r
theorem Vals.get : ∀ {xs : List V} {us : List Value} {i : Nat} {x : V}, Vals xs us → xs[i]? = some x → ∃ u, us[i]? = some u ∧ RelV x u
  | _, _, _, _, .nil, e => by simp at e
  | _, _, 0, _, .cons r _, e => by simp at e; subst e; exact ⟨_, rfl, r⟩
  | _, _, i + 1, x, .cons _ t, e => by
    obtain ⟨u, h1, h2⟩ := Vals.get (i := i) (x := x) t (by simpa using e)
    exact ⟨u, by simpa using h1, h2⟩
theorem Vals.set {x : V} {u : Value} (r : RelV x u) : ∀ {xs : List V} {us : List Value} (i : Nat), Vals xs us → Vals (xs.set i x) (us.set i u)
  | _, _, _, .nil => .nil
  | _, _, 0, .cons _ t => .cons r t
  | _, _, i + 1, .cons q t => .cons q (Vals.set r i t)
theorem Vals.append : ∀ {xs ys : List V} {us ws : List Value}, Vals xs us → Vals ys ws → Vals (xs ++ ys) (us ++ ws)
  | _, _, _, _, .nil, s => s
  | _, _, _, _, .cons r t, s => .cons r (Vals.append t s)
theorem Vals.take : ∀ {xs : List V} {us : List Value} (n : Nat), Vals xs us → Vals (xs.take n) (us.take n)
  | _, _, 0, _ => .nil
  | _, _, _ + 1, .nil => .nil
  | _, _, n + 1, .cons r t => .cons r (Vals.take n t)
theorem Vals.drop : ∀ {xs : List V} {us : List Value} (n : Nat), Vals xs us → Vals (xs.drop n) (us.drop n)
  | _, _, 0, r => r
  | _, _, _ + 1, .nil => .nil
  | _, _, n + 1, .cons _ t => Vals.drop n t
noncomputable def RelO : Option V → Option Value → Prop
  | some v, some u => RelV v u
  | none, none => True
  | _, _ => False
noncomputable def KV {κ : Type} : List (κ × V) → List (κ × Value) → Prop := Paired fun (p : κ × V) (q : κ × Value) => p.1 = q.1 ∧ RelV p.2 q.2
noncomputable def kV : Key → V
  | .inl i => .int i
  | .inr x => .str x
inductive HO where
  /-- a list -/
  | lst (xs : List V)
  /-- a tuple (never changes) -/
  | tup (xs : List V)
  /-- a dict whose keys are ints and texts; one whose keys are tuples of ints and texts (the empty one is both) -/
  | dK (kvs : List (Key × V)) | dT (kvs : List (List Key × V))
  /-- a set of ints: its members, its size -/
  | set (S : Int → Bool) (n : Nat)
  /-- an instance of the class at C, its dict at dx, its attributes -/
  | ins (C dx : Addr) (fs : List (Str × V))
  /-- the dict of the instance at x -/
  | own (x : Addr)
  /-- the dict of an exception -/
  | xd (fs : List (Str × V))
  /-- a bound method, f of x -/
  | met (f x : Addr)
  /-- a range object lo, lo + 1, .. below hi -/
  | rng (lo hi : Int)
  /-- a thing that is known to the object (the script; a dict while a loop walks it): read, never written while it is so -/
  | frz (o : Obj) (u : HO)
  /-- a code object's table -/
  | tbl (ps : Array Value)
  /-- any other thing, by what is true of its one object (a def of one's own: SetO a S n := HO.ext fun h => ..) -/
  | ext (φ : Heap → Prop)
noncomputable abbrev Hp := Addr → Option HO
noncomputable def upd (H : Hp) (a : Addr) (o : HO) : Hp := fun b => if b = a then some o else H b
theorem upd_same {H : Hp} {a : Addr} {o : HO} : upd H a o a = some o := by unfold upd; rw [if_pos rfl]
theorem upd_ne {H : Hp} {a b : Addr} {o : HO} (h : b ≠ a) : upd H a o b = H b := by unfold upd; rw [if_neg h]
theorem ne_of {H : Hp} {a b : Addr} {o u : HO} (h : H a = some o) (h' : H b = some u) (d : o ≠ u) : a ≠ b := by
  intro e; subst e; rw [h] at h'; exact d (Option.some.inj h')
theorem ne_of_none {H : Hp} {a b : Addr} {o : HO} (h : H a = some o) (h' : H b = none) : a ≠ b := by
  intro e; subst e; rw [h] at h'; cases h'
section
variable (P : Program) (w : World)
noncomputable def ObjOk (H : Hp) (h : Heap) (a : Addr) : HO → Prop
  | .lst xs => xs.length ≤ sizeLine ∧ ∃ (its : List Value) (n : Nat), Vals xs its ∧ h.get? a = some { cls := .type "list", data := .seq its.toArray n }
  | .tup xs => xs.length ≤ sizeLine ∧ ∃ its : List Value, Vals xs its ∧ IsTup h a its.toArray
  | .dK kvs => kvs.length ≤ sizeLine ∧ (a == sysModules) = false ∧ ∃ vs, KV kvs vs ∧ h.DictOf (mixKind P w) a vs
  | .dT kvs => kvs.length ≤ sizeLine ∧ (a == sysModules) = false ∧ ∃ xs : List (List Key × Addr × Value),
      Paired (fun (p : List Key × V) (q : List Key × Addr × Value) => p.1 = q.1 ∧ H q.2.1 = some (.tup (p.1.map kV)) ∧ RelV p.2 q.2.2) kvs xs ∧
      ∃ o es ep, h.get? a = some o ∧ o.ExactDict ∧ o.data = .dict es ep ∧ es.toList = xs.map (entryOfKey (tupleKind (mixKind P w))) ∧ (xs.map (·.1)).Nodup
  | .set S n => h.SetOf (intKind P w) a S n
  | .ins C dx fs => H dx = some (.own a) ∧ fs.length ≤ 1000 ∧ dx ≠ a ∧ h.get? a = some (PySem.W.instObj C dx) ∧
      ∃ mA, h.Ns1 dx mA ∧ (∀ f, RelO (fs.lookup f) (mA f)) ∧ PySem.Within mA (fs.map (·.1))
  | .own _ => ∃ o, h.get? a = some o
  | .xd fs => ∃ mA, h.Ns1 a mA ∧ ∀ f, RelO (fs.lookup f) (mA f)
  | .rng lo hi => ∃ t u v, h.get? a = some { cls := .type "range", data := .fields #[.int lo t, .int hi u, .int 1 v] }
  | .frz o u => h.get? a = some o ∧ ObjOk H h a u
  | .tbl ps => h.get? a = some { cls := .none, data := .fields ps }
  | .met f x => h.get? a = some (PySem.W.methodObj (.ref f) (.ref x))
  | .ext φ => φ h ∧ (∃ o, h.get? a = some o) ∧ ∀ h1 h2 : Heap, φ h1 → (∀ o, h1.get? a = some o → h2.get? a = some o) → φ h2
noncomputable def HOk (H : Hp) (h : Heap) : Prop := ∀ a o, H a = some o → ObjOk P w H h a o
end
section
variable {P : Program} {w : World} {H H' : Hp} {h h' : Heap} {a : Addr} {o : HO}
theorem ObjOk.lt (x : ObjOk P w H h a o) : a < h.objs.size := by
  cases o with
  | lst xs => obtain ⟨_, _, _, _, e⟩ := x; exact Heap.lt_size e
  | tup xs => obtain ⟨_, _, _, p⟩ := x; exact p.lt
  | dK kvs => obtain ⟨_, _, _, _, o, _, _, e, _⟩ := x; exact Heap.lt_size e
  | dT kvs => obtain ⟨_, _, _, _, o, _, _, e, _⟩ := x; exact Heap.lt_size e
  | set S n => obtain ⟨o, _, _, _, e, _⟩ := x; exact Heap.lt_size e
  | ins C dx fs => obtain ⟨_, _, _, e, _⟩ := x; exact Heap.lt_size e
  | own y => obtain ⟨_, e⟩ := x; exact Heap.lt_size e
  | xd fs => obtain ⟨_, ⟨_, _, _, e, _⟩, _⟩ := x; exact Heap.lt_size e
  | rng lo hi => obtain ⟨_, _, _, e⟩ := x; exact Heap.lt_size e
  | frz ob u => obtain ⟨e, _⟩ := x; exact Heap.lt_size e
  | tbl ps => exact Heap.lt_size (show h.get? a = some _ from x)
  | met f y => exact Heap.lt_size (show h.get? a = some _ from x)
  | ext φ => obtain ⟨_, ⟨_, e⟩, _⟩ := x; exact Heap.lt_size e
theorem Paired.mapP {α β : Type} {F G : α → β → Prop} : ∀ {l₁ : List α} {l₂ : List β}, Paired F l₁ l₂ → (∀ a b, F a b → G a b) → Paired G l₁ l₂
  | _, _, .nil, _ => .nil
  | _, _, .cons r t, f => .cons (f _ _ r) (Paired.mapP t f)
theorem ObjOk.stay (x : ObjOk P w H h a o) (k : ∀ b u, (b = a ∨ H b = some (.own a)) → h.get? b = some u → h'.get? b = some u)
    (ho : ∀ b, H b = some (.own a) → H' b = some (.own a)) (ht : ∀ b xs, H b = some (.tup xs) → H' b = some (.tup xs)) : ObjOk P w H' h' a o := by
  induction o with
  | lst xs => obtain ⟨z, its, n, r, e⟩ := x; exact ⟨z, its, n, r, k _ _ (.inl rfl) e⟩
  | tup xs => obtain ⟨z, its, r, ob, e, c⟩ := x; exact ⟨z, its, r, ob, k _ _ (.inl rfl) e, c⟩
  | dK kvs => obtain ⟨z, y, vs, r, ob, es, ep, e, c⟩ := x; exact ⟨z, y, vs, r, ob, es, ep, k _ _ (.inl rfl) e, c⟩
  | dT kvs =>
    obtain ⟨z, y, xs, r, ob, es, ep, e, c⟩ := x
    exact ⟨z, y, xs, Paired.mapP r fun p q z => ⟨z.1, ht _ _ z.2.1, z.2.2⟩, ob, es, ep, k _ _ (.inl rfl) e, c⟩
  | set S n => obtain ⟨ob, es, ep, t, e, c⟩ := x; exact ⟨ob, es, ep, t, k _ _ (.inl rfl) e, c⟩
  | ins C dx fs =>
    obtain ⟨d, z, ne, e, mA, ⟨od, es, ep, e2, c⟩, r⟩ := x
    exact ⟨ho _ d, z, ne, k _ _ (.inl rfl) e, mA, ⟨od, es, ep, k _ _ (.inr d) e2, c⟩, r⟩
  | own y => obtain ⟨ob, e⟩ := x; exact ⟨ob, k _ _ (.inl rfl) e⟩
  | xd fs => obtain ⟨mA, ⟨od, es, ep, e, c⟩, r⟩ := x; exact ⟨mA, ⟨od, es, ep, k _ _ (.inl rfl) e, c⟩, r⟩
  | rng lo hi => obtain ⟨t, u, v, e⟩ := x; exact ⟨t, u, v, k _ _ (.inl rfl) e⟩
  | frz ob u ih => obtain ⟨e, q⟩ := x; exact ⟨k _ _ (.inl rfl) e, ih q⟩
  | tbl ps =>
    have e : h.get? a = some { cls := .none, data := .fields ps } := x
    show h'.get? a = some { cls := .none, data := .fields ps }
    exact k a _ (.inl rfl) e
  | met f y =>
    have e : h.get? a = some (PySem.W.methodObj (.ref f) (.ref y)) := x
    show h'.get? a = some (PySem.W.methodObj (.ref f) (.ref y))
    exact k a _ (.inl rfl) e
  | ext φ => obtain ⟨p, ⟨o, e⟩, st⟩ := x; exact ⟨st _ _ p fun o q => k _ _ (.inl rfl) q, ⟨o, k _ _ (.inl rfl) e⟩, st⟩
theorem HOk.lt (x : HOk P w H h) (e : H a = some o) : a < h.objs.size := (x a o e).lt
theorem HOk.fresh (x : HOk P w H h) (e : h.objs.size ≤ a) : H a = none := by
  cases q : H a with
  | none => rfl
  | some u => exact absurd (Nat.lt_of_lt_of_le (x.lt q) e) (Nat.lt_irrefl _)
theorem HOk.kept (x : HOk P w H h) (k : ∀ b u, h.get? b = some u → h'.get? b = some u) : HOk P w H h' := fun a o e =>
  (x a o e).stay (fun b u _ q => k b u q) (fun _ q => q) fun _ _ q => q
theorem HOk.laid (x : HOk P w H h) (k : ∀ b u, h.get? b = some u → h'.get? b = some u) (hp : h.objs.size ≤ a) (new : ObjOk P w (upd H a o) h' a o) : HOk P w (upd H a o) h' := fun b u e => by
  have hn := x.fresh hp
  by_cases hb : b = a
  · subst hb; rw [upd_same] at e; cases e; exact new
  · rw [upd_ne hb] at e
    exact (x b u e).stay (fun c v _ q => k c v q) (fun c q => by rw [upd_ne (ne_of_none q hn)]; exact q) fun c xs q => by rw [upd_ne (ne_of_none q hn)]; exact q
end
noncomputable def Rd (H : Hp) (a : Addr) (u : HO) : Prop := H a = some u ∨ ∃ o, H a = some (.frz o u)
theorem Rd.of {H : Hp} {a : Addr} {u : HO} (h : H a = some u) : Rd H a u := .inl h
theorem Rd.ok {P : Program} {w : World} {H : Hp} {h : Heap} {a : Addr} {u : HO} (r : Rd H a u) (x : HOk P w H h) : ObjOk P w H h a u := by
  rcases r with r | ⟨o, r⟩
  · exact x a u r
  · obtain ⟨_, q⟩ := x a _ r
    exact q
noncomputable def Mut : Option HO → Prop
  | some (.lst _) => True
  | some (.dK _) => True
  | some (.dT _) => True
  | some (.set _ _) => True
  | some (.ins _ _ _) => True
  | some (.ext _) => True
  | _ => False
section
variable {P : Program} {w : World} {H : Hp} {h h' : Heap} {x e : Addr} {o' : HO}
theorem HOk.write (ok : HOk P w H h) (mu : Mut (H x)) (he : e = x ∨ H e = some (.own x)) (k : ∀ b u, b ≠ e → h.get? b = some u → h'.get? b = some u) (heo : ∃ u, h'.get? e = some u)
    (new : ObjOk P w (upd H x o') h' x o') : HOk P w (upd H x o') h' := fun b u q => by
  have nown : ∀ c y, H c = some (.own y) → c ≠ x := fun c y r z => by subst z; rw [r] at mu; exact mu
  have ntup : ∀ c xs, H c = some (.tup xs) → c ≠ x := fun c xs r z => by subst z; rw [r] at mu; exact mu
  by_cases hb : b = x
  · subst hb; rw [upd_same] at q; cases q; exact new
  · rw [upd_ne hb] at q
    by_cases hbe : b = e
    · have q' : H b = some (.own x) := by
        rcases he with z | z
        · exact absurd (hbe.trans z) hb
        · rw [hbe]; exact z
      rw [q] at q'; cases q'
      obtain ⟨v, hv⟩ := heo
      exact ⟨v, by rw [hbe]; exact hv⟩
    · refine (ok b u q).stay (fun c v hc r => k c v ?_ r) (fun c r => by rw [upd_ne (nown c b r)]; exact r) fun c xs r => by rw [upd_ne (ntup c xs r)]; exact r
      rcases hc with rfl | hc
      · exact hbe
      · rintro rfl
        rcases he with z | z
        · exact nown c b hc z
        · rw [hc] at z; cases z; exact hb rfl
end
structure Un (fs ex : List Addr) (H H' : Hp) (h h' : Heap) : Prop where
  keep : ∀ b o, h.get? b = some o → H b = none → b ∉ fs → b ∉ ex → h'.get? b = some o
  slot : ∀ b o, h.get? b = some o → H b = none → b ∈ fs → b ∉ ex → ∃ sl, h'.get? b = some { o with slots := sl }
  free : ∀ b o, h.get? b = some o → H b = none → b ∉ ex → H' b = none
  there : ∀ b o, h.get? b = some o → b ∉ ex → ∃ o', h'.get? b = some o'
  tups : ∀ b xs, H b = some (.tup xs) → H' b = some (.tup xs)
  frzs : ∀ b o u, H b = some (.frz o u) → H' b = some (.frz o u)
  tbls : ∀ b ps, H b = some (.tbl ps) → ∃ more, H' b = some (.tbl (ps ++ more))
section
variable {fs fs' ex ex' : List Addr} {H H1 H2 : Hp} {h h1 h2 h' : Heap} {a x e : Addr} {o : HO}
theorem Un.any (u : Un fs ex H H1 h h1) {b : Addr} {ob : Obj} (q : h.get? b = some ob) (n : H b = none) (hx : b ∉ ex) : ∃ sl, h1.get? b = some { ob with slots := sl } := by
  by_cases hb : b ∈ fs
  · exact u.slot b ob q n hb hx
  · exact ⟨ob.slots, u.keep b ob q n hb hx⟩
theorem Un.trans (a : Un fs ex H H1 h h1) (b : Un fs ex H1 H2 h1 h2) : Un fs ex H H2 h h2 where
  keep := fun c ob q n hc hx => b.keep c ob (a.keep c ob q n hc hx) (a.free c ob q n hx) hc hx
  slot := fun c ob q n hc hx => by
    obtain ⟨sl, e1⟩ := a.slot c ob q n hc hx
    obtain ⟨sl', e2⟩ := b.slot c _ e1 (a.free c ob q n hx) hc hx
    exact ⟨sl', e2⟩
  free := fun c ob q n hx => by
    obtain ⟨o', e1⟩ := a.there c ob q hx
    exact b.free c o' e1 (a.free c ob q n hx) hx
  there := fun c ob q hx => by
    obtain ⟨o', e1⟩ := a.there c ob q hx
    exact b.there c o' e1 hx
  tups := fun c xs q => b.tups c xs (a.tups c xs q)
  frzs := fun c ob xs q => b.frzs c ob xs (a.frzs c ob xs q)
  tbls := fun c ps q => by
    obtain ⟨m1, e1⟩ := a.tbls c ps q
    obtain ⟨m2, e2⟩ := b.tbls c _ e1
    exact ⟨m1 ++ m2, by rw [e2, Array.append_assoc]⟩
theorem Un.kept (k : ∀ b u, h.get? b = some u → h'.get? b = some u) : Un fs ex H H h h' :=
  ⟨fun b ob q _ _ _ => k b ob q, fun b ob q _ _ _ => ⟨ob.slots, k b ob q⟩, fun _ _ _ n _ => n, fun b ob q _ => ⟨ob, k b ob q⟩, fun _ _ q => q, fun _ _ _ q => q, fun _ ps q => ⟨#[], by rw [q]; simp⟩⟩
theorem Un.refl : Un fs ex H H h h := Un.kept fun _ _ q => q
theorem Un.laid (k : ∀ b u, h.get? b = some u → h'.get? b = some u) (hp : h.objs.size ≤ a) (hn : H a = none) : Un fs ex H (upd H a o) h h' where
  keep := fun b u q _ _ _ => k b u q
  slot := fun b u q _ _ _ => ⟨u.slots, k b u q⟩
  free := fun b u q n _ => by rw [upd_ne (Nat.ne_of_lt (Nat.lt_of_lt_of_le (Heap.lt_size q) hp))]; exact n
  there := fun b u q _ => ⟨u, k b u q⟩
  tups := fun b xs q => by rw [upd_ne (ne_of_none q hn)]; exact q
  frzs := fun b u xs q => by rw [upd_ne (ne_of_none q hn)]; exact q
  tbls := fun b ps q => ⟨#[], by rw [upd_ne (ne_of_none q hn), q]; simp⟩
theorem Un.write (mu : Mut (H x)) (he : e = x ∨ H e = some (.own x)) (k : ∀ b u, b ≠ e → h.get? b = some u → h'.get? b = some u) (heo : ∃ u, h'.get? e = some u) : Un fs ex H (upd H x o) h h' := by
  have hx : ∀ b, H b = none → b ≠ x := fun b n z => by subst z; rw [n] at mu; exact mu
  have hb : ∀ b, H b = none → b ≠ e := fun b n z => by
    subst z
    rcases he with r | r
    · exact hx b n r
    · rw [n] at r; cases r
  have hm : ∀ b u, H b = some u → ¬ Mut (some u) → b ≠ x := fun b u q nm z => by subst z; rw [q] at mu; exact nm mu
  refine ⟨fun b u q n _ _ => k b u (hb b n) q, fun b u q n _ _ => ⟨u.slots, k b u (hb b n) q⟩, fun b u q n _ => by rw [upd_ne (hx b n)]; exact n, fun b u q _ => ?_,
    fun b xs q => by rw [upd_ne (hm b _ q fun z => z)]; exact q, fun b u xs q => by rw [upd_ne (hm b _ q fun z => z)]; exact q, fun b ps q => ⟨#[], by rw [upd_ne (hm b _ q fun z => z), q]; simp⟩⟩
  by_cases hbe : b = e
  · subst hbe; exact heo
  · exact ⟨u, k b u hbe q⟩
theorem Un.mono (u : Un fs ex H H1 h h1) (hs : ∀ b ∈ fs, b ∈ fs') (hx : ∀ b ∈ ex, b ∈ ex') : Un fs' ex' H H1 h h1 :=
  ⟨fun b ob q n hb he => u.keep b ob q n (fun z => hb (hs b z)) fun z => he (hx b z), fun _ _ q n _ he => u.any q n fun z => he (hx _ z), fun b ob q n he => u.free b ob q n fun z => he (hx b z), fun b ob q he => u.there b ob q fun z => he (hx b z), u.tups, u.frzs, u.tbls⟩
end
noncomputable def trk (h : Heap) (H : Hp) : List Addr := (List.range h.objs.size).filter fun a => (H a).isSome
noncomputable def hidT (h : Heap) (H : Hp) : Heap := PySem.W.hideAll h (trk h H)
theorem hidT_size (h : Heap) (H : Hp) : (hidT h H).objs.size = h.objs.size := PySem.W.hideAll_size _ _
theorem hidT_get {h : Heap} {H : Hp} {b : Addr} {o : Obj} (e : h.get? b = some o) (n : H b = none) : (hidT h H).get? b = some o :=
  PySem.W.hideAll_get _ e fun hm => by
    have q : (H b).isSome = true := (List.mem_filter.mp hm).2
    rw [n] at q; simp at q
theorem of_hidT {h : Heap} {H : Hp} {b : Addr} {o : Obj} (e : (hidT h H).get? b = some o) : h.get? b = some o ∧ H b = none := by
  have e' : h.get? b = some o := PySem.W.of_hideAll (trk h H) e
  refine ⟨e', ?_⟩
  cases q : H b with
  | none => rfl
  | some x =>
    have hm : b ∈ trk h H := List.mem_filter.mpr ⟨List.mem_range.mpr (Heap.lt_size e'), by simp [q]⟩
    have z : (hidT h H).get? b = none := PySem.W.hideAll_none (trk h H) hm
    rw [z] at e; cases e
noncomputable def allNews (g h : Heap) (L : Addr) : List (Addr × Obj) := (List.range h.objs.size).filterMap fun a => if a = L ∨ (g.get? a).isSome = true then none else (h.get? a).map fun o => (a, o)
noncomputable def rest (g h : Heap) (L d : Addr) : List (Addr × Obj) := (allNews g h L).filter fun p => decide (p.1 ≠ d)
end L2
namespace L2
open PySem PySem.Spec PyProof.Rows
structure Mod (K : PySem.W.Frag) (mg : Str → Option Value) (base : Heap) : Prop where
  kin : K.In base
  glob : base.Ns mainGlobals mg
  blt : ∃ mb, base.Ns builtinsNs mb ∧ ∀ x : Str, x ≠ "__name__" → mb x = bootBuiltins x
  nolimit : base.NoLimit
structure Cx where
  prog : Program
  w : World
  K : PySem.W.Frag
  mg : Str → Option Value
  base : Heap
  A : Around
  N : List Str
  s₀ : Shared
  H₀ : Hp
  env : Env
  outer : List Env
  stack : List Env
  ex : List Addr
  fn : Str → Bool
  calm : Bool
  pn : List (Addr × Obj)
  xe : Value → Shared → Prop
noncomputable def frs (l : List Env) : List Addr := l.filterMap (·.frame)
noncomputable abbrev Cx.fs (X : Cx) : List Addr := frs X.outer
noncomputable def Vis (sc : Scope) (x : Str) : Prop := sc.names.lookup x = some .local ∨ sc.names.lookup x = some .cell ∨ sc.names.lookup x = some .free
noncomputable def Loc (sc : Scope) (x : Str) : Prop := sc.names.lookup x = some .local ∨ sc.names.lookup x = some .cell
noncomputable def Look (env : Env) (h : Heap) (m : Str → Option Value) (x : Str) (u : Value) : Prop :=
  (env.kindOf x = some .local ∧ m x = some u) ∨ ((env.kindOf x = some .cell ∨ env.kindOf x = some .free) ∧ ∃ c, env.cells.lookup x = some c ∧ h.IsCell c (some u))
structure Cx.Ok (X : Cx) : Prop where
  mod : Mod X.K X.mg X.base
  kind : X.env.scope.kind = .function
  glob : X.env.globals = mainGlobals
  blt : X.env.builtins = builtinsNs
  above : X.s₀.heap.objs.size ≤ X.env.locals
  inj : ∀ x y c, X.env.cells.lookup x = some c → X.env.cells.lookup y = some c → x = y
  has : ∀ x, (X.env.kindOf x = some .cell ∨ X.env.kindOf x = some .free) → ∃ c, X.env.cells.lookup x = some c
  cab : ∀ x c, X.fn x = true → X.env.cells.lookup x = some c → X.s₀.heap.objs.size ≤ c
  hd : X.calm = true → X.A.handled = none
  frames : X.A.frames = some X.stack
  stk : X.stack = X.outer ∨ (X.stack = X.env :: X.outer ∧ X.env.frame = some X.env.locals)
  exf : ∀ b ∈ X.ex, b ≠ X.env.locals ∧ ∀ x c, X.env.cells.lookup x = some c → c ≠ b
  bs : ∀ b o, X.base.get? b = some o → X.s₀.heap.get? b = some o ∧ X.H₀ b = none
  bsz : X.base.objs.size ≤ X.s₀.heap.objs.size
  noex : ∀ b o, X.base.get? b = some o → b ∉ X.ex
  exfs : ∀ b ∈ X.ex, b ∉ X.fs
  funs : X.s₀.heap.FunFrames X.base X.outer
  frf : ∀ b ∈ X.fs, X.H₀ b = none
structure Inv (X : Cx) (pins : List (Addr × Obj)) (σ : List (Option V)) (H : Hp) (s : Shared) : Prop where
  ok : X.Ok
  os : s.os = X.s₀.os
  bare : AllBare s.gens
  base : Un X.fs X.ex X.H₀ H X.s₀.heap s.heap
  loc : ∃ m, s.heap.Ns X.env.locals m ∧ ∀ (i : Nat) (x : Str) (v : V), X.N[i]? = some x → σ[i]? = some (some v) → Vis X.env.scope x → ∃ u, RelV v u ∧ Look X.env s.heap m x u
  cell : ∀ x c, X.env.cells.lookup x = some c → ∃ v, s.heap.IsCell c v
  free : H X.env.locals = none
  freeC : ∀ x c, X.env.cells.lookup x = some c → H c = none
  pin : ∀ p ∈ X.pn ++ pins, s.heap.get? p.1 = some p.2 ∧ H p.1 = none ∧ p.1 ≠ X.env.locals ∧ p.1 ∉ X.fs ∧ ∀ v, p.2.data ≠ .cell v
  hok : HOk X.prog X.w H s.heap
  len : σ.length = X.N.length
section
variable {X : Cx} {pins : List (Addr × Obj)} {σ : List (Option V)} {H H' : Hp} {s : Shared} {h' : Heap}
theorem Cx.Ok.nofr (ok : X.Ok) {b : Addr} {o : Obj} (e : X.base.get? b = some o) : b ∉ X.fs := fun hb => by
  have := (ok.funs.mem hb).1
  rw [e] at this; cases this
theorem Inv.bs (I : Inv X pins σ H s) : ∀ b o, X.base.get? b = some o → s.heap.get? b = some o ∧ H b = none := fun b o e =>
  ⟨I.base.keep b o (I.ok.bs b o e).1 (I.ok.bs b o e).2 (I.ok.nofr e) (I.ok.noex b o e), I.base.free b o (I.ok.bs b o e).1 (I.ok.bs b o e).2 (I.ok.noex b o e)⟩
theorem Inv.bk (I : Inv X pins σ H s) : ∀ b o, X.base.get? b = some o → s.heap.get? b = some o := fun b o e => (I.bs b o e).1
theorem Inv.mod (I : Inv X pins σ H s) : Mod X.K X.mg X.base := I.ok.mod
theorem Inv.kIn (I : Inv X pins σ H s) : X.K.In s.heap := I.ok.mod.kin.keeps I.bk
theorem Inv.nolimit (I : Inv X pins σ H s) : s.heap.NoLimit := I.ok.mod.nolimit.keeps I.bk
theorem Inv.lt (I : Inv X pins σ H s) : X.env.locals < s.heap.objs.size := let ⟨_, hn, _⟩ := I.loc; hn.lt
theorem Inv.sz (I : Inv X pins σ H s) : X.s₀.heap.objs.size ≤ s.heap.objs.size := Nat.le_trans I.ok.above (Nat.le_of_lt I.lt)
theorem Inv.nofs (I : Inv X pins σ H s) {a : Addr} (h : s.heap.objs.size ≤ a) : a ∉ X.fs := fun hb => by
  obtain ⟨_, o, ho, _⟩ := I.ok.funs.mem hb
  exact absurd (Nat.lt_of_lt_of_le (Heap.lt_size ho) (Nat.le_trans I.sz h)) (Nat.lt_irrefl _)
theorem Inv.cne (I : Inv X pins σ H s) : ∀ x c, X.env.cells.lookup x = some c → c ≠ X.env.locals := fun x c e z => by
  obtain ⟨v, o, ho, hd⟩ := I.cell x c e
  obtain ⟨m, ⟨o', es, ep, ho', hd', _⟩, _⟩ := I.loc
  rw [z, ho'] at ho; cases ho; rw [hd'] at hd; cases hd
theorem Inv.funs (I : Inv X pins σ H s) : s.heap.FunFrames X.base X.outer := by
  have all : ∀ (l : List Env), (∀ b ∈ frs l, b ∈ X.fs) → X.s₀.heap.FunFrames X.base l → s.heap.FunFrames X.base l := by
    intro l
    induction l with
    | nil => intro _ _; trivial
    | cons env r ih =>
      intro hs hl
      obtain ⟨hk, ⟨L, o, hf, hn, ho, hd⟩, hr⟩ := hl
      have hL : L ∈ X.fs := hs L (by unfold frs; rw [List.filterMap_cons, hf]; exact List.mem_cons_self)
      obtain ⟨sl, e⟩ := I.base.slot L o ho (I.ok.frf L hL) hL fun z => I.ok.exfs L z hL
      exact ⟨hk, ⟨L, _, hf, hn, e, hd⟩, ih (fun b hb => hs b (by unfold frs; rw [List.filterMap_cons, hf]; exact List.mem_cons_of_mem _ hb)) hr⟩
  exact all X.outer (fun _ hb => hb) I.ok.funs
theorem Inv.stack (I : Inv X pins σ H s) : s.heap.FunFrames X.base X.stack := by
  rcases I.ok.stk with e | ⟨e, hf⟩
  · rw [e]; exact I.funs
  · rw [e]
    obtain ⟨m, hn, _⟩ := I.loc
    refine .cons (by rw [I.ok.kind]; decide) hf hn ?_ I.funs
    exact Heap.get?_none_of_le (Nat.le_trans I.ok.bsz I.ok.above)
theorem Inv.stkSub (I : Inv X pins σ H s) : ∀ b ∈ frs X.stack, b ∈ X.env.locals :: X.fs := fun b hb => by
  rcases I.ok.stk with e | ⟨e, hf⟩
  · rw [e] at hb; exact List.mem_cons_of_mem _ hb
  · rw [e] at hb
    unfold frs at hb
    rw [List.filterMap_cons, hf] at hb
    exact hb
theorem Inv.stkFree (I : Inv X pins σ H s) : ∀ b ∈ frs X.stack, H b = none := fun b hb => by
  rcases List.mem_cons.mp (I.stkSub b hb) with e | hb
  · rw [e]; exact I.free
  · obtain ⟨_, o, ho, _⟩ := I.ok.funs.mem hb
    exact I.base.free b o ho (I.ok.frf b hb) fun z => I.ok.exfs b z hb
theorem Inv.step {g' : Array GenState} {t' : Nat} {d' : Drawn} {ch : List Addr} (I : Inv X pins σ H s)
    (hch : ∀ b ∈ ch, (b ∈ X.ex ∨ X.s₀.heap.objs.size ≤ b) ∧ b ≠ X.env.locals ∧ (∀ x c, X.env.cells.lookup x = some c → c ≠ b) ∧ ∀ p ∈ X.pn ++ pins, p.1 ≠ b)
    (keep : ∀ b o, b ≠ X.env.locals → b ∉ X.fs → b ∉ ch → s.heap.get? b = some o → H b = none → h'.get? b = some o)
    (slot : ∀ b o, b ≠ X.env.locals → b ∈ X.fs → b ∉ ch → s.heap.get? b = some o → H b = none → ∃ sl, h'.get? b = some { o with slots := sl }) (free : ∀ b o, b ∉ ch → s.heap.get? b = some o → H b = none → H' b = none)
    (there : ∀ b o, b ∉ ch → s.heap.get? b = some o → ∃ o', h'.get? b = some o')
    (tups : ∀ b xs, H b = some (.tup xs) → H' b = some (.tup xs)) (frzs : ∀ b o u, H b = some (.frz o u) → H' b = some (.frz o u)) (tbls : ∀ b ps, H b = some (.tbl ps) → ∃ more, H' b = some (.tbl (ps ++ more)))
    (ns : ∀ m, s.heap.Ns X.env.locals m → h'.Ns X.env.locals m) (hok : HOk X.prog X.w H' h') (hg : AllBare g') :
    Inv X pins σ H' { s with heap := h', gens := g', drawn := d', toks := t' } := by
  have neL : ∀ b o, X.s₀.heap.get? b = some o → b ≠ X.env.locals := fun b o e => Nat.ne_of_lt (Nat.lt_of_lt_of_le (Heap.lt_size e) I.ok.above)
  have neC : ∀ b o, X.s₀.heap.get? b = some o → b ∉ X.ex → b ∉ ch := fun b o e hx hb => by
    rcases (hch b hb).1 with z | z
    · exact hx z
    · exact absurd (Nat.lt_of_lt_of_le (Heap.lt_size e) z) (Nat.lt_irrefl _)
  have cellK : ∀ x c, X.env.cells.lookup x = some c → ∀ v, s.heap.IsCell c v → h'.IsCell c v := fun x c e v ⟨o, ho, hd⟩ => by
    have nch : c ∉ ch := fun z => (hch c z).2.2.1 x c e rfl
    by_cases hc : c ∈ X.fs
    · obtain ⟨sl, q⟩ := slot c o (I.cne x c e) hc nch ho (I.freeC x c e)
      exact ⟨_, q, hd⟩
    · exact ⟨o, keep c o (I.cne x c e) hc nch ho (I.freeC x c e), hd⟩
  refine ⟨I.ok, I.os, hg, ⟨fun b o e n hb hx => ?_, fun b o e n hb hx => ?_, fun b o e n hx => ?_, fun b o e hx => ?_, fun b xs e => tups b xs (I.base.tups b xs e), fun b o xs e => frzs b o xs (I.base.frzs b o xs e), fun b ps e => ?_⟩, ?_, fun x c e => ?_, ?_, fun x c e => ?_, fun p hp => ?_, hok, I.len⟩
  · exact keep b o (neL b o e) hb (neC b o e hx) (I.base.keep b o e n hb hx) (I.base.free b o e n hx)
  · obtain ⟨sl, e1⟩ := I.base.slot b o e n hb hx
    obtain ⟨sl', e2⟩ := slot b _ (neL b o e) hb (neC b o e hx) e1 (I.base.free b o e n hx)
    exact ⟨sl', e2⟩
  · obtain ⟨o', e1⟩ := I.base.there b o e hx
    exact free b o' (neC b o e hx) e1 (I.base.free b o e n hx)
  · obtain ⟨o', e1⟩ := I.base.there b o e hx
    exact there b o' (neC b o e hx) e1
  · obtain ⟨m1, e1⟩ := I.base.tbls b ps e
    obtain ⟨m2, e2⟩ := tbls b _ e1
    exact ⟨m1 ++ m2, by rw [e2, Array.append_assoc]⟩
  · obtain ⟨m, hn, hl⟩ := I.loc
    refine ⟨m, ns m hn, fun i x v e1 e2 e3 => ?_⟩
    obtain ⟨u, r, l⟩ := hl i x v e1 e2 e3
    refine ⟨u, r, ?_⟩
    rcases l with l | ⟨k, c, e, z⟩
    · exact .inl l
    · exact .inr ⟨k, c, e, cellK x c e _ z⟩
  · obtain ⟨v, z⟩ := I.cell x c e
    exact ⟨v, cellK x c e v z⟩
  · obtain ⟨m, ⟨o, _, _, ho, _⟩, _⟩ := I.loc
    exact free _ o (fun z => (hch _ z).2.1 rfl) ho I.free
  · obtain ⟨v, o, ho, hd⟩ := I.cell x c e
    exact free c o (fun z => (hch c z).2.2.1 x c e rfl) ho (I.freeC x c e)
  · obtain ⟨e, n, ne, nf, d⟩ := I.pin p hp
    have nch : p.1 ∉ ch := fun z => (hch p.1 z).2.2.2 p hp rfl
    exact ⟨keep p.1 p.2 ne nf nch e n, free p.1 p.2 nch e n, ne, nf, d⟩
theorem Inv.un {t' : Nat} (I : Inv X pins σ H s) (u : Un X.fs [] H H' s.heap h') (hok : HOk X.prog X.w H' h') : Inv X pins σ H' { s with heap := h', toks := t' } := by
  obtain ⟨m, ⟨o, es, ep, ho, r⟩, _⟩ := id I.loc
  obtain ⟨sl, hL⟩ := u.any ho I.free (by simp)
  exact I.step (g' := s.gens) (d' := s.drawn) (ch := []) (fun _ z => nomatch z) (fun b o _ hb _ e n => u.keep b o e n hb (by simp)) (fun b o _ hb _ e n => u.slot b o e n hb (by simp)) (fun b o _ e n => u.free b o e n (by simp)) (fun b o _ e => u.there b o e (by simp)) u.tups u.frzs u.tbls (fun m' hm => by
    obtain ⟨o', es', ep', ho', r'⟩ := hm
    rw [ho] at ho'; cases ho'
    exact ⟨_, es', ep', hL, r'⟩) hok I.bare
theorem Inv.call {g' : Array GenState} {t' : Nat} {d' : Drawn} {ch : List Addr} (I : Inv X pins σ H s) (u : Un (frs X.stack) ch H H' s.heap h') (hok : HOk X.prog X.w H' h') (hg : AllBare g')
    (hch : ∀ b ∈ ch, (b ∈ X.ex ∨ X.s₀.heap.objs.size ≤ b) ∧ b ≠ X.env.locals ∧ (∀ x c, X.env.cells.lookup x = some c → c ≠ b) ∧ ∀ p ∈ X.pn ++ pins, p.1 ≠ b) :
    Inv X pins σ H' { s with heap := h', gens := g', drawn := d', toks := t' } := by
  obtain ⟨m, ⟨o, es, ep, ho, r⟩, _⟩ := id I.loc
  obtain ⟨sl, hL⟩ := u.any ho I.free fun z => (hch _ z).2.1 rfl
  exact I.step (ch := ch) hch (fun b o hL hb hc e n => u.keep b o e n (fun z => (List.mem_cons.mp (I.stkSub b z)).elim hL hb) hc) (fun b o _ _ hc e n => u.any e n hc) (fun b o hc e n => u.free b o e n hc) (fun b o hc e => u.there b o e hc) u.tups u.frzs u.tbls (fun m' hm => by
    obtain ⟨o', es', ep', ho', r'⟩ := hm
    rw [ho] at ho'; cases ho'
    exact ⟨_, es', ep', hL, r'⟩) hok hg
theorem Inv.turned {t' : Nat} {it : Addr} (I : Inv X pins σ H s) (k : ∀ b o, b ≠ it → s.heap.get? b = some o → h'.get? b = some o) (hn : H it = none) (hL : it ≠ X.env.locals)
    (h1 : it ∈ X.ex ∨ X.s₀.heap.objs.size ≤ it) (h2 : ∀ x c, X.env.cells.lookup x = some c → c ≠ it) (h3 : ∀ p ∈ X.pn ++ pins, p.1 ≠ it) : Inv X pins σ H { s with heap := h', toks := t' } := by
  have nit : ∀ b u, H b = some u → b ≠ it := fun b u e z => by rw [z, hn] at e; cases e
  refine I.step (g' := s.gens) (d' := s.drawn) (ch := [it]) (fun b hb => ?_) (fun b o _ _ hc e _ => k b o (fun z => hc (by simp [z])) e) (fun b o _ _ hc e _ => ⟨o.slots, k b o (fun z => hc (by simp [z])) e⟩) (fun _ _ _ _ n => n)
    (fun b o hc e => ⟨o, k b o (fun z => hc (by simp [z])) e⟩) (fun _ _ e => e) (fun _ _ _ e => e) (fun b ps e => ⟨#[], by rw [e]; simp⟩) (fun m hm => ?_) (fun b u e => ?_) I.bare
  · have e : b = it := by simpa using hb
    subst e
    exact ⟨h1, hL, h2, h3⟩
  · obtain ⟨o, es, ep, ho, r⟩ := hm
    exact ⟨o, es, ep, k _ o (Ne.symm hL) ho, r⟩
  · refine (I.hok b u e).stay (fun c v hc q => k c v ?_ q) (fun _ q => q) fun _ _ q => q
    rcases hc with z | z
    · rw [z]; exact nit b u e
    · exact nit c _ z
theorem Inv.tok (I : Inv X pins σ H s) (t : Nat) : Inv X pins σ H { s with toks := t } := I.un (h' := s.heap) (t' := t) Un.refl I.hok
theorem Inv.kept {t' : Nat} (I : Inv X pins σ H s) (k : ∀ b u, s.heap.get? b = some u → h'.get? b = some u) : Inv X pins σ H { s with heap := h', toks := t' } := I.un (Un.kept k) (I.hok.kept k)
theorem Inv.laid {a : Addr} {o : HO} {t' : Nat} (I : Inv X pins σ H s) (k : ∀ b u, s.heap.get? b = some u → h'.get? b = some u) (hp : s.heap.objs.size ≤ a) (new : ObjOk X.prog X.w (upd H a o) h' a o) :
    Inv X pins σ (upd H a o) { s with heap := h', toks := t' } := I.un (Un.laid k hp (I.hok.fresh hp)) (I.hok.laid k hp new)
theorem Inv.write {x e : Addr} {o : HO} {t' : Nat} (I : Inv X pins σ H s) (mu : Mut (H x)) (he : e = x ∨ H e = some (.own x)) (k : ∀ b u, b ≠ e → s.heap.get? b = some u → h'.get? b = some u) (heo : ∃ u, h'.get? e = some u)
    (new : ObjOk X.prog X.w (upd H x o) h' x o) : Inv X pins σ (upd H x o) { s with heap := h', toks := t' } := I.un (Un.write mu he k heo) (I.hok.write mu he k heo new)
theorem Inv.pins_of {pins' : List (Addr × Obj)} (I : Inv X pins σ H s) (h : ∀ p ∈ pins', s.heap.get? p.1 = some p.2 ∧ H p.1 = none ∧ p.1 ≠ X.env.locals ∧ p.1 ∉ X.fs ∧ ∀ v, p.2.data ≠ .cell v) : Inv X pins' σ H s :=
  ⟨I.ok, I.os, I.bare, I.base, I.loc, I.cell, I.free, I.freeC, fun p hp => (List.mem_append.mp hp).elim (fun z => I.pin p (List.mem_append_left _ z)) (h p), I.hok, I.len⟩
theorem nodup_ix {N : List Str} (hN : N.Nodup) {i j : Nat} {x : Str} (a : N[i]? = some x) (b : N[j]? = some x) : i = j := by
  obtain ⟨h1, e1⟩ := List.getElem?_eq_some_iff.mp a
  obtain ⟨h2, e2⟩ := List.getElem?_eq_some_iff.mp b
  exact (List.getElem_inj hN).mp (e1.trans e2.symm)
theorem store_ok2 {M : Model} {A : Around} {E : Value → Shared → Prop} {i : Nat} {x : Str} {v : V} {u : Value} {Q : Unit → Shared → Prop} (I : Inv X pins σ H s) (hN : X.N.Nodup) (hi : X.N[i]? = some x) (hx : Loc X.env.scope x) (r : RelV v u)
    (h : ∀ s', Inv X pins (σ.set i (some v)) H s' → (∃ a, Heap.SameBut a s.heap s'.heap ∧ (a = X.env.locals ∨ X.env.cells.lookup x = some a)) → Q () s') (hf : X.fn x = true ∨ X.env.scope.names.lookup x = some .local := by first | exact .inl rfl | exact .inr rfl | assumption) : wpAny M A (storeName X.env x u) Q E s := by
  obtain ⟨m, hn, hl⟩ := id I.loc
  have hcls : (X.env.scope.kind == .class || (X.env.scope.kind == .module && X.env.locals != X.env.globals)) = false := by rw [I.ok.kind]; rfl
  have hiσ : i < σ.length := by rw [I.len]; exact (List.getElem?_eq_some_iff.mp hi).1
  have cne := I.cne
  have tracked : ∀ {a : Addr} {h' : Heap}, (∃ o, s.heap.get? a = some o ∧ H a = none) → Heap.SameBut a s.heap h' → HOk X.prog X.w H h' := fun {a h'} ha hs b ob e => by
    obtain ⟨_, _, hfree⟩ := ha
    refine (I.hok b ob e).stay (fun c w' hc q => (hs.2 c ?_).trans q) (fun _ q => q) fun _ _ q => q
    rintro rfl
    rcases hc with rfl | hc
    · rw [hfree] at e; cases e
    · rw [hfree] at hc; cases hc
  rcases hx with hk | hk
  · refine wpAny_storeName_local hk hn (fun h' hn' hs => ?_) hcls
    obtain ⟨oL, _, _, hoL, _⟩ := id hn
    refine h _ ⟨I.ok, I.os, I.bare, ⟨fun b o e n hb hx => ?_, fun b o e n hb hx => ?_, I.base.free, fun b o e hx => ?_, I.base.tups, I.base.frzs, I.base.tbls⟩, ⟨_, hn', fun j y v' e1 e2 e3 => ?_⟩, fun y c e => ?_, I.free, I.freeC, fun p hp => ?_, tracked ⟨oL, hoL, I.free⟩ hs, by simpa using I.len⟩ ⟨_, hs, .inl rfl⟩
    · exact (hs.2 b (Nat.ne_of_lt (Nat.lt_of_lt_of_le (Heap.lt_size e) I.ok.above))).trans (I.base.keep b o e n hb hx)
    · obtain ⟨sl, e1⟩ := I.base.slot b o e n hb hx
      exact ⟨sl, (hs.2 b (Nat.ne_of_lt (Nat.lt_of_lt_of_le (Heap.lt_size e) I.ok.above))).trans e1⟩
    · obtain ⟨o', e1⟩ := I.base.there b o e hx
      exact ⟨o', (hs.2 b (Nat.ne_of_lt (Nat.lt_of_lt_of_le (Heap.lt_size e) I.ok.above))).trans e1⟩
    · by_cases hj : j = i
      · subst hj
        rw [hi] at e1; cases e1
        rw [List.getElem?_set_self hiσ] at e2
        cases e2
        exact ⟨u, r, .inl ⟨hk, by simp⟩⟩
      · rw [List.getElem?_set_ne (Ne.symm hj)] at e2
        obtain ⟨u', r', q⟩ := hl j y v' e1 e2 e3
        refine ⟨u', r', ?_⟩
        rcases q with ⟨k, e⟩ | ⟨k, c, e, z⟩
        · refine .inl ⟨k, ?_⟩
          have : y ≠ x := fun e => hj (nodup_ix hN e1 (e ▸ hi))
          simp [this, e]
        · exact .inr ⟨k, c, e, z.sameBut hs (cne y c e)⟩
    · obtain ⟨w', z⟩ := I.cell y c e
      exact ⟨w', z.sameBut hs (cne y c e)⟩
    · obtain ⟨e, n, ne, nf, d⟩ := I.pin p hp
      exact ⟨(hs.2 p.1 ne).trans e, n, ne, nf, d⟩
  · have hfn : X.fn x = true := by
      rcases hf with z | z
      · exact z
      · rw [z] at hk; cases hk
    obtain ⟨c, hc⟩ := I.ok.has x (.inl hk)
    obtain ⟨w', z⟩ := I.cell x c hc
    refine wpAny_storeName_cell I.ok.kind hk hc z (fun h' hc' hs => ?_)
    obtain ⟨oc, hoc, hocd⟩ := id z
    refine h { s with heap := h' } ⟨I.ok, I.os, I.bare, ⟨fun b o e n hb hx => ?_, fun b o e n hb hx => ?_, I.base.free, fun b o e hx => ?_, I.base.tups, I.base.frzs, I.base.tbls⟩, ⟨m, hn.sameBut hs (Ne.symm (cne x c hc)), fun j y v' e1 e2 e3 => ?_⟩, fun y c' e => ?_, I.free, I.freeC, fun p hp => ?_, tracked ⟨oc, hoc, I.freeC x c hc⟩ hs, by simpa using I.len⟩ ⟨c, hs, .inr hc⟩
    · exact (hs.2 b (Nat.ne_of_lt (Nat.lt_of_lt_of_le (Heap.lt_size e) (I.ok.cab x c hfn hc)))).trans (I.base.keep b o e n hb hx)
    · obtain ⟨sl, e1⟩ := I.base.slot b o e n hb hx
      exact ⟨sl, (hs.2 b (Nat.ne_of_lt (Nat.lt_of_lt_of_le (Heap.lt_size e) (I.ok.cab x c hfn hc)))).trans e1⟩
    · obtain ⟨o', e1⟩ := I.base.there b o e hx
      exact ⟨o', (hs.2 b (Nat.ne_of_lt (Nat.lt_of_lt_of_le (Heap.lt_size e) (I.ok.cab x c hfn hc)))).trans e1⟩
    · by_cases hj : j = i
      · subst hj
        rw [hi] at e1; cases e1
        rw [List.getElem?_set_self hiσ] at e2
        cases e2
        exact ⟨u, r, .inr ⟨.inl hk, c, hc, hc'⟩⟩
      · rw [List.getElem?_set_ne (Ne.symm hj)] at e2
        obtain ⟨u', r', q⟩ := hl j y v' e1 e2 e3
        refine ⟨u', r', ?_⟩
        rcases q with q | ⟨k, c', e, z'⟩
        · exact .inl q
        · refine .inr ⟨k, c', e, z'.sameBut hs ?_⟩
          rintro rfl
          exact hj (nodup_ix hN e1 (I.ok.inj _ _ _ e hc ▸ hi))
    · by_cases hcc : c' = c
      · subst hcc; exact ⟨_, hc'⟩
      · obtain ⟨w2, z2⟩ := I.cell y c' e
        exact ⟨w2, z2.sameBut hs hcc⟩
    · obtain ⟨e, n, ne, nf, d⟩ := I.pin p hp
      refine ⟨(hs.2 p.1 ?_).trans e, n, ne, nf, d⟩
      intro q
      rw [q, hoc] at e
      have q' : oc = p.2 := Option.some.inj e
      exact d w' (by rw [← q']; exact hocd)
theorem store_ok {M : Model} {A : Around} {E : Value → Shared → Prop} {i : Nat} {x : Str} {v : V} {u : Value} {Q : Unit → Shared → Prop} (I : Inv X pins σ H s) (hN : X.N.Nodup) (hi : X.N[i]? = some x) (hx : Loc X.env.scope x) (r : RelV v u)
    (h : ∀ s', Inv X pins (σ.set i (some v)) H s' → Q () s') (hf : X.fn x = true ∨ X.env.scope.names.lookup x = some .local := by first | exact .inl rfl | exact .inr rfl | assumption) : wpAny M A (storeName X.env x u) Q E s :=
  store_ok2 I hN hi hx r (fun s' I' _ => h s' I') hf
theorem Inv.call' {s' : Shared} {ch : List Addr} (I : Inv X pins σ H s) (ho : s'.os = s.os) (u : Un (frs X.stack) ch H H' s.heap s'.heap) (hok : HOk X.prog X.w H' s'.heap) (hg : AllBare s'.gens)
    (hch : ∀ b ∈ ch, (b ∈ X.ex ∨ X.s₀.heap.objs.size ≤ b) ∧ b ≠ X.env.locals ∧ (∀ x c, X.env.cells.lookup x = some c → c ≠ b) ∧ ∀ p ∈ X.pn ++ pins, p.1 ≠ b) : Inv X pins σ H' s' := by
  obtain ⟨h', g', d', t', o'⟩ := s'
  have e : o' = s.os := ho
  subst e
  exact I.call (g' := g') (t' := t') (d' := d') u hok hg hch
end
noncomputable abbrev XK := Value → Option Addr → Hp → Prop
noncomputable abbrev St := List (Option V)
noncomputable abbrev VK := V → Hp → Prop
noncomputable abbrev TE := St → Hp → VK → Prop
noncomputable abbrev TT := St → Hp → (Bool → Hp → Prop) → Prop
noncomputable abbrev TA := St → Hp → (List V → Hp → Prop) → Prop
structure Ends where
  nx : St → Hp → Prop
  rt : VK
  bk : St → Hp → Prop := fun _ _ => False
  ct : St → Hp → Prop := fun _ _ => False
noncomputable abbrev TS := Ends → St → Hp → Prop
noncomputable def EP (X : Cx) (pins : List (Addr × Obj)) (σ : St) (Q : VK) (u : Value) (s' : Shared) : Prop := ∃ v H', Inv X pins σ H' s' ∧ RelV v u ∧ Q v H'
noncomputable def TP (X : Cx) (pins : List (Addr × Obj)) (σ : St) (Q : Bool → Hp → Prop) (b : Bool) (s' : Shared) : Prop := ∃ H', Inv X pins σ H' s' ∧ Q b H'
noncomputable def AP (X : Cx) (pins : List (Addr × Obj)) (σ : St) (Q : List V → Hp → Prop) (us : List Value) (s' : Shared) : Prop := ∃ vs H', Inv X pins σ H' s' ∧ Vals vs us ∧ Q vs H'
noncomputable def SP (X : Cx) (pins : List (Addr × Obj)) (D : Ends) (f : Flow) (s' : Shared) : Prop :=
  match f with
  | .next => ∃ σ' H', Inv X pins σ' H' s' ∧ D.nx σ' H'
  | .brk => ∃ σ' H', Inv X pins σ' H' s' ∧ D.bk σ' H'
  | .cont => ∃ σ' H', Inv X pins σ' H' s' ∧ D.ct σ' H'
  | .ret u => ∃ v σ' H', Inv X pins σ' H' s' ∧ RelV v u ∧ D.rt v H'
noncomputable def PE (X : Cx) (e : Expr) (t : TE) : Prop :=
  ∀ (pins : List (Addr × Obj)) (s : Shared) (σ : St) (H : Hp) (Q : VK), Inv X pins σ H s → t σ H Q → wpAny (model X.prog X.w) X.A (eval e X.env) (EP X pins σ Q) X.xe s
noncomputable def PT (X : Cx) (e : Expr) (t : TT) : Prop :=
  ∀ (pins : List (Addr × Obj)) (s : Shared) (σ : St) (H : Hp) (Q : Bool → Hp → Prop), Inv X pins σ H s → t σ H Q → wpAny (model X.prog X.w) X.A (isTrue e X.env (eval e X.env)) (TP X pins σ Q) X.xe s
noncomputable def PW (X : Cx) (e : Expr) (t : TT) : Prop :=
  ∀ (whole : Sem Value) (pins : List (Addr × Obj)) (s : Shared) (σ : St) (H : Hp) (Q : Bool → Hp → Prop), Inv X pins σ H s → t σ H Q → wpAny (model X.prog X.w) X.A (isTrue e X.env whole) (TP X pins σ Q) X.xe s
noncomputable def PA (X : Cx) (es : List Expr) (t : TA) : Prop :=
  ∀ (pos : Pos) (pins : List (Addr × Obj)) (s : Shared) (σ : St) (H : Hp) (Q : List V → Hp → Prop), Inv X pins σ H s → t σ H Q → wpAny (model X.prog X.w) X.A (spliced (backTo pos (starEach es X.env))) (AP X pins σ Q) X.xe s
noncomputable def PS (X : Cx) (st : Stmt) (t : TS) : Prop :=
  ∀ (pins : List (Addr × Obj)) (s : Shared) (σ : St) (H : Hp) (D : Ends), Inv X pins σ H s → t D σ H → wpAny (model X.prog X.w) X.A (exec st X.env) (SP X pins D) X.xe s
noncomputable def PSs (X : Cx) (st : List Stmt) (t : TS) : Prop :=
  ∀ (pins : List (Addr × Obj)) (s : Shared) (σ : St) (H : Hp) (D : Ends), Inv X pins σ H s → t D σ H → wpAny (model X.prog X.w) X.A (execs st X.env) (SP X pins D) X.xe s
theorem thn {α : Type} {t : Sem α} {Q Q' : α → Shared → Prop} {M : Model} {A : Around} {E : Value → Shared → Prop} {s : Shared} (h : wpAny M A t Q E s) (hQ : ∀ a s, Q a s → Q' a s) : wpAny M A t Q' E s := wpAny_mono h hQ fun _ _ x => x
end L2
namespace L2
open PySem PySem.Spec PyProof.Rows
section
variable {X : Cx}
noncomputable def tVar (i : Nat) : TE := fun σ H Q => ∃ v, σ[i]? = some (some v) ∧ Q v H
noncomputable def tC (v : V) : TE := fun _ H Q => Q v H
theorem pe_var {i : Nat} {x : Str} {pos : Pos} (hN : X.N[i]? = some x) (hv : Vis X.env.scope x) (hd : (x == ("__debug__" : Str)) = false := by decide) (hcd : (x == ("__classdict__" : Str)) = false := by decide) : PE X (.Name x pos) (tVar i) := by
  intro pins s σ H Q I h
  obtain ⟨v, e, h⟩ := h
  obtain ⟨m, hn, hl⟩ := I.loc
  obtain ⟨u, r, l⟩ := hl i x v hN e hv
  have fin : EP X pins σ Q u s := ⟨v, H, I, r, h⟩
  rcases l with ⟨hk, hm⟩ | ⟨hk, c, hc, hcell⟩
  · exact wpAny_Name (wpAny_loadName_local I.ok.kind hk hn hm fin) hd
  · rcases hk with hk | hk
    · exact wpAny_Name (wpAny_loadName_cell I.ok.kind hk hc hcell fin) hd
    · exact wpAny_Name (wpAny_loadName_free I.ok.kind hk hc hcell fin hcd) hd
theorem pe_int {i j pos} : PE X (.Constant (.int i) j pos) (tC (.int i)) := fun _ _ _ H _ I h => wpAny_Constant_int ⟨.int i, H, I.tok _, ⟨_, rfl⟩, h⟩
theorem pe_bl {b j pos} : PE X (.Constant (.bool b) j pos) (tC (.bl b)) := fun _ _ _ H _ I h => Constant_bool ⟨.bl b, H, I, rfl, h⟩
theorem pe_non {j pos} : PE X (.Constant .none j pos) (tC .non) := fun _ _ _ H _ I h => Constant_none ⟨.non, H, I, rfl, h⟩
theorem pe_str {x j pos} : PE X (.Constant (.str x) j pos) (tC (.str x)) := fun _ _ _ H _ I h => Calls.Constant_str ⟨.str x, H, I.tok _, ⟨_, rfl⟩, h⟩
noncomputable def Gl (X : Cx) (x : Str) : Prop := X.env.kindOf x = some .globalImplicit
theorem ld_glob {E : Value → Shared → Prop} {pins : List (Addr × Obj)} {s : Shared} {σ : St} {H : Hp} {x : Str} {u : Value} {pos : Pos} {Q : Value → Shared → Prop} (I : Inv X pins σ H s) (hg : Gl X x) (hm : X.mg x = some u) (h : Q u s)
    (hd : (x == ("__debug__" : Str)) = false := by decide) : wpAny (model X.prog X.w) X.A (eval (.Name x pos) X.env) Q E s :=
  Calls.Name_function_global I.ok.kind hg (Calls.loadGlobal_global (by rw [I.ok.glob]; exact I.mod.glob.keeps I.bk) hm h) hd
theorem ld_blt {E : Value → Shared → Prop} {pins : List (Addr × Obj)} {s : Shared} {σ : St} {H : Hp} {x : Str} {u : Value} {pos : Pos} {Q : Value → Shared → Prop} (I : Inv X pins σ H s) (hg : Gl X x) (hm : X.mg x = none) (hv : bootBuiltins x = some u) (h : Q u s)
    (hn : x ≠ "__name__" := by decide) (hd : (x == ("__debug__" : Str)) = false := by decide) : wpAny (model X.prog X.w) X.A (eval (.Name x pos) X.env) Q E s := by
  obtain ⟨mb, h1, h2⟩ := I.mod.blt
  exact Calls.Name_function_global I.ok.kind hg (Calls.loadGlobal_builtin (by rw [I.ok.glob]; exact I.mod.glob.keeps I.bk) hm (by rw [I.ok.blt]; exact h1.keeps I.bk) ((h2 x hn).trans hv) h) hd
theorem pe_glob {x : Str} {v : V} {u : Value} {pos : Pos} (hg : Gl X x) (hm : X.mg x = some u) (r : RelV v u) (hd : (x == ("__debug__" : Str)) = false := by decide) : PE X (.Name x pos) (tC v) :=
  fun _ _ _ H _ I h => ld_glob I hg hm ⟨v, H, I, r, h⟩ hd
theorem pe_bltn {x : Str} {v : V} {u : Value} {pos : Pos} (hg : Gl X x) (hm : X.mg x = none) (hv : bootBuiltins x = some u) (r : RelV v u) (hn : x ≠ "__name__" := by decide) (hd : (x == ("__debug__" : Str)) = false := by decide) : PE X (.Name x pos) (tC v) :=
  fun _ _ _ H _ I h => ld_blt I hg hm hv ⟨v, H, I, r, h⟩ hn hd
variable {a b : Expr} {ta tb : TE} {pos : Pos}
noncomputable def tB (t : TE) : TT := fun σ H Q => t σ H fun x H1 => ∃ c, x = .bl c ∧ Q c H1
theorem pt_val {e : Expr} {t : TE} (h : PE X e t) (he : ∀ whole, isTrue e X.env whole = (do let v ← whole; standAt e.pos; holding [v] (truthy v)) := by intro _; rfl) : PT X e (tB t) := by
  intro pins s σ H Q I hw
  refine isTrue_plain (thn (h pins s σ H _ I hw) fun v s1 ⟨x, H1, I1, r1, q1⟩ => ?_) (he _)
  obtain ⟨d, rfl, q⟩ := q1
  cases r1
  exact wpAny_truthy_bool ⟨H1, I1, q⟩
variable {tA tB' : TT} {rest : List Expr}
noncomputable def tAnd (t u : TT) : TT := fun σ H Q => t σ H fun c H1 => if c = true then u σ H1 Q else Q false H1
noncomputable def tOr (t u : TT) : TT := fun σ H Q => t σ H fun c H1 => if c = true then Q true H1 else u σ H1 Q
noncomputable def tNot (t : TT) : TT := fun σ H Q => t σ H fun c H1 => Q (!c) H1
theorem pw_and1 (ha : PT X a tA) : PW X (.BoolOp .And [a] pos) tA := by
  intro wh pins s σ H Q I h
  refine isTrue_and (thn (ha pins s σ H Q I h) fun c s1 e => ?_)
  cases c with
  | true => exact isTrue_and_nil e
  | false => exact e
theorem pw_or1 (ha : PT X a tA) : PW X (.BoolOp .Or [a] pos) tA := by
  intro wh pins s σ H Q I h
  refine isTrue_or (thn (ha pins s σ H Q I h) fun c s1 e => ?_)
  cases c with
  | false => exact isTrue_or_nil e
  | true => exact e
theorem pw_and (ha : PT X a tA) (hb : PW X (.BoolOp .And (b :: rest) pos) tB') : PW X (.BoolOp .And (a :: b :: rest) pos) (tAnd tA tB') := by
  intro wh pins s σ H Q I h
  refine isTrue_and (thn (ha pins s σ H _ I h) fun c s1 ⟨H1, I1, q1⟩ => ?_)
  cases c with
  | true => exact hb wh pins s1 σ H1 Q I1 q1
  | false => exact ⟨H1, I1, q1⟩
theorem pw_or (ha : PT X a tA) (hb : PW X (.BoolOp .Or (b :: rest) pos) tB') : PW X (.BoolOp .Or (a :: b :: rest) pos) (tOr tA tB') := by
  intro wh pins s σ H Q I h
  refine isTrue_or (thn (ha pins s σ H _ I h) fun c s1 ⟨H1, I1, q1⟩ => ?_)
  cases c with
  | true => exact ⟨H1, I1, q1⟩
  | false => exact hb wh pins s1 σ H1 Q I1 q1
theorem pt_not (ha : PT X a tA) : PT X (.UnaryOp .Not a pos) (tNot tA) := by
  intro pins s σ H Q I h
  exact isTrue_not (ha pins s σ H (fun c H1 => Q (!c) H1) I h)
noncomputable def tAndV (ta tb : TE) : TE := fun σ H Q => ta σ H fun x H1 => ∃ c, x = .bl c ∧ if c = true then tb σ H1 Q else Q (.bl false) H1
noncomputable def tOrV (ta tb : TE) : TE := fun σ H Q => ta σ H fun x H1 => ∃ c, x = .bl c ∧ if c = true then Q (.bl true) H1 else tb σ H1 Q
noncomputable def tNotV (ta : TE) : TE := fun σ H Q => ta σ H fun x H1 => ∃ c, x = .bl c ∧ Q (.bl (!c)) H1
theorem pe_one {op} {t : TE} (h : PE X a t) : PE X (.BoolOp op [a] pos) t := fun pins s σ H Q I hw => BoolOp_one (h pins s σ H Q I hw)
theorem pe_and (ha : PE X a ta) (hb : PE X (.BoolOp .And (b :: rest) pos) tb) : PE X (.BoolOp .And (a :: b :: rest) pos) (tAndV ta tb) := by
  intro pins s σ H Q I h
  refine BoolOp_and (thn (ha pins s σ H _ I h) fun v s1 ⟨x, H1, I1, r1, q1⟩ => ?_)
  obtain ⟨c, rfl, q1⟩ := q1
  cases r1
  refine wpAny_truthy_bool ?_
  cases c with
  | true => exact hb pins s1 σ H1 Q I1 q1
  | false => exact ⟨.bl false, H1, I1, rfl, q1⟩
theorem pe_or (ha : PE X a ta) (hb : PE X (.BoolOp .Or (b :: rest) pos) tb) : PE X (.BoolOp .Or (a :: b :: rest) pos) (tOrV ta tb) := by
  intro pins s σ H Q I h
  refine BoolOp_or (thn (ha pins s σ H _ I h) fun v s1 ⟨x, H1, I1, r1, q1⟩ => ?_)
  obtain ⟨c, rfl, q1⟩ := q1
  cases r1
  refine wpAny_truthy_bool ?_
  cases c with
  | false => exact hb pins s1 σ H1 Q I1 q1
  | true => exact ⟨.bl true, H1, I1, rfl, q1⟩
theorem pe_not (ha : PE X a ta) : PE X (.UnaryOp .Not a pos) (tNotV ta) := by
  intro pins s σ H Q I h
  refine UnaryOp_ (thn (ha pins s σ H _ I h) fun v s1 ⟨x, H1, I1, r1, q1⟩ => ?_)
  obtain ⟨c, rfl, q1⟩ := q1
  cases r1
  exact not_of (wpAny_truthy_bool ⟨.bl (!c), H1, I1, rfl, q1⟩)
noncomputable def tIf (t : TT) (ta tb : TE) : TE := fun σ H Q => t σ H fun c H1 => if c = true then ta σ H1 Q else tb σ H1 Q
theorem pe_ifExp {c : Expr} (hc : PT X c tA) (ha : PE X a ta) (hb : PE X b tb) : PE X (.IfExp c a b pos) (tIf tA ta tb) := by
  intro pins s σ H Q I h
  refine wpAny_IfExp (thn (hc pins s σ H _ I h) fun d s1 ⟨H1, I1, q1⟩ => ?_)
  cases d with
  | true => exact ha pins s1 σ H1 Q I1 q1
  | false => exact hb pins s1 σ H1 Q I1 q1
end
end L2
namespace L2
open PySem PySem.Spec PyProof.Rows
noncomputable def SqL (K : PySem.W.Frag) (H : Hp) (a : Addr) (xs : List V) : Prop :=
  Rd H a (.lst xs) ∨
    ∃ (o : Obj) (its : Array Value) (n : Nat), K.lookup a = some o ∧ o.cls = .type "list" ∧ o.dict = none ∧ o.data = .seq its n ∧ its.size ≤ sizeLine ∧ Vals xs its.toList
noncomputable def SqT (K : PySem.W.Frag) (H : Hp) (a : Addr) (xs : List V) : Prop :=
  Rd H a (.tup xs) ∨
    ∃ (o : Obj) (its : Array Value) (n : Nat), K.lookup a = some o ∧ o.cls = .type "tuple" ∧ o.data = .seq its n ∧ its.size ≤ sizeLine ∧ Vals xs its.toList
noncomputable def absV : Value → Option V
  | .none => some .non
  | .bool b => some (.bl b)
  | .int i _ => some (.int i)
  | .str x _ => some (.str x)
  | .bytes b _ => some (.byt b)
  | .float b _ => some (.flt b)
  | .ref a => some (.ref a)
  | .type n => some (.ty n)
  | _ => none
theorem RelV.abs {x : V} {u : Value} (r : RelV x u) : absV u = some x := by
  cases x with
  | non => cases r; rfl
  | bl _ => cases r; rfl
  | int _ => obtain ⟨t, rfl⟩ := r; rfl
  | str _ => obtain ⟨t, rfl⟩ := r; rfl
  | byt _ => obtain ⟨t, rfl⟩ := r; rfl
  | flt _ => obtain ⟨t, rfl⟩ := r; rfl
  | ref _ => cases r; rfl
  | ty _ => cases r; rfl
theorem RelV.inj {x y : V} {u : Value} (r : RelV x u) (q : RelV y u) : x = y := Option.some.inj (r.abs.symm.trans q.abs)
theorem Vals.inj : ∀ {xs ys : List V} {us : List Value}, Vals xs us → Vals ys us → xs = ys
  | _, _, _, .nil, .nil => rfl
  | _, _, _, .cons r t, .cons r' t' => by rw [r.inj r', Vals.inj t t']
section
variable {X : Cx} {pins : List (Addr × Obj)} {σ : St} {H : Hp} {s : Shared} {a : Addr} {xs ys : List V}
theorem SqL.of {K : PySem.W.Frag} (h : H a = some (.lst xs)) : SqL K H a xs := .inl (.inl h)
theorem SqT.of {K : PySem.W.Frag} (h : H a = some (.tup xs)) : SqT K H a xs := .inl (.inl h)
theorem Inv.list (I : Inv X pins σ H s) (h : SqL X.K H a xs) : ∃ its : List Value, Vals xs its ∧ PlainL s.heap a its.toArray ∧ xs.length ≤ sizeLine := by
  rcases h with h | ⟨o, its, n, hk, hc, hd, hs, hz, r⟩
  · obtain ⟨z, its, n, r, e⟩ := h.ok I.hok
    exact ⟨its, r, ⟨_, n, e, rfl, rfl, rfl⟩, z⟩
  · refine ⟨its.toList, r, ⟨o, n, I.kIn a o hk, hc, hd, by simpa using hs⟩, ?_⟩
    have e := r.length
    simp only [Array.length_toList] at e
    omega
theorem Inv.tuple (I : Inv X pins σ H s) (h : SqT X.K H a xs) : ∃ its : List Value, Vals xs its ∧ IsTup s.heap a its.toArray ∧ xs.length ≤ sizeLine := by
  rcases h with h | ⟨o, its, n, hk, hc, hs, hz, r⟩
  · obtain ⟨z, its, r, p⟩ := h.ok I.hok
    exact ⟨its, r, p, z⟩
  · refine ⟨its.toList, r, ⟨o, I.kIn a o hk, hc, n, by simpa using hs⟩, ?_⟩
    have e := r.length
    simp only [Array.length_toList] at e
    omega
theorem Inv.list_inj (I : Inv X pins σ H s) (h : SqL X.K H a xs) (h' : SqL X.K H a ys) : xs = ys := by
  obtain ⟨its, r, ⟨o, n, e, _, _, d⟩, _⟩ := I.list h
  obtain ⟨its', r', ⟨o', n', e', _, _, d'⟩, _⟩ := I.list h'
  rw [e] at e'; cases e'
  rw [d] at d'
  injection d' with d1 _
  have : its = its' := by simpa using congrArg Array.toList d1
  subst this
  exact r.inj r'
theorem Inv.tuple_inj (I : Inv X pins σ H s) (h : SqT X.K H a xs) (h' : SqT X.K H a ys) : xs = ys := by
  obtain ⟨its, r, ⟨o, e, _, n, d⟩, _⟩ := I.tuple h
  obtain ⟨its', r', ⟨o', e', _, n', d'⟩, _⟩ := I.tuple h'
  rw [e] at e'; cases e'
  rw [d] at d'
  injection d' with d1 _
  have : its = its' := by simpa using congrArg Array.toList d1
  subst this
  exact r.inj r'
end
noncomputable abbrev Cx.wish (X : Cx) (E : Value → Shared → Prop) : Cx := { X with xe := E }
noncomputable abbrev Cx.nox (X : Cx) : Cx := X.wish fun _ _ => False
theorem Cx.Ok.wish {X : Cx} (ok : X.Ok) (E : Value → Shared → Prop) : (X.wish E).Ok :=
  ⟨ok.mod, ok.kind, ok.glob, ok.blt, ok.above, ok.inj, ok.has, ok.cab, ok.hd, ok.frames, ok.stk, ok.exf, ok.bs, ok.bsz, ok.noex, ok.exfs, ok.funs, ok.frf⟩
theorem Cx.Ok.unwish {X : Cx} {E : Value → Shared → Prop} (ok : (X.wish E).Ok) : X.Ok :=
  ⟨ok.mod, ok.kind, ok.glob, ok.blt, ok.above, ok.inj, ok.has, ok.cab, ok.hd, ok.frames, ok.stk, ok.exf, ok.bs, ok.bsz, ok.noex, ok.exfs, ok.funs, ok.frf⟩
section
variable {X : Cx} {pins : List (Addr × Obj)} {σ : St} {H : Hp} {s : Shared} {E : Value → Shared → Prop}
theorem Inv.wish (I : Inv X pins σ H s) (E : Value → Shared → Prop) : Inv (X.wish E) pins σ H s := ⟨I.ok.wish E, I.os, I.bare, I.base, I.loc, I.cell, I.free, I.freeC, I.pin, I.hok, I.len⟩
theorem Inv.unwish (I : Inv (X.wish E) pins σ H s) : Inv X pins σ H s := ⟨I.ok.unwish, I.os, I.bare, I.base, I.loc, I.cell, I.free, I.freeC, I.pin, I.hok, I.len⟩
theorem SP.unwish {D : Ends} {f : Flow} {s' : Shared} (h : SP (X.wish E) pins D f s') : SP X pins D f s' := by
  cases f with
  | next => obtain ⟨σ', H', I, q⟩ := h; exact ⟨σ', H', I.unwish, q⟩
  | brk => obtain ⟨σ', H', I, q⟩ := h; exact ⟨σ', H', I.unwish, q⟩
  | cont => obtain ⟨σ', H', I, q⟩ := h; exact ⟨σ', H', I.unwish, q⟩
  | ret u => obtain ⟨v, σ', H', I, r, q⟩ := h; exact ⟨v, σ', H', I.unwish, r, q⟩
theorem PE.nox {e : Expr} {t : TE} (h : PE X.nox e t) : PE X e t := fun pins s σ H Q I hw =>
  wpAny_mono (h pins s σ H Q (I.wish _) hw) (fun _ _ ⟨v, H', I', r, q⟩ => ⟨v, H', I'.unwish, r, q⟩) fun _ _ z => False.elim z
theorem PT.nox {e : Expr} {t : TT} (h : PT X.nox e t) : PT X e t := fun pins s σ H Q I hw =>
  wpAny_mono (h pins s σ H Q (I.wish _) hw) (fun _ _ ⟨H', I', q⟩ => ⟨H', I'.unwish, q⟩) fun _ _ z => False.elim z
theorem PSs.nox {st : List Stmt} {t : TS} (h : PSs X.nox st t) : PSs X st t := fun pins s σ H D I hw =>
  wpAny_mono (h pins s σ H D (I.wish _) hw) (fun _ _ q => q.unwish) fun _ _ z => False.elim z
end
section
variable {X : Cx} {st : Stmt} {rest : List Stmt} {t u : TS} {e : Expr} {te : TE} {pos : Pos}
noncomputable def tNext : TS := fun D σ H => D.nx σ H
noncomputable def tSeq (t u : TS) : TS := fun D σ H => t { D with nx := u D } σ H
theorem pss_nil : PSs X [] tNext := fun _ _ σ H _ I h => wpAny_execs_nil ⟨σ, H, I, h⟩
theorem pss_cons (h1 : PS X st t) (h2 : PSs X rest u) : PSs X (st :: rest) (tSeq t u) := by
  intro pins s σ H D I h
  refine wpAny_execs_cons (thn (h1 pins s σ H { D with nx := u D } I h) fun f s1 q => ?_)
  cases f with
  | next =>
    obtain ⟨σ', H', I', q⟩ := q
    exact h2 pins s1 σ' H' D I' q
  | ret v => exact q
  | brk => exact q
  | cont => exact q
noncomputable def tBreak : TS := fun D σ H => D.bk σ H
theorem ps_break : PS X (.Break pos) tBreak := fun _ _ σ H _ I h => wpAny_Break ⟨σ, H, I, h⟩
theorem Inv.quiet {pins : List (Addr × Obj)} {σ : St} {H : Hp} {s : Shared} (I : Inv X pins σ H s) : interactive X.env = false := by simp [interactive, I.ok.kind]
noncomputable def tDrop (te : TE) : TS := fun D σ H => te σ H fun _ H1 => D.nx σ H1
theorem ps_expr (he : PE X e te) (hs : swapsWith e none pos.line X.env = pure false := by rfl) : PS X (.Expr e pos) (tDrop te) := by
  intro pins s σ H D I h
  exact wpAny_Expr_any (thn (he pins s σ H _ I h) fun v s1 ⟨x, H1, I1, r1, q1⟩ => ⟨σ, H1, I1, q1⟩) I.quiet hs
noncomputable def tRet (te : TE) : TS := fun D σ H => te σ H D.rt
theorem ps_ret (he : PE X e te) : PS X (.Return (some e) pos) (tRet te) := by
  intro pins s σ H D I h
  exact wpAny_Return_some (thn (he pins s σ H _ I h) fun v s1 ⟨x, H1, I1, r1, q1⟩ => ⟨x, σ, H1, I1, r1, q1⟩)
noncomputable def tIfS (c : TT) (t u : TS) : TS := fun D σ H => c σ H fun b H1 => if b = true then t D σ H1 else u D σ H1
theorem ps_if {c : Expr} {a b : List Stmt} {tc : TT} (hc : PT X c tc) (ha : PSs X a t) (hb : PSs X b u) : PS X (.If c a b pos) (tIfS tc t u) := by
  intro pins s σ H D I h
  refine wpAny_If (thn (hc pins s σ H _ I h) fun d s1 ⟨H1, I1, q1⟩ => ?_)
  cases d with
  | true => exact ha pins s1 σ H1 D I1 q1
  | false => exact hb pins s1 σ H1 D I1 q1
end
noncomputable abbrev TG := V → St → Hp → (St → Hp → Prop) → Prop
noncomputable abbrev TGs := List V → St → Hp → (St → Hp → Prop) → Prop
noncomputable def PG (X : Cx) (target : Expr) (t : TG) : Prop :=
  ∀ (pins : List (Addr × Obj)) (s : Shared) (σ : St) (H : Hp) (v : V) (u : Value) (Q : St → Hp → Prop), Inv X pins σ H s → RelV v u → t v σ H Q →
    wpAny (model X.prog X.w) X.A (assign target X.env u) (fun _ s' => ∃ σ' H', Inv X pins σ' H' s' ∧ Q σ' H') X.xe s
noncomputable def PGs (X : Cx) (ts : List Expr) (t : TGs) : Prop :=
  ∀ (pins : List (Addr × Obj)) (s : Shared) (σ : St) (H : Hp) (vs : List V) (us : List Value) (Q : St → Hp → Prop), Inv X pins σ H s → Vals vs us → t vs σ H Q →
    wpAny (model X.prog X.w) X.A (assignInOrder ((assignEach ts X.env).map (·.2)) us) (fun _ s' => ∃ σ' H', Inv X pins σ' H' s' ∧ Q σ' H') X.xe s
noncomputable abbrev TSet := V → V → V → Hp → (Hp → Prop) → Prop
noncomputable def PSet (X : Cx) (t : TSet) : Prop :=
  ∀ (pins : List (Addr × Obj)) (s : Shared) (σ : St) (H : Hp) (o i v : V) (ov iv u : Value) (Q : Hp → Prop), Inv X pins σ H s → RelV o ov → RelV i iv → RelV v u → t o i v H Q →
    wpAny (model X.prog X.w) X.A (setItem ov iv u) (fun _ s' => ∃ H', Inv X pins σ H' s' ∧ Q H') X.xe s
noncomputable abbrev TIp := V → V → Hp → VK → Prop
noncomputable def PIp (X : Cx) (op : Operator) (t : TIp) : Prop :=
  ∀ (pins : List (Addr × Obj)) (s : Shared) (σ : St) (H : Hp) (x y : V) (v u : Value) (Q : VK), Inv X pins σ H s → RelV x v → RelV y u → t x y H Q →
    wpAny (model X.prog X.w) X.A (inplaceOp op v u) (EP X pins σ Q) X.xe s
section
variable {X : Cx} {pos : Pos}
noncomputable def gName (i : Nat) : TG := fun v σ H Q => Q (σ.set i (some v)) H
theorem pg_name {i : Nat} {x : Str} (hN : X.N.Nodup) (hi : X.N[i]? = some x) (hx : Loc X.env.scope x) (hf : X.fn x = true ∨ X.env.scope.names.lookup x = some .local := by first | exact .inl rfl | exact .inr rfl | assumption) : PG X (.Name x pos) (gName i) := by
  intro pins s σ H v u Q I r h
  exact wpAny_assign_Name (store_ok I hN hi hx r (fun s' I' => ⟨_, H, I', h⟩) hf)
noncomputable def gNil : TGs := fun vs σ H Q => vs = [] ∧ Q σ H
noncomputable def gCons (t : TG) (u : TGs) : TGs := fun vs σ H Q => ∃ v r, vs = v :: r ∧ t v σ H fun σ' H' => u r σ' H' Q
theorem pgs_nil : PGs X [] gNil := by
  intro pins s σ H vs us Q I r h
  obtain ⟨e, h⟩ := h
  subst e
  cases r
  exact assignInOrder_nil ⟨σ, H, I, h⟩
theorem pgs_cons {e : Expr} {es : List Expr} {t : TG} {u : TGs} (h1 : PG X e t) (h2 : PGs X es u)
    (hs : (assignEach (e :: es) X.env).map (·.2) = assign e X.env :: (assignEach es X.env).map (·.2) := by rfl) : PGs X (e :: es) (gCons t u) := by
  intro pins s σ H vs us Q I r h
  obtain ⟨v, vr, e1, h⟩ := h
  subst e1
  cases r with
  | cons r rr =>
    rw [hs]
    refine assignInOrder_cons (thn (h1 pins s σ H _ _ _ I r h) fun _ s1 ⟨σ1, H1, I1, q1⟩ => ?_)
    exact h2 pins s1 σ1 H1 _ _ Q I1 rr q1
noncomputable def gSub (to ti : TE) (t : TSet) : TG := fun v σ H Q => to σ H fun o H1 => ti σ H1 fun i H2 => t o i v H2 fun H3 => Q σ H3
theorem pg_sub {o i : Expr} {to ti : TE} {t : TSet} (ho : PE X o to) (hi : PE X i ti) (hs : PSet X t)
    (ha : ∀ v, assign (.Subscript o i pos) X.env v = (do
      let ov ← holding [v] (eval o X.env)
      let iv ← holding [v, ov] (eval i X.env)
      standAt pos
      holding [v, ov, iv] (setItem ov iv v)
      release [v, ov, iv] []) := by intro _; rfl) : PG X (.Subscript o i pos) (gSub to ti t) := by
  intro pins s σ H v u Q I r h
  rw [ha]
  refine wpAny_bind (wpAny_holding (thn (ho pins s σ H _ I h) fun ov s1 ⟨x, H1, I1, r1, q1⟩ => ?_))
  refine wpAny_bind (wpAny_holding (thn (hi pins s1 σ H1 _ I1 q1) fun iv s2 ⟨y, H2, I2, r2, q2⟩ => ?_))
  refine wpAny_bind (wpAny_standAt (wpAny_bind (wpAny_holding (thn (hs pins s2 σ H2 x y v ov iv u _ I2 r1 r2 r q2) fun _ s3 ⟨H3, I3, q3⟩ => ?_))))
  exact wpAny_release ⟨σ, H3, I3, q3⟩
noncomputable def tAsg (te : TE) (g : TG) : TS := fun D σ H => te σ H fun x H1 => g x σ H1 D.nx
theorem ps_asg {tg e : Expr} {te : TE} {g : TG} (he : PE X e te) (hg : PG X tg g) (hs : swapsWithSole [tg] e pos.line X.env = pure false := by rfl) (hw : swappedStores [tg] e X.env = pure none := by rfl)
    (h1 : (assignEach [tg] X.env).map (·.2) = [assign tg X.env] := by rfl) : PS X (.Assign [tg] e pos) (tAsg te g) := by
  intro pins s σ H D I h
  refine wpAny_Assign_stores (thn (he pins s σ H _ I h) fun v s1 ⟨x, H1, I1, r1, q1⟩ => ?_) hs hw
  rw [h1]
  exact thn (hg pins s1 σ H1 x v _ I1 r1 q1) fun _ s2 q => q
theorem ps_set {i : Nat} {x : Str} {e : Expr} {te : TE} {pos' : Pos} (hN : X.N.Nodup) (hi : X.N[i]? = some x) (hx : Loc X.env.scope x) (he : PE X e te) (hs : swapsWith e (some (.Name x pos')) pos.line X.env = pure false := by rfl) (hf : X.fn x = true ∨ X.env.scope.names.lookup x = some .local := by first | exact .inl rfl | exact .inr rfl | assumption) :
    PS X (.Assign [.Name x pos'] e pos) (tAsg te (gName i)) := by
  intro pins s σ H D I h
  refine wpAny_Assign_Name (thn (he pins s σ H _ I h) fun v s1 ⟨y, H1, I1, r1, q1⟩ => ?_) hs
  exact store_ok I1 hN hi hx r1 (fun s2 I2 => ⟨_, H1, I2, q1⟩) hf
noncomputable def tAug (i : Nat) (te : TE) (ti : TIp) : TS := fun D σ H => ∃ x, σ[i]? = some (some x) ∧ te σ H fun y H1 => ti x y H1 fun z H2 => D.nx (σ.set i (some z)) H2
theorem ps_aug {i : Nat} {x : Str} {e : Expr} {te : TE} {op : Operator} {ti : TIp} {pos' : Pos} (hN : X.N.Nodup) (hi : X.N[i]? = some x) (hx : Loc X.env.scope x) (he : PE X e te) (ho : PIp X op ti) (hf : X.fn x = true ∨ X.env.scope.names.lookup x = some .local := by first | exact .inl rfl | exact .inr rfl | assumption) :
    PS X (.AugAssign (.Name x pos') op e pos) (tAug i te ti) := by
  intro pins s σ H D I h
  obtain ⟨v, e1, h⟩ := h
  obtain ⟨m, hn, hl⟩ := I.loc
  have vis : Vis X.env.scope x := by rcases hx with k | k; exact .inl k; exact .inr (.inl k)
  obtain ⟨u, r, l⟩ := hl i x v hi e1 vis
  refine wpAny_AugAssign_Name ?_
  have go : wpAny (model X.prog X.w) X.A (eval e X.env) (fun w s₂ => wpAny (model X.prog X.w) X.A (inplaceOp op u w) (fun r s₃ => wpAny (model X.prog X.w) X.A (storeName X.env x r) (fun _ => SP X pins D .next) X.xe s₃) X.xe s₂) X.xe s := by
    refine thn (he pins s σ H _ I h) fun w s1 ⟨y, H1, I1, r1, q1⟩ => ?_
    refine thn (ho pins s1 σ H1 v y u w _ I1 r r1 q1) fun z s2 ⟨zv, H2, I2, r2, q2⟩ => ?_
    exact store_ok I2 hN hi hx r2 (fun s3 I3 => ⟨_, H2, I3, q2⟩) hf
  rcases l with ⟨hk, hm⟩ | ⟨hk, c, hc, hcell⟩
  · exact wpAny_loadName_local I.ok.kind hk hn hm go
  · rcases hk with hk | hk
    · exact wpAny_loadName_cell I.ok.kind hk hc hcell go
    · rcases hx with k | k
      · have : X.env.scope.names.lookup x = some .free := hk
        rw [k] at this; cases this
      · have : X.env.scope.names.lookup x = some .free := hk
        rw [k] at this; cases this
end
section
variable {X : Cx} {pos : Pos}
noncomputable def tWhile (c : TT) (tb : TS) : TS := fun D σ H => ∃ W : Nat → St → Hp → Prop, (∃ m, W m σ H) ∧ ∀ m σ H, W m σ H →
  c σ H fun b H1 => if b = true then ∃ N : St → Hp → Prop, (∀ σ' H', N σ' H' → ∃ m', m' < m ∧ W m' σ' H') ∧ tb { D with nx := N, ct := N, bk := D.nx } σ H1 else D.nx σ H1
theorem ps_while {c : Expr} {body : List Stmt} {tc : TT} {tb : TS} (hp : PassesOwn (model X.prog X.w) X.A X.env X.xe) (hc : PT X c tc) (hb : PSs X body tb) : PS X (.While c body [] pos) (tWhile tc tb) := by
  intro pins s σ H D I h
  obtain ⟨W, ⟨m0, w0⟩, turn⟩ := h
  refine wpAny_While (codeAny_whileLoop (fun n s' => ∃ σ' H', Inv X pins σ' H' s' ∧ W n σ' H') ?_ m0 ⟨σ, H, I, w0⟩)
  rintro n s1 ⟨σ1, H1, I1, w1⟩
  refine wpAny_passesOwn hp (thn (hc pins s1 σ1 H1 _ I1 (turn n σ1 H1 w1)) fun b s2 ⟨H2, I2, q2⟩ => ?_)
  cases b with
  | true =>
    obtain ⟨N, hN, q2⟩ := q2
    rw [if_pos rfl]
    refine wpAny_passesOwn hp (thn (hb pins s2 σ1 H2 _ I2 q2) fun f s3 q3 => ?_)
    cases f with
    | next =>
      obtain ⟨σ3, H3, I3, n3⟩ := q3
      obtain ⟨m', hm, w3⟩ := hN σ3 H3 n3
      exact ⟨m', hm, σ3, H3, I3, w3⟩
    | cont =>
      obtain ⟨σ3, H3, I3, n3⟩ := q3
      obtain ⟨m', hm, w3⟩ := hN σ3 H3 n3
      exact ⟨m', hm, σ3, H3, I3, w3⟩
    | brk => exact q3
    | ret v => exact q3
  | false =>
    rw [if_neg Bool.false_ne_true]
    exact wpAny_execs_nil ⟨σ1, H2, I2, q2⟩
end
structure It where
  go : Nat → Hp → Prop
  yld : Nat → Hp → V → Hp → Prop
  stop : Nat → Hp → Prop
noncomputable def FpOk (X : Cx) (pins : List (Addr × Obj)) (H : Hp) (b : Addr) : Prop :=
  H b = none ∧ b ≠ X.env.locals ∧ b ∉ X.fs ∧ (b ∈ X.ex ∨ X.s₀.heap.objs.size ≤ b) ∧ (∀ x c, X.env.cells.lookup x = some c → c ≠ b) ∧ ∀ p ∈ X.pn ++ pins, p.1 ≠ b
theorem Inv.fpOk {X : Cx} {pins : List (Addr × Obj)} {σ : St} {H H' : Hp} {s : Shared} {b : Addr} (I : Inv X pins σ H s) (hb : s.heap.objs.size ≤ b) (hn : H' b = none) : FpOk X pins H' b := by
  refine ⟨hn, Nat.ne_of_gt (Nat.lt_of_lt_of_le I.lt hb), I.nofs hb, .inr (Nat.le_trans I.sz hb), fun x c e z => ?_, fun p hp z => ?_⟩
  · obtain ⟨v, q⟩ := I.cell x c e
    exact absurd (Nat.lt_of_lt_of_le q.lt (by rw [z]; exact hb)) (Nat.lt_irrefl _)
  · exact absurd (Nat.lt_of_lt_of_le (Heap.lt_size (I.pin p hp).1) (by rw [z]; exact hb)) (Nat.lt_irrefl _)
structure Turn (P : Program) (w : World) (K : PySem.W.Frag) (tg : Expr) (J : It) (fp : List Addr) (it : Addr) (tn : Nat → Heap → Prop) : Prop where
  mem : it ∈ fp
  obj : ∀ i h, tn i h → ∀ b ∈ fp, ∃ o, h.get? b = some o ∧ ∀ v, o.data ≠ .cell v
  keep : ∀ i h h', tn i h → (∀ b ∈ fp, ∀ o, h.get? b = some o → h'.get? b = some o) → tn i h'
  item : ∀ (X : Cx), X.prog = P → X.w = w → X.K = K → X.calm = true → ∀ (i : Nat) (pins : List (Addr × Obj)) (s : Shared) (σ : St) (H : Hp) (E : Value → Shared → Prop), Inv X pins σ H s → (∀ b ∈ fp, FpOk X pins H b) → tn i s.heap → J.go i H →
    wpAny (model P w) X.A (pyNext (.ref it)) (fun r s1 => ∃ u, r = some u ∧
      wpAny (model P w) X.A (letOwnedTupleGo tg (.ref it) u) (fun _ s2 => ∃ x H', Inv X pins σ H' s2 ∧ RelV x u ∧ J.yld i H x H' ∧ tn (i + 1) s2.heap ∧ ∀ b ∈ fp, H' b = none) E s1) E s
  done : ∀ (X : Cx), X.prog = P → X.w = w → X.K = K → X.calm = true → ∀ (i : Nat) (pins : List (Addr × Obj)) (s : Shared) (σ : St) (H : Hp) (E : Value → Shared → Prop), Inv X pins σ H s → (∀ b ∈ fp, FpOk X pins H b) → tn i s.heap → J.stop i H →
    wpAny (model P w) X.A (pyNext (.ref it)) (fun r s1 => r = none ∧ Inv X pins σ H s1) E s
  self : ∀ (A : Around) (i : Nat) (s : Shared) (Q : Value → Shared → Prop) (E : Value → Shared → Prop), tn i s.heap → Q (.ref it) s → wpAny (model P w) A (pyIter (.ref it)) Q E s
noncomputable abbrev TI := St → Hp → (It → Hp → Prop) → Prop
noncomputable def PIE (X : Cx) (pins : List (Addr × Obj)) (σ : St) (tg : Expr) (R : It → Hp → Prop) (itv : Value) (s2 : Shared) : Prop :=
  ∃ (it : Addr) (fp : List Addr) (tn : Nat → Heap → Prop) (J : It) (H' : Hp), itv = .ref it ∧ Inv X pins σ H' s2 ∧ Turn X.prog X.w X.K tg J fp it tn ∧ tn 0 s2.heap ∧ (∀ b ∈ fp, FpOk X pins H' b) ∧ R J H'
noncomputable def PI (X : Cx) (tg iter : Expr) (wi : TI) : Prop :=
  ∀ (pins : List (Addr × Obj)) (s : Shared) (σ : St) (H : Hp) (R : It → Hp → Prop), Inv X pins σ H s → wi σ H R →
    wpAny (model X.prog X.w) X.A (eval iter X.env) (fun v s1 => wpAny (model X.prog X.w) X.A (pyIter v) (PIE X pins σ tg R) X.xe s1) X.xe s
theorem go_of {M : Model} {A : Around} {E : Value → Shared → Prop} {s : Shared} {tg : Expr} {it : Addr} {u : Value} {o : Obj} {n : String} {vs : Array Value} {Q : Unit → Shared → Prop} (ho : s.heap.get? it = some o) (hc : o.cls = .type n) (hd : o.data = .fields vs)
    (hn : ["enumerate", "zip", "dict_itemiterator", "dict_reverseitemiterator", "odict_iterator", "itertools.zip_longest", "itertools.pairwise"].contains n = false) (hQ : Q () s) : wpAny M A (letOwnedTupleGo tg (.ref it) u) Q E s := by
  unfold letOwnedTupleGo
  cases tg <;> first
    | exact wpAny_pure hQ
    | (cases u <;> first
        | exact wpAny_pure hQ
        | (refine wpAny_bind (wpAny_load ho ?_)
           rw [hc, hd]
           show wpAny M A (if (["enumerate", "zip", "dict_itemiterator", "dict_reverseitemiterator", "odict_iterator", "itertools.zip_longest", "itertools.pairwise"].contains n && vs[0]? == some (rawInt _)) = true then _ else _) Q E s
           rw [if_neg (by intro h; rw [hn, Bool.false_and] at h; cases h)]
           exact wpAny_pure hQ))
noncomputable def Itl (K : PySem.W.Frag) (a : Addr) : It :=
  ⟨fun i H => ∃ xs x, SqL K H a xs ∧ xs[i]? = some x, fun i H x H' => H' = H ∧ ∀ xs, SqL K H a xs → xs[i]? = some x, fun i H => ∃ xs, SqL K H a xs ∧ xs.length ≤ i⟩
noncomputable def Itt (K : PySem.W.Frag) (a : Addr) : It :=
  ⟨fun i H => ∃ xs x, SqT K H a xs ∧ xs[i]? = some x, fun i H x H' => H' = H ∧ ∀ xs, SqT K H a xs → xs[i]? = some x, fun i H => ∃ xs, SqT K H a xs ∧ xs.length ≤ i⟩
noncomputable def Itr (lo : Int) (n : Nat) : It := ⟨fun i _ => i < n, fun i H x H' => H' = H ∧ x = .int (lo + i), fun i _ => n ≤ i⟩
theorem turn_list {P : Program} {w : World} {K : PySem.W.Frag} {tg : Expr} (a it : Addr) : Turn P w K tg (Itl K a) [it] it (fun i h => h.IsListIter it a i) where
  mem := by simp
  obj := fun i h st b hb => by
    have e : b = it := by simpa using hb
    subst e
    obtain ⟨o, e, c, d⟩ := st
    exact ⟨o, e, fun v z => by rw [d] at z; cases z⟩
  keep := fun i h h' st k => st.at fun o e => k it (by simp) o e
  item := by
    intro X hP hw hK hc i pins s σ H E I hf st hg
    subst hP hw hK
    obtain ⟨xs, x, hq, hx⟩ := hg
    obtain ⟨its, rv, p, hz⟩ := I.list hq
    obtain ⟨u, hu, ru⟩ := rv.get hx
    obtain ⟨f0, f1, f2, f3, f4, f5⟩ := hf it (by simp)
    refine wpAny_pyNext_list_item st p.isList (x := u) (by simpa using hu) fun h' st' sb => ?_
    have I1 : Inv X pins σ H { s with heap := h' } := I.turned (t' := s.toks) (fun b o hb e => (sb.2 b hb).trans e) f0 f1 f3 f4 f5
    obtain ⟨o, e, c, d⟩ := id st'
    exact ⟨u, rfl, go_of (s := { s with heap := h' }) e c d (by decide) ⟨x, H, I1, ru, ⟨rfl, fun ys hy => by rw [I.list_inj hy hq]; exact hx⟩, st', fun b hb => (hf b hb).1⟩⟩
  done := by
    intro X hP hw hK hc i pins s σ H E I hf st hg
    subst hP hw hK
    obtain ⟨xs, hq, hx⟩ := hg
    obtain ⟨its, rv, p, hz⟩ := I.list hq
    obtain ⟨f0, f1, f2, f3, f4, f5⟩ := hf it (by simp)
    have hl := rv.length
    exact wpAny_pyNext_list_end (I.ok.hd hc) st p.isList (by simp; omega) fun h' eb => ⟨rfl, I.turned (t' := s.toks) (fun b o hb e => eb b o hb e) f0 f1 f3 f4 f5⟩
  self := fun _ _ _ _ _ st h => wpAny_pyIter_listiter st h
theorem turn_tuple {P : Program} {w : World} {K : PySem.W.Frag} {tg : Expr} (a it : Addr) : Turn P w K tg (Itt K a) [it] it (fun i h => h.IsTupleIter it a i) where
  mem := by simp
  obj := fun i h st b hb => by
    have e : b = it := by simpa using hb
    subst e
    obtain ⟨o, e, c, d⟩ := st
    exact ⟨o, e, fun v z => by rw [d] at z; cases z⟩
  keep := fun i h h' st k => st.at fun o e => k it (by simp) o e
  item := by
    intro X hP hw hK hc i pins s σ H E I hf st hg
    subst hP hw hK
    obtain ⟨xs, x, hq, hx⟩ := hg
    obtain ⟨its, rv, p, hz⟩ := I.tuple hq
    obtain ⟨u, hu, ru⟩ := rv.get hx
    obtain ⟨f0, f1, f2, f3, f4, f5⟩ := hf it (by simp)
    refine wpAny_pyNext_tuple_item st (show s.heap.IsTuple a its.toArray from p) (x := u) (by simpa using hu) fun h' st' sb => ?_
    have I1 : Inv X pins σ H { s with heap := h' } := I.turned (t' := s.toks) (fun b o hb e => (sb.2 b hb).trans e) f0 f1 f3 f4 f5
    obtain ⟨o, e, c, d⟩ := id st'
    exact ⟨u, rfl, go_of (s := { s with heap := h' }) e c d (by decide) ⟨x, H, I1, ru, ⟨rfl, fun ys hy => by rw [I.tuple_inj hy hq]; exact hx⟩, st', fun b hb => (hf b hb).1⟩⟩
  done := by
    intro X hP hw hK hc i pins s σ H E I hf st hg
    subst hP hw hK
    obtain ⟨xs, hq, hx⟩ := hg
    obtain ⟨its, rv, p, hz⟩ := I.tuple hq
    obtain ⟨f0, f1, f2, f3, f4, f5⟩ := hf it (by simp)
    have hl := rv.length
    exact wpAny_pyNext_tuple_end (I.ok.hd hc) st (show s.heap.IsTuple a its.toArray from p) (by simp; omega) fun h' eb => ⟨rfl, I.turned (t' := s.toks) (fun b o hb e => eb b o hb e) f0 f1 f3 f4 f5⟩
  self := fun _ _ _ _ _ st h => wpAny_pyIter_tupleiter st h
theorem turn_range {P : Program} {w : World} {K : PySem.W.Frag} {tg : Expr} (it : Addr) (lo : Int) (n : Nat) : Turn P w K tg (Itr lo n) [it] it (fun i h => IsRangeIter h it (lo + (i : Nat) * 1) ((n : Int) - (i : Nat)) 1) where
  mem := by simp
  obj := fun i h st b hb => by
    have e : b = it := by simpa using hb
    subst e
    exact ⟨_, st, fun v z => by
      have z' : Data.fields _ = Data.cell v := z
      cases z'⟩
  keep := fun i h h' st k => k it (by simp) _ st
  item := by
    intro X hP hw hK hc i pins s σ H E I hf st hg
    subst hP hw hK
    obtain ⟨f0, f1, f2, f3, f4, f5⟩ := hf it (by simp)
    have W := Walks.range (prog := X.prog) (w := X.w) (I.ok.hd hc) it lo 1 n
    refine W.item i s _ _ hg st fun v h' tk hv st' kk => ?_
    obtain ⟨t, rfl⟩ := hv
    have I1 : Inv X pins σ H { s with heap := h', toks := tk } := I.turned (fun b o hb e => kk b o (by simpa using hb) e) f0 f1 f3 f4 f5
    refine ⟨_, rfl, go_of (s := { s with heap := h', toks := tk }) (n := "range_iterator") st' rfl rfl (by decide) ⟨.int (lo + i), H, I1, ⟨t, ?_⟩, ⟨rfl, rfl⟩, st', fun b hb => (hf b hb).1⟩⟩
    rw [Int.mul_one]
  done := by
    intro X hP hw hK hc i pins s σ H E I hf st hg
    subst hP hw hK
    obtain ⟨f0, f1, f2, f3, f4, f5⟩ := hf it (by simp)
    exact wpAny_pyNext_range_end (I.ok.hd hc) st (by have : n ≤ i := hg; omega) fun h' eb => ⟨rfl, I.turned (t' := s.toks) (fun b o hb e => eb b o hb e) f0 f1 f3 f4 f5⟩
  self := fun _ _ _ _ _ st h => wpAny_pyIter_rangeiter st h
end L2
namespace L2
open PySem PySem.Spec PyProof.Rows
section
variable {X : Cx} {tg : Expr}
theorem range_it {pins : List (Addr × Obj)} {σ : St} {H : Hp} {s : Shared} {R : It → Hp → Prop} {E : Value → Shared → Prop} {lo hi : Int} {t u v : Tok} {tk : Nat} (I : Inv X pins σ H s) (h1 : -(2 ^ 62) ≤ lo) (h2 : lo < 2 ^ 62) (h3 : -(2 ^ 62) ≤ hi) (h4 : hi < 2 ^ 62)
    (q : R (Itr lo (hi - lo).toNat) H) : wpAny (model X.prog X.w) X.A (pyIter (.ref s.heap.objs.size)) (PIE X pins σ tg R) E { s with heap := s.heap.push { cls := .type "range", data := .fields #[.int lo t, .int hi u, .int 1 v] }, toks := tk } := by
  refine wpAny_pyIter_range (IsRange.new ..) (small_one h1 h2 h3 h4) ?_
  have I1 : Inv X pins σ H { s with heap := s.heap.push { cls := .type "range", data := .fields #[.int lo t, .int hi u, .int 1 v] }, toks := tk } := I.kept fun b o e => Heap.get?_push_of_some _ e
  refine ⟨(s.heap.push { cls := .type "range", data := .fields #[.int lo t, .int hi u, .int 1 v] }).objs.size, [(s.heap.push { cls := .type "range", data := .fields #[.int lo t, .int hi u, .int 1 v] }).objs.size], _, _, H, rfl,
    I1.kept (t' := tk) fun b o e => Heap.get?_push_of_some _ e, turn_range _ lo (hi - lo).toNat, ?_, fun b hb => ?_, q⟩
  · have e1 : lo + ((0 : Nat) : Int) * 1 = lo := by simp
    have e2 : (((hi - lo).toNat : Nat) : Int) - ((0 : Nat) : Int) = Builtin.Range.rangeSize lo hi 1 := by rw [rangeSize_one]; split <;> omega
    show IsRangeIter _ _ (lo + ((0 : Nat) : Int) * 1) ((((hi - lo).toNat : Nat) : Int) - ((0 : Nat) : Int)) 1
    rw [e1, e2]
    exact Heap.get?_push_size _ rfl
  · have e : b = (s.heap.push { cls := .type "range", data := .fields #[.int lo t, .int hi u, .int 1 v] }).objs.size := by simpa using hb
    subst e
    exact I1.fpOk (Nat.le_refl _) (I1.hok.fresh (Nat.le_refl _))
noncomputable def iRng1 (ta : TA) : TI := fun σ H R => ta σ H fun vs H1 => ∃ j : Int, vs = [.int j] ∧ -(2 ^ 62) ≤ j ∧ j < 2 ^ 62 ∧ R (Itr 0 j.toNat) H1
theorem pi_range1 {a : Expr} {ta : TA} {p pos : Pos} (hg : Gl X "range") (hm : X.mg "range" = none) (ha : PA X [a] ta) (hs : starEach [a] X.env = [(false, eval a X.env)] := by rfl) : PI X tg (.Call (.Name "range" p) [a] [] pos) (iRng1 ta) := by
  intro pins s σ H R I h
  refine Call_ (ld_blt I hg hm boot_range (PyProof.Rows.callWith_type1 (thn (ha pos pins s σ H _ I h) fun us s1 ⟨vs, H1, I1, r1, q1⟩ => ?_) hs rfl))
  obtain ⟨j, e, q1, q2, q⟩ := q1
  subst e
  cases r1 with
  | cons r rr =>
    cases rr
    obtain ⟨t, rfl⟩ := r
    exact call_range_1 (range_it I1 (by omega) (by omega) q1 q2 (by simpa using q))
noncomputable def tFor (wi : TI) (g : TG) (tb : TS) : TS := fun D σ H => wi σ H fun J H1 => ∃ W : Nat → Nat → St → Hp → Prop, (∃ m, W 0 m σ H1) ∧ ∀ i m σ H, W i m σ H →
  (J.stop i H ∧ D.nx σ H) ∨ (J.go i H ∧ ∃ N : St → Hp → Prop, (∀ σ' H', N σ' H' → ∃ m', m' < m ∧ W (i + 1) m' σ' H') ∧ ∀ x H', J.yld i H x H' → g x σ H' fun σ2 H2 => tb { D with nx := N, ct := N, bk := D.nx } σ2 H2)
noncomputable def pinsAt (fp : List Addr) (h : Heap) : List (Addr × Obj) := fp.filterMap fun b => (h.get? b).map fun o => (b, o)
theorem mem_pinsAt {fp : List Addr} {h : Heap} {b : Addr} {o : Obj} (hb : b ∈ fp) (e : h.get? b = some o) : (b, o) ∈ pinsAt fp h := List.mem_filterMap.mpr ⟨b, hb, by rw [e]; rfl⟩
theorem of_pinsAt {fp : List Addr} {h : Heap} {p : Addr × Obj} (hp : p ∈ pinsAt fp h) : p.1 ∈ fp ∧ h.get? p.1 = some p.2 := by
  obtain ⟨b, hb, e⟩ := List.mem_filterMap.mp hp
  cases q : h.get? b with
  | none => rw [q] at e; cases e
  | some o =>
    rw [q] at e
    have e' : (b, o) = p := Option.some.inj e
    subst e'
    exact ⟨hb, q⟩
theorem Inv.pinned {pins : List (Addr × Obj)} {σ : St} {H : Hp} {s : Shared} {fp : List Addr} (I : Inv X pins σ H s) (hf : ∀ b ∈ fp, FpOk X pins H b) (ho : ∀ b ∈ fp, ∃ o, s.heap.get? b = some o ∧ ∀ v, o.data ≠ .cell v) : Inv X (pins ++ pinsAt fp s.heap) σ H s :=
  I.pins_of fun p hp => (List.mem_append.mp hp).elim (fun z => I.pin p (List.mem_append_right _ z)) fun z => by
    obtain ⟨hb, e⟩ := of_pinsAt z
    obtain ⟨f0, f1, f2, _⟩ := hf p.1 hb
    obtain ⟨o, e', d⟩ := ho p.1 hb
    rw [e] at e'; cases e'
    exact ⟨e, f0, f1, f2, d⟩
theorem Inv.unpinned {pins pl : List (Addr × Obj)} {σ : St} {H : Hp} {s : Shared} (I : Inv X (pins ++ pl) σ H s) : Inv X pins σ H s := I.pins_of fun p hp => I.pin p (List.mem_append_right _ (List.mem_append_left _ hp))
theorem ps_for {iter : Expr} {body : List Stmt} {wi : TI} {g : TG} {tb : TS} {pos : Pos} (hp : PassesOwn (model X.prog X.w) X.A X.env X.xe) (hc : X.calm = true) (hi : PI X tg iter wi) (hg : PG X tg g) (hb : PSs X body tb)
    (hs : ∀ x, foldedSetIterable iter X.env x = pure x := by intro _; rfl) : PS X (.For tg iter body [] pos) (tFor wi g tb) := by
  intro pins s σ H D I h
  refine wpAny_For (thn (hi pins s σ H _ I h) fun v s1 h1 => thn h1 fun itv s2 h2 => ?_) hs
  obtain ⟨it, fp, tn, J, H2, e, I2, T, st2, f2, W, ⟨m0, w0⟩, turn⟩ := h2
  subst e
  -- what stays true of the iterator's objects through the loop
  have stat : ∀ {H' : Hp}, (∀ b ∈ fp, H' b = none) → ∀ b ∈ fp, FpOk X pins H' b := fun hn b hb => ⟨hn b hb, (f2 b hb).2⟩
  refine codeAny_forLoop_any (fun n s' => ∃ i σ' H', Inv X pins σ' H' s' ∧ tn i s'.heap ∧ (∀ b ∈ fp, H' b = none) ∧ W i n σ' H') ?_ m0 ⟨0, σ, H2, I2, st2, fun b hb => (f2 b hb).1, w0⟩
  rintro n s3 ⟨i, σ3, H3, I3, st3, fr3, w3⟩
  rcases turn i n σ3 H3 w3 with ⟨stop, qn⟩ | ⟨go, N, hN, step⟩
  · refine wpAny_passesOwn hp (thn (T.done X rfl rfl rfl hc i pins s3 σ3 H3 X.xe I3 (stat fr3) st3 stop) fun r s4 ⟨hr, I4⟩ => ?_)
    subst hr
    exact wpAny_execs_nil ⟨σ3, H3, I4, qn⟩
  · refine wpAny_passesOwn hp (thn (T.item X rfl rfl rfl hc i pins s3 σ3 H3 X.xe I3 (stat fr3) st3 go) fun r s4 ⟨u, hr, h4⟩ => ?_)
    subst hr
    refine wpAny_passesOwn hp (thn h4 fun _ s5 ⟨x, H5, I5, r5, y5, st5, fr5⟩ => ?_)
    have I5' := I5.pinned (stat fr5) (T.obj _ _ st5)
    refine wpAny_passesOwn hp (thn (hg _ s5 σ3 H5 x u _ I5' r5 (step x H5 y5)) fun _ s6 ⟨σ6, H6, I6, q6⟩ => ?_)
    refine wpAny_passesOwn hp (thn (hb _ s6 σ6 H6 _ I6 q6) fun f s7 q7 => ?_)
    have again : ∀ {σ7 : St} {H7 : Hp}, Inv X (pins ++ pinsAt fp s5.heap) σ7 H7 s7 → N σ7 H7 → ∃ m, m < n ∧ ∃ i σ' H', Inv X pins σ' H' s7 ∧ tn i s7.heap ∧ (∀ b ∈ fp, H' b = none) ∧ W i m σ' H' := fun {σ7 H7} I7 n7 => by
      obtain ⟨m', hm, w7⟩ := hN σ7 H7 n7
      refine ⟨m', hm, i + 1, σ7, H7, I7.unpinned, T.keep _ _ _ st5 fun b hb o e => (I7.pin (b, o) (List.mem_append_right _ (List.mem_append_right _ (mem_pinsAt hb e)))).1, fun b hb => ?_, w7⟩
      obtain ⟨o, e, d⟩ := T.obj _ _ st5 b hb
      exact (I7.pin (b, o) (List.mem_append_right _ (List.mem_append_right _ (mem_pinsAt hb e)))).2.1
    cases f with
    | next => obtain ⟨σ7, H7, I7, n7⟩ := q7; exact again I7 n7
    | cont => obtain ⟨σ7, H7, I7, n7⟩ := q7; exact again I7 n7
    | brk => obtain ⟨σ7, H7, I7, q7⟩ := q7; exact ⟨σ7, H7, I7.unpinned, q7⟩
    | ret v => obtain ⟨x7, σ7, H7, I7, r7, q7⟩ := q7; exact ⟨x7, σ7, H7, I7.unpinned, r7, q7⟩
end
end L2
namespace L2
open PySem PySem.Spec PyProof.Rows
noncomputable abbrev R2 := V → V → Hp → VK → Prop
noncomputable def OpR (X : Cx) (f : Value → Value → Sem Value) (r : R2) : Prop :=
  ∀ (pins : List (Addr × Obj)) (s : Shared) (σ : St) (H : Hp) (x y : V) (v u : Value) (Q : VK), Inv X pins σ H s → RelV x v → RelV y u → r x y H Q →
    wpAny (model X.prog X.w) X.A (f v u) (EP X pins σ Q) X.xe s
noncomputable def UnR (X : Cx) (f : Value → Sem Value) (r : V → Hp → VK → Prop) : Prop :=
  ∀ (pins : List (Addr × Obj)) (s : Shared) (σ : St) (H : Hp) (x : V) (v : Value) (Q : VK), Inv X pins σ H s → RelV x v → r x H Q →
    wpAny (model X.prog X.w) X.A (f v) (EP X pins σ Q) X.xe s
noncomputable def CallR (X : Cx) (f : Value) (r : List V → Hp → VK → Prop) : Prop :=
  ∀ (pins : List (Addr × Obj)) (s : Shared) (σ : St) (H : Hp) (xs : List V) (us : List Value) (Q : VK), Inv X pins σ H s → Vals xs us → r xs H Q →
    wpAny (model X.prog X.w) X.A (call f us) (EP X pins σ Q) X.xe s
noncomputable def tOp (r : R2) (ta tb : TE) : TE := fun σ H Q => ta σ H fun x H1 => tb σ H1 fun y H2 => r x y H2 Q
noncomputable def tUn (r : V → Hp → VK → Prop) (ta : TE) : TE := fun σ H Q => ta σ H fun x H1 => r x H1 Q
noncomputable def rI (C : Int → Int → Prop) (g : Int → Int → V) : R2 := fun x y H Q => ∃ i j, x = .int i ∧ y = .int j ∧ C i j ∧ Q (g i j) H
noncomputable def rI0 (g : Int → Int → V) : R2 := fun x y H Q => ∃ i j, x = .int i ∧ y = .int j ∧ Q (g i j) H
noncomputable def rU (g : Int → V) : V → Hp → VK → Prop := fun x H Q => ∃ i, x = .int i ∧ Q (g i) H
section
variable {X : Cx} {a b c : Expr} {ta tb tc : TE} {pos : Pos}
theorem binT (ha : PE X a ta) (hb : PE X b tb) {pins : List (Addr × Obj)} {s : Shared} {σ : St} {H : Hp} {R : V → V → Hp → Prop} (I : Inv X pins σ H s)
    (h : ta σ H fun x H1 => tb σ H1 fun y H2 => R x y H2) {Q : Value → Shared → Prop} {f : Value → Value → Sem Value}
    (hf : ∀ v u s2 x y H2, Inv X pins σ H2 s2 → RelV x v → RelV y u → R x y H2 → wpAny (model X.prog X.w) X.A (f v u) Q X.xe s2) :
    wpAny (model X.prog X.w) X.A (eval a X.env) (fun v s₁ => wpAny (model X.prog X.w) X.A (eval b X.env) (fun u s₂ => wpAny (model X.prog X.w) X.A (f v u) Q X.xe s₂) X.xe s₁) X.xe s := by
  refine thn (ha pins s σ H _ I h) fun v s1 ⟨x, H1, I1, r1, q1⟩ => ?_
  refine thn (hb pins s1 σ H1 _ I1 q1) fun u s2 ⟨y, H2, I2, r2, q2⟩ => ?_
  exact hf v u s2 x y H2 I2 r1 r2 q2
theorem pe_op {op : Operator} {r : R2} (ho : OpR X (binaryOp op) r) (ha : PE X a ta) (hb : PE X b tb) : PE X (.BinOp a op b pos) (tOp r ta tb) := by
  intro pins s σ H Q I h
  exact wpAny_BinOp (binT ha hb I h fun v u s2 x y H2 I2 rx ry q => ho pins s2 σ H2 x y v u Q I2 rx ry q)
theorem pe_un {op : UnaryOp} {r : V → Hp → VK → Prop} (ho : UnR X (unaryOp op) r) (ha : PE X a ta) : PE X (.UnaryOp op a pos) (tUn r ta) := by
  intro pins s σ H Q I h
  exact UnaryOp_ (thn (ha pins s σ H _ I h) fun v s1 ⟨x, H1, I1, r1, q1⟩ => ho pins s1 σ H1 x v Q I1 r1 q1)
theorem augR {op : Operator} {r : R2} (ho : OpR X (inplaceOp op) r) {pins : List (Addr × Obj)} {s : Shared} {σ : St} {H : Hp} {x y : V} {v u : Value} {Q : VK} (I : Inv X pins σ H s)
    (rx : RelV x v) (ry : RelV y u) (q : r x y H Q) : wpAny (model X.prog X.w) X.A (inplaceOp op v u) (EP X pins σ Q) X.xe s := ho pins s σ H x y v u Q I rx ry q
theorem opI {f : Value → Value → Sem Value} {C : Int → Int → Prop} {g : Int → Int → Int}
    (rule : ∀ (i j : Int) (t u : Tok) (s : Shared) (Q : Value → Shared → Prop) (E : Value → Shared → Prop), C i j → Q (.int (g i j) s.toks) { s with toks := s.toks + 1 } → wpAny (model X.prog X.w) X.A (f (.int i t) (.int j u)) Q E s) :
    OpR X f (rI C fun i j => .int (g i j)) := by
  intro pins s σ H x y v u Q I rx ry h
  obtain ⟨i, j, rfl, rfl, hc, q⟩ := h
  obtain ⟨t, rfl⟩ := rx
  obtain ⟨t', rfl⟩ := ry
  exact rule i j t t' s _ _ hc ⟨.int (g i j), H, I.tok _, ⟨_, rfl⟩, q⟩
theorem opI0 {f : Value → Value → Sem Value} {g : Int → Int → Int}
    (rule : ∀ (i j : Int) (t u : Tok) (s : Shared) (Q : Value → Shared → Prop) (E : Value → Shared → Prop), Q (.int (g i j) s.toks) { s with toks := s.toks + 1 } → wpAny (model X.prog X.w) X.A (f (.int i t) (.int j u)) Q E s) :
    OpR X f (rI0 fun i j => .int (g i j)) := by
  intro pins s σ H x y v u Q I rx ry h
  obtain ⟨i, j, rfl, rfl, q⟩ := h
  obtain ⟨t, rfl⟩ := rx
  obtain ⟨t', rfl⟩ := ry
  exact rule i j t t' s _ _ ⟨.int (g i j), H, I.tok _, ⟨_, rfl⟩, q⟩
theorem opB0 {f : Value → Value → Sem Value} {g : Int → Int → Bool}
    (rule : ∀ (i j : Int) (t u : Tok) (s : Shared) (Q : Value → Shared → Prop) (E : Value → Shared → Prop), Q (.bool (g i j)) s → wpAny (model X.prog X.w) X.A (f (.int i t) (.int j u)) Q E s) :
    OpR X f (rI0 fun i j => .bl (g i j)) := by
  intro pins s σ H x y v u Q I rx ry h
  obtain ⟨i, j, rfl, rfl, q⟩ := h
  obtain ⟨t, rfl⟩ := rx
  obtain ⟨t', rfl⟩ := ry
  exact rule i j t t' s _ _ ⟨.bl (g i j), H, I, rfl, q⟩
noncomputable def CDiv (i j : Int) : Prop := 0 < j ∧ j < 1073741824
noncomputable def CMul (i j : Int) : Prop := (-(2 ^ 64) < i ∧ i < 2 ^ 64) ∨ (-(2 ^ 64) < j ∧ j < 2 ^ 64)
theorem CMul.ok {i j : Int} (h : CMul i j) : IntMulOk i j := by
  rcases h with ⟨h1, h2⟩ | ⟨h1, h2⟩
  · exact .of_left (intBits_le_64 h1 h2)
  · exact .of_right (intBits_le_64 h1 h2)
theorem op_add : OpR X (binaryOp .Add) (rI0 fun i j => .int (i + j)) := opI0 fun _ _ _ _ _ _ _ q => add_int q
theorem op_sub : OpR X (binaryOp .Sub) (rI0 fun i j => .int (i - j)) := opI0 fun _ _ _ _ _ _ _ q => sub_int q
theorem op_mul : OpR X (binaryOp .Mult) (rI CMul fun i j => .int (i * j)) := opI fun _ _ _ _ _ _ _ hc q => mul_int q hc.ok
theorem op_fdiv : OpR X (binaryOp .FloorDiv) (rI CDiv fun i j => .int (i / j)) := opI fun i j _ _ _ _ _ hc q => by
  have h1 : (0 : Int) < j := hc.1
  have h2 : j < 1073741824 := hc.2
  exact floordiv_int (by omega) (by rw [Int.fdiv_eq_ediv_of_nonneg i (by omega)]; exact q) (.inl (PyProof.noPylong_small (by omega)))
theorem op_mod : OpR X (binaryOp .Mod) (rI (fun _ j => 0 < j) fun i j => .int (i % j)) := opI fun i j _ _ _ _ _ hc q => by
  have h1 : (0 : Int) < j := hc
  exact mod_int' (by omega) (by rw [Int.fmod_eq_emod_of_nonneg i (by omega)]; exact q)
theorem op_and : OpR X (binaryOp .BitAnd) (rI0 fun i j => .int (Builtin.bitAnd i j)) := opI0 fun _ _ _ _ _ _ _ q => and_int q
theorem iop_add : OpR X (inplaceOp .Add) (rI0 fun i j => .int (i + j)) := opI0 fun _ _ _ _ _ _ _ q => iadd_int q
theorem unI {f : Value → Sem Value} {g : Int → Int}
    (rule : ∀ (i : Int) (t : Tok) (s : Shared) (Q : Value → Shared → Prop) (E : Value → Shared → Prop), Q (.int (g i) s.toks) { s with toks := s.toks + 1 } → wpAny (model X.prog X.w) X.A (f (.int i t)) Q E s) :
    UnR X f (rU fun i => .int (g i)) := by
  intro pins s σ H x v Q I rx h
  obtain ⟨i, rfl, q⟩ := h
  obtain ⟨t, rfl⟩ := rx
  exact rule i t s _ _ ⟨.int (g i), H, I.tok _, ⟨_, rfl⟩, q⟩
theorem un_neg : UnR X (unaryOp .USub) (rU fun i => .int (-i)) := unI fun _ _ _ _ _ q => neg_int q
end
section
variable {X : Cx} {a b c : Expr} {ta tb tc : TE} {pos : Pos}
theorem fin_bl {pins : List (Addr × Obj)} {σ : St} {H : Hp} {s : Shared} {Q : VK} {k k' : Bool} (I : Inv X pins σ H s) (q : Q (.bl k) H) (e : k = k') : EP X pins σ Q (.bool k') s := by
  subst e
  exact ⟨.bl k, H, I, rfl, q⟩
theorem op_lt : OpR X (compareOp .Lt) (rI0 fun i j => .bl (decide (i < j))) := opB0 fun _ _ _ _ _ _ _ q => lt_int q
theorem op_le : OpR X (compareOp .LtE) (rI0 fun i j => .bl (decide (i ≤ j))) := opB0 fun _ _ _ _ _ _ _ q => le_int q
theorem op_gt : OpR X (compareOp .Gt) (rI0 fun i j => .bl (decide (j < i))) := opB0 fun _ _ _ _ _ _ _ q => gt_int q
theorem op_ge : OpR X (compareOp .GtE) (rI0 fun i j => .bl (decide (j ≤ i))) := opB0 fun _ _ _ _ _ _ _ q => ge_int q
theorem op_in_str : OpR X (compareOp .In) (fun x y H Q => ∃ i j, x = .str i ∧ y = .str j ∧ Q (.bl (!(Builtin.Str.occurrences j i 0 j.length 1).isEmpty)) H) := by
  intro pins s σ H x y v u Q I rx ry h
  obtain ⟨i, j, rfl, rfl, q⟩ := h
  obtain ⟨t, rfl⟩ := rx
  obtain ⟨t', rfl⟩ := ry
  exact in_str (fin_bl I q rfl)
theorem op_isN : OpR X (compareOp .Is) (fun x y H Q => y = .non ∧ Q (.bl (decide (x = .non))) H) := by
  intro pins s σ H x y v u Q I rx ry h
  obtain ⟨rfl, q⟩ := h
  cases ry
  refine is_none_gen (fin_bl I q ?_)
  cases x <;> first
    | (cases rx; rfl)
    | (obtain ⟨t, rfl⟩ := rx; rfl)
theorem OpR.or {f : Value → Value → Sem Value} {r r' : R2} (h : OpR X f r) (h' : OpR X f r') : OpR X f (fun x y H Q => r x y H Q ∨ r' x y H Q) := by
  intro pins s σ H x y v u Q I rx ry q
  rcases q with q | q
  · exact h pins s σ H x y v u Q I rx ry q
  · exact h' pins s σ H x y v u Q I rx ry q
theorem nomark (b : Expr) {op : CmpOp} (h : op ≠ .In := by decide) (h2 : op ≠ .NotIn := by decide) : behindInMarks op b = false := by
  have e1 : (op == CmpOp.In) = false := by cases op <;> first | rfl | exact absurd rfl h
  have e2 : (op == CmpOp.NotIn) = false := by cases op <;> first | rfl | exact absurd rfl h2
  cases b <;> simp [behindInMarks, e1, e2]
theorem pe_cmpR {op : CmpOp} {r : R2} (ho : OpR X (compareOp op) r) (ha : PE X a ta) (hb : PE X b tb) (hm : behindInMarks op b = false) : PE X (.Compare a [op] [b] pos) (tOp r ta tb) := by
  intro pins s σ H Q I h
  exact wpAny_Compare1 (binT ha hb I h fun v u s2 x y H2 I2 rx ry q => ho pins s2 σ H2 x y v u Q I2 rx ry q) hm
noncomputable def tTest (t : TE) : TT := fun σ H Q => t σ H fun x H' => ∃ k, x = .bl k ∧ Q k H'
theorem pt_cmpR {op : CmpOp} {r : R2} (ho : OpR X (compareOp op) r) (ha : PE X a ta) (hb : PE X b tb) (hm : behindInMarks op b = false) : PT X (.Compare a [op] [b] pos) (tTest (tOp r ta tb)) := by
  intro pins s σ H Q I h
  refine wpAny_isTrue_Compare1 (thn (ha pins s σ H _ I h) fun v s1 ⟨x, H1, I1, r1, q1⟩ => thn (hb pins s1 σ H1 _ I1 q1) fun u s2 ⟨y, H2, I2, r2, q2⟩ =>
    thn (ho pins s2 σ H2 x y v u _ I2 r1 r2 q2) fun c s3 ⟨z, H3, I3, r3, k, e, q3⟩ => ?_) hm
  subst e
  cases r3
  exact wpAny_truthy_bool ⟨H3, I3, q3⟩
noncomputable def tChain (r r' : R2) (ta tb tc : TE) : TE := fun σ H Q => ta σ H fun x H1 => tb σ H1 fun y H2 => r x y H2 fun z H3 => ∃ k, z = .bl k ∧
  (if k = true then tc σ H3 fun w' H4 => r' y w' H4 Q else Q (.bl false) H3)
theorem pe_chain {op op' : CmpOp} {r r' : R2} (ho : OpR X (compareOp op) r) (ho' : OpR X (compareOp op') r') (ha : PE X a ta) (hb : PE X b tb) (hc : PE X c tc)
    (hm : lastMarks [op, op'] [b, c] = false := by with_unfolding_all rfl) : PE X (.Compare a [op, op'] [b, c] pos) (tChain r r' ta tb tc) := by
  intro pins s σ H Q I h
  refine Compare_chain (thn (ha pins s σ H _ I h) fun v s1 ⟨x, H1, I1, r1, q1⟩ => chain_link (thn (hb pins s1 σ H1 _ I1 q1) fun u s2 ⟨y, H2, I2, r2, q2⟩ =>
    thn (ho pins s2 σ H2 x y v u _ I2 r1 r2 q2) fun d s3 ⟨z, H3, I3, r3, k, e, q3⟩ => ?_)) hm
  subst e
  cases r3
  refine wpAny_truthy_bool ?_
  cases k with
  | false => exact ite_ff ⟨.bl false, H3, I3, rfl, q3⟩
  | true => exact ite_tt (chain_last (thn (hc pins s3 σ H3 _ I3 q3) fun w' s4 ⟨z', H4, I4, r4, q4⟩ => ho' pins s4 σ H4 y z' u w' Q I4 r2 r4 q4))
theorem pt_chain {op op' : CmpOp} {r r' : R2} (ho : OpR X (compareOp op) r) (ho' : OpR X (compareOp op') r') (ha : PE X a ta) (hb : PE X b tb) (hc : PE X c tc)
    (hm : lastMarks [op, op'] [b, c] = false := by with_unfolding_all rfl) : PT X (.Compare a [op, op'] [b, c] pos) (tTest (tChain r r' ta tb tc)) := by
  intro pins s σ H Q I h
  refine isTrue_chain (thn (ha pins s σ H _ I h) fun v s1 ⟨x, H1, I1, r1, q1⟩ => test_link (thn (hb pins s1 σ H1 _ I1 q1) fun u s2 ⟨y, H2, I2, r2, q2⟩ =>
    thn (ho pins s2 σ H2 x y v u _ I2 r1 r2 q2) fun d s3 ⟨z, H3, I3, r3, k, e, q3⟩ => ?_)) hm
  subst e
  cases r3
  refine wpAny_truthy_bool ?_
  cases k with
  | false =>
    obtain ⟨k', e', q'⟩ := q3
    cases e'
    exact ite_ff ⟨H3, I3, q'⟩
  | true =>
    refine ite_tt (test_last (thn (hc pins s3 σ H3 _ I3 q3) fun w' s4 ⟨z', H4, I4, r4, q4⟩ => thn (ho' pins s4 σ H4 y z' u w' _ I4 r2 r4 q4) fun d' s5 ⟨z2, H5, I5, r5, k2, e2, q5⟩ => ?_))
    subst e2
    cases r5
    exact wpAny_truthy_bool ⟨H5, I5, q5⟩
theorem line63 : (sizeLine : Nat) < 2 ^ 63 := by rw [sizeLine_eq]; decide
theorem op_add_str : OpR X (binaryOp .Add) (fun x y H Q => ∃ i j, x = .str i ∧ y = .str j ∧ i.length + j.length ≤ sizeLine ∧ Q (.str (i ++ j)) H) := by
  intro pins s σ H x y v u Q I rx ry h
  obtain ⟨i, j, rfl, rfl, hz, q⟩ := h
  obtain ⟨t, rfl⟩ := rx
  obtain ⟨t', rfl⟩ := ry
  exact add_str (fun t' tk => ⟨.str (i ++ j), H, I.tok _, ⟨_, rfl⟩, q⟩) hz
theorem vals1 {x : V} {us : List Value} (r : Vals [x] us) : ∃ u, us = [u] ∧ RelV x u := by
  cases r with
  | cons r1 r2 => cases r2; exact ⟨_, rfl, r1⟩
theorem vals2 {x y : V} {us : List Value} (r : Vals [x, y] us) : ∃ u w', us = [u, w'] ∧ RelV x u ∧ RelV y w' := by
  cases r with
  | cons r1 r2 =>
    cases r2 with
    | cons r3 r4 => cases r4; exact ⟨_, _, rfl, r1, r3⟩
theorem call_min2 (hc : X.calm = true) : CallR X (.builtin "min") (fun xs H Q => ∃ i j, xs = [.int i, .int j] ∧ Q (.int (if j < i then j else i)) H) := by
  intro pins s σ H xs us Q I r h
  obtain ⟨i, j, rfl, q⟩ := h
  obtain ⟨u, w', rfl, ⟨t, rfl⟩, ⟨t', rfl⟩⟩ := vals2 r
  refine min_two_ints (I.ok.hd hc) fun h' tk k => ⟨_, H, I.kept k, ?_, q⟩
  by_cases hj : j < i
  · rw [if_pos hj, if_pos hj]; exact ⟨_, rfl⟩
  · rw [if_neg hj, if_neg hj]; exact ⟨_, rfl⟩
theorem call_int1 : CallR X (.type "int") (fun xs H Q => (∃ i, xs = [.int i] ∧ Q (.int i) H) ∨ ∃ k, xs = [.bl k] ∧ Q (.int (if k then 1 else 0)) H) := by
  intro pins s σ H xs us Q I r h
  rcases h with ⟨i, rfl, q⟩ | ⟨k, rfl, q⟩
  · obtain ⟨u, rfl, t, rfl⟩ := vals1 r
    exact call_int_int ⟨.int i, H, I, ⟨_, rfl⟩, q⟩
  · obtain ⟨u, rfl, r1⟩ := vals1 r
    cases r1
    exact call_int_bool ⟨.int (if k then 1 else 0), H, I.tok _, ⟨_, rfl⟩, q⟩
end
end L2
namespace L2
open PySem PySem.Spec PyProof.Rows
theorem RelO.some_of {v : V} {o : Option Value} (r : RelO (some v) o) : ∃ u, o = some u ∧ RelV v u := by
  cases o with
  | none => exact (show False from r).elim
  | some u => exact ⟨u, rfl, r⟩
structure Cls (K : PySem.W.Frag) (C : Addr) : Prop where
  pg : PySem.W.plainGet K C Str.empty = true
  hd : PySem.W.hasDictIn K C = true
  po : PySem.W.plainOver K C = true
  sa : PySem.W.findIn K (.ref C) "__setattr__" = some (some (.builtin "object.__setattr__"))
theorem Cls.get {K : PySem.W.Frag} {C : Addr} (c : Cls K C) (f : Str) : PySem.W.plainGet K C f = true := c.pg
section
variable {X : Cx} {o e value : Expr} {f : Str} {pos pos' tpos : Pos} {ta tv : TE}
noncomputable def rAdd : V → V → Hp → VK → Prop := fun x y H Q => ∃ i j, x = .int i ∧ y = .int j ∧ Q (.int (i + j)) H
noncomputable def rSub : V → V → Hp → VK → Prop := fun x y H Q => ∃ i j, x = .int i ∧ y = .int j ∧ Q (.int (i - j)) H
end
end L2
namespace L2
open PySem PySem.Spec PyProof.Rows
structure Room (k : Nat) (A : Around) : Prop where
  hd : A.handled = none
  dp : A.depth + 3 * k + 5 < recursionLimit
  un : A.units + 16 * k + 200 < cLine
theorem Room.mono {j k : Nat} {A : Around} (r : Room k A) (h : j ≤ k) : Room j A := ⟨r.hd, by have := r.dp; omega, by have := r.un; omega⟩
theorem Room.deeper {k : Nat} {A : Around} (r : Room (k + 1) A) (env : Env) : Room k (A.deeper env) :=
  ⟨r.hd, by have := r.dp; show A.depth + 1 + 3 * k + 5 < _; omega, by have := r.un; show A.units + 3 + 16 * k + 200 < _; omega⟩
theorem Room.in1 {k : Nat} {A : Around} (r : Room (k + 1) A) : Room k A.in1 :=
  ⟨r.hd, by have := r.dp; show A.depth + 3 * k + 5 < _; omega, by have := r.un; show A.units + 1 + 16 * k + 200 < _; omega⟩
theorem Room.depth {k : Nat} {A : Around} (r : Room k A) : A.depth < recursionLimit := by have := r.dp; omega
theorem Room.units {k : Nat} {A : Around} (r : Room k A) : A.units + 64 < cLine := by have := r.un; omega
noncomputable def tNil : TA := fun _ H Q => Q [] H
noncomputable def tCons (ta : TE) (tr : TA) : TA := fun σ H Q => ta σ H fun x H1 => tr σ H1 fun xs H2 => Q (x :: xs) H2
section
variable {X : Cx} {e : Expr} {es : List Expr} {te : TE} {t : TA} {pos : Pos}
theorem pa_nil : PA X [] tNil := fun _ _ _ _ H Q I h => Calls.spliced_nil ⟨[], H, I, .nil, h⟩
theorem pa_cons (ha : PE X e te) (hr : PA X es t) (hs : starEach (e :: es) X.env = (false, eval e X.env) :: starEach es X.env := by rfl) : PA X (e :: es) (tCons te t) := by
  intro pos pins s σ H Q I h
  rw [hs]
  show wpAny _ _ (spliced ((false, eval e X.env) :: backTo pos (starEach es X.env))) _ _ s
  refine Calls.spliced_cons (thn (ha pins s σ H _ I h) fun u s1 ⟨x, H1, I1, r1, q1⟩ => ?_)
  exact thn (hr pos pins s1 σ H1 _ I1 q1) fun us s2 ⟨xs, H2, I2, r2, q2⟩ => ⟨x :: xs, H2, I2, .cons r1 r2, q2⟩
noncomputable def tTup (t : TA) : TE := fun σ H Q => t σ H fun xs H1 => xs.length ≤ sizeLine ∧ ∀ p, H1 p = none → Q (.ref p) (upd H1 p (.tup xs))
noncomputable def tLst (t : TA) : TE := fun σ H Q => t σ H fun xs H1 => xs.length ≤ sizeLine ∧ ∀ p, H1 p = none → Q (.ref p) (upd H1 p (.lst xs))
theorem pe_tup {x1} (h : PA X es t) : PE X (.Tuple es x1 pos) (tTup t) := by
  intro pins s σ H Q I hq
  refine wpAny_Tuple_spliced (thn (h pos pins s σ H _ I hq) fun us s1 ⟨xs, H1, I1, r, z, q⟩ => ⟨by rw [← r.length]; exact z, ?_⟩)
  have hf : H1 s1.heap.objs.size = none := I1.hok.fresh (Nat.le_refl _)
  refine ⟨.ref s1.heap.objs.size, upd H1 s1.heap.objs.size (.tup xs), I1.laid (t' := s1.toks) (fun b u e => Heap.get?_push_of_some _ e) (Nat.le_refl _) ?_, rfl, q _ hf⟩
  exact ⟨z, us, r, ⟨_, Heap.get?_push_size _ rfl, rfl, _, rfl⟩⟩
theorem pe_lst (h : PA X es t) : PE X (.List es pos) (tLst t) := by
  intro pins s σ H Q I hq
  refine wpAny_List_spliced (thn (h pos pins s σ H _ I hq) fun us s1 ⟨xs, H1, I1, r, z, q⟩ => ⟨by rw [← r.length]; exact z, ?_⟩)
  have hf : H1 s1.heap.objs.size = none := I1.hok.fresh (Nat.le_refl _)
  refine ⟨.ref s1.heap.objs.size, upd H1 s1.heap.objs.size (.lst xs), I1.laid (t' := s1.toks) (fun b u e => Heap.get?_push_of_some _ e) (Nat.le_refl _) ?_, rfl, q _ hf⟩
  exact ⟨z, us, 0, r, Heap.get?_push_size _ rfl⟩
end
noncomputable abbrev Sp := List V → Hp → VK → XK → Prop
noncomputable abbrev CXT := List Env → Hp → Shared → XK → Value → Shared → Prop
structure Env0 (P : Program) (w : World) (K : PySem.W.Frag) (mg : Str → Option Value) (base : Heap) (A : Around) (outer : List Env) (s : Shared) (H : Hp) : Prop where
  frames : A.frames = some outer
  mod : Mod K mg base
  bs : ∀ b o, base.get? b = some o → s.heap.get? b = some o ∧ H b = none
  bsz : base.objs.size ≤ s.heap.objs.size
  funs : s.heap.FunFrames base outer
  frf : ∀ b ∈ frs outer, H b = none
  hok : HOk P w H s.heap
  bare : AllBare s.gens
noncomputable def CE (outer : List Env) (P : Program) (w : World) (H : Hp) (s : Shared) (Q : VK) (u : Value) (s' : Shared) : Prop :=
  ∃ v H', s'.os = s.os ∧ AllBare s'.gens ∧ Un (frs outer) [] H H' s.heap s'.heap ∧ HOk P w H' s'.heap ∧ RelV v u ∧ Q v H'
noncomputable def CR (CX : CXT) (outer : List Env) (P : Program) (w : World) (H : Hp) (s : Shared) (Q : VK) (E : XK) (r : Result) (s' : Shared) : Prop :=
  match r with
  | .ok (.ret u) => CE outer P w H s Q u s'
  | .ok _ => False
  | .error e => CX outer H s E e s'
structure FnOk (P : Program) (w : World) (K : PySem.W.Frag) (mg : Str → Option Value) (base : Heap) (CX : CXT) (k : Nat) (f : Addr) (fd : FuncData) (ps : List Str) (sp : Sp) : Prop where
  len : ∀ vs H Q E, sp vs H Q E → vs.length = ps.length
  run : ∀ (A : Around) (outer : List Env) (s : Shared) (H : Hp) (args : Args) (us : List Value) (vs : List V) (Q : VK) (E : XK), Room k A → Env0 P w K mg base A outer s H → BindsTo s fd args (ps.zip us) → Vals vs us → sp vs H Q E →
    codeAny (model P w) A (.call (.ref f) args) (CR CX outer P w H s Q E) s
theorem FnOk.mono {P : Program} {w : World} {K : PySem.W.Frag} {mg : Str → Option Value} {base : Heap} {CX : CXT} {j k : Nat} {f : Addr} {fd : FuncData} {ps : List Str} {sp : Sp} (F : FnOk P w K mg base CX j f fd ps sp) (h : j ≤ k) :
    FnOk P w K mg base CX k f fd ps sp := ⟨F.len, fun A outer s H args us vs Q E hr => F.run A outer s H args us vs Q E (hr.mono h)⟩
theorem FnOk.imp {P : Program} {w : World} {K : PySem.W.Frag} {mg : Str → Option Value} {base : Heap} {CX : CXT} {k : Nat} {f : Addr} {fd : FuncData} {ps : List Str} {sp sp' : Sp} (F : FnOk P w K mg base CX k f fd ps sp)
    (h : ∀ vs H Q E, sp' vs H Q E → sp vs H Q E) : FnOk P w K mg base CX k f fd ps sp' :=
  ⟨fun vs H Q E q => F.len vs H Q E (h _ _ _ _ q), fun A outer s H args us vs Q E hr he hb hv hs => F.run A outer s H args us vs Q E hr he hb hv (h _ _ _ _ hs)⟩
theorem Env0.in1 {P : Program} {w : World} {K : PySem.W.Frag} {mg : Str → Option Value} {base : Heap} {A : Around} {outer : List Env} {s : Shared} {H : Hp} (e : Env0 P w K mg base A outer s H) :
    Env0 P w K mg base A.in1 outer s H := ⟨e.frames, e.mod, e.bs, e.bsz, e.funs, e.frf, e.hok, e.bare⟩
section
variable {X : Cx} {pins : List (Addr × Obj)} {σ : St} {H : Hp} {s s' : Shared}
theorem Inv.env0 (I : Inv X pins σ H s) : Env0 X.prog X.w X.K X.mg X.base X.A X.stack s H :=
  ⟨I.ok.frames, I.ok.mod, I.bs, Nat.le_trans I.ok.bsz I.sz, I.stack, I.stkFree, I.hok, I.bare⟩
theorem Inv.after {Q : VK} {u : Value} (I : Inv X pins σ H s) (h : CE X.stack X.prog X.w H s Q u s') : EP X pins σ Q u s' := by
  obtain ⟨v, H', os, bare, un, hok, r, q⟩ := h
  obtain ⟨hh, g, d, t, os'⟩ := s'
  obtain rfl : os' = s.os := os
  exact ⟨v, H', I.call (h' := hh) (g' := g) (d' := d) (t' := t) (ch := []) un hok bare (fun b z => absurd z (by simp)), r, q⟩
end
noncomputable def tCall (sp : Sp) (dvs : List V) (E : XK) (t : TA) : TE := fun σ H Q => t σ H fun vs H1 => sp (vs ++ dvs) H1 Q E
noncomputable def Binds (K : PySem.W.Frag) (fd : FuncData) (ps : List Str) (ds : List Value) : Prop :=
  ∀ (s : Shared) (us : List Value), K.In s.heap → (us ++ ds).length = ps.length → BindsTo s fd ⟨us, []⟩ (ps.zip (us ++ ds))
theorem Binds.all {K : PySem.W.Frag} {fd : FuncData} {ps : List Str} (h : ∀ us : List Value, us.length = ps.length → bindArgs fd ⟨us, []⟩ = pure (ps.zip us)) : Binds K fd ps [] := fun s us _ hl => by
  rw [List.append_nil] at hl ⊢
  exact .of_eq (h us hl)
noncomputable def Passes (CX : CXT) (X : Cx) (E : XK) : Prop := ∀ (pins : List (Addr × Obj)) (σ : St) (H : Hp) (s : Shared) (e : Value) (s' : Shared), Inv X pins σ H s → CX X.stack H s E e s' → X.xe e s'
section
variable {X : Cx} {CX : CXT} {k : Nat} {f C : Addr} {fd : FuncData} {ps : List Str} {sp : Sp} {dvs : List V} {ds : List Value} {E : XK} {x m : Str} {p pos apos : Pos} {e o : Expr} {es : List Expr} {ta : TE} {t : TA}
theorem run_fn {pins : List (Addr × Obj)} {σ : St} {H : Hp} {s : Shared} {Q : VK} {us : List Value} {vs : List V} (F : FnOk X.prog X.w X.K X.mg X.base CX k f fd ps sp) (hr : Room k X.A) (hb : Binds X.K fd ps ds) (hd : Vals dvs ds) (hx : Passes CX X E)
    (I : Inv X pins σ H s) (r : Vals vs us) (h : sp (vs ++ dvs) H Q E) : wpAny (model X.prog X.w) X.A (call (.ref f) us) (EP X pins σ Q) X.xe s := by
  have r2 : Vals (vs ++ dvs) (us ++ ds) := r.append hd
  have hl : (us ++ ds).length = ps.length := by rw [← r2.length]; exact F.len _ _ _ _ h
  refine wpAny_call (codeAny_mono (F.run X.A X.stack s H ⟨us, []⟩ (us ++ ds) (vs ++ dvs) Q E hr I.env0 (hb s us I.kIn hl) r2 h) fun r s' hq => ?_)
  cases r with
  | error e => exact hx pins σ H s e s' I hq
  | ok fl =>
    cases fl with
    | ret u => exact I.after hq
    | next => exact False.elim hq
    | brk => exact False.elim hq
    | cont => exact False.elim hq
theorem pe_call (F : FnOk X.prog X.w X.K X.mg X.base CX k f fd ps sp) (hr : Room k X.A) (hg : Gl X x) (hm : X.mg x = some (.ref f)) (hk : PySem.W.keepIn X.K (.ref f) = true) (hb : Binds X.K fd ps ds) (hd : Vals dvs ds) (hx : Passes CX X E)
    (ha : PA X (e :: es) t) (hdb : (x == ("__debug__" : Str)) = false := by decide) (he : starEach (e :: es) X.env = (false, eval e X.env) :: starEach es X.env := by rfl) (hpl : (backTo pos (starEach es X.env)).any (·.1) = false := by rfl) :
    PE X (.Call (.Name x p) (e :: es) [] pos) (tCall sp dvs E t) := by
  intro pins s σ H Q I h
  refine wpAny_Call_Name_kw (ld_glob I hg hm ?_ hdb)
  refine PySem.W.callWith_K (h₀ := X.base) I.ok.mod.kin hk (thn (ha pos pins s σ H _ I h) fun us s1 ⟨vs, H1, I1, r, q⟩ => ⟨I1.kIn, ?_⟩) he hpl
  exact run_fn F hr hb hd hx I1 r q
end
section
variable {X : Cx} {CX : CXT} {k : Nat} {f C : Addr} {fd : FuncData} {ps ks : List Str} {sp : Sp} {E : XK} {x m : Str} {p pos apos kpos : Pos} {e o : Expr} {es : List Expr} {kws : List Keyword} {te ta : TE} {t tk : TA} {nm : Option Str}
structure KBinds (K : PySem.W.Frag) (fd : FuncData) (ps ks : List Str) (g : List Value → List Value → List Value) (gV : List V → List V → List V) : Prop where
  to : ∀ (s : Shared) (us ws : List Value), K.In s.heap → (g us ws).length = ps.length → BindsTo s fd ⟨us, ks.zip ws⟩ (ps.zip (g us ws))
  rel : ∀ {vs : List V} {us : List Value} {zs : List V} {ws : List Value}, Vals vs us → Vals zs ws → Vals (gV vs zs) (g us ws)
variable {g : List Value → List Value → List Value} {gV : List V → List V → List V}
end
structure FnScope (N P : List Str) (sc : Scope) : Prop where
  kind : sc.kind = .function
  co : sc.isCoroutine = false
  gen : sc.isGenerator = false
  nd : N.Nodup
  pre : N.take P.length = P
  par : ∀ x ∈ P, sc.names.lookup x = some .local ∨ sc.names.lookup x = some .cell
  nofree : ∀ y ∈ sc.names, y.2 ≠ .free
theorem bindL_out {kindOf : Str → Option NameKind} {x : Str} : ∀ {binds : List (Str × Value)} {m : Str → Option Value}, (∀ v, (x, v) ∉ binds) → bindL kindOf binds m x = m x
  | [], _, _ => rfl
  | (n, v) :: r, m, h => by
    unfold bindL
    rw [bindL_out fun w hw => h w (List.mem_cons_of_mem _ hw)]
    split
    · have : x ≠ n := by rintro rfl; exact h v List.mem_cons_self
      simp [this]
    · rfl
theorem bindC_out {kindOf : Str → Option NameKind} {x : Str} : ∀ {binds : List (Str × Value)} {m : Str → Option Value}, (∀ v, (x, v) ∉ binds) → bindC kindOf binds m x = m x
  | [], _, _ => rfl
  | (n, v) :: r, m, h => by
    unfold bindC
    rw [bindC_out fun w hw => h w (List.mem_cons_of_mem _ hw)]
    split
    · rfl
    · have : x ≠ n := by rintro rfl; exact h v List.mem_cons_self
      simp [this]
theorem bindL_get {kindOf : Str → Option NameKind} {x : Str} {v : Value} : ∀ {P : List Str} {vs : List Value} {i : Nat} {m : Str → Option Value}, P.Nodup → P[i]? = some x → vs[i]? = some v → kindOf x = some .local →
    bindL kindOf (P.zip vs) m x = some v
  | [], _, _, _, _, h, _, _ => by simp at h
  | _ :: _, [], _, _, _, _, h, _ => by simp at h
  | p :: P, w :: vs, 0, m, nd, h1, h2, hk => by
    simp at h1 h2; subst h1; subst h2
    show bindL kindOf ((p, w) :: P.zip vs) m p = _
    unfold bindL
    rw [bindL_out fun v hv => (List.nodup_cons.mp nd).1 (List.of_mem_zip hv).1, if_pos hk]
    simp
  | p :: P, w :: vs, i + 1, m, nd, h1, h2, hk => by
    show bindL kindOf ((p, w) :: P.zip vs) m x = _
    unfold bindL
    exact bindL_get (i := i) (List.nodup_cons.mp nd).2 (by simpa using h1) (by simpa using h2) hk
theorem bindC_get {kindOf : Str → Option NameKind} {x : Str} {v : Value} : ∀ {P : List Str} {vs : List Value} {i : Nat} {m : Str → Option Value}, P.Nodup → P[i]? = some x → vs[i]? = some v → kindOf x ≠ some .local →
    bindC kindOf (P.zip vs) m x = some v
  | [], _, _, _, _, h, _, _ => by simp at h
  | _ :: _, [], _, _, _, _, h, _ => by simp at h
  | p :: P, w :: vs, 0, m, nd, h1, h2, hk => by
    simp at h1 h2; subst h1; subst h2
    show bindC kindOf ((p, w) :: P.zip vs) m p = _
    unfold bindC
    rw [bindC_out fun v hv => (List.nodup_cons.mp nd).1 (List.of_mem_zip hv).1, if_neg hk]
    simp
  | p :: P, w :: vs, i + 1, m, nd, h1, h2, hk => by
    show bindC kindOf ((p, w) :: P.zip vs) m x = _
    unfold bindC
    exact bindC_get (i := i) (List.nodup_cons.mp nd).2 (by simpa using h1) (by simpa using h2) hk
noncomputable def start (N : List Str) (vs : List V) : St := vs.map some ++ List.replicate (N.length - vs.length) none
noncomputable def cxOf (CX : CXT) (P : Program) (w : World) (K : PySem.W.Frag) (mg : Str → Option Value) (base : Heap) (N : List Str) (qual : Str) (scope : Scope) (f : Addr) (cd : Value) (A : Around) (outer : List Env) (s : Shared) (H : Hp) (E : XK) : Cx where
  prog := P
  w := w
  K := K
  mg := mg
  base := base
  A := A.deeper (envOfC qual scope s.heap.objs.size f cd)
  N := N
  s₀ := s
  H₀ := H
  env := envOfC qual scope s.heap.objs.size f cd
  outer := outer
  stack := envOfC qual scope s.heap.objs.size f cd :: outer
  ex := []
  calm := true
  fn := fun _ => true
  pn := []
  xe := fun e s' => wpAny (model P w) (A.deeper (envOfC qual scope s.heap.objs.size f cd)) (leaving (envOfC qual scope s.heap.objs.size f cd) e) (fun _ s'' => CX outer H s E e s'') (fun e' s'' => CX outer H s E e' s'') s'
theorem cell_has {sc : Scope} {n : Nat} {x : Str} (h : sc.names.lookup x = some .cell) : ∃ c, (cellsFrom n sc.names []).lookup x = some c := by
  have q := PySem.W.cellsFrom_some sc.names n [] (.inl h)
  exact Option.isSome_iff_exists.mp q
theorem inv_start {CX : CXT} {P : Program} {w : World} {K : PySem.W.Frag} {mg : Str → Option Value} {base : Heap} {N ps : List Str} {qual : Str} {scope : Scope} {f : Addr} {cd : Value} {A : Around} {outer : List Env} {s s1 : Shared} {H : Hp} {E : XK} {us : List Value} {vs : List V}
    (S : FnScope N ps scope) (hd : A.handled = none) (e0 : Env0 P w K mg base A outer s H) (hl : vs.length = ps.length) (r : Vals vs us)
    (x : InCallC s s.heap.objs.size (bindL (envOfC qual scope s.heap.objs.size f cd).kindOf (ps.zip us) fun _ => none) (cellsFrom (s.heap.objs.size + 1) scope.names []) (bindC (envOfC qual scope s.heap.objs.size f cd).kindOf (ps.zip us) fun _ => none) s1) :
    Inv (cxOf CX P w K mg base N qual scope f cd A outer s H E) [] (start N vs) H s1 := by
  have hpl : ps.length ≤ N.length := by have := congrArg List.length S.pre; rw [List.length_take] at this; omega
  obtain ⟨h1, tk, rfl, hk⟩ := x.done
  have noA : ∀ b : Addr, b ∉ (cxOf CX P w K mg base N qual scope f cd A outer s H E).ex := fun b z => absurd (show b ∈ ([] : List Addr) from z) (by simp)
  refine ⟨⟨e0.mod, S.kind, rfl, rfl, Nat.le_refl _, fun y z c h1 h2 => ?_, fun y hy => ?_, fun y c _ h => ?_, fun _ => hd, Around.frames_deeper e0.frames, .inr ⟨rfl, rfl⟩, fun b z => absurd z (noA b), e0.bs, e0.bsz, fun b _ _ => noA b, fun b z => absurd z (noA b), e0.funs, e0.frf⟩,
    rfl, e0.bare, Un.kept hk, ⟨_, x.toInCall.ns, fun i y v h1 h2 h3 => ?_⟩, fun y c h => ⟨_, x.cell y c h⟩, e0.hok.fresh (Nat.le_refl _), fun y c h => ?_, fun p hp => absurd (show p ∈ ([] : List (Addr × Obj)) from hp) (by simp), e0.hok.kept hk, ?_⟩
  · exact name_of_addr x.apart (PySem.mem_of_lookup h1) (PySem.mem_of_lookup h2)
  · have hy : scope.names.lookup y = some .cell ∨ scope.names.lookup y = some .free := hy
    rcases hy with hy | hy
    · exact cell_has hy
    · exact absurd rfl (S.nofree _ (PySem.mem_of_lookup hy))
  · exact Nat.le_of_lt (x.above y c (PySem.mem_of_lookup h))
  · have hi : i < vs.length := by
      unfold start at h2
      by_cases hi : i < vs.length
      · exact hi
      · rw [List.getElem?_append_right (by simpa using hi)] at h2
        rw [List.getElem?_replicate] at h2
        split at h2 <;> cases h2
    have ha : vs[i]? = some v := by
      unfold start at h2
      rw [List.getElem?_append_left (by simpa using hi), List.getElem?_map] at h2
      cases e : vs[i]? with
      | none => rw [e] at h2; cases h2
      | some a => rw [e] at h2; cases h2; rfl
    obtain ⟨u, hu, rv⟩ := r.get ha
    have hp : ps[i]? = some y := by
      rw [← S.pre, List.getElem?_take_of_lt (by omega)]; exact h1
    have ndP : ps.Nodup := by rw [← S.pre]; exact S.nd.sublist (List.take_sublist _ _)
    refine ⟨u, rv, ?_⟩
    rcases S.par y (List.mem_of_getElem? hp) with k | k
    · exact .inl ⟨k, bindL_get ndP hp hu k⟩
    · obtain ⟨c, e⟩ := cell_has (n := s.heap.objs.size + 1) k
      refine .inr ⟨.inl k, c, e, ?_⟩
      have q := x.cell y c e
      rw [bindC_get ndP hp hu (by show scope.names.lookup y ≠ _; rw [k]; decide)] at q
      exact q
  · exact e0.hok.fresh (Nat.le_of_lt (x.above y c (PySem.mem_of_lookup h)))
  · unfold start
    show _ = N.length
    rw [List.length_append, List.length_map, List.length_replicate]
    omega
theorem fn_of {CX : CXT} {P : Program} {w : World} {K : PySem.W.Frag} {mg : Str → Option Value} {base : Heap} {k : Nat} {f : Addr} {name qual : Str} {params : Arguments} {body : List Stmt} {scope : Scope} {dV kV doc pm cdv ct oc : Value} {an od : Option Addr}
    {osl : Array (Option Value)} {N ps : List Str} {sp : Sp} (lk : K.lookup f = some ⟨oc, od, .func (PySem.W.fnOf name qual params body scope dV kV doc pm an cdv ct), osl⟩) (hcd : PySem.W.codeIn K cdv qual = true) (S : FnScope N ps scope)
    (len : ∀ vs H Q E, sp vs H Q E → vs.length = ps.length)
    (hbody : ∀ (A : Around) (outer : List Env) (s : Shared) (H : Hp) (vs : List V) (Q : VK) (E : XK), Room k (A.deeper (envOfC qual scope s.heap.objs.size f cdv)) → sp vs H Q E →
      ∃ t, PSs (cxOf CX P w K mg base N qual scope f cdv A outer s H E) body t ∧ t { nx := fun _ H' => Q .non H', rt := Q } (start N vs) H) :
    FnOk P w K mg base CX (k + 1) f (PySem.W.fnOf name qual params body scope dV kV doc pm an cdv ct) ps sp := by
  refine ⟨len, fun A outer s H args us vs Q E hr e0 hb r hsp => ?_⟩
  have hl := len _ _ _ _ hsp
  have KX : K.In s.heap := e0.mod.kin.keeps fun b o e => (e0.bs b o e).1
  have lim : s.heap.NoLimit := e0.mod.nolimit.keeps fun b o e => (e0.bs b o e).1
  have hkind : ∀ y ∈ ps.zip us, scope.names.lookup y.1 = some .local ∨ (scope.names.lookup y.1 = some .cell ∧ ((cellsFrom (s.heap.objs.size + 1) scope.names []).lookup y.1).isSome = true) := fun ⟨n, v⟩ hy => by
    rcases S.par n (List.of_mem_zip hy).1 with q | q
    · exact .inl q
    · exact .inr ⟨q, PySem.W.cellsFrom_some _ _ _ (.inl q)⟩
  refine codeAny_call_function hr.depth (KX _ _ lk) rfl S.co S.gen rfl (PySem.W.codeRec_of KX hcd) (hb _ _ _ _ ?_)
  refine wpAny_newFunctionEnv_cells S.kind hkind fun env he s1 x => ?_
  subst he
  refine ⟨lim.keeps x.toInCall.keep, codeAny_func ?_⟩
  obtain ⟨t, ht, hq⟩ := hbody A outer s H vs Q E (hr.deeper _) hsp
  have I : Inv (cxOf CX P w K mg base N qual scope f cdv A outer s H E) [] (start N vs) H s1 := inv_start S hr.hd e0 hl r x
  refine wpAny_mono (ht [] s1 (start N vs) H _ I hq) (fun fl s' hs => ?_) fun e s' hs => hs
  have fin : ∀ {σ' : St} {H' : Hp} {v : V} {u : Value}, Inv (cxOf CX P w K mg base N qual scope f cdv A outer s H E) [] σ' H' s' → RelV v u → Q v H' → CE outer P w H s Q u s' :=
    fun {σ' H' v u} J rv q => ⟨v, H', J.os, J.bare, J.base, J.hok, rv, q⟩
  cases fl with
  | ret u =>
    obtain ⟨v, σ', H', J, rv, q⟩ := hs
    exact fin J rv q
  | next =>
    obtain ⟨σ', H', J, q⟩ := hs
    exact fin (v := V.non) (u := Value.none) J rfl q
  | brk =>
    obtain ⟨_, _, _, q⟩ := hs
    exact False.elim q
  | cont =>
    obtain ⟨_, _, _, q⟩ := hs
    exact False.elim q
end L2
namespace L2
open PySem PySem.Spec PyProof.Rows
section
variable {X : Cx} {x : Str} {p pos : Pos} {e : Expr} {es : List Expr} {t : TA} {id T : String} {r : List V → Hp → VK → Prop}
noncomputable def tCB (r : List V → Hp → VK → Prop) (t : TA) : TE := fun σ H Q => t σ H fun vs H1 => r vs H1 Q
theorem pe_callB (hc : CallR X (.builtin id) r) (hg : Gl X x) (hm : X.mg x = none) (hv : bootBuiltins x = some (.builtin id)) (ha : PA X (e :: es) t) (hn : x ≠ "__name__" := by decide) (hdb : (x == ("__debug__" : Str)) = false := by decide)
    (he : starEach (e :: es) X.env = (false, eval e X.env) :: starEach es X.env := by rfl) (hpl : (backTo pos (starEach es X.env)).any (·.1) = false := by rfl) : PE X (.Call (.Name x p) (e :: es) [] pos) (tCB r t) := by
  intro pins s σ H Q I h
  refine wpAny_Call_Name_kw (ld_blt I hg hm hv ?_ hn hdb)
  exact PyProof.Rows.callWith_builtin1 (thn (ha pos pins s σ H _ I h) fun us s1 ⟨vs, H1, I1, r1, q1⟩ => hc pins s1 σ H1 vs us Q I1 r1 q1) he hpl
theorem pe_callTy (hc : CallR X (.type T) r) (hg : Gl X x) (hm : X.mg x = none) (hv : bootBuiltins x = some (.type T)) (ha : PA X (e :: es) t) (hn : x ≠ "__name__" := by decide) (hdb : (x == ("__debug__" : Str)) = false := by decide)
    (he : starEach (e :: es) X.env = (false, eval e X.env) :: starEach es X.env := by rfl) (hpl : (backTo pos (starEach es X.env)).any (·.1) = false := by rfl) : PE X (.Call (.Name x p) (e :: es) [] pos) (tCB r t) := by
  intro pins s σ H Q I h
  refine wpAny_Call_Name_kw (ld_blt I hg hm hv ?_ hn hdb)
  exact PyProof.Rows.callWith_type1 (thn (ha pos pins s σ H _ I h) fun us s1 ⟨vs, H1, I1, r1, q1⟩ => hc pins s1 σ H1 vs us Q I1 r1 q1) he hpl
end
end L2
namespace HT
open PySem PyProof.Rows
section
variable {prog : Program} {w : World} {A : Around} {E : Value → Shared → Prop} {s : Shared}
theorem cat_tup {t b : Addr} {vs ws : List Value} {Q : Value → Shared → Prop} (ht : IsTup s.heap t vs.toArray) (hb : IsTup s.heap b ws.toArray) (hv : vs ≠ [])
    (h1 : ws = [] → Q (.ref t) s) (h2 : ws ≠ [] → Q (.ref s.heap.objs.size) { s with heap := s.heap.push { cls := .type "tuple", data := .seq (vs ++ ws).toArray } })
    (hsz : vs.length + ws.length ≤ sizeLine) : wpAny (model prog w) A (binaryOp .Add (.ref t) (.ref b)) Q E s := by
  obtain ⟨⟨cls, dd, data, sl⟩, ho, hc, n, hd⟩ := id ht
  obtain ⟨⟨cls2, dd2, data2, sl2⟩, ho2, hc2, n2, hd2⟩ := id hb
  simp only at hc hd hc2 hd2
  subst hc hd hc2 hd2
  have e : vs.toArray ++ ws.toArray = (vs ++ ws).toArray := by simp
  by_cases hw : ws = []
  · exact concat_meets ⟨_, ho, rfl⟩ ⟨_, ho2, rfl⟩ noFill_tuple_add seq_tuple_add PySem.F.slot_tuple_add PySem.F.entry_tuple_add (PySem.F.args_tuple_add_2 _ _)
      (tuple_addW1 t b vs.toArray ws.toArray n n2 dd dd2 sl sl2 (by simpa using hv) (by simp [hw])) ⟨ho, ho2, h1 hw⟩
  · refine concat_meets ⟨_, ho, rfl⟩ ⟨_, ho2, rfl⟩ noFill_tuple_add seq_tuple_add PySem.F.slot_tuple_add PySem.F.entry_tuple_add (PySem.F.args_tuple_add_2 _ _)
      (tuple_addW2 t b vs.toArray ws.toArray n n2 dd dd2 sl sl2 (by simpa using hv) (by simpa using hw) (by rw [List.size_toArray, List.size_toArray]; exact hsz)) ⟨ho, ho2, ?_⟩
    rw [e]
    exact h2 hw
noncomputable def sIx (n d : Nat) : Option Int → Nat
  | none => d
  | some v => if v < 0 then (v + (n : Int)).toNat else min v.toNat n
theorem sIx_none (n d : Nat) : sIx n d none = d := rfl
theorem sIx_nat (n d k : Nat) : sIx n d (some (k : Int)) = min k n := by
  show (if (k : Int) < 0 then ((k : Int) + (n : Int)).toNat else min (k : Int).toNat n) = min k n
  rw [if_neg (by omega), Int.toNat_natCast]
theorem sIx_le (n d : Nat) (hd : d ≤ n) (o : Option Int) : sIx n d o ≤ n := by
  cases o with
  | none => exact hd
  | some v =>
    show (if v < 0 then (v + (n : Int)).toNat else min v.toNat n) ≤ n
    by_cases hv : v < 0
    · rw [if_pos hv]; omega
    · rw [if_neg hv]; exact Nat.min_le_right _ _
theorem clip_eq (v : Int) (n d : Nat) : (if v < 0 then max (v + (n : Int)) 0 else min v (n : Int)) = ((sIx n d (some v) : Nat) : Int) := by
  show (if v < 0 then max (v + (n : Int)) 0 else min v (n : Int)) = (((if v < 0 then (v + (n : Int)).toNat else min v.toNat n) : Nat) : Int)
  by_cases hv : v < 0
  · simp only [if_pos hv]; omega
  · simp only [if_neg hv]; omega
theorem adjust_gen (lo hi : Option Int) (n : Nat) : Builtin.Slice.sliceAdjust lo hi 1 (n : Int) = (((sIx n 0 lo : Nat) : Int), ((sIx n n hi : Nat) : Int)) := by
  have h1 : ¬ ((1 : Int) < 0) := by omega
  unfold Builtin.Slice.sliceAdjust
  simp only [h1, if_false]
  refine Prod.ext ?_ ?_
  · cases lo with
    | none => rfl
    | some v => exact clip_eq v n 0
  · cases hi with
    | none => rfl
    | some v => exact clip_eq v n n
theorem places_gen (i j : Nat) : Builtin.Slice.slicePlaces (i : Int) (j : Int) 1 = j - i := by
  unfold Builtin.Slice.slicePlaces
  have h1 : (1 : Int) > 0 := by omega
  simp only [h1, if_true, Int.ediv_one]
  split <;> omega
theorem slicePart_ {v : Value} {o : Option Int} {Q : Option Int → Shared → Prop} (p : IsPart v o) (h : Q o s) : wpAny (model prog w) A (Builtin.Slice.slicePartIndex v) Q E s := by
  cases p with
  | none => exact slicePart_none h
  | int i t => exact slicePart_int h
theorem sliceApplied_gen {sl : Addr} {vl vu : Value} {lo hi : Option Int} {n : Nat} {Q : Int × Int × Nat → Shared → Prop} (hs : s.heap.IsSliceOf sl vl vu .none) (pl : IsPart vl lo) (pu : IsPart vu hi)
    (h : Q (((sIx n 0 lo : Nat) : Int), 1, sIx n n hi - sIx n 0 lo) s) : wpAny (model prog w) A (Builtin.Slice.sliceApplied (.ref sl) (pure (n : Int))) Q E s := by
  obtain ⟨os, hos, hcs, hds⟩ := id hs
  unfold Builtin.Slice.sliceApplied Builtin.Slice.sliceFields
  refine wpAny_bind (wpAny_bind (wpAny_field hos hds (x := vl) rfl (wpAny_bind (wpAny_field hos hds (x := vu) rfl (wpAny_bind (wpAny_field hos hds (x := .none) rfl (wpAny_pure ?_)))))))
  refine wpAny_bind (slicePart_none ?_)
  show wpAny _ _ (if ((1 : Int) == 0) = true then _ else _) _ _ s
  rw [if_neg (by decide)]
  refine wpAny_bind (slicePart_ pl (wpAny_bind (slicePart_ pu (wpAny_bind (wpAny_pure ?_)))))
  show wpAny _ _ (match Builtin.Slice.sliceAdjust lo hi 1 (n : Int) with | (lo, hi) => pure (lo, (1 : Int), Builtin.Slice.slicePlaces lo hi 1)) _ _ s
  rw [adjust_gen lo hi n]
  show wpAny _ _ (pure (((sIx n 0 lo : Nat) : Int), (1 : Int), Builtin.Slice.slicePlaces ((sIx n 0 lo : Nat) : Int) ((sIx n n hi : Nat) : Int) 1)) _ _ s
  rw [places_gen]
  exact wpAny_pure h
theorem pick_gen (xs : Array Value) (i k : Nat) : ((List.range k).filterMap fun (m : Nat) => xs[((i : Int) + (m : Int) * 1).toNat]?).toArray = ((xs.toList.drop i).take k).toArray := by
  have e : (fun (m : Nat) => xs[((i : Int) + (m : Int) * 1).toNat]?) = fun m => xs[i + m]? := by
    funext m
    have : ((i : Int) + (m : Int) * 1).toNat = i + m := by omega
    rw [this]
  rw [e]
  have := pick_run xs i k
  rw [List.filterMap_map] at this
  have e2 : ((fun x => xs[x]?) ∘ fun x => i + x) = fun m => xs[i + m]? := rfl
  rw [e2] at this
  rw [this]
theorem getItem_tuple_cut {t sl : Addr} {items : Array Value} {vl vu : Value} {lo hi : Option Int} {Q : Value → Shared → Prop} (ht : IsTup s.heap t items) (hs : s.heap.IsSliceOf sl vl vu .none) (pl : IsPart vl lo) (pu : IsPart vu hi)
    (hw : ¬ (sIx items.size 0 lo = 0 ∧ sIx items.size items.size hi = items.size))
    (h : Q (.ref s.heap.objs.size) { s with heap := s.heap.push { cls := .type "tuple", data := .seq ((items.toList.drop (sIx items.size 0 lo)).take (sIx items.size items.size hi - sIx items.size 0 lo)).toArray } })
    (hsz : items.size ≤ sizeLine) : wpAny (model prog w) A (getItem (.ref t) (.ref sl)) Q E s := by
  have htake : sizeOk (.seq ((items.toList.drop (sIx items.size 0 lo)).take (sIx items.size items.size hi - sIx items.size 0 lo)).toArray) := by
    show ((items.toList.drop (sIx items.size 0 lo)).take (sIx items.size items.size hi - sIx items.size 0 lo)).toArray.size ≤ sizeLine
    rw [List.size_toArray, List.length_take, List.length_drop, Array.length_toList]
    omega
  have hj : sIx items.size items.size hi ≤ items.size := sIx_le _ _ (Nat.le_refl _) hi
  obtain ⟨os, hos, hcs, hds⟩ := id hs
  have hTs : s.TypeIs (.ref sl) "slice" := ⟨os, hos, hcs⟩
  unfold getItem
  try with_reducible refine wpAny_holding ?_
  first | refine wpAny_bind (wpAny_pure ?_) | skip
  refine wpAny_bind (wpAny_sequenceKey ht.typeIs (by decide) ?_)
  refine wpAny_bind (wpAny_callSpecial?_slot (name := Str.ofString "__getitem__") ht.typeIs PyProof.Rows.slot_tuple_getitem
    (wpAny_call_entry PyProof.Rows.slot_tuple_getitem ht.typeIs entry_tuple_getitem ?_ (args_tuple_getitem _ _)))
  show wpAny _ _ (Builtin.Tuple.tupleItemsOf (.ref t) >>= _) _ _ s
  refine wpAny_bind (tupleItemsOf_ ht ?_)
  refine wpAny_bind (wpAny_typeOf hTs ?_)
  rw [if_pos (by decide)]
  refine wpAny_bind (sliceApplied_gen hs pl pu ?_)
  have hno : ¬ ((((sIx items.size 0 lo : Nat) : Int) == 0 && (1 : Int) == 1 && (sIx items.size items.size hi - sIx items.size 0 lo) == items.size) = true) := by
    intro q
    rw [Bool.and_eq_true, Bool.and_eq_true] at q
    have q1 : ((sIx items.size 0 lo : Nat) : Int) = 0 := eq_of_beq q.1.1
    have q2 : sIx items.size items.size hi - sIx items.size 0 lo = items.size := eq_of_beq q.2
    exact hw ⟨by omega, by omega⟩
  show wpAny _ _ (if (((sIx items.size 0 lo : Nat) : Int) == 0 && (1 : Int) == 1 && (sIx items.size items.size hi - sIx items.size 0 lo) == items.size) = true then _ else _) _ _ s
  rw [if_neg hno, pick_gen]
  first
    | exact wpAny_bind (m := Builtin.Tuple.tupleExact _) (wpAny_newObj_type (wpAny_pure ⟨_, rfl, wpAny_pure h⟩) htake)
    | exact wpAny_bind (m := Builtin.Tuple.tupleExact _) (wpAny_newObj_type (wpAny_bind (wpAny_pure (wpAny_pure ⟨_, rfl, wpAny_pure h⟩))) htake)
    | exact wpAny_bind (wpAny_bind (m := Builtin.Tuple.tupleExact _) (wpAny_newObj_type (wpAny_pure (wpAny_pure ⟨_, rfl, wpAny_pure h⟩)) htake))
    | exact wpAny_bind (wpAny_bind (m := Builtin.Tuple.tupleExact _) (wpAny_newObj_type (wpAny_pure ⟨_, rfl, wpAny_pure h⟩) htake))
end
end HT
namespace L2
open PySem PySem.Spec PyProof.Rows
noncomputable abbrev TO := St → Hp → (Option Int → Hp → Prop) → Prop
noncomputable def PO (X : Cx) (e : Option Expr) (t : TO) : Prop :=
  ∀ (pins : List (Addr × Obj)) (s : Shared) (σ : St) (H : Hp) (Q : Option Int → Hp → Prop), Inv X pins σ H s → t σ H Q →
    wpAny (model X.prog X.w) X.A (evalPart e X.env) (fun u s' => ∃ o H', Inv X pins σ H' s' ∧ IsPart u o ∧ Q o H') X.xe s
noncomputable def tNoPart : TO := fun _ H Q => Q none H
noncomputable def tPart (t : TE) : TO := fun σ H Q => t σ H fun x H1 => ∃ i, x = .int i ∧ Q (some i) H1
section
variable {X : Cx} {e : Expr} {te : TE} {lo hi : Option Expr} {tl th : TO} {pos p2 : Pos}
theorem po_none : PO X none tNoPart := by
  intro pins s σ H Q I h
  rw [evalPart_none]
  exact wpAny_pure ⟨none, H, I, .none, h⟩
theorem po_some (h : PE X e te) : PO X (some e) (tPart te) := by
  intro pins s σ H Q I hw
  rw [evalPart_some]
  refine thn (h pins s σ H _ I hw) fun u s1 ⟨x, H1, I1, r1, q1⟩ => ?_
  obtain ⟨i, rfl, q⟩ := q1
  obtain ⟨t, rfl⟩ := r1
  exact ⟨some i, H1, I1, .int i t, q⟩
noncomputable def SlR (X : Cx) (r : V → Option Int → Option Int → Hp → VK → Prop) : Prop :=
  ∀ (pins : List (Addr × Obj)) (s : Shared) (σ : St) (H : Hp) (x : V) (v vl vu : Value) (lo hi : Option Int) (sl : Addr) (Q : VK), Inv X pins σ H s → RelV x v → s.heap.IsSliceOf sl vl vu .none → IsPart vl lo → IsPart vu hi → r x lo hi H Q →
    ∃ T id, typeLookup (.type T) "__getitem__" = pure (some (.builtin id)) ∧ s.TypeIs v T ∧ wpAny (model X.prog X.w) X.A (getItem v (.ref sl)) (EP X pins σ Q) X.xe s
theorem SlR.or {r r' : V → Option Int → Option Int → Hp → VK → Prop} (h : SlR X r) (h' : SlR X r') : SlR X (fun x lo hi H Q => r x lo hi H Q ∨ r' x lo hi H Q) := by
  intro pins s σ H x v vl vu lo hi sl Q I rx hs pl pu q
  rcases q with q | q
  · exact h pins s σ H x v vl vu lo hi sl Q I rx hs pl pu q
  · exact h' pins s σ H x v vl vu lo hi sl Q I rx hs pl pu q
noncomputable def tSl (r : V → Option Int → Option Int → Hp → VK → Prop) (te : TE) (tl th : TO) : TE := fun σ H Q => te σ H fun x H1 => tl σ H1 fun l H2 => th σ H2 fun u H3 => r x l u H3 Q
theorem pe_slice {r : V → Option Int → Option Int → Hp → VK → Prop} (hr : SlR X r) (he : PE X e te) (hl : PO X lo tl) (hu : PO X hi th) : PE X (.Subscript e (.Slice lo hi none p2) pos) (tSl r te tl th) := by
  intro pins s σ H Q I h
  refine Subscript_ (thn (he pins s σ H _ I h) fun v s1 ⟨x, H1, I1, r1, q1⟩ => ?_)
  refine wpAny_Slice (thn (hl pins s1 σ H1 _ I1 q1) fun vl s2 ⟨l, H2, I2, pl, q2⟩ => thn (hu pins s2 σ H2 _ I2 q2) fun vu s3 ⟨u, H3, I3, pu, q3⟩ => ?_)
  rw [evalPart_none]
  refine wpAny_pure ?_
  have I4 : Inv X pins σ H3 { s3 with heap := s3.heap.push { cls := .type "slice", data := .fields #[vl, vu, .none] } } := I3.kept (t' := s3.toks) fun b ob q => Heap.get?_push_of_some _ q
  obtain ⟨T, id, hT, ht, hg⟩ := hr pins { s3 with heap := s3.heap.push { cls := .type "slice", data := .fields #[vl, vu, .none] } } σ H3 x v vl vu l u s3.heap.objs.size Q I4 r1 (Heap.IsSliceOf.new ..) pl pu q3
  show wpAny (model X.prog X.w) X.A (subscriptTail e (.Slice lo hi none p2) v (.ref s3.heap.objs.size)) (EP X pins σ Q) X.xe { s3 with heap := s3.heap.push { cls := .type "slice", data := .fields #[vl, vu, .none] } }
  exact tail_any (ops := [.ref s3.heap.objs.size, v]) ht hT hg (by with_unfolding_all rfl)
noncomputable def cutV (xs : List V) (lo hi : Option Int) : List V := (xs.drop (HT.sIx xs.length 0 lo)).take (HT.sIx xs.length xs.length hi - HT.sIx xs.length 0 lo)
theorem cutV_length (xs : List V) (lo hi : Option Int) : (cutV xs lo hi).length ≤ xs.length := by
  unfold cutV
  rw [List.length_take, List.length_drop]
  omega
noncomputable def rSlT (K : PySem.W.Frag) : V → Option Int → Option Int → Hp → VK → Prop := fun x lo hi H Q => ∃ a xs, x = .ref a ∧ SqT K H a xs ∧
  ¬ (HT.sIx xs.length 0 lo = 0 ∧ HT.sIx xs.length xs.length hi = xs.length) ∧ ∀ p, H p = none → Q (.ref p) (upd H p (.tup (cutV xs lo hi)))
theorem sl_tup : SlR X (rSlT X.K) := by
  intro pins s σ H x v vl vu lo hi sl Q I rx hs pl pu h
  obtain ⟨a, xs, rfl, hx, hw, q⟩ := h
  cases rx
  obtain ⟨its, r, ht, hz⟩ := I.tuple hx
  have hlen : its.toArray.size = xs.length := by rw [List.size_toArray]; exact r.length.symm
  refine ⟨"tuple", _, PyProof.Rows.slot_tuple_getitem.lookup, ht.typeIs, ?_⟩
  refine HT.getItem_tuple_cut ht hs pl pu (by rw [hlen]; exact hw) ?_ (by rw [hlen]; exact hz)
  rw [hlen]
  refine ⟨.ref s.heap.objs.size, _, I.laid (t' := s.toks) (o := .tup (cutV xs lo hi)) (fun b ob q => Heap.get?_push_of_some _ q) (Nat.le_refl _) ?_, rfl, q _ (I.hok.fresh (Nat.le_refl _))⟩
  exact ⟨Nat.le_trans (cutV_length xs lo hi) hz, _, (r.drop (HT.sIx xs.length 0 lo)).take (HT.sIx xs.length xs.length hi - HT.sIx xs.length 0 lo), IsTup.new _ _⟩
theorem Vals.nil_iff {xs : List V} {us : List Value} (r : Vals xs us) : us = [] ↔ xs = [] := by
  cases r with
  | nil => simp
  | cons _ _ => simp
end
end L2
namespace L2
open PySem PySem.Spec PyProof.Rows
noncomputable def ixN (n : Nat) (i : Int) : Option Nat := if 0 ≤ i then (if i < n then some i.toNat else none) else if -(n : Int) ≤ i then some (i + n).toNat else none
noncomputable def atI {α : Type} (xs : List α) (i : Int) : Option α := (ixN xs.length i).bind fun j => xs[j]?
theorem ixN_seq {n : Nat} {i : Int} {j : Nat} (h : ixN n i = some j) : seqIndex? i n = some j ∧ j < n ∧ -(n : Int) ≤ i ∧ i < n := by
  unfold ixN at h
  by_cases h0 : 0 ≤ i
  · rw [if_pos h0] at h
    by_cases h1 : i < n
    · rw [if_pos h1] at h
      have e : i.toNat = j := Option.some.inj h
      exact ⟨by rw [seqIndex_of h0 h1, e], by omega, by omega, h1⟩
    · rw [if_neg h1] at h; cases h
  · rw [if_neg h0] at h
    by_cases h1 : -(n : Int) ≤ i
    · rw [if_pos h1] at h
      have e : (i + n).toNat = j := Option.some.inj h
      exact ⟨by rw [seqIndex_neg (by omega) h1, e], by omega, h1, by omega⟩
    · rw [if_neg h1] at h; cases h
theorem atI_get {α : Type} {xs : List α} {i : Int} {v : α} (h : atI xs i = some v) : ∃ j, seqIndex? i xs.length = some j ∧ xs[j]? = some v ∧ j < xs.length ∧ -(xs.length : Int) ≤ i ∧ i < xs.length := by
  unfold atI at h
  cases e : ixN xs.length i with
  | none => rw [e] at h; cases h
  | some j =>
    rw [e] at h
    obtain ⟨h1, h2, h3, h4⟩ := ixN_seq e
    exact ⟨j, h1, h, h2, h3, h4⟩
theorem atI_nat {α : Type} {xs : List α} {j : Nat} {v : α} (h : xs[j]? = some v) : atI xs (j : Int) = some v := by
  have hj : j < xs.length := (List.getElem?_eq_some_iff.mp h).1
  have e : ixN xs.length (j : Int) = some j := by
    unfold ixN
    rw [if_pos (by omega), if_pos (by omega)]; simp
  unfold atI; rw [e]; exact h
noncomputable def PlainIx (b : Expr) : Prop := ∀ o i, subscripted b false o i = operate [o, i] (getItem o i)
noncomputable def IxR (X : Cx) (r : R2) : Prop :=
  ∀ (value slice : Expr) (pins : List (Addr × Obj)) (s : Shared) (σ : St) (H : Hp) (x y : V) (v u : Value) (Q : VK), Inv X pins σ H s → RelV x v → RelV y u → r x y H Q →
    subscripted slice false v u = operate [v, u] (getItem v u) → wpAny (model X.prog X.w) X.A (subscriptTail value slice v u) (EP X pins σ Q) X.xe s
noncomputable def MtR (X : Cx) (id : String) (r : V → List V → Hp → VK → Prop) : Prop :=
  ∀ (pins : List (Addr × Obj)) (s : Shared) (σ : St) (H : Hp) (x : V) (xs : List V) (v : Value) (us : List Value) (Q : VK), Inv X pins σ H s → RelV x v → Vals xs us → r x xs H Q →
    wpAny (model X.prog X.w) X.A (call (.builtin id) (v :: us)) (EP X pins σ Q) X.xe s
section
variable {X : Cx} {a b : Expr} {ta tb : TE} {pos : Pos}
theorem IxR.or {r r' : R2} (h : IxR X r) (h' : IxR X r') : IxR X (fun x y H Q => r x y H Q ∨ r' x y H Q) := by
  intro value slice pins s σ H x y v u Q I rx ry q hs
  rcases q with q | q
  · exact h value slice pins s σ H x y v u Q I rx ry q hs
  · exact h' value slice pins s σ H x y v u Q I rx ry q hs
theorem MtR.or {id : String} {r r' : V → List V → Hp → VK → Prop} (h : MtR X id r) (h' : MtR X id r') : MtR X id (fun x xs H Q => r x xs H Q ∨ r' x xs H Q) := by
  intro pins s σ H x xs v us Q I rx rs q
  rcases q with q | q
  · exact h pins s σ H x xs v us Q I rx rs q
  · exact h' pins s σ H x xs v us Q I rx rs q
theorem pe_ix {r : R2} (hr : IxR X r) (ha : PE X a ta) (hb : PE X b tb) (hs : PlainIx b) : PE X (.Subscript a b pos) (tOp r ta tb) := by
  intro pins s σ H Q I h
  exact Subscript_ (binT ha hb I h fun v u s2 x y H2 I2 rx ry q => hr a b pins s2 σ H2 x y v u Q I2 rx ry q (hs _ _))
noncomputable def rIxL (K : PySem.W.Frag) : R2 := fun x y H Q => ∃ p xs i v, x = .ref p ∧ y = .int i ∧ SqL K H p xs ∧ atI xs i = some v ∧ Q v H
noncomputable def rIxT (K : PySem.W.Frag) : R2 := fun x y H Q => ∃ p xs i v, x = .ref p ∧ y = .int i ∧ SqT K H p xs ∧ atI xs i = some v ∧ Q v H
noncomputable def rIxS : R2 := fun x y H Q => ∃ z i c, x = .str z ∧ y = .int i ∧ z.length ≤ sizeLine ∧ atI z.cps.toList i = some c ∧ Q (.str ⟨#[c]⟩) H
theorem ix_list : IxR X (rIxL X.K) := by
  intro value slice pins s σ H x y v u Q I rx ry h hs
  obtain ⟨p, xs, i, z, rfl, rfl, hq, he, q⟩ := h
  cases rx
  obtain ⟨t, rfl⟩ := ry
  obtain ⟨its, r, pl, hz⟩ := I.list hq
  obtain ⟨j, h1, h2, h3, h4, h5⟩ := atI_get he
  obtain ⟨w, ew, rw'⟩ := r.get h2
  have hl := r.length
  have hn := line63
  have fin : EP X pins σ Q w s := ⟨z, H, I, rw', q⟩
  by_cases h0 : 0 ≤ i
  · have hj : i.toNat = j := by
      rw [seqIndex_of h0 h5] at h1
      exact Option.some.inj h1
    exact item_listR pl.isList h0 (by omega) (by rw [hj]; simpa using ew) fin hs
  · have hj : (i + (its.toArray.size : Int)).toNat = j := by
      rw [seqIndex_neg (by omega) h4] at h1
      rw [List.size_toArray, ← hl]
      exact Option.some.inj h1
    exact subscriptTail_builtinR (x := w) pl.isList.typeIs slot_list_getitem.lookup
      (wpAny_getItem_list_neg (Q := fun r s' => r = w ∧ EP X pins σ Q r s') pl.isList (by omega) (by rw [List.size_toArray] <;> omega) (by omega) (by rw [hj]; simpa using ew) ⟨rfl, fin⟩) hs
theorem ix_tup : IxR X (rIxT X.K) := by
  intro value slice pins s σ H x y v u Q I rx ry h hs
  obtain ⟨p, xs, i, z, rfl, rfl, hq, he, q⟩ := h
  cases rx
  obtain ⟨t, rfl⟩ := ry
  obtain ⟨its, r, pl, hz⟩ := I.tuple hq
  obtain ⟨j, h1, h2, h3, h4, h5⟩ := atI_get he
  obtain ⟨w, ew, rw'⟩ := r.get h2
  have hl := r.length
  have hn := line63
  have fin : EP X pins σ Q w s := ⟨z, H, I, rw', q⟩
  exact subscriptTail_builtinR (x := w) pl.typeIs slot_tuple_getitem.lookup
    (getItem_tuple (j := j) (Q := fun r s' => r = w ∧ EP X pins σ Q r s') pl (by omega) (by omega) (by rw [List.size_toArray, ← hl]; exact h1) (by simpa using ew) ⟨rfl, fin⟩) hs
theorem ix_str : IxR X rIxS := by
  intro value slice pins s σ H x y v u Q I rx ry h hs
  obtain ⟨z, i, c, rfl, rfl, hz, he, q⟩ := h
  obtain ⟨t, rfl⟩ := rx
  obtain ⟨t', rfl⟩ := ry
  obtain ⟨j, h1, h2, h3, h4, h5⟩ := atI_get he
  have hl : z.cps.toList.length = z.length := by simp [Str.length]
  rw [hl] at h1 h4 h5
  have hn := line63
  exact tail_any (typeIs_str s z t) slot_str_getitem.lookup (getItem_str (c := c) (by
    have e1 : decide (i < -(2 ^ 63 : Int)) = false := decide_eq_false (by omega)
    have e2 : decide (i ≥ 2 ^ 63) = false := decide_eq_false (by omega)
    rw [e1, e2, Bool.or_false]) (by rw [h1]; simpa using h2) ⟨.str ⟨#[c]⟩, H, I.tok _, ⟨_, rfl⟩, q⟩) hs
noncomputable def rIx (K : PySem.W.Frag) : R2 := fun x y H Q => rIxL K x y H Q ∨ rIxT K x y H Q ∨ rIxS x y H Q
theorem ix_seq : IxR X (rIx X.K) := ix_list.or (ix_tup.or ix_str)
theorem mapSeq_set (its : List Value) (n j : Nat) (u : Value) : Obj.mapSeq (·.setIfInBounds j u) { cls := .type "list", data := .seq its.toArray n } = { cls := .type "list", data := .seq (its.set j u).toArray n } := by
  simp [Obj.mapSeq]
theorem Inv.lst {pins : List (Addr × Obj)} {σ : St} {H : Hp} {s : Shared} {p : Addr} {xs : List V} (I : Inv X pins σ H s) (h : H p = some (.lst xs)) :
    ∃ (its : List Value) (n : Nat), Vals xs its ∧ s.heap.get? p = some { cls := .type "list", data := .seq its.toArray n } ∧ xs.length ≤ sizeLine := by
  obtain ⟨z, its, n, r, e⟩ := I.hok p _ h
  exact ⟨its, n, r, e, z⟩
theorem Inv.lstUpd {pins : List (Addr × Obj)} {σ : St} {H : Hp} {s : Shared} {p : Addr} {xs ys : List V} {its its' : List Value} {n n' : Nat} {f : Obj → Obj} (I : Inv X pins σ H s) (h : H p = some (.lst xs))
    (ho : s.heap.get? p = some { cls := .type "list", data := .seq its.toArray n }) (hf : f { cls := .type "list", data := .seq its.toArray n } = { cls := .type "list", data := .seq its'.toArray n' }) (r : Vals ys its') (hz : ys.length ≤ sizeLine) (t : Nat) :
    Inv X pins σ (upd H p (.lst ys)) { s with heap := s.heap.update p f, toks := t } := by
  have e : (s.heap.update p f).get? p = some { cls := .type "list", data := .seq its'.toArray n' } := by
    rw [Heap.get?_update_self f ho (by rw [hf] <;> rfl), hf]
  refine I.write (x := p) (e := p) (by rw [h]; trivial) (.inl rfl) (fun b u hb q => (Heap.get?_update_other _ _ (Ne.symm hb)).trans q) ⟨_, e⟩ ?_
  exact ⟨hz, its', n', r, e⟩
noncomputable def rSetL : V → V → V → Hp → (Hp → Prop) → Prop := fun o i v H Q => ∃ p xs k j, o = .ref p ∧ i = .int k ∧ H p = some (.lst xs) ∧ ixN xs.length k = some j ∧ Q (upd H p (.lst (xs.set j v)))
theorem set_list : PSet X rSetL := by
  intro pins s σ H o i v ov iv u Q I ro ri rv h
  obtain ⟨p, xs, k, j, rfl, rfl, hp, hj, q⟩ := h
  cases ro
  obtain ⟨t, rfl⟩ := ri
  obtain ⟨its, n, r, ho, hz⟩ := I.lst hp
  obtain ⟨h1, h2, h3, h4⟩ := ixN_seq hj
  have hl := r.length
  have hn := line63
  have I' : Inv X pins σ (upd H p (.lst (xs.set j v))) { s with heap := s.heap.update p (Obj.mapSeq (·.setIfInBounds j u)) } :=
    I.lstUpd hp ho (mapSeq_set its n j u) (r.set rv j) (by rw [List.length_set]; exact hz) s.toks
  by_cases h0 : 0 ≤ k
  · have hk : k.toNat = j := by
      rw [seqIndex_of h0 h4] at h1
      exact Option.some.inj h1
    exact PySem.W.ki_setAt ho h0 (by omega) (by rw [List.size_toArray, ← hl]; exact h4) (by rw [hk]; exact ⟨_, I', q⟩)
  · have hk : (k + (its.toArray.size : Int)).toNat = j := by
      rw [seqIndex_neg (by omega) h3] at h1
      rw [List.size_toArray, ← hl]
      exact Option.some.inj h1
    exact PySem.W.ki_setBack ho (by omega) (by rw [List.size_toArray, ← hl]; exact h3) (by omega) (by rw [hk]; exact ⟨_, I', q⟩)
theorem slice_bounds (lo hi : Option Int) (n : Nat) : (sliceBounds lo hi none n).1 = ((HT.sIx n 0 lo : Nat) : Int) ∧ (sliceBounds lo hi none n).2.1 = ((HT.sIx n n hi : Nat) : Int) ∧ (sliceBounds lo hi none n).2.2 = 1 := by
  refine ⟨?_, ?_, rfl⟩
  · cases lo with
    | none => simp [sliceBounds, HT.sIx]
    | some i =>
      simp only [sliceBounds, HT.sIx, Option.getD_none, show (1 : Int) > 0 by decide, if_true]
      by_cases h : i < 0
      · simp only [h, if_true] <;> omega
      · simp only [h, if_false] <;> omega
  · cases hi with
    | none => simp [sliceBounds, HT.sIx]
    | some i =>
      simp only [sliceBounds, HT.sIx, Option.getD_none, show (1 : Int) > 0 by decide, if_true]
      by_cases h : i < 0
      · simp only [h, if_true] <;> omega
      · simp only [h, if_false] <;> omega
theorem slicePick_cut (its : List Value) (lo hi : Option Int) : slicePick its.toArray lo hi none = ((its.drop (HT.sIx its.length 0 lo)).take (HT.sIx its.length its.length hi - HT.sIx its.length 0 lo)).toArray := by
  obtain ⟨h1, h2, h3⟩ := slice_bounds lo hi its.toArray.size
  unfold slicePick
  rw [h1, h2, h3]
  simp only [sliceRange_one, pick_run, List.size_toArray] <;> rfl
noncomputable def rSlL (K : PySem.W.Frag) : V → Option Int → Option Int → Hp → VK → Prop := fun x lo hi H Q => ∃ a xs, x = .ref a ∧ SqL K H a xs ∧ ∀ p, H p = none → Q (.ref p) (upd H p (.lst (cutV xs lo hi)))
theorem sl_list : SlR X (rSlL X.K) := by
  intro pins s σ H x v vl vu lo hi sl Q I rx hs pl pu h
  obtain ⟨a, xs, rfl, hx, q⟩ := h
  cases rx
  obtain ⟨its, r, ht, hz⟩ := I.list hx
  have hlen := r.length
  refine ⟨"list", _, slot_list_getitem.lookup, ht.isList.typeIs, ?_⟩
  refine wpAny_getItem_list_slice ht.isList hs pl pu .none (by simp) ?_ (by rw [List.size_toArray] <;> omega)
  rw [slicePick_cut, ← hlen]
  refine ⟨.ref s.heap.objs.size, _, I.laid (t' := s.toks) (o := .lst (cutV xs lo hi)) (fun b ob q => Heap.get?_push_of_some _ q) (Nat.le_refl _) ?_, rfl, q _ (I.hok.fresh (Nat.le_refl _))⟩
  exact ⟨Nat.le_trans (cutV_length xs lo hi) hz, _, 0, (r.drop (HT.sIx xs.length 0 lo)).take (HT.sIx xs.length xs.length hi - HT.sIx xs.length 0 lo), Heap.get?_push_size _ rfl⟩
noncomputable def flatV : V → Bool
  | .non => true
  | .bl _ => true
  | .int _ => true
  | .str _ => true
  | _ => false
noncomputable def eqV : V → V → Bool
  | .non, .non => true
  | .bl a, .bl b => a == b
  | .bl a, .int b => (if a then 1 else 0) == b
  | .int a, .bl b => a == (if b then 1 else 0)
  | .int a, .int b => a == b
  | .str a, .str b => a == b
  | _, _ => false
theorem eqAt_V {A : Around} {s : Shared} {y x : V} {u v : Value} (ry : RelV y u) (rx : RelV x v) (fy : flatV y = true) (fx : flatV x = true) : SeqAt.EqAt A s u v (eqV y x) := by
  cases y with
  | non =>
    cases ry
    cases x with
    | non => cases rx; exact SeqAt.EqAt.same _
    | bl b => cases rx; exact SeqAt.EqAt.none_bool b
    | int b => obtain ⟨t, rfl⟩ := rx; exact SeqAt.EqAt.none_int b t
    | str b => obtain ⟨t, rfl⟩ := rx; exact SeqAt.EqAt.none_str b t
    | _ => exact absurd (show false = true from fx) Bool.false_ne_true
  | bl a =>
    cases ry
    cases x with
    | non => cases rx; exact SeqAt.EqAt.bool_none a
    | bl b => cases rx; exact SeqAt.EqAt.bool_bool a b
    | int b => obtain ⟨t, rfl⟩ := rx; exact SeqAt.EqAt.bool_int a b t
    | str b => obtain ⟨t, rfl⟩ := rx; exact SeqAt.EqAt.bool_str a b t
    | _ => exact absurd (show false = true from fx) Bool.false_ne_true
  | int a =>
    obtain ⟨t', rfl⟩ := ry
    cases x with
    | non => cases rx; exact SeqAt.EqAt.int_none a t'
    | bl b => cases rx; exact SeqAt.EqAt.int_bool a t' b
    | int b => obtain ⟨t, rfl⟩ := rx; exact SeqAt.EqAt.int_int a t' b t
    | str b => obtain ⟨t, rfl⟩ := rx; exact SeqAt.EqAt.int_str a t' b t
    | _ => exact absurd (show false = true from fx) Bool.false_ne_true
  | str a =>
    obtain ⟨t', rfl⟩ := ry
    cases x with
    | non => cases rx; exact SeqAt.EqAt.str_none a t'
    | bl b => cases rx; exact SeqAt.EqAt.str_bool a t' b
    | int b => obtain ⟨t, rfl⟩ := rx; exact SeqAt.EqAt.str_int a t' b t
    | str b => obtain ⟨t, rfl⟩ := rx; exact SeqAt.EqAt.str_str a t' b t
    | _ => exact absurd (show false = true from fx) Bool.false_ne_true
  | _ => exact absurd (show false = true from fy) Bool.false_ne_true
noncomputable def eqU (x : V) (u : Value) : Bool := match u with
  | .none => eqV .non x
  | .bool b => eqV (.bl b) x
  | .int i _ => eqV (.int i) x
  | .str z _ => eqV (.str z) x
  | _ => false
theorem eqU_of {x y : V} {u : Value} (r : RelV y u) (f : flatV y = true) : eqU x u = eqV y x := by
  cases y with
  | non => cases r; rfl
  | bl b => cases r; rfl
  | int i => obtain ⟨t, rfl⟩ := r; rfl
  | str z => obtain ⟨t, rfl⟩ := r; rfl
  | _ => exact absurd (show false = true from f) Bool.false_ne_true
theorem any_eqU {x : V} : ∀ {xs : List V} {us : List Value}, Vals xs us → xs.all flatV = true → us.any (eqU x) = xs.any fun y => eqV y x
  | _, _, .nil, _ => rfl
  | y :: xs, u :: us, .cons r t, f => by
    rw [List.all_cons, Bool.and_eq_true] at f
    rw [List.any_cons, List.any_cons, eqU_of r f.1, any_eqU t f.2]
theorem mem_eqAt {A : Around} {s : Shared} {x : V} {v : Value} (rx : RelV x v) (fx : flatV x = true) : ∀ {xs : List V} {us : List Value}, Vals xs us → xs.all flatV = true → ∀ u ∈ us, SeqAt.EqAt A s u v (eqU x u)
  | _, _, .nil, _ => fun u hu => by cases hu
  | y :: xs, u :: us, .cons r t, f => fun u' hu => by
    rw [List.all_cons, Bool.and_eq_true] at f
    rcases List.mem_cons.mp hu with rfl | hu
    · rw [eqU_of r f.1]; exact eqAt_V r rx f.1 fx
    · exact mem_eqAt rx fx t f.2 u' hu
noncomputable def inV (x : V) (xs : List V) : Bool := xs.any fun y => eqV y x
noncomputable def rIn (K : PySem.W.Frag) (neg : Bool) : R2 := fun x y H Q => ∃ p xs, y = .ref p ∧ (SqL K H p xs ∨ SqT K H p xs) ∧ flatV x = true ∧ xs.all flatV = true ∧ Q (.bl (if neg then !inV x xs else inV x xs)) H
theorem op_in_seq : OpR X (compareOp .In) (rIn X.K false) := by
  intro pins s σ H x y v u Q I rx ry h
  obtain ⟨p, xs, rfl, hq, fx, fs, q⟩ := h
  cases ry
  rcases hq with hq | hq
  · obtain ⟨its, r, pl, hz⟩ := I.list hq
    refine SeqAt.in_listAt (eqU x) pl.isList (fun w hw => mem_eqAt rx fx r fs w (by simpa using hw)) ⟨.bl _, H, I, rfl, ?_⟩
    rw [show its.toArray.any (eqU x) = its.any (eqU x) by simp, any_eqU r fs]
    exact q
  · obtain ⟨its, r, pl, hz⟩ := I.tuple hq
    refine SeqAt.in_tupleAt (eqU x) pl (fun w hw => mem_eqAt rx fx r fs w (by simpa using hw)) ⟨.bl _, H, I, rfl, ?_⟩
    rw [show its.toArray.any (eqU x) = its.any (eqU x) by simp, any_eqU r fs]
    exact q
theorem call_len_seq : CallR X (.builtin "len") (fun xs H Q => ∃ p ys, xs = [.ref p] ∧ (SqL X.K H p ys ∨ SqT X.K H p ys) ∧ Q (.int ys.length) H) := by
  intro pins s σ H xs us Q I r h
  obtain ⟨p, ys, rfl, hq, q⟩ := h
  obtain ⟨u, rfl, rx⟩ := vals1 r
  cases rx
  have hn := line63
  rcases hq with hq | hq
  · obtain ⟨its, r', pl, hz⟩ := I.list hq
    have hlen := r'.length
    exact Calls.call_len_list pl.isList (by simp only [List.size_toArray] <;> omega) ⟨.int ys.length, H, I.tok _, ⟨s.toks + 1, by rw [List.size_toArray, hlen]⟩, q⟩
  · obtain ⟨its, r', pl, hz⟩ := I.tuple hq
    have hlen := r'.length
    exact len_tuple pl (by simp only [List.size_toArray] <;> omega) ⟨.int ys.length, H, I.tok _, ⟨s.toks + 1, by rw [List.size_toArray, hlen]⟩, q⟩
theorem call_len_str : CallR X (.builtin "len") (fun xs H Q => ∃ z, xs = [.str z] ∧ z.length ≤ sizeLine ∧ Q (.int z.length) H) := by
  intro pins s σ H xs us Q I r h
  obtain ⟨z, rfl, hz, q⟩ := h
  obtain ⟨u, rfl, t, rfl⟩ := vals1 r
  have hn := line63
  exact len_str (by omega) ⟨.int z.length, H, I.tok _, ⟨_, rfl⟩, q⟩
theorem CallR.or {f : Value} {r r' : List V → Hp → VK → Prop} (h : CallR X f r) (h' : CallR X f r') : CallR X f (fun xs H Q => r xs H Q ∨ r' xs H Q) := by
  intro pins s σ H xs us Q I rs q
  rcases q with q | q
  · exact h pins s σ H xs us Q I rs q
  · exact h' pins s σ H xs us Q I rs q
theorem call_list_of : CallR X (.type "list") (fun xs H Q => ∃ p ys, xs = [.ref p] ∧ (SqL X.K H p ys ∨ SqT X.K H p ys) ∧ ∀ l, H l = none → Q (.ref l) (upd H l (.lst ys))) := by
  intro pins s σ H xs us Q I r h
  obtain ⟨p, ys, rfl, hq, q⟩ := h
  obtain ⟨u, rfl, rx⟩ := vals1 r
  cases rx
  have fin : ∀ (its : List Value), Vals ys its → ys.length ≤ sizeLine → ∀ (h' : Heap) (c' : Nat), (∀ b o', s.heap.get? b = some o' → h'.get? b = some o') →
      h'.get? s.heap.objs.size = some { cls := .type "list", dict := none, data := .seq its.toArray c', slots := #[] } → EP X pins σ Q (.ref s.heap.objs.size) { s with heap := h' } := fun its r' hz h' c' kp e =>
    ⟨.ref s.heap.objs.size, _, I.laid (t' := s.toks) kp (Nat.le_refl _) (show ObjOk X.prog X.w _ h' _ (.lst ys) from ⟨hz, its, c', r', e⟩), rfl, q _ (I.hok.fresh (Nat.le_refl _))⟩
  rcases hq with hq | hq
  · obtain ⟨its, r', pl, hz⟩ := I.list hq
    have hlen := r'.length
    obtain ⟨o, ho, hc, n, hd⟩ := pl.isList
    exact call_list_seq p (.inl rfl) ho hc hd (fun h' c' kp e => fin its r' hz h' c' kp e) (by simp only [List.size_toArray] <;> omega)
  · obtain ⟨its, r', pl, hz⟩ := I.tuple hq
    have hlen := r'.length
    obtain ⟨o, ho, hc, n, hd⟩ := pl
    exact call_list_seq p (.inr rfl) ho hc hd (fun h' c' kp e => fin its r' hz h' c' kp e) (by simp only [List.size_toArray] <;> omega)
theorem call_tuple_of : CallR X (.type "tuple") (fun xs H Q => ∃ p ys, xs = [.ref p] ∧ ((SqL X.K H p ys ∧ ∀ l, H l = none → Q (.ref l) (upd H l (.tup ys))) ∨ (SqT X.K H p ys ∧ Q (.ref p) H))) := by
  intro pins s σ H xs us Q I r h
  obtain ⟨p, ys, rfl, h⟩ := h
  obtain ⟨u, rfl, rx⟩ := vals1 r
  cases rx
  rcases h with ⟨hq, q⟩ | ⟨hq, q⟩
  · obtain ⟨its, r', pl, hz⟩ := I.list hq
    have hlen := r'.length
    refine call_tuple_list pl.isList (fun h' kp => ?_) (by simp only [List.size_toArray] <;> omega)
    have I1 : Inv X pins σ H { s with heap := h' } := I.kept (t' := s.toks) kp
    have I2 : Inv X pins σ (upd H h'.objs.size (.tup ys)) { s with heap := h'.push { cls := .type "tuple", data := .seq its.toArray } } :=
      I1.laid (t' := s.toks) (fun b o e => Heap.get?_push_of_some _ e) (Nat.le_refl _) (show ObjOk X.prog X.w _ _ _ (.tup ys) from ⟨hz, its, r', IsTup.new _ _⟩)
    exact ⟨.ref h'.objs.size, _, I2, rfl, q _ (I1.hok.fresh (Nat.le_refl _))⟩
  · obtain ⟨its, r', pl, hz⟩ := I.tuple hq
    exact call_tuple_same pl ⟨.ref p, H, I, rfl, q⟩
noncomputable def tyV (K : PySem.W.Frag) (T : String) (x : V) (H : Hp) : Prop := match x with
  | .str _ => T = "str"
  | .int _ => T = "int"
  | .ref p => (T = "list" ∧ ∃ xs, SqL K H p xs) ∨ (T = "tuple" ∧ ∃ o, K.lookup p = some o ∧ o.cls = .type "tuple" ∧ o.dict = none) ∨
      (T = "dict" ∧ ((∃ kvs, H p = some (.dK kvs)) ∨ ∃ kvs, H p = some (.dT kvs))) ∨ (T = "set" ∧ ∃ S n, H p = some (.set S n))
  | _ => False
theorem tyV_is {pins : List (Addr × Obj)} {σ : St} {H : Hp} {s : Shared} {T : String} {x : V} {v : Value} (I : Inv X pins σ H s) (r : RelV x v) (ty : tyV X.K T x H) :
    s.TypeIs v T ∧ ∀ a, v = .ref a → ∃ ob, s.heap.get? a = some ob ∧ ob.dict = none := by
  cases x with
  | str z =>
    obtain ⟨t, rfl⟩ := r
    cases (show T = "str" from ty)
    exact ⟨typeIs_str s z t, fun _ e => nomatch e⟩
  | int i =>
    obtain ⟨t, rfl⟩ := r
    cases (show T = "int" from ty)
    exact ⟨typeIs_int s i t, fun _ e => nomatch e⟩
  | ref p =>
    cases r
    rcases ty with ⟨rfl, xs, hq⟩ | ⟨rfl, o, hk, hc, hd⟩ | ⟨rfl, hk⟩ | ⟨rfl, S, n, hk⟩
    · obtain ⟨its, _, pl, _⟩ := I.list hq
      refine ⟨pl.isList.typeIs, fun a e => ?_⟩
      cases e
      obtain ⟨o, n, e, c, hd, _⟩ := pl
      exact ⟨o, e, hd⟩
    · refine ⟨⟨o, I.kIn p o hk, hc⟩, fun a e => ?_⟩
      cases e
      exact ⟨o, I.kIn _ o hk, hd⟩
    · have z : ∃ o, s.heap.get? p = some o ∧ o.ExactDict := by
        rcases hk with ⟨kvs, hk⟩ | ⟨kvs, hk⟩
        · obtain ⟨_, _, _, _, o, _, _, e, ex, _⟩ := I.hok p _ hk
          exact ⟨o, e, ex⟩
        · obtain ⟨_, _, _, _, o, _, _, e, ex, _⟩ := I.hok p _ hk
          exact ⟨o, e, ex⟩
      obtain ⟨o, e, ex⟩ := z
      refine ⟨⟨o, e, ex.1⟩, fun a e2 => ?_⟩
      cases e2
      exact ⟨o, e, ex.2.1⟩
    · obtain ⟨o, _, _, _, e, ex, _⟩ := I.hok p _ hk
      refine ⟨⟨o, e, ex.1⟩, fun a e2 => ?_⟩
      cases e2
      exact ⟨o, e, ex.2.1⟩
  | _ => exact False.elim ty
noncomputable def tBM (K : PySem.W.Frag) (T : String) (r : V → List V → Hp → VK → Prop) (to : TE) (t : TA) : TE := fun σ H Q => to σ H fun x H1 => tyV K T x H1 ∧ t σ H1 fun xs H2 => r x xs H2 Q
variable {o e : Expr} {es : List Expr} {to : TE} {t : TA} {name : Str} {apos cpos : Pos} {T id : String} {r : V → List V → Hp → VK → Prop}
theorem pe_bm (pa : PlainAttrs T) (slot : Slot T name id) (hty : typeOf (.builtin id) = pure (.type "method_descriptor")) (hm : MtR X id r) (ho : PE X o to) (ha : PA X (e :: es) t)
    (hbase : attributeBase o name X.env (eval o X.env) = eval o X.env := by rfl)
    (hfew : ((backTo cpos (starEach (e :: es) X.env)).all (fun x => !x.1) && (backToKw cpos (keywordEach [] X.env)).all (fun x => x.1.isSome)
      && decide ((e :: es).length + ([] : List Keyword).length + (if ([] : List Keyword).isEmpty then 0 else 1) < 30)) = true := by rfl)
    (hline : (apos.endLine == cpos.line) = true := by rfl) (hs : starEach (e :: es) X.env = (false, eval e X.env) :: starEach es X.env := by rfl) (hplain : (backTo cpos (starEach es X.env)).any (·.1) = false := by rfl) :
    PE X (.Call (.Attribute o name apos) (e :: es) [] cpos) (tBM X.K T r to t) := by
  intro pins s σ H Q I h
  refine wpAny_Call_method_late hbase hfew hline rfl (thn (ho pins s σ H _ I h) fun v s1 ⟨x, H1, I1, r1, ty, q1⟩ => ?_)
  obtain ⟨h1, h2⟩ := tyV_is I1 r1 ty
  refine ⟨T, id, pa, slot, hty, h1, h2, ?_⟩
  have hA := ha cpos pins s1 σ H1 _ I1 q1
  rw [hs] at hA ⊢
  refine Calls.callWith_builtin (by show (false || (backTo cpos (starEach es X.env)).any (·.1)) = false; rw [hplain] <;> rfl) (Calls.evalArgs_plain ?_)
  exact thn hA fun us s2 ⟨vs, H2, I2, r2, q2⟩ => hm pins s2 σ H2 x vs v us Q I2 r1 r2 q2
end
end L2
namespace L2
open PySem PySem.Spec PyProof.Rows
noncomputable def MtM (X : Cx) (id : String) (r : V → List V → Hp → VK → Prop) : Prop :=
  ∀ (pins : List (Addr × Obj)) (s : Shared) (σ : St) (H : Hp) (x : V) (xs : List V) (v : Value) (us : List Value) (Q : VK), Inv X pins σ H s → RelV x v → Vals xs us → r x xs H Q →
    wpAny (model X.prog X.w) X.A (call (.builtin id) (v :: us)) (EP X pins σ Q) X.xe s
theorem Vals.one : ∀ {x : V} {us : List Value}, Vals [x] us → ∃ u, us = [u] ∧ RelV x u
  | _, _, .cons r .nil => ⟨_, rfl, r⟩
theorem Vals.two : ∀ {x y : V} {us : List Value}, Vals [x, y] us → ∃ u v, us = [u, v] ∧ RelV x u ∧ RelV y v
  | _, _, _, .cons r (.cons q .nil) => ⟨_, _, rfl, r, q⟩
theorem Vals.zero : ∀ {us : List Value}, Vals [] us → us = []
  | _, .nil => rfl
theorem Vals.rep {xs : List V} {us : List Value} (h : Vals xs us) : ∀ k : Nat, Vals (List.replicate k xs).flatten (List.replicate k us).flatten
  | 0 => .nil
  | k + 1 => by
    rw [List.replicate_succ, List.replicate_succ, List.flatten_cons, List.flatten_cons]
    exact Vals.append h (Vals.rep h k)
theorem foldl_rep (its : List Value) : ∀ (k : Nat) (acc : List Value),
    List.foldl (fun x1 x2 => x1 ++ x2) acc.toArray (List.replicate k its.toArray) = (acc ++ (List.replicate k its).flatten).toArray
  | 0, acc => by simp
  | k + 1, acc => by
    have e : acc.toArray ++ its.toArray = (acc ++ its).toArray := by simp
    have e2 : (acc ++ its) ++ (List.replicate k its).flatten = acc ++ (List.replicate (k + 1) its).flatten := by
      rw [List.replicate_succ, List.flatten_cons, List.append_assoc]
    rw [← e2, ← foldl_rep its k (acc ++ its), ← e, List.replicate_succ, List.foldl_cons]
section
variable {X : Cx} {pins : List (Addr × Obj)} {σ : St} {H : Hp} {s : Shared} {l b : Addr} {xs ys zs : List V}
theorem Inv.lset {its its' : List Value} {n : Nat} {f : Array Value → Array Value} {t' : Nat} (I : Inv X pins σ H s) (hH : H l = some (.lst xs))
    (e : s.heap.get? l = some { cls := .type "list", data := .seq its.toArray n }) (hf : f its.toArray = its'.toArray) (hv : Vals ys its') (hz : ys.length ≤ sizeLine) :
    Inv X pins σ (upd H l (.lst ys)) { s with heap := s.heap.update l (Obj.mapSeq f), toks := t' } := by
  have q := PySem.IsL.update e f
  rw [hf] at q
  refine I.write (x := l) (e := l) (by rw [hH]; exact trivial) (.inl rfl) (fun b' u hb hu => (Heap.get?_update_other s.heap (Obj.mapSeq f) (Ne.symm hb)).trans hu) ⟨_, q⟩ ?_
  exact ⟨hz, its', _, hv, q⟩
theorem Inv.lnew {its : List Value} {t' : Nat} (I : Inv X pins σ H s) (hv : Vals ys its) (hz : ys.length ≤ sizeLine) :
    Inv X pins σ (upd H s.heap.objs.size (.lst ys)) { s with heap := s.heap.push { cls := .type "list", data := .seq its.toArray }, toks := t' } :=
  I.laid (fun _ _ q => Heap.get?_push_of_some _ q) (Nat.le_refl _) ⟨hz, its, 0, hv, Heap.get?_push_size _ rfl⟩
theorem Inv.fresh (I : Inv X pins σ H s) : H s.heap.objs.size = none := I.hok.fresh (Nat.le_refl _)
theorem Inv.lstM (I : Inv X pins σ H s) (hH : H l = some (.lst xs)) : xs.length ≤ sizeLine ∧ ∃ (its : List Value) (n : Nat), Vals xs its ∧ xs.length = its.length ∧ s.heap.get? l = some { cls := .type "list", data := .seq its.toArray n } := by
  obtain ⟨z, its, n, r, e⟩ := I.hok l _ hH
  exact ⟨z, its, n, r, r.length, e⟩
theorem notLongL {n : Nat} (h : n ≤ sizeLine) : Builtin.List.listTooLong n = false := by
  unfold Builtin.List.listTooLong
  exact decide_eq_false (by omega)
end
section
variable {X : Cx}
noncomputable def rAppend : V → List V → Hp → VK → Prop := fun x vs H Q => ∃ l xs y, x = .ref l ∧ vs = [y] ∧ H l = some (.lst xs) ∧ xs.length < sizeLine ∧ Q .non (upd H l (.lst (xs ++ [y])))
theorem mt_append : MtM X "list.append" rAppend := by
  intro pins s σ H x vs v us Q I rx rv h
  obtain ⟨l, xs, y, rfl, rfl, hH, hz, q⟩ := h
  cases rx
  obtain ⟨u, rfl, ru⟩ := rv.one
  obtain ⟨z, its, n, r, hl, e⟩ := I.lstM hH
  refine call_meets F.slot_list_append ⟨_, e, rfl⟩ F.entry_list_append (F.args_list_append_2 _ _) (PySem.list_append l its.toArray n u (by rw [List.size_toArray]; omega)) ⟨e, ?_⟩
  refine ⟨.non, _, I.lset (its' := its ++ [u]) hH e (by simp) (r.append (.cons ru .nil)) ?_, rfl, q⟩
  rw [List.length_append, List.length_singleton]
  omega
noncomputable def rCat : R2 := fun x y H Q => ∃ l b xs zs, x = .ref l ∧ y = .ref b ∧ H l = some (.lst xs) ∧ H b = some (.lst zs) ∧ xs.length + zs.length ≤ sizeLine ∧ ∀ p, H p = none → Q (.ref p) (upd H p (.lst (xs ++ zs)))
theorem op_cat : OpR X (binaryOp .Add) rCat := by
  intro pins s σ H x y v u Q I rx ry h
  obtain ⟨l, b, xs, zs, rfl, rfl, hH, hB, hz, q⟩ := h
  cases rx
  cases ry
  obtain ⟨z, its, n, r, hl, e⟩ := I.lstM hH
  obtain ⟨z2, its2, n2, r2, hl2, e2⟩ := I.lstM hB
  refine PySem.P.add_list e e2 ?_ (by rw [List.size_toArray, List.size_toArray]; omega)
  have ea : its.toArray ++ its2.toArray = (its ++ its2).toArray := by simp
  rw [ea]
  exact ⟨.ref _, _, I.lnew (t' := s.toks) (r.append r2) (by rw [List.length_append]; omega), rfl, q _ I.fresh⟩
noncomputable def rRep : R2 := fun x y H Q => ∃ l k xs, x = .ref l ∧ y = .int k ∧ H l = some (.lst xs) ∧ -(2 ^ 63) ≤ k ∧ k < 2 ^ 63 ∧ xs.length * k.toNat ≤ sizeLine ∧
  ∀ p, H p = none → Q (.ref p) (upd H p (.lst (List.replicate k.toNat xs).flatten))
theorem len_rep {α : Type} (xs : List α) (k : Nat) : (List.replicate k xs).flatten.length = k * xs.length := by
  induction k with
  | zero => simp
  | succ k ih => rw [List.replicate_succ, List.flatten_cons, List.length_append, ih, Nat.succ_mul, Nat.add_comm]
theorem op_rep : OpR X (binaryOp .Mult) rRep := by
  intro pins s σ H x y v u Q I rx ry h
  obtain ⟨l, k, xs, rfl, rfl, hH, h1, h2, hz, q⟩ := h
  cases rx
  obtain ⟨t, rfl⟩ := ry
  obtain ⟨z, its, n, r, hl, e⟩ := I.lstM hH
  have hlen : its.toArray.size * k.toNat ≤ sizeLine := by rw [List.size_toArray, ← hl]; exact hz
  have hcap : ¬ its.toArray.size * k.toNat > (2 ^ 63 - 1) / 8 := by
    have : (sizeLine : Nat) ≤ (2 ^ 63 - 1) / 8 := by decide
    omega
  have hfit : ¬ (!Builtin.List.listFitsIndex k) = true := by
    rw [fitsIndex_both h1 h2]
    exact Bool.false_ne_true
  have hlong : ¬ Builtin.List.listTooLong (its.toArray.size * k.toNat) = true := by
    rw [notLongL hlen]
    exact Bool.false_ne_true
  have hnew : List.foldl (fun x1 x2 => x1 ++ x2) #[] (List.replicate (if its.toArray.isEmpty = true then 0 else k.toNat) its.toArray) = (List.replicate k.toNat its).flatten.toArray := by
    have f0 : ∀ m : Nat, List.foldl (fun x1 x2 => x1 ++ x2) #[] (List.replicate m its.toArray) = (List.replicate m its).flatten.toArray := fun m => by
      have := foldl_rep its m []
      rw [List.nil_append] at this
      exact this
    rw [f0]
    cases its with
    | nil => simp
    | cons a r' => rw [if_neg (by simp)]
  refine wpAny_binaryOp_repeat_ref (T := "list") (U := "int") (by decide) ⟨_, e, rfl⟩ (fun s' => typeIs_int s' k t) noFill_list_mul F.fills_int_mul F.slot_int_rmul repeat_list F.slot_int_index.lookup
    (call_meets F.slot_int_rmul (typeIs_int s k t) F.entry_int_rmul (F.args_int_rmul_2 _ _) (int___rmul___int_list k t l its.toArray n)
      ⟨e, rfl, ⟨_, e, rfl⟩, call_meets F.slot_list_mul ⟨_, e, rfl⟩ F.entry_list_mul (F.args_list_mul_2 _ _) (AutoListH.list___mul___list_int_3 l its.toArray n k t hfit hcap hlong) ⟨e, ?_⟩⟩)
  rw [hnew]
  exact ⟨.ref _, _, I.lnew (t' := s.toks) (r.rep k.toNat) (by rw [len_rep, Nat.mul_comm]; exact hz), rfl, q _ I.fresh⟩
end
end L2
namespace Att
open PySem PySem.W PySem.Calls PyProof.Rows
theorem ints_of_wellAll {P : Params} {h : Heap} : ∀ (ns : List Int) (vs : List Value), WellAll P h vs (ns.map WData.int) → IntsAre vs ns := by
  intro ns
  induction ns with
  | nil =>
    intro vs w
    rw [List.map_nil] at w
    cases w
    exact .nil
  | cons n ns ih =>
    intro vs w
    rw [List.map_cons] at w
    cases w with
    | cons a b =>
      cases a
      exact .cons _ _ (ih _ b)
theorem script_of {l : OpenLaw} {n : Nat} (hn : l.most = some n) {P : Params} {h : Heap} {args : List WData} {vals : List Value}
    (hpre : l.row.toRowW.claim.pre args = true) (hwl : WellAll P h vals args) :
    ∃ a vs ns, vals = [Value.ref a] ∧ args = [WData.list (ns.map WData.int)] ∧ h.get? a = some { cls := .type "list", data := .seq vs.toArray } ∧ IntsAre vs ns ∧ ns.length ≤ n := by
  have hsh : WShape.hasAll [] args [.list .int] = true := (pre_splitW hpre).1
  have hc : l.pre.holds [] { args := args } = true := (pre_splitW hpre).2
  obtain ⟨d, r, rfl, h1, h2⟩ := hasAllW_cons hsh
  obtain rfl := hasAllW_nil h2
  obtain ⟨xs, rfl, h3⟩ := hasW_list h1
  obtain ⟨ns, rfl⟩ := items_int h3
  have hlen : ns.length ≤ n := by
    unfold OpenLaw.pre at hc
    have h4 : (WTm.not (.lt (.lit (.int (n : Int))) (.len (.arg 0)))).holds [] { args := [.list (ns.map .int)] } = true := by
      have h4 := (holds_andW hc).1
      rw [hn] at h4
      exact h4
    have h5 := condW_of h4 (w_not (w_lt w_lit (w_len_list (w_arg rfl))))
    rw [List.length_map] at h5
    refine Nat.le_of_not_lt fun q => ?_
    have q' : (n : Int) < ((ns.length : Nat) : Int) := by omega
    first
      | (rw [decide_eq_true q'] at h5; exact absurd h5 (by decide))
      | (simp at h5; omega)
  cases hwl with
  | cons w1 w2 =>
    cases w2
    cases w1 with
    | list ho hall => exact ⟨_, _, ns, rfl, rfl, ho, ints_of_wellAll ns _ hall, hlen⟩
theorem post_true (l : OpenLaw) (args : List WData) : l.row.toRowW.claim.post args (.bool true) args = true :=
  postW_of (r := l.row.toRowW) (X := (true == true))
    (show WShape.has [] (.bool true) .bool = true by first | rfl | decide | simp [WShape.has, WShape.arms, WShape.armsAll])
    (show (WTm.eq .res (.lit (.bool true))).value [] { args := args, res := some (.bool true), after := args } = some (.bool (true == true)) from w_eq_bool (w_res rfl) w_lit) rfl
theorem attach_call {l : OpenLaw} {n : Nat} {q : Program} {loose : List Str} {XP : (Str → Option Value) → Heap → Prop} {YP : World → Heap → Prop} {d : DefRec}
    (hn : l.most = some n) (hdf : d.params.defaults = [])
    (call : ∀ (w : World) (s₀ s₁ : Shared) (mg mb : Str → Option Value) (fa : Addr) (o : Obj) (pm cd doc : Value) (a : Addr) (vs : List Value) (ns : List Int),
      Ground q loose [] XP w s₀ mg mb s₁.heap → YP w s₁.heap →
      s₁.heap.get? fa = some o → o.data = .func (docDef d.name d.params d.body d.scope pm cd doc) → s₁.heap.CodeRec cd d.name → mg d.name = some (.ref fa) →
      s₁.heap.get? a = some { cls := .type "list", data := .seq vs.toArray } → IntsAre vs ns → ns.length ≤ n → s₁.gens = #[] →
      codeAny (model l.prog w) callerA (.call (.ref fa) ⟨[.ref a], []⟩) (fun r s' => r = .ok (.ret (.bool true)) ∧ OldK s₁.heap s'.heap ∧ s'.os = s₁.os ∧ AllBare s'.gens) s₁) :
    WalkO q loose XP YP l.row.toRowW d [] (fun f vs => PySem.call f vs) := by
  intro w s₀ s₁ mg mb G Y fa o pm cd doc dV kV ho hd hcd hD hmg hg args vals as hpre hlay hrd hwl hlo
  obtain rfl : dV = .none := Dflts.none hD hdf
  obtain rfl : kV = .none := Dflts.noKw hD
  obtain ⟨a, vs, ns, rfl, rfl, hobj, hints, hlen⟩ := script_of hn hpre hwl
  refine enter_call (codeAny_mono (call w s₀ s₁ mg mb fa o pm cd doc a vs ns G Y ho (fd_plain hd) hcd hmg hobj hints hlen hg) fun r s' hq => ?_)
  obtain ⟨rfl, h2, h3, h4⟩ := hq
  exact ⟨.inl ⟨.bool true, .bool true, [], rfl, fun _ => rfl, .bool true, post_true l _, fun _ => ⟨List.Pairwise.nil, fun _ hm => (nomatch hm)⟩⟩, h2, h3, h4⟩
end Att
namespace L2
open PySem PySem.Spec PyProof.Rows
theorem vals_ints : ∀ {vs : List Value} {ns : List Int}, IntsAre vs ns → Vals (ns.map V.int) vs
  | _, _, .nil => .nil
  | _, _, .cons n t h => .cons ⟨t, rfl⟩ (vals_ints h)
noncomputable def Only (H : Hp) : Prop := ∀ b, H b = none ∨ ∃ o xs, H b = some (.frz o (.lst xs))
theorem law_call {P : Program} {w : World} {K : PySem.W.Frag} {mg mb : Str → Option Value} {CX : CXT} {k : Nat} {fa a : Addr} {fd : FuncData} {x : Str} {sp : Sp} {s₁ : Shared} {vs : List Value} {ns : List Int}
    (KX : K.In s₁.heap) (hns : s₁.heap.Ns mainGlobals mg) (hb : s₁.heap.Ns builtinsNs mb) (hbb : ∀ x : Str, x ≠ "__name__" → mb x = bootBuiltins x) (hlim : s₁.heap.NoLimit) (hg : s₁.gens = #[])
    (ha : s₁.heap.get? a = some { cls := .type "list", data := .seq vs.toArray }) (hi : IntsAre vs ns) (hl : ns.length ≤ sizeLine) (hr : Room k callerA)
    (F : ∀ base : Heap, K.In base → base.Ns mainGlobals mg → FnOk P w K mg base CX k fa fd [x] sp) (hbind : ∀ (s : Shared) (u : Value), BindsTo s fd ⟨[u], []⟩ [(x, u)])
    (hsp : ∀ H : Hp, Only H → SqL K H a (ns.map V.int) → sp [.ref a] H (fun v _ => v = .bl true) fun _ _ _ => False)
    (hCX : ∀ H e s', CX [] H s₁ (fun _ _ _ => False) e s' → False) :
    codeAny (model P w) callerA (.call (.ref fa) ⟨[.ref a], []⟩) (fun r s' => r = .ok (.ret (.bool true)) ∧ OldK s₁.heap s'.heap ∧ s'.os = s₁.os ∧ AllBare s'.gens) s₁ := by
  have rv := vals_ints hi
  have lenV := hi.length
  -- from an abstract heap in which nothing but the script may be tracked
  have core : ∀ H : Hp, Only H → SqL K H a (ns.map V.int) → HOk P w H s₁.heap → (∀ b, H b ≠ none → b = a) → (H a ≠ none → K.lookup a = none) →
      codeAny (model P w) callerA (.call (.ref fa) ⟨[.ref a], []⟩) (fun r s' => r = .ok (.ret (.bool true)) ∧ OldK s₁.heap s'.heap ∧ s'.os = s₁.os ∧ AllBare s'.gens) s₁ := by
    intro H hO hS hok hA hK
    have base_of : ∀ {b : Addr} {o : Obj}, s₁.heap.get? b = some o → H b = none → (hidT s₁.heap H).get? b = some o := fun e n => hidT_get e n
    have noA : ∀ {b : Addr} {o : Obj} {es : Array DictEntry} {ep : Nat}, s₁.heap.get? b = some o → o.data = .dict es ep → H b = none := fun {b o es ep} e d => by
      cases q : H b with
      | none => rfl
      | some u =>
        have e' : b = a := hA b (by rw [q]; simp)
        subst e'
        rw [ha] at e; cases e
        have d' : Data.seq vs.toArray _ = Data.dict es ep := d
        cases d'
    have nsK : ∀ {b : Addr} {m : Str → Option Value}, s₁.heap.Ns b m → (hidT s₁.heap H).Ns b m := fun {b m} ⟨o, es, ep, e, d, r⟩ => ⟨o, es, ep, base_of e (noA e d), d, r⟩
    have hKb : K.In (hidT s₁.heap H) := fun b o e => base_of (KX b o e) (by
      cases q : H b with
      | none => rfl
      | some u =>
        have e' : b = a := hA b (by rw [q]; simp)
        subst e'
        rw [hK (by rw [q]; simp)] at e; cases e)
    have hM : Mod K mg (hidT s₁.heap H) := ⟨hKb, nsK hns, ⟨mb, nsK hb, hbb⟩, let ⟨mc, h1, h2⟩ := hlim; ⟨mc, nsK h1, h2⟩⟩
    have e0 : Env0 P w K mg (hidT s₁.heap H) callerA [] s₁ H := ⟨rfl, hM, fun b o e => of_hidT e, Nat.le_of_eq (hidT_size _ _), trivial, fun b hb => absurd (show b ∈ ([] : List Addr) from hb) (by simp), hok, .of_eq hg⟩
    refine codeAny_mono ((F _ hKb (nsK hns)).run callerA [] s₁ H ⟨[.ref a], []⟩ [.ref a] [.ref a] _ _ hr e0 (hbind s₁ (.ref a)) (.cons rfl .nil) (hsp H hO hS)) fun r s' h => ?_
    cases r with
    | error e => exact (hCX H e s' h).elim
    | ok fl =>
      cases fl with
      | next => exact False.elim h
      | brk => exact False.elim h
      | cont => exact False.elim h
      | ret u =>
        obtain ⟨v, H', os, bare, un, hok', r', q⟩ := h
        have q' : v = .bl true := q
        subst q'
        obtain rfl : u = Value.bool true := r'
        refine ⟨rfl, OldK.of_keep fun b o e => ?_, os, bare⟩
        cases q : H b with
        | none => exact un.keep b o e q (by intro z; exact absurd (show b ∈ ([] : List Addr) from z) (by simp)) (by simp)
        | some u =>
          rcases hO b with z | ⟨ob, xs, z⟩
          · rw [q] at z; cases z
          · have z2 := un.frzs b ob _ z
            obtain ⟨e1, _⟩ := hok b _ z
            obtain ⟨e2, _⟩ := hok' b _ z2
            rw [e] at e1; cases e1
            exact e2
  cases hk : K.lookup a with
  | some o =>
    -- the script is one of the module's own objects
    have e := KX a o hk
    rw [ha] at e
    cases e
    refine core (fun _ => none) (fun _ => .inl rfl) (.inr ⟨_, vs.toArray, _, hk, rfl, rfl, rfl, by rw [List.size_toArray, lenV]; exact hl, by simpa using rv⟩) (fun b u z => by have z' : (none : Option HO) = some u := z; cases z') (fun b z => absurd rfl z) fun z => absurd rfl z
  | none =>
    refine core (fun b => if b = a then some (.frz { cls := .type "list", data := .seq vs.toArray } (.lst (ns.map V.int))) else none) (fun b => ?_) (.inl (.inr ⟨{ cls := .type "list", data := .seq vs.toArray }, if_pos rfl⟩)) (fun b u z => ?_) (fun b z => ?_) fun _ => hk
    · by_cases hb : b = a
      · exact .inr ⟨_, _, if_pos hb⟩
      · exact .inl (if_neg hb)
    · by_cases hb : b = a
      · have z' := (if_pos hb).symm.trans z
        cases z'
        subst hb
        exact ⟨ha, by rw [List.length_map]; exact hl, vs, _, rv, ha⟩
      · have z' := (if_neg hb).symm.trans z
        cases z'
    · by_cases hb : b = a
      · exact hb
      · exact absurd (if_neg hb) z
end L2
namespace L2
open PySem PySem.Spec PyProof.Rows
theorem walk_of {l : PySem.W.OpenLaw} {n k : Nat} {q : Program} {loose : List Str} {XP : (Str → Option Value) → Heap → Prop} {YP : World → Heap → Prop} {d : DefRec} {K : Params → PySem.W.Frag} {CX : World → CXT} {sp : World → Sp} {x : Str}
    (hn : l.most = some n) (hn2 : n ≤ sizeLine) (hdf : d.params.defaults = []) (hr : Room k callerA)
    (hY : ∀ (w : World) (h : Heap), YP w h → (K w.params).In h)
    (F : ∀ (w : World) (mg : Str → Option Value) (fa : Addr) (h : Heap), (K w.params).In h → h.Ns mainGlobals mg → mg d.name = some (.ref fa) →
      ∃ fd : FuncData, (∀ (s : Shared) (u : Value), BindsTo s fd ⟨[u], []⟩ [(x, u)]) ∧
        ∀ base : Heap, (K w.params).In base → base.Ns mainGlobals mg → FnOk l.prog w (K w.params) mg base (CX w) k fa fd [x] (sp w))
    (hsp : ∀ (w : World) (H : Hp) (a : Addr) (ns : List Int), ns.length ≤ n → Only H → SqL (K w.params) H a (ns.map V.int) → sp w [.ref a] H (fun v _ => v = .bl true) fun _ _ _ => False)
    (hCX : ∀ (w : World) (H : Hp) (s : Shared) (e : Value) (s' : Shared), CX w [] H s (fun _ _ _ => False) e s' → False) :
    PySem.W.WalkO q loose XP YP l.row.toRowW d [] (fun f vs => PySem.call f vs) := by
  refine Att.attach_call hn hdf fun w s₀ s₁ mg mb fa o pm cd doc a vs ns G Y ho hd hcd hmg hobj hints hlen hg => ?_
  have KX := hY w _ Y
  obtain ⟨fd, hb, hF⟩ := F w mg fa _ KX G.T.g hmg
  exact law_call KX G.T.g G.T.b G.T.builtins G.T.nolimit hg hobj hints (Nat.le_trans hlen hn2) hr hF hb (fun H hO hS => hsp w H a ns hlen hO hS) fun H e s' => hCX w H s₁ e s'
end L2
namespace L2
open PySem PySem.Spec PyProof.Rows
noncomputable def defArgs (s : Stmt) : Arguments := match s with
  | .FunctionDef _ a _ _ _ _ _ _ _ _ => a
  | _ => { posonlyargs := [], args := [], vararg := none, kwonlyargs := [], kw_defaults := [], kwarg := none, defaults := [] }
noncomputable def defBody (s : Stmt) : List Stmt := match s with
  | .FunctionDef _ _ b _ _ _ _ _ _ _ => b
  | _ => []
noncomputable def defScope (s : Stmt) : Scope := match s with
  | .FunctionDef _ _ _ _ _ _ sc _ _ _ => sc
  | _ => { kind := .function, names := [], isGenerator := false, isCoroutine := false }
noncomputable abbrev CX0 : CXT := fun _ _ _ _ _ _ => False
noncomputable abbrev E0 : XK := fun _ _ _ => False
theorem pass0 {X : Cx} : Passes CX0 X E0 := fun _ _ _ _ _ _ _ h => h.elim
structure Fun (K : PySem.W.Frag) (x qual : Str) (st : Stmt) (f : Addr) (fd : FuncData) : Prop where
  ex : ∃ (oc : Value) (od : Option Addr) (kV doc pm : Value) (an : Option Addr) (cdv ct : Value) (osl : Array (Option Value)),
    fd = PySem.W.fnOf x qual (defArgs st) (defBody st) (defScope st) .none kV doc pm an cdv ct ∧ K.lookup f = some ⟨oc, od, .func fd, osl⟩ ∧ PySem.W.codeIn K cdv qual = true
  kp : PySem.W.keepIn K (.ref f) = true
section
variable {P : Program} {w : World} {K : PySem.W.Frag} {mg : Str → Option Value} {base : Heap}
theorem Fun.ok {x qual : Str} {st : Stmt} {f : Addr} {fd : FuncData} {N ps : List Str} {k : Nat} {sp : Sp} (F : Fun K x qual st f fd) (S : FnScope N ps (defScope st)) (len : ∀ vs H Q E, sp vs H Q E → vs.length = ps.length)
    (hbody : ∀ (cdv : Value) (A : Around) (outer : List Env) (s : Shared) (H : Hp) (vs : List V) (Q : VK) (E : XK), Room k (A.deeper (envOfC qual (defScope st) s.heap.objs.size f cdv)) → sp vs H Q E →
      ∃ t, PSs (cxOf CX0 P w K mg base N qual (defScope st) f cdv A outer s H E).nox (defBody st) t ∧ t { nx := fun _ H' => Q .non H', rt := Q } (start N vs) H) : FnOk P w K mg base CX0 (k + 1) f fd ps sp := by
  obtain ⟨oc, od, kV, doc, pm, an, cdv, ct, osl, rfl, lk, hcd⟩ := F.ex
  refine fn_of lk hcd S len fun A outer s H vs Q E hr hsp => ?_
  obtain ⟨t, h, q⟩ := hbody cdv A outer s H vs Q E hr hsp
  exact ⟨t, h.nox, q⟩
theorem Fun.binds {x qual : Str} {st : Stmt} {f : Addr} {fd : FuncData} {ps : List Str} (F : Fun K x qual st f fd)
    (h : ∀ (kV doc pm : Value) (an : Option Addr) (cdv ct : Value) (us : List Value), us.length = ps.length → bindArgs (PySem.W.fnOf x qual (defArgs st) (defBody st) (defScope st) .none kV doc pm an cdv ct) ⟨us, []⟩ = pure (ps.zip us)) : Binds K fd ps [] := by
  obtain ⟨oc, od, kV, doc, pm, an, cdv, ct, osl, rfl, lk, hcd⟩ := F.ex
  exact .all (h kV doc pm an cdv ct)
theorem fun_mk {x qual : Str} {st : Stmt} {f : Addr} {oc : Value} {od an : Option Addr} {osl : Array (Option Value)} {kV doc pm cdv ct : Value} (l : K.lookup f = some ⟨oc, od, .func (PySem.W.fnOf x qual (defArgs st) (defBody st) (defScope st) .none kV doc pm an cdv ct), osl⟩)
    (c : PySem.W.codeIn K cdv qual = true) (k : PySem.W.keepIn K (.ref f) = true) : Fun K x qual st f (PySem.W.fnOf x qual (defArgs st) (defBody st) (defScope st) .none kV doc pm an cdv ct) := ⟨⟨oc, od, kV, doc, pm, an, cdv, ct, osl, rfl, l, c⟩, k⟩
end
theorem iteF {A B : Prop} (h : B) : if false = true then A else B := by
  rw [if_neg Bool.false_ne_true]
  exact h
theorem iteT {A B : Prop} (h : A) : if true = true then A else B := by
  rw [if_pos rfl]
  exact h
noncomputable def Same (H H' : Hp) : Prop := ∀ b o, H b = some o → H' b = some o
theorem Same.refl (H : Hp) : Same H H := fun _ _ h => h
theorem Same.trans {H H1 H2 : Hp} (a : Same H H1) (b : Same H1 H2) : Same H H2 := fun c o h => b c o (a c o h)
theorem Same.free {H H' : Hp} (e : Same H H') {l : Addr} (h : H' l = Option.none) : H l = Option.none := by
  cases q : H l with
  | none => rfl
  | some o =>
    rw [e l o q] at h
    cases h
theorem Same.seq {K : PySem.W.Frag} {H H' : Hp} {a : Addr} {xs : List V} (e : Same H H') (h : SqL K H a xs) : SqL K H' a xs := by
  rcases h with (h | ⟨o, h⟩) | h
  · exact .inl (.inl (e _ _ h))
  · exact .inl (.inr ⟨o, e _ _ h⟩)
  · exact .inr h
end L2
namespace L2
open PySem PySem.Spec PyProof.Rows
section
variable {κ : Type} [DecidableEq κ]
noncomputable def valV (kvs : List (κ × V)) (k : κ) : Option V := (kvs.find? fun kv => decide (kv.1 = k)).map (·.2)
noncomputable def putK (kvs : List (κ × V)) (k : κ) (v : V) : List (κ × V) :=
  if (kvs.any fun kv => decide (kv.1 = k)) = true then kvs.map (fun kv => if kv.1 = k then (kv.1, v) else kv) else kvs ++ [(k, v)]
noncomputable def dropK (kvs : List (κ × V)) (k : κ) : List (κ × V) := kvs.filter fun kv => decide (kv.1 ≠ k)
theorem valV_nil {k : κ} : valV ([] : List (κ × V)) k = none := rfl
theorem valV_pos {p : κ × V} {r : List (κ × V)} {k : κ} (e : p.1 = k) : valV (p :: r) k = some p.2 := by simp [valV, List.find?_cons, e]
theorem valV_neg {p : κ × V} {r : List (κ × V)} {k : κ} (e : ¬ p.1 = k) : valV (p :: r) k = valV r k := by simp [valV, List.find?_cons, e]
theorem valV_any (k : κ) : ∀ kvs : List (κ × V), (kvs.any fun kv => decide (kv.1 = k)) = (valV kvs k).isSome
  | [] => rfl
  | p :: r => by
    rw [List.any_cons]
    by_cases e : p.1 = k
    · simp only [valV_pos e, decide_eq_true e, Bool.true_or, Option.isSome_some]
    · rw [valV_neg e, decide_eq_false e, Bool.false_or]; exact valV_any k r
theorem length_putK (kvs : List (κ × V)) (k : κ) (v : V) : (putK kvs k v).length ≤ kvs.length + 1 := by
  unfold putK
  split
  · rw [List.length_map]; omega
  · rw [List.length_append, List.length_cons, List.length_nil]; omega
theorem putK_new {kvs : List (κ × V)} {k : κ} (v : V) (h : valV kvs k = none) : putK kvs k v = kvs ++ [(k, v)] := by
  unfold putK
  rw [valV_any, h]
  exact if_neg (by decide)
theorem RelO.isSome_eq {o : Option V} {u : Option Value} (r : RelO o u) : o.isSome = u.isSome := by
  cases o with
  | none => cases u with
    | none => rfl
    | some _ => exact (show False from r).elim
  | some _ => cases u with
    | none => exact (show False from r).elim
    | some _ => rfl
theorem RelO.getD {o : Option V} {u : Option Value} {d : V} {d' : Value} (r : RelO o u) (rd : RelV d d') : RelV (o.getD d) (u.getD d') := by
  cases o with
  | none => cases u with
    | none => exact rd
    | some _ => exact (show False from r).elim
  | some _ => cases u with
    | none => exact (show False from r).elim
    | some _ => exact r
theorem KV.val {kvs : List (κ × V)} {vs : List (κ × Value)} (r : KV kvs vs) (k : κ) : RelO (valV kvs k) (valueAt vs k) := by
  unfold KV at r
  induction r with
  | nil => exact True.intro
  | @cons p q ps qs h t ih =>
    obtain ⟨h1, h2⟩ := h
    by_cases e : p.1 = k
    · have e' : q.1 = k := h1.symm.trans e
      have b : valueAt (q :: qs) k = some q.2 := by simp [valueAt, List.find?_cons, e']
      rw [valV_pos e, b]; exact h2
    · have e' : ¬ q.1 = k := fun z => e (h1.trans z)
      have b : valueAt (q :: qs) k = valueAt qs k := by simp [valueAt, List.find?_cons, e']
      rw [valV_neg e, b]; exact ih
theorem KV.any {kvs : List (κ × V)} {vs : List (κ × Value)} (r : KV kvs vs) (k : κ) : (kvs.any fun kv => decide (kv.1 = k)) = vs.any fun kv => decide (kv.1 = k) := by
  unfold KV at r
  induction r with
  | nil => rfl
  | cons h t ih => rw [List.any_cons, List.any_cons, ih, h.1]
theorem KV.repl {kvs : List (κ × V)} {vs : List (κ × Value)} (r : KV kvs vs) (k : κ) {y : V} {u : Value} (ry : RelV y u) :
    KV (kvs.map fun kv => if kv.1 = k then (kv.1, y) else kv) (vs.map fun kv => if kv.1 = k then (kv.1, u) else kv) := by
  unfold KV at r ⊢
  induction r with
  | nil => exact .nil
  | @cons p q ps qs h t ih =>
    rw [List.map_cons, List.map_cons]
    refine .cons ?_ ih
    obtain ⟨h1, h2⟩ := h
    by_cases e : p.1 = k
    · rw [if_pos e, if_pos (h1.symm.trans e)]; exact ⟨h1, ry⟩
    · rw [if_neg e, if_neg (fun z => e (h1.trans z))]; exact ⟨h1, h2⟩
theorem KV.put {kvs : List (κ × V)} {vs : List (κ × Value)} (r : KV kvs vs) (k : κ) {y : V} {u : Value} (ry : RelV y u) : KV (putK kvs k y) (stored vs k u) := by
  unfold putK stored
  rw [r.any k]
  by_cases e : (vs.any fun kv => decide (kv.1 = k)) = true
  · rw [if_pos e, if_pos e]; exact r.repl k ry
  · rw [if_neg e, if_neg e]; exact Paired.snoc r ⟨rfl, ry⟩
theorem KV.drop {kvs : List (κ × V)} {vs : List (κ × Value)} (r : KV kvs vs) (k : κ) : KV (dropK kvs k) (without vs k) := by
  unfold KV at r ⊢
  unfold dropK without
  induction r with
  | nil => exact .nil
  | @cons p q ps qs h t ih =>
    obtain ⟨h1, h2⟩ := h
    rw [List.filter_cons, List.filter_cons]
    by_cases e : p.1 = k
    · have a : ¬ decide (p.1 ≠ k) = true := by simp [e]
      have b : ¬ decide (q.1 ≠ k) = true := by simp [h1.symm.trans e]
      rw [if_neg a, if_neg b]; exact ih
    · have e' : ¬ q.1 = k := fun z => e (h1.trans z)
      have a : decide (p.1 ≠ k) = true := by simp [e]
      have b : decide (q.1 ≠ k) = true := by simp [e']
      rw [if_pos a, if_pos b]; exact .cons ⟨h1, h2⟩ ih
theorem KV.keys {kvs : List (κ × V)} {vs : List (κ × Value)} (r : KV kvs vs) : kvs.map (·.1) = vs.map (·.1) := by
  unfold KV at r
  induction r with
  | nil => rfl
  | cons h t ih => rw [List.map_cons, List.map_cons, ih, h.1]
theorem KV.length {kvs : List (κ × V)} {vs : List (κ × Value)} (r : KV kvs vs) : kvs.length = vs.length := Paired.length r
end
theorem kV_is {P : Program} {w : World} {k : Key} {u : Value} (r : RelV (kV k) u) : (mixKind P w).is k u = true := by
  cases k with
  | inl i => obtain ⟨t, e⟩ := (show ∃ t, u = Value.int i t from r); subst e; exact mixKind_int P w i t
  | inr x => obtain ⟨t, e⟩ := (show ∃ t, u = Value.str x t from r); subst e; exact mixKind_str P w x t
theorem items_are {P : Program} {w : World} : ∀ {ks : List Key} {us : List Value}, Vals (ks.map kV) us → ItemsAre (mixKind P w) ks us
  | [], _, r => by rw [List.map_nil] at r; cases r; exact .nil
  | k :: ks, _, r => by
    rw [List.map_cons] at r
    cases r with
    | cons h t => exact .cons (kV_is h) (items_are t)
noncomputable abbrev KT (H : Hp) : List (List Key × V) → List (List Key × Addr × Value) → Prop := Paired fun p q => p.1 = q.1 ∧ H q.2.1 = some (.tup (p.1.map kV)) ∧ RelV p.2 q.2.2
theorem KT.val {H : Hp} {kvs : List (List Key × V)} {xs : List (List Key × Addr × Value)} (r : KT H kvs xs) (k : List Key) : RelO (valV kvs k) ((atKey xs k).map (·.2)) := by
  induction r with
  | nil => exact True.intro
  | @cons p q ps qs h t ih =>
    obtain ⟨h1, _, h2⟩ := h
    by_cases e : p.1 = k
    · have e' : q.1 = k := h1.symm.trans e
      have b : atKey (q :: qs) k = some q.2 := by simp [atKey, List.find?_cons, e']
      rw [valV_pos e, b]; exact h2
    · have e' : ¬ q.1 = k := fun z => e (h1.trans z)
      have b : atKey (q :: qs) k = atKey qs k := by simp [atKey, List.find?_cons, e']
      rw [valV_neg e, b]; exact ih
theorem KT.repl {H : Hp} {kvs : List (List Key × V)} {xs : List (List Key × Addr × Value)} (r : KT H kvs xs) (k : List Key) {y : V} {u : Value} (ry : RelV y u) :
    KT H (kvs.map fun kv => if kv.1 = k then (kv.1, y) else kv) (xs.map (putAt k u)) := by
  induction r with
  | nil => exact .nil
  | @cons p q ps qs h t ih =>
    rw [List.map_cons, List.map_cons]
    refine .cons ?_ ih
    obtain ⟨h1, h2, h3⟩ := h
    unfold putAt
    by_cases e : p.1 = k
    · rw [if_pos e, if_pos (h1.symm.trans e)]; exact ⟨h1, h2, ry⟩
    · rw [if_neg e, if_neg (fun z => e (h1.trans z))]; exact ⟨h1, h2, h3⟩
theorem KT.put {H : Hp} {kvs : List (List Key × V)} {xs : List (List Key × Addr × Value)} (r : KT H kvs xs) (k : List Key) {b : Addr} {y : V} {u : Value} (hb : H b = some (.tup (k.map kV))) (ry : RelV y u) :
    KT H (putK kvs k y) (storedH xs k b u) := by
  have e : (kvs.any fun kv => decide (kv.1 = k)) = (atKey xs k).isSome := by
    rw [valV_any, (r.val k).isSome_eq, Option.isSome_map]
  unfold putK storedH
  rw [e]
  by_cases q : (atKey xs k).isSome = true
  · rw [if_pos q, if_pos q]; exact r.repl k ry
  · rw [if_neg q, if_neg q]; exact Paired.snoc r ⟨rfl, hb, ry⟩
theorem KT.keeps {H H' : Hp} {kvs : List (List Key × V)} {xs : List (List Key × Addr × Value)} (r : KT H kvs xs) (ht : ∀ b ys, H b = some (.tup ys) → H' b = some (.tup ys)) : KT H' kvs xs :=
  Paired.mapP r fun _ _ z => ⟨z.1, ht _ _ z.2.1, z.2.2⟩
section
variable {P : Program} {w : World} {H : Hp} {h : Heap} {a : Addr}
theorem rd_of {u : HO} (ok : HOk P w H h) (e : Rd H a u) : ObjOk P w H h a u := e.ok ok
theorem dk_rd {kvs : List (Key × V)} (ok : HOk P w H h) (e : Rd H a (.dK kvs)) : kvs.length ≤ sizeLine ∧ (a == sysModules) = false ∧ ∃ vs, KV kvs vs ∧ h.DictOf (mixKind P w) a vs :=
  show ObjOk P w H h a (.dK kvs) from rd_of ok e
theorem dk_of {kvs : List (Key × V)} (ok : HOk P w H h) (e : H a = some (.dK kvs)) : kvs.length ≤ sizeLine ∧ (a == sysModules) = false ∧ ∃ vs, KV kvs vs ∧ h.DictOf (mixKind P w) a vs := dk_rd ok (.inl e)
theorem key_of {ks : List Key} (ok : HOk P w H h) (e : H a = some (.tup (ks.map kV))) : (tupleKind (mixKind P w)).is h ks a := by
  obtain ⟨_, its, r, o, h1, h2, n, h3⟩ := (show ObjOk P w H h a (.tup (ks.map kV)) from ok a _ e)
  exact ⟨o, its.toArray, n, h1, h2, h3, by simpa using items_are r⟩
theorem dt_rd {kvs : List (List Key × V)} (ok : HOk P w H h) (e : Rd H a (.dT kvs)) : kvs.length ≤ sizeLine ∧ (a == sysModules) = false ∧
    ∃ xs, KT H kvs xs ∧ h.DictOfH (tupleKind (mixKind P w)) a xs := by
  obtain ⟨z, y, xs, r, o, es, ep, h1, h2, h3, h4, h5⟩ := (show ObjOk P w H h a (.dT kvs) from rd_of ok e)
  refine ⟨z, y, xs, r, o, es, ep, h1, h2, h3, h4, fun x hx => ?_, h5⟩
  have all : ∀ {l : List (List Key × V)} {m : List (List Key × Addr × Value)}, KT H l m → ∀ x ∈ m, (tupleKind (mixKind P w)).is h x.1 x.2.1 := by
    intro l m q
    induction q with
    | nil => intro x hx; exact nomatch hx
    | @cons p q ps qs hq t ih =>
      intro x hx
      rcases List.mem_cons.mp hx with e | hx
      · subst e
        exact key_of ok (by rw [← hq.1]; exact hq.2.1)
      · exact ih x hx
  exact all r x hx
theorem dt_of {kvs : List (List Key × V)} (ok : HOk P w H h) (e : H a = some (.dT kvs)) : kvs.length ≤ sizeLine ∧ (a == sysModules) = false ∧
    ∃ xs, KT H kvs xs ∧ h.DictOfH (tupleKind (mixKind P w)) a xs := dt_rd ok (.inl e)
end
noncomputable def DGet (H : Hp) (a : Addr) (y : V) (r : Option V) : Prop :=
  (∃ kvs k, Rd H a (.dK kvs) ∧ y = kV k ∧ r = valV kvs k) ∨ ∃ kvs k b, Rd H a (.dT kvs) ∧ y = .ref b ∧ H b = some (.tup (k.map kV)) ∧ r = valV kvs k
noncomputable def DPut (H : Hp) (a : Addr) (y v : V) (H' : Hp) : Prop :=
  (∃ kvs k, H a = some (.dK kvs) ∧ y = kV k ∧ kvs.length < sizeLine ∧ H' = upd H a (.dK (putK kvs k v))) ∨
  ∃ kvs k b, H a = some (.dT kvs) ∧ y = .ref b ∧ H b = some (.tup (k.map kV)) ∧ kvs.length < sizeLine ∧ H' = upd H a (.dT (putK kvs k v))
theorem DGet.k {H : Hp} {a : Addr} {kvs : List (Key × V)} {k : Key} (e : H a = some (.dK kvs)) : DGet H a (kV k) (valV kvs k) := .inl ⟨kvs, k, .inl e, rfl, rfl⟩
theorem DGet.t {H : Hp} {a b : Addr} {kvs : List (List Key × V)} {k : List Key} (e : H a = some (.dT kvs)) (eb : H b = some (.tup (k.map kV))) : DGet H a (.ref b) (valV kvs k) := .inr ⟨kvs, k, b, .inl e, rfl, eb, rfl⟩
theorem DPut.k {H : Hp} {a : Addr} {kvs : List (Key × V)} {k : Key} {v : V} (e : H a = some (.dK kvs)) (hl : kvs.length < sizeLine) : DPut H a (kV k) v (upd H a (.dK (putK kvs k v))) := .inl ⟨kvs, k, e, rfl, hl, rfl⟩
theorem DPut.t {H : Hp} {a b : Addr} {kvs : List (List Key × V)} {k : List Key} {v : V} (e : H a = some (.dT kvs)) (eb : H b = some (.tup (k.map kV))) (hl : kvs.length < sizeLine) :
    DPut H a (.ref b) v (upd H a (.dT (putK kvs k v))) := .inr ⟨kvs, k, b, e, rfl, eb, hl, rfl⟩
section
variable {X : Cx} {pins : List (Addr × Obj)} {σ : St} {H : Hp} {s : Shared} {a : Addr} {y v : V} {u r : Value} {o : Option V} {A : Around} {E : Value → Shared → Prop}
theorem Inv.big (I : Inv X pins σ H s) : sysModules < s.heap.objs.size := by
  have h : mainGlobals < s.heap.objs.size := (I.mod.glob.keeps I.bk).lt
  exact Nat.lt_trans (by decide) h
theorem d_getItem {Q : Value → Shared → Prop} (hu : A.units + 1 < cLine) (I : Inv X pins σ H s) (g : DGet H a y (some v)) (ry : RelV y u) (h : ∀ w' s', Inv X pins σ H s' → RelV v w' → Q w' s') :
    wpAny (model X.prog X.w) A (getItem (.ref a) u) Q E s := by
  rcases g with ⟨kvs, k, e, ey, l⟩ | ⟨kvs, k, b, e, ey, eb, l⟩
  · subst ey
    obtain ⟨z, hd, vs, rel, dd⟩ := dk_rd I.hok e
    obtain ⟨w', hw, rw'⟩ := RelO.some_of (v := v) (o := valueAt vs k) (by rw [l]; exact rel.val k)
    exact wpAny_getItem_of (kV_is ry) dd.mapOf hw (h w' _ (I.tok _) rw')
  · subst ey
    cases (show u = Value.ref b from ry)
    obtain ⟨z, hd, xs, rel, dd⟩ := dt_rd I.hok e
    obtain ⟨w', hw, rw'⟩ := RelO.some_of (v := v) (o := (atKey xs k).map (·.2)) (by rw [l]; exact rel.val k)
    obtain ⟨p, hp, hp2⟩ := Option.map_eq_some_iff.mp hw
    refine wpAny_getItem_heap (tupleKind_room_in1 hu) (key_of I.hok eb) dd hp ?_
    rw [hp2]
    exact h w' _ (I.tok _) rw'
theorem d_write {h' : Heap} {t' : Nat} {ob : HO} (I : Inv X pins σ H s) (mu : Mut (H a)) (hs : Heap.SameBut a s.heap h') (he : ∃ q, h'.get? a = some q) (new : ObjOk X.prog X.w (upd H a ob) h' a ob) :
    Inv X pins σ (upd H a ob) { s with heap := h', toks := t' } :=
  I.write (x := a) (e := a) mu (.inl rfl) (fun b q hb z => (hs.2 b hb).trans z) he new
theorem dk_new {P : Program} {w : World} {H' : Hp} {h' : Heap} {kvs : List (Key × V)} {vs : List (Key × Value)} (z : kvs.length ≤ sizeLine) (hd : (a == sysModules) = false) (rel : KV kvs vs) (dd : h'.DictOf (mixKind P w) a vs) :
    ObjOk P w H' h' a (.dK kvs) := ⟨z, hd, vs, rel, dd⟩
end
noncomputable def NoSl (i : Expr) : Prop := ∀ ov iv, subscripted i false ov iv = operate [ov, iv] (getItem ov iv)
theorem subD_of {prog : Program} {w : World} {A : Around} {E : Value → Shared → Prop} {s : Shared} {env : Env} {value slice : Expr} {pos : Pos} {T id : String} {Q : Value → Shared → Prop}
    (hl : typeLookup (.type T) "__getitem__" = pure (some (.builtin id))) (hs : NoSl slice)
    (h : wpAny (model prog w) A (eval value env) (fun o s₁ => wpAny (model prog w) A (eval slice env) (fun i s₂ => s₂.TypeIs o T ∧ wpAny (model prog w) A (getItem o i) Q E s₂) E s₁) E s) :
    wpAny (model prog w) A (eval (.Subscript value slice pos) env) Q E s := by
  refine Subscript_ (wpAny_mono h (fun o s₁ h₁ => wpAny_mono h₁ (fun i s₂ h₂ => ?_) fun _ _ x => x) fun _ _ x => x)
  obtain ⟨hT, h₂⟩ := h₂
  unfold subscriptTail
  refine wpAny_bind ?_
  rw [getitemInPython_of_ne hT.not_modules]
  refine wpAny_bind (wpAny_specialOf hT hl ?_)
  have fin : wpAny (model prog w) A (subscripted slice false o i) (fun r s₃ => wpAny (model prog w) A (letTemporaryGo value o r >>= fun _ => pure r) Q E s₃) E s₂ := by
    rw [hs o i]
    exact wpAny_operating (wpAny_mono h₂ (fun r s₃ h₃ => wpAny_bind (wpAny_letTemporaryGo (wpAny_pure h₃))) fun _ _ x => x)
  first
    | exact wpAny_pure (wpAny_bind fin)
    | exact wpAny_bind (wpAny_pure (wpAny_bind fin))
    | exact wpAny_bind fin
theorem dict_typeIs {X : Cx} {pins : List (Addr × Obj)} {σ : St} {H : Hp} {s : Shared} {a : Addr} {y : V} {o : Option V} (I : Inv X pins σ H s) (g : DGet H a y o) : s.TypeIs (.ref a) "dict" := by
  rcases g with ⟨kvs, k, e, _, _⟩ | ⟨kvs, k, b, e, _, _, _⟩
  · obtain ⟨_, _, vs, _, dd⟩ := dk_rd I.hok e
    exact dd.typeIs
  · obtain ⟨_, _, xs, _, dd⟩ := dt_rd I.hok e
    exact dd.typeIs
noncomputable def tDGet (td ty : TE) : TE := fun σ H Q => td σ H fun x H1 => ty σ H1 fun y H2 => ∃ a v, x = .ref a ∧ DGet H2 a y (some v) ∧ Q v H2
section
variable {X : Cx} {o i e value : Expr} {pos pos' tpos : Pos} {td ty tv : TE}
theorem pe_dget (hu : X.A.units + 1 < cLine) (ho : PE X o td) (hi : PE X i ty) (hs : NoSl i) : PE X (.Subscript o i pos) (tDGet td ty) := by
  intro pins s σ H Q I h
  refine subD_of PySem.F.slot_dict_getitem.lookup hs (thn (ho pins s σ H _ I h) fun u s1 ⟨x, H1, I1, rx, q1⟩ => thn (hi pins s1 σ H1 _ I1 q1) fun iv s2 ⟨y, H2, I2, ry, a, v, ex, g, q2⟩ => ?_)
  subst ex
  obtain rfl : u = Value.ref a := rx
  exact ⟨dict_typeIs I2 g, d_getItem hu I2 g ry fun w' s3 I3 rw' => ⟨v, H2, I3, rw', q2⟩⟩
end
theorem dk_empty {P : Program} {w : World} {H : Hp} (h : Heap) (hb : sysModules < h.objs.size) : ObjOk P w H (h.push { cls := .type "dict", data := .dict #[] }) h.objs.size (.dK []) :=
  ⟨Nat.zero_le _, beq_eq_false_iff_ne.mpr (Ne.symm (Nat.ne_of_lt hb)), [], .nil, Heap.DictOf.new h⟩
noncomputable def tPairs : List (TE × TE) → St → Hp → (List (V × V) → Hp → Prop) → Prop
  | [], _, H, Q => Q [] H
  | (tk, tv) :: r, σ, H, Q => tk σ H fun x H1 => tv σ H1 fun y H2 => tPairs r σ H2 fun ps H3 => Q ((x, y) :: ps) H3
noncomputable abbrev VV : List (V × V) → List (Value × Value) → Prop := Paired fun p q => RelV p.1 q.1 ∧ RelV p.2 q.2
noncomputable def PPs (X : Cx) (pos : Pos) (keys : List (Option Expr)) (values : List Expr) (trs : List (TE × TE)) : Prop :=
  ∀ (pins : List (Addr × Obj)) (s : Shared) (σ : St) (H : Hp) (Q : List (V × V) → Hp → Prop), Inv X pins σ H s → tPairs trs σ H Q →
    wpAny (model X.prog X.w) X.A (evalPairs (pairTrees keys values X.env pos)) (fun vs s' => ∃ ps H', Inv X pins σ H' s' ∧ VV ps vs ∧ Q ps H') X.xe s
theorem pps_nil {X : Cx} {pos : Pos} : PPs X pos [] [] [] := fun pins s σ H Q I h => pairTrees_nil_walk ⟨[], H, I, .nil, h⟩
theorem pps_cons {X : Cx} {pos : Pos} {k v : Expr} {ks : List (Option Expr)} {vs : List Expr} {tk tv : TE} {trs : List (TE × TE)} (hk : PE X k tk) (hv : PE X v tv) (hr : PPs X pos ks vs trs) :
    PPs X pos (some k :: ks) (v :: vs) ((tk, tv) :: trs) := fun pins s σ H Q I h =>
  pairTrees_cons_walk (thn (hk pins s σ H _ I h) fun u s1 ⟨x, H1, I1, rx, q1⟩ => thn (hv pins s1 σ H1 _ I1 q1) fun w2 s2 ⟨y, H2, I2, ry, q2⟩ =>
    thn (hr pins s2 σ H2 _ I2 q2) fun ws s3 ⟨ps, H3, I3, rel, q3⟩ => ⟨(x, y) :: ps, H3, I3, .cons ⟨rx, ry⟩ rel, q3⟩)
noncomputable def mergeK (kvs more : List (Key × V)) : List (Key × V) := more.foldl (fun acc kv => putK acc kv.1 kv.2) kvs
theorem KV.merge : ∀ {more : List (Key × V)} {rs : List (Key × Value)} {kvs : List (Key × V)} {vs : List (Key × Value)}, KV more rs → KV kvs vs → KV (mergeK kvs more) (merged vs rs) := by
  intro more rs kvs vs r
  unfold KV at r
  induction r generalizing kvs vs with
  | nil => intro q; exact q
  | @cons p q ps qs h t ih =>
    intro r0
    have e : KV (putK kvs p.1 p.2) (stored vs q.1 q.2) := by
      have := r0.put p.1 h.2
      rw [← h.1]; exact this
    exact ih e
theorem length_mergeK : ∀ (more kvs : List (Key × V)), (mergeK kvs more).length ≤ kvs.length + more.length
  | [], kvs => by show kvs.length ≤ kvs.length + 0; omega
  | p :: r, kvs => by
    have h1 := length_mergeK r (putK kvs p.1 p.2)
    have h2 := length_putK kvs p.1 p.2
    show (mergeK (putK kvs p.1 p.2) r).length ≤ _
    rw [List.length_cons]; omega
theorem carries_of {P : Program} {w : World} : ∀ {kvs : List (Key × V)} {ws : List (Value × Value)}, VV (kvs.map fun kv => (kV kv.1, kv.2)) ws → ∃ rs, Carries (mixKind P w) ws rs ∧ KV kvs rs
  | [], _, r => by rw [List.map_nil] at r; cases r; exact ⟨[], True.intro, .nil⟩
  | p :: kvs, _, r => by
    rw [List.map_cons] at r
    cases r with
    | @cons a b as bs h t =>
      obtain ⟨rs, c, q⟩ := carries_of (P := P) (w := w) t
      obtain ⟨b1, b2⟩ := b
      exact ⟨(p.1, b2) :: rs, ⟨kV_is h.1, rfl, c⟩, .cons ⟨rfl, h.2⟩ q⟩
noncomputable def tDisp (trs : List (TE × TE)) : TE := fun σ H Q => ∀ p, H p = none → tPairs trs σ (upd H p (.dK [])) fun ps H2 => H2 p = some (.dK []) ∧ ∃ kvs : List (Key × V), ps = kvs.map (fun kv => (kV kv.1, kv.2)) ∧ kvs.length ≤ 15 ∧ Q (.ref p) (upd H2 p (.dK (mergeK [] kvs)))
theorem pe_disp {X : Cx} {pos : Pos} {keys : List (Option Expr)} {values : List Expr} {trs : List (TE × TE)} (h : PPs X pos keys values trs) (hall : keys.all (·.isSome) = true) (hl : keys.length = values.length) (h0 : keys ≠ [])
    (h15 : keys.length ≤ 15) : PE X (.Dict keys values pos) (tDisp trs) := by
  intro pins s σ H Q I q
  have hn := I.hok.fresh (Nat.le_refl s.heap.objs.size)
  have I1 := I.laid (a := s.heap.objs.size) (o := .dK []) (h' := s.heap.push { cls := .type "dict", data := .dict #[] }) (t' := s.toks) (fun _ _ q => Heap.get?_push_of_some _ q) (Nat.le_refl _) (dk_empty s.heap I.big)
  refine wpAny_Dict_walk (knd := mixKind X.prog X.w) hall hl h0 h15 (thn (h pins _ σ _ _ I1 (q _ hn)) fun ws s2 ⟨ps, H2, I2, rel, e, kvs, ep, lk, q2⟩ => ?_)
  subst ep
  obtain ⟨rs, c, rk⟩ := carries_of (P := X.prog) (w := X.w) rel
  obtain ⟨z, hd, vs0, r0, dd⟩ := dk_of I2.hok e
  cases r0
  refine ⟨rs, c, dd, fun h' dd' hs => ⟨.ref s.heap.objs.size, _, ?_, rfl, q2⟩⟩
  have hz : (mergeK [] kvs).length ≤ sizeLine := by
    have h1 := length_mergeK kvs []
    rw [List.length_nil] at h1
    rw [sizeLine_eq]; omega
  have he : ∃ q, h'.get? s.heap.objs.size = some q := let ⟨q, _, _, hq, _⟩ := dd'; ⟨q, hq⟩
  exact d_write I2 (by rw [e]; exact True.intro) hs he (dk_new hz hd (rk.merge .nil) dd')
end L2
set_option maxHeartbeats 4000000
namespace L2
open PySem PySem.Spec PyProof.Rows
noncomputable def clGo (cells : List (Str × Addr)) : List (Str × NameKind) → List (Str × Addr) → List (Str × Addr)
  | [], acc => acc
  | (n, k) :: r, acc => clGo cells r (if k = .free then (n, (cells.lookup n).getD 0) :: acc else acc)
theorem forIn_cl {env : Env} {f : (Str × NameKind) → List (Str × Addr) → Sem (ForInStep (List (Str × Addr)))}
    (h1 : ∀ n k acc, k ≠ .free → f (n, k) acc = pure (.yield acc)) (h2 : ∀ n acc c, env.cells.lookup n = some c → f (n, .free) acc = pure (.yield ((n, c) :: acc))) :
    ∀ (names : List (Str × NameKind)) (acc : List (Str × Addr)), (∀ x ∈ names, x.2 = .free → ∃ c, env.cells.lookup x.1 = some c) → forIn names acc f = (pure (clGo env.cells names acc) : Sem (List (Str × Addr)))
  | [], acc, _ => by simp [clGo]
  | (n, k) :: r, acc, h => by
    rw [List.forIn_cons]
    by_cases hk : k = .free
    · subst hk
      obtain ⟨c, hc⟩ := h (n, .free) List.mem_cons_self rfl
      rw [h2 n acc c hc, pure_bind]
      show forIn r ((n, c) :: acc) f = _
      rw [forIn_cl h1 h2 r ((n, c) :: acc) fun x hx => h x (List.mem_cons_of_mem _ hx)]
      show _ = pure (clGo env.cells r (if NameKind.free = .free then (n, (env.cells.lookup n).getD 0) :: acc else acc))
      rw [if_pos rfl, hc]
      rfl
    · rw [h1 n k acc hk, pure_bind]
      show forIn r acc f = _
      rw [forIn_cl h1 h2 r acc fun x hx => h x (List.mem_cons_of_mem _ hx)]
      show _ = pure (clGo env.cells r (if k = .free then (n, (env.cells.lookup n).getD 0) :: acc else acc))
      rw [if_neg hk]
theorem clos_eq {env : Env} {sc : Scope} (h : ∀ x ∈ sc.names, x.2 = .free → ∃ c, env.cells.lookup x.1 = some c) : closureFor sc env = pure (clGo env.cells sc.names []) := by
  simp only [closureFor]
  rw [forIn_cl (env := env) ?h1 ?h2 sc.names [] h, pure_bind]
  case h1 =>
    intro n k acc hk
    have : (k == NameKind.free) = false := by simpa using hk
    simp only [this, Bool.false_eq_true, if_false]
  case h2 =>
    intro n acc c hc
    simp only [beq_self_eq_true, if_true, cellOf, hc]
    rfl
theorem clGo_sub {cells : List (Str × Addr)} {x : Str} {c : Addr} : ∀ (names : List (Str × NameKind)) (acc : List (Str × Addr)), (∀ y ∈ names, y.2 = .free → ∃ c, cells.lookup y.1 = some c) → (clGo cells names acc).lookup x = some c → acc.lookup x = some c ∨ cells.lookup x = some c
  | [], acc, _, h => .inl h
  | (n, k) :: r, acc, hf, h => by
    rcases clGo_sub r _ (fun y hy => hf y (List.mem_cons_of_mem _ hy)) h with h | h
    · by_cases hk : k = .free
      · rw [if_pos hk] at h
        obtain ⟨c', hc'⟩ := hf (n, k) List.mem_cons_self hk
        have hc2 : cells.lookup n = some c' := hc'
        rw [hc2] at h
        by_cases e : x = n
        · subst e
          simp at h
          subst h
          exact .inr hc2
        · have : (x == n) = false := by simpa using e
          rw [List.lookup_cons, this] at h
          exact .inl h
      · rw [if_neg hk] at h
        exact .inl h
    · exact .inr h
theorem clGo_some {cells : List (Str × Addr)} {x : Str} : ∀ (names : List (Str × NameKind)) (acc : List (Str × Addr)), ((∃ c, acc.lookup x = some c) ∨ (x, NameKind.free) ∈ names) → ∃ c, (clGo cells names acc).lookup x = some c
  | [], acc, h => by
    rcases h with h | h
    · exact h
    · cases h
  | (n, k) :: r, acc, h => by
    refine clGo_some r _ ?_
    rcases h with ⟨c, h⟩ | h
    · refine .inl ?_
      by_cases hk : k = .free
      · rw [if_pos hk, List.lookup_cons]
        by_cases e : (x == n) = true
        · rw [e]; exact ⟨_, rfl⟩
        · have e' : (x == n) = false := by simpa using e
          rw [e']; exact ⟨c, h⟩
      · rw [if_neg hk]; exact ⟨c, h⟩
    · rcases List.mem_cons.mp h with e | h
      · injection e with e1 e2
        subst e1; subst e2
        refine .inl ?_
        rw [if_pos rfl, List.lookup_cons]
        simp
      · exact .inr h
theorem mem_of_look {α : Type} : ∀ {l : List (Str × α)} {x : Str} {k : α}, l.lookup x = some k → (x, k) ∈ l
  | [], _, _, h => by simp at h
  | (n, a) :: r, x, k, h => by
    rw [List.lookup_cons] at h
    by_cases e : x = n
    · subst e
      simp at h
      subst h
      exact List.mem_cons_self
    · have : (x == n) = false := by simpa using e
      rw [this] at h
      exact List.mem_cons_of_mem _ (mem_of_look h)
theorem relabel_look {env : Env} : ∀ {names : List (Str × NameKind)} {x : Str} {k : NameKind},
    (names.map fun (n, k) => if (k == NameKind.free && env.scope.kind == .function && env.kindOf n == some .cell) then (n, NameKind.cell) else (n, k)).lookup x = some k →
    ∃ k0, names.lookup x = some k0 ∧ (k = k0 ∨ k0 = .free)
  | [], _, _, h => by simp at h
  | (n, k0) :: r, x, k, h => by
    rw [List.map_cons] at h
    by_cases e : x = n
    · subst e
      refine ⟨k0, by simp, ?_⟩
      by_cases hc : (k0 == NameKind.free && env.scope.kind == .function && env.kindOf x == some .cell) = true
      · right
        simp at hc
        exact hc.1.1
      · left
        dsimp only at h
        rw [if_neg hc] at h
        simp at h
        exact h.symm
    · have e' : (x == n) = false := by simpa using e
      rw [List.lookup_cons, e']
      dsimp only at h
      split at h
      · rw [List.lookup_cons, e'] at h
        exact relabel_look h
      · rw [List.lookup_cons, e'] at h
        exact relabel_look h
theorem relabel_cell {env : Env} (hk : env.scope.kind = .function) : ∀ {names : List (Str × NameKind)} {x : Str}, names.lookup x = some .free → env.kindOf x = some .cell →
    (names.map fun (n, k) => if (k == NameKind.free && env.scope.kind == .function && env.kindOf n == some .cell) then (n, NameKind.cell) else (n, k)).lookup x = some .cell
  | [], _, h, _ => by simp at h
  | (n, k0) :: r, x, h, hx => by
    rw [List.map_cons]
    by_cases e : x = n
    · subst e
      simp at h
      subst h
      have hc : (NameKind.free == NameKind.free && env.scope.kind == .function && env.kindOf x == some .cell) = true := by simp [hk, hx]
      dsimp only
      rw [if_pos hc]
      simp
    · have e' : (x == n) = false := by simpa using e
      rw [List.lookup_cons, e'] at h
      dsimp only
      split
      · rw [List.lookup_cons, e']; exact relabel_cell hk h hx
      · rw [List.lookup_cons, e']; exact relabel_cell hk h hx
structure CompScope (so : Scope) (N : List Str) (caps : List (Nat × Str)) (sc : Scope) : Prop where
  kind : sc.kind = .function
  nocell : ∀ y ∈ sc.names, y.2 ≠ .cell
  names : ∀ y ∈ sc.names, y.2 = .local → sc.names.lookup y.1 = some .local
  free : ∀ y ∈ sc.names, y.2 = .free → so.names.lookup y.1 = some .cell
  caps : ∀ p ∈ caps, N[p.1]? = some p.2 ∧ so.names.lookup p.2 = some .cell ∧ sc.names.lookup p.2 = some .free
noncomputable def capσ (caps : List (Nat × Str)) (σ : St) : St := caps.map fun p => (σ[p.1]?).join
noncomputable abbrev cxComp (X : Cx) (L : List Str) (caps : List (Nat × Str)) (sc : Scope) (C : Addr) (s : Shared) (H : Hp) (fp : List Addr) : Cx :=
  { X with N := L ++ caps.map (·.2), s₀ := s, H₀ := H, env := compEnvC sc (clGo X.env.cells sc.names []) C X.env, outer := X.stack, stack := X.stack, ex := fp, fn := fun _ => false, pn := [], xe := fun _ _ => False }
theorem ne_lt {a b : Addr} {n : Nat} (h : a < n) (h2 : n ≤ b) : a ≠ b := Nat.ne_of_lt (Nat.lt_of_lt_of_le h h2)
section
variable {X : Cx} {pins : List (Addr × Obj)} {σ : St} {H : Hp} {s : Shared} {L : List Str} {caps : List (Nat × Str)} {sc : Scope} {C D : Addr} {fp : List Addr}
theorem Inv.clFree (I : Inv X pins σ H s) (S : CompScope X.env.scope X.N caps sc) : ∀ x ∈ sc.names, x.2 = .free → ∃ c, X.env.cells.lookup x.1 = some c := fun x hx hf =>
  I.ok.has x.1 (.inl (S.free x hx hf))
theorem Inv.clSub (I : Inv X pins σ H s) (S : CompScope X.env.scope X.N caps sc) {x : Str} {c : Addr} (h : (clGo X.env.cells sc.names []).lookup x = some c) : X.env.cells.lookup x = some c := by
  rcases clGo_sub sc.names [] (I.clFree S) h with h | h
  · simp at h
  · exact h
theorem comp_start {h₁ : Heap} {tk : Nat} {m : Str → Option Value} {oD : Obj} (I : Inv X pins σ H s) (S : CompScope X.env.scope X.N caps sc) (hfp : ∀ b ∈ fp, FpOk X pins H b) (hfo : ∀ b ∈ fp, ∃ o, s.heap.get? b = some o)
    (hC : s.heap.objs.size ≤ C) (hn : h₁.Ns C m) (old : ∀ b o, s.heap.get? b = some o → h₁.get? b = some o) (hD : s.heap.objs.size ≤ D) (hDC : D ≠ C) (eD : h₁.get? D = some oD) (dD : ∀ v, oD.data ≠ .cell v) :
    Inv (cxComp X L caps sc C s H fp) [(D, oD)] (List.replicate L.length none ++ capσ caps σ) H { s with heap := h₁, toks := tk } := by
  have hcells : ∀ x c, (clGo X.env.cells sc.names []).lookup x = some c → ∃ v, s.heap.IsCell c v := fun x c e => I.cell x c (I.clSub S e)
  refine ⟨⟨I.ok.mod, S.kind, I.ok.glob, I.ok.blt, hC, fun x y c h1 h2 => I.ok.inj x y c (I.clSub S h1) (I.clSub S h2), fun x hx => ?_, fun _ _ h => (Bool.false_ne_true h).elim, I.ok.hd, I.ok.frames, .inl rfl, fun b hb => ⟨?_, fun x c e => (hfp b hb).2.2.2.2.1 x c (I.clSub S e)⟩, I.bs, Nat.le_trans I.ok.bsz I.sz, fun b o e hb => ?_, fun b hb hz => ?_, I.stack, I.stkFree⟩,
    rfl, I.bare, Un.kept old, ⟨m, hn, fun i x v e1 e2 e3 => ?_⟩, fun x c e => ?_, I.hok.fresh hC, fun x c e => I.freeC x c (I.clSub S e), fun p hp => ?_, I.hok.kept old, ?_⟩
  · -- has
    have key : ∀ k, (relabel sc X.env).names.lookup x = some k → (k = .cell ∨ k = .free) → (x, NameKind.free) ∈ sc.names := fun k e hk => by
      obtain ⟨k0, e0, h0⟩ := relabel_look e
      have hm := mem_of_look e0
      rcases h0 with h0 | h0
      · subst h0
        rcases hk with hk | hk
        · exact absurd hk (S.nocell _ hm)
        · rw [hk] at hm; exact hm
      · rw [h0] at hm; exact hm
    have hm : (x, NameKind.free) ∈ sc.names := by
      rcases hx with hx | hx
      · exact key _ hx (.inl rfl)
      · exact key _ hx (.inr rfl)
    exact clGo_some sc.names [] (.inr hm)
  · obtain ⟨o, e⟩ := hfo b hb
    exact Nat.ne_of_lt (Nat.lt_of_lt_of_le (Heap.lt_size e) hC)
  · rcases (hfp b hb).2.2.2.1 with z | z
    · exact I.ok.noex b o e z
    · exact absurd (Nat.lt_of_lt_of_le (Heap.lt_size e) (Nat.le_trans I.ok.bsz z)) (Nat.lt_irrefl _)
  · rcases List.mem_cons.mp (I.stkSub b hz) with z | z
    · exact (hfp b hb).2.1 z
    · exact (hfp b hb).2.2.1 z
  · -- loc
    have e1' : (L ++ caps.map (·.2))[i]? = some x := e1
    by_cases hi : i < L.length
    · rw [List.getElem?_append_left (by simpa using hi), List.getElem?_replicate] at e2
      split at e2 <;> cases e2
    · rw [List.getElem?_append_right (by simpa using Nat.not_lt.mp hi), List.length_replicate] at e2
      rw [List.getElem?_append_right (Nat.not_lt.mp hi)] at e1'
      unfold capσ at e2
      rw [List.getElem?_map] at e1' e2
      cases hp : caps[i - L.length]? with
      | none => rw [hp] at e1'; cases e1'
      | some p =>
        rw [hp] at e1' e2
        have ex : p.2 = x := Option.some.inj e1'
        have ev : (σ[p.1]?).join = some v := Option.some.inj e2
        have ev' : σ[p.1]? = some (some v) := by
          cases q : σ[p.1]? with
          | none => rw [q] at ev; cases ev
          | some o => rw [q] at ev; exact congrArg some ev
        obtain ⟨c1, c2, c3⟩ := S.caps p (List.mem_of_getElem? hp)
        obtain ⟨m0, hn0, hl⟩ := I.loc
        rw [ex] at c1 c2 c3
        obtain ⟨u, r, l⟩ := hl p.1 x v c1 ev' (.inr (.inl c2))
        refine ⟨u, r, .inr ⟨.inl (relabel_cell I.ok.kind c3 c2), ?_⟩⟩
        rcases l with ⟨hk, _⟩ | ⟨_, c, hc, hcell⟩
        · have : X.env.scope.names.lookup x = some .local := hk
          rw [c2] at this; cases this
        · obtain ⟨c', hc'⟩ := clGo_some (cells := X.env.cells) sc.names [] (.inr (mem_of_look c3))
          have := I.clSub S hc'
          rw [hc] at this
          cases this
          obtain ⟨o, ho, hd⟩ := hcell
          exact ⟨c, hc', o, old _ _ ho, hd⟩
  · obtain ⟨v, o, ho, hd⟩ := hcells x c e
    exact ⟨v, o, old _ _ ho, hd⟩
  · have : p ∈ [(D, oD)] := hp
    have ep : p = (D, oD) := by simpa using this
    subst ep
    refine ⟨eD, I.hok.fresh hD, hDC, fun z => ?_, dD⟩
    have zz : H D = none := I.hok.fresh hD
    obtain ⟨_, o, ho, _⟩ := (I.stack).mem z
    exact absurd (Nat.lt_of_lt_of_le (Heap.lt_size ho) hD) (Nat.lt_irrefl _)
  · show (List.replicate L.length none ++ capσ caps σ).length = (L ++ caps.map (·.2)).length
    unfold capσ
    simp
noncomputable def PIf (X : Cx) (ifs : List Expr) (t : TT) : Prop :=
  ∀ (pins : List (Addr × Obj)) (s : Shared) (σ : St) (H : Hp) (Q : Bool → Hp → Prop), Inv X pins σ H s → t σ H Q →
    wpAny (model X.prog X.w) X.A (forIn ifs true fun c r => if r = true then do let ok ← isTrue c X.env (eval c X.env); pure (ForInStep.yield ok) else pure (ForInStep.yield r)) (TP X pins σ Q) X.xe s
theorem pif_nil : PIf X [] (fun _ H Q => Q true H) := fun pins s σ H Q I h => wpAny_tests_nil ⟨H, I, h⟩
theorem pif_one {c : Expr} {t : TT} (h : PT X c t) : PIf X [c] t := fun pins s σ H Q I hq => wpAny_tests_one (h pins s σ H Q I hq)
theorem compLoop_any {prog : Program} {w : World} {A : Around} {R : Result → Shared → Prop} {s : Shared} {elt target iter : Expr} {ifs : List Expr} {scope : Scope} {pos : Pos} {it acc : Value} {env : Env} (I : Nat → Shared → Prop)
    (turn : ∀ n s, I n s → wpAny (model prog w) A (pyNext it) (fun r s₁ => match r with
      | none => R (.ok .next) s₁
      | some v => wpAny (model prog w) A (letOwnedTupleGo target it v) (fun _ s1' => wpAny (model prog w) A (assign target env v) (fun _ s₂ =>
          wpAny (model prog w) A (forIn ifs true fun c r => if r = true then do let ok ← isTrue c env (eval c env); pure (ForInStep.yield ok) else pure (ForInStep.yield r)) (fun ok s₃ =>
            if ok = true then wpAny (model prog w) A (eval elt env) (fun x s₄ =>
              wpAny (model prog w) A (call (.builtin "list.append") [acc, x]) (fun _ s₅ => ∃ m, m < n ∧ I m s₅) (fun _ _ => False) s₄) (fun _ _ => False) s₃
            else ∃ m, m < n ∧ I m s₃) (fun _ _ => False) s₂) (fun _ _ => False) s1') (fun _ _ => False) s₁) (fun _ _ => False) s)
    (n : Nat) (h : I n s) : codeAny (model prog w) A (.compLoop (.ListComp elt [⟨target, iter, ifs, 0⟩] scope pos) 0 it acc env) R s := by
  refine codeAny_loop rfl I (fun n s hI => ?_) n h
  show wpAny _ A ((compTurn (.ListComp elt [⟨target, iter, ifs, 0⟩] scope pos) 0 it acc env).onRaise (fun x => do noteFrame x env; theTreesLotGoes x)) _ _ s
  refine wpAny_noted ?_
  rw [compTurn_list]
  refine wpAny_bind (wpAny_standAt (wpAny_bind (wpAny_mono (turn n s hI) (fun r s₁ h₁ => ?_) fun _ _ h' => h'.elim)))
  cases r with
  | none => exact wpAny_pure h₁
  | some v =>
    refine wpAny_bind (wpAny_mono h₁ (fun _ s1' h1' => ?_) fun _ _ h' => h'.elim)
    refine wpAny_bind (wpAny_mono h1' (fun _ s₂ h₂ => wpAny_bind (wpAny_mono h₂ (fun ok s₃ h₃ => ?_) fun _ _ h' => h'.elim)) fun _ _ h' => h'.elim)
    cases ok with
    | false => exact wpAny_pure ⟨rfl, h₃⟩
    | true =>
      exact wpAny_bind (wpAny_bind (wpAny_mono h₃ (fun x s₄ h₄ => wpAny_bind (wpAny_mono h₄ (fun _ s₅ h₅ => wpAny_pure (wpAny_pure ⟨rfl, h₅⟩)) fun _ _ h' => h'.elim)) fun _ _ h' => h'.elim))
noncomputable def compW (J : It) (g : TG) (tc : TT) (te : TE) (σ0 : St) (H1 : Hp) (Fin : List V → Hp → Prop) : Prop :=
  ∃ W : Nat → Nat → St → List V → Hp → Prop, (∃ m, W 0 m σ0 [] H1) ∧ ∀ i m σ ys H, W i m σ ys H →
    (J.stop i H ∧ Fin ys H) ∨ (J.go i H ∧ ys.length < sizeLine ∧ ∀ x H', J.yld i H x H' → g x σ H' fun σ2 H2 => tc σ2 H2 fun b H3 =>
      if b = true then te σ2 H3 fun y H4 => ∃ m', m' < m ∧ W (i + 1) m' σ2 (ys ++ [y]) H4 else ∃ m', m' < m ∧ W (i + 1) m' σ2 ys H3)
theorem comp_block {elt iter tg : Expr} {ifs : List Expr} {pos : Pos} {g : TG} {tc : TT} {te : TE} {J : It} {it : Addr} {tn : Nat → Heap → Prop} {Fin : List V → Hp → Prop} {RR : Value → Addr → Result → Shared → Prop} {E : Value → Shared → Prop} {s₂ : Shared}
    (hc : X.calm = true) (S : CompScope X.env.scope X.N caps sc) (I : Inv X pins σ H s₂) (T : Turn X.prog X.w X.K tg J fp it tn) (st : tn 0 s₂.heap) (hfp : ∀ b ∈ fp, FpOk X pins H b)
    (hg : ∀ C, PG (cxComp X L caps sc C s₂ H fp) tg g) (hif : ∀ C, PIf (cxComp X L caps sc C s₂ H fp) ifs tc) (he : ∀ C, PE (cxComp X L caps sc C s₂ H fp) elt te)
    (hW : compW J g tc te (List.replicate L.length none ++ capσ caps σ) H Fin)
    (hRR : ∀ C D s' m ys H', Inv X pins σ (upd H' D (.lst ys)) s' → s'.heap.Ns C m → FpOk X pins (upd H' D (.lst ys)) C → H' D = none → Fin ys H' → RR (.ref D) C (.ok .next) s') :
    wpAny (model X.prog X.w) X.A (newList []) (fun acc s₃ => wpAny (model X.prog X.w) X.A (newFunctionEnv sc X.env.globals (clGo X.env.cells sc.names []) [] X.env.qual none .none (some X.env)) (fun cenv s₄ =>
      codeAny (model X.prog X.w) X.A (.compStart (.ListComp elt [⟨tg, iter, ifs, 0⟩] sc pos) 0 (.ref it) acc { cenv with scope := relabel sc X.env }) (RR acc cenv.locals) s₄) E s₃) E s₂ := by
  refine wpAny_newObj_type (wpAny_newFunctionEnv S.nocell (by intro y hy; simp at hy) (fun h₁ hns₁ hsb₁ => ?_) S.kind)
  dsimp only at hns₁ hsb₁ ⊢
  generalize hH2 : s₂.heap.push { cls := .type "list", dict := none, data := .seq ([] : List Value).toArray } = H2 at hns₁ hsb₁ ⊢
  have hCs : H2.objs.size = s₂.heap.objs.size + 1 := by rw [← hH2, Heap.size_push]
  have hDC : s₂.heap.objs.size ≠ H2.objs.size := by rw [hCs]; exact Nat.ne_of_lt (Nat.lt_succ_self _)
  have hCle : s₂.heap.objs.size ≤ H2.objs.size := by rw [hCs]; exact Nat.le_succ _
  have below : ∀ b, b < s₂.heap.objs.size → b ≠ H2.objs.size ∧ b ≠ s₂.heap.objs.size := fun b hb => ⟨by rw [hCs]; exact Nat.ne_of_lt (Nat.lt_succ_of_lt hb), Nat.ne_of_lt hb⟩
  have old : ∀ b o, s₂.heap.get? b = some o → h₁.get? b = some o := fun b o e => hsb₁.extBut b o (below b (Heap.lt_size e)).1 (Heap.get?_push_of_some _ (hH2 ▸ Heap.get?_push_of_some _ e))
  have hacc : h₁.get? s₂.heap.objs.size = some { cls := .type "list", data := .seq ([] : List Value).toArray } := hsb₁.extBut _ _ hDC (Heap.get?_push_of_some _ (hH2 ▸ Heap.get?_push_size _ rfl))
  generalize hCn : H2.objs.size = C at hns₁ hsb₁ hDC hCle below ⊢
  generalize hDn : s₂.heap.objs.size = D at hacc hDC ⊢
  have hDle : s₂.heap.objs.size ≤ D := Nat.le_of_eq hDn
  have fo : ∀ b ∈ fp, ∃ o, s₂.heap.get? b = some o := fun b hb => let ⟨o, e, _⟩ := T.obj 0 _ st b hb; ⟨o, e⟩
  have bD : ∀ b ∈ fp, D ≠ b := fun b hb z => by
    obtain ⟨o, e⟩ := fo b hb
    exact ne_lt (Heap.lt_size e) hDle z.symm
  have cD : ∀ x c, X.env.cells.lookup x = some c → c ≠ D := fun x c e => by
    obtain ⟨v, o, ho, _⟩ := I.cell x c e
    exact ne_lt (Heap.lt_size ho) hDle
  have cC : ∀ x c, X.env.cells.lookup x = some c → c ≠ C := fun x c e => by
    obtain ⟨v, o, ho, _⟩ := I.cell x c e
    exact ne_lt (Heap.lt_size ho) hCle
  have start := fun tk => comp_start (L := L) (fp := fp) (tk := tk) I S hfp fo hCle hns₁ old hDle hDC hacc (fun v z => by
    have z' : Data.seq _ _ = Data.cell v := z
    cases z')
  obtain ⟨W, ⟨m0, w0⟩, turn⟩ := hW
  -- the static facts of the iterator's records in the block
  have stat : ∀ {pl : List (Addr × Obj)} {H' : Hp}, (∀ b ∈ fp, H' b = none) → (∀ p ∈ pl, p.1 = D) → ∀ b ∈ fp, FpOk (cxComp X L caps sc C s₂ H fp) pl H' b := fun {pl H'} hn hpl b hb => by
    obtain ⟨f0, f1, f2, f3, f4, f5⟩ := hfp b hb
    obtain ⟨o, e⟩ := fo b hb
    refine ⟨hn b hb, (below b (Heap.lt_size e)).1, fun z => ?_, .inl hb, fun x c e' => f4 x c (I.clSub S e'), fun p hp z => ?_⟩
    · rcases List.mem_cons.mp (I.stkSub b z) with z | z
      · exact f1 z
      · exact f2 z
    · have hp' : p ∈ pl := hp
      exact bD b hb ((hpl p hp').symm.trans z)
  have fin : ∀ (s' : Shared) (σ' : St) (H' : Hp) (ys : List V) (its : List Value) (n : Nat), Inv (cxComp X L caps sc C s₂ H fp) [(D, { cls := .type "list", data := .seq its.toArray n })] σ' H' s' → Vals ys its → ys.length ≤ sizeLine → Fin ys H' → RR (.ref D) C (.ok .next) s' := fun s' σ' H' ys its n I' rv hz hF => by
    obtain ⟨m, hm, _⟩ := I'.loc
    obtain ⟨eD, hDn', _, _, _⟩ := I'.pin (D, { cls := .type "list", data := .seq its.toArray n }) (by simp)
    have eD' : s'.heap.get? D = some { cls := .type "list", data := .seq its.toArray n } := eD
    have hDnone : H' D = none := hDn'
    have hCnone : H' C = none := I'.free
    have neD : ∀ b o, s₂.heap.get? b = some o → b ≠ D := fun b o e => ne_lt (Heap.lt_size e) hDle
    have neH : ∀ b u, H b = some u → b ≠ D := fun b u e => ne_lt (I.hok.lt e) hDle
    have ub := I'.base
    have hok : HOk X.prog X.w (upd H' D (.lst ys)) s'.heap := fun b u e => by
      by_cases hb : b = D
      · subst hb
        rw [upd_same] at e
        cases e
        exact ⟨hz, its, n, rv, eD'⟩
      · rw [upd_ne hb] at e
        exact (I'.hok b u e).stay (fun c v _ q => q) (fun c q => by rw [upd_ne (ne_of_none q hDnone)]; exact q) fun c xs q => by rw [upd_ne (ne_of_none q hDnone)]; exact q
    have un : Un (frs X.stack) fp H (upd H' D (.lst ys)) s₂.heap s'.heap := ⟨ub.keep, ub.slot, fun b o e n hx => by rw [upd_ne (neD b o e)]; exact ub.free b o e n hx, ub.there, fun b xs e => by rw [upd_ne (neH b _ e)]; exact ub.tups b xs e,
      fun b o u e => by rw [upd_ne (neH b _ e)]; exact ub.frzs b o u e, fun b ps e => by rw [upd_ne (neH b _ e)]; exact ub.tbls b ps e⟩
    have IX : Inv X pins σ (upd H' D (.lst ys)) s' := I.call' (ch := fp) I'.os un hok I'.bare fun b hb => by
      obtain ⟨f0, f1, f2, f3, f4, f5⟩ := hfp b hb
      exact ⟨f3, f1, f4, f5⟩
    refine hRR C D s' m ys H' IX hm ⟨by rw [upd_ne (Ne.symm hDC)]; exact hCnone, ?_, ?_, .inr (Nat.le_trans I.sz hCle), cC, fun p hp => ?_⟩ hDnone hF
    · exact Ne.symm (ne_lt I.lt hCle)
    · exact I.nofs hCle
    · exact ne_lt (Heap.lt_size (I.pin p hp).1) hCle
  have loop : ∀ s₃ : Shared, s₃ = { s₂ with heap := h₁, toks := s₂.toks + ([] : List (Str × Value)).length } →
      codeAny (model X.prog X.w) X.A (.compLoop (.ListComp elt [⟨tg, iter, ifs, 0⟩] sc pos) 0 (.ref it) (.ref D) (compEnvC sc (clGo X.env.cells sc.names []) C X.env)) (RR (.ref D) C) s₃ := by
    rintro s₃ rfl
    refine compLoop_any (fun k s' => ∃ i σ' H' ys its n, Inv (cxComp X L caps sc C s₂ H fp) [(D, { cls := .type "list", data := .seq its.toArray n })] σ' H' s' ∧ tn i s'.heap ∧ (∀ b ∈ fp, H' b = none) ∧ Vals ys its ∧ ys.length ≤ sizeLine ∧ W i k σ' ys H') ?_ m0
      ⟨0, _, H, [], [], 0, start _, T.keep 0 _ _ st (fun b hb o e => old b o e), fun b hb => (hfp b hb).1, .nil, Nat.zero_le _, w0⟩
    rintro k s' ⟨i, σ', H', ys, its, n, I', st', fr', rv, hz, w'⟩
    have hpl : ∀ p ∈ [(D, ({ cls := .type "list", data := .seq its.toArray n } : Obj))], p.1 = D := fun p hp => by
      rcases List.mem_cons.mp hp with e | e
      · rw [e]
      · cases e
    rcases turn i k σ' ys H' w' with ⟨stop, hF⟩ | ⟨go, hlen, step⟩
    · refine thn (T.done (cxComp X L caps sc C s₂ H fp) rfl rfl rfl hc i _ s' σ' H' _ I' (stat fr' hpl) st' stop) fun r s4 ⟨hr, I4⟩ => ?_
      subst hr
      exact fin s4 σ' H' ys its n I4 rv hz hF
    · refine thn (T.item (cxComp X L caps sc C s₂ H fp) rfl rfl rfl hc i _ s' σ' H' _ I' (stat fr' hpl) st' go) fun r s4 ⟨u, hr, h4⟩ => ?_
      subst hr
      refine thn h4 fun _ s5 ⟨x, H5, I5, r5, y5, st5, fr5⟩ => ?_
      have I5' := I5.pinned (stat fr5 hpl) (T.obj _ _ st5)
      refine thn (hg C _ s5 σ' H5 x u _ I5' r5 (step x H5 y5)) fun _ s6 ⟨σ6, H6, I6, q6⟩ => ?_
      refine thn (hif C _ s6 σ6 H6 _ I6 q6) fun ok s7 ⟨H7, I7, q7⟩ => ?_
      have back : ∀ {σ8 : St} {H8 : Hp} {s8 : Shared}, Inv (cxComp X L caps sc C s₂ H fp) ([(D, { cls := .type "list", data := .seq its.toArray n })] ++ pinsAt fp s5.heap) σ8 H8 s8 →
          tn (i + 1) s8.heap ∧ ∀ b ∈ fp, H8 b = none := fun {σ8 H8 s8} I8 => by
        refine ⟨T.keep _ _ _ st5 fun b hb o e => (I8.pin (b, o) (List.mem_append_right _ (List.mem_append_right _ (mem_pinsAt hb e)))).1, fun b hb => ?_⟩
        obtain ⟨o, e, d⟩ := T.obj _ _ st5 b hb
        exact (I8.pin (b, o) (List.mem_append_right _ (List.mem_append_right _ (mem_pinsAt hb e)))).2.1
      cases ok with
      | false =>
        rw [if_neg Bool.false_ne_true] at q7
        rw [if_neg Bool.false_ne_true]
        obtain ⟨m', hm', w7⟩ := q7
        obtain ⟨b1, b2⟩ := back I7
        exact ⟨m', hm', i + 1, σ6, H7, ys, its, n, I7.unpinned, b1, b2, rv, hz, w7⟩
      | true =>
        rw [if_pos rfl] at q7
        rw [if_pos rfl]
        refine thn (he C _ s7 σ6 H7 _ I7 q7) fun yv s8 ⟨y, H8, I8, r8, m', hm', w8⟩ => ?_
        obtain ⟨b1, b2⟩ := back I8
        obtain ⟨eD, hDn8, neL8, nf8, _⟩ := I8.pin (D, { cls := .type "list", data := .seq its.toArray n }) (by simp)
        have hl := rv.length
        refine append_at (s := s8) eD (fun h9 sb e9 => ?_) (by simp only [List.size_toArray]; omega)
        have I8' : Inv (cxComp X L caps sc C s₂ H fp) [] σ6 H8 s8 := I8.pins_of fun p hp => nomatch hp
        have I9 : Inv (cxComp X L caps sc C s₂ H fp) [] σ6 H8 { s8 with heap := h9 } := I8'.turned (t' := s8.toks) (it := D) (fun b o hb e => (sb.2 b hb).trans e) hDn8 neL8 (.inr hDle) (fun x c e => cD x c (I.clSub S e)) fun p hp => nomatch (show p ∈ ([] : List (Addr × Obj)) from hp)
        have ep : its.toArray.push yv = (its ++ [yv]).toArray := by simp
        rw [ep] at e9
        refine ⟨m', hm', i + 1, σ6, H8, ys ++ [y], its ++ [yv], n + 1, I9.pins_of fun p hp => ?_, T.keep _ _ _ b1 fun b hb o e => (sb.2 b (Ne.symm (bD b hb))).trans e, b2, Vals.append rv (.cons r8 .nil), by rw [List.length_append]; exact hlen, w8⟩
        obtain rfl : p = (D, ({ cls := .type "list", data := .seq (its ++ [yv]).toArray (n + 1) } : Obj)) := by
          rcases List.mem_cons.mp hp with e | e
          · exact e
          · cases e
        exact ⟨e9, hDn8, neL8, nf8, fun v z => by
          have z' : Data.seq _ _ = Data.cell v := z
          cases z'⟩
  exact codeAny_compStart_list (loop _ rfl) (T.self X.A 0 _ _ _ (T.keep 0 _ _ st fun b hb o e => old b o e) (loop _ rfl))
noncomputable def tComp (wi : TI) (g : TG) (tc : TT) (te : TE) (nL : Nat) (caps : List (Nat × Str)) : TE := fun σ H Q => wi σ H fun J H1 =>
  compW J g tc te (List.replicate nL none ++ capσ caps σ) H1 fun ys H2 => ∀ p, H2 p = none → Q (.ref p) (upd H2 p (.lst ys))
theorem pe_comp {elt iter tg : Expr} {ifs : List Expr} {pos : Pos} {wi : TI} {g : TG} {tc : TT} {te : TE} (L : List Str) (caps : List (Nat × Str)) (hc : X.calm = true) (S : CompScope X.env.scope X.N caps sc) (hi : PI X tg iter wi)
    (hg : ∀ C s H fp, PG (cxComp X L caps sc C s H fp) tg g) (hif : ∀ C s H fp, PIf (cxComp X L caps sc C s H fp) ifs tc) (he : ∀ C s H fp, PE (cxComp X L caps sc C s H fp) elt te)
    (hs : ∀ x, foldedSetIterable iter X.env x = pure x := by intro _; rfl) : PE X (.ListComp elt [⟨tg, iter, ifs, 0⟩] sc pos) (tComp wi g tc te L.length caps) := by
  intro pins s σ H Q I h
  rw [eval_ListComp]
  refine wpAny_comprehension_free (use := none) rfl hs (clos_eq (I.clFree S)) S.kind S.names (thn (hi pins s σ H _ I h) fun v s1 h1 => thn h1 fun itv s2 h2 => ?_)
  obtain ⟨it, fp, tn, J, H2, e, I2, T, st2, f2, hW⟩ := h2
  subst e
  refine comp_block (L := L) (RR := fun acc C => compPost (model X.prog X.w) X.A X.xe none (EP X pins σ Q) acc C) hc S I2 T st2 f2 (fun C => hg C _ _ _) (fun C => hif C _ _ _) (fun C => he C _ _ _) hW ?_
  intro C D s' m ys H' I' hn hC hDn hF
  refine ⟨m, hn, fun h' sb => ?_⟩
  obtain ⟨f0, f1, f2, f3, f4, f5⟩ := hC
  exact ⟨.ref D, _, I'.turned (t' := s'.toks) (it := C) (fun b o hb e => (sb.2 b hb).trans e) f0 f1 f3 f4 f5, rfl, hF D hDn⟩
theorem ps_comp {elt iter tg : Expr} {ifs : List Expr} {pos py spos : Pos} {wi : TI} {g : TG} {tc : TT} {te : TE} {i : Nat} {y : Str} (L : List Str) (caps : List (Nat × Str)) (hc : X.calm = true) (hN : X.N.Nodup) (hy : X.N[i]? = some y) (hyl : X.env.scope.names.lookup y = some .local)
    (S : CompScope X.env.scope X.N caps sc) (hi : PI X tg iter wi)
    (hg : ∀ C s H fp, PG (cxComp X L caps sc C s H fp) tg g) (hif : ∀ C s H fp, PIf (cxComp X L caps sc C s H fp) ifs tc) (he : ∀ C s H fp, PE (cxComp X L caps sc C s H fp) elt te)
    (hsw : swapsWith (.ListComp elt [⟨tg, iter, ifs, 0⟩] sc pos) (some (.Name y py)) spos.line X.env = pure true := by rfl)
    (hs : ∀ x, foldedSetIterable iter X.env x = pure x := by intro _; rfl) : PS X (.Assign [.Name y py] (.ListComp elt [⟨tg, iter, ifs, 0⟩] sc pos) spos) (tAsg (tComp wi g tc te L.length caps) (gName i)) := by
  intro pins s σ H D I h
  rw [exec_Assign_Name_used _ _ _ _ hsw]
  refine wpAny_bind (wpAny_standAt (wpAny_bind ?_))
  show wpAny _ X.A (do let _ ← comprehension (.ListComp elt [⟨tg, iter, ifs, 0⟩] sc pos) sc X.env _ (newList []) false (eval iter X.env) (some (assign (.Name y py) X.env))) _ _ s
  refine wpAny_bind (wpAny_mono (wpAny_comprehension_free (use := some (assign (.Name y py) X.env)) (Q := fun _ s' => SP X pins D .next s') rfl hs (clos_eq (I.clFree S)) S.kind S.names
    (thn (hi pins s σ H _ I h) fun v s1 h1 => thn h1 fun itv s2 h2 => ?_)) (fun _ s' hq => wpAny_pure (wpAny_pure hq)) fun _ _ e => e)
  obtain ⟨it, fp, tn, J, H2, e, I2, T, st2, f2, hW⟩ := h2
  subst e
  refine comp_block (L := L) (RR := fun acc C => compPost (model X.prog X.w) X.A X.xe (some (assign (.Name y py) X.env)) (fun _ s' => SP X pins D .next s') acc C) hc S I2 T st2 f2 (fun C => hg C _ _ _) (fun C => hif C _ _ _) (fun C => he C _ _ _) hW ?_
  intro C Dd s' m ys H' I' hn hC hDn hF
  obtain ⟨f0, f1, f2, f3, f4, f5⟩ := hC
  show wpAny _ X.A (assign (.Name y py) X.env (.ref Dd)) _ _ _
  refine wpAny_assign_Name (store_ok2 (v := .ref Dd) I' hN hy (.inl hyl) rfl (fun s'' I'' hsb => ?_) (.inr hyl))
  obtain ⟨a, hsb, ha⟩ := hsb
  have hL : a ≠ C := by
    rcases ha with z | z
    · rw [z]; exact Ne.symm f1
    · exact f4 y a z
  refine ⟨m, hn.sameBut hsb (Ne.symm hL), fun h' sb => ?_⟩
  exact ⟨_, _, I''.turned (t' := s''.toks) (it := C) (fun b o hb e => (sb.2 b hb).trans e) f0 f1 f3 f4 f5, hF Dd hDn⟩
end
end L2
namespace L3
open PySem PySem.Spec PyProof.Rows L2
inductive Dt where
  | non | bl (b : Bool) | int (i : Int) | str (x : Str) | tup (xs : List Dt) | lst (n : Nat) | ty (n : String)
inductive SO where
  | ro (xs : List Dt) | rw (xs : List Dt)
noncomputable def SO.items : SO → List Dt
  | .ro xs => xs
  | .rw xs => xs
noncomputable abbrev Sto := List SO
noncomputable abbrev Rho := List (Option Dt)
mutual
noncomputable def D (K : PySem.W.Frag) (φ : Nat → Addr) (N : Nat) (H : Hp) : Dt → V → Prop
  | .non, v => v = .non
  | .bl b, v => v = .bl b
  | .int i, v => v = .int i
  | .str x, v => v = .str x
  | .ty n, v => v = .ty n
  | .tup ds, v => ∃ a vs, v = .ref a ∧ SqT K H a vs ∧ DL K φ N H ds vs
  | .lst n, v => n < N ∧ v = .ref (φ n)
noncomputable def DL (K : PySem.W.Frag) (φ : Nat → Addr) (N : Nat) (H : Hp) : List Dt → List V → Prop
  | [], vs => vs = []
  | d :: ds, vs => ∃ v r, vs = v :: r ∧ D K φ N H d v ∧ DL K φ N H ds r
end
structure Evo (K : PySem.W.Frag) (φ : Nat → Addr) (N : Nat) (H : Hp) (φ' : Nat → Addr) (N' : Nat) (H' : Hp) : Prop where
  le : N ≤ N'
  ext : ∀ i, i < N → φ' i = φ i
  tup : ∀ a vs, SqT K H a vs → SqT K H' a vs
  emp : ∀ a, H a = some (.dK []) → H' a = some (.dK [])
section
variable {K : PySem.W.Frag} {φ φ' φ1 φ2 : Nat → Addr} {N N' N1 N2 : Nat} {H H' H1 H2 : Hp}
theorem Evo.refl : Evo K φ N H φ N H := ⟨Nat.le_refl _, fun _ _ => rfl, fun _ _ h => h, fun _ h => h⟩
theorem Evo.trans (a : Evo K φ N H φ1 N1 H1) (b : Evo K φ1 N1 H1 φ2 N2 H2) : Evo K φ N H φ2 N2 H2 :=
  ⟨Nat.le_trans a.le b.le, fun i hi => (b.ext i (Nat.lt_of_lt_of_le hi a.le)).trans (a.ext i hi), fun x vs h => b.tup x vs (a.tup x vs h), fun x h => b.emp x (a.emp x h)⟩
mutual
theorem D.evo (e : Evo K φ N H φ' N' H') : ∀ {d : Dt} {v : V}, D K φ N H d v → D K φ' N' H' d v
  | .non, _, h => by simpa [D] using h
  | .bl _, _, h => by simpa [D] using h
  | .int _, _, h => by simpa [D] using h
  | .str _, _, h => by simpa [D] using h
  | .ty _, _, h => by simpa [D] using h
  | .tup ds, v, h => by
    simp only [D] at h ⊢
    obtain ⟨a, vs, h1, h2, h3⟩ := h
    exact ⟨a, vs, h1, e.tup a vs h2, DL.evo e h3⟩
  | .lst n, v, h => by
    simp only [D] at h ⊢
    obtain ⟨h1, h2⟩ := h
    exact ⟨Nat.lt_of_lt_of_le h1 e.le, by rw [e.ext n h1]; exact h2⟩
theorem DL.evo (e : Evo K φ N H φ' N' H') : ∀ {ds : List Dt} {vs : List V}, DL K φ N H ds vs → DL K φ' N' H' ds vs
  | [], vs, h => by simpa [DL] using h
  | d :: ds, vs, h => by
    simp only [DL] at h ⊢
    obtain ⟨v, r, h1, h2, h3⟩ := h
    exact ⟨v, r, h1, D.evo e h2, DL.evo e h3⟩
end
theorem DL.length : ∀ {ds : List Dt} {vs : List V}, DL K φ N H ds vs → ds.length = vs.length
  | [], vs, h => by simp only [DL] at h; rw [h]; rfl
  | d :: ds, vs, h => by
    simp only [DL] at h
    obtain ⟨v, r, h1, _, h3⟩ := h
    rw [h1, List.length_cons, List.length_cons, DL.length h3]
theorem DL.get : ∀ {ds : List Dt} {vs : List V} {i : Nat} {d : Dt}, DL K φ N H ds vs → ds[i]? = some d → ∃ v, vs[i]? = some v ∧ D K φ N H d v
  | [], _, _, _, _, e => by simp at e
  | d :: ds, vs, 0, d', h, e => by
    simp only [DL] at h
    obtain ⟨v, r, h1, h2, _⟩ := h
    simp at e
    subst e; subst h1
    exact ⟨v, rfl, h2⟩
  | d :: ds, vs, i + 1, d', h, e => by
    simp only [DL] at h
    obtain ⟨v, r, h1, _, h3⟩ := h
    subst h1
    obtain ⟨w, e1, e2⟩ := DL.get (i := i) h3 (by simpa using e)
    exact ⟨w, by simpa using e1, e2⟩
theorem DL.nil : DL K φ N H [] [] := by simp [DL]
theorem DL.cons {d : Dt} {v : V} {ds : List Dt} {vs : List V} (h : D K φ N H d v) (t : DL K φ N H ds vs) : DL K φ N H (d :: ds) (v :: vs) := by
  simp only [DL]; exact ⟨v, vs, rfl, h, t⟩
theorem DL.append : ∀ {ds es : List Dt} {vs ws : List V}, DL K φ N H ds vs → DL K φ N H es ws → DL K φ N H (ds ++ es) (vs ++ ws)
  | [], _, vs, _, h, h' => by simp only [DL] at h; rw [h]; exact h'
  | d :: ds, es, vs, ws, h, h' => by
    simp only [DL] at h
    obtain ⟨v, r, h1, h2, h3⟩ := h
    subst h1
    exact DL.cons h2 (DL.append h3 h')
theorem DL.drop : ∀ {ds : List Dt} {vs : List V} (n : Nat), DL K φ N H ds vs → DL K φ N H (ds.drop n) (vs.drop n)
  | ds, vs, 0, h => h
  | [], vs, n + 1, h => by simp only [DL] at h; rw [h]; simpa using DL.nil
  | d :: ds, vs, n + 1, h => by
    simp only [DL] at h
    obtain ⟨v, r, h1, h2, h3⟩ := h
    subst h1
    exact DL.drop n h3
theorem DL.take : ∀ {ds : List Dt} {vs : List V} (n : Nat), DL K φ N H ds vs → DL K φ N H (ds.take n) (vs.take n)
  | ds, vs, 0, h => by simpa using DL.nil
  | [], vs, n + 1, h => by simp only [DL] at h; rw [h]; simpa using DL.nil
  | d :: ds, vs, n + 1, h => by
    simp only [DL] at h
    obtain ⟨v, r, h1, h2, h3⟩ := h
    subst h1
    exact DL.cons h2 (DL.take n h3)
theorem DL.set {d : Dt} {v : V} (hd : D K φ N H d v) : ∀ {ds : List Dt} {vs : List V} (n : Nat), DL K φ N H ds vs → DL K φ N H (ds.set n d) (vs.set n v)
  | [], vs, n, h => by simp only [DL] at h; rw [h]; simpa using DL.nil
  | e :: ds, vs, 0, h => by
    simp only [DL] at h
    obtain ⟨w, r, h1, h2, h3⟩ := h
    subst h1
    exact DL.cons hd h3
  | e :: ds, vs, n + 1, h => by
    simp only [DL] at h
    obtain ⟨w, r, h1, h2, h3⟩ := h
    subst h1
    exact DL.cons h2 (DL.set hd n h3)
theorem DL.one {d : Dt} {vs : List V} (h : DL K φ N H [d] vs) : ∃ v, vs = [v] ∧ D K φ N H d v := by
  simp only [DL] at h
  obtain ⟨v, r, h1, h2, h3⟩ := h
  subst h3
  exact ⟨v, h1, h2⟩
theorem DL.two {d e : Dt} {vs : List V} (h : DL K φ N H [d, e] vs) : ∃ v w, vs = [v, w] ∧ D K φ N H d v ∧ D K φ N H e w := by
  simp only [DL] at h
  obtain ⟨v, r, h1, h2, w, r', h3, h4, h5⟩ := h
  subst h5; subst h3
  exact ⟨v, w, h1, h2, h4⟩
theorem D.int {i : Int} {v : V} (h : D K φ N H (.int i) v) : v = .int i := by simpa [D] using h
theorem D.bl {i : Bool} {v : V} (h : D K φ N H (.bl i) v) : v = .bl i := by simpa [D] using h
theorem D.str {i : Str} {v : V} (h : D K φ N H (.str i) v) : v = .str i := by simpa [D] using h
theorem D.non {v : V} (h : D K φ N H .non v) : v = .non := by simpa [D] using h
theorem D.ty {n : String} {v : V} (h : D K φ N H (.ty n) v) : v = .ty n := by simpa [D] using h
theorem D.tup {ds : List Dt} {v : V} (h : D K φ N H (.tup ds) v) : ∃ a vs, v = .ref a ∧ SqT K H a vs ∧ DL K φ N H ds vs := by simpa [D] using h
theorem D.lst {n : Nat} {v : V} (h : D K φ N H (.lst n) v) : n < N ∧ v = .ref (φ n) := by simpa [D] using h
theorem D.mkInt {i : Int} : D K φ N H (.int i) (.int i) := by simp [D]
theorem D.mkBl {i : Bool} : D K φ N H (.bl i) (.bl i) := by simp [D]
theorem D.mkStr {i : Str} : D K φ N H (.str i) (.str i) := by simp [D]
theorem D.mkNon : D K φ N H .non .non := by simp [D]
theorem D.mkTy {n : String} : D K φ N H (.ty n) (.ty n) := by simp [D]
theorem D.mkTup {ds : List Dt} {a : Addr} {vs : List V} (h : SqT K H a vs) (t : DL K φ N H ds vs) : D K φ N H (.tup ds) (.ref a) := by simp only [D]; exact ⟨a, vs, rfl, h, t⟩
theorem D.mkLst {n : Nat} (h : n < N) : D K φ N H (.lst n) (.ref (φ n)) := by simp [D, h]
end
noncomputable def SqR (K : PySem.W.Frag) (H : Hp) (a : Addr) (xs : List V) : Prop :=
  (∃ o, H a = some (.frz o (.lst xs))) ∨
    ∃ (o : Obj) (its : Array Value) (n : Nat), K.lookup a = some o ∧ o.cls = .type "list" ∧ o.dict = none ∧ o.data = .seq its n ∧ its.size ≤ sizeLine ∧ Vals xs its.toList
theorem SqR.sq {K : PySem.W.Frag} {H : Hp} {a : Addr} {xs : List V} (h : SqR K H a xs) : SqL K H a xs := by
  rcases h with h | h
  · exact .inl (.inr h)
  · exact .inr h
structure Rep (K : PySem.W.Frag) (φ : Nat → Addr) (st : Sto) (H : Hp) : Prop where
  inj : ∀ i j xs ys, st[i]? = some (.rw xs) → st[j]? = some (.rw ys) → φ i = φ j → i = j
  ro : ∀ i xs, st[i]? = some (.ro xs) → ∃ vs, SqR K H (φ i) vs ∧ DL K φ st.length H xs vs
  rw : ∀ i xs, st[i]? = some (.rw xs) → ∃ vs, H (φ i) = some (.lst vs) ∧ DL K φ st.length H xs vs
section
variable {K : PySem.W.Frag} {φ : Nat → Addr} {st : Sto} {H : Hp} {p : Addr}
theorem Rep.seq (R : Rep K φ st H) {i : Nat} {o : SO} (e : st[i]? = some o) : ∃ vs, SqL K H (φ i) vs ∧ DL K φ st.length H o.items vs := by
  cases o with
  | ro xs =>
    obtain ⟨vs, h1, h2⟩ := R.ro i xs e
    exact ⟨vs, h1.sq, h2⟩
  | rw xs =>
    obtain ⟨vs, h1, h2⟩ := R.rw i xs e
    exact ⟨vs, SqL.of h1, h2⟩
theorem sqT_upd {a : Addr} {vs : List V} {o : HO} (h : SqT K H a vs) (hp : H p = none) : SqT K (upd H p o) a vs := by
  rcases h with (h | ⟨ob, h⟩) | h
  · exact .inl (.inl (by rw [upd_ne (ne_of_none h hp)]; exact h))
  · exact .inl (.inr ⟨ob, by rw [upd_ne (ne_of_none h hp)]; exact h⟩)
  · exact .inr h
theorem sqR_upd {a : Addr} {vs : List V} {o : HO} (h : SqR K H a vs) (hp : H p = none) : SqR K (upd H p o) a vs := by
  rcases h with ⟨ob, h⟩ | h
  · exact .inl ⟨ob, by rw [upd_ne (ne_of_none h hp)]; exact h⟩
  · exact .inr h
theorem sqT_updL {a : Addr} {vs ws : List V} {o : HO} (h : SqT K H a vs) (hp : H p = some (.lst ws)) : SqT K (upd H p o) a vs := by
  rcases h with (h | ⟨ob, h⟩) | h
  · exact .inl (.inl (by rw [upd_ne (ne_of h hp (by intro z; cases z))]; exact h))
  · exact .inl (.inr ⟨ob, by rw [upd_ne (ne_of h hp (by intro z; cases z))]; exact h⟩)
  · exact .inr h
theorem sqR_updL {a : Addr} {vs ws : List V} {o : HO} (h : SqR K H a vs) (hp : H p = some (.lst ws)) : SqR K (upd H p o) a vs := by
  rcases h with ⟨ob, h⟩ | h
  · exact .inl ⟨ob, by rw [upd_ne (ne_of h hp (by intro z; cases z))]; exact h⟩
  · exact .inr h
theorem evo_new {o : HO} (hp : H p = none) : Evo K φ st.length H φ st.length (upd H p o) := ⟨Nat.le_refl _, fun _ _ => rfl, fun _ _ h => sqT_upd h hp, fun a h => by rw [upd_ne (ne_of_none h hp)]; exact h⟩
theorem Rep.laid {o : HO} (R : Rep K φ st H) (hp : H p = none) : Rep K φ st (upd H p o) :=
  ⟨R.inj, fun i xs e => by
    obtain ⟨vs, h1, h2⟩ := R.ro i xs e
    exact ⟨vs, sqR_upd h1 hp, h2.evo (evo_new hp)⟩, fun i xs e => by
    obtain ⟨vs, h1, h2⟩ := R.rw i xs e
    exact ⟨vs, by rw [upd_ne (ne_of_none h1 hp)]; exact h1, h2.evo (evo_new hp)⟩⟩
noncomputable def phiNew (φ : Nat → Addr) (n : Nat) (p : Addr) : Nat → Addr := fun i => if i = n then p else φ i
theorem phi_at {n : Nat} : phiNew φ n p n = p := by unfold phiNew; rw [if_pos rfl]
theorem phi_lt {n i : Nat} (h : i < n) : phiNew φ n p i = φ i := by unfold phiNew; rw [if_neg (Nat.ne_of_lt h)]
theorem evo_lst {vs : List V} {xs : List Dt} (hp : H p = none) : Evo K φ st.length H (phiNew φ st.length p) (st ++ [SO.rw xs]).length (upd H p (.lst vs)) :=
  ⟨by rw [List.length_append]; exact Nat.le_add_right _ _, fun i hi => phi_lt hi, fun _ _ h => sqT_upd h hp, fun a h => by rw [upd_ne (ne_of_none h hp)]; exact h⟩
theorem get_snoc {α : Type} {l : List α} {x y : α} {i : Nat} (e : (l ++ [x])[i]? = some y) : (i < l.length ∧ l[i]? = some y) ∨ (i = l.length ∧ y = x) := by
  by_cases h : i < l.length
  · left
    rw [List.getElem?_append_left h] at e
    exact ⟨h, e⟩
  · right
    rw [List.getElem?_append_right (Nat.not_lt.mp h)] at e
    have h0 : i - l.length = 0 := by
      cases q : i - l.length with
      | zero => rfl
      | succ n => rw [q] at e; simp at e
    rw [h0] at e
    have : x = y := by simpa using e
    exact ⟨by omega, this.symm⟩
theorem lt_of_get {α : Type} {l : List α} {y : α} {i : Nat} (e : l[i]? = some y) : i < l.length := (List.getElem?_eq_some_iff.mp e).1
theorem Rep.newL {vs : List V} {xs : List Dt} (R : Rep K φ st H) (hp : H p = none) (hd : DL K φ st.length H xs vs) : Rep K (phiNew φ st.length p) (st ++ [.rw xs]) (upd H p (.lst vs)) := by
  have ev : Evo K φ st.length H (phiNew φ st.length p) (st ++ [SO.rw xs]).length (upd H p (.lst vs)) := evo_lst hp
  have notp : ∀ i ys, st[i]? = some (.rw ys) → φ i ≠ p := fun i ys e z => by
    obtain ⟨ws, h1, _⟩ := R.rw i ys e
    rw [z, hp] at h1; cases h1
  refine ⟨fun i j ys zs e1 e2 h => ?_, fun i ys e => ?_, fun i ys e => ?_⟩
  · rcases get_snoc e1 with ⟨l1, e1⟩ | ⟨l1, e1⟩
    · rcases get_snoc e2 with ⟨l2, e2⟩ | ⟨l2, e2⟩
      · rw [phi_lt l1, phi_lt l2] at h
        exact R.inj i j ys zs e1 e2 h
      · rw [phi_lt l1, l2, phi_at] at h
        exact absurd h (notp i ys e1)
    · rcases get_snoc e2 with ⟨l2, e2⟩ | ⟨l2, e2⟩
      · rw [phi_lt l2, l1, phi_at] at h
        exact absurd h.symm (notp j zs e2)
      · rw [l1, l2]
  · rcases get_snoc e with ⟨l1, e1⟩ | ⟨l1, e1⟩
    · obtain ⟨ws, h1, h2⟩ := R.ro i ys e1
      rw [phi_lt l1]
      exact ⟨ws, sqR_upd h1 hp, h2.evo ev⟩
    · cases e1
  · rcases get_snoc e with ⟨l1, e1⟩ | ⟨l1, e1⟩
    · obtain ⟨ws, h1, h2⟩ := R.rw i ys e1
      rw [phi_lt l1]
      exact ⟨ws, by rw [upd_ne (ne_of_none h1 hp)]; exact h1, h2.evo ev⟩
    · cases e1
      rw [l1, phi_at]
      exact ⟨vs, upd_same, hd.evo ev⟩
theorem evo_set {n : Nat} {vs ws : List V} {o : SO} (h : H (φ n) = some (.lst ws)) : Evo K φ st.length H φ (st.set n o).length (upd H (φ n) (.lst vs)) :=
  ⟨by rw [List.length_set]; exact Nat.le_refl _, fun _ _ => rfl, fun _ _ hh => sqT_updL hh h, fun a e => by rw [upd_ne (fun z => by rw [z, h] at e; cases e)]; exact e⟩
theorem Rep.setL {n : Nat} {vs : List V} {xs ys : List Dt} (R : Rep K φ st H) (hn : st[n]? = some (.rw ys)) (hd : DL K φ st.length H xs vs) : Rep K φ (st.set n (.rw xs)) (upd H (φ n) (.lst vs)) := by
  obtain ⟨ws, hw, _⟩ := R.rw n ys hn
  have ev : Evo K φ st.length H φ (st.set n (.rw xs)).length (upd H (φ n) (.lst vs)) := evo_set hw
  have hlt := lt_of_get hn
  have get : ∀ {i : Nat} {o : SO}, (st.set n (.rw xs))[i]? = some o → (i = n ∧ o = .rw xs) ∨ (i ≠ n ∧ st[i]? = some o) := fun {i o} e => by
    by_cases h : i = n
    · left
      subst h
      rw [List.getElem?_set_self hlt] at e
      exact ⟨rfl, (Option.some.inj e).symm⟩
    · right
      rw [List.getElem?_set_ne (Ne.symm h)] at e
      exact ⟨h, e⟩
  refine ⟨fun i j zs us e1 e2 h => ?_, fun i zs e => ?_, fun i zs e => ?_⟩
  · have g : ∀ {i : Nat} {zs : List Dt}, (st.set n (SO.rw xs))[i]? = some (SO.rw zs) → ∃ zs', st[i]? = some (SO.rw zs') := fun {i zs} e => by
      rcases get e with ⟨h, _⟩ | ⟨_, h⟩
      · rw [h]; exact ⟨ys, hn⟩
      · exact ⟨zs, h⟩
    obtain ⟨z1, g1⟩ := g e1
    obtain ⟨z2, g2⟩ := g e2
    exact R.inj i j z1 z2 g1 g2 h
  · rcases get e with ⟨_, h⟩ | ⟨_, h⟩
    · cases h
    · obtain ⟨us, h1, h2⟩ := R.ro i zs h
      exact ⟨us, sqR_updL h1 hw, h2.evo ev⟩
  · rcases get e with ⟨h1, h⟩ | ⟨h1, h⟩
    · cases h
      rw [h1]
      exact ⟨vs, upd_same, hd.evo ev⟩
    · obtain ⟨us, h2, h3⟩ := R.rw i zs h
      refine ⟨us, ?_, h3.evo ev⟩
      rw [upd_ne fun z => h1 (R.inj i n zs ys h hn z)]
      exact h2
end
noncomputable abbrev VD := Dt → Sto → Prop
noncomputable abbrev TD := Rho → Sto → VD → Prop
noncomputable abbrev TBD := Rho → Sto → (Bool → Sto → Prop) → Prop
noncomputable abbrev TAD := Rho → Sto → (List Dt → Sto → Prop) → Prop
structure EndsD where
  nx : Rho → Sto → Prop
  rt : VD
  bk : Rho → Sto → Prop := fun _ _ => False
  ct : Rho → Sto → Prop := fun _ _ => False
noncomputable abbrev TSD := EndsD → Rho → Sto → Prop
noncomputable def DR (K : PySem.W.Frag) (φ : Nat → Addr) (N : Nat) (H : Hp) (ρ : Rho) (σ : L2.St) : Prop :=
  ρ.length = σ.length ∧ ∀ (i : Nat) d, ρ[i]? = some (some d) → ∃ v, σ[i]? = some (some v) ∧ D K φ N H d v
section
variable {K : PySem.W.Frag} {φ φ' : Nat → Addr} {N N' : Nat} {H H' : Hp} {ρ : Rho} {σ : L2.St}
theorem DR.evo (h : DR K φ N H ρ σ) (e : Evo K φ N H φ' N' H') : DR K φ' N' H' ρ σ :=
  ⟨h.1, fun i d q => let ⟨v, h1, h2⟩ := h.2 i d q; ⟨v, h1, h2.evo e⟩⟩
theorem DR.set {d : Dt} {v : V} (h : DR K φ N H ρ σ) (hd : D K φ N H d v) (i : Nat) : DR K φ N H (ρ.set i (some d)) (σ.set i (some v)) := by
  refine ⟨by rw [List.length_set, List.length_set]; exact h.1, fun j e q => ?_⟩
  by_cases hj : j = i
  · subst hj
    have hl : j < ρ.length := by
      have := lt_of_get q
      rwa [List.length_set] at this
    rw [List.getElem?_set_self hl] at q
    cases q
    exact ⟨v, by rw [List.getElem?_set_self (by rw [← h.1]; exact hl)], hd⟩
  · rw [List.getElem?_set_ne (Ne.symm hj)] at q
    rw [List.getElem?_set_ne (Ne.symm hj)]
    exact h.2 j e q
end
noncomputable def Pre (K : PySem.W.Frag) (φ : Nat → Addr) (st : Sto) (H : Hp) (ρ : Rho) (σ : L2.St) : Prop := Rep K φ st H ∧ DR K φ st.length H ρ σ
noncomputable def Bhd (K : PySem.W.Frag) (φ : Nat → Addr) (st : Sto) (H : Hp) (φ' : Nat → Addr) (st' : Sto) (H' : Hp) : Prop := Rep K φ' st' H' ∧ Evo K φ st.length H φ' st'.length H'
noncomputable def liftE (K : PySem.W.Frag) (t : TD) : TE := fun σ H Q => ∃ φ st ρ P, Pre K φ st H ρ σ ∧ t ρ st P ∧
  ∀ d st', P d st' → ∀ φ' H' v, Bhd K φ st H φ' st' H' → D K φ' st'.length H' d v → Q v H'
noncomputable def liftT (K : PySem.W.Frag) (t : TBD) : TT := fun σ H Q => ∃ φ st ρ P, Pre K φ st H ρ σ ∧ t ρ st P ∧
  ∀ b st', P b st' → ∀ φ' H', Bhd K φ st H φ' st' H' → Q b H'
noncomputable def liftA (K : PySem.W.Frag) (t : TAD) : TA := fun σ H Q => ∃ φ st ρ P, Pre K φ st H ρ σ ∧ t ρ st P ∧
  ∀ ds st', P ds st' → ∀ φ' H' vs, Bhd K φ st H φ' st' H' → DL K φ' st'.length H' ds vs → Q vs H'
noncomputable def liftS (K : PySem.W.Frag) (t : TSD) : TS := fun E σ H => ∃ φ st ρ P, Pre K φ st H ρ σ ∧ t P ρ st ∧
  (∀ ρ' st', P.nx ρ' st' → ∀ φ' H' σ', Bhd K φ st H φ' st' H' → DR K φ' st'.length H' ρ' σ' → E.nx σ' H') ∧
  (∀ ρ' st', P.bk ρ' st' → ∀ φ' H' σ', Bhd K φ st H φ' st' H' → DR K φ' st'.length H' ρ' σ' → E.bk σ' H') ∧
  (∀ ρ' st', P.ct ρ' st' → ∀ φ' H' σ', Bhd K φ st H φ' st' H' → DR K φ' st'.length H' ρ' σ' → E.ct σ' H') ∧
  (∀ d st', P.rt d st' → ∀ φ' H' v, Bhd K φ st H φ' st' H' → D K φ' st'.length H' d v → E.rt v H')
noncomputable def DE (X : Cx) (e : Expr) (t : TD) : Prop := PE X e (liftE X.K t)
noncomputable def DT (X : Cx) (e : Expr) (t : TBD) : Prop := PT X e (liftT X.K t)
noncomputable def DA (X : Cx) (es : List Expr) (t : TAD) : Prop := PA X es (liftA X.K t)
noncomputable def DS (X : Cx) (s : Stmt) (t : TSD) : Prop := PS X s (liftS X.K t)
noncomputable def DSs (X : Cx) (s : List Stmt) (t : TSD) : Prop := PSs X s (liftS X.K t)
section
variable {K : PySem.W.Frag} {φ φ1 φ2 : Nat → Addr} {st st1 st2 : Sto} {H H1 H2 : Hp} {ρ : Rho} {σ : L2.St}
theorem Bhd.refl (h : Rep K φ st H) : Bhd K φ st H φ st H := ⟨h, .refl⟩
theorem Bhd.trans (a : Bhd K φ st H φ1 st1 H1) (b : Bhd K φ1 st1 H1 φ2 st2 H2) : Bhd K φ st H φ2 st2 H2 := ⟨b.1, a.2.trans b.2⟩
theorem Pre.on (p : Pre K φ st H ρ σ) (b : Bhd K φ st H φ1 st1 H1) : Pre K φ1 st1 H1 ρ σ := ⟨b.1, p.2.evo b.2⟩
end
theorem _root_.L2.PE.imp {X : Cx} {e : Expr} {t t' : TE} (h : PE X e t) (i : ∀ σ H Q, t' σ H Q → t σ H Q) : PE X e t' := fun pins s σ H Q I q => h pins s σ H Q I (i σ H Q q)
theorem _root_.L2.PT.imp {X : Cx} {e : Expr} {t t' : TT} (h : PT X e t) (i : ∀ σ H Q, t' σ H Q → t σ H Q) : PT X e t' := fun pins s σ H Q I q => h pins s σ H Q I (i σ H Q q)
theorem _root_.L2.PA.imp {X : Cx} {es : List Expr} {t t' : TA} (h : PA X es t) (i : ∀ σ H Q, t' σ H Q → t σ H Q) : PA X es t' := fun pos pins s σ H Q I q => h pos pins s σ H Q I (i σ H Q q)
theorem _root_.L2.PS.imp {X : Cx} {e : Stmt} {t t' : TS} (h : PS X e t) (i : ∀ D σ H, t' D σ H → t D σ H) : PS X e t' := fun pins s σ H Dn I q => h pins s σ H Dn I (i Dn σ H q)
theorem _root_.L2.PSs.imp {X : Cx} {e : List Stmt} {t t' : TS} (h : PSs X e t) (i : ∀ D σ H, t' D σ H → t D σ H) : PSs X e t' := fun pins s σ H Dn I q => h pins s σ H Dn I (i Dn σ H q)
end L3
namespace L3
open PySem PySem.Spec PyProof.Rows L2
open AutoSeq1 (wpAny_loadPart')
section
variable {prog : Program} {w : World} {A : Around} {E : Value → Shared → Prop} {s : Shared}
theorem cat_tupA {t b : Addr} {vs ws : List Value} {Q : Value → Shared → Prop} (ht : IsTup s.heap t vs.toArray) (hb : IsTup s.heap b ws.toArray)
    (h0 : vs = [] → Q (.ref b) s) (h1 : vs ≠ [] → ws = [] → Q (.ref t) s) (h2 : vs ≠ [] → ws ≠ [] → Q (.ref s.heap.objs.size) { s with heap := s.heap.push { cls := .type "tuple", data := .seq (vs ++ ws).toArray } })
    (hsz : vs.length + ws.length ≤ sizeLine) : wpAny (model prog w) A (binaryOp .Add (.ref t) (.ref b)) Q E s := by
  by_cases hv : vs = []
  · obtain ⟨⟨cls, dd, data, sl⟩, ho, hc, n, hd⟩ := id ht
    obtain ⟨⟨cls2, dd2, data2, sl2⟩, ho2, hc2, n2, hd2⟩ := id hb
    simp only at hc hd hc2 hd2
    subst hc hd hc2 hd2
    exact concat_meets ⟨_, ho, rfl⟩ ⟨_, ho2, rfl⟩ noFill_tuple_add seq_tuple_add PySem.F.slot_tuple_add PySem.F.entry_tuple_add (PySem.F.args_tuple_add_2 _ _)
      (tuple_addW0 t b vs.toArray ws.toArray n n2 dd dd2 sl sl2 (by simp [hv])) ⟨ho, ho2, h0 hv⟩
  · exact HT.cat_tup ht hb hv (h1 hv) (h2 hv) hsz
end
theorem noFill_tuple_mul : fillsNumberSlot (.type "tuple") "mul" = pure false :=
  PySem.fillsNumberSlot_seq (id := "tuple.__mul__") (r := some (.builtin "tuple.__rmul__")) F.slot_tuple_mul.lookup (by decide +kernel) F.slot_tuple_rmul.lookup (by decide +kernel)
theorem repeat_tuple : seqRepeat? (.type "tuple") = pure (some (.builtin "tuple.__mul__")) := by
  unfold seqRepeat?
  rw [PySem.seqSlot_of (T := "tuple") (name := "__mul__") (id := "tuple.__mul__") F.slot_tuple_mul.lookup (by decide +kernel), PySem.seqSlot_of (T := "tuple") (name := "__rmul__") (id := "tuple.__rmul__") F.slot_tuple_rmul.lookup (by decide +kernel)]
  rfl
theorem int_rmul_tuple (a : Int) (t : Tok) (l : Addr) (items : Array Value) (n : Nat) (d : Option Addr) (sl : Array (Option Value)) :
    Meets (Builtin.«int.__rmul__» ⟨[.int a t, .ref l], []⟩) (fun _ R s => s.heap.get? l = some { cls := .type "tuple", dict := d, data := .seq items n, slots := sl } ∧ R (.ok (.ret Value.notImplemented)) s) :=
  .of_wp fun prog w A R s h => by obtain ⟨hp, g, d, tk, os⟩ := s; obtain ⟨hl, h⟩ := h; wp_walk; exact ⟨_, rfl, h⟩
theorem tuple_mulW (l : Addr) (items : Array Value) (n : Nat) (d : Option Addr) (sl : Array (Option Value)) (x : Int) (u : Tok) (h0 : items.isEmpty = false) (h1 : 2 ≤ x) (h2 : x < 2 ^ 20) (h3 : items.size * x.toNat ≤ sizeLine) :
    Meets (Builtin.«tuple.__mul__» ⟨[.ref l, .int x u], []⟩) (fun _ R s => s.heap.get? l = some { cls := .type "tuple", dict := d, data := .seq items n, slots := sl } ∧
      R (.ok (.ret (Value.ref s.heap.objs.size))) { s with heap := s.heap.push { cls := Value.type "tuple", data := Data.seq (List.foldl (fun x1 x2 => x1 ++ x2) #[] (List.replicate x.toNat items)) }, toks := s.toks }) :=
  .of_wp fun prog w A R s h => by
    obtain ⟨hp, g, d, tk, os⟩ := s; obtain ⟨hl, h⟩ := h
    have f1 := AutoSeq1.idx_int
    have e1 : (decide (x < -(2 ^ 63)) || decide (x ≥ 2 ^ 63)) = false := by
      rw [decide_eq_false (by omega), decide_eq_false (by omega)]; rfl
    have e2 : (items.isEmpty || x == 1) = false := by
      rw [h0, Bool.false_or]; exact beq_eq_false_iff_ne.mpr (by omega)
    have e3 : (decide (x ≤ 0) || items.isEmpty) = false := by
      rw [h0, Bool.or_false]; exact decide_eq_false (by omega)
    have e4 : ¬ ((items.size : Int) * x > (2 ^ 63 - 1) / 8) := by
      have hb : items.size * x.toNat ≤ 16777216 := by rw [← sizeLine_eq]; exact h3
      have : (items.size : Int) * x = ((items.size * x.toNat : Nat) : Int) := by
        rw [Int.natCast_mul, Int.toNat_of_nonneg (by omega)]
      rw [this]
      omega
    wp_walk using wpAny_loadPart' hl
    rw [if_neg (fun q => Bool.false_ne_true (e1.symm.trans q))]
    wp_walk using wpAny_loadPart' hl
    rw [if_neg (fun q => Bool.false_ne_true (e2.symm.trans q))]
    wp_walk using wpAny_loadPart' hl
    rw [if_neg (fun q => Bool.false_ne_true (e3.symm.trans q))]
    wp_walk using wpAny_loadPart' hl
    rw [if_neg e4]
    wp_walk using wpAny_loadPart' hl
    have hx : (items.size : Int) * x = ((items.size * x.toNat : Nat) : Int) := by
      rw [Int.natCast_mul, Int.toNat_of_nonneg (by omega)]
    have e5 : Builtin.Tuple.tupleTooMany ((items.size : Int) * x) = false := by
      unfold Builtin.Tuple.tupleTooMany
      rw [hx]
      exact decide_eq_false (by omega)
    rw [if_neg (fun q => Bool.false_ne_true (e5.symm.trans q))]
    have f0 : List.foldl (fun x1 x2 => x1 ++ x2) #[] (List.replicate x.toNat items) = (List.replicate x.toNat items.toList).flatten.toArray := by
      have := foldl_rep items.toList x.toNat []
      rw [List.nil_append, Array.toArray_toList] at this
      exact this
    have hsz : sizeOk (.seq (List.foldl (fun x1 x2 => x1 ++ x2) #[] (List.replicate x.toNat items))) := by
      show (List.foldl (fun x1 x2 => x1 ++ x2) #[] (List.replicate x.toNat items)).size ≤ sizeLine
      rw [f0, List.size_toArray, len_rep, Array.length_toList, Nat.mul_comm]
      exact h3
    unfold Builtin.Tuple.tupleExact
    exact wpAny_bind (wpAny_newObj_type (wpAny_pure ⟨_, rfl, h⟩) hsz)
section
variable {X : Cx}
theorem op_catA : OpR X (binaryOp .Add) (fun x y H Q => ∃ a b xs ys, x = .ref a ∧ y = .ref b ∧ SqT X.K H a xs ∧ SqT X.K H b ys ∧ xs.length + ys.length ≤ sizeLine ∧
    (xs = [] → Q (.ref b) H) ∧ (xs ≠ [] → ys = [] → Q (.ref a) H) ∧ (xs ≠ [] → ys ≠ [] → ∀ p, H p = none → Q (.ref p) (upd H p (.tup (xs ++ ys))))) := by
  intro pins s σ H x y v u Q I rx ry h
  obtain ⟨a, b, xs, ys, rfl, rfl, ha, hb, hz, q0, q1, q2⟩ := h
  cases rx
  cases ry
  obtain ⟨its, r1, p1, _⟩ := I.tuple ha
  obtain ⟨its2, r2, p2, _⟩ := I.tuple hb
  refine cat_tupA p1 p2 (fun z => ⟨.ref b, H, I, rfl, q0 (r1.nil_iff.mp z)⟩) (fun z1 z => ⟨.ref a, H, I, rfl, q1 (fun w => z1 (r1.nil_iff.mpr w)) (r2.nil_iff.mp z)⟩) (fun z1 z => ?_) (by rw [← r1.length, ← r2.length]; exact hz)
  refine ⟨.ref s.heap.objs.size, _, I.laid (t' := s.toks) (o := .tup (xs ++ ys)) (fun b ob q => Heap.get?_push_of_some _ q) (Nat.le_refl _) ?_, rfl, q2 (fun w => z1 (r1.nil_iff.mpr w)) (fun w => z (r2.nil_iff.mpr w)) _ (I.hok.fresh (Nat.le_refl _))⟩
  exact ⟨by rw [List.length_append]; exact hz, _, r1.append r2, IsTup.new _ _⟩
theorem op_repT : OpR X (binaryOp .Mult) (fun x y H Q => ∃ a k xs, x = .ref a ∧ y = .int k ∧ SqT X.K H a xs ∧ xs ≠ [] ∧ 2 ≤ k ∧ k < 2 ^ 20 ∧ xs.length * k.toNat ≤ sizeLine ∧
    ∀ p, H p = none → Q (.ref p) (upd H p (.tup (List.replicate k.toNat xs).flatten))) := by
  intro pins s σ H x y v u Q I rx ry h
  obtain ⟨a, k, xs, rfl, rfl, ha, hne, h2, h3, hz, q⟩ := h
  cases rx
  obtain ⟨t, rfl⟩ := ry
  obtain ⟨its, r1, p1, _⟩ := I.tuple ha
  have hl := r1.length
  obtain ⟨⟨cls, dd, data, sl⟩, ho, hc, n, hd⟩ := id p1
  simp only at hc hd
  subst hc hd
  have f0 : List.foldl (fun x1 x2 => x1 ++ x2) #[] (List.replicate k.toNat its.toArray) = (List.replicate k.toNat its).flatten.toArray := by
    have := foldl_rep its k.toNat []
    rw [List.nil_append] at this
    exact this
  have hz' : its.toArray.size * k.toNat ≤ sizeLine := by rw [List.size_toArray, ← hl]; exact hz
  have he : its.toArray.isEmpty = false := by
    cases its with
    | nil => exact absurd (List.length_eq_zero_iff.mp hl) hne
    | cons _ _ => rfl
  refine wpAny_binaryOp_repeat_ref (T := "tuple") (U := "int") (by decide) ⟨_, ho, rfl⟩ (fun s' => typeIs_int s' k t) noFill_tuple_mul F.fills_int_mul F.slot_int_rmul repeat_tuple F.slot_int_index.lookup
    (call_meets F.slot_int_rmul (typeIs_int s k t) F.entry_int_rmul (F.args_int_rmul_2 _ _) (int_rmul_tuple k t a its.toArray n dd sl)
      ⟨ho, rfl, ⟨_, ho, rfl⟩, call_meets F.slot_tuple_mul ⟨_, ho, rfl⟩ F.entry_tuple_mul (F.args_tuple_mul_2 _ _) (tuple_mulW a its.toArray n dd sl k t he h2 h3 hz') ⟨ho, ?_⟩⟩)
  rw [f0]
  refine ⟨.ref s.heap.objs.size, _, I.laid (t' := s.toks) (o := .tup (List.replicate k.toNat xs).flatten) (fun b ob q => Heap.get?_push_of_some _ q) (Nat.le_refl _) ?_, rfl, q _ (I.hok.fresh (Nat.le_refl _))⟩
  exact ⟨by rw [len_rep, Nat.mul_comm]; exact hz, _, Vals.rep r1 _, IsTup.new _ _⟩
end
end L3
namespace L3
open PySem PySem.Spec PyProof.Rows L2
noncomputable def okD : Nat → Dt → Bool
  | 0, .tup _ => false
  | n + 1, .tup xs => xs.all (okD n)
  | _, .lst _ => false
  | _, .ty _ => false
  | _, _ => true
noncomputable def eqL (f : Dt → Dt → Bool) : List Dt → List Dt → Bool
  | [], [] => true
  | x :: xs, y :: ys => f x y && eqL f xs ys
  | _, _ => false
noncomputable def eqD : Nat → Dt → Dt → Bool
  | _, .non, .non => true
  | _, .bl a, .bl b => a == b
  | _, .bl a, .int b => (if a then 1 else 0) == b
  | _, .int a, .bl b => a == (if b then 1 else 0)
  | _, .int a, .int b => a == b
  | _, .str a, .str b => a == b
  | n + 1, .tup a, .tup b => eqL (eqD n) a b
  | _, _, _ => false
theorem eqL_self {f : Dt → Dt → Bool} : ∀ {xs : List Dt}, (∀ x ∈ xs, f x x = true) → eqL f xs xs = true
  | [], _ => rfl
  | x :: xs, h => by
    unfold eqL
    rw [h x List.mem_cons_self, eqL_self fun y hy => h y (List.mem_cons_of_mem _ hy)]
    rfl
theorem eqD_self : ∀ {n : Nat} {d : Dt}, okD n d = true → eqD n d d = true
  | 0, .tup _, h => by simp [okD] at h
  | n + 1, .tup xs, h => by
    simp only [okD] at h
    simp only [eqD]
    exact eqL_self fun x hx => eqD_self (List.all_eq_true.mp h x hx)
  | n, .non, _ => by cases n <;> rfl
  | n, .bl b, _ => by cases n <;> simp [eqD]
  | n, .int b, _ => by cases n <;> simp [eqD]
  | n, .str b, _ => by cases n <;> simp [eqD]
  | n, .lst _, h => by cases n <;> simp [okD] at h
  | n, .ty _, h => by cases n <;> simp [okD] at h
theorem eqL_range {f : Dt → Dt → Bool} : ∀ (xs ys : List Dt), eqL f xs ys = ((List.range (min xs.length ys.length)).all (fun j => f (xs.getD j .non) (ys.getD j .non)) && xs.length == ys.length)
  | [], [] => rfl
  | [], _ :: _ => by simp [eqL]
  | _ :: _, [] => by simp [eqL]
  | x :: xs, y :: ys => by
    unfold eqL
    rw [eqL_range xs ys]
    have e : min (x :: xs).length (y :: ys).length = min xs.length ys.length + 1 := by simp [Nat.succ_min_succ]
    rw [e, List.range_succ_eq_map, List.all_cons, List.all_map]
    simp only [List.getD_cons_zero, List.length_cons]
    have e2 : ((xs.length + 1 == ys.length + 1) : Bool) = (xs.length == ys.length) := by
      rw [Bool.eq_iff_iff]; simp
    rw [e2, Bool.and_assoc]
    rfl
section
variable {X : Cx} {pins : List (Addr × Obj)} {σ : L2.St} {H : Hp} {s : Shared} {φ : Nat → Addr} {N : Nat}
theorem getD_of {xs : List Dt} {j : Nat} {d : Dt} (h : xs[j]? = some d) : xs.getD j .non = d := by simp [List.getD, h]
theorem DL_inj0 {f : Dt → Bool} (hf : ∀ {d e : Dt} {v : V}, f d = true → f e = true → D X.K φ N H d v → D X.K φ N H e v → d = e) : ∀ {a b : List Dt} {vs : List V}, DL X.K φ N H a vs → DL X.K φ N H b vs → a.all f = true → b.all f = true → a = b
  | [], [], _, _, _, _, _ => rfl
  | [], y :: b, vs, h1, h2, _, _ => by
    have := h1.length; have := h2.length; simp at *; omega
  | x :: a, [], vs, h1, h2, _, _ => by
    have := h1.length; have := h2.length; simp at *; omega
  | x :: a, y :: b, vs, h1, h2, o1, o2 => by
    rw [List.all_cons, Bool.and_eq_true] at o1 o2
    simp only [DL] at h1 h2
    obtain ⟨v, r, rfl, p1, p2⟩ := h1
    obtain ⟨v', r', e, q1, q2⟩ := h2
    cases e
    rw [hf o1.1 o2.1 p1 q1, DL_inj0 hf p2 q2 o1.2 o2.2]
theorem D_inj (I : Inv X pins σ H s) : ∀ (n : Nat) {d e : Dt} {v : V}, okD n d = true → okD n e = true → D X.K φ N H d v → D X.K φ N H e v → d = e := by
  intro n
  induction n with
  | zero =>
    intro d e v o1 o2 h1 h2
    cases d <;> cases e <;> first
      | (exfalso; revert o1; simp [okD]; done)
      | (exfalso; revert o2; simp [okD]; done)
      | (simp only [D] at h1 h2; subst h1; first | (cases h2; rfl) | (cases h2))
  | succ n ih =>
    intro d e v o1 o2 h1 h2
    cases d <;> cases e <;> first
      | (exfalso; revert o1; simp [okD]; done)
      | (exfalso; revert o2; simp [okD]; done)
      | (simp only [D] at h1 h2; subst h1; first | (cases h2; rfl) | (cases h2; done) | (obtain ⟨_, _, z, _⟩ := h2; cases z))
      | (simp only [D] at h1 h2; subst h2; obtain ⟨_, _, z, _⟩ := h1; cases z)
      | (simp only [okD] at o1 o2
         obtain ⟨p, vs, e1, hs, hd⟩ := h1.tup
         obtain ⟨q, ws, e2, hs2, hd2⟩ := h2.tup
         rw [e1] at e2
         cases e2
         have := I.tuple_inj hs hs2
         subst this
         rw [DL_inj0 (f := okD n) (fun a b c d => ih a b c d) hd hd2 o1 o2])
theorem DL_inj (I : Inv X pins σ H s) {n : Nat} {a b : List Dt} {vs : List V} (h1 : DL X.K φ N H a vs) (h2 : DL X.K φ N H b vs) (o1 : a.all (okD n) = true) (o2 : b.all (okD n) = true) : a = b :=
  DL_inj0 (fun a b c d => D_inj I n a b c d) h1 h2 o1 o2
theorem eqAt_D (I : Inv X pins σ H s) : ∀ (n : Nat) {A : Around} {d e : Dt} {v w : V} {u1 u2 : Value}, A.units + n < cLine → okD n d = true → okD n e = true → D X.K φ N H d v → D X.K φ N H e w → RelV v u1 → RelV w u2 → SeqAt.EqAt A s u1 u2 (eqD n d e)
  | n, A, .non, .non, v, w, u1, u2, hu, _, _, h1, h2, r1, r2 => by cases h1.non; cases h2.non; cases r1; cases r2; cases n <;> exact SeqAt.EqAt.same _
  | n, A, .non, .bl b, v, w, u1, u2, hu, _, _, h1, h2, r1, r2 => by cases h1.non; cases h2.bl; cases r1; cases r2; cases n <;> exact SeqAt.EqAt.none_bool b
  | n, A, .non, .int b, v, w, u1, u2, hu, _, _, h1, h2, r1, r2 => by cases h1.non; cases h2.int; cases r1; obtain ⟨t, rfl⟩ := r2; cases n <;> exact SeqAt.EqAt.none_int b t
  | n, A, .non, .str b, v, w, u1, u2, hu, _, _, h1, h2, r1, r2 => by cases h1.non; cases h2.str; cases r1; obtain ⟨t, rfl⟩ := r2; cases n <;> exact SeqAt.EqAt.none_str b t
  | n, A, .bl a, .non, v, w, u1, u2, hu, _, _, h1, h2, r1, r2 => by cases h1.bl; cases h2.non; cases r1; cases r2; cases n <;> exact SeqAt.EqAt.bool_none a
  | n, A, .bl a, .bl b, v, w, u1, u2, hu, _, _, h1, h2, r1, r2 => by cases h1.bl; cases h2.bl; cases r1; cases r2; cases n <;> exact SeqAt.EqAt.bool_bool a b
  | n, A, .bl a, .int b, v, w, u1, u2, hu, _, _, h1, h2, r1, r2 => by cases h1.bl; cases h2.int; cases r1; obtain ⟨t, rfl⟩ := r2; cases n <;> exact SeqAt.EqAt.bool_int a b t
  | n, A, .bl a, .str b, v, w, u1, u2, hu, _, _, h1, h2, r1, r2 => by cases h1.bl; cases h2.str; cases r1; obtain ⟨t, rfl⟩ := r2; cases n <;> exact SeqAt.EqAt.bool_str a b t
  | n, A, .int a, .non, v, w, u1, u2, hu, _, _, h1, h2, r1, r2 => by cases h1.int; cases h2.non; obtain ⟨t, rfl⟩ := r1; cases r2; cases n <;> exact SeqAt.EqAt.int_none a t
  | n, A, .int a, .bl b, v, w, u1, u2, hu, _, _, h1, h2, r1, r2 => by cases h1.int; cases h2.bl; obtain ⟨t, rfl⟩ := r1; cases r2; cases n <;> exact SeqAt.EqAt.int_bool a t b
  | n, A, .int a, .int b, v, w, u1, u2, hu, _, _, h1, h2, r1, r2 => by cases h1.int; cases h2.int; obtain ⟨t, rfl⟩ := r1; obtain ⟨t', rfl⟩ := r2; cases n <;> exact SeqAt.EqAt.int_int a t b t'
  | n, A, .int a, .str b, v, w, u1, u2, hu, _, _, h1, h2, r1, r2 => by cases h1.int; cases h2.str; obtain ⟨t, rfl⟩ := r1; obtain ⟨t', rfl⟩ := r2; cases n <;> exact SeqAt.EqAt.int_str a t b t'
  | n, A, .str a, .non, v, w, u1, u2, hu, _, _, h1, h2, r1, r2 => by cases h1.str; cases h2.non; obtain ⟨t, rfl⟩ := r1; cases r2; cases n <;> exact SeqAt.EqAt.str_none a t
  | n, A, .str a, .bl b, v, w, u1, u2, hu, _, _, h1, h2, r1, r2 => by cases h1.str; cases h2.bl; obtain ⟨t, rfl⟩ := r1; cases r2; cases n <;> exact SeqAt.EqAt.str_bool a t b
  | n, A, .str a, .int b, v, w, u1, u2, hu, _, _, h1, h2, r1, r2 => by cases h1.str; cases h2.int; obtain ⟨t, rfl⟩ := r1; obtain ⟨t', rfl⟩ := r2; cases n <;> exact SeqAt.EqAt.str_int a t b t'
  | n, A, .str a, .str b, v, w, u1, u2, hu, _, _, h1, h2, r1, r2 => by cases h1.str; cases h2.str; obtain ⟨t, rfl⟩ := r1; obtain ⟨t', rfl⟩ := r2; cases n <;> exact SeqAt.EqAt.str_str a t b t'
  | n, A, .tup a, .non, v, w, u1, u2, hu, _, _, h1, h2, r1, r2 => by
    obtain ⟨p, vs, rfl, hs, hd⟩ := h1.tup; cases h2.non; cases r1; cases r2; obtain ⟨its, _, ht, _⟩ := I.tuple hs; cases n <;> exact SeqAt.EqAt.tuple_none ht (by omega)
  | n, A, .tup a, .bl b, v, w, u1, u2, hu, _, _, h1, h2, r1, r2 => by
    obtain ⟨p, vs, rfl, hs, hd⟩ := h1.tup; cases h2.bl; cases r1; cases r2; obtain ⟨its, _, ht, _⟩ := I.tuple hs; cases n <;> exact SeqAt.EqAt.tuple_bool b ht (by omega)
  | n, A, .tup a, .int b, v, w, u1, u2, hu, _, _, h1, h2, r1, r2 => by
    obtain ⟨p, vs, rfl, hs, hd⟩ := h1.tup; cases h2.int; cases r1; obtain ⟨t', rfl⟩ := r2; obtain ⟨its, _, ht, _⟩ := I.tuple hs; cases n <;> exact SeqAt.EqAt.tuple_int b t' ht (by omega)
  | n, A, .tup a, .str b, v, w, u1, u2, hu, _, _, h1, h2, r1, r2 => by
    obtain ⟨p, vs, rfl, hs, hd⟩ := h1.tup; cases h2.str; cases r1; obtain ⟨t', rfl⟩ := r2; obtain ⟨its, _, ht, _⟩ := I.tuple hs; cases n <;> exact SeqAt.EqAt.tuple_str b t' ht (by omega)
  | n, A, .non, .tup b, v, w, u1, u2, hu, _, _, h1, h2, r1, r2 => by
    obtain ⟨p, vs, rfl, hs, hd⟩ := h2.tup; cases h1.non; cases r1; cases r2; obtain ⟨its, _, ht, _⟩ := I.tuple hs; cases n <;> exact SeqAt.EqAt.none_tuple ht (by omega)
  | n, A, .bl a, .tup b, v, w, u1, u2, hu, _, _, h1, h2, r1, r2 => by
    obtain ⟨p, vs, rfl, hs, hd⟩ := h2.tup; cases h1.bl; cases r1; cases r2; obtain ⟨its, _, ht, _⟩ := I.tuple hs; cases n <;> exact SeqAt.EqAt.bool_tuple a ht (by omega)
  | n, A, .int a, .tup b, v, w, u1, u2, hu, _, _, h1, h2, r1, r2 => by
    obtain ⟨p, vs, rfl, hs, hd⟩ := h2.tup; cases h1.int; obtain ⟨t', rfl⟩ := r1; cases r2; obtain ⟨its, _, ht, _⟩ := I.tuple hs; cases n <;> exact SeqAt.EqAt.int_tuple a t' ht (by omega)
  | n, A, .str a, .tup b, v, w, u1, u2, hu, _, _, h1, h2, r1, r2 => by
    obtain ⟨p, vs, rfl, hs, hd⟩ := h2.tup; cases h1.str; obtain ⟨t', rfl⟩ := r1; cases r2; obtain ⟨its, _, ht, _⟩ := I.tuple hs; cases n <;> exact SeqAt.EqAt.str_tuple a t' ht (by omega)
  | 0, A, .tup a, .tup b, v, w, u1, u2, hu, o1, _, h1, h2, r1, r2 => by simp [okD] at o1
  | n + 1, A, .tup a, .tup b, v, w, u1, u2, hu, o1, o2, h1, h2, r1, r2 => by
    simp only [okD] at o1 o2
    obtain ⟨p, vs, rfl, hs, hd⟩ := h1.tup
    obtain ⟨q, ws, rfl, hs2, hd2⟩ := h2.tup
    cases r1; cases r2
    obtain ⟨its, rv, ht, _⟩ := I.tuple hs
    obtain ⟨its2, rv2, ht2, _⟩ := I.tuple hs2
    have l1 : its.toArray.size = a.length := by rw [List.size_toArray, ← rv.length, hd.length]
    have l2 : its2.toArray.size = b.length := by rw [List.size_toArray, ← rv2.length, hd2.length]
    have hu' : A.in1.units + n < cLine := by show A.units + 1 + n < cLine; omega
    have rc : SeqAt.RcAt A s (.ref p) (.ref q) (eqD (n + 1) (.tup a) (.tup b)) := by
      have := SeqAt.RcAt.tuples (A := A) (s := s) (e := fun j => eqD n (a.getD j .non) (b.getD j .non)) ht ht2 (by omega) (fun j h1 h2 => by
        have hj1 : j < a.length := by rw [← l1]; exact h1
        have hj2 : j < b.length := by rw [← l2]; exact h2
        have ea : a[j]? = some a[j] := by simp [hj1]
        have eb : b[j]? = some b[j] := by simp [hj2]
        obtain ⟨x, ex, dx⟩ := hd.get ea
        obtain ⟨y, ey, dy⟩ := hd2.get eb
        obtain ⟨ux, eux, rx⟩ := rv.get ex
        obtain ⟨uy, euy, ry⟩ := rv2.get ey
        have gx : its.toArray[j] = ux := by
          have : its[j]? = some its[j] := by simp at h1; simp [h1]
          rw [eux] at this
          simpa using (Option.some.inj this).symm
        have gy : its2.toArray[j] = uy := by
          have : its2[j]? = some its2[j] := by simp at h2; simp [h2]
          rw [euy] at this
          simpa using (Option.some.inj this).symm
        rw [gx, gy, getD_of ea, getD_of eb]
        exact eqAt_D I n hu' (List.all_eq_true.mp o1 _ (List.getElem_mem hj1)) (List.all_eq_true.mp o2 _ (List.getElem_mem hj2)) dx dy rx ry)
      rw [l1, l2] at this
      simp only [eqD]
      rw [eqL_range]
      exact this
    by_cases hpq : p = q
    · subst hpq
      have : eqD (n + 1) (.tup a) (.tup b) = true ∨ eqD (n + 1) (.tup a) (.tup b) = false := by cases eqD (n + 1) (.tup a) (.tup b) <;> simp
      have e1 : its = its2 := by
        obtain ⟨o, e, _, m, d⟩ := ht
        obtain ⟨o', e', _, m', d'⟩ := ht2
        rw [e] at e'; cases e'
        rw [d] at d'
        injection d' with d1 _
        simpa using congrArg Array.toList d1
      have ev : vs = ws := by subst e1; exact rv.inj rv2
      have eab : a = b := by
        subst ev
        exact DL_inj I hd hd2 o1 o2
      subst eab
      rw [eqD_self (by simp only [okD]; exact o1)]
      exact SeqAt.EqAt.same _
    · exact SeqAt.EqAt.of_refs hpq rc
  | n, A, .lst _, _, v, w, u1, u2, hu, o1, _, h1, h2, r1, r2 => by cases n <;> simp [okD] at o1
  | n, A, .ty _, _, v, w, u1, u2, hu, o1, _, h1, h2, r1, r2 => by cases n <;> simp [okD] at o1
  | n, A, .non, .lst _, v, w, u1, u2, hu, _, o1, h1, h2, r1, r2 => by cases n <;> simp [okD] at o1
  | n, A, .non, .ty _, v, w, u1, u2, hu, _, o1, h1, h2, r1, r2 => by cases n <;> simp [okD] at o1
  | n, A, .bl _, .lst _, v, w, u1, u2, hu, _, o1, h1, h2, r1, r2 => by cases n <;> simp [okD] at o1
  | n, A, .bl _, .ty _, v, w, u1, u2, hu, _, o1, h1, h2, r1, r2 => by cases n <;> simp [okD] at o1
  | n, A, .int _, .lst _, v, w, u1, u2, hu, _, o1, h1, h2, r1, r2 => by cases n <;> simp [okD] at o1
  | n, A, .int _, .ty _, v, w, u1, u2, hu, _, o1, h1, h2, r1, r2 => by cases n <;> simp [okD] at o1
  | n, A, .str _, .lst _, v, w, u1, u2, hu, _, o1, h1, h2, r1, r2 => by cases n <;> simp [okD] at o1
  | n, A, .str _, .ty _, v, w, u1, u2, hu, _, o1, h1, h2, r1, r2 => by cases n <;> simp [okD] at o1
  | n, A, .tup _, .lst _, v, w, u1, u2, hu, _, o1, h1, h2, r1, r2 => by cases n <;> simp [okD] at o1
  | n, A, .tup _, .ty _, v, w, u1, u2, hu, _, o1, h1, h2, r1, r2 => by cases n <;> simp [okD] at o1
end
end L3
namespace L3
open PySem PySem.Spec PyProof.Rows L2
noncomputable abbrev RD2 := Dt → Dt → Sto → VD → Prop
noncomputable abbrev RDL := List Dt → Sto → VD → Prop
noncomputable def liftR (K : PySem.W.Frag) (r : RD2) : R2 := fun v w H Q => ∃ φ st x y P, Rep K φ st H ∧ D K φ st.length H x v ∧ D K φ st.length H y w ∧ r x y st P ∧
  ∀ d st', P d st' → ∀ φ' H' u, Bhd K φ st H φ' st' H' → D K φ' st'.length H' d u → Q u H'
noncomputable def liftC (K : PySem.W.Frag) (r : RDL) : List V → Hp → VK → Prop := fun vs H Q => ∃ φ st ds P, Rep K φ st H ∧ DL K φ st.length H ds vs ∧ r ds st P ∧
  ∀ d st', P d st' → ∀ φ' H' u, Bhd K φ st H φ' st' H' → D K φ' st'.length H' d u → Q u H'
noncomputable def OpD (X : Cx) (f : Value → Value → Sem Value) (r : RD2) : Prop := OpR X f (liftR X.K r)
noncomputable def CallD (X : Cx) (f : Value) (r : RDL) : Prop := CallR X f (liftC X.K r)
noncomputable def tvar (i : Nat) : TD := fun ρ st P => match ρ[i]? with
  | some (some d) => P d st
  | _ => False
noncomputable def tcon (d : Dt) : TD := fun _ st P => P d st
noncomputable def tbin (r : RD2) (ta tb : TD) : TD := fun ρ st P => ta ρ st fun x st1 => tb ρ st1 fun y st2 => r x y st2 P
noncomputable def tcall (r : RDL) (t : TAD) : TD := fun ρ st P => t ρ st fun ds st1 => r ds st1 P
section
variable {K : PySem.W.Frag} {r : RD2} {ta tb : TD} {σ : L2.St} {H : Hp} {Q : VK} {R : RDL} {t : TAD}
theorem bin_lift (h : liftE K (tbin r ta tb) σ H Q) : tOp (liftR K r) (liftE K ta) (liftE K tb) σ H Q := by
  obtain ⟨φ, st, ρ, P, pre, ht, hq⟩ := h
  refine ⟨φ, st, ρ, _, pre, ht, fun x st1 h1 φ1 H1 v b1 dx => ?_⟩
  refine ⟨φ1, st1, ρ, _, pre.on b1, h1, fun y st2 h2 φ2 H2 w b2 dy => ?_⟩
  exact ⟨φ2, st2, x, y, P, b2.1, dx.evo b2.2, dy, h2, fun d st' hp φ' H' u b3 du => hq d st' hp φ' H' u (b1.trans (b2.trans b3)) du⟩
theorem call_lift (h : liftE K (tcall R t) σ H Q) : tCB (liftC K R) (liftA K t) σ H Q := by
  obtain ⟨φ, st, ρ, P, pre, ht, hq⟩ := h
  refine ⟨φ, st, ρ, _, pre, ht, fun ds st1 h1 φ1 H1 vs b1 dx => ?_⟩
  exact ⟨φ1, st1, ds, P, b1.1, dx, h1, fun d st' hp φ' H' u b3 du => hq d st' hp φ' H' u (b1.trans b3) du⟩
end
section
variable {X : Cx} {a b c e : Expr} {es : List Expr} {ta tb tc t : TD} {tas : TAD} {pos : Pos}
theorem de_var (i : Nat) {x : Str} (hN : X.N[i]? = some x := by rfl) (hv : Vis X.env.scope x := by first | exact Or.inl rfl | exact Or.inr (Or.inl rfl) | exact Or.inr (Or.inr rfl)) (hd : (x == ("__debug__" : Str)) = false := by decide)
    (hcd : (x == ("__classdict__" : Str)) = false := by decide) : DE X (.Name x pos) (tvar i) := (pe_var hN hv hd hcd).imp fun σ H Q h => by
  obtain ⟨φ, st, ρ, P, pre, ht, hq⟩ := h
  unfold tvar at ht
  split at ht
  · rename_i d e
    obtain ⟨v, e1, e2⟩ := pre.2.2 i d e
    exact ⟨v, e1, hq d st ht φ H v (.refl pre.1) e2⟩
  · exact ht.elim
theorem con_lift {d : Dt} {v : V} {K : PySem.W.Frag} (h : ∀ φ N H, D K φ N H d v) : ∀ (σ : L2.St) H Q, liftE K (tcon d) σ H Q → tC v σ H Q := fun σ H Q h' => by
  obtain ⟨φ, st, ρ, P, pre, ht, hq⟩ := h'
  exact hq d st ht φ H v (.refl pre.1) (h _ _ _)
theorem de_int {i j pos} : DE X (.Constant (.int i) j pos) (tcon (.int i)) := (pe_int).imp (con_lift fun _ _ _ => D.mkInt)
theorem de_bl {i j pos} : DE X (.Constant (.bool i) j pos) (tcon (.bl i)) := (pe_bl).imp (con_lift fun _ _ _ => D.mkBl)
theorem de_non {j pos} : DE X (.Constant .none j pos) (tcon .non) := (pe_non).imp (con_lift fun _ _ _ => D.mkNon)
theorem de_str {i j pos} : DE X (.Constant (.str i) j pos) (tcon (.str i)) := (pe_str).imp (con_lift fun _ _ _ => D.mkStr)
theorem de_ty {x : Str} {T : String} (hm : X.mg x = none) (hv : bootBuiltins x = some (.type T)) (hg : Gl X x := by rfl) (hn : x ≠ "__name__" := by decide) (hd : (x == ("__debug__" : Str)) = false := by decide) : DE X (.Name x pos) (tcon (.ty T)) :=
  (pe_bltn (v := .ty T) hg hm hv rfl hn hd).imp (con_lift fun _ _ _ => D.mkTy)
theorem de_glob {x : Str} {d : Dt} {v : V} {u : Value} (hm : X.mg x = some u) (r : RelV v u) (hD : ∀ φ N H, D X.K φ N H d v) (hg : Gl X x := by rfl) (hd : (x == ("__debug__" : Str)) = false := by decide) : DE X (.Name x pos) (tcon d) :=
  (pe_glob hg hm r hd).imp (con_lift hD)
theorem de_op {op : Operator} {r : RD2} (ho : OpD X (binaryOp op) r) (ha : DE X a ta) (hb : DE X b tb) : DE X (.BinOp a op b pos) (tbin r ta tb) := (pe_op ho ha hb).imp fun _ _ _ => bin_lift
theorem de_cmp {op : CmpOp} {r : RD2} (ho : OpD X (compareOp op) r) (ha : DE X a ta) (hb : DE X b tb) (hm : behindInMarks op b = false := by first | exact nomark _ | with_unfolding_all rfl) : DE X (.Compare a [op] [b] pos) (tbin r ta tb) := (pe_cmpR ho ha hb hm).imp fun _ _ _ => bin_lift
noncomputable def tbool (t : TD) : TBD := fun ρ st P => t ρ st fun x st1 => match x with
  | .bl k => P k st1
  | _ => False
theorem bool_lift {K : PySem.W.Frag} {t : TD} {σ : L2.St} {H : Hp} {Q : Bool → Hp → Prop} (h : liftT K (tbool t) σ H Q) : liftE K t σ H fun x H' => ∃ k, x = .bl k ∧ Q k H' := by
  obtain ⟨φ, st, ρ, P, pre, ht, hq⟩ := h
  refine ⟨φ, st, ρ, _, pre, ht, fun d st1 h1 φ1 H1 v b1 dx => ?_⟩
  cases d with
  | bl k => exact ⟨k, dx.bl, hq k st1 h1 φ1 H1 b1⟩
  | _ => exact h1.elim
theorem dt_cmp {op : CmpOp} {r : RD2} (ho : OpD X (compareOp op) r) (ha : DE X a ta) (hb : DE X b tb) (hm : behindInMarks op b = false := by first | exact nomark _ | with_unfolding_all rfl) : DT X (.Compare a [op] [b] pos) (tbool (tbin r ta tb)) :=
  (pt_cmpR ho ha hb hm).imp fun σ H Q h => bin_lift (bool_lift h)
theorem dt_val (h : DE X e t) (he : ∀ whole, isTrue e X.env whole = (do let v ← whole; standAt e.pos; holding [v] (truthy v)) := by intro _; rfl) : DT X e (tbool t) := (pt_val h he).imp fun σ H Q h => bool_lift h
noncomputable def tnotB (t : TBD) : TBD := fun ρ st P => t ρ st fun k st1 => P (!k) st1
theorem dt_not {t : TBD} (h : DT X a t) : DT X (.UnaryOp .Not a pos) (tnotB t) := (pt_not h).imp fun σ H Q h => by
  obtain ⟨φ, st, ρ, P, pre, ht, hq⟩ := h
  exact ⟨φ, st, ρ, _, pre, ht, fun k st1 h1 φ1 H1 b1 => hq _ st1 h1 φ1 H1 b1⟩
noncomputable def DW (X : Cx) (e : Expr) (t : TBD) : Prop := PW X e (liftT X.K t)
theorem PW.imp {X : Cx} {e : Expr} {t t' : TT} (h : PW X e t) (i : ∀ σ H Q, t' σ H Q → t σ H Q) : PW X e t' := fun wh pins s σ H Q I q => h wh pins s σ H Q I (i σ H Q q)
noncomputable def tandB (t u : TBD) : TBD := fun ρ st P => t ρ st fun k st1 => if k = true then u ρ st1 P else P false st1
noncomputable def torB (t u : TBD) : TBD := fun ρ st P => t ρ st fun k st1 => if k = true then P true st1 else u ρ st1 P
variable {tA tB' : TBD} {rest : List Expr}
theorem dw_and1 (h : DT X a tA) : DW X (.BoolOp .And [a] pos) tA := pw_and1 h
theorem dw_or1 (h : DT X a tA) : DW X (.BoolOp .Or [a] pos) tA := pw_or1 h
theorem dw_and (ha : DT X a tA) (hb : DW X (.BoolOp .And (b :: rest) pos) tB') : DW X (.BoolOp .And (a :: b :: rest) pos) (tandB tA tB') := PW.imp (pw_and ha hb) fun σ H Q h => by
  obtain ⟨φ, st, ρ, P, pre, ht, hq⟩ := h
  refine ⟨φ, st, ρ, _, pre, ht, fun k st1 h1 φ1 H1 b1 => ?_⟩
  cases k with
  | true =>
    rw [if_pos rfl] at h1 ⊢
    exact ⟨φ1, st1, ρ, P, pre.on b1, h1, fun k st2 h2 φ2 H2 b2 => hq k st2 h2 φ2 H2 (b1.trans b2)⟩
  | false =>
    rw [if_neg Bool.false_ne_true] at h1 ⊢
    exact hq false st1 h1 φ1 H1 b1
theorem dw_or (ha : DT X a tA) (hb : DW X (.BoolOp .Or (b :: rest) pos) tB') : DW X (.BoolOp .Or (a :: b :: rest) pos) (torB tA tB') := PW.imp (pw_or ha hb) fun σ H Q h => by
  obtain ⟨φ, st, ρ, P, pre, ht, hq⟩ := h
  refine ⟨φ, st, ρ, _, pre, ht, fun k st1 h1 φ1 H1 b1 => ?_⟩
  cases k with
  | false =>
    rw [if_neg Bool.false_ne_true] at h1 ⊢
    exact ⟨φ1, st1, ρ, P, pre.on b1, h1, fun k st2 h2 φ2 H2 b2 => hq k st2 h2 φ2 H2 (b1.trans b2)⟩
  | true =>
    rw [if_pos rfl] at h1 ⊢
    exact hq true st1 h1 φ1 H1 b1
theorem dt_of {tA : TBD} (h : DW X e tA) : DT X e tA := h _
noncomputable def tandV (t u : TD) : TD := fun ρ st P => t ρ st fun x st1 => match x with
  | .bl k => if k = true then u ρ st1 P else P (.bl false) st1
  | _ => False
noncomputable def torV (t u : TD) : TD := fun ρ st P => t ρ st fun x st1 => match x with
  | .bl k => if k = true then P (.bl true) st1 else u ρ st1 P
  | _ => False
noncomputable def tnotV (t : TD) : TD := fun ρ st P => t ρ st fun x st1 => match x with
  | .bl k => P (.bl (!k)) st1
  | _ => False
theorem de_one {op} (h : DE X a t) : DE X (.BoolOp op [a] pos) t := pe_one h
theorem de_and (ha : DE X a ta) (hb : DE X (.BoolOp .And (b :: rest) pos) tb) : DE X (.BoolOp .And (a :: b :: rest) pos) (tandV ta tb) := (pe_and ha hb).imp fun σ H Q h => by
  obtain ⟨φ, st, ρ, P, pre, ht, hq⟩ := h
  refine ⟨φ, st, ρ, _, pre, ht, fun d st1 h1 φ1 H1 v b1 dx => ?_⟩
  cases d with
  | bl k =>
    refine ⟨k, dx.bl, ?_⟩
    cases k with
    | true => exact iteT ⟨φ1, st1, ρ, P, pre.on b1, h1, fun k st2 h2 φ2 H2 v2 b2 => hq k st2 h2 φ2 H2 v2 (b1.trans b2)⟩
    | false => exact iteF (hq _ st1 h1 φ1 H1 _ b1 D.mkBl)
  | _ => exact h1.elim
theorem de_or (ha : DE X a ta) (hb : DE X (.BoolOp .Or (b :: rest) pos) tb) : DE X (.BoolOp .Or (a :: b :: rest) pos) (torV ta tb) := (pe_or ha hb).imp fun σ H Q h => by
  obtain ⟨φ, st, ρ, P, pre, ht, hq⟩ := h
  refine ⟨φ, st, ρ, _, pre, ht, fun d st1 h1 φ1 H1 v b1 dx => ?_⟩
  cases d with
  | bl k =>
    refine ⟨k, dx.bl, ?_⟩
    cases k with
    | false => exact iteF ⟨φ1, st1, ρ, P, pre.on b1, h1, fun k st2 h2 φ2 H2 v2 b2 => hq k st2 h2 φ2 H2 v2 (b1.trans b2)⟩
    | true => exact iteT (hq _ st1 h1 φ1 H1 _ b1 D.mkBl)
  | _ => exact h1.elim
theorem de_not (ha : DE X a ta) : DE X (.UnaryOp .Not a pos) (tnotV ta) := (pe_not ha).imp fun σ H Q h => by
  obtain ⟨φ, st, ρ, P, pre, ht, hq⟩ := h
  refine ⟨φ, st, ρ, _, pre, ht, fun d st1 h1 φ1 H1 v b1 dx => ?_⟩
  cases d with
  | bl k => exact ⟨k, dx.bl, hq _ st1 h1 φ1 H1 _ b1 D.mkBl⟩
  | _ => exact h1.elim
noncomputable def tifE (c : TBD) (t u : TD) : TD := fun ρ st P => c ρ st fun k st1 => if k = true then t ρ st1 P else u ρ st1 P
theorem de_if {tC : TBD} (hc : DT X c tC) (ha : DE X a ta) (hb : DE X b tb) : DE X (.IfExp c a b pos) (tifE tC ta tb) := (pe_ifExp hc ha hb).imp fun σ H Q h => by
  obtain ⟨φ, st, ρ, P, pre, ht, hq⟩ := h
  refine ⟨φ, st, ρ, _, pre, ht, fun k st1 h1 φ1 H1 b1 => ?_⟩
  cases k with
  | true => exact iteT ⟨φ1, st1, ρ, P, pre.on b1, (by rw [if_pos rfl] at h1; exact h1), fun k st2 h2 φ2 H2 v2 b2 => hq k st2 h2 φ2 H2 v2 (b1.trans b2)⟩
  | false => exact iteF ⟨φ1, st1, ρ, P, pre.on b1, (by rw [if_neg Bool.false_ne_true] at h1; exact h1), fun k st2 h2 φ2 H2 v2 b2 => hq k st2 h2 φ2 H2 v2 (b1.trans b2)⟩
noncomputable def tchain (p q : Int → Int → Bool) (ta tb tc : TD) : TD := fun ρ st P => ta ρ st fun x st1 => tb ρ st1 fun y st2 => match x, y with
  | .int i, .int j => if p i j = true then tc ρ st2 fun z st3 => (match z with
      | .int k => P (.bl (q j k)) st3
      | _ => False) else P (.bl false) st2
  | _, _ => False
theorem chain_lift {K : PySem.W.Frag} {p q : Int → Int → Bool} {σ : L2.St} {H : Hp} {Q : VK} (h : liftE K (tchain p q ta tb tc) σ H Q) :
    tChain (rI0 fun i j => .bl (p i j)) (rI0 fun i j => .bl (q i j)) (liftE K ta) (liftE K tb) (liftE K tc) σ H Q := by
  obtain ⟨φ, st, ρ, P, pre, ht, hq⟩ := h
  refine ⟨φ, st, ρ, _, pre, ht, fun x st1 h1 φ1 H1 v b1 dx => ?_⟩
  refine ⟨φ1, st1, ρ, _, pre.on b1, h1, fun y st2 h2 φ2 H2 w b2 dy => ?_⟩
  cases x with
  | int i =>
    cases y with
    | int j =>
      refine ⟨i, j, dx.int, dy.int, p i j, rfl, ?_⟩
      have h2' : if p i j = true then tc ρ st2 fun z st3 => (match z with
        | .int k => P (.bl (q j k)) st3
        | _ => False) else P (.bl false) st2 := h2
      cases hp : p i j with
      | true =>
        rw [hp, if_pos rfl] at h2'
        refine iteT ⟨φ2, st2, ρ, _, (pre.on b1).on b2, h2', fun z st3 h3 φ3 H3 w3 b3 dz => ?_⟩
        cases z with
        | int k => exact ⟨j, k, dy.int, dz.int, hq _ st3 h3 φ3 H3 _ (b1.trans (b2.trans b3)) D.mkBl⟩
        | _ => exact h3.elim
      | false =>
        rw [hp, if_neg Bool.false_ne_true] at h2'
        exact iteF (hq _ st2 h2' φ2 H2 _ (b1.trans b2) D.mkBl)
    | _ => exact h2.elim
  | _ => cases y <;> exact h2.elim
theorem de_chain {op op' : CmpOp} {p q : Int → Int → Bool} (ho : OpR X (compareOp op) (rI0 fun i j => .bl (p i j))) (ho' : OpR X (compareOp op') (rI0 fun i j => .bl (q i j))) (ha : DE X a ta) (hb : DE X b tb) (hc : DE X c tc)
    (hm : lastMarks [op, op'] [b, c] = false := by with_unfolding_all rfl) : DE X (.Compare a [op, op'] [b, c] pos) (tchain p q ta tb tc) := (pe_chain ho ho' ha hb hc hm).imp fun σ H Q h => chain_lift h
theorem dt_chain {op op' : CmpOp} {p q : Int → Int → Bool} (ho : OpR X (compareOp op) (rI0 fun i j => .bl (p i j))) (ho' : OpR X (compareOp op') (rI0 fun i j => .bl (q i j))) (ha : DE X a ta) (hb : DE X b tb) (hc : DE X c tc)
    (hm : lastMarks [op, op'] [b, c] = false := by with_unfolding_all rfl) : DT X (.Compare a [op, op'] [b, c] pos) (tbool (tchain p q ta tb tc)) := (pt_chain ho ho' ha hb hc hm).imp fun σ H Q h => chain_lift (bool_lift h)
noncomputable def tanil : TAD := fun _ st P => P [] st
noncomputable def tacons (t : TD) (u : TAD) : TAD := fun ρ st P => t ρ st fun x st1 => u ρ st1 fun xs st2 => P (x :: xs) st2
theorem da_nil : DA X [] tanil := (pa_nil).imp fun σ H Q h => by
  obtain ⟨φ, st, ρ, P, pre, ht, hq⟩ := h
  exact hq [] st ht φ H [] (.refl pre.1) .nil
theorem da_cons (ha : DE X e t) (hr : DA X es tas) (hs : starEach (e :: es) X.env = (false, eval e X.env) :: starEach es X.env := by rfl) : DA X (e :: es) (tacons t tas) := (pa_cons ha hr hs).imp fun σ H Q h => by
  obtain ⟨φ, st, ρ, P, pre, ht, hq⟩ := h
  refine ⟨φ, st, ρ, _, pre, ht, fun x st1 h1 φ1 H1 v b1 dx => ?_⟩
  refine ⟨φ1, st1, ρ, _, pre.on b1, h1, fun xs st2 h2 φ2 H2 vs b2 dxs => ?_⟩
  exact hq _ st2 h2 φ2 H2 _ (b1.trans b2) (.cons (dx.evo b2.2) dxs)
noncomputable def ttup (t : TAD) : TD := fun ρ st P => t ρ st fun ds st1 => ds.length ≤ sizeLine ∧ P (.tup ds) st1
noncomputable def tlst (t : TAD) : TD := fun ρ st P => t ρ st fun ds st1 => ds.length ≤ sizeLine ∧ P (.lst st1.length) (st1 ++ [.rw ds])
theorem bhd_tup {K : PySem.W.Frag} {φ : Nat → Addr} {st : Sto} {H : Hp} {p : Addr} {o : HO} (R : Rep K φ st H) (hp : H p = none) : Bhd K φ st H φ st (upd H p o) := ⟨R.laid hp, evo_new hp⟩
theorem bhd_lst {K : PySem.W.Frag} {φ : Nat → Addr} {st : Sto} {H : Hp} {p : Addr} {ds : List Dt} {vs : List V} (R : Rep K φ st H) (hp : H p = none) (hd : DL K φ st.length H ds vs) :
    Bhd K φ st H (phiNew φ st.length p) (st ++ [.rw ds]) (upd H p (.lst vs)) := ⟨R.newL hp hd, evo_lst hp⟩
theorem d_new {K : PySem.W.Frag} {φ : Nat → Addr} {st : Sto} {H : Hp} {p : Addr} {ds : List Dt} : D K (phiNew φ st.length p) (st ++ [SO.rw ds]).length H (.lst st.length) (.ref p) := by
  have := D.mkLst (K := K) (φ := phiNew φ st.length p) (H := H) (n := st.length) (N := (st ++ [SO.rw ds]).length) (by simp)
  rw [phi_at] at this
  exact this
theorem de_tup {x1} (h : DA X es tas) : DE X (.Tuple es x1 pos) (ttup tas) := (pe_tup h).imp fun σ H Q h => by
  obtain ⟨φ, st, ρ, P, pre, ht, hq⟩ := h
  refine ⟨φ, st, ρ, _, pre, ht, fun ds st1 h1 φ1 H1 vs b1 dx => ⟨by rw [← dx.length]; exact h1.1, fun p hp => ?_⟩⟩
  exact hq _ st1 h1.2 φ1 _ _ (b1.trans (bhd_tup b1.1 hp)) (.mkTup (SqT.of upd_same) (dx.evo (evo_new hp)))
theorem de_lst (h : DA X es tas) : DE X (.List es pos) (tlst tas) := (pe_lst h).imp fun σ H Q h => by
  obtain ⟨φ, st, ρ, P, pre, ht, hq⟩ := h
  refine ⟨φ, st, ρ, _, pre, ht, fun ds st1 h1 φ1 H1 vs b1 dx => ⟨by rw [← dx.length]; exact h1.1, fun p hp => ?_⟩⟩
  exact hq _ _ h1.2 _ _ _ (b1.trans (bhd_lst b1.1 hp dx)) d_new
end
end L3
namespace L3
open PySem PySem.Spec PyProof.Rows L2
noncomputable def rAdd : RD2 := fun x y st P => match x, y with
  | .int i, .int j => P (.int (i + j)) st
  | .str i, .str j => i.length + j.length ≤ sizeLine ∧ P (.str (i ++ j)) st
  | .tup i, .tup j => i.length + j.length ≤ sizeLine ∧ P (.tup (i ++ j)) st
  | .lst n, .lst m => match st[n]?, st[m]? with
    | some (.rw xs), some (.rw ys) => xs.length + ys.length ≤ sizeLine ∧ P (.lst st.length) (st ++ [.rw (xs ++ ys)])
    | _, _ => False
  | _, _ => False
noncomputable def rSub : RD2 := fun x y st P => match x, y with
  | .int i, .int j => P (.int (i - j)) st
  | _, _ => False
noncomputable def rMul : RD2 := fun x y st P => match x, y with
  | .int i, .int j => CMul i j ∧ P (.int (i * j)) st
  | .tup xs, .int k => xs ≠ [] ∧ 2 ≤ k ∧ k < 2 ^ 20 ∧ xs.length * k.toNat ≤ sizeLine ∧ P (.tup (List.replicate k.toNat xs).flatten) st
  | .lst n, .int k => match st[n]? with
    | some (.rw xs) => 0 ≤ k ∧ k < 2 ^ 20 ∧ xs.length * k.toNat ≤ sizeLine ∧ P (.lst st.length) (st ++ [.rw (List.replicate k.toNat xs).flatten])
    | _ => False
  | _, _ => False
noncomputable def rDiv : RD2 := fun x y st P => match x, y with
  | .int i, .int j => CDiv i j ∧ P (.int (i / j)) st
  | _, _ => False
noncomputable def rMod : RD2 := fun x y st P => match x, y with
  | .int i, .int j => 0 < j ∧ P (.int (i % j)) st
  | _, _ => False
noncomputable def rAndB : RD2 := fun x y st P => match x, y with
  | .int i, .int j => P (.int (Builtin.bitAnd i j)) st
  | _, _ => False
noncomputable def rCmpI (p : Int → Int → Bool) : RD2 := fun x y st P => match x, y with
  | .int i, .int j => P (.bl (p i j)) st
  | _, _ => False
noncomputable def rEqD (neg : Bool) : RD2 := fun x y st P => match x, y with
  | .lst n, .lst m => match st[n]?, st[m]? with
    | some a, some b => a.items.all (okD 8) = true ∧ b.items.all (okD 8) = true ∧ P (.bl (eqL (eqD 8) a.items b.items != neg)) st
    | _, _ => False
  | x, y => okD 8 x = true ∧ okD 8 y = true ∧ P (.bl (eqD 8 x y != neg)) st
noncomputable def rIsD (neg : Bool) : RD2 := fun x y st P => match x, y with
  | .bl a, .bl b => P (.bl ((a == b) != neg)) st
  | .non, .non => P (.bl (true != neg)) st
  | .bl _, .non => P (.bl (false != neg)) st
  | .int _, .non => P (.bl (false != neg)) st
  | .str _, .non => P (.bl (false != neg)) st
  | .tup _, .non => P (.bl (false != neg)) st
  | .lst _, .non => P (.bl (false != neg)) st
  | _, _ => False
noncomputable def seqOf (st : Sto) : Dt → Option (List Dt)
  | .tup xs => some xs
  | .lst n => (st[n]?).map SO.items
  | _ => none
noncomputable def rInD (neg : Bool) : RD2 := fun x y st P => match x, y with
  | .str i, .str j => P (.bl ((!(Builtin.Str.occurrences j i 0 j.length 1).isEmpty) != neg)) st
  | x, y => match seqOf st y with
    | some xs => okD 0 x = true ∧ xs.all (okD 0) = true ∧ P (.bl (xs.any (fun z => eqD 0 z x) != neg)) st
    | none => False
section
variable {X : Cx} {K : PySem.W.Frag} {φ : Nat → Addr} {st : Sto} {H : Hp} {P : VD} {Q : VK} {d : Dt} {v : V}
noncomputable abbrev Go (K : PySem.W.Frag) (φ : Nat → Addr) (st : Sto) (H : Hp) (P : VD) (Q : VK) : Prop := ∀ d st', P d st' → ∀ φ' H' u, Bhd K φ st H φ' st' H' → D K φ' st'.length H' d u → Q u H'
theorem Go.here (g : Go K φ st H P Q) (R : Rep K φ st H) (hp : P d st) (hd : D K φ st.length H d v) : Q v H := g d st hp φ H v (.refl R) hd
theorem od_add : OpD X (binaryOp .Add) rAdd := by
  intro pins s σ H v w u1 u2 Q I r1 r2 h
  obtain ⟨φ, st, x, y, P, R, dx, dy, hr, hq⟩ := h
  cases x with
  | int i =>
    cases y with
    | int j => exact op_add pins s σ H v w u1 u2 Q I r1 r2 ⟨i, j, dx.int, dy.int, Go.here hq R hr D.mkInt⟩
    | _ => exact hr.elim
  | str i =>
    cases y with
    | str j => exact op_add_str pins s σ H v w u1 u2 Q I r1 r2 ⟨i, j, dx.str, dy.str, hr.1, Go.here hq R hr.2 D.mkStr⟩
    | _ => exact hr.elim
  | tup i =>
    cases y with
    | tup j =>
      obtain ⟨a, vs, e1, s1, d1⟩ := dx.tup
      obtain ⟨b, ws, e2, s2, d2⟩ := dy.tup
      have l1 := d1.length
      have l2 := d2.length
      have hr1 : i.length + j.length ≤ sizeLine := hr.1
      have hr2 : P (.tup (i ++ j)) st := hr.2
      refine op_catA pins s σ H v w u1 u2 Q I r1 r2 ⟨a, b, vs, ws, e1, e2, s1, s2, by omega, fun z => ?_, fun z1 z2 => ?_, fun z1 z2 p hp => ?_⟩
      · rw [z] at l1
        have : i = [] := List.length_eq_zero_iff.mp l1
        rw [this, List.nil_append] at hr2
        exact Go.here hq R hr2 (.mkTup s2 d2)
      · rw [z2] at l2
        have : j = [] := List.length_eq_zero_iff.mp l2
        rw [this, List.append_nil] at hr2
        exact Go.here hq R hr2 (.mkTup s1 d1)
      · exact hq _ st hr2 φ _ _ (bhd_tup R hp) (.mkTup (SqT.of upd_same) ((d1.append d2).evo (evo_new hp)))
    | _ => exact hr.elim
  | lst n =>
    cases y with
    | lst m =>
      have hr' : match st[n]?, st[m]? with
        | some (.rw xs), some (.rw ys) => xs.length + ys.length ≤ sizeLine ∧ P (.lst st.length) (st ++ [.rw (xs ++ ys)])
        | _, _ => False := hr
      split at hr'
      · rename_i xs ys e1 e2
        obtain ⟨vs, h1, d1⟩ := R.rw n xs e1
        obtain ⟨ws, h2, d2⟩ := R.rw m ys e2
        have l1 := d1.length
        have l2 := d2.length
        have z := hr'.1
        exact op_cat pins s σ H v w u1 u2 Q I r1 r2 ⟨φ n, φ m, vs, ws, dx.lst.2, dy.lst.2, h1, h2, by omega, fun p hp => hq _ _ hr'.2 _ _ _ (bhd_lst R hp (d1.append d2)) d_new⟩
      · exact hr'.elim
    | _ => exact hr.elim
  | _ => cases y <;> exact hr.elim
theorem od_sub : OpD X (binaryOp .Sub) rSub := by
  intro pins s σ H v w u1 u2 Q I r1 r2 h
  obtain ⟨φ, st, x, y, P, R, dx, dy, hr, hq⟩ := h
  cases x with
  | int i =>
    cases y with
    | int j => exact op_sub pins s σ H v w u1 u2 Q I r1 r2 ⟨i, j, dx.int, dy.int, Go.here hq R hr D.mkInt⟩
    | _ => exact hr.elim
  | _ => cases y <;> exact hr.elim
theorem od_mul : OpD X (binaryOp .Mult) rMul := by
  intro pins s σ H v w u1 u2 Q I r1 r2 h
  obtain ⟨φ, st, x, y, P, R, dx, dy, hr, hq⟩ := h
  cases x with
  | int i =>
    cases y with
    | int j => exact op_mul pins s σ H v w u1 u2 Q I r1 r2 ⟨i, j, dx.int, dy.int, hr.1, Go.here hq R hr.2 D.mkInt⟩
    | _ => exact hr.elim
  | tup xs =>
    cases y with
    | int k =>
      obtain ⟨a, vs, e1, s1, d1⟩ := dx.tup
      obtain ⟨h1, h2, h3, h4, h5⟩ : xs ≠ [] ∧ 2 ≤ k ∧ k < 2 ^ 20 ∧ xs.length * k.toNat ≤ sizeLine ∧ P (.tup (List.replicate k.toNat xs).flatten) st := hr
      have rep : ∀ m : Nat, DL X.K φ st.length H (List.replicate m xs).flatten (List.replicate m vs).flatten := fun m => by
        induction m with
        | zero => exact .nil
        | succ m ih => rw [List.replicate_succ, List.replicate_succ, List.flatten_cons, List.flatten_cons]; exact d1.append ih
      refine op_repT pins s σ H v w u1 u2 Q I r1 r2 ⟨a, k, vs, e1, dy.int, s1, fun z => ?_, h2, h3, by rw [← d1.length]; exact h4, fun p hp => ?_⟩
      · have := d1.length
        rw [z] at this
        exact h1 (List.length_eq_zero_iff.mp this)
      · exact hq _ st h5 φ _ _ (bhd_tup R hp) (.mkTup (SqT.of upd_same) ((rep _).evo (evo_new hp)))
    | _ => exact hr.elim
  | lst n =>
    cases y with
    | int k =>
      have hr' : match st[n]? with
        | some (.rw xs) => 0 ≤ k ∧ k < 2 ^ 20 ∧ xs.length * k.toNat ≤ sizeLine ∧ P (.lst st.length) (st ++ [.rw (List.replicate k.toNat xs).flatten])
        | _ => False := hr
      split at hr'
      · rename_i xs e1
        obtain ⟨vs, h1, d1⟩ := R.rw n xs e1
        obtain ⟨g1, g2, g3, g4⟩ := hr'
        have rep : ∀ m : Nat, DL X.K φ st.length H (List.replicate m xs).flatten (List.replicate m vs).flatten := fun m => by
          induction m with
          | zero => exact .nil
          | succ m ih => rw [List.replicate_succ, List.replicate_succ, List.flatten_cons, List.flatten_cons]; exact d1.append ih
        exact op_rep pins s σ H v w u1 u2 Q I r1 r2 ⟨φ n, k, vs, dx.lst.2, dy.int, h1, by omega, by omega, by rw [← d1.length]; exact g3, fun p hp => hq _ _ g4 _ _ _ (bhd_lst R hp (rep _)) d_new⟩
      · exact hr'.elim
    | _ => exact hr.elim
  | _ => cases y <;> exact hr.elim
theorem od_div : OpD X (binaryOp .FloorDiv) rDiv := by
  intro pins s σ H v w u1 u2 Q I r1 r2 h
  obtain ⟨φ, st, x, y, P, R, dx, dy, hr, hq⟩ := h
  cases x with
  | int i =>
    cases y with
    | int j => exact op_fdiv pins s σ H v w u1 u2 Q I r1 r2 ⟨i, j, dx.int, dy.int, hr.1, Go.here hq R hr.2 D.mkInt⟩
    | _ => exact hr.elim
  | _ => cases y <;> exact hr.elim
theorem od_mod : OpD X (binaryOp .Mod) rMod := by
  intro pins s σ H v w u1 u2 Q I r1 r2 h
  obtain ⟨φ, st, x, y, P, R, dx, dy, hr, hq⟩ := h
  cases x with
  | int i =>
    cases y with
    | int j => exact op_mod pins s σ H v w u1 u2 Q I r1 r2 ⟨i, j, dx.int, dy.int, hr.1, Go.here hq R hr.2 D.mkInt⟩
    | _ => exact hr.elim
  | _ => cases y <;> exact hr.elim
theorem od_and : OpD X (binaryOp .BitAnd) rAndB := by
  intro pins s σ H v w u1 u2 Q I r1 r2 h
  obtain ⟨φ, st, x, y, P, R, dx, dy, hr, hq⟩ := h
  cases x with
  | int i =>
    cases y with
    | int j => exact op_and pins s σ H v w u1 u2 Q I r1 r2 ⟨i, j, dx.int, dy.int, Go.here hq R hr D.mkInt⟩
    | _ => exact hr.elim
  | _ => cases y <;> exact hr.elim
theorem od_cmpI {op : CmpOp} {p : Int → Int → Bool} (ho : OpR X (compareOp op) (rI0 fun i j => .bl (p i j))) : OpD X (compareOp op) (rCmpI p) := by
  intro pins s σ H v w u1 u2 Q I r1 r2 h
  obtain ⟨φ, st, x, y, P, R, dx, dy, hr, hq⟩ := h
  cases x with
  | int i =>
    cases y with
    | int j => exact ho pins s σ H v w u1 u2 Q I r1 r2 ⟨i, j, dx.int, dy.int, Go.here hq R hr D.mkBl⟩
    | _ => exact hr.elim
  | _ => cases y <;> exact hr.elim
theorem od_lt : OpD X (compareOp .Lt) (rCmpI fun i j => decide (i < j)) := od_cmpI op_lt
theorem od_le : OpD X (compareOp .LtE) (rCmpI fun i j => decide (i ≤ j)) := od_cmpI op_le
theorem od_gt : OpD X (compareOp .Gt) (rCmpI fun i j => decide (j < i)) := od_cmpI op_gt
theorem od_ge : OpD X (compareOp .GtE) (rCmpI fun i j => decide (j ≤ i)) := od_cmpI op_ge
theorem bne_false' (k : Bool) : (k != false) = k := by cases k <;> rfl
theorem bne_true' (k : Bool) : (k != true) = !k := by cases k <;> rfl
theorem fin_bool {pins : List (Addr × Obj)} {σ : L2.St} {s : Shared} (I : Inv X pins σ H s) (g : Go X.K φ st H P Q) (R : Rep X.K φ st H) {k k' : Bool} (hp : P (.bl k) st) (e : k = k') : EP X pins σ Q (.bool k') s := by
  subst e
  exact ⟨.bl k, H, I, rfl, Go.here g R hp D.mkBl⟩
end
section
variable {X : Cx} {pins : List (Addr × Obj)} {σ : L2.St} {H : Hp} {s : Shared} {φ : Nat → Addr} {N : Nat}
theorem els_D (I : Inv X pins σ H s) {n : Nat} {A : Around} {a b : List Dt} {vs ws : List V} {its its2 : List Value} (hu : A.units + n + 1 < cLine) (hd : DL X.K φ N H a vs) (hd2 : DL X.K φ N H b ws) (rv : Vals vs its) (rv2 : Vals ws its2)
    (o1 : a.all (okD n) = true) (o2 : b.all (okD n) = true) {j : Nat} (h1 : j < its.toArray.size) (h2 : j < its2.toArray.size) : SeqAt.EqAt A.in1 s its.toArray[j] its2.toArray[j] (eqD n (a.getD j .non) (b.getD j .non)) := by
  have l1 : its.toArray.size = a.length := by rw [List.size_toArray, ← rv.length, hd.length]
  have l2 : its2.toArray.size = b.length := by rw [List.size_toArray, ← rv2.length, hd2.length]
  have hj1 : j < a.length := by rw [← l1]; exact h1
  have hj2 : j < b.length := by rw [← l2]; exact h2
  have ea : a[j]? = some a[j] := by simp [hj1]
  have eb : b[j]? = some b[j] := by simp [hj2]
  obtain ⟨x, ex, dx⟩ := hd.get ea
  obtain ⟨y, ey, dy⟩ := hd2.get eb
  obtain ⟨ux, eux, rx⟩ := rv.get ex
  obtain ⟨uy, euy, ry⟩ := rv2.get ey
  have gx : its.toArray[j] = ux := by
    have : its[j]? = some its[j] := by simp at h1; simp [h1]
    rw [eux] at this
    simpa using (Option.some.inj this).symm
  have gy : its2.toArray[j] = uy := by
    have : its2[j]? = some its2[j] := by simp at h2; simp [h2]
    rw [euy] at this
    simpa using (Option.some.inj this).symm
  rw [gx, gy, getD_of ea, getD_of eb]
  exact eqAt_D I n (by show A.units + 1 + n < cLine; omega) (List.all_eq_true.mp o1 _ (List.getElem_mem hj1)) (List.all_eq_true.mp o2 _ (List.getElem_mem hj2)) dx dy rx ry
theorem rcEq_D (I : Inv X pins σ H s) (n : Nat) {A : Around} : ∀ {d e : Dt} {v w : V} {u1 u2 : Value}, A.units + n + 1 < cLine → okD (n + 1) d = true → okD (n + 1) e = true → D X.K φ N H d v → D X.K φ N H e w → RelV v u1 → RelV w u2 → SeqAt.RcAt A s u1 u2 (eqD (n + 1) d e)
  | .non, .non, v, w, u1, u2, hu, _, _, h1, h2, r1, r2 => by cases h1.non; cases h2.non; cases r1; cases r2; exact SeqAt.RcAt.none_none
  | .non, .bl b, v, w, u1, u2, hu, _, _, h1, h2, r1, r2 => by cases h1.non; cases h2.bl; cases r1; cases r2; exact SeqAt.RcAt.none_bool b
  | .non, .int b, v, w, u1, u2, hu, _, _, h1, h2, r1, r2 => by cases h1.non; cases h2.int; cases r1; obtain ⟨t', rfl⟩ := r2; exact SeqAt.RcAt.none_int b t'
  | .non, .str b, v, w, u1, u2, hu, _, _, h1, h2, r1, r2 => by cases h1.non; cases h2.str; cases r1; obtain ⟨t', rfl⟩ := r2; exact SeqAt.RcAt.none_str b t'
  | .bl a, .non, v, w, u1, u2, hu, _, _, h1, h2, r1, r2 => by cases h1.bl; cases h2.non; cases r1; cases r2; exact SeqAt.RcAt.bool_none a
  | .bl a, .bl b, v, w, u1, u2, hu, _, _, h1, h2, r1, r2 => by cases h1.bl; cases h2.bl; cases r1; cases r2; exact SeqAt.RcAt.bool_bool a b
  | .bl a, .int b, v, w, u1, u2, hu, _, _, h1, h2, r1, r2 => by cases h1.bl; cases h2.int; cases r1; obtain ⟨t', rfl⟩ := r2; exact SeqAt.RcAt.bool_int a b t'
  | .bl a, .str b, v, w, u1, u2, hu, _, _, h1, h2, r1, r2 => by cases h1.bl; cases h2.str; cases r1; obtain ⟨t', rfl⟩ := r2; exact SeqAt.RcAt.bool_str a b t'
  | .int a, .non, v, w, u1, u2, hu, _, _, h1, h2, r1, r2 => by cases h1.int; cases h2.non; obtain ⟨t, rfl⟩ := r1; cases r2; exact SeqAt.RcAt.int_none a t
  | .int a, .bl b, v, w, u1, u2, hu, _, _, h1, h2, r1, r2 => by cases h1.int; cases h2.bl; obtain ⟨t, rfl⟩ := r1; cases r2; exact SeqAt.RcAt.int_bool a t b
  | .int a, .int b, v, w, u1, u2, hu, _, _, h1, h2, r1, r2 => by cases h1.int; cases h2.int; obtain ⟨t, rfl⟩ := r1; obtain ⟨t', rfl⟩ := r2; exact SeqAt.RcAt.int_int a t b t'
  | .int a, .str b, v, w, u1, u2, hu, _, _, h1, h2, r1, r2 => by cases h1.int; cases h2.str; obtain ⟨t, rfl⟩ := r1; obtain ⟨t', rfl⟩ := r2; exact SeqAt.RcAt.int_str a t b t'
  | .str a, .non, v, w, u1, u2, hu, _, _, h1, h2, r1, r2 => by cases h1.str; cases h2.non; obtain ⟨t, rfl⟩ := r1; cases r2; exact SeqAt.RcAt.str_none a t
  | .str a, .bl b, v, w, u1, u2, hu, _, _, h1, h2, r1, r2 => by cases h1.str; cases h2.bl; obtain ⟨t, rfl⟩ := r1; cases r2; exact SeqAt.RcAt.str_bool a t b
  | .str a, .int b, v, w, u1, u2, hu, _, _, h1, h2, r1, r2 => by cases h1.str; cases h2.int; obtain ⟨t, rfl⟩ := r1; obtain ⟨t', rfl⟩ := r2; exact SeqAt.RcAt.str_int a t b t'
  | .str a, .str b, v, w, u1, u2, hu, _, _, h1, h2, r1, r2 => by cases h1.str; cases h2.str; obtain ⟨t, rfl⟩ := r1; obtain ⟨t', rfl⟩ := r2; exact SeqAt.RcAt.str_str a t b t'
  | .tup a, .non, v, w, u1, u2, hu, _, _, h1, h2, r1, r2 => by
    obtain ⟨p, vs, rfl, hs, hd⟩ := h1.tup; cases h2.non; cases r1; cases r2; obtain ⟨its, _, ht, _⟩ := I.tuple hs; exact SeqAt.RcAt.tuple_none ht (by omega)
  | .non, .tup a, v, w, u1, u2, hu, _, _, h1, h2, r1, r2 => by
    obtain ⟨p, vs, rfl, hs, hd⟩ := h2.tup; cases h1.non; cases r2; cases r1; obtain ⟨its, _, ht, _⟩ := I.tuple hs; exact SeqAt.RcAt.none_tuple ht (by omega)
  | .tup a, .bl b, v, w, u1, u2, hu, _, _, h1, h2, r1, r2 => by
    obtain ⟨p, vs, rfl, hs, hd⟩ := h1.tup; cases h2.bl; cases r1; cases r2; obtain ⟨its, _, ht, _⟩ := I.tuple hs; exact SeqAt.RcAt.tuple_bool b ht (by omega)
  | .bl b, .tup a, v, w, u1, u2, hu, _, _, h1, h2, r1, r2 => by
    obtain ⟨p, vs, rfl, hs, hd⟩ := h2.tup; cases h1.bl; cases r2; cases r1; obtain ⟨its, _, ht, _⟩ := I.tuple hs; exact SeqAt.RcAt.bool_tuple b ht (by omega)
  | .tup a, .int b, v, w, u1, u2, hu, _, _, h1, h2, r1, r2 => by
    obtain ⟨p, vs, rfl, hs, hd⟩ := h1.tup; cases h2.int; cases r1; obtain ⟨t', rfl⟩ := r2; obtain ⟨its, _, ht, _⟩ := I.tuple hs; exact SeqAt.RcAt.tuple_int b t' ht (by omega)
  | .int b, .tup a, v, w, u1, u2, hu, _, _, h1, h2, r1, r2 => by
    obtain ⟨p, vs, rfl, hs, hd⟩ := h2.tup; cases h1.int; cases r2; obtain ⟨t', rfl⟩ := r1; obtain ⟨its, _, ht, _⟩ := I.tuple hs; exact SeqAt.RcAt.int_tuple b t' ht (by omega)
  | .tup a, .str b, v, w, u1, u2, hu, _, _, h1, h2, r1, r2 => by
    obtain ⟨p, vs, rfl, hs, hd⟩ := h1.tup; cases h2.str; cases r1; obtain ⟨t', rfl⟩ := r2; obtain ⟨its, _, ht, _⟩ := I.tuple hs; exact SeqAt.RcAt.tuple_str b t' ht (by omega)
  | .str b, .tup a, v, w, u1, u2, hu, _, _, h1, h2, r1, r2 => by
    obtain ⟨p, vs, rfl, hs, hd⟩ := h2.tup; cases h1.str; cases r2; obtain ⟨t', rfl⟩ := r1; obtain ⟨its, _, ht, _⟩ := I.tuple hs; exact SeqAt.RcAt.str_tuple b t' ht (by omega)
  | .tup a, .tup b, v, w, u1, u2, hu, o1, o2, h1, h2, r1, r2 => by
    simp only [okD] at o1 o2
    obtain ⟨p, vs, rfl, hs, hd⟩ := h1.tup
    obtain ⟨q, ws, rfl, hs2, hd2⟩ := h2.tup
    cases r1; cases r2
    obtain ⟨its, rv, ht, _⟩ := I.tuple hs
    obtain ⟨its2, rv2, ht2, _⟩ := I.tuple hs2
    have l1 : its.toArray.size = a.length := by rw [List.size_toArray, ← rv.length, hd.length]
    have l2 : its2.toArray.size = b.length := by rw [List.size_toArray, ← rv2.length, hd2.length]
    have := SeqAt.RcAt.tuples (A := A) (s := s) (e := fun j => eqD n (a.getD j .non) (b.getD j .non)) ht ht2 (by omega) (fun j h1 h2 => els_D I hu hd hd2 rv rv2 o1 o2 h1 h2)
    rw [l1, l2] at this
    simp only [eqD]
    rw [eqL_range]
    exact this
  | .lst _, _, v, w, u1, u2, hu, o1, _, h1, h2, r1, r2 => by simp [okD] at o1
  | .non, .lst _, v, w, u1, u2, hu, _, o1, h1, h2, r1, r2 => by simp [okD] at o1
  | .bl _, .lst _, v, w, u1, u2, hu, _, o1, h1, h2, r1, r2 => by simp [okD] at o1
  | .int _, .lst _, v, w, u1, u2, hu, _, o1, h1, h2, r1, r2 => by simp [okD] at o1
  | .str _, .lst _, v, w, u1, u2, hu, _, o1, h1, h2, r1, r2 => by simp [okD] at o1
  | .tup _, .lst _, v, w, u1, u2, hu, _, o1, h1, h2, r1, r2 => by simp [okD] at o1
  | .ty _, _, v, w, u1, u2, hu, o1, _, h1, h2, r1, r2 => by simp [okD] at o1
  | .non, .ty _, v, w, u1, u2, hu, _, o1, h1, h2, r1, r2 => by simp [okD] at o1
  | .bl _, .ty _, v, w, u1, u2, hu, _, o1, h1, h2, r1, r2 => by simp [okD] at o1
  | .int _, .ty _, v, w, u1, u2, hu, _, o1, h1, h2, r1, r2 => by simp [okD] at o1
  | .str _, .ty _, v, w, u1, u2, hu, _, o1, h1, h2, r1, r2 => by simp [okD] at o1
  | .tup _, .ty _, v, w, u1, u2, hu, _, o1, h1, h2, r1, r2 => by simp [okD] at o1
theorem rcNe_D (I : Inv X pins σ H s) (n : Nat) {A : Around} : ∀ {d e : Dt} {v w : V} {u1 u2 : Value}, A.units + n + 1 < cLine → okD (n + 1) d = true → okD (n + 1) e = true → D X.K φ N H d v → D X.K φ N H e w → RelV v u1 → RelV w u2 → SeqAt.RcNeAt A s u1 u2 (!(eqD (n + 1) d e))
  | .non, .non, v, w, u1, u2, hu, _, _, h1, h2, r1, r2 => by cases h1.non; cases h2.non; cases r1; cases r2; exact SeqAt.RcNeAt.none_none
  | .non, .bl b, v, w, u1, u2, hu, _, _, h1, h2, r1, r2 => by cases h1.non; cases h2.bl; cases r1; cases r2; exact SeqAt.RcNeAt.none_bool b
  | .non, .int b, v, w, u1, u2, hu, _, _, h1, h2, r1, r2 => by cases h1.non; cases h2.int; cases r1; obtain ⟨t', rfl⟩ := r2; exact SeqAt.RcNeAt.none_int b t'
  | .non, .str b, v, w, u1, u2, hu, _, _, h1, h2, r1, r2 => by cases h1.non; cases h2.str; cases r1; obtain ⟨t', rfl⟩ := r2; exact SeqAt.RcNeAt.none_str b t'
  | .bl a, .non, v, w, u1, u2, hu, _, _, h1, h2, r1, r2 => by cases h1.bl; cases h2.non; cases r1; cases r2; exact SeqAt.RcNeAt.bool_none a
  | .bl a, .bl b, v, w, u1, u2, hu, _, _, h1, h2, r1, r2 => by cases h1.bl; cases h2.bl; cases r1; cases r2; exact SeqAt.RcNeAt.bool_bool a b
  | .bl a, .int b, v, w, u1, u2, hu, _, _, h1, h2, r1, r2 => by cases h1.bl; cases h2.int; cases r1; obtain ⟨t', rfl⟩ := r2; exact SeqAt.RcNeAt.bool_int a b t'
  | .bl a, .str b, v, w, u1, u2, hu, _, _, h1, h2, r1, r2 => by cases h1.bl; cases h2.str; cases r1; obtain ⟨t', rfl⟩ := r2; exact SeqAt.RcNeAt.bool_str a b t'
  | .int a, .non, v, w, u1, u2, hu, _, _, h1, h2, r1, r2 => by cases h1.int; cases h2.non; obtain ⟨t, rfl⟩ := r1; cases r2; exact SeqAt.RcNeAt.int_none a t
  | .int a, .bl b, v, w, u1, u2, hu, _, _, h1, h2, r1, r2 => by cases h1.int; cases h2.bl; obtain ⟨t, rfl⟩ := r1; cases r2; exact SeqAt.RcNeAt.int_bool a t b
  | .int a, .int b, v, w, u1, u2, hu, _, _, h1, h2, r1, r2 => by cases h1.int; cases h2.int; obtain ⟨t, rfl⟩ := r1; obtain ⟨t', rfl⟩ := r2; exact SeqAt.RcNeAt.int_int a t b t'
  | .int a, .str b, v, w, u1, u2, hu, _, _, h1, h2, r1, r2 => by cases h1.int; cases h2.str; obtain ⟨t, rfl⟩ := r1; obtain ⟨t', rfl⟩ := r2; exact SeqAt.RcNeAt.int_str a t b t'
  | .str a, .non, v, w, u1, u2, hu, _, _, h1, h2, r1, r2 => by cases h1.str; cases h2.non; obtain ⟨t, rfl⟩ := r1; cases r2; exact SeqAt.RcNeAt.str_none a t
  | .str a, .bl b, v, w, u1, u2, hu, _, _, h1, h2, r1, r2 => by cases h1.str; cases h2.bl; obtain ⟨t, rfl⟩ := r1; cases r2; exact SeqAt.RcNeAt.str_bool a t b
  | .str a, .int b, v, w, u1, u2, hu, _, _, h1, h2, r1, r2 => by cases h1.str; cases h2.int; obtain ⟨t, rfl⟩ := r1; obtain ⟨t', rfl⟩ := r2; exact SeqAt.RcNeAt.str_int a t b t'
  | .str a, .str b, v, w, u1, u2, hu, _, _, h1, h2, r1, r2 => by cases h1.str; cases h2.str; obtain ⟨t, rfl⟩ := r1; obtain ⟨t', rfl⟩ := r2; exact SeqAt.RcNeAt.str_str a t b t'
  | .tup a, .non, v, w, u1, u2, hu, _, _, h1, h2, r1, r2 => by
    obtain ⟨p, vs, rfl, hs, hd⟩ := h1.tup; cases h2.non; cases r1; cases r2; obtain ⟨its, _, ht, _⟩ := I.tuple hs; exact SeqAt.RcNeAt.tuple_none ht (by omega)
  | .non, .tup a, v, w, u1, u2, hu, _, _, h1, h2, r1, r2 => by
    obtain ⟨p, vs, rfl, hs, hd⟩ := h2.tup; cases h1.non; cases r2; cases r1; obtain ⟨its, _, ht, _⟩ := I.tuple hs; exact SeqAt.RcNeAt.none_tuple ht (by omega)
  | .tup a, .bl b, v, w, u1, u2, hu, _, _, h1, h2, r1, r2 => by
    obtain ⟨p, vs, rfl, hs, hd⟩ := h1.tup; cases h2.bl; cases r1; cases r2; obtain ⟨its, _, ht, _⟩ := I.tuple hs; exact SeqAt.RcNeAt.tuple_bool b ht (by omega)
  | .bl b, .tup a, v, w, u1, u2, hu, _, _, h1, h2, r1, r2 => by
    obtain ⟨p, vs, rfl, hs, hd⟩ := h2.tup; cases h1.bl; cases r2; cases r1; obtain ⟨its, _, ht, _⟩ := I.tuple hs; exact SeqAt.RcNeAt.bool_tuple b ht (by omega)
  | .tup a, .int b, v, w, u1, u2, hu, _, _, h1, h2, r1, r2 => by
    obtain ⟨p, vs, rfl, hs, hd⟩ := h1.tup; cases h2.int; cases r1; obtain ⟨t', rfl⟩ := r2; obtain ⟨its, _, ht, _⟩ := I.tuple hs; exact SeqAt.RcNeAt.tuple_int b t' ht (by omega)
  | .int b, .tup a, v, w, u1, u2, hu, _, _, h1, h2, r1, r2 => by
    obtain ⟨p, vs, rfl, hs, hd⟩ := h2.tup; cases h1.int; cases r2; obtain ⟨t', rfl⟩ := r1; obtain ⟨its, _, ht, _⟩ := I.tuple hs; exact SeqAt.RcNeAt.int_tuple b t' ht (by omega)
  | .tup a, .str b, v, w, u1, u2, hu, _, _, h1, h2, r1, r2 => by
    obtain ⟨p, vs, rfl, hs, hd⟩ := h1.tup; cases h2.str; cases r1; obtain ⟨t', rfl⟩ := r2; obtain ⟨its, _, ht, _⟩ := I.tuple hs; exact SeqAt.RcNeAt.tuple_str b t' ht (by omega)
  | .str b, .tup a, v, w, u1, u2, hu, _, _, h1, h2, r1, r2 => by
    obtain ⟨p, vs, rfl, hs, hd⟩ := h2.tup; cases h1.str; cases r2; obtain ⟨t', rfl⟩ := r1; obtain ⟨its, _, ht, _⟩ := I.tuple hs; exact SeqAt.RcNeAt.str_tuple b t' ht (by omega)
  | .tup a, .tup b, v, w, u1, u2, hu, o1, o2, h1, h2, r1, r2 => by
    simp only [okD] at o1 o2
    obtain ⟨p, vs, rfl, hs, hd⟩ := h1.tup
    obtain ⟨q, ws, rfl, hs2, hd2⟩ := h2.tup
    cases r1; cases r2
    obtain ⟨its, rv, ht, _⟩ := I.tuple hs
    obtain ⟨its2, rv2, ht2, _⟩ := I.tuple hs2
    have l1 : its.toArray.size = a.length := by rw [List.size_toArray, ← rv.length, hd.length]
    have l2 : its2.toArray.size = b.length := by rw [List.size_toArray, ← rv2.length, hd2.length]
    have := SeqAt.RcNeAt.tuples (A := A) (s := s) (e := fun j => eqD n (a.getD j .non) (b.getD j .non)) ht ht2 (by omega) (fun j h1 h2 => els_D I hu hd hd2 rv rv2 o1 o2 h1 h2)
    rw [l1, l2] at this
    simp only [eqD]
    rw [eqL_range]
    exact this
  | .lst _, _, v, w, u1, u2, hu, o1, _, h1, h2, r1, r2 => by simp [okD] at o1
  | .non, .lst _, v, w, u1, u2, hu, _, o1, h1, h2, r1, r2 => by simp [okD] at o1
  | .bl _, .lst _, v, w, u1, u2, hu, _, o1, h1, h2, r1, r2 => by simp [okD] at o1
  | .int _, .lst _, v, w, u1, u2, hu, _, o1, h1, h2, r1, r2 => by simp [okD] at o1
  | .str _, .lst _, v, w, u1, u2, hu, _, o1, h1, h2, r1, r2 => by simp [okD] at o1
  | .tup _, .lst _, v, w, u1, u2, hu, _, o1, h1, h2, r1, r2 => by simp [okD] at o1
  | .ty _, _, v, w, u1, u2, hu, o1, _, h1, h2, r1, r2 => by simp [okD] at o1
  | .non, .ty _, v, w, u1, u2, hu, _, o1, h1, h2, r1, r2 => by simp [okD] at o1
  | .bl _, .ty _, v, w, u1, u2, hu, _, o1, h1, h2, r1, r2 => by simp [okD] at o1
  | .int _, .ty _, v, w, u1, u2, hu, _, o1, h1, h2, r1, r2 => by simp [okD] at o1
  | .str _, .ty _, v, w, u1, u2, hu, _, o1, h1, h2, r1, r2 => by simp [okD] at o1
  | .tup _, .ty _, v, w, u1, u2, hu, _, o1, h1, h2, r1, r2 => by simp [okD] at o1
end
theorem od_eq {X : Cx} (hu : X.A.units + 16 < cLine) : OpD X (compareOp .Eq) (rEqD false) := by
  intro pins s σ H v w u1 u2 Q I r1 r2 h
  obtain ⟨φ, st, x, y, P, R, dx, dy, hr, hq⟩ := h
  have gen : okD 8 x = true → okD 8 y = true → P (.bl (eqD 8 x y != false)) st → wpAny (model X.prog X.w) X.A (compareOp .Eq u1 u2) (EP X pins σ Q) X.xe s := fun o1 o2 hp => by
    rw [bne_false'] at hp
    exact rcEq_D I 7 (by omega) o1 o2 dx dy r1 r2 _ _ _ _ (fin_bool I hq R hp rfl)
  cases x with
  | lst n =>
    cases y with
    | lst m =>
      have hr' : match st[n]?, st[m]? with
        | some a, some b => a.items.all (okD 8) = true ∧ b.items.all (okD 8) = true ∧ P (.bl (eqL (eqD 8) a.items b.items != false)) st
        | _, _ => False := hr
      split at hr'
      · rename_i a b e1 e2
        obtain ⟨o1, o2, hp⟩ := hr'
        rw [bne_false'] at hp
        obtain ⟨vs, s1, d1⟩ := R.seq e1
        obtain ⟨ws, s2, d2⟩ := R.seq e2
        obtain ⟨its, rv, pl, _⟩ := I.list s1
        obtain ⟨its2, rv2, pl2, _⟩ := I.list s2
        have e1' := dx.lst.2
        have e2' := dy.lst.2
        subst e1'; subst e2'
        cases r1; cases r2
        have l1 : its.toArray.size = a.items.length := by rw [List.size_toArray, ← rv.length, d1.length]
        have l2 : its2.toArray.size = b.items.length := by rw [List.size_toArray, ← rv2.length, d2.length]
        rw [eqL_range] at hp
        by_cases hl : its.toArray.size = its2.toArray.size
        · have := SeqAt.RcAt.lists (A := X.A) (s := s) (e := fun j => eqD 8 (a.items.getD j .non) (b.items.getD j .non)) pl.isList pl2.isList hl (by omega) (fun j h1 h2 => els_D I (by omega) d1 d2 rv rv2 o1 o2 h1 h2)
          refine this _ _ _ _ (fin_bool I hq R hp ?_)
          rw [← l1, ← l2, ← hl, Nat.min_self]
          simp
        · have hl' : (its.toArray.size != its2.toArray.size) = true := by simpa using hl
          refine SeqAt.RcAt.lists_lengths (A := X.A) pl.isList pl2.isList hl' (by omega) _ _ _ _ (fin_bool I hq R hp ?_)
          rw [← l1, ← l2]
          have : (its.toArray.size == its2.toArray.size) = false := by simpa using hl
          rw [this, Bool.and_false]
      · exact hr'.elim
    | _ => exact absurd (show okD 8 (.lst n) = true from hr.1) (by simp [okD])
  | _ => cases y <;> exact gen hr.1 hr.2.1 hr.2.2
theorem od_ne {X : Cx} (hu : X.A.units + 16 < cLine) : OpD X (compareOp .NotEq) (rEqD true) := by
  intro pins s σ H v w u1 u2 Q I r1 r2 h
  obtain ⟨φ, st, x, y, P, R, dx, dy, hr, hq⟩ := h
  have gen : okD 8 x = true → okD 8 y = true → P (.bl (eqD 8 x y != true)) st → wpAny (model X.prog X.w) X.A (compareOp .NotEq u1 u2) (EP X pins σ Q) X.xe s := fun o1 o2 hp => by
    rw [bne_true'] at hp
    exact rcNe_D I 7 (by omega) o1 o2 dx dy r1 r2 _ _ _ _ (fin_bool I hq R hp rfl)
  cases x with
  | lst n =>
    cases y with
    | lst m =>
      have hr' : match st[n]?, st[m]? with
        | some a, some b => a.items.all (okD 8) = true ∧ b.items.all (okD 8) = true ∧ P (.bl (eqL (eqD 8) a.items b.items != true)) st
        | _, _ => False := hr
      split at hr'
      · rename_i a b e1 e2
        obtain ⟨o1, o2, hp⟩ := hr'
        rw [bne_true'] at hp
        obtain ⟨vs, s1, d1⟩ := R.seq e1
        obtain ⟨ws, s2, d2⟩ := R.seq e2
        obtain ⟨its, rv, pl, _⟩ := I.list s1
        obtain ⟨its2, rv2, pl2, _⟩ := I.list s2
        have e1' := dx.lst.2
        have e2' := dy.lst.2
        subst e1'; subst e2'
        cases r1; cases r2
        have l1 : its.toArray.size = a.items.length := by rw [List.size_toArray, ← rv.length, d1.length]
        have l2 : its2.toArray.size = b.items.length := by rw [List.size_toArray, ← rv2.length, d2.length]
        rw [eqL_range] at hp
        by_cases hl : its.toArray.size = its2.toArray.size
        · have := SeqAt.RcNeAt.lists (A := X.A) (s := s) (e := fun j => eqD 8 (a.items.getD j .non) (b.items.getD j .non)) pl.isList pl2.isList hl (by omega) (fun j h1 h2 => els_D I (by omega) d1 d2 rv rv2 o1 o2 h1 h2)
          refine this _ _ _ _ (fin_bool I hq R hp ?_)
          rw [← l1, ← l2, ← hl, Nat.min_self]
          simp
        · have hl' : (its.toArray.size != its2.toArray.size) = true := by simpa using hl
          refine SeqAt.RcNeAt.lists_lengths (A := X.A) pl.isList pl2.isList hl' (by omega) _ _ _ _ (fin_bool I hq R hp ?_)
          rw [← l1, ← l2]
          have : (its.toArray.size == its2.toArray.size) = false := by simpa using hl
          rw [this, Bool.and_false]
          rfl
      · exact hr'.elim
    | _ => exact absurd (show okD 8 (.lst n) = true from hr.1) (by simp [okD])
  | _ => cases y <;> exact gen hr.1 hr.2.1 hr.2.2
end L3
namespace L3
open PySem PySem.Spec PyProof.Rows L2
section
variable {X : Cx}
theorem od_is : OpD X (compareOp .Is) (rIsD false) := by
  intro pins s σ H v w u1 u2 Q I r1 r2 h
  obtain ⟨φ, st, x, y, P, R, dx, dy, hr, hq⟩ := h
  have nn : y = .non → v ≠ .non → P (.bl (false != false)) st → wpAny (model X.prog X.w) X.A (compareOp .Is u1 u2) (EP X pins σ Q) X.xe s := fun e hv hp => by
    subst e
    have := dy.non
    exact op_isN pins s σ H v w u1 u2 Q I r1 r2 ⟨this, by rw [decide_eq_false hv]; exact Go.here hq R hp D.mkBl⟩
  cases x with
  | bl a =>
    cases y with
    | bl b =>
      cases dx.bl; cases dy.bl; cases r1; cases r2
      exact is_bool (fin_bool I hq R hr (by rw [bne_false']))
    | non => exact nn rfl (by rw [dx.bl]; intro z; cases z) hr
    | _ => exact hr.elim
  | non =>
    cases y with
    | non => exact op_isN pins s σ H v w u1 u2 Q I r1 r2 ⟨dy.non, by rw [decide_eq_true dx.non]; exact Go.here hq R hr D.mkBl⟩
    | _ => exact hr.elim
  | int a =>
    cases y with
    | non => exact nn rfl (by rw [dx.int]; intro z; cases z) hr
    | _ => exact hr.elim
  | str a =>
    cases y with
    | non => exact nn rfl (by rw [dx.str]; intro z; cases z) hr
    | _ => exact hr.elim
  | tup a =>
    cases y with
    | non => exact nn rfl (by obtain ⟨_, _, e, _⟩ := dx.tup; rw [e]; intro z; cases z) hr
    | _ => exact hr.elim
  | lst a =>
    cases y with
    | non => exact nn rfl (by rw [dx.lst.2]; intro z; cases z) hr
    | _ => exact hr.elim
  | _ => cases y <;> exact hr.elim
end
end L3
namespace L3
open PySem PySem.Spec PyProof.Rows L2
section
variable {X : Cx}
theorem flat_of {K : PySem.W.Frag} {φ : Nat → Addr} {N : Nat} {H : Hp} {d : Dt} {v : V} (h : D K φ N H d v) (o : okD 0 d = true) : flatV v = true := by
  cases d with
  | non => cases h.non; rfl
  | bl _ => cases h.bl; rfl
  | int _ => cases h.int; rfl
  | str _ => cases h.str; rfl
  | _ => exact absurd o (by simp [okD])
theorem flats_of {K : PySem.W.Frag} {φ : Nat → Addr} {N : Nat} {H : Hp} : ∀ {ds : List Dt} {vs : List V}, DL K φ N H ds vs → ds.all (okD 0) = true → vs.all flatV = true
  | [], vs, h, _ => by simp only [DL] at h; rw [h]; rfl
  | d :: ds, vs, h, o => by
    simp only [DL] at h
    obtain ⟨v, r, rfl, h2, h3⟩ := h
    rw [List.all_cons, Bool.and_eq_true] at o ⊢
    exact ⟨flat_of h2 o.1, flats_of h3 o.2⟩
theorem eqV_of {K : PySem.W.Frag} {φ : Nat → Addr} {N : Nat} {H : Hp} {d e : Dt} {v w : V} (h : D K φ N H d v) (h' : D K φ N H e w) (o : okD 0 d = true) (o' : okD 0 e = true) : eqV v w = eqD 0 d e := by
  cases d <;> (try (exfalso; revert o; simp [okD]; done)) <;> cases e <;> (try (exfalso; revert o'; simp [okD]; done)) <;> (simp only [D] at h h'; subst h; subst h'; rfl)
theorem anyV_of {K : PySem.W.Frag} {φ : Nat → Addr} {N : Nat} {H : Hp} {d : Dt} {v : V} (h' : D K φ N H d v) (o' : okD 0 d = true) : ∀ {ds : List Dt} {vs : List V}, DL K φ N H ds vs → ds.all (okD 0) = true → inV v vs = ds.any (fun z => eqD 0 z d)
  | [], vs, h, _ => by simp only [DL] at h; rw [h]; rfl
  | e :: ds, vs, h, o => by
    simp only [DL] at h
    obtain ⟨w, r, rfl, h2, h3⟩ := h
    rw [List.all_cons, Bool.and_eq_true] at o
    have ih := anyV_of h' o' h3 o.2
    unfold inV at ih ⊢
    rw [List.any_cons, List.any_cons, ih, eqV_of h2 h' o.1 o']
theorem seq_of {K : PySem.W.Frag} {φ : Nat → Addr} {st : Sto} {H : Hp} {y : Dt} {w : V} {xs : List Dt} (R : Rep K φ st H) (dy : D K φ st.length H y w) (e : seqOf st y = some xs) :
    ∃ p vs, w = .ref p ∧ ((SqL K H p vs ∧ ∃ n, y = .lst n) ∨ (SqT K H p vs ∧ y = .tup xs)) ∧ DL K φ st.length H xs vs := by
  cases y with
  | tup zs =>
    have e' : zs = xs := Option.some.inj e
    subst e'
    obtain ⟨a, vs, e1, s1, d1⟩ := dy.tup
    exact ⟨a, vs, e1, .inr ⟨s1, rfl⟩, d1⟩
  | lst n =>
    have e' : (st[n]?).map SO.items = some xs := e
    cases q : st[n]? with
    | none => rw [q] at e'; cases e'
    | some o =>
      rw [q] at e'
      have e2 : o.items = xs := Option.some.inj e'
      obtain ⟨vs, h1, h2⟩ := R.seq q
      rw [e2] at h2
      exact ⟨φ n, vs, dy.lst.2, .inl ⟨h1, n, rfl⟩, h2⟩
  | _ => cases e
theorem od_in : OpD X (compareOp .In) (rInD false) := by
  intro pins s σ H v w u1 u2 Q I r1 r2 h
  obtain ⟨φ, st, x, y, P, R, dx, dy, hr, hq⟩ := h
  have gen : (match seqOf st y with
    | some xs => okD 0 x = true ∧ xs.all (okD 0) = true ∧ P (.bl (xs.any (fun z => eqD 0 z x) != false)) st
    | none => False) → wpAny (model X.prog X.w) X.A (compareOp .In u1 u2) (EP X pins σ Q) X.xe s := fun hg => by
    split at hg
    · rename_i xs e
      obtain ⟨o1, o2, hp⟩ := hg
      obtain ⟨p, vs, e1, hs, hd⟩ := seq_of R dy e
      refine op_in_seq pins s σ H v w u1 u2 Q I r1 r2 ⟨p, vs, e1, hs.elim (fun z => .inl z.1) fun z => .inr z.1, flat_of dx o1, flats_of hd o2, ?_⟩
      rw [if_neg Bool.false_ne_true, anyV_of dx o1 hd o2]
      rw [bne_false'] at hp
      exact Go.here hq R hp D.mkBl
    · exact hg.elim
  cases x with
  | str i =>
    cases y with
    | str j =>
      have hr' : P (.bl ((!(Builtin.Str.occurrences j i 0 j.length 1).isEmpty) != false)) st := hr
      rw [bne_false'] at hr'
      exact op_in_str pins s σ H v w u1 u2 Q I r1 r2 ⟨i, j, dx.str, dy.str, Go.here hq R hr' D.mkBl⟩
    | _ => exact gen hr
  | _ => exact gen hr
end
end L3
namespace L3
open PySem PySem.Spec PyProof.Rows L2
section
variable {X : Cx}
noncomputable def rIxD : RD2 := fun x y st P => match y with
  | .int i => (match x with
    | .str z => z.length ≤ sizeLine ∧ (match atI z.cps.toList i with
      | some c => P (.str ⟨#[c]⟩) st
      | none => False)
    | x => match seqOf st x with
      | some xs => (match atI xs i with
        | some d => P d st
        | none => False)
      | none => False)
  | _ => False
theorem DL.atI {K : PySem.W.Frag} {φ : Nat → Addr} {N : Nat} {H : Hp} {ds : List Dt} {vs : List V} {i : Int} {d : Dt} (h : DL K φ N H ds vs) (e : L2.atI ds i = some d) : ∃ v, L2.atI vs i = some v ∧ D K φ N H d v := by
  unfold L2.atI at e ⊢
  rw [← h.length]
  cases q : ixN ds.length i with
  | none => rw [q] at e; cases e
  | some j =>
    rw [q] at e
    exact h.get e
theorem de_ix {a b : Expr} {ta tb : TD} {pos : Pos} (ha : DE X a ta) (hb : DE X b tb) (hs : PlainIx b := by exact fun _ _ => rfl) : DE X (.Subscript a b pos) (tbin rIxD ta tb) := by
  have key : IxR X (liftR X.K rIxD) := by
    intro value slice pins s σ H v w u1 u2 Q I r1 r2 h hsub
    obtain ⟨φ, st, x, y, P, R, dx, dy, hr, hq⟩ := h
    cases y with
    | int i =>
      have gen : (match seqOf st x with
        | some xs => (match atI xs i with
          | some d => P d st
          | none => False)
        | none => False) → wpAny (model X.prog X.w) X.A (subscriptTail value slice u1 u2) (EP X pins σ Q) X.xe s := fun hg => by
        split at hg
        · rename_i xs e
          split at hg
          · rename_i d ed
            obtain ⟨p, vs, e1, hs, hd⟩ := seq_of R dx e
            obtain ⟨z, ez, dz⟩ := hd.atI ed
            refine ix_seq value slice pins s σ H v w u1 u2 Q I r1 r2 ?_ hsub
            rcases hs with ⟨hs, _⟩ | ⟨hs, _⟩
            · exact .inl ⟨p, vs, i, z, e1, dy.int, hs, ez, Go.here hq R hg dz⟩
            · exact .inr (.inl ⟨p, vs, i, z, e1, dy.int, hs, ez, Go.here hq R hg dz⟩)
          · exact hg.elim
        · exact hg.elim
      cases x with
      | str z =>
        have hr' : z.length ≤ sizeLine ∧ (match atI z.cps.toList i with
          | some c => P (.str ⟨#[c]⟩) st
          | none => False) := hr
        obtain ⟨h1, h2⟩ := hr'
        split at h2
        · rename_i c ec
          exact ix_seq value slice pins s σ H v w u1 u2 Q I r1 r2 (.inr (.inr ⟨z, i, c, dx.str, dy.int, h1, ec, Go.here hq R h2 D.mkStr⟩)) hsub
        · exact h2.elim
      | _ => exact gen hr
    | _ => exact hr.elim
  exact (pe_ix key ha hb hs).imp fun _ _ _ => bin_lift
noncomputable abbrev TOD := Rho → Sto → (Option Int → Sto → Prop) → Prop
noncomputable def liftO (K : PySem.W.Frag) (t : TOD) : TO := fun σ H Q => ∃ φ st ρ P, Pre K φ st H ρ σ ∧ t ρ st P ∧ ∀ o st', P o st' → ∀ φ' H', Bhd K φ st H φ' st' H' → Q o H'
noncomputable def DO (X : Cx) (e : Option Expr) (t : TOD) : Prop := PO X e (liftO X.K t)
noncomputable def tonone : TOD := fun _ st P => P none st
noncomputable def tosome (t : TD) : TOD := fun ρ st P => t ρ st fun x st1 => match x with
  | .int i => P (some i) st1
  | _ => False
theorem do_none : DO X none tonone := fun pins s σ H Q I h => by
  obtain ⟨φ, st, ρ, P, pre, ht, hq⟩ := h
  exact po_none pins s σ H Q I (hq none st ht φ H (.refl pre.1))
theorem do_some {e : Expr} {t : TD} (he : DE X e t) : DO X (some e) (tosome t) := fun pins s σ H Q I h => by
  refine po_some he pins s σ H Q I ?_
  obtain ⟨φ, st, ρ, P, pre, ht, hq⟩ := h
  refine ⟨φ, st, ρ, _, pre, ht, fun d st1 h1 φ1 H1 v b1 dx => ?_⟩
  cases d with
  | int i => exact ⟨i, dx.int, hq _ st1 h1 φ1 H1 b1⟩
  | _ => exact h1.elim
noncomputable def cutD (xs : List Dt) (lo hi : Option Int) : List Dt := (xs.drop (HT.sIx xs.length 0 lo)).take (HT.sIx xs.length xs.length hi - HT.sIx xs.length 0 lo)
noncomputable def tslice (te : TD) (tl th : TOD) : TD := fun ρ st P => te ρ st fun x st1 => tl ρ st1 fun lo st2 => th ρ st2 fun hi st3 => match x with
  | .tup xs => ¬ (HT.sIx xs.length 0 lo = 0 ∧ HT.sIx xs.length xs.length hi = xs.length) ∧ P (.tup (cutD xs lo hi)) st3
  | .lst n => (match st3[n]? with
    | some o => P (.lst st3.length) (st3 ++ [.rw (cutD o.items lo hi)])
    | none => False)
  | _ => False
theorem de_slice {e : Expr} {lo hi : Option Expr} {te : TD} {tl th : TOD} {pos p2 : Pos} (he : DE X e te) (hl : DO X lo tl) (hu : DO X hi th) : DE X (.Subscript e (.Slice lo hi none p2) pos) (tslice te tl th) := by
  refine PE.imp (pe_slice (sl_tup.or sl_list) he hl hu) fun σ H Q h => ?_
  obtain ⟨φ, st, ρ, P, pre, ht, hq⟩ := h
  refine ⟨φ, st, ρ, _, pre, ht, fun x st1 h1 φ1 H1 v b1 dx => ?_⟩
  refine ⟨φ1, st1, ρ, _, pre.on b1, h1, fun l st2 h2 φ2 H2 b2 => ?_⟩
  refine ⟨φ2, st2, ρ, _, (pre.on b1).on b2, h2, fun u st3 h3 φ3 H3 b3 => ?_⟩
  have b := b1.trans (b2.trans b3)
  have dx3 := (dx.evo b2.2).evo b3.2
  cases x with
  | tup xs =>
    obtain ⟨a, vs, e1, s1, d1⟩ := dx3.tup
    have h3' : ¬ (HT.sIx xs.length 0 l = 0 ∧ HT.sIx xs.length xs.length u = xs.length) ∧ P (.tup (cutD xs l u)) st3 := h3
    refine .inl ⟨a, vs, e1, s1, by rw [← d1.length]; exact h3'.1, fun p hp => hq _ st3 h3'.2 φ3 _ _ (b.trans (bhd_tup b3.1 hp)) (.mkTup (SqT.of upd_same) ?_)⟩
    unfold cutD cutV
    rw [← d1.length]
    exact ((d1.drop _).take _).evo (evo_new hp)
  | lst n =>
    have h3' : (match st3[n]? with
      | some o => P (.lst st3.length) (st3 ++ [.rw (cutD o.items l u)])
      | none => False) := h3
    split at h3'
    · rename_i o eo
      obtain ⟨vs, s1, d1⟩ := b3.1.seq eo
      refine .inr ⟨φ3 n, vs, dx3.lst.2, s1, fun p hp => ?_⟩
      have : DL X.K φ3 st3.length H3 (cutD o.items l u) (cutV vs l u) := by
        unfold cutD cutV
        rw [← d1.length]
        exact (d1.drop _).take _
      exact hq _ _ h3' _ _ _ (b.trans (bhd_lst b3.1 hp this)) d_new
    · exact h3'.elim
  | _ => exact h3.elim
end
end L3
namespace L3
open PySem PySem.Spec PyProof.Rows L2
noncomputable def liftSp (K : PySem.W.Frag) (sp : RDL) : Sp := fun vs H Q _ => liftC K sp vs H Q
section
variable {X : Cx} {e : Expr} {es : List Expr} {t : TAD} {pos p : Pos} {x : Str}
theorem de_call {k : Nat} {f : Addr} {fd : FuncData} {ps : List Str} {sp : RDL} (F : FnOk X.prog X.w X.K X.mg X.base CX0 k f fd ps (liftSp X.K sp)) (hr : Room k X.A) (hm : X.mg x = some (.ref f)) (hk : PySem.W.keepIn X.K (.ref f) = true)
    (hb : Binds X.K fd ps []) (ha : DA X (e :: es) t) (hg : Gl X x := by rfl) (hdb : (x == ("__debug__" : Str)) = false := by decide) (he : starEach (e :: es) X.env = (false, eval e X.env) :: starEach es X.env := by rfl)
    (hpl : (backTo pos (starEach es X.env)).any (·.1) = false := by rfl) : DE X (.Call (.Name x p) (e :: es) [] pos) (tcall sp t) := by
  refine PE.imp (pe_call F hr hg hm hk hb .nil pass0 ha hdb he hpl) fun σ H Q h => ?_
  have := call_lift h
  obtain ⟨φ, st, ρ, P, pre, ht, hq⟩ := this
  refine ⟨φ, st, ρ, P, pre, ht, fun ds st' hp φ' H' vs b d => ?_⟩
  show liftSp X.K sp (vs ++ []) H' Q E0
  rw [List.append_nil]
  exact hq ds st' hp φ' H' vs b d
theorem de_callB {id : String} {r : RDL} (hc : CallD X (.builtin id) r) (hm : X.mg x = none) (hv : bootBuiltins x = some (.builtin id)) (ha : DA X (e :: es) t) (hg : Gl X x := by rfl) (hn : x ≠ "__name__" := by decide) (hdb : (x == ("__debug__" : Str)) = false := by decide)
    (he : starEach (e :: es) X.env = (false, eval e X.env) :: starEach es X.env := by rfl) (hpl : (backTo pos (starEach es X.env)).any (·.1) = false := by rfl) : DE X (.Call (.Name x p) (e :: es) [] pos) (tcall r t) :=
  PE.imp (pe_callB hc hg hm hv ha hn hdb he hpl) fun σ H Q h => call_lift h
theorem de_callTy {T : String} {r : RDL} (hc : CallD X (.type T) r) (hm : X.mg x = none) (hv : bootBuiltins x = some (.type T)) (ha : DA X (e :: es) t) (hg : Gl X x := by rfl) (hn : x ≠ "__name__" := by decide) (hdb : (x == ("__debug__" : Str)) = false := by decide)
    (he : starEach (e :: es) X.env = (false, eval e X.env) :: starEach es X.env := by rfl) (hpl : (backTo pos (starEach es X.env)).any (·.1) = false := by rfl) : DE X (.Call (.Name x p) (e :: es) [] pos) (tcall r t) :=
  PE.imp (pe_callTy hc hg hm hv ha hn hdb he hpl) fun σ H Q h => call_lift h
noncomputable def rLen : RDL := fun ds st P => match ds with
  | [.str z] => z.length ≤ sizeLine ∧ P (.int z.length) st
  | [x] => (match seqOf st x with
    | some xs => P (.int xs.length) st
    | none => False)
  | _ => False
theorem cd_len : CallD X (.builtin "len") rLen := by
  intro pins s σ H vs us Q I rv h
  obtain ⟨φ, st, ds, P, R, dl, hr, hq⟩ := h
  rcases ds with _ | ⟨x, _ | ⟨y, r⟩⟩
  · exact hr.elim
  rotate_left
  · cases x <;> exact hr.elim
  · obtain ⟨v, rfl, dx⟩ := dl.one
    have gen : (match seqOf st x with
      | some xs => P (.int xs.length) st
      | none => False) → wpAny (model X.prog X.w) X.A (call (.builtin "len") us) (EP X pins σ Q) X.xe s := fun hg => by
      split at hg
      · rename_i xs e
        obtain ⟨p, ws, e1, hs, hd⟩ := seq_of R dx e
        refine call_len_seq pins s σ H [v] us Q I rv ⟨p, ws, by rw [e1], hs.elim (fun z => .inl z.1) fun z => .inr z.1, ?_⟩
        rw [← hd.length]
        exact Go.here hq R hg D.mkInt
      · exact hg.elim
    cases x with
    | str z => exact call_len_str pins s σ H [v] us Q I rv ⟨z, by rw [dx.str], hr.1, Go.here hq R hr.2 D.mkInt⟩
    | _ => exact gen hr
noncomputable def rTuple : RDL := fun ds st P => match ds with
  | [x] => (match seqOf st x with
    | some xs => P (.tup xs) st
    | none => False)
  | _ => False
theorem cd_tuple : CallD X (.type "tuple") rTuple := by
  intro pins s σ H vs us Q I rv h
  obtain ⟨φ, st, ds, P, R, dl, hr, hq⟩ := h
  rcases ds with _ | ⟨x, _ | ⟨y, r⟩⟩
  · exact hr.elim
  rotate_left
  · cases x <;> exact hr.elim
  · obtain ⟨v, rfl, dx⟩ := dl.one
    have hr' : (match seqOf st x with
      | some xs => P (.tup xs) st
      | none => False) := hr
    split at hr'
    · rename_i xs e
      obtain ⟨p, ws, e1, hs, hd⟩ := seq_of R dx e
      refine call_tuple_of pins s σ H [v] us Q I rv ⟨p, ws, by rw [e1], ?_⟩
      rcases hs with ⟨hs, _⟩ | ⟨hs, ex⟩
      · exact .inl ⟨hs, fun l hl => hq _ st hr' φ _ _ (bhd_tup R hl) (.mkTup (SqT.of upd_same) (hd.evo (evo_new hl)))⟩
      · exact .inr ⟨hs, Go.here hq R hr' (.mkTup hs hd)⟩
    · exact hr'.elim
noncomputable def rList : RDL := fun ds st P => match ds with
  | [x] => (match seqOf st x with
    | some xs => P (.lst st.length) (st ++ [.rw xs])
    | none => False)
  | _ => False
theorem cd_list : CallD X (.type "list") rList := by
  intro pins s σ H vs us Q I rv h
  obtain ⟨φ, st, ds, P, R, dl, hr, hq⟩ := h
  rcases ds with _ | ⟨x, _ | ⟨y, r⟩⟩
  · exact hr.elim
  rotate_left
  · cases x <;> exact hr.elim
  · obtain ⟨v, rfl, dx⟩ := dl.one
    have hr' : (match seqOf st x with
      | some xs => P (.lst st.length) (st ++ [.rw xs])
      | none => False) := hr
    split at hr'
    · rename_i xs e
      obtain ⟨p, ws, e1, hs, hd⟩ := seq_of R dx e
      exact call_list_of pins s σ H [v] us Q I rv ⟨p, ws, by rw [e1], hs.elim (fun z => .inl z.1) fun z => .inr z.1, fun l hl => hq _ _ hr' _ _ _ (bhd_lst R hl hd) d_new⟩
    · exact hr'.elim
end
end L3
namespace L3
open PySem PySem.Spec PyProof.Rows L2
section
variable {X : Cx}
noncomputable def tyN : Dt → Option String
  | .non => some "NoneType"
  | .bl _ => some "bool"
  | .int _ => some "int"
  | .str _ => some "str"
  | .tup _ => some "tuple"
  | .lst _ => some "list"
  | .ty _ => none
noncomputable def isT (t c : String) : Bool := t == c || (t == "bool" && c == "int")
theorem kit_of (K : PySem.W.Frag) {t c : String} (ht : t = "NoneType" ∨ t = "bool" ∨ t = "int" ∨ t = "str" ∨ t = "tuple" ∨ t = "list") (hc : c = "bool" ∨ c = "int" ∨ c = "str" ∨ c = "tuple" ∨ c = "list") : PySem.W.kitOne K (.type t) (.type c) = some (isT t c) := by
  rcases ht with rfl | rfl | rfl | rfl | rfl | rfl <;> rcases hc with rfl | rfl | rfl | rfl | rfl <;> kernel_rfl
noncomputable def rIsInst : RDL := fun ds st P => match ds with
  | [x, .ty c] => (c = "bool" ∨ c = "int" ∨ c = "str" ∨ c = "tuple" ∨ c = "list") ∧ (match tyN x with
    | some t => P (.bl (isT t c)) st
    | none => False)
  | _ => False
theorem cd_isinst : CallD X (.builtin "isinstance") rIsInst := by
  intro pins s σ H vs us Q I rv h
  obtain ⟨φ, st, ds, P, R, dl, hr, hq⟩ := h
  rcases ds with _ | ⟨x, _ | ⟨y, _ | ⟨z, r⟩⟩⟩
  · exact hr.elim
  · exact hr.elim
  rotate_left
  · cases y <;> exact hr.elim
  · cases y <;> first
      | exact hr.elim
      | skip
    rename_i c
    obtain ⟨v, w, rfl, dx, dy⟩ := dl.two
    obtain ⟨u, u', rfl, ru, ru'⟩ := vals2 rv
    have := dy.ty
    subst this
    have := (show u' = Value.type c from ru')
    subst this
    obtain ⟨hc, hr⟩ := hr
    have fin : ∀ {t : String}, P (.bl (isT t c)) st → ∀ tk, EP X pins σ Q (.bool (isT t c)) { s with toks := tk } := fun {t} hp tk => ⟨.bl _, H, I.tok tk, rfl, Go.here hq R hp D.mkBl⟩
    cases x with
    | non => cases dx.non; cases ru; exact PySem.W.kia_one PySem.W.kitx_none I.kIn True.intro (kit_of _ (.inl rfl) hc) (fun z => nomatch z) (fin hr)
    | bl k => cases dx.bl; cases ru; exact PySem.W.kia_one PySem.W.kitx_bool I.kIn True.intro (kit_of _ (.inr (.inl rfl)) hc) (fun z => nomatch z) (fin hr)
    | int k => cases dx.int; obtain ⟨t, rfl⟩ := ru; exact PySem.W.kia_one PySem.W.kitx_int I.kIn True.intro (kit_of _ (.inr (.inr (.inl rfl))) hc) (fun z => nomatch z) (fin hr)
    | str k => cases dx.str; obtain ⟨t, rfl⟩ := ru; exact PySem.W.kia_one PySem.W.kitx_str I.kIn True.intro (kit_of _ (.inr (.inr (.inr (.inl rfl)))) hc) (fun z => nomatch z) (fin hr)
    | tup xs =>
      obtain ⟨a, ws, e1, s1, d1⟩ := dx.tup
      subst e1
      cases ru
      obtain ⟨its, _, ⟨o, h1, h2, _⟩, _⟩ := I.tuple s1
      exact PySem.W.kia_one PySem.W.kitx_tuple I.kIn ⟨o, h1, h2⟩ (kit_of _ (.inr (.inr (.inr (.inr (.inl rfl))))) hc) (fun z => nomatch z) (fin hr)
    | lst n =>
      obtain ⟨hn, e1⟩ := dx.lst
      subst e1
      cases ru
      obtain ⟨o, eo⟩ : ∃ o, st[n]? = some o := ⟨st[n], by simp [hn]⟩
      obtain ⟨ws, s1, _⟩ := R.seq eo
      obtain ⟨its, _, pl, _⟩ := I.list s1
      obtain ⟨ob, h1, h2, _⟩ := pl.isList
      exact PySem.W.kia_one PySem.W.kitx_list I.kIn ⟨ob, h1, h2⟩ (kit_of _ (.inr (.inr (.inr (.inr (.inr rfl))))) hc) (fun z => nomatch z) (fin hr)
    | ty _ => exact hr.elim
end
end L3
namespace L3
open PySem PySem.Spec PyProof.Rows L2
section
variable {X : Cx} {s : Stmt} {rest : List Stmt} {t u : TSD} {e : Expr} {te : TD} {pos : Pos}
noncomputable def tnext : TSD := fun E ρ st => E.nx ρ st
noncomputable def tseq (t u : TSD) : TSD := fun E ρ st => t { E with nx := u E } ρ st
theorem dss_nil : DSs X [] tnext := (pss_nil).imp fun E σ H h => by
  obtain ⟨φ, st, ρ, P, pre, ht, n, b, c, r⟩ := h
  exact n ρ st ht φ H σ (.refl pre.1) pre.2
theorem dss_cons (h1 : DS X s t) (h2 : DSs X rest u) : DSs X (s :: rest) (tseq t u) := (pss_cons h1 h2).imp fun E σ H h => by
  obtain ⟨φ, st, ρ, P, pre, ht, n, b, c, r⟩ := h
  refine ⟨φ, st, ρ, { P with nx := u P }, pre, ht, fun ρ' st' hu φ' H' σ' bh dr => ?_, b, c, r⟩
  exact ⟨φ', st', ρ', P, ⟨bh.1, dr⟩, hu, fun ρ2 st2 h2 φ2 H2 σ2 b2 d2 => n ρ2 st2 h2 φ2 H2 σ2 (bh.trans b2) d2, fun ρ2 st2 h2 φ2 H2 σ2 b2 d2 => b ρ2 st2 h2 φ2 H2 σ2 (bh.trans b2) d2,
    fun ρ2 st2 h2 φ2 H2 σ2 b2 d2 => c ρ2 st2 h2 φ2 H2 σ2 (bh.trans b2) d2, fun d st2 h2 φ2 H2 v b2 d2 => r d st2 h2 φ2 H2 v (bh.trans b2) d2⟩
noncomputable def tdrop (te : TD) : TSD := fun E ρ st => te ρ st fun _ st1 => E.nx ρ st1
theorem ds_expr (he : DE X e te) (hs : swapsWith e none pos.line X.env = pure false := by rfl) : DS X (.Expr e pos) (tdrop te) := (ps_expr he hs).imp fun E σ H h => by
  obtain ⟨φ, st, ρ, P, pre, ht, n, b, c, r⟩ := h
  exact ⟨φ, st, ρ, _, pre, ht, fun d st1 h1 φ1 H1 v b1 dx => n ρ st1 h1 φ1 H1 σ b1 (pre.on b1).2⟩
noncomputable def tret (te : TD) : TSD := fun E ρ st => te ρ st E.rt
theorem ds_ret (he : DE X e te) : DS X (.Return (some e) pos) (tret te) := (ps_ret he).imp fun E σ H h => by
  obtain ⟨φ, st, ρ, P, pre, ht, n, b, c, r⟩ := h
  exact ⟨φ, st, ρ, P.rt, pre, ht, r⟩
noncomputable def tretN : TSD := fun E _ st => E.rt .non st
noncomputable def tifS (c : TBD) (t u : TSD) : TSD := fun E ρ st => c ρ st fun k st1 => if k = true then t E ρ st1 else u E ρ st1
theorem ds_if {c : Expr} {a b : List Stmt} {tc : TBD} (hc : DT X c tc) (ha : DSs X a t) (hb : DSs X b u) : DS X (.If c a b pos) (tifS tc t u) := (ps_if hc ha hb).imp fun E σ H h => by
  obtain ⟨φ, st, ρ, P, pre, ht, n, b, c, r⟩ := h
  refine ⟨φ, st, ρ, _, pre, ht, fun k st1 h1 φ1 H1 b1 => ?_⟩
  have on : ∀ {v : TSD}, v P ρ st1 → liftS X.K v E σ H1 := fun {v} hv => ⟨φ1, st1, ρ, P, pre.on b1, hv, fun ρ2 st2 h2 φ2 H2 σ2 b2 d2 => n ρ2 st2 h2 φ2 H2 σ2 (b1.trans b2) d2, fun ρ2 st2 h2 φ2 H2 σ2 b2 d2 => b ρ2 st2 h2 φ2 H2 σ2 (b1.trans b2) d2,
    fun ρ2 st2 h2 φ2 H2 σ2 b2 d2 => c ρ2 st2 h2 φ2 H2 σ2 (b1.trans b2) d2, fun d st2 h2 φ2 H2 v b2 d2 => r d st2 h2 φ2 H2 v (b1.trans b2) d2⟩
  cases k with
  | true => exact iteT (on (by rw [if_pos rfl] at h1; exact h1))
  | false => exact iteF (on (by rw [if_neg Bool.false_ne_true] at h1; exact h1))
noncomputable abbrev TGD := Dt → Rho → Sto → (Rho → Sto → Prop) → Prop
noncomputable abbrev TGsD := List Dt → Rho → Sto → (Rho → Sto → Prop) → Prop
noncomputable def liftG (K : PySem.W.Frag) (g : TGD) : TG := fun v σ H Q => ∃ φ st ρ d P, Pre K φ st H ρ σ ∧ D K φ st.length H d v ∧ g d ρ st P ∧ ∀ ρ' st', P ρ' st' → ∀ φ' H' σ', Bhd K φ st H φ' st' H' → DR K φ' st'.length H' ρ' σ' → Q σ' H'
noncomputable def liftGs (K : PySem.W.Frag) (g : TGsD) : TGs := fun vs σ H Q => ∃ φ st ρ ds P, Pre K φ st H ρ σ ∧ DL K φ st.length H ds vs ∧ g ds ρ st P ∧ ∀ ρ' st', P ρ' st' → ∀ φ' H' σ', Bhd K φ st H φ' st' H' → DR K φ' st'.length H' ρ' σ' → Q σ' H'
noncomputable def DG (X : Cx) (tg : Expr) (g : TGD) : Prop := PG X tg (liftG X.K g)
noncomputable def DGs (X : Cx) (tg : List Expr) (g : TGsD) : Prop := PGs X tg (liftGs X.K g)
theorem _root_.L2.PG.imp {X : Cx} {e : Expr} {t t' : TG} (h : PG X e t) (i : ∀ v σ H Q, t' v σ H Q → t v σ H Q) : PG X e t' := fun pins s σ H v u Q I r q => h pins s σ H v u Q I r (i v σ H Q q)
theorem _root_.L2.PGs.imp {X : Cx} {e : List Expr} {t t' : TGs} (h : PGs X e t) (i : ∀ v σ H Q, t' v σ H Q → t v σ H Q) : PGs X e t' := fun pins s σ H v u Q I r q => h pins s σ H v u Q I r (i v σ H Q q)
noncomputable def gname (i : Nat) : TGD := fun d ρ st P => P (ρ.set i (some d)) st
theorem dg_name (i : Nat) {x : Str} (hN : X.N.Nodup) (hi : X.N[i]? = some x := by rfl) (hx : Loc X.env.scope x := by first | exact Or.inl rfl | exact Or.inr rfl) (hf : X.fn x = true ∨ X.env.scope.names.lookup x = some .local := by first | exact .inl rfl | exact .inr rfl | assumption) : DG X (.Name x pos) (gname i) :=
  (pg_name hN hi hx hf).imp fun v σ H Q h => by
    obtain ⟨φ, st, ρ, d, P, pre, hd, hg, hq⟩ := h
    exact hq _ st hg φ H _ (.refl pre.1) (pre.2.set hd i)
noncomputable def gsnil : TGsD := fun ds ρ st P => match ds with
  | [] => P ρ st
  | _ => False
noncomputable def gscons (g : TGD) (gs : TGsD) : TGsD := fun ds ρ st P => match ds with
  | d :: r => g d ρ st fun ρ1 st1 => gs r ρ1 st1 P
  | _ => False
theorem dgs_nil : DGs X [] gsnil := (pgs_nil).imp fun v σ H Q h => by
  obtain ⟨φ, st, ρ, ds, P, pre, hd, hg, hq⟩ := h
  cases ds with
  | nil =>
    have : v = [] := by simpa [DL] using hd
    exact ⟨this, hq _ st hg φ H _ (.refl pre.1) pre.2⟩
  | cons _ _ => exact hg.elim
theorem dgs_cons {es : List Expr} {g : TGD} {gs : TGsD} (h1 : DG X e g) (h2 : DGs X es gs) (hs : (assignEach (e :: es) X.env).map (·.2) = assign e X.env :: (assignEach es X.env).map (·.2) := by rfl) : DGs X (e :: es) (gscons g gs) := (pgs_cons h1 h2 hs).imp fun v σ H Q h => by
  obtain ⟨φ, st, ρ, ds, P, pre, hd, hg, hq⟩ := h
  cases ds with
  | nil => exact hg.elim
  | cons d r =>
    simp only [DL] at hd
    obtain ⟨w, ws, rfl, dw, dws⟩ := hd
    refine ⟨w, ws, rfl, φ, st, ρ, d, _, pre, dw, hg, fun ρ1 st1 h1 φ1 H1 σ1 b1 dr1 => ?_⟩
    exact ⟨φ1, st1, ρ1, r, P, ⟨b1.1, dr1⟩, dws.evo b1.2, h1, fun ρ2 st2 h2 φ2 H2 σ2 b2 d2 => hq ρ2 st2 h2 φ2 H2 σ2 (b1.trans b2) d2⟩
noncomputable def gunpack (n : Nat) (gs : TGsD) : TGD := fun d ρ st P => match seqOf st d with
  | some xs => xs.length = n ∧ gs xs ρ st P
  | none => False
theorem draw_list {prog : Program} {w : World} {A : Around} {E : Value → Shared → Prop} {it l : Addr} {items : Array Value} (hne : l ≠ it) : ∀ (n i : Nat) (s : Shared) (Q : List Value → Shared → Prop), s.heap.IsListIter it l i → s.heap.IsList l items → i + n ≤ items.size →
    (∀ h', h'.IsListIter it l (i + n) → Heap.SameBut it s.heap h' → Q ((items.toList.drop i).take n) { s with heap := h' }) → wpAny (model prog w) A (draw (.ref it) n) Q E s
  | 0, i, s, Q, hit, hl, hn, h => by
    unfold draw
    have := h s.heap (by simpa using hit) (.refl ..)
    simpa using wpAny_pure this
  | n + 1, i, s, Q, hit, hl, hn, h => by
    unfold draw
    have hi : i < items.size := by omega
    refine wpAny_bind (wpAny_pyNext_list_item hit hl (x := items[i]) (by simp [hi]) fun h1 hit1 sb1 => ?_)
    dsimp only
    refine wpAny_bind (wpAny_holding ?_)
    refine draw_list hne n (i + 1) { s with heap := h1 } _ hit1 (hl.extBut sb1.extBut hne) (by omega) fun h2 hit2 sb2 => ?_
    refine wpAny_pure ?_
    have e : (items.toList.drop i).take (n + 1) = items[i] :: (items.toList.drop (i + 1)).take n := by
      rw [List.drop_eq_getElem_cons (by simpa using hi), List.take_succ_cons]
      simp
    have := h h2 (by rw [show i + (n + 1) = i + 1 + n by omega]; exact hit2) (sb1.trans sb2)
    rw [e] at this
    exact this
end
end L3
namespace L3
open PySem PySem.Spec PyProof.Rows L2
section
variable {prog : Program} {w : World} {A : Around} {E : Value → Shared → Prop} {s : Shared}
theorem unpackItems_list {l : Addr} {items : Array Value} {Q : List Value → Shared → Prop} (hh : A.handled = none) (hl : s.heap.IsList l items)
    (hQ : ∀ h', Heap.ExtBut s.heap.objs.size s.heap h' → Q items.toList { s with heap := h' }) : wpAny (model prog w) A (unpackItems (.ref l) items.size none) Q E s := by
  have hlt : l ≠ s.heap.objs.size := by obtain ⟨o, ho, _⟩ := hl; exact Nat.ne_of_lt (Heap.lt_size ho)
  unfold unpackItems
  refine wpAny_bind ?_
  unfold notIterableAtAll
  refine wpAny_bind (wpAny_specialOf hl.typeIs slot_list_iter.lookup ?_)
  refine wpAny_pure ?_
  simp only [Bool.false_eq_true, if_false]
  refine wpAny_bind (wpAny_holding (wpAny_pyIter_list hl ?_))
  refine wpAny_bind (wpAny_holding (draw_list hlt items.size 0 _ _ ⟨_, Heap.get?_push_size _ rfl, rfl, rfl⟩ (hl.push _) (by omega) fun h₁ hit₁ hs₁ => ?_))
  have hall : List.take items.size (List.drop 0 items.toList) = items.toList := by
    rw [List.drop_zero]; exact List.take_of_length_le (by simp)
  rw [hall]
  rw [if_neg (by simp)]
  have hl₁ : h₁.IsList l items := (hl.push _).extBut hs₁.extBut hlt
  refine wpAny_bind (wpAny_holding (wpAny_pyNext_list_end hh hit₁ hl₁ (by simp) fun h₂ he₂ => ?_))
  simp only [Option.isSome_none, Bool.false_eq_true, if_false]
  exact wpAny_pure (hQ h₂ fun b o hb e => he₂ b o hb (hs₁.extBut b o hb (Heap.get?_push_of_some _ e)))
theorem assign_Tuple_list {env : Env} {elts : List Expr} {x1} {pos : Pos} {t : Addr} {items : Array Value} {Q : Unit → Shared → Prop} (hh : A.handled = none) (ht : s.heap.IsList t items)
    (hn : (assignEach elts env).length = items.size) (hstar : (assignEach elts env).findIdx? (·.1) = none)
    (h : ∀ h', Heap.ExtBut s.heap.objs.size s.heap h' → wpAny (model prog w) A (assignInOrder ((assignEach elts env).map (·.2)) items.toList) Q E { s with heap := h' }) :
    wpAny (model prog w) A (assign (.Tuple elts x1 pos) env (.ref t)) Q E s := by
  rw [assign_Tuple]
  refine wpAny_bind (wpAny_standAt ?_)
  unfold unpack
  rw [hn, hstar]
  exact wpAny_bind (wpAny_holding (unpackItems_list hh ht h))
end
section
variable {X : Cx} {pos : Pos} {e : Expr} {te : TD}
theorem dg_unpack {es : List Expr} {k : Nat} {gs : TGsD} (n : Nat) (hc : X.calm = true) (h : DGs X es gs) (hn : (assignEach es X.env).length = n := by rfl) (hst : (assignEach es X.env).findIdx? (·.1) = none := by rfl) : DG X (.Tuple es k pos) (gunpack n gs) := by
  intro pins s σ H v u Q I r hw
  obtain ⟨φ, st, ρ, d, P, pre, hd, hg, hq⟩ := hw
  unfold gunpack at hg
  split at hg
  · rename_i xs ex
    obtain ⟨hl, hg⟩ := hg
    obtain ⟨p, vs, e1, hs, dl⟩ := seq_of pre.1 hd ex
    subst e1
    cases r
    have hlen := dl.length
    rcases hs with ⟨hs, _⟩ | ⟨hs, _⟩
    · obtain ⟨its, rv, pl, _⟩ := I.list hs
      have := rv.length
      refine assign_Tuple_list (I.ok.hd hc) pl.isList (by rw [hn, List.size_toArray]; omega) hst fun h' hx => ?_
      have I1 : Inv X pins σ H { s with heap := h' } := I.kept (t' := s.toks) fun b o e => hx b o (Nat.ne_of_lt (Heap.lt_size e)) e
      exact h pins _ σ H vs _ Q I1 (by simpa using rv) ⟨φ, st, ρ, xs, P, pre, dl, hg, hq⟩
    · obtain ⟨its, rv, ht, _⟩ := I.tuple hs
      have := rv.length
      refine assign_Tuple_tuple (I.ok.hd hc) ht (by rw [hn, List.size_toArray]; omega) hst fun h' hx => ?_
      have I1 : Inv X pins σ H { s with heap := h' } := I.kept (t' := s.toks) fun b o e => hx b o (Nat.ne_of_lt (Heap.lt_size e)) e
      exact h pins _ σ H vs _ Q I1 (by simpa using rv) ⟨φ, st, ρ, xs, P, pre, dl, hg, hq⟩
  · exact hg.elim
noncomputable def tasg (te : TD) (g : TGD) : TSD := fun E ρ st => te ρ st fun d st1 => g d ρ st1 E.nx
theorem asg_lift {K : PySem.W.Frag} {te : TD} {g : TGD} {E : Ends} {σ : L2.St} {H : Hp} (h : liftS K (tasg te g) E σ H) : tAsg (liftE K te) (liftG K g) E σ H := by
  obtain ⟨φ, st, ρ, P, pre, ht, n, b, c, r⟩ := h
  refine ⟨φ, st, ρ, _, pre, ht, fun d st1 h1 φ1 H1 v b1 dx => ?_⟩
  exact ⟨φ1, st1, ρ, d, P.nx, pre.on b1, dx, h1, fun ρ2 st2 h2 φ2 H2 σ2 b2 d2 => n ρ2 st2 h2 φ2 H2 σ2 (b1.trans b2) d2⟩
theorem ds_asg {tg : Expr} {g : TGD} (he : DE X e te) (hg : DG X tg g) (hs : swapsWithSole [tg] e pos.line X.env = pure false := by rfl) (hw : swappedStores [tg] e X.env = pure none := by rfl)
    (h1 : (assignEach [tg] X.env).map (·.2) = [assign tg X.env] := by rfl) : DS X (.Assign [tg] e pos) (tasg te g) := (ps_asg he hg hs hw h1).imp fun _ _ _ => asg_lift
theorem ds_set (i : Nat) {x : Str} {pos' : Pos} (hN : X.N.Nodup) (he : DE X e te) (hi : X.N[i]? = some x := by rfl) (hx : Loc X.env.scope x := by first | exact Or.inl rfl | exact Or.inr rfl) (hs : swapsWith e (some (.Name x pos')) pos.line X.env = pure false := by rfl)
    (hf : X.fn x = true ∨ X.env.scope.names.lookup x = some .local := by first | exact .inl rfl | exact .inr rfl | assumption) : DS X (.Assign [.Name x pos'] e pos) (tasg te (gname i)) := (ps_set hN hi hx he hs hf).imp fun E σ H h => by
  obtain ⟨φ, st, ρ, P, pre, ht, n, b, c, r⟩ := h
  exact ⟨φ, st, ρ, _, pre, ht, fun d st1 h1 φ1 H1 v b1 dx => n _ st1 h1 φ1 H1 _ b1 ((pre.on b1).2.set dx i)⟩
noncomputable def gsub (to ti : TD) : TGD := fun d ρ st P => to ρ st fun o st1 => ti ρ st1 fun i st2 => match o, i with
  | .lst n, .int k => (match st2[n]? with
    | some (.rw xs) => (match ixN xs.length k with
      | some j => P ρ (st2.set n (.rw (xs.set j d)))
      | none => False)
    | _ => False)
  | _, _ => False
theorem dg_sub {o i : Expr} {to ti : TD} (ho : DE X o to) (hi : DE X i ti)
    (ha : ∀ v, assign (.Subscript o i pos) X.env v = (do
      let ov ← holding [v] (eval o X.env)
      let iv ← holding [v, ov] (eval i X.env)
      standAt pos
      holding [v, ov, iv] (setItem ov iv v)
      release [v, ov, iv] []) := by intro _; rfl) : DG X (.Subscript o i pos) (gsub to ti) := (pg_sub ho hi set_list ha).imp fun v σ H Q h => by
  obtain ⟨φ, st, ρ, d, P, pre, hd, hg, hq⟩ := h
  refine ⟨φ, st, ρ, _, pre, hg, fun x st1 h1 φ1 H1 w b1 dx => ?_⟩
  refine ⟨φ1, st1, ρ, _, pre.on b1, h1, fun y st2 h2 φ2 H2 z b2 dy => ?_⟩
  cases x with
  | lst n =>
    cases y with
    | int k =>
      have h2' : (match st2[n]? with
        | some (.rw xs) => (match ixN xs.length k with
          | some j => P ρ (st2.set n (.rw (xs.set j d)))
          | none => False)
        | _ => False) := h2
      split at h2'
      · rename_i xs ex
        split at h2'
        · rename_i j ej
          obtain ⟨vs, hv, dl⟩ := b2.1.rw n xs ex
          have dx2 := dx.evo b2.2
          have hd2 := (hd.evo b1.2).evo b2.2
          refine ⟨φ2 n, vs, k, j, dx2.lst.2, dy.int, hv, by rw [← dl.length]; exact ej, ?_⟩
          have bb : Bhd X.K φ2 st2 H2 φ2 (st2.set n (.rw (xs.set j d))) (upd H2 (φ2 n) (.lst (vs.set j v))) := ⟨b2.1.setL ex (dl.set hd2 j), evo_set hv⟩
          exact hq _ _ h2' φ2 _ σ (b1.trans (b2.trans bb)) (((pre.on b1).on b2).on bb).2
        · exact h2'.elim
      · exact h2'.elim
    | _ => exact h2.elim
  | _ => cases y <;> exact h2.elim
noncomputable def tappend (to te : TD) : TD := fun ρ st P => to ρ st fun o st1 => match o with
  | .lst n => te ρ st1 fun d st2 => (match st2[n]? with
    | some (.rw xs) => xs.length < sizeLine ∧ P .non (st2.set n (.rw (xs ++ [d])))
    | _ => False)
  | _ => False
theorem de_append {o : Expr} {to : TD} {apos cpos : Pos} (ho : DE X o to) (he : DE X e te)
    (hbase : attributeBase o "append" X.env (eval o X.env) = eval o X.env := by rfl)
    (hfew : ((backTo cpos (starEach [e] X.env)).all (fun x => !x.1) && (backToKw cpos (keywordEach [] X.env)).all (fun x => x.1.isSome)
      && decide (([e] : List Expr).length + ([] : List Keyword).length + (if ([] : List Keyword).isEmpty then 0 else 1) < 30)) = true := by rfl)
    (hline : (apos.endLine == cpos.line) = true := by rfl) (hs : starEach [e] X.env = (false, eval e X.env) :: starEach [] X.env := by rfl) (hplain : (backTo cpos (starEach ([] : List Expr) X.env)).any (·.1) = false := by rfl) :
    DE X (.Call (.Attribute o "append" apos) [e] [] cpos) (tappend to te) := by
  refine PE.imp (pe_bm PySem.F.plainAttrs_list PySem.F.slot_list_append PySem.F.type_list_append mt_append ho (da_cons he da_nil hs) hbase hfew hline hs hplain) fun σ H Q h => ?_
  obtain ⟨φ, st, ρ, P, pre, ht, hq⟩ := h
  refine ⟨φ, st, ρ, _, pre, ht, fun x st1 h1 φ1 H1 v b1 dx => ?_⟩
  cases x with
  | lst n =>
    have hn := dx.lst.1
    obtain ⟨so, eo⟩ : ∃ so, st1[n]? = some so := ⟨st1[n], by simp [hn]⟩
    obtain ⟨ws, hws, _⟩ := b1.1.seq eo
    refine ⟨?_, ?_⟩
    · rw [dx.lst.2]
      exact .inl ⟨rfl, ws, hws⟩
    refine ⟨φ1, st1, ρ, (fun ds st2 => match ds with
      | [d] => (match st2[n]? with
        | some (.rw xs) => xs.length < sizeLine ∧ P .non (st2.set n (.rw (xs ++ [d])))
        | _ => False)
      | _ => False), pre.on b1, h1, fun ds st2 h2 φ2 H2 zs b2 dz => ?_⟩
    rcases ds with _ | ⟨d, _ | ⟨d2, r⟩⟩
    · exact h2.elim
    rotate_left
    · exact h2.elim
    · have h2 : (match st2[n]? with
        | some (.rw xs) => xs.length < sizeLine ∧ P .non (st2.set n (.rw (xs ++ [d])))
        | _ => False) := h2
      split at h2
      · rename_i xs ex
        obtain ⟨y, rfl, dy⟩ := dz.one
        obtain ⟨vs, hv, dl⟩ := b2.1.rw n xs ex
        have dx2 := dx.evo b2.2
        have bb : Bhd X.K φ2 st2 H2 φ2 (st2.set n (.rw (xs ++ [d]))) (upd H2 (φ2 n) (.lst (vs ++ [y]))) := ⟨b2.1.setL ex (dl.append (.cons dy .nil)), evo_set hv⟩
        exact ⟨φ2 n, vs, y, dx2.lst.2, rfl, hv, by rw [← dl.length]; exact h2.1, hq _ _ h2.2 φ2 _ _ (b1.trans (b2.trans bb)) D.mkNon⟩
      · exact h2.elim
  | _ => exact h1.elim
end
end L3
namespace L3
open PySem PySem.Spec PyProof.Rows L2
noncomputable def forW (items : List Dt) (ok : Sto → Prop) (g : TGD) (tb : TSD) : TSD := fun E ρ st => ∃ Inv : Nat → Rho → Sto → Prop, Inv 0 ρ st ∧ (∀ i ρ' st', i ≤ items.length → Inv i ρ' st' → ok st') ∧
  (∀ (i : Nat) d ρ' st', items[i]? = some d → Inv i ρ' st' → g d ρ' st' fun ρ2 st2 => tb { E with nx := Inv (i + 1), ct := Inv (i + 1), bk := E.nx } ρ2 st2) ∧ ∀ ρ' st', Inv items.length ρ' st' → E.nx ρ' st'
noncomputable def Yields (K : PySem.W.Frag) (φ1 : Nat → Addr) (st1 : Sto) (H1 : Hp) (J : It) (items : List Dt) (ok : Sto → Prop) : Prop :=
  ∀ (i : Nat) φ' st' H', Bhd K φ1 st1 H1 φ' st' H' → ok st' → i ≤ items.length → (i = items.length → J.stop i H') ∧
    (∀ d, items[i]? = some d → J.go i H' ∧ ∀ y H2, J.yld i H' y H2 → Bhd K φ' st' H' φ' st' H2 ∧ D K φ' st'.length H2 d y)
section
variable {K : PySem.W.Frag} {φ1 : Nat → Addr} {st1 : Sto} {H1 : Hp} {ρ1 : Rho} {σ1 : L2.St} {J : It} {items : List Dt} {ok : Sto → Prop} {g : TGD} {tb : TSD}
theorem for_gen {E : EndsD} {E' : Ends} (pre : Pre K φ1 st1 H1 ρ1 σ1) (hJ : Yields K φ1 st1 H1 J items ok) (hf : forW items ok g tb E ρ1 st1)
    (n : ∀ ρ' st', E.nx ρ' st' → ∀ φ' H' σ', Bhd K φ1 st1 H1 φ' st' H' → DR K φ' st'.length H' ρ' σ' → E'.nx σ' H')
    (r : ∀ d st', E.rt d st' → ∀ φ' H' v, Bhd K φ1 st1 H1 φ' st' H' → D K φ' st'.length H' d v → E'.rt v H') :
    ∃ W : Nat → Nat → L2.St → Hp → Prop, (∃ m, W 0 m σ1 H1) ∧ ∀ i m σ H, W i m σ H →
      (J.stop i H ∧ E'.nx σ H) ∨ (J.go i H ∧ ∃ N : L2.St → Hp → Prop, (∀ σ' H', N σ' H' → ∃ m', m' < m ∧ W (i + 1) m' σ' H') ∧ ∀ x H', J.yld i H x H' → liftG K g x σ H' fun σ2 H2 => liftS K tb { E' with nx := N, ct := N, bk := E'.nx } σ2 H2) := by
  obtain ⟨Inv, h0, hok, step, fin⟩ := hf
  refine ⟨fun i m σ H => m = items.length - i ∧ i ≤ items.length ∧ ∃ φ' st' ρ', Pre K φ' st' H ρ' σ ∧ Bhd K φ1 st1 H1 φ' st' H ∧ Inv i ρ' st', ⟨items.length, by simp, Nat.zero_le _, φ1, st1, ρ1, pre, .refl pre.1, h0⟩, ?_⟩
  rintro i m σ H ⟨rfl, hi, φ', st', ρ', pre', bh, hI⟩
  obtain ⟨js, jg⟩ := hJ i φ' st' H bh (hok i ρ' st' hi hI) hi
  by_cases hlt : i < items.length
  · have ed : items[i]? = some items[i] := by simp [hlt]
    obtain ⟨go, yl⟩ := jg _ ed
    refine .inr ⟨go, fun σ3 H3 => ∃ φ3 st3 ρ3, Pre K φ3 st3 H3 ρ3 σ3 ∧ Bhd K φ1 st1 H1 φ3 st3 H3 ∧ Inv (i + 1) ρ3 st3, fun σ3 H3 h3 => ⟨items.length - (i + 1), by omega, rfl, hlt, h3⟩, fun y H2 hy => ?_⟩
    obtain ⟨b2, dy⟩ := yl y H2 hy
    refine ⟨φ', st', ρ', items[i], _, pre'.on b2, dy, step i _ ρ' st' ed hI, fun ρ3 st3 h3 φ3 H3 σ3 b3 d3 => ?_⟩
    have b13 := bh.trans (b2.trans b3)
    refine ⟨φ3, st3, ρ3, _, ⟨b3.1, d3⟩, h3, fun ρ4 st4 h4 φ4 H4 σ4 b4 d4 => ⟨φ4, st4, ρ4, ⟨b4.1, d4⟩, b13.trans b4, h4⟩, fun ρ4 st4 h4 φ4 H4 σ4 b4 d4 => n ρ4 st4 h4 φ4 H4 σ4 (b13.trans b4) d4,
      fun ρ4 st4 h4 φ4 H4 σ4 b4 d4 => ⟨φ4, st4, ρ4, ⟨b4.1, d4⟩, b13.trans b4, h4⟩, fun d st4 h4 φ4 H4 v b4 d4 => r d st4 h4 φ4 H4 v (b13.trans b4) d4⟩
  · have e : i = items.length := by omega
    subst e
    exact .inl ⟨js rfl, n ρ' st' (fin ρ' st' hI) φ' H σ bh pre'.2⟩
end
noncomputable abbrev TID := Rho → Sto → (List Dt → (Sto → Prop) → Sto → Prop) → Prop
noncomputable def liftI (K : PySem.W.Frag) (t : TID) : TI := fun σ H R => ∃ φ st ρ P, Pre K φ st H ρ σ ∧ t ρ st P ∧ ∀ items ok st', P items ok st' → ∀ φ' H' J, Bhd K φ st H φ' st' H' → Yields K φ' st' H' J items ok → R J H'
noncomputable def DI (X : Cx) (tg it : Expr) (t : TID) : Prop := PI X tg it (liftI X.K t)
noncomputable def tfor (ti : TID) (g : TGD) (tb : TSD) : TSD := fun E ρ st => ti ρ st fun items ok st1 => forW items ok g tb E ρ st1
section
variable {X : Cx} {tg iter : Expr} {body : List Stmt} {pos : Pos} {ti : TID} {g : TGD} {tb : TSD}
theorem ds_for (hp : PassesOwn (model X.prog X.w) X.A X.env X.xe) (hc : X.calm = true) (hi : DI X tg iter ti) (hg : DG X tg g) (hb : DSs X body tb) (hs : ∀ x, foldedSetIterable iter X.env x = pure x := by intro _; rfl) : DS X (.For tg iter body [] pos) (tfor ti g tb) :=
  (ps_for hp hc hi hg hb hs).imp fun E σ H h => by
    obtain ⟨φ, st, ρ, P, pre, ht, n, b, c, r⟩ := h
    refine ⟨φ, st, ρ, _, pre, ht, fun items ok st1 h1 φ1 H1 J b1 hJ => ?_⟩
    exact for_gen (pre.on b1) hJ h1 (fun ρ2 st2 h2 φ2 H2 σ2 b2 d2 => n ρ2 st2 h2 φ2 H2 σ2 (b1.trans b2) d2) fun d st2 h2 φ2 H2 v b2 d2 => r d st2 h2 φ2 H2 v (b1.trans b2) d2
noncomputable def iseq (te : TD) : TID := fun ρ st P => te ρ st fun x st1 => match seqOf st1 x with
  | some xs => P xs (fun st' => seqOf st' x = some xs) st1
  | none => False
theorem di_seq {te : TD} (he : DE X iter te) : DI X tg iter (iseq te) := by
  intro pins s σ H R I h
  obtain ⟨φ, st, ρ, P, pre, ht, hq⟩ := h
  refine thn (he pins s σ H _ I ⟨φ, st, ρ, _, pre, ht, fun x st1 h1 φ1 H1 v b1 dx => (show ∃ φ1 st1 x, Bhd X.K φ st H φ1 st1 H1 ∧ D X.K φ1 st1.length H1 x v ∧ (match seqOf st1 x with
    | some xs => P xs (fun st' => seqOf st' x = some xs) st1
    | none => False) from ⟨φ1, st1, x, b1, dx, h1⟩)⟩) fun u s1 ⟨v, H1, I1, ru, φ1, st1, x, b1, dx, h1⟩ => ?_
  split at h1
  · rename_i xs ex
    obtain ⟨a, vs, e1, hs, dl⟩ := seq_of b1.1 dx ex
    subst e1
    cases ru
    rcases hs with ⟨hs, n, exn⟩ | ⟨hs, _⟩
    · obtain ⟨its, rv, pl, hz⟩ := I1.list hs
      refine wpAny_pyIter_list pl.isList ?_
      refine ⟨s1.heap.objs.size, [s1.heap.objs.size], _, _, H1, rfl, I1.kept (t' := s1.toks) fun b o e => Heap.get?_push_of_some _ e, turn_list a _, ⟨_, Heap.get?_push_size _ rfl, rfl, rfl⟩, fun b hb => ?_, hq xs _ st1 h1 φ1 H1 _ b1 ?_⟩
      · have e : b = s1.heap.objs.size := by simpa using hb
        subst e
        exact I1.fpOk (Nat.le_refl _) (I1.hok.fresh (Nat.le_refl _))
      · intro i φ' st' H' bh hok hi
        obtain ⟨a', ws, e2, hs', dl'⟩ := seq_of bh.1 (dx.evo bh.2) hok
        cases e2
        have hsl : SqL X.K H' a ws := by
          rcases hs' with z | ⟨_, z⟩
          · exact z.1
          · rw [exn] at z; cases z
        have hlen := dl'.length
        refine ⟨fun e => ⟨ws, hsl, by omega⟩, fun d ed => ?_⟩
        obtain ⟨y, ey, dy⟩ := dl'.get ed
        refine ⟨⟨ws, y, hsl, ey⟩, fun y' H2 hy => ?_⟩
        obtain ⟨rfl, hy⟩ := hy
        have := hy ws hsl
        rw [ey] at this
        cases this
        exact ⟨.refl bh.1, dy⟩
    · obtain ⟨its, rv, pl, hz⟩ := I1.tuple hs
      refine wpAny_pyIter_tuple (show s1.heap.IsTuple a its.toArray from pl) ?_
      refine ⟨s1.heap.objs.size, [s1.heap.objs.size], _, _, H1, rfl, I1.kept (t' := s1.toks) fun b o e => Heap.get?_push_of_some _ e, turn_tuple a _, ⟨_, Heap.get?_push_size _ rfl, rfl, rfl⟩, fun b hb => ?_, hq xs _ st1 h1 φ1 H1 _ b1 ?_⟩
      · have e : b = s1.heap.objs.size := by simpa using hb
        subst e
        exact I1.fpOk (Nat.le_refl _) (I1.hok.fresh (Nat.le_refl _))
      · intro i φ' st' H' bh hok hi
        have hsl : SqT X.K H' a vs := bh.2.tup a vs hs
        have dl' := dl.evo bh.2
        have hlen := dl'.length
        refine ⟨fun e => ⟨vs, hsl, by omega⟩, fun d ed => ?_⟩
        obtain ⟨y, ey, dy⟩ := dl'.get ed
        refine ⟨⟨vs, y, hsl, ey⟩, fun y' H2 hy => ?_⟩
        obtain ⟨rfl, hy⟩ := hy
        have := hy vs hsl
        rw [ey] at this
        cases this
        exact ⟨.refl bh.1, dy⟩
  · exact h1.elim
noncomputable def rangeD (lo : Int) (n : Nat) : List Dt := (List.range n).map fun k => .int (lo + (k : Nat))
theorem range_get {lo : Int} {n i : Nat} {d : Dt} (h : (rangeD lo n)[i]? = some d) : i < n ∧ d = .int (lo + (i : Nat)) := by
  unfold rangeD at h
  rw [List.getElem?_map] at h
  cases q : (List.range n)[i]? with
  | none => rw [q] at h; cases h
  | some k =>
    rw [q] at h
    have := List.getElem?_eq_some_iff.mp q
    obtain ⟨h1, h2⟩ := this
    rw [List.getElem_range] at h2
    subst h2
    rw [List.length_range] at h1
    exact ⟨h1, (Option.some.inj h).symm⟩
theorem range_len {lo : Int} {n : Nat} : (rangeD lo n).length = n := by unfold rangeD; simp
theorem yields_range {K : PySem.W.Frag} {φ : Nat → Addr} {st : Sto} {H : Hp} {lo : Int} {n : Nat} : Yields K φ st H (Itr lo n) (rangeD lo n) (fun _ => True) := fun i φ' st' H' bh _ hi => by
  rw [range_len] at hi
  refine ⟨fun e => by rw [range_len] at e; exact Nat.le_of_eq e.symm, fun d ed => ?_⟩
  obtain ⟨h1, rfl⟩ := range_get ed
  refine ⟨h1, fun y H2 hy => ?_⟩
  obtain ⟨rfl, rfl⟩ := hy
  exact ⟨.refl bh.1, D.mkInt⟩
noncomputable def irng1 (ta : TD) : TID := fun ρ st P => ta ρ st fun x st1 => match x with
  | .int j => -(2 ^ 62) ≤ j ∧ j < 2 ^ 62 ∧ P (rangeD 0 j.toNat) (fun _ => True) st1
  | _ => False
theorem di_range1 {a : Expr} {ta : TD} {p : Pos} (hm : X.mg "range" = none) (ha : DE X a ta) (hg : Gl X "range" := by rfl) (hs : starEach [a] X.env = [(false, eval a X.env)] := by rfl) : DI X tg (.Call (.Name "range" p) [a] [] pos) (irng1 ta) := by
  intro pins s σ H R I h
  refine pi_range1 hg hm (da_cons ha da_nil hs) hs pins s σ H R I ?_
  obtain ⟨φ, st, ρ, P, pre, ht, hq⟩ := h
  refine ⟨φ, st, ρ, (fun ds st1 => match ds with
    | [x] => (match x with
      | .int j => -(2 ^ 62) ≤ j ∧ j < 2 ^ 62 ∧ P (rangeD 0 j.toNat) (fun _ => True) st1
      | _ => False)
    | _ => False), pre, ?_, fun ds st1 h1 φ1 H1 vs b1 dl => ?_⟩
  · exact ht
  · rcases ds with _ | ⟨d, _ | ⟨d2, r⟩⟩
    · exact h1.elim
    rotate_left
    · exact h1.elim
    · cases d <;> first
        | exact h1.elim
        | skip
      rename_i j
      obtain ⟨v, rfl, dv⟩ := dl.one
      obtain ⟨h2, h3, h4⟩ := h1
      exact ⟨j, by rw [dv.int], h2, h3, hq _ _ st1 h4 φ1 H1 _ b1 yields_range⟩
noncomputable def compD (items : List Dt) (ok : Sto → Prop) (tc : TBD) (te : TD) (cρ : Rho) (st : Sto) (Fin : List Dt → Sto → Prop) : Prop := ∃ Inv : Nat → List Dt → Sto → Prop, Inv 0 [] st ∧ (∀ i ys st', i ≤ items.length → Inv i ys st' → ok st') ∧
  (∀ (i : Nat) d ys st', items[i]? = some d → Inv i ys st' → ys.length < sizeLine ∧ tc (some d :: cρ) st' fun k st1 => if k = true then te (some d :: cρ) st1 fun y st2 => Inv (i + 1) (ys ++ [y]) st2 else Inv (i + 1) ys st1) ∧
  ∀ ys st', Inv items.length ys st' → Fin ys st'
noncomputable def capρ (caps : List (Nat × Str)) (ρ : Rho) : Rho := caps.map fun p => (ρ[p.1]?).join
theorem cap_DR {K : PySem.W.Frag} {φ : Nat → Addr} {N : Nat} {H : Hp} {ρ : Rho} {σ : L2.St} (h : DR K φ N H ρ σ) (caps : List (Nat × Str)) : DR K φ N H (capρ caps ρ) (capσ caps σ) := by
  refine ⟨by unfold capρ capσ; simp, fun i d e => ?_⟩
  unfold capρ at e
  rw [List.getElem?_map] at e
  unfold capσ
  rw [List.getElem?_map]
  cases q : caps[i]? with
  | none => rw [q] at e; cases e
  | some p =>
    rw [q] at e
    have e' : (ρ[p.1]?).join = some d := Option.some.inj e
    have e2 : ρ[p.1]? = some (some d) := by
      cases q : ρ[p.1]? with
      | none => rw [q] at e'; cases e'
      | some o => rw [q] at e'; exact congrArg some e'
    obtain ⟨v, ev, dv⟩ := h.2 p.1 d e2
    exact ⟨v, by show some ((σ[p.1]?).join) = _; rw [ev]; rfl, dv⟩
theorem dr_cons {K : PySem.W.Frag} {φ : Nat → Addr} {N : Nat} {H : Hp} {ρ : Rho} {σ : L2.St} {o : Option V} {d : Dt} {v : V} (h : DR K φ N H ρ σ) (hd : D K φ N H d v) : DR K φ N H (some d :: ρ) (some v :: σ) := by
  refine ⟨by rw [List.length_cons, List.length_cons, h.1], fun i e q => ?_⟩
  cases i with
  | zero => simp at q; subst q; exact ⟨v, rfl, hd⟩
  | succ i => exact h.2 i e (by simpa using q)
noncomputable def DIf (X : Cx) (ifs : List Expr) (t : TBD) : Prop := PIf X ifs (liftT X.K t)
theorem dif_nil : DIf X [] (fun _ st P => P true st) := fun pins s σ H Q I h => by
  obtain ⟨φ, st, ρ, P, pre, ht, hq⟩ := h
  exact pif_nil pins s σ H Q I (hq true st ht φ H (.refl pre.1))
theorem dif_one {c : Expr} {t : TBD} (h : DT X c t) : DIf X [c] t := pif_one h
theorem comp_gen {K : PySem.W.Frag} {φ1 : Nat → Addr} {st1 : Sto} {H1 : Hp} {cρ : Rho} {cσ : L2.St} {J : It} {items : List Dt} {ok : Sto → Prop} {tc : TBD} {te : TD} {Fin : List Dt → Sto → Prop} {Fin' : List V → Hp → Prop}
    (R : Rep K φ1 st1 H1) (dr : DR K φ1 st1.length H1 cρ cσ) (hJ : Yields K φ1 st1 H1 J items ok) (hc : compD items ok tc te cρ st1 Fin)
    (hF : ∀ ys st' φ' H' vs, Fin ys st' → Bhd K φ1 st1 H1 φ' st' H' → DL K φ' st'.length H' ys vs → Fin' vs H') :
    compW J (gName 0) (liftT K tc) (liftE K te) (List.replicate 1 none ++ cσ) H1 Fin' := by
  obtain ⟨Inv, h0, hok, step, fin⟩ := hc
  refine ⟨fun i m σ vs H => m = items.length - i ∧ i ≤ items.length ∧ ∃ φ' st' ys o, σ = o :: cσ ∧ Bhd K φ1 st1 H1 φ' st' H ∧ DL K φ' st'.length H ys vs ∧ Inv i ys st',
    ⟨items.length, by simp, Nat.zero_le _, φ1, st1, [], none, rfl, .refl R, .nil, h0⟩, ?_⟩
  rintro i m σ vs H ⟨rfl, hi, φ', st', ys, o, rfl, bh, dl, hI⟩
  obtain ⟨js, jg⟩ := hJ i φ' st' H bh (hok i ys st' hi hI) hi
  by_cases hlt : i < items.length
  · have ed : items[i]? = some items[i] := by simp [hlt]
    obtain ⟨go, yl⟩ := jg _ ed
    obtain ⟨hz, hstep⟩ := step i _ ys st' ed hI
    refine .inr ⟨go, by rw [← dl.length]; exact hz, fun y H2 hy => ?_⟩
    obtain ⟨b2, dy⟩ := yl y H2 hy
    have b12 := bh.trans b2
    have pre2 : Pre K φ' st' H2 (some items[i] :: cρ) (some y :: cσ) := ⟨b2.1, dr_cons (o := none) (dr.evo b12.2) dy⟩
    show liftT K tc (some y :: cσ) H2 _
    refine ⟨φ', st', _, _, pre2, hstep, fun k st3 h3 φ3 H3 b3 => ?_⟩
    cases k with
    | false =>
      rw [if_neg Bool.false_ne_true] at h3 ⊢
      exact ⟨items.length - (i + 1), by omega, rfl, hlt, φ3, st3, ys, some y, rfl, b12.trans b3, dl.evo (b2.2.trans b3.2), h3⟩
    | true =>
      rw [if_pos rfl] at h3 ⊢
      refine ⟨φ3, st3, _, _, pre2.on b3, h3, fun z st4 h4 φ4 H4 w b4 dz => ?_⟩
      exact ⟨items.length - (i + 1), by omega, rfl, hlt, φ4, st4, ys ++ [z], some y, rfl, b12.trans (b3.trans b4), (dl.evo (b2.2.trans (b3.2.trans b4.2))).append (.cons dz .nil), h4⟩
  · have e : i = items.length := by omega
    subst e
    exact .inl ⟨js rfl, hF ys st' φ' H vs (fin ys st' hI) bh dl⟩
noncomputable def tcomp (ti : TID) (tc : TBD) (te : TD) (caps : List (Nat × Str)) : TD := fun ρ st P => ti ρ st fun items ok st1 => compD items ok tc te (capρ caps ρ) st1 fun ys st2 => P (.lst st2.length) (st2 ++ [.rw ys])
theorem comp_lift {K : PySem.W.Frag} {tc : TBD} {te : TD} {caps : List (Nat × Str)} {σ : L2.St} {H : Hp} {Q : VK} (h : liftE K (tcomp ti tc te caps) σ H Q) : tComp (liftI K ti) (gName 0) (liftT K tc) (liftE K te) 1 caps σ H Q := by
  obtain ⟨φ, st, ρ, P, pre, ht, hq⟩ := h
  refine ⟨φ, st, ρ, _, pre, ht, fun items ok st1 h1 φ1 H1 J b1 hJ => ?_⟩
  refine comp_gen b1.1 (cap_DR (pre.on b1).2 caps) hJ h1 fun ys st2 φ2 H2 vs hF b2 dl p hp => ?_
  exact hq _ _ hF _ _ _ (b1.trans (b2.trans (bhd_lst b2.1 hp dl))) d_new
variable {elt : Expr} {ifs : List Expr} {sc : Scope} {x : Str} {px : Pos} {tc : TBD} {te : TD}
theorem de_comp (caps : List (Nat × Str)) (hc : X.calm = true) (S : CompScope X.env.scope X.N caps sc) (hx : sc.names.lookup x = some .local) (hnd : ([x] ++ caps.map (·.2)).Nodup) (hi : DI X (.Name x px) iter ti)
    (hif : ∀ C s H fp, DIf (cxComp X [x] caps sc C s H fp) ifs tc) (he : ∀ C s H fp, DE (cxComp X [x] caps sc C s H fp) elt te)
    (hs : ∀ x, foldedSetIterable iter X.env x = pure x := by intro _; rfl) : DE X (.ListComp elt [⟨.Name x px, iter, ifs, 0⟩] sc pos) (tcomp ti tc te caps) :=
  PE.imp (pe_comp (g := gName 0) (tc := liftT X.K tc) (te := liftE X.K te) [x] caps hc S hi (fun C s H fp => pg_name hnd rfl (.inl (lookup_relabel_local hx)) (.inr (lookup_relabel_local hx))) hif he hs) fun σ H Q h => comp_lift h
theorem ds_comp (i : Nat) {y : Str} {py spos : Pos} (caps : List (Nat × Str)) (hc : X.calm = true) (hN : X.N.Nodup) (S : CompScope X.env.scope X.N caps sc) (hx : sc.names.lookup x = some .local) (hnd : ([x] ++ caps.map (·.2)).Nodup) (hi : DI X (.Name x px) iter ti)
    (hif : ∀ C s H fp, DIf (cxComp X [x] caps sc C s H fp) ifs tc) (he : ∀ C s H fp, DE (cxComp X [x] caps sc C s H fp) elt te)
    (hy : X.N[i]? = some y := by rfl) (hyl : X.env.scope.names.lookup y = some .local := by rfl)
    (hsw : swapsWith (.ListComp elt [⟨.Name x px, iter, ifs, 0⟩] sc pos) (some (.Name y py)) spos.line X.env = pure true := by rfl)
    (hs : ∀ x, foldedSetIterable iter X.env x = pure x := by intro _; rfl) : DS X (.Assign [.Name y py] (.ListComp elt [⟨.Name x px, iter, ifs, 0⟩] sc pos) spos) (tasg (tcomp ti tc te caps) (gname i)) :=
  PS.imp (ps_comp (g := gName 0) (tc := liftT X.K tc) (te := liftE X.K te) [x] caps hc hN hy hyl S hi (fun C s H fp => pg_name hnd rfl (.inl (lookup_relabel_local hx)) (.inr (lookup_relabel_local hx))) hif he hsw hs) fun E σ H h => by
    obtain ⟨φ, st, ρ, P, pre, ht, n, b, c, r⟩ := h
    refine comp_lift (ti := ti) (tc := tc) (te := te) (caps := caps) ⟨φ, st, ρ, _, pre, ht, fun d st1 h1 φ1 H1 v b1 dx => ?_⟩
    exact n _ st1 h1 φ1 H1 _ b1 ((pre.on b1).2.set dx i)
noncomputable def startD (N : List Str) (ds : List Dt) : Rho := ds.map some ++ List.replicate (N.length - ds.length) none
theorem start_DR {K : PySem.W.Frag} {φ : Nat → Addr} {n : Nat} {H : Hp} {ds : List Dt} {vs : List V} (h : DL K φ n H ds vs) (N : List Str) : DR K φ n H (startD N ds) (L2.start N vs) := by
  refine ⟨by unfold startD L2.start; simp [h.length], fun i d e => ?_⟩
  unfold startD at e
  unfold L2.start
  by_cases hi : i < ds.length
  · rw [List.getElem?_append_left (by simpa using hi), List.getElem?_map] at e
    cases q : ds[i]? with
    | none => rw [q] at e; cases e
    | some d' =>
      rw [q] at e
      have : d' = d := by
        have e' : some (some d') = some (some d) := e
        injection e' with e1; injection e1
      subst this
      obtain ⟨v, ev, dv⟩ := h.get q
      refine ⟨v, ?_, dv⟩
      rw [List.getElem?_append_left (by simp; rw [← h.length]; exact hi), List.getElem?_map, ev]
      rfl
  · rw [List.getElem?_append_right (by simpa using Nat.not_lt.mp hi), List.getElem?_replicate] at e
    split at e <;> cases e
theorem fun_ok {P : Program} {w : World} {K : PySem.W.Frag} {mg : Str → Option Value} {base : Heap} {x qual : Str} {stt : Stmt} {f : Addr} {fd : FuncData} {N ps : List Str} {k : Nat} {sp : RDL} (F : Fun K x qual stt f fd) (S : FnScope N ps (defScope stt))
    (len : ∀ ds st Pd, sp ds st Pd → ds.length = ps.length)
    (hbody : ∀ (cdv : Value) (A : Around) (outer : List Env) (s : Shared) (H : Hp) (E : XK), Room k (A.deeper (envOfC qual (defScope stt) s.heap.objs.size f cdv)) →
      ∃ t, DSs (cxOf CX0 P w K mg base N qual (defScope stt) f cdv A outer s H E).nox (defBody stt) t ∧ ∀ ds st Pd, sp ds st Pd → t { nx := fun _ st' => Pd .non st', rt := Pd } (startD N ds) st) : FnOk P w K mg base CX0 (k + 1) f fd ps (liftSp K sp) := by
  refine F.ok S (fun vs H Q E h => ?_) fun cdv A outer s H vs Q E hr h => ?_
  · obtain ⟨φ, st, ds, Pd, R, dl, hs, hq⟩ := h
    rw [← dl.length]
    exact len ds st Pd hs
  · obtain ⟨t, ht, hb⟩ := hbody cdv A outer s H E hr
    obtain ⟨φ, st, ds, Pd, R, dl, hs, hq⟩ := h
    refine ⟨_, ht, φ, st, startD N ds, _, ⟨R, start_DR dl N⟩, hb ds st Pd hs, fun ρ' st' h' φ' H' σ' b' d' => hq _ st' h' φ' H' _ b' D.mkNon, fun ρ' st' h' => h'.elim, fun ρ' st' h' => h'.elim, fun d st' h' φ' H' v b' d' => hq d st' h' φ' H' v b' d'⟩
end
end L3
namespace L3
open PySem PySem.Spec PyProof.Rows L2
structure DefOk (P : Program) (w : World) (K : PySem.W.Frag) (mg : Str → Option Value) (base : Heap) (x : Str) (k : Nat) (sp : RDL) : Prop where
  ex : ∃ f fd ps, FnOk P w K mg base CX0 k f fd ps (liftSp K sp) ∧ mg x = some (.ref f) ∧ PySem.W.keepIn K (.ref f) = true ∧ Binds K fd ps []
section
variable {X : Cx} {e : Expr} {es : List Expr} {t : TAD} {pos p : Pos} {x : Str}
theorem de_callO {k : Nat} {sp : RDL} (F : DefOk X.prog X.w X.K X.mg X.base x k sp) (hr : Room k X.A) (ha : DA X (e :: es) t) (hg : Gl X x) (hdb : (x == ("__debug__" : Str)) = false) (he : starEach (e :: es) X.env = (false, eval e X.env) :: starEach es X.env)
    (hpl : (backTo pos (starEach es X.env)).any (·.1) = false) : DE X (.Call (.Name x p) (e :: es) [] pos) (tcall sp t) := by
  obtain ⟨f, fd, ps, h1, h2, h3, h4⟩ := F.ex
  exact de_call h1 hr h2 h3 h4 ha hg hdb he hpl
theorem hu16 {A : Around} {k : Nat} (hr : Room k A) : A.units + 16 < cLine := Nat.lt_of_le_of_lt (Nat.add_le_add_left (by decide : 16 ≤ 64) _) hr.units
structure ConOk (K : PySem.W.Frag) (mg : Str → Option Value) (x : Str) (d : Dt) : Prop where
  ex : ∃ v u, mg x = some u ∧ RelV v u ∧ ∀ φ N H, D K φ N H d v
theorem de_con {d : Dt} (h : ConOk X.K X.mg x d) (hg : Gl X x) (hd : (x == ("__debug__" : Str)) = false) : DE X (.Name x pos) (tcon d) := by
  obtain ⟨v, u, h1, h2, h3⟩ := h.ex
  exact de_glob h1 h2 h3 hg hd
structure Hint (caps : List (Nat × Str)) : Prop where
  ok : True
end
section
variable {X : Cx} {a b c : Expr} {ta tb tc : TD} {pos : Pos}
theorem dx_add (ha : DE X a ta) (hb : DE X b tb) : DE X (.BinOp a .Add b pos) (tbin L3.rAdd ta tb) := de_op od_add ha hb
theorem dx_sub (ha : DE X a ta) (hb : DE X b tb) : DE X (.BinOp a .Sub b pos) (tbin rSub ta tb) := de_op od_sub ha hb
theorem dx_mul (ha : DE X a ta) (hb : DE X b tb) : DE X (.BinOp a .Mult b pos) (tbin rMul ta tb) := de_op od_mul ha hb
theorem dx_div (ha : DE X a ta) (hb : DE X b tb) : DE X (.BinOp a .FloorDiv b pos) (tbin rDiv ta tb) := de_op od_div ha hb
theorem dx_mod (ha : DE X a ta) (hb : DE X b tb) : DE X (.BinOp a .Mod b pos) (tbin rMod ta tb) := de_op od_mod ha hb
theorem dx_and (ha : DE X a ta) (hb : DE X b tb) : DE X (.BinOp a .BitAnd b pos) (tbin rAndB ta tb) := de_op od_and ha hb
theorem dx_eq (hu : X.A.units + 16 < cLine) (ha : DE X a ta) (hb : DE X b tb) (hm : behindInMarks .Eq b = false) : DE X (.Compare a [.Eq] [b] pos) (tbin (rEqD false) ta tb) := de_cmp (od_eq hu) ha hb hm
theorem dtx_eq (hu : X.A.units + 16 < cLine) (ha : DE X a ta) (hb : DE X b tb) (hm : behindInMarks .Eq b = false) : DT X (.Compare a [.Eq] [b] pos) (tbool (tbin (rEqD false) ta tb)) := dt_cmp (od_eq hu) ha hb hm
theorem dx_ne (hu : X.A.units + 16 < cLine) (ha : DE X a ta) (hb : DE X b tb) (hm : behindInMarks .NotEq b = false) : DE X (.Compare a [.NotEq] [b] pos) (tbin (rEqD true) ta tb) := de_cmp (od_ne hu) ha hb hm
theorem dtx_ne (hu : X.A.units + 16 < cLine) (ha : DE X a ta) (hb : DE X b tb) (hm : behindInMarks .NotEq b = false) : DT X (.Compare a [.NotEq] [b] pos) (tbool (tbin (rEqD true) ta tb)) := dt_cmp (od_ne hu) ha hb hm
theorem dx_lt (ha : DE X a ta) (hb : DE X b tb) (hm : behindInMarks .Lt b = false) : DE X (.Compare a [.Lt] [b] pos) (tbin (rCmpI fun i j => decide (i < j)) ta tb) := de_cmp od_lt ha hb hm
theorem dtx_lt (ha : DE X a ta) (hb : DE X b tb) (hm : behindInMarks .Lt b = false) : DT X (.Compare a [.Lt] [b] pos) (tbool (tbin (rCmpI fun i j => decide (i < j)) ta tb)) := dt_cmp od_lt ha hb hm
theorem dx_le (ha : DE X a ta) (hb : DE X b tb) (hm : behindInMarks .LtE b = false) : DE X (.Compare a [.LtE] [b] pos) (tbin (rCmpI fun i j => decide (i ≤ j)) ta tb) := de_cmp od_le ha hb hm
theorem dtx_le (ha : DE X a ta) (hb : DE X b tb) (hm : behindInMarks .LtE b = false) : DT X (.Compare a [.LtE] [b] pos) (tbool (tbin (rCmpI fun i j => decide (i ≤ j)) ta tb)) := dt_cmp od_le ha hb hm
theorem dx_gt (ha : DE X a ta) (hb : DE X b tb) (hm : behindInMarks .Gt b = false) : DE X (.Compare a [.Gt] [b] pos) (tbin (rCmpI fun i j => decide (j < i)) ta tb) := de_cmp od_gt ha hb hm
theorem dtx_gt (ha : DE X a ta) (hb : DE X b tb) (hm : behindInMarks .Gt b = false) : DT X (.Compare a [.Gt] [b] pos) (tbool (tbin (rCmpI fun i j => decide (j < i)) ta tb)) := dt_cmp od_gt ha hb hm
theorem dx_ge (ha : DE X a ta) (hb : DE X b tb) (hm : behindInMarks .GtE b = false) : DE X (.Compare a [.GtE] [b] pos) (tbin (rCmpI fun i j => decide (j ≤ i)) ta tb) := de_cmp od_ge ha hb hm
theorem dtx_ge (ha : DE X a ta) (hb : DE X b tb) (hm : behindInMarks .GtE b = false) : DT X (.Compare a [.GtE] [b] pos) (tbool (tbin (rCmpI fun i j => decide (j ≤ i)) ta tb)) := dt_cmp od_ge ha hb hm
theorem dtx_in (ha : DE X a ta) (hb : DE X b tb) (hm : behindInMarks .In b = false) : DT X (.Compare a [.In] [b] pos) (tbool (tbin (rInD false) ta tb)) := dt_cmp od_in ha hb hm
theorem dx_is (ha : DE X a ta) (hb : DE X b tb) (hm : behindInMarks .Is b = false) : DE X (.Compare a [.Is] [b] pos) (tbin (rIsD false) ta tb) := de_cmp od_is ha hb hm
theorem dtx_is (ha : DE X a ta) (hb : DE X b tb) (hm : behindInMarks .Is b = false) : DT X (.Compare a [.Is] [b] pos) (tbool (tbin (rIsD false) ta tb)) := dt_cmp od_is ha hb hm
theorem dx_chain (ha : DE X a ta) (hb : DE X b tb) (hc : DE X c tc) (hm : lastMarks [.LtE, .Lt] [b, c] = false) : DE X (.Compare a [.LtE, .Lt] [b, c] pos) (tchain (fun i j => decide (i ≤ j)) (fun i j => decide (i < j)) ta tb tc) := de_chain op_le op_lt ha hb hc hm
theorem dtx_chain (ha : DE X a ta) (hb : DE X b tb) (hc : DE X c tc) (hm : lastMarks [.LtE, .Lt] [b, c] = false) : DT X (.Compare a [.LtE, .Lt] [b, c] pos) (tbool (tchain (fun i j => decide (i ≤ j)) (fun i j => decide (i < j)) ta tb tc)) := dt_chain op_le op_lt ha hb hc hm
theorem dx_len {e : Expr} {es : List Expr} {t : TAD} {p : Pos} (hm : X.mg "len" = none) (ha : DA X (e :: es) t) (hg : Gl X "len") (he : starEach (e :: es) X.env = (false, eval e X.env) :: starEach es X.env) (hpl : (backTo pos (starEach es X.env)).any (·.1) = false) : DE X (.Call (.Name "len" p) (e :: es) [] pos) (tcall rLen t) := de_callB cd_len hm PySem.boot_len ha hg (by decide) (by decide) he hpl
theorem dx_isinst {e : Expr} {es : List Expr} {t : TAD} {p : Pos} (hm : X.mg "isinstance" = none) (ha : DA X (e :: es) t) (hg : Gl X "isinstance") (he : starEach (e :: es) X.env = (false, eval e X.env) :: starEach es X.env) (hpl : (backTo pos (starEach es X.env)).any (·.1) = false) : DE X (.Call (.Name "isinstance" p) (e :: es) [] pos) (tcall rIsInst t) := de_callB cd_isinst hm boot_isinstance ha hg (by decide) (by decide) he hpl
theorem dx_tuple {e : Expr} {es : List Expr} {t : TAD} {p : Pos} (hm : X.mg "tuple" = none) (ha : DA X (e :: es) t) (hg : Gl X "tuple") (he : starEach (e :: es) X.env = (false, eval e X.env) :: starEach es X.env) (hpl : (backTo pos (starEach es X.env)).any (·.1) = false) : DE X (.Call (.Name "tuple" p) (e :: es) [] pos) (tcall rTuple t) := de_callTy cd_tuple hm PyProof.Rows.boot_tuple ha hg (by decide) (by decide) he hpl
theorem dx_list {e : Expr} {es : List Expr} {t : TAD} {p : Pos} (hm : X.mg "list" = none) (ha : DA X (e :: es) t) (hg : Gl X "list") (he : starEach (e :: es) X.env = (false, eval e X.env) :: starEach es X.env) (hpl : (backTo pos (starEach es X.env)).any (·.1) = false) : DE X (.Call (.Name "list" p) (e :: es) [] pos) (tcall rList t) := de_callTy cd_list hm PyProof.Rows.boot_list ha hg (by decide) (by decide) he hpl
theorem dx_tyInt (hm : X.mg "int" = none) (hg : Gl X "int") : DE X (.Name "int" pos) (tcon (.ty "int")) := de_ty hm PyProof.Rows.boot_int hg
theorem dx_tyBool (hm : X.mg "bool" = none) (hg : Gl X "bool") : DE X (.Name "bool" pos) (tcon (.ty "bool")) := de_ty hm PyProof.Rows.boot_bool hg
theorem dx_tyStr (hm : X.mg "str" = none) (hg : Gl X "str") : DE X (.Name "str" pos) (tcon (.ty "str")) := de_ty hm PyProof.Rows.boot_str hg
theorem dx_tyTuple (hm : X.mg "tuple" = none) (hg : Gl X "tuple") : DE X (.Name "tuple" pos) (tcon (.ty "tuple")) := de_ty hm PyProof.Rows.boot_tuple hg
end
noncomputable def scCheck (so : Scope) (N : List Str) (caps : List (Nat × Str)) (sc : Scope) : Bool :=
  decide (sc.kind = .function) && (sc.names.all fun y => decide (y.2 ≠ .cell)) && (sc.names.all fun y => decide (y.2 = .local → sc.names.lookup y.1 = some .local)) && (sc.names.all fun y => decide (y.2 = .free → so.names.lookup y.1 = some .cell)) &&
    (caps.all fun p => decide (N[p.1]? = some p.2 ∧ so.names.lookup p.2 = some .cell ∧ sc.names.lookup p.2 = some .free))
theorem sc_of {so : Scope} {N : List Str} {caps : List (Nat × Str)} {sc : Scope} (h : scCheck so N caps sc = true) : CompScope so N caps sc := by
  unfold scCheck at h
  simp only [Bool.and_eq_true] at h
  obtain ⟨⟨⟨⟨h1, h2⟩, h3⟩, h4⟩, h5⟩ := h
  exact ⟨of_decide_eq_true h1, fun y hy => of_decide_eq_true (List.all_eq_true.mp h2 y hy), fun y hy => of_decide_eq_true (List.all_eq_true.mp h3 y hy), fun y hy => of_decide_eq_true (List.all_eq_true.mp h4 y hy), fun y hy => of_decide_eq_true (List.all_eq_true.mp h5 y hy)⟩
theorem sc_hint {so : Scope} {N : List Str} {caps : List (Nat × Str)} {sc : Scope} (_ : Hint caps) (h : scCheck so N caps sc = true) : CompScope so N caps sc := sc_of h
noncomputable def spLaw : RDL := fun ds st P => ∃ ns : List Int, ds = [.lst 0] ∧ st = [.ro (ns.map .int)] ∧ ns.length ≤ 63 ∧ ∀ st', P (.bl true) st'
theorem DL.ints {K : PySem.W.Frag} {φ : Nat → Addr} {N : Nat} {H : Hp} : ∀ ns : List Int, DL K φ N H (ns.map .int) (ns.map V.int)
  | [] => .nil
  | n :: ns => .cons D.mkInt (DL.ints ns)
theorem law_walk {l : PySem.W.OpenLaw} {q : Program} {loose : List Str} {XP : (Str → Option Value) → Heap → Prop} {YP : World → Heap → Prop} {d : DefRec} {K : Params → PySem.W.Frag} (k : Nat) (hn : l.most = some 63) (hdf : d.params.defaults = []) (hr : Room k callerA)
    (hY : ∀ (w : World) (h : Heap), YP w h → (K w.params).In h)
    (F : ∀ (w : World) (mg : Str → Option Value) (fa : Addr) (h : Heap), (K w.params).In h → h.Ns mainGlobals mg → mg d.name = some (.ref fa) →
      ∃ fd : FuncData, (∀ (s : Shared) (u : Value), BindsTo s fd ⟨[u], []⟩ [("script", u)]) ∧ ∀ base : Heap, (K w.params).In base → base.Ns mainGlobals mg → FnOk l.prog w (K w.params) mg base CX0 k fa fd ["script"] (liftSp (K w.params) spLaw)) :
    PySem.W.WalkO q loose XP YP l.row.toRowW d [] (fun f vs => PySem.call f vs) := by
  refine L2.walk_of (n := 63) (k := k) (x := "script") (CX := fun _ => CX0) (sp := fun w => liftSp (K w.params) spLaw) hn (by decide) hdf hr hY F (fun w H a ns hl hO hS => ?_) fun _ _ _ _ _ z => z
  refine ⟨fun _ => a, [.ro (ns.map .int)], [.lst 0], fun d st' => d = .bl true, ⟨fun i j xs ys e => ?_, fun i xs e => ?_, fun i xs e => ?_⟩, .cons (by simp [D]) .nil, ⟨ns, rfl, rfl, hl, fun _ => rfl⟩, fun d st' hd φ' H' u b du => by rw [hd] at du; exact du.bl⟩
  · cases i with
    | zero => simp at e
    | succ i => simp at e
  · cases i with
    | zero =>
      simp at e
      subst e
      refine ⟨ns.map V.int, ?_, DL.ints ns⟩
      rcases hS with (h | h) | h
      · rcases hO a with z | ⟨o, xs, z⟩
        · rw [h] at z; cases z
        · rw [h] at z; cases z
      · exact .inl h
      · exact .inr h
    | succ i => simp at e
  · cases i with
    | zero => simp at e
    | succ i => simp at e
end L3
namespace L3
open PySem PySem.Spec PyProof.Rows L2
noncomputable def enumD : Nat → List Dt → List Dt
  | _, [] => []
  | n, d :: ds => .tup [.int (n : Nat), d] :: enumD (n + 1) ds
noncomputable def ienum (te : TD) : TID := fun ρ st P => te ρ st fun x st1 => match x with
  | .lst n => (match st1[n]? with
    | some o => P (enumD 0 o.items) (fun st' => (st'[n]?).map SO.items = some o.items) st1
    | none => False)
  | _ => False
section
variable {X : Cx} {a : Expr} {elts : List Expr} {x1 : Nat} {tpos pos p : Pos} {te : TD}
structure ConT (K : PySem.W.Frag) (mg : Str → Option Value) (x : Str) (ds : List Dt) : Prop where
  ex : ∃ a o vs its n, mg x = some (.ref a) ∧ K.lookup a = some o ∧ o.cls = .type "tuple" ∧ o.dict = none ∧ o.data = .seq its n ∧ its.size ≤ sizeLine ∧ Vals vs its.toList ∧ ∀ φ N H, DL K φ N H ds vs
theorem ConT.con {K : PySem.W.Frag} {mg : Str → Option Value} {x : Str} {ds : List Dt} (h : ConT K mg x ds) : ConOk K mg x (.tup ds) := by
  obtain ⟨a, o, vs, its, n, h1, h2, h3, h4, h5, h6, h7, h8⟩ := h.ex
  exact ⟨.ref a, _, h1, rfl, fun φ N H => .mkTup (.inr ⟨o, its, n, h2, h3, h5, h6, h7⟩) (h8 φ N H)⟩
noncomputable def tindex (ds : List Dt) (te : TD) : TD := fun ρ st P => te ρ st fun y st1 => okD 0 y = true ∧ ds.all (okD 0) = true ∧ (match ds.findIdx? (fun z => eqD 0 z y) with
  | some j => P (.int (j : Nat)) st1
  | none => False)
end
noncomputable def strsAre : List Value → List Str → Bool
  | [], [] => true
  | .str x _ :: us, s :: ss => x == s && strsAre us ss
  | _, _ => false
theorem vals_strs : ∀ {us : List Value} {ss : List Str}, strsAre us ss = true → Vals (ss.map V.str) us
  | [], [], _ => .nil
  | [], _ :: _, h => by simp [strsAre] at h
  | u :: us, [], h => by cases u <;> simp [strsAre] at h
  | u :: us, s :: ss, h => by
    cases u with
    | str x t =>
      rw [strsAre, Bool.and_eq_true] at h
      have e : x = s := eq_of_beq h.1
      subst e
      exact .cons ⟨t, rfl⟩ (vals_strs h.2)
    | _ => simp [strsAre] at h
theorem DL.strs {K : PySem.W.Frag} {φ : Nat → Addr} {N : Nat} {H : Hp} : ∀ ss : List Str, DL K φ N H (ss.map .str) (ss.map V.str)
  | [] => .nil
  | n :: ns => .cons D.mkStr (DL.strs ns)
theorem conT_strs {K : PySem.W.Frag} {mg : Str → Option Value} {x : Str} {a : Addr} {its : Array Value} {n : Nat} {sl : Array (Option Value)} {ss : List Str} (hm : mg x = some (.ref a)) (l : K.lookup a = some ⟨.type "tuple", none, .seq its n, sl⟩) (v : strsAre its.toList ss = true) (sz : its.size ≤ sizeLine) :
    ConT K mg x (ss.map .str) := ⟨a, _, ss.map V.str, its, n, hm, l, rfl, rfl, rfl, sz, vals_strs v, fun _ _ _ => DL.strs ss⟩
theorem con_int {K : PySem.W.Frag} {mg : Str → Option Value} {x : Str} {i : Int} {t : Tok} (hm : mg x = some (.int i t)) : ConOk K mg x (.int i) := ⟨.int i, _, hm, ⟨t, rfl⟩, fun _ _ _ => D.mkInt⟩
noncomputable def rIntB : RDL := fun ds st P => match ds with
  | [x] => (match x with
    | .bl k => P (.int (if k then 1 else 0)) st
    | .int i => P (.int i) st
    | _ => False)
  | _ => False
theorem cd_int {X : Cx} : CallD X (.type "int") rIntB := by
  intro pins s σ H vs us Q I rv h
  obtain ⟨φ, st, ds, P, R, dl, hr, hq⟩ := h
  rcases ds with _ | ⟨x, _ | ⟨y, r⟩⟩
  · exact hr.elim
  rotate_left
  · exact hr.elim
  · obtain ⟨v, rfl, dx⟩ := dl.one
    cases x with
    | bl k => exact call_int1 pins s σ H [v] us Q I rv (.inr ⟨k, by rw [dx.bl], Go.here hq R hr D.mkInt⟩)
    | int k => exact call_int1 pins s σ H [v] us Q I rv (.inl ⟨k, by rw [dx.int], Go.here hq R hr D.mkInt⟩)
    | _ => exact hr.elim
theorem dx_int {X : Cx} {pos : Pos} {e : Expr} {es : List Expr} {t : TAD} {p : Pos} (hm : X.mg "int" = none) (ha : DA X (e :: es) t) (hg : Gl X "int") (he : starEach (e :: es) X.env = (false, eval e X.env) :: starEach es X.env) (hpl : (backTo pos (starEach es X.env)).any (·.1) = false) : DE X (.Call (.Name "int" p) (e :: es) [] pos) (tcall rIntB t) := de_callTy cd_int hm PyProof.Rows.boot_int ha hg (by decide) (by decide) he hpl
structure Hint2 (caps : List (Nat × Str)) : Prop where
  ok : True
theorem sc_hint2 {so : Scope} {N : List Str} {caps : List (Nat × Str)} {sc : Scope} (_ : Hint2 caps) (h : scCheck so N caps sc = true) : CompScope so N caps sc := sc_of h
theorem get_app {st : Sto} {i : Nat} {o x : SO} (h : st[i]? = some o) : (st ++ [x])[i]? = some o := by
  rw [List.getElem?_append_left (lt_of_get h)]; exact h
theorem get_set_ne {st : Sto} {i j : Nat} {o x : SO} (h : st[i]? = some o) (hne : j ≠ i) : (st.set j x)[i]? = some o := by
  rw [List.getElem?_set_ne hne]; exact h
theorem get_set_self {st : Sto} {i : Nat} {o x : SO} (h : st[i]? = some o) : (st.set i x)[i]? = some x := by
  rw [List.getElem?_set_self (lt_of_get h)]
theorem get_new {st : Sto} {x : SO} : (st ++ [x])[st.length]? = some x := by simp
noncomputable def ExtS (st st' : Sto) : Prop := ∀ (i : Nat) o, st[i]? = some o → st'[i]? = some o
theorem ExtS.refl (st : Sto) : ExtS st st := fun _ _ h => h
theorem ExtS.trans {a b c : Sto} (h : ExtS a b) (h' : ExtS b c) : ExtS a c := fun i o q => h' i o (h i o q)
theorem ExtS.app (st : Sto) (x : SO) : ExtS st (st ++ [x]) := fun _ _ h => get_app h
noncomputable abbrev Ed (Pd : VD) : EndsD := { nx := fun _ st' => Pd .non st', rt := Pd }
theorem cmul_r {i j : Int} (h1 : 0 ≤ j) (h2 : j < 4294967296) : CMul i j := .inr ⟨by omega, by omega⟩
theorem cmul_l {i j : Int} (h1 : 0 ≤ i) (h2 : i < 4294967296) : CMul i j := .inl ⟨by omega, by omega⟩
theorem small {n : Nat} (h : n < 1000) : n < sizeLine := Nat.lt_trans h (by decide)
theorem cdiv {i j : Int} (h1 : 0 < j) (h2 : j < 1073741824) : CDiv i j := ⟨h1, h2⟩
theorem cut_len (ns : List Int) (k : Int) : (L3.cutD (ns.map Dt.int) none (some k)).length ≤ ns.length := by
  unfold L3.cutD
  rw [List.length_take, List.length_drop, List.length_map]
  omega
end L3
namespace L3
open PySem PySem.Spec PyProof.Rows L2
theorem hu1 {k : Nat} {A : Around} (r : Room k A) : A.units + 1 < cLine := by have := r.units; omega
noncomputable def rMin2 : RDL := fun ds st P => match ds with
  | [.int i, .int j] => P (.int (if j < i then j else i)) st
  | _ => False
theorem two_of {X : Cx} {φ : Nat → Addr} {N : Nat} {H : Hp} {i j : Int} {vs : List V} (dl : DL X.K φ N H [.int i, .int j] vs) : vs = [.int i, .int j] := by
  obtain ⟨v, ws, rfl, d1, d2⟩ := dl
  obtain ⟨w, us, rfl, e1, e2⟩ := d2
  rw [d1.int, e1.int, show us = [] from e2]
section
variable {X : Cx}
theorem cd_min (hc : X.calm = true) : CallD X (.builtin "min") rMin2 := by
  intro pins s σ H vs us Q I rv h
  obtain ⟨φ, st, ds, P, R, dl, hr, hq⟩ := h
  unfold rMin2 at hr
  split at hr
  · rename_i i j
    exact call_min2 hc pins s σ H vs us Q I rv ⟨i, j, two_of (X := X) dl, Go.here hq R hr D.mkInt⟩
  · exact hr.elim
variable {pos : Pos}
theorem dx_min {e : Expr} {es : List Expr} {t : TAD} {p : Pos} (hc : X.calm = true) (hm : X.mg "min" = none) (ha : DA X (e :: es) t) (hg : Gl X "min") (he : starEach (e :: es) X.env = (false, eval e X.env) :: starEach es X.env) (hpl : (backTo pos (starEach es X.env)).any (·.1) = false) : DE X (.Call (.Name "min" p) (e :: es) [] pos) (tcall rMin2 t) := de_callB (cd_min hc) hm PyProof.Rows.boot_min ha hg (by decide) (by decide) he hpl
end
noncomputable def tvs : List (Int × TD) → TAD
  | [] => tanil
  | q :: r => tacons q.2 (tvs r)
noncomputable def lookI : List Int → List Dt → Int → Option Dt
  | k :: ks, d :: ds, x => if k = x then some d else lookI ks ds x
  | _, _, _ => none
noncomputable def tdispI (kts : List (Int × TD)) (i : Nat) : TD := fun ρ st P => tvs kts ρ st fun ds st1 => match ρ[i]? with
  | some (some (.int x)) => (match lookI (kts.map (·.1)) ds x with
    | some d => P d st1
    | none => False)
  | _ => False
noncomputable def DPs (X : Cx) (pos : Pos) (keys : List (Option Expr)) (values : List Expr) (kts : List (Int × TD)) : Prop := PPs X pos keys values (kts.map fun q => (tC (.int q.1), liftE X.K q.2))
section
variable {X : Cx} {pos pos' p : Pos}
theorem dps_nil : DPs X pos [] [] [] := pps_nil
theorem dps_cons {k : Int} {j : Nat} {v : Expr} {t : TD} {ks : List (Option Expr)} {vs : List Expr} {kts : List (Int × TD)} (hv : DE X v t) (hr : DPs X pos ks vs kts) : DPs X pos (some (.Constant (.int k) j p) :: ks) (v :: vs) ((k, t) :: kts) := pps_cons pe_int hv hr
noncomputable def zipV : List Int → List V → List (Key × V)
  | k :: ks, v :: vs => (.inl k, v) :: zipV ks vs
  | _, _ => []
theorem zip_len : ∀ {ks : List Int} {vs : List V}, (zipV ks vs).length ≤ ks.length
  | [], _ => by simp [zipV]
  | k :: ks, [] => by simp [zipV]
  | k :: ks, v :: vs => by have := zip_len (ks := ks) (vs := vs); simp [zipV]; exact this
theorem pairs_lift {K : PySem.W.Frag} : ∀ {kts : List (Int × TD)} {σ : L2.St} {H : Hp} {φ : Nat → Addr} {st : Sto} {ρ : Rho} {P : List Dt → Sto → Prop} {Q : List (V × V) → Hp → Prop}, Pre K φ st H ρ σ → tvs kts ρ st P →
    (∀ ds st', P ds st' → ∀ φ' H' vs, Bhd K φ st H φ' st' H' → DL K φ' st'.length H' ds vs → ds.length = kts.length → Q ((zipV (kts.map (·.1)) vs).map fun kv => (kV kv.1, kv.2)) H') → tPairs (kts.map fun q => (tC (.int q.1), liftE K q.2)) σ H Q
  | [], σ, H, φ, st, ρ, P, Q, pre, ht, hq => hq [] st ht φ H [] (.refl pre.1) .nil rfl
  | q :: r, σ, H, φ, st, ρ, P, Q, pre, ht, hq => by
    refine ⟨φ, st, ρ, _, pre, ht, fun x st1 h1 φ1 H1 v b1 dx => ?_⟩
    refine pairs_lift (kts := r) (pre.on b1) h1 fun ds st2 h2 φ2 H2 vs b2 dl hl => ?_
    exact hq _ st2 h2 φ2 H2 (v :: vs) (b1.trans b2) (.cons (dx.evo b2.2) dl) (by simp [hl])
theorem merge_new : ∀ {more acc : List (Key × V)}, (∀ kv ∈ more, valV acc kv.1 = none) → (more.map (·.1)).Nodup → mergeK acc more = acc ++ more
  | [], acc, _, _ => by simp [mergeK]
  | p :: r, acc, h, nd => by
    have e : putK acc p.1 p.2 = acc ++ [p] := putK_new p.2 (h p (by simp))
    have nd' : p.1 ∉ r.map (·.1) ∧ (r.map (·.1)).Nodup := List.nodup_cons.mp nd
    have := merge_new (more := r) (acc := acc ++ [p]) (fun kv hk => ?_) nd'.2
    · show mergeK (putK acc p.1 p.2) r = _
      rw [e, this, List.append_assoc]
      rfl
    · have h1 := h kv (by simp [hk])
      have hne : ¬ p.1 = kv.1 := fun z => nd'.1 (by rw [z]; exact List.mem_map.mpr ⟨kv, hk, rfl⟩)
      unfold valV at h1 ⊢
      rw [Option.map_eq_none_iff] at h1 ⊢
      rw [List.find?_append, h1]
      simp [hne]
theorem zip_nodup : ∀ {ks : List Int} {vs : List V}, ks.Nodup → ((zipV ks vs).map (·.1)).Nodup ∧ ∀ k ∈ (zipV ks vs).map (·.1), ∃ i ∈ ks, k = .inl i
  | [], _, _ => by simp [zipV]
  | k :: ks, [], _ => by simp [zipV]
  | k :: ks, v :: vs, nd => by
    obtain ⟨h1, h2⟩ := List.nodup_cons.mp nd
    obtain ⟨i1, i2⟩ := zip_nodup (ks := ks) (vs := vs) h2
    refine ⟨List.nodup_cons.mpr ⟨fun z => ?_, i1⟩, fun x hx => ?_⟩
    · obtain ⟨i, hi, e⟩ := i2 _ z
      cases e
      exact h1 hi
    · rcases List.mem_cons.mp hx with e | e
      · exact ⟨k, by simp, e⟩
      · obtain ⟨i, hi, e⟩ := i2 x e
        exact ⟨i, by simp [hi], e⟩
theorem look_val {K : PySem.W.Frag} {φ : Nat → Addr} {N : Nat} {H : Hp} : ∀ {ks : List Int} {ds : List Dt} {vs : List V} {x : Int} {d : Dt}, lookI ks ds x = some d → DL K φ N H ds vs → ∃ v, valV (zipV ks vs) (.inl x) = some v ∧ D K φ N H d v
  | [], _, _, _, _, h, _ => by simp [lookI] at h
  | k :: ks, [], _, _, _, h, _ => by simp [lookI] at h
  | k :: ks, d0 :: ds, vs, x, d, h, dl => by
    obtain ⟨v, ws, rfl, d1, d2⟩ := dl
    unfold lookI at h
    by_cases e : k = x
    · rw [if_pos e] at h
      cases h
      exact ⟨v, valV_pos (by rw [e]), d1⟩
    · rw [if_neg e] at h
      obtain ⟨u, hu, du⟩ := look_val h d2
      exact ⟨u, by show valV ((Sum.inl k, v) :: zipV ks ws) _ = _; rw [valV_neg (fun z => e (Sum.inl.inj z))]; exact hu, du⟩
mutual
theorem D_mono {K : PySem.W.Frag} {φ : Nat → Addr} {N : Nat} {H H' : Hp} (tp : ∀ c vs, SqT K H c vs → SqT K H' c vs) : ∀ {d : Dt} {v : V}, D K φ N H d v → D K φ N H' d v
  | .non, _, h => by simpa [D] using h
  | .bl _, _, h => by simpa [D] using h
  | .int _, _, h => by simpa [D] using h
  | .str _, _, h => by simpa [D] using h
  | .ty _, _, h => by simpa [D] using h
  | .tup ds, v, h => by
    simp only [D] at h ⊢
    obtain ⟨a, vs, h1, h2, h3⟩ := h
    exact ⟨a, vs, h1, tp a vs h2, DL_mono tp h3⟩
  | .lst n, v, h => by
    simp only [D] at h ⊢
    exact h
theorem DL_mono {K : PySem.W.Frag} {φ : Nat → Addr} {N : Nat} {H H' : Hp} (tp : ∀ c vs, SqT K H c vs → SqT K H' c vs) : ∀ {ds : List Dt} {vs : List V}, DL K φ N H ds vs → DL K φ N H' ds vs
  | [], vs, h => by simpa [DL] using h
  | d :: ds, vs, h => by
    simp only [DL] at h ⊢
    obtain ⟨v, r, h1, h2, h3⟩ := h
    exact ⟨v, r, h1, D_mono tp h2, DL_mono tp h3⟩
end
theorem sqT_updE {K : PySem.W.Frag} {H : Hp} {a c : Addr} {vs : List V} {o : HO} (h : SqT K H c vs) (e1 : H a = some (.dK [])) : SqT K (upd H a o) c vs := by
  have ne : ∀ {c : Addr} {z : HO}, H c = some z → z ≠ .dK [] → c ≠ a := fun {c z} h hz e => by
    subst e
    rw [e1] at h
    exact hz (Option.some.inj h).symm
  rcases h with (h | ⟨ob, h⟩) | h
  · exact .inl (.inl (by rw [upd_ne (ne h (by intro z; cases z))]; exact h))
  · exact .inl (.inr ⟨ob, by rw [upd_ne (ne h (by intro z; cases z))]; exact h⟩)
  · exact .inr h
theorem bhd_fill {K : PySem.W.Frag} {φ φ1 : Nat → Addr} {st st1 : Sto} {H H1 : Hp} {a : Addr} {o : HO} (hp : H a = none) (b : Bhd K φ st (upd H a (.dK [])) φ1 st1 H1) : Bhd K φ st H φ1 st1 (upd H1 a o) := by
  have e1 : H1 a = some (.dK []) := b.2.emp a upd_same
  have ne : ∀ {c : Addr} {z : HO}, H1 c = some z → z ≠ .dK [] → c ≠ a := fun {c z} h hz e => by
    subst e
    rw [e1] at h
    exact hz (Option.some.inj h).symm
  have tp : ∀ c vs, SqT K H1 c vs → SqT K (upd H1 a o) c vs := fun c vs h => by
    rcases h with (h | ⟨ob, h⟩) | h
    · exact .inl (.inl (by rw [upd_ne (ne h (by intro z; cases z))]; exact h))
    · exact .inl (.inr ⟨ob, by rw [upd_ne (ne h (by intro z; cases z))]; exact h⟩)
    · exact .inr h
  have dle : ∀ {ds : List Dt} {vs : List V}, DL K φ1 st1.length H1 ds vs → DL K φ1 st1.length (upd H1 a o) ds vs := fun {ds vs} h => DL_mono tp h
  refine ⟨⟨b.1.inj, fun i xs e => ?_, fun i xs e => ?_⟩, ?_⟩
  · obtain ⟨vs, h1, h2⟩ := b.1.ro i xs e
    refine ⟨vs, ?_, dle h2⟩
    rcases h1 with ⟨ob, h⟩ | h
    · exact .inl ⟨ob, by rw [upd_ne (ne h (by intro z; cases z))]; exact h⟩
    · exact .inr h
  · obtain ⟨vs, h1, h2⟩ := b.1.rw i xs e
    exact ⟨vs, by rw [upd_ne (ne h1 (by intro z; cases z))]; exact h1, dle h2⟩
  · refine ⟨b.2.le, b.2.ext, fun c vs h => tp c vs (b.2.tup c vs (sqT_upd h hp)), fun c h => ?_⟩
    have hc : c ≠ a := ne_of_none h hp
    rw [upd_ne hc]
    exact b.2.emp c (by rw [upd_ne hc]; exact h)
theorem de_dispI {keys : List (Option Expr)} {values : List Expr} {kts : List (Int × TD)} {i : Nat} {x : Str} (h : DPs X pos keys values kts) (hu : X.A.units + 1 < cLine) (hall : keys.all (·.isSome) = true) (hl : keys.length = values.length) (h0 : keys ≠ []) (h15 : keys.length ≤ 15) (hk : kts.length ≤ 15)
    (nd : (kts.map (·.1)).Nodup) (hN : X.N[i]? = some x) (hv : Vis X.env.scope x) (hd : (x == ("__debug__" : Str)) = false) (hcd : (x == ("__classdict__" : Str)) = false) (hs : NoSl (.Name x p)) : DE X (.Subscript (.Dict keys values pos) (.Name x p) pos') (tdispI kts i) := by
  refine PE.imp (pe_dget hu (pe_disp h hall hl h0 h15) (pe_var hN hv hd hcd) hs) fun σ H Q hh => ?_
  obtain ⟨φ, st, ρ, P, pre, ht, hq⟩ := hh
  intro a hp
  refine pairs_lift (pre.on (bhd_tup pre.1 hp)) ht fun ds st1 h1 φ1 H1 vs b1 dl hlen => ?_
  refine ⟨b1.2.emp a upd_same, zipV (kts.map (·.1)) vs, rfl, Nat.le_trans zip_len (by rw [List.length_map]; exact hk), ?_⟩
  split at h1
  · rename_i y ey
    split at h1
    · rename_i d ed
      obtain ⟨v, hv1, dv⟩ := look_val ed dl
      obtain ⟨w, ew, dw⟩ := pre.2.2 i _ ey
      have bf := bhd_fill (o := .dK (zipV (kts.map (·.1)) vs)) hp b1
      have em : mergeK [] (zipV (kts.map (·.1)) vs) = zipV (kts.map (·.1)) vs := by
        rw [merge_new (fun kv _ => valV_nil) (zip_nodup nd).1, List.nil_append]
      rw [em]
      have e1 : H1 a = some (.dK []) := b1.2.emp a upd_same
      have tp : ∀ c us, SqT X.K H1 c us → SqT X.K (upd H1 a (.dK (zipV (kts.map (·.1)) vs))) c us := fun c us hc => sqT_updE hc e1
      refine ⟨w, ew, a, v, rfl, ?_, hq d st1 h1 φ1 _ v bf (D_mono tp dv)⟩
      have ewi : w = kV (.inl y) := dw.int
      rw [ewi, ← hv1]
      exact DGet.k upd_same
    · exact h1.elim
  · exact h1.elim
end
end L3
namespace L3
open PySem PySem.Spec PyProof.Rows L2
end L3
namespace L3
open PySem PySem.Spec PyProof.Rows L2
section
variable {X : Cx} {a b c : Expr} {ta tb tc : TD} {pos : Pos}
noncomputable def tneg (ta : TD) : TD := fun ρ st P => ta ρ st fun d st1 => match d with
  | .int i => P (.int (-i)) st1
  | _ => False
theorem de_neg (ha : DE X a ta) : DE X (.UnaryOp .USub a pos) (tneg ta) := (pe_un un_neg ha).imp fun σ H Q h => by
  obtain ⟨φ, st, ρ, P, pre, ht, hq⟩ := h
  refine ⟨φ, st, ρ, _, pre, ht, fun d st1 h1 φ1 H1 v b1 dx => ?_⟩
  cases d with
  | int i => exact ⟨i, dx.int, hq _ st1 h1 φ1 H1 _ b1 D.mkInt⟩
  | _ => exact h1.elim
noncomputable def tbreak : TSD := fun E ρ st => E.bk ρ st
theorem ds_break : DS X (.Break pos) tbreak := (ps_break).imp fun E σ H h => by
  obtain ⟨φ, st, ρ, P, pre, ht, n, b, c, r⟩ := h
  exact b ρ st ht φ H σ (.refl pre.1) pre.2
noncomputable def twhile (tc : TBD) (tb : TSD) : TSD := fun E ρ st => ∃ W : Nat → Rho → Sto → Prop, (∃ m, W m ρ st) ∧ ∀ m ρ st, W m ρ st →
  tc ρ st fun k st1 => if k = true then tb { E with nx := fun ρ' st' => ∃ m', m' < m ∧ W m' ρ' st', ct := fun ρ' st' => ∃ m', m' < m ∧ W m' ρ' st', bk := E.nx } ρ st1 else E.nx ρ st1
theorem ds_while {c : Expr} {body : List Stmt} {tc : TBD} {tb : TSD} (hp : PassesOwn (model X.prog X.w) X.A X.env X.xe) (hc : DT X c tc) (hb : DSs X body tb) : DS X (.While c body [] pos) (twhile tc tb) :=
  (ps_while hp hc hb).imp fun E σ H h => by
    obtain ⟨φ, st, ρ, P, pre, ⟨W, ⟨m0, w0⟩, turn⟩, n, b, c, r⟩ := h
    refine ⟨fun m σ1 H1 => ∃ φ1 st1 ρ1, Pre X.K φ1 st1 H1 ρ1 σ1 ∧ Bhd X.K φ st H φ1 st1 H1 ∧ W m ρ1 st1, ⟨m0, φ, st, ρ, pre, .refl pre.1, w0⟩, ?_⟩
    rintro m σ1 H1 ⟨φ1, st1, ρ1, pre1, b1, w1⟩
    refine ⟨φ1, st1, ρ1, _, pre1, turn m ρ1 st1 w1, fun k st2 h2 φ2 H2 b2 => ?_⟩
    cases k with
    | true =>
      rw [if_pos rfl] at h2
      rw [if_pos rfl]
      have b12 := b1.trans b2
      refine ⟨fun σ3 H3 => ∃ m', m' < m ∧ ∃ φ3 st3 ρ3, Pre X.K φ3 st3 H3 ρ3 σ3 ∧ Bhd X.K φ st H φ3 st3 H3 ∧ W m' ρ3 st3, fun σ3 H3 h3 => h3, ?_⟩
      refine ⟨φ2, st2, ρ1, _, pre1.on b2, h2, fun ρ4 st4 ⟨m', hm, h4⟩ φ4 H4 σ4 b4 d4 => ⟨m', hm, φ4, st4, ρ4, ⟨b4.1, d4⟩, b12.trans b4, h4⟩, fun ρ4 st4 h4 φ4 H4 σ4 b4 d4 => n ρ4 st4 h4 φ4 H4 σ4 (b12.trans b4) d4,
        fun ρ4 st4 ⟨m', hm, h4⟩ φ4 H4 σ4 b4 d4 => ⟨m', hm, φ4, st4, ρ4, ⟨b4.1, d4⟩, b12.trans b4, h4⟩, fun d st4 h4 φ4 H4 v b4 d4 => r d st4 h4 φ4 H4 v (b12.trans b4) d4⟩
    | false =>
      rw [if_neg Bool.false_ne_true] at h2
      rw [if_neg Bool.false_ne_true]
      exact n ρ1 st2 h2 φ2 H2 σ1 (b1.trans b2) (pre1.on b2).2
noncomputable def irng2 (ta tb : TD) : TID := fun ρ st P => ta ρ st fun x st1 => tb ρ st1 fun y st2 => match x, y with
  | .int i, .int j => (-(2 ^ 62) ≤ i ∧ i < 2 ^ 62 ∧ -(2 ^ 62) ≤ j ∧ j < 2 ^ 62) ∧ P (rangeD i (j - i).toNat) (fun _ => True) st2
  | _, _ => False
end
structure DefOkD (P : Program) (w : World) (K : PySem.W.Frag) (mg : Str → Option Value) (base : Heap) (x : Str) (k n : Nat) (sp : RDL) (dd : Dt) : Prop where
  ex : ∃ f fd ps, FnOk P w K mg base CX0 k f fd ps (liftSp K sp) ∧ mg x = some (.ref f) ∧ PySem.W.keepIn K (.ref f) = true ∧ Binds K fd ps [] ∧ ∃ u v, Binds K fd ps [u] ∧ RelV v u ∧ ∀ φ N H, D K φ N H dd v
section
variable {X : Cx} {e : Expr} {es : List Expr} {t : TAD} {pos p : Pos} {x : Str}
theorem de_callN {k n : Nat} {sp : RDL} {dd : Dt} (F : DefOkD X.prog X.w X.K X.mg X.base x k n sp dd) (hn : (e :: es).length = n) (hr : Room k X.A) (ha : DA X (e :: es) t) (hg : Gl X x) (hdb : (x == ("__debug__" : Str)) = false) (he : starEach (e :: es) X.env = (false, eval e X.env) :: starEach es X.env)
    (hpl : (backTo pos (starEach es X.env)).any (·.1) = false) : DE X (.Call (.Name x p) (e :: es) [] pos) (tcall sp t) := by
  obtain ⟨f, fd, ps, h1, h2, h3, h4, _⟩ := F.ex
  exact de_call h1 hr h2 h3 h4 ha hg hdb he hpl
theorem de_callD {k n : Nat} {sp : RDL} {dd : Dt} (F : DefOkD X.prog X.w X.K X.mg X.base x k n sp dd) (hn : (e :: es).length + 1 = n) (hr : Room k X.A) (ha : DA X (e :: es) t) (hg : Gl X x) (hdb : (x == ("__debug__" : Str)) = false) (he : starEach (e :: es) X.env = (false, eval e X.env) :: starEach es X.env)
    (hpl : (backTo pos (starEach es X.env)).any (·.1) = false) : DE X (.Call (.Name x p) (e :: es) [] pos) (tcall (fun ds st P => sp (ds ++ [dd]) st P) t) := by
  obtain ⟨f, fd, ps, h1, h2, h3, _, u, v, h4, ru, hd⟩ := F.ex
  refine PE.imp (pe_call h1 hr hg h2 h3 h4 (.cons ru .nil) pass0 ha hdb he hpl) fun σ H Q h => ?_
  have := call_lift h
  obtain ⟨φ, st, ρ, P, pre, ht, hq⟩ := this
  refine ⟨φ, st, ρ, P, pre, ht, fun ds st' hp φ' H' vs b d => ?_⟩
  obtain ⟨φ2, st2, ds2, P2, R2, dl2, hs2, hq2⟩ := hq ds st' hp φ' H' vs b d
  exact ⟨φ2, st2, ds2 ++ [dd], P2, R2, dl2.append (.cons (hd _ _ _) .nil), hs2, hq2⟩
end
end L3
namespace L3
open PySem PySem.Spec PyProof.Rows L2
open AutoSeq1 (wpAny_loadPart')
noncomputable def rSumI : RDL := fun ds st P => match ds with
  | [.lst n] => (match st[n]? with
    | some o => ∃ ns : List Int, o.items = ns.map .int ∧ P (.int ns.sum) st
    | none => False)
  | _ => False
theorem ints_are {K : PySem.W.Frag} {φ : Nat → Addr} {N : Nat} {H : Hp} : ∀ {ns : List Int} {ws : List V} {us : List Value}, DL K φ N H (ns.map .int) ws → Vals ws us → IntsAre us ns
  | [], ws, us, dl, rv => by
    have e : ws = [] := by simpa [DL] using dl
    subst e
    cases rv
    exact .nil
  | n :: ns, ws, us, dl, rv => by
    obtain ⟨v, r, rfl, h1, h2⟩ := dl
    cases rv with
    | @cons a u as us' h t =>
      have e : v = .int n := h1.int
      subst e
      obtain ⟨tk, rfl⟩ := h
      exact .cons n tk (ints_are h2 t)
section
variable {X : Cx}
theorem cd_sum (hc : X.calm = true) : CallD X (.builtin "sum") rSumI := by
  intro pins s σ H vs us Q I rv h
  obtain ⟨φ, st, ds, P, R, dl, hr, hq⟩ := h
  rcases ds with _ | ⟨x, _ | ⟨y, r⟩⟩
  · exact hr.elim
  rotate_left
  · cases x <;> exact hr.elim
  · obtain ⟨v, rfl, dx⟩ := dl.one
    obtain ⟨u, rfl, ru⟩ := vals1 rv
    cases x with
    | lst n =>
      have hr : (match st[n]? with
        | some o => ∃ ns : List Int, o.items = ns.map .int ∧ P (.int ns.sum) st
        | none => False) := hr
      split at hr
      · rename_i o eo
        obtain ⟨ns, eb, hp⟩ := hr
        obtain ⟨ws, hs1, dws⟩ := R.seq eo
        rw [eb] at dws
        have ev := dx.lst.2
        subst ev
        cases ru
        obtain ⟨its, rvs, pl, hz⟩ := I.list hs1
        have hi : IntsAre its ns := ints_are dws rvs
        have hl : s.heap.IsList (φ n) its.toArray := pl.isList
        obtain ⟨xs, hx⟩ := hi.allInts.items
        have hl' : s.heap.IsList (φ n) (intItems xs) := hx ▸ hl
        refine sum_intListG (I.ok.hd hc) hl' fun h' tk t' hk => ?_
        have e1 : ns = xs.toList.map (·.1) := by
          rw [← nums_intItems, ← hx]
          exact (show numsOf its.toArray.toList = ns from hi.numsOf).symm
        have e2 : preSum (numAt xs) xs.size = ns.sum := by
          rw [preSum_eq, List.take_of_length_le (by simp), e1]
        rw [e2]
        exact ⟨.int ns.sum, H, I.kept (t' := tk) hk, ⟨_, rfl⟩, Go.here hq R hp D.mkInt⟩
      · exact hr.elim
    | _ => exact hr.elim
theorem dx_sum {pos : Pos} {e : Expr} {es : List Expr} {t : TAD} {p : Pos} (hc : X.calm = true) (hm : X.mg "sum" = none) (ha : DA X (e :: es) t) (hg : Gl X "sum") (he : starEach (e :: es) X.env = (false, eval e X.env) :: starEach es X.env) (hpl : (backTo pos (starEach es X.env)).any (·.1) = false) : DE X (.Call (.Name "sum" p) (e :: es) [] pos) (tcall rSumI t) := de_callB (cd_sum hc) hm PyProof.Rows.boot_sum ha hg (by decide) (by decide) he hpl
end
noncomputable def rRepT : RD2 := fun x y st P => match x, y with
  | .tup xs, .int k => xs ≠ [] ∧ -(2 ^ 20) < k ∧ k < 2 ^ 20 ∧ xs.length * k.toNat ≤ sizeLine ∧ P (.tup (List.replicate k.toNat xs).flatten) st
  | _, _ => False
theorem tuple_mul1W (l : Addr) (items : Array Value) (n : Nat) (d : Option Addr) (sl : Array (Option Value)) (u : Tok) :
    Meets (Builtin.«tuple.__mul__» ⟨[.ref l, .int 1 u], []⟩) (fun _ R s => s.heap.get? l = some { cls := .type "tuple", dict := d, data := .seq items n, slots := sl } ∧ R (.ok (.ret (Value.ref l))) s) :=
  .of_wp fun prog w A R s h => by
    obtain ⟨hp, g, d, tk, os⟩ := s; obtain ⟨hl, h⟩ := h
    have f1 := AutoSeq1.idx_int
    wp_walk using wpAny_loadPart' hl
    exact ⟨_, rfl, h⟩
theorem tuple_mul0W (l : Addr) (items : Array Value) (n : Nat) (d : Option Addr) (sl : Array (Option Value)) (x : Int) (u : Tok) (h0 : items.isEmpty = false) (h1 : x ≤ 0) (h2 : -(2 ^ 20) < x) :
    Meets (Builtin.«tuple.__mul__» ⟨[.ref l, .int x u], []⟩) (fun _ R s => s.heap.get? l = some { cls := .type "tuple", dict := d, data := .seq items n, slots := sl } ∧
      R (.ok (.ret (Value.ref s.heap.objs.size))) { s with heap := s.heap.push { cls := Value.type "tuple", data := Data.seq #[] }, toks := s.toks }) :=
  .of_wp fun prog w A R s h => by
    obtain ⟨hp, g, d, tk, os⟩ := s; obtain ⟨hl, h⟩ := h
    have f1 := AutoSeq1.idx_int
    have e1 : (decide (x < -(2 ^ 63)) || decide (x ≥ 2 ^ 63)) = false := by
      rw [decide_eq_false (by omega), decide_eq_false (by omega)]; rfl
    have e2 : (items.isEmpty || x == 1) = false := by
      rw [h0, Bool.false_or]; exact beq_eq_false_iff_ne.mpr (by omega)
    have e3 : (decide (x ≤ 0) || items.isEmpty) = true := by
      rw [decide_eq_true h1]; rfl
    wp_walk using wpAny_loadPart' hl
    rw [if_neg (fun q => Bool.false_ne_true (e1.symm.trans q))]
    wp_walk using wpAny_loadPart' hl
    rw [if_neg (fun q => Bool.false_ne_true (e2.symm.trans q))]
    wp_walk using wpAny_loadPart' hl
    exact ⟨_, rfl, h⟩
section
variable {X : Cx}
theorem op_rep1 : OpR X (binaryOp .Mult) (fun x y H Q => ∃ a xs, x = .ref a ∧ y = .int 1 ∧ SqT X.K H a xs ∧ Q (.ref a) H) := by
  intro pins s σ H x y v u Q I rx ry h
  obtain ⟨a, xs, rfl, rfl, ha, q⟩ := h
  cases rx
  obtain ⟨t, rfl⟩ := ry
  obtain ⟨its, r1, p1, _⟩ := I.tuple ha
  obtain ⟨⟨cls, dd, data, sl⟩, ho, hc, n, hd⟩ := id p1
  simp only at hc hd
  subst hc hd
  exact wpAny_binaryOp_repeat_ref (T := "tuple") (U := "int") (by decide) ⟨_, ho, rfl⟩ (fun s' => typeIs_int s' 1 t) noFill_tuple_mul F.fills_int_mul F.slot_int_rmul repeat_tuple F.slot_int_index.lookup
    (call_meets F.slot_int_rmul (typeIs_int s 1 t) F.entry_int_rmul (F.args_int_rmul_2 _ _) (int_rmul_tuple 1 t a its.toArray n dd sl)
      ⟨ho, rfl, ⟨_, ho, rfl⟩, call_meets F.slot_tuple_mul ⟨_, ho, rfl⟩ F.entry_tuple_mul (F.args_tuple_mul_2 _ _) (tuple_mul1W a its.toArray n dd sl t) ⟨ho, ⟨.ref a, H, I, rfl, q⟩⟩⟩)
theorem op_rep0 : OpR X (binaryOp .Mult) (fun x y H Q => ∃ a k xs, x = .ref a ∧ y = .int k ∧ SqT X.K H a xs ∧ xs ≠ [] ∧ k ≤ 0 ∧ -(2 ^ 20) < k ∧ ∀ p, H p = none → Q (.ref p) (upd H p (.tup []))) := by
  intro pins s σ H x y v u Q I rx ry h
  obtain ⟨a, k, xs, rfl, rfl, ha, hne, h2, h3, q⟩ := h
  cases rx
  obtain ⟨t, rfl⟩ := ry
  obtain ⟨its, r1, p1, _⟩ := I.tuple ha
  have hl := r1.length
  obtain ⟨⟨cls, dd, data, sl⟩, ho, hc, n, hd⟩ := id p1
  simp only at hc hd
  subst hc hd
  have he : its.toArray.isEmpty = false := by
    cases its with
    | nil => exact absurd (List.length_eq_zero_iff.mp hl) hne
    | cons _ _ => rfl
  refine wpAny_binaryOp_repeat_ref (T := "tuple") (U := "int") (by decide) ⟨_, ho, rfl⟩ (fun s' => typeIs_int s' k t) noFill_tuple_mul F.fills_int_mul F.slot_int_rmul repeat_tuple F.slot_int_index.lookup
    (call_meets F.slot_int_rmul (typeIs_int s k t) F.entry_int_rmul (F.args_int_rmul_2 _ _) (int_rmul_tuple k t a its.toArray n dd sl)
      ⟨ho, rfl, ⟨_, ho, rfl⟩, call_meets F.slot_tuple_mul ⟨_, ho, rfl⟩ F.entry_tuple_mul (F.args_tuple_mul_2 _ _) (tuple_mul0W a its.toArray n dd sl k t he h2 h3) ⟨ho, ?_⟩⟩)
  refine ⟨.ref s.heap.objs.size, _, I.laid (t' := s.toks) (o := .tup []) (fun b ob q => Heap.get?_push_of_some _ q) (Nat.le_refl _) ?_, rfl, q _ (I.hok.fresh (Nat.le_refl _))⟩
  exact ⟨Nat.zero_le _, [], .nil, IsTup.new _ _⟩
theorem od_repT : OpD X (binaryOp .Mult) rRepT := by
  intro pins s σ H v w u1 u2 Q I r1 r2 h
  have h0 := h
  obtain ⟨φ, st, x, y, P, R, dx, dy, hr, hq⟩ := h
  cases x with
  | tup xs =>
    cases y with
    | int k =>
      obtain ⟨g1, g2, g3, g4, g5⟩ := hr
      obtain ⟨a, vs, e1, s1, d1⟩ := dx.tup
      have hl := d1.length
      by_cases k2 : 2 ≤ k
      · exact od_mul pins s σ H v w u1 u2 Q I r1 r2 ⟨φ, st, .tup xs, .int k, P, R, dx, dy, ⟨g1, k2, g3, g4, g5⟩, hq⟩
      by_cases k1 : k = 1
      · subst k1
        rw [show (List.replicate (1 : Int).toNat xs).flatten = xs by simp] at g5
        exact op_rep1 pins s σ H v w u1 u2 Q I r1 r2 ⟨a, vs, e1, dy.int, s1, Go.here hq R g5 (by rw [← e1]; exact dx)⟩
      · have k0 : k.toNat = 0 := by omega
        rw [k0] at g5
        refine op_rep0 pins s σ H v w u1 u2 Q I r1 r2 ⟨a, k, vs, e1, dy.int, s1, fun z => g1 (List.length_eq_zero_iff.mp (by rw [hl, z]; rfl)), by omega, g2, fun p hp => ?_⟩
        exact hq _ st g5 φ _ _ (bhd_tup R hp) (.mkTup (SqT.of upd_same) .nil)
    | _ => exact hr.elim
  | _ => cases y <;> exact hr.elim
theorem dx_rep {es : List Expr} {x1} {b : Expr} {ta tb : TD} {pos p1 : Pos} (ha : DE X (.Tuple es x1 p1) ta) (hb : DE X b tb) : DE X (.BinOp (.Tuple es x1 p1) .Mult b pos) (tbin rRepT ta tb) := de_op od_repT ha hb
end
end L3
namespace HT
open PySem PySem.Spec PyProof.Rows
section
variable {prog : Program} {w : World} {A : Around} {E : Value → Shared → Prop} {s : Shared}
theorem getItem_tuple_whole {t sl : Addr} {items : Array Value} {vl vu : Value} {lo hi : Option Int} {Q : Value → Shared → Prop} (ht : IsTup s.heap t items) (hs : s.heap.IsSliceOf sl vl vu .none) (pl : IsPart vl lo) (pu : IsPart vu hi)
    (hw : sIx items.size 0 lo = 0 ∧ sIx items.size items.size hi = items.size) (h : Q (.ref t) s) : wpAny (model prog w) A (getItem (.ref t) (.ref sl)) Q E s := by
  obtain ⟨os, hos, hcs, hds⟩ := id hs
  have hTs : s.TypeIs (.ref sl) "slice" := ⟨os, hos, hcs⟩
  unfold getItem
  try with_reducible refine wpAny_holding ?_
  first | refine wpAny_bind (wpAny_pure ?_) | skip
  refine wpAny_bind (wpAny_sequenceKey ht.typeIs (by decide) ?_)
  refine wpAny_bind (wpAny_callSpecial?_slot (name := Str.ofString "__getitem__") ht.typeIs PyProof.Rows.slot_tuple_getitem
    (wpAny_call_entry PyProof.Rows.slot_tuple_getitem ht.typeIs entry_tuple_getitem ?_ (args_tuple_getitem _ _)))
  show wpAny _ _ (Builtin.Tuple.tupleItemsOf (.ref t) >>= _) _ _ s
  refine wpAny_bind (tupleItemsOf_ ht ?_)
  refine wpAny_bind (wpAny_typeOf hTs ?_)
  rw [if_pos (by decide)]
  refine wpAny_bind (sliceApplied_gen hs pl pu ?_)
  have hyes : (((sIx items.size 0 lo : Nat) : Int) == 0 && (1 : Int) == 1 && (sIx items.size items.size hi - sIx items.size 0 lo) == items.size) = true := by
    rw [hw.1, hw.2]; simp
  show wpAny _ _ (if (((sIx items.size 0 lo : Nat) : Int) == 0 && (1 : Int) == 1 && (sIx items.size items.size hi - sIx items.size 0 lo) == items.size) = true then _ else _) _ _ s
  rw [if_pos hyes]
  unfold Builtin.Tuple.tupleIsExact
  refine wpAny_bind (wpAny_bind (wpAny_typeOf ht.typeIs (wpAny_pure ?_)))
  rw [if_pos (by decide)]
  first
    | exact wpAny_bind (wpAny_pure (wpAny_pure ⟨_, rfl, wpAny_pure h⟩))
    | exact wpAny_bind (wpAny_rule (wpAny_bind (wpAny_pure (wpAny_pure ⟨_, rfl, wpAny_pure h⟩))))
    | exact wpAny_bind (wpAny_rule (wpAny_bind (wpAny_pure ⟨_, rfl, wpAny_pure h⟩)))
    | exact wpAny_pure ⟨_, rfl, wpAny_pure h⟩
    | exact wpAny_bind (wpAny_pure ⟨_, rfl, wpAny_pure h⟩)
end
end HT
namespace L3
open PySem PySem.Spec PyProof.Rows L2
noncomputable def rSlW (K : PySem.W.Frag) : V → Option Int → Option Int → Hp → VK → Prop := fun x lo hi H Q => ∃ a xs, x = .ref a ∧ SqT K H a xs ∧ (HT.sIx xs.length 0 lo = 0 ∧ HT.sIx xs.length xs.length hi = xs.length) ∧ Q (.ref a) H
section
variable {X : Cx}
theorem sl_whole : SlR X (rSlW X.K) := by
  intro pins s σ H x v vl vu lo hi sl Q I rx hs pl pu h
  obtain ⟨a, xs, rfl, hx, hw, q⟩ := h
  cases rx
  obtain ⟨its, r, ht, hz⟩ := I.tuple hx
  have hlen : its.toArray.size = xs.length := by rw [List.size_toArray]; exact r.length.symm
  refine ⟨"tuple", _, PyProof.Rows.slot_tuple_getitem.lookup, ht.typeIs, ?_⟩
  exact HT.getItem_tuple_whole ht hs pl pu (by rw [hlen]; exact hw) ⟨.ref a, H, I, rfl, q⟩
noncomputable def tsliceA (te : TD) (tl th : TOD) : TD := fun ρ st P => te ρ st fun x st1 => tl ρ st1 fun lo st2 => th ρ st2 fun hi st3 => match x with
  | .tup xs => P (.tup (cutD xs lo hi)) st3
  | .lst n => (match st3[n]? with
    | some o => P (.lst st3.length) (st3 ++ [.rw (cutD o.items lo hi)])
    | none => False)
  | _ => False
theorem cut_whole {xs : List Dt} {lo hi : Option Int} (h : HT.sIx xs.length 0 lo = 0 ∧ HT.sIx xs.length xs.length hi = xs.length) : cutD xs lo hi = xs := by
  unfold cutD
  rw [h.1, h.2]
  simp
theorem de_sliceA {e : Expr} {lo hi : Option Expr} {te : TD} {tl th : TOD} {pos p2 : Pos} (he : DE X e te) (hl : DO X lo tl) (hu : DO X hi th) : DE X (.Subscript e (.Slice lo hi none p2) pos) (tsliceA te tl th) := by
  refine PE.imp (pe_slice ((sl_tup.or sl_list).or sl_whole) he hl hu) fun σ H Q h => ?_
  obtain ⟨φ, st, ρ, P, pre, ht, hq⟩ := h
  refine ⟨φ, st, ρ, _, pre, ht, fun x st1 h1 φ1 H1 v b1 dx => ?_⟩
  refine ⟨φ1, st1, ρ, _, pre.on b1, h1, fun l st2 h2 φ2 H2 b2 => ?_⟩
  refine ⟨φ2, st2, ρ, _, (pre.on b1).on b2, h2, fun u st3 h3 φ3 H3 b3 => ?_⟩
  have b := b1.trans (b2.trans b3)
  have dx3 := (dx.evo b2.2).evo b3.2
  cases x with
  | tup xs =>
    obtain ⟨a, vs, e1, s1, d1⟩ := dx3.tup
    have h3' : P (.tup (cutD xs l u)) st3 := h3
    by_cases hw : HT.sIx xs.length 0 l = 0 ∧ HT.sIx xs.length xs.length u = xs.length
    · rw [cut_whole hw] at h3'
      exact .inr ⟨a, vs, e1, s1, by rw [← d1.length]; exact hw, hq _ st3 h3' φ3 _ _ b (by rw [← e1]; exact dx3)⟩
    refine .inl (.inl ⟨a, vs, e1, s1, by rw [← d1.length]; exact hw, fun p hp => hq _ st3 h3' φ3 _ _ (b.trans (bhd_tup b3.1 hp)) (.mkTup (SqT.of upd_same) ?_)⟩)
    unfold cutD cutV
    rw [← d1.length]
    exact ((d1.drop _).take _).evo (evo_new hp)
  | lst n =>
    have h3' : (match st3[n]? with
      | some o => P (.lst st3.length) (st3 ++ [.rw (cutD o.items l u)])
      | none => False) := h3
    split at h3'
    · rename_i o eo
      obtain ⟨vs, s1, d1⟩ := b3.1.seq eo
      refine .inl (.inr ⟨φ3 n, vs, dx3.lst.2, s1, fun p hp => ?_⟩)
      have : DL X.K φ3 st3.length H3 (cutD o.items l u) (cutV vs l u) := by
        unfold cutD cutV
        rw [← d1.length]
        exact (d1.drop _).take _
      exact hq _ _ h3' _ _ _ (b.trans (bhd_lst b3.1 hp this)) d_new
    · exact h3'.elim
  | _ => exact h3.elim
end
structure FunD (K : PySem.W.Frag) (x qual : Str) (st : Stmt) (f : Addr) (fd : FuncData) (T : Addr) : Prop where
  ex : ∃ (oc : Value) (od : Option Addr) (kV doc pm : Value) (an : Option Addr) (cdv ct : Value) (osl : Array (Option Value)),
    fd = PySem.W.fnOf x qual (defArgs st) (defBody st) (defScope st) (.ref T) kV doc pm an cdv ct ∧ K.lookup f = some ⟨oc, od, .func fd, osl⟩ ∧ PySem.W.codeIn K cdv qual = true
  kp : PySem.W.keepIn K (.ref f) = true
theorem funD_mk {K : PySem.W.Frag} {x qual : Str} {st : Stmt} {f T : Addr} {oc : Value} {od an : Option Addr} {osl : Array (Option Value)} {kV doc pm cdv ct : Value} (l : K.lookup f = some ⟨oc, od, .func (PySem.W.fnOf x qual (defArgs st) (defBody st) (defScope st) (.ref T) kV doc pm an cdv ct), osl⟩)
    (c : PySem.W.codeIn K cdv qual = true) (k : PySem.W.keepIn K (.ref f) = true) : FunD K x qual st f (PySem.W.fnOf x qual (defArgs st) (defBody st) (defScope st) (.ref T) kV doc pm an cdv ct) T := ⟨⟨oc, od, kV, doc, pm, an, cdv, ct, osl, rfl, l, c⟩, k⟩
theorem FunD.ok {P : Program} {w : World} {K : PySem.W.Frag} {mg : Str → Option Value} {base : Heap} {x qual : Str} {st : Stmt} {f T : Addr} {fd : FuncData} {N ps : List Str} {k : Nat} {sp : Sp} (F : FunD K x qual st f fd T) (S : FnScope N ps (defScope st)) (len : ∀ vs H Q E, sp vs H Q E → vs.length = ps.length)
    (hbody : ∀ (cdv : Value) (A : Around) (outer : List Env) (s : Shared) (H : Hp) (vs : List V) (Q : VK) (E : XK), Room k (A.deeper (envOfC qual (defScope st) s.heap.objs.size f cdv)) → sp vs H Q E →
      ∃ t, PSs (cxOf CX0 P w K mg base N qual (defScope st) f cdv A outer s H E).nox (defBody st) t ∧ t { nx := fun _ H' => Q .non H', rt := Q } (start N vs) H) : FnOk P w K mg base CX0 (k + 1) f fd ps sp := by
  obtain ⟨oc, od, kV, doc, pm, an, cdv, ct, osl, rfl, lk, hcd⟩ := F.ex
  refine fn_of lk hcd S len fun A outer s H vs Q E hr hsp => ?_
  obtain ⟨t, h, q⟩ := hbody cdv A outer s H vs Q E hr hsp
  exact ⟨t, h.nox, q⟩
theorem funD_ok {P : Program} {w : World} {K : PySem.W.Frag} {mg : Str → Option Value} {base : Heap} {x qual : Str} {stt : Stmt} {f T : Addr} {fd : FuncData} {N ps : List Str} {k : Nat} {sp : RDL} (F : FunD K x qual stt f fd T) (S : FnScope N ps (defScope stt))
    (len : ∀ ds st Pd, sp ds st Pd → ds.length = ps.length)
    (hbody : ∀ (cdv : Value) (A : Around) (outer : List Env) (s : Shared) (H : Hp) (E : XK), Room k (A.deeper (envOfC qual (defScope stt) s.heap.objs.size f cdv)) →
      ∃ t, DSs (cxOf CX0 P w K mg base N qual (defScope stt) f cdv A outer s H E).nox (defBody stt) t ∧ ∀ ds st Pd, sp ds st Pd → t { nx := fun _ st' => Pd .non st', rt := Pd } (startD N ds) st) : FnOk P w K mg base CX0 (k + 1) f fd ps (liftSp K sp) := by
  refine F.ok S (fun vs H Q E h => ?_) fun cdv A outer s H vs Q E hr h => ?_
  · obtain ⟨φ, st, ds, Pd, R, dl, hs, hq⟩ := h
    rw [← dl.length]
    exact len ds st Pd hs
  · obtain ⟨t, ht, hb⟩ := hbody cdv A outer s H E hr
    obtain ⟨φ, st, ds, Pd, R, dl, hs, hq⟩ := h
    refine ⟨_, ht, φ, st, startD N ds, _, ⟨R, start_DR dl N⟩, hb ds st Pd hs, fun ρ' st' h' φ' H' σ' b' d' => hq _ st' h' φ' H' _ b' D.mkNon, fun ρ' st' h' => h'.elim, fun ρ' st' h' => h'.elim, fun d st' h' φ' H' v b' d' => hq d st' h' φ' H' v b' d'⟩
end L3
namespace L3
open PySem PySem.Spec PyProof.Rows L2
noncomputable def kwG {α : Type} (us ws : List α) : List α := match ws with
  | [w] => us ++ [w]
  | _ => []
theorem kw_rel {vs zs : List V} {us ws : List Value} (a : Vals vs us) (b : Vals zs ws) : Vals (kwG vs zs) (kwG us ws) := by
  cases b with
  | nil => exact .nil
  | cons r rs => cases rs with
    | nil => exact a.append (.cons r .nil)
    | cons _ _ => exact .nil
structure DefOkK (P : Program) (w : World) (K : PySem.W.Frag) (mg : Str → Option Value) (base : Heap) (x kn : Str) (k : Nat) (sp : RDL) : Prop where
  ex : ∃ f fd ps, FnOk P w K mg base CX0 k f fd ps (liftSp K sp) ∧ mg x = some (.ref f) ∧ PySem.W.keepIn K (.ref f) = true ∧ KBinds K fd ps [kn] kwG kwG
noncomputable def tcallK (r : RDL) (t : TAD) (u : TD) : TD := fun ρ st P => t ρ st fun ds st1 => u ρ st1 fun d st2 => r (ds ++ [d]) st2 P
end L3
namespace L3
open PySem PySem.Spec PyProof.Rows L2
noncomputable def intIs : List Value → Int → Bool
  | [.int i _], n => i == n
  | _, _ => false
theorem intIs_l : ∀ {l : List Value} {n : Int}, intIs l n = true → ∃ t, l = [.int n t]
  | [.int i t], n, h => by
    have e2 : i = n := eq_of_beq h
    subst e2
    exact ⟨t, rfl⟩
theorem intIs_of {a : Array Value} {n : Int} (h : intIs a.toList n = true) : ∃ t, a = #[.int n t] := by
  obtain ⟨t, e⟩ := intIs_l h
  exact ⟨t, by rw [← Array.toArray_toList (xs := a), e]⟩
theorem DefOkD.of {P : Program} {w : World} {K : PySem.W.Frag} {mg : Str → Option Value} {base : Heap} {x : Str} {k n : Nat} {sp : RDL} {i : Int} {f : Addr} {fd : FuncData} {ps : List Str} {t : Tok}
    (h : FnOk P w K mg base CX0 k f fd ps (liftSp K sp)) (hm : mg x = some (.ref f)) (hk : PySem.W.keepIn K (.ref f) = true) (b0 : Binds K fd ps []) (b1 : Binds K fd ps [.int i t]) : DefOkD P w K mg base x k n sp (.int i) :=
  ⟨⟨f, fd, ps, h, hm, hk, b0, .int i t, .int i, b1, ⟨t, rfl⟩, fun _ _ _ => D.mkInt⟩⟩
end L3
namespace L3
open PySem PySem.Spec PyProof.Rows L2
theorem liftSp_imp {K : PySem.W.Frag} {sp sp' : RDL} (h : ∀ ds st P, sp ds st P → sp' ds st P) {vs : List V} {H : Hp} {Q : VK} {E : XK} (q : liftSp K sp vs H Q E) : liftSp K sp' vs H Q E := by
  obtain ⟨φ, st, ds, P, R, dl, hs, hq⟩ := q
  exact ⟨φ, st, ds, P, R, dl, h _ _ _ hs, hq⟩
theorem DefOk.imp {P : Program} {w : World} {K : PySem.W.Frag} {mg : Str → Option Value} {base : Heap} {x : Str} {k : Nat} {sp sp' : RDL} (F : DefOk P w K mg base x k sp') (h : ∀ ds st P, sp ds st P → sp' ds st P) : DefOk P w K mg base x k sp := by
  obtain ⟨f, fd, ps, h1, h2, h3, h4⟩ := F.ex
  exact ⟨⟨f, fd, ps, ⟨fun vs H Q E q => h1.len vs H Q E (liftSp_imp h q), fun A outer s H args us vs Q E r e b v q => h1.run A outer s H args us vs Q E r e b v (liftSp_imp h q)⟩, h2, h3, h4⟩⟩
end L3
namespace HT
open PySem PySem.Spec PyProof.Rows
end HT
namespace L3
open PySem PySem.Spec PyProof.Rows L2
end L3
namespace L3
open PySem PySem.Spec PyProof.Rows L2
theorem extendW (l : Addr) (xs : Array Value) (n : Nat) (b : Addr) (ys : Array Value) (m : Nat) (dd : Option Addr) (sl : Array (Option Value)) (h0 : ¬(!xs.isEmpty && Builtin.List.listTooLong (xs.size + ys.size)) = true) (h1 : xs.size ≤ sizeLine) (h2 : xs.size + ys.size ≤ sizeLine + 1) :
    Meets (Builtin.«list.extend» ⟨[.ref l, .ref b], []⟩) (fun _ R s => s.heap.get? l = some { cls := .type "list", dict := none, data := .seq xs n, slots := #[] } ∧
      s.heap.get? b = some { cls := .type "tuple", dict := dd, data := .seq ys m, slots := sl } ∧
      R (.ok (.ret Value.none)) { s with heap := s.heap.update l (Obj.mapSeq fun x => x ++ ys), toks := s.toks }) :=
  .of_wp fun prog w A R s h => by
    obtain ⟨hp, g, d, tk, os⟩ := s
    obtain ⟨hl, hb, h⟩ := h
    have f1 := AutoSeq1.idx_int
    have f2 := AutoSeq1.sub_tuple_tuple
    have f3 := AutoSeq1.sub_list_list
    have f4 := AutoSeq1.sub_tuple_list
    have f5 := AutoSeq1.sub_list_tuple
    have hz : (xs ++ ys).size ≤ sizeLine + 1 := by rw [Array.size_append]; exact h2
    wp_walk using (wpAny_updateSeq hl rfl (hz := h1) (_hz' := hz)), AutoSeq1.wpAny_loadPart' hl, AutoSeq1.wpAny_loadPart' hb
    exact ⟨_, rfl, h⟩
section
variable {X : Cx} {e : Expr} {te : TD} {pos : Pos}
noncomputable def rExtendT (K : PySem.W.Frag) : V → List V → Hp → VK → Prop := fun x vs H Q => ∃ l b xs zs, x = .ref l ∧ vs = [.ref b] ∧ H l = some (.lst xs) ∧ SqT K H b zs ∧ xs.length + zs.length ≤ sizeLine ∧ Q .non (upd H l (.lst (xs ++ zs)))
theorem mt_extendT : MtM X "list.extend" (rExtendT X.K) := by
  intro pins s σ H x vs v us Q I rx rv h
  obtain ⟨l, b, xs, zs, rfl, rfl, hH, hB, hz, q⟩ := h
  cases rx
  obtain ⟨u, rfl, ru⟩ := rv.one
  cases ru
  obtain ⟨z, its, n, r, hl, e⟩ := I.lstM hH
  obtain ⟨its2, r2, ht, hz2⟩ := I.tuple hB
  have hl2 : its2.length = zs.length := r2.length.symm
  obtain ⟨⟨cls, dd, data, sl⟩, ho, hc, n2, hd⟩ := ht
  simp only at hc hd
  subst hc hd
  have hsz : its.toArray.size + its2.toArray.size ≤ sizeLine := by rw [List.size_toArray, List.size_toArray]; omega
  have hlong : ¬ (!its.toArray.isEmpty && Builtin.List.listTooLong (its.toArray.size + its2.toArray.size)) = true := by
    rw [notLongL hsz, Bool.and_false]
    exact Bool.false_ne_true
  refine call_meets F.slot_list_extend ⟨_, e, rfl⟩ F.entry_list_extend (F.args_list_extend_2 _ _)
    (extendW l its.toArray n b its2.toArray n2 dd sl hlong (by rw [List.size_toArray]; omega) (by omega)) ⟨e, ho, ?_⟩
  refine ⟨.non, _, I.lset (its' := its ++ its2) hH e (by simp) (r.append r2) ?_, rfl, q⟩
  rw [List.length_append]
  omega
noncomputable def textend (to te : TD) : TD := fun ρ st P => to ρ st fun o st1 => match o with
  | .lst n => te ρ st1 fun d st2 => (match d with
    | .tup ds => (match st2[n]? with
      | some (.rw xs) => xs.length + ds.length ≤ sizeLine ∧ P .non (st2.set n (.rw (xs ++ ds)))
      | _ => False)
    | _ => False)
  | _ => False
theorem de_extend {o : Expr} {to : TD} {apos cpos : Pos} (ho : DE X o to) (he : DE X e te)
    (hbase : attributeBase o "extend" X.env (eval o X.env) = eval o X.env)
    (hfew : ((backTo cpos (starEach [e] X.env)).all (fun x => !x.1) && (backToKw cpos (keywordEach [] X.env)).all (fun x => x.1.isSome)
      && decide (([e] : List Expr).length + ([] : List Keyword).length + (if ([] : List Keyword).isEmpty then 0 else 1) < 30)) = true)
    (hline : (apos.endLine == cpos.line) = true) (hs : starEach [e] X.env = (false, eval e X.env) :: starEach [] X.env) (hplain : (backTo cpos (starEach ([] : List Expr) X.env)).any (·.1) = false) :
    DE X (.Call (.Attribute o "extend" apos) [e] [] cpos) (textend to te) := by
  refine PE.imp (pe_bm PySem.F.plainAttrs_list PySem.F.slot_list_extend PySem.F.type_list_extend mt_extendT ho (da_cons he da_nil hs) hbase hfew hline hs hplain) fun σ H Q h => ?_
  obtain ⟨φ, st, ρ, P, pre, ht, hq⟩ := h
  refine ⟨φ, st, ρ, _, pre, ht, fun x st1 h1 φ1 H1 v b1 dx => ?_⟩
  cases x with
  | lst n =>
    have hn := dx.lst.1
    obtain ⟨so, eo⟩ : ∃ so, st1[n]? = some so := ⟨st1[n], by simp [hn]⟩
    obtain ⟨ws, hws, _⟩ := b1.1.seq eo
    refine ⟨?_, ?_⟩
    · rw [dx.lst.2]
      exact .inl ⟨rfl, ws, hws⟩
    refine ⟨φ1, st1, ρ, (fun ds st2 => match ds with
      | [.tup zs] => (match st2[n]? with
        | some (.rw xs) => xs.length + zs.length ≤ sizeLine ∧ P .non (st2.set n (.rw (xs ++ zs)))
        | _ => False)
      | _ => False), pre.on b1, ?_, fun ds st2 h2 φ2 H2 zs b2 dz => ?_⟩
    · show te ρ st1 fun d st2 => _
      have h1 : te ρ st1 fun d st2 => (match d with
        | .tup ds => (match st2[n]? with
          | some (.rw xs) => xs.length + ds.length ≤ sizeLine ∧ P .non (st2.set n (.rw (xs ++ ds)))
          | _ => False)
        | _ => False) := h1
      have e : (fun (d : Dt) (st2 : Sto) => (match d with
        | .tup ds => (match st2[n]? with
          | some (.rw xs) => xs.length + ds.length ≤ sizeLine ∧ P .non (st2.set n (.rw (xs ++ ds)))
          | _ => False)
        | _ => False)) = (fun x st1 => tanil ρ st1 fun xs st2 => (match x :: xs with
          | [.tup zs] => (match st2[n]? with
            | some (.rw xs) => xs.length + zs.length ≤ sizeLine ∧ P .non (st2.set n (.rw (xs ++ zs)))
            | _ => False)
          | _ => False)) := by
        funext d st2
        cases d <;> rfl
      rw [e] at h1
      exact h1
    rcases ds with _ | ⟨d, _ | ⟨d2, r⟩⟩
    · exact h2.elim
    rotate_left
    · cases d <;> exact h2.elim
    · cases d with
      | tup ts =>
        have h2 : (match st2[n]? with
          | some (.rw xs) => xs.length + ts.length ≤ sizeLine ∧ P .non (st2.set n (.rw (xs ++ ts)))
          | _ => False) := h2
        split at h2
        · rename_i xs ex
          obtain ⟨y, rfl, dy⟩ := dz.one
          obtain ⟨a, us, e1, s1, d1⟩ := dy.tup
          subst e1
          obtain ⟨vs, hv, dl⟩ := b2.1.rw n xs ex
          have dx2 := dx.evo b2.2
          have bb : Bhd X.K φ2 st2 H2 φ2 (st2.set n (.rw (xs ++ ts))) (upd H2 (φ2 n) (.lst (vs ++ us))) := ⟨b2.1.setL ex (dl.append d1), evo_set hv⟩
          exact ⟨φ2 n, a, vs, us, dx2.lst.2, rfl, hv, s1, by rw [← dl.length, ← d1.length]; exact h2.1, hq _ _ h2.2 φ2 _ _ (b1.trans (b2.trans bb)) D.mkNon⟩
        · exact h2.elim
      | _ => exact h2.elim
  | _ => exact h1.elim
noncomputable def taug (i : Nat) (te : TD) : TSD := fun E ρ st => match ρ[i]? with
  | some (some (.int x)) => te ρ st fun d st1 => (match d with
    | .int y => E.nx (ρ.set i (some (.int (x + y)))) st1
    | _ => False)
  | _ => False
theorem ds_aug (i : Nat) {x : Str} {pos' : Pos} (hN : X.N.Nodup) (he : DE X e te) (hi : X.N[i]? = some x) (hx : Loc X.env.scope x) (hf : X.fn x = true ∨ X.env.scope.names.lookup x = some .local) : DS X (.AugAssign (.Name x pos') .Add e pos) (taug i te) := by
  refine PS.imp (ps_aug hN hi hx he (fun pins s σ H a b v u Q I ra rb q => augR iop_add I ra rb q) hf) fun E σ H h => ?_
  obtain ⟨φ, st, ρ, P, pre, ht, n, b, c, r⟩ := h
  unfold taug at ht
  split at ht
  · rename_i x ex
    obtain ⟨v, e1, e2⟩ := pre.2.2 i _ ex
    refine ⟨v, e1, φ, st, ρ, _, pre, ht, fun d st1 h1 φ1 H1 w b1 dx => ?_⟩
    cases d with
    | int y =>
      rw [e2.int, dx.int]
      exact ⟨x, y, rfl, rfl, n _ st1 h1 φ1 H1 _ b1 ((pre.on b1).2.set D.mkInt i)⟩
    | _ => exact h1.elim
  · exact ht.elim
end
end L3
namespace L3
open PySem PySem.Spec PyProof.Rows L2
section
variable {X : Cx} {a b : Expr} {ta tb : TD} {pos : Pos}
noncomputable def rCatR (K : PySem.W.Frag) : R2 := fun x y H Q => ∃ l b xs zs, x = .ref l ∧ y = .ref b ∧ SqL K H l xs ∧ SqL K H b zs ∧ xs.length + zs.length ≤ sizeLine ∧ ∀ p, H p = none → Q (.ref p) (upd H p (.lst (xs ++ zs)))
theorem op_catR : OpR X (binaryOp .Add) (rCatR X.K) := by
  intro pins s σ H x y v u Q I rx ry h
  obtain ⟨l, b, xs, zs, rfl, rfl, hH, hB, hz, q⟩ := h
  cases rx
  cases ry
  obtain ⟨its, r, ht, hl⟩ := I.list hH
  obtain ⟨its2, r2, ht2, hl2⟩ := I.list hB
  have e1 : its.length = xs.length := r.length.symm
  have e2 : its2.length = zs.length := r2.length.symm
  obtain ⟨⟨cls, dd, data, sl⟩, ho, hc, n, hd⟩ := ht.isList
  obtain ⟨⟨cls2, dd2, data2, sl2⟩, ho2, hc2, n2, hd2⟩ := ht2.isList
  simp only at hc hd hc2 hd2
  subst hc hd hc2 hd2
  have hsz : its.toArray.size + its2.toArray.size ≤ sizeLine := by rw [List.size_toArray, List.size_toArray]; omega
  refine concat_meets ⟨_, ho, rfl⟩ ⟨_, ho2, rfl⟩ noFill_list_add seq_list_add PySem.F.slot_list_add PySem.F.entry_list_add (PySem.F.args_list_add_2 _ _)
    (list_addW l b its.toArray its2.toArray n n2 dd dd2 sl sl2 hsz) ⟨ho, ho2, ?_⟩
  have ea : its.toArray ++ its2.toArray = (its ++ its2).toArray := by simp
  rw [ea]
  exact ⟨.ref _, _, I.lnew (t' := s.toks) (r.append r2) (by rw [List.length_append]; omega), rfl, q _ I.fresh⟩
noncomputable def rAddR : RD2 := fun x y st P => match x, y with
  | .lst n, .lst m => (match st[n]?, st[m]? with
    | some c, some d => c.items.length + d.items.length ≤ sizeLine ∧ P (.lst st.length) (st ++ [.rw (c.items ++ d.items)])
    | _, _ => False)
  | _, _ => False
theorem od_addR : OpD X (binaryOp .Add) rAddR := by
  intro pins s σ H v w u1 u2 Q I r1 r2 h
  obtain ⟨φ, st, x, y, P, R, dx, dy, hr, hq⟩ := h
  cases x with
  | lst n =>
    cases y with
    | lst m =>
      have hr' : match st[n]?, st[m]? with
        | some c, some d => c.items.length + d.items.length ≤ sizeLine ∧ P (.lst st.length) (st ++ [.rw (c.items ++ d.items)])
        | _, _ => False := hr
      split at hr'
      · rename_i c d e1 e2
        obtain ⟨vs, h1, d1⟩ := R.seq e1
        obtain ⟨ws, h2, d2⟩ := R.seq e2
        have l1 := d1.length
        have l2 := d2.length
        have z := hr'.1
        exact op_catR pins s σ H v w u1 u2 Q I r1 r2 ⟨φ n, φ m, vs, ws, dx.lst.2, dy.lst.2, h1, h2, by omega, fun p hp => hq _ _ hr'.2 _ _ _ (bhd_lst R hp (d1.append d2)) d_new⟩
      · exact hr'.elim
    | _ => exact hr.elim
  | _ => cases y <;> exact hr.elim
theorem dx_addR (ha : DE X a ta) (hb : DE X b tb) : DE X (.BinOp a .Add b pos) (tbin rAddR ta tb) := de_op od_addR ha hb
end
end L3
namespace L3
open PySem PySem.Spec PyProof.Rows L2
noncomputable def SameLL (st : Sto) (a b : List Dt) : Prop := ∃ is js : List Nat, a = is.map .lst ∧ b = js.map .lst ∧ is.length = js.length ∧ ∀ (k i j : Nat), is[k]? = some i → js[k]? = some j → ∃ xs : List Dt, st[i]? = some (SO.rw xs) ∧ st[j]? = some (SO.rw xs) ∧ xs.all (okD 8) = true
noncomputable def rSameLL (neg : Bool) : RD2 := fun x y st P => match x, y with
  | .lst n, .lst m => (match st[n]?, st[m]? with
    | some a, some b => SameLL st a.items b.items ∧ P (.bl (!neg)) st
    | _, _ => False)
  | _, _ => False
section
variable {X : Cx} {pins : List (Addr × Obj)} {σ : L2.St} {H : Hp} {s : Shared} {φ : Nat → Addr} {st : Sto}
theorem el_L (I : Inv X pins σ H s) (R : Rep X.K φ st H) {A : Around} {i j : Nat} {xs : List Dt} (hu : A.units + 10 < cLine) (e1 : st[i]? = some (.rw xs)) (e2 : st[j]? = some (.rw xs)) (o : xs.all (okD 8) = true) : SeqAt.EqAt A s (.ref (φ i)) (.ref (φ j)) true := by
  by_cases hne : φ i = φ j
  · rw [hne]; exact SeqAt.EqAt.same _
  refine SeqAt.EqAt.of_refs hne ?_
  obtain ⟨vs, s1, d1⟩ := R.seq e1
  obtain ⟨ws, s2, d2⟩ := R.seq e2
  obtain ⟨its, rv, pl, _⟩ := I.list s1
  obtain ⟨its2, rv2, pl2, _⟩ := I.list s2
  have d1 : DL X.K φ st.length H xs vs := d1
  have d2 : DL X.K φ st.length H xs ws := d2
  have l1 : its.toArray.size = xs.length := by rw [List.size_toArray, ← rv.length, d1.length]
  have l2 : its2.toArray.size = xs.length := by rw [List.size_toArray, ← rv2.length, d2.length]
  have := SeqAt.RcAt.lists (A := A) (s := s) (e := fun j => eqD 8 (xs.getD j .non) (xs.getD j .non)) pl.isList pl2.isList (by omega) (by omega) (fun j h1 h2 => els_D I (by omega) d1 d2 rv rv2 o o h1 h2)
  have e : (List.range its.toArray.size).all (fun j => eqD 8 (xs.getD j .non) (xs.getD j .non)) = true := by
    refine List.all_eq_true.mpr fun j hj => eqD_self ?_
    have hj := List.mem_range.mp hj
    have hj2 : j < xs.length := by omega
    rw [List.getD_eq_getElem?_getD, List.getElem?_eq_getElem hj2]
    exact List.all_eq_true.mp o _ (List.getElem_mem hj2)
  rw [e] at this
  exact this
theorem els_L (I : Inv X pins σ H s) (R : Rep X.K φ st H) {A : Around} {a b : List Dt} {vs ws : List V} {its its2 : List Value} (hu : A.units + 12 < cLine) (hd : DL X.K φ st.length H a vs) (hd2 : DL X.K φ st.length H b ws) (rv : Vals vs its) (rv2 : Vals ws its2) (h : SameLL st a b)
    {j : Nat} (h1 : j < its.toArray.size) (h2 : j < its2.toArray.size) : SeqAt.EqAt A.in1 s its.toArray[j] its2.toArray[j] true := by
  obtain ⟨is, js, rfl, rfl, hl, hk⟩ := h
  have l1 : its.toArray.size = (is.map Dt.lst).length := by rw [List.size_toArray, ← rv.length, hd.length]
  have l2 : its2.toArray.size = (js.map Dt.lst).length := by rw [List.size_toArray, ← rv2.length, hd2.length]
  rw [List.length_map] at l1 l2
  have hj1 : j < is.length := by omega
  have hj2 : j < js.length := by omega
  have ea : (is.map Dt.lst)[j]? = some (.lst is[j]) := by rw [List.getElem?_map, List.getElem?_eq_getElem hj1]; rfl
  have eb : (js.map Dt.lst)[j]? = some (.lst js[j]) := by rw [List.getElem?_map, List.getElem?_eq_getElem hj2]; rfl
  obtain ⟨x, ex, dx⟩ := hd.get ea
  obtain ⟨y, ey, dy⟩ := hd2.get eb
  obtain ⟨ux, eux, rx⟩ := rv.get ex
  obtain ⟨uy, euy, ry⟩ := rv2.get ey
  have gx : its.toArray[j] = ux := by
    have : its[j]? = some its[j] := by simp at h1; simp [h1]
    rw [eux] at this
    simpa using (Option.some.inj this).symm
  have gy : its2.toArray[j] = uy := by
    have : its2[j]? = some its2[j] := by simp at h2; simp [h2]
    rw [euy] at this
    simpa using (Option.some.inj this).symm
  rw [gx, gy]
  have e1' := dx.lst.2
  have e2' := dy.lst.2
  subst e1'; subst e2'
  cases rx; cases ry
  obtain ⟨xs, q1, q2, o⟩ := hk j _ _ (List.getElem?_eq_getElem hj1) (List.getElem?_eq_getElem hj2)
  exact el_L I R (by show A.units + 1 + 10 < cLine; omega) q1 q2 o
end
theorem od_neLL {X : Cx} (hu : X.A.units + 16 < cLine) : OpD X (compareOp .NotEq) (rSameLL true) := by
  intro pins s σ H v w u1 u2 Q I r1 r2 h
  obtain ⟨φ, st, x, y, P, R, dx, dy, hr, hq⟩ := h
  cases x with
  | lst n =>
    cases y with
    | lst m =>
      have hr' : match st[n]?, st[m]? with
        | some a, some b => SameLL st a.items b.items ∧ P (.bl (!true)) st
        | _, _ => False := hr
      split at hr'
      · rename_i a b e1 e2
        obtain ⟨same, hp⟩ := hr'
        obtain ⟨vs, s1, d1⟩ := R.seq e1
        obtain ⟨ws, s2, d2⟩ := R.seq e2
        obtain ⟨its, rv, pl, _⟩ := I.list s1
        obtain ⟨its2, rv2, pl2, _⟩ := I.list s2
        have e1' := dx.lst.2
        have e2' := dy.lst.2
        subst e1'; subst e2'
        cases r1; cases r2
        have hl : its.toArray.size = its2.toArray.size := by
          obtain ⟨is, js, ha, hb, hl, _⟩ := same
          rw [List.size_toArray, List.size_toArray, ← rv.length, ← rv2.length, ← d1.length, ← d2.length, ha, hb, List.length_map, List.length_map, hl]
        have := SeqAt.RcNeAt.lists (A := X.A) (s := s) (e := fun _ => true) pl.isList pl2.isList hl (by omega) (fun j h1 h2 => els_L I R (by omega) d1 d2 rv rv2 same h1 h2)
        refine this _ _ _ _ (fin_bool I hq R hp ?_)
        have : (List.range its.toArray.size).all (fun _ => true) = true := List.all_eq_true.mpr fun _ _ => rfl
        rw [this]
      · exact hr'.elim
    | _ => exact hr.elim
  | _ => cases y <;> exact hr.elim
section
variable {X : Cx} {a b : Expr} {ta tb : TD} {pos : Pos}
theorem dtx_neLL (hu : X.A.units + 16 < cLine) (ha : DE X a ta) (hb : DE X b tb) (hm : behindInMarks .NotEq b = false) : DT X (.Compare a [.NotEq] [b] pos) (tbool (tbin (rSameLL true) ta tb)) := dt_cmp (od_neLL hu) ha hb hm
end
end L3
namespace KH
open PySem L2 L3
noncomputable def HandO (o : SO) : Prop := ∃ a b c : Int, o = .rw [.int a, .int b, .int c] ∧ 0 ≤ b ∧ b < 1000000007
noncomputable def HandAt (st : Sto) (h : Nat) : Prop := ∃ o, st[h]? = some o ∧ HandO o
noncomputable def Keep (h : Nat) (st st' : Sto) : Prop := (∀ i o, i ≠ h → st[i]? = some o → st'[i]? = some o) ∧ HandAt st' h
theorem Keep.refl {h : Nat} {st : Sto} (a : HandAt st h) : Keep h st st := ⟨fun _ _ _ q => q, a⟩
theorem Keep.trans {h : Nat} {a b c : Sto} (x : Keep h a b) (y : Keep h b c) : Keep h a c := ⟨fun i o n q => y.1 i o n (x.1 i o n q), y.2⟩
theorem HandAt.ext {h : Nat} {st st' : Sto} (a : HandAt st h) (e : ExtS st st') : HandAt st' h := by
  obtain ⟨o, q, r⟩ := a; exact ⟨o, e _ _ q, r⟩
theorem Keep.of {h : Nat} {st st' : Sto} (a : HandAt st h) (e : ExtS st st') : Keep h st st' := ⟨fun i o _ q => e i o q, a.ext e⟩
theorem Keep.app {h : Nat} {st st' : Sto} (k : Keep h st st') (x : SO) : Keep h st (st' ++ [x]) := k.trans (.of k.2 (.app _ _))
noncomputable def spDraw : RDL := fun ds st P => ∃ (h : Nat) (n : Int), ds = [.lst h, .int n] ∧ 0 < n ∧ n < 1073741824 ∧ HandAt st h ∧ ∀ (v : Int) st', 0 ≤ v → v < n → Keep h st st' → P (.int v) st'
end KH
namespace K19
open PySem L2 L3 KH
noncomputable def namS : List Str := ["add", "sub", "mul", "nought", "high", "over", "under", "wide", "rest"]
noncomputable def underD (w : Str) (ns : List Dt) : List Dt := if namS.contains w = true then ns else []
noncomputable def spRight : RDL := fun ds st P => ∃ (w : Str) (ns due : List Int), ds = [.tup (.str w :: ns.map .int), .tup (due.map .int)] ∧ ns.length < 100 ∧ due.map Dt.int = underD w (ns.map .int) ∧ ∀ st', ExtS st st' → P (.bl true) st'
end K19
namespace KH
open PySem PySem.Spec PyProof.Rows L2 L3
theorem iteB {b : Bool} {A B : Prop} (h : b = true) (a : A) : if b = true then A else B := by rw [if_pos h]; exact a
theorem iteBF {b : Bool} {A B : Prop} (h : b = false) (a : B) : if b = true then A else B := by rw [if_neg (by rw [h]; exact Bool.false_ne_true)]; exact a
theorem at1 {x y z : Dt} : atI [x, y, z] 1 = some y := rfl
theorem at2 {x y z : Dt} : atI [x, y, z] 2 = some z := rfl
end KH
namespace K01
open PySem L2 L3
noncomputable def wordsS : List Str := ["halt", "put", "add", "sub", "mul", "bad", "div", "get", "set", "jump", "when", "go", "tell", "hear", "right", "back"]
noncomputable def wordsD : List Dt := wordsS.map .str
noncomputable def wordOf (i : Int) : Str := wordsS.getD i.toNat ""
noncomputable def outD (n : Int) : Dt := .tup [.str (wordOf (n / 4096 % 16)), .int (n / 512 % 8), .int (n / 64 % 8), .int (n % 64)]
noncomputable def spSetOut : RDL := fun ds st P => ∃ n : Int, ds = [.int n] ∧ P (outD n) st
noncomputable def spNumberOf : RDL := fun ds st P => ∃ (k : Nat) (a b c : Int), k < 16 ∧ ds = [.tup [.str (wordOf k), .int a, .int b, .int c]] ∧ P (.int ((k : Int) * 4096 + a * 512 + b * 64 + c)) st
noncomputable def wholeD (t : String) : Bool := isT t "int" && !isT t "bool"
noncomputable def spWhole : RDL := fun ds st P => ∃ x t, ds = [x] ∧ tyN x = some t ∧ P (.bl (wholeD t)) st
noncomputable def spWords : RDL := fun ds st P => ds = [] ∧ ∀ st' n, ExtS st st' → st'[n]? = some (.rw wordsD) → P (.lst n) st'
noncomputable def spRight : RDL := fun ds st P => ∃ n : Int, ds = [.int n] ∧ 0 ≤ n ∧ n < 65536 ∧ ∀ st', ExtS st st' → P (.bl true) st'
end K01
namespace K01
open PySem PySem.Spec PyProof.Rows L2 L3
noncomputable abbrev t_set_out : TSD := (tseq (tret (ttup (tacons (tbin rIxD (tcon (Dt.tup wordsD)) (tbin rMod (tbin rDiv (tvar 0) (tcon (Dt.int 4096))) (tcon (Dt.int 16)))) (tacons (tbin rMod (tbin rDiv (tvar 0) (tcon (Dt.int 512))) (tcon (Dt.int 8))) (tacons (tbin rMod (tbin rDiv (tvar 0) (tcon (Dt.int 64))) (tcon (Dt.int 8))) (tacons (tbin rMod (tvar 0) (tcon (Dt.int 64))) tanil)))))) tnext)
noncomputable abbrev t_law : TSD := (tseq (tfor (iseq (tbin L3.rAdd (tslice (tvar 0) tonone (tosome (tcon (Dt.int 63)))) (tlst (tacons (tcall rLen (tacons (tvar 0) tanil)) (tacons (tcon (Dt.int 65535)) (tacons (tcon (Dt.int 4095)) (tacons (tcon (Dt.int 4096)) tanil))))))) (gname 1) (tseq (tifS (tnotB (tbool (tcall spRight (tacons (tbin rMod (tvar 1) (tcon (Dt.int 65536))) tanil)))) (tseq (tret (tcon (Dt.bl false))) tnext) tnext) (tseq (tfor (ienum (tcall spWords tanil)) (gunpack 2 (gscons (gname 2) (gscons (gname 3) gsnil))) (tseq (tasg (ttup (tacons (tvar 3) (tacons (tbin rMod (tbin rDiv (tvar 1) (tcon (Dt.int 2))) (tcon (Dt.int 8))) (tacons (tbin rMod (tbin rDiv (tvar 1) (tcon (Dt.int 16))) (tcon (Dt.int 8))) (tacons (tbin rMod (tbin rDiv (tvar 1) (tcon (Dt.int 128))) (tcon (Dt.int 64))) tanil))))) (gname 4)) (tseq (tasg (tcall spNumberOf (tacons (tvar 4) tanil)) (gname 5)) (tseq (tifS (torB (tnotB (tbool (tcall spWhole (tacons (tvar 5) tanil)))) (tbool (tbin (rEqD true) (tvar 5) (tbin L3.rAdd (tbin rMul (tcon (Dt.int 64)) (tbin L3.rAdd (tbin L3.rAdd (tbin rMul (tcon (Dt.int 64)) (tvar 2)) (tbin rMul (tcon (Dt.int 8)) (tbin rIxD (tvar 4) (tcon (Dt.int 1))))) (tbin rIxD (tvar 4) (tcon (Dt.int 2))))) (tbin rIxD (tvar 4) (tcon (Dt.int 3))))))) (tseq (tret (tcon (Dt.bl false))) tnext) tnext) (tseq (tifS (tbool (tbin (rEqD true) (tcall spSetOut (tacons (tvar 5) tanil)) (tvar 4))) (tseq (tret (tcon (Dt.bl false))) tnext) tnext) tnext))))) tnext))) (tseq (tret (tcon (Dt.bl true))) tnext))
theorem word_at {i : Int} (h0 : 0 ≤ i) (h1 : i < 16) : atI wordsD i = some (.str (wordOf i)) := by
  obtain ⟨n, rfl⟩ : ∃ n : Nat, i = n := ⟨i.toNat, by omega⟩
  have hn : n < 16 := by omega
  have key : ∀ n : Nat, n < 16 → wordsS[n]? = some (wordsS.getD n "") := by decide +kernel
  refine atI_nat ?_
  show (wordsS.map Dt.str)[n]? = _
  rw [List.getElem?_map, key n hn]
  rfl
theorem read_set_out {ds : List Dt} {st : Sto} {Pd : VD} (h : spSetOut ds st Pd) : t_set_out (Ed Pd) (startD ["number"] ds) st := by
  obtain ⟨n, rfl, h⟩ := h
  simp only [tseq, tasg, tret, tbin, tvar, tcon, gname, tcall, tacons, tanil, ttup, tlst, tandV, torV, tnotV, tnotB, tandB, torB, tbool, tifS, tifE, tnext, tdrop, tfor, iseq, irng1, tslice, tonone, tosome, tappend, rLen, rTuple, seqOf, rIsInst, rIxD, rMod, rMul, L3.rAdd, rDiv, rEqD, rIsD, rCmpI, startD, tindex, gunpack, gscons, gsnil, ienum, List.map_cons, List.map_nil, List.length_cons, List.length_nil, List.cons_append, List.nil_append, List.replicate, List.set, List.getElem?_cons_zero, List.getElem?_cons_succ, Option.map_some, SO.items]
  refine ⟨cdiv (by decide) (by decide), by decide, ?_⟩
  rw [word_at (by omega) (by omega)]
  exact ⟨cdiv (by decide) (by decide), by decide, cdiv (by decide) (by decide), by decide, by decide, by show 4 ≤ sizeLine; decide, h⟩
end K01
namespace KS
noncomputable def mayRun (rs cs : List Int) (a : Nat) : Bool := decide (a < cs.length) && decide (4 ≤ rs.getD (a / 8) 0)
structure GoodS (rs cs : List Int) : Prop where
  pg : cs.length = 8 * rs.length
  le : cs.length ≤ 128
  rr : ∀ r ∈ rs, 0 ≤ r ∧ r < 8
  cc : ∀ c ∈ cs, 0 ≤ c ∧ c < 65536
end KS
namespace KS
open PySem L2 L3 KH
noncomputable def isD (l : List Int) : Dt := .tup (l.map .int)
noncomputable def stD (d0 d1 d2 d3 : Dt) (rs cs : List Int) : Dt := .tup [d0, d1, d2, d3, isD rs, isD cs]
noncomputable def spNumber : RDL := fun ds st P => ∃ h : Nat, ds = [.lst h] ∧ HandAt st h ∧ ∀ (v : Int) st', 0 ≤ v → v < 65536 → Keep h st st' → P (.int v) st'
noncomputable def spMarks : RDL := fun ds st P => ∃ h : Nat, ds = [.lst h] ∧ HandAt st h ∧ ∀ (bs : List Bool) st', bs.length = 3 → Keep h st st' → P (.tup (bs.map .bl)) st'
noncomputable def Scr (st : Sto) (s : Nat) : Prop := ∃ o, st[s]? = some o ∧ ∃ ns : List Int, o.items = ns.map .int ∧ ns.length ≤ 63
noncomputable def spCells : RDL := fun ds st P => ∃ (s : Nat) (z : Int) (k : Bool), ds = [.lst s, .int z, .bl k] ∧ Scr st s ∧ 0 ≤ z ∧ z ≤ 128 ∧ ∀ (cs : List Int) st', (cs.length : Int) = z → (∀ c ∈ cs, 0 ≤ c ∧ c < 65536) → ExtS st st' → P (isD cs) st'
noncomputable def Drawn (d0 d1 d2 d3 : Dt) (rs cs : List Int) : Prop := GoodS rs cs ∧ (∃ p : Int, d0 = .int p ∧ 0 ≤ p) ∧ (∃ bs : List Int, d1 = isD bs ∧ bs.length = 8 ∧ ∀ b ∈ bs, 0 ≤ b ∧ b < 65536) ∧ (∃ ms : List Bool, d2 = .tup (ms.map .bl) ∧ ms.length = 3) ∧ (d3 = .non ∨ ∃ (v : Int) (ms : List Bool), d3 = .tup [.int v, .tup (ms.map .bl)] ∧ 0 ≤ v ∧ v < 65536 ∧ ms.length = 3)
noncomputable def spState : RDL := fun ds st P => ∃ s h : Nat, ds = [.lst s, .lst h] ∧ Scr st s ∧ HandAt st h ∧ s ≠ h ∧ ∀ d0 d1 d2 d3 rs cs st', Drawn d0 d1 d2 d3 rs cs → Keep h st st' → P (stD d0 d1 d2 d3 rs cs) st'
noncomputable def spMay4 : RDL := fun ds st P => ∃ d0 d1 d2 d3 rs cs, ∃ a : Nat, ds = [.int 4, stD d0 d1 d2 d3 rs cs, .int a] ∧ GoodS rs cs ∧ P (.bl (mayRun rs cs a)) st
end KS
namespace K15
open PySem L2 L3 KH KS
end K15
namespace KS
open PySem PySem.Spec PyProof.Rows L2 L3 KH
noncomputable abbrev t_set_out : TSD := (tseq (tret (ttup (tacons (tbin rIxD (tcon (Dt.tup K01.wordsD)) (tbin rMod (tbin rDiv (tvar 0) (tcon (Dt.int 4096))) (tcon (Dt.int 16)))) (tacons (tbin rMod (tbin rDiv (tvar 0) (tcon (Dt.int 512))) (tcon (Dt.int 8))) (tacons (tbin rMod (tbin rDiv (tvar 0) (tcon (Dt.int 64))) (tcon (Dt.int 8))) (tacons (tbin rMod (tvar 0) (tcon (Dt.int 64))) tanil)))))) tnext)
noncomputable abbrev t_may_be : TSD := (tseq (tifS (tnotB (tbool (tchain (fun i j => decide (i ≤ j)) (fun i j => decide (i < j)) (tcon (Dt.int 0)) (tvar 2) (tcall rLen (tacons (tbin rIxD (tvar 1) (tcon (Dt.int 5))) tanil))))) (tseq (tret (tcon (Dt.bl false))) tnext) tnext) (tseq (tret (tbin (rEqD false) (tbin rAndB (tbin rIxD (tbin rIxD (tvar 1) (tcon (Dt.int 4))) (tbin rDiv (tvar 2) (tcon (Dt.int 8)))) (tvar 0)) (tvar 0))) tnext))
noncomputable abbrev t__law_state : TSD := (tseq (tasg (tbin rMul (tcon (Dt.int 8)) (tcall KH.spDraw (tacons (tvar 1) (tacons (tcon (Dt.int 17)) tanil)))) (gname 2)) (tseq (tasg (tcall rTuple (tacons (tcomp (irng1 (tcon (Dt.int 8))) (fun x st P => P true st) (tcall KS.spNumber (tacons (tvar 1) tanil)) [(1, "hand")]) tanil)) (gname 3)) (tseq (tasg (tcall KS.spMarks (tacons (tvar 1) tanil)) (gname 4)) (tseq (tasg (tcall rTuple (tacons (tcomp (irng1 (tbin rDiv (tvar 2) (tcon (Dt.int 8)))) (fun x st P => P true st) (tbin rIxD (tlst (tacons (tcon (Dt.int 7)) (tacons (tcon (Dt.int 7)) (tacons (tcon (Dt.int 7)) (tacons (tcall KH.spDraw (tacons (tvar 1) (tacons (tcon (Dt.int 8)) tanil))) tanil))))) (tcall KH.spDraw (tacons (tvar 1) (tacons (tcon (Dt.int 4)) tanil)))) [(1, "hand")]) tanil)) (gname 5)) (tseq (tasg (tbin (rEqD false) (tcall KH.spDraw (tacons (tvar 1) (tacons (tcon (Dt.int 3)) tanil))) (tcon (Dt.int 0))) (gname 6)) (tseq (tifS (tbool (tvar 6)) (tseq (tasg (tbin L3.rAdd (tsliceA (tvar 5) tonone (tosome (tcon (Dt.int 1)))) (tbin rRepT (ttup (tacons (tcon (Dt.int 7)) tanil)) (tbin L3.rSub (tcall rLen (tacons (tvar 5) tanil)) (tcon (Dt.int 1))))) (gname 5)) tnext) tnext) (tseq (tasg (tbin rIxD (tlst (tacons (tcon Dt.non) (tacons (ttup (tacons (tcall KS.spNumber (tacons (tvar 1) tanil)) (tacons (tcall KS.spMarks (tacons (tvar 1) tanil)) tanil))) tanil))) (tcall KH.spDraw (tacons (tvar 1) (tacons (tcon (Dt.int 2)) tanil)))) (gname 7)) (tseq (tret (ttup (tacons (tcall KH.spDraw (tacons (tvar 1) (tacons (tbin L3.rAdd (tvar 2) (tcon (Dt.int 4))) tanil))) (tacons (tvar 3) (tacons (tvar 4) (tacons (tvar 7) (tacons (tvar 5) (tacons (tcall KS.spCells (tacons (tvar 0) (tacons (tvar 2) (tacons (tvar 6) tanil)))) tanil)))))))) tnext))))))))
theorem pickAt {st : Sto} {m : Nat} {xs : List Dt} {v : Int} {d : Dt} {P : VD} (e : st[m]? = some (.rw xs)) (a : atI xs v = some d) (h : P d st) : rIxD (.lst m) (.int v) st P := by
  simp only [rIxD, seqOf, e, Option.map_some, SO.items, a]
  exact h
theorem pickS {st : Sto} {m : Nat} {xs : List Dt} {v : Int} {d : Dt} {P : VD} (e : seqOf st (.lst m) = some xs) (a : atI xs v = some d) (h : P d st) : rIxD (.lst m) (.int v) st P := by
  simp only [rIxD, e, a]
  exact h
theorem atI_of {xs : List Dt} {v : Int} (h0 : 0 ≤ v) (h1 : v < xs.length) : ∃ d, atI xs v = some d ∧ d ∈ xs ∧ xs[v.toNat]? = some d := by
  have hl : v.toNat < xs.length := by omega
  refine ⟨xs[v.toNat], ?_, List.getElem_mem hl, List.getElem?_eq_getElem hl⟩
  unfold atI ixN
  rw [if_pos h0, if_pos h1]
  exact List.getElem?_eq_getElem hl
theorem pick {st : Sto} {m : Nat} {xs : List Dt} {v : Int} {P : VD} (e : st[m]? = some (.rw xs)) (h0 : 0 ≤ v) (h1 : v < xs.length) (h : ∀ d ∈ xs, P d st) : rIxD (.lst m) (.int v) st P := by
  obtain ⟨d, a, hm, _⟩ := atI_of h0 h1
  exact pickAt e a (h d hm)
theorem pickT {st : Sto} {xs : List Dt} {v : Int} {P : VD} (h0 : 0 ≤ v) (h1 : v < xs.length) (h : ∀ d, xs[v.toNat]? = some d → P d st) : rIxD (.tup xs) (.int v) st P := by
  obtain ⟨d, a, _, q⟩ := atI_of h0 h1
  simp only [rIxD, seqOf, a]
  exact h d q
theorem ne_of_hand {h : Nat} {st : Sto} (a : HandAt st h) : st.length ≠ h := by
  obtain ⟨o, q, _⟩ := a
  have := lt_of_get q
  omega
theorem get_int {xs : List Int} {i : Nat} {d : Dt} (h : (xs.map Dt.int)[i]? = some d) : ∃ x, xs[i]? = some x ∧ d = .int x := by
  rw [List.getElem?_map] at h
  cases q : xs[i]? with
  | none => rw [q] at h; cases h
  | some y => rw [q] at h; exact ⟨y, rfl, (Option.some.inj h).symm⟩
theorem all_ints (xs : List Int) (n : Nat) : (xs.map Dt.int).all (okD n) = true := by
  rw [List.all_map]
  exact List.all_eq_true.mpr fun x _ => by cases n <;> rfl
theorem ix5 {d0 d1 d2 d3 : Dt} {rs cs : List Int} {st : Sto} {P : VD} : rIxD (stD d0 d1 d2 d3 rs cs) (.int 5) st P = P (isD cs) st := rfl
theorem ix4 {d0 d1 d2 d3 : Dt} {rs cs : List Int} {st : Sto} {P : VD} : rIxD (stD d0 d1 d2 d3 rs cs) (.int 4) st P = P (isD rs) st := rfl
theorem lenI {xs : List Int} {st : Sto} {P : VD} : rLen [isD xs] st P = P (.int (xs.length : Nat)) st := by
  show P (.int ((xs.map Dt.int).length : Nat)) st = _
  rw [List.length_map]
theorem ixI {xs : List Int} {v : Int} {st : Sto} {P : VD} (h0 : 0 ≤ v) (h1 : v < xs.length) (h : P (.int (xs.getD v.toNat 0)) st) : rIxD (isD xs) (.int v) st P := by
  refine pickT h0 (by rw [List.length_map]; exact h1) fun d hd => ?_
  obtain ⟨x, hx, rfl⟩ := get_int hd
  rw [List.getD_eq_getElem?_getD, hx] at h
  exact h
theorem run_bit : ∀ r : Int, 0 ≤ r → r < 8 → (Builtin.bitAnd r 4 == 4) = decide (4 ≤ r) := by
  intro r h0 h1
  rcases (show r = 0 ∨ r = 1 ∨ r = 2 ∨ r = 3 ∨ r = 4 ∨ r = 5 ∨ r = 6 ∨ r = 7 by omega) with rfl | rfl | rfl | rfl | rfl | rfl | rfl | rfl <;> decide
theorem rd_may_be {ds : List Dt} {st : Sto} {Pd : VD} (h : spMay4 ds st Pd) : t_may_be (Ed Pd) (startD ["right", "state", "address"] ds) st := by
  obtain ⟨d0, d1, d2, d3, rs, cs, a, rfl, g, hP⟩ := h
  show t_may_be (Ed Pd) [some (.int 4), some (stD d0 d1 d2 d3 rs cs), some (.int a)] st
  simp only [t_may_be, if_true, if_false, Bool.false_eq_true, tseq, tasg, tret, tretN, tdrop, tbin, tvar, tcon, tcall, tcallK, tacons, tanil, tlst, ttup, gname, tnext, tneg, tbool, L3.rAdd, L3.rSub, rMul, rDiv, rMod, rCmpI, rEqD, List.map_cons, List.map_nil, List.length_cons, List.length_nil, List.cons_append, List.nil_append, List.set_cons_zero, List.set_cons_succ, List.getElem?_cons_zero, List.getElem?_cons_succ, tifS, tandB, torB, tnotB, tfor, irng1, irng2, tcomp, capρ, Option.join_some, tsliceA, tonone, tosome, rRepT]
  simp only [tchain, tcall, tacons, tanil, tbin, tvar, tcon, List.getElem?_cons_zero, List.getElem?_cons_succ, ix5, ix4, lenI]
  refine iteB (decide_eq_true (by omega)) ?_
  unfold mayRun at hP
  by_cases hc : a < cs.length
  · rw [decide_eq_true hc, Bool.true_and] at hP
    refine iteBF (show (!decide ((a : Int) < (cs.length : Nat))) = false by rw [decide_eq_true (by omega)]; rfl) ?_
    refine ⟨cdiv (by decide) (by decide), ?_⟩
    have hp := g.pg
    refine ixI (by omega) (by omega) ?_
    refine ⟨rfl, rfl, ?_⟩
    have e : ((a : Int) / 8).toNat = a / 8 := by omega
    rw [e]
    have hr : 0 ≤ rs.getD (a / 8) 0 ∧ rs.getD (a / 8) 0 < 8 := by
      have hl : a / 8 < rs.length := by omega
      have e : rs.getD (a / 8) 0 = rs[a / 8] := by simp [List.getD, hl]
      rw [e]
      exact g.rr _ (List.getElem_mem hl)
    show Pd (.bl ((Builtin.bitAnd (rs.getD (a / 8) 0) 4 == 4) != false)) st
    rw [run_bit _ hr.1 hr.2, bne_false']
    exact hP
  · rw [decide_eq_false hc, Bool.false_and] at hP
    exact iteB (show (!decide ((a : Int) < (cs.length : Nat))) = true by rw [decide_eq_false (by omega)]; rfl) hP
theorem cell_ok {rs cs : List Int} {a : Nat} (g : GoodS rs cs) (h : a < cs.length) : 0 ≤ cs.getD a 0 ∧ cs.getD a 0 < 65536 := by
  have e : cs.getD a 0 = cs[a] := by simp [List.getD, h]
  rw [e]
  exact g.cc _ (List.getElem_mem h)
theorem scr_keep {s h : Nat} {st st' : Sto} (a : Scr st s) (k : Keep h st st') (n : s ≠ h) : Scr st' s := by
  obtain ⟨o, q, r⟩ := a
  exact ⟨o, k.1 _ _ n q, r⟩
theorem nums_comp {ρ : Rho} {st : Sto} {P : VD} {h j : Nat} (hρ : ρ[j]? = some (some (.lst h))) (ha : HandAt st h) (hP : ∀ (bs : List Int) st', bs.length = 8 → (∀ b ∈ bs, 0 ≤ b ∧ b < 65536) → Keep h st st' → P (isD bs) st') :
    (tcall rTuple (tacons (tcomp (irng1 (tcon (Dt.int 8))) (fun x st P => P true st) (tcall KS.spNumber (tacons (tvar 1) tanil)) [(j, "hand")]) tanil)) ρ st P := by
  simp only [tcall, tacons, tcomp, irng1, tcon, capρ, List.map_cons, List.map_nil, hρ, Option.join_some]
  refine ⟨by decide, by decide, ?_⟩
  refine ⟨fun i ys s => ∃ bs : List Int, ys = bs.map .int ∧ bs.length = i ∧ (∀ b ∈ bs, 0 ≤ b ∧ b < 65536) ∧ Keep h st s, ⟨[], rfl, rfl, by simp, .refl ha⟩, fun _ _ _ _ _ => trivial, ?_, ?_⟩
  · rintro i d ys s hd ⟨bs, rfl, hl, hb, k⟩
    obtain ⟨hi, rfl⟩ := range_get hd
    refine ⟨by rw [List.length_map, hl]; exact small (by have : i < 8 := hi; omega), ?_⟩
    refine iteT ?_
    refine ⟨h, rfl, k.2, fun v s1 v0 v1 k1 => ?_⟩
    refine ⟨bs ++ [v], by rw [List.map_append]; rfl, by simp [hl], fun b hb' => ?_, k.trans k1⟩
    rcases List.mem_append.mp hb' with q | q
    · exact hb b q
    · rw [List.mem_singleton.mp q]; exact ⟨v0, v1⟩
  · rintro ys s ⟨bs, rfl, hl, hb, k⟩
    simp only [rTuple, seqOf, get_new, Option.map_some, SO.items, tanil]
    exact hP bs _ hl hb (k.app _)
theorem rights_comp {ρ : Rho} {st : Sto} {P : VD} {h m : Nat} {z : Int} (hρ : ρ[1]? = some (some (.lst h))) (hz : ρ[2]? = some (some (.int z))) (hm : z = 8 * (m : Int)) (hm2 : m < 17) (ha : HandAt st h) (hP : ∀ (rs : List Int) st', rs.length = m → (∀ b ∈ rs, 0 ≤ b ∧ b < 8) → Keep h st st' → P (isD rs) st') :
    (tcall rTuple (tacons (tcomp (irng1 (tbin rDiv (tvar 2) (tcon (Dt.int 8)))) (fun x st P => P true st) (tbin rIxD (tlst (tacons (tcon (Dt.int 7)) (tacons (tcon (Dt.int 7)) (tacons (tcon (Dt.int 7)) (tacons (tcall KH.spDraw (tacons (tvar 1) (tacons (tcon (Dt.int 8)) tanil))) tanil))))) (tcall KH.spDraw (tacons (tvar 1) (tacons (tcon (Dt.int 4)) tanil)))) [(1, "hand")]) tanil)) ρ st P := by
  simp only [tcall, tacons, tcomp, irng1, tcon, capρ, List.map_cons, List.map_nil, hρ, Option.join_some, tbin, tvar, hz, rDiv, List.getElem?_cons_zero, List.getElem?_cons_succ, tlst]
  have ez : z / 8 = m := by omega
  rw [ez]
  refine ⟨cdiv (by decide) (by decide), by omega, by omega, ?_⟩
  refine ⟨fun i ys s => ∃ bs : List Int, ys = bs.map .int ∧ bs.length = i ∧ (∀ b ∈ bs, 0 ≤ b ∧ b < 8) ∧ Keep h st s, ⟨[], rfl, rfl, by simp, .refl ha⟩, fun _ _ _ _ _ => trivial, ?_, ?_⟩
  · rintro i d ys s hd ⟨bs, rfl, hl, hb, k⟩
    obtain ⟨hi, rfl⟩ := range_get hd
    refine ⟨by rw [List.length_map, hl]; exact small (by omega), ?_⟩
    refine iteT ?_
    refine ⟨h, 8, rfl, by decide, by decide, k.2, fun v s1 v0 v1 k1 => ?_⟩
    refine ⟨by show 4 ≤ sizeLine; decide, ?_⟩
    refine ⟨h, 4, rfl, by decide, by decide, (k1.app _).2, fun w s2 w0 w1 k2 => ?_⟩
    have e := k2.1 _ _ (ne_of_hand k1.2) get_new
    refine pick e w0 w1 fun d hd => ?_
    obtain ⟨x, rfl, x0, x1⟩ : ∃ x : Int, d = .int x ∧ 0 ≤ x ∧ x < 8 := by
      simp only [tanil, List.mem_cons, List.not_mem_nil, or_false] at hd
      rcases hd with rfl | rfl | rfl | rfl
      · exact ⟨_, rfl, by decide, by decide⟩
      · exact ⟨_, rfl, by decide, by decide⟩
      · exact ⟨_, rfl, by decide, by decide⟩
      · exact ⟨_, rfl, v0, v1⟩
    refine ⟨bs ++ [x], by rw [List.map_append]; rfl, by simp [hl], fun b hb' => ?_, k.trans ((k1.app _).trans k2)⟩
    rcases List.mem_append.mp hb' with q | q
    · exact hb b q
    · rw [List.mem_singleton.mp q]; exact ⟨x0, x1⟩
  · rintro ys s ⟨bs, rfl, hl, hb, k⟩
    simp only [rTuple, seqOf, get_new, Option.map_some, SO.items, tanil]
    exact hP bs _ (by rw [hl]; simp [rangeD]) hb (k.app _)
noncomputable def stateTail : TSD := (tseq (tasg (tbin rIxD (tlst (tacons (tcon Dt.non) (tacons (ttup (tacons (tcall KS.spNumber (tacons (tvar 1) tanil)) (tacons (tcall KS.spMarks (tacons (tvar 1) tanil)) tanil))) tanil))) (tcall KH.spDraw (tacons (tvar 1) (tacons (tcon (Dt.int 2)) tanil)))) (gname 7)) (tseq (tret (ttup (tacons (tcall KH.spDraw (tacons (tvar 1) (tacons (tbin L3.rAdd (tvar 2) (tcon (Dt.int 4))) tanil))) (tacons (tvar 3) (tacons (tvar 4) (tacons (tvar 7) (tacons (tvar 5) (tacons (tcall KS.spCells (tacons (tvar 0) (tacons (tvar 2) (tacons (tvar 6) tanil)))) tanil)))))))) tnext))
theorem state_tail {E : EndsD} {st : Sto} {s h m : Nat} {d1 d2 : Dt} {rs : List Int} {calm : Bool} {a7 : Option Dt} (hm : m < 17) (hr : rs.length = m) (hrr : ∀ r ∈ rs, 0 ≤ r ∧ r < 8) (ha : HandAt st h) (hs : Scr st s) (hne : s ≠ h) (o1 : ∃ bs : List Int, d1 = isD bs ∧ bs.length = 8 ∧ ∀ b ∈ bs, 0 ≤ b ∧ b < 65536) (o2 : ∃ ms : List Bool, d2 = .tup (ms.map .bl) ∧ ms.length = 3)
    (hE : ∀ d0 d1 d2 d3 rs cs st', Drawn d0 d1 d2 d3 rs cs → Keep h st st' → E.rt (stD d0 d1 d2 d3 rs cs) st') :
    stateTail E [some (.lst s), some (.lst h), some (.int (8 * (m : Int))), some d1, some d2, some (isD rs), some (.bl calm), a7] st := by
  simp only [stateTail, if_true, if_false, Bool.false_eq_true, tseq, tasg, tret, tretN, tdrop, tbin, tvar, tcon, tcall, tcallK, tacons, tanil, tlst, ttup, gname, tnext, tneg, tbool, L3.rAdd, L3.rSub, rMul, rDiv, rMod, rCmpI, rEqD, List.map_cons, List.map_nil, List.length_cons, List.length_nil, List.cons_append, List.nil_append, List.set_cons_zero, List.set_cons_succ, List.getElem?_cons_zero, List.getElem?_cons_succ, tifS, tandB, torB, tnotB, tfor, irng1, irng2, tcomp, capρ, Option.join_some, tsliceA, tonone, tosome, rRepT]
  refine ⟨h, rfl, ha, fun v s1 v0 v1 k1 => ?_⟩
  refine ⟨h, rfl, k1.2, fun bs s2 hb k2 => ?_⟩
  refine ⟨by show 2 ≤ sizeLine; decide, by show 2 ≤ sizeLine; decide, ?_⟩
  refine ⟨h, 2, rfl, by decide, by decide, (k2.app _).2, fun w s3 w0 w1 k3 => ?_⟩
  have e := k3.1 _ _ (ne_of_hand k2.2) get_new
  have K3 : Keep h st s3 := (k1.trans (k2.app _)).trans k3
  refine pick e w0 w1 fun d hd => ?_
  have od : d = .non ∨ ∃ (v : Int) (ms : List Bool), d = .tup [.int v, .tup (ms.map .bl)] ∧ 0 ≤ v ∧ v < 65536 ∧ ms.length = 3 := by
    simp only [List.mem_cons, List.not_mem_nil, or_false] at hd
    rcases hd with rfl | rfl
    · exact .inl rfl
    · exact .inr ⟨v, bs, rfl, v0, v1, hb⟩
  refine ⟨h, 8 * (m : Int) + 4, rfl, by omega, by omega, K3.2, fun p s4 p0 p1 k4 => ?_⟩
  have K4 := K3.trans k4
  refine ⟨s, 8 * (m : Int), calm, rfl, scr_keep hs K4 hne, by omega, by omega, fun cs s5 hl hc e5 => ?_⟩
  refine ⟨by show 6 ≤ sizeLine; decide, ?_⟩
  exact hE (.int p) d1 d2 d rs cs s5 ⟨⟨by omega, by omega, hrr, hc⟩, ⟨p, rfl, p0⟩, o1, o2, od⟩ (K4.trans (.of K4.2 e5))
theorem take_rep {rs : List Int} (h : rs.length ≤ 17) : L3.cutD (rs.map Dt.int) none (some 1) ++ (List.replicate (((rs.length : Nat) : Int) - 1).toNat [Dt.int 7]).flatten = (rs.take 1 ++ List.replicate (rs.length - 1) 7).map Dt.int := by
  have e : (((rs.length : Nat) : Int) - 1).toNat = rs.length - 1 := by omega
  rw [e]
  have e2 : (List.replicate (rs.length - 1) [Dt.int 7]).flatten = List.replicate (rs.length - 1) (Dt.int 7) := by
    generalize rs.length - 1 = k
    induction k with
    | zero => rfl
    | succ k ih => rw [List.replicate_succ, List.flatten_cons, ih, List.replicate_succ]; rfl
  rw [e2, List.map_append, List.map_replicate, List.map_take]
  congr 1
  unfold L3.cutD
  rw [HT.sIx_none]
  have := HT.sIx_nat (rs.map Dt.int).length (rs.map Dt.int).length 1
  rw [show ((1 : Nat) : Int) = 1 from rfl] at this
  rw [this, List.drop_zero, Nat.sub_zero]
  cases rs with
  | nil => rfl
  | cons r rs => simp
theorem rd__law_state {ds : List Dt} {st : Sto} {Pd : VD} (h : spState ds st Pd) : t__law_state (Ed Pd) (startD ["script", "hand", "size", "boxes", "marks", "rights", "calm", "saved"] ds) st := by
  obtain ⟨s, h, rfl, hs, ha, hne, hP⟩ := h
  refine ⟨h, 17, rfl, by decide, by decide, ha, fun v s1 v0 v1 k1 => ?_⟩
  obtain ⟨m, rfl⟩ : ∃ m : Nat, v = (m : Int) := ⟨v.toNat, by omega⟩
  have hm : m < 17 := by omega
  refine ⟨cmul_l (by decide) (by decide), ?_⟩
  refine nums_comp rfl k1.2 fun bs s2 hb hbb k2 => ?_
  refine ⟨h, rfl, k2.2, fun ms s3 hms k3 => ?_⟩
  refine rights_comp (ρ := [some (.lst s), some (.lst h), some (.int (8 * (m : Int))), some (isD bs), some (.tup (ms.map .bl)), none, none, none]) (m := m) (z := 8 * (m : Int)) rfl rfl rfl hm k3.2 fun rs s4 hr hrr k4 => ?_
  refine ⟨h, 3, rfl, by decide, by decide, k4.2, fun c s5 c0 c1 k5 => ?_⟩
  refine ⟨rfl, rfl, ?_⟩
  have K5 : Keep h st s5 := (((k1.trans k2).trans k3).trans k4).trans k5
  have o1 : ∃ b : List Int, isD bs = isD b ∧ b.length = 8 ∧ ∀ x ∈ b, 0 ≤ x ∧ x < 65536 := ⟨bs, rfl, hb, hbb⟩
  have o2 : ∃ b : List Bool, Dt.tup (ms.map .bl) = .tup (b.map .bl) ∧ b.length = 3 := ⟨ms, rfl, hms⟩
  have hE : ∀ d0 d1 d2 d3 rs cs st', Drawn d0 d1 d2 d3 rs cs → Keep h s5 st' → Pd (stD d0 d1 d2 d3 rs cs) st' := fun d0 d1 d2 d3 rs cs st' dr k => hP d0 d1 d2 d3 rs cs st' dr (K5.trans k)
  have hs5 := scr_keep hs K5 hne
  generalize (eqD 8 (Dt.int c) (Dt.int 0) != false) = calm
  cases calm with
  | false => exact state_tail (E := Ed Pd) hm hr hrr K5.2 hs5 hne o1 o2 hE
  | true =>
    have hz : (rs.take 1 ++ List.replicate (rs.length - 1) 7).length = m := by simp; omega
    have main := state_tail (E := Ed Pd) (calm := true) (a7 := none) hm hz (fun r q => by
      rcases List.mem_append.mp q with q | q
      · exact hrr r (List.mem_of_mem_take q)
      · rw [List.eq_of_mem_replicate q]; exact ⟨by decide, by decide⟩) K5.2 hs5 hne o1 o2 hE
    show (tseq (tasg (tbin L3.rAdd (tsliceA (tvar 5) tonone (tosome (tcon (Dt.int 1)))) (tbin rRepT (ttup (tacons (tcon (Dt.int 7)) tanil)) (tbin L3.rSub (tcall rLen (tacons (tvar 5) tanil)) (tcon (Dt.int 1))))) (gname 5)) tnext) { Ed Pd with nx := stateTail (Ed Pd) } [some (.lst s), some (.lst h), some (.int (8 * (m : Int))), some (isD bs), some (.tup (ms.map .bl)), some (isD rs), some (.bl true), none] s5
    simp only [tseq, tasg, tbin, tsliceA, tvar, tonone, tosome, tcon, ttup, tacons, tanil, tcall, lenI, L3.rSub, rRepT, L3.rAdd, gname, tnext, List.getElem?_cons_zero, List.getElem?_cons_succ, List.set_cons_zero, List.set_cons_succ]
    have hr' : rs.length ≤ 17 := by omega
    refine ⟨by show 1 ≤ sizeLine; decide, by simp, by omega, by omega, ?_, ?_, ?_⟩
    · have : 17 < sizeLine := small (by decide)
      simp; omega
    · rw [← List.length_append, take_rep hr', List.length_map, hz]
      exact Nat.le_of_lt (small (by omega))
    · rw [take_rep hr']
      exact main
end KS
namespace K06
open PySem L2 L3
noncomputable abbrev M3 := Bool × Bool × Bool
structure GS where
  p : Int
  bs : List Int
  m : M3
  sv : Option (Int × M3)
  rs : List Int
  cs : List Int
noncomputable def msD (m : M3) : Dt := .tup [.bl m.1, .bl m.2.1, .bl m.2.2]
noncomputable def svD : Option (Int × M3) → Dt
  | none => .non
  | some (q, m) => .tup [.int q, msD m]
noncomputable def GS.d (g : GS) : Dt := .tup [.int g.p, .tup (g.bs.map .int), msD g.m, svD g.sv, .tup (g.rs.map .int), .tup (g.cs.map .int)]
structure GS.Ok (g : GS) : Prop where
  p0 : 0 ≤ g.p
  b8 : g.bs.length = 8
  bb : ∀ v ∈ g.bs, 0 ≤ v ∧ v < 65536
  c8 : g.cs.length = 8 * g.rs.length
  cm : g.cs.length ≤ 128
  cb : ∀ v ∈ g.cs, 0 ≤ v ∧ v < 65536
  rb : ∀ v ∈ g.rs, 0 ≤ v ∧ v < 8
noncomputable def bx (g : GS) (i : Int) : Int := g.bs.getD i.toNat 0
noncomputable def may (r : Int) (g : GS) (a : Int) : Bool := (decide (0 ≤ a) && decide (a < g.cs.length)) && decide (g.rs.getD (a / 8).toNat 0 / r % 2 = 1)
noncomputable def next (g : GS) : GS := { g with p := (g.p + 1) % 65536 }
noncomputable def boxG (g : GS) (a v : Int) : GS := { next g with bs := g.bs.set a.toNat v }
noncomputable def outG (g : GS) (a v : Int) (k : Bool) : GS := { boxG g a v with m := (decide (v = 0), decide (32768 ≤ v), k) }
noncomputable def plainG (w x y : Int) : Int := if w = 2 then x + y else if w = 3 then x - y else x * y
noncomputable abbrev Res := Str × GS × List Int
noncomputable def resD (r : Res) : Dt := .tup [.str r.1, r.2.1.d, .tup (r.2.2.map .int)]
noncomputable def onG (g : GS) : Res := ("on", g, [])
noncomputable def leftG (h : Str) (g : GS) : Res := (h, g, [])
noncomputable def whenG (a : Int) (m : M3) : Bool := if a = 0 then m.1 else if a = 1 then !m.1 else if a = 2 then m.2.1 else if a = 3 then !m.2.1 else if a = 4 then m.2.2 else if a = 5 then !m.2.2 else decide (a = 6)
noncomputable def leap (g : GS) (c : Int) : GS := { g with p := (g.p + 1 + c - 32) % 65536 }
noncomputable def countG (g : GS) (w a x y : Int) : Res := onG (outG g a (plainG w x y % 65536) (!(decide (0 ≤ plainG w x y) && decide (plainG w x y < 65536))))
noncomputable def divG (g : GS) (a x y : Int) : Res := if y = 0 then leftG "nought" g else onG (outG g a (x / y) (decide (x % y ≠ 0)))
noncomputable def getG (g : GS) (a q : Int) : Res := if may 1 g q = true then onG (boxG g a (g.cs.getD q.toNat 0)) else leftG "closed" g
noncomputable def setG (g : GS) (v q : Int) : Res := if may 2 g q = true then onG { next g with cs := g.cs.set q.toNat v } else leftG "closed" g
noncomputable def rightG (g : GS) (q r : Int) : Res := if 0 ≤ q ∧ q < g.rs.length then onG { next g with rs := g.rs.set q.toNat r } else leftG "closed" g
noncomputable def backG (g : GS) : Res := match g.sv with
  | none => leftG "bad" g
  | some (q, m) => onG { g with p := q, m := m, sv := none }
noncomputable def doW (g : GS) (w a b c h : Int) : Res :=
  if w = 1 then onG (boxG g a c)
  else if w = 2 ∨ w = 3 ∨ w = 4 then countG g w a (bx g b) (bx g (c % 8))
  else if w = 6 then divG g a (bx g b) (bx g (c % 8))
  else if w = 7 then getG g a (bx g b + c)
  else if w = 8 then setG g (bx g a) (bx g b + c)
  else if w = 9 then onG (leap g c)
  else if w = 10 then (if whenG a g.m = true then onG (leap g c) else onG (next g))
  else if w = 11 then onG { g with p := bx g a % 65536 }
  else if w = 12 then ("on", next g, [bx g a])
  else if w = 13 then onG (boxG g a h)
  else if w = 14 then rightG g (bx g a) (c % 8)
  else if w = 15 then backG g
  else if w = 0 then leftG "halt" g else leftG "bad" g
noncomputable def doR (g : GS) (h : Int) : Res := if may 4 g g.p = true then doW g (g.cs.getD g.p.toNat 0 / 4096 % 16) (g.cs.getD g.p.toNat 0 / 512 % 8) (g.cs.getD g.p.toNat 0 / 64 % 8) (g.cs.getD g.p.toNat 0 % 64) h else leftG "closed" g
noncomputable def spReplaced : RDL := fun ds st P => ∃ (xs : List Dt) (k : Int) (d : Dt), ds = [.tup xs, .int k, d] ∧ 0 ≤ k ∧ k < xs.length ∧ xs.length ≤ 200 ∧ P (.tup (xs.set k.toNat d)) st
noncomputable def spMay : RDL := fun ds st P => ∃ (r : Int) (g : GS) (a : Int), ds = [.int r, g.d, .int a] ∧ g.Ok ∧ (r = 1 ∨ r = 2 ∨ r = 4) ∧ P (.bl (may r g a)) st
noncomputable def spMoved : RDL := fun ds st P => ∃ (g : GS) (q : Int), ds = [g.d, .int q] ∧ P ({ g with p := q % 65536 } : GS).d st
noncomputable def spOneOn : RDL := fun ds st P => ∃ g : GS, ds = [g.d] ∧ P (next g).d st
noncomputable def spWithBox : RDL := fun ds st P => ∃ (g : GS) (a v : Int), ds = [g.d, .int a, .int v] ∧ g.bs.length = 8 ∧ 0 ≤ a ∧ a < 8 ∧ P (boxG g a v).d st
noncomputable def spWithOut : RDL := fun ds st P => ∃ (g : GS) (a v : Int) (k : Bool), ds = [g.d, .int a, .int v, .bl k] ∧ g.bs.length = 8 ∧ 0 ≤ a ∧ a < 8 ∧ P (outG g a v k).d st
noncomputable def spLeft : RDL := fun ds st P => ∃ (h : Str) (d : Dt), ds = [.str h, d] ∧ P (.tup [.str h, d, .tup []]) st
noncomputable def spOn : RDL := fun ds st P => ∃ d : Dt, ds = [d] ∧ P (.tup [.str "on", d, .tup []]) st
noncomputable def wName (w : Int) : Str := K01.wordOf w
noncomputable def spPlain : RDL := fun ds st P => ∃ (w x y : Int), ds = [.str (wName w), .int x, .int y] ∧ (w = 2 ∨ w = 3 ∨ w = 4) ∧ 0 ≤ x ∧ x < 65536 ∧ P (.int (plainG w x y)) st
noncomputable def spCount : RDL := fun ds st P => ∃ (g : GS) (w a x y : Int), ds = [g.d, .str (wName w), .int a, .int x, .int y] ∧ (w = 2 ∨ w = 3 ∨ w = 4) ∧ g.bs.length = 8 ∧ 0 ≤ a ∧ a < 8 ∧ 0 ≤ x ∧ x < 65536 ∧ P (resD (countG g w a x y)) st
noncomputable def spDiv : RDL := fun ds st P => ∃ (g : GS) (a x y : Int), ds = [g.d, .int a, .int x, .int y] ∧ g.bs.length = 8 ∧ 0 ≤ a ∧ a < 8 ∧ 0 ≤ y ∧ y < 65536 ∧ P (resD (divG g a x y)) st
noncomputable def spGet : RDL := fun ds st P => ∃ (g : GS) (a q : Int), ds = [g.d, .int a, .int q] ∧ g.Ok ∧ 0 ≤ a ∧ a < 8 ∧ P (resD (getG g a q)) st
noncomputable def spSet : RDL := fun ds st P => ∃ (g : GS) (v q : Int), ds = [g.d, .int v, .int q] ∧ g.Ok ∧ P (resD (setG g v q)) st
noncomputable def spIsWhen : RDL := fun ds st P => ∃ (a : Int) (m : M3), ds = [.int a, msD m] ∧ 0 ≤ a ∧ a < 8 ∧ P (.bl (whenG a m)) st
noncomputable def spLeapPlace : RDL := fun ds st P => ∃ p c : Int, ds = [.int p, .int c] ∧ P (.int ((p + 1 + c - 32) % 65536)) st
noncomputable def spLeap : RDL := fun ds st P => ∃ (g : GS) (c : Int), ds = [g.d, .int c] ∧ P (resD (onG (leap g c))) st
noncomputable def spRightW : RDL := fun ds st P => ∃ (g : GS) (q r : Int), ds = [g.d, .int q, .int r] ∧ g.Ok ∧ P (resD (rightG g q r)) st
noncomputable def spBack : RDL := fun ds st P => ∃ g : GS, ds = [g.d] ∧ P (resD (backG g)) st
noncomputable def spDoWord : RDL := fun ds st P => ∃ (g : GS) (w a b c h : Int), ds = [g.d, .tup [.str (wName w), .int a, .int b, .int c], .int h] ∧ g.Ok ∧ 0 ≤ w ∧ w < 16 ∧ 0 ≤ a ∧ a < 8 ∧ 0 ≤ b ∧ b < 8 ∧ 0 ≤ c ∧ c < 64 ∧ P (resD (doW g w a b c h)) st
noncomputable def spDoRow : RDL := fun ds st P => ∃ (g : GS) (h : Int), ds = [g.d, .int h] ∧ g.Ok ∧ P (resD (doR g h)) st
noncomputable def spSpun : RDL := fun ds st P => ∃ c k : Int, ds = [.int c, .int k] ∧ ∀ v : Int, 0 ≤ v → P (.int v) st
noncomputable def spState : RDL := fun ds st P => ∃ c : Int, ds = [.int c] ∧ ∀ (g : GS) st', g.Ok → ExtS st st' → P g.d st'
noncomputable def spLMay : RDL := fun ds st P => ∃ (g : GS) (a k : Int), ds = [.tup (g.rs.map .int), .tup (g.cs.map .int), .int a, .int k] ∧ g.Ok ∧ 0 ≤ a ∧ 0 ≤ k ∧ k < 3 ∧ ∀ st', ExtS st st' → P (.bl (may (if k = 0 then 1 else if k = 1 then 2 else 4) g a)) st'
noncomputable def spReck : RDL := fun ds st P => ∃ (g : GS) (w a b c : Int), ds = [g.d, .int w, .int a, .int b, .int c] ∧ g.Ok ∧ g.p < 128 ∧ (w = 2 ∨ w = 3 ∨ w = 4 ∨ w = 6) ∧ 0 ≤ a ∧ a < 8 ∧ 0 ≤ b ∧ b < 8 ∧ 0 ≤ c ∧ ∀ st', ExtS st st' → P (resD (doW g w a b c 0)) st'
noncomputable def spTouch : RDL := fun ds st P => ∃ (g : GS) (w a b c : Int), ds = [g.d, .int w, .int a, .int b, .int c] ∧ g.Ok ∧ g.p < 128 ∧ (w = 7 ∨ w = 8 ∨ w = 14) ∧ 0 ≤ a ∧ a < 8 ∧ 0 ≤ b ∧ b < 8 ∧ 0 ≤ c ∧ ∀ st', ExtS st st' → P (resD (doW g w a b c 0)) st'
noncomputable def spDue : RDL := fun ds st P => ∃ (g : GS) (h : Int), ds = [g.d, .int h] ∧ g.Ok ∧ ∀ st', ExtS st st' → P (resD (doR g h)) st'
end K06
namespace K06
open PySem PySem.Spec PyProof.Rows L2 L3
noncomputable abbrev t_replaced : TSD := (tseq (tret (tbin L3.rAdd (tbin L3.rAdd (tslice (tvar 0) tonone (tosome (tvar 1))) (ttup (tacons (tvar 2) tanil))) (tslice (tvar 0) (tosome (tbin L3.rAdd (tvar 1) (tcon (Dt.int 1)))) tonone))) tnext)
noncomputable abbrev t_may_be : TSD := (tseq (tifS (tnotB (tbool (tchain (fun i j => decide (i ≤ j)) (fun i j => decide (i < j)) (tcon (Dt.int 0)) (tvar 2) (tcall rLen (tacons (tbin rIxD (tvar 1) (tcon (Dt.int 5))) tanil))))) (tseq (tret (tcon (Dt.bl false))) tnext) tnext) (tseq (tret (tbin (rEqD false) (tbin rAndB (tbin rIxD (tbin rIxD (tvar 1) (tcon (Dt.int 4))) (tbin rDiv (tvar 2) (tcon (Dt.int 8)))) (tvar 0)) (tvar 0))) tnext))
noncomputable abbrev t_moved : TSD := (tseq (tret (tcall spReplaced (tacons (tvar 0) (tacons (tcon (Dt.int 0)) (tacons (tbin rMod (tvar 1) (tcon (Dt.int 65536))) tanil))))) tnext)
noncomputable abbrev t_one_on : TSD := (tseq (tret (tcall spMoved (tacons (tvar 0) (tacons (tbin L3.rAdd (tbin rIxD (tvar 0) (tcon (Dt.int 0))) (tcon (Dt.int 1))) tanil)))) tnext)
noncomputable abbrev t_with_box : TSD := (tseq (tret (tcall spReplaced (tacons (tcall spOneOn (tacons (tvar 0) tanil)) (tacons (tcon (Dt.int 1)) (tacons (tcall spReplaced (tacons (tbin rIxD (tvar 0) (tcon (Dt.int 1))) (tacons (tvar 1) (tacons (tvar 2) tanil)))) tanil))))) tnext)
noncomputable abbrev t_with_outcome : TSD := (tseq (tret (tcall spReplaced (tacons (tcall spWithBox (tacons (tvar 0) (tacons (tvar 1) (tacons (tvar 2) tanil)))) (tacons (tcon (Dt.int 2)) (tacons (ttup (tacons (tbin (rEqD false) (tvar 2) (tcon (Dt.int 0))) (tacons (tbin (rCmpI fun i j => decide (j ≤ i)) (tvar 2) (tcon (Dt.int 32768))) (tacons (tvar 3) tanil)))) tanil))))) tnext)
noncomputable abbrev t_left : TSD := (tseq (tret (ttup (tacons (tvar 0) (tacons (tvar 1) (tacons (ttup tanil) tanil))))) tnext)
noncomputable abbrev t_on : TSD := (tseq (tret (ttup (tacons (tcon (Dt.str (Str.ofString "on"))) (tacons (tvar 0) (tacons (ttup tanil) tanil))))) tnext)
noncomputable abbrev t_plain_outcome : TSD := (tseq (tifS (tbool (tbin (rEqD false) (tvar 0) (tcon (Dt.str (Str.ofString "add"))))) (tseq (tret (tbin L3.rAdd (tvar 1) (tvar 2))) tnext) tnext) (tseq (tifS (tbool (tbin (rEqD false) (tvar 0) (tcon (Dt.str (Str.ofString "sub"))))) (tseq (tret (tbin L3.rSub (tvar 1) (tvar 2))) tnext) tnext) (tseq (tret (tbin rMul (tvar 1) (tvar 2))) tnext)))
noncomputable abbrev t_do_count : TSD := (tseq (tasg (tcall spPlain (tacons (tvar 1) (tacons (tvar 3) (tacons (tvar 4) tanil)))) (gname 5)) (tseq (tret (tcall spOn (tacons (tcall spWithOut (tacons (tvar 0) (tacons (tvar 2) (tacons (tbin rMod (tvar 5) (tcon (Dt.int 65536))) (tacons (tnotV (tchain (fun i j => decide (i ≤ j)) (fun i j => decide (i < j)) (tcon (Dt.int 0)) (tvar 5) (tcon (Dt.int 65536)))) tanil))))) tanil))) tnext))
noncomputable abbrev t_do_div : TSD := (tseq (tifS (tbool (tbin (rEqD false) (tvar 3) (tcon (Dt.int 0)))) (tseq (tret (tcall spLeft (tacons (tcon (Dt.str (Str.ofString "nought"))) (tacons (tvar 0) tanil)))) tnext) tnext) (tseq (tret (tcall spOn (tacons (tcall spWithOut (tacons (tvar 0) (tacons (tvar 1) (tacons (tbin rDiv (tvar 2) (tvar 3)) (tacons (tbin (rEqD true) (tbin rMod (tvar 2) (tvar 3)) (tcon (Dt.int 0))) tanil))))) tanil))) tnext))
noncomputable abbrev t_do_get : TSD := (tseq (tifS (tnotB (tbool (tcall spMay (tacons (tcon (Dt.int 1)) (tacons (tvar 0) (tacons (tvar 2) tanil)))))) (tseq (tret (tcall spLeft (tacons (tcon (Dt.str (Str.ofString "closed"))) (tacons (tvar 0) tanil)))) tnext) tnext) (tseq (tret (tcall spOn (tacons (tcall spWithBox (tacons (tvar 0) (tacons (tvar 1) (tacons (tbin rIxD (tbin rIxD (tvar 0) (tcon (Dt.int 5))) (tvar 2)) tanil)))) tanil))) tnext))
noncomputable abbrev t_do_set : TSD := (tseq (tifS (tnotB (tbool (tcall spMay (tacons (tcon (Dt.int 2)) (tacons (tvar 0) (tacons (tvar 2) tanil)))))) (tseq (tret (tcall spLeft (tacons (tcon (Dt.str (Str.ofString "closed"))) (tacons (tvar 0) tanil)))) tnext) tnext) (tseq (tret (tcall spOn (tacons (tcall spReplaced (tacons (tcall spOneOn (tacons (tvar 0) tanil)) (tacons (tcon (Dt.int 5)) (tacons (tcall spReplaced (tacons (tbin rIxD (tvar 0) (tcon (Dt.int 5))) (tacons (tvar 2) (tacons (tvar 1) tanil)))) tanil)))) tanil))) tnext))
noncomputable abbrev t_is_when : TSD := (tseq (tifS (tbool (tbin (rCmpI fun i j => decide (j ≤ i)) (tvar 0) (tcon (Dt.int 6)))) (tseq (tret (tbin (rEqD false) (tvar 0) (tcon (Dt.int 6)))) tnext) tnext) (tseq (tret (tbin (rEqD false) (tbin rIxD (tvar 1) (tbin rDiv (tvar 0) (tcon (Dt.int 2)))) (tbin (rEqD false) (tbin rMod (tvar 0) (tcon (Dt.int 2))) (tcon (Dt.int 0))))) tnext))
noncomputable abbrev t_leap_place : TSD := (tseq (tret (tbin rMod (tbin L3.rSub (tbin L3.rAdd (tbin L3.rAdd (tvar 0) (tcon (Dt.int 1))) (tvar 1)) (tcon (Dt.int 32))) (tcon (Dt.int 65536)))) tnext)
noncomputable abbrev t_do_leap : TSD := (tseq (tret (tcall spOn (tacons (tcall spMoved (tacons (tvar 0) (tacons (tcall spLeapPlace (tacons (tbin rIxD (tvar 0) (tcon (Dt.int 0))) (tacons (tvar 1) tanil))) tanil))) tanil))) tnext)
noncomputable abbrev t_do_right : TSD := (tseq (tifS (tnotB (tbool (tchain (fun i j => decide (i ≤ j)) (fun i j => decide (i < j)) (tcon (Dt.int 0)) (tvar 1) (tcall rLen (tacons (tbin rIxD (tvar 0) (tcon (Dt.int 4))) tanil))))) (tseq (tret (tcall spLeft (tacons (tcon (Dt.str (Str.ofString "closed"))) (tacons (tvar 0) tanil)))) tnext) tnext) (tseq (tret (tcall spOn (tacons (tcall spReplaced (tacons (tcall spOneOn (tacons (tvar 0) tanil)) (tacons (tcon (Dt.int 4)) (tacons (tcall spReplaced (tacons (tbin rIxD (tvar 0) (tcon (Dt.int 4))) (tacons (tvar 1) (tacons (tvar 2) tanil)))) tanil)))) tanil))) tnext))
noncomputable abbrev t_do_back : TSD := (tseq (tasg (tbin rIxD (tvar 0) (tcon (Dt.int 3))) (gname 1)) (tseq (tifS (tbool (tbin (rIsD false) (tvar 1) (tcon Dt.non))) (tseq (tret (tcall spLeft (tacons (tcon (Dt.str (Str.ofString "bad"))) (tacons (tvar 0) tanil)))) tnext) tnext) (tseq (tret (tcall spOn (tacons (ttup (tacons (tbin rIxD (tvar 1) (tcon (Dt.int 0))) (tacons (tbin rIxD (tvar 0) (tcon (Dt.int 1))) (tacons (tbin rIxD (tvar 1) (tcon (Dt.int 1))) (tacons (tcon Dt.non) (tacons (tbin rIxD (tvar 0) (tcon (Dt.int 4))) (tacons (tbin rIxD (tvar 0) (tcon (Dt.int 5))) tanil))))))) tanil))) tnext)))
noncomputable abbrev t_do_word : TSD := (tseq (tasg (tbin rIxD (tvar 1) (tcon (Dt.int 0))) (gname 3)) (tseq (tasg (tbin rIxD (tvar 1) (tcon (Dt.int 1))) (gname 4)) (tseq (tasg (tbin rIxD (tvar 1) (tcon (Dt.int 2))) (gname 5)) (tseq (tasg (tbin rIxD (tvar 1) (tcon (Dt.int 3))) (gname 6)) (tseq (tasg (tbin rIxD (tvar 0) (tcon (Dt.int 1))) (gname 7)) (tseq (tifS (tbool (tbin (rEqD false) (tvar 3) (tcon (Dt.str (Str.ofString "put"))))) (tseq (tret (tcall spOn (tacons (tcall spWithBox (tacons (tvar 0) (tacons (tvar 4) (tacons (tvar 6) tanil)))) tanil))) tnext) tnext) (tseq (tifS (tbool (tbin (rInD false) (tvar 3) (ttup (tacons (tcon (Dt.str (Str.ofString "add"))) (tacons (tcon (Dt.str (Str.ofString "sub"))) (tacons (tcon (Dt.str (Str.ofString "mul"))) tanil)))))) (tseq (tret (tcall spCount (tacons (tvar 0) (tacons (tvar 3) (tacons (tvar 4) (tacons (tbin rIxD (tvar 7) (tvar 5)) (tacons (tbin rIxD (tvar 7) (tbin rMod (tvar 6) (tcon (Dt.int 8)))) tanil))))))) tnext) tnext) (tseq (tifS (tbool (tbin (rEqD false) (tvar 3) (tcon (Dt.str (Str.ofString "div"))))) (tseq (tret (tcall spDiv (tacons (tvar 0) (tacons (tvar 4) (tacons (tbin rIxD (tvar 7) (tvar 5)) (tacons (tbin rIxD (tvar 7) (tbin rMod (tvar 6) (tcon (Dt.int 8)))) tanil)))))) tnext) tnext) (tseq (tifS (tbool (tbin (rEqD false) (tvar 3) (tcon (Dt.str (Str.ofString "get"))))) (tseq (tret (tcall spGet (tacons (tvar 0) (tacons (tvar 4) (tacons (tbin L3.rAdd (tbin rIxD (tvar 7) (tvar 5)) (tvar 6)) tanil))))) tnext) tnext) (tseq (tifS (tbool (tbin (rEqD false) (tvar 3) (tcon (Dt.str (Str.ofString "set"))))) (tseq (tret (tcall spSet (tacons (tvar 0) (tacons (tbin rIxD (tvar 7) (tvar 4)) (tacons (tbin L3.rAdd (tbin rIxD (tvar 7) (tvar 5)) (tvar 6)) tanil))))) tnext) tnext) (tseq (tifS (tbool (tbin (rEqD false) (tvar 3) (tcon (Dt.str (Str.ofString "jump"))))) (tseq (tret (tcall spLeap (tacons (tvar 0) (tacons (tvar 6) tanil)))) tnext) tnext) (tseq (tifS (tbool (tbin (rEqD false) (tvar 3) (tcon (Dt.str (Str.ofString "when"))))) (tseq (tret (tifE (tbool (tcall spIsWhen (tacons (tvar 4) (tacons (tbin rIxD (tvar 0) (tcon (Dt.int 2))) tanil)))) (tcall spLeap (tacons (tvar 0) (tacons (tvar 6) tanil))) (tcall spOn (tacons (tcall spOneOn (tacons (tvar 0) tanil)) tanil)))) tnext) tnext) (tseq (tifS (tbool (tbin (rEqD false) (tvar 3) (tcon (Dt.str (Str.ofString "go"))))) (tseq (tret (tcall spOn (tacons (tcall spMoved (tacons (tvar 0) (tacons (tbin rIxD (tvar 7) (tvar 4)) tanil))) tanil))) tnext) tnext) (tseq (tifS (tbool (tbin (rEqD false) (tvar 3) (tcon (Dt.str (Str.ofString "tell"))))) (tseq (tret (ttup (tacons (tcon (Dt.str (Str.ofString "on"))) (tacons (tcall spOneOn (tacons (tvar 0) tanil)) (tacons (ttup (tacons (tbin rIxD (tvar 7) (tvar 4)) tanil)) tanil))))) tnext) tnext) (tseq (tifS (tbool (tbin (rEqD false) (tvar 3) (tcon (Dt.str (Str.ofString "hear"))))) (tseq (tret (tcall spOn (tacons (tcall spWithBox (tacons (tvar 0) (tacons (tvar 4) (tacons (tvar 2) tanil)))) tanil))) tnext) tnext) (tseq (tifS (tbool (tbin (rEqD false) (tvar 3) (tcon (Dt.str (Str.ofString "right"))))) (tseq (tret (tcall spRightW (tacons (tvar 0) (tacons (tbin rIxD (tvar 7) (tvar 4)) (tacons (tbin rMod (tvar 6) (tcon (Dt.int 8))) tanil))))) tnext) tnext) (tseq (tifS (tbool (tbin (rEqD false) (tvar 3) (tcon (Dt.str (Str.ofString "back"))))) (tseq (tret (tcall spBack (tacons (tvar 0) tanil))) tnext) tnext) (tseq (tret (tcall spLeft (tacons (tvar 3) (tacons (tvar 0) tanil)))) tnext))))))))))))))))))
noncomputable abbrev t_do_row : TSD := (tseq (tasg (tbin rIxD (tvar 0) (tcon (Dt.int 0))) (gname 2)) (tseq (tifS (tnotB (tbool (tcall spMay (tacons (tcon (Dt.int 4)) (tacons (tvar 0) (tacons (tvar 2) tanil)))))) (tseq (tret (tcall spLeft (tacons (tcon (Dt.str (Str.ofString "closed"))) (tacons (tvar 0) tanil)))) tnext) tnext) (tseq (tret (tcall spDoWord (tacons (tvar 0) (tacons (tcall K01.spSetOut (tacons (tbin rIxD (tbin rIxD (tvar 0) (tcon (Dt.int 5))) (tvar 2)) tanil)) (tacons (tvar 1) tanil))))) tnext)))
section
variable {a b c d e f : Dt}
theorem at1 : atI [a, b, c, d, e, f] 1 = some b := rfl
theorem at2 : atI [a, b, c, d, e, f] 2 = some c := rfl
theorem at3 : atI [a, b, c, d, e, f] 3 = some d := rfl
theorem at4 : atI [a, b, c, d, e, f] 4 = some e := rfl
theorem at5 : atI [a, b, c, d, e, f] 5 = some f := rfl
end
theorem iteB {b : Bool} {A B : Prop} (hb : b = true) (h : A) : if b = true then A else B := by subst hb; exact iteT h
theorem iteB' {b : Bool} {A B : Prop} (hb : b = false) (h : B) : if b = true then A else B := by subst hb; exact iteF h
theorem ints_at {xs : List Int} {n : Nat} (h : n < xs.length) : atI (xs.map Dt.int) (n : Int) = some (.int xs[n]) := atI_nat (by simp [h])
theorem box_at {g : GS} (ok : g.Ok) {i : Int} (h0 : 0 ≤ i) (h1 : i < 8) : atI (g.bs.map Dt.int) i = some (.int (bx g i)) := by
  have hi : i.toNat < g.bs.length := by rw [ok.b8]; omega
  have := ints_at hi
  rw [show ((i.toNat : Nat) : Int) = i by omega] at this
  unfold bx
  rw [this]
  simp [List.getD, hi]
theorem box_in {g : GS} (ok : g.Ok) {i : Int} (h0 : 0 ≤ i) (h1 : i < 8) : 0 ≤ bx g i ∧ bx g i < 65536 := by
  have hi : i.toNat < g.bs.length := by rw [ok.b8]; omega
  unfold bx
  have e : g.bs.getD i.toNat 0 = g.bs[i.toNat] := by simp [List.getD, hi]
  rw [e]
  exact ok.bb _ (List.getElem_mem hi)
theorem may_in {r : Int} {g : GS} {a : Int} (h : may r g a = true) : 0 ≤ a ∧ a < g.cs.length := by
  unfold may at h
  rw [Bool.and_eq_true, Bool.and_eq_true] at h
  exact ⟨of_decide_eq_true h.1.1, of_decide_eq_true h.1.2⟩
theorem and_bit {v r : Int} (h0 : 0 ≤ v) (h1 : v < 8) (hr : r = 1 ∨ r = 2 ∨ r = 4) : eqD 8 (.int (Builtin.bitAnd v r)) (.int r) = decide (v / r % 2 = 1) := by
  show (Builtin.bitAnd v r == r) = _
  rcases (show v = 0 ∨ v = 1 ∨ v = 2 ∨ v = 3 ∨ v = 4 ∨ v = 5 ∨ v = 6 ∨ v = 7 by omega) with rfl | rfl | rfl | rfl | rfl | rfl | rfl | rfl <;> rcases hr with rfl | rfl | rfl <;> decide +kernel
theorem rd_replaced {ds : List Dt} {st : Sto} {Pd : VD} (h : spReplaced ds st Pd) : t_replaced (Ed Pd) (startD ["parts", "k", "part"] ds) st := by
  obtain ⟨xs, k, d, rfl, h0, h1, h2, h⟩ := h
  simp only [tseq, tasg, tret, tbin, tvar, tcon, gname, tcall, tacons, tanil, ttup, tlst, tandV, torV, tnotV, tnotB, tandB, torB, tbool, tifS, tifE, tnext, tdrop, tfor, iseq, irng1, tslice, tonone, tosome, tappend, tchain, rLen, rTuple, seqOf, rIsInst, rIxD, rMod, rMul, L3.rAdd, L3.rSub, rDiv, rAndB, rEqD, rIsD, rInD, rCmpI, startD, tindex, gunpack, gscons, gsnil, List.map_cons, List.map_nil, List.length_cons, List.length_nil, List.cons_append, List.nil_append, List.replicate, List.set, List.getElem?_cons_zero, List.getElem?_cons_succ, Option.map_some, SO.items]
  have e1 : HT.sIx xs.length 0 none = 0 := rfl
  have e2 : HT.sIx xs.length xs.length (some k) = k.toNat := by unfold HT.sIx; dsimp only; rw [if_neg (by omega)]; omega
  have e3 : HT.sIx xs.length 0 (some (k + 1)) = k.toNat + 1 := by unfold HT.sIx; dsimp only; rw [if_neg (by omega)]; omega
  have e4 : HT.sIx xs.length xs.length none = xs.length := rfl
  have c1 : L3.cutD xs none (some k) = xs.take k.toNat := by unfold L3.cutD; rw [e1, e2]; simp
  have c2 : L3.cutD xs (some (k + 1)) none = xs.drop (k.toNat + 1) := by
    unfold L3.cutD; rw [e3, e4]; exact List.take_of_length_le (by rw [List.length_drop]; omega)
  rw [c1, c2, e2, e3]
  have l1 : (xs.take k.toNat).length = k.toNat := by rw [List.length_take]; omega
  have l2 : (xs.drop (k.toNat + 1)).length = xs.length - (k.toNat + 1) := by rw [List.length_drop]
  have es : xs.take k.toNat ++ [d] ++ xs.drop (k.toNat + 1) = xs.set k.toNat d := by
    rw [List.set_eq_take_append_cons_drop, if_pos (by omega), List.append_assoc]; rfl
  refine ⟨fun z => ?_, by show 1 ≤ sizeLine; decide, ?_, fun z => ?_, ?_, ?_⟩
  · have := z.2; omega
  · rw [l1]; exact Nat.le_of_lt (small (by omega))
  · exact absurd z.1 (Nat.succ_ne_zero _)
  · rw [List.length_append, l1, l2]
    exact Nat.le_of_lt (small (by simp; omega))
  · rw [es]; exact h
theorem rd_may_be {ds : List Dt} {st : Sto} {Pd : VD} (h : spMay ds st Pd) : t_may_be (Ed Pd) (startD ["right", "state", "address"] ds) st := by
  obtain ⟨r, g, a, rfl, ok, hr, h⟩ := h
  simp only [tseq, tasg, tret, tbin, tvar, tcon, gname, tcall, tacons, tanil, ttup, tlst, tandV, torV, tnotV, tnotB, tandB, torB, tbool, tifS, tifE, tnext, tdrop, tfor, iseq, irng1, tslice, tonone, tosome, tappend, tchain, rLen, rTuple, seqOf, rIsInst, rIxD, rMod, rMul, L3.rAdd, L3.rSub, rDiv, rAndB, rEqD, rIsD, rInD, rCmpI, startD, tindex, gunpack, gscons, gsnil, List.map_cons, List.map_nil, List.length_cons, List.length_nil, List.cons_append, List.nil_append, List.replicate, List.set, List.getElem?_cons_zero, List.getElem?_cons_succ, Option.map_some, SO.items, GS.d]
  simp only [at5, at4]
  unfold may at h
  rw [List.length_map]
  by_cases h0 : 0 ≤ a
  · rw [decide_eq_true h0, Bool.true_and] at h
    refine iteB (decide_eq_true h0) ?_
    by_cases h1 : a < (g.cs.length : Int)
    · rw [decide_eq_true h1, Bool.true_and] at h
      refine iteB' (by rw [decide_eq_true h1]; rfl) ⟨cdiv (by decide) (by decide), ?_⟩
      have hi : (a / 8).toNat < g.rs.length := by have := ok.c8; omega
      rw [show (a / 8 : Int) = (((a / 8).toNat : Nat) : Int) by omega, ints_at hi]
      refine ⟨rfl, rfl, ?_⟩
      have hv := ok.rb _ (List.getElem_mem hi)
      have e : g.rs.getD (a / 8).toNat 0 = g.rs[(a / 8).toNat] := by simp [List.getD, hi]
      rw [e] at h
      rw [bne_false', show eqD 8 (.int (Builtin.bitAnd g.rs[(a / 8).toNat] r)) (.int r) = decide (g.rs[(a / 8).toNat] / r % 2 = 1) from and_bit hv.1 hv.2 hr]
      exact h
    · rw [decide_eq_false h1, Bool.false_and] at h
      exact iteB (by rw [decide_eq_false h1]; rfl) h
  · rw [decide_eq_false h0, Bool.false_and, Bool.false_and] at h
    exact iteB' (decide_eq_false h0) (iteT h)
theorem rd_moved {ds : List Dt} {st : Sto} {Pd : VD} (h : spMoved ds st Pd) : t_moved (Ed Pd) (startD ["state", "place"] ds) st := by
  obtain ⟨g, q, rfl, h⟩ := h
  exact ⟨by decide, _, 0, .int (q % 65536), rfl, by decide, by show (0 : Int) < 6; decide, by show 6 ≤ 200; decide, h⟩
theorem rd_one_on {ds : List Dt} {st : Sto} {Pd : VD} (h : spOneOn ds st Pd) : t_one_on (Ed Pd) (startD ["state"] ds) st := by
  obtain ⟨g, rfl, h⟩ := h
  exact ⟨g, g.p + 1, rfl, h⟩
theorem rd_with_box {ds : List Dt} {st : Sto} {Pd : VD} (h : spWithBox ds st Pd) : t_with_box (Ed Pd) (startD ["state", "a", "number"] ds) st := by
  obtain ⟨g, a, v, rfl, h8, h0, h1, h⟩ := h
  refine ⟨g, rfl, ?_⟩
  refine ⟨g.bs.map .int, a, .int v, rfl, h0, by rw [List.length_map, h8]; exact h1, by rw [List.length_map, h8]; decide, ?_⟩
  refine ⟨_, 1, _, rfl, by decide, by show (1 : Int) < 6; decide, by show 6 ≤ 200; decide, ?_⟩
  rw [← List.map_set]
  exact h
theorem rd_with_outcome {ds : List Dt} {st : Sto} {Pd : VD} (h : spWithOut ds st Pd) : t_with_outcome (Ed Pd) (startD ["state", "a", "number", "carry"] ds) st := by
  obtain ⟨g, a, v, k, rfl, h8, h0, h1, h⟩ := h
  refine ⟨g, a, v, rfl, h8, h0, h1, ?_⟩
  refine ⟨rfl, rfl, by show 3 ≤ sizeLine; decide, ?_⟩
  have e : (eqD 8 (.int v) (.int 0) != false) = decide (v = 0) := by rw [bne_false']; rfl
  show spReplaced [(boxG g a v).d, .int 2, .tup [.bl (eqD 8 (.int v) (.int 0) != false), .bl (decide (32768 ≤ v)), .bl k]] st Pd
  rw [e]
  refine ⟨_, 2, _, rfl, by decide, by show (2 : Int) < 6; decide, by show 6 ≤ 200; decide, ?_⟩
  exact h
theorem rd_left {ds : List Dt} {st : Sto} {Pd : VD} (h : spLeft ds st Pd) : t_left (Ed Pd) (startD ["how", "state"] ds) st := by
  obtain ⟨w, d, rfl, h⟩ := h
  exact ⟨by show 0 ≤ sizeLine; exact Nat.zero_le _, by show 3 ≤ sizeLine; decide, h⟩
theorem rd_on {ds : List Dt} {st : Sto} {Pd : VD} (h : spOn ds st Pd) : t_on (Ed Pd) (startD ["state"] ds) st := by
  obtain ⟨d, rfl, h⟩ := h
  exact ⟨by show 0 ≤ sizeLine; exact Nat.zero_le _, by show 3 ≤ sizeLine; decide, h⟩
theorem rd_plain_outcome {ds : List Dt} {st : Sto} {Pd : VD} (h : spPlain ds st Pd) : t_plain_outcome (Ed Pd) (startD ["word", "x", "y"] ds) st := by
  obtain ⟨w, x, y, rfl, hw, h0, h1, h⟩ := h
  rcases hw with rfl | rfl | rfl
  · exact ⟨rfl, rfl, iteT h⟩
  · exact ⟨rfl, rfl, iteF ⟨rfl, rfl, iteT h⟩⟩
  · exact ⟨rfl, rfl, iteF ⟨rfl, rfl, iteF ⟨.inl ⟨by omega, by omega⟩, h⟩⟩⟩
theorem rd_do_count {ds : List Dt} {st : Sto} {Pd : VD} (h : spCount ds st Pd) : t_do_count (Ed Pd) (startD ["state", "word", "a", "x", "y", "plain"] ds) st := by
  obtain ⟨g, w, a, x, y, rfl, hw, h8, h0, h1, hx0, hx1, h⟩ := h
  refine ⟨w, x, y, rfl, hw, hx0, hx1, ?_⟩
  refine ⟨by decide, ?_⟩
  have fin : spWithOut [g.d, .int a, .int (plainG w x y % 65536), .bl (!(decide (0 ≤ plainG w x y) && decide (plainG w x y < 65536)))] st (fun d st => spOn [d] st Pd) := ⟨g, a, _, _, rfl, h8, h0, h1, _, rfl, h⟩
  simp only [tseq, tasg, tret, tbin, tvar, tcon, gname, tcall, tacons, tanil, ttup, tlst, tandV, torV, tnotV, tnotB, tandB, torB, tbool, tifS, tifE, tnext, tdrop, tfor, iseq, irng1, tslice, tonone, tosome, tappend, tchain, rLen, rTuple, seqOf, rIsInst, rIxD, rMod, rMul, L3.rAdd, L3.rSub, rDiv, rAndB, rEqD, rIsD, rInD, rCmpI, startD, tindex, gunpack, gscons, gsnil, List.map_cons, List.map_nil, List.length_cons, List.length_nil, List.cons_append, List.nil_append, List.replicate, List.set, List.getElem?_cons_zero, List.getElem?_cons_succ, Option.map_some, SO.items]
  by_cases c0 : 0 ≤ plainG w x y
  · rw [decide_eq_true c0, Bool.true_and] at fin
    exact iteB (decide_eq_true c0) fin
  · rw [decide_eq_false c0, Bool.false_and] at fin
    exact iteB' (decide_eq_false c0) fin
theorem rd_do_div {ds : List Dt} {st : Sto} {Pd : VD} (h : spDiv ds st Pd) : t_do_div (Ed Pd) (startD ["state", "a", "x", "y"] ds) st := by
  obtain ⟨g, a, x, y, rfl, h8, h0, h1, hy0, hy1, h⟩ := h
  unfold divG at h
  refine ⟨rfl, rfl, ?_⟩
  by_cases c : y = 0
  · subst c
    rw [if_pos rfl] at h
    exact iteT ⟨_, _, rfl, h⟩
  · rw [if_neg c] at h
    have e : (eqD 8 (.int y) (.int 0) != false) = false := by
      rw [bne_false']; exact beq_eq_false_iff_ne.mpr c
    rw [e]
    refine iteF ⟨⟨by omega, by omega⟩, by omega, rfl, rfl, ?_⟩
    have e2 : (eqD 8 (.int (x % y)) (.int 0) != true) = decide (x % y ≠ 0) := by
      rw [bne_true']
      show (!((x % y) == 0)) = _
      by_cases q : x % y = 0
      · simp [q]
      · simp [q]
    rw [e2]
    exact ⟨g, a, _, _, rfl, h8, h0, h1, _, rfl, h⟩
theorem rd_do_get {ds : List Dt} {st : Sto} {Pd : VD} (h : spGet ds st Pd) : t_do_get (Ed Pd) (startD ["state", "a", "address"] ds) st := by
  obtain ⟨g, a, q, rfl, ok, h0, h1, h⟩ := h
  unfold getG at h
  refine ⟨1, g, q, rfl, ok, .inl rfl, ?_⟩
  cases hm : may 1 g q with
  | false =>
    rw [hm, if_neg Bool.false_ne_true] at h
    exact iteT ⟨_, _, rfl, h⟩
  | true =>
    rw [hm, if_pos rfl] at h
    refine iteF ?_
    obtain ⟨q0, q1⟩ := may_in hm
    simp only [tseq, tasg, tret, tbin, tvar, tcon, gname, tcall, tacons, tanil, ttup, tlst, tandV, torV, tnotV, tnotB, tandB, torB, tbool, tifS, tifE, tnext, tdrop, tfor, iseq, irng1, tslice, tonone, tosome, tappend, tchain, rLen, rTuple, seqOf, rIsInst, rIxD, rMod, rMul, L3.rAdd, L3.rSub, rDiv, rAndB, rEqD, rIsD, rInD, rCmpI, startD, tindex, gunpack, gscons, gsnil, List.map_cons, List.map_nil, List.length_cons, List.length_nil, List.cons_append, List.nil_append, List.replicate, List.set, List.getElem?_cons_zero, List.getElem?_cons_succ, Option.map_some, SO.items, GS.d]
    simp only [at5]
    have hi : q.toNat < g.cs.length := by omega
    rw [show q = ((q.toNat : Nat) : Int) by omega, ints_at hi]
    refine ⟨g, a, _, rfl, ok.b8, h0, h1, _, rfl, ?_⟩
    have e : g.cs.getD q.toNat 0 = g.cs[q.toNat] := by simp [List.getD, hi]
    rw [e] at h
    exact h
theorem rd_do_set {ds : List Dt} {st : Sto} {Pd : VD} (h : spSet ds st Pd) : t_do_set (Ed Pd) (startD ["state", "number", "address"] ds) st := by
  obtain ⟨g, v, q, rfl, ok, h⟩ := h
  unfold setG at h
  refine ⟨2, g, q, rfl, ok, .inr (.inl rfl), ?_⟩
  cases hm : may 2 g q with
  | false =>
    rw [hm, if_neg Bool.false_ne_true] at h
    exact iteT ⟨_, _, rfl, h⟩
  | true =>
    rw [hm, if_pos rfl] at h
    refine iteF ?_
    obtain ⟨q0, q1⟩ := may_in hm
    have := ok.cm
    refine ⟨g, rfl, ?_⟩
    refine ⟨g.cs.map .int, q, .int v, rfl, q0, by rw [List.length_map]; exact q1, by rw [List.length_map]; omega, ?_⟩
    refine ⟨_, 5, _, rfl, by decide, by show (5 : Int) < 6; decide, by show 6 ≤ 200; decide, ?_⟩
    rw [← List.map_set]
    exact ⟨_, rfl, h⟩
theorem rd_is_when {ds : List Dt} {st : Sto} {Pd : VD} (h : spIsWhen ds st Pd) : t_is_when (Ed Pd) (startD ["a", "marks"] ds) st := by
  obtain ⟨a, m, rfl, h0, h1, h⟩ := h
  obtain ⟨m0, m1, m2⟩ := m
  rcases (show a = 0 ∨ a = 1 ∨ a = 2 ∨ a = 3 ∨ a = 4 ∨ a = 5 ∨ a = 6 ∨ a = 7 by omega) with rfl | rfl | rfl | rfl | rfl | rfl | rfl | rfl
  iterate 6
    · simp only [tseq, tasg, tret, tbin, tvar, tcon, gname, tcall, tacons, tanil, ttup, tlst, tandV, torV, tnotV, tnotB, tandB, torB, tbool, tifS, tifE, tnext, tdrop, tfor, iseq, irng1, tslice, tonone, tosome, tappend, tchain, rLen, rTuple, seqOf, rIsInst, rIxD, rMod, rMul, L3.rAdd, L3.rSub, rDiv, rAndB, rEqD, rIsD, rInD, rCmpI, startD, tindex, gunpack, gscons, gsnil, List.map_cons, List.map_nil, List.length_cons, List.length_nil, List.cons_append, List.nil_append, List.replicate, List.set, List.getElem?_cons_zero, List.getElem?_cons_succ, Option.map_some, SO.items, msD]
      rw [if_neg (by decide)]
      refine ⟨cdiv (by decide) (by decide), by decide, rfl, rfl, rfl, rfl, ?_⟩
      cases m0 <;> cases m1 <;> cases m2 <;> exact h
  iterate 2
    · simp only [tseq, tasg, tret, tbin, tvar, tcon, gname, tcall, tacons, tanil, ttup, tlst, tandV, torV, tnotV, tnotB, tandB, torB, tbool, tifS, tifE, tnext, tdrop, tfor, iseq, irng1, tslice, tonone, tosome, tappend, tchain, rLen, rTuple, seqOf, rIsInst, rIxD, rMod, rMul, L3.rAdd, L3.rSub, rDiv, rAndB, rEqD, rIsD, rInD, rCmpI, startD, tindex, gunpack, gscons, gsnil, List.map_cons, List.map_nil, List.length_cons, List.length_nil, List.cons_append, List.nil_append, List.replicate, List.set, List.getElem?_cons_zero, List.getElem?_cons_succ, Option.map_some, SO.items, msD]
      rw [if_pos (by decide)]
      exact ⟨rfl, rfl, h⟩
theorem rd_leap_place {ds : List Dt} {st : Sto} {Pd : VD} (h : spLeapPlace ds st Pd) : t_leap_place (Ed Pd) (startD ["place", "c"] ds) st := by
  obtain ⟨p, c, rfl, h⟩ := h
  exact ⟨by decide, h⟩
theorem rd_do_leap {ds : List Dt} {st : Sto} {Pd : VD} (h : spLeap ds st Pd) : t_do_leap (Ed Pd) (startD ["state", "c"] ds) st := by
  obtain ⟨g, c, rfl, h⟩ := h
  refine ⟨g.p, c, rfl, g, (g.p + 1 + c - 32) % 65536, rfl, _, rfl, ?_⟩
  rw [show (g.p + 1 + c - 32) % 65536 % 65536 = (g.p + 1 + c - 32) % 65536 by omega]
  exact h
theorem rd_do_right {ds : List Dt} {st : Sto} {Pd : VD} (h : spRightW ds st Pd) : t_do_right (Ed Pd) (startD ["state", "page", "rights"] ds) st := by
  obtain ⟨g, q, r, rfl, ok, h⟩ := h
  unfold rightG at h
  simp only [tseq, tasg, tret, tbin, tvar, tcon, gname, tcall, tacons, tanil, ttup, tlst, tandV, torV, tnotV, tnotB, tandB, torB, tbool, tifS, tifE, tnext, tdrop, tfor, iseq, irng1, tslice, tonone, tosome, tappend, tchain, rLen, rTuple, seqOf, rIsInst, rIxD, rMod, rMul, L3.rAdd, L3.rSub, rDiv, rAndB, rEqD, rIsD, rInD, rCmpI, startD, tindex, gunpack, gscons, gsnil, List.map_cons, List.map_nil, List.length_cons, List.length_nil, List.cons_append, List.nil_append, List.replicate, List.set, List.getElem?_cons_zero, List.getElem?_cons_succ, Option.map_some, SO.items, GS.d]
  simp only [at4]
  rw [List.length_map]
  by_cases h0 : 0 ≤ q
  · refine iteB (decide_eq_true h0) ?_
    by_cases h1 : q < (g.rs.length : Int)
    · rw [if_pos ⟨h0, h1⟩] at h
      have := ok.c8; have := ok.cm
      refine iteB' (by rw [decide_eq_true h1]; rfl) ⟨g, rfl, ?_⟩
      refine ⟨g.rs.map .int, q, .int r, rfl, h0, by rw [List.length_map]; exact h1, by rw [List.length_map]; omega, ?_⟩
      refine ⟨_, 4, _, rfl, by decide, by show (4 : Int) < 6; decide, by show 6 ≤ 200; decide, ?_⟩
      rw [← List.map_set]
      exact ⟨_, rfl, h⟩
    · rw [if_neg (fun z => h1 z.2)] at h
      exact iteB (by rw [decide_eq_false h1]; rfl) ⟨_, _, rfl, h⟩
  · rw [if_neg (fun z => h0 z.1)] at h
    exact iteB' (decide_eq_false h0) (iteT ⟨_, _, rfl, h⟩)
theorem rd_do_back {ds : List Dt} {st : Sto} {Pd : VD} (h : spBack ds st Pd) : t_do_back (Ed Pd) (startD ["state", "saved"] ds) st := by
  obtain ⟨g, rfl, h⟩ := h
  obtain ⟨p, bs, m, sv, rs, cs⟩ := g
  cases sv with
  | none =>
    simp only [tseq, tasg, tret, tbin, tvar, tcon, gname, tcall, tacons, tanil, ttup, tlst, tandV, torV, tnotV, tnotB, tandB, torB, tbool, tifS, tifE, tnext, tdrop, tfor, iseq, irng1, tslice, tonone, tosome, tappend, tchain, rLen, rTuple, seqOf, rIsInst, rIxD, rMod, rMul, L3.rAdd, L3.rSub, rDiv, rAndB, rEqD, rIsD, rInD, rCmpI, startD, tindex, gunpack, gscons, gsnil, List.map_cons, List.map_nil, List.length_cons, List.length_nil, List.cons_append, List.nil_append, List.replicate, List.set, List.getElem?_cons_zero, List.getElem?_cons_succ, Option.map_some, SO.items, GS.d, svD, at3]
    rw [if_pos (by decide)]
    exact ⟨_, _, rfl, h⟩
  | some z =>
    obtain ⟨q, mm⟩ := z
    simp only [tseq, tasg, tret, tbin, tvar, tcon, gname, tcall, tacons, tanil, ttup, tlst, tandV, torV, tnotV, tnotB, tandB, torB, tbool, tifS, tifE, tnext, tdrop, tfor, iseq, irng1, tslice, tonone, tosome, tappend, tchain, rLen, rTuple, seqOf, rIsInst, rIxD, rMod, rMul, L3.rAdd, L3.rSub, rDiv, rAndB, rEqD, rIsD, rInD, rCmpI, startD, tindex, gunpack, gscons, gsnil, List.map_cons, List.map_nil, List.length_cons, List.length_nil, List.cons_append, List.nil_append, List.replicate, List.set, List.getElem?_cons_zero, List.getElem?_cons_succ, Option.map_some, SO.items, GS.d, svD, at3]
    rw [if_neg (by decide)]
    exact ⟨by show 6 ≤ sizeLine; decide, _, rfl, h⟩
theorem rd_do_row {ds : List Dt} {st : Sto} {Pd : VD} (h : spDoRow ds st Pd) : t_do_row (Ed Pd) (startD ["state", "heard", "place"] ds) st := by
  obtain ⟨g, x, rfl, ok, h⟩ := h
  unfold doR at h
  refine ⟨4, g, g.p, rfl, ok, .inr (.inr rfl), ?_⟩
  cases hm : may 4 g g.p with
  | false =>
    rw [hm, if_neg Bool.false_ne_true] at h
    exact iteT ⟨_, _, rfl, h⟩
  | true =>
    rw [hm, if_pos rfl] at h
    refine iteF ?_
    obtain ⟨q0, q1⟩ := may_in hm
    simp only [tseq, tasg, tret, tbin, tvar, tcon, gname, tcall, tacons, tanil, ttup, tlst, tandV, torV, tnotV, tnotB, tandB, torB, tbool, tifS, tifE, tnext, tdrop, tfor, iseq, irng1, tslice, tonone, tosome, tappend, tchain, rLen, rTuple, seqOf, rIsInst, rIxD, rMod, rMul, L3.rAdd, L3.rSub, rDiv, rAndB, rEqD, rIsD, rInD, rCmpI, startD, tindex, gunpack, gscons, gsnil, List.map_cons, List.map_nil, List.length_cons, List.length_nil, List.cons_append, List.nil_append, List.replicate, List.set, List.getElem?_cons_zero, List.getElem?_cons_succ, Option.map_some, SO.items, GS.d]
    simp only [at5]
    have hi : g.p.toNat < g.cs.length := by omega
    have e : g.cs.getD g.p.toNat 0 = g.cs[g.p.toNat] := by simp [List.getD, hi]
    rw [e] at h
    have ea : atI (g.cs.map Dt.int) g.p = some (.int g.cs[g.p.toNat]) := by
      have := ints_at hi
      rw [show ((g.p.toNat : Nat) : Int) = g.p by omega] at this
      exact this
    rw [ea]
    refine ⟨_, rfl, ?_⟩
    exact ⟨g, _, _, _, _, x, rfl, ok, by omega, by omega, by omega, by omega, by omega, by omega, by omega, by omega, h⟩
end K06
namespace K06
open PySem PySem.Spec PyProof.Rows L2 L3
theorem step_ne {s t : Str} {A R : TSD} {E : EndsD} {ρ : Rho} {st : Sto} (h3 : ρ[3]? = some (some (.str s))) (hne : (s == t) = false) (h : R E ρ st) : tseq (tifS (tbool (tbin (rEqD false) (tvar 3) (tcon (.str t)))) A tnext) R E ρ st := by
  simp only [tseq, tifS, tbool, tbin, tvar, h3, tcon, rEqD]
  refine ⟨rfl, rfl, ?_⟩
  have e : eqD 8 (.str s) (.str t) = (s == t) := rfl
  rw [e, hne]
  exact iteF h
theorem step_eq {s t : Str} {A R : TSD} {E : EndsD} {ρ : Rho} {st : Sto} (h3 : ρ[3]? = some (some (.str s))) (hne : (s == t) = true) (h : A {E with nx := R E} ρ st) : tseq (tifS (tbool (tbin (rEqD false) (tvar 3) (tcon (.str t)))) A tnext) R E ρ st := by
  simp only [tseq, tifS, tbool, tbin, tvar, h3, tcon, rEqD]
  refine ⟨rfl, rfl, ?_⟩
  have e : eqD 8 (.str s) (.str t) = (s == t) := rfl
  rw [e, hne]
  exact iteT h
theorem step_in {s t u v : Str} {A R : TSD} {E : EndsD} {ρ : Rho} {st : Sto} {k : Bool} (h3 : ρ[3]? = some (some (.str s))) (hne : (t == s || (u == s || (v == s || false))) = k) (h : if k = true then A {E with nx := R E} ρ st else R E ρ st) :
    tseq (tifS (tbool (tbin (rInD false) (tvar 3) (ttup (tacons (tcon (.str t)) (tacons (tcon (.str u)) (tacons (tcon (.str v)) tanil)))))) A tnext) R E ρ st := by
  simp only [tseq, tifS, tbool, tbin, tvar, h3, tcon, ttup, tacons, tanil, rInD, seqOf]
  refine ⟨by show 3 ≤ sizeLine; decide, rfl, rfl, ?_⟩
  have e : ([Dt.str t, .str u, .str v].any (fun z => eqD 0 z (.str s)) != false) = k := by rw [bne_false', ← hne]; rfl
  rw [e]
  exact h
noncomputable def RW8 (g : GS) (s : Str) (a b c x : Int) : Rho := [some g.d, some (.tup [.str s, .int a, .int b, .int c]), some (.int x), some (.str s), some (.int a), some (.int b), some (.int c), some (.tup (g.bs.map .int))]
noncomputable abbrev t_chain : TSD := (tseq (tifS (tbool (tbin (rEqD false) (tvar 3) (tcon (Dt.str (Str.ofString "put"))))) (tseq (tret (tcall spOn (tacons (tcall spWithBox (tacons (tvar 0) (tacons (tvar 4) (tacons (tvar 6) tanil)))) tanil))) tnext) tnext) (tseq (tifS (tbool (tbin (rInD false) (tvar 3) (ttup (tacons (tcon (Dt.str (Str.ofString "add"))) (tacons (tcon (Dt.str (Str.ofString "sub"))) (tacons (tcon (Dt.str (Str.ofString "mul"))) tanil)))))) (tseq (tret (tcall spCount (tacons (tvar 0) (tacons (tvar 3) (tacons (tvar 4) (tacons (tbin rIxD (tvar 7) (tvar 5)) (tacons (tbin rIxD (tvar 7) (tbin rMod (tvar 6) (tcon (Dt.int 8)))) tanil))))))) tnext) tnext) (tseq (tifS (tbool (tbin (rEqD false) (tvar 3) (tcon (Dt.str (Str.ofString "div"))))) (tseq (tret (tcall spDiv (tacons (tvar 0) (tacons (tvar 4) (tacons (tbin rIxD (tvar 7) (tvar 5)) (tacons (tbin rIxD (tvar 7) (tbin rMod (tvar 6) (tcon (Dt.int 8)))) tanil)))))) tnext) tnext) (tseq (tifS (tbool (tbin (rEqD false) (tvar 3) (tcon (Dt.str (Str.ofString "get"))))) (tseq (tret (tcall spGet (tacons (tvar 0) (tacons (tvar 4) (tacons (tbin L3.rAdd (tbin rIxD (tvar 7) (tvar 5)) (tvar 6)) tanil))))) tnext) tnext) (tseq (tifS (tbool (tbin (rEqD false) (tvar 3) (tcon (Dt.str (Str.ofString "set"))))) (tseq (tret (tcall spSet (tacons (tvar 0) (tacons (tbin rIxD (tvar 7) (tvar 4)) (tacons (tbin L3.rAdd (tbin rIxD (tvar 7) (tvar 5)) (tvar 6)) tanil))))) tnext) tnext) (tseq (tifS (tbool (tbin (rEqD false) (tvar 3) (tcon (Dt.str (Str.ofString "jump"))))) (tseq (tret (tcall spLeap (tacons (tvar 0) (tacons (tvar 6) tanil)))) tnext) tnext) (tseq (tifS (tbool (tbin (rEqD false) (tvar 3) (tcon (Dt.str (Str.ofString "when"))))) (tseq (tret (tifE (tbool (tcall spIsWhen (tacons (tvar 4) (tacons (tbin rIxD (tvar 0) (tcon (Dt.int 2))) tanil)))) (tcall spLeap (tacons (tvar 0) (tacons (tvar 6) tanil))) (tcall spOn (tacons (tcall spOneOn (tacons (tvar 0) tanil)) tanil)))) tnext) tnext) (tseq (tifS (tbool (tbin (rEqD false) (tvar 3) (tcon (Dt.str (Str.ofString "go"))))) (tseq (tret (tcall spOn (tacons (tcall spMoved (tacons (tvar 0) (tacons (tbin rIxD (tvar 7) (tvar 4)) tanil))) tanil))) tnext) tnext) (tseq (tifS (tbool (tbin (rEqD false) (tvar 3) (tcon (Dt.str (Str.ofString "tell"))))) (tseq (tret (ttup (tacons (tcon (Dt.str (Str.ofString "on"))) (tacons (tcall spOneOn (tacons (tvar 0) tanil)) (tacons (ttup (tacons (tbin rIxD (tvar 7) (tvar 4)) tanil)) tanil))))) tnext) tnext) (tseq (tifS (tbool (tbin (rEqD false) (tvar 3) (tcon (Dt.str (Str.ofString "hear"))))) (tseq (tret (tcall spOn (tacons (tcall spWithBox (tacons (tvar 0) (tacons (tvar 4) (tacons (tvar 2) tanil)))) tanil))) tnext) tnext) (tseq (tifS (tbool (tbin (rEqD false) (tvar 3) (tcon (Dt.str (Str.ofString "right"))))) (tseq (tret (tcall spRightW (tacons (tvar 0) (tacons (tbin rIxD (tvar 7) (tvar 4)) (tacons (tbin rMod (tvar 6) (tcon (Dt.int 8))) tanil))))) tnext) tnext) (tseq (tifS (tbool (tbin (rEqD false) (tvar 3) (tcon (Dt.str (Str.ofString "back"))))) (tseq (tret (tcall spBack (tacons (tvar 0) tanil))) tnext) tnext) (tseq (tret (tcall spLeft (tacons (tvar 3) (tacons (tvar 0) tanil)))) tnext)))))))))))))
theorem rd_word0 {g : GS} {a b c x : Int} {st : Sto} {Pd : VD} (ok : g.Ok) (a0 : 0 ≤ a) (a1 : a < 8) (b0 : 0 ≤ b) (b1 : b < 8) (c0 : 0 ≤ c) (h : Pd (resD (doW g 0 a b c x)) st) : t_chain (Ed Pd) (RW8 g (Str.ofString "halt") a b c x) st := by
  have ba : atI (g.bs.map Dt.int) a = some (.int (bx g a)) := box_at ok a0 a1
  have bb : atI (g.bs.map Dt.int) b = some (.int (bx g b)) := box_at ok b0 b1
  have bc : atI (g.bs.map Dt.int) (c % 8) = some (.int (bx g (c % 8))) := box_at ok (by omega) (by omega)
  have va := box_in ok a0 a1
  have vb := box_in ok b0 b1
  have vc := box_in ok (i := c % 8) (by omega) (by omega)
  refine step_ne rfl (by decide) ?_
  refine step_in (s := Str.ofString "halt") (t := Str.ofString "add") (u := Str.ofString "sub") (v := Str.ofString "mul") (k := false) (by rfl) (by decide) (iteF ?_)
  refine step_ne rfl (by decide) ?_
  refine step_ne rfl (by decide) ?_
  refine step_ne rfl (by decide) ?_
  refine step_ne rfl (by decide) ?_
  refine step_ne rfl (by decide) ?_
  refine step_ne rfl (by decide) ?_
  refine step_ne rfl (by decide) ?_
  refine step_ne rfl (by decide) ?_
  refine step_ne rfl (by decide) ?_
  refine step_ne rfl (by decide) ?_
  exact ⟨_, _, rfl, h⟩
theorem rd_word1 {g : GS} {a b c x : Int} {st : Sto} {Pd : VD} (ok : g.Ok) (a0 : 0 ≤ a) (a1 : a < 8) (b0 : 0 ≤ b) (b1 : b < 8) (c0 : 0 ≤ c) (h : Pd (resD (doW g 1 a b c x)) st) : t_chain (Ed Pd) (RW8 g (Str.ofString "put") a b c x) st := by
  have ba : atI (g.bs.map Dt.int) a = some (.int (bx g a)) := box_at ok a0 a1
  have bb : atI (g.bs.map Dt.int) b = some (.int (bx g b)) := box_at ok b0 b1
  have bc : atI (g.bs.map Dt.int) (c % 8) = some (.int (bx g (c % 8))) := box_at ok (by omega) (by omega)
  have va := box_in ok a0 a1
  have vb := box_in ok b0 b1
  have vc := box_in ok (i := c % 8) (by omega) (by omega)
  refine step_eq rfl (by decide) ?_
  exact ⟨g, a, c, rfl, ok.b8, a0, a1, _, rfl, h⟩
theorem rd_word2 {g : GS} {a b c x : Int} {st : Sto} {Pd : VD} (ok : g.Ok) (a0 : 0 ≤ a) (a1 : a < 8) (b0 : 0 ≤ b) (b1 : b < 8) (c0 : 0 ≤ c) (h : Pd (resD (doW g 2 a b c x)) st) : t_chain (Ed Pd) (RW8 g (Str.ofString "add") a b c x) st := by
  have ba : atI (g.bs.map Dt.int) a = some (.int (bx g a)) := box_at ok a0 a1
  have bb : atI (g.bs.map Dt.int) b = some (.int (bx g b)) := box_at ok b0 b1
  have bc : atI (g.bs.map Dt.int) (c % 8) = some (.int (bx g (c % 8))) := box_at ok (by omega) (by omega)
  have va := box_in ok a0 a1
  have vb := box_in ok b0 b1
  have vc := box_in ok (i := c % 8) (by omega) (by omega)
  refine step_ne rfl (by decide) ?_
  refine step_in (s := Str.ofString "add") (t := Str.ofString "add") (u := Str.ofString "sub") (v := Str.ofString "mul") (k := true) (by rfl) (by decide) (iteT ?_)
  simp only [tseq, tret, tcall, tacons, tanil, tbin, tvar, tcon, rIxD, seqOf, rMod, RW8, List.getElem?_cons_zero, List.getElem?_cons_succ, bb, bc]
  exact ⟨by decide, g, 2, a, _, _, rfl, .inl rfl, ok.b8, a0, a1, vb.1, vb.2, h⟩
theorem rd_word3 {g : GS} {a b c x : Int} {st : Sto} {Pd : VD} (ok : g.Ok) (a0 : 0 ≤ a) (a1 : a < 8) (b0 : 0 ≤ b) (b1 : b < 8) (c0 : 0 ≤ c) (h : Pd (resD (doW g 3 a b c x)) st) : t_chain (Ed Pd) (RW8 g (Str.ofString "sub") a b c x) st := by
  have ba : atI (g.bs.map Dt.int) a = some (.int (bx g a)) := box_at ok a0 a1
  have bb : atI (g.bs.map Dt.int) b = some (.int (bx g b)) := box_at ok b0 b1
  have bc : atI (g.bs.map Dt.int) (c % 8) = some (.int (bx g (c % 8))) := box_at ok (by omega) (by omega)
  have va := box_in ok a0 a1
  have vb := box_in ok b0 b1
  have vc := box_in ok (i := c % 8) (by omega) (by omega)
  refine step_ne rfl (by decide) ?_
  refine step_in (s := Str.ofString "sub") (t := Str.ofString "add") (u := Str.ofString "sub") (v := Str.ofString "mul") (k := true) (by rfl) (by decide) (iteT ?_)
  simp only [tseq, tret, tcall, tacons, tanil, tbin, tvar, tcon, rIxD, seqOf, rMod, RW8, List.getElem?_cons_zero, List.getElem?_cons_succ, bb, bc]
  exact ⟨by decide, g, 3, a, _, _, rfl, .inr (.inl rfl), ok.b8, a0, a1, vb.1, vb.2, h⟩
theorem rd_word4 {g : GS} {a b c x : Int} {st : Sto} {Pd : VD} (ok : g.Ok) (a0 : 0 ≤ a) (a1 : a < 8) (b0 : 0 ≤ b) (b1 : b < 8) (c0 : 0 ≤ c) (h : Pd (resD (doW g 4 a b c x)) st) : t_chain (Ed Pd) (RW8 g (Str.ofString "mul") a b c x) st := by
  have ba : atI (g.bs.map Dt.int) a = some (.int (bx g a)) := box_at ok a0 a1
  have bb : atI (g.bs.map Dt.int) b = some (.int (bx g b)) := box_at ok b0 b1
  have bc : atI (g.bs.map Dt.int) (c % 8) = some (.int (bx g (c % 8))) := box_at ok (by omega) (by omega)
  have va := box_in ok a0 a1
  have vb := box_in ok b0 b1
  have vc := box_in ok (i := c % 8) (by omega) (by omega)
  refine step_ne rfl (by decide) ?_
  refine step_in (s := Str.ofString "mul") (t := Str.ofString "add") (u := Str.ofString "sub") (v := Str.ofString "mul") (k := true) (by rfl) (by decide) (iteT ?_)
  simp only [tseq, tret, tcall, tacons, tanil, tbin, tvar, tcon, rIxD, seqOf, rMod, RW8, List.getElem?_cons_zero, List.getElem?_cons_succ, bb, bc]
  exact ⟨by decide, g, 4, a, _, _, rfl, .inr (.inr rfl), ok.b8, a0, a1, vb.1, vb.2, h⟩
theorem rd_word5 {g : GS} {a b c x : Int} {st : Sto} {Pd : VD} (ok : g.Ok) (a0 : 0 ≤ a) (a1 : a < 8) (b0 : 0 ≤ b) (b1 : b < 8) (c0 : 0 ≤ c) (h : Pd (resD (doW g 5 a b c x)) st) : t_chain (Ed Pd) (RW8 g (Str.ofString "bad") a b c x) st := by
  have ba : atI (g.bs.map Dt.int) a = some (.int (bx g a)) := box_at ok a0 a1
  have bb : atI (g.bs.map Dt.int) b = some (.int (bx g b)) := box_at ok b0 b1
  have bc : atI (g.bs.map Dt.int) (c % 8) = some (.int (bx g (c % 8))) := box_at ok (by omega) (by omega)
  have va := box_in ok a0 a1
  have vb := box_in ok b0 b1
  have vc := box_in ok (i := c % 8) (by omega) (by omega)
  refine step_ne rfl (by decide) ?_
  refine step_in (s := Str.ofString "bad") (t := Str.ofString "add") (u := Str.ofString "sub") (v := Str.ofString "mul") (k := false) (by rfl) (by decide) (iteF ?_)
  refine step_ne rfl (by decide) ?_
  refine step_ne rfl (by decide) ?_
  refine step_ne rfl (by decide) ?_
  refine step_ne rfl (by decide) ?_
  refine step_ne rfl (by decide) ?_
  refine step_ne rfl (by decide) ?_
  refine step_ne rfl (by decide) ?_
  refine step_ne rfl (by decide) ?_
  refine step_ne rfl (by decide) ?_
  refine step_ne rfl (by decide) ?_
  exact ⟨_, _, rfl, h⟩
theorem rd_word6 {g : GS} {a b c x : Int} {st : Sto} {Pd : VD} (ok : g.Ok) (a0 : 0 ≤ a) (a1 : a < 8) (b0 : 0 ≤ b) (b1 : b < 8) (c0 : 0 ≤ c) (h : Pd (resD (doW g 6 a b c x)) st) : t_chain (Ed Pd) (RW8 g (Str.ofString "div") a b c x) st := by
  have ba : atI (g.bs.map Dt.int) a = some (.int (bx g a)) := box_at ok a0 a1
  have bb : atI (g.bs.map Dt.int) b = some (.int (bx g b)) := box_at ok b0 b1
  have bc : atI (g.bs.map Dt.int) (c % 8) = some (.int (bx g (c % 8))) := box_at ok (by omega) (by omega)
  have va := box_in ok a0 a1
  have vb := box_in ok b0 b1
  have vc := box_in ok (i := c % 8) (by omega) (by omega)
  refine step_ne rfl (by decide) ?_
  refine step_in (s := Str.ofString "div") (t := Str.ofString "add") (u := Str.ofString "sub") (v := Str.ofString "mul") (k := false) (by rfl) (by decide) (iteF ?_)
  refine step_eq rfl (by decide) ?_
  simp only [tseq, tret, tcall, tacons, tanil, tbin, tvar, tcon, rIxD, seqOf, rMod, RW8, List.getElem?_cons_zero, List.getElem?_cons_succ, bb, bc]
  exact ⟨by decide, g, a, _, _, rfl, ok.b8, a0, a1, vc.1, vc.2, h⟩
theorem rd_word7 {g : GS} {a b c x : Int} {st : Sto} {Pd : VD} (ok : g.Ok) (a0 : 0 ≤ a) (a1 : a < 8) (b0 : 0 ≤ b) (b1 : b < 8) (c0 : 0 ≤ c) (h : Pd (resD (doW g 7 a b c x)) st) : t_chain (Ed Pd) (RW8 g (Str.ofString "get") a b c x) st := by
  have ba : atI (g.bs.map Dt.int) a = some (.int (bx g a)) := box_at ok a0 a1
  have bb : atI (g.bs.map Dt.int) b = some (.int (bx g b)) := box_at ok b0 b1
  have bc : atI (g.bs.map Dt.int) (c % 8) = some (.int (bx g (c % 8))) := box_at ok (by omega) (by omega)
  have va := box_in ok a0 a1
  have vb := box_in ok b0 b1
  have vc := box_in ok (i := c % 8) (by omega) (by omega)
  refine step_ne rfl (by decide) ?_
  refine step_in (s := Str.ofString "get") (t := Str.ofString "add") (u := Str.ofString "sub") (v := Str.ofString "mul") (k := false) (by rfl) (by decide) (iteF ?_)
  refine step_ne rfl (by decide) ?_
  refine step_eq rfl (by decide) ?_
  simp only [tseq, tret, tcall, tacons, tanil, tbin, tvar, tcon, rIxD, seqOf, L3.rAdd, RW8, List.getElem?_cons_zero, List.getElem?_cons_succ, bb, bc]
  exact ⟨g, a, _, rfl, ok, a0, a1, h⟩
theorem rd_word8 {g : GS} {a b c x : Int} {st : Sto} {Pd : VD} (ok : g.Ok) (a0 : 0 ≤ a) (a1 : a < 8) (b0 : 0 ≤ b) (b1 : b < 8) (c0 : 0 ≤ c) (h : Pd (resD (doW g 8 a b c x)) st) : t_chain (Ed Pd) (RW8 g (Str.ofString "set") a b c x) st := by
  have ba : atI (g.bs.map Dt.int) a = some (.int (bx g a)) := box_at ok a0 a1
  have bb : atI (g.bs.map Dt.int) b = some (.int (bx g b)) := box_at ok b0 b1
  have bc : atI (g.bs.map Dt.int) (c % 8) = some (.int (bx g (c % 8))) := box_at ok (by omega) (by omega)
  have va := box_in ok a0 a1
  have vb := box_in ok b0 b1
  have vc := box_in ok (i := c % 8) (by omega) (by omega)
  refine step_ne rfl (by decide) ?_
  refine step_in (s := Str.ofString "set") (t := Str.ofString "add") (u := Str.ofString "sub") (v := Str.ofString "mul") (k := false) (by rfl) (by decide) (iteF ?_)
  refine step_ne rfl (by decide) ?_
  refine step_ne rfl (by decide) ?_
  refine step_eq rfl (by decide) ?_
  simp only [tseq, tret, tcall, tacons, tanil, tbin, tvar, tcon, rIxD, seqOf, L3.rAdd, RW8, List.getElem?_cons_zero, List.getElem?_cons_succ, ba, bb, bc]
  exact ⟨g, _, _, rfl, ok, h⟩
theorem rd_word9 {g : GS} {a b c x : Int} {st : Sto} {Pd : VD} (ok : g.Ok) (a0 : 0 ≤ a) (a1 : a < 8) (b0 : 0 ≤ b) (b1 : b < 8) (c0 : 0 ≤ c) (h : Pd (resD (doW g 9 a b c x)) st) : t_chain (Ed Pd) (RW8 g (Str.ofString "jump") a b c x) st := by
  have ba : atI (g.bs.map Dt.int) a = some (.int (bx g a)) := box_at ok a0 a1
  have bb : atI (g.bs.map Dt.int) b = some (.int (bx g b)) := box_at ok b0 b1
  have bc : atI (g.bs.map Dt.int) (c % 8) = some (.int (bx g (c % 8))) := box_at ok (by omega) (by omega)
  have va := box_in ok a0 a1
  have vb := box_in ok b0 b1
  have vc := box_in ok (i := c % 8) (by omega) (by omega)
  refine step_ne rfl (by decide) ?_
  refine step_in (s := Str.ofString "jump") (t := Str.ofString "add") (u := Str.ofString "sub") (v := Str.ofString "mul") (k := false) (by rfl) (by decide) (iteF ?_)
  refine step_ne rfl (by decide) ?_
  refine step_ne rfl (by decide) ?_
  refine step_ne rfl (by decide) ?_
  refine step_eq rfl (by decide) ?_
  exact ⟨g, c, rfl, h⟩
theorem rd_word10 {g : GS} {a b c x : Int} {st : Sto} {Pd : VD} (ok : g.Ok) (a0 : 0 ≤ a) (a1 : a < 8) (b0 : 0 ≤ b) (b1 : b < 8) (c0 : 0 ≤ c) (h : Pd (resD (doW g 10 a b c x)) st) : t_chain (Ed Pd) (RW8 g (Str.ofString "when") a b c x) st := by
  have ba : atI (g.bs.map Dt.int) a = some (.int (bx g a)) := box_at ok a0 a1
  have bb : atI (g.bs.map Dt.int) b = some (.int (bx g b)) := box_at ok b0 b1
  have bc : atI (g.bs.map Dt.int) (c % 8) = some (.int (bx g (c % 8))) := box_at ok (by omega) (by omega)
  have va := box_in ok a0 a1
  have vb := box_in ok b0 b1
  have vc := box_in ok (i := c % 8) (by omega) (by omega)
  refine step_ne rfl (by decide) ?_
  refine step_in (s := Str.ofString "when") (t := Str.ofString "add") (u := Str.ofString "sub") (v := Str.ofString "mul") (k := false) (by rfl) (by decide) (iteF ?_)
  refine step_ne rfl (by decide) ?_
  refine step_ne rfl (by decide) ?_
  refine step_ne rfl (by decide) ?_
  refine step_ne rfl (by decide) ?_
  refine step_eq rfl (by decide) ?_
  refine ⟨a, g.m, rfl, a0, a1, ?_⟩
  have h : Pd (resD (if whenG a g.m = true then onG (leap g c) else onG (next g))) st := h
  cases hw : whenG a g.m with
  | true =>
    rw [hw, if_pos rfl] at h
    exact iteT ⟨g, c, rfl, h⟩
  | false =>
    rw [hw, if_neg Bool.false_ne_true] at h
    exact iteF ⟨g, rfl, _, rfl, h⟩
theorem rd_word11 {g : GS} {a b c x : Int} {st : Sto} {Pd : VD} (ok : g.Ok) (a0 : 0 ≤ a) (a1 : a < 8) (b0 : 0 ≤ b) (b1 : b < 8) (c0 : 0 ≤ c) (h : Pd (resD (doW g 11 a b c x)) st) : t_chain (Ed Pd) (RW8 g (Str.ofString "go") a b c x) st := by
  have ba : atI (g.bs.map Dt.int) a = some (.int (bx g a)) := box_at ok a0 a1
  have bb : atI (g.bs.map Dt.int) b = some (.int (bx g b)) := box_at ok b0 b1
  have bc : atI (g.bs.map Dt.int) (c % 8) = some (.int (bx g (c % 8))) := box_at ok (by omega) (by omega)
  have va := box_in ok a0 a1
  have vb := box_in ok b0 b1
  have vc := box_in ok (i := c % 8) (by omega) (by omega)
  refine step_ne rfl (by decide) ?_
  refine step_in (s := Str.ofString "go") (t := Str.ofString "add") (u := Str.ofString "sub") (v := Str.ofString "mul") (k := false) (by rfl) (by decide) (iteF ?_)
  refine step_ne rfl (by decide) ?_
  refine step_ne rfl (by decide) ?_
  refine step_ne rfl (by decide) ?_
  refine step_ne rfl (by decide) ?_
  refine step_ne rfl (by decide) ?_
  refine step_eq rfl (by decide) ?_
  simp only [tseq, tret, tcall, tacons, tanil, tbin, tvar, tcon, rIxD, seqOf, RW8, List.getElem?_cons_zero, List.getElem?_cons_succ, ba]
  exact ⟨g, _, rfl, _, rfl, h⟩
theorem rd_word12 {g : GS} {a b c x : Int} {st : Sto} {Pd : VD} (ok : g.Ok) (a0 : 0 ≤ a) (a1 : a < 8) (b0 : 0 ≤ b) (b1 : b < 8) (c0 : 0 ≤ c) (h : Pd (resD (doW g 12 a b c x)) st) : t_chain (Ed Pd) (RW8 g (Str.ofString "tell") a b c x) st := by
  have ba : atI (g.bs.map Dt.int) a = some (.int (bx g a)) := box_at ok a0 a1
  have bb : atI (g.bs.map Dt.int) b = some (.int (bx g b)) := box_at ok b0 b1
  have bc : atI (g.bs.map Dt.int) (c % 8) = some (.int (bx g (c % 8))) := box_at ok (by omega) (by omega)
  have va := box_in ok a0 a1
  have vb := box_in ok b0 b1
  have vc := box_in ok (i := c % 8) (by omega) (by omega)
  refine step_ne rfl (by decide) ?_
  refine step_in (s := Str.ofString "tell") (t := Str.ofString "add") (u := Str.ofString "sub") (v := Str.ofString "mul") (k := false) (by rfl) (by decide) (iteF ?_)
  refine step_ne rfl (by decide) ?_
  refine step_ne rfl (by decide) ?_
  refine step_ne rfl (by decide) ?_
  refine step_ne rfl (by decide) ?_
  refine step_ne rfl (by decide) ?_
  refine step_ne rfl (by decide) ?_
  refine step_eq rfl (by decide) ?_
  refine ⟨g, rfl, ?_⟩
  simp only [tret, tcall, tacons, ttup, tanil, tbin, tvar, tcon, rIxD, seqOf, RW8, List.getElem?_cons_zero, List.getElem?_cons_succ, ba]
  exact ⟨by show 1 ≤ sizeLine; decide, by show 3 ≤ sizeLine; decide, h⟩
theorem rd_word13 {g : GS} {a b c x : Int} {st : Sto} {Pd : VD} (ok : g.Ok) (a0 : 0 ≤ a) (a1 : a < 8) (b0 : 0 ≤ b) (b1 : b < 8) (c0 : 0 ≤ c) (h : Pd (resD (doW g 13 a b c x)) st) : t_chain (Ed Pd) (RW8 g (Str.ofString "hear") a b c x) st := by
  have ba : atI (g.bs.map Dt.int) a = some (.int (bx g a)) := box_at ok a0 a1
  have bb : atI (g.bs.map Dt.int) b = some (.int (bx g b)) := box_at ok b0 b1
  have bc : atI (g.bs.map Dt.int) (c % 8) = some (.int (bx g (c % 8))) := box_at ok (by omega) (by omega)
  have va := box_in ok a0 a1
  have vb := box_in ok b0 b1
  have vc := box_in ok (i := c % 8) (by omega) (by omega)
  refine step_ne rfl (by decide) ?_
  refine step_in (s := Str.ofString "hear") (t := Str.ofString "add") (u := Str.ofString "sub") (v := Str.ofString "mul") (k := false) (by rfl) (by decide) (iteF ?_)
  refine step_ne rfl (by decide) ?_
  refine step_ne rfl (by decide) ?_
  refine step_ne rfl (by decide) ?_
  refine step_ne rfl (by decide) ?_
  refine step_ne rfl (by decide) ?_
  refine step_ne rfl (by decide) ?_
  refine step_ne rfl (by decide) ?_
  refine step_eq rfl (by decide) ?_
  exact ⟨g, a, x, rfl, ok.b8, a0, a1, _, rfl, h⟩
theorem rd_word14 {g : GS} {a b c x : Int} {st : Sto} {Pd : VD} (ok : g.Ok) (a0 : 0 ≤ a) (a1 : a < 8) (b0 : 0 ≤ b) (b1 : b < 8) (c0 : 0 ≤ c) (h : Pd (resD (doW g 14 a b c x)) st) : t_chain (Ed Pd) (RW8 g (Str.ofString "right") a b c x) st := by
  have ba : atI (g.bs.map Dt.int) a = some (.int (bx g a)) := box_at ok a0 a1
  have bb : atI (g.bs.map Dt.int) b = some (.int (bx g b)) := box_at ok b0 b1
  have bc : atI (g.bs.map Dt.int) (c % 8) = some (.int (bx g (c % 8))) := box_at ok (by omega) (by omega)
  have va := box_in ok a0 a1
  have vb := box_in ok b0 b1
  have vc := box_in ok (i := c % 8) (by omega) (by omega)
  refine step_ne rfl (by decide) ?_
  refine step_in (s := Str.ofString "right") (t := Str.ofString "add") (u := Str.ofString "sub") (v := Str.ofString "mul") (k := false) (by rfl) (by decide) (iteF ?_)
  refine step_ne rfl (by decide) ?_
  refine step_ne rfl (by decide) ?_
  refine step_ne rfl (by decide) ?_
  refine step_ne rfl (by decide) ?_
  refine step_ne rfl (by decide) ?_
  refine step_ne rfl (by decide) ?_
  refine step_ne rfl (by decide) ?_
  refine step_ne rfl (by decide) ?_
  refine step_eq rfl (by decide) ?_
  simp only [tseq, tret, tcall, tacons, tanil, tbin, tvar, tcon, rIxD, seqOf, rMod, RW8, List.getElem?_cons_zero, List.getElem?_cons_succ, ba]
  exact ⟨by decide, g, _, _, rfl, ok, h⟩
theorem rd_word15 {g : GS} {a b c x : Int} {st : Sto} {Pd : VD} (ok : g.Ok) (a0 : 0 ≤ a) (a1 : a < 8) (b0 : 0 ≤ b) (b1 : b < 8) (c0 : 0 ≤ c) (h : Pd (resD (doW g 15 a b c x)) st) : t_chain (Ed Pd) (RW8 g (Str.ofString "back") a b c x) st := by
  have ba : atI (g.bs.map Dt.int) a = some (.int (bx g a)) := box_at ok a0 a1
  have bb : atI (g.bs.map Dt.int) b = some (.int (bx g b)) := box_at ok b0 b1
  have bc : atI (g.bs.map Dt.int) (c % 8) = some (.int (bx g (c % 8))) := box_at ok (by omega) (by omega)
  have va := box_in ok a0 a1
  have vb := box_in ok b0 b1
  have vc := box_in ok (i := c % 8) (by omega) (by omega)
  refine step_ne rfl (by decide) ?_
  refine step_in (s := Str.ofString "back") (t := Str.ofString "add") (u := Str.ofString "sub") (v := Str.ofString "mul") (k := false) (by rfl) (by decide) (iteF ?_)
  refine step_ne rfl (by decide) ?_
  refine step_ne rfl (by decide) ?_
  refine step_ne rfl (by decide) ?_
  refine step_ne rfl (by decide) ?_
  refine step_ne rfl (by decide) ?_
  refine step_ne rfl (by decide) ?_
  refine step_ne rfl (by decide) ?_
  refine step_ne rfl (by decide) ?_
  refine step_ne rfl (by decide) ?_
  refine step_eq rfl (by decide) ?_
  exact ⟨g, rfl, h⟩
theorem rd_do_word {ds : List Dt} {st : Sto} {Pd : VD} (h : spDoWord ds st Pd) : t_do_word (Ed Pd) (startD ["state", "row", "heard", "word", "a", "b", "c", "boxes"] ds) st := by
  obtain ⟨g, w, a, b, c, x, rfl, ok, w0, w1, a0, a1, b0, b1, c0, c1, h⟩ := h
  have cs := (show w = 0 ∨ w = 1 ∨ w = 2 ∨ w = 3 ∨ w = 4 ∨ w = 5 ∨ w = 6 ∨ w = 7 ∨ w = 8 ∨ w = 9 ∨ w = 10 ∨ w = 11 ∨ w = 12 ∨ w = 13 ∨ w = 14 ∨ w = 15 by omega)
  show t_chain (Ed Pd) (RW8 g (wName w) a b c x) st
  rcases cs with rfl | rfl | rfl | rfl | rfl | rfl | rfl | rfl | rfl | rfl | rfl | rfl | rfl | rfl | rfl | rfl
  · exact rd_word0 ok a0 a1 b0 b1 c0 h
  · exact rd_word1 ok a0 a1 b0 b1 c0 h
  · exact rd_word2 ok a0 a1 b0 b1 c0 h
  · exact rd_word3 ok a0 a1 b0 b1 c0 h
  · exact rd_word4 ok a0 a1 b0 b1 c0 h
  · exact rd_word5 ok a0 a1 b0 b1 c0 h
  · exact rd_word6 ok a0 a1 b0 b1 c0 h
  · exact rd_word7 ok a0 a1 b0 b1 c0 h
  · exact rd_word8 ok a0 a1 b0 b1 c0 h
  · exact rd_word9 ok a0 a1 b0 b1 c0 h
  · exact rd_word10 ok a0 a1 b0 b1 c0 h
  · exact rd_word11 ok a0 a1 b0 b1 c0 h
  · exact rd_word12 ok a0 a1 b0 b1 c0 h
  · exact rd_word13 ok a0 a1 b0 b1 c0 h
  · exact rd_word14 ok a0 a1 b0 b1 c0 h
  · exact rd_word15 ok a0 a1 b0 b1 c0 h
end K06
namespace KG
open PySem L2 L3 KH KS
end KG
namespace K17
open PySem L2 L3 KH KS
noncomputable def spRight : RDL := fun ds st P => ∃ (g : K06.GS) (a : Nat), ds = [g.d, .int a] ∧ g.Ok ∧ a < 1000 ∧ ∀ st', ExtS st st' → P (.bl true) st'
end K17
namespace K17
open PySem L2 L3 KS K06
theorem getD_of {cs : List Int} {i : Nat} (h : i < cs.length) : cs[i]? = some (cs.getD i 0) := by
  rw [List.getD_eq_getElem?_getD, List.getElem?_eq_getElem h]; rfl
theorem set_mem {xs : List Int} {i : Nat} {v x : Int} (h : x ∈ xs.set i v) : x ∈ xs ∨ x = v := by
  rcases List.mem_or_eq_of_mem_set h with h | h
  · exact .inl h
  · exact .inr h
theorem ok_box {g : GS} (ok : g.Ok) {a v : Int} (h0 : 0 ≤ v) (h1 : v < 65536) : (boxG g a v).Ok := by
  refine ⟨Int.emod_nonneg _ (by decide), ?_, fun x hx => ?_, ok.c8, ok.cm, ok.cb, ok.rb⟩
  · show (g.bs.set a.toNat v).length = 8
    rw [List.length_set]; exact ok.b8
  · rcases set_mem hx with h | h
    · exact ok.bb x h
    · rw [h]; exact ⟨h0, h1⟩
theorem ok_out {g : GS} (ok : g.Ok) {a v : Int} {k : Bool} (h0 : 0 ≤ v) (h1 : v < 65536) : (outG g a v k).Ok := by
  have := ok_box ok (a := a) h0 h1
  exact ⟨this.p0, this.b8, this.bb, this.c8, this.cm, this.cb, this.rb⟩
theorem ok_next {g : GS} (ok : g.Ok) : (next g).Ok := ⟨Int.emod_nonneg _ (by decide), ok.b8, ok.bb, ok.c8, ok.cm, ok.cb, ok.rb⟩
theorem ok_cell {g : GS} (ok : g.Ok) {q : Nat} {v : Int} (h0 : 0 ≤ v) (h1 : v < 65536) : ({ next g with cs := g.cs.set q v } : GS).Ok := by
  refine ⟨Int.emod_nonneg _ (by decide), ok.b8, ok.bb, ?_, ?_, fun x hx => ?_, ok.rb⟩
  · show (g.cs.set q v).length = _
    rw [List.length_set]; exact ok.c8
  · show (g.cs.set q v).length ≤ _
    rw [List.length_set]; exact ok.cm
  · rcases set_mem hx with h | h
    · exact ok.cb x h
    · rw [h]; exact ⟨h0, h1⟩
theorem bx_ok {g : GS} (ok : g.Ok) (i : Int) : 0 ≤ bx g i ∧ bx g i < 65536 := by
  unfold bx
  by_cases h : i.toNat < g.bs.length
  · have e : g.bs.getD i.toNat 0 = g.bs[i.toNat] := by simp [List.getD, h]
    rw [e]
    exact ok.bb _ (List.getElem_mem h)
  · have e : g.bs.getD i.toNat 0 = 0 := by rw [List.getD_eq_getElem?_getD, List.getElem?_eq_none (by omega)]; rfl
    rw [e]; exact ⟨by decide, by decide⟩
theorem cs_ok {g : GS} (ok : g.Ok) (i : Nat) : 0 ≤ g.cs.getD i 0 ∧ g.cs.getD i 0 < 65536 := by
  by_cases h : i < g.cs.length
  · have e : g.cs.getD i 0 = g.cs[i] := by simp [List.getD, h]
    rw [e]
    exact ok.cb _ (List.getElem_mem h)
  · have e : g.cs.getD i 0 = 0 := by rw [List.getD_eq_getElem?_getD, List.getElem?_eq_none (by omega)]; rfl
    rw [e]; exact ⟨by decide, by decide⟩
theorem ok_gs (g : GS) : okD 8 g.d = true := by
  have a1 : ∀ xs : List Int, okD 7 (.tup (xs.map .int)) = true := fun xs => all_ints xs 6
  have a2 : okD 7 (msD g.m) = true := rfl
  have a3 : okD 7 (svD g.sv) = true := by cases g.sv <;> rfl
  show (okD 7 (.int g.p) && (okD 7 (.tup (g.bs.map .int)) && (okD 7 (msD g.m) && (okD 7 (svD g.sv) && (okD 7 (.tup (g.rs.map .int)) && (okD 7 (.tup (g.cs.map .int)) && true)))))) = true
  rw [a1, a1, a1, a2, a3]; rfl
end K17
namespace KR
open PySem L2 L3 KS K06 K17
structure Ok2 (g : GS) : Prop where
  ok : g.Ok
  sv : ∀ q m, g.sv = some (q, m) → 0 ≤ q
noncomputable def dueB (bells : List Int) (g : GS) (rung done : Nat) : Bool := g.sv.isNone && (decide (rung < bells.length) && decide (bells.getD rung 0 ≤ (done : Int)))
noncomputable def bellG (g : GS) (ring : Int) : GS := { g with sv := some (g.p, g.m), p := ring }
noncomputable def hearB (g : GS) : Bool := decide (g.cs.getD g.p.toNat 0 / 4096 = 13)
structure RS where
  g : GS
  heard : Nat
  rung : Nat
  told : List Int
noncomputable def bellS (bells : List Int) (ring : Int) (done : Nat) (s : RS) : RS := if dueB bells s.g s.rung done = true then { s with g := bellG s.g ring, rung := s.rung + 1 } else s
noncomputable def rowS (given : List Int) (s : RS) : Res := doR s.g (given.getD s.heard 0)
noncomputable def nextS (given : List Int) (s : RS) : RS := { g := (rowS given s).2.1, heard := if (decide (s.heard < given.length) && hearB s.g) = true then s.heard + 1 else s.heard, rung := s.rung, told := s.told ++ (rowS given s).2.2 }
noncomputable def runF (given bells : List Int) (ring : Int) : Nat → Nat → RS → Str × RS × Nat
  | 0, done, s => ("more", s, done)
  | n + 1, done, s => if (rowS given (bellS bells ring done s)).1 = "on" then runF given bells ring n (done + 1) (nextS given (bellS bells ring done s)) else ((rowS given (bellS bells ring done s)).1, bellS bells ring done s, done)
noncomputable def winF (given bells : List Int) (ring : Int) : Nat → Nat → RS → List GS
  | 0, _, _ => []
  | n + 1, done, s => if (rowS given (bellS bells ring done s)).1 = "on" then (nextS given (bellS bells ring done s)).g :: winF given bells ring n (done + 1) (nextS given (bellS bells ring done s)) else []
noncomputable def resW (r : Str × RS × Nat) : Dt := .tup [.str r.1, r.2.1.g.d, .tup (r.2.1.told.map .int), .int (r.2.2 : Nat), .int (r.2.1.heard : Nat), .int (r.2.1.rung : Nat)]
noncomputable def s0 (g : GS) : RS := ⟨g, 0, 0, []⟩
theorem ok2_next {g : GS} (o : Ok2 g) : Ok2 (next g) := ⟨ok_next o.ok, o.sv⟩
theorem ok2_box {g : GS} (o : Ok2 g) {a v : Int} (h0 : 0 ≤ v) (h1 : v < 65536) : Ok2 (boxG g a v) := ⟨ok_box o.ok h0 h1, o.sv⟩
theorem ok2_out {g : GS} (o : Ok2 g) {a v : Int} {k : Bool} (h0 : 0 ≤ v) (h1 : v < 65536) : Ok2 (outG g a v k) := ⟨ok_out o.ok h0 h1, o.sv⟩
theorem ok2_leap {g : GS} (o : Ok2 g) (c : Int) : Ok2 (leap g c) := ⟨⟨Int.emod_nonneg _ (by decide), o.ok.b8, o.ok.bb, o.ok.c8, o.ok.cm, o.ok.cb, o.ok.rb⟩, o.sv⟩
noncomputable def Fine (r : Res) : Prop := Ok2 r.2.1 ∧ r.2.2.length ≤ 1
theorem fine_left {g : GS} (o : Ok2 g) (w : Str) : Fine (leftG w g) := ⟨o, Nat.zero_le _⟩
theorem fine_on {g : GS} (o : Ok2 g) : Fine (onG g) := ⟨o, Nat.zero_le _⟩
theorem fine_W {g : GS} (o : Ok2 g) {w a b c h : Int} (c0 : 0 ≤ c) (c1 : c < 64) (w0 : 0 ≤ w) (w1 : w < 16) (h0 : 0 ≤ h) (h1 : h < 65536) : Fine (doW g w a b c h) := by
  have ok := o.ok
  have b1 := bx_ok ok b
  have b2 := bx_ok ok (c % 8)
  have b3 := bx_ok ok a
  rcases (show w = 0 ∨ w = 1 ∨ w = 2 ∨ w = 3 ∨ w = 4 ∨ w = 5 ∨ w = 6 ∨ w = 7 ∨ w = 8 ∨ w = 9 ∨ w = 10 ∨ w = 11 ∨ w = 12 ∨ w = 13 ∨ w = 14 ∨ w = 15 by omega) with rfl | rfl | rfl | rfl | rfl | rfl | rfl | rfl | rfl | rfl | rfl | rfl | rfl | rfl | rfl | rfl
  · exact fine_left o _
  · exact fine_on (ok2_box o c0 (by omega))
  · exact fine_on (ok2_out o (Int.emod_nonneg _ (by decide)) (Int.emod_lt_of_pos _ (by decide)))
  · exact fine_on (ok2_out o (Int.emod_nonneg _ (by decide)) (Int.emod_lt_of_pos _ (by decide)))
  · exact fine_on (ok2_out o (Int.emod_nonneg _ (by decide)) (Int.emod_lt_of_pos _ (by decide)))
  · exact fine_left o _
  · show Fine (divG g a (bx g b) (bx g (c % 8)))
    unfold divG
    split
    · exact fine_left o _
    · exact fine_on (ok2_out o (Int.ediv_nonneg b1.1 b2.1) (Int.lt_of_le_of_lt (Int.ediv_le_self _ b1.1) b1.2))
  · show Fine (getG g a (bx g b + c))
    unfold getG
    split
    · exact fine_on (ok2_box o (cs_ok ok _).1 (cs_ok ok _).2)
    · exact fine_left o _
  · show Fine (setG g (bx g a) (bx g b + c))
    unfold setG
    split
    · exact fine_on ⟨ok_cell ok b3.1 b3.2, o.sv⟩
    · exact fine_left o _
  · exact fine_on (ok2_leap o c)
  · show Fine (if whenG a g.m = true then onG (leap g c) else onG (next g))
    split
    · exact fine_on (ok2_leap o c)
    · exact fine_on (ok2_next o)
  · exact fine_on ⟨⟨Int.emod_nonneg _ (by decide), ok.b8, ok.bb, ok.c8, ok.cm, ok.cb, ok.rb⟩, o.sv⟩
  · exact ⟨ok2_next o, Nat.le_refl _⟩
  · exact fine_on (ok2_box o h0 h1)
  · show Fine (rightG g (bx g a) (c % 8))
    unfold rightG
    split
    · refine fine_on ⟨⟨Int.emod_nonneg _ (by decide), ok.b8, ok.bb, ?_, ok.cm, ok.cb, fun x hx => ?_⟩, o.sv⟩
      · show g.cs.length = 8 * (g.rs.set _ _).length
        rw [List.length_set]; exact ok.c8
      · rcases set_mem hx with q | q
        · exact ok.rb x q
        · rw [q]; exact ⟨Int.emod_nonneg _ (by decide), Int.emod_lt_of_pos _ (by decide)⟩
    · exact fine_left o _
  · show Fine (backG g)
    unfold backG
    cases hs : g.sv with
    | none => exact fine_left o _
    | some qm =>
      obtain ⟨q, m⟩ := qm
      exact fine_on ⟨⟨o.sv q m hs, ok.b8, ok.bb, ok.c8, ok.cm, ok.cb, ok.rb⟩, fun _ _ e => by cases e⟩
theorem fine_R {g : GS} (o : Ok2 g) {h : Int} (h0 : 0 ≤ h) (h1 : h < 65536) : Fine (doR g h) := by
  unfold doR
  split
  · have hc := cs_ok o.ok g.p.toNat
    exact fine_W o (by omega) (by omega) (by omega) (by omega) h0 h1
  · exact fine_left o _
theorem on_may {g : GS} {h : Int} (e : (doR g h).1 = "on") : 0 ≤ g.p ∧ g.p < g.cs.length := by
  by_cases hm : may 4 g g.p = true
  · unfold may at hm
    simp only [Bool.and_eq_true, decide_eq_true_eq] at hm
    exact hm.1
  · unfold doR at e
    rw [if_neg hm] at e
    exact absurd e (by show ¬ ("closed" : Str) = "on"; decide +kernel)
theorem given_ok {given : List Int} (h : ∀ x ∈ given, 0 ≤ x ∧ x < 65536) (i : Nat) : 0 ≤ given.getD i 0 ∧ given.getD i 0 < 65536 := by
  by_cases hi : i < given.length
  · have e : given.getD i 0 = given[i] := by simp [List.getD, hi]
    rw [e]; exact h _ (List.getElem_mem hi)
  · have e : given.getD i 0 = 0 := by rw [List.getD_eq_getElem?_getD, List.getElem?_eq_none (by omega)]; rfl
    rw [e]; exact ⟨by decide, by decide⟩
theorem ok2_bell {bells : List Int} {ring : Int} {done : Nat} {s : RS} (o : Ok2 s.g) (hr : 0 ≤ ring) : Ok2 (bellS bells ring done s).g := by
  unfold bellS
  split
  · refine ⟨⟨hr, o.ok.b8, o.ok.bb, o.ok.c8, o.ok.cm, o.ok.cb, o.ok.rb⟩, fun q m e => ?_⟩
    have e : some (s.g.p, s.g.m) = some (q, m) := e
    cases e
    exact o.ok.p0
  · exact o
theorem bell_told {bells : List Int} {ring : Int} {done : Nat} {s : RS} : (bellS bells ring done s).told = s.told := by unfold bellS; split <;> rfl
theorem bell_heard {bells : List Int} {ring : Int} {done : Nat} {s : RS} : (bellS bells ring done s).heard = s.heard := by unfold bellS; split <;> rfl
theorem ok2_nextS {given : List Int} {s : RS} (o : Ok2 s.g) (h : ∀ x ∈ given, 0 ≤ x ∧ x < 65536) : Ok2 (nextS given s).g ∧ (nextS given s).told.length ≤ s.told.length + 1 := by
  have f := fine_R o (given_ok h s.heard).1 (given_ok h s.heard).2
  refine ⟨f.1, ?_⟩
  show (s.told ++ (rowS given s).2.2).length ≤ _
  rw [List.length_append]
  have := f.2
  unfold rowS
  omega
noncomputable def HasI (st : Sto) (n : Nat) (xs : List Int) : Prop := ∃ o, st[n]? = some o ∧ o.items = xs.map Dt.int
noncomputable def spDue : RDL := fun ds st P => ∃ (g : GS) (b : Nat) (bells : List Int) (rung done : Nat), ds = [g.d, .lst b, .int rung, .int done] ∧ HasI st b bells ∧ P (.bl (dueB bells g rung done)) st
noncomputable def spBell : RDL := fun ds st P => ∃ (g : GS) (ring : Int), ds = [g.d, .int ring] ∧ P (bellG g ring).d st
noncomputable def spHear : RDL := fun ds st P => ∃ g : GS, ds = [g.d] ∧ g.Ok ∧ g.p < g.cs.length ∧ P (.bl (hearB g)) st
noncomputable def spRunW : RDL := fun ds st P => ∃ (g : GS) (gi be : Nat) (given bells : List Int) (ring : Int) (n : Nat), ds = [g.d, .lst gi, .lst be, .int ring, .int n] ∧ Ok2 g ∧ HasI st gi given ∧ HasI st be bells ∧ (∀ x ∈ given, 0 ≤ x ∧ x < 65536) ∧ 0 ≤ ring ∧ n ≤ 1000 ∧
  ∀ st' w, ExtS st st' → st.length ≤ w → st'[w]? = some (.rw ((g :: winF given bells ring n 0 (s0 g)).map GS.d)) → P (.tup [resW (runF given bells ring n 0 (s0 g)), .lst w]) st'
noncomputable def spRun : RDL := fun ds st P => ∃ (g : GS) (gi be : Nat) (given bells : List Int) (ring : Int) (n : Nat), ds = [g.d, .lst gi, .lst be, .int ring, .int n] ∧ Ok2 g ∧ HasI st gi given ∧ HasI st be bells ∧ (∀ x ∈ given, 0 ≤ x ∧ x < 65536) ∧ 0 ≤ ring ∧ n ≤ 1000 ∧
  ∀ st', ExtS st st' → P (resW (runF given bells ring n 0 (s0 g))) st'
end KR
namespace KR
open PySem PySem.Spec PyProof.Rows L2 L3 KH KS K06 K17
noncomputable abbrev t_is_due : TSD := (tseq (tret (tandV (tbin (rIsD false) (tbin rIxD (tvar 0) (tcon (Dt.int 3))) (tcon Dt.non)) (tandV (tbin (rCmpI fun i j => decide (i < j)) (tvar 2) (tcall rLen (tacons (tvar 1) tanil))) (tbin (rCmpI fun i j => decide (i ≤ j)) (tbin rIxD (tvar 1) (tvar 2)) (tvar 3))))) tnext)
noncomputable abbrev t_with_bell : TSD := (tseq (tasg (ttup (tacons (tbin rIxD (tvar 0) (tcon (Dt.int 0))) (tacons (tbin rIxD (tvar 0) (tcon (Dt.int 2))) tanil))) (gname 2)) (tseq (tret (tcall K06.spReplaced (tacons (tcall K06.spReplaced (tacons (tvar 0) (tacons (tcon (Dt.int 3)) (tacons (tvar 2) tanil)))) (tacons (tcon (Dt.int 0)) (tacons (tvar 1) tanil))))) tnext))
noncomputable abbrev t_is_hear : TSD := (tseq (tret (tbin (rEqD false) (tbin rIxD (tcall K01.spSetOut (tacons (tbin rIxD (tbin rIxD (tvar 0) (tcon (Dt.int 5))) (tbin rIxD (tvar 0) (tcon (Dt.int 0)))) tanil)) (tcon (Dt.int 0))) (tcon (Dt.str (Str.ofString "hear"))))) tnext)
noncomputable abbrev t_run_and_window : TSD := (tseq (tasg (tlst tanil) (gname 5)) (tseq (tasg (tcon (Dt.int 0)) (gname 6)) (tseq (tasg (tcon (Dt.int 0)) (gname 7)) (tseq (tasg (tlst (tacons (tvar 0) tanil)) (gname 8)) (tseq (tfor (irng1 (tvar 4)) (gname 9) (tseq (tifS (tbool (tcall KR.spDue (tacons (tvar 0) (tacons (tvar 2) (tacons (tvar 7) (tacons (tvar 9) tanil)))))) (tseq (tasg (tcall KR.spBell (tacons (tvar 0) (tacons (tvar 3) tanil))) (gname 0)) (tseq (taug 7 (tcon (Dt.int 1))) tnext)) tnext) (tseq (tasg (tcall K06.spDoRow (tacons (tvar 0) (tacons (tifE (tbool (tbin (rCmpI fun i j => decide (i < j)) (tvar 6) (tcall rLen (tacons (tvar 1) tanil)))) (tbin rIxD (tvar 1) (tvar 6)) (tcon (Dt.int 0))) tanil))) (gname 10)) (tseq (tifS (tbool (tbin (rEqD true) (tbin rIxD (tvar 10) (tcon (Dt.int 0))) (tcon (Dt.str (Str.ofString "on"))))) (tseq (tret (ttup (tacons (ttup (tacons (tbin rIxD (tvar 10) (tcon (Dt.int 0))) (tacons (tvar 0) (tacons (tcall rTuple (tacons (tvar 5) tanil)) (tacons (tvar 9) (tacons (tvar 6) (tacons (tvar 7) tanil))))))) (tacons (tvar 8) tanil)))) tnext) tnext) (tseq (tifS (tandB (tbool (tbin (rCmpI fun i j => decide (i < j)) (tvar 6) (tcall rLen (tacons (tvar 1) tanil)))) (tbool (tcall KR.spHear (tacons (tvar 0) tanil)))) (tseq (taug 6 (tcon (Dt.int 1))) tnext) tnext) (tseq (tasg (tbin rIxD (tvar 10) (tcon (Dt.int 1))) (gname 0)) (tseq (tdrop (textend (tvar 5) (tbin rIxD (tvar 10) (tcon (Dt.int 2))))) (tseq (tdrop (tappend (tvar 8) (tvar 0))) tnext)))))))) (tseq (tret (ttup (tacons (ttup (tacons (tcon (Dt.str (Str.ofString "more"))) (tacons (tvar 0) (tacons (tcall rTuple (tacons (tvar 5) tanil)) (tacons (tbin L3.rSub (tcall rLen (tacons (tvar 8) tanil)) (tcon (Dt.int 1))) (tacons (tvar 6) (tacons (tvar 7) tanil))))))) (tacons (tvar 8) tanil)))) tnext))))))
noncomputable abbrev t_run : TSD := (tseq (tret (tbin rIxD (tcall KR.spRunW (tacons (tvar 0) (tacons (tvar 1) (tacons (tvar 2) (tacons (tvar 3) (tacons (tvar 4) tanil)))))) (tcon (Dt.int 0)))) tnext)
noncomputable def rw5 : TSD := (tseq (tret (ttup (tacons (ttup (tacons (tcon (Dt.str (Str.ofString "more"))) (tacons (tvar 0) (tacons (tcall rTuple (tacons (tvar 5) tanil)) (tacons (tbin L3.rSub (tcall rLen (tacons (tvar 8) tanil)) (tcon (Dt.int 1))) (tacons (tvar 6) (tacons (tvar 7) tanil))))))) (tacons (tvar 8) tanil)))) tnext)
noncomputable def rw4 : TSD := (tseq (tfor (irng1 (tvar 4)) (gname 9) (tseq (tifS (tbool (tcall KR.spDue (tacons (tvar 0) (tacons (tvar 2) (tacons (tvar 7) (tacons (tvar 9) tanil)))))) (tseq (tasg (tcall KR.spBell (tacons (tvar 0) (tacons (tvar 3) tanil))) (gname 0)) (tseq (taug 7 (tcon (Dt.int 1))) tnext)) tnext) (tseq (tasg (tcall K06.spDoRow (tacons (tvar 0) (tacons (tifE (tbool (tbin (rCmpI fun i j => decide (i < j)) (tvar 6) (tcall rLen (tacons (tvar 1) tanil)))) (tbin rIxD (tvar 1) (tvar 6)) (tcon (Dt.int 0))) tanil))) (gname 10)) (tseq (tifS (tbool (tbin (rEqD true) (tbin rIxD (tvar 10) (tcon (Dt.int 0))) (tcon (Dt.str (Str.ofString "on"))))) (tseq (tret (ttup (tacons (ttup (tacons (tbin rIxD (tvar 10) (tcon (Dt.int 0))) (tacons (tvar 0) (tacons (tcall rTuple (tacons (tvar 5) tanil)) (tacons (tvar 9) (tacons (tvar 6) (tacons (tvar 7) tanil))))))) (tacons (tvar 8) tanil)))) tnext) tnext) (tseq (tifS (tandB (tbool (tbin (rCmpI fun i j => decide (i < j)) (tvar 6) (tcall rLen (tacons (tvar 1) tanil)))) (tbool (tcall KR.spHear (tacons (tvar 0) tanil)))) (tseq (taug 6 (tcon (Dt.int 1))) tnext) tnext) (tseq (tasg (tbin rIxD (tvar 10) (tcon (Dt.int 1))) (gname 0)) (tseq (tdrop (textend (tvar 5) (tbin rIxD (tvar 10) (tcon (Dt.int 2))))) (tseq (tdrop (tappend (tvar 8) (tvar 0))) tnext)))))))) rw5)
noncomputable def rb4 : TSD := (tseq (tasg (tbin rIxD (tvar 10) (tcon (Dt.int 1))) (gname 0)) (tseq (tdrop (textend (tvar 5) (tbin rIxD (tvar 10) (tcon (Dt.int 2))))) (tseq (tdrop (tappend (tvar 8) (tvar 0))) tnext)))
noncomputable def rb3 : TSD := (tseq (tifS (tandB (tbool (tbin (rCmpI fun i j => decide (i < j)) (tvar 6) (tcall rLen (tacons (tvar 1) tanil)))) (tbool (tcall KR.spHear (tacons (tvar 0) tanil)))) (tseq (taug 6 (tcon (Dt.int 1))) tnext) tnext) rb4)
noncomputable def rb1 : TSD := (tseq (tasg (tcall K06.spDoRow (tacons (tvar 0) (tacons (tifE (tbool (tbin (rCmpI fun i j => decide (i < j)) (tvar 6) (tcall rLen (tacons (tvar 1) tanil)))) (tbin rIxD (tvar 1) (tvar 6)) (tcon (Dt.int 0))) tanil))) (gname 10)) (tseq (tifS (tbool (tbin (rEqD true) (tbin rIxD (tvar 10) (tcon (Dt.int 0))) (tcon (Dt.str (Str.ofString "on"))))) (tseq (tret (ttup (tacons (ttup (tacons (tbin rIxD (tvar 10) (tcon (Dt.int 0))) (tacons (tvar 0) (tacons (tcall rTuple (tacons (tvar 5) tanil)) (tacons (tvar 9) (tacons (tvar 6) (tacons (tvar 7) tanil))))))) (tacons (tvar 8) tanil)))) tnext) tnext) rb3))
noncomputable def rb0 : TSD := (tseq (tifS (tbool (tcall KR.spDue (tacons (tvar 0) (tacons (tvar 2) (tacons (tvar 7) (tacons (tvar 9) tanil)))))) (tseq (tasg (tcall KR.spBell (tacons (tvar 0) (tacons (tvar 3) tanil))) (gname 0)) (tseq (taug 7 (tcon (Dt.int 1))) tnext)) tnext) rb1)
theorem seq_hasI {st : Sto} {n : Nat} {xs : List Int} (h : HasI st n xs) : seqOf st (.lst n) = some (xs.map .int) := by
  obtain ⟨o, a, b⟩ := h
  show (st[n]?).map SO.items = _
  rw [a, ← b]; rfl
theorem HasI.ext {st st' : Sto} {n : Nat} {xs : List Int} (h : HasI st n xs) (e : ExtS st st') : HasI st' n xs := by
  obtain ⟨o, a, b⟩ := h
  exact ⟨o, e _ _ a, b⟩
theorem lenIL {st : Sto} {n : Nat} {xs : List Int} {P : VD} (h : HasI st n xs) (q : P (.int (xs.length : Nat)) st) : rLen [.lst n] st P := by
  show (match seqOf st (.lst n) with | some xs => _ | none => _)
  rw [seq_hasI h]
  show P (.int ((xs.map Dt.int).length : Nat)) st
  rw [List.length_map]; exact q
theorem ixIL {st : Sto} {n i : Nat} {xs : List Int} {P : VD} (h : HasI st n xs) (hi : i < xs.length) (q : P (.int (xs.getD i 0)) st) : rIxD (.lst n) (.int (i : Int)) st P := by
  obtain ⟨d, ha, _, hg⟩ := atI_of (xs := xs.map Dt.int) (v := (i : Int)) (by omega) (by rw [List.length_map]; omega)
  refine pickS (seq_hasI h) ha ?_
  rw [Int.toNat_natCast] at hg
  obtain ⟨x, hx, rfl⟩ := get_int hg
  rw [List.getD_eq_getElem?_getD, hx] at q
  exact q
theorem isN {g : GS} {st : Sto} {P : VD} : rIsD false (svD g.sv) .non st P = P (.bl g.sv.isNone) st := by
  cases h : g.sv with
  | none => rfl
  | some qm => rfl
theorem gx3 {g : GS} {st : Sto} {P : VD} : rIxD g.d (.int 3) st P = P (svD g.sv) st := rfl
theorem gx0 {g : GS} {st : Sto} {P : VD} : rIxD g.d (.int 0) st P = P (.int g.p) st := rfl
theorem gx5 {g : GS} {st : Sto} {P : VD} : rIxD g.d (.int 5) st P = P (isD g.cs) st := rfl
theorem rx0 {r : Res} {st : Sto} {P : VD} : rIxD (resD r) (.int 0) st P = P (.str r.1) st := rfl
theorem rd_is_due {ds : List Dt} {st : Sto} {Pd : VD} (h : spDue ds st Pd) : t_is_due (Ed Pd) (startD ["state", "bells", "rung", "done"] ds) st := by
  obtain ⟨g, b, bells, rung, done, rfl, hb, hP⟩ := h
  show t_is_due (Ed Pd) [some g.d, some (.lst b), some (.int rung), some (.int done)] st
  simp only [t_is_due, tseq, tret, tandV, tbin, tvar, tcon, tcall, tacons, tanil, gx3, isN, List.getElem?_cons_zero, List.getElem?_cons_succ]
  unfold dueB at hP
  cases hs : g.sv.isNone with
  | false => rw [hs] at hP; exact hP
  | true =>
    rw [hs, Bool.true_and] at hP
    refine iteT (lenIL hb ?_)
    by_cases hc : rung < bells.length
    · rw [decide_eq_true hc, Bool.true_and] at hP
      refine KH.iteB (decide_eq_true (by omega)) ?_
      exact ixIL hb hc hP
    · rw [decide_eq_false hc, Bool.false_and] at hP
      exact iteBF (decide_eq_false (by omega)) hP
theorem rd_with_bell {ds : List Dt} {st : Sto} {Pd : VD} (h : spBell ds st Pd) : t_with_bell (Ed Pd) (startD ["state", "ring", "saved"] ds) st := by
  obtain ⟨g, ring, rfl, hP⟩ := h
  refine ⟨by show 2 ≤ sizeLine; decide, ?_⟩
  refine ⟨_, 3, .tup [.int g.p, msD g.m], rfl, by decide, by show (3 : Int) < 6; decide, by show 6 ≤ 200; decide, ?_⟩
  exact ⟨_, 0, .int ring, rfl, by decide, by show (0 : Int) < 6; decide, by show 6 ≤ 200; decide, hP⟩
theorem hear_w : ∀ w : Int, 0 ≤ w → w < 16 → (eqD 8 (.str (K01.wordOf w)) (.str "hear") != false) = decide (w = 13) := by
  intro w h0 h1
  rcases (show w = 0 ∨ w = 1 ∨ w = 2 ∨ w = 3 ∨ w = 4 ∨ w = 5 ∨ w = 6 ∨ w = 7 ∨ w = 8 ∨ w = 9 ∨ w = 10 ∨ w = 11 ∨ w = 12 ∨ w = 13 ∨ w = 14 ∨ w = 15 by omega) with rfl | rfl | rfl | rfl | rfl | rfl | rfl | rfl | rfl | rfl | rfl | rfl | rfl | rfl | rfl | rfl <;> decide +kernel
theorem rd_is_hear {ds : List Dt} {st : Sto} {Pd : VD} (h : spHear ds st Pd) : t_is_hear (Ed Pd) (startD ["state"] ds) st := by
  obtain ⟨g, rfl, ok, hp, hP⟩ := h
  show t_is_hear (Ed Pd) [some g.d] st
  simp only [t_is_hear, tseq, tret, tbin, tvar, tcon, tcall, tacons, tanil, gx5, gx0, List.getElem?_cons_zero]
  refine ixI ok.p0 hp ?_
  refine ⟨_, rfl, ?_⟩
  have hc := cs_ok ok g.p.toNat
  show rEqD false (.str (K01.wordOf (g.cs.getD g.p.toNat 0 / 4096 % 16))) (.str "hear") st _
  refine ⟨rfl, rfl, ?_⟩
  rw [hear_w _ (by omega) (by omega)]
  rw [show g.cs.getD g.p.toNat 0 / 4096 % 16 = g.cs.getD g.p.toNat 0 / 4096 by omega]
  exact hP
theorem rd_run {ds : List Dt} {st : Sto} {Pd : VD} (h : spRun ds st Pd) : t_run (Ed Pd) (startD ["state", "given", "bells", "ring", "most"] ds) st := by
  obtain ⟨g, gi, be, given, bells, ring, n, rfl, ok, hg, hb, hgb, hr, hn, hP⟩ := h
  exact ⟨g, gi, be, given, bells, ring, n, rfl, ok, hg, hb, hgb, hr, hn, fun st' w e _ _ => hP st' e⟩
noncomputable abbrev RR (g : GS) (gi be : Nat) (ring : Int) (n : Nat) (to : Nat) (heard rung : Nat) (ws : Nat) (x9 x10 : Option Dt) : Rho := [some g.d, some (.lst gi), some (.lst be), some (.int ring), some (.int n), some (.lst to), some (.int heard), some (.int rung), some (.lst ws), x9, x10]
structure RSt (st : Sto) (gi be to ws : Nat) (given bells : List Int) (told : List Int) (win : List GS) : Prop where
  g : HasI st gi given
  b : HasI st be bells
  t : st[to]? = some (.rw (told.map .int))
  w : st[ws]? = some (.rw (win.map GS.d))
section
variable {E : EndsD} {st st0 : Sto} {gi be to ws n done : Nat} {given bells : List Int} {ring : Int} {s : RS} {win : List GS} {x10 : Option Dt}
theorem run4 (R : RSt st gi be to ws given bells s.told win) (ok : Ok2 s.g) (hg : ∀ x ∈ given, 0 ≤ x ∧ x < 65536) (htl : s.told.length ≤ 1000) (hwl : win.length ≤ 1001) (hne : to ≠ ws) (h1 : gi < to) (h2 : be < to) (h3 : gi < ws) (h4 : be < ws)
    (hE : ∀ st' x10, (∀ i o, i ≠ to → i ≠ ws → st[i]? = some o → st'[i]? = some o) → RSt st' gi be to ws given bells (nextS given s).told (win ++ [(nextS given s).g]) → E.nx (RR (nextS given s).g gi be ring n to (nextS given s).heard s.rung ws (some (.int done)) x10) st') :
    rb4 E (RR s.g gi be ring n to (nextS given s).heard s.rung ws (some (.int done)) (some (resD (rowS given s)))) st := by
  have f := fine_R ok (given_ok hg s.heard).1 (given_ok hg s.heard).2
  obtain ⟨r, hr⟩ : ∃ r, r = rowS given s := ⟨_, rfl⟩
  have f1 : r.2.2.length ≤ 1 := by rw [hr]; exact f.2
  have e1 : (nextS given s).g = r.2.1 := by rw [hr]; rfl
  have e2 : (nextS given s).told = s.told ++ r.2.2 := by rw [hr]; rfl
  rw [← hr]
  obtain ⟨w, g', ts⟩ := r
  simp only at f1 e1 e2
  show (tseq (tdrop (textend (tvar 5) (tbin rIxD (tvar 10) (tcon (Dt.int 2))))) (tseq (tdrop (tappend (tvar 8) (tvar 0))) tnext)) E (RR g' gi be ring n to (nextS given s).heard s.rung ws (some (.int done)) (some (resD (w, g', ts)))) st
  show (match st[to]? with | some (.rw xs) => _ | _ => _)
  rw [R.t]
  have hsz : (1000 : Nat) + 1 ≤ sizeLine := by decide
  refine ⟨by rw [List.length_map, List.length_map]; show s.told.length + ts.length ≤ sizeLine; omega, ?_⟩
  have w2 : (st.set to (.rw (s.told.map .int ++ ts.map .int)))[ws]? = some (.rw (win.map GS.d)) := get_set_ne R.w hne
  show (match (st.set to (.rw (s.told.map .int ++ ts.map .int)))[ws]? with | some (.rw xs) => _ | _ => _)
  rw [w2]
  refine ⟨by rw [List.length_map]; exact Nat.lt_of_le_of_lt hwl (by decide), ?_⟩
  rw [← e1]
  refine hE _ _ (fun i o n1 n2 q => get_set_ne (get_set_ne q (Ne.symm n1)) (Ne.symm n2)) ⟨?_, ?_, ?_, ?_⟩
  · obtain ⟨o, q, z⟩ := R.g
    exact ⟨o, get_set_ne (get_set_ne q (by omega)) (by omega), z⟩
  · obtain ⟨o, q, z⟩ := R.b
    exact ⟨o, get_set_ne (get_set_ne q (by omega)) (by omega), z⟩
  · rw [e2, List.map_append]
    exact get_set_ne (get_set_self R.t) (Ne.symm hne)
  · rw [get_set_self w2, e1, List.map_append]
    rfl
theorem run3 (R : RSt st gi be to ws given bells s.told win) (ok : Ok2 s.g) (hon : (rowS given s).1 = "on") (hg : ∀ x ∈ given, 0 ≤ x ∧ x < 65536) (htl : s.told.length ≤ 1000) (hwl : win.length ≤ 1001) (hne : to ≠ ws) (h1 : gi < to) (h2 : be < to) (h3 : gi < ws) (h4 : be < ws)
    (hE : ∀ st' x10, (∀ i o, i ≠ to → i ≠ ws → st[i]? = some o → st'[i]? = some o) → RSt st' gi be to ws given bells (nextS given s).told (win ++ [(nextS given s).g]) → E.nx (RR (nextS given s).g gi be ring n to (nextS given s).heard s.rung ws (some (.int done)) x10) st') :
    rb3 E (RR s.g gi be ring n to s.heard s.rung ws (some (.int done)) (some (resD (rowS given s)))) st := by
  have hp := on_may hon
  have fin := run4 (E := E) (n := n) (ring := ring) (done := done) R ok hg htl hwl hne h1 h2 h3 h4 hE
  simp only [rb3, tseq, tifS, tandB, tbool, tbin, tvar, tcall, tacons, tanil, List.getElem?_cons_zero, List.getElem?_cons_succ]
  refine lenIL R.g ?_
  have eh : (nextS given s).heard = if (decide (s.heard < given.length) && hearB s.g) = true then s.heard + 1 else s.heard := rfl
  by_cases hc : s.heard < given.length
  · refine KH.iteB (decide_eq_true (by omega)) ?_
    refine ⟨s.g, rfl, ok.ok, hp.2, ?_⟩
    rw [decide_eq_true hc, Bool.true_and] at eh
    cases hh : hearB s.g with
    | true =>
      rw [hh, if_pos rfl] at eh
      rw [eh] at fin
      refine iteT ?_
      exact fin
    | false =>
      rw [hh, if_neg Bool.false_ne_true] at eh
      rw [eh] at fin
      refine iteF ?_
      exact fin
  · refine iteBF (decide_eq_false (by omega)) ?_
    rw [decide_eq_false hc, Bool.false_and, if_neg Bool.false_ne_true] at eh
    rw [eh] at fin
    exact fin
theorem run1 (R : RSt st gi be to ws given bells s.told win) (ok : Ok2 s.g) (hg : ∀ x ∈ given, 0 ≤ x ∧ x < 65536) (htl : s.told.length ≤ 1000) (hwl : win.length ≤ 1001) (hne : to ≠ ws) (h1 : gi < to) (h2 : be < to) (h3 : gi < ws) (h4 : be < ws)
    (hS : (rowS given s).1 ≠ "on" → E.rt (.tup [resW ((rowS given s).1, s, done), .lst ws]) st)
    (hE : (rowS given s).1 = "on" → ∀ st' x10, (∀ i o, i ≠ to → i ≠ ws → st[i]? = some o → st'[i]? = some o) → RSt st' gi be to ws given bells (nextS given s).told (win ++ [(nextS given s).g]) → E.nx (RR (nextS given s).g gi be ring n to (nextS given s).heard s.rung ws (some (.int done)) x10) st') :
    rb1 E (RR s.g gi be ring n to s.heard s.rung ws (some (.int done)) x10) st := by
  have row : ∀ v, v = given.getD s.heard 0 → (K06.spDoRow [s.g.d, .int v] st fun d st1 => (tseq (tifS (tbool (tbin (rEqD true) (tbin rIxD (tvar 10) (tcon (Dt.int 0))) (tcon (Dt.str (Str.ofString "on"))))) (tseq (tret (ttup (tacons (ttup (tacons (tbin rIxD (tvar 10) (tcon (Dt.int 0))) (tacons (tvar 0) (tacons (tcall rTuple (tacons (tvar 5) tanil)) (tacons (tvar 9) (tacons (tvar 6) (tacons (tvar 7) tanil))))))) (tacons (tvar 8) tanil)))) tnext) tnext) rb3) E (RR s.g gi be ring n to s.heard s.rung ws (some (.int done)) (some d)) st1) := by
    intro v hv
    refine ⟨s.g, v, rfl, ok.ok, ?_⟩
    rw [hv]
    show (tseq _ rb3) E (RR s.g gi be ring n to s.heard s.rung ws (some (.int done)) (some (resD (rowS given s)))) st
    by_cases hon : (rowS given s).1 = "on"
    · have nx := run3 (E := E) (n := n) (ring := ring) (done := done) R ok hon hg htl hwl hne h1 h2 h3 h4 (hE hon)
      simp only [tseq, tifS, tbool, tbin, tvar, tcon, rx0, List.getElem?_cons_zero, List.getElem?_cons_succ]
      refine ⟨rfl, rfl, iteBF ?_ nx⟩
      show (((rowS given s).1 == ("on" : Str)) != true) = false
      rw [hon]; decide +kernel
    · simp only [tseq, tifS, tbool, tbin, tvar, tcon, rx0, List.getElem?_cons_zero, List.getElem?_cons_succ]
      refine ⟨rfl, rfl, KH.iteB ?_ ?_⟩
      · show (((rowS given s).1 == ("on" : Str)) != true) = true
        rw [beq_eq_false_iff_ne.mpr hon]; rfl
      · have hT : seqOf st (.lst to) = some (s.told.map .int) := by
          show (st[to]?).map SO.items = _
          rw [R.t]; rfl
        simp only [tret, ttup, tacons, tbin, tvar, tcon, tcall, tanil, rx0, rTuple, List.getElem?_cons_zero, List.getElem?_cons_succ]
        show (match seqOf st (.lst to) with | some xs => _ | none => _)
        rw [hT]
        refine ⟨by show 6 ≤ sizeLine; decide, by show 2 ≤ sizeLine; decide, ?_⟩
        exact hS hon
  simp only [rb1, tseq, tasg, tcall, tacons, tifE, tbool, tbin, tvar, tcon, tanil, List.getElem?_cons_zero, List.getElem?_cons_succ]
  refine lenIL R.g ?_
  by_cases hc : s.heard < given.length
  · refine KH.iteB (decide_eq_true (by omega)) ?_
    exact ixIL R.g hc (row _ rfl)
  · refine iteBF (decide_eq_false (by omega)) ?_
    exact row 0 (by rw [List.getD_eq_getElem?_getD, List.getElem?_eq_none (by omega)]; rfl)
theorem run0 (R : RSt st gi be to ws given bells s.told win) (ok : Ok2 s.g) (hr : 0 ≤ ring) (hg : ∀ x ∈ given, 0 ≤ x ∧ x < 65536) (htl : s.told.length ≤ 1000) (hwl : win.length ≤ 1001) (hne : to ≠ ws) (h1 : gi < to) (h2 : be < to) (h3 : gi < ws) (h4 : be < ws)
    (hS : (rowS given (bellS bells ring done s)).1 ≠ "on" → E.rt (.tup [resW ((rowS given (bellS bells ring done s)).1, bellS bells ring done s, done), .lst ws]) st)
    (hE : (rowS given (bellS bells ring done s)).1 = "on" → ∀ st' x10, (∀ i o, i ≠ to → i ≠ ws → st[i]? = some o → st'[i]? = some o) → RSt st' gi be to ws given bells (nextS given (bellS bells ring done s)).told (win ++ [(nextS given (bellS bells ring done s)).g]) → E.nx (RR (nextS given (bellS bells ring done s)).g gi be ring n to (nextS given (bellS bells ring done s)).heard (bellS bells ring done s).rung ws (some (.int done)) x10) st') :
    rb0 E (RR s.g gi be ring n to s.heard s.rung ws (some (.int done)) x10) st := by
  have main := run1 (E := E) (n := n) (ring := ring) (done := done) (s := bellS bells ring done s) (x10 := x10) (by rw [bell_told]; exact R) (ok2_bell ok hr) hg (by rw [bell_told]; exact htl) hwl hne h1 h2 h3 h4 hS hE
  simp only [rb0, tseq, tifS, tbool, tcall, tacons, tanil, tvar, List.getElem?_cons_zero, List.getElem?_cons_succ]
  refine ⟨s.g, be, bells, s.rung, done, rfl, R.b, ?_⟩
  cases hd : dueB bells s.g s.rung done with
  | true =>
    have e : bellS bells ring done s = { s with g := bellG s.g ring, rung := s.rung + 1 } := by unfold bellS; rw [if_pos hd]
    rw [e] at main
    refine iteT ?_
    refine ⟨s.g, ring, rfl, ?_⟩
    exact main
  | false =>
    have e : bellS bells ring done s = s := by unfold bellS; rw [if_neg (by rw [hd]; exact Bool.false_ne_true)]
    rw [e] at main
    refine iteF ?_
    exact main
end
theorem runF_step {given bells : List Int} {ring : Int} {n done : Nat} {s : RS} (h : (rowS given (bellS bells ring done s)).1 = "on") : runF given bells ring (n + 1) done s = runF given bells ring n (done + 1) (nextS given (bellS bells ring done s)) := by rw [runF, if_pos h]
theorem runF_stop {given bells : List Int} {ring : Int} {n done : Nat} {s : RS} (h : ¬ (rowS given (bellS bells ring done s)).1 = "on") : runF given bells ring (n + 1) done s = ((rowS given (bellS bells ring done s)).1, bellS bells ring done s, done) := by rw [runF, if_neg h]
theorem winF_step {given bells : List Int} {ring : Int} {n done : Nat} {s : RS} (h : (rowS given (bellS bells ring done s)).1 = "on") : winF given bells ring (n + 1) done s = (nextS given (bellS bells ring done s)).g :: winF given bells ring n (done + 1) (nextS given (bellS bells ring done s)) := by rw [winF, if_pos h]
theorem winF_stop {given bells : List Int} {ring : Int} {n done : Nat} {s : RS} (h : ¬ (rowS given (bellS bells ring done s)).1 = "on") : winF given bells ring (n + 1) done s = [] := by rw [winF, if_neg h]
theorem rd_run_and_window {ds : List Dt} {st : Sto} {Pd : VD} (h : spRunW ds st Pd) : t_run_and_window (Ed Pd) (startD ["state", "given", "bells", "ring", "most", "told", "heard", "rung", "states", "done", "row"] ds) st := by
  obtain ⟨g, gi, be, given, bells, ring, n, rfl, ok, hg, hb, hgb, hr, hn, hP⟩ := h
  refine ⟨Nat.zero_le _, by show 1 ≤ sizeLine; decide, ?_⟩
  have gl : gi < st.length := by obtain ⟨o, q, _⟩ := hg; exact lt_of_get q
  have bl : be < st.length := by obtain ⟨o, q, _⟩ := hb; exact lt_of_get q
  have l1 : (st ++ [SO.rw []]).length = st.length + 1 := by simp
  have x0 : ExtS st (st ++ [.rw []] ++ [.rw [g.d]]) := (ExtS.app _ _).trans (.app _ _)
  have R0 : RSt (st ++ [.rw []] ++ [.rw [g.d]]) gi be st.length (st.length + 1) given bells [] [g] := ⟨hg.ext x0, hb.ext x0, get_app get_new, by rw [← l1]; exact get_new⟩
  show rw4 (Ed Pd) (RR g gi be ring n st.length 0 0 (st ++ [SO.rw []]).length none none) (st ++ [.rw []] ++ [.rw [g.d]])
  rw [l1]
  refine ⟨by omega, by omega, ?_⟩
  rw [Int.toNat_natCast]
  refine ⟨fun i ρ s' => ∃ (s : RS) (acc : List GS) (x9 x10 : Option Dt), ρ = RR s.g gi be ring n st.length s.heard s.rung (st.length + 1) x9 x10 ∧ ExtS st s' ∧ RSt s' gi be st.length (st.length + 1) given bells s.told (g :: acc) ∧ Ok2 s.g ∧ s.told.length ≤ i ∧ acc.length = i ∧ i ≤ n ∧ runF given bells ring n 0 (s0 g) = runF given bells ring (n - i) i s ∧ winF given bells ring n 0 (s0 g) = acc ++ winF given bells ring (n - i) i s, ?_, fun _ _ _ _ _ => trivial, ?_, ?_⟩
  · exact ⟨s0 g, [], _, _, rfl, x0, R0, ok, Nat.le_refl _, rfl, Nat.zero_le _, rfl, rfl⟩
  · rintro i d ρ s' hd ⟨s, acc, x9, x10, rfl, ext, R, oks, htl, hal, hin, e1, e2⟩
    obtain ⟨hi, rfl⟩ := range_get hd
    rw [Int.zero_add]
    obtain ⟨m, hm⟩ : ∃ m, n - i = m + 1 := ⟨n - i - 1, by omega⟩
    rw [hm] at e1 e2
    refine run0 (n := n) (done := i) (x10 := x10) R oks hr hgb (by omega) (by simp; omega) (by omega) gl bl (by omega) (by omega) (fun hoff => ?_) (fun hon st' y10 kk R' => ?_)
    · rw [runF_stop hoff] at e1
      rw [winF_stop hoff, List.append_nil] at e2
      rw [← e1]
      have hw := R.w
      rw [← e2] at hw
      exact hP s' _ ext (Nat.le_succ _) hw
    · rw [runF_step hon] at e1
      rw [winF_step hon] at e2
      have hk := ok2_nextS (ok2_bell (bells := bells) (done := i) oks hr) hgb
      rw [bell_told] at hk
      refine ⟨nextS given (bellS bells ring i s), acc ++ [(nextS given (bellS bells ring i s)).g], _, _, rfl, fun j o q => kk j o (by have := lt_of_get q; omega) (by have := lt_of_get q; omega) (ext j o q), R', hk.1, by omega, by simp [hal], by omega, ?_, ?_⟩
      · rw [e1]; congr 1; omega
      · rw [e2, List.append_assoc]; congr 2; congr 1; omega
  · rintro ρ s' ⟨s, acc, x9, x10, rfl, ext, R, oks, htl, hal, hin, e1, e2⟩
    have hnl : (rangeD 0 n).length = n := by simp [rangeD]
    rw [hnl] at htl hal e1 e2
    rw [Nat.sub_self] at e1 e2
    have e1 : runF given bells ring n 0 (s0 g) = (("more" : Str), s, n) := e1
    have e2 : winF given bells ring n 0 (s0 g) = acc := by rw [e2]; show acc ++ [] = acc; simp
    have hT : seqOf s' (.lst st.length) = some (s.told.map .int) := by
      show (s'[st.length]?).map SO.items = _
      rw [R.t]; rfl
    have hW : seqOf s' (.lst (st.length + 1)) = some ((g :: acc).map GS.d) := by
      show (s'[st.length + 1]?).map SO.items = _
      rw [R.w]; rfl
    show (match seqOf s' (.lst st.length) with | some xs => _ | none => _)
    rw [hT]
    show (match seqOf s' (.lst (st.length + 1)) with | some xs => _ | none => _)
    rw [hW]
    refine ⟨by show 6 ≤ sizeLine; decide, by show 2 ≤ sizeLine; decide, ?_⟩
    have hw := R.w
    rw [← e2] at hw
    have := hP s' _ ext (Nat.le_succ _) hw
    rw [e1] at this
    have el : ((((g :: acc).map GS.d).length : Nat) : Int) - 1 = (n : Int) := by rw [List.length_map, List.length_cons, hal]; omega
    show Pd (.tup [.tup [.str "more", s.g.d, .tup (s.told.map .int), .int (((((g :: acc).map GS.d).length : Nat) : Int) - 1), .int s.heard, .int s.rung], .lst (st.length + 1)]) s'
    rw [el]
    exact this
end KR
namespace K06
open PySem PySem.Spec PyProof.Rows L2 L3
theorem cmul_m {x m j : Int} (h0 : 0 < m) (h1 : m < 4294967296) : CMul (x % m) j := cmul_l (Int.emod_nonneg _ (by omega)) (Int.lt_trans (Int.emod_lt_of_pos _ h0) h1)
theorem lit_ix {tas : TAD} {ti : TD} {ds : List Dt} {k : Int} {d : Dt} {ρ : Rho} {st : Sto} {P : VD} (hd : ∀ Q : List Dt → Sto → Prop, Q ds st → tas ρ st Q) (hl : ds.length ≤ sizeLine) (hi : ∀ (st : Sto) (Q : VD), Q (.int k) st → ti ρ st Q) (ha : atI ds k = some d) (h : P d (st ++ [.rw ds])) : tbin rIxD (tlst tas) ti ρ st P := by
  simp only [tbin, tlst]
  refine hd _ ⟨hl, hi _ _ ?_⟩
  simp only [rIxD, seqOf, get_new, Option.map_some, SO.items, ha]
  exact h
theorem ix_t {xs : List Dt} {k : Int} {d : Dt} {st : Sto} {P : VD} (ha : atI xs k = some d) (h : P d st) : rIxD (.tup xs) (.int k) st P := by
  simp only [rIxD, seqOf, ha]
  exact h
theorem ix_tup {i : Nat} {ti : TD} {xs : List Dt} {k : Int} {d : Dt} {ρ : Rho} (hx : ρ[i]? = some (some (.tup xs))) (hi : ∀ (st : Sto) (Q : VD), Q (.int k) st → ti ρ st Q) (ha : atI xs k = some d) : ∀ (st : Sto) (Q : VD), Q d st → tbin rIxD (tvar i) ti ρ st Q := by
  intro st Q h
  simp only [tbin, tvar, hx]
  refine hi _ _ ?_
  simp only [rIxD, seqOf, ha]
  exact h
noncomputable abbrev t__law_spun : TSD := (tseq (tasg (tbin rMod (tbin rMul (tbin L3.rAdd (tbin L3.rAdd (tbin rMod (tvar 0) (tcon (Dt.int 2147483587))) (tbin rMul (tcon (Dt.int 977)) (tvar 1))) (tcon (Dt.int 5))) (tcon (Dt.int 48271))) (tcon (Dt.int 2147483629))) (gname 2)) (tseq (tasg (tbin rMod (tbin rMul (tbin rMod (tbin L3.rAdd (tbin rMul (tvar 2) (tvar 2)) (tbin rMul (tcon (Dt.int 31)) (tvar 1))) (tcon (Dt.int 2147483563))) (tcon (Dt.int 16807))) (tcon (Dt.int 2147483549))) (gname 2)) (tseq (tret (tbin rDiv (tbin rMod (tbin rMul (tvar 2) (tvar 2)) (tcon (Dt.int 2147483543))) (tcon (Dt.int 3)))) tnext)))
noncomputable abbrev t__law_may : TSD := (tseq (tret (tandV (tbin (rCmpI fun i j => decide (i < j)) (tvar 2) (tcall rLen (tacons (tvar 1) tanil))) (tbin (rEqD false) (tbin rMod (tbin rDiv (tbin rIxD (tvar 0) (tbin rDiv (tvar 2) (tcon (Dt.int 8)))) (tbin rIxD (tlst (tacons (tcon (Dt.int 1)) (tacons (tcon (Dt.int 2)) (tacons (tcon (Dt.int 4)) tanil)))) (tvar 3))) (tcon (Dt.int 2))) (tcon (Dt.int 1))))) tnext)
theorem rd__law_spun {ds : List Dt} {st : Sto} {Pd : VD} (h : spSpun ds st Pd) : t__law_spun (Ed Pd) (startD ["cell", "k", "spun"] ds) st := by
  obtain ⟨c, k, rfl, h⟩ := h
  refine ⟨by decide, cmul_l (by decide) (by decide), cmul_r (by decide) (by decide), by decide, cmul_m (by decide) (by decide), cmul_l (by decide) (by decide), by decide, cmul_r (by decide) (by decide), by decide, cmul_m (by decide) (by decide), by decide, cdiv (by decide) (by decide), ?_⟩
  exact h _ (Int.ediv_nonneg (Int.emod_nonneg _ (by decide)) (by decide))
theorem rd__law_may {ds : List Dt} {st : Sto} {Pd : VD} (h : spLMay ds st Pd) : t__law_may (Ed Pd) (startD ["rights", "cells", "address", "bit"] ds) st := by
  obtain ⟨g, a, k, rfl, ok, a0, k0, k1, h⟩ := h
  have hl : (g.cs.map Dt.int).length = g.cs.length := List.length_map ..
  by_cases h1 : a < (g.cs.length : Int)
  · refine iteB (decide_eq_true (by rw [hl]; exact h1)) ?_
    have hi : (a / 8).toNat < g.rs.length := by have := ok.c8; omega
    have e8 : atI (g.rs.map Dt.int) (a / 8) = some (.int g.rs[(a / 8).toNat]) := by
      have := ints_at hi
      rw [show (((a / 8).toNat : Nat) : Int) = a / 8 by omega] at this
      exact this
    have e : g.rs.getD (a / 8).toNat 0 = g.rs[(a / 8).toNat] := by simp [List.getD, hi]
    refine ⟨cdiv (by decide) (by decide), ?_⟩
    refine ix_t e8 ?_
    have fin : ∀ (r : Int) (st' : Sto), 0 < r → r < 1073741824 → ExtS st st' → (∀ st', ExtS st st' → Pd (.bl (may r g a)) st') → CDiv g.rs[(a / 8).toNat] r ∧ 0 < (2 : Int) ∧ okD 8 (.int (g.rs[(a / 8).toNat] / r % 2)) = true ∧ okD 8 (.int 1) = true ∧ Pd (.bl (eqD 8 (.int (g.rs[(a / 8).toNat] / r % 2)) (.int 1) != false)) st' := fun r st' r0 r1 ex hh => by
      refine ⟨cdiv r0 r1, by decide, rfl, rfl, ?_⟩
      have q : (eqD 8 (.int (g.rs[(a / 8).toNat] / r % 2)) (.int 1) != false) = may r g a := by
        rw [bne_false']
        unfold may
        rw [decide_eq_true a0, decide_eq_true h1, e]
        rfl
      rw [q]
      exact hh st' ex
    rcases (show k = 0 ∨ k = 1 ∨ k = 2 by omega) with rfl | rfl | rfl
    · refine lit_ix (k := 0) (d := .int 1) (fun Q h => h) (by show 3 ≤ sizeLine; decide) (fun _ _ h => h) rfl ?_
      exact fin 1 _ (by decide) (by decide) (ExtS.app _ _) h
    · refine lit_ix (k := 1) (d := .int 2) (fun Q h => h) (by show 3 ≤ sizeLine; decide) (fun _ _ h => h) rfl ?_
      exact fin 2 _ (by decide) (by decide) (ExtS.app _ _) h
    · refine lit_ix (k := 2) (d := .int 4) (fun Q h => h) (by show 3 ≤ sizeLine; decide) (fun _ _ h => h) rfl ?_
      exact fin 4 _ (by decide) (by decide) (ExtS.app _ _) h
  · refine iteB' (decide_eq_false (by rw [hl]; exact h1)) ?_
    have q : ∀ r, may r g a = false := fun r => by
      unfold may
      rw [decide_eq_false h1, Bool.and_false, Bool.false_and]
    have := h st (ExtS.refl _)
    rw [q] at this
    exact this
end K06
namespace K10
open PySem L2 L3 KS K06 K17 KR
noncomputable def In16 (v : Int) : Prop := 0 ≤ v ∧ v < 65536
noncomputable def mI (g : GS) (B K R C : Nat) : List Dt := [.int g.p, .lst B, .lst K, svD g.sv, .lst R, .lst C]
noncomputable def kI (m : M3) : List Dt := [.bl m.1, .bl m.2.1, .bl m.2.2]
structure Mach (st : Sto) (M B K R C : Nat) (g : GS) : Prop where
  m : st[M]? = some (.rw (mI g B K R C))
  b : st[B]? = some (.rw (g.bs.map .int))
  k : st[K]? = some (.rw (kI g.m))
  r : st[R]? = some (.rw (g.rs.map .int))
  c : st[C]? = some (.rw (g.cs.map .int))
  d : M ≠ B ∧ M ≠ K ∧ M ≠ R ∧ M ≠ C ∧ B ≠ K ∧ B ≠ R ∧ B ≠ C ∧ K ≠ R ∧ K ≠ C ∧ R ≠ C
noncomputable def Sc (M B R C : Nat) (st st' : Sto) : Prop := ∀ (i : Nat) o, i ≠ M → i ≠ B → i ≠ R → i ≠ C → st[i]? = some o → st'[i]? = some o
section
variable {st : Sto} {M B K R C : Nat} {g : GS}
theorem Mach.app (h : Mach st M B K R C g) (x : SO) : Mach (st ++ [x]) M B K R C g := ⟨get_app h.m, get_app h.b, get_app h.k, get_app h.r, get_app h.c, h.d⟩
theorem sc_app (x : SO) : Sc M B R C st (st ++ [x]) := fun _ _ _ _ _ _ q => get_app q
theorem scM (x : SO) : Sc M B R C st (st.set M x) := fun _ _ h _ _ _ q => get_set_ne q (Ne.symm h)
theorem scB (x : SO) : Sc M B R C st (st.set B x) := fun _ _ _ h _ _ q => get_set_ne q (Ne.symm h)
theorem scR (x : SO) : Sc M B R C st (st.set R x) := fun _ _ _ _ h _ q => get_set_ne q (Ne.symm h)
theorem scC (x : SO) : Sc M B R C st (st.set C x) := fun _ _ _ _ _ h q => get_set_ne q (Ne.symm h)
theorem sc_ext {st' : Sto} (e : ExtS st st') : Sc M B R C st st' := fun _ _ _ _ _ _ q => e _ _ q
theorem sc_refl : Sc M B R C st st := fun _ _ _ _ _ _ q => q
theorem Sc.trans {a b c : Sto} (h : Sc M B R C a b) (k : Sc M B R C b c) : Sc M B R C a c := fun i o h1 h2 h3 h4 q => k i o h1 h2 h3 h4 (h i o h1 h2 h3 h4 q)
theorem Mach.setP (h : Mach st M B K R C g) (v : Int) : Mach (st.set M (.rw (mI { g with p := v } B K R C))) M B K R C { g with p := v } := by
  obtain ⟨d1, d2, d3, d4, _⟩ := h.d
  exact ⟨get_set_self h.m, get_set_ne h.b d1, get_set_ne h.k d2, get_set_ne h.r d3, get_set_ne h.c d4, h.d⟩
theorem Mach.setS (h : Mach st M B K R C g) (v : Option (Int × M3)) : Mach (st.set M (.rw (mI { g with sv := v } B K R C))) M B K R C { g with sv := v } := by
  obtain ⟨d1, d2, d3, d4, _⟩ := h.d
  exact ⟨get_set_self h.m, get_set_ne h.b d1, get_set_ne h.k d2, get_set_ne h.r d3, get_set_ne h.c d4, h.d⟩
theorem Mach.setK (h : Mach st M B K R C g) {K' : Nat} {m' : M3} (hk : st[K']? = some (.rw (kI m'))) (hn : K' ≠ M ∧ K' ≠ B ∧ K' ≠ R ∧ K' ≠ C) : Mach (st.set M (.rw (mI { g with m := m' } B K' R C))) M B K' R C { g with m := m' } := by
  obtain ⟨d1, d2, d3, d4, d5, d6, d7, d8, d9, d10⟩ := h.d
  obtain ⟨e1, e2, e3, e4⟩ := hn
  exact ⟨get_set_self h.m, get_set_ne h.b d1, get_set_ne hk (Ne.symm e1), get_set_ne h.r d3, get_set_ne h.c d4, ⟨d1, Ne.symm e1, d3, d4, Ne.symm e2, d6, d7, e3, e4, d10⟩⟩
theorem Mach.setB (h : Mach st M B K R C g) (xs : List Int) : Mach (st.set B (.rw (xs.map .int))) M B K R C { g with bs := xs } := by
  obtain ⟨d1, d2, d3, d4, d5, d6, d7, d8, d9, d10⟩ := h.d
  exact ⟨get_set_ne h.m (Ne.symm d1), get_set_self h.b, get_set_ne h.k d5, get_set_ne h.r d6, get_set_ne h.c d7, h.d⟩
theorem Mach.setR (h : Mach st M B K R C g) (xs : List Int) : Mach (st.set R (.rw (xs.map .int))) M B K R C { g with rs := xs } := by
  obtain ⟨d1, d2, d3, d4, d5, d6, d7, d8, d9, d10⟩ := h.d
  exact ⟨get_set_ne h.m (Ne.symm d3), get_set_ne h.b (Ne.symm d6), get_set_ne h.k (Ne.symm d8), get_set_self h.r, get_set_ne h.c d10, h.d⟩
theorem Mach.setC (h : Mach st M B K R C g) (xs : List Int) : Mach (st.set C (.rw (xs.map .int))) M B K R C { g with cs := xs } := by
  obtain ⟨d1, d2, d3, d4, d5, d6, d7, d8, d9, d10⟩ := h.d
  exact ⟨get_set_ne h.m (Ne.symm d4), get_set_ne h.b (Ne.symm d7), get_set_ne h.k (Ne.symm d9), get_set_ne h.r (Ne.symm d10), get_set_self h.c, h.d⟩
theorem Mach.lt (h : Mach st M B K R C g) : M < st.length ∧ B < st.length ∧ R < st.length ∧ C < st.length := ⟨lt_of_get h.m, lt_of_get h.b, lt_of_get h.r, lt_of_get h.c⟩
end
noncomputable def rk (g : GS) (w a x y : Int) : Res := if w = 6 then divG g a x y else countG g w a x y
noncomputable def tk (g : GS) (w a q c : Int) : Res := if w = 14 then rightG g (bx g a) (c % 8) else if w = 7 then getG g a q else setG g (bx g a) q
noncomputable def hearI (g : GS) (r : Res) : Int := if r.1 = "on" then (if hearB g = true then 1 else 0) else 0
noncomputable def spMayL : RDL := fun ds st P => ∃ (M B K R C : Nat) (g : GS) (a bit : Int), ds = [.lst M, .int a, .int bit] ∧ Mach st M B K R C g ∧ g.Ok ∧ 0 ≤ a ∧ (bit = 1 ∨ bit = 2 ∨ bit = 4) ∧ P (.bl (may bit g a)) st
noncomputable def spReck : RDL := fun ds st P => ∃ (M B K R C : Nat) (g : GS) (w a x y : Int), ds = [.lst M, .int w, .int a, .int x, .int y] ∧ Mach st M B K R C g ∧ g.Ok ∧ g.p < 128 ∧ (w = 2 ∨ w = 3 ∨ w = 4 ∨ w = 6) ∧ 0 ≤ a ∧ a < 8 ∧ In16 x ∧ In16 y ∧
  ∀ st' K', Mach st' M B K' R C (rk g w a x y).2.1 → Sc M B R C st st' → P (.str (rk g w a x y).1) st'
noncomputable def spTouch : RDL := fun ds st P => ∃ (M B K R C : Nat) (g : GS) (w a q c : Int), ds = [.lst M, .int w, .int a, .int q, .int c] ∧ Mach st M B K R C g ∧ g.Ok ∧ g.p < 128 ∧ (w = 7 ∨ w = 8 ∨ w = 14) ∧ 0 ≤ a ∧ a < 8 ∧ 0 ≤ q ∧
  ∀ st', Mach st' M B K R C (tk g w a q c).2.1 → Sc M B R C st st' → P (.str (tk g w a q c).1) st'
noncomputable def spWay : RDL := fun ds st P => ∃ (M B K R C : Nat) (g : GS) (w a c : Int), ds = [.lst M, .int w, .int a, .int c] ∧ Mach st M B K R C g ∧ g.Ok ∧ g.p < 128 ∧ (w = 9 ∨ w = 10 ∨ w = 11 ∨ w = 15) ∧ 0 ≤ a ∧ a < 8 ∧
  ∀ st' K', Mach st' M B K' R C (doW g w a 0 c 0).2.1 → Sc M B R C st st' → P (.str (doW g w a 0 c 0).1) st'
noncomputable def spStep : RDL := fun ds st P => ∃ (M B K R C : Nat) (g : GS) (h : Int), ds = [.lst M, .int h] ∧ Mach st M B K R C g ∧ g.Ok ∧ In16 h ∧
  ∀ st' K' n e, Mach st' M B K' R C (doR g h).2.1 → Sc M B R C st st' → st'[n]? = some (.rw [.str (doR g h).1, .lst e, .int (hearI g (doR g h))]) → st'[e]? = some (.rw ((doR g h).2.2.map .int)) → P (.lst n) st'
noncomputable def spStateL : RDL := fun ds st P => ∃ (M B K R C : Nat) (g : GS), ds = [.lst M] ∧ Mach st M B K R C g ∧ P g.d st
noncomputable def spunF (c k : Int) : Int := ((((c % 2147483587 + 977 * k + 5) * 48271 % 2147483629) * ((c % 2147483587 + 977 * k + 5) * 48271 % 2147483629) + 31 * k) % 2147483563 * 16807 % 2147483549) * ((((c % 2147483587 + 977 * k + 5) * 48271 % 2147483629) * ((c % 2147483587 + 977 * k + 5) * 48271 % 2147483629) + 31 * k) % 2147483563 * 16807 % 2147483549) % 2147483543 / 3
noncomputable def spSpunF : RDL := fun ds st P => ∃ c k : Int, ds = [.int c, .int k] ∧ P (.int (spunF c k)) st
noncomputable def wordF (c : Int) : Int := ([1, 2, 3, 4, 6, 7, 8, 8, 9, 10, 10, 13, 12, 13, 14, 15, 1, 2, 12, 7] : List Int).getD (c % 20).toNat 0
noncomputable def minF (z : Int) : Int := if z < 64 then z else 64
noncomputable def cF (r z : Int) : Int := [r / 64 % 64, r / 64 % minF z, 28 + r / 64 % 9, 31].getD (r / 4096 % 4).toNat 0
noncomputable def cW (r : Int) : Int := [28 + r / 64 % 9, 32 + r / 64 % 4, r / 64 % 64].getD (r / 4096 % 3).toNat 0
noncomputable def menuF (c z : Int) : Int := wordF c * 4096 + c / 20 % 8 * 512 + c / 20 / 8 % 8 * 64 + (if ([9, 10] : List Int).contains (wordF c) = true then cW (c / 20) else cF (c / 20) z)
noncomputable def rawF (some_ : List Int) (k : Nat) : Int := some_.getD (((k : Int) + 1) % (some_.length : Nat)).toNat 0 / (1 + (k : Int) / (some_.length : Nat))
noncomputable def cellF (some_ : List Int) (z : Int) (k : Nat) : Int := if some_.getD 0 0 % 2 = 1 then rawF some_ k % 65536 else menuF ([rawF some_ k, spunF (rawF some_ k) k].getD (some_.getD 0 0 / 2 % 2).toNat 0) z
noncomputable def cutF (ns : List Int) : List Int := (ns.drop (HT.sIx (ns.map Dt.int).length 0 none)).take (HT.sIx (ns.map Dt.int).length (ns.map Dt.int).length (some 63) - HT.sIx (ns.map Dt.int).length 0 none)
noncomputable def someF (ns : List Int) : List Int := cutF ns ++ [(((ns.map Dt.int).length : Nat) : Int)]
noncomputable def progF (ns : List Int) (z : Int) : List Int := (List.range z.toNat).map (cellF (someF ns) z)
noncomputable def firstF (ns : List Int) : Int := (ns ++ [7]).getD 0 0
noncomputable def pagesF (f : Int) : Int := [1 + f / 4 % 4, 1 + f / 4 % 16].getD (f / 64 % 2).toNat 0
noncomputable def rightF (f : Int) (k : Nat) : Int := [7, spunF f (200 + (k : Int)) % 8, 7].getD (f / 128 % 3).toNat 0
noncomputable def modF (f z : Int) : Int := [z, 65536, 8].getD (f / 384 % 3).toNat 0
noncomputable def boxF (f z : Int) (k : Nat) : Int := spunF f (400 + (k : Int)) % modF f z
noncomputable def savF (f z : Int) : Option (Int × M3) := if spunF f 6 % 4 = 1 then some (spunF f 5 % z, (true, false, true)) else none
noncomputable def plaF (f z : Int) : Int := spunF f 7 % z * (if decide (spunF f 8 % 3 = 1) != false then 1 else 0)
noncomputable def begG (f z : Int) (cs : List Int) : GS := ⟨plaF f z, (List.range 8).map (boxF f z), (false, true, false), savF f z, (List.range (z / 8).toNat).map (rightF f), cs⟩
noncomputable def begF (ns : List Int) : GS := begG (firstF ns) (8 * pagesF (firstF ns)) (progF ns (8 * pagesF (firstF ns)))
noncomputable def spMenu : RDL := fun ds st P => ∃ c z : Int, ds = [.int c, .int z] ∧ 8 ≤ z ∧ z ≤ 128 ∧ ∀ st', ExtS st st' → P (.int (menuF c z)) st'
noncomputable def spProgram : RDL := fun ds st P => ∃ (s : Nat) (z : Int) (ns : List Int), ds = [.lst s, .int z] ∧ HasI st s ns ∧ ns.length ≤ 63 ∧ 8 ≤ z ∧ z ≤ 128 ∧ ∀ n st', ExtS st st' → st.length ≤ n → st'[n]? = some (.rw ((progF ns z).map .int)) → P (.lst n) st'
noncomputable def spBegun : RDL := fun ds st P => ∃ (s : Nat) (ns : List Int), ds = [.lst s] ∧ HasI st s ns ∧ ns.length ≤ 63 ∧ ∀ (M B K R C : Nat) st', Mach st' M B K R C (begF ns) → (st.length ≤ M ∧ st.length ≤ B ∧ st.length ≤ R ∧ st.length ≤ C) → ExtS st st' → P (.lst M) st'
noncomputable def spDueL : RDL := fun ds st P => ∃ (M B K R C : Nat) (g : GS) (gi be : Nat) (given bells : List Int) (ring : Int) (n : Nat), ds = [.lst M, .lst gi, .lst be, .int ring, .int n] ∧ Mach st M B K R C g ∧ Ok2 g ∧ st[gi]? = some (.rw (given.map .int)) ∧ st[be]? = some (.rw (bells.map .int)) ∧ (gi ≠ M ∧ gi ≠ B ∧ gi ≠ R ∧ gi ≠ C) ∧ (be ≠ M ∧ be ≠ B ∧ be ≠ R ∧ be ≠ C) ∧ (∀ x ∈ given, In16 x) ∧ given.length ≤ 60 ∧ 0 ≤ ring ∧ n ≤ 1000 ∧
  ∀ st', Sc M B R C st st' → P (resW (runF given bells ring n 0 (s0 g))) st'
noncomputable def spBellsL : RDL := fun ds st P => ∃ (f : Int) (n : Nat), ds = [.int f, .int n] ∧ n ≤ 60 ∧ ∀ (bells : List Int) q st', bells.length ≤ 60 → ExtS st st' → st.length ≤ q → st'[q]? = some (.rw (bells.map .int)) → P (.lst q) st'
noncomputable def spAsked : RDL := fun ds st P => ∃ (s : Nat) (f : Int) (ns : List Int), ds = [.lst s, .int f] ∧ HasI st s ns ∧ ns.length ≤ 63 ∧ ∀ (q gi be : Nat) (given bells : List Int) (ring : Int) (n : Nat) st', ExtS st st' → st'[q]? = some (.rw [.lst gi, .lst be, .int ring, .int n]) → st'[gi]? = some (.rw (given.map .int)) → st'[be]? = some (.rw (bells.map .int)) → (∀ x ∈ given, In16 x) → given.length ≤ 60 → bells.length ≤ 60 → 0 ≤ ring → n ≤ 1000 → P (.lst q) st'
noncomputable def spKindsL : RDL := fun ds st P => ∃ r : Str × RS × Nat, ds = [resW r] ∧ ∀ st', ExtS st st' → P (.bl true) st'
theorem getD_mem {xs : List Int} {i : Nat} (h : i < xs.length) : xs.getD i 0 ∈ xs := by
  rw [List.getD_eq_getElem?_getD, List.getElem?_eq_getElem h]
  exact List.getElem_mem h
theorem emod_nat {v n : Int} {m : Nat} (h0 : 0 < n) (h : n = (m : Int)) : (v % n).toNat < m := by
  have := Int.emod_nonneg v (show n ≠ 0 by omega)
  have := Int.emod_lt_of_pos v h0
  omega
theorem word_ok (c : Int) : 0 ≤ wordF c ∧ wordF c < 16 := by
  have hm : wordF c ∈ ([1, 2, 3, 4, 6, 7, 8, 8, 9, 10, 10, 13, 12, 13, 14, 15, 1, 2, 12, 7] : List Int) := getD_mem (emod_nat (by decide) rfl)
  simp only [List.mem_cons, List.not_mem_nil, or_false] at hm
  rcases hm with h | h | h | h | h | h | h | h | h | h | h | h | h | h | h | h | h | h | h | h <;> rw [h] <;> exact ⟨by decide, by decide⟩
theorem min_ok {z : Int} (z0 : 8 ≤ z) : 0 < minF z ∧ minF z ≤ 64 := by unfold minF; split <;> omega
theorem c_ok {r z : Int} (z0 : 8 ≤ z) : 0 ≤ cF r z ∧ cF r z < 64 := by
  have hz := min_ok z0
  have hm : cF r z ∈ [r / 64 % 64, r / 64 % minF z, 28 + r / 64 % 9, 31] := getD_mem (emod_nat (by decide) rfl)
  simp only [List.mem_cons, List.not_mem_nil, or_false] at hm
  rcases hm with h | h | h | h
  · omega
  · rw [h]; exact ⟨Int.emod_nonneg _ (by omega), Int.lt_of_lt_of_le (Int.emod_lt_of_pos _ hz.1) hz.2⟩
  · omega
  · omega
theorem cw_ok {r : Int} : 0 ≤ cW r ∧ cW r < 64 := by
  have hm : cW r ∈ [28 + r / 64 % 9, 32 + r / 64 % 4, r / 64 % 64] := getD_mem (emod_nat (by decide) rfl)
  simp only [List.mem_cons, List.not_mem_nil, or_false] at hm
  rcases hm with h | h | h <;> omega
theorem menu_ok {c z : Int} (z0 : 8 ≤ z) : In16 (menuF c z) := by
  have h1 := word_ok c
  have h2 := c_ok (r := c / 20) z0
  have h3 := cw_ok (r := c / 20)
  unfold In16 menuF
  split <;> omega
theorem cell_ok {some_ : List Int} {z : Int} {k : Nat} (z0 : 8 ≤ z) : In16 (cellF some_ z k) := by
  unfold cellF
  split
  · exact ⟨Int.emod_nonneg _ (by decide), Int.emod_lt_of_pos _ (by decide)⟩
  · exact menu_ok z0
theorem pages_ok (f : Int) : 1 ≤ pagesF f ∧ pagesF f ≤ 16 := by
  have hm : pagesF f ∈ [1 + f / 4 % 4, 1 + f / 4 % 16] := getD_mem (emod_nat (by decide) rfl)
  simp only [List.mem_cons, List.not_mem_nil, or_false] at hm
  rcases hm with h | h <;> omega
theorem mod_ok {f z : Int} (z0 : 8 ≤ z) (z1 : z ≤ 128) : 0 < modF f z ∧ modF f z ≤ 65536 := by
  have hm : modF f z ∈ [z, 65536, 8] := getD_mem (emod_nat (by decide) rfl)
  simp only [List.mem_cons, List.not_mem_nil, or_false] at hm
  rcases hm with h | h | h <;> omega
theorem prog_len {ns : List Int} {z : Int} : (progF ns z).length = z.toNat := by unfold progF; rw [List.length_map, List.length_range]
theorem beg_ok (ns : List Int) : Ok2 (begF ns) ∧ 8 ≤ (begF ns).cs.length := by
  have hp := pages_ok (firstF ns)
  unfold begF
  generalize firstF ns = f at *
  obtain ⟨z, hz⟩ : ∃ z, z = 8 * pagesF f := ⟨_, rfl⟩
  rw [← hz]
  have z0 : 8 ≤ z := by omega
  have z1 : z ≤ 128 := by omega
  have hm := mod_ok (f := f) z0 z1
  refine ⟨⟨⟨?_, ?_, ?_, ?_, ?_, ?_, ?_⟩, ?_⟩, ?_⟩
  · show 0 ≤ plaF f z
    unfold plaF
    have := Int.emod_nonneg (spunF f 7) (show z ≠ 0 by omega)
    split <;> omega
  · show ((List.range 8).map (boxF f z)).length = 8
    rw [List.length_map, List.length_range]
  · intro v hv
    obtain ⟨k, _, rfl⟩ := List.mem_map.mp hv
    exact ⟨Int.emod_nonneg _ (by omega), Int.lt_of_lt_of_le (Int.emod_lt_of_pos _ hm.1) hm.2⟩
  · show (progF ns z).length = 8 * ((List.range (z / 8).toNat).map (rightF f)).length
    rw [prog_len, List.length_map, List.length_range]
    omega
  · show (progF ns z).length ≤ 128
    rw [prog_len]
    omega
  · intro v hv
    obtain ⟨k, _, rfl⟩ := List.mem_map.mp hv
    exact cell_ok z0
  · intro v hv
    obtain ⟨k, _, rfl⟩ := List.mem_map.mp hv
    have hm : rightF f k ∈ [7, spunF f (200 + (k : Int)) % 8, 7] := getD_mem (emod_nat (by decide) rfl)
    simp only [List.mem_cons, List.not_mem_nil, or_false] at hm
    rcases hm with h | h | h <;> omega
  · intro q m e
    have e : savF f z = some (q, m) := e
    unfold savF at e
    split at e
    · cases e
      exact Int.emod_nonneg _ (by omega)
    · cases e
  · show 8 ≤ (progF ns z).length
    rw [prog_len]
    omega
theorem left_W {g : GS} {w a b c h : Int} (w0 : 0 ≤ w) (w1 : w < 16) (e : (doW g w a b c h).1 ≠ "on") : (doW g w a b c h).2.1 = g := by
  rcases (show w = 0 ∨ w = 1 ∨ w = 2 ∨ w = 3 ∨ w = 4 ∨ w = 5 ∨ w = 6 ∨ w = 7 ∨ w = 8 ∨ w = 9 ∨ w = 10 ∨ w = 11 ∨ w = 12 ∨ w = 13 ∨ w = 14 ∨ w = 15 by omega) with rfl | rfl | rfl | rfl | rfl | rfl | rfl | rfl | rfl | rfl | rfl | rfl | rfl | rfl | rfl | rfl
  · rfl
  · exact absurd rfl e
  · exact absurd rfl e
  · exact absurd rfl e
  · exact absurd rfl e
  · rfl
  · revert e
    show (divG g a (bx g b) (bx g (c % 8))).1 ≠ "on" → (divG g a (bx g b) (bx g (c % 8))).2.1 = g
    unfold divG
    split
    · exact fun _ => rfl
    · exact fun e => absurd rfl e
  · revert e
    show (getG g a (bx g b + c)).1 ≠ "on" → (getG g a (bx g b + c)).2.1 = g
    unfold getG
    split
    · exact fun e => absurd rfl e
    · exact fun _ => rfl
  · revert e
    show (setG g (bx g a) (bx g b + c)).1 ≠ "on" → (setG g (bx g a) (bx g b + c)).2.1 = g
    unfold setG
    split
    · exact fun e => absurd rfl e
    · exact fun _ => rfl
  · exact absurd rfl e
  · revert e
    show (if whenG a g.m = true then onG (leap g c) else onG (next g)).1 ≠ "on" → _
    split <;> exact fun e => absurd rfl e
  · exact absurd rfl e
  · exact absurd rfl e
  · exact absurd rfl e
  · revert e
    show (rightG g (bx g a) (c % 8)).1 ≠ "on" → (rightG g (bx g a) (c % 8)).2.1 = g
    unfold rightG
    split
    · exact fun e => absurd rfl e
    · exact fun _ => rfl
  · revert e
    show (backG g).1 ≠ "on" → (backG g).2.1 = g
    unfold backG
    cases g.sv with
    | none => exact fun _ => rfl
    | some x => exact fun e => absurd rfl e
theorem left_R {g : GS} {h : Int} (e : (doR g h).1 ≠ "on") : (doR g h).2.1 = g := by
  unfold doR at e ⊢
  split
  · rename_i hm
    rw [if_pos hm] at e
    exact left_W (Int.emod_nonneg _ (by decide)) (Int.emod_lt_of_pos _ (by decide)) e
  · rfl
end K10
namespace K10
open PySem PySem.Spec PyProof.Rows L2 L3 KS K06 K17 KR
noncomputable abbrev t__law_may : TSD := (tseq (tret (tandV (tbin (rCmpI fun i j => decide (i < j)) (tvar 1) (tcall rLen (tacons (tbin rIxD (tvar 0) (tcon (Dt.int 5))) tanil))) (tbin (rEqD false) (tbin rMod (tbin rDiv (tbin rIxD (tbin rIxD (tvar 0) (tcon (Dt.int 4))) (tbin rDiv (tvar 1) (tcon (Dt.int 8)))) (tvar 2)) (tcon (Dt.int 2))) (tcon (Dt.int 1))))) tnext)
noncomputable abbrev t__law_reckon : TSD := (tseq (tifS (tandB (tbool (tbin (rEqD false) (tvar 1) (tcon (Dt.int 6)))) (tbool (tbin (rEqD false) (tvar 4) (tcon (Dt.int 0))))) (tseq (tret (tcon (Dt.str (Str.ofString "nought")))) tnext) tnext) (tseq (tifS (tbool (tbin (rEqD false) (tvar 1) (tcon (Dt.int 6)))) (tseq (tasg (tbin rDiv (tvar 3) (tvar 4)) (gname 5)) (tseq (tasg (tlst (tacons (tbin (rEqD false) (tvar 5) (tcon (Dt.int 0))) (tacons (tbin (rCmpI fun i j => decide (j < i)) (tvar 5) (tcon (Dt.int 32767))) (tacons (tbin (rCmpI fun i j => decide (j < i)) (tbin rMod (tvar 3) (tvar 4)) (tcon (Dt.int 0))) tanil)))) (gsub (tvar 0) (tcon (Dt.int 2)))) tnext)) (tseq (tasg (tdispI [(2, (tbin L3.rAdd (tvar 3) (tvar 4))), (3, (tbin L3.rSub (tvar 3) (tvar 4))), (4, (tbin rMul (tvar 3) (tvar 4)))] 1) (gname 6)) (tseq (tasg (tbin rMod (tvar 6) (tcon (Dt.int 65536))) (gname 5)) (tseq (tasg (tlst (tacons (tbin (rEqD false) (tvar 5) (tcon (Dt.int 0))) (tacons (tbin (rCmpI fun i j => decide (j < i)) (tvar 5) (tcon (Dt.int 32767))) (tacons (torV (tbin (rCmpI fun i j => decide (i < j)) (tvar 6) (tcon (Dt.int 0))) (tbin (rCmpI fun i j => decide (j < i)) (tvar 6) (tcon (Dt.int 65535)))) tanil)))) (gsub (tvar 0) (tcon (Dt.int 2)))) tnext)))) (tseq (tasg (tvar 5) (gsub (tbin rIxD (tvar 0) (tcon (Dt.int 1))) (tvar 2))) (tseq (tasg (tbin L3.rAdd (tbin rIxD (tvar 0) (tcon (Dt.int 0))) (tcon (Dt.int 1))) (gsub (tvar 0) (tcon (Dt.int 0)))) (tseq (tret (tcon (Dt.str (Str.ofString "on")))) tnext)))))
noncomputable abbrev t__law_touch : TSD := (tseq (tasg (tbin rIxD (tvar 0) (tcon (Dt.int 1))) (gname 5)) (tseq (tifS (tbool (tbin (rEqD false) (tvar 1) (tcon (Dt.int 14)))) (tseq (tifS (tbool (tbin (rCmpI fun i j => decide (j ≤ i)) (tbin rIxD (tvar 5) (tvar 2)) (tcall rLen (tacons (tbin rIxD (tvar 0) (tcon (Dt.int 4))) tanil)))) (tseq (tret (tcon (Dt.str (Str.ofString "closed")))) tnext) tnext) (tseq (tasg (tbin rMod (tvar 4) (tcon (Dt.int 8))) (gsub (tbin rIxD (tvar 0) (tcon (Dt.int 4))) (tbin rIxD (tvar 5) (tvar 2)))) tnext)) tnext) (tseq (tifS (tbool (tbin (rEqD false) (tvar 1) (tcon (Dt.int 7)))) (tseq (tifS (tnotB (tbool (tcall spMayL (tacons (tvar 0) (tacons (tvar 3) (tacons (tcon (Dt.int 1)) tanil)))))) (tseq (tret (tcon (Dt.str (Str.ofString "closed")))) tnext) tnext) (tseq (tasg (tbin rIxD (tbin rIxD (tvar 0) (tcon (Dt.int 5))) (tvar 3)) (gsub (tvar 5) (tvar 2))) tnext)) tnext) (tseq (tifS (tbool (tbin (rEqD false) (tvar 1) (tcon (Dt.int 8)))) (tseq (tifS (tnotB (tbool (tcall spMayL (tacons (tvar 0) (tacons (tvar 3) (tacons (tcon (Dt.int 2)) tanil)))))) (tseq (tret (tcon (Dt.str (Str.ofString "closed")))) tnext) tnext) (tseq (tasg (tbin rIxD (tvar 5) (tvar 2)) (gsub (tbin rIxD (tvar 0) (tcon (Dt.int 5))) (tvar 3))) tnext)) tnext) (tseq (tasg (tbin L3.rAdd (tbin rIxD (tvar 0) (tcon (Dt.int 0))) (tcon (Dt.int 1))) (gsub (tvar 0) (tcon (Dt.int 0)))) (tseq (tret (tcon (Dt.str (Str.ofString "on")))) tnext))))))
noncomputable abbrev t__law_way : TSD := (tseq (tifS (tbool (tbin (rEqD false) (tvar 1) (tcon (Dt.int 15)))) (tseq (tifS (tbool (tbin (rIsD false) (tbin rIxD (tvar 0) (tcon (Dt.int 3))) (tcon Dt.non))) (tseq (tret (tcon (Dt.str (Str.ofString "bad")))) tnext) tnext) (tseq (tasg (tbin rIxD (tbin rIxD (tvar 0) (tcon (Dt.int 3))) (tcon (Dt.int 0))) (gsub (tvar 0) (tcon (Dt.int 0)))) (tseq (tasg (tcall rList (tacons (tbin rIxD (tbin rIxD (tvar 0) (tcon (Dt.int 3))) (tcon (Dt.int 1))) tanil)) (gsub (tvar 0) (tcon (Dt.int 2)))) (tseq (tasg (tcon Dt.non) (gsub (tvar 0) (tcon (Dt.int 3)))) (tseq (tret (tcon (Dt.str (Str.ofString "on")))) tnext))))) tnext) (tseq (tifS (tbool (tbin (rEqD false) (tvar 1) (tcon (Dt.int 11)))) (tseq (tasg (tbin rIxD (tbin rIxD (tvar 0) (tcon (Dt.int 1))) (tvar 2)) (gsub (tvar 0) (tcon (Dt.int 0)))) (tseq (tret (tcon (Dt.str (Str.ofString "on")))) tnext)) tnext) (tseq (tasg (tbin rIxD (tvar 0) (tcon (Dt.int 2))) (gname 4)) (tseq (tasg (tlst (tacons (tbin rIxD (tvar 4) (tcon (Dt.int 0))) (tacons (tnotV (tbin rIxD (tvar 4) (tcon (Dt.int 0)))) (tacons (tbin rIxD (tvar 4) (tcon (Dt.int 1))) (tacons (tnotV (tbin rIxD (tvar 4) (tcon (Dt.int 1)))) (tacons (tbin rIxD (tvar 4) (tcon (Dt.int 2))) (tacons (tnotV (tbin rIxD (tvar 4) (tcon (Dt.int 2)))) (tacons (tcon (Dt.bl true)) (tacons (tcon (Dt.bl false)) tanil))))))))) (gname 5)) (tseq (tifS (torB (tbool (tbin (rEqD false) (tvar 1) (tcon (Dt.int 9)))) (tbool (tbin rIxD (tvar 5) (tvar 2)))) (tseq (tasg (tbin rMod (tbin L3.rSub (tbin L3.rAdd (tbin L3.rAdd (tbin rIxD (tvar 0) (tcon (Dt.int 0))) (tcon (Dt.int 1))) (tvar 3)) (tcon (Dt.int 32))) (tcon (Dt.int 65536))) (gsub (tvar 0) (tcon (Dt.int 0)))) tnext) (tseq (tasg (tbin L3.rAdd (tbin rIxD (tvar 0) (tcon (Dt.int 0))) (tcon (Dt.int 1))) (gsub (tvar 0) (tcon (Dt.int 0)))) tnext)) (tseq (tret (tcon (Dt.str (Str.ofString "on")))) tnext))))))
noncomputable abbrev t__law_step : TSD := (tseq (tifS (tnotB (tbool (tcall spMayL (tacons (tvar 0) (tacons (tbin rIxD (tvar 0) (tcon (Dt.int 0))) (tacons (tcon (Dt.int 4)) tanil)))))) (tseq (tret (tlst (tacons (tcon (Dt.str (Str.ofString "closed"))) (tacons (tlst tanil) (tacons (tcon (Dt.int 0)) tanil))))) tnext) tnext) (tseq (tasg (tbin rIxD (tbin rIxD (tvar 0) (tcon (Dt.int 5))) (tbin rIxD (tvar 0) (tcon (Dt.int 0)))) (gname 2)) (tseq (tasg (tbin rDiv (tvar 2) (tcon (Dt.int 4096))) (gname 3)) (tseq (tasg (tbin rMod (tbin rDiv (tvar 2) (tcon (Dt.int 512))) (tcon (Dt.int 8))) (gname 4)) (tseq (tasg (tbin rMod (tbin rDiv (tvar 2) (tcon (Dt.int 64))) (tcon (Dt.int 8))) (gname 5)) (tseq (tasg (tbin rMod (tvar 2) (tcon (Dt.int 64))) (gname 6)) (tseq (tasg (tbin rIxD (tvar 0) (tcon (Dt.int 1))) (gname 7)) (tseq (tifS (tbool (tbin (rInD false) (tvar 3) (ttup (tacons (tcon (Dt.int 0)) (tacons (tcon (Dt.int 5)) tanil))))) (tseq (tret (tlst (tacons (tbin rIxD (tlst (tacons (tcon (Dt.str (Str.ofString "halt"))) (tacons (tcon (Dt.str (Str.ofString "bad"))) tanil))) (tcall rIntB (tacons (tbin (rEqD false) (tvar 3) (tcon (Dt.int 5))) tanil))) (tacons (tlst tanil) (tacons (tcon (Dt.int 0)) tanil))))) tnext) tnext) (tseq (tifS (tbool (tbin (rInD false) (tvar 3) (ttup (tacons (tcon (Dt.int 2)) (tacons (tcon (Dt.int 3)) (tacons (tcon (Dt.int 4)) (tacons (tcon (Dt.int 6)) tanil))))))) (tseq (tret (tlst (tacons (tcall spReck (tacons (tvar 0) (tacons (tvar 3) (tacons (tvar 4) (tacons (tbin rIxD (tvar 7) (tvar 5)) (tacons (tbin rIxD (tvar 7) (tbin rMod (tvar 6) (tcon (Dt.int 8)))) tanil)))))) (tacons (tlst tanil) (tacons (tcon (Dt.int 0)) tanil))))) tnext) tnext) (tseq (tifS (tbool (tbin (rInD false) (tvar 3) (ttup (tacons (tcon (Dt.int 7)) (tacons (tcon (Dt.int 8)) (tacons (tcon (Dt.int 14)) tanil)))))) (tseq (tret (tlst (tacons (tcall spTouch (tacons (tvar 0) (tacons (tvar 3) (tacons (tvar 4) (tacons (tbin L3.rAdd (tbin rIxD (tvar 7) (tvar 5)) (tvar 6)) (tacons (tvar 6) tanil)))))) (tacons (tlst tanil) (tacons (tcon (Dt.int 0)) tanil))))) tnext) tnext) (tseq (tifS (tbool (tbin (rInD false) (tvar 3) (ttup (tacons (tcon (Dt.int 9)) (tacons (tcon (Dt.int 10)) (tacons (tcon (Dt.int 11)) (tacons (tcon (Dt.int 15)) tanil))))))) (tseq (tret (tlst (tacons (tcall spWay (tacons (tvar 0) (tacons (tvar 3) (tacons (tvar 4) (tacons (tvar 6) tanil))))) (tacons (tlst tanil) (tacons (tcon (Dt.int 0)) tanil))))) tnext) tnext) (tseq (tasg (tlst tanil) (gname 8)) (tseq (tifS (tbool (tbin (rEqD false) (tvar 3) (tcon (Dt.int 12)))) (tseq (tasg (tlst (tacons (tbin rIxD (tvar 7) (tvar 4)) tanil)) (gname 8)) tnext) tnext) (tseq (tifS (tbool (tbin (rEqD false) (tvar 3) (tcon (Dt.int 1)))) (tseq (tasg (tvar 6) (gsub (tvar 7) (tvar 4))) tnext) tnext) (tseq (tifS (tbool (tbin (rEqD false) (tvar 3) (tcon (Dt.int 13)))) (tseq (tasg (tvar 1) (gsub (tvar 7) (tvar 4))) tnext) tnext) (tseq (tasg (tbin L3.rAdd (tbin rIxD (tvar 0) (tcon (Dt.int 0))) (tcon (Dt.int 1))) (gsub (tvar 0) (tcon (Dt.int 0)))) (tseq (tret (tlst (tacons (tcon (Dt.str (Str.ofString "on"))) (tacons (tvar 8) (tacons (tcall rIntB (tacons (tbin (rEqD false) (tvar 3) (tcon (Dt.int 13))) tanil)) tanil))))) tnext)))))))))))))))))
noncomputable abbrev t__law_state : TSD := (tseq (tasg (tvar 0) (gunpack 6 (gscons (gname 1) (gscons (gname 2) (gscons (gname 3) (gscons (gname 4) (gscons (gname 5) (gscons (gname 6) gsnil)))))))) (tseq (tret (ttup (tacons (tvar 1) (tacons (tcall rTuple (tacons (tvar 2) tanil)) (tacons (tcall rTuple (tacons (tvar 3) tanil)) (tacons (tvar 4) (tacons (tcall rTuple (tacons (tvar 5) tanil)) (tacons (tcall rTuple (tacons (tvar 6) tanil)) tanil)))))))) tnext))
section
variable {st : Sto} {M B K R C : Nat} {g : GS} {P : VD}
theorem mx (h : Mach st M B K R C g) {i : Int} {d : Dt} (ha : atI (mI g B K R C) i = some d) (q : P d st) : rIxD (.lst M) (.int i) st P := pickAt h.m ha q
theorem seqI {n : Nat} {xs : List Int} (h : st[n]? = some (.rw (xs.map .int))) : seqOf st (.lst n) = some (xs.map .int) := by
  show (st[n]?).map SO.items = _
  rw [h]; rfl
theorem lenX {n : Nat} {xs : List Int} (h : st[n]? = some (.rw (xs.map .int))) (q : P (.int (xs.length : Nat)) st) : rLen [.lst n] st P := by
  show (match seqOf st (.lst n) with | some xs => _ | none => _)
  rw [seqI h]
  show P (.int ((xs.map Dt.int).length : Nat)) st
  rw [List.length_map]; exact q
theorem ixX {n : Nat} {xs : List Int} {i : Int} (h : st[n]? = some (.rw (xs.map .int))) (h0 : 0 ≤ i) (h1 : i < xs.length) (q : P (.int (xs.getD i.toNat 0)) st) : rIxD (.lst n) (.int i) st P := by
  obtain ⟨d, ha, _, hg⟩ := atI_of (xs := xs.map Dt.int) (v := i) h0 (by rw [List.length_map]; exact h1)
  refine pickAt h ha ?_
  obtain ⟨x, hx, rfl⟩ := get_int hg
  rw [List.getD_eq_getElem?_getD, hx] at q
  exact q
theorem tupX {n : Nat} {xs : List Int} (h : st[n]? = some (.rw (xs.map .int))) (q : P (.tup (xs.map .int)) st) : rTuple [.lst n] st P := by
  show (match seqOf st (.lst n) with | some xs => _ | none => _)
  rw [seqI h]; exact q
theorem ixX_eq {xs : List Int} {i : Int} (h0 : 0 ≤ i) (h1 : i < xs.length) : ixN (xs.map Dt.int).length i = some i.toNat := by
  unfold ixN
  rw [List.length_map, if_pos h0, if_pos h1]
theorem bx_at (ok : g.Ok) (h : Mach st M B K R C g) {a : Int} (a0 : 0 ≤ a) (a1 : a < 8) (q : P (.int (bx g a)) st) : rIxD (.lst B) (.int a) st P := ixX h.b a0 (by rw [ok.b8]; exact a1) q
end
theorem rd__law_may {ds : List Dt} {st : Sto} {Pd : VD} (h : spMayL ds st Pd) : t__law_may (Ed Pd) (startD ["machine", "address", "bit"] ds) st := by
  obtain ⟨M, B, K, R, C, g, a, bit, rfl, h, ok, a0, hb, hP⟩ := h
  show t__law_may (Ed Pd) [some (.lst M), some (.int a), some (.int bit)] st
  simp only [t__law_may, tseq, tret, tandV, tbin, tvar, tcon, tcall, tacons, tanil, List.getElem?_cons_zero, List.getElem?_cons_succ]
  refine mx h (d := .lst C) rfl ?_
  refine lenX h.c ?_
  unfold may at hP
  rw [decide_eq_true a0, Bool.true_and] at hP
  by_cases hc : a < (g.cs.length : Nat)
  · rw [decide_eq_true hc, Bool.true_and] at hP
    refine KH.iteB (decide_eq_true hc) ?_
    refine mx h (d := .lst R) rfl ?_
    refine ⟨cdiv (by decide) (by decide), ?_⟩
    have c8 := ok.c8
    refine ixX h.r (by omega) (by omega) ?_
    refine ⟨by rcases hb with rfl | rfl | rfl <;> exact cdiv (by decide) (by decide), by decide, rfl, rfl, ?_⟩
    have e : (eqD 8 (Dt.int (g.rs.getD (a / 8).toNat 0 / bit % 2)) (Dt.int 1) != false) = decide (g.rs.getD (a / 8).toNat 0 / bit % 2 = 1) := by
      rw [bne_false']; rfl
    rw [e]
    exact hP
  · rw [decide_eq_false hc, Bool.false_and] at hP
    exact KH.iteBF (decide_eq_false hc) hP
theorem rd__law_state {ds : List Dt} {st : Sto} {Pd : VD} (h : spStateL ds st Pd) : t__law_state (Ed Pd) (startD ["machine", "place", "boxes", "marks", "saved", "rights", "cells"] ds) st := by
  obtain ⟨M, B, K, R, C, g, rfl, h, hP⟩ := h
  have hs : seqOf st (.lst M) = some (mI g B K R C) := by
    show (st[M]?).map SO.items = _
    rw [h.m]; rfl
  have hk : seqOf st (.lst K) = some (kI g.m) := by
    show (st[K]?).map SO.items = _
    rw [h.k]; rfl
  show (match seqOf st (.lst M) with | some xs => _ | none => _)
  rw [hs]
  refine ⟨rfl, ?_⟩
  simp only [mI, gscons, gname, gsnil, tseq, tret, ttup, tacons, tanil, tcall, tvar, List.getElem?_cons_zero, List.getElem?_cons_succ, List.set_cons_zero, List.set_cons_succ, startD, List.map_cons, List.map_nil]
  refine tupX h.b ?_
  show (match seqOf st (.lst K) with | some xs => _ | none => _)
  rw [hk]
  refine tupX h.r ?_
  refine tupX h.c ?_
  exact ⟨by show 6 ≤ sizeLine; decide, hP⟩
noncomputable def rk2 : TSD := (tseq (tasg (tvar 5) (gsub (tbin rIxD (tvar 0) (tcon (Dt.int 1))) (tvar 2))) (tseq (tasg (tbin L3.rAdd (tbin rIxD (tvar 0) (tcon (Dt.int 0))) (tcon (Dt.int 1))) (gsub (tvar 0) (tcon (Dt.int 0)))) (tseq (tret (tcon (Dt.str (Str.ofString "on")))) tnext)))
noncomputable def rk1 : TSD := (tseq (tifS (tbool (tbin (rEqD false) (tvar 1) (tcon (Dt.int 6)))) (tseq (tasg (tbin rDiv (tvar 3) (tvar 4)) (gname 5)) (tseq (tasg (tlst (tacons (tbin (rEqD false) (tvar 5) (tcon (Dt.int 0))) (tacons (tbin (rCmpI fun i j => decide (j < i)) (tvar 5) (tcon (Dt.int 32767))) (tacons (tbin (rCmpI fun i j => decide (j < i)) (tbin rMod (tvar 3) (tvar 4)) (tcon (Dt.int 0))) tanil)))) (gsub (tvar 0) (tcon (Dt.int 2)))) tnext)) (tseq (tasg (tdispI [(2, (tbin L3.rAdd (tvar 3) (tvar 4))), (3, (tbin L3.rSub (tvar 3) (tvar 4))), (4, (tbin rMul (tvar 3) (tvar 4)))] 1) (gname 6)) (tseq (tasg (tbin rMod (tvar 6) (tcon (Dt.int 65536))) (gname 5)) (tseq (tasg (tlst (tacons (tbin (rEqD false) (tvar 5) (tcon (Dt.int 0))) (tacons (tbin (rCmpI fun i j => decide (j < i)) (tvar 5) (tcon (Dt.int 32767))) (tacons (torV (tbin (rCmpI fun i j => decide (i < j)) (tvar 6) (tcon (Dt.int 0))) (tbin (rCmpI fun i j => decide (j < i)) (tvar 6) (tcon (Dt.int 65535)))) tanil)))) (gsub (tvar 0) (tcon (Dt.int 2)))) tnext)))) rk2)
noncomputable abbrev RK (M : Nat) (w a x y : Int) (x5 x6 : Option Dt) : Rho := [some (.lst M), some (.int w), some (.int a), some (.int x), some (.int y), x5, x6]
theorem gt_ge (v : Int) : decide ((32767 : Int) < v) = decide (32768 ≤ v) := by
  by_cases h : (32768 : Int) ≤ v
  · rw [decide_eq_true h, decide_eq_true (by omega)]
  · rw [decide_eq_false h, decide_eq_false (by omega)]
theorem reck2 {Pd : VD} {st : Sto} {M B K R C : Nat} {g : GS} {w a x y v : Int} {x6 : Option Dt} (h : Mach st M B K R C g) (ok : g.Ok) (hp : g.p < 128) (a0 : 0 ≤ a) (a1 : a < 8)
    (hP : ∀ st', Mach st' M B K R C { next g with bs := g.bs.set a.toNat v } → Sc M B R C st st' → Pd (.str "on") st') :
    rk2 (Ed Pd) (RK M w a x y (some (.int v)) x6) st := by
  simp only [rk2, tseq, tasg, gsub, tvar, tbin, tcon, List.getElem?_cons_zero, List.getElem?_cons_succ]
  refine mx h (d := .lst B) rfl ?_
  show (match st[B]? with | some (.rw xs) => _ | _ => _)
  rw [h.b]
  show (match ixN (g.bs.map Dt.int).length a with | some j => _ | none => _)
  rw [ixX_eq a0 (by rw [ok.b8]; exact a1)]
  show rIxD (.lst M) (.int 0) (st.set B (.rw ((g.bs.map Dt.int).set a.toNat (.int v)))) _
  rw [← List.map_set]
  have h2 := h.setB (g.bs.set a.toNat v)
  refine mx h2 (d := .int g.p) rfl ?_
  simp only [L3.rAdd]
  show (match (st.set B (.rw ((g.bs.set a.toNat v).map .int)))[M]? with | some (.rw xs) => _ | _ => _)
  rw [h2.m]
  have h3 := h2.setP (g.p + 1)
  have e : (g.p + 1) % 65536 = g.p + 1 := by have := ok.p0; omega
  have e2 : ({ next g with bs := g.bs.set a.toNat v } : GS) = { ({ g with bs := g.bs.set a.toNat v } : GS) with p := g.p + 1 } := by
    show GS.mk ((g.p + 1) % 65536) _ _ _ _ _ = _
    rw [e]
    rfl
  rw [e2] at hP
  exact hP _ h3 ((scB _).trans (scM _))
theorem rd__law_reckon {ds : List Dt} {st : Sto} {Pd : VD} (h : spReck ds st Pd) : t__law_reckon (Ed Pd) (startD ["machine", "word", "a", "one", "by", "number", "whole"] ds) st := by
  obtain ⟨M, B, K, R, C, g, w, a, x, y, rfl, h, ok, hp, hw, a0, a1, hx, hy, hP⟩ := h
  have hlt := h.lt
  have three : (3 : Nat) ≤ sizeLine := by decide
  have marks : ∀ (v : Int) (k : Bool) (x6 : Option Dt), (∀ st', Mach st' M B st.length R C (outG g a v k) → Sc M B R C st st' → Pd (.str "on") st') → rk2 (Ed Pd) (RK M w a x y (some (.int v)) x6) ((st ++ [SO.rw [.bl (decide (v = 0)), .bl (decide (32768 ≤ v)), .bl k]]).set M (.rw (mI { g with m := (decide (v = 0), decide (32768 ≤ v), k) } B st.length R C))) := by
    intro v k x6 hq
    have h1 := h.app (.rw [.bl (decide (v = 0)), .bl (decide (32768 ≤ v)), .bl k])
    have h2 := h1.setK (K' := st.length) (m' := (decide (v = 0), decide (32768 ≤ v), k)) get_new ⟨by omega, by omega, by omega, by omega⟩
    refine reck2 h2 ⟨ok.p0, ok.b8, ok.bb, ok.c8, ok.cm, ok.cb, ok.rb⟩ hp a0 a1 fun st' m' s' => ?_
    exact hq st' m' (((sc_app _).trans (scM _)).trans s')
  have e0 : ∀ v : Int, (eqD 8 (Dt.int v) (Dt.int 0) != false) = decide (v = 0) := fun v => by rw [bne_false']; rfl
  have cr : ∀ q : Int, (if decide (q < 0) = true then true else decide ((65535 : Int) < q)) = !(decide (0 ≤ q) && decide (q < 65536)) := by
    intro q
    by_cases h1 : q < 0
    · rw [decide_eq_true h1, if_pos rfl, decide_eq_false (by omega : ¬ (0 : Int) ≤ q)]; rfl
    · rw [decide_eq_false h1, if_neg Bool.false_ne_true, decide_eq_true (by omega : (0 : Int) ≤ q), Bool.true_and]
      by_cases h2 : q < 65536
      · rw [decide_eq_true h2, decide_eq_false (by omega)]; rfl
      · rw [decide_eq_false h2, decide_eq_true (by omega)]; rfl
  have count : ∀ k : Int, k ≠ 6 → (k = 2 ∨ k = 3 ∨ k = 4) → w = k → rk g w a x y = countG g w a x y → (∀ st' K', Mach st' M B K' R C (rk g w a x y).2.1 → Sc M B R C st st' → Pd (.str (rk g w a x y).1) st') → t__law_reckon (Ed Pd) (RK M w a x y none none) st := by
    intro k k6 hk hwk erk hP
    rw [erk] at hP
    have w6 : (eqD 8 (Dt.int w) (Dt.int 6) != false) = false := by
      rw [bne_false']
      show (w == 6) = false
      exact beq_eq_false_iff_ne.mpr (by rw [hwk]; exact k6)
    refine ⟨rfl, rfl, KH.iteBF w6 ?_⟩
    refine iteF ?_
    show rk1 (Ed Pd) (RK M w a x y none none) st
    simp only [rk1, tseq, tifS, tbool, tbin, tvar, tcon, tasg, tdispI, tvs, tlst, tacons, tanil, torV, gname, gsub, L3.rAdd, L3.rSub, rMul, rMod, rCmpI, List.map_cons, List.map_nil, List.getElem?_cons_zero, List.getElem?_cons_succ, List.set_cons_zero, List.set_cons_succ]
    refine ⟨rfl, rfl, KH.iteBF w6 ?_⟩
    refine ⟨cmul_l hx.1 (by have := hx.2; omega), ?_⟩
    have hlook : lookI [2, 3, 4] [Dt.int (x + y), .int (x - y), .int (x * y)] w = some (.int (plainG w x y)) := by
      rw [hwk]
      rcases hk with rfl | rfl | rfl <;> rfl
    rw [hlook]
    refine ⟨by decide, rfl, rfl, ?_⟩
    rw [e0]
    generalize hq : plainG w x y = q at hP ⊢
    have hP' : ∀ st' K', Mach st' M B K' R C (outG g a (q % 65536) (!(decide (0 ≤ q) && decide (q < 65536)))) → Sc M B R C st st' → Pd (.str "on") st' := by
      rw [← hq]; exact hP
    by_cases h1 : q < 0
    · refine KH.iteB (decide_eq_true h1) ⟨three, ?_⟩
      rw [gt_ge, (h.app _).m]
      exact marks (q % 65536) true (some (.int q)) fun st' m s => hP' st' _ (by rw [← cr q, decide_eq_true h1, if_pos rfl]; exact m) s
    · refine KH.iteBF (decide_eq_false h1) ⟨three, ?_⟩
      rw [gt_ge, (h.app _).m]
      exact marks (q % 65536) (decide ((65535 : Int) < q)) (some (.int q)) fun st' m s => hP' st' _ (by rw [← cr q, decide_eq_false h1, if_neg Bool.false_ne_true]; exact m) s
  show t__law_reckon (Ed Pd) (RK M w a x y none none) st
  rcases hw with rfl | rfl | rfl | rfl
  · exact count 2 (by decide) (by decide) rfl rfl hP
  · exact count 3 (by decide) (by decide) rfl rfl hP
  · exact count 4 (by decide) (by decide) rfl rfl hP
  · have e6 : rk g 6 a x y = divG g a x y := rfl
    rw [e6] at hP
    unfold divG at hP
    by_cases hy0 : y = 0
    · subst hy0
      rw [if_pos rfl] at hP
      refine ⟨rfl, rfl, iteT ?_⟩
      refine ⟨rfl, rfl, iteT ?_⟩
      exact hP st K h sc_refl
    · rw [if_neg hy0] at hP
      refine ⟨rfl, rfl, iteT ?_⟩
      have ey : (eqD 8 (Dt.int y) (Dt.int 0) != false) = false := by rw [e0]; exact decide_eq_false hy0
      refine ⟨rfl, rfl, KH.iteBF ey ?_⟩
      have y0 : 0 < y := by have := hy.1; omega
      show rk1 (Ed Pd) (RK M 6 a x y none none) st
      simp only [rk1, tseq, tifS, tbool, tbin, tvar, tcon, tasg, tlst, tacons, tanil, gname, gsub, rCmpI, rMod, List.getElem?_cons_zero, List.getElem?_cons_succ, List.set_cons_zero, List.set_cons_succ]
      refine ⟨rfl, rfl, iteT ?_⟩
      refine ⟨cdiv y0 (by have := hy.2; omega), rfl, rfl, y0, three, ?_⟩
      rw [e0]
      have ec : decide ((0 : Int) < x % y) = decide (x % y ≠ 0) := by
        have := Int.emod_nonneg x hy0
        by_cases hz : x % y = 0
        · rw [decide_eq_false (by omega), decide_eq_false (by simpa using hz)]
        · rw [decide_eq_true (by omega), decide_eq_true hz]
      rw [gt_ge, ec, (h.app _).m]
      exact marks (x / y) (decide (x % y ≠ 0)) _ fun st' m s => hP st' _ m s
noncomputable def tt4 : TSD := (tseq (tasg (tbin L3.rAdd (tbin rIxD (tvar 0) (tcon (Dt.int 0))) (tcon (Dt.int 1))) (gsub (tvar 0) (tcon (Dt.int 0)))) (tseq (tret (tcon (Dt.str (Str.ofString "on")))) tnext))
noncomputable def tt3 : TSD := (tseq (tifS (tbool (tbin (rEqD false) (tvar 1) (tcon (Dt.int 8)))) (tseq (tifS (tnotB (tbool (tcall spMayL (tacons (tvar 0) (tacons (tvar 3) (tacons (tcon (Dt.int 2)) tanil)))))) (tseq (tret (tcon (Dt.str (Str.ofString "closed")))) tnext) tnext) (tseq (tasg (tbin rIxD (tvar 5) (tvar 2)) (gsub (tbin rIxD (tvar 0) (tcon (Dt.int 5))) (tvar 3))) tnext)) tnext) tt4)
noncomputable def tt2 : TSD := (tseq (tifS (tbool (tbin (rEqD false) (tvar 1) (tcon (Dt.int 7)))) (tseq (tifS (tnotB (tbool (tcall spMayL (tacons (tvar 0) (tacons (tvar 3) (tacons (tcon (Dt.int 1)) tanil)))))) (tseq (tret (tcon (Dt.str (Str.ofString "closed")))) tnext) tnext) (tseq (tasg (tbin rIxD (tbin rIxD (tvar 0) (tcon (Dt.int 5))) (tvar 3)) (gsub (tvar 5) (tvar 2))) tnext)) tnext) tt3)
noncomputable def tt1 : TSD := (tseq (tifS (tbool (tbin (rEqD false) (tvar 1) (tcon (Dt.int 14)))) (tseq (tifS (tbool (tbin (rCmpI fun i j => decide (j ≤ i)) (tbin rIxD (tvar 5) (tvar 2)) (tcall rLen (tacons (tbin rIxD (tvar 0) (tcon (Dt.int 4))) tanil)))) (tseq (tret (tcon (Dt.str (Str.ofString "closed")))) tnext) tnext) (tseq (tasg (tbin rMod (tvar 4) (tcon (Dt.int 8))) (gsub (tbin rIxD (tvar 0) (tcon (Dt.int 4))) (tbin rIxD (tvar 5) (tvar 2)))) tnext)) tnext) tt2)
noncomputable abbrev RT (M : Nat) (w a q c : Int) (B : Nat) : Rho := [some (.lst M), some (.int w), some (.int a), some (.int q), some (.int c), some (.lst B)]
theorem eqi {x y : Int} {b : Bool} {st : Sto} {P : VD} (h : P (.bl (decide (x = y) != b)) st) : rEqD b (.int x) (.int y) st P := by
  refine ⟨rfl, rfl, ?_⟩
  have e : eqD 8 (Dt.int x) (Dt.int y) = decide (x = y) := rfl
  rw [e]; exact h
theorem intB {k : Bool} {v : Int} {st : Sto} {P : VD} (e : (if k then (1 : Int) else 0) = v) (h : P (.int v) st) : rIntB [.bl k] st P := by subst e; exact h
theorem dF {x y : Int} (h : x ≠ y) : (decide (x = y) != false) = false := by rw [decide_eq_false h]; rfl
theorem dT {x y : Int} (h : x = y) : (decide (x = y) != false) = true := by rw [decide_eq_true h]; rfl
theorem on1 {g : GS} (ok : g.Ok) (hp : g.p < 128) : (g.p + 1) % 65536 = g.p + 1 := by have := ok.p0; omega
theorem touch4 {Pd : VD} {st : Sto} {M B K R C : Nat} {g : GS} {w a q c : Int} {B' : Nat} (h : Mach st M B K R C g) (ok : g.Ok) (hp : g.p < 128)
    (hP : ∀ st', Mach st' M B K R C (next g) → Sc M B R C st st' → Pd (.str "on") st') : tt4 (Ed Pd) (RT M w a q c B') st := by
  simp only [tt4, tseq, tasg, gsub, tvar, tbin, tcon, List.getElem?_cons_zero, List.getElem?_cons_succ]
  refine mx h (d := .int g.p) rfl ?_
  show (match st[M]? with | some (.rw xs) => _ | _ => _)
  rw [h.m]
  have h3 := h.setP (g.p + 1)
  have e2 : next g = { g with p := g.p + 1 } := by show GS.mk ((g.p + 1) % 65536) _ _ _ _ _ = _; rw [on1 ok hp]
  rw [e2] at hP
  exact hP _ h3 (scM _)
theorem touch3 {Pd : VD} {st : Sto} {M B K R C : Nat} {g : GS} {w a q c : Int} {B' : Nat} (h : Mach st M B K R C g) (ok : g.Ok) (hp : g.p < 128) (hw : w ≠ 8)
    (hP : ∀ st', Mach st' M B K R C (next g) → Sc M B R C st st' → Pd (.str "on") st') : tt3 (Ed Pd) (RT M w a q c B') st := by
  simp only [tt3, tseq, tifS, tbool, tbin, tvar, tcon, List.getElem?_cons_zero, List.getElem?_cons_succ]
  refine eqi (KH.iteBF (dF hw) ?_)
  exact touch4 h ok hp hP
theorem touch2 {Pd : VD} {st : Sto} {M B K R C : Nat} {g : GS} {w a q c : Int} {B' : Nat} (h : Mach st M B K R C g) (ok : g.Ok) (hp : g.p < 128) (hw : w ≠ 8) (hw7 : w ≠ 7)
    (hP : ∀ st', Mach st' M B K R C (next g) → Sc M B R C st st' → Pd (.str "on") st') : tt2 (Ed Pd) (RT M w a q c B') st := by
  simp only [tt2, tseq, tifS, tbool, tbin, tvar, tcon, List.getElem?_cons_zero, List.getElem?_cons_succ]
  refine eqi (KH.iteBF (dF hw7) ?_)
  exact touch3 h ok hp hw hP
theorem rd__law_touch {ds : List Dt} {st : Sto} {Pd : VD} (h : spTouch ds st Pd) : t__law_touch (Ed Pd) (startD ["machine", "word", "a", "address", "c", "boxes"] ds) st := by
  obtain ⟨M, B, K, R, C, g, w, a, q, c, rfl, h, ok, hp, hw, a0, a1, q0, hP⟩ := h
  have hbx := bx_ok ok a
  show (tseq (tasg (tbin rIxD (tvar 0) (tcon (Dt.int 1))) (gname 5)) tt1) (Ed Pd) [some (.lst M), some (.int w), some (.int a), some (.int q), some (.int c), none] st
  simp only [tseq, tasg, tbin, tvar, tcon, gname, List.getElem?_cons_zero, List.getElem?_cons_succ, List.set_cons_zero, List.set_cons_succ]
  refine mx h (d := .lst B) rfl ?_
  simp only [tt1, tseq, tifS, tbool, tbin, tvar, tcon, List.getElem?_cons_zero, List.getElem?_cons_succ]
  rcases hw with rfl | rfl | rfl
  · refine eqi (KH.iteBF (dF (by decide)) ?_)
    have hP : ∀ st', Mach st' M B K R C (getG g a q).2.1 → Sc M B R C st st' → Pd (.str (getG g a q).1) st' := hP
    simp only [tnext, tt2, tseq, tifS, tbool, tnotB, tbin, tvar, tcon, tcall, tacons, tanil, List.getElem?_cons_zero, List.getElem?_cons_succ]
    refine eqi (KH.iteB (dT rfl) ?_)
    refine ⟨M, B, K, R, C, g, q, 1, rfl, h, ok, q0, .inl rfl, ?_⟩
    unfold getG at hP
    cases hm : may 1 g q with
    | false =>
      rw [if_neg (by rw [hm]; exact Bool.false_ne_true)] at hP
      exact iteT (hP st h sc_refl)
    | true =>
      rw [if_pos hm] at hP
      refine iteF ?_
      have hlt : q < (g.cs.length : Nat) := by
        unfold may at hm
        simp only [Bool.and_eq_true, decide_eq_true_eq] at hm
        exact hm.1.2
      simp only [tasg, gsub, tbin, tvar, tcon, List.getElem?_cons_zero, List.getElem?_cons_succ]
      refine mx h (d := .lst C) rfl ?_
      refine ixX h.c q0 hlt ?_
      show (match st[B]? with | some (.rw xs) => _ | _ => _)
      rw [h.b]
      show (match ixN (g.bs.map Dt.int).length a with | some j => _ | none => _)
      rw [ixX_eq a0 (by rw [ok.b8]; exact a1)]
      show tt3 (Ed Pd) (RT M 7 a q c B) (st.set B (.rw ((g.bs.map Dt.int).set a.toNat (.int (g.cs.getD q.toNat 0)))))
      rw [← List.map_set]
      have hc := cs_ok ok q.toNat
      have okb := ok_box ok (a := a) hc.1 hc.2
      refine touch3 (h.setB _) ⟨ok.p0, okb.b8, okb.bb, ok.c8, ok.cm, ok.cb, ok.rb⟩ hp (by decide) fun st' m s => ?_
      exact hP st' m ((scB _).trans s)
  · refine eqi (KH.iteBF (dF (by decide)) ?_)
    have hP : ∀ st', Mach st' M B K R C (setG g (bx g a) q).2.1 → Sc M B R C st st' → Pd (.str (setG g (bx g a) q).1) st' := hP
    simp only [tnext, tt2, tseq, tifS, tbool, tbin, tvar, tcon, List.getElem?_cons_zero, List.getElem?_cons_succ]
    refine eqi (KH.iteBF (dF (by decide)) ?_)
    simp only [tnext, tt3, tseq, tifS, tbool, tnotB, tbin, tvar, tcon, tcall, tacons, tanil, List.getElem?_cons_zero, List.getElem?_cons_succ]
    refine eqi (KH.iteB (dT rfl) ?_)
    refine ⟨M, B, K, R, C, g, q, 2, rfl, h, ok, q0, .inr (.inl rfl), ?_⟩
    unfold setG at hP
    cases hm : may 2 g q with
    | false =>
      rw [if_neg (by rw [hm]; exact Bool.false_ne_true)] at hP
      exact iteT (hP st h sc_refl)
    | true =>
      rw [if_pos hm] at hP
      refine iteF ?_
      have hlt : q < (g.cs.length : Nat) := by
        unfold may at hm
        simp only [Bool.and_eq_true, decide_eq_true_eq] at hm
        exact hm.1.2
      simp only [tasg, gsub, tbin, tvar, tcon, List.getElem?_cons_zero, List.getElem?_cons_succ]
      refine bx_at ok h a0 a1 ?_
      refine mx h (d := .lst C) rfl ?_
      show (match st[C]? with | some (.rw xs) => _ | _ => _)
      rw [h.c]
      show (match ixN (g.cs.map Dt.int).length q with | some j => _ | none => _)
      rw [ixX_eq q0 hlt]
      show tt4 (Ed Pd) (RT M 8 a q c B) (st.set C (.rw ((g.cs.map Dt.int).set q.toNat (.int (bx g a)))))
      rw [← List.map_set]
      have okc := ok_cell ok (q := q.toNat) hbx.1 hbx.2
      refine touch4 (h.setC _) ⟨ok.p0, ok.b8, ok.bb, okc.c8, okc.cm, okc.cb, ok.rb⟩ hp fun st' m s => ?_
      exact hP st' m ((scC _).trans s)
  · refine eqi (KH.iteB (dT rfl) ?_)
    have hP : ∀ st', Mach st' M B K R C (rightG g (bx g a) (c % 8)).2.1 → Sc M B R C st st' → Pd (.str (rightG g (bx g a) (c % 8)).1) st' := hP
    simp only [tcall, tacons, tanil, tvar, tbin, tcon, List.getElem?_cons_zero, List.getElem?_cons_succ]
    refine bx_at ok h a0 a1 ?_
    refine mx h (d := .lst R) rfl ?_
    refine lenX h.r ?_
    unfold rightG at hP
    by_cases hc : bx g a < (g.rs.length : Nat)
    · rw [if_pos ⟨hbx.1, hc⟩] at hP
      refine KH.iteBF (decide_eq_false (by omega)) ?_
      simp only [tnext, tasg, gsub, tbin, tvar, tcon, rMod, List.getElem?_cons_zero, List.getElem?_cons_succ]
      refine ⟨by decide, ?_⟩
      simp only [gsub, tbin, tvar, tcon, List.getElem?_cons_zero, List.getElem?_cons_succ]
      refine mx h (i := 4) (d := .lst R) rfl ?_
      refine bx_at ok h a0 a1 ?_
      show (match st[R]? with | some (.rw xs) => _ | _ => _)
      rw [h.r]
      show (match ixN (g.rs.map Dt.int).length (bx g a) with | some j => _ | none => _)
      rw [ixX_eq hbx.1 hc]
      show tt2 (Ed Pd) (RT M 14 a q c B) (st.set R (.rw ((g.rs.map Dt.int).set (bx g a).toNat (.int (c % 8)))))
      rw [← List.map_set]
      refine touch2 (h.setR _) ⟨ok.p0, ok.b8, ok.bb, by show g.cs.length = 8 * (g.rs.set _ _).length; rw [List.length_set]; exact ok.c8, ok.cm, ok.cb, fun x hx => ?_⟩ hp (by decide) (by decide) fun st' m s => ?_
      · rcases set_mem hx with z | z
        · exact ok.rb x z
        · rw [z]; exact ⟨Int.emod_nonneg _ (by decide), Int.emod_lt_of_pos _ (by decide)⟩
      · exact hP st' m ((scR _).trans s)
    · rw [if_neg (fun z => hc z.2)] at hP
      exact KH.iteB (decide_eq_true (by omega)) (hP st h sc_refl)
noncomputable def wy2 : TSD := (tseq (tasg (tbin rIxD (tvar 0) (tcon (Dt.int 2))) (gname 4)) (tseq (tasg (tlst (tacons (tbin rIxD (tvar 4) (tcon (Dt.int 0))) (tacons (tnotV (tbin rIxD (tvar 4) (tcon (Dt.int 0)))) (tacons (tbin rIxD (tvar 4) (tcon (Dt.int 1))) (tacons (tnotV (tbin rIxD (tvar 4) (tcon (Dt.int 1)))) (tacons (tbin rIxD (tvar 4) (tcon (Dt.int 2))) (tacons (tnotV (tbin rIxD (tvar 4) (tcon (Dt.int 2)))) (tacons (tcon (Dt.bl true)) (tacons (tcon (Dt.bl false)) tanil))))))))) (gname 5)) (tseq (tifS (torB (tbool (tbin (rEqD false) (tvar 1) (tcon (Dt.int 9)))) (tbool (tbin rIxD (tvar 5) (tvar 2)))) (tseq (tasg (tbin rMod (tbin L3.rSub (tbin L3.rAdd (tbin L3.rAdd (tbin rIxD (tvar 0) (tcon (Dt.int 0))) (tcon (Dt.int 1))) (tvar 3)) (tcon (Dt.int 32))) (tcon (Dt.int 65536))) (gsub (tvar 0) (tcon (Dt.int 0)))) tnext) (tseq (tasg (tbin L3.rAdd (tbin rIxD (tvar 0) (tcon (Dt.int 0))) (tcon (Dt.int 1))) (gsub (tvar 0) (tcon (Dt.int 0)))) tnext)) (tseq (tret (tcon (Dt.str (Str.ofString "on")))) tnext))))
noncomputable def wy1 : TSD := (tseq (tifS (tbool (tbin (rEqD false) (tvar 1) (tcon (Dt.int 11)))) (tseq (tasg (tbin rIxD (tbin rIxD (tvar 0) (tcon (Dt.int 1))) (tvar 2)) (gsub (tvar 0) (tcon (Dt.int 0)))) (tseq (tret (tcon (Dt.str (Str.ofString "on")))) tnext)) tnext) wy2)
theorem when_at {m : M3} {a : Int} (a0 : 0 ≤ a) (a1 : a < 8) : atI [Dt.bl m.1, .bl (!m.1), .bl m.2.1, .bl (!m.2.1), .bl m.2.2, .bl (!m.2.2), .bl true, .bl false] a = some (.bl (whenG a m)) := by
  rcases (show a = 0 ∨ a = 1 ∨ a = 2 ∨ a = 3 ∨ a = 4 ∨ a = 5 ∨ a = 6 ∨ a = 7 by omega) with rfl | rfl | rfl | rfl | rfl | rfl | rfl | rfl <;> rfl
theorem way2 {Pd : VD} {st : Sto} {M B K R C : Nat} {g : GS} {w a c : Int} (h : Mach st M B K R C g) (ok : g.Ok) (hp : g.p < 128) (hw : w = 9 ∨ w = 10) (a0 : 0 ≤ a) (a1 : a < 8)
    (hP : ∀ st' K', Mach st' M B K' R C (doW g w a 0 c 0).2.1 → Sc M B R C st st' → Pd (.str (doW g w a 0 c 0).1) st') :
    wy2 (Ed Pd) [some (.lst M), some (.int w), some (.int a), some (.int c), none, none] st := by
  have kx : ∀ {s : Sto} {i : Int} {d : Dt} {P : VD}, Mach s M B K R C g → atI (kI g.m) i = some d → P d s → rIxD (.lst K) (.int i) s P := fun hm ha q => pickAt hm.k ha q
  simp only [wy2, tseq, tasg, tlst, tacons, tanil, tnotV, tbin, tvar, tcon, gname, List.getElem?_cons_zero, List.getElem?_cons_succ, List.set_cons_zero, List.set_cons_succ]
  refine mx h (i := 2) (d := .lst K) rfl ?_
  refine kx h (i := 0) (d := .bl g.m.1) rfl ?_
  refine kx h (i := 0) (d := .bl g.m.1) rfl ?_
  refine kx h (i := 1) (d := .bl g.m.2.1) rfl ?_
  refine kx h (i := 1) (d := .bl g.m.2.1) rfl ?_
  refine kx h (i := 2) (d := .bl g.m.2.2) rfl ?_
  refine kx h (i := 2) (d := .bl g.m.2.2) rfl ?_
  refine ⟨by show 8 ≤ sizeLine; decide, ?_⟩
  obtain ⟨s1, hs1⟩ : ∃ s1, s1 = st ++ [SO.rw [Dt.bl g.m.1, .bl (!g.m.1), .bl g.m.2.1, .bl (!g.m.2.1), .bl g.m.2.2, .bl (!g.m.2.2), .bl true, .bl false]] := ⟨_, rfl⟩
  have h1 : Mach s1 M B K R C g := by rw [hs1]; exact h.app _
  have g1 : s1[st.length]? = some (.rw [Dt.bl g.m.1, .bl (!g.m.1), .bl g.m.2.1, .bl (!g.m.2.1), .bl g.m.2.2, .bl (!g.m.2.2), .bl true, .bl false]) := by rw [hs1]; exact get_new
  have c1 : Sc M B R C st s1 := by rw [hs1]; exact sc_app _
  rw [← hs1]
  have leapS : ∀ r : Res, r = onG (leap g c) → (∀ st' K', Mach st' M B K' R C r.2.1 → Sc M B R C st st' → Pd (.str r.1) st') → (tseq (tasg (tbin rMod (tbin L3.rSub (tbin L3.rAdd (tbin L3.rAdd (tbin rIxD (tvar 0) (tcon (Dt.int 0))) (tcon (Dt.int 1))) (tvar 3)) (tcon (Dt.int 32))) (tcon (Dt.int 65536))) (gsub (tvar 0) (tcon (Dt.int 0)))) tnext) { Ed Pd with nx := (tseq (tret (tcon (Dt.str (Str.ofString "on")))) tnext) (Ed Pd) } [some (.lst M), some (.int w), some (.int a), some (.int c), some (.lst K), some (.lst st.length)] s1 := by
    intro r hr hq
    subst hr
    simp only [tseq, tasg, tbin, tvar, tcon, gsub, List.getElem?_cons_zero, List.getElem?_cons_succ]
    refine mx h1 (i := 0) (d := .int g.p) rfl ?_
    refine ⟨by decide, ?_⟩
    show (match s1[M]? with | some (.rw xs) => _ | _ => _)
    rw [h1.m]
    exact hq _ _ (h1.setP _) (c1.trans (scM _))
  have nextS : ∀ r : Res, r = onG (next g) → (∀ st' K', Mach st' M B K' R C r.2.1 → Sc M B R C st st' → Pd (.str r.1) st') → (tseq (tasg (tbin L3.rAdd (tbin rIxD (tvar 0) (tcon (Dt.int 0))) (tcon (Dt.int 1))) (gsub (tvar 0) (tcon (Dt.int 0)))) tnext) { Ed Pd with nx := (tseq (tret (tcon (Dt.str (Str.ofString "on")))) tnext) (Ed Pd) } [some (.lst M), some (.int w), some (.int a), some (.int c), some (.lst K), some (.lst st.length)] s1 := by
    intro r hr hq
    have e2 : next g = { g with p := g.p + 1 } := by show GS.mk ((g.p + 1) % 65536) _ _ _ _ _ = _; rw [on1 ok hp]
    rw [e2] at hr
    subst hr
    simp only [tseq, tasg, tbin, tvar, tcon, gsub, List.getElem?_cons_zero, List.getElem?_cons_succ]
    refine mx h1 (i := 0) (d := .int g.p) rfl ?_
    show (match s1[M]? with | some (.rw xs) => _ | _ => _)
    rw [h1.m]
    exact hq _ _ (h1.setP _) (c1.trans (scM _))
  simp only [tifS, torB, tbool, tbin, tvar, tcon, List.getElem?_cons_zero, List.getElem?_cons_succ]
  rcases hw with rfl | rfl
  · refine eqi (KH.iteB (dT rfl) ?_)
    rw [if_pos trivial]
    exact leapS _ rfl hP
  · refine eqi (KH.iteBF (dF (by decide)) ?_)
    refine pickAt g1 (when_at a0 a1) ?_
    have hP : ∀ st' K', Mach st' M B K' R C (if whenG a g.m = true then onG (leap g c) else onG (next g)).2.1 → Sc M B R C st st' → Pd (.str (if whenG a g.m = true then onG (leap g c) else onG (next g)).1) st' := hP
    cases hwn : whenG a g.m with
    | true =>
      rw [hwn, if_pos rfl] at hP
      exact iteT (leapS _ rfl hP)
    | false =>
      rw [hwn, if_neg Bool.false_ne_true] at hP
      exact iteF (nextS _ rfl hP)
theorem rd__law_way {ds : List Dt} {st : Sto} {Pd : VD} (h : spWay ds st Pd) : t__law_way (Ed Pd) (startD ["machine", "word", "a", "c", "marks", "some"] ds) st := by
  obtain ⟨M, B, K, R, C, g, w, a, c, rfl, h, ok, hp, hw, a0, a1, hP⟩ := h
  have hlt := h.lt
  have low : ∀ w : Int, w ≠ 15 → w ≠ 11 → wy2 (Ed Pd) [some (.lst M), some (.int w), some (.int a), some (.int c), none, none] st → t__law_way (Ed Pd) [some (.lst M), some (.int w), some (.int a), some (.int c), none, none] st := by
    intro w n1 n2 q
    simp only [t__law_way, tseq, tifS, tbool, tbin, tvar, tcon, List.getElem?_cons_zero, List.getElem?_cons_succ]
    refine eqi (KH.iteBF (dF n1) ?_)
    show wy1 (Ed Pd) [some (.lst M), some (.int w), some (.int a), some (.int c), none, none] st
    simp only [wy1, tseq, tifS, tbool, tbin, tvar, tcon, List.getElem?_cons_zero, List.getElem?_cons_succ]
    exact eqi (KH.iteBF (dF n2) q)
  show t__law_way (Ed Pd) [some (.lst M), some (.int w), some (.int a), some (.int c), none, none] st
  rcases hw with rfl | rfl | rfl | rfl
  · exact low 9 (by decide) (by decide) (way2 h ok hp (.inl rfl) a0 a1 hP)
  · exact low 10 (by decide) (by decide) (way2 h ok hp (.inr rfl) a0 a1 hP)
  · simp only [t__law_way, tseq, tifS, tbool, tbin, tvar, tcon, List.getElem?_cons_zero, List.getElem?_cons_succ]
    refine eqi (KH.iteBF (dF (by decide)) ?_)
    show wy1 (Ed Pd) [some (.lst M), some (.int 11), some (.int a), some (.int c), none, none] st
    simp only [wy1, tseq, tifS, tbool, tbin, tvar, tcon, tasg, gsub, List.getElem?_cons_zero, List.getElem?_cons_succ]
    refine eqi (KH.iteB (dT rfl) ?_)
    refine mx h (i := 1) (d := .lst B) rfl ?_
    refine bx_at ok h a0 a1 ?_
    show (match st[M]? with | some (.rw xs) => _ | _ => _)
    rw [h.m]
    have hb := bx_ok ok a
    have e : bx g a % 65536 = bx g a := by omega
    have hP : ∀ st' K', Mach st' M B K' R C { g with p := bx g a % 65536 } → Sc M B R C st st' → Pd (.str "on") st' := hP
    rw [e] at hP
    exact hP _ _ (h.setP _) (scM _)
  · simp only [t__law_way, tseq, tifS, tbool, tbin, tvar, tcon, tasg, gsub, tcall, tacons, tanil, List.getElem?_cons_zero, List.getElem?_cons_succ]
    refine eqi (KH.iteB (dT rfl) ?_)
    refine mx h (i := 3) (d := svD g.sv) rfl ?_
    have hP : ∀ st' K', Mach st' M B K' R C (backG g).2.1 → Sc M B R C st st' → Pd (.str (backG g).1) st' := hP
    unfold backG at hP
    rw [isN]
    cases hs : g.sv with
    | none =>
      rw [hs] at hP
      exact iteT (hP st K h sc_refl)
    | some qm =>
      obtain ⟨q, m⟩ := qm
      rw [hs] at hP
      refine iteF ?_
      simp only [tnext, tseq, tasg, gsub, tbin, tvar, tcon, tcall, tacons, tanil, tret, List.getElem?_cons_zero, List.getElem?_cons_succ]
      refine mx h (i := 3) (d := .tup [.int q, msD m]) (by show some (svD g.sv) = _; rw [hs]; rfl) ?_
      show (match st[M]? with | some (.rw xs) => _ | _ => _)
      rw [h.m]
      have h1 := h.setP q
      show rIxD (.lst M) (.int 3) (st.set M (.rw (mI { g with p := q } B K R C))) _
      refine mx h1 (i := 3) (d := .tup [.int q, msD m]) (by show some (svD g.sv) = _; rw [hs]; rfl) ?_
      show (match (st.set M (.rw (mI { g with p := q } B K R C)) ++ [SO.rw (kI m)])[M]? with | some (.rw xs) => _ | _ => _)
      have h2 := h1.app (.rw (kI m))
      have l1 : (st.set M (.rw (mI { g with p := q } B K R C))).length = st.length := List.length_set
      rw [h2.m]
      have h3 := h2.setK (K' := (st.set M (.rw (mI { g with p := q } B K R C))).length) (m' := m) get_new ⟨by rw [l1]; omega, by rw [l1]; omega, by rw [l1]; omega, by rw [l1]; omega⟩
      show (match ((st.set M (.rw (mI { g with p := q } B K R C)) ++ [SO.rw (kI m)]).set M (.rw (mI { ({ g with p := q } : GS) with m := m } B (st.set M (.rw (mI { g with p := q } B K R C))).length R C)))[M]? with | some (.rw xs) => _ | _ => _)
      rw [h3.m]
      exact hP _ _ (h3.setS none) ((((scM _).trans (sc_app _)).trans (scM _)).trans (scM _))
noncomputable def st11 : TSD := (tseq (tasg (tlst tanil) (gname 8)) (tseq (tifS (tbool (tbin (rEqD false) (tvar 3) (tcon (Dt.int 12)))) (tseq (tasg (tlst (tacons (tbin rIxD (tvar 7) (tvar 4)) tanil)) (gname 8)) tnext) tnext) (tseq (tifS (tbool (tbin (rEqD false) (tvar 3) (tcon (Dt.int 1)))) (tseq (tasg (tvar 6) (gsub (tvar 7) (tvar 4))) tnext) tnext) (tseq (tifS (tbool (tbin (rEqD false) (tvar 3) (tcon (Dt.int 13)))) (tseq (tasg (tvar 1) (gsub (tvar 7) (tvar 4))) tnext) tnext) (tseq (tasg (tbin L3.rAdd (tbin rIxD (tvar 0) (tcon (Dt.int 0))) (tcon (Dt.int 1))) (gsub (tvar 0) (tcon (Dt.int 0)))) (tseq (tret (tlst (tacons (tcon (Dt.str (Str.ofString "on"))) (tacons (tvar 8) (tacons (tcall rIntB (tacons (tbin (rEqD false) (tvar 3) (tcon (Dt.int 13))) tanil)) tanil))))) tnext))))))
noncomputable def st10 : TSD := (tseq (tifS (tbool (tbin (rInD false) (tvar 3) (ttup (tacons (tcon (Dt.int 9)) (tacons (tcon (Dt.int 10)) (tacons (tcon (Dt.int 11)) (tacons (tcon (Dt.int 15)) tanil))))))) (tseq (tret (tlst (tacons (tcall spWay (tacons (tvar 0) (tacons (tvar 3) (tacons (tvar 4) (tacons (tvar 6) tanil))))) (tacons (tlst tanil) (tacons (tcon (Dt.int 0)) tanil))))) tnext) tnext) st11)
noncomputable def st9 : TSD := (tseq (tifS (tbool (tbin (rInD false) (tvar 3) (ttup (tacons (tcon (Dt.int 7)) (tacons (tcon (Dt.int 8)) (tacons (tcon (Dt.int 14)) tanil)))))) (tseq (tret (tlst (tacons (tcall spTouch (tacons (tvar 0) (tacons (tvar 3) (tacons (tvar 4) (tacons (tbin L3.rAdd (tbin rIxD (tvar 7) (tvar 5)) (tvar 6)) (tacons (tvar 6) tanil)))))) (tacons (tlst tanil) (tacons (tcon (Dt.int 0)) tanil))))) tnext) tnext) st10)
noncomputable def st8 : TSD := (tseq (tifS (tbool (tbin (rInD false) (tvar 3) (ttup (tacons (tcon (Dt.int 2)) (tacons (tcon (Dt.int 3)) (tacons (tcon (Dt.int 4)) (tacons (tcon (Dt.int 6)) tanil))))))) (tseq (tret (tlst (tacons (tcall spReck (tacons (tvar 0) (tacons (tvar 3) (tacons (tvar 4) (tacons (tbin rIxD (tvar 7) (tvar 5)) (tacons (tbin rIxD (tvar 7) (tbin rMod (tvar 6) (tcon (Dt.int 8)))) tanil)))))) (tacons (tlst tanil) (tacons (tcon (Dt.int 0)) tanil))))) tnext) tnext) st9)
noncomputable def st7 : TSD := (tseq (tifS (tbool (tbin (rInD false) (tvar 3) (ttup (tacons (tcon (Dt.int 0)) (tacons (tcon (Dt.int 5)) tanil))))) (tseq (tret (tlst (tacons (tbin rIxD (tlst (tacons (tcon (Dt.str (Str.ofString "halt"))) (tacons (tcon (Dt.str (Str.ofString "bad"))) tanil))) (tcall rIntB (tacons (tbin (rEqD false) (tvar 3) (tcon (Dt.int 5))) tanil))) (tacons (tlst tanil) (tacons (tcon (Dt.int 0)) tanil))))) tnext) tnext) st8)
noncomputable def st1 : TSD := (tseq (tasg (tbin rIxD (tbin rIxD (tvar 0) (tcon (Dt.int 5))) (tbin rIxD (tvar 0) (tcon (Dt.int 0)))) (gname 2)) (tseq (tasg (tbin rDiv (tvar 2) (tcon (Dt.int 4096))) (gname 3)) (tseq (tasg (tbin rMod (tbin rDiv (tvar 2) (tcon (Dt.int 512))) (tcon (Dt.int 8))) (gname 4)) (tseq (tasg (tbin rMod (tbin rDiv (tvar 2) (tcon (Dt.int 64))) (tcon (Dt.int 8))) (gname 5)) (tseq (tasg (tbin rMod (tvar 2) (tcon (Dt.int 64))) (gname 6)) (tseq (tasg (tbin rIxD (tvar 0) (tcon (Dt.int 1))) (gname 7)) st7))))))
noncomputable def st15 : TSD := (tseq (tasg (tbin L3.rAdd (tbin rIxD (tvar 0) (tcon (Dt.int 0))) (tcon (Dt.int 1))) (gsub (tvar 0) (tcon (Dt.int 0)))) (tseq (tret (tlst (tacons (tcon (Dt.str (Str.ofString "on"))) (tacons (tvar 8) (tacons (tcall rIntB (tacons (tbin (rEqD false) (tvar 3) (tcon (Dt.int 13))) tanil)) tanil))))) tnext))
noncomputable def st14 : TSD := (tseq (tifS (tbool (tbin (rEqD false) (tvar 3) (tcon (Dt.int 13)))) (tseq (tasg (tvar 1) (gsub (tvar 7) (tvar 4))) tnext) tnext) st15)
noncomputable def st13 : TSD := (tseq (tifS (tbool (tbin (rEqD false) (tvar 3) (tcon (Dt.int 1)))) (tseq (tasg (tvar 6) (gsub (tvar 7) (tvar 4))) tnext) tnext) st14)
noncomputable def st12 : TSD := (tseq (tifS (tbool (tbin (rEqD false) (tvar 3) (tcon (Dt.int 12)))) (tseq (tasg (tlst (tacons (tbin rIxD (tvar 7) (tvar 4)) tanil)) (gname 8)) tnext) tnext) st13)
noncomputable abbrev RS8 (M : Nat) (h n w a b c : Int) (B : Nat) (x8 : Option Dt) : Rho := [some (.lst M), some (.int h), some (.int n), some (.int w), some (.int a), some (.int b), some (.int c), some (.lst B), x8]
theorem inI {w : Int} {xs : List Int} {st : Sto} {P : VD} (h : P (.bl (xs.contains w)) st) : rInD false (.int w) (.tup (xs.map .int)) st P := by
  refine ⟨rfl, all_ints xs 0, ?_⟩
  have e : ((xs.map Dt.int).any (fun z => eqD 0 z (.int w)) != false) = xs.contains w := by
    rw [bne_false', List.any_map, List.contains_eq_any_beq]
    congr 1
    funext z
    exact Bool.eq_iff_iff.mpr ⟨fun h => by rw [eq_of_beq h]; exact beq_self_eq_true _, fun h => by rw [eq_of_beq h]; exact beq_self_eq_true _⟩
  rw [e]; exact h
section
variable {Pd : VD} {st : Sto} {M B K R C e : Nat} {g : GS} {h n w a b c : Int}
noncomputable def Off (e M B R C : Nat) : Prop := e ≠ M ∧ e ≠ B ∧ e ≠ R ∧ e ≠ C
theorem step15 {ts : List Int} (m : Mach st M B K R C g) (he : st[e]? = some (.rw (ts.map .int))) (hn : Off e M B R C) (ok : g.Ok) (hp : g.p < 128) (hP : ∀ st' q, Mach st' M B K R C (next g) → Sc M B R C st st' → st'[q]? = some (.rw [.str "on", .lst e, .int (if w = 13 then 1 else 0)]) → st'[e]? = some (.rw (ts.map .int)) → Pd (.lst q) st') :
    st15 (Ed Pd) (RS8 M h n w a b c B (some (.lst e))) st := by
  simp only [st15, tseq, tasg, gsub, tvar, tbin, tcon, tret, tlst, tacons, tanil, tcall, List.getElem?_cons_zero, List.getElem?_cons_succ]
  refine mx m (i := 0) (d := .int g.p) rfl ?_
  show (match st[M]? with | some (.rw xs) => _ | _ => _)
  rw [m.m]
  have h3 := m.setP (g.p + 1)
  have e2 : next g = { g with p := g.p + 1 } := by show GS.mk ((g.p + 1) % 65536) _ _ _ _ _ = _; rw [on1 ok hp]
  rw [e2] at hP
  refine eqi ?_
  refine intB (v := if w = 13 then 1 else 0) (by by_cases hw : w = 13 <;> simp [hw]) ?_
  refine ⟨by show 3 ≤ sizeLine; decide, ?_⟩
  exact hP _ _ (h3.app _) ((scM _).trans (sc_app _)) get_new (get_app (get_set_ne he (Ne.symm hn.1)))
theorem step14 {ts : List Int} (m : Mach st M B K R C g) (he : st[e]? = some (.rw (ts.map .int))) (hn : Off e M B R C) (ok : g.Ok) (hp : g.p < 128) (a0 : 0 ≤ a) (a1 : a < 8) (h0 : In16 h)
    (hP : ∀ st' q, Mach st' M B K R C (if w = 13 then boxG g a h else next g) → Sc M B R C st st' → st'[q]? = some (.rw [.str "on", .lst e, .int (if w = 13 then 1 else 0)]) → st'[e]? = some (.rw (ts.map .int)) → Pd (.lst q) st') :
    st14 (Ed Pd) (RS8 M h n w a b c B (some (.lst e))) st := by
  simp only [st14, tseq, tifS, tbool, tbin, tvar, tcon, List.getElem?_cons_zero, List.getElem?_cons_succ]
  by_cases hw : w = 13
  · have hP : ∀ st' q, Mach st' M B K R C (boxG g a h) → Sc M B R C st st' → st'[q]? = some (.rw [.str "on", .lst e, .int (if w = 13 then 1 else 0)]) → st'[e]? = some (.rw (ts.map .int)) → Pd (.lst q) st' := by
      intro st' q m'
      exact hP st' q (by rw [if_pos hw]; exact m')
    refine eqi (KH.iteB (dT hw) ?_)
    simp only [tasg, gsub, tvar, List.getElem?_cons_zero, List.getElem?_cons_succ]
    show (match st[B]? with | some (.rw xs) => _ | _ => _)
    rw [m.b]
    show (match ixN (g.bs.map Dt.int).length a with | some j => _ | none => _)
    rw [ixX_eq a0 (by rw [ok.b8]; exact a1)]
    show st15 (Ed Pd) (RS8 M h n w a b c B (some (.lst e))) (st.set B (.rw ((g.bs.map Dt.int).set a.toNat (.int h))))
    rw [← List.map_set]
    have okb := ok_box ok (a := a) h0.1 h0.2
    exact step15 (m.setB _) (get_set_ne he (Ne.symm hn.2.1)) hn ⟨ok.p0, okb.b8, okb.bb, ok.c8, ok.cm, ok.cb, ok.rb⟩ hp fun st' q m' s g' => hP st' q m' ((scB _).trans s) g'
  · have hP : ∀ st' q, Mach st' M B K R C (next g) → Sc M B R C st st' → st'[q]? = some (.rw [.str "on", .lst e, .int (if w = 13 then 1 else 0)]) → st'[e]? = some (.rw (ts.map .int)) → Pd (.lst q) st' := by
      intro st' q m'
      exact hP st' q (by rw [if_neg hw]; exact m')
    exact eqi (KH.iteBF (dF hw) (step15 m he hn ok hp hP))
theorem step13 {ts : List Int} (m : Mach st M B K R C g) (he : st[e]? = some (.rw (ts.map .int))) (hn : Off e M B R C) (ok : g.Ok) (hp : g.p < 128) (a0 : 0 ≤ a) (a1 : a < 8) (h0 : In16 h) (c0 : 0 ≤ c) (c1 : c < 64)
    (hP : ∀ st' q, Mach st' M B K R C (if w = 1 then boxG g a c else if w = 13 then boxG g a h else next g) → Sc M B R C st st' → st'[q]? = some (.rw [.str "on", .lst e, .int (if w = 13 then 1 else 0)]) → st'[e]? = some (.rw (ts.map .int)) → Pd (.lst q) st') :
    st13 (Ed Pd) (RS8 M h n w a b c B (some (.lst e))) st := by
  simp only [st13, tseq, tifS, tbool, tbin, tvar, tcon, List.getElem?_cons_zero, List.getElem?_cons_succ]
  by_cases hw : w = 1
  · refine eqi (KH.iteB (dT hw) ?_)
    simp only [tasg, gsub, tvar, List.getElem?_cons_zero, List.getElem?_cons_succ]
    show (match st[B]? with | some (.rw xs) => _ | _ => _)
    rw [m.b]
    show (match ixN (g.bs.map Dt.int).length a with | some j => _ | none => _)
    rw [ixX_eq a0 (by rw [ok.b8]; exact a1)]
    show st14 (Ed Pd) (RS8 M h n w a b c B (some (.lst e))) (st.set B (.rw ((g.bs.map Dt.int).set a.toNat (.int c))))
    rw [← List.map_set]
    have okb := ok_box ok (a := a) c0 (by omega)
    refine step14 (m.setB _) (get_set_ne he (Ne.symm hn.2.1)) hn ⟨ok.p0, okb.b8, okb.bb, ok.c8, ok.cm, ok.cb, ok.rb⟩ hp a0 a1 h0 fun st' q m' s g' => ?_
    refine hP st' q ?_ ((scB _).trans s) g'
    rw [if_neg (by omega)] at m'
    rw [if_pos hw]
    exact m'
  · refine eqi (KH.iteBF (dF hw) (step14 m he hn ok hp a0 a1 h0 fun st' q m' => hP st' q ?_))
    rw [if_neg hw]; exact m'
theorem step12 (m : Mach st M B K R C g) (he : st[e]? = some (.rw [])) (hn : Off e M B R C) (hlt : M < st.length ∧ B < st.length ∧ R < st.length ∧ C < st.length) (ok : g.Ok) (hp : g.p < 128) (a0 : 0 ≤ a) (a1 : a < 8) (h0 : In16 h) (c0 : 0 ≤ c) (c1 : c < 64)
    (hP : ∀ st' q e, Mach st' M B K R C (if w = 1 then boxG g a c else if w = 13 then boxG g a h else next g) → Sc M B R C st st' → st'[q]? = some (.rw [.str "on", .lst e, .int (if w = 13 then 1 else 0)]) → st'[e]? = some (.rw ((if w = 12 then [bx g a] else []).map .int)) → Pd (.lst q) st') :
    st12 (Ed Pd) (RS8 M h n w a b c B (some (.lst e))) st := by
  simp only [st12, tseq, tifS, tbool, tbin, tvar, tcon, List.getElem?_cons_zero, List.getElem?_cons_succ]
  by_cases hw : w = 12
  · refine eqi (KH.iteB (dT hw) ?_)
    simp only [tasg, tlst, tacons, tanil, tbin, tvar, gname, List.getElem?_cons_zero, List.getElem?_cons_succ, List.set_cons_zero, List.set_cons_succ]
    refine bx_at ok m a0 a1 ?_
    refine ⟨by show 1 ≤ sizeLine; decide, ?_⟩
    refine step13 (ts := [bx g a]) (e := st.length) (m.app _) get_new (by unfold Off; omega) ok hp a0 a1 h0 c0 c1 fun st' q m' s g' t' => hP st' q _ m' ((sc_app _).trans s) g' ?_
    rw [if_pos hw]; exact t'
  · refine eqi (KH.iteBF (dF hw) (step13 (ts := []) m he hn ok hp a0 a1 h0 c0 c1 fun st' q m' s g' t' => hP st' q _ m' s g' ?_))
    rw [if_neg hw]; exact t'
end
theorem hear0 {g : GS} {r : Res} (h : hearB g = false) : hearI g r = 0 := by
  unfold hearI; rw [h]; split <;> rfl
theorem rd__law_step {ds : List Dt} {st : Sto} {Pd : VD} (h : spStep ds st Pd) : t__law_step (Ed Pd) (startD ["machine", "heard", "number", "word", "a", "b", "c", "boxes", "said"] ds) st := by
  obtain ⟨M, B, K, R, C, g, x, rfl, m, ok, hx, hP⟩ := h
  have hlt := m.lt
  show (tseq (tifS (tnotB (tbool (tcall spMayL (tacons (tvar 0) (tacons (tbin rIxD (tvar 0) (tcon (Dt.int 0))) (tacons (tcon (Dt.int 4)) tanil)))))) (tseq (tret (tlst (tacons (tcon (Dt.str (Str.ofString "closed"))) (tacons (tlst tanil) (tacons (tcon (Dt.int 0)) tanil))))) tnext) tnext) st1) (Ed Pd) [some (.lst M), some (.int x), none, none, none, none, none, none, none] st
  simp only [tseq, tifS, tnotB, tbool, tcall, tacons, tanil, tbin, tvar, tcon, List.getElem?_cons_zero, List.getElem?_cons_succ]
  refine mx m (i := 0) (d := .int g.p) rfl ?_
  refine ⟨M, B, K, R, C, g, g.p, 4, rfl, m, ok, ok.p0, .inr (.inr rfl), ?_⟩
  have two : (2 : Nat) ≤ sizeLine := by decide
  have three : (3 : Nat) ≤ sizeLine := by decide
  cases hm : may 4 g g.p with
  | false =>
    have e : doR g x = leftG "closed" g := by unfold doR; rw [if_neg (by rw [hm]; exact Bool.false_ne_true)]
    rw [e] at hP
    refine iteT ?_
    refine ⟨Nat.zero_le _, three, ?_⟩
    exact hP _ K _ st.length ((m.app _).app _) ((sc_app _).trans (sc_app _)) get_new (get_app get_new)
  | true =>
    refine iteF ?_
    have hpl : 0 ≤ g.p ∧ g.p < (g.cs.length : Nat) := by
      unfold may at hm
      simp only [Bool.and_eq_true, decide_eq_true_eq] at hm
      exact hm.1
    have hp : g.p < 128 := by have := ok.cm; omega
    obtain ⟨n, hn⟩ : ∃ n, n = g.cs.getD g.p.toNat 0 := ⟨_, rfl⟩
    have hn16 : 0 ≤ n ∧ n < 65536 := by rw [hn]; exact cs_ok ok _
    have e : doR g x = doW g (n / 4096) (n / 512 % 8) (n / 64 % 8) (n % 64) x := by
      unfold doR
      rw [if_pos hm, ← hn, show n / 4096 % 16 = n / 4096 by omega]
    rw [e] at hP
    simp only [tnext, st1, tseq, tasg, tbin, tvar, tcon, gname, List.getElem?_cons_zero, List.getElem?_cons_succ, List.set_cons_zero, List.set_cons_succ]
    refine mx m (i := 5) (d := .lst C) rfl ?_
    refine mx m (i := 0) (d := .int g.p) rfl ?_
    refine ixX m.c hpl.1 hpl.2 ?_
    rw [← hn]
    refine ⟨cdiv (by decide) (by decide), cdiv (by decide) (by decide), by decide, cdiv (by decide) (by decide), by decide, by decide, ?_⟩
    refine mx m (i := 1) (d := .lst B) rfl ?_
    obtain ⟨w, hw⟩ : ∃ w, w = n / 4096 := ⟨_, rfl⟩
    obtain ⟨a, ha⟩ : ∃ a, a = n / 512 % 8 := ⟨_, rfl⟩
    obtain ⟨b, hb⟩ : ∃ b, b = n / 64 % 8 := ⟨_, rfl⟩
    obtain ⟨c, hc⟩ : ∃ c, c = n % 64 := ⟨_, rfl⟩
    have hh : hearB g = decide (w = 13) := by unfold hearB; rw [← hn, ← hw]
    rw [← hw, ← ha, ← hb, ← hc] at hP ⊢
    have w01 : 0 ≤ w ∧ w < 16 := by omega
    have a01 : 0 ≤ a ∧ a < 8 := by omega
    have b01 : 0 ≤ b ∧ b < 8 := by omega
    have c01 : 0 ≤ c ∧ c < 64 := by omega
    clear hw ha hb hc e hn
    show st7 (Ed Pd) (RS8 M x n w a b c B none) st
    have bb := bx_ok ok b
    have bc := bx_ok ok (c % 8)
    have fin : ∀ (st' : Sto) K', Mach st' M B K' R C (doW g w a b c x).2.1 → Sc M B R C st st' → (doW g w a b c x).2.2 = [] → hearI g (doW g w a b c x) = 0 → Pd (.lst (st'.length + 1)) (st' ++ [SO.rw []] ++ [SO.rw [.str (doW g w a b c x).1, .lst st'.length, .int 0]]) := by
      intro st' K' m' s et h0
      rw [h0, et] at hP
      have el : (st' ++ [SO.rw []]).length = st'.length + 1 := by simp
      rw [← el]
      exact hP _ K' _ st'.length ((m'.app _).app _) ((s.trans (sc_app _)).trans (sc_app _)) get_new (get_app get_new)
    have go8 : ([0, 5] : List Int).contains w = false → st8 (Ed Pd) (RS8 M x n w a b c B none) st → st7 (Ed Pd) (RS8 M x n w a b c B none) st := by
      intro hc q
      simp only [st7, tseq, tifS, tbool, tbin, tvar, ttup, tacons, tanil, tcon, List.getElem?_cons_zero, List.getElem?_cons_succ]
      exact ⟨by show 2 ≤ sizeLine; decide, inI (xs := [0, 5]) (KH.iteBF hc q)⟩
    have go9 : ([2, 3, 4, 6] : List Int).contains w = false → st9 (Ed Pd) (RS8 M x n w a b c B none) st → st8 (Ed Pd) (RS8 M x n w a b c B none) st := by
      intro hc q
      simp only [st8, tseq, tifS, tbool, tbin, tvar, ttup, tacons, tanil, tcon, List.getElem?_cons_zero, List.getElem?_cons_succ]
      exact ⟨by show 4 ≤ sizeLine; decide, inI (xs := [2, 3, 4, 6]) (KH.iteBF hc q)⟩
    have go10 : ([7, 8, 14] : List Int).contains w = false → st10 (Ed Pd) (RS8 M x n w a b c B none) st → st9 (Ed Pd) (RS8 M x n w a b c B none) st := by
      intro hc q
      simp only [st9, tseq, tifS, tbool, tbin, tvar, ttup, tacons, tanil, tcon, List.getElem?_cons_zero, List.getElem?_cons_succ]
      exact ⟨by show 3 ≤ sizeLine; decide, inI (xs := [7, 8, 14]) (KH.iteBF hc q)⟩
    have go11 : ([9, 10, 11, 15] : List Int).contains w = false → st11 (Ed Pd) (RS8 M x n w a b c B none) st → st10 (Ed Pd) (RS8 M x n w a b c B none) st := by
      intro hc q
      simp only [st10, tseq, tifS, tbool, tbin, tvar, ttup, tacons, tanil, tcon, List.getElem?_cons_zero, List.getElem?_cons_succ]
      exact ⟨by show 4 ≤ sizeLine; decide, inI (xs := [9, 10, 11, 15]) (KH.iteBF hc q)⟩
    have reck : (w = 2 ∨ w = 3 ∨ w = 4 ∨ w = 6) → ([2, 3, 4, 6] : List Int).contains w = true → rk g w a (bx g b) (bx g (c % 8)) = doW g w a b c x → (doW g w a b c x).2.2 = [] → st8 (Ed Pd) (RS8 M x n w a b c B none) st := by
      intro hw hc er et
      have h0 : hearI g (doW g w a b c x) = 0 := hear0 (by rw [hh]; exact decide_eq_false (by omega))
      simp only [st8, tseq, tifS, tbool, tbin, tvar, ttup, tacons, tanil, tcon, List.getElem?_cons_zero, List.getElem?_cons_succ]
      refine ⟨by show 4 ≤ sizeLine; decide, inI (xs := [2, 3, 4, 6]) (KH.iteB hc ?_)⟩
      simp only [tret, tlst, tacons, tanil, tcall, tbin, tvar, tcon, ttup, List.getElem?_cons_zero, List.getElem?_cons_succ]
      refine bx_at ok m b01.1 b01.2 ?_
      refine ⟨by decide, ?_⟩
      refine bx_at ok m (Int.emod_nonneg _ (by decide)) (Int.emod_lt_of_pos _ (by decide)) ?_
      refine ⟨M, B, K, R, C, g, w, a, bx g b, bx g (c % 8), rfl, m, ok, hp, hw, a01.1, a01.2, bb, bc, fun st' K' m' s => ?_⟩
      refine ⟨Nat.zero_le _, three, ?_⟩
      rw [er] at m' ⊢
      have := fin st' K' m' s et h0
      rw [show st'.length + 1 = (st' ++ [SO.rw []]).length by simp] at this
      exact this
    have touch : (w = 7 ∨ w = 8 ∨ w = 14) → ([7, 8, 14] : List Int).contains w = true → tk g w a (bx g b + c) c = doW g w a b c x → (doW g w a b c x).2.2 = [] → st9 (Ed Pd) (RS8 M x n w a b c B none) st := by
      intro hw hc er et
      have h0 : hearI g (doW g w a b c x) = 0 := hear0 (by rw [hh]; exact decide_eq_false (by omega))
      simp only [st9, tseq, tifS, tbool, tbin, tvar, ttup, tacons, tanil, tcon, List.getElem?_cons_zero, List.getElem?_cons_succ]
      refine ⟨by show 3 ≤ sizeLine; decide, inI (xs := [7, 8, 14]) (KH.iteB hc ?_)⟩
      simp only [tret, tlst, tacons, tanil, tcall, tbin, tvar, tcon, ttup, L3.rAdd, List.getElem?_cons_zero, List.getElem?_cons_succ]
      refine bx_at ok m b01.1 b01.2 ?_
      refine ⟨M, B, K, R, C, g, w, a, bx g b + c, c, rfl, m, ok, hp, hw, a01.1, a01.2, by omega, fun st' m' s => ?_⟩
      refine ⟨Nat.zero_le _, three, ?_⟩
      rw [er] at m' ⊢
      have := fin st' K m' s et h0
      rw [show st'.length + 1 = (st' ++ [SO.rw []]).length by simp] at this
      exact this
    have way : (w = 9 ∨ w = 10 ∨ w = 11 ∨ w = 15) → ([9, 10, 11, 15] : List Int).contains w = true → doW g w a 0 c 0 = doW g w a b c x → (doW g w a b c x).2.2 = [] → st10 (Ed Pd) (RS8 M x n w a b c B none) st := by
      intro hw hc er et
      have h0 : hearI g (doW g w a b c x) = 0 := hear0 (by rw [hh]; exact decide_eq_false (by omega))
      simp only [st10, tseq, tifS, tbool, tbin, tvar, ttup, tacons, tanil, tcon, List.getElem?_cons_zero, List.getElem?_cons_succ]
      refine ⟨by show 4 ≤ sizeLine; decide, inI (xs := [9, 10, 11, 15]) (KH.iteB hc ?_)⟩
      simp only [tret, tlst, tacons, tanil, tcall, tbin, tvar, tcon, ttup, List.getElem?_cons_zero, List.getElem?_cons_succ]
      refine ⟨M, B, K, R, C, g, w, a, c, rfl, m, ok, hp, hw, a01.1, a01.2, fun st' K' m' s => ?_⟩
      refine ⟨Nat.zero_le _, three, ?_⟩
      rw [er] at m' ⊢
      have := fin st' K' m' s et h0
      rw [show st'.length + 1 = (st' ++ [SO.rw []]).length by simp] at this
      exact this
    have rest : (w = 1 ∨ w = 12 ∨ w = 13) → doW g w a b c x = (("on" : Str), (if w = 1 then boxG g a c else if w = 13 then boxG g a x else next g), (if w = 12 then [bx g a] else [])) → st11 (Ed Pd) (RS8 M x n w a b c B none) st := by
      intro hw er
      have h0 : hearI g (doW g w a b c x) = if w = 13 then 1 else 0 := by
        rw [er]
        show (if hearB g = true then (1 : Int) else 0) = _
        rw [hh]
        by_cases h13 : w = 13
        · rw [if_pos h13, if_pos (decide_eq_true h13)]
        · rw [if_neg h13, if_neg (by rw [decide_eq_false h13]; exact Bool.false_ne_true)]
      rw [h0, er] at hP
      simp only [st11, tseq, tasg, tlst, tacons, tanil, gname, List.set_cons_zero, List.set_cons_succ]
      refine ⟨Nat.zero_le _, ?_⟩
      refine step12 (e := st.length) (m.app _) get_new (by unfold Off; omega) (m.app _).lt ok hp a01.1 a01.2 hx c01.1 c01.2 fun st' q e m' s g' t' => hP st' K q e m' ((sc_app _).trans s) g' t'
    have hb0 : ∀ (word : Str), (w = 0 ∧ word = "halt" ∨ w = 5 ∧ word = "bad") → doW g w a b c x = leftG word g → ([0, 5] : List Int).contains w = true → st7 (Ed Pd) (RS8 M x n w a b c B none) st := by
      intro word hw er hc
      have h0 : hearI g (doW g w a b c x) = 0 := hear0 (by rw [hh]; exact decide_eq_false (by omega))
      rw [h0, er] at hP
      simp only [st7, tseq, tifS, tbool, tbin, tvar, ttup, tacons, tanil, tcon, List.getElem?_cons_zero, List.getElem?_cons_succ]
      refine ⟨by show 2 ≤ sizeLine; decide, inI (xs := [0, 5]) (KH.iteB hc ?_)⟩
      simp only [tret, tlst, tacons, tanil, tcall, tbin, tvar, tcon, ttup, List.getElem?_cons_zero, List.getElem?_cons_succ]
      refine ⟨two, ?_⟩
      refine eqi ?_
      rcases hw with ⟨rfl, rfl⟩ | ⟨rfl, rfl⟩
      · refine intB (v := 0) rfl ?_
        refine pickAt (xs := [.str "halt", .str "bad"]) (v := 0) (d := .str "halt") get_new rfl ?_
        refine ⟨Nat.zero_le _, three, ?_⟩
        exact hP _ K _ _ (((m.app _).app _).app _) (((sc_app _).trans (sc_app _)).trans (sc_app _)) get_new (get_app get_new)
      · refine intB (v := 1) rfl ?_
        refine pickAt (xs := [.str "halt", .str "bad"]) (v := 1) (d := .str "bad") get_new rfl ?_
        refine ⟨Nat.zero_le _, three, ?_⟩
        exact hP _ K _ _ (((m.app _).app _).app _) (((sc_app _).trans (sc_app _)).trans (sc_app _)) get_new (get_app get_new)
    have tD : ∀ {y : Int}, (divG g a (bx g b) y).2.2 = [] := fun {y} => by unfold divG; split <;> rfl
    have tG : ∀ {y : Int}, (getG g a y).2.2 = [] := fun {y} => by unfold getG; split <;> rfl
    have tS : ∀ {v y : Int}, (setG g v y).2.2 = [] := fun {v y} => by unfold setG; split <;> rfl
    have tR : ∀ {v y : Int}, (rightG g v y).2.2 = [] := fun {v y} => by unfold rightG; split <;> rfl
    have tB : (backG g).2.2 = [] := by unfold backG; cases g.sv <;> rfl
    have tW : (if whenG a g.m = true then onG (leap g c) else onG (next g)).2.2 = [] := by split <;> rfl
    rcases (show w = 0 ∨ w = 1 ∨ w = 2 ∨ w = 3 ∨ w = 4 ∨ w = 5 ∨ w = 6 ∨ w = 7 ∨ w = 8 ∨ w = 9 ∨ w = 10 ∨ w = 11 ∨ w = 12 ∨ w = 13 ∨ w = 14 ∨ w = 15 by omega) with rfl | rfl | rfl | rfl | rfl | rfl | rfl | rfl | rfl | rfl | rfl | rfl | rfl | rfl | rfl | rfl
    · exact hb0 "halt" (.inl ⟨rfl, rfl⟩) rfl (by decide)
    · exact go8 (by decide) (go9 (by decide) (go10 (by decide) (go11 (by decide) (rest (.inl rfl) rfl))))
    · exact go8 (by decide) (reck (.inl rfl) (by decide) rfl rfl)
    · exact go8 (by decide) (reck (.inr (.inl rfl)) (by decide) rfl rfl)
    · exact go8 (by decide) (reck (.inr (.inr (.inl rfl))) (by decide) rfl rfl)
    · exact hb0 "bad" (.inr ⟨rfl, rfl⟩) rfl (by decide)
    · exact go8 (by decide) (reck (.inr (.inr (.inr rfl))) (by decide) rfl tD)
    · exact go8 (by decide) (go9 (by decide) (touch (.inl rfl) (by decide) rfl tG))
    · exact go8 (by decide) (go9 (by decide) (touch (.inr (.inl rfl)) (by decide) rfl tS))
    · exact go8 (by decide) (go9 (by decide) (go10 (by decide) (way (.inl rfl) (by decide) rfl rfl)))
    · exact go8 (by decide) (go9 (by decide) (go10 (by decide) (way (.inr (.inl rfl)) (by decide) rfl tW)))
    · exact go8 (by decide) (go9 (by decide) (go10 (by decide) (way (.inr (.inr (.inl rfl))) (by decide) rfl rfl)))
    · exact go8 (by decide) (go9 (by decide) (go10 (by decide) (go11 (by decide) (rest (.inr (.inl rfl)) rfl))))
    · exact go8 (by decide) (go9 (by decide) (go10 (by decide) (go11 (by decide) (rest (.inr (.inr rfl)) rfl))))
    · exact go8 (by decide) (go9 (by decide) (touch (.inr (.inr rfl)) (by decide) rfl tR))
    · exact go8 (by decide) (go9 (by decide) (go10 (by decide) (way (.inr (.inr (.inr rfl))) (by decide) rfl tB)))
end K10
namespace K10
open PySem PySem.Spec PyProof.Rows L2 L3 KS K06 K17 KR
noncomputable abbrev t__law_spun : TSD := (tseq (tasg (tbin rMod (tbin rMul (tbin L3.rAdd (tbin L3.rAdd (tbin rMod (tvar 0) (tcon (Dt.int 2147483587))) (tbin rMul (tcon (Dt.int 977)) (tvar 1))) (tcon (Dt.int 5))) (tcon (Dt.int 48271))) (tcon (Dt.int 2147483629))) (gname 2)) (tseq (tasg (tbin rMod (tbin rMul (tbin rMod (tbin L3.rAdd (tbin rMul (tvar 2) (tvar 2)) (tbin rMul (tcon (Dt.int 31)) (tvar 1))) (tcon (Dt.int 2147483563))) (tcon (Dt.int 16807))) (tcon (Dt.int 2147483549))) (gname 2)) (tseq (tret (tbin rDiv (tbin rMod (tbin rMul (tvar 2) (tvar 2)) (tcon (Dt.int 2147483543))) (tcon (Dt.int 3)))) tnext)))
noncomputable abbrev t__law_menu : TSD := (tseq (tasg (tbin rIxD (tlst (tacons (tcon (Dt.int 1)) (tacons (tcon (Dt.int 2)) (tacons (tcon (Dt.int 3)) (tacons (tcon (Dt.int 4)) (tacons (tcon (Dt.int 6)) (tacons (tcon (Dt.int 7)) (tacons (tcon (Dt.int 8)) (tacons (tcon (Dt.int 8)) (tacons (tcon (Dt.int 9)) (tacons (tcon (Dt.int 10)) (tacons (tcon (Dt.int 10)) (tacons (tcon (Dt.int 13)) (tacons (tcon (Dt.int 12)) (tacons (tcon (Dt.int 13)) (tacons (tcon (Dt.int 14)) (tacons (tcon (Dt.int 15)) (tacons (tcon (Dt.int 1)) (tacons (tcon (Dt.int 2)) (tacons (tcon (Dt.int 12)) (tacons (tcon (Dt.int 7)) tanil))))))))))))))))))))) (tbin rMod (tvar 0) (tcon (Dt.int 20)))) (gname 2)) (tseq (tasg (tbin rDiv (tvar 0) (tcon (Dt.int 20))) (gname 3)) (tseq (tasg (tbin rIxD (tlst (tacons (tbin rMod (tbin rDiv (tvar 3) (tcon (Dt.int 64))) (tcon (Dt.int 64))) (tacons (tbin rMod (tbin rDiv (tvar 3) (tcon (Dt.int 64))) (tcall rMin2 (tacons (tcon (Dt.int 64)) (tacons (tvar 1) tanil)))) (tacons (tbin L3.rAdd (tcon (Dt.int 28)) (tbin rMod (tbin rDiv (tvar 3) (tcon (Dt.int 64))) (tcon (Dt.int 9)))) (tacons (tcon (Dt.int 31)) tanil))))) (tbin rMod (tbin rDiv (tvar 3) (tcon (Dt.int 4096))) (tcon (Dt.int 4)))) (gname 4)) (tseq (tifS (tbool (tbin (rInD false) (tvar 2) (ttup (tacons (tcon (Dt.int 9)) (tacons (tcon (Dt.int 10)) tanil))))) (tseq (tasg (tbin rIxD (tlst (tacons (tbin L3.rAdd (tcon (Dt.int 28)) (tbin rMod (tbin rDiv (tvar 3) (tcon (Dt.int 64))) (tcon (Dt.int 9)))) (tacons (tbin L3.rAdd (tcon (Dt.int 32)) (tbin rMod (tbin rDiv (tvar 3) (tcon (Dt.int 64))) (tcon (Dt.int 4)))) (tacons (tbin rMod (tbin rDiv (tvar 3) (tcon (Dt.int 64))) (tcon (Dt.int 64))) tanil)))) (tbin rMod (tbin rDiv (tvar 3) (tcon (Dt.int 4096))) (tcon (Dt.int 3)))) (gname 4)) tnext) tnext) (tseq (tret (tbin L3.rAdd (tbin L3.rAdd (tbin L3.rAdd (tbin rMul (tvar 2) (tcon (Dt.int 4096))) (tbin rMul (tbin rMod (tvar 3) (tcon (Dt.int 8))) (tcon (Dt.int 512)))) (tbin rMul (tbin rMod (tbin rDiv (tvar 3) (tcon (Dt.int 8))) (tcon (Dt.int 8))) (tcon (Dt.int 64)))) (tvar 4))) tnext)))))
theorem cmulM {i m : Int} (h : 0 < m) (hm : m < 4294967296) : CMul (i % m) (i % m) := .inl (by have := Int.emod_nonneg i (show m ≠ 0 by omega); have := Int.emod_lt_of_pos i h; exact ⟨by omega, by omega⟩)
theorem rd__law_spun {ds : List Dt} {st : Sto} {Pd : VD} (h : spSpunF ds st Pd) : t__law_spun (Ed Pd) (startD ["cell", "k", "spun"] ds) st := by
  obtain ⟨c, k, rfl, h⟩ := h
  exact ⟨by decide, cmul_l (by decide) (by decide), cmul_r (by decide) (by decide), by decide, cmulM (by decide) (by decide), cmul_l (by decide) (by decide), by decide, cmul_r (by decide) (by decide), by decide, cmulM (by decide) (by decide), by decide, cdiv (by decide) (by decide), h⟩
noncomputable def mt4 : TSD := (tseq (tret (tbin L3.rAdd (tbin L3.rAdd (tbin L3.rAdd (tbin rMul (tvar 2) (tcon (Dt.int 4096))) (tbin rMul (tbin rMod (tvar 3) (tcon (Dt.int 8))) (tcon (Dt.int 512)))) (tbin rMul (tbin rMod (tbin rDiv (tvar 3) (tcon (Dt.int 8))) (tcon (Dt.int 8))) (tcon (Dt.int 64)))) (tvar 4))) tnext)
noncomputable def mt3 : TSD := (tseq (tifS (tbool (tbin (rInD false) (tvar 2) (ttup (tacons (tcon (Dt.int 9)) (tacons (tcon (Dt.int 10)) tanil))))) (tseq (tasg (tbin rIxD (tlst (tacons (tbin L3.rAdd (tcon (Dt.int 28)) (tbin rMod (tbin rDiv (tvar 3) (tcon (Dt.int 64))) (tcon (Dt.int 9)))) (tacons (tbin L3.rAdd (tcon (Dt.int 32)) (tbin rMod (tbin rDiv (tvar 3) (tcon (Dt.int 64))) (tcon (Dt.int 4)))) (tacons (tbin rMod (tbin rDiv (tvar 3) (tcon (Dt.int 64))) (tcon (Dt.int 64))) tanil)))) (tbin rMod (tbin rDiv (tvar 3) (tcon (Dt.int 4096))) (tcon (Dt.int 3)))) (gname 4)) tnext) tnext) mt4)
theorem menu4 {Pd : VD} {s1 : Sto} {cell z w r c v : Int} (e : w * 4096 + r % 8 * 512 + r / 8 % 8 * 64 + c = v) (hP : Pd (.int v) s1) :
    mt4 (Ed Pd) [some (.int cell), some (.int z), some (.int w), some (.int r), some (.int c)] s1 := by
  subst e
  exact ⟨cmul_r (by decide) (by decide), by decide, cmul_r (by decide) (by decide), cdiv (by decide) (by decide), by decide, cmul_r (by decide) (by decide), hP⟩
theorem menu3 {Pd : VD} {st s1 : Sto} {cell z : Int} (e1 : ExtS st s1) (hP : ∀ st', ExtS st st' → Pd (.int (menuF cell z)) st') :
    mt3 (Ed Pd) [some (.int cell), some (.int z), some (.int (wordF cell)), some (.int (cell / 20)), some (.int (cF (cell / 20) z))] s1 := by
  unfold menuF at hP
  simp only [mt3, tseq, tifS, tbool, tbin, tvar, ttup, tacons, tanil, tcon, List.getElem?_cons_zero, List.getElem?_cons_succ]
  refine ⟨by show 2 ≤ sizeLine; decide, inI (xs := [9, 10]) ?_⟩
  cases hb : ([9, 10] : List Int).contains (wordF cell) with
  | false =>
    rw [hb, if_neg Bool.false_ne_true] at hP
    exact iteF (menu4 rfl (hP _ e1))
  | true =>
    rw [hb, if_pos rfl] at hP
    refine iteT ?_
    refine ⟨cdiv (by decide) (by decide), by decide, cdiv (by decide) (by decide), by decide, cdiv (by decide) (by decide), by decide, by show 3 ≤ sizeLine; decide, cdiv (by decide) (by decide), by decide, ?_⟩
    refine ixX (xs := [28 + cell / 20 / 64 % 9, 32 + cell / 20 / 64 % 4, cell / 20 / 64 % 64]) get_new (Int.emod_nonneg _ (by decide)) (Int.emod_lt_of_pos _ (by show (0 : Int) < 3; decide)) ?_
    exact menu4 (c := cW (cell / 20)) rfl (hP _ (e1.trans (.app _ _)))
theorem rd__law_menu {ds : List Dt} {st : Sto} {Pd : VD} (h : spMenu ds st Pd) : t__law_menu (Ed Pd) (startD ["cell", "size", "word", "rest", "c"] ds) st := by
  obtain ⟨cell, z, rfl, z0, z1, hP⟩ := h
  refine ⟨by show 20 ≤ sizeLine; decide, by decide, ?_⟩
  refine ixX (xs := [1, 2, 3, 4, 6, 7, 8, 8, 9, 10, 10, 13, 12, 13, 14, 15, 1, 2, 12, 7]) get_new (Int.emod_nonneg _ (by decide)) (Int.emod_lt_of_pos cell (by show (0 : Int) < 20; decide)) ?_
  refine ⟨cdiv (by decide) (by decide), ?_⟩
  refine ⟨cdiv (by decide) (by decide), by decide, cdiv (by decide) (by decide), (min_ok z0).1, cdiv (by decide) (by decide), by decide, by show 4 ≤ sizeLine; decide, cdiv (by decide) (by decide), by decide, ?_⟩
  refine ixX (xs := [cell / 20 / 64 % 64, cell / 20 / 64 % minF z, 28 + cell / 20 / 64 % 9, 31]) get_new (Int.emod_nonneg _ (by decide)) (Int.emod_lt_of_pos _ (by show (0 : Int) < 4; decide)) ?_
  exact menu3 ((ExtS.app _ _).trans (.app _ _)) hP
noncomputable abbrev t__law_program : TSD := (tseq (tasg (tbin L3.rAdd (tsliceA (tvar 0) tonone (tosome (tcon (Dt.int 63)))) (tlst (tacons (tcall rLen (tacons (tvar 0) tanil)) tanil))) (gname 2)) (tseq (tasg (tlst tanil) (gname 3)) (tseq (tfor (irng1 (tvar 1)) (gname 4) (tseq (tasg (tbin rDiv (tbin rIxD (tvar 2) (tbin rMod (tbin L3.rAdd (tvar 4) (tcon (Dt.int 1))) (tcall rLen (tacons (tvar 2) tanil)))) (tbin L3.rAdd (tcon (Dt.int 1)) (tbin rDiv (tvar 4) (tcall rLen (tacons (tvar 2) tanil))))) (gname 5)) (tseq (tifS (tbool (tbin (rEqD false) (tbin rMod (tbin rIxD (tvar 2) (tcon (Dt.int 0))) (tcon (Dt.int 2))) (tcon (Dt.int 1)))) (tseq (tdrop (tappend (tvar 3) (tbin rMod (tvar 5) (tcon (Dt.int 65536))))) tnext) (tseq (tdrop (tappend (tvar 3) (tcall spMenu (tacons (tbin rIxD (tlst (tacons (tvar 5) (tacons (tcall spSpunF (tacons (tvar 5) (tacons (tvar 4) tanil))) tanil))) (tbin rMod (tbin rDiv (tbin rIxD (tvar 2) (tcon (Dt.int 0))) (tcon (Dt.int 2))) (tcon (Dt.int 2)))) (tacons (tvar 1) tanil))))) tnext)) tnext))) (tseq (tret (tvar 3)) tnext))))
noncomputable def pt1 : TSD := (tseq (tasg (tlst tanil) (gname 3)) (tseq (tfor (irng1 (tvar 1)) (gname 4) (tseq (tasg (tbin rDiv (tbin rIxD (tvar 2) (tbin rMod (tbin L3.rAdd (tvar 4) (tcon (Dt.int 1))) (tcall rLen (tacons (tvar 2) tanil)))) (tbin L3.rAdd (tcon (Dt.int 1)) (tbin rDiv (tvar 4) (tcall rLen (tacons (tvar 2) tanil))))) (gname 5)) (tseq (tifS (tbool (tbin (rEqD false) (tbin rMod (tbin rIxD (tvar 2) (tcon (Dt.int 0))) (tcon (Dt.int 2))) (tcon (Dt.int 1)))) (tseq (tdrop (tappend (tvar 3) (tbin rMod (tvar 5) (tcon (Dt.int 65536))))) tnext) (tseq (tdrop (tappend (tvar 3) (tcall spMenu (tacons (tbin rIxD (tlst (tacons (tvar 5) (tacons (tcall spSpunF (tacons (tvar 5) (tacons (tvar 4) tanil))) tanil))) (tbin rMod (tbin rDiv (tbin rIxD (tvar 2) (tcon (Dt.int 0))) (tcon (Dt.int 2))) (tcon (Dt.int 2)))) (tacons (tvar 1) tanil))))) tnext)) tnext))) (tseq (tret (tvar 3)) tnext)))
noncomputable def pb1 : TSD := (tseq (tifS (tbool (tbin (rEqD false) (tbin rMod (tbin rIxD (tvar 2) (tcon (Dt.int 0))) (tcon (Dt.int 2))) (tcon (Dt.int 1)))) (tseq (tdrop (tappend (tvar 3) (tbin rMod (tvar 5) (tcon (Dt.int 65536))))) tnext) (tseq (tdrop (tappend (tvar 3) (tcall spMenu (tacons (tbin rIxD (tlst (tacons (tvar 5) (tacons (tcall spSpunF (tacons (tvar 5) (tacons (tvar 4) tanil))) tanil))) (tbin rMod (tbin rDiv (tbin rIxD (tvar 2) (tcon (Dt.int 0))) (tcon (Dt.int 2))) (tcon (Dt.int 2)))) (tacons (tvar 1) tanil))))) tnext)) tnext)
theorem prog_body {E : EndsD} {s' : Sto} {sc so ce k : Nat} {z : Int} {rows some_ : List Int} (hz0 : 8 ≤ z) (hz1 : z ≤ 128) (hS : HasI s' so some_) (hsp : 0 < some_.length) (gc : s'[ce]? = some (.rw (rows.map .int))) (hl : rows.length < 200)
    (hE : ∀ s2, (∀ i o, i ≠ ce → s'[i]? = some o → s2[i]? = some o) → s2[ce]? = some (.rw ((rows ++ [cellF some_ z k]).map .int)) → E.nx [some (.lst sc), some (.int z), some (.lst so), some (.lst ce), some (.int k), some (.int (rawF some_ k))] s2) :
    pb1 E [some (.lst sc), some (.int z), some (.lst so), some (.lst ce), some (.int k), some (.int (rawF some_ k))] s' := by
  have put : ∀ (s2 : Sto) (v : Int), v = cellF some_ z k → ExtS s' s2 → ((rows.map Dt.int).length < sizeLine ∧ E.nx [some (.lst sc), some (.int z), some (.lst so), some (.lst ce), some (.int k), some (.int (rawF some_ k))] (s2.set ce (.rw (rows.map .int ++ [.int v])))) := by
    intro s2 v hv e
    subst hv
    refine ⟨by rw [List.length_map]; exact small (by omega), hE _ (fun i o hi q => get_set_ne (e i o q) (Ne.symm hi)) ?_⟩
    rw [get_set_self (e _ _ gc), List.map_append]; rfl
  simp only [pb1, tseq, tifS, tbool, tdrop, tappend, tcall, tacons, tanil, tlst, tbin, tvar, tcon, List.getElem?_cons_zero, List.getElem?_cons_succ]
  show rIxD (.lst so) (.int ((0 : Nat) : Int)) _ _
  refine ixIL hS hsp ?_
  refine ⟨by decide, eqi ?_⟩
  by_cases h1 : some_.getD 0 0 % 2 = 1
  · have ec : cellF some_ z k = rawF some_ k % 65536 := by unfold cellF; rw [if_pos h1]
    refine KH.iteB (dT h1) ?_
    refine ⟨by decide, ?_⟩
    show (match s'[ce]? with | some (.rw xs) => _ | _ => _)
    rw [gc]
    exact put s' _ ec.symm (.refl _)
  · have ec : cellF some_ z k = menuF ([rawF some_ k, spunF (rawF some_ k) k].getD (some_.getD 0 0 / 2 % 2).toNat 0) z := by unfold cellF; rw [if_neg h1]
    refine KH.iteBF (dF h1) ?_
    refine ⟨rawF some_ k, _, rfl, ?_⟩
    refine ⟨by show 2 ≤ sizeLine; decide, ?_⟩
    have hS2 := hS.ext (.app s' (SO.rw [Dt.int (rawF some_ k), .int (spunF (rawF some_ k) k)]))
    show rIxD (.lst so) (.int ((0 : Nat) : Int)) _ _
    refine ixIL hS2 hsp ?_
    refine ⟨cdiv (by decide) (by decide), by decide, ?_⟩
    refine ixX (xs := [rawF some_ k, spunF (rawF some_ k) k]) get_new (Int.emod_nonneg _ (by decide)) (Int.emod_lt_of_pos _ (by show (0 : Int) < 2; decide)) ?_
    refine ⟨_, z, rfl, hz0, hz1, fun s2 e2 => ?_⟩
    have e3 := (ExtS.app s' (SO.rw [Dt.int (rawF some_ k), .int (spunF (rawF some_ k) k)])).trans e2
    show (match s2[ce]? with | some (.rw xs) => _ | _ => _)
    rw [e3 _ _ gc]
    exact put s2 _ ec.symm e3
theorem rd__law_program {ds : List Dt} {st : Sto} {Pd : VD} (h : spProgram ds st Pd) : t__law_program (Ed Pd) (startD ["script", "size", "some", "cells", "k", "cell"] ds) st := by
  obtain ⟨sc, z, ns, rfl, ⟨o, ho, hns⟩, hnl, z0, z1, hP⟩ := h
  show t__law_program (Ed Pd) [some (.lst sc), some (.int z), none, none, none, none] st
  simp only [t__law_program, tseq, tasg, tbin, tsliceA, tvar, tonone, tosome, tcon, tlst, tacons, tanil, tcall, List.getElem?_cons_zero, List.getElem?_cons_succ, ho, hns]
  have hcut : L3.cutD (ns.map Dt.int) none (some 63) = (cutF ns).map .int := by
    unfold L3.cutD cutF
    rw [List.map_take, List.map_drop]
  have hcl : (cutF ns).length ≤ 63 := by
    have := cut_len ns 63
    rw [hcut, List.length_map] at this
    omega
  rw [hcut]
  have hsc : seqOf (st ++ [SO.rw ((cutF ns).map .int)]) (.lst sc) = some (ns.map .int) := by
    show ((st ++ [SO.rw ((cutF ns).map .int)])[sc]?).map SO.items = _
    rw [get_app ho, ← hns]; rfl
  show (match seqOf (st ++ [SO.rw ((cutF ns).map .int)]) (.lst sc) with | some xs => _ | none => _)
  rw [hsc]
  refine ⟨by show 1 ≤ sizeLine; decide, ?_⟩
  simp only [L3.rAdd]
  have ga : (st ++ [SO.rw ((cutF ns).map .int)] ++ [SO.rw [Dt.int (((ns.map Dt.int).length : Nat) : Int)]])[st.length]? = some (.rw ((cutF ns).map .int)) := get_app get_new
  rw [ga, get_new]
  refine ⟨by rw [List.length_map]; exact Nat.le_of_lt (small (by show (cutF ns).length + 1 < 1000; omega)), ?_⟩
  obtain ⟨some_, hsm⟩ : ∃ some_, some_ = someF ns := ⟨_, rfl⟩
  have hsome : (cutF ns).map Dt.int ++ [Dt.int (((ns.map Dt.int).length : Nat) : Int)] = some_.map .int := by rw [hsm]; unfold someF; rw [List.map_append]; rfl
  have hsl0 : some_.length = (cutF ns).length + 1 := by rw [hsm]; unfold someF; simp
  rw [hsome]
  obtain ⟨so, hso⟩ : ∃ so, so = (st ++ [SO.rw ((cutF ns).map .int)] ++ [SO.rw [Dt.int (((ns.map Dt.int).length : Nat) : Int)]]).length := ⟨_, rfl⟩
  obtain ⟨s1, hs1⟩ : ∃ s1, s1 = st ++ [SO.rw ((cutF ns).map .int)] ++ [SO.rw [Dt.int (((ns.map Dt.int).length : Nat) : Int)]] ++ [SO.rw (some_.map .int)] := ⟨_, rfl⟩
  have x1 : ExtS st s1 := by rw [hs1]; exact ((ExtS.app _ _).trans (.app _ _)).trans (.app _ _)
  have g1 : s1[so]? = some (.rw (some_.map .int)) := by rw [hs1, hso]; exact get_new
  have hl1 : st.length ≤ s1.length := by rw [hs1]; simp
  rw [← hso, ← hs1]
  have hsl : some_.length ≤ 64 := by omega
  have hsp : 0 < some_.length := by omega
  show pt1 (Ed Pd) [some (.lst sc), some (.int z), some (.lst so), none, none, none] s1
  refine ⟨Nat.zero_le _, by omega, by omega, ?_⟩
  refine ⟨fun i ρ s' => (∃ a4 a5, ρ = [some (.lst sc), some (.int z), some (.lst so), some (.lst s1.length), a4, a5]) ∧ ExtS s1 s' ∧ s'[s1.length]? = some (.rw (((List.range i).map (cellF some_ z)).map .int)), ?_, fun _ _ _ _ _ => trivial, ?_, ?_⟩
  · exact ⟨⟨_, _, rfl⟩, .app _ _, get_new⟩
  · rintro i d ρ s' hd ⟨⟨a4, a5, rfl⟩, ext, gs⟩
    obtain ⟨hi, rfl⟩ := range_get hd
    rw [Int.zero_add]
    have hS : HasI s' so some_ := ⟨_, ext _ _ g1, rfl⟩
    simp only [gname, tseq, tasg, tcall, tacons, tanil, tbin, tvar, tcon, L3.rAdd, List.getElem?_cons_zero, List.getElem?_cons_succ, List.set_cons_zero, List.set_cons_succ]
    refine lenIL hS ?_
    refine ⟨by omega, ?_⟩
    have hmod : 0 ≤ ((i : Int) + 1) % (some_.length : Nat) ∧ ((i : Int) + 1) % (some_.length : Nat) < (some_.length : Nat) := ⟨Int.emod_nonneg _ (by omega), Int.emod_lt_of_pos _ (by omega)⟩
    obtain ⟨q, hq⟩ : ∃ q : Nat, ((i : Int) + 1) % (some_.length : Nat) = (q : Int) := ⟨(((i : Int) + 1) % (some_.length : Nat)).toNat, by omega⟩
    rw [hq]
    refine ixIL hS (by omega) ?_
    refine lenIL hS ?_
    refine ⟨cdiv (by omega) (by omega), ?_⟩
    have hdv : 0 ≤ (i : Int) / (some_.length : Nat) := Int.ediv_nonneg (by omega) (by omega)
    have hdv2 : (i : Int) / (some_.length : Nat) ≤ (i : Int) := Int.ediv_le_self _ (by omega)
    refine ⟨cdiv (by omega) (by omega), ?_⟩
    have er : some_.getD q 0 / (1 + (i : Int) / (some_.length : Nat)) = rawF some_ i := by
      unfold rawF
      rw [hq, Int.toNat_natCast]
    rw [er]
    refine prog_body z0 z1 hS hsp gs (by rw [List.length_map, List.length_range]; omega) fun s2 k2 g2 => ?_
    refine ⟨⟨_, _, rfl⟩, fun j o q => k2 j o (by have := lt_of_get q; omega) (ext j o q), ?_⟩
    rw [g2, List.range_succ, List.map_append (f := cellF some_ z)]
    rfl
  · rintro ρ s' ⟨⟨a4, a5, rfl⟩, ext, gs⟩
    have hnl : (rangeD 0 z.toNat).length = z.toNat := by simp [rangeD]
    rw [hnl, hsm] at gs
    exact hP _ s' (x1.trans ext) hl1 gs
noncomputable abbrev t__law_begun : TSD := (tseq (tasg (tbin rIxD (tbin rAddR (tvar 0) (tlst (tacons (tcon (Dt.int 7)) tanil))) (tcon (Dt.int 0))) (gname 1)) (tseq (tasg (tbin rMul (tcon (Dt.int 8)) (tbin rIxD (tlst (tacons (tbin L3.rAdd (tcon (Dt.int 1)) (tbin rMod (tbin rDiv (tvar 1) (tcon (Dt.int 4))) (tcon (Dt.int 4)))) (tacons (tbin L3.rAdd (tcon (Dt.int 1)) (tbin rMod (tbin rDiv (tvar 1) (tcon (Dt.int 4))) (tcon (Dt.int 16)))) tanil))) (tbin rMod (tbin rDiv (tvar 1) (tcon (Dt.int 64))) (tcon (Dt.int 2))))) (gname 2)) (tseq (tasg (tcall spProgram (tacons (tvar 0) (tacons (tvar 2) tanil))) (gname 3)) (tseq (tasg (tlst tanil) (gname 4)) (tseq (tfor (irng1 (tbin rDiv (tvar 2) (tcon (Dt.int 8)))) (gname 5) (tseq (tdrop (tappend (tvar 4) (tbin rIxD (tlst (tacons (tcon (Dt.int 7)) (tacons (tbin rMod (tcall spSpunF (tacons (tvar 1) (tacons (tbin L3.rAdd (tcon (Dt.int 200)) (tvar 5)) tanil))) (tcon (Dt.int 8))) (tacons (tcon (Dt.int 7)) tanil)))) (tbin rMod (tbin rDiv (tvar 1) (tcon (Dt.int 128))) (tcon (Dt.int 3)))))) tnext)) (tseq (tasg (tcomp (irng1 (tcon (Dt.int 8))) (fun x st P => P true st) (tbin rMod (tcall spSpunF (tacons (tvar 1) (tacons (tbin L3.rAdd (tcon (Dt.int 400)) (tvar 0)) tanil))) (tbin rIxD (tlst (tacons (tvar 2) (tacons (tcon (Dt.int 65536)) (tacons (tcon (Dt.int 8)) tanil)))) (tbin rMod (tbin rDiv (tvar 1) (tcon (Dt.int 384))) (tcon (Dt.int 3))))) [(1, "first"), (2, "size")]) (gname 6)) (tseq (tasg (tbin rIxD (tlst (tacons (tcon Dt.non) (tacons (ttup (tacons (tbin rMod (tcall spSpunF (tacons (tvar 1) (tacons (tcon (Dt.int 5)) tanil))) (tvar 2)) (tacons (ttup (tacons (tcon (Dt.bl true)) (tacons (tcon (Dt.bl false)) (tacons (tcon (Dt.bl true)) tanil)))) tanil))) tanil))) (tcall rIntB (tacons (tbin (rEqD false) (tbin rMod (tcall spSpunF (tacons (tvar 1) (tacons (tcon (Dt.int 6)) tanil))) (tcon (Dt.int 4))) (tcon (Dt.int 1))) tanil))) (gname 7)) (tseq (tasg (tbin rMul (tbin rMod (tcall spSpunF (tacons (tvar 1) (tacons (tcon (Dt.int 7)) tanil))) (tvar 2)) (tcall rIntB (tacons (tbin (rEqD false) (tbin rMod (tcall spSpunF (tacons (tvar 1) (tacons (tcon (Dt.int 8)) tanil))) (tcon (Dt.int 3))) (tcon (Dt.int 1))) tanil))) (gname 8)) (tseq (tret (tlst (tacons (tvar 8) (tacons (tvar 6) (tacons (tlst (tacons (tcon (Dt.bl false)) (tacons (tcon (Dt.bl true)) (tacons (tcon (Dt.bl false)) tanil)))) (tacons (tvar 7) (tacons (tvar 4) (tacons (tvar 3) tanil)))))))) tnext)))))))))
noncomputable def bt8 : TSD := (tseq (tret (tlst (tacons (tvar 8) (tacons (tvar 6) (tacons (tlst (tacons (tcon (Dt.bl false)) (tacons (tcon (Dt.bl true)) (tacons (tcon (Dt.bl false)) tanil)))) (tacons (tvar 7) (tacons (tvar 4) (tacons (tvar 3) tanil)))))))) tnext)
noncomputable def bt6 : TSD := (tseq (tasg (tbin rIxD (tlst (tacons (tcon Dt.non) (tacons (ttup (tacons (tbin rMod (tcall spSpunF (tacons (tvar 1) (tacons (tcon (Dt.int 5)) tanil))) (tvar 2)) (tacons (ttup (tacons (tcon (Dt.bl true)) (tacons (tcon (Dt.bl false)) (tacons (tcon (Dt.bl true)) tanil)))) tanil))) tanil))) (tcall rIntB (tacons (tbin (rEqD false) (tbin rMod (tcall spSpunF (tacons (tvar 1) (tacons (tcon (Dt.int 6)) tanil))) (tcon (Dt.int 4))) (tcon (Dt.int 1))) tanil))) (gname 7)) (tseq (tasg (tbin rMul (tbin rMod (tcall spSpunF (tacons (tvar 1) (tacons (tcon (Dt.int 7)) tanil))) (tvar 2)) (tcall rIntB (tacons (tbin (rEqD false) (tbin rMod (tcall spSpunF (tacons (tvar 1) (tacons (tcon (Dt.int 8)) tanil))) (tcon (Dt.int 3))) (tcon (Dt.int 1))) tanil))) (gname 8)) bt8))
noncomputable def bt5 : TSD := (tseq (tasg (tcomp (irng1 (tcon (Dt.int 8))) (fun x st P => P true st) (tbin rMod (tcall spSpunF (tacons (tvar 1) (tacons (tbin L3.rAdd (tcon (Dt.int 400)) (tvar 0)) tanil))) (tbin rIxD (tlst (tacons (tvar 2) (tacons (tcon (Dt.int 65536)) (tacons (tcon (Dt.int 8)) tanil)))) (tbin rMod (tbin rDiv (tvar 1) (tcon (Dt.int 384))) (tcon (Dt.int 3))))) [(1, "first"), (2, "size")]) (gname 6)) bt6)
noncomputable def bt2 : TSD := (tseq (tasg (tcall spProgram (tacons (tvar 0) (tacons (tvar 2) tanil))) (gname 3)) (tseq (tasg (tlst tanil) (gname 4)) (tseq (tfor (irng1 (tbin rDiv (tvar 2) (tcon (Dt.int 8)))) (gname 5) (tseq (tdrop (tappend (tvar 4) (tbin rIxD (tlst (tacons (tcon (Dt.int 7)) (tacons (tbin rMod (tcall spSpunF (tacons (tvar 1) (tacons (tbin L3.rAdd (tcon (Dt.int 200)) (tvar 5)) tanil))) (tcon (Dt.int 8))) (tacons (tcon (Dt.int 7)) tanil)))) (tbin rMod (tbin rDiv (tvar 1) (tcon (Dt.int 128))) (tcon (Dt.int 3)))))) tnext)) bt5)))
noncomputable def bt1 : TSD := (tseq (tasg (tbin rMul (tcon (Dt.int 8)) (tbin rIxD (tlst (tacons (tbin L3.rAdd (tcon (Dt.int 1)) (tbin rMod (tbin rDiv (tvar 1) (tcon (Dt.int 4))) (tcon (Dt.int 4)))) (tacons (tbin L3.rAdd (tcon (Dt.int 1)) (tbin rMod (tbin rDiv (tvar 1) (tcon (Dt.int 4))) (tcon (Dt.int 16)))) tanil))) (tbin rMod (tbin rDiv (tvar 1) (tcon (Dt.int 64))) (tcon (Dt.int 2))))) (gname 2)) bt2)
theorem begun6 {Pd : VD} {st s1 : Sto} {sc ce ri bo : Nat} {f z : Int} {cs : List Int} {a5 : Option Dt} (z0 : 8 ≤ z) (z1 : z ≤ 128) (gc : s1[ce]? = some (.rw (cs.map .int))) (gr : s1[ri]? = some (.rw (((List.range (z / 8).toNat).map (rightF f)).map .int))) (gb : s1[bo]? = some (.rw (((List.range 8).map (boxF f z)).map .int))) (e1 : ExtS st s1) (h1 : st.length ≤ ce) (h2 : ce < ri) (h3 : ri < bo)
    (hP : ∀ (M B K R C : Nat) st', Mach st' M B K R C (begG f z cs) → (st.length ≤ M ∧ st.length ≤ B ∧ st.length ≤ R ∧ st.length ≤ C) → ExtS st st' → Pd (.lst M) st') :
    bt6 (Ed Pd) [some (.lst sc), some (.int f), some (.int z), some (.lst ce), some (.lst ri), a5, some (.lst bo), none, none] s1 := by
  have l1 : bo < s1.length := lt_of_get gb
  simp only [bt6, tseq, tasg, tlst, ttup, tacons, tanil, tbin, tcall, tvar, tcon, gname, List.getElem?_cons_zero, List.getElem?_cons_succ, List.set_cons_zero, List.set_cons_succ]
  refine ⟨f, 5, rfl, ?_⟩
  refine ⟨by omega, by show 3 ≤ sizeLine; decide, by show 2 ≤ sizeLine; decide, by show 2 ≤ sizeLine; decide, ?_⟩
  refine ⟨f, 6, rfl, ?_⟩
  refine ⟨by decide, eqi ?_⟩
  refine intB (v := if decide (spunF f 6 % 4 = 1) != false then 1 else 0) rfl ?_
  have ha : atI [Dt.non, .tup [.int (spunF f 5 % z), .tup [.bl true, .bl false, .bl true]]] (if decide (spunF f 6 % 4 = 1) != false then 1 else 0) = some (svD (savF f z)) := by
    unfold savF
    by_cases hc : spunF f 6 % 4 = 1
    · rw [if_pos hc, decide_eq_true hc]; rfl
    · rw [if_neg hc, decide_eq_false hc]; rfl
  refine pickAt get_new ha ?_
  obtain ⟨s2, hs2⟩ : ∃ s2, s2 = s1 ++ [SO.rw [Dt.non, .tup [.int (spunF f 5 % z), .tup [.bl true, .bl false, .bl true]]]] := ⟨_, rfl⟩
  have x2 : ExtS s1 s2 := by rw [hs2]; exact .app _ _
  have l2 : s1.length ≤ s2.length := by rw [hs2]; simp
  refine ⟨f, 7, rfl, ?_⟩
  refine ⟨by omega, ?_⟩
  refine ⟨f, 8, rfl, ?_⟩
  refine ⟨by decide, eqi ?_⟩
  refine intB (v := if decide (spunF f 8 % 3 = 1) != false then 1 else 0) rfl ?_
  refine ⟨cmul_r (by split <;> decide) (by split <;> decide), ?_⟩
  show bt8 (Ed Pd) [some (.lst sc), some (.int f), some (.int z), some (.lst ce), some (.lst ri), a5, some (.lst bo), some (svD (savF f z)), some (.int (plaF f z))] (s1 ++ [SO.rw [Dt.non, .tup [.int (spunF f 5 % z), .tup [.bl true, .bl false, .bl true]]]])
  rw [← hs2]
  refine ⟨by show 3 ≤ sizeLine; decide, by show 6 ≤ sizeLine; decide, ?_⟩
  refine hP _ _ _ _ _ _ ⟨get_new, get_app (get_app (x2 _ _ gb)), get_app ?_, get_app (get_app (x2 _ _ gr)), get_app (get_app (x2 _ _ gc)), ?_⟩ ?_ ((e1.trans x2).trans ((ExtS.app _ _).trans (.app _ _)))
  · exact get_new
  · simp only [List.length_append, List.length_cons, List.length_nil]
    omega
  · simp only [List.length_append, List.length_cons, List.length_nil]
    have : st.length ≤ s1.length := by omega
    omega
theorem begun5 {Pd : VD} {st s1 : Sto} {sc ce ri : Nat} {f z : Int} {cs : List Int} {a5 : Option Dt} (z0 : 8 ≤ z) (z1 : z ≤ 128) (gc : s1[ce]? = some (.rw (cs.map .int))) (gr : s1[ri]? = some (.rw (((List.range (z / 8).toNat).map (rightF f)).map .int))) (e1 : ExtS st s1) (h1 : st.length ≤ ce) (h2 : ce < ri)
    (hP : ∀ (M B K R C : Nat) st', Mach st' M B K R C (begG f z cs) → (st.length ≤ M ∧ st.length ≤ B ∧ st.length ≤ R ∧ st.length ≤ C) → ExtS st st' → Pd (.lst M) st') :
    bt5 (Ed Pd) [some (.lst sc), some (.int f), some (.int z), some (.lst ce), some (.lst ri), a5, none, none, none] s1 := by
  refine ⟨by decide, by decide, ?_⟩
  refine ⟨fun j ys s' => ys = ((List.range j).map (boxF f z)).map .int ∧ ExtS s1 s', ⟨rfl, .refl _⟩, fun _ _ _ _ _ => trivial, ?_, ?_⟩
  · rintro j d ys s' hd ⟨rfl, ext⟩
    obtain ⟨hj, rfl⟩ := range_get hd
    have hj : j < 8 := hj
    rw [Int.zero_add]
    refine ⟨by rw [List.length_map, List.length_map, List.length_range]; exact small (by omega), iteT ?_⟩
    refine ⟨f, _, rfl, ?_⟩
    refine ⟨by show 3 ≤ sizeLine; decide, cdiv (by decide) (by decide), by decide, ?_⟩
    refine ixX (xs := [z, 65536, 8]) get_new (Int.emod_nonneg _ (by decide)) (Int.emod_lt_of_pos _ (by show (0 : Int) < 3; decide)) ?_
    refine ⟨(mod_ok z0 z1).1, ?_, ext.trans (.app _ _)⟩
    rw [List.range_succ, List.map_append (f := boxF f z), List.map_append]
    rfl
  · rintro ys s' ⟨rfl, ext⟩
    have l1 : ri < s'.length := lt_of_get (ext _ _ gr)
    exact begun6 z0 z1 (get_app (ext _ _ gc)) (get_app (ext _ _ gr)) get_new ((e1.trans ext).trans (.app _ _)) h1 h2 l1 hP
theorem rd__law_begun {ds : List Dt} {st : Sto} {Pd : VD} (h : spBegun ds st Pd) : t__law_begun (Ed Pd) (startD ["script", "first", "size", "cells", "rights", "k", "boxes", "saved", "place"] ds) st := by
  obtain ⟨sc, ns, rfl, ⟨o, ho, hns⟩, hnl, hP⟩ := h
  show t__law_begun (Ed Pd) [some (.lst sc), none, none, none, none, none, none, none, none] st
  simp only [t__law_begun, tseq, tasg, tbin, tvar, tcon, tlst, tacons, tanil, rAddR, List.getElem?_cons_zero, List.getElem?_cons_succ]
  refine ⟨by show 1 ≤ sizeLine; decide, ?_⟩
  rw [get_app ho, get_new]
  refine ⟨by show o.items.length + 1 ≤ sizeLine; rw [hns, List.length_map]; exact Nat.le_of_lt (small (by omega)), ?_⟩
  have eo : o.items ++ [Dt.int 7] = (ns ++ [7]).map .int := by rw [hns, List.map_append]; rfl
  show rIxD (.lst _) (.int 0) (st ++ [SO.rw [Dt.int 7]] ++ [SO.rw (o.items ++ [Dt.int 7])]) _
  rw [eo]
  refine ixX (xs := ns ++ [7]) get_new (Int.le_refl 0) (by rw [List.length_append]; show (0 : Int) < ((ns.length + 1 : Nat) : Int); omega) ?_
  obtain ⟨s1, hs1⟩ : ∃ s1, s1 = st ++ [SO.rw [Dt.int 7]] ++ [SO.rw ((ns ++ [7]).map .int)] := ⟨_, rfl⟩
  have x1 : ExtS st s1 := by rw [hs1]; exact (ExtS.app _ _).trans (.app _ _)
  have hl1 : st.length ≤ s1.length := by rw [hs1]; simp
  have hP : ∀ (M B K R C : Nat) st', Mach st' M B K R C (begG (firstF ns) (8 * pagesF (firstF ns)) (progF ns (8 * pagesF (firstF ns)))) → (st.length ≤ M ∧ st.length ≤ B ∧ st.length ≤ R ∧ st.length ≤ C) → ExtS st st' → Pd (.lst M) st' := hP
  show bt1 (Ed Pd) [some (.lst sc), some (.int (firstF ns)), none, none, none, none, none, none, none] (st ++ [SO.rw [Dt.int 7]] ++ [SO.rw ((ns ++ [7]).map .int)])
  rw [← hs1]
  generalize firstF ns = f at hP ⊢
  have hpg := pages_ok f
  refine ⟨cdiv (by decide) (by decide), by decide, cdiv (by decide) (by decide), by decide, by show 2 ≤ sizeLine; decide, cdiv (by decide) (by decide), by decide, ?_⟩
  refine ixX (xs := [1 + f / 4 % 4, 1 + f / 4 % 16]) get_new (Int.emod_nonneg _ (by decide)) (Int.emod_lt_of_pos _ (by show (0 : Int) < 2; decide)) ?_
  refine ⟨cmul_l (by decide) (by decide), ?_⟩
  have x2 := x1.trans (.app s1 (SO.rw [Dt.int (1 + f / 4 % 4), .int (1 + f / 4 % 16)]))
  obtain ⟨z, hz⟩ : ∃ z, z = 8 * pagesF f := ⟨_, rfl⟩
  rw [← hz] at hP
  show bt2 (Ed Pd) [some (.lst sc), some (.int f), some (.int (8 * pagesF f)), none, none, none, none, none, none] (s1 ++ [SO.rw [Dt.int (1 + f / 4 % 4), .int (1 + f / 4 % 16)]])
  rw [← hz]
  have z0 : 8 ≤ z := by omega
  have z1 : z ≤ 128 := by omega
  refine ⟨sc, z, ns, rfl, ⟨o, x2 _ _ ho, hns⟩, hnl, z0, z1, fun ce s2 e2 hce gc => ?_⟩
  have hce2 : st.length ≤ ce := by
    have : (s1 ++ [SO.rw [Dt.int (1 + f / 4 % 4), .int (1 + f / 4 % 16)]]).length ≤ ce := hce
    rw [List.length_append] at this
    omega
  refine ⟨Nat.zero_le _, cdiv (by decide) (by decide), by omega, by omega, ?_⟩
  refine ⟨fun i ρ s' => (∃ a5, ρ = [some (.lst sc), some (.int f), some (.int z), some (.lst ce), some (.lst s2.length), a5, none, none, none]) ∧ ExtS s2 s' ∧ s'[s2.length]? = some (.rw (((List.range i).map (rightF f)).map .int)), ?_, fun _ _ _ _ _ => trivial, ?_, ?_⟩
  · exact ⟨⟨_, rfl⟩, .app _ _, get_new⟩
  · rintro i d ρ s' hd ⟨⟨a5, rfl⟩, ext, gs⟩
    obtain ⟨hi, rfl⟩ := range_get hd
    rw [Int.zero_add]
    refine ⟨f, _, rfl, ?_⟩
    refine ⟨by decide, by show 3 ≤ sizeLine; decide, cdiv (by decide) (by decide), by decide, ?_⟩
    refine ixX (xs := [7, spunF f (200 + (i : Int)) % 8, 7]) get_new (Int.emod_nonneg _ (by decide)) (Int.emod_lt_of_pos _ (by show (0 : Int) < 3; decide)) ?_
    have g2 := get_app (x := SO.rw [Dt.int 7, .int (spunF f (200 + (i : Int)) % 8), .int 7]) gs
    show (match (s' ++ [SO.rw [Dt.int 7, .int (spunF f (200 + (i : Int)) % 8), .int 7]])[s2.length]? with | some (.rw xs) => _ | _ => _)
    rw [g2]
    refine ⟨by rw [List.length_map, List.length_map, List.length_range]; exact small (by omega), ⟨_, rfl⟩, fun j o q => get_set_ne (get_app (ext j o q)) (by have := lt_of_get q; omega), ?_⟩
    rw [get_set_self g2, List.range_succ, List.map_append (f := rightF f), List.map_append]
    rfl
  · rintro ρ s' ⟨⟨a5, rfl⟩, ext, gs⟩
    have hnl : (rangeD 0 (z / 8).toNat).length = (z / 8).toNat := by simp [rangeD]
    rw [hnl] at gs
    exact begun5 z0 z1 (ext _ _ gc) gs ((x2.trans e2).trans ext) hce2 (lt_of_get gc) hP
end K10
namespace K10
open PySem PySem.Spec PyProof.Rows L2 L3 KS K06 K17 KR
noncomputable abbrev t__law_bells : TSD := (tseq (tasg (tlst tanil) (gname 2)) (tseq (tasg (tneg (tcon (Dt.int 1))) (gname 3)) (tseq (tfor (irng1 (tvar 1)) (gname 4) (tseq (tasg (tcall spSpunF (tacons (tvar 0) (tacons (tbin L3.rAdd (tcon (Dt.int 600)) (tvar 4)) tanil))) (gname 5)) (tseq (tasg (tbin L3.rAdd (tbin L3.rAdd (tvar 3) (tcon (Dt.int 1))) (tbin rMod (tvar 5) (tbin rIxD (tlst (tacons (tcon (Dt.int 1)) (tacons (tcon (Dt.int 3)) (tacons (tcon (Dt.int 12)) (tacons (tcon (Dt.int 60)) tanil))))) (tbin rMod (tbin rDiv (tvar 0) (tcon (Dt.int 5))) (tcon (Dt.int 4)))))) (gname 3)) (tseq (tdrop (tappend (tvar 2) (tvar 3))) tnext)))) (tseq (tret (tvar 2)) tnext))))
noncomputable abbrev t__law_asked : TSD := (tseq (tasg (tcomp (irng1 (tbin rMod (tcall spSpunF (tacons (tvar 1) (tacons (tcon (Dt.int 9)) tanil))) (tcon (Dt.int 61)))) (fun x st P => P true st) (tbin rMod (tcall spSpunF (tacons (tvar 1) (tacons (tbin L3.rAdd (tcon (Dt.int 700)) (tvar 0)) tanil))) (tbin rIxD (tlst (tacons (tcon (Dt.int 65536)) (tacons (tcon (Dt.int 8)) tanil))) (tbin rMod (tvar 1) (tcon (Dt.int 2))))) [(1, "first")]) (gname 2)) (tseq (tasg (tcall spBellsL (tacons (tvar 1) (tacons (tbin rIxD (tlst (tacons (tcon (Dt.int 0)) (tacons (tcon (Dt.int 1)) (tacons (tbin rMod (tcall spSpunF (tacons (tvar 1) (tacons (tcon (Dt.int 10)) tanil))) (tcon (Dt.int 61))) tanil)))) (tbin rMod (tcall spSpunF (tacons (tvar 1) (tacons (tcon (Dt.int 11)) tanil))) (tcon (Dt.int 3)))) tanil))) (gname 3)) (tseq (tasg (tcall spBegun (tacons (tvar 0) tanil)) (gname 4)) (tseq (tasg (tbin rMod (tcall spSpunF (tacons (tvar 1) (tacons (tcon (Dt.int 12)) tanil))) (tcall rLen (tacons (tbin rIxD (tvar 4) (tcon (Dt.int 5))) tanil))) (gname 5)) (tseq (tifS (tbool (tbin (rEqD false) (tbin rMod (tcall spSpunF (tacons (tvar 1) (tacons (tcon (Dt.int 14)) tanil))) (tcon (Dt.int 16))) (tcon (Dt.int 1)))) (tseq (tasg (tbin rMod (tcall spSpunF (tacons (tvar 1) (tacons (tcon (Dt.int 13)) tanil))) (tcon (Dt.int 65536))) (gname 5)) tnext) tnext) (tseq (tasg (tbin rIxD (tlst (tacons (tbin rMod (tcall spSpunF (tacons (tvar 1) (tacons (tcon (Dt.int 15)) tanil))) (tcon (Dt.int 20))) (tacons (tbin rMod (tcall spSpunF (tacons (tvar 1) (tacons (tcon (Dt.int 15)) tanil))) (tcon (Dt.int 401))) (tacons (tcon (Dt.int 400)) tanil)))) (tbin rMod (tcall spSpunF (tacons (tvar 1) (tacons (tcon (Dt.int 16)) tanil))) (tcon (Dt.int 3)))) (gname 6)) (tseq (tifS (tbool (tbin (rEqD false) (tbin rMod (tcall spSpunF (tacons (tvar 1) (tacons (tcon (Dt.int 17)) tanil))) (tcon (Dt.int 16))) (tcon (Dt.int 1)))) (tseq (tasg (tbin L3.rSub (tcon (Dt.int 1000)) (tbin rMod (tvar 1) (tcon (Dt.int 2)))) (gname 6)) tnext) tnext) (tseq (tret (tlst (tacons (tvar 2) (tacons (tvar 3) (tacons (tvar 5) (tacons (tvar 6) tanil)))))) tnext))))))))
noncomputable abbrev t__law_kinds : TSD := (tseq (tifS (torB (tnotB (tbool (tcall rIsInst (tacons (tvar 0) (tacons (tcon (Dt.ty "tuple")) tanil))))) (torB (tbool (tbin (rEqD true) (tcall rLen (tacons (tvar 0) tanil)) (tcon (Dt.int 6)))) (tnotB (tbool (tcall rIsInst (tacons (tbin rIxD (tvar 0) (tcon (Dt.int 0))) (tacons (tcon (Dt.ty "str")) tanil))))))) (tseq (tret (tcon (Dt.bl false))) tnext) tnext) (tseq (tifS (torB (tnotB (tbool (tcall rIsInst (tacons (tbin rIxD (tvar 0) (tcon (Dt.int 2))) (tacons (tcon (Dt.ty "tuple")) tanil))))) (tbool (tbin (rCmpI fun i j => decide (j < i)) (tcall rLen (tacons (tcomp (iseq (tbin rIxD (tvar 0) (tcon (Dt.int 2)))) (tbool (tcall rIsInst (tacons (tvar 0) (tacons (tcon (Dt.ty "bool")) tanil)))) (tvar 0) []) tanil)) (tcon (Dt.int 0))))) (tseq (tret (tcon (Dt.bl false))) tnext) tnext) (tseq (tret (tbin (rEqD false) (tcall rLen (tacons (tcomp (iseq (tsliceA (tvar 0) (tosome (tcon (Dt.int 3))) tonone)) (torB (tnotB (tbool (tcall rIsInst (tacons (tvar 0) (tacons (tcon (Dt.ty "int")) tanil))))) (tbool (tcall rIsInst (tacons (tvar 0) (tacons (tcon (Dt.ty "bool")) tanil))))) (tvar 0) []) tanil)) (tcon (Dt.int 0)))) tnext)))
theorem rd__law_bells {ds : List Dt} {st : Sto} {Pd : VD} (h : spBellsL ds st Pd) : t__law_bells (Ed Pd) (startD ["first", "many", "bells", "at", "k", "one"] ds) st := by
  obtain ⟨f, m, rfl, m1, hP⟩ := h
  refine ⟨Nat.zero_le _, by omega, by omega, ?_⟩
  rw [Int.toNat_natCast]
  refine ⟨fun i ρ s' => (∃ (at_ : Int) (a4 a5 : Option Dt), ρ = [some (.int f), some (.int m), some (.lst st.length), some (.int at_), a4, a5]) ∧ ExtS st s' ∧ ∃ bells : List Int, s'[st.length]? = some (.rw (bells.map .int)) ∧ bells.length = i, ?_, fun _ _ _ _ _ => trivial, ?_, ?_⟩
  · exact ⟨⟨_, _, _, rfl⟩, .app _ _, [], get_new, rfl⟩
  · rintro i d ρ s' hd ⟨⟨at_, a4, a5, rfl⟩, ext, bells, gs, hl⟩
    obtain ⟨hi, rfl⟩ := range_get hd
    refine ⟨f, _, rfl, ?_⟩
    generalize spunF f _ = v
    refine ⟨by show 4 ≤ sizeLine; decide, cdiv (by decide) (by decide), by decide, ?_⟩
    refine pick get_new (Int.emod_nonneg _ (by decide)) (Int.emod_lt_of_pos _ (by show (0 : Int) < 4; decide)) fun d hd => ?_
    obtain ⟨k, rfl, k0⟩ : ∃ k : Int, d = .int k ∧ 0 < k := by
      simp only [List.mem_cons, List.not_mem_nil, or_false] at hd
      rcases hd with rfl | rfl | rfl | rfl <;> exact ⟨_, rfl, by decide⟩
    refine ⟨k0, ?_⟩
    have g2 := get_app (x := SO.rw [Dt.int 1, .int 3, .int 12, .int 60]) gs
    show (match (s' ++ [SO.rw [Dt.int 1, .int 3, .int 12, .int 60]])[st.length]? with | some (.rw xs) => _ | _ => _)
    rw [g2]
    refine ⟨by rw [List.length_map]; exact small (by omega), ⟨_, _, _, rfl⟩, fun j o q => get_set_ne (get_app (ext j o q)) (by have := lt_of_get q; omega), bells ++ [at_ + 1 + v % k], by rw [get_set_self g2, List.map_append]; rfl, by simp [hl]⟩
  · rintro ρ s' ⟨⟨at_, a4, a5, rfl⟩, ext, bells, gs, hl⟩
    have hnl : (rangeD 0 m).length = m := by simp [rangeD]
    rw [hnl] at hl
    exact hP bells _ s' (by omega) ext (Nat.le_refl _) gs
noncomputable def at7 : TSD := (tseq (tret (tlst (tacons (tvar 2) (tacons (tvar 3) (tacons (tvar 5) (tacons (tvar 6) tanil)))))) tnext)
noncomputable def at6 : TSD := (tseq (tifS (tbool (tbin (rEqD false) (tbin rMod (tcall spSpunF (tacons (tvar 1) (tacons (tcon (Dt.int 17)) tanil))) (tcon (Dt.int 16))) (tcon (Dt.int 1)))) (tseq (tasg (tbin L3.rSub (tcon (Dt.int 1000)) (tbin rMod (tvar 1) (tcon (Dt.int 2)))) (gname 6)) tnext) tnext) at7)
noncomputable def at5 : TSD := (tseq (tasg (tbin rIxD (tlst (tacons (tbin rMod (tcall spSpunF (tacons (tvar 1) (tacons (tcon (Dt.int 15)) tanil))) (tcon (Dt.int 20))) (tacons (tbin rMod (tcall spSpunF (tacons (tvar 1) (tacons (tcon (Dt.int 15)) tanil))) (tcon (Dt.int 401))) (tacons (tcon (Dt.int 400)) tanil)))) (tbin rMod (tcall spSpunF (tacons (tvar 1) (tacons (tcon (Dt.int 16)) tanil))) (tcon (Dt.int 3)))) (gname 6)) at6)
noncomputable def at4 : TSD := (tseq (tifS (tbool (tbin (rEqD false) (tbin rMod (tcall spSpunF (tacons (tvar 1) (tacons (tcon (Dt.int 14)) tanil))) (tcon (Dt.int 16))) (tcon (Dt.int 1)))) (tseq (tasg (tbin rMod (tcall spSpunF (tacons (tvar 1) (tacons (tcon (Dt.int 13)) tanil))) (tcon (Dt.int 65536))) (gname 5)) tnext) tnext) at5)
noncomputable def at3 : TSD := (tseq (tasg (tbin rMod (tcall spSpunF (tacons (tvar 1) (tacons (tcon (Dt.int 12)) tanil))) (tcall rLen (tacons (tbin rIxD (tvar 4) (tcon (Dt.int 5))) tanil))) (gname 5)) at4)
noncomputable def at2 : TSD := (tseq (tasg (tcall spBegun (tacons (tvar 0) tanil)) (gname 4)) at3)
noncomputable def at1 : TSD := (tseq (tasg (tcall spBellsL (tacons (tvar 1) (tacons (tbin rIxD (tlst (tacons (tcon (Dt.int 0)) (tacons (tcon (Dt.int 1)) (tacons (tbin rMod (tcall spSpunF (tacons (tvar 1) (tacons (tcon (Dt.int 10)) tanil))) (tcon (Dt.int 61))) tanil)))) (tbin rMod (tcall spSpunF (tacons (tvar 1) (tacons (tcon (Dt.int 11)) tanil))) (tcon (Dt.int 3)))) tanil))) (gname 3)) at2)
section
variable {Pd : VD} {st s1 : Sto} {sc gi be M : Nat} {f : Int} {given bells : List Int}
noncomputable def AskP (Pd : VD) (st : Sto) : Prop := ∀ (q gi be : Nat) (given bells : List Int) (ring : Int) (n : Nat) st', ExtS st st' → st'[q]? = some (.rw [.lst gi, .lst be, .int ring, .int n]) → st'[gi]? = some (.rw (given.map .int)) → st'[be]? = some (.rw (bells.map .int)) → (∀ x ∈ given, In16 x) → given.length ≤ 60 → bells.length ≤ 60 → 0 ≤ ring → n ≤ 1000 → Pd (.lst q) st'
structure AskS (st s1 : Sto) (gi be : Nat) (given bells : List Int) : Prop where
  e : ExtS st s1
  g : s1[gi]? = some (.rw (given.map .int))
  b : s1[be]? = some (.rw (bells.map .int))
  gb : ∀ x ∈ given, In16 x
  gl : given.length ≤ 60
  bl : bells.length ≤ 60
theorem AskS.on {s2 : Sto} (a : AskS st s1 gi be given bells) (e : ExtS s1 s2) : AskS st s2 gi be given bells := ⟨a.e.trans e, e _ _ a.g, e _ _ a.b, a.gb, a.gl, a.bl⟩
theorem ask6 {ring : Int} {n : Nat} (a : AskS st s1 gi be given bells) (r0 : 0 ≤ ring) (hn : n ≤ 1000) (hP : AskP Pd st) :
    at6 (Ed Pd) [some (.lst sc), some (.int f), some (.lst gi), some (.lst be), some (.lst M), some (.int ring), some (.int n)] s1 := by
  have last : ∀ n : Nat, n ≤ 1000 → at7 (Ed Pd) [some (.lst sc), some (.int f), some (.lst gi), some (.lst be), some (.lst M), some (.int ring), some (.int n)] s1 := by
    intro n hn
    refine ⟨by show 4 ≤ sizeLine; decide, ?_⟩
    have a2 := a.on (.app s1 (SO.rw [.lst gi, .lst be, .int ring, .int n]))
    exact hP _ gi be given bells ring n _ a2.e get_new a2.g a2.b a2.gb a2.gl a2.bl r0 hn
  simp only [at6, tseq, tifS, tbool, tbin, tcall, tacons, tanil, tvar, tcon, tasg, gname, L3.rSub, List.getElem?_cons_zero, List.getElem?_cons_succ, List.set_cons_zero, List.set_cons_succ]
  refine ⟨f, 17, rfl, ?_⟩
  refine ⟨by decide, eqi ?_⟩
  generalize (decide (spunF f 17 % 16 = 1) != false) = bb
  cases bb with
  | false => exact iteF (last n hn)
  | true =>
    refine iteT ?_
    refine ⟨by decide, ?_⟩
    have := last (1000 - f % 2).toNat (by omega)
    rw [Int.toNat_of_nonneg (by omega)] at this
    exact this
theorem ask5 {ring : Int} (a : AskS st s1 gi be given bells) (r0 : 0 ≤ ring) (hP : AskP Pd st) :
    at5 (Ed Pd) [some (.lst sc), some (.int f), some (.lst gi), some (.lst be), some (.lst M), some (.int ring), none] s1 := by
  simp only [at5, tseq, tasg, tlst, tbin, tcall, tacons, tanil, tvar, tcon, gname, List.getElem?_cons_zero, List.getElem?_cons_succ, List.set_cons_zero, List.set_cons_succ]
  refine ⟨f, 15, rfl, ?_⟩
  refine ⟨by decide, ?_⟩
  refine ⟨f, 15, rfl, ?_⟩
  refine ⟨by decide, by show 3 ≤ sizeLine; decide, ?_⟩
  refine ⟨f, 16, rfl, ?_⟩
  refine ⟨by decide, ?_⟩
  refine pick get_new (Int.emod_nonneg _ (by decide)) (Int.emod_lt_of_pos _ (by show (0 : Int) < 3; decide)) fun d hd => ?_
  obtain ⟨n, rfl, hn⟩ : ∃ n : Nat, d = .int n ∧ n ≤ 1000 := by
    simp only [List.mem_cons, List.not_mem_nil, or_false] at hd
    rcases hd with rfl | rfl | rfl
    · exact ⟨(spunF f 15 % 20).toNat, by rw [Int.toNat_of_nonneg (Int.emod_nonneg _ (by decide))], by omega⟩
    · exact ⟨(spunF f 15 % 401).toNat, by rw [Int.toNat_of_nonneg (Int.emod_nonneg _ (by decide))], by omega⟩
    · exact ⟨400, rfl, by decide⟩
  exact ask6 (a.on (.app _ _)) r0 hn hP
theorem ask4 {ring : Int} (a : AskS st s1 gi be given bells) (r0 : 0 ≤ ring) (hP : AskP Pd st) :
    at4 (Ed Pd) [some (.lst sc), some (.int f), some (.lst gi), some (.lst be), some (.lst M), some (.int ring), none] s1 := by
  simp only [at4, tseq, tifS, tbool, tasg, tbin, tcall, tacons, tanil, tvar, tcon, gname, List.getElem?_cons_zero, List.getElem?_cons_succ, List.set_cons_zero, List.set_cons_succ]
  refine ⟨f, 14, rfl, ?_⟩
  refine ⟨by decide, eqi ?_⟩
  generalize (decide (spunF f 14 % 16 = 1) != false) = bb
  cases bb with
  | false => exact iteF (ask5 a r0 hP)
  | true =>
    refine iteT ?_
    refine ⟨f, 13, rfl, ?_⟩
    refine ⟨by decide, ?_⟩
    exact ask5 a (Int.emod_nonneg _ (by decide)) hP
end
theorem rd__law_asked {ds : List Dt} {st : Sto} {Pd : VD} (h : spAsked ds st Pd) : t__law_asked (Ed Pd) (startD ["script", "first", "given", "bells", "machine", "ring", "most"] ds) st := by
  obtain ⟨sc, f, ns, rfl, hns, hnl, hP⟩ := h
  have hP : AskP Pd st := hP
  have hm0 := Int.emod_nonneg (spunF f 9) (show (61 : Int) ≠ 0 by decide)
  have hm1 := Int.emod_lt_of_pos (spunF f 9) (show (0 : Int) < 61 by decide)
  refine ⟨f, 9, rfl, ?_⟩
  refine ⟨by decide, by omega, by omega, ?_⟩
  refine ⟨fun j ys s' => (∃ given : List Int, ys = given.map .int ∧ given.length = j ∧ ∀ v ∈ given, In16 v) ∧ ExtS st s', ⟨⟨[], rfl, rfl, by simp⟩, .refl _⟩, fun _ _ _ _ _ => trivial, ?_, ?_⟩
  · rintro j d ys s' hd ⟨⟨given, rfl, hl, hb⟩, ext⟩
    obtain ⟨hj, rfl⟩ := range_get hd
    refine ⟨by rw [List.length_map]; exact small (by omega), iteT ?_⟩
    refine ⟨f, _, rfl, ?_⟩
    generalize spunF f _ = v
    refine ⟨by show 2 ≤ sizeLine; decide, by decide, ?_⟩
    refine pick get_new (Int.emod_nonneg _ (by decide)) (Int.emod_lt_of_pos _ (by show (0 : Int) < 2; decide)) fun d hd => ?_
    obtain ⟨m, rfl, m0, m1⟩ : ∃ m : Int, d = .int m ∧ 0 < m ∧ m ≤ 65536 := by
      simp only [List.mem_cons, List.not_mem_nil, or_false] at hd
      rcases hd with rfl | rfl <;> exact ⟨_, rfl, by decide, by decide⟩
    refine ⟨m0, ⟨given ++ [v % m], by rw [List.map_append]; rfl, by simp [hl], fun u hu => ?_⟩, ext.trans (.app _ _)⟩
    rcases List.mem_append.mp hu with q | q
    · exact hb u q
    · rw [List.mem_singleton.mp q]
      exact ⟨Int.emod_nonneg _ (by omega), Int.lt_of_lt_of_le (Int.emod_lt_of_pos _ m0) m1⟩
  · rintro ys s' ⟨⟨given, rfl, hl, hb⟩, ext⟩
    have hnl2 : (rangeD 0 (spunF f 9 % 61).toNat).length = (spunF f 9 % 61).toNat := by simp [rangeD]
    rw [hnl2] at hl
    show at1 (Ed Pd) [some (.lst sc), some (.int f), some (.lst s'.length), none, none, none, none] (s' ++ [.rw (given.map .int)])
    have hg1 : (s' ++ [SO.rw (given.map .int)])[s'.length]? = some (.rw (given.map .int)) := get_new
    have x1 := ext.trans (.app s' (.rw (given.map .int)))
    generalize s' ++ [SO.rw (given.map .int)] = s1 at hg1 x1 ⊢
    simp only [at1, tseq, tasg, tlst, tbin, tcall, tacons, tanil, tvar, tcon, gname, List.getElem?_cons_zero, List.getElem?_cons_succ, List.set_cons_zero, List.set_cons_succ]
    refine ⟨f, 10, rfl, ?_⟩
    refine ⟨by decide, by show 3 ≤ sizeLine; decide, ?_⟩
    refine ⟨f, 11, rfl, ?_⟩
    refine ⟨by decide, ?_⟩
    refine pick get_new (Int.emod_nonneg _ (by decide)) (Int.emod_lt_of_pos _ (by show (0 : Int) < 3; decide)) fun d hd => ?_
    obtain ⟨n, rfl, hn⟩ : ∃ n : Nat, d = .int n ∧ n ≤ 60 := by
      simp only [List.mem_cons, List.not_mem_nil, or_false] at hd
      rcases hd with rfl | rfl | rfl
      · exact ⟨0, rfl, by decide⟩
      · exact ⟨1, rfl, by decide⟩
      · exact ⟨(spunF f 10 % 61).toNat, by rw [Int.toNat_of_nonneg (Int.emod_nonneg _ (by decide))], by omega⟩
    refine ⟨f, n, rfl, hn, fun bells be s2 hbl e2 _ gb => ?_⟩
    have e12 := (ExtS.app s1 (SO.rw [Dt.int 0, .int 1, .int (spunF f 10 % 61)])).trans e2
    have a : AskS st s2 s'.length be given bells := ⟨x1.trans e12, e12 _ _ hg1, gb, hb, by omega, hbl⟩
    simp only [at2, at3, tseq, tasg, tbin, tcall, tacons, tanil, tvar, tcon, gname, List.getElem?_cons_zero, List.getElem?_cons_succ, List.set_cons_zero, List.set_cons_succ]
    refine ⟨sc, ns, rfl, hns.ext a.e, hnl, fun M B K R C s3 m _ e3 => ?_⟩
    refine ⟨f, 12, rfl, ?_⟩
    refine mx m (i := 5) (d := .lst C) rfl ?_
    refine lenX m.c ?_
    have h8 := (beg_ok ns).2
    refine ⟨by omega, ?_⟩
    exact ask4 (a.on e3) (Int.emod_nonneg _ (by omega)) hP
theorem no_len {st : Sto} {P : VD} (q : P (.int 0) (st ++ [.rw []])) : rLen [.lst st.length] (st ++ [.rw []]) P := by
  show (match seqOf (st ++ [.rw []]) (.lst st.length) with | some xs => _ | none => _)
  rw [show seqOf (st ++ [SO.rw []]) (.lst st.length) = some [] by show ((st ++ [SO.rw []])[st.length]?).map SO.items = _; rw [get_new]; rfl]
  exact q
theorem rd__law_kinds {ds : List Dt} {st : Sto} {Pd : VD} (h : spKindsL ds st Pd) : t__law_kinds (Ed Pd) (startD ["found"] ds) st := by
  obtain ⟨r, rfl, hP⟩ := h
  show t__law_kinds (Ed Pd) [some (resW r)] st
  simp only [t__law_kinds, tseq, tifS, torB, tnotB, tbool, tbin, tcall, tacons, tanil, tvar, tcon, tret, tcomp, iseq, tsliceA, tosome, tonone, List.getElem?_cons_zero, List.getElem?_cons_succ]
  refine ⟨.inr (.inr (.inr (.inl rfl))), ?_⟩
  refine iteF ?_
  refine ⟨rfl, rfl, iteF ?_⟩
  refine ⟨.inr (.inr (.inl rfl)), ?_⟩
  refine iteF ?_
  refine ⟨.inr (.inr (.inr (.inl rfl))), ?_⟩
  refine iteF ?_
  refine ⟨fun j ys s' => ys = [] ∧ s' = st, ⟨rfl, rfl⟩, fun _ _ _ _ _ => rfl, ?_, ?_⟩
  · rintro j d ys s' hd ⟨rfl, rfl⟩
    obtain ⟨x, _, rfl⟩ := get_int hd
    refine ⟨small (by decide), .inl rfl, ?_⟩
    exact iteF ⟨rfl, rfl⟩
  rintro ys s' ⟨rfl, rfl⟩
  simp only [tanil]
  refine no_len ?_
  simp only [tcon, rCmpI]
  refine KH.iteBF (decide_eq_false (show ¬ (0 : Int) < 0 by decide)) ?_
  simp only [tnext, tseq, tret, tbin, tcall, tacons, tanil, tvar, tcon, tcomp, iseq, tsliceA, tosome, tonone, torB, tnotB, tbool, List.getElem?_cons_zero, List.getElem?_cons_succ]
  refine ⟨fun j ys s2 => ys = [] ∧ s2 = s' ++ [.rw []], ⟨rfl, rfl⟩, fun _ _ _ _ _ => rfl, ?_, ?_⟩
  · rintro j d ys s2 hd ⟨rfl, rfl⟩
    obtain ⟨x, rfl⟩ : ∃ x : Int, d = .int x := by
      have hm : d ∈ [Dt.int (r.2.2 : Nat), .int (r.2.1.heard : Nat), .int (r.2.1.rung : Nat)] := List.mem_of_getElem? hd
      simp only [List.mem_cons, List.not_mem_nil, or_false] at hm
      rcases hm with rfl | rfl | rfl <;> exact ⟨_, rfl⟩
    refine ⟨small (by decide), .inr (.inl rfl), ?_⟩
    refine iteF ?_
    refine ⟨.inl rfl, ?_⟩
    exact iteF ⟨rfl, rfl⟩
  rintro ys s2 ⟨rfl, rfl⟩
  refine no_len ?_
  refine ⟨rfl, rfl, ?_⟩
  exact hP _ ((ExtS.app _ _).trans (.app _ _))
end K10
namespace K10
open PySem PySem.Spec PyProof.Rows L2 L3 KS K06 K17 KR
noncomputable abbrev t__law_due : TSD := (tseq (tasg (tlst tanil) (gname 5)) (tseq (tasg (tcon (Dt.int 0)) (gname 6)) (tseq (tasg (tcon (Dt.int 0)) (gname 7)) (tseq (tasg (tcon (Dt.int 0)) (gname 8)) (tseq (tasg (tcon (Dt.str (Str.ofString "on"))) (gname 9)) (tseq (twhile (tbool (tbin (rEqD false) (tvar 9) (tcon (Dt.str (Str.ofString "on"))))) (tseq (tifS (tbool (tbin (rEqD false) (tvar 6) (tvar 4))) (tseq (tasg (tcon (Dt.str (Str.ofString "more"))) (gname 9)) (tseq tbreak tnext)) tnext) (tseq (tifS (tandB (tbool (tbin (rIsD false) (tbin rIxD (tvar 0) (tcon (Dt.int 3))) (tcon Dt.non))) (tandB (tbool (tbin (rCmpI fun i j => decide (i < j)) (tvar 8) (tcall rLen (tacons (tvar 2) tanil)))) (tbool (tbin (rCmpI fun i j => decide (i ≤ j)) (tbin rIxD (tvar 2) (tvar 8)) (tvar 6))))) (tseq (tasg (ttup (tacons (tbin rIxD (tvar 0) (tcon (Dt.int 0))) (tacons (tcall rTuple (tacons (tbin rIxD (tvar 0) (tcon (Dt.int 2))) tanil)) tanil))) (gsub (tvar 0) (tcon (Dt.int 3)))) (tseq (tasg (tvar 3) (gsub (tvar 0) (tcon (Dt.int 0)))) (tseq (tasg (tbin L3.rAdd (tvar 8) (tcon (Dt.int 1))) (gname 8)) tnext))) tnext) (tseq (tasg (tcall spStep (tacons (tvar 0) (tacons (tbin rIxD (tbin L3.rAdd (tsliceA (tvar 1) (tosome (tvar 7)) tonone) (tlst (tacons (tcon (Dt.int 0)) tanil))) (tcon (Dt.int 0))) tanil))) (gunpack 3 (gscons (gname 9) (gscons (gname 10) (gscons (gname 11) gsnil))))) (tseq (tifS (tbool (tbin (rEqD false) (tvar 9) (tcon (Dt.str (Str.ofString "on"))))) (tseq (tasg (tbin L3.rAdd (tvar 6) (tcon (Dt.int 1))) (gname 6)) (tseq (tasg (tbin L3.rAdd (tvar 5) (tvar 10)) (gname 5)) (tseq (tasg (tcall rMin2 (tacons (tcall rLen (tacons (tvar 1) tanil)) (tacons (tbin L3.rAdd (tvar 7) (tvar 11)) tanil))) (gname 7)) tnext))) tnext) tnext))))) (tseq (tret (ttup (tacons (tvar 9) (tacons (tcall spStateL (tacons (tvar 0) tanil)) (tacons (tcall rTuple (tacons (tvar 5) tanil)) (tacons (tvar 6) (tacons (tvar 7) (tacons (tvar 8) tanil)))))))) tnext)))))))
noncomputable def db3 : TSD := (tseq (tifS (tbool (tbin (rEqD false) (tvar 9) (tcon (Dt.str (Str.ofString "on"))))) (tseq (tasg (tbin L3.rAdd (tvar 6) (tcon (Dt.int 1))) (gname 6)) (tseq (tasg (tbin L3.rAdd (tvar 5) (tvar 10)) (gname 5)) (tseq (tasg (tcall rMin2 (tacons (tcall rLen (tacons (tvar 1) tanil)) (tacons (tbin L3.rAdd (tvar 7) (tvar 11)) tanil))) (gname 7)) tnext))) tnext) tnext)
noncomputable def db2 : TSD := (tseq (tasg (tcall spStep (tacons (tvar 0) (tacons (tbin rIxD (tbin L3.rAdd (tsliceA (tvar 1) (tosome (tvar 7)) tonone) (tlst (tacons (tcon (Dt.int 0)) tanil))) (tcon (Dt.int 0))) tanil))) (gunpack 3 (gscons (gname 9) (gscons (gname 10) (gscons (gname 11) gsnil))))) db3)
noncomputable def db1 : TSD := (tseq (tifS (tandB (tbool (tbin (rIsD false) (tbin rIxD (tvar 0) (tcon (Dt.int 3))) (tcon Dt.non))) (tandB (tbool (tbin (rCmpI fun i j => decide (i < j)) (tvar 8) (tcall rLen (tacons (tvar 2) tanil)))) (tbool (tbin (rCmpI fun i j => decide (i ≤ j)) (tbin rIxD (tvar 2) (tvar 8)) (tvar 6))))) (tseq (tasg (ttup (tacons (tbin rIxD (tvar 0) (tcon (Dt.int 0))) (tacons (tcall rTuple (tacons (tbin rIxD (tvar 0) (tcon (Dt.int 2))) tanil)) tanil))) (gsub (tvar 0) (tcon (Dt.int 3)))) (tseq (tasg (tvar 3) (gsub (tvar 0) (tcon (Dt.int 0)))) (tseq (tasg (tbin L3.rAdd (tvar 8) (tcon (Dt.int 1))) (gname 8)) tnext))) tnext) db2)
noncomputable def db0 : TSD := (tseq (tifS (tbool (tbin (rEqD false) (tvar 6) (tvar 4))) (tseq (tasg (tcon (Dt.str (Str.ofString "more"))) (gname 9)) (tseq tbreak tnext)) tnext) db1)
noncomputable def dt6 : TSD := (tseq (tret (ttup (tacons (tvar 9) (tacons (tcall spStateL (tacons (tvar 0) tanil)) (tacons (tcall rTuple (tacons (tvar 5) tanil)) (tacons (tvar 6) (tacons (tvar 7) (tacons (tvar 8) tanil)))))))) tnext)
noncomputable def dt5 : TSD := (tseq (twhile (tbool (tbin (rEqD false) (tvar 9) (tcon (Dt.str (Str.ofString "on"))))) (tseq (tifS (tbool (tbin (rEqD false) (tvar 6) (tvar 4))) (tseq (tasg (tcon (Dt.str (Str.ofString "more"))) (gname 9)) (tseq tbreak tnext)) tnext) (tseq (tifS (tandB (tbool (tbin (rIsD false) (tbin rIxD (tvar 0) (tcon (Dt.int 3))) (tcon Dt.non))) (tandB (tbool (tbin (rCmpI fun i j => decide (i < j)) (tvar 8) (tcall rLen (tacons (tvar 2) tanil)))) (tbool (tbin (rCmpI fun i j => decide (i ≤ j)) (tbin rIxD (tvar 2) (tvar 8)) (tvar 6))))) (tseq (tasg (ttup (tacons (tbin rIxD (tvar 0) (tcon (Dt.int 0))) (tacons (tcall rTuple (tacons (tbin rIxD (tvar 0) (tcon (Dt.int 2))) tanil)) tanil))) (gsub (tvar 0) (tcon (Dt.int 3)))) (tseq (tasg (tvar 3) (gsub (tvar 0) (tcon (Dt.int 0)))) (tseq (tasg (tbin L3.rAdd (tvar 8) (tcon (Dt.int 1))) (gname 8)) tnext))) tnext) (tseq (tasg (tcall spStep (tacons (tvar 0) (tacons (tbin rIxD (tbin L3.rAdd (tsliceA (tvar 1) (tosome (tvar 7)) tonone) (tlst (tacons (tcon (Dt.int 0)) tanil))) (tcon (Dt.int 0))) tanil))) (gunpack 3 (gscons (gname 9) (gscons (gname 10) (gscons (gname 11) gsnil))))) (tseq (tifS (tbool (tbin (rEqD false) (tvar 9) (tcon (Dt.str (Str.ofString "on"))))) (tseq (tasg (tbin L3.rAdd (tvar 6) (tcon (Dt.int 1))) (gname 6)) (tseq (tasg (tbin L3.rAdd (tvar 5) (tvar 10)) (gname 5)) (tseq (tasg (tcall rMin2 (tacons (tcall rLen (tacons (tvar 1) tanil)) (tacons (tbin L3.rAdd (tvar 7) (tvar 11)) tanil))) (gname 7)) tnext))) tnext) tnext))))) dt6)
theorem cutN {xs : List Int} {k : Nat} : L3.cutD (xs.map Dt.int) (some (k : Int)) none = (xs.drop k).map Dt.int := by
  unfold L3.cutD
  rw [HT.sIx_none, HT.sIx_nat, ← List.map_drop, List.length_map]
  rcases Nat.le_total k xs.length with h | h
  · rw [Nat.min_eq_left h, List.take_of_length_le (by simp)]
  · rw [Nat.min_eq_right h, List.drop_of_length_le (by simp : xs.length ≤ xs.length), List.drop_of_length_le h]; simp
theorem drop_getD {xs : List Int} {k : Nat} : (xs.drop k ++ [0]).getD 0 0 = xs.getD k 0 := by
  by_cases h : k < xs.length
  · rw [List.drop_eq_getElem_cons h, List.getD_eq_getElem?_getD, List.getD_eq_getElem?_getD, List.getElem?_eq_getElem h]; rfl
  · have e : xs[k]? = none := List.getElem?_eq_none (by omega)
    rw [List.drop_of_length_le (by omega)]
    show (0 : Int) = xs.getD k 0
    rw [List.getD_eq_getElem?_getD, e]; rfl
noncomputable abbrev RDU (M gi be : Nat) (ring : Int) (n sa rows heard rung : Nat) (how : Str) (x10 x11 : Option Dt) : Rho := [some (.lst M), some (.lst gi), some (.lst be), some (.int ring), some (.int n), some (.lst sa), some (.int rows), some (.int heard), some (.int rung), some (.str how), x10, x11]
theorem heard_eq {given : List Int} {s : RS} {r : Res} (hr : r = rowS given s) (hon : r.1 = "on") (hle : s.heard ≤ given.length) : (if (s.heard : Int) + hearI s.g r < ((given.length : Nat) : Int) then (s.heard : Int) + hearI s.g r else ((given.length : Nat) : Int)) = (((nextS given s).heard : Nat) : Int) := by
  have e : (nextS given s).heard = if (decide (s.heard < given.length) && hearB s.g) = true then s.heard + 1 else s.heard := rfl
  cases hb : hearB s.g with
  | false =>
    have e2 : (nextS given s).heard = s.heard := by rw [e, hb, Bool.and_false, if_neg Bool.false_ne_true]
    rw [e2]
    unfold hearI
    rw [if_pos hon, hb, if_neg Bool.false_ne_true]
    split <;> omega
  | true =>
    by_cases h : s.heard < given.length
    · have e2 : (nextS given s).heard = s.heard + 1 := by rw [e, hb, Bool.and_true, if_pos (decide_eq_true h)]
      rw [e2]
      unfold hearI
      rw [if_pos hon, hb, if_pos rfl]
      split <;> omega
    · have e2 : (nextS given s).heard = s.heard := by rw [e, hb, Bool.and_true, if_neg (by rw [decide_eq_false h]; exact Bool.false_ne_true)]
      rw [e2]
      unfold hearI
      rw [if_pos hon, hb, if_pos rfl]
      split <;> omega
section
variable {E : EndsD} {st : Sto} {M B K R C gi be sa n rows : Nat} {ring : Int} {given bells : List Int} {s : RS} {x10 x11 : Option Dt}
theorem due3 {r : Res} {K' e : Nat} (hr : r = rowS given s) (m : Mach st M B K' R C r.2.1) (hg : st[gi]? = some (.rw (given.map .int))) (hs : st[sa]? = some (.rw (s.told.map .int))) (he : st[e]? = some (.rw (r.2.2.map .int))) (htl : s.told.length ≤ 1000) (hrl : r.2.2.length ≤ 1) (hle : s.heard ≤ given.length)
    (hS : r.1 ≠ "on" → E.nx (RDU M gi be ring n sa rows s.heard s.rung r.1 (some (.lst e)) (some (.int (hearI s.g r)))) st)
    (hE : r.1 = "on" → E.nx (RDU M gi be ring n st.length (rows + 1) (nextS given s).heard s.rung r.1 (some (.lst e)) (some (.int (hearI s.g r)))) (st ++ [.rw ((nextS given s).told.map .int)])) :
    db3 E (RDU M gi be ring n sa rows s.heard s.rung r.1 (some (.lst e)) (some (.int (hearI s.g r)))) st := by
  simp only [db3, tseq, tifS, tbool, tbin, tvar, tcon, tasg, gname, tcall, tacons, tanil, tnext, List.getElem?_cons_zero, List.getElem?_cons_succ, List.set_cons_zero, List.set_cons_succ]
  refine ⟨rfl, rfl, ?_⟩
  by_cases hon : r.1 = "on"
  · have hE := hE hon
    refine KH.iteB ?_ ?_
    · show ((r.1 == ("on" : Str)) != false) = true
      rw [hon]; decide +kernel
    simp only [L3.rAdd]
    rw [hs, he]
    have et : (s.told.map Dt.int ++ r.2.2.map Dt.int) = (nextS given s).told.map .int := by
      have : (nextS given s).told = s.told ++ r.2.2 := by rw [hr]; rfl
      rw [this, List.map_append]
    refine ⟨?_, ?_⟩
    · rw [List.length_map, List.length_map]
      have : (1000 : Nat) + 1 ≤ sizeLine := by decide
      omega
    rw [et]
    refine lenIL (xs := given) ⟨_, get_app hg, rfl⟩ ?_
    show E.nx [some (.lst M), some (.lst gi), some (.lst be), some (.int ring), some (.int n), some (.lst st.length), some (.int ((rows : Int) + 1)), some (.int (if (s.heard : Int) + hearI s.g r < ((given.length : Nat) : Int) then (s.heard : Int) + hearI s.g r else ((given.length : Nat) : Int))), some (.int s.rung), some (.str r.1), some (.lst e), some (.int (hearI s.g r))] (st ++ [.rw ((nextS given s).told.map .int)])
    rw [heard_eq hr hon hle, show (rows : Int) + 1 = ((rows + 1 : Nat) : Int) by omega]
    exact hE
  · refine KH.iteBF ?_ (hS hon)
    show ((r.1 == ("on" : Str)) != false) = false
    rw [beq_eq_false_iff_ne.mpr hon]; rfl
theorem due2 {how : Str} (m : Mach st M B K R C s.g) (ok : Ok2 s.g) (hg : st[gi]? = some (.rw (given.map .int))) (hgn : Off gi M B R C) (hgb : ∀ x ∈ given, In16 x) (hgl : given.length ≤ 60) (hs : st[sa]? = some (.rw (s.told.map .int))) (hsn : Off sa M B R C) (htl : s.told.length ≤ 1000) (hle : s.heard ≤ given.length)
    (hS : (rowS given s).1 ≠ "on" → ∀ st' K' y10 y11, Mach st' M B K' R C s.g → Sc M B R C st st' → st'[sa]? = some (.rw (s.told.map .int)) → E.nx (RDU M gi be ring n sa rows s.heard s.rung (rowS given s).1 y10 y11) st')
    (hE : (rowS given s).1 = "on" → ∀ st' K' sa' y10 y11, Mach st' M B K' R C (nextS given s).g → Sc M B R C st st' → Off sa' M B R C → st'[sa']? = some (.rw ((nextS given s).told.map .int)) → E.nx (RDU M gi be ring n sa' (rows + 1) (nextS given s).heard s.rung (rowS given s).1 y10 y11) st') :
    db2 E (RDU M gi be ring n sa rows s.heard s.rung how x10 x11) st := by
  simp only [db2, tseq, tasg, tcall, tacons, tanil, tbin, tvar, tcon, tlst, tsliceA, tosome, tonone, gunpack, List.getElem?_cons_zero, List.getElem?_cons_succ]
  rw [hg]
  show 1 ≤ sizeLine ∧ _
  refine ⟨by decide, ?_⟩
  have ec : L3.cutD (SO.rw (given.map Dt.int)).items (some (s.heard : Int)) none = (given.drop s.heard).map Dt.int := cutN
  rw [ec]
  obtain ⟨s1, hs1⟩ : ∃ s1, s1 = st ++ [SO.rw ((given.drop s.heard).map Dt.int)] ++ [SO.rw [Dt.int 0]] := ⟨_, rfl⟩
  have g1 : s1[st.length]? = some (.rw ((given.drop s.heard).map Dt.int)) := by rw [hs1]; exact get_app get_new
  have g2 : s1[st.length + 1]? = some (.rw [Dt.int 0]) := by
    rw [hs1]
    have := get_new (st := st ++ [SO.rw ((given.drop s.heard).map Dt.int)]) (x := SO.rw [Dt.int 0])
    rw [List.length_append] at this
    exact this
  have x1 : ExtS st s1 := by rw [hs1]; exact (ExtS.app _ _).trans (.app _ _)
  show L3.rAdd (.lst st.length) (.lst (st ++ [SO.rw ((given.drop s.heard).map Dt.int)]).length) (st ++ [SO.rw ((given.drop s.heard).map Dt.int)] ++ [SO.rw [Dt.int 0]]) _
  rw [show (st ++ [SO.rw ((given.drop s.heard).map Dt.int)]).length = st.length + 1 by simp, ← hs1]
  simp only [L3.rAdd]
  rw [g1, g2]
  refine ⟨by rw [List.length_map, List.length_drop]; exact Nat.le_of_lt (small (by show given.length - s.heard + 1 < 1000; omega)), ?_⟩
  have em : (given.drop s.heard).map Dt.int ++ [Dt.int 0] = (given.drop s.heard ++ [0]).map Dt.int := by rw [List.map_append]; rfl
  rw [em]
  refine ixX (xs := given.drop s.heard ++ [0]) get_new (Int.le_refl 0) (by rw [List.length_append]; show (0 : Int) < (((given.drop s.heard).length + 1 : Nat) : Int); omega) ?_
  have ev : (given.drop s.heard ++ [0]).getD (0 : Int).toNat 0 = given.getD s.heard 0 := drop_getD
  rw [ev]
  have x2 := x1.trans (.app s1 (SO.rw ((given.drop s.heard ++ [0]).map Dt.int)))
  generalize s1 ++ [SO.rw ((given.drop s.heard ++ [0]).map Dt.int)] = s2 at x2 ⊢
  have m2 : Mach s2 M B K R C s.g := ⟨x2 _ _ m.m, x2 _ _ m.b, x2 _ _ m.k, x2 _ _ m.r, x2 _ _ m.c, m.d⟩
  have f := fine_R ok (given_ok hgb s.heard).1 (given_ok hgb s.heard).2
  refine ⟨M, B, K, R, C, s.g, given.getD s.heard 0, rfl, m2, ok.ok, given_ok hgb s.heard, ?_⟩
  obtain ⟨r, hr⟩ : ∃ r, r = rowS given s := ⟨_, rfl⟩
  have e : doR s.g (given.getD s.heard 0) = r := hr.symm
  have hl : r.1 ≠ "on" → r.2.1 = s.g := by rw [← e]; exact left_R
  rw [e] at f ⊢
  rw [← hr] at hS hE
  intro st' K' q el m' sc gq ge
  have sc2 := (sc_ext x2).trans sc
  have hq : seqOf st' (.lst q) = some [.str r.1, .lst el, .int (hearI s.g r)] := by
    show (st'[q]?).map SO.items = _
    rw [gq]; rfl
  show (match seqOf st' (.lst q) with | some xs => _ | none => _)
  rw [hq]
  refine ⟨rfl, ?_⟩
  have hg' := sc2 _ _ hgn.1 hgn.2.1 hgn.2.2.1 hgn.2.2.2 hg
  have hs' := sc2 _ _ hsn.1 hsn.2.1 hsn.2.2.1 hsn.2.2.2 hs
  refine due3 hr m' hg' hs' ge htl f.2 hle (fun hn => ?_) (fun hon => ?_)
  · have m'' := m'
    rw [hl hn] at m''
    exact hS hn st' K' _ _ m'' sc2 hs'
  · have l := m'.lt
    have en : (nextS given s).g = r.2.1 := by rw [hr]; rfl
    refine hE hon _ K' _ _ _ ?_ (sc2.trans (sc_app _)) (by unfold Off; omega) get_new
    rw [en]
    exact m'.app _
theorem bellS_on (h : dueB bells s.g s.rung rows = true) : bellS bells ring rows s = { s with g := bellG s.g ring, rung := s.rung + 1 } := by unfold bellS; rw [if_pos h]
theorem bellS_off (h : dueB bells s.g s.rung rows = false) : bellS bells ring rows s = s := by unfold bellS; rw [if_neg (by rw [h]; exact Bool.false_ne_true)]
theorem due1 {how : Str} (m : Mach st M B K R C s.g) (hb : st[be]? = some (.rw (bells.map .int)))
    (hE : ∀ st', Mach st' M B K R C (bellS bells ring rows s).g → Sc M B R C st st' → db2 E (RDU M gi be ring n sa rows (bellS bells ring rows s).heard (bellS bells ring rows s).rung how x10 x11) st') :
    db1 E (RDU M gi be ring n sa rows s.heard s.rung how x10 x11) st := by
  have hdd : dueB bells s.g s.rung rows = (s.g.sv.isNone && (decide (s.rung < bells.length) && decide (bells.getD s.rung 0 ≤ (rows : Int)))) := rfl
  have off : dueB bells s.g s.rung rows = false → db2 E (RDU M gi be ring n sa rows s.heard s.rung how x10 x11) st := by
    intro h
    rw [bellS_off h] at hE
    exact hE st m sc_refl
  have hB : HasI st be bells := ⟨_, hb, rfl⟩
  simp only [db1, tseq, tifS, tandB, tbool, tbin, tvar, tcon, List.getElem?_cons_zero, List.getElem?_cons_succ]
  refine mx m (i := 3) (d := svD s.g.sv) rfl ?_
  rw [isN]
  cases hs : s.g.sv.isNone with
  | false =>
    rw [hs, Bool.false_and] at hdd
    exact iteF (off hdd)
  | true =>
    rw [hs, Bool.true_and] at hdd
    refine iteT ?_
    simp only [tcall, tacons, tanil, tvar, List.getElem?_cons_zero, List.getElem?_cons_succ]
    refine lenIL hB ?_
    by_cases hc : s.rung < bells.length
    rotate_left
    · rw [decide_eq_false hc, Bool.false_and] at hdd
      exact KH.iteBF (decide_eq_false (by omega)) (off hdd)
    rw [decide_eq_true hc, Bool.true_and] at hdd
    refine KH.iteB (decide_eq_true (by omega)) ?_
    refine ixIL hB hc ?_
    by_cases hd : bells.getD s.rung 0 ≤ (rows : Int)
    rotate_left
    · rw [decide_eq_false hd] at hdd
      exact KH.iteBF (decide_eq_false hd) (off hdd)
    rw [decide_eq_true hd] at hdd
    refine KH.iteB (decide_eq_true hd) ?_
    rw [bellS_on hdd] at hE
    simp only [tseq, tasg, ttup, tacons, tanil, tbin, tvar, tcon, tcall, gsub, gname, tnext, L3.rAdd, List.getElem?_cons_zero, List.getElem?_cons_succ, List.set_cons_zero, List.set_cons_succ]
    refine mx m (i := 0) (d := .int s.g.p) rfl ?_
    refine mx m (i := 2) (d := .lst K) rfl ?_
    have hk : seqOf st (.lst K) = some (kI s.g.m) := by
      show (st[K]?).map SO.items = _
      rw [m.k]; rfl
    show (match seqOf st (.lst K) with | some xs => _ | none => _)
    rw [hk]
    refine ⟨by show 2 ≤ sizeLine; decide, ?_⟩
    show (match st[M]? with | some (.rw xs) => _ | _ => _)
    rw [m.m]
    have m1 := m.setS (some (s.g.p, s.g.m))
    show (match (st.set M (.rw (mI { s.g with sv := some (s.g.p, s.g.m) } B K R C)))[M]? with | some (.rw xs) => _ | _ => _)
    rw [m1.m]
    have m2 := m1.setP ring
    have := hE _ m2 ((scM _).trans (scM _))
    show db2 E [some (.lst M), some (.lst gi), some (.lst be), some (.int ring), some (.int n), some (.lst sa), some (.int rows), some (.int s.heard), some (.int ((s.rung : Int) + 1)), some (.str how), x10, x11] _
    rw [show (s.rung : Int) + 1 = ((s.rung + 1 : Nat) : Int) by omega]
    exact this
end
theorem rd__law_due {ds : List Dt} {st : Sto} {Pd : VD} (h : spDueL ds st Pd) : t__law_due (Ed Pd) (startD ["machine", "given", "bells", "ring", "most", "said", "rows", "heard", "rung", "how", "more", "hears"] ds) st := by
  obtain ⟨M, B, K, R, C, g, gi, be, given, bells, ring, n, rfl, m, ok, hg, hb, hgn, hbn, hgb, hgl, hring, hn, hP⟩ := h
  have hlt := m.lt
  refine ⟨Nat.zero_le _, ?_⟩
  show dt5 (Ed Pd) (RDU M gi be ring n st.length 0 0 0 "on" none none) (st ++ [.rw []])
  obtain ⟨rr, hrr⟩ : ∃ rr, rr = runF given bells ring n 0 (s0 g) := ⟨_, rfl⟩
  rw [← hrr] at hP
  have fin : ∀ (s' : Sto) K' (s : RS) (rows sa : Nat) (how : Str) x10 x11, Mach s' M B K' R C s.g → s'[sa]? = some (.rw (s.told.map .int)) → Sc M B R C st s' → (how, s, rows) = rr → dt6 (Ed Pd) (RDU M gi be ring n sa rows s.heard s.rung how x10 x11) s' := by
    intro s' K' s rows sa how x10 x11 m' hs sc e
    subst e
    simp only [dt6, tseq, tret, ttup, tacons, tanil, tvar, tcall, List.getElem?_cons_zero, List.getElem?_cons_succ]
    refine ⟨M, B, K', R, C, s.g, rfl, m', ?_⟩
    refine tupX hs ?_
    exact ⟨by show 6 ≤ sizeLine; decide, hP _ sc⟩
  simp only [dt5, tseq, twhile]
  refine ⟨fun mm ρ s' => ∃ (K' : Nat) (s : RS) (rows sa : Nat) (how : Str) (x10 x11 : Option Dt), ρ = RDU M gi be ring n sa rows s.heard s.rung how x10 x11 ∧ Mach s' M B K' R C s.g ∧ Ok2 s.g ∧ s'[sa]? = some (.rw (s.told.map .int)) ∧ Off sa M B R C ∧ Sc M B R C st s' ∧ s.told.length ≤ rows ∧ s.heard ≤ given.length ∧ rows ≤ n ∧ ((how = "on" ∧ mm = n - rows + 1 ∧ runF given bells ring (n - rows) rows s = rr) ∨ (how ≠ "on" ∧ mm = 0 ∧ (how, s, rows) = rr)), ?_, ?_⟩
  · exact ⟨n + 1, K, s0 g, 0, st.length, "on", none, none, rfl, m.app _, ok, get_new, by unfold Off; omega, sc_app _, Nat.le_refl 0, Nat.zero_le _, Nat.zero_le _, .inl ⟨rfl, rfl, hrr.symm⟩⟩
  · rintro mm ρ s' ⟨K', s, rows, sa, how, x10, x11, rfl, m', ok', hs, hsn, sc, htl, hle, hrn, hcase⟩
    have hg' := sc _ _ hgn.1 hgn.2.1 hgn.2.2.1 hgn.2.2.2 hg
    have hb' := sc _ _ hbn.1 hbn.2.1 hbn.2.2.1 hbn.2.2.2 hb
    simp only [tbool, tbin, tvar, tcon, List.getElem?_cons_zero, List.getElem?_cons_succ]
    refine ⟨rfl, rfl, ?_⟩
    rcases hcase with ⟨rfl, hmm, hrun⟩ | ⟨hne, hmm, hrun⟩
    rotate_left
    · refine KH.iteBF ?_ (fin s' K' s rows sa how x10 x11 m' hs sc hrun)
      show ((how == ("on" : Str)) != false) = false
      rw [beq_eq_false_iff_ne.mpr hne]; rfl
    refine KH.iteB (by decide +kernel) ?_
    show db0 _ (RDU M gi be ring n sa rows s.heard s.rung "on" x10 x11) s'
    simp only [db0, tseq, tifS, tbool, tbin, tvar, List.getElem?_cons_zero, List.getElem?_cons_succ]
    refine eqi ?_
    by_cases hr : rows = n
    · refine KH.iteB (dT (by omega)) ?_
      subst hr
      rw [Nat.sub_self] at hrun
      simp only [tseq, tasg, tcon, gname, tbreak, List.set_cons_zero, List.set_cons_succ]
      exact fin s' K' s rows sa "more" x10 x11 m' hs sc hrun
    · refine KH.iteBF (dF (by omega)) ?_
      obtain ⟨k, hk⟩ : ∃ k, n - rows = k + 1 := ⟨n - rows - 1, by omega⟩
      rw [hk] at hrun
      have okb := ok2_bell (bells := bells) (done := rows) ok' hring
      refine due1 m' hb' fun s2 m2 sc2 => ?_
      have sc12 := sc.trans sc2
      have hg2 := sc12 _ _ hgn.1 hgn.2.1 hgn.2.2.1 hgn.2.2.2 hg
      have hs2 := sc2 _ _ hsn.1 hsn.2.1 hsn.2.2.1 hsn.2.2.2 hs
      have et := bell_told (bells := bells) (ring := ring) (done := rows) (s := s)
      have eh := bell_heard (bells := bells) (ring := ring) (done := rows) (s := s)
      have hrun : (if (rowS given (bellS bells ring rows s)).1 = "on" then runF given bells ring k (rows + 1) (nextS given (bellS bells ring rows s)) else ((rowS given (bellS bells ring rows s)).1, bellS bells ring rows s, rows)) = rr := hrun
      refine due2 (s := bellS bells ring rows s) m2 okb hg2 hgn hgb hgl (by rw [et]; exact hs2) hsn (by rw [et]; omega) (by rw [eh]; exact hle) (fun hn s3 K3 y10 y11 m3 sc3 hs3 => ?_) (fun hon s3 K3 sa3 y10 y11 m3 sc3 hsn3 hs3 => ?_)
      · rw [if_neg hn] at hrun
        exact ⟨0, by omega, K3, bellS bells ring rows s, rows, sa, _, y10, y11, rfl, m3, okb, hs3, hsn, sc12.trans sc3, by rw [et]; exact htl, by rw [eh]; exact hle, hrn, .inr ⟨hn, rfl, hrun⟩⟩
      · rw [if_pos hon] at hrun
        have o3 := ok2_nextS (given := given) okb hgb
        have eh2 : (nextS given (bellS bells ring rows s)).heard = if (decide ((bellS bells ring rows s).heard < given.length) && hearB (bellS bells ring rows s).g) = true then (bellS bells ring rows s).heard + 1 else (bellS bells ring rows s).heard := rfl
        have er : (nextS given (bellS bells ring rows s)).rung = (bellS bells ring rows s).rung := rfl
        refine ⟨n - (rows + 1) + 1, by omega, K3, nextS given (bellS bells ring rows s), rows + 1, sa3, _, y10, y11, rfl, m3, o3.1, hs3, hsn3, sc12.trans sc3, ?_, ?_, by omega, .inl ⟨hon, rfl, ?_⟩⟩
        · have := o3.2
          rw [et] at this
          omega
        · rw [eh2, eh]
          split
          · rename_i hc
            simp only [Bool.and_eq_true, decide_eq_true_eq] at hc
            omega
          · exact hle
        · rw [show n - (rows + 1) = k by omega]
          exact hrun
end K10
namespace K10
open PySem PySem.Spec PyProof.Rows L2 L3 KS K06 K17 KR
noncomputable abbrev t_law : TSD := (tseq (tasg (ttup (tacons (tcon (Dt.int 0)) (tacons (tbin rRepT (ttup (tacons (tcon (Dt.int 0)) tanil)) (tcon (Dt.int 8))) (tacons (ttup (tacons (tcon (Dt.bl false)) (tacons (tcon (Dt.bl false)) (tacons (tcon (Dt.bl false)) tanil)))) (tacons (tcon Dt.non) (tacons (ttup tanil) (tacons (ttup tanil) tanil))))))) (gname 1)) (tseq (tifS (tbool (tbin (rEqD true) (tcall (fun ds st P => KR.spRun (ds ++ [Dt.int 400]) st P) (tacons (tvar 1) (tacons (tlst (tacons (tcon (Dt.int 1)) tanil)) (tacons (tlst (tacons (tcon (Dt.int 1)) tanil)) (tacons (tcon (Dt.int 0)) tanil))))) (ttup (tacons (tcon (Dt.str (Str.ofString "closed"))) (tacons (tvar 1) (tacons (ttup tanil) (tacons (tcon (Dt.int 0)) (tacons (tcon (Dt.int 0)) (tacons (tcon (Dt.int 0)) tanil))))))))) (tseq (tret (tcon (Dt.bl false))) tnext) tnext) (tseq (tasg (tcall rSumI (tacons (tsliceA (tvar 0) tonone (tosome (tcon (Dt.int 63)))) tanil)) (gname 2)) (tseq (tasg (tcall spAsked (tacons (tvar 0) (tacons (tvar 2) tanil))) (gunpack 4 (gscons (gname 3) (gscons (gname 4) (gscons (gname 5) (gscons (gname 6) gsnil)))))) (tseq (tasg (tcall spStateL (tacons (tcall spBegun (tacons (tvar 0) tanil)) tanil)) (gname 7)) (tseq (tasg (tcall spDueL (tacons (tcall spBegun (tacons (tvar 0) tanil)) (tacons (tvar 3) (tacons (tvar 4) (tacons (tvar 5) (tacons (tvar 6) tanil)))))) (gname 8)) (tseq (tasg (tlst (tacons (tcall rList (tacons (tvar 3) tanil)) (tacons (tcall rList (tacons (tvar 4) tanil)) tanil))) (gname 9)) (tseq (tfor (irng1 (tcon (Dt.int 2))) (gname 10) (tseq (tasg (tcall KR.spRun (tacons (tvar 7) (tacons (tbin rIxD (tvar 9) (tcon (Dt.int 0))) (tacons (tbin rIxD (tvar 9) (tcon (Dt.int 1))) (tacons (tvar 5) (tacons (tvar 6) tanil)))))) (gname 11)) (tseq (tifS (torB (tnotB (tbool (tcall spKindsL (tacons (tvar 11) tanil)))) (tbool (tbin (rEqD true) (tvar 11) (tvar 8)))) (tseq (tret (tcon (Dt.bl false))) tnext) tnext) tnext))) (tseq (tifS (torB (tbool (tbin (rSameLL true) (tvar 9) (tlst (tacons (tvar 3) (tacons (tvar 4) tanil))))) (tbool (tbin (rEqD true) (tvar 7) (tcall spStateL (tacons (tcall spBegun (tacons (tvar 0) tanil)) tanil))))) (tseq (tret (tcon (Dt.bl false))) tnext) tnext) (tseq (tifS (tandB (tbool (tbin (rEqD false) (tvar 6) (tcon (Dt.int 400)))) (tbool (tbin (rEqD true) (tcall (fun ds st P => KR.spRun (ds ++ [Dt.int 400]) st P) (tacons (tvar 7) (tacons (tvar 3) (tacons (tvar 4) (tacons (tvar 5) tanil))))) (tvar 8)))) (tseq (tret (tcon (Dt.bl false))) tnext) tnext) (tseq (tfor (irng1 (tcon (Dt.int 3))) (gname 12) (tseq (tifS (tbool (tbin (rEqD true) (tcall KR.spRun (tacons (tvar 7) (tacons (tvar 3) (tacons (tvar 4) (tacons (tvar 5) (tacons (tvar 12) tanil)))))) (tcall spDueL (tacons (tcall spBegun (tacons (tvar 0) tanil)) (tacons (tvar 3) (tacons (tvar 4) (tacons (tvar 5) (tacons (tvar 12) tanil)))))))) (tseq (tret (tcon (Dt.bl false))) tnext) tnext) tnext)) (tseq (tret (tcon (Dt.bl true))) tnext))))))))))))
noncomputable def few : TSD := (tseq (tifS (tbool (tbin (rEqD true) (tcall KR.spRun (tacons (tvar 7) (tacons (tvar 3) (tacons (tvar 4) (tacons (tvar 5) (tacons (tvar 12) tanil)))))) (tcall spDueL (tacons (tcall spBegun (tacons (tvar 0) tanil)) (tacons (tvar 3) (tacons (tvar 4) (tacons (tvar 5) (tacons (tvar 12) tanil)))))))) (tseq (tret (tcon (Dt.bl false))) tnext) tnext) tnext)
noncomputable def trn : TSD := (tseq (tasg (tcall KR.spRun (tacons (tvar 7) (tacons (tbin rIxD (tvar 9) (tcon (Dt.int 0))) (tacons (tbin rIxD (tvar 9) (tcon (Dt.int 1))) (tacons (tvar 5) (tacons (tvar 6) tanil)))))) (gname 11)) (tseq (tifS (torB (tnotB (tbool (tcall spKindsL (tacons (tvar 11) tanil)))) (tbool (tbin (rEqD true) (tvar 11) (tvar 8)))) (tseq (tret (tcon (Dt.bl false))) tnext) tnext) tnext))
noncomputable def l10 : TSD := (tseq (tfor (irng1 (tcon (Dt.int 3))) (gname 12) (tseq (tifS (tbool (tbin (rEqD true) (tcall KR.spRun (tacons (tvar 7) (tacons (tvar 3) (tacons (tvar 4) (tacons (tvar 5) (tacons (tvar 12) tanil)))))) (tcall spDueL (tacons (tcall spBegun (tacons (tvar 0) tanil)) (tacons (tvar 3) (tacons (tvar 4) (tacons (tvar 5) (tacons (tvar 12) tanil)))))))) (tseq (tret (tcon (Dt.bl false))) tnext) tnext) tnext)) (tseq (tret (tcon (Dt.bl true))) tnext))
noncomputable def l9 : TSD := (tseq (tifS (tandB (tbool (tbin (rEqD false) (tvar 6) (tcon (Dt.int 400)))) (tbool (tbin (rEqD true) (tcall (fun ds st P => KR.spRun (ds ++ [Dt.int 400]) st P) (tacons (tvar 7) (tacons (tvar 3) (tacons (tvar 4) (tacons (tvar 5) tanil))))) (tvar 8)))) (tseq (tret (tcon (Dt.bl false))) tnext) tnext) l10)
noncomputable def l8 : TSD := (tseq (tifS (torB (tbool (tbin (rSameLL true) (tvar 9) (tlst (tacons (tvar 3) (tacons (tvar 4) tanil))))) (tbool (tbin (rEqD true) (tvar 7) (tcall spStateL (tacons (tcall spBegun (tacons (tvar 0) tanil)) tanil))))) (tseq (tret (tcon (Dt.bl false))) tnext) tnext) l9)
noncomputable def l7 : TSD := (tseq (tfor (irng1 (tcon (Dt.int 2))) (gname 10) (tseq (tasg (tcall KR.spRun (tacons (tvar 7) (tacons (tbin rIxD (tvar 9) (tcon (Dt.int 0))) (tacons (tbin rIxD (tvar 9) (tcon (Dt.int 1))) (tacons (tvar 5) (tacons (tvar 6) tanil)))))) (gname 11)) (tseq (tifS (torB (tnotB (tbool (tcall spKindsL (tacons (tvar 11) tanil)))) (tbool (tbin (rEqD true) (tvar 11) (tvar 8)))) (tseq (tret (tcon (Dt.bl false))) tnext) tnext) tnext))) l8)
noncomputable def l4 : TSD := (tseq (tasg (tcall spStateL (tacons (tcall spBegun (tacons (tvar 0) tanil)) tanil)) (gname 7)) (tseq (tasg (tcall spDueL (tacons (tcall spBegun (tacons (tvar 0) tanil)) (tacons (tvar 3) (tacons (tvar 4) (tacons (tvar 5) (tacons (tvar 6) tanil)))))) (gname 8)) (tseq (tasg (tlst (tacons (tcall rList (tacons (tvar 3) tanil)) (tacons (tcall rList (tacons (tvar 4) tanil)) tanil))) (gname 9)) l7)))
noncomputable def l3 : TSD := (tseq (tasg (tcall spAsked (tacons (tvar 0) (tacons (tvar 2) tanil))) (gunpack 4 (gscons (gname 3) (gscons (gname 4) (gscons (gname 5) (gscons (gname 6) gsnil)))))) l4)
noncomputable def l2 : TSD := (tseq (tasg (tcall rSumI (tacons (tsliceA (tvar 0) tonone (tosome (tcon (Dt.int 63)))) tanil)) (gname 2)) l3)
noncomputable def l1 : TSD := (tseq (tifS (tbool (tbin (rEqD true) (tcall (fun ds st P => KR.spRun (ds ++ [Dt.int 400]) st P) (tacons (tvar 1) (tacons (tlst (tacons (tcon (Dt.int 1)) tanil)) (tacons (tlst (tacons (tcon (Dt.int 1)) tanil)) (tacons (tcon (Dt.int 0)) tanil))))) (ttup (tacons (tcon (Dt.str (Str.ofString "closed"))) (tacons (tvar 1) (tacons (ttup tanil) (tacons (tcon (Dt.int 0)) (tacons (tcon (Dt.int 0)) (tacons (tcon (Dt.int 0)) tanil))))))))) (tseq (tret (tcon (Dt.bl false))) tnext) tnext) l2)
noncomputable def gN : GS := ⟨0, List.replicate 8 0, (false, false, false), none, [], []⟩
theorem okN : Ok2 gN := ⟨⟨Int.le_refl 0, rfl, fun v hv => by rw [List.eq_of_mem_replicate hv]; exact ⟨by decide, by decide⟩, rfl, by decide, fun v hv => (List.not_mem_nil hv).elim, fun v hv => (List.not_mem_nil hv).elim⟩, fun q m e => by cases e⟩
theorem runN : runF [1] [1] 0 400 0 (s0 gN) = (("closed" : Str), s0 gN, 0) := by
  show (if (rowS [1] (bellS [1] 0 0 (s0 gN))).1 = "on" then _ else ((rowS [1] (bellS [1] 0 0 (s0 gN))).1, bellS [1] 0 0 (s0 gN), 0)) = _
  have eb : bellS [1] 0 0 (s0 gN) = s0 gN := rfl
  rw [eb]
  have er : (rowS [1] (s0 gN)).1 = "closed" := rfl
  rw [er, if_neg (by decide +kernel)]
theorem resw_ok (r : Str × RS × Nat) : okD 8 (resW r) = true := by
  have a1 : okD 7 r.2.1.g.d = true := by
    have b1 : ∀ xs : List Int, okD 6 (.tup (xs.map .int)) = true := fun xs => all_ints xs 5
    have b3 : okD 6 (svD r.2.1.g.sv) = true := by cases r.2.1.g.sv <;> rfl
    show (okD 6 (.int r.2.1.g.p) && (okD 6 (.tup (r.2.1.g.bs.map .int)) && (okD 6 (msD r.2.1.g.m) && (okD 6 (svD r.2.1.g.sv) && (okD 6 (.tup (r.2.1.g.rs.map .int)) && (okD 6 (.tup (r.2.1.g.cs.map .int)) && true)))))) = true
    rw [b1, b1, b1, b3]; rfl
  have a2 : okD 7 (.tup (r.2.1.told.map .int)) = true := all_ints _ 6
  show (okD 7 (.str r.1) && (okD 7 r.2.1.g.d && (okD 7 (.tup (r.2.1.told.map .int)) && (okD 7 (.int (r.2.2 : Nat)) && (okD 7 (.int (r.2.1.heard : Nat)) && (okD 7 (.int (r.2.1.rung : Nat)) && true)))))) = true
  rw [a1, a2]; rfl
theorem sameW {r : Str × RS × Nat} {st : Sto} {P : VD} (h : P (.bl false) st) : rEqD true (resW r) (resW r) st P := by
  have ok := resw_ok r
  refine ⟨ok, ok, ?_⟩
  rw [eqD_self ok]
  exact h
theorem sameG {g : GS} {st : Sto} {P : VD} (h : P (.bl false) st) : rEqD true g.d g.d st P := by
  have ok := ok_gs g
  refine ⟨ok, ok, ?_⟩
  rw [eqD_self ok]
  exact h
theorem ext_sc {M B R C : Nat} {s1 s2 s3 : Sto} (lo : s1.length ≤ M ∧ s1.length ≤ B ∧ s1.length ≤ R ∧ s1.length ≤ C) (e : ExtS s1 s2) (sc : Sc M B R C s2 s3) : ExtS s1 s3 := fun i o q => by
  have := lt_of_get q
  exact sc i o (by omega) (by omega) (by omega) (by omega) (e i o q)
structure LS (st : Sto) (ns given bells : List Int) (gi be : Nat) : Prop where
  z : st[0]? = some (.ro (ns.map .int))
  g : st[gi]? = some (.rw (given.map .int))
  b : st[be]? = some (.rw (bells.map .int))
theorem LS.on {st s2 : Sto} {ns given bells : List Int} {gi be : Nat} (a : LS st ns given bells gi be) (e : ExtS st s2) : LS s2 ns given bells gi be := ⟨e _ _ a.z, e _ _ a.g, e _ _ a.b⟩
structure LA (ns given bells : List Int) (ring : Int) : Prop where
  l : ns.length ≤ 63
  gb : ∀ x ∈ given, In16 x
  gl : given.length ≤ 60
  r : 0 ≤ ring
noncomputable abbrev RLL (f : Int) (gi be : Nat) (ring : Int) (n : Nat) (x7 x8 x9 x10 x11 x12 : Option Dt) : Rho := [some (.lst 0), some gN.d, some (.int f), some (.lst gi), some (.lst be), some (.int ring), some (.int n), x7, x8, x9, x10, x11, x12]
section
variable {E : EndsD} {Pd : VD} {st : Sto} {ns given bells : List Int} {gi be ha g2 b2 n : Nat} {f ring : Int} {x7 x8 x9 x10 x11 x12 : Option Dt}
theorem own {P : VD} {k : Nat} (s : LS st ns given bells gi be) (a : LA ns given bells ring) (hk : k ≤ 1000) (hP : ∀ st', ExtS st st' → P (resW (runF given bells ring k 0 (s0 (begF ns)))) st') :
    spBegun [.lst 0] st fun d s1 => spDueL [d, .lst gi, .lst be, .int ring, .int k] s1 P := by
  refine ⟨0, ns, rfl, ⟨_, s.z, rfl⟩, a.l, fun M B K R C s2 m lo e2 => ?_⟩
  have lg := lt_of_get s.g
  have lb := lt_of_get s.b
  exact ⟨M, B, K, R, C, begF ns, gi, be, given, bells, ring, k, rfl, m, (beg_ok ns).1, e2 _ _ s.g, e2 _ _ s.b, by omega, by omega, a.gb, a.gl, a.r, hk, fun s3 sc => hP s3 (ext_sc lo e2 sc)⟩
theorem few_body {k : Nat} (s : LS st ns given bells gi be) (a : LA ns given bells ring) (hk : k ≤ 1000) (hE : ∀ st', ExtS st st' → E.nx (RLL f gi be ring n (some (begF ns).d) x8 x9 x10 x11 (some (.int k))) st') :
    few E (RLL f gi be ring n (some (begF ns).d) x8 x9 x10 x11 (some (.int k))) st := by
  simp only [few, tseq, tifS, tbool, tbin, tcall, tacons, tanil, tvar, List.getElem?_cons_zero, List.getElem?_cons_succ]
  refine ⟨begF ns, gi, be, given, bells, ring, k, rfl, (beg_ok ns).1, ⟨_, s.g, rfl⟩, ⟨_, s.b, rfl⟩, a.gb, a.r, hk, fun s1 e1 => ?_⟩
  refine own (s.on e1) a hk fun s2 e2 => ?_
  refine sameW ?_
  exact iteF (hE s2 (e1.trans e2))
theorem law10 (s : LS st ns given bells gi be) (a : LA ns given bells ring) (hP : ∀ st', Pd (.bl true) st') :
    l10 (Ed Pd) (RLL f gi be ring n (some (begF ns).d) x8 x9 x10 x11 none) st := by
  refine ⟨by decide, by decide, ?_⟩
  refine ⟨fun i ρ s' => (∃ y, ρ = RLL f gi be ring n (some (begF ns).d) x8 x9 x10 x11 y) ∧ ExtS st s', ⟨⟨_, rfl⟩, .refl _⟩, fun _ _ _ _ _ => trivial, ?_, ?_⟩
  · rintro i d ρ s' hd ⟨⟨y, rfl⟩, ext⟩
    obtain ⟨hi, rfl⟩ := range_get hd
    have hi : i < 3 := hi
    rw [Int.zero_add]
    exact few_body (s.on ext) a (by omega) fun s2 e2 => ⟨⟨_, rfl⟩, ext.trans e2⟩
  · rintro ρ s' ⟨⟨y, rfl⟩, ext⟩
    exact hP _
theorem law9 (s : LS st ns given bells gi be) (a : LA ns given bells ring) (hP : ∀ st', Pd (.bl true) st') :
    l9 (Ed Pd) (RLL f gi be ring n (some (begF ns).d) (some (resW (runF given bells ring n 0 (s0 (begF ns))))) x9 x10 x11 none) st := by
  simp only [l9, tseq, tifS, tandB, tbool, tbin, tvar, tcon, List.getElem?_cons_zero, List.getElem?_cons_succ]
  refine eqi ?_
  by_cases hn : n = 400
  · refine KH.iteB (dT (by omega)) ?_
    subst hn
    simp only [tcall, tacons, tanil, tvar, List.getElem?_cons_zero, List.getElem?_cons_succ]
    refine ⟨begF ns, gi, be, given, bells, ring, 400, rfl, (beg_ok ns).1, ⟨_, s.g, rfl⟩, ⟨_, s.b, rfl⟩, a.gb, a.r, by decide, fun s1 e1 => ?_⟩
    refine sameW ?_
    exact iteF (law10 (s.on e1) a hP)
  · exact KH.iteBF (dF (by omega)) (law10 s a hP)
theorem law8 (s : LS st ns given bells gi be) (a : LA ns given bells ring) (hh : st[ha]? = some (.rw [.lst g2, .lst b2])) (hg2 : st[g2]? = some (.rw (given.map .int))) (hb2 : st[b2]? = some (.rw (bells.map .int))) (hP : ∀ st', Pd (.bl true) st') :
    l8 (Ed Pd) (RLL f gi be ring n (some (begF ns).d) (some (resW (runF given bells ring n 0 (s0 (begF ns))))) (some (.lst ha)) x10 x11 none) st := by
  simp only [l8, tseq, tifS, torB, tbool, tbin, tvar, tlst, tacons, tanil, List.getElem?_cons_zero, List.getElem?_cons_succ]
  refine ⟨by show 2 ≤ sizeLine; decide, ?_⟩
  have x1 : ExtS st (st ++ [SO.rw [.lst gi, .lst be]]) := .app _ _
  simp only [rSameLL]
  rw [get_app hh, get_new]
  refine ⟨⟨[g2, b2], [gi, be], rfl, rfl, rfl, fun k i j hi hj => ?_⟩, ?_⟩
  · match k, hi, hj with
    | 0, hi, hj =>
      cases hi; cases hj
      exact ⟨_, x1 _ _ hg2, x1 _ _ s.g, all_ints given 8⟩
    | 1, hi, hj =>
      cases hi; cases hj
      exact ⟨_, x1 _ _ hb2, x1 _ _ s.b, all_ints bells 8⟩
    | k + 2, hi, _ => cases hi
  refine iteF ?_
  simp only [tcall, tacons, tanil, tvar, List.getElem?_cons_zero, List.getElem?_cons_succ]
  refine ⟨0, ns, rfl, ⟨_, x1 _ _ s.z, rfl⟩, a.l, fun M B K R C s2 m lo e2 => ?_⟩
  refine ⟨M, B, K, R, C, begF ns, rfl, m, ?_⟩
  refine sameG ?_
  exact iteF (law9 (s.on (x1.trans e2)) a hP)
theorem law7 (s : LS st ns given bells gi be) (a : LA ns given bells ring) (hn : n ≤ 1000) (hh : st[ha]? = some (.rw [.lst g2, .lst b2])) (hg2 : st[g2]? = some (.rw (given.map .int))) (hb2 : st[b2]? = some (.rw (bells.map .int))) (hP : ∀ st', Pd (.bl true) st') :
    l7 (Ed Pd) (RLL f gi be ring n (some (begF ns).d) (some (resW (runF given bells ring n 0 (s0 (begF ns))))) (some (.lst ha)) none none none) st := by
  refine ⟨by decide, by decide, ?_⟩
  refine ⟨fun i ρ s' => (∃ y10 y11, ρ = RLL f gi be ring n (some (begF ns).d) (some (resW (runF given bells ring n 0 (s0 (begF ns))))) (some (.lst ha)) y10 y11 none) ∧ ExtS st s', ⟨⟨_, _, rfl⟩, .refl _⟩, fun _ _ _ _ _ => trivial, ?_, ?_⟩
  · rintro i d ρ s' hd ⟨⟨y10, y11, rfl⟩, ext⟩
    have s' := s
    have hh' := ext _ _ hh
    show trn _ (RLL f gi be ring n (some (begF ns).d) (some (resW (runF given bells ring n 0 (s0 (begF ns))))) (some (.lst ha)) (some d) y11 none) _
    simp only [trn, tseq, tasg, tcall, tacons, tanil, tbin, tvar, tcon, gname, tifS, torB, tnotB, tbool, tnext, List.getElem?_cons_zero, List.getElem?_cons_succ, List.set_cons_zero, List.set_cons_succ]
    refine pickAt hh' (v := 0) (d := .lst g2) rfl ?_
    refine pickAt hh' (v := 1) (d := .lst b2) rfl ?_
    refine ⟨begF ns, g2, b2, given, bells, ring, n, rfl, (beg_ok ns).1, ⟨_, ext _ _ hg2, rfl⟩, ⟨_, ext _ _ hb2, rfl⟩, a.gb, a.r, hn, fun s1 e1 => ?_⟩
    refine ⟨_, rfl, fun s2 e2 => ?_⟩
    refine iteF ?_
    refine sameW ?_
    exact iteF ⟨⟨_, _, rfl⟩, (ext.trans e1).trans e2⟩
  · rintro ρ s' ⟨⟨y10, y11, rfl⟩, ext⟩
    exact law8 (s.on ext) a (ext _ _ hh) (ext _ _ hg2) (ext _ _ hb2) hP
theorem law4 (s : LS st ns given bells gi be) (a : LA ns given bells ring) (hn : n ≤ 1000) (hP : ∀ st', Pd (.bl true) st') :
    l4 (Ed Pd) (RLL f gi be ring n none none none none none none) st := by
  simp only [l4, tseq, tasg, tcall, tacons, tanil, tvar, gname, tlst, List.getElem?_cons_zero, List.getElem?_cons_succ, List.set_cons_zero, List.set_cons_succ]
  refine ⟨0, ns, rfl, ⟨_, s.z, rfl⟩, a.l, fun M B K R C s1 m lo e1 => ?_⟩
  refine ⟨M, B, K, R, C, begF ns, rfl, m, ?_⟩
  have s1' := s.on e1
  refine own s1' a hn fun s2 e2 => ?_
  have s2' := s1'.on e2
  simp only [rList]
  rw [seq_hasI ⟨_, s2'.g, rfl⟩]
  have s3' := s2'.on (.app s2 (.rw (given.map .int)))
  show (match seqOf (s2 ++ [SO.rw (given.map .int)]) (.lst be) with | some xs => _ | none => _)
  rw [seq_hasI ⟨_, s3'.b, rfl⟩]
  refine ⟨by show 2 ≤ sizeLine; decide, ?_⟩
  have s4' := s3'.on (.app _ (.rw (bells.map .int)))
  have s5' := s4'.on (.app _ (.rw [.lst s2.length, .lst (s2 ++ [SO.rw (given.map .int)]).length]))
  exact law7 s5' a hn get_new (get_app (get_app get_new)) (get_app get_new) hP
end
theorem rd_law {ds : List Dt} {st : Sto} {Pd : VD} (h : spLaw ds st Pd) : t_law (Ed Pd) (startD ["script", "nothing", "first", "given", "bells", "ring", "most", "state", "due", "handed", "turn", "found", "few"] ds) st := by
  obtain ⟨ns, rfl, rfl, hl, hP⟩ := h
  refine ⟨by decide, by simp, by decide, by decide, by decide, by show 3 ≤ sizeLine; decide, Nat.zero_le _, Nat.zero_le _, by show 6 ≤ sizeLine; decide, ?_⟩
  have z0 : ([SO.ro (ns.map .int)] : Sto)[0]? = some (.ro (ns.map .int)) := rfl
  generalize ([SO.ro (ns.map .int)] : Sto) = st at z0 ⊢
  show l1 (Ed Pd) [some (.lst 0), some gN.d, none, none, none, none, none, none, none, none, none, none, none] st
  simp only [l1, tseq, tifS, tbool, tbin, tcall, tacons, tanil, tvar, tcon, tlst, ttup, List.getElem?_cons_zero, List.getElem?_cons_succ]
  refine ⟨by decide, by decide, ?_⟩
  have x1 : ExtS st (st ++ [SO.rw [Dt.int 1]] ++ [SO.rw [Dt.int 1]]) := (ExtS.app _ _).trans (.app _ _)
  refine ⟨gN, _, _, [1], [1], 0, 400, rfl, okN, ⟨_, get_app get_new, rfl⟩, ⟨_, get_new, rfl⟩, fun x hx => by rw [List.mem_singleton.mp hx]; exact ⟨by decide, by decide⟩, Int.le_refl 0, by decide, fun s1 e1 => ?_⟩
  refine ⟨Nat.zero_le _, by show 6 ≤ sizeLine; decide, ?_⟩
  rw [runN]
  refine sameW (r := (("closed" : Str), s0 gN, 0)) ?_
  refine iteF ?_
  have z1 := e1 _ _ (x1 _ _ z0)
  clear e1 x1 z0
  show l2 (Ed Pd) [some (.lst 0), some gN.d, none, none, none, none, none, none, none, none, none, none, none] s1
  have hcut : L3.cutD (ns.map Dt.int) none (some 63) = (cutF ns).map .int := by
    unfold L3.cutD cutF
    rw [List.map_take, List.map_drop]
  simp only [l2, tseq, tasg, tcall, tacons, tanil, tsliceA, tonone, tosome, tcon, tvar, List.getElem?_cons_zero, List.getElem?_cons_succ]
  rw [z1]
  show rSumI [.lst s1.length] (s1 ++ [SO.rw (L3.cutD (ns.map Dt.int) none (some 63))]) _
  simp only [rSumI]
  rw [get_new]
  refine ⟨cutF ns, hcut, ?_⟩
  have z2 := get_app (x := SO.rw (L3.cutD (ns.map Dt.int) none (some 63))) z1
  generalize (cutF ns).sum = f
  generalize s1 ++ [SO.rw (L3.cutD (ns.map Dt.int) none (some 63))] = s2 at z2 ⊢
  show l3 (Ed Pd) [some (.lst 0), some gN.d, some (.int f), none, none, none, none, none, none, none, none, none, none] s2
  refine ⟨0, f, ns, rfl, ⟨_, z2, rfl⟩, hl, fun q gi be given bells ring n s3 e3 gq gg gb hgb hgl hbl r0 hn => ?_⟩
  have hq : seqOf s3 (.lst q) = some [.lst gi, .lst be, .int ring, .int n] := by
    show (s3[q]?).map SO.items = _
    rw [gq]; rfl
  show (match seqOf s3 (.lst q) with | some xs => _ | none => _)
  rw [hq]
  refine ⟨rfl, ?_⟩
  exact law4 ⟨e3 _ _ z2, gg, gb⟩ ⟨hl, hgb, hgl, r0⟩ hn hP
end K10
namespace K10
open PySem PySem.Spec PyProof.Rows L2 L3 KH KS
noncomputable abbrev t_replaced : TSD := K06.t_replaced
noncomputable abbrev t_may_be : TSD := K06.t_may_be
noncomputable abbrev t_moved : TSD := K06.t_moved
noncomputable abbrev t_one_on : TSD := K06.t_one_on
noncomputable abbrev t_with_box : TSD := K06.t_with_box
noncomputable abbrev t_with_outcome : TSD := K06.t_with_outcome
noncomputable abbrev t_left : TSD := K06.t_left
noncomputable abbrev t_on : TSD := K06.t_on
noncomputable abbrev t_plain_outcome : TSD := K06.t_plain_outcome
noncomputable abbrev t_do_count : TSD := K06.t_do_count
noncomputable abbrev t_do_div : TSD := K06.t_do_div
noncomputable abbrev t_do_get : TSD := K06.t_do_get
noncomputable abbrev t_do_set : TSD := K06.t_do_set
noncomputable abbrev t_is_when : TSD := K06.t_is_when
noncomputable abbrev t_leap_place : TSD := K06.t_leap_place
noncomputable abbrev t_do_leap : TSD := K06.t_do_leap
noncomputable abbrev t_do_right : TSD := K06.t_do_right
noncomputable abbrev t_do_back : TSD := K06.t_do_back
noncomputable abbrev t_do_word : TSD := K06.t_do_word
noncomputable abbrev t_do_row : TSD := K06.t_do_row
noncomputable abbrev t_set_out : TSD := K01.t_set_out
noncomputable abbrev t_is_due : TSD := KR.t_is_due
noncomputable abbrev t_with_bell : TSD := KR.t_with_bell
noncomputable abbrev t_is_hear : TSD := KR.t_is_hear
noncomputable abbrev t_run_and_window : TSD := KR.t_run_and_window
noncomputable abbrev t_run : TSD := KR.t_run
end K10
namespace K10
open PySem PySem.Spec PyProof.Rows L2 L3 KH KS KR
local macro_rules | `(tactic| k_dat $x:ident "e") => `(tactic| (case $x:ident => walk_at "d_e"))
local macro_rules | `(tactic| k_dat $x:ident "r") => `(tactic| (case $x:ident => rfl))
local macro_rules | `(tactic| k_dat $x:ident "m") => `(tactic| (case $x:ident => assumption))
local macro_rules | `(tactic| k_dat $x:ident "d") => `(tactic| (case $x:ident => decide))
local macro_rules | `(tactic| k_dat $x:ident "a") => `(tactic| (case $x:ident => walk_at "d_a"))
local macro_rules | `(tactic| k_dat $x:ident "t") => `(tactic| (case $x:ident => walk_at "d_t"))
local macro_rules | `(tactic| k_dat $x:ident "s") => `(tactic| (case $x:ident => walk_at "d_ss"))
local macro_rules | `(tactic| k_dat $x:ident "i") => `(tactic| (case $x:ident => walk_at "d_i"))
local macro_rules | `(tactic| k_dat $x:ident "n") => `(tactic| (case $x:ident => first | exact nomark _ | with_unfolding_all rfl))
local macro_rules | `(tactic| k_dat $n:num "zv0") => `(tactic| ((with_reducible refine' de_var $n ?n ?v ?d ?c); k_dat n "r"; (case v => first | exact Or.inl rfl | exact Or.inr (Or.inl rfl)); k_dat d "d"; k_dat c "d"))
local macro_rules | `(tactic| k_dat $n:num "zi0") => `(tactic| ((with_reducible refine' de_dispI (i := $n) ?h ?hu ?hall ?hl ?h0 ?h15 ?hk ?nd ?hN ?hv ?hd ?hcd ?hs); k_dat hN "r"; (case hv => first | exact Or.inl rfl | exact Or.inr (Or.inl rfl)); (case h => walk_at "d_ps"); (case hu => exact hu1 (by assumption)); k_dat hall "r"; k_dat hl "r"; (case h0 => exact List.cons_ne_nil _ _); k_dat h15 "d"; (case hk => exact by simp); k_dat nd "d"; k_dat hd "d"; k_dat hcd "d"; (case hs => exact fun _ _ => rfl)))
local macro_rules | `(tactic| k_dat $n:num "zc0") => `(tactic| ((with_reducible refine' ds_comp $n _ ?hc ?N ?S ?hx ?nd ?i ?f ?e ?y ?yl ?sw ?hs); k_dat y "r"; k_dat hc "r"; k_dat N "m"; (case S => exact sc_hint (by assumption) (by rfl)); k_dat hx "r"; (case nd => decide +kernel); k_dat sw "r"; k_dat yl "r"; k_dat i "i"; (case f => (intro _ _ _ _; walk_at "d_if")); (case e => (intro _ _ _ _; walk_at "d_e")); (case hs => (intro _; rfl))))
local macro_rules | `(tactic| k_dat $n:num "zc1") => `(tactic| ((with_reducible refine' ds_comp $n _ ?hc ?N ?S ?hx ?nd ?i ?f ?e ?y ?yl ?sw ?hs); k_dat y "r"; k_dat hc "r"; k_dat N "m"; (case S => exact sc_hint2 (by assumption) (by rfl)); k_dat hx "r"; (case nd => decide +kernel); k_dat sw "r"; k_dat yl "r"; k_dat i "i"; (case f => (intro _ _ _ _; walk_at "d_if")); (case e => (intro _ _ _ _; walk_at "d_e")); (case hs => (intro _; rfl))))
local macro_rules | `(tactic| k_dat $n:num "zc2") => `(tactic| ((with_reducible refine' ds_comp $n [] ?hc ?N ?S ?hx ?nd ?i ?f ?e ?y ?yl ?sw ?hs); k_dat y "r"; k_dat hc "r"; k_dat N "m"; (case S => exact sc_of (by rfl)); k_dat hx "r"; (case nd => decide +kernel); k_dat sw "r"; k_dat yl "r"; k_dat i "i"; (case f => (intro _ _ _ _; walk_at "d_if")); (case e => (intro _ _ _ _; walk_at "d_e")); (case hs => (intro _; rfl))))
local macro_rules | `(tactic| k_dat $n:num "zs0") => `(tactic| ((with_reducible refine' ds_set $n ?N ?e ?i ?x ?s ?f); k_dat i "r"; k_dat s "r"; k_dat N "m"; (case x => first | exact Or.inl rfl | exact Or.inr rfl); (case f => first | exact .inl rfl | exact .inr rfl); k_dat e "e"))
local macro_rules | `(tactic| k_dat $n:num "zg0") => `(tactic| ((with_reducible refine' dg_name $n ?nd ?n ?x ?f); k_dat n "r"; k_dat nd "m"; (case x => first | exact Or.inl rfl | exact Or.inr rfl); (case f => first | exact .inl rfl | exact .inr rfl)))
local macro_rules | `(tactic| k_dat $n:num "za0") => `(tactic| ((with_reducible refine' ds_aug $n ?N ?e ?i ?x ?f); k_dat i "r"; k_dat N "m"; (case x => first | exact Or.inl rfl | exact Or.inr rfl); (case f => first | exact .inl rfl | exact .inr rfl); k_dat e "e"))
local macro_rules | `(tactic| k_dat $n:num "zu0") => `(tactic| ((with_reducible refine' dg_unpack $n ?c ?g ?n ?s); k_dat n "r"; k_dat c "r"; (case g => walk_at "d_gs"); k_dat s "r"))
local macro_rules | `(tactic| k_dat $l:ident "s0") => `(tactic| ((with_reducible refine' $l ?a ?b); k_dat a "e"; k_dat b "e"))
local macro_rules | `(tactic| k_dat $l:ident "s1") => `(tactic| ((with_reducible refine' $l ?a); k_dat a "e"))
local macro_rules | `(tactic| k_dat $l:ident "s2") => `(tactic| ((with_reducible refine' $l ?a ?b ?h1 ?h2 ?h3 ?h4 ?h5); k_dat a "e"; k_dat b "e"; k_dat h1 "r"; k_dat h2 "r"; k_dat h3 "r"; k_dat h4 "r"; k_dat h5 "r"))
local macro_rules | `(tactic| k_dat $l:ident "s3") => `(tactic| ((with_reducible refine' $l ?f ?n ?r ?a ?g ?db ?he ?hpl); k_dat f "m"; k_dat n "r"; (case r => walk_at "d_room"); k_dat a "a"; k_dat g "r"; k_dat db "d"; k_dat he "r"; k_dat hpl "r"))
local macro_rules | `(tactic| k_dat $l:ident "s4") => `(tactic| ((with_reducible refine' $l ?hu ?a ?b ?m); (case hu => walk_at "d_hu"); k_dat a "e"; k_dat b "e"; k_dat m "n"))
local macro_rules | `(tactic| k_dat $l:ident "s5") => `(tactic| ((with_reducible refine' $l ?a ?b ?m); k_dat a "e"; k_dat b "e"; k_dat m "n"))
local macro_rules | `(tactic| k_dat $l:ident "s6") => `(tactic| ((with_reducible refine' $l ?c ?m ?a ?g ?he ?hpl); k_dat c "r"; k_dat m "m"; k_dat a "a"; k_dat g "r"; k_dat he "r"; k_dat hpl "r"))
local macro_rules | `(tactic| k_dat $l:ident "s7") => `(tactic| ((with_reducible refine' $l ?a); k_dat a "a"))
local macro_rules | `(tactic| k_dat $l:ident "s8") => `(tactic| ((with_reducible refine' $l ?a ?l ?h); k_dat a "e"; (case l => walk_at "d_o"); (case h => walk_at "d_o")))
local macro_rules | `(tactic| k_dat $l:ident "s9") => `(tactic| ((with_reducible refine' $l ?m ?a ?g ?he ?hpl); k_dat m "m"; k_dat a "a"; k_dat g "r"; k_dat he "r"; k_dat hpl "r"))
local macro_rules | `(tactic| k_dat $l:ident "s10") => `(tactic| ((with_reducible refine' $l ?m ?g); k_dat m "m"; k_dat g "r"))
local macro_rules | `(tactic| k_dat $l:ident "s11") => `(tactic| ((with_reducible refine' $l ?a ?b ?c ?m); k_dat a "e"; k_dat b "e"; k_dat c "e"; (case m => with_unfolding_all rfl)))
local macro_rules | `(tactic| k_dat $l:ident "s12") => `(tactic| ((with_reducible refine' $l ?a); k_dat a "t"))
local macro_rules | `(tactic| k_dat $l:ident "s13") => `(tactic| ((with_reducible refine' $l ?a ?b); k_dat a "t"; (case b => walk_at "d_w")))
local macro_rules | `(tactic| k_dat $l:ident "s14") => `(tactic| ((with_reducible refine' $l ?m ?a ?g ?s); k_dat m "m"; k_dat a "e"; k_dat g "r"; k_dat s "r"))
local macro_rules | `(tactic| walk_at "d_room") => `(tactic| first
  | exact Room.mono (by assumption) (by decide))
local macro_rules | `(tactic| walk_at "d_hu") => `(tactic| first
  | exact hu16 (by assumption))
local macro_rules | `(tactic| walk_at "d_ps") => `(tactic| first
  | (with_reducible exact dps_nil)
  | ((with_reducible refine' dps_cons ?v ?r); k_dat v "e"; (case r => walk_at "d_ps")))
local macro_rules | `(tactic| walk_at "d_e") => `(tactic| first
  | (with_reducible exact de_int)
  | (with_reducible exact de_str)
  | (with_reducible exact de_bl)
  | (with_reducible exact de_non)
  | ((with_reducible show DE _ (.Name _ _) _); first
      | (k_dat 0 "zv0")
      | (k_dat 1 "zv0")
      | (k_dat 2 "zv0")
      | (k_dat 3 "zv0")
      | (k_dat 4 "zv0")
      | (k_dat 5 "zv0")
      | (k_dat 6 "zv0")
      | (k_dat 7 "zv0")
      | (k_dat 8 "zv0")
      | (k_dat 9 "zv0")
      | (k_dat 10 "zv0")
      | (k_dat 11 "zv0")
      | (k_dat 12 "zv0")
      | (k_dat 13 "zv0")
      | (k_dat 14 "zv0")
      | (k_dat 15 "zv0")
      | (k_dat 16 "zv0")
      | (k_dat 17 "zv0")
      | (k_dat 18 "zv0")
      | (k_dat 19 "zv0"))
  | (k_dat dx_rep "s0")
  | (k_dat de_neg "s1")
  | (k_dat dx_addR "s0")
  | (k_dat de_extend "s2")
  | (k_dat de_callN "s3")
  | (k_dat de_callD "s3")
  | (k_dat dx_add "s0")
  | (k_dat dx_sub "s0")
  | (k_dat dx_mul "s0")
  | (k_dat dx_div "s0")
  | (k_dat dx_mod "s0")
  | (k_dat dx_and "s0")
  | (k_dat dx_eq "s4")
  | (k_dat dx_ne "s4")
  | (k_dat dx_lt "s5")
  | (k_dat dx_le "s5")
  | (k_dat dx_gt "s5")
  | (k_dat dx_ge "s5")
  | (k_dat dx_is "s5")
  | ((with_reducible show DE _ (.Subscript (.Dict _ _ _) (.Name _ _) _) _); first
      | (k_dat 0 "zi0")
      | (k_dat 1 "zi0")
      | (k_dat 2 "zi0")
      | (k_dat 3 "zi0")
      | (k_dat 4 "zi0")
      | (k_dat 5 "zi0")
      | (k_dat 6 "zi0")
      | (k_dat 7 "zi0")
      | (k_dat 8 "zi0")
      | (k_dat 9 "zi0")
      | (k_dat 10 "zi0")
      | (k_dat 11 "zi0")
      | (k_dat 12 "zi0")
      | (k_dat 13 "zi0")
      | (k_dat 14 "zi0")
      | (k_dat 15 "zi0")
      | (k_dat 16 "zi0")
      | (k_dat 17 "zi0")
      | (k_dat 18 "zi0")
      | (k_dat 19 "zi0"))
  | (k_dat dx_min "s6")
  | (k_dat dx_sum "s6")
  | (k_dat de_tup "s7")
  | (k_dat de_lst "s7")
  | (k_dat de_sliceA "s8")
  | (k_dat de_slice "s8")
  | ((with_reducible refine' de_ix ?a ?b ?s); k_dat a "e"; k_dat b "e"; (case s => exact fun _ _ => rfl))
  | ((with_reducible refine' de_callO ?f ?r ?a ?g ?db ?he ?hpl); k_dat f "m"; (case r => walk_at "d_room"); k_dat a "a"; k_dat g "r"; k_dat db "d"; k_dat he "r"; k_dat hpl "r")
  | (k_dat dx_len "s9")
  | (k_dat dx_isinst "s9")
  | (k_dat dx_tuple "s9")
  | (k_dat dx_list "s9")
  | (k_dat dx_int "s9")
  | (k_dat dx_tyInt "s10")
  | (k_dat dx_tyBool "s10")
  | (k_dat dx_tyStr "s10")
  | (k_dat dx_tyTuple "s10")
  | ((with_reducible refine' de_con ?f ?g ?db); (case f => first | assumption | exact ConT.con (by assumption)); k_dat g "r"; k_dat db "d")
  | (k_dat de_append "s2")
  | (k_dat de_not "s1")
  | (k_dat de_and "s0")
  | (k_dat de_or "s0")
  | (k_dat de_one "s1")
  | ((with_reducible refine' de_if ?c ?a ?b); k_dat c "t"; k_dat a "e"; k_dat b "e")
  | (k_dat dx_chain "s11")
  | ((with_reducible refine' de_comp _ ?hc ?S ?hx ?nd ?i ?f ?e ?hs); k_dat hc "r"; (case S => exact sc_hint (by assumption) (by rfl)); k_dat hx "r"; (case nd => decide +kernel); k_dat i "i"; (case f => (intro _ _ _ _; walk_at "d_if")); (case e => (intro _ _ _ _; walk_at "d_e")); (case hs => (intro _; rfl)))
  | ((with_reducible refine' de_comp _ ?hc ?S ?hx ?nd ?i ?f ?e ?hs); k_dat hc "r"; (case S => exact sc_hint2 (by assumption) (by rfl)); k_dat hx "r"; (case nd => decide +kernel); k_dat i "i"; (case f => (intro _ _ _ _; walk_at "d_if")); (case e => (intro _ _ _ _; walk_at "d_e")); (case hs => (intro _; rfl)))
  | ((with_reducible refine' de_comp [] ?hc ?S ?hx ?nd ?i ?f ?e ?hs); k_dat hc "r"; (case S => exact sc_of (by rfl)); k_dat hx "r"; (case nd => decide +kernel); k_dat i "i"; (case f => (intro _ _ _ _; walk_at "d_if")); (case e => (intro _ _ _ _; walk_at "d_e")); (case hs => (intro _; rfl))))
local macro_rules | `(tactic| walk_at "d_a") => `(tactic| first
  | (with_reducible exact da_nil)
  | ((with_reducible refine' da_cons ?a ?b ?h); k_dat a "e"; k_dat b "a"; k_dat h "r"))
local macro_rules | `(tactic| walk_at "d_o") => `(tactic| first
  | (with_reducible exact do_none)
  | (k_dat do_some "s1"))
local macro_rules | `(tactic| walk_at "d_t") => `(tactic| first
  | (k_dat dt_not "s12")
  | ((with_reducible refine' dt_of (dw_and ?a ?b)); k_dat a "t"; (case b => walk_at "d_w"))
  | ((with_reducible refine' dt_of (dw_or ?a ?b)); k_dat a "t"; (case b => walk_at "d_w"))
  | (k_dat dtx_eq "s4")
  | (k_dat dtx_ne "s4")
  | (k_dat dtx_lt "s5")
  | (k_dat dtx_le "s5")
  | (k_dat dtx_gt "s5")
  | (k_dat dtx_ge "s5")
  | (k_dat dtx_in "s5")
  | (k_dat dtx_is "s5")
  | (k_dat dtx_neLL "s4")
  | (k_dat dtx_chain "s11")
  | ((with_reducible refine' dt_val ?a ?h); k_dat a "e"; (case h => (intro _; rfl))))
local macro_rules | `(tactic| walk_at "d_w") => `(tactic| first
  | (k_dat dw_and "s13")
  | (k_dat dw_or "s13")
  | (k_dat dw_and1 "s12")
  | (k_dat dw_or1 "s12"))
local macro_rules | `(tactic| walk_at "d_if") => `(tactic| first
  | (with_reducible exact dif_nil)
  | (k_dat dif_one "s12"))
local macro_rules | `(tactic| walk_at "d_i") => `(tactic| first
  | (k_dat di_range1 "s14")
  | (k_dat di_seq "s1"))
local macro_rules | `(tactic| walk_at "d_g") => `(tactic| first
  | (k_dat 0 "zg0")
  | (k_dat 1 "zg0")
  | (k_dat 2 "zg0")
  | (k_dat 3 "zg0")
  | (k_dat 4 "zg0")
  | (k_dat 5 "zg0")
  | (k_dat 6 "zg0")
  | (k_dat 7 "zg0")
  | (k_dat 8 "zg0")
  | (k_dat 9 "zg0")
  | (k_dat 10 "zg0")
  | (k_dat 11 "zg0")
  | (k_dat 12 "zg0")
  | (k_dat 13 "zg0")
  | (k_dat 14 "zg0")
  | (k_dat 15 "zg0")
  | (k_dat 16 "zg0")
  | (k_dat 17 "zg0")
  | (k_dat 18 "zg0")
  | (k_dat 19 "zg0")
  | (k_dat 1 "zu0")
  | (k_dat 2 "zu0")
  | (k_dat 3 "zu0")
  | (k_dat 4 "zu0")
  | (k_dat 5 "zu0")
  | (k_dat 6 "zu0")
  | (k_dat 7 "zu0")
  | (k_dat 8 "zu0")
  | ((with_reducible refine' dg_sub ?a ?b ?h); k_dat a "e"; k_dat b "e"; (case h => (intro _; rfl))))
local macro_rules | `(tactic| walk_at "d_gs") => `(tactic| first
  | (with_reducible exact dgs_nil)
  | ((with_reducible refine' dgs_cons ?a ?b ?h); (case a => walk_at "d_g"); (case b => walk_at "d_gs"); k_dat h "r"))
local macro_rules | `(tactic| walk_at "d_s") => `(tactic| first
  | (with_reducible exact ds_break)
  | ((with_reducible refine' ds_while ?p ?c ?b); (case p => exact PassesOwn.never); k_dat c "t"; k_dat b "s")
  | (k_dat ds_ret "s1")
  | ((with_reducible refine' ds_if ?c ?a ?b); k_dat c "t"; k_dat a "s"; k_dat b "s")
  | ((with_reducible refine' ds_expr ?a ?h); k_dat h "r"; k_dat a "e")
  | ((with_reducible refine' ds_for ?p ?c ?i ?g ?b ?h); (case p => exact PassesOwn.never); k_dat c "r"; k_dat i "i"; (case g => walk_at "d_g"); k_dat b "s"; (case h => (intro _; rfl)))
  | ((with_reducible show DS _ (.Assign [.Name _ _] (.ListComp _ _ _ _) _) _); first
      | (k_dat 0 "zc0")
      | (k_dat 0 "zc1")
      | (k_dat 0 "zc2")
      | (k_dat 1 "zc0")
      | (k_dat 1 "zc1")
      | (k_dat 1 "zc2")
      | (k_dat 2 "zc0")
      | (k_dat 2 "zc1")
      | (k_dat 2 "zc2")
      | (k_dat 3 "zc0")
      | (k_dat 3 "zc1")
      | (k_dat 3 "zc2")
      | (k_dat 4 "zc0")
      | (k_dat 4 "zc1")
      | (k_dat 4 "zc2")
      | (k_dat 5 "zc0")
      | (k_dat 5 "zc1")
      | (k_dat 5 "zc2")
      | (k_dat 6 "zc0")
      | (k_dat 6 "zc1")
      | (k_dat 6 "zc2")
      | (k_dat 7 "zc0")
      | (k_dat 7 "zc1")
      | (k_dat 7 "zc2")
      | (k_dat 8 "zc0")
      | (k_dat 8 "zc1")
      | (k_dat 8 "zc2")
      | (k_dat 9 "zc0")
      | (k_dat 9 "zc1")
      | (k_dat 9 "zc2")
      | (k_dat 10 "zc0")
      | (k_dat 10 "zc1")
      | (k_dat 10 "zc2")
      | (k_dat 11 "zc0")
      | (k_dat 11 "zc1")
      | (k_dat 11 "zc2")
      | (k_dat 12 "zc0")
      | (k_dat 12 "zc1")
      | (k_dat 12 "zc2")
      | (k_dat 13 "zc0")
      | (k_dat 13 "zc1")
      | (k_dat 13 "zc2")
      | (k_dat 14 "zc0")
      | (k_dat 14 "zc1")
      | (k_dat 14 "zc2")
      | (k_dat 15 "zc0")
      | (k_dat 15 "zc1")
      | (k_dat 15 "zc2")
      | (k_dat 16 "zc0")
      | (k_dat 16 "zc1")
      | (k_dat 16 "zc2")
      | (k_dat 17 "zc0")
      | (k_dat 17 "zc1")
      | (k_dat 17 "zc2")
      | (k_dat 18 "zc0")
      | (k_dat 18 "zc1")
      | (k_dat 18 "zc2")
      | (k_dat 19 "zc0")
      | (k_dat 19 "zc1")
      | (k_dat 19 "zc2"))
  | ((with_reducible show DS _ (.Assign [.Name _ _] _ _) _); first
      | (k_dat 0 "zs0")
      | (k_dat 1 "zs0")
      | (k_dat 2 "zs0")
      | (k_dat 3 "zs0")
      | (k_dat 4 "zs0")
      | (k_dat 5 "zs0")
      | (k_dat 6 "zs0")
      | (k_dat 7 "zs0")
      | (k_dat 8 "zs0")
      | (k_dat 9 "zs0")
      | (k_dat 10 "zs0")
      | (k_dat 11 "zs0")
      | (k_dat 12 "zs0")
      | (k_dat 13 "zs0")
      | (k_dat 14 "zs0")
      | (k_dat 15 "zs0")
      | (k_dat 16 "zs0")
      | (k_dat 17 "zs0")
      | (k_dat 18 "zs0")
      | (k_dat 19 "zs0"))
  | ((with_reducible refine' ds_asg ?e ?g ?s ?w ?h); k_dat s "r"; k_dat w "r"; k_dat h "r"; k_dat e "e"; (case g => walk_at "d_g"))
  | ((with_reducible show DS _ (.AugAssign (.Name _ _) _ _ _) _); first
      | (k_dat 0 "za0")
      | (k_dat 1 "za0")
      | (k_dat 2 "za0")
      | (k_dat 3 "za0")
      | (k_dat 4 "za0")
      | (k_dat 5 "za0")
      | (k_dat 6 "za0")
      | (k_dat 7 "za0")
      | (k_dat 8 "za0")
      | (k_dat 9 "za0")
      | (k_dat 10 "za0")
      | (k_dat 11 "za0")
      | (k_dat 12 "za0")
      | (k_dat 13 "za0")
      | (k_dat 14 "za0")
      | (k_dat 15 "za0")
      | (k_dat 16 "za0")
      | (k_dat 17 "za0")
      | (k_dat 18 "za0")
      | (k_dat 19 "za0")))
local macro_rules | `(tactic| walk_at "d_ss") => `(tactic| first
  | (with_reducible exact dss_nil)
  | ((with_reducible refine' dss_cons ?a ?b); (case a => walk_at "d_s"); k_dat b "s"))
noncomputable def top (i : Nat) : Stmt := PySem.Challenge.pw_asitruns_k10_run.main.body.getD i (.Pass ⟨0, 0, 0, 0⟩)
noncomputable abbrev s_set_out : Stmt := top 2
noncomputable abbrev s_replaced : Stmt := top 13
noncomputable abbrev s_may_be : Stmt := top 14
noncomputable abbrev s_moved : Stmt := top 15
noncomputable abbrev s_one_on : Stmt := top 16
noncomputable abbrev s_with_box : Stmt := top 17
noncomputable abbrev s_with_outcome : Stmt := top 18
noncomputable abbrev s_left : Stmt := top 19
noncomputable abbrev s_on : Stmt := top 20
noncomputable abbrev s_plain_outcome : Stmt := top 21
noncomputable abbrev s_do_count : Stmt := top 22
noncomputable abbrev s_do_div : Stmt := top 23
noncomputable abbrev s_do_get : Stmt := top 24
noncomputable abbrev s_do_set : Stmt := top 25
noncomputable abbrev s_is_when : Stmt := top 26
noncomputable abbrev s_leap_place : Stmt := top 27
noncomputable abbrev s_do_leap : Stmt := top 28
noncomputable abbrev s_do_right : Stmt := top 29
noncomputable abbrev s_do_back : Stmt := top 30
noncomputable abbrev s_do_word : Stmt := top 31
noncomputable abbrev s_do_row : Stmt := top 32
noncomputable abbrev s_is_due : Stmt := top 34
noncomputable abbrev s_with_bell : Stmt := top 35
noncomputable abbrev s_is_hear : Stmt := top 36
noncomputable abbrev s_run_and_window : Stmt := top 37
noncomputable abbrev s_run : Stmt := top 38
noncomputable abbrev s__law_spun : Stmt := top 40
noncomputable abbrev s__law_menu : Stmt := top 41
noncomputable abbrev s__law_program : Stmt := top 42
noncomputable abbrev s__law_begun : Stmt := top 43
noncomputable abbrev s__law_may : Stmt := top 44
noncomputable abbrev s__law_reckon : Stmt := top 45
noncomputable abbrev s__law_touch : Stmt := top 46
noncomputable abbrev s__law_way : Stmt := top 47
noncomputable abbrev s__law_step : Stmt := top 48
noncomputable abbrev s__law_state : Stmt := top 49
noncomputable abbrev s__law_due : Stmt := top 50
noncomputable abbrev s__law_bells : Stmt := top 51
noncomputable abbrev s__law_asked : Stmt := top 52
noncomputable abbrev s__law_kinds : Stmt := top 53
noncomputable abbrev s_law : Stmt := top 54
section
variable {P : Program} {w : World} {K : PySem.W.Frag} {mg : Str → Option Value} {base : Heap} {f : Addr} {fd : FuncData}
theorem scset_out : FnScope ["number"] ["number"] (defScope s_set_out) := ⟨rfl, rfl, rfl, by decide +kernel, rfl, by decide +kernel, by decide +kernel⟩
theorem okset_out (F : Fun K "set_out" "set_out" s_set_out f fd) (gT0 : ConT K mg "WORDS" K01.wordsD) : FnOk P w K mg base CX0 1 f fd ["number"] (liftSp K K01.spSetOut) := by
  have nd := scset_out.nd
  refine fun_ok F scset_out (fun ds st Pd h => by obtain ⟨_, rfl, _⟩ := h; rfl) fun cdv A outer s H E hr => ?_
  refine ⟨t_set_out, ?t, fun ds st Pd h => K01.read_set_out h⟩
  case t =>
    refine' dss_cons ?a ?b
    case a => walk_at "d_s"
    case b => walk_at "d_ss"
theorem screplaced : FnScope ["parts", "k", "part"] ["parts", "k", "part"] (defScope s_replaced) := ⟨rfl, rfl, rfl, by decide +kernel, rfl, by decide +kernel, by decide +kernel⟩
theorem okreplaced (F : Fun K "replaced" "replaced" s_replaced f fd)  : FnOk P w K mg base CX0 1 f fd ["parts", "k", "part"] (liftSp K K06.spReplaced) := by
  have nd := screplaced.nd
  refine fun_ok F screplaced (fun ds st Pd h => by obtain ⟨_, _, _, rfl, _⟩ := h; rfl) fun cdv A outer s H E hr => ?_
  refine ⟨t_replaced, ?t, fun ds st Pd h => K06.rd_replaced h⟩
  case t =>
    refine' dss_cons ?a ?b
    case a => walk_at "d_s"
    case b => walk_at "d_ss"
theorem scmay_be : FnScope ["right", "state", "address"] ["right", "state", "address"] (defScope s_may_be) := ⟨rfl, rfl, rfl, by decide +kernel, rfl, by decide +kernel, by decide +kernel⟩
theorem okmay_be (F : Fun K "may_be" "may_be" s_may_be f fd) (gI4 : ConOk K mg "RIGHTS" (.int 4)) (gI5 : ConOk K mg "CELLS" (.int 5)) (m3 : mg "len" = none) : FnOk P w K mg base CX0 1 f fd ["right", "state", "address"] (liftSp K K06.spMay) := by
  have nd := scmay_be.nd
  refine fun_ok F scmay_be (fun ds st Pd h => by obtain ⟨_, _, _, rfl, _⟩ := h; rfl) fun cdv A outer s H E hr => ?_
  refine ⟨t_may_be, ?t, fun ds st Pd h => K06.rd_may_be h⟩
  case t =>
    refine' dss_cons ?a ?b
    case a => walk_at "d_s"
    case b => walk_at "d_ss"
theorem scmoved : FnScope ["state", "place"] ["state", "place"] (defScope s_moved) := ⟨rfl, rfl, rfl, by decide +kernel, rfl, by decide +kernel, by decide +kernel⟩
theorem okmoved (F : Fun K "moved" "moved" s_moved f fd) (gI0 : ConOk K mg "PLACE" (.int 0)) (dreplaced : DefOk P w K mg base "replaced" 1 K06.spReplaced) : FnOk P w K mg base CX0 2 f fd ["state", "place"] (liftSp K K06.spMoved) := by
  have nd := scmoved.nd
  refine fun_ok F scmoved (fun ds st Pd h => by obtain ⟨_, _, rfl, _⟩ := h; rfl) fun cdv A outer s H E hr => ?_
  refine ⟨t_moved, ?t, fun ds st Pd h => K06.rd_moved h⟩
  case t =>
    refine' dss_cons ?a ?b
    case a => walk_at "d_s"
    case b => walk_at "d_ss"
theorem scone_on : FnScope ["state"] ["state"] (defScope s_one_on) := ⟨rfl, rfl, rfl, by decide +kernel, rfl, by decide +kernel, by decide +kernel⟩
theorem okone_on (F : Fun K "one_on" "one_on" s_one_on f fd) (gI0 : ConOk K mg "PLACE" (.int 0)) (dmoved : DefOk P w K mg base "moved" 2 K06.spMoved) : FnOk P w K mg base CX0 3 f fd ["state"] (liftSp K K06.spOneOn) := by
  have nd := scone_on.nd
  refine fun_ok F scone_on (fun ds st Pd h => by obtain ⟨_, rfl, _⟩ := h; rfl) fun cdv A outer s H E hr => ?_
  refine ⟨t_one_on, ?t, fun ds st Pd h => K06.rd_one_on h⟩
  case t =>
    refine' dss_cons ?a ?b
    case a => walk_at "d_s"
    case b => walk_at "d_ss"
theorem scwith_box : FnScope ["state", "a", "number"] ["state", "a", "number"] (defScope s_with_box) := ⟨rfl, rfl, rfl, by decide +kernel, rfl, by decide +kernel, by decide +kernel⟩
theorem okwith_box (F : Fun K "with_box" "with_box" s_with_box f fd) (gI1 : ConOk K mg "BOXES" (.int 1)) (dreplaced : DefOk P w K mg base "replaced" 1 K06.spReplaced) (done_on : DefOk P w K mg base "one_on" 3 K06.spOneOn) : FnOk P w K mg base CX0 4 f fd ["state", "a", "number"] (liftSp K K06.spWithBox) := by
  have nd := scwith_box.nd
  refine fun_ok F scwith_box (fun ds st Pd h => by obtain ⟨_, _, _, rfl, _⟩ := h; rfl) fun cdv A outer s H E hr => ?_
  refine ⟨t_with_box, ?t, fun ds st Pd h => K06.rd_with_box h⟩
  case t =>
    refine' dss_cons ?a ?b
    case a => walk_at "d_s"
    case b => walk_at "d_ss"
theorem scwith_outcome : FnScope ["state", "a", "number", "carry"] ["state", "a", "number", "carry"] (defScope s_with_outcome) := ⟨rfl, rfl, rfl, by decide +kernel, rfl, by decide +kernel, by decide +kernel⟩
theorem okwith_outcome (F : Fun K "with_outcome" "with_outcome" s_with_outcome f fd) (gI2 : ConOk K mg "MARKS" (.int 2)) (dreplaced : DefOk P w K mg base "replaced" 1 K06.spReplaced) (dwith_box : DefOk P w K mg base "with_box" 4 K06.spWithBox) : FnOk P w K mg base CX0 5 f fd ["state", "a", "number", "carry"] (liftSp K K06.spWithOut) := by
  have nd := scwith_outcome.nd
  refine fun_ok F scwith_outcome (fun ds st Pd h => by obtain ⟨_, _, _, _, rfl, _⟩ := h; rfl) fun cdv A outer s H E hr => ?_
  refine ⟨t_with_outcome, ?t, fun ds st Pd h => K06.rd_with_outcome h⟩
  case t =>
    refine' dss_cons ?a ?b
    case a => walk_at "d_s"
    case b => walk_at "d_ss"
theorem scleft : FnScope ["how", "state"] ["how", "state"] (defScope s_left) := ⟨rfl, rfl, rfl, by decide +kernel, rfl, by decide +kernel, by decide +kernel⟩
theorem okleft (F : Fun K "left" "left" s_left f fd)  : FnOk P w K mg base CX0 1 f fd ["how", "state"] (liftSp K K06.spLeft) := by
  have nd := scleft.nd
  refine fun_ok F scleft (fun ds st Pd h => by obtain ⟨_, _, rfl, _⟩ := h; rfl) fun cdv A outer s H E hr => ?_
  refine ⟨t_left, ?t, fun ds st Pd h => K06.rd_left h⟩
  case t =>
    refine' dss_cons ?a ?b
    case a => walk_at "d_s"
    case b => walk_at "d_ss"
theorem scon : FnScope ["state"] ["state"] (defScope s_on) := ⟨rfl, rfl, rfl, by decide +kernel, rfl, by decide +kernel, by decide +kernel⟩
theorem okon (F : Fun K "on" "on" s_on f fd)  : FnOk P w K mg base CX0 1 f fd ["state"] (liftSp K K06.spOn) := by
  have nd := scon.nd
  refine fun_ok F scon (fun ds st Pd h => by obtain ⟨_, rfl, _⟩ := h; rfl) fun cdv A outer s H E hr => ?_
  refine ⟨t_on, ?t, fun ds st Pd h => K06.rd_on h⟩
  case t =>
    refine' dss_cons ?a ?b
    case a => walk_at "d_s"
    case b => walk_at "d_ss"
theorem scplain_outcome : FnScope ["word", "x", "y"] ["word", "x", "y"] (defScope s_plain_outcome) := ⟨rfl, rfl, rfl, by decide +kernel, rfl, by decide +kernel, by decide +kernel⟩
theorem okplain_outcome (F : Fun K "plain_outcome" "plain_outcome" s_plain_outcome f fd)  : FnOk P w K mg base CX0 1 f fd ["word", "x", "y"] (liftSp K K06.spPlain) := by
  have nd := scplain_outcome.nd
  refine fun_ok F scplain_outcome (fun ds st Pd h => by obtain ⟨_, _, _, rfl, _⟩ := h; rfl) fun cdv A outer s H E hr => ?_
  refine ⟨t_plain_outcome, ?t, fun ds st Pd h => K06.rd_plain_outcome h⟩
  case t =>
    refine' dss_cons ?a ?b
    case a => walk_at "d_s"
    case b => walk_at "d_ss"
theorem scdo_count : FnScope ["state", "word", "a", "x", "y", "plain"] ["state", "word", "a", "x", "y"] (defScope s_do_count) := ⟨rfl, rfl, rfl, by decide +kernel, rfl, by decide +kernel, by decide +kernel⟩
theorem okdo_count (F : Fun K "do_count" "do_count" s_do_count f fd) (dwith_outcome : DefOk P w K mg base "with_outcome" 5 K06.spWithOut) (don : DefOk P w K mg base "on" 1 K06.spOn) (dplain_outcome : DefOk P w K mg base "plain_outcome" 1 K06.spPlain) : FnOk P w K mg base CX0 6 f fd ["state", "word", "a", "x", "y"] (liftSp K K06.spCount) := by
  have nd := scdo_count.nd
  refine fun_ok F scdo_count (fun ds st Pd h => by obtain ⟨_, _, _, _, _, rfl, _⟩ := h; rfl) fun cdv A outer s H E hr => ?_
  refine ⟨t_do_count, ?t, fun ds st Pd h => K06.rd_do_count h⟩
  case t =>
    refine' dss_cons ?a ?b
    case a => walk_at "d_s"
    case b => walk_at "d_ss"
theorem scdo_div : FnScope ["state", "a", "x", "y"] ["state", "a", "x", "y"] (defScope s_do_div) := ⟨rfl, rfl, rfl, by decide +kernel, rfl, by decide +kernel, by decide +kernel⟩
theorem okdo_div (F : Fun K "do_div" "do_div" s_do_div f fd) (dwith_outcome : DefOk P w K mg base "with_outcome" 5 K06.spWithOut) (dleft : DefOk P w K mg base "left" 1 K06.spLeft) (don : DefOk P w K mg base "on" 1 K06.spOn) : FnOk P w K mg base CX0 6 f fd ["state", "a", "x", "y"] (liftSp K K06.spDiv) := by
  have nd := scdo_div.nd
  refine fun_ok F scdo_div (fun ds st Pd h => by obtain ⟨_, _, _, _, rfl, _⟩ := h; rfl) fun cdv A outer s H E hr => ?_
  refine ⟨t_do_div, ?t, fun ds st Pd h => K06.rd_do_div h⟩
  case t =>
    refine' dss_cons ?a ?b
    case a => walk_at "d_s"
    case b => walk_at "d_ss"
theorem scdo_get : FnScope ["state", "a", "address"] ["state", "a", "address"] (defScope s_do_get) := ⟨rfl, rfl, rfl, by decide +kernel, rfl, by decide +kernel, by decide +kernel⟩
theorem okdo_get (F : Fun K "do_get" "do_get" s_do_get f fd) (gI5 : ConOk K mg "CELLS" (.int 5)) (gI6 : ConOk K mg "READ" (.int 1)) (dmay_be : DefOk P w K mg base "may_be" 1 K06.spMay) (dwith_box : DefOk P w K mg base "with_box" 4 K06.spWithBox) (dleft : DefOk P w K mg base "left" 1 K06.spLeft) (don : DefOk P w K mg base "on" 1 K06.spOn) : FnOk P w K mg base CX0 6 f fd ["state", "a", "address"] (liftSp K K06.spGet) := by
  have nd := scdo_get.nd
  refine fun_ok F scdo_get (fun ds st Pd h => by obtain ⟨_, _, _, rfl, _⟩ := h; rfl) fun cdv A outer s H E hr => ?_
  refine ⟨t_do_get, ?t, fun ds st Pd h => K06.rd_do_get h⟩
  case t =>
    refine' dss_cons ?a ?b
    case a => walk_at "d_s"
    case b => walk_at "d_ss"
theorem scdo_set : FnScope ["state", "number", "address"] ["state", "number", "address"] (defScope s_do_set) := ⟨rfl, rfl, rfl, by decide +kernel, rfl, by decide +kernel, by decide +kernel⟩
theorem okdo_set (F : Fun K "do_set" "do_set" s_do_set f fd) (gI5 : ConOk K mg "CELLS" (.int 5)) (gI7 : ConOk K mg "WRITTEN" (.int 2)) (dreplaced : DefOk P w K mg base "replaced" 1 K06.spReplaced) (dmay_be : DefOk P w K mg base "may_be" 1 K06.spMay) (done_on : DefOk P w K mg base "one_on" 3 K06.spOneOn) (dleft : DefOk P w K mg base "left" 1 K06.spLeft) (don : DefOk P w K mg base "on" 1 K06.spOn) : FnOk P w K mg base CX0 6 f fd ["state", "number", "address"] (liftSp K K06.spSet) := by
  have nd := scdo_set.nd
  refine fun_ok F scdo_set (fun ds st Pd h => by obtain ⟨_, _, _, rfl, _⟩ := h; rfl) fun cdv A outer s H E hr => ?_
  refine ⟨t_do_set, ?t, fun ds st Pd h => K06.rd_do_set h⟩
  case t =>
    refine' dss_cons ?a ?b
    case a => walk_at "d_s"
    case b => walk_at "d_ss"
theorem scis_when : FnScope ["a", "marks"] ["a", "marks"] (defScope s_is_when) := ⟨rfl, rfl, rfl, by decide +kernel, rfl, by decide +kernel, by decide +kernel⟩
theorem okis_when (F : Fun K "is_when" "is_when" s_is_when f fd)  : FnOk P w K mg base CX0 1 f fd ["a", "marks"] (liftSp K K06.spIsWhen) := by
  have nd := scis_when.nd
  refine fun_ok F scis_when (fun ds st Pd h => by obtain ⟨_, _, rfl, _⟩ := h; rfl) fun cdv A outer s H E hr => ?_
  refine ⟨t_is_when, ?t, fun ds st Pd h => K06.rd_is_when h⟩
  case t =>
    refine' dss_cons ?a ?b
    case a => walk_at "d_s"
    case b => walk_at "d_ss"
theorem scleap_place : FnScope ["place", "c"] ["place", "c"] (defScope s_leap_place) := ⟨rfl, rfl, rfl, by decide +kernel, rfl, by decide +kernel, by decide +kernel⟩
theorem okleap_place (F : Fun K "leap_place" "leap_place" s_leap_place f fd)  : FnOk P w K mg base CX0 1 f fd ["place", "c"] (liftSp K K06.spLeapPlace) := by
  have nd := scleap_place.nd
  refine fun_ok F scleap_place (fun ds st Pd h => by obtain ⟨_, _, rfl, _⟩ := h; rfl) fun cdv A outer s H E hr => ?_
  refine ⟨t_leap_place, ?t, fun ds st Pd h => K06.rd_leap_place h⟩
  case t =>
    refine' dss_cons ?a ?b
    case a => walk_at "d_s"
    case b => walk_at "d_ss"
theorem scdo_leap : FnScope ["state", "c"] ["state", "c"] (defScope s_do_leap) := ⟨rfl, rfl, rfl, by decide +kernel, rfl, by decide +kernel, by decide +kernel⟩
theorem okdo_leap (F : Fun K "do_leap" "do_leap" s_do_leap f fd) (gI0 : ConOk K mg "PLACE" (.int 0)) (dmoved : DefOk P w K mg base "moved" 2 K06.spMoved) (don : DefOk P w K mg base "on" 1 K06.spOn) (dleap_place : DefOk P w K mg base "leap_place" 1 K06.spLeapPlace) : FnOk P w K mg base CX0 6 f fd ["state", "c"] (liftSp K K06.spLeap) := by
  have nd := scdo_leap.nd
  refine fun_ok F scdo_leap (fun ds st Pd h => by obtain ⟨_, _, rfl, _⟩ := h; rfl) fun cdv A outer s H E hr => ?_
  refine ⟨t_do_leap, ?t, fun ds st Pd h => K06.rd_do_leap h⟩
  case t =>
    refine' dss_cons ?a ?b
    case a => walk_at "d_s"
    case b => walk_at "d_ss"
theorem scdo_right : FnScope ["state", "page", "rights"] ["state", "page", "rights"] (defScope s_do_right) := ⟨rfl, rfl, rfl, by decide +kernel, rfl, by decide +kernel, by decide +kernel⟩
theorem okdo_right (F : Fun K "do_right" "do_right" s_do_right f fd) (gI4 : ConOk K mg "RIGHTS" (.int 4)) (m3 : mg "len" = none) (dreplaced : DefOk P w K mg base "replaced" 1 K06.spReplaced) (done_on : DefOk P w K mg base "one_on" 3 K06.spOneOn) (dleft : DefOk P w K mg base "left" 1 K06.spLeft) (don : DefOk P w K mg base "on" 1 K06.spOn) : FnOk P w K mg base CX0 6 f fd ["state", "page", "rights"] (liftSp K K06.spRightW) := by
  have nd := scdo_right.nd
  refine fun_ok F scdo_right (fun ds st Pd h => by obtain ⟨_, _, _, rfl, _⟩ := h; rfl) fun cdv A outer s H E hr => ?_
  refine ⟨t_do_right, ?t, fun ds st Pd h => K06.rd_do_right h⟩
  case t =>
    refine' dss_cons ?a ?b
    case a => walk_at "d_s"
    case b => walk_at "d_ss"
theorem scdo_back : FnScope ["state", "saved"] ["state"] (defScope s_do_back) := ⟨rfl, rfl, rfl, by decide +kernel, rfl, by decide +kernel, by decide +kernel⟩
theorem okdo_back (F : Fun K "do_back" "do_back" s_do_back f fd) (gI1 : ConOk K mg "BOXES" (.int 1)) (gI3 : ConOk K mg "SAVED" (.int 3)) (gI4 : ConOk K mg "RIGHTS" (.int 4)) (gI5 : ConOk K mg "CELLS" (.int 5)) (dleft : DefOk P w K mg base "left" 1 K06.spLeft) (don : DefOk P w K mg base "on" 1 K06.spOn) : FnOk P w K mg base CX0 6 f fd ["state"] (liftSp K K06.spBack) := by
  have nd := scdo_back.nd
  refine fun_ok F scdo_back (fun ds st Pd h => by obtain ⟨_, rfl, _⟩ := h; rfl) fun cdv A outer s H E hr => ?_
  refine ⟨t_do_back, ?t, fun ds st Pd h => K06.rd_do_back h⟩
  case t =>
    refine' dss_cons ?a ?b
    case a => walk_at "d_s"
    case b => walk_at "d_ss"
theorem scdo_word : FnScope ["state", "row", "heard", "word", "a", "b", "c", "boxes"] ["state", "row", "heard"] (defScope s_do_word) := ⟨rfl, rfl, rfl, by decide +kernel, rfl, by decide +kernel, by decide +kernel⟩
theorem okdo_word (F : Fun K "do_word" "do_word" s_do_word f fd) (gI1 : ConOk K mg "BOXES" (.int 1)) (gI2 : ConOk K mg "MARKS" (.int 2)) (dmoved : DefOk P w K mg base "moved" 2 K06.spMoved) (done_on : DefOk P w K mg base "one_on" 3 K06.spOneOn) (dwith_box : DefOk P w K mg base "with_box" 4 K06.spWithBox) (dleft : DefOk P w K mg base "left" 1 K06.spLeft) (don : DefOk P w K mg base "on" 1 K06.spOn) (ddo_count : DefOk P w K mg base "do_count" 6 K06.spCount) (ddo_div : DefOk P w K mg base "do_div" 6 K06.spDiv) (ddo_get : DefOk P w K mg base "do_get" 6 K06.spGet) (ddo_set : DefOk P w K mg base "do_set" 6 K06.spSet) (dis_when : DefOk P w K mg base "is_when" 1 K06.spIsWhen) (ddo_leap : DefOk P w K mg base "do_leap" 6 K06.spLeap) (ddo_right : DefOk P w K mg base "do_right" 6 K06.spRightW) (ddo_back : DefOk P w K mg base "do_back" 6 K06.spBack) : FnOk P w K mg base CX0 7 f fd ["state", "row", "heard"] (liftSp K K06.spDoWord) := by
  have nd := scdo_word.nd
  refine fun_ok F scdo_word (fun ds st Pd h => by obtain ⟨_, _, _, _, _, _, rfl, _⟩ := h; rfl) fun cdv A outer s H E hr => ?_
  refine ⟨t_do_word, ?t, fun ds st Pd h => K06.rd_do_word h⟩
  case t =>
    refine' dss_cons ?a ?b
    case a => walk_at "d_s"
    case b => walk_at "d_ss"
theorem scdo_row : FnScope ["state", "heard", "place"] ["state", "heard"] (defScope s_do_row) := ⟨rfl, rfl, rfl, by decide +kernel, rfl, by decide +kernel, by decide +kernel⟩
theorem okdo_row (F : Fun K "do_row" "do_row" s_do_row f fd) (gI0 : ConOk K mg "PLACE" (.int 0)) (gI5 : ConOk K mg "CELLS" (.int 5)) (gI8 : ConOk K mg "RUN" (.int 4)) (dset_out : DefOk P w K mg base "set_out" 1 K01.spSetOut) (dmay_be : DefOk P w K mg base "may_be" 1 K06.spMay) (dleft : DefOk P w K mg base "left" 1 K06.spLeft) (ddo_word : DefOk P w K mg base "do_word" 7 K06.spDoWord) : FnOk P w K mg base CX0 8 f fd ["state", "heard"] (liftSp K K06.spDoRow) := by
  have nd := scdo_row.nd
  refine fun_ok F scdo_row (fun ds st Pd h => by obtain ⟨_, _, rfl, _⟩ := h; rfl) fun cdv A outer s H E hr => ?_
  refine ⟨t_do_row, ?t, fun ds st Pd h => K06.rd_do_row h⟩
  case t =>
    refine' dss_cons ?a ?b
    case a => walk_at "d_s"
    case b => walk_at "d_ss"
theorem scis_due : FnScope ["state", "bells", "rung", "done"] ["state", "bells", "rung", "done"] (defScope s_is_due) := ⟨rfl, rfl, rfl, by decide +kernel, rfl, by decide +kernel, by decide +kernel⟩
theorem okis_due (F : Fun K "is_due" "is_due" s_is_due f fd) (gI3 : ConOk K mg "SAVED" (.int 3)) (m3 : mg "len" = none) : FnOk P w K mg base CX0 1 f fd ["state", "bells", "rung", "done"] (liftSp K KR.spDue) := by
  have nd := scis_due.nd
  refine fun_ok F scis_due (fun ds st Pd h => by obtain ⟨_, _, _, _, _, rfl, _⟩ := h; rfl) fun cdv A outer s H E hr => ?_
  refine ⟨t_is_due, ?t, fun ds st Pd h => KR.rd_is_due h⟩
  case t =>
    refine' dss_cons ?a ?b
    case a => walk_at "d_s"
    case b => walk_at "d_ss"
theorem scwith_bell : FnScope ["state", "ring", "saved"] ["state", "ring"] (defScope s_with_bell) := ⟨rfl, rfl, rfl, by decide +kernel, rfl, by decide +kernel, by decide +kernel⟩
theorem okwith_bell (F : Fun K "with_bell" "with_bell" s_with_bell f fd) (gI0 : ConOk K mg "PLACE" (.int 0)) (gI2 : ConOk K mg "MARKS" (.int 2)) (gI3 : ConOk K mg "SAVED" (.int 3)) (dreplaced : DefOk P w K mg base "replaced" 1 K06.spReplaced) : FnOk P w K mg base CX0 2 f fd ["state", "ring"] (liftSp K KR.spBell) := by
  have nd := scwith_bell.nd
  refine fun_ok F scwith_bell (fun ds st Pd h => by obtain ⟨_, _, rfl, _⟩ := h; rfl) fun cdv A outer s H E hr => ?_
  refine ⟨t_with_bell, ?t, fun ds st Pd h => KR.rd_with_bell h⟩
  case t =>
    refine' dss_cons ?a ?b
    case a => walk_at "d_s"
    case b => walk_at "d_ss"
theorem scis_hear : FnScope ["state"] ["state"] (defScope s_is_hear) := ⟨rfl, rfl, rfl, by decide +kernel, rfl, by decide +kernel, by decide +kernel⟩
theorem okis_hear (F : Fun K "is_hear" "is_hear" s_is_hear f fd) (gI0 : ConOk K mg "PLACE" (.int 0)) (gI5 : ConOk K mg "CELLS" (.int 5)) (dset_out : DefOk P w K mg base "set_out" 1 K01.spSetOut) : FnOk P w K mg base CX0 2 f fd ["state"] (liftSp K KR.spHear) := by
  have nd := scis_hear.nd
  refine fun_ok F scis_hear (fun ds st Pd h => by obtain ⟨_, rfl, _⟩ := h; rfl) fun cdv A outer s H E hr => ?_
  refine ⟨t_is_hear, ?t, fun ds st Pd h => KR.rd_is_hear h⟩
  case t =>
    refine' dss_cons ?a ?b
    case a => walk_at "d_s"
    case b => walk_at "d_ss"
theorem scrun_and_window : FnScope ["state", "given", "bells", "ring", "most", "told", "heard", "rung", "states", "done", "row"] ["state", "given", "bells", "ring", "most"] (defScope s_run_and_window) := ⟨rfl, rfl, rfl, by decide +kernel, rfl, by decide +kernel, by decide +kernel⟩
theorem okrun_and_window (F : Fun K "run_and_window" "run_and_window" s_run_and_window f fd) (m1 : mg "tuple" = none) (m3 : mg "len" = none) (m7 : mg "range" = none) (ddo_row : DefOk P w K mg base "do_row" 8 K06.spDoRow) (dis_due : DefOk P w K mg base "is_due" 1 KR.spDue) (dwith_bell : DefOk P w K mg base "with_bell" 2 KR.spBell) (dis_hear : DefOk P w K mg base "is_hear" 2 KR.spHear) : FnOk P w K mg base CX0 9 f fd ["state", "given", "bells", "ring", "most"] (liftSp K KR.spRunW) := by
  have nd := scrun_and_window.nd
  refine fun_ok F scrun_and_window (fun ds st Pd h => by obtain ⟨_, _, _, _, _, _, _, rfl, _⟩ := h; rfl) fun cdv A outer s H E hr => ?_
  refine ⟨t_run_and_window, ?t, fun ds st Pd h => KR.rd_run_and_window h⟩
  case t =>
    refine' dss_cons ?a ?b
    case a => walk_at "d_s"
    case b => walk_at "d_ss"
theorem scrun : FnScope ["state", "given", "bells", "ring", "most"] ["state", "given", "bells", "ring", "most"] (defScope s_run) := ⟨rfl, rfl, rfl, by decide +kernel, rfl, by decide +kernel, by decide +kernel⟩
theorem okrun {T : Addr} (F : FunD K "run" "run" s_run f fd T) (drun_and_window : DefOk P w K mg base "run_and_window" 9 KR.spRunW) : FnOk P w K mg base CX0 10 f fd ["state", "given", "bells", "ring", "most"] (liftSp K KR.spRun) := by
  have nd := scrun.nd
  refine funD_ok F scrun (fun ds st Pd h => by obtain ⟨_, _, _, _, _, _, _, rfl, _⟩ := h; rfl) fun cdv A outer s H E hr => ?_
  refine ⟨t_run, ?t, fun ds st Pd h => KR.rd_run h⟩
  case t =>
    refine' dss_cons ?a ?b
    case a => walk_at "d_s"
    case b => walk_at "d_ss"
theorem sc_law_spun : FnScope ["cell", "k", "spun"] ["cell", "k"] (defScope s__law_spun) := ⟨rfl, rfl, rfl, by decide +kernel, rfl, by decide +kernel, by decide +kernel⟩
theorem ok_law_spun (F : Fun K "_law_spun" "_law_spun" s__law_spun f fd)  : FnOk P w K mg base CX0 1 f fd ["cell", "k"] (liftSp K spSpunF) := by
  have nd := sc_law_spun.nd
  refine fun_ok F sc_law_spun (fun ds st Pd h => by obtain ⟨_, _, rfl, _⟩ := h; rfl) fun cdv A outer s H E hr => ?_
  refine ⟨t__law_spun, ?t, fun ds st Pd h => rd__law_spun h⟩
  case t =>
    refine' dss_cons ?a ?b
    case a => walk_at "d_s"
    case b => walk_at "d_ss"
theorem sc_law_menu : FnScope ["cell", "size", "word", "rest", "c"] ["cell", "size"] (defScope s__law_menu) := ⟨rfl, rfl, rfl, by decide +kernel, rfl, by decide +kernel, by decide +kernel⟩
theorem ok_law_menu (F : Fun K "_law_menu" "_law_menu" s__law_menu f fd) (m8 : mg "min" = none) : FnOk P w K mg base CX0 1 f fd ["cell", "size"] (liftSp K spMenu) := by
  have nd := sc_law_menu.nd
  refine fun_ok F sc_law_menu (fun ds st Pd h => by obtain ⟨_, _, rfl, _⟩ := h; rfl) fun cdv A outer s H E hr => ?_
  refine ⟨t__law_menu, ?t, fun ds st Pd h => rd__law_menu h⟩
  case t =>
    refine' dss_cons ?a ?b
    case a => walk_at "d_s"
    case b => walk_at "d_ss"
theorem sc_law_program : FnScope ["script", "size", "some", "cells", "k", "cell"] ["script", "size"] (defScope s__law_program) := ⟨rfl, rfl, rfl, by decide +kernel, rfl, by decide +kernel, by decide +kernel⟩
theorem ok_law_program (F : Fun K "_law_program" "_law_program" s__law_program f fd) (m3 : mg "len" = none) (m7 : mg "range" = none) (d_law_spun : DefOk P w K mg base "_law_spun" 1 spSpunF) (d_law_menu : DefOk P w K mg base "_law_menu" 1 spMenu) : FnOk P w K mg base CX0 2 f fd ["script", "size"] (liftSp K spProgram) := by
  have nd := sc_law_program.nd
  refine fun_ok F sc_law_program (fun ds st Pd h => by obtain ⟨_, _, _, rfl, _⟩ := h; rfl) fun cdv A outer s H E hr => ?_
  refine ⟨t__law_program, ?t, fun ds st Pd h => rd__law_program h⟩
  case t =>
    refine' dss_cons ?a ?b
    case a => walk_at "d_s"
    case b => walk_at "d_ss"
theorem sc_law_begun : FnScope ["script", "first", "size", "cells", "rights", "k", "boxes", "saved", "place"] ["script"] (defScope s__law_begun) := ⟨rfl, rfl, rfl, by decide +kernel, rfl, by decide +kernel, by decide +kernel⟩
theorem ok_law_begun (F : Fun K "_law_begun" "_law_begun" s__law_begun f fd) (m4 : mg "int" = none) (m7 : mg "range" = none) (d_law_spun : DefOk P w K mg base "_law_spun" 1 spSpunF) (d_law_program : DefOk P w K mg base "_law_program" 2 spProgram) : FnOk P w K mg base CX0 3 f fd ["script"] (liftSp K spBegun) := by
  have nd := sc_law_begun.nd
  have hint0 : Hint [(1, "first"), (2, "size")] := ⟨trivial⟩
  refine fun_ok F sc_law_begun (fun ds st Pd h => by obtain ⟨_, _, rfl, _⟩ := h; rfl) fun cdv A outer s H E hr => ?_
  refine ⟨t__law_begun, ?t, fun ds st Pd h => rd__law_begun h⟩
  case t =>
    refine' dss_cons ?a ?b
    case a => walk_at "d_s"
    case b => walk_at "d_ss"
theorem sc_law_may : FnScope ["machine", "address", "bit"] ["machine", "address", "bit"] (defScope s__law_may) := ⟨rfl, rfl, rfl, by decide +kernel, rfl, by decide +kernel, by decide +kernel⟩
theorem ok_law_may (F : Fun K "_law_may" "_law_may" s__law_may f fd) (m3 : mg "len" = none) : FnOk P w K mg base CX0 1 f fd ["machine", "address", "bit"] (liftSp K spMayL) := by
  have nd := sc_law_may.nd
  refine fun_ok F sc_law_may (fun ds st Pd h => by obtain ⟨_, _, _, _, _, _, _, _, rfl, _⟩ := h; rfl) fun cdv A outer s H E hr => ?_
  refine ⟨t__law_may, ?t, fun ds st Pd h => rd__law_may h⟩
  case t =>
    refine' dss_cons ?a ?b
    case a => walk_at "d_s"
    case b => walk_at "d_ss"
theorem sc_law_reckon : FnScope ["machine", "word", "a", "one", "by", "number", "whole"] ["machine", "word", "a", "one", "by"] (defScope s__law_reckon) := ⟨rfl, rfl, rfl, by decide +kernel, rfl, by decide +kernel, by decide +kernel⟩
theorem ok_law_reckon (F : Fun K "_law_reckon" "_law_reckon" s__law_reckon f fd)  : FnOk P w K mg base CX0 1 f fd ["machine", "word", "a", "one", "by"] (liftSp K spReck) := by
  have nd := sc_law_reckon.nd
  refine fun_ok F sc_law_reckon (fun ds st Pd h => by obtain ⟨_, _, _, _, _, _, _, _, _, _, rfl, _⟩ := h; rfl) fun cdv A outer s H E hr => ?_
  refine ⟨t__law_reckon, ?t, fun ds st Pd h => rd__law_reckon h⟩
  case t =>
    refine' dss_cons ?a ?b
    case a => walk_at "d_s"
    case b => walk_at "d_ss"
theorem sc_law_touch : FnScope ["machine", "word", "a", "address", "c", "boxes"] ["machine", "word", "a", "address", "c"] (defScope s__law_touch) := ⟨rfl, rfl, rfl, by decide +kernel, rfl, by decide +kernel, by decide +kernel⟩
theorem ok_law_touch (F : Fun K "_law_touch" "_law_touch" s__law_touch f fd) (m3 : mg "len" = none) (d_law_may : DefOk P w K mg base "_law_may" 1 spMayL) : FnOk P w K mg base CX0 2 f fd ["machine", "word", "a", "address", "c"] (liftSp K spTouch) := by
  have nd := sc_law_touch.nd
  refine fun_ok F sc_law_touch (fun ds st Pd h => by obtain ⟨_, _, _, _, _, _, _, _, _, _, rfl, _⟩ := h; rfl) fun cdv A outer s H E hr => ?_
  refine ⟨t__law_touch, ?t, fun ds st Pd h => rd__law_touch h⟩
  case t =>
    refine' dss_cons ?a ?b
    case a => walk_at "d_s"
    case b => walk_at "d_ss"
theorem sc_law_way : FnScope ["machine", "word", "a", "c", "marks", "some"] ["machine", "word", "a", "c"] (defScope s__law_way) := ⟨rfl, rfl, rfl, by decide +kernel, rfl, by decide +kernel, by decide +kernel⟩
theorem ok_law_way (F : Fun K "_law_way" "_law_way" s__law_way f fd) (m11 : mg "list" = none) : FnOk P w K mg base CX0 1 f fd ["machine", "word", "a", "c"] (liftSp K spWay) := by
  have nd := sc_law_way.nd
  refine fun_ok F sc_law_way (fun ds st Pd h => by obtain ⟨_, _, _, _, _, _, _, _, _, rfl, _⟩ := h; rfl) fun cdv A outer s H E hr => ?_
  refine ⟨t__law_way, ?t, fun ds st Pd h => rd__law_way h⟩
  case t =>
    refine' dss_cons ?a ?b
    case a => walk_at "d_s"
    case b => walk_at "d_ss"
theorem sc_law_step : FnScope ["machine", "heard", "number", "word", "a", "b", "c", "boxes", "said"] ["machine", "heard"] (defScope s__law_step) := ⟨rfl, rfl, rfl, by decide +kernel, rfl, by decide +kernel, by decide +kernel⟩
theorem ok_law_step (F : Fun K "_law_step" "_law_step" s__law_step f fd) (m4 : mg "int" = none) (d_law_may : DefOk P w K mg base "_law_may" 1 spMayL) (d_law_reckon : DefOk P w K mg base "_law_reckon" 1 spReck) (d_law_touch : DefOk P w K mg base "_law_touch" 2 spTouch) (d_law_way : DefOk P w K mg base "_law_way" 1 spWay) : FnOk P w K mg base CX0 3 f fd ["machine", "heard"] (liftSp K spStep) := by
  have nd := sc_law_step.nd
  refine fun_ok F sc_law_step (fun ds st Pd h => by obtain ⟨_, _, _, _, _, _, _, rfl, _⟩ := h; rfl) fun cdv A outer s H E hr => ?_
  refine ⟨t__law_step, ?t, fun ds st Pd h => rd__law_step h⟩
  case t =>
    refine' dss_cons ?a ?b
    case a => walk_at "d_s"
    case b => walk_at "d_ss"
theorem sc_law_state : FnScope ["machine", "place", "boxes", "marks", "saved", "rights", "cells"] ["machine"] (defScope s__law_state) := ⟨rfl, rfl, rfl, by decide +kernel, rfl, by decide +kernel, by decide +kernel⟩
theorem ok_law_state (F : Fun K "_law_state" "_law_state" s__law_state f fd) (m1 : mg "tuple" = none) : FnOk P w K mg base CX0 1 f fd ["machine"] (liftSp K spStateL) := by
  have nd := sc_law_state.nd
  refine fun_ok F sc_law_state (fun ds st Pd h => by obtain ⟨_, _, _, _, _, _, rfl, _⟩ := h; rfl) fun cdv A outer s H E hr => ?_
  refine ⟨t__law_state, ?t, fun ds st Pd h => rd__law_state h⟩
  case t =>
    refine' dss_cons ?a ?b
    case a => walk_at "d_s"
    case b => walk_at "d_ss"
theorem sc_law_due : FnScope ["machine", "given", "bells", "ring", "most", "said", "rows", "heard", "rung", "how", "more", "hears"] ["machine", "given", "bells", "ring", "most"] (defScope s__law_due) := ⟨rfl, rfl, rfl, by decide +kernel, rfl, by decide +kernel, by decide +kernel⟩
theorem ok_law_due (F : Fun K "_law_due" "_law_due" s__law_due f fd) (m1 : mg "tuple" = none) (m3 : mg "len" = none) (m8 : mg "min" = none) (d_law_step : DefOk P w K mg base "_law_step" 3 spStep) (d_law_state : DefOk P w K mg base "_law_state" 1 spStateL) : FnOk P w K mg base CX0 4 f fd ["machine", "given", "bells", "ring", "most"] (liftSp K spDueL) := by
  have nd := sc_law_due.nd
  refine fun_ok F sc_law_due (fun ds st Pd h => by obtain ⟨_, _, _, _, _, _, _, _, _, _, _, _, rfl, _⟩ := h; rfl) fun cdv A outer s H E hr => ?_
  refine ⟨t__law_due, ?t, fun ds st Pd h => rd__law_due h⟩
  case t =>
    refine' dss_cons ?a ?b
    case a => walk_at "d_s"
    case b => walk_at "d_ss"
theorem sc_law_bells : FnScope ["first", "many", "bells", "at", "k", "one"] ["first", "many"] (defScope s__law_bells) := ⟨rfl, rfl, rfl, by decide +kernel, rfl, by decide +kernel, by decide +kernel⟩
theorem ok_law_bells (F : Fun K "_law_bells" "_law_bells" s__law_bells f fd) (m7 : mg "range" = none) (d_law_spun : DefOk P w K mg base "_law_spun" 1 spSpunF) : FnOk P w K mg base CX0 2 f fd ["first", "many"] (liftSp K spBellsL) := by
  have nd := sc_law_bells.nd
  refine fun_ok F sc_law_bells (fun ds st Pd h => by obtain ⟨_, _, rfl, _⟩ := h; rfl) fun cdv A outer s H E hr => ?_
  refine ⟨t__law_bells, ?t, fun ds st Pd h => rd__law_bells h⟩
  case t =>
    refine' dss_cons ?a ?b
    case a => walk_at "d_s"
    case b => walk_at "d_ss"
theorem sc_law_asked : FnScope ["script", "first", "given", "bells", "machine", "ring", "most"] ["script", "first"] (defScope s__law_asked) := ⟨rfl, rfl, rfl, by decide +kernel, rfl, by decide +kernel, by decide +kernel⟩
theorem ok_law_asked (F : Fun K "_law_asked" "_law_asked" s__law_asked f fd) (m3 : mg "len" = none) (m7 : mg "range" = none) (d_law_spun : DefOk P w K mg base "_law_spun" 1 spSpunF) (d_law_begun : DefOk P w K mg base "_law_begun" 3 spBegun) (d_law_bells : DefOk P w K mg base "_law_bells" 2 spBellsL) : FnOk P w K mg base CX0 4 f fd ["script", "first"] (liftSp K spAsked) := by
  have nd := sc_law_asked.nd
  have hint0 : Hint [(1, "first")] := ⟨trivial⟩
  refine fun_ok F sc_law_asked (fun ds st Pd h => by obtain ⟨_, _, _, rfl, _⟩ := h; rfl) fun cdv A outer s H E hr => ?_
  refine ⟨t__law_asked, ?t, fun ds st Pd h => rd__law_asked h⟩
  case t =>
    refine' dss_cons ?a ?b
    case a => walk_at "d_s"
    case b => walk_at "d_ss"
theorem sc_law_kinds : FnScope ["found"] ["found"] (defScope s__law_kinds) := ⟨rfl, rfl, rfl, by decide +kernel, rfl, by decide +kernel, by decide +kernel⟩
theorem ok_law_kinds (F : Fun K "_law_kinds" "_law_kinds" s__law_kinds f fd) (m1 : mg "tuple" = none) (m2 : mg "isinstance" = none) (m3 : mg "len" = none) (m4 : mg "int" = none) (m5 : mg "bool" = none) (m12 : mg "str" = none) : FnOk P w K mg base CX0 1 f fd ["found"] (liftSp K spKindsL) := by
  have nd := sc_law_kinds.nd
  refine fun_ok F sc_law_kinds (fun ds st Pd h => by obtain ⟨_, rfl, _⟩ := h; rfl) fun cdv A outer s H E hr => ?_
  refine ⟨t__law_kinds, ?t, fun ds st Pd h => rd__law_kinds h⟩
  case t =>
    refine' dss_cons ?a ?b
    case a => walk_at "d_s"
    case b => walk_at "d_ss"
theorem sclaw : FnScope ["script", "nothing", "first", "given", "bells", "ring", "most", "state", "due", "handed", "turn", "found", "few"] ["script"] (defScope s_law) := ⟨rfl, rfl, rfl, by decide +kernel, rfl, by decide +kernel, by decide +kernel⟩
theorem oklaw (F : Fun K "law" "law" s_law f fd) (m7 : mg "range" = none) (m10 : mg "sum" = none) (m11 : mg "list" = none) (drun : DefOkD P w K mg base "run" 10 5 KR.spRun (.int 400)) (erun : DefOkK P w K mg base "run" "most" 10 KR.spRun) (d_law_begun : DefOk P w K mg base "_law_begun" 3 spBegun) (d_law_state : DefOk P w K mg base "_law_state" 1 spStateL) (d_law_due : DefOk P w K mg base "_law_due" 4 spDueL) (d_law_asked : DefOk P w K mg base "_law_asked" 4 spAsked) (d_law_kinds : DefOk P w K mg base "_law_kinds" 1 spKindsL) : FnOk P w K mg base CX0 11 f fd ["script"] (liftSp K spLaw) := by
  have nd := sclaw.nd
  refine fun_ok F sclaw (fun ds st Pd h => by obtain ⟨c, rfl, _⟩ := h; rfl) fun cdv A outer s H E hr => ?_
  refine ⟨t_law, ?t, fun ds st Pd h => rd_law h⟩
  case t =>
    refine' dss_cons ?a ?b
    case a => walk_at "d_s"
    case b => walk_at "d_ss"
end
@[elab_as_elim] theorem len1 {C : List Value → Prop} (us : List Value) (hl : us.length = 1) (h : ∀ a0, C [a0]) : C us := by
  match us, hl with
  | [a0], _ => exact h _
@[elab_as_elim] theorem len2 {C : List Value → Prop} (us : List Value) (hl : us.length = 2) (h : ∀ a0 a1, C [a0, a1]) : C us := by
  match us, hl with
  | [a0, a1], _ => exact h _ _
@[elab_as_elim] theorem len3 {C : List Value → Prop} (us : List Value) (hl : us.length = 3) (h : ∀ a0 a1 a2, C [a0, a1, a2]) : C us := by
  match us, hl with
  | [a0, a1, a2], _ => exact h _ _ _
@[elab_as_elim] theorem len4 {C : List Value → Prop} (us : List Value) (hl : us.length = 4) (h : ∀ a0 a1 a2 a3, C [a0, a1, a2, a3]) : C us := by
  match us, hl with
  | [a0, a1, a2, a3], _ => exact h _ _ _ _
@[elab_as_elim] theorem len5 {C : List Value → Prop} (us : List Value) (hl : us.length = 5) (h : ∀ a0 a1 a2 a3 a4, C [a0, a1, a2, a3, a4]) : C us := by
  match us, hl with
  | [a0, a1, a2, a3, a4], _ => exact h _ _ _ _ _
@[elab_as_elim] theorem len6 {C : List Value → Prop} (us : List Value) (hl : us.length = 6) (h : ∀ a0 a1 a2 a3 a4 a5, C [a0, a1, a2, a3, a4, a5]) : C us := by
  match us, hl with
  | [a0, a1, a2, a3, a4, a5], _ => exact h _ _ _ _ _ _
@[elab_as_elim] theorem len7 {C : List Value → Prop} (us : List Value) (hl : us.length = 7) (h : ∀ a0 a1 a2 a3 a4 a5 a6, C [a0, a1, a2, a3, a4, a5, a6]) : C us := by
  match us, hl with
  | [a0, a1, a2, a3, a4, a5, a6], _ => exact h _ _ _ _ _ _ _
@[elab_as_elim] theorem len8 {C : List Value → Prop} (us : List Value) (hl : us.length = 8) (h : ∀ a0 a1 a2 a3 a4 a5 a6 a7, C [a0, a1, a2, a3, a4, a5, a6, a7]) : C us := by
  match us, hl with
  | [a0, a1, a2, a3, a4, a5, a6, a7], _ => exact h _ _ _ _ _ _ _ _
@[elab_as_elim] theorem len9 {C : List Value → Prop} (us : List Value) (hl : us.length = 9) (h : ∀ a0 a1 a2 a3 a4 a5 a6 a7 a8, C [a0, a1, a2, a3, a4, a5, a6, a7, a8]) : C us := by
  match us, hl with
  | [a0, a1, a2, a3, a4, a5, a6, a7, a8], _ => exact h _ _ _ _ _ _ _ _ _
theorem all_mk {l : PySem.W.OpenLaw} {w : World} {K : PySem.W.Frag} {h : Heap} {mg : Str → Option Value} {fa f0 f1 f2 f3 f4 f5 f6 f7 f8 f9 f10 f11 f12 f13 f14 f15 f16 f17 f18 f19 f20 f21 f22 f23 f24 f25 f26 f27 f28 f29 f30 f31 f32 f33 f34 f35 f36 f37 f38 f39 f40 : Addr} (X : K.In h) (G : h.Ns mainGlobals mg) (hfa : mg "law" = some (.ref fa))
    {od0 od1 od2 od3 od4 od5 od6 od7 od8 od9 od10 od11 od12 od13 od14 od15 od16 od17 od18 od19 od20 od21 od22 od23 od24 od25 od26 od27 od28 od29 od30 od31 od32 od33 od34 od35 od36 od37 od38 od39 od40 an0 an1 an2 an3 an4 an5 an6 an7 an8 an9 an10 an11 an12 an13 an14 an15 an16 an17 an18 an19 an20 an21 an22 an23 an24 an25 an26 an27 an28 an29 an30 an31 an32 an33 an34 an35 an36 an37 an38 an39 an40 : Option Addr} {sl0 sl1 sl2 sl3 sl4 sl5 sl6 sl7 sl8 sl9 sl10 sl11 sl12 sl13 sl14 sl15 sl16 sl17 sl18 sl19 sl20 sl21 sl22 sl23 sl24 sl25 sl26 sl27 sl28 sl29 sl30 sl31 sl32 sl33 sl34 sl35 sl36 sl37 sl38 sl39 sl40 : Array (Option Value)} {oc0 oc1 oc2 oc3 oc4 oc5 oc6 oc7 oc8 oc9 oc10 oc11 oc12 oc13 oc14 oc15 oc16 oc17 oc18 oc19 oc20 oc21 oc22 oc23 oc24 oc25 oc26 oc27 oc28 oc29 oc30 oc31 oc32 oc33 oc34 oc35 oc36 oc37 oc38 oc39 oc40 kV0 kV1 kV2 kV3 kV4 kV5 kV6 kV7 kV8 kV9 kV10 kV11 kV12 kV13 kV14 kV15 kV16 kV17 kV18 kV19 kV20 kV21 kV22 kV23 kV24 kV25 kV26 kV27 kV28 kV29 kV30 kV31 kV32 kV33 kV34 kV35 kV36 kV37 kV38 kV39 kV40 dc0 dc1 dc2 dc3 dc4 dc5 dc6 dc7 dc8 dc9 dc10 dc11 dc12 dc13 dc14 dc15 dc16 dc17 dc18 dc19 dc20 dc21 dc22 dc23 dc24 dc25 dc26 dc27 dc28 dc29 dc30 dc31 dc32 dc33 dc34 dc35 dc36 dc37 dc38 dc39 dc40 pm0 pm1 pm2 pm3 pm4 pm5 pm6 pm7 pm8 pm9 pm10 pm11 pm12 pm13 pm14 pm15 pm16 pm17 pm18 pm19 pm20 pm21 pm22 pm23 pm24 pm25 pm26 pm27 pm28 pm29 pm30 pm31 pm32 pm33 pm34 pm35 pm36 pm37 pm38 pm39 pm40 cd0 cd1 cd2 cd3 cd4 cd5 cd6 cd7 cd8 cd9 cd10 cd11 cd12 cd13 cd14 cd15 cd16 cd17 cd18 cd19 cd20 cd21 cd22 cd23 cd24 cd25 cd26 cd27 cd28 cd29 cd30 cd31 cd32 cd33 cd34 cd35 cd36 cd37 cd38 cd39 cd40 ct0 ct1 ct2 ct3 ct4 ct5 ct6 ct7 ct8 ct9 ct10 ct11 ct12 ct13 ct14 ct15 ct16 ct17 ct18 ct19 ct20 ct21 ct22 ct23 ct24 ct25 ct26 ct27 ct28 ct29 ct30 ct31 ct32 ct33 ct34 ct35 ct36 ct37 ct38 ct39 ct40 : Value}
    (a0 : PySem.W.nsIn K mainGlobals "set_out" = some (some (.ref f0))) (l0 : K.lookup f0 = some ⟨oc0, od0, .func (PySem.W.fnOf "set_out" "set_out" (defArgs s_set_out) (defBody s_set_out) (defScope s_set_out) .none kV0 dc0 pm0 an0 cd0 ct0), sl0⟩) (c0 : PySem.W.codeIn K cd0 "set_out" = true) (k0 : PySem.W.keepIn K (.ref f0) = true)
    (a1 : PySem.W.nsIn K mainGlobals "replaced" = some (some (.ref f1))) (l1 : K.lookup f1 = some ⟨oc1, od1, .func (PySem.W.fnOf "replaced" "replaced" (defArgs s_replaced) (defBody s_replaced) (defScope s_replaced) .none kV1 dc1 pm1 an1 cd1 ct1), sl1⟩) (c1 : PySem.W.codeIn K cd1 "replaced" = true) (k1 : PySem.W.keepIn K (.ref f1) = true)
    (a2 : PySem.W.nsIn K mainGlobals "may_be" = some (some (.ref f2))) (l2 : K.lookup f2 = some ⟨oc2, od2, .func (PySem.W.fnOf "may_be" "may_be" (defArgs s_may_be) (defBody s_may_be) (defScope s_may_be) .none kV2 dc2 pm2 an2 cd2 ct2), sl2⟩) (c2 : PySem.W.codeIn K cd2 "may_be" = true) (k2 : PySem.W.keepIn K (.ref f2) = true)
    (a3 : PySem.W.nsIn K mainGlobals "moved" = some (some (.ref f3))) (l3 : K.lookup f3 = some ⟨oc3, od3, .func (PySem.W.fnOf "moved" "moved" (defArgs s_moved) (defBody s_moved) (defScope s_moved) .none kV3 dc3 pm3 an3 cd3 ct3), sl3⟩) (c3 : PySem.W.codeIn K cd3 "moved" = true) (k3 : PySem.W.keepIn K (.ref f3) = true)
    (a4 : PySem.W.nsIn K mainGlobals "one_on" = some (some (.ref f4))) (l4 : K.lookup f4 = some ⟨oc4, od4, .func (PySem.W.fnOf "one_on" "one_on" (defArgs s_one_on) (defBody s_one_on) (defScope s_one_on) .none kV4 dc4 pm4 an4 cd4 ct4), sl4⟩) (c4 : PySem.W.codeIn K cd4 "one_on" = true) (k4 : PySem.W.keepIn K (.ref f4) = true)
    (a5 : PySem.W.nsIn K mainGlobals "with_box" = some (some (.ref f5))) (l5 : K.lookup f5 = some ⟨oc5, od5, .func (PySem.W.fnOf "with_box" "with_box" (defArgs s_with_box) (defBody s_with_box) (defScope s_with_box) .none kV5 dc5 pm5 an5 cd5 ct5), sl5⟩) (c5 : PySem.W.codeIn K cd5 "with_box" = true) (k5 : PySem.W.keepIn K (.ref f5) = true)
    (a6 : PySem.W.nsIn K mainGlobals "with_outcome" = some (some (.ref f6))) (l6 : K.lookup f6 = some ⟨oc6, od6, .func (PySem.W.fnOf "with_outcome" "with_outcome" (defArgs s_with_outcome) (defBody s_with_outcome) (defScope s_with_outcome) .none kV6 dc6 pm6 an6 cd6 ct6), sl6⟩) (c6 : PySem.W.codeIn K cd6 "with_outcome" = true) (k6 : PySem.W.keepIn K (.ref f6) = true)
    (a7 : PySem.W.nsIn K mainGlobals "left" = some (some (.ref f7))) (l7 : K.lookup f7 = some ⟨oc7, od7, .func (PySem.W.fnOf "left" "left" (defArgs s_left) (defBody s_left) (defScope s_left) .none kV7 dc7 pm7 an7 cd7 ct7), sl7⟩) (c7 : PySem.W.codeIn K cd7 "left" = true) (k7 : PySem.W.keepIn K (.ref f7) = true)
    (a8 : PySem.W.nsIn K mainGlobals "on" = some (some (.ref f8))) (l8 : K.lookup f8 = some ⟨oc8, od8, .func (PySem.W.fnOf "on" "on" (defArgs s_on) (defBody s_on) (defScope s_on) .none kV8 dc8 pm8 an8 cd8 ct8), sl8⟩) (c8 : PySem.W.codeIn K cd8 "on" = true) (k8 : PySem.W.keepIn K (.ref f8) = true)
    (a9 : PySem.W.nsIn K mainGlobals "plain_outcome" = some (some (.ref f9))) (l9 : K.lookup f9 = some ⟨oc9, od9, .func (PySem.W.fnOf "plain_outcome" "plain_outcome" (defArgs s_plain_outcome) (defBody s_plain_outcome) (defScope s_plain_outcome) .none kV9 dc9 pm9 an9 cd9 ct9), sl9⟩) (c9 : PySem.W.codeIn K cd9 "plain_outcome" = true) (k9 : PySem.W.keepIn K (.ref f9) = true)
    (a10 : PySem.W.nsIn K mainGlobals "do_count" = some (some (.ref f10))) (l10 : K.lookup f10 = some ⟨oc10, od10, .func (PySem.W.fnOf "do_count" "do_count" (defArgs s_do_count) (defBody s_do_count) (defScope s_do_count) .none kV10 dc10 pm10 an10 cd10 ct10), sl10⟩) (c10 : PySem.W.codeIn K cd10 "do_count" = true) (k10 : PySem.W.keepIn K (.ref f10) = true)
    (a11 : PySem.W.nsIn K mainGlobals "do_div" = some (some (.ref f11))) (l11 : K.lookup f11 = some ⟨oc11, od11, .func (PySem.W.fnOf "do_div" "do_div" (defArgs s_do_div) (defBody s_do_div) (defScope s_do_div) .none kV11 dc11 pm11 an11 cd11 ct11), sl11⟩) (c11 : PySem.W.codeIn K cd11 "do_div" = true) (k11 : PySem.W.keepIn K (.ref f11) = true)
    (a12 : PySem.W.nsIn K mainGlobals "do_get" = some (some (.ref f12))) (l12 : K.lookup f12 = some ⟨oc12, od12, .func (PySem.W.fnOf "do_get" "do_get" (defArgs s_do_get) (defBody s_do_get) (defScope s_do_get) .none kV12 dc12 pm12 an12 cd12 ct12), sl12⟩) (c12 : PySem.W.codeIn K cd12 "do_get" = true) (k12 : PySem.W.keepIn K (.ref f12) = true)
    (a13 : PySem.W.nsIn K mainGlobals "do_set" = some (some (.ref f13))) (l13 : K.lookup f13 = some ⟨oc13, od13, .func (PySem.W.fnOf "do_set" "do_set" (defArgs s_do_set) (defBody s_do_set) (defScope s_do_set) .none kV13 dc13 pm13 an13 cd13 ct13), sl13⟩) (c13 : PySem.W.codeIn K cd13 "do_set" = true) (k13 : PySem.W.keepIn K (.ref f13) = true)
    (a14 : PySem.W.nsIn K mainGlobals "is_when" = some (some (.ref f14))) (l14 : K.lookup f14 = some ⟨oc14, od14, .func (PySem.W.fnOf "is_when" "is_when" (defArgs s_is_when) (defBody s_is_when) (defScope s_is_when) .none kV14 dc14 pm14 an14 cd14 ct14), sl14⟩) (c14 : PySem.W.codeIn K cd14 "is_when" = true) (k14 : PySem.W.keepIn K (.ref f14) = true)
    (a15 : PySem.W.nsIn K mainGlobals "leap_place" = some (some (.ref f15))) (l15 : K.lookup f15 = some ⟨oc15, od15, .func (PySem.W.fnOf "leap_place" "leap_place" (defArgs s_leap_place) (defBody s_leap_place) (defScope s_leap_place) .none kV15 dc15 pm15 an15 cd15 ct15), sl15⟩) (c15 : PySem.W.codeIn K cd15 "leap_place" = true) (k15 : PySem.W.keepIn K (.ref f15) = true)
    (a16 : PySem.W.nsIn K mainGlobals "do_leap" = some (some (.ref f16))) (l16 : K.lookup f16 = some ⟨oc16, od16, .func (PySem.W.fnOf "do_leap" "do_leap" (defArgs s_do_leap) (defBody s_do_leap) (defScope s_do_leap) .none kV16 dc16 pm16 an16 cd16 ct16), sl16⟩) (c16 : PySem.W.codeIn K cd16 "do_leap" = true) (k16 : PySem.W.keepIn K (.ref f16) = true)
    (a17 : PySem.W.nsIn K mainGlobals "do_right" = some (some (.ref f17))) (l17 : K.lookup f17 = some ⟨oc17, od17, .func (PySem.W.fnOf "do_right" "do_right" (defArgs s_do_right) (defBody s_do_right) (defScope s_do_right) .none kV17 dc17 pm17 an17 cd17 ct17), sl17⟩) (c17 : PySem.W.codeIn K cd17 "do_right" = true) (k17 : PySem.W.keepIn K (.ref f17) = true)
    (a18 : PySem.W.nsIn K mainGlobals "do_back" = some (some (.ref f18))) (l18 : K.lookup f18 = some ⟨oc18, od18, .func (PySem.W.fnOf "do_back" "do_back" (defArgs s_do_back) (defBody s_do_back) (defScope s_do_back) .none kV18 dc18 pm18 an18 cd18 ct18), sl18⟩) (c18 : PySem.W.codeIn K cd18 "do_back" = true) (k18 : PySem.W.keepIn K (.ref f18) = true)
    (a19 : PySem.W.nsIn K mainGlobals "do_word" = some (some (.ref f19))) (l19 : K.lookup f19 = some ⟨oc19, od19, .func (PySem.W.fnOf "do_word" "do_word" (defArgs s_do_word) (defBody s_do_word) (defScope s_do_word) .none kV19 dc19 pm19 an19 cd19 ct19), sl19⟩) (c19 : PySem.W.codeIn K cd19 "do_word" = true) (k19 : PySem.W.keepIn K (.ref f19) = true)
    (a20 : PySem.W.nsIn K mainGlobals "do_row" = some (some (.ref f20))) (l20 : K.lookup f20 = some ⟨oc20, od20, .func (PySem.W.fnOf "do_row" "do_row" (defArgs s_do_row) (defBody s_do_row) (defScope s_do_row) .none kV20 dc20 pm20 an20 cd20 ct20), sl20⟩) (c20 : PySem.W.codeIn K cd20 "do_row" = true) (k20 : PySem.W.keepIn K (.ref f20) = true)
    (a21 : PySem.W.nsIn K mainGlobals "is_due" = some (some (.ref f21))) (l21 : K.lookup f21 = some ⟨oc21, od21, .func (PySem.W.fnOf "is_due" "is_due" (defArgs s_is_due) (defBody s_is_due) (defScope s_is_due) .none kV21 dc21 pm21 an21 cd21 ct21), sl21⟩) (c21 : PySem.W.codeIn K cd21 "is_due" = true) (k21 : PySem.W.keepIn K (.ref f21) = true)
    (a22 : PySem.W.nsIn K mainGlobals "with_bell" = some (some (.ref f22))) (l22 : K.lookup f22 = some ⟨oc22, od22, .func (PySem.W.fnOf "with_bell" "with_bell" (defArgs s_with_bell) (defBody s_with_bell) (defScope s_with_bell) .none kV22 dc22 pm22 an22 cd22 ct22), sl22⟩) (c22 : PySem.W.codeIn K cd22 "with_bell" = true) (k22 : PySem.W.keepIn K (.ref f22) = true)
    (a23 : PySem.W.nsIn K mainGlobals "is_hear" = some (some (.ref f23))) (l23 : K.lookup f23 = some ⟨oc23, od23, .func (PySem.W.fnOf "is_hear" "is_hear" (defArgs s_is_hear) (defBody s_is_hear) (defScope s_is_hear) .none kV23 dc23 pm23 an23 cd23 ct23), sl23⟩) (c23 : PySem.W.codeIn K cd23 "is_hear" = true) (k23 : PySem.W.keepIn K (.ref f23) = true)
    (a24 : PySem.W.nsIn K mainGlobals "run_and_window" = some (some (.ref f24))) (l24 : K.lookup f24 = some ⟨oc24, od24, .func (PySem.W.fnOf "run_and_window" "run_and_window" (defArgs s_run_and_window) (defBody s_run_and_window) (defScope s_run_and_window) .none kV24 dc24 pm24 an24 cd24 ct24), sl24⟩) (c24 : PySem.W.codeIn K cd24 "run_and_window" = true) (k24 : PySem.W.keepIn K (.ref f24) = true)
    {T25 : Addr} {jD25 : Array Value} {mD25 : Nat} {rD25 : Array (Option Value)} {hD25 : Option Addr} {gD25 : Value}
    (a25 : PySem.W.nsIn K mainGlobals "run" = some (some (.ref f25))) (l25 : K.lookup f25 = some ⟨oc25, od25, .func (PySem.W.fnOf "run" "run" (defArgs s_run) (defBody s_run) (defScope s_run) (.ref T25) kV25 dc25 pm25 an25 cd25 ct25), sl25⟩) (c25 : PySem.W.codeIn K cd25 "run" = true) (k25 : PySem.W.keepIn K (.ref f25) = true)
    (y25 : K.lookup T25 = some ⟨gD25, hD25, .seq jD25 mD25, rD25⟩) (x25 : intIs jD25.toList 400 = true)
    (a26 : PySem.W.nsIn K mainGlobals "_law_spun" = some (some (.ref f26))) (l26 : K.lookup f26 = some ⟨oc26, od26, .func (PySem.W.fnOf "_law_spun" "_law_spun" (defArgs s__law_spun) (defBody s__law_spun) (defScope s__law_spun) .none kV26 dc26 pm26 an26 cd26 ct26), sl26⟩) (c26 : PySem.W.codeIn K cd26 "_law_spun" = true) (k26 : PySem.W.keepIn K (.ref f26) = true)
    (a27 : PySem.W.nsIn K mainGlobals "_law_menu" = some (some (.ref f27))) (l27 : K.lookup f27 = some ⟨oc27, od27, .func (PySem.W.fnOf "_law_menu" "_law_menu" (defArgs s__law_menu) (defBody s__law_menu) (defScope s__law_menu) .none kV27 dc27 pm27 an27 cd27 ct27), sl27⟩) (c27 : PySem.W.codeIn K cd27 "_law_menu" = true) (k27 : PySem.W.keepIn K (.ref f27) = true)
    (a28 : PySem.W.nsIn K mainGlobals "_law_program" = some (some (.ref f28))) (l28 : K.lookup f28 = some ⟨oc28, od28, .func (PySem.W.fnOf "_law_program" "_law_program" (defArgs s__law_program) (defBody s__law_program) (defScope s__law_program) .none kV28 dc28 pm28 an28 cd28 ct28), sl28⟩) (c28 : PySem.W.codeIn K cd28 "_law_program" = true) (k28 : PySem.W.keepIn K (.ref f28) = true)
    (a29 : PySem.W.nsIn K mainGlobals "_law_begun" = some (some (.ref f29))) (l29 : K.lookup f29 = some ⟨oc29, od29, .func (PySem.W.fnOf "_law_begun" "_law_begun" (defArgs s__law_begun) (defBody s__law_begun) (defScope s__law_begun) .none kV29 dc29 pm29 an29 cd29 ct29), sl29⟩) (c29 : PySem.W.codeIn K cd29 "_law_begun" = true) (k29 : PySem.W.keepIn K (.ref f29) = true)
    (a30 : PySem.W.nsIn K mainGlobals "_law_may" = some (some (.ref f30))) (l30 : K.lookup f30 = some ⟨oc30, od30, .func (PySem.W.fnOf "_law_may" "_law_may" (defArgs s__law_may) (defBody s__law_may) (defScope s__law_may) .none kV30 dc30 pm30 an30 cd30 ct30), sl30⟩) (c30 : PySem.W.codeIn K cd30 "_law_may" = true) (k30 : PySem.W.keepIn K (.ref f30) = true)
    (a31 : PySem.W.nsIn K mainGlobals "_law_reckon" = some (some (.ref f31))) (l31 : K.lookup f31 = some ⟨oc31, od31, .func (PySem.W.fnOf "_law_reckon" "_law_reckon" (defArgs s__law_reckon) (defBody s__law_reckon) (defScope s__law_reckon) .none kV31 dc31 pm31 an31 cd31 ct31), sl31⟩) (c31 : PySem.W.codeIn K cd31 "_law_reckon" = true) (k31 : PySem.W.keepIn K (.ref f31) = true)
    (a32 : PySem.W.nsIn K mainGlobals "_law_touch" = some (some (.ref f32))) (l32 : K.lookup f32 = some ⟨oc32, od32, .func (PySem.W.fnOf "_law_touch" "_law_touch" (defArgs s__law_touch) (defBody s__law_touch) (defScope s__law_touch) .none kV32 dc32 pm32 an32 cd32 ct32), sl32⟩) (c32 : PySem.W.codeIn K cd32 "_law_touch" = true) (k32 : PySem.W.keepIn K (.ref f32) = true)
    (a33 : PySem.W.nsIn K mainGlobals "_law_way" = some (some (.ref f33))) (l33 : K.lookup f33 = some ⟨oc33, od33, .func (PySem.W.fnOf "_law_way" "_law_way" (defArgs s__law_way) (defBody s__law_way) (defScope s__law_way) .none kV33 dc33 pm33 an33 cd33 ct33), sl33⟩) (c33 : PySem.W.codeIn K cd33 "_law_way" = true) (k33 : PySem.W.keepIn K (.ref f33) = true)
    (a34 : PySem.W.nsIn K mainGlobals "_law_step" = some (some (.ref f34))) (l34 : K.lookup f34 = some ⟨oc34, od34, .func (PySem.W.fnOf "_law_step" "_law_step" (defArgs s__law_step) (defBody s__law_step) (defScope s__law_step) .none kV34 dc34 pm34 an34 cd34 ct34), sl34⟩) (c34 : PySem.W.codeIn K cd34 "_law_step" = true) (k34 : PySem.W.keepIn K (.ref f34) = true)
    (a35 : PySem.W.nsIn K mainGlobals "_law_state" = some (some (.ref f35))) (l35 : K.lookup f35 = some ⟨oc35, od35, .func (PySem.W.fnOf "_law_state" "_law_state" (defArgs s__law_state) (defBody s__law_state) (defScope s__law_state) .none kV35 dc35 pm35 an35 cd35 ct35), sl35⟩) (c35 : PySem.W.codeIn K cd35 "_law_state" = true) (k35 : PySem.W.keepIn K (.ref f35) = true)
    (a36 : PySem.W.nsIn K mainGlobals "_law_due" = some (some (.ref f36))) (l36 : K.lookup f36 = some ⟨oc36, od36, .func (PySem.W.fnOf "_law_due" "_law_due" (defArgs s__law_due) (defBody s__law_due) (defScope s__law_due) .none kV36 dc36 pm36 an36 cd36 ct36), sl36⟩) (c36 : PySem.W.codeIn K cd36 "_law_due" = true) (k36 : PySem.W.keepIn K (.ref f36) = true)
    (a37 : PySem.W.nsIn K mainGlobals "_law_bells" = some (some (.ref f37))) (l37 : K.lookup f37 = some ⟨oc37, od37, .func (PySem.W.fnOf "_law_bells" "_law_bells" (defArgs s__law_bells) (defBody s__law_bells) (defScope s__law_bells) .none kV37 dc37 pm37 an37 cd37 ct37), sl37⟩) (c37 : PySem.W.codeIn K cd37 "_law_bells" = true) (k37 : PySem.W.keepIn K (.ref f37) = true)
    (a38 : PySem.W.nsIn K mainGlobals "_law_asked" = some (some (.ref f38))) (l38 : K.lookup f38 = some ⟨oc38, od38, .func (PySem.W.fnOf "_law_asked" "_law_asked" (defArgs s__law_asked) (defBody s__law_asked) (defScope s__law_asked) .none kV38 dc38 pm38 an38 cd38 ct38), sl38⟩) (c38 : PySem.W.codeIn K cd38 "_law_asked" = true) (k38 : PySem.W.keepIn K (.ref f38) = true)
    (a39 : PySem.W.nsIn K mainGlobals "_law_kinds" = some (some (.ref f39))) (l39 : K.lookup f39 = some ⟨oc39, od39, .func (PySem.W.fnOf "_law_kinds" "_law_kinds" (defArgs s__law_kinds) (defBody s__law_kinds) (defScope s__law_kinds) .none kV39 dc39 pm39 an39 cd39 ct39), sl39⟩) (c39 : PySem.W.codeIn K cd39 "_law_kinds" = true) (k39 : PySem.W.keepIn K (.ref f39) = true)
    (a40 : PySem.W.nsIn K mainGlobals "law" = some (some (.ref f40))) (l40 : K.lookup f40 = some ⟨oc40, od40, .func (PySem.W.fnOf "law" "law" (defArgs s_law) (defBody s_law) (defScope s_law) .none kV40 dc40 pm40 an40 cd40 ct40), sl40⟩) (c40 : PySem.W.codeIn K cd40 "law" = true) (k40 : PySem.W.keepIn K (.ref f40) = true)
    {aT0 : Addr} {iT0 : Array Value} {nT0 : Nat} {sT0 : Array (Option Value)} (b0 : PySem.W.nsIn K mainGlobals "WORDS" = some (some (.ref aT0))) (e0 : K.lookup aT0 = some ⟨.type "tuple", none, .seq iT0 nT0, sT0⟩) (v0 : strsAre iT0.toList K01.wordsS = true) (w0 : iT0.size ≤ sizeLine)
    {tI0 : Tok} (p0 : PySem.W.nsIn K mainGlobals "PLACE" = some (some (.int 0 tI0)))
    {tI1 : Tok} (p1 : PySem.W.nsIn K mainGlobals "BOXES" = some (some (.int 1 tI1)))
    {tI2 : Tok} (p2 : PySem.W.nsIn K mainGlobals "MARKS" = some (some (.int 2 tI2)))
    {tI3 : Tok} (p3 : PySem.W.nsIn K mainGlobals "SAVED" = some (some (.int 3 tI3)))
    {tI4 : Tok} (p4 : PySem.W.nsIn K mainGlobals "RIGHTS" = some (some (.int 4 tI4)))
    {tI5 : Tok} (p5 : PySem.W.nsIn K mainGlobals "CELLS" = some (some (.int 5 tI5)))
    {tI6 : Tok} (p6 : PySem.W.nsIn K mainGlobals "READ" = some (some (.int 1 tI6)))
    {tI7 : Tok} (p7 : PySem.W.nsIn K mainGlobals "WRITTEN" = some (some (.int 2 tI7)))
    {tI8 : Tok} (p8 : PySem.W.nsIn K mainGlobals "RUN" = some (some (.int 4 tI8)))
    (z0 : PySem.W.nsIn K mainGlobals "all" = some none)
    (z1 : PySem.W.nsIn K mainGlobals "tuple" = some none)
    (z2 : PySem.W.nsIn K mainGlobals "isinstance" = some none)
    (z3 : PySem.W.nsIn K mainGlobals "len" = some none)
    (z4 : PySem.W.nsIn K mainGlobals "int" = some none)
    (z5 : PySem.W.nsIn K mainGlobals "bool" = some none)
    (z6 : PySem.W.nsIn K mainGlobals "enumerate" = some none)
    (z7 : PySem.W.nsIn K mainGlobals "range" = some none)
    (z8 : PySem.W.nsIn K mainGlobals "min" = some none)
    (z9 : PySem.W.nsIn K mainGlobals "max" = some none)
    (z10 : PySem.W.nsIn K mainGlobals "sum" = some none)
    (z11 : PySem.W.nsIn K mainGlobals "list" = some none)
    (z12 : PySem.W.nsIn K mainGlobals "str" = some none)
    : ∃ fd : FuncData, (∀ (s : Shared) (v : Value), BindsTo s fd ⟨[v], []⟩ [("script", v)]) ∧ ∀ base : Heap, K.In base → base.Ns mainGlobals mg → FnOk l.prog w K mg base CX0 11 fa fd ["script"] (liftSp K spLaw) := by
  have e := hfa.symm.trans (PySem.W.mg_of X G a40)
  cases e
  have F0 := fun_mk (st := s_set_out) l0 c0 k0
  have B0 := F0.binds (ps := ["number"]) fun _ _ _ _ _ _ us hl => len1 us hl fun _ => rfl
  have F1 := fun_mk (st := s_replaced) l1 c1 k1
  have B1 := F1.binds (ps := ["parts", "k", "part"]) fun _ _ _ _ _ _ us hl => len3 us hl fun _ _ _ => rfl
  have F2 := fun_mk (st := s_may_be) l2 c2 k2
  have B2 := F2.binds (ps := ["right", "state", "address"]) fun _ _ _ _ _ _ us hl => len3 us hl fun _ _ _ => rfl
  have F3 := fun_mk (st := s_moved) l3 c3 k3
  have B3 := F3.binds (ps := ["state", "place"]) fun _ _ _ _ _ _ us hl => len2 us hl fun _ _ => rfl
  have F4 := fun_mk (st := s_one_on) l4 c4 k4
  have B4 := F4.binds (ps := ["state"]) fun _ _ _ _ _ _ us hl => len1 us hl fun _ => rfl
  have F5 := fun_mk (st := s_with_box) l5 c5 k5
  have B5 := F5.binds (ps := ["state", "a", "number"]) fun _ _ _ _ _ _ us hl => len3 us hl fun _ _ _ => rfl
  have F6 := fun_mk (st := s_with_outcome) l6 c6 k6
  have B6 := F6.binds (ps := ["state", "a", "number", "carry"]) fun _ _ _ _ _ _ us hl => len4 us hl fun _ _ _ _ => rfl
  have F7 := fun_mk (st := s_left) l7 c7 k7
  have B7 := F7.binds (ps := ["how", "state"]) fun _ _ _ _ _ _ us hl => len2 us hl fun _ _ => rfl
  have F8 := fun_mk (st := s_on) l8 c8 k8
  have B8 := F8.binds (ps := ["state"]) fun _ _ _ _ _ _ us hl => len1 us hl fun _ => rfl
  have F9 := fun_mk (st := s_plain_outcome) l9 c9 k9
  have B9 := F9.binds (ps := ["word", "x", "y"]) fun _ _ _ _ _ _ us hl => len3 us hl fun _ _ _ => rfl
  have F10 := fun_mk (st := s_do_count) l10 c10 k10
  have B10 := F10.binds (ps := ["state", "word", "a", "x", "y"]) fun _ _ _ _ _ _ us hl => len5 us hl fun _ _ _ _ _ => rfl
  have F11 := fun_mk (st := s_do_div) l11 c11 k11
  have B11 := F11.binds (ps := ["state", "a", "x", "y"]) fun _ _ _ _ _ _ us hl => len4 us hl fun _ _ _ _ => rfl
  have F12 := fun_mk (st := s_do_get) l12 c12 k12
  have B12 := F12.binds (ps := ["state", "a", "address"]) fun _ _ _ _ _ _ us hl => len3 us hl fun _ _ _ => rfl
  have F13 := fun_mk (st := s_do_set) l13 c13 k13
  have B13 := F13.binds (ps := ["state", "number", "address"]) fun _ _ _ _ _ _ us hl => len3 us hl fun _ _ _ => rfl
  have F14 := fun_mk (st := s_is_when) l14 c14 k14
  have B14 := F14.binds (ps := ["a", "marks"]) fun _ _ _ _ _ _ us hl => len2 us hl fun _ _ => rfl
  have F15 := fun_mk (st := s_leap_place) l15 c15 k15
  have B15 := F15.binds (ps := ["place", "c"]) fun _ _ _ _ _ _ us hl => len2 us hl fun _ _ => rfl
  have F16 := fun_mk (st := s_do_leap) l16 c16 k16
  have B16 := F16.binds (ps := ["state", "c"]) fun _ _ _ _ _ _ us hl => len2 us hl fun _ _ => rfl
  have F17 := fun_mk (st := s_do_right) l17 c17 k17
  have B17 := F17.binds (ps := ["state", "page", "rights"]) fun _ _ _ _ _ _ us hl => len3 us hl fun _ _ _ => rfl
  have F18 := fun_mk (st := s_do_back) l18 c18 k18
  have B18 := F18.binds (ps := ["state"]) fun _ _ _ _ _ _ us hl => len1 us hl fun _ => rfl
  have F19 := fun_mk (st := s_do_word) l19 c19 k19
  have B19 := F19.binds (ps := ["state", "row", "heard"]) fun _ _ _ _ _ _ us hl => len3 us hl fun _ _ _ => rfl
  have F20 := fun_mk (st := s_do_row) l20 c20 k20
  have B20 := F20.binds (ps := ["state", "heard"]) fun _ _ _ _ _ _ us hl => len2 us hl fun _ _ => rfl
  have F21 := fun_mk (st := s_is_due) l21 c21 k21
  have B21 := F21.binds (ps := ["state", "bells", "rung", "done"]) fun _ _ _ _ _ _ us hl => len4 us hl fun _ _ _ _ => rfl
  have F22 := fun_mk (st := s_with_bell) l22 c22 k22
  have B22 := F22.binds (ps := ["state", "ring"]) fun _ _ _ _ _ _ us hl => len2 us hl fun _ _ => rfl
  have F23 := fun_mk (st := s_is_hear) l23 c23 k23
  have B23 := F23.binds (ps := ["state"]) fun _ _ _ _ _ _ us hl => len1 us hl fun _ => rfl
  have F24 := fun_mk (st := s_run_and_window) l24 c24 k24
  have B24 := F24.binds (ps := ["state", "given", "bells", "ring", "most"]) fun _ _ _ _ _ _ us hl => len5 us hl fun _ _ _ _ _ => rfl
  obtain ⟨tD25, rfl⟩ := intIs_of x25
  have F25 := funD_mk (st := s_run) l25 c25 k25
  have B25 : Binds K (PySem.W.fnOf "run" "run" (defArgs s_run) (defBody s_run) (defScope s_run) (.ref T25) kV25 dc25 pm25 an25 cd25 ct25) ["state", "given", "bells", "ring", "most"] [] := fun s us Y hl => len5 us (by simpa using hl) fun _ _ _ _ _ => BindsTo.of_defaults rfl (Y _ _ y25) rfl rfl rfl
  have BD25 : Binds K (PySem.W.fnOf "run" "run" (defArgs s_run) (defBody s_run) (defScope s_run) (.ref T25) kV25 dc25 pm25 an25 cd25 ct25) ["state", "given", "bells", "ring", "most"] [.int 400 tD25] := fun s us Y hl => have hl2 : us.length = 4 := (by simpa using hl); len4 us hl2 fun _ _ _ _ => BindsTo.of_defaults rfl (Y _ _ y25) rfl rfl rfl
  have BK25 : KBinds K (PySem.W.fnOf "run" "run" (defArgs s_run) (defBody s_run) (defScope s_run) (.ref T25) kV25 dc25 pm25 an25 cd25 ct25) ["state", "given", "bells", "ring", "most"] ["most"] kwG kwG := ⟨fun s us ws Y hl => match ws, hl with | [_], hl => (have hl2 : us.length = 4 := (by simpa [kwG] using hl); len4 us hl2 fun _ _ _ _ => BindsTo.of_defaults rfl (Y _ _ y25) rfl rfl rfl) | [], hl => absurd hl (by simp [kwG]) | _ :: _ :: _, hl => absurd hl (by simp [kwG]), kw_rel⟩
  have F26 := fun_mk (st := s__law_spun) l26 c26 k26
  have B26 := F26.binds (ps := ["cell", "k"]) fun _ _ _ _ _ _ us hl => len2 us hl fun _ _ => rfl
  have F27 := fun_mk (st := s__law_menu) l27 c27 k27
  have B27 := F27.binds (ps := ["cell", "size"]) fun _ _ _ _ _ _ us hl => len2 us hl fun _ _ => rfl
  have F28 := fun_mk (st := s__law_program) l28 c28 k28
  have B28 := F28.binds (ps := ["script", "size"]) fun _ _ _ _ _ _ us hl => len2 us hl fun _ _ => rfl
  have F29 := fun_mk (st := s__law_begun) l29 c29 k29
  have B29 := F29.binds (ps := ["script"]) fun _ _ _ _ _ _ us hl => len1 us hl fun _ => rfl
  have F30 := fun_mk (st := s__law_may) l30 c30 k30
  have B30 := F30.binds (ps := ["machine", "address", "bit"]) fun _ _ _ _ _ _ us hl => len3 us hl fun _ _ _ => rfl
  have F31 := fun_mk (st := s__law_reckon) l31 c31 k31
  have B31 := F31.binds (ps := ["machine", "word", "a", "one", "by"]) fun _ _ _ _ _ _ us hl => len5 us hl fun _ _ _ _ _ => rfl
  have F32 := fun_mk (st := s__law_touch) l32 c32 k32
  have B32 := F32.binds (ps := ["machine", "word", "a", "address", "c"]) fun _ _ _ _ _ _ us hl => len5 us hl fun _ _ _ _ _ => rfl
  have F33 := fun_mk (st := s__law_way) l33 c33 k33
  have B33 := F33.binds (ps := ["machine", "word", "a", "c"]) fun _ _ _ _ _ _ us hl => len4 us hl fun _ _ _ _ => rfl
  have F34 := fun_mk (st := s__law_step) l34 c34 k34
  have B34 := F34.binds (ps := ["machine", "heard"]) fun _ _ _ _ _ _ us hl => len2 us hl fun _ _ => rfl
  have F35 := fun_mk (st := s__law_state) l35 c35 k35
  have B35 := F35.binds (ps := ["machine"]) fun _ _ _ _ _ _ us hl => len1 us hl fun _ => rfl
  have F36 := fun_mk (st := s__law_due) l36 c36 k36
  have B36 := F36.binds (ps := ["machine", "given", "bells", "ring", "most"]) fun _ _ _ _ _ _ us hl => len5 us hl fun _ _ _ _ _ => rfl
  have F37 := fun_mk (st := s__law_bells) l37 c37 k37
  have B37 := F37.binds (ps := ["first", "many"]) fun _ _ _ _ _ _ us hl => len2 us hl fun _ _ => rfl
  have F38 := fun_mk (st := s__law_asked) l38 c38 k38
  have B38 := F38.binds (ps := ["script", "first"]) fun _ _ _ _ _ _ us hl => len2 us hl fun _ _ => rfl
  have F39 := fun_mk (st := s__law_kinds) l39 c39 k39
  have B39 := F39.binds (ps := ["found"]) fun _ _ _ _ _ _ us hl => len1 us hl fun _ => rfl
  have F40 := fun_mk (st := s_law) l40 c40 k40
  have gT0 := conT_strs (mg := mg) (x := "WORDS") (PySem.W.mg_of X G b0) e0 v0 w0
  have gI0 := con_int (K := K) (PySem.W.mg_of X G p0)
  have gI1 := con_int (K := K) (PySem.W.mg_of X G p1)
  have gI2 := con_int (K := K) (PySem.W.mg_of X G p2)
  have gI3 := con_int (K := K) (PySem.W.mg_of X G p3)
  have gI4 := con_int (K := K) (PySem.W.mg_of X G p4)
  have gI5 := con_int (K := K) (PySem.W.mg_of X G p5)
  have gI6 := con_int (K := K) (PySem.W.mg_of X G p6)
  have gI7 := con_int (K := K) (PySem.W.mg_of X G p7)
  have gI8 := con_int (K := K) (PySem.W.mg_of X G p8)
  have m0 := PySem.W.mg_none_of X G z0
  have m1 := PySem.W.mg_none_of X G z1
  have m2 := PySem.W.mg_none_of X G z2
  have m3 := PySem.W.mg_none_of X G z3
  have m4 := PySem.W.mg_none_of X G z4
  have m5 := PySem.W.mg_none_of X G z5
  have m6 := PySem.W.mg_none_of X G z6
  have m7 := PySem.W.mg_none_of X G z7
  have m8 := PySem.W.mg_none_of X G z8
  have m9 := PySem.W.mg_none_of X G z9
  have m10 := PySem.W.mg_none_of X G z10
  have m11 := PySem.W.mg_none_of X G z11
  have m12 := PySem.W.mg_none_of X G z12
  refine ⟨PySem.W.fnOf "law" "law" (defArgs s_law) (defBody s_law) (defScope s_law) .none kV40 dc40 pm40 an40 cd40 ct40, fun s v => .of_eq rfl, fun base _ _ => ?_⟩
  have Dset_out : DefOk l.prog w K mg base "set_out" 1 K01.spSetOut := ⟨_, _, _, okset_out F0 gT0, PySem.W.mg_of X G a0, k0, B0⟩
  have Dreplaced : DefOk l.prog w K mg base "replaced" 1 K06.spReplaced := ⟨_, _, _, okreplaced F1 , PySem.W.mg_of X G a1, k1, B1⟩
  have Dmay_be : DefOk l.prog w K mg base "may_be" 1 K06.spMay := ⟨_, _, _, okmay_be F2 gI4 gI5 m3, PySem.W.mg_of X G a2, k2, B2⟩
  have Dmoved : DefOk l.prog w K mg base "moved" 2 K06.spMoved := ⟨_, _, _, okmoved F3 gI0 Dreplaced, PySem.W.mg_of X G a3, k3, B3⟩
  have Done_on : DefOk l.prog w K mg base "one_on" 3 K06.spOneOn := ⟨_, _, _, okone_on F4 gI0 Dmoved, PySem.W.mg_of X G a4, k4, B4⟩
  have Dwith_box : DefOk l.prog w K mg base "with_box" 4 K06.spWithBox := ⟨_, _, _, okwith_box F5 gI1 Dreplaced Done_on, PySem.W.mg_of X G a5, k5, B5⟩
  have Dwith_outcome : DefOk l.prog w K mg base "with_outcome" 5 K06.spWithOut := ⟨_, _, _, okwith_outcome F6 gI2 Dreplaced Dwith_box, PySem.W.mg_of X G a6, k6, B6⟩
  have Dleft : DefOk l.prog w K mg base "left" 1 K06.spLeft := ⟨_, _, _, okleft F7 , PySem.W.mg_of X G a7, k7, B7⟩
  have Don : DefOk l.prog w K mg base "on" 1 K06.spOn := ⟨_, _, _, okon F8 , PySem.W.mg_of X G a8, k8, B8⟩
  have Dplain_outcome : DefOk l.prog w K mg base "plain_outcome" 1 K06.spPlain := ⟨_, _, _, okplain_outcome F9 , PySem.W.mg_of X G a9, k9, B9⟩
  have Ddo_count : DefOk l.prog w K mg base "do_count" 6 K06.spCount := ⟨_, _, _, okdo_count F10 Dwith_outcome Don Dplain_outcome, PySem.W.mg_of X G a10, k10, B10⟩
  have Ddo_div : DefOk l.prog w K mg base "do_div" 6 K06.spDiv := ⟨_, _, _, okdo_div F11 Dwith_outcome Dleft Don, PySem.W.mg_of X G a11, k11, B11⟩
  have Ddo_get : DefOk l.prog w K mg base "do_get" 6 K06.spGet := ⟨_, _, _, okdo_get F12 gI5 gI6 Dmay_be Dwith_box Dleft Don, PySem.W.mg_of X G a12, k12, B12⟩
  have Ddo_set : DefOk l.prog w K mg base "do_set" 6 K06.spSet := ⟨_, _, _, okdo_set F13 gI5 gI7 Dreplaced Dmay_be Done_on Dleft Don, PySem.W.mg_of X G a13, k13, B13⟩
  have Dis_when : DefOk l.prog w K mg base "is_when" 1 K06.spIsWhen := ⟨_, _, _, okis_when F14 , PySem.W.mg_of X G a14, k14, B14⟩
  have Dleap_place : DefOk l.prog w K mg base "leap_place" 1 K06.spLeapPlace := ⟨_, _, _, okleap_place F15 , PySem.W.mg_of X G a15, k15, B15⟩
  have Ddo_leap : DefOk l.prog w K mg base "do_leap" 6 K06.spLeap := ⟨_, _, _, okdo_leap F16 gI0 Dmoved Don Dleap_place, PySem.W.mg_of X G a16, k16, B16⟩
  have Ddo_right : DefOk l.prog w K mg base "do_right" 6 K06.spRightW := ⟨_, _, _, okdo_right F17 gI4 m3 Dreplaced Done_on Dleft Don, PySem.W.mg_of X G a17, k17, B17⟩
  have Ddo_back : DefOk l.prog w K mg base "do_back" 6 K06.spBack := ⟨_, _, _, okdo_back F18 gI1 gI3 gI4 gI5 Dleft Don, PySem.W.mg_of X G a18, k18, B18⟩
  have Ddo_word : DefOk l.prog w K mg base "do_word" 7 K06.spDoWord := ⟨_, _, _, okdo_word F19 gI1 gI2 Dmoved Done_on Dwith_box Dleft Don Ddo_count Ddo_div Ddo_get Ddo_set Dis_when Ddo_leap Ddo_right Ddo_back, PySem.W.mg_of X G a19, k19, B19⟩
  have Ddo_row : DefOk l.prog w K mg base "do_row" 8 K06.spDoRow := ⟨_, _, _, okdo_row F20 gI0 gI5 gI8 Dset_out Dmay_be Dleft Ddo_word, PySem.W.mg_of X G a20, k20, B20⟩
  have Dis_due : DefOk l.prog w K mg base "is_due" 1 KR.spDue := ⟨_, _, _, okis_due F21 gI3 m3, PySem.W.mg_of X G a21, k21, B21⟩
  have Dwith_bell : DefOk l.prog w K mg base "with_bell" 2 KR.spBell := ⟨_, _, _, okwith_bell F22 gI0 gI2 gI3 Dreplaced, PySem.W.mg_of X G a22, k22, B22⟩
  have Dis_hear : DefOk l.prog w K mg base "is_hear" 2 KR.spHear := ⟨_, _, _, okis_hear F23 gI0 gI5 Dset_out, PySem.W.mg_of X G a23, k23, B23⟩
  have Drun_and_window : DefOk l.prog w K mg base "run_and_window" 9 KR.spRunW := ⟨_, _, _, okrun_and_window F24 m1 m3 m7 Ddo_row Dis_due Dwith_bell Dis_hear, PySem.W.mg_of X G a24, k24, B24⟩
  have Orun := okrun (P := l.prog) (w := w) (mg := mg) (base := base) F25 Drun_and_window
  have Drun : DefOkD l.prog w K mg base "run" 10 5 KR.spRun (.int 400) := DefOkD.of Orun (PySem.W.mg_of X G a25) k25 B25 BD25
  have Erun : DefOkK l.prog w K mg base "run" "most" 10 KR.spRun := ⟨_, _, _, Orun, PySem.W.mg_of X G a25, k25, BK25⟩
  have D_law_spun : DefOk l.prog w K mg base "_law_spun" 1 spSpunF := ⟨_, _, _, ok_law_spun F26 , PySem.W.mg_of X G a26, k26, B26⟩
  have D_law_menu : DefOk l.prog w K mg base "_law_menu" 1 spMenu := ⟨_, _, _, ok_law_menu F27 m8, PySem.W.mg_of X G a27, k27, B27⟩
  have D_law_program : DefOk l.prog w K mg base "_law_program" 2 spProgram := ⟨_, _, _, ok_law_program F28 m3 m7 D_law_spun D_law_menu, PySem.W.mg_of X G a28, k28, B28⟩
  have D_law_begun : DefOk l.prog w K mg base "_law_begun" 3 spBegun := ⟨_, _, _, ok_law_begun F29 m4 m7 D_law_spun D_law_program, PySem.W.mg_of X G a29, k29, B29⟩
  have D_law_may : DefOk l.prog w K mg base "_law_may" 1 spMayL := ⟨_, _, _, ok_law_may F30 m3, PySem.W.mg_of X G a30, k30, B30⟩
  have D_law_reckon : DefOk l.prog w K mg base "_law_reckon" 1 spReck := ⟨_, _, _, ok_law_reckon F31 , PySem.W.mg_of X G a31, k31, B31⟩
  have D_law_touch : DefOk l.prog w K mg base "_law_touch" 2 spTouch := ⟨_, _, _, ok_law_touch F32 m3 D_law_may, PySem.W.mg_of X G a32, k32, B32⟩
  have D_law_way : DefOk l.prog w K mg base "_law_way" 1 spWay := ⟨_, _, _, ok_law_way F33 m11, PySem.W.mg_of X G a33, k33, B33⟩
  have D_law_step : DefOk l.prog w K mg base "_law_step" 3 spStep := ⟨_, _, _, ok_law_step F34 m4 D_law_may D_law_reckon D_law_touch D_law_way, PySem.W.mg_of X G a34, k34, B34⟩
  have D_law_state : DefOk l.prog w K mg base "_law_state" 1 spStateL := ⟨_, _, _, ok_law_state F35 m1, PySem.W.mg_of X G a35, k35, B35⟩
  have D_law_due : DefOk l.prog w K mg base "_law_due" 4 spDueL := ⟨_, _, _, ok_law_due F36 m1 m3 m8 D_law_step D_law_state, PySem.W.mg_of X G a36, k36, B36⟩
  have D_law_bells : DefOk l.prog w K mg base "_law_bells" 2 spBellsL := ⟨_, _, _, ok_law_bells F37 m7 D_law_spun, PySem.W.mg_of X G a37, k37, B37⟩
  have D_law_asked : DefOk l.prog w K mg base "_law_asked" 4 spAsked := ⟨_, _, _, ok_law_asked F38 m3 m7 D_law_spun D_law_begun D_law_bells, PySem.W.mg_of X G a38, k38, B38⟩
  have D_law_kinds : DefOk l.prog w K mg base "_law_kinds" 1 spKindsL := ⟨_, _, _, ok_law_kinds F39 m1 m2 m3 m4 m5 m12, PySem.W.mg_of X G a39, k39, B39⟩
  exact oklaw F40 m7 m10 m11 Drun Erun D_law_begun D_law_state D_law_due D_law_asked D_law_kinds
end K10
def PySem.W.Fast.tw14301322753082123804 : Nat := 0
def PySem.W.Fast.tw6348699816471442460 : Nat := 0
def PySem.W.Fast.tw15585059938648346991 : Nat := 0
def PySem.W.Fast.tw18022788138731691888 : Nat := 0
def PySem.W.Fast.tw6673006653334922974 : Nat := 0
def PySem.W.Fast.tw3827088347298567038 : Nat := 0
def PySem.W.Fast.tw7428408329882902418 : Nat := 0
def PySem.W.Fast.tw9539762042991189241 : Nat := 0
def PySem.W.Fast.tw9334452200815985894 : Nat := 0
def PySem.W.Fast.tw2278134615900457179 : Nat := 0
def PySem.W.Fast.tw10929762945885078182 : Nat := 0
def PySem.W.Fast.tw6815565261620962936 : Nat := 0
def PySem.W.Fast.tw329616288319169610 : Nat := 0
def PySem.W.Fast.tw11198821298517435931 : Nat := 0
def PySem.W.Fast.tw13872283670215368797 : Nat := 0
open PySem PySem.W PyProof.Rows
set_option maxRecDepth 100000 in
set_option maxHeartbeats 0 in
theorem PySem.Challenge.cw_asitruns_k10_run_holds : PySem.Challenge.rw_asitruns_k10_run.Holds := by
  w_on; o_law; k_head; (case hw => w_witness2)
  k_fill
  refine L3.law_walk (l := PySem.Challenge.rw_asitruns_k10_run) 11 rfl rfl ⟨rfl, by decide, by decide⟩ (fun w h Y => PySem.W.kIn_of Y) ?F
  case F =>
    intro w mg fa h KX G hmg
    refine' K10.all_mk KX G hmg ?a0 ?l0 ?c0 ?k0 ?a1 ?l1 ?c1 ?k1 ?a2 ?l2 ?c2 ?k2 ?a3 ?l3 ?c3 ?k3 ?a4 ?l4 ?c4 ?k4 ?a5 ?l5 ?c5 ?k5 ?a6 ?l6 ?c6 ?k6 ?a7 ?l7 ?c7 ?k7 ?a8 ?l8 ?c8 ?k8 ?a9 ?l9 ?c9 ?k9 ?a10 ?l10 ?c10 ?k10 ?a11 ?l11 ?c11 ?k11 ?a12 ?l12 ?c12 ?k12 ?a13 ?l13 ?c13 ?k13 ?a14 ?l14 ?c14 ?k14 ?a15 ?l15 ?c15 ?k15 ?a16 ?l16 ?c16 ?k16 ?a17 ?l17 ?c17 ?k17 ?a18 ?l18 ?c18 ?k18 ?a19 ?l19 ?c19 ?k19 ?a20 ?l20 ?c20 ?k20 ?a21 ?l21 ?c21 ?k21 ?a22 ?l22 ?c22 ?k22 ?a23 ?l23 ?c23 ?k23 ?a24 ?l24 ?c24 ?k24 ?a25 ?l25 ?c25 ?k25 ?y25 ?x25 ?a26 ?l26 ?c26 ?k26 ?a27 ?l27 ?c27 ?k27 ?a28 ?l28 ?c28 ?k28 ?a29 ?l29 ?c29 ?k29 ?a30 ?l30 ?c30 ?k30 ?a31 ?l31 ?c31 ?k31 ?a32 ?l32 ?c32 ?k32 ?a33 ?l33 ?c33 ?k33 ?a34 ?l34 ?c34 ?k34 ?a35 ?l35 ?c35 ?k35 ?a36 ?l36 ?c36 ?k36 ?a37 ?l37 ?c37 ?k37 ?a38 ?l38 ?c38 ?k38 ?a39 ?l39 ?c39 ?k39 ?a40 ?l40 ?c40 ?k40 ?b0 ?e0 ?v0 ?w0 ?p0 ?p1 ?p2 ?p3 ?p4 ?p5 ?p6 ?p7 ?p8 ?z0 ?z1 ?z2 ?z3 ?z4 ?z5 ?z6 ?z7 ?z8 ?z9 ?z10 ?z11 ?z12
    (case a0 => k_is)
    (case l0 => k_is)
    (case c0 => k_is)
    (case k0 => k_is)
    (case a1 => k_is)
    (case l1 => k_is)
    (case c1 => k_is)
    (case k1 => k_is)
    (case a2 => k_is)
    (case l2 => k_is)
    (case c2 => k_is)
    (case k2 => k_is)
    (case a3 => k_is)
    (case l3 => k_is)
    (case c3 => k_is)
    (case k3 => k_is)
    (case a4 => k_is)
    (case l4 => k_is)
    (case c4 => k_is)
    (case k4 => k_is)
    (case a5 => k_is)
    (case l5 => k_is)
    (case c5 => k_is)
    (case k5 => k_is)
    (case a6 => k_is)
    (case l6 => k_is)
    (case c6 => k_is)
    (case k6 => k_is)
    (case a7 => k_is)
    (case l7 => k_is)
    (case c7 => k_is)
    (case k7 => k_is)
    (case a8 => k_is)
    (case l8 => k_is)
    (case c8 => k_is)
    (case k8 => k_is)
    (case a9 => k_is)
    (case l9 => k_is)
    (case c9 => k_is)
    (case k9 => k_is)
    (case a10 => k_is)
    (case l10 => k_is)
    (case c10 => k_is)
    (case k10 => k_is)
    (case a11 => k_is)
    (case l11 => k_is)
    (case c11 => k_is)
    (case k11 => k_is)
    (case a12 => k_is)
    (case l12 => k_is)
    (case c12 => k_is)
    (case k12 => k_is)
    (case a13 => k_is)
    (case l13 => k_is)
    (case c13 => k_is)
    (case k13 => k_is)
    (case a14 => k_is)
    (case l14 => k_is)
    (case c14 => k_is)
    (case k14 => k_is)
    (case a15 => k_is)
    (case l15 => k_is)
    (case c15 => k_is)
    (case k15 => k_is)
    (case a16 => k_is)
    (case l16 => k_is)
    (case c16 => k_is)
    (case k16 => k_is)
    (case a17 => k_is)
    (case l17 => k_is)
    (case c17 => k_is)
    (case k17 => k_is)
    (case a18 => k_is)
    (case l18 => k_is)
    (case c18 => k_is)
    (case k18 => k_is)
    (case a19 => k_is)
    (case l19 => k_is)
    (case c19 => k_is)
    (case k19 => k_is)
    (case a20 => k_is)
    (case l20 => k_is)
    (case c20 => k_is)
    (case k20 => k_is)
    (case a21 => k_is)
    (case l21 => k_is)
    (case c21 => k_is)
    (case k21 => k_is)
    (case a22 => k_is)
    (case l22 => k_is)
    (case c22 => k_is)
    (case k22 => k_is)
    (case a23 => k_is)
    (case l23 => k_is)
    (case c23 => k_is)
    (case k23 => k_is)
    (case a24 => k_is)
    (case l24 => k_is)
    (case c24 => k_is)
    (case k24 => k_is)
    (case a25 => k_is)
    (case l25 => k_is)
    (case c25 => k_is)
    (case k25 => k_is)
    (case y25 => k_is)
    (case x25 => rfl)
    (case a26 => k_is)
    (case l26 => k_is)
    (case c26 => k_is)
    (case k26 => k_is)
    (case a27 => k_is)
    (case l27 => k_is)
    (case c27 => k_is)
    (case k27 => k_is)
    (case a28 => k_is)
    (case l28 => k_is)
    (case c28 => k_is)
    (case k28 => k_is)
    (case a29 => k_is)
    (case l29 => k_is)
    (case c29 => k_is)
    (case k29 => k_is)
    (case a30 => k_is)
    (case l30 => k_is)
    (case c30 => k_is)
    (case k30 => k_is)
    (case a31 => k_is)
    (case l31 => k_is)
    (case c31 => k_is)
    (case k31 => k_is)
    (case a32 => k_is)
    (case l32 => k_is)
    (case c32 => k_is)
    (case k32 => k_is)
    (case a33 => k_is)
    (case l33 => k_is)
    (case c33 => k_is)
    (case k33 => k_is)
    (case a34 => k_is)
    (case l34 => k_is)
    (case c34 => k_is)
    (case k34 => k_is)
    (case a35 => k_is)
    (case l35 => k_is)
    (case c35 => k_is)
    (case k35 => k_is)
    (case a36 => k_is)
    (case l36 => k_is)
    (case c36 => k_is)
    (case k36 => k_is)
    (case a37 => k_is)
    (case l37 => k_is)
    (case c37 => k_is)
    (case k37 => k_is)
    (case a38 => k_is)
    (case l38 => k_is)
    (case c38 => k_is)
    (case k38 => k_is)
    (case a39 => k_is)
    (case l39 => k_is)
    (case c39 => k_is)
    (case k39 => k_is)
    (case a40 => k_is)
    (case l40 => k_is)
    (case c40 => k_is)
    (case k40 => k_is)
    (case b0 => k_is)
    (case e0 => k_is)
    (case v0 => rfl)
    (case w0 => decide)
    (case p0 => k_is)
    (case p1 => k_is)
    (case p2 => k_is)
    (case p3 => k_is)
    (case p4 => k_is)
    (case p5 => k_is)
    (case p6 => k_is)
    (case p7 => k_is)
    (case p8 => k_is)
    (case z0 => k_is)
    (case z1 => k_is)
    (case z2 => k_is)
    (case z3 => k_is)
    (case z4 => k_is)
    (case z5 => k_is)
    (case z6 => k_is)
    (case z7 => k_is)
    (case z8 => k_is)
    (case z9 => k_is)
    (case z10 => k_is)
    (case z11 => k_is)
    (case z12 => k_is)

