import PyProof.Rows.All
import Wide.All
import OpenK.AllK
import Wide.FinOn
import Lean
import PyProof.EqAt
import PyProof.EqKinds
import PyProof.TupleCall
import PyProof.NeKinds
import KE.LcSums
import KE.KRevSl
import PySem.Challenge.RW_asitruns_k18_worths
set_option Elab.async false
set_option linter.all false
set_option maxRecDepth 100000
namespace L2
open PySem PySem.Spec PyProof.Rows
noncomputable abbrev Key := Sum Int Str
noncomputable def keyIs : Key → Value → Bool
  | .inl k, v => Value.isInt k v
  | .inr x, v => Value.isStrOf x v
noncomputable def keyH (w : World) : Key → Int
  | .inl k => hashInt k
  | .inr x => hashStr w x
theorem keyIs_shape : ∀ {k : Key} {v : Value}, keyIs k v = true → (∃ i t, k = Sum.inl i ∧ v = Value.int i t) ∨ (∃ x t, k = Sum.inr x ∧ v = Value.str x t)
  | .inl i, v, h => by
    obtain ⟨t, e⟩ := Value.isInt_shape (k := i) (v := v) h
    exact .inl ⟨i, t, rfl, e⟩
  | .inr x, v, h => by
    obtain ⟨t, e⟩ := Value.isStrOf_shape (x := x) (v := v) h
    exact .inr ⟨x, t, rfl, e⟩
theorem keyIs_int (i : Int) (t : Tok) : keyIs (.inl i) (.int i t) = true := by simp [keyIs, Value.isInt]
theorem keyIs_str (x : Str) (t : Tok) : keyIs (.inr x) (.str x t) = true := by simp [keyIs, Value.isStrOf]
theorem key_ll (a b : Int) : decide ((Sum.inl a : Key) = Sum.inl b) = (a == b) := by
  by_cases e : a = b
  · subst e; simp
  · have h : ¬ (Sum.inl a : Key) = Sum.inl b := fun q => e (Sum.inl.inj q)
    rw [decide_eq_false h]
    exact (beq_eq_false_iff_ne.mpr e).symm
theorem key_rr (a b : Str) : decide ((Sum.inr a : Key) = Sum.inr b) = decide (a = b) := by
  by_cases e : a = b
  · subst e; simp
  · have h : ¬ (Sum.inr a : Key) = Sum.inr b := fun q => e (Sum.inr.inj q)
    rw [decide_eq_false h, decide_eq_false e]
theorem key_lr (a : Int) (b : Str) : decide ((Sum.inl a : Key) = Sum.inr b) = false := decide_eq_false (fun q => nomatch q)
theorem key_rl (a : Str) (b : Int) : decide ((Sum.inr a : Key) = Sum.inl b) = false := decide_eq_false (fun q => nomatch q)
noncomputable def mixKind (prog : Program) (w : World) : PySem.KeyKind prog w Key where
  is := keyIs
  hash := keyH w
  inj := fun v a b ha hb => by
    rcases keyIs_shape ha with ⟨i, t, rfl, rfl⟩ | ⟨x, t, rfl, rfl⟩
    · rcases keyIs_shape hb with ⟨j, u, rfl, e⟩ | ⟨y, u, rfl, e⟩
      · injection e with e1 _; rw [e1]
      · exact nomatch e
    · rcases keyIs_shape hb with ⟨j, u, rfl, e⟩ | ⟨y, u, rfl, e⟩
      · exact nomatch e
      · injection e with e1 _; rw [e1]
  byValue := fun k v h => by
    rcases keyIs_shape h with ⟨i, t, rfl, rfl⟩ | ⟨x, t, rfl, rfl⟩ <;> rfl
  pyHash := fun hv h => by
    rcases keyIs_shape hv with ⟨i, t, rfl, rfl⟩ | ⟨x, t, rfl, rfl⟩
    · exact wpAny_pyHash_int h
    · exact wpAny_pyHash_str h
  eqBool := fun hu hv h => by
    rcases keyIs_shape hu with ⟨i, t, rfl, rfl⟩ | ⟨x, t, rfl, rfl⟩
    · rcases keyIs_shape hv with ⟨j, u, rfl, rfl⟩ | ⟨y, u, rfl, rfl⟩
      · rw [key_ll] at h; exact wpAny_eqBool_int h
      · rw [key_lr] at h; exact SeqAt.EqAt.int_str i t y u _ _ _ _ h
    · rcases keyIs_shape hv with ⟨j, u, rfl, rfl⟩ | ⟨y, u, rfl, rfl⟩
      · rw [key_rl] at h; exact SeqAt.EqAt.str_int x t j u _ _ _ _ h
      · rw [key_rr] at h; exact wpAny_eqBool_str h
  «strs» := fun k x t v h => by
    rcases keyIs_shape h with ⟨i, u, rfl, e⟩ | ⟨y, u, rfl, e⟩
    · exact nomatch e
    · injection e with e1 _
      subst e1
      cases v <;> rfl
theorem mixKind_int (prog : Program) (w : World) (i : Int) (t : Tok) : (mixKind prog w).is (.inl i) (.int i t) = true := keyIs_int i t
theorem mixKind_str (prog : Program) (w : World) (x : Str) (t : Tok) : (mixKind prog w).is (.inr x) (.str x t) = true := keyIs_str x t
end L2
namespace L2
open PySem PySem.Spec PyProof.Rows
inductive V where
  | non | bl (b : Bool) | int (i : Int) | str (x : Str) | byt (b : Array UInt8) | flt (b : UInt64) | ref (a : Addr) | ty (n : String)
  deriving DecidableEq
noncomputable def RelV : V → Value → Prop
  | .non, u => u = Value.none
  | .bl b, u => u = Value.bool b
  | .int i, u => ∃ t, u = Value.int i t
  | .str x, u => ∃ t, u = Value.str x t
  | .byt b, u => ∃ t, u = Value.bytes b t
  | .flt b, u => ∃ t, u = Value.float b t
  | .ref a, u => u = Value.ref a
  | .ty n, u => u = Value.type n
noncomputable abbrev Vals : List V → List Value → Prop := Paired RelV
theorem Vals.length {xs : List V} {us : List Value} (r : Vals xs us) : xs.length = us.length := Paired.length r
theorem Vals.get : ∀ {xs : List V} {us : List Value} {i : Nat} {x : V}, Vals xs us → xs[i]? = some x → ∃ u, us[i]? = some u ∧ RelV x u
  | _, _, _, _, .nil, e => by simp at e
  | _, _, 0, _, .cons r _, e => by simp at e; subst e; exact ⟨_, rfl, r⟩
  | _, _, i + 1, x, .cons _ t, e => by
    obtain ⟨u, h1, h2⟩ := Vals.get (i := i) (x := x) t (by simpa using e)
    exact ⟨u, by simpa using h1, h2⟩
theorem Vals.set {x : V} {u : Value} (r : RelV x u) : ∀ {xs : List V} {us : List Value} (i : Nat), Vals xs us → Vals (xs.set i x) (us.set i u)
  | _, _, _, .nil => .nil
  | _, _, 0, .cons _ t => .cons r t
  | _, _, i + 1, .cons q t => .cons q (Vals.set r i t)
theorem Vals.append : ∀ {xs ys : List V} {us ws : List Value}, Vals xs us → Vals ys ws → Vals (xs ++ ys) (us ++ ws)
  | _, _, _, _, .nil, s => s
  | _, _, _, _, .cons r t, s => .cons r (Vals.append t s)
theorem Vals.take : ∀ {xs : List V} {us : List Value} (n : Nat), Vals xs us → Vals (xs.take n) (us.take n)
  | _, _, 0, _ => .nil
  | _, _, _ + 1, .nil => .nil
  | _, _, n + 1, .cons r t => .cons r (Vals.take n t)
theorem Vals.drop : ∀ {xs : List V} {us : List Value} (n : Nat), Vals xs us → Vals (xs.drop n) (us.drop n)
  | _, _, 0, r => r
  | _, _, _ + 1, .nil => .nil
  | _, _, n + 1, .cons _ t => Vals.drop n t
noncomputable def RelO : Option V → Option Value → Prop
  | some v, some u => RelV v u
  | none, none => True
  | _, _ => False
noncomputable def KV {κ : Type} : List (κ × V) → List (κ × Value) → Prop := Paired fun (p : κ × V) (q : κ × Value) => p.1 = q.1 ∧ RelV p.2 q.2
noncomputable def kV : Key → V
  | .inl i => .int i
  | .inr x => .str x
inductive HO where
  /-- a list -/
  | lst (xs : List V)
  /-- a tuple (never changes) -/
  | tup (xs : List V)
  /-- a dict whose keys are ints and texts; one whose keys are tuples of ints and texts (the empty one is both) -/
  | dK (kvs : List (Key × V)) | dT (kvs : List (List Key × V))
  /-- a set of ints: its members, its size -/
  | set (S : Int → Bool) (n : Nat)
  /-- an instance of the class at C, its dict at dx, its attributes -/
  | ins (C dx : Addr) (fs : List (Str × V))
  /-- the dict of the instance at x -/
  | own (x : Addr)
  /-- the dict of an exception -/
  | xd (fs : List (Str × V))
  /-- a bound method, f of x -/
  | met (f x : Addr)
  /-- a range object lo, lo + 1, .. below hi -/
  | rng (lo hi : Int)
  /-- a thing that is known to the object (the script; a dict while a loop walks it): read, never written while it is so -/
  | frz (o : Obj) (u : HO)
  /-- a code object's table -/
  | tbl (ps : Array Value)
  /-- any other thing, by what is true of its one object (a def of one's own: SetO a S n := HO.ext fun h => ..) -/
  | ext (φ : Heap → Prop)
noncomputable abbrev Hp := Addr → Option HO
noncomputable def upd (H : Hp) (a : Addr) (o : HO) : Hp := fun b => if b = a then some o else H b
theorem upd_same {H : Hp} {a : Addr} {o : HO} : upd H a o a = some o := by unfold upd; rw [if_pos rfl]
theorem upd_ne {H : Hp} {a b : Addr} {o : HO} (h : b ≠ a) : upd H a o b = H b := by unfold upd; rw [if_neg h]
theorem ne_of {H : Hp} {a b : Addr} {o u : HO} (h : H a = some o) (h' : H b = some u) (d : o ≠ u) : a ≠ b := by
  intro e; subst e; rw [h] at h'; exact d (Option.some.inj h')
theorem ne_of_none {H : Hp} {a b : Addr} {o : HO} (h : H a = some o) (h' : H b = none) : a ≠ b := by
  intro e; subst e; rw [h] at h'; cases h'
section
variable (P : Program) (w : World)
noncomputable def ObjOk (H : Hp) (h : Heap) (a : Addr) : HO → Prop
  | .lst xs => xs.length ≤ sizeLine ∧ ∃ (its : List Value) (n : Nat), Vals xs its ∧ h.get? a = some { cls := .type "list", data := .seq its.toArray n }
  | .tup xs => xs.length ≤ sizeLine ∧ ∃ its : List Value, Vals xs its ∧ IsTup h a its.toArray
  | .dK kvs => kvs.length ≤ sizeLine ∧ (a == sysModules) = false ∧ ∃ vs, KV kvs vs ∧ h.DictOf (mixKind P w) a vs
  | .dT kvs => kvs.length ≤ sizeLine ∧ (a == sysModules) = false ∧ ∃ xs : List (List Key × Addr × Value),
      Paired (fun (p : List Key × V) (q : List Key × Addr × Value) => p.1 = q.1 ∧ H q.2.1 = some (.tup (p.1.map kV)) ∧ RelV p.2 q.2.2) kvs xs ∧
      ∃ o es ep, h.get? a = some o ∧ o.ExactDict ∧ o.data = .dict es ep ∧ es.toList = xs.map (entryOfKey (tupleKind (mixKind P w))) ∧ (xs.map (·.1)).Nodup
  | .set S n => h.SetOf (intKind P w) a S n
  | .ins C dx fs => H dx = some (.own a) ∧ fs.length ≤ 1000 ∧ dx ≠ a ∧ h.get? a = some (PySem.W.instObj C dx) ∧
      ∃ mA, h.Ns1 dx mA ∧ (∀ f, RelO (fs.lookup f) (mA f)) ∧ PySem.Within mA (fs.map (·.1))
  | .own _ => ∃ o, h.get? a = some o
  | .xd fs => ∃ mA, h.Ns1 a mA ∧ ∀ f, RelO (fs.lookup f) (mA f)
  | .rng lo hi => ∃ t u v, h.get? a = some { cls := .type "range", data := .fields #[.int lo t, .int hi u, .int 1 v] }
  | .frz o u => h.get? a = some o ∧ ObjOk H h a u
  | .tbl ps => h.get? a = some { cls := .none, data := .fields ps }
  | .met f x => h.get? a = some (PySem.W.methodObj (.ref f) (.ref x))
  | .ext φ => φ h ∧ (∃ o, h.get? a = some o) ∧ ∀ h1 h2 : Heap, φ h1 → (∀ o, h1.get? a = some o → h2.get? a = some o) → φ h2
noncomputable def HOk (H : Hp) (h : Heap) : Prop := ∀ a o, H a = some o → ObjOk P w H h a o
end
section
variable {P : Program} {w : World} {H H' : Hp} {h h' : Heap} {a : Addr} {o : HO}
theorem ObjOk.lt (x : ObjOk P w H h a o) : a < h.objs.size := by
  cases o with
  | lst xs => obtain ⟨_, _, _, _, e⟩ := x; exact Heap.lt_size e
  | tup xs => obtain ⟨_, _, _, p⟩ := x; exact p.lt
  | dK kvs => obtain ⟨_, _, _, _, o, _, _, e, _⟩ := x; exact Heap.lt_size e
  | dT kvs => obtain ⟨_, _, _, _, o, _, _, e, _⟩ := x; exact Heap.lt_size e
  | set S n => obtain ⟨o, _, _, _, e, _⟩ := x; exact Heap.lt_size e
  | ins C dx fs => obtain ⟨_, _, _, e, _⟩ := x; exact Heap.lt_size e
  | own y => obtain ⟨_, e⟩ := x; exact Heap.lt_size e
  | xd fs => obtain ⟨_, ⟨_, _, _, e, _⟩, _⟩ := x; exact Heap.lt_size e
  | rng lo hi => obtain ⟨_, _, _, e⟩ := x; exact Heap.lt_size e
  | frz ob u => obtain ⟨e, _⟩ := x; exact Heap.lt_size e
  | tbl ps => exact Heap.lt_size (show h.get? a = some _ from x)
  | met f y => exact Heap.lt_size (show h.get? a = some _ from x)
  | ext φ => obtain ⟨_, ⟨_, e⟩, _⟩ := x; exact Heap.lt_size e
theorem Paired.mapP {α β : Type} {F G : α → β → Prop} : ∀ {l₁ : List α} {l₂ : List β}, Paired F l₁ l₂ → (∀ a b, F a b → G a b) → Paired G l₁ l₂
  | _, _, .nil, _ => .nil
  | _, _, .cons r t, f => .cons (f _ _ r) (Paired.mapP t f)
theorem ObjOk.stay (x : ObjOk P w H h a o) (k : ∀ b u, (b = a ∨ H b = some (.own a)) → h.get? b = some u → h'.get? b = some u)
    (ho : ∀ b, H b = some (.own a) → H' b = some (.own a)) (ht : ∀ b xs, H b = some (.tup xs) → H' b = some (.tup xs)) : ObjOk P w H' h' a o := by
  induction o with
  | lst xs => obtain ⟨z, its, n, r, e⟩ := x; exact ⟨z, its, n, r, k _ _ (.inl rfl) e⟩
  | tup xs => obtain ⟨z, its, r, ob, e, c⟩ := x; exact ⟨z, its, r, ob, k _ _ (.inl rfl) e, c⟩
  | dK kvs => obtain ⟨z, y, vs, r, ob, es, ep, e, c⟩ := x; exact ⟨z, y, vs, r, ob, es, ep, k _ _ (.inl rfl) e, c⟩
  | dT kvs =>
    obtain ⟨z, y, xs, r, ob, es, ep, e, c⟩ := x
    exact ⟨z, y, xs, Paired.mapP r fun p q z => ⟨z.1, ht _ _ z.2.1, z.2.2⟩, ob, es, ep, k _ _ (.inl rfl) e, c⟩
  | set S n => obtain ⟨ob, es, ep, t, e, c⟩ := x; exact ⟨ob, es, ep, t, k _ _ (.inl rfl) e, c⟩
  | ins C dx fs =>
    obtain ⟨d, z, ne, e, mA, ⟨od, es, ep, e2, c⟩, r⟩ := x
    exact ⟨ho _ d, z, ne, k _ _ (.inl rfl) e, mA, ⟨od, es, ep, k _ _ (.inr d) e2, c⟩, r⟩
  | own y => obtain ⟨ob, e⟩ := x; exact ⟨ob, k _ _ (.inl rfl) e⟩
  | xd fs => obtain ⟨mA, ⟨od, es, ep, e, c⟩, r⟩ := x; exact ⟨mA, ⟨od, es, ep, k _ _ (.inl rfl) e, c⟩, r⟩
  | rng lo hi => obtain ⟨t, u, v, e⟩ := x; exact ⟨t, u, v, k _ _ (.inl rfl) e⟩
  | frz ob u ih => obtain ⟨e, q⟩ := x; exact ⟨k _ _ (.inl rfl) e, ih q⟩
  | tbl ps =>
    have e : h.get? a = some { cls := .none, data := .fields ps } := x
    show h'.get? a = some { cls := .none, data := .fields ps }
    exact k a _ (.inl rfl) e
  | met f y =>
    have e : h.get? a = some (PySem.W.methodObj (.ref f) (.ref y)) := x
    show h'.get? a = some (PySem.W.methodObj (.ref f) (.ref y))
    exact k a _ (.inl rfl) e
  | ext φ => obtain ⟨p, ⟨o, e⟩, st⟩ := x; exact ⟨st _ _ p fun o q => k _ _ (.inl rfl) q, ⟨o, k _ _ (.inl rfl) e⟩, st⟩
theorem HOk.lt (x : HOk P w H h) (e : H a = some o) : a < h.objs.size := (x a o e).lt
theorem HOk.fresh (x : HOk P w H h) (e : h.objs.size ≤ a) : H a = none := by
  cases q : H a with
  | none => rfl
  | some u => exact absurd (Nat.lt_of_lt_of_le (x.lt q) e) (Nat.lt_irrefl _)
theorem HOk.kept (x : HOk P w H h) (k : ∀ b u, h.get? b = some u → h'.get? b = some u) : HOk P w H h' := fun a o e =>
  (x a o e).stay (fun b u _ q => k b u q) (fun _ q => q) fun _ _ q => q
theorem HOk.laid (x : HOk P w H h) (k : ∀ b u, h.get? b = some u → h'.get? b = some u) (hp : h.objs.size ≤ a) (new : ObjOk P w (upd H a o) h' a o) : HOk P w (upd H a o) h' := fun b u e => by
  have hn := x.fresh hp
  by_cases hb : b = a
  · subst hb; rw [upd_same] at e; cases e; exact new
  · rw [upd_ne hb] at e
    exact (x b u e).stay (fun c v _ q => k c v q) (fun c q => by rw [upd_ne (ne_of_none q hn)]; exact q) fun c xs q => by rw [upd_ne (ne_of_none q hn)]; exact q
end
noncomputable def Rd (H : Hp) (a : Addr) (u : HO) : Prop := H a = some u ∨ ∃ o, H a = some (.frz o u)
theorem Rd.of {H : Hp} {a : Addr} {u : HO} (h : H a = some u) : Rd H a u := .inl h
theorem Rd.ok {P : Program} {w : World} {H : Hp} {h : Heap} {a : Addr} {u : HO} (r : Rd H a u) (x : HOk P w H h) : ObjOk P w H h a u := by
  rcases r with r | ⟨o, r⟩
  · exact x a u r
  · obtain ⟨_, q⟩ := x a _ r
    exact q
noncomputable def Mut : Option HO → Prop
  | some (.lst _) => True
  | some (.dK _) => True
  | some (.dT _) => True
  | some (.set _ _) => True
  | some (.ins _ _ _) => True
  | some (.ext _) => True
  | _ => False
section
variable {P : Program} {w : World} {H : Hp} {h h' : Heap} {x e : Addr} {o' : HO}
theorem HOk.write (ok : HOk P w H h) (mu : Mut (H x)) (he : e = x ∨ H e = some (.own x)) (k : ∀ b u, b ≠ e → h.get? b = some u → h'.get? b = some u) (heo : ∃ u, h'.get? e = some u)
    (new : ObjOk P w (upd H x o') h' x o') : HOk P w (upd H x o') h' := fun b u q => by
  have nown : ∀ c y, H c = some (.own y) → c ≠ x := fun c y r z => by subst z; rw [r] at mu; exact mu
  have ntup : ∀ c xs, H c = some (.tup xs) → c ≠ x := fun c xs r z => by subst z; rw [r] at mu; exact mu
  by_cases hb : b = x
  · subst hb; rw [upd_same] at q; cases q; exact new
  · rw [upd_ne hb] at q
    by_cases hbe : b = e
    · have q' : H b = some (.own x) := by
        rcases he with z | z
        · exact absurd (hbe.trans z) hb
        · rw [hbe]; exact z
      rw [q] at q'; cases q'
      obtain ⟨v, hv⟩ := heo
      exact ⟨v, by rw [hbe]; exact hv⟩
    · refine (ok b u q).stay (fun c v hc r => k c v ?_ r) (fun c r => by rw [upd_ne (nown c b r)]; exact r) fun c xs r => by rw [upd_ne (ntup c xs r)]; exact r
      rcases hc with rfl | hc
      · exact hbe
      · rintro rfl
        rcases he with z | z
        · exact nown c b hc z
        · rw [hc] at z; cases z; exact hb rfl
end
structure Un (fs ex : List Addr) (H H' : Hp) (h h' : Heap) : Prop where
  keep : ∀ b o, h.get? b = some o → H b = none → b ∉ fs → b ∉ ex → h'.get? b = some o
  slot : ∀ b o, h.get? b = some o → H b = none → b ∈ fs → b ∉ ex → ∃ sl, h'.get? b = some { o with slots := sl }
  free : ∀ b o, h.get? b = some o → H b = none → b ∉ ex → H' b = none
  there : ∀ b o, h.get? b = some o → b ∉ ex → ∃ o', h'.get? b = some o'
  tups : ∀ b xs, H b = some (.tup xs) → H' b = some (.tup xs)
  frzs : ∀ b o u, H b = some (.frz o u) → H' b = some (.frz o u)
  tbls : ∀ b ps, H b = some (.tbl ps) → ∃ more, H' b = some (.tbl (ps ++ more))
section
variable {fs fs' ex ex' : List Addr} {H H1 H2 : Hp} {h h1 h2 h' : Heap} {a x e : Addr} {o : HO}
theorem Un.any (u : Un fs ex H H1 h h1) {b : Addr} {ob : Obj} (q : h.get? b = some ob) (n : H b = none) (hx : b ∉ ex) : ∃ sl, h1.get? b = some { ob with slots := sl } := by
  by_cases hb : b ∈ fs
  · exact u.slot b ob q n hb hx
  · exact ⟨ob.slots, u.keep b ob q n hb hx⟩
theorem Un.trans (a : Un fs ex H H1 h h1) (b : Un fs ex H1 H2 h1 h2) : Un fs ex H H2 h h2 where
  keep := fun c ob q n hc hx => b.keep c ob (a.keep c ob q n hc hx) (a.free c ob q n hx) hc hx
  slot := fun c ob q n hc hx => by
    obtain ⟨sl, e1⟩ := a.slot c ob q n hc hx
    obtain ⟨sl', e2⟩ := b.slot c _ e1 (a.free c ob q n hx) hc hx
    exact ⟨sl', e2⟩
  free := fun c ob q n hx => by
    obtain ⟨o', e1⟩ := a.there c ob q hx
    exact b.free c o' e1 (a.free c ob q n hx) hx
  there := fun c ob q hx => by
    obtain ⟨o', e1⟩ := a.there c ob q hx
    exact b.there c o' e1 hx
  tups := fun c xs q => b.tups c xs (a.tups c xs q)
  frzs := fun c ob xs q => b.frzs c ob xs (a.frzs c ob xs q)
  tbls := fun c ps q => by
    obtain ⟨m1, e1⟩ := a.tbls c ps q
    obtain ⟨m2, e2⟩ := b.tbls c _ e1
    exact ⟨m1 ++ m2, by rw [e2, Array.append_assoc]⟩
theorem Un.kept (k : ∀ b u, h.get? b = some u → h'.get? b = some u) : Un fs ex H H h h' :=
  ⟨fun b ob q _ _ _ => k b ob q, fun b ob q _ _ _ => ⟨ob.slots, k b ob q⟩, fun _ _ _ n _ => n, fun b ob q _ => ⟨ob, k b ob q⟩, fun _ _ q => q, fun _ _ _ q => q, fun _ ps q => ⟨#[], by rw [q]; simp⟩⟩
theorem Un.refl : Un fs ex H H h h := Un.kept fun _ _ q => q
theorem Un.laid (k : ∀ b u, h.get? b = some u → h'.get? b = some u) (hp : h.objs.size ≤ a) (hn : H a = none) : Un fs ex H (upd H a o) h h' where
  keep := fun b u q _ _ _ => k b u q
  slot := fun b u q _ _ _ => ⟨u.slots, k b u q⟩
  free := fun b u q n _ => by rw [upd_ne (Nat.ne_of_lt (Nat.lt_of_lt_of_le (Heap.lt_size q) hp))]; exact n
  there := fun b u q _ => ⟨u, k b u q⟩
  tups := fun b xs q => by rw [upd_ne (ne_of_none q hn)]; exact q
  frzs := fun b u xs q => by rw [upd_ne (ne_of_none q hn)]; exact q
  tbls := fun b ps q => ⟨#[], by rw [upd_ne (ne_of_none q hn), q]; simp⟩
theorem Un.write (mu : Mut (H x)) (he : e = x ∨ H e = some (.own x)) (k : ∀ b u, b ≠ e → h.get? b = some u → h'.get? b = some u) (heo : ∃ u, h'.get? e = some u) : Un fs ex H (upd H x o) h h' := by
  have hx : ∀ b, H b = none → b ≠ x := fun b n z => by subst z; rw [n] at mu; exact mu
  have hb : ∀ b, H b = none → b ≠ e := fun b n z => by
    subst z
    rcases he with r | r
    · exact hx b n r
    · rw [n] at r; cases r
  have hm : ∀ b u, H b = some u → ¬ Mut (some u) → b ≠ x := fun b u q nm z => by subst z; rw [q] at mu; exact nm mu
  refine ⟨fun b u q n _ _ => k b u (hb b n) q, fun b u q n _ _ => ⟨u.slots, k b u (hb b n) q⟩, fun b u q n _ => by rw [upd_ne (hx b n)]; exact n, fun b u q _ => ?_,
    fun b xs q => by rw [upd_ne (hm b _ q fun z => z)]; exact q, fun b u xs q => by rw [upd_ne (hm b _ q fun z => z)]; exact q, fun b ps q => ⟨#[], by rw [upd_ne (hm b _ q fun z => z), q]; simp⟩⟩
  by_cases hbe : b = e
  · subst hbe; exact heo
  · exact ⟨u, k b u hbe q⟩
theorem Un.mono (u : Un fs ex H H1 h h1) (hs : ∀ b ∈ fs, b ∈ fs') (hx : ∀ b ∈ ex, b ∈ ex') : Un fs' ex' H H1 h h1 :=
  ⟨fun b ob q n hb he => u.keep b ob q n (fun z => hb (hs b z)) fun z => he (hx b z), fun _ _ q n _ he => u.any q n fun z => he (hx _ z), fun b ob q n he => u.free b ob q n fun z => he (hx b z), fun b ob q he => u.there b ob q fun z => he (hx b z), u.tups, u.frzs, u.tbls⟩
end
noncomputable def trk (h : Heap) (H : Hp) : List Addr := (List.range h.objs.size).filter fun a => (H a).isSome
noncomputable def hidT (h : Heap) (H : Hp) : Heap := PySem.W.hideAll h (trk h H)
theorem hidT_size (h : Heap) (H : Hp) : (hidT h H).objs.size = h.objs.size := PySem.W.hideAll_size _ _
theorem hidT_get {h : Heap} {H : Hp} {b : Addr} {o : Obj} (e : h.get? b = some o) (n : H b = none) : (hidT h H).get? b = some o :=
  PySem.W.hideAll_get _ e fun hm => by
    have q : (H b).isSome = true := (List.mem_filter.mp hm).2
    rw [n] at q; simp at q
theorem of_hidT {h : Heap} {H : Hp} {b : Addr} {o : Obj} (e : (hidT h H).get? b = some o) : h.get? b = some o ∧ H b = none := by
  have e' : h.get? b = some o := PySem.W.of_hideAll (trk h H) e
  refine ⟨e', ?_⟩
  cases q : H b with
  | none => rfl
  | some x =>
    have hm : b ∈ trk h H := List.mem_filter.mpr ⟨List.mem_range.mpr (Heap.lt_size e'), by simp [q]⟩
    have z : (hidT h H).get? b = none := PySem.W.hideAll_none (trk h H) hm
    rw [z] at e; cases e
noncomputable def allNews (g h : Heap) (L : Addr) : List (Addr × Obj) := (List.range h.objs.size).filterMap fun a => if a = L ∨ (g.get? a).isSome = true then none else (h.get? a).map fun o => (a, o)
noncomputable def rest (g h : Heap) (L d : Addr) : List (Addr × Obj) := (allNews g h L).filter fun p => decide (p.1 ≠ d)
end L2
namespace L2
open PySem PySem.Spec PyProof.Rows
structure Mod (K : PySem.W.Frag) (mg : Str → Option Value) (base : Heap) : Prop where
  kin : K.In base
  glob : base.Ns mainGlobals mg
  blt : ∃ mb, base.Ns builtinsNs mb ∧ ∀ x : Str, x ≠ "__name__" → mb x = bootBuiltins x
  nolimit : base.NoLimit
structure Cx where
  prog : Program
  w : World
  K : PySem.W.Frag
  mg : Str → Option Value
  base : Heap
  A : Around
  N : List Str
  s₀ : Shared
  H₀ : Hp
  env : Env
  outer : List Env
  stack : List Env
  ex : List Addr
  fn : Str → Bool
  calm : Bool
  pn : List (Addr × Obj)
  xe : Value → Shared → Prop
noncomputable def frs (l : List Env) : List Addr := l.filterMap (·.frame)
noncomputable abbrev Cx.fs (X : Cx) : List Addr := frs X.outer
noncomputable def Vis (sc : Scope) (x : Str) : Prop := sc.names.lookup x = some .local ∨ sc.names.lookup x = some .cell ∨ sc.names.lookup x = some .free
noncomputable def Loc (sc : Scope) (x : Str) : Prop := sc.names.lookup x = some .local ∨ sc.names.lookup x = some .cell
noncomputable def Look (env : Env) (h : Heap) (m : Str → Option Value) (x : Str) (u : Value) : Prop :=
  (env.kindOf x = some .local ∧ m x = some u) ∨ ((env.kindOf x = some .cell ∨ env.kindOf x = some .free) ∧ ∃ c, env.cells.lookup x = some c ∧ h.IsCell c (some u))
structure Cx.Ok (X : Cx) : Prop where
  mod : Mod X.K X.mg X.base
  kind : X.env.scope.kind = .function
  glob : X.env.globals = mainGlobals
  blt : X.env.builtins = builtinsNs
  above : X.s₀.heap.objs.size ≤ X.env.locals
  inj : ∀ x y c, X.env.cells.lookup x = some c → X.env.cells.lookup y = some c → x = y
  has : ∀ x, (X.env.kindOf x = some .cell ∨ X.env.kindOf x = some .free) → ∃ c, X.env.cells.lookup x = some c
  cab : ∀ x c, X.fn x = true → X.env.cells.lookup x = some c → X.s₀.heap.objs.size ≤ c
  hd : X.calm = true → X.A.handled = none
  frames : X.A.frames = some X.stack
  stk : X.stack = X.outer ∨ (X.stack = X.env :: X.outer ∧ X.env.frame = some X.env.locals)
  exf : ∀ b ∈ X.ex, b ≠ X.env.locals ∧ ∀ x c, X.env.cells.lookup x = some c → c ≠ b
  bs : ∀ b o, X.base.get? b = some o → X.s₀.heap.get? b = some o ∧ X.H₀ b = none
  bsz : X.base.objs.size ≤ X.s₀.heap.objs.size
  noex : ∀ b o, X.base.get? b = some o → b ∉ X.ex
  exfs : ∀ b ∈ X.ex, b ∉ X.fs
  funs : X.s₀.heap.FunFrames X.base X.outer
  frf : ∀ b ∈ X.fs, X.H₀ b = none
structure Inv (X : Cx) (pins : List (Addr × Obj)) (σ : List (Option V)) (H : Hp) (s : Shared) : Prop where
  ok : X.Ok
  os : s.os = X.s₀.os
  bare : AllBare s.gens
  base : Un X.fs X.ex X.H₀ H X.s₀.heap s.heap
  loc : ∃ m, s.heap.Ns X.env.locals m ∧ ∀ (i : Nat) (x : Str) (v : V), X.N[i]? = some x → σ[i]? = some (some v) → Vis X.env.scope x → ∃ u, RelV v u ∧ Look X.env s.heap m x u
  cell : ∀ x c, X.env.cells.lookup x = some c → ∃ v, s.heap.IsCell c v
  free : H X.env.locals = none
  freeC : ∀ x c, X.env.cells.lookup x = some c → H c = none
  pin : ∀ p ∈ X.pn ++ pins, s.heap.get? p.1 = some p.2 ∧ H p.1 = none ∧ p.1 ≠ X.env.locals ∧ p.1 ∉ X.fs ∧ ∀ v, p.2.data ≠ .cell v
  hok : HOk X.prog X.w H s.heap
  len : σ.length = X.N.length
section
variable {X : Cx} {pins : List (Addr × Obj)} {σ : List (Option V)} {H H' : Hp} {s : Shared} {h' : Heap}
theorem Cx.Ok.nofr (ok : X.Ok) {b : Addr} {o : Obj} (e : X.base.get? b = some o) : b ∉ X.fs := fun hb => by
  have := (ok.funs.mem hb).1
  rw [e] at this; cases this
theorem Inv.bs (I : Inv X pins σ H s) : ∀ b o, X.base.get? b = some o → s.heap.get? b = some o ∧ H b = none := fun b o e =>
  ⟨I.base.keep b o (I.ok.bs b o e).1 (I.ok.bs b o e).2 (I.ok.nofr e) (I.ok.noex b o e), I.base.free b o (I.ok.bs b o e).1 (I.ok.bs b o e).2 (I.ok.noex b o e)⟩
theorem Inv.bk (I : Inv X pins σ H s) : ∀ b o, X.base.get? b = some o → s.heap.get? b = some o := fun b o e => (I.bs b o e).1
theorem Inv.mod (I : Inv X pins σ H s) : Mod X.K X.mg X.base := I.ok.mod
theorem Inv.kIn (I : Inv X pins σ H s) : X.K.In s.heap := I.ok.mod.kin.keeps I.bk
theorem Inv.nolimit (I : Inv X pins σ H s) : s.heap.NoLimit := I.ok.mod.nolimit.keeps I.bk
theorem Inv.lt (I : Inv X pins σ H s) : X.env.locals < s.heap.objs.size := let ⟨_, hn, _⟩ := I.loc; hn.lt
theorem Inv.sz (I : Inv X pins σ H s) : X.s₀.heap.objs.size ≤ s.heap.objs.size := Nat.le_trans I.ok.above (Nat.le_of_lt I.lt)
theorem Inv.nofs (I : Inv X pins σ H s) {a : Addr} (h : s.heap.objs.size ≤ a) : a ∉ X.fs := fun hb => by
  obtain ⟨_, o, ho, _⟩ := I.ok.funs.mem hb
  exact absurd (Nat.lt_of_lt_of_le (Heap.lt_size ho) (Nat.le_trans I.sz h)) (Nat.lt_irrefl _)
theorem Inv.cne (I : Inv X pins σ H s) : ∀ x c, X.env.cells.lookup x = some c → c ≠ X.env.locals := fun x c e z => by
  obtain ⟨v, o, ho, hd⟩ := I.cell x c e
  obtain ⟨m, ⟨o', es, ep, ho', hd', _⟩, _⟩ := I.loc
  rw [z, ho'] at ho; cases ho; rw [hd'] at hd; cases hd
theorem Inv.funs (I : Inv X pins σ H s) : s.heap.FunFrames X.base X.outer := by
  have all : ∀ (l : List Env), (∀ b ∈ frs l, b ∈ X.fs) → X.s₀.heap.FunFrames X.base l → s.heap.FunFrames X.base l := by
    intro l
    induction l with
    | nil => intro _ _; trivial
    | cons env r ih =>
      intro hs hl
      obtain ⟨hk, ⟨L, o, hf, hn, ho, hd⟩, hr⟩ := hl
      have hL : L ∈ X.fs := hs L (by unfold frs; rw [List.filterMap_cons, hf]; exact List.mem_cons_self)
      obtain ⟨sl, e⟩ := I.base.slot L o ho (I.ok.frf L hL) hL fun z => I.ok.exfs L z hL
      exact ⟨hk, ⟨L, _, hf, hn, e, hd⟩, ih (fun b hb => hs b (by unfold frs; rw [List.filterMap_cons, hf]; exact List.mem_cons_of_mem _ hb)) hr⟩
  exact all X.outer (fun _ hb => hb) I.ok.funs
theorem Inv.stack (I : Inv X pins σ H s) : s.heap.FunFrames X.base X.stack := by
  rcases I.ok.stk with e | ⟨e, hf⟩
  · rw [e]; exact I.funs
  · rw [e]
    obtain ⟨m, hn, _⟩ := I.loc
    refine .cons (by rw [I.ok.kind]; decide) hf hn ?_ I.funs
    exact Heap.get?_none_of_le (Nat.le_trans I.ok.bsz I.ok.above)
theorem Inv.stkSub (I : Inv X pins σ H s) : ∀ b ∈ frs X.stack, b ∈ X.env.locals :: X.fs := fun b hb => by
  rcases I.ok.stk with e | ⟨e, hf⟩
  · rw [e] at hb; exact List.mem_cons_of_mem _ hb
  · rw [e] at hb
    unfold frs at hb
    rw [List.filterMap_cons, hf] at hb
    exact hb
theorem Inv.stkFree (I : Inv X pins σ H s) : ∀ b ∈ frs X.stack, H b = none := fun b hb => by
  rcases List.mem_cons.mp (I.stkSub b hb) with e | hb
  · rw [e]; exact I.free
  · obtain ⟨_, o, ho, _⟩ := I.ok.funs.mem hb
    exact I.base.free b o ho (I.ok.frf b hb) fun z => I.ok.exfs b z hb
theorem Inv.step {g' : Array GenState} {t' : Nat} {d' : Drawn} {ch : List Addr} (I : Inv X pins σ H s)
    (hch : ∀ b ∈ ch, (b ∈ X.ex ∨ X.s₀.heap.objs.size ≤ b) ∧ b ≠ X.env.locals ∧ (∀ x c, X.env.cells.lookup x = some c → c ≠ b) ∧ ∀ p ∈ X.pn ++ pins, p.1 ≠ b)
    (keep : ∀ b o, b ≠ X.env.locals → b ∉ X.fs → b ∉ ch → s.heap.get? b = some o → H b = none → h'.get? b = some o)
    (slot : ∀ b o, b ≠ X.env.locals → b ∈ X.fs → b ∉ ch → s.heap.get? b = some o → H b = none → ∃ sl, h'.get? b = some { o with slots := sl }) (free : ∀ b o, b ∉ ch → s.heap.get? b = some o → H b = none → H' b = none)
    (there : ∀ b o, b ∉ ch → s.heap.get? b = some o → ∃ o', h'.get? b = some o')
    (tups : ∀ b xs, H b = some (.tup xs) → H' b = some (.tup xs)) (frzs : ∀ b o u, H b = some (.frz o u) → H' b = some (.frz o u)) (tbls : ∀ b ps, H b = some (.tbl ps) → ∃ more, H' b = some (.tbl (ps ++ more)))
    (ns : ∀ m, s.heap.Ns X.env.locals m → h'.Ns X.env.locals m) (hok : HOk X.prog X.w H' h') (hg : AllBare g') :
    Inv X pins σ H' { s with heap := h', gens := g', drawn := d', toks := t' } := by
  have neL : ∀ b o, X.s₀.heap.get? b = some o → b ≠ X.env.locals := fun b o e => Nat.ne_of_lt (Nat.lt_of_lt_of_le (Heap.lt_size e) I.ok.above)
  have neC : ∀ b o, X.s₀.heap.get? b = some o → b ∉ X.ex → b ∉ ch := fun b o e hx hb => by
    rcases (hch b hb).1 with z | z
    · exact hx z
    · exact absurd (Nat.lt_of_lt_of_le (Heap.lt_size e) z) (Nat.lt_irrefl _)
  have cellK : ∀ x c, X.env.cells.lookup x = some c → ∀ v, s.heap.IsCell c v → h'.IsCell c v := fun x c e v ⟨o, ho, hd⟩ => by
    have nch : c ∉ ch := fun z => (hch c z).2.2.1 x c e rfl
    by_cases hc : c ∈ X.fs
    · obtain ⟨sl, q⟩ := slot c o (I.cne x c e) hc nch ho (I.freeC x c e)
      exact ⟨_, q, hd⟩
    · exact ⟨o, keep c o (I.cne x c e) hc nch ho (I.freeC x c e), hd⟩
  refine ⟨I.ok, I.os, hg, ⟨fun b o e n hb hx => ?_, fun b o e n hb hx => ?_, fun b o e n hx => ?_, fun b o e hx => ?_, fun b xs e => tups b xs (I.base.tups b xs e), fun b o xs e => frzs b o xs (I.base.frzs b o xs e), fun b ps e => ?_⟩, ?_, fun x c e => ?_, ?_, fun x c e => ?_, fun p hp => ?_, hok, I.len⟩
  · exact keep b o (neL b o e) hb (neC b o e hx) (I.base.keep b o e n hb hx) (I.base.free b o e n hx)
  · obtain ⟨sl, e1⟩ := I.base.slot b o e n hb hx
    obtain ⟨sl', e2⟩ := slot b _ (neL b o e) hb (neC b o e hx) e1 (I.base.free b o e n hx)
    exact ⟨sl', e2⟩
  · obtain ⟨o', e1⟩ := I.base.there b o e hx
    exact free b o' (neC b o e hx) e1 (I.base.free b o e n hx)
  · obtain ⟨o', e1⟩ := I.base.there b o e hx
    exact there b o' (neC b o e hx) e1
  · obtain ⟨m1, e1⟩ := I.base.tbls b ps e
    obtain ⟨m2, e2⟩ := tbls b _ e1
    exact ⟨m1 ++ m2, by rw [e2, Array.append_assoc]⟩
  · obtain ⟨m, hn, hl⟩ := I.loc
    refine ⟨m, ns m hn, fun i x v e1 e2 e3 => ?_⟩
    obtain ⟨u, r, l⟩ := hl i x v e1 e2 e3
    refine ⟨u, r, ?_⟩
    rcases l with l | ⟨k, c, e, z⟩
    · exact .inl l
    · exact .inr ⟨k, c, e, cellK x c e _ z⟩
  · obtain ⟨v, z⟩ := I.cell x c e
    exact ⟨v, cellK x c e v z⟩
  · obtain ⟨m, ⟨o, _, _, ho, _⟩, _⟩ := I.loc
    exact free _ o (fun z => (hch _ z).2.1 rfl) ho I.free
  · obtain ⟨v, o, ho, hd⟩ := I.cell x c e
    exact free c o (fun z => (hch c z).2.2.1 x c e rfl) ho (I.freeC x c e)
  · obtain ⟨e, n, ne, nf, d⟩ := I.pin p hp
    have nch : p.1 ∉ ch := fun z => (hch p.1 z).2.2.2 p hp rfl
    exact ⟨keep p.1 p.2 ne nf nch e n, free p.1 p.2 nch e n, ne, nf, d⟩
theorem Inv.un {t' : Nat} (I : Inv X pins σ H s) (u : Un X.fs [] H H' s.heap h') (hok : HOk X.prog X.w H' h') : Inv X pins σ H' { s with heap := h', toks := t' } := by
  obtain ⟨m, ⟨o, es, ep, ho, r⟩, _⟩ := id I.loc
  obtain ⟨sl, hL⟩ := u.any ho I.free (by simp)
  exact I.step (g' := s.gens) (d' := s.drawn) (ch := []) (fun _ z => nomatch z) (fun b o _ hb _ e n => u.keep b o e n hb (by simp)) (fun b o _ hb _ e n => u.slot b o e n hb (by simp)) (fun b o _ e n => u.free b o e n (by simp)) (fun b o _ e => u.there b o e (by simp)) u.tups u.frzs u.tbls (fun m' hm => by
    obtain ⟨o', es', ep', ho', r'⟩ := hm
    rw [ho] at ho'; cases ho'
    exact ⟨_, es', ep', hL, r'⟩) hok I.bare
theorem Inv.call {g' : Array GenState} {t' : Nat} {d' : Drawn} {ch : List Addr} (I : Inv X pins σ H s) (u : Un (frs X.stack) ch H H' s.heap h') (hok : HOk X.prog X.w H' h') (hg : AllBare g')
    (hch : ∀ b ∈ ch, (b ∈ X.ex ∨ X.s₀.heap.objs.size ≤ b) ∧ b ≠ X.env.locals ∧ (∀ x c, X.env.cells.lookup x = some c → c ≠ b) ∧ ∀ p ∈ X.pn ++ pins, p.1 ≠ b) :
    Inv X pins σ H' { s with heap := h', gens := g', drawn := d', toks := t' } := by
  obtain ⟨m, ⟨o, es, ep, ho, r⟩, _⟩ := id I.loc
  obtain ⟨sl, hL⟩ := u.any ho I.free fun z => (hch _ z).2.1 rfl
  exact I.step (ch := ch) hch (fun b o hL hb hc e n => u.keep b o e n (fun z => (List.mem_cons.mp (I.stkSub b z)).elim hL hb) hc) (fun b o _ _ hc e n => u.any e n hc) (fun b o hc e n => u.free b o e n hc) (fun b o hc e => u.there b o e hc) u.tups u.frzs u.tbls (fun m' hm => by
    obtain ⟨o', es', ep', ho', r'⟩ := hm
    rw [ho] at ho'; cases ho'
    exact ⟨_, es', ep', hL, r'⟩) hok hg
theorem Inv.turned {t' : Nat} {it : Addr} (I : Inv X pins σ H s) (k : ∀ b o, b ≠ it → s.heap.get? b = some o → h'.get? b = some o) (hn : H it = none) (hL : it ≠ X.env.locals)
    (h1 : it ∈ X.ex ∨ X.s₀.heap.objs.size ≤ it) (h2 : ∀ x c, X.env.cells.lookup x = some c → c ≠ it) (h3 : ∀ p ∈ X.pn ++ pins, p.1 ≠ it) : Inv X pins σ H { s with heap := h', toks := t' } := by
  have nit : ∀ b u, H b = some u → b ≠ it := fun b u e z => by rw [z, hn] at e; cases e
  refine I.step (g' := s.gens) (d' := s.drawn) (ch := [it]) (fun b hb => ?_) (fun b o _ _ hc e _ => k b o (fun z => hc (by simp [z])) e) (fun b o _ _ hc e _ => ⟨o.slots, k b o (fun z => hc (by simp [z])) e⟩) (fun _ _ _ _ n => n)
    (fun b o hc e => ⟨o, k b o (fun z => hc (by simp [z])) e⟩) (fun _ _ e => e) (fun _ _ _ e => e) (fun b ps e => ⟨#[], by rw [e]; simp⟩) (fun m hm => ?_) (fun b u e => ?_) I.bare
  · have e : b = it := by simpa using hb
    subst e
    exact ⟨h1, hL, h2, h3⟩
  · obtain ⟨o, es, ep, ho, r⟩ := hm
    exact ⟨o, es, ep, k _ o (Ne.symm hL) ho, r⟩
  · refine (I.hok b u e).stay (fun c v hc q => k c v ?_ q) (fun _ q => q) fun _ _ q => q
    rcases hc with z | z
    · rw [z]; exact nit b u e
    · exact nit c _ z
theorem Inv.tok (I : Inv X pins σ H s) (t : Nat) : Inv X pins σ H { s with toks := t } := I.un (h' := s.heap) (t' := t) Un.refl I.hok
theorem Inv.kept {t' : Nat} (I : Inv X pins σ H s) (k : ∀ b u, s.heap.get? b = some u → h'.get? b = some u) : Inv X pins σ H { s with heap := h', toks := t' } := I.un (Un.kept k) (I.hok.kept k)
theorem Inv.laid {a : Addr} {o : HO} {t' : Nat} (I : Inv X pins σ H s) (k : ∀ b u, s.heap.get? b = some u → h'.get? b = some u) (hp : s.heap.objs.size ≤ a) (new : ObjOk X.prog X.w (upd H a o) h' a o) :
    Inv X pins σ (upd H a o) { s with heap := h', toks := t' } := I.un (Un.laid k hp (I.hok.fresh hp)) (I.hok.laid k hp new)
theorem Inv.write {x e : Addr} {o : HO} {t' : Nat} (I : Inv X pins σ H s) (mu : Mut (H x)) (he : e = x ∨ H e = some (.own x)) (k : ∀ b u, b ≠ e → s.heap.get? b = some u → h'.get? b = some u) (heo : ∃ u, h'.get? e = some u)
    (new : ObjOk X.prog X.w (upd H x o) h' x o) : Inv X pins σ (upd H x o) { s with heap := h', toks := t' } := I.un (Un.write mu he k heo) (I.hok.write mu he k heo new)
theorem Inv.pins_of {pins' : List (Addr × Obj)} (I : Inv X pins σ H s) (h : ∀ p ∈ pins', s.heap.get? p.1 = some p.2 ∧ H p.1 = none ∧ p.1 ≠ X.env.locals ∧ p.1 ∉ X.fs ∧ ∀ v, p.2.data ≠ .cell v) : Inv X pins' σ H s :=
  ⟨I.ok, I.os, I.bare, I.base, I.loc, I.cell, I.free, I.freeC, fun p hp => (List.mem_append.mp hp).elim (fun z => I.pin p (List.mem_append_left _ z)) (h p), I.hok, I.len⟩
theorem nodup_ix {N : List Str} (hN : N.Nodup) {i j : Nat} {x : Str} (a : N[i]? = some x) (b : N[j]? = some x) : i = j := by
  obtain ⟨h1, e1⟩ := List.getElem?_eq_some_iff.mp a
  obtain ⟨h2, e2⟩ := List.getElem?_eq_some_iff.mp b
  exact (List.getElem_inj hN).mp (e1.trans e2.symm)
theorem store_ok2 {M : Model} {A : Around} {E : Value → Shared → Prop} {i : Nat} {x : Str} {v : V} {u : Value} {Q : Unit → Shared → Prop} (I : Inv X pins σ H s) (hN : X.N.Nodup) (hi : X.N[i]? = some x) (hx : Loc X.env.scope x) (r : RelV v u)
    (h : ∀ s', Inv X pins (σ.set i (some v)) H s' → (∃ a, Heap.SameBut a s.heap s'.heap ∧ (a = X.env.locals ∨ X.env.cells.lookup x = some a)) → Q () s') (hf : X.fn x = true ∨ X.env.scope.names.lookup x = some .local := by first | exact .inl rfl | exact .inr rfl | assumption) : wpAny M A (storeName X.env x u) Q E s := by
  obtain ⟨m, hn, hl⟩ := id I.loc
  have hcls : (X.env.scope.kind == .class || (X.env.scope.kind == .module && X.env.locals != X.env.globals)) = false := by rw [I.ok.kind]; rfl
  have hiσ : i < σ.length := by rw [I.len]; exact (List.getElem?_eq_some_iff.mp hi).1
  have cne := I.cne
  have tracked : ∀ {a : Addr} {h' : Heap}, (∃ o, s.heap.get? a = some o ∧ H a = none) → Heap.SameBut a s.heap h' → HOk X.prog X.w H h' := fun {a h'} ha hs b ob e => by
    obtain ⟨_, _, hfree⟩ := ha
    refine (I.hok b ob e).stay (fun c w' hc q => (hs.2 c ?_).trans q) (fun _ q => q) fun _ _ q => q
    rintro rfl
    rcases hc with rfl | hc
    · rw [hfree] at e; cases e
    · rw [hfree] at hc; cases hc
  rcases hx with hk | hk
  · refine wpAny_storeName_local hk hn (fun h' hn' hs => ?_) hcls
    obtain ⟨oL, _, _, hoL, _⟩ := id hn
    refine h _ ⟨I.ok, I.os, I.bare, ⟨fun b o e n hb hx => ?_, fun b o e n hb hx => ?_, I.base.free, fun b o e hx => ?_, I.base.tups, I.base.frzs, I.base.tbls⟩, ⟨_, hn', fun j y v' e1 e2 e3 => ?_⟩, fun y c e => ?_, I.free, I.freeC, fun p hp => ?_, tracked ⟨oL, hoL, I.free⟩ hs, by simpa using I.len⟩ ⟨_, hs, .inl rfl⟩
    · exact (hs.2 b (Nat.ne_of_lt (Nat.lt_of_lt_of_le (Heap.lt_size e) I.ok.above))).trans (I.base.keep b o e n hb hx)
    · obtain ⟨sl, e1⟩ := I.base.slot b o e n hb hx
      exact ⟨sl, (hs.2 b (Nat.ne_of_lt (Nat.lt_of_lt_of_le (Heap.lt_size e) I.ok.above))).trans e1⟩
    · obtain ⟨o', e1⟩ := I.base.there b o e hx
      exact ⟨o', (hs.2 b (Nat.ne_of_lt (Nat.lt_of_lt_of_le (Heap.lt_size e) I.ok.above))).trans e1⟩
    · by_cases hj : j = i
      · subst hj
        rw [hi] at e1; cases e1
        rw [List.getElem?_set_self hiσ] at e2
        cases e2
        exact ⟨u, r, .inl ⟨hk, by simp⟩⟩
      · rw [List.getElem?_set_ne (Ne.symm hj)] at e2
        obtain ⟨u', r', q⟩ := hl j y v' e1 e2 e3
        refine ⟨u', r', ?_⟩
        rcases q with ⟨k, e⟩ | ⟨k, c, e, z⟩
        · refine .inl ⟨k, ?_⟩
          have : y ≠ x := fun e => hj (nodup_ix hN e1 (e ▸ hi))
          simp [this, e]
        · exact .inr ⟨k, c, e, z.sameBut hs (cne y c e)⟩
    · obtain ⟨w', z⟩ := I.cell y c e
      exact ⟨w', z.sameBut hs (cne y c e)⟩
    · obtain ⟨e, n, ne, nf, d⟩ := I.pin p hp
      exact ⟨(hs.2 p.1 ne).trans e, n, ne, nf, d⟩
  · have hfn : X.fn x = true := by
      rcases hf with z | z
      · exact z
      · rw [z] at hk; cases hk
    obtain ⟨c, hc⟩ := I.ok.has x (.inl hk)
    obtain ⟨w', z⟩ := I.cell x c hc
    refine wpAny_storeName_cell I.ok.kind hk hc z (fun h' hc' hs => ?_)
    obtain ⟨oc, hoc, hocd⟩ := id z
    refine h { s with heap := h' } ⟨I.ok, I.os, I.bare, ⟨fun b o e n hb hx => ?_, fun b o e n hb hx => ?_, I.base.free, fun b o e hx => ?_, I.base.tups, I.base.frzs, I.base.tbls⟩, ⟨m, hn.sameBut hs (Ne.symm (cne x c hc)), fun j y v' e1 e2 e3 => ?_⟩, fun y c' e => ?_, I.free, I.freeC, fun p hp => ?_, tracked ⟨oc, hoc, I.freeC x c hc⟩ hs, by simpa using I.len⟩ ⟨c, hs, .inr hc⟩
    · exact (hs.2 b (Nat.ne_of_lt (Nat.lt_of_lt_of_le (Heap.lt_size e) (I.ok.cab x c hfn hc)))).trans (I.base.keep b o e n hb hx)
    · obtain ⟨sl, e1⟩ := I.base.slot b o e n hb hx
      exact ⟨sl, (hs.2 b (Nat.ne_of_lt (Nat.lt_of_lt_of_le (Heap.lt_size e) (I.ok.cab x c hfn hc)))).trans e1⟩
    · obtain ⟨o', e1⟩ := I.base.there b o e hx
      exact ⟨o', (hs.2 b (Nat.ne_of_lt (Nat.lt_of_lt_of_le (Heap.lt_size e) (I.ok.cab x c hfn hc)))).trans e1⟩
    · by_cases hj : j = i
      · subst hj
        rw [hi] at e1; cases e1
        rw [List.getElem?_set_self hiσ] at e2
        cases e2
        exact ⟨u, r, .inr ⟨.inl hk, c, hc, hc'⟩⟩
      · rw [List.getElem?_set_ne (Ne.symm hj)] at e2
        obtain ⟨u', r', q⟩ := hl j y v' e1 e2 e3
        refine ⟨u', r', ?_⟩
        rcases q with q | ⟨k, c', e, z'⟩
        · exact .inl q
        · refine .inr ⟨k, c', e, z'.sameBut hs ?_⟩
          rintro rfl
          exact hj (nodup_ix hN e1 (I.ok.inj _ _ _ e hc ▸ hi))
    · by_cases hcc : c' = c
      · subst hcc; exact ⟨_, hc'⟩
      · obtain ⟨w2, z2⟩ := I.cell y c' e
        exact ⟨w2, z2.sameBut hs hcc⟩
    · obtain ⟨e, n, ne, nf, d⟩ := I.pin p hp
      refine ⟨(hs.2 p.1 ?_).trans e, n, ne, nf, d⟩
      intro q
      rw [q, hoc] at e
      have q' : oc = p.2 := Option.some.inj e
      exact d w' (by rw [← q']; exact hocd)
theorem store_ok {M : Model} {A : Around} {E : Value → Shared → Prop} {i : Nat} {x : Str} {v : V} {u : Value} {Q : Unit → Shared → Prop} (I : Inv X pins σ H s) (hN : X.N.Nodup) (hi : X.N[i]? = some x) (hx : Loc X.env.scope x) (r : RelV v u)
    (h : ∀ s', Inv X pins (σ.set i (some v)) H s' → Q () s') (hf : X.fn x = true ∨ X.env.scope.names.lookup x = some .local := by first | exact .inl rfl | exact .inr rfl | assumption) : wpAny M A (storeName X.env x u) Q E s :=
  store_ok2 I hN hi hx r (fun s' I' _ => h s' I') hf
theorem Inv.call' {s' : Shared} {ch : List Addr} (I : Inv X pins σ H s) (ho : s'.os = s.os) (u : Un (frs X.stack) ch H H' s.heap s'.heap) (hok : HOk X.prog X.w H' s'.heap) (hg : AllBare s'.gens)
    (hch : ∀ b ∈ ch, (b ∈ X.ex ∨ X.s₀.heap.objs.size ≤ b) ∧ b ≠ X.env.locals ∧ (∀ x c, X.env.cells.lookup x = some c → c ≠ b) ∧ ∀ p ∈ X.pn ++ pins, p.1 ≠ b) : Inv X pins σ H' s' := by
  obtain ⟨h', g', d', t', o'⟩ := s'
  have e : o' = s.os := ho
  subst e
  exact I.call (g' := g') (t' := t') (d' := d') u hok hg hch
end
noncomputable abbrev XK := Value → Option Addr → Hp → Prop
noncomputable abbrev St := List (Option V)
noncomputable abbrev VK := V → Hp → Prop
noncomputable abbrev TE := St → Hp → VK → Prop
noncomputable abbrev TT := St → Hp → (Bool → Hp → Prop) → Prop
noncomputable abbrev TA := St → Hp → (List V → Hp → Prop) → Prop
structure Ends where
  nx : St → Hp → Prop
  rt : VK
  bk : St → Hp → Prop := fun _ _ => False
  ct : St → Hp → Prop := fun _ _ => False
noncomputable abbrev TS := Ends → St → Hp → Prop
noncomputable def EP (X : Cx) (pins : List (Addr × Obj)) (σ : St) (Q : VK) (u : Value) (s' : Shared) : Prop := ∃ v H', Inv X pins σ H' s' ∧ RelV v u ∧ Q v H'
noncomputable def TP (X : Cx) (pins : List (Addr × Obj)) (σ : St) (Q : Bool → Hp → Prop) (b : Bool) (s' : Shared) : Prop := ∃ H', Inv X pins σ H' s' ∧ Q b H'
noncomputable def AP (X : Cx) (pins : List (Addr × Obj)) (σ : St) (Q : List V → Hp → Prop) (us : List Value) (s' : Shared) : Prop := ∃ vs H', Inv X pins σ H' s' ∧ Vals vs us ∧ Q vs H'
noncomputable def SP (X : Cx) (pins : List (Addr × Obj)) (D : Ends) (f : Flow) (s' : Shared) : Prop :=
  match f with
  | .next => ∃ σ' H', Inv X pins σ' H' s' ∧ D.nx σ' H'
  | .brk => ∃ σ' H', Inv X pins σ' H' s' ∧ D.bk σ' H'
  | .cont => ∃ σ' H', Inv X pins σ' H' s' ∧ D.ct σ' H'
  | .ret u => ∃ v σ' H', Inv X pins σ' H' s' ∧ RelV v u ∧ D.rt v H'
noncomputable def PE (X : Cx) (e : Expr) (t : TE) : Prop :=
  ∀ (pins : List (Addr × Obj)) (s : Shared) (σ : St) (H : Hp) (Q : VK), Inv X pins σ H s → t σ H Q → wpAny (model X.prog X.w) X.A (eval e X.env) (EP X pins σ Q) X.xe s
noncomputable def PT (X : Cx) (e : Expr) (t : TT) : Prop :=
  ∀ (pins : List (Addr × Obj)) (s : Shared) (σ : St) (H : Hp) (Q : Bool → Hp → Prop), Inv X pins σ H s → t σ H Q → wpAny (model X.prog X.w) X.A (isTrue e X.env (eval e X.env)) (TP X pins σ Q) X.xe s
noncomputable def PW (X : Cx) (e : Expr) (t : TT) : Prop :=
  ∀ (whole : Sem Value) (pins : List (Addr × Obj)) (s : Shared) (σ : St) (H : Hp) (Q : Bool → Hp → Prop), Inv X pins σ H s → t σ H Q → wpAny (model X.prog X.w) X.A (isTrue e X.env whole) (TP X pins σ Q) X.xe s
noncomputable def PA (X : Cx) (es : List Expr) (t : TA) : Prop :=
  ∀ (pos : Pos) (pins : List (Addr × Obj)) (s : Shared) (σ : St) (H : Hp) (Q : List V → Hp → Prop), Inv X pins σ H s → t σ H Q → wpAny (model X.prog X.w) X.A (spliced (backTo pos (starEach es X.env))) (AP X pins σ Q) X.xe s
noncomputable def PS (X : Cx) (st : Stmt) (t : TS) : Prop :=
  ∀ (pins : List (Addr × Obj)) (s : Shared) (σ : St) (H : Hp) (D : Ends), Inv X pins σ H s → t D σ H → wpAny (model X.prog X.w) X.A (exec st X.env) (SP X pins D) X.xe s
noncomputable def PSs (X : Cx) (st : List Stmt) (t : TS) : Prop :=
  ∀ (pins : List (Addr × Obj)) (s : Shared) (σ : St) (H : Hp) (D : Ends), Inv X pins σ H s → t D σ H → wpAny (model X.prog X.w) X.A (execs st X.env) (SP X pins D) X.xe s
theorem thn {α : Type} {t : Sem α} {Q Q' : α → Shared → Prop} {M : Model} {A : Around} {E : Value → Shared → Prop} {s : Shared} (h : wpAny M A t Q E s) (hQ : ∀ a s, Q a s → Q' a s) : wpAny M A t Q' E s := wpAny_mono h hQ fun _ _ x => x
end L2
namespace L2
open PySem PySem.Spec PyProof.Rows
section
variable {X : Cx}
noncomputable def tVar (i : Nat) : TE := fun σ H Q => ∃ v, σ[i]? = some (some v) ∧ Q v H
noncomputable def tC (v : V) : TE := fun _ H Q => Q v H
theorem pe_var {i : Nat} {x : Str} {pos : Pos} (hN : X.N[i]? = some x) (hv : Vis X.env.scope x) (hd : (x == ("__debug__" : Str)) = false := by decide) (hcd : (x == ("__classdict__" : Str)) = false := by decide) : PE X (.Name x pos) (tVar i) := by
  intro pins s σ H Q I h
  obtain ⟨v, e, h⟩ := h
  obtain ⟨m, hn, hl⟩ := I.loc
  obtain ⟨u, r, l⟩ := hl i x v hN e hv
  have fin : EP X pins σ Q u s := ⟨v, H, I, r, h⟩
  rcases l with ⟨hk, hm⟩ | ⟨hk, c, hc, hcell⟩
  · exact wpAny_Name (wpAny_loadName_local I.ok.kind hk hn hm fin) hd
  · rcases hk with hk | hk
    · exact wpAny_Name (wpAny_loadName_cell I.ok.kind hk hc hcell fin) hd
    · exact wpAny_Name (wpAny_loadName_free I.ok.kind hk hc hcell fin hcd) hd
theorem pe_int {i j pos} : PE X (.Constant (.int i) j pos) (tC (.int i)) := fun _ _ _ H _ I h => wpAny_Constant_int ⟨.int i, H, I.tok _, ⟨_, rfl⟩, h⟩
theorem pe_bl {b j pos} : PE X (.Constant (.bool b) j pos) (tC (.bl b)) := fun _ _ _ H _ I h => Constant_bool ⟨.bl b, H, I, rfl, h⟩
theorem pe_non {j pos} : PE X (.Constant .none j pos) (tC .non) := fun _ _ _ H _ I h => Constant_none ⟨.non, H, I, rfl, h⟩
theorem pe_str {x j pos} : PE X (.Constant (.str x) j pos) (tC (.str x)) := fun _ _ _ H _ I h => Calls.Constant_str ⟨.str x, H, I.tok _, ⟨_, rfl⟩, h⟩
noncomputable def Gl (X : Cx) (x : Str) : Prop := X.env.kindOf x = some .globalImplicit
theorem ld_glob {E : Value → Shared → Prop} {pins : List (Addr × Obj)} {s : Shared} {σ : St} {H : Hp} {x : Str} {u : Value} {pos : Pos} {Q : Value → Shared → Prop} (I : Inv X pins σ H s) (hg : Gl X x) (hm : X.mg x = some u) (h : Q u s)
    (hd : (x == ("__debug__" : Str)) = false := by decide) : wpAny (model X.prog X.w) X.A (eval (.Name x pos) X.env) Q E s :=
  Calls.Name_function_global I.ok.kind hg (Calls.loadGlobal_global (by rw [I.ok.glob]; exact I.mod.glob.keeps I.bk) hm h) hd
theorem ld_blt {E : Value → Shared → Prop} {pins : List (Addr × Obj)} {s : Shared} {σ : St} {H : Hp} {x : Str} {u : Value} {pos : Pos} {Q : Value → Shared → Prop} (I : Inv X pins σ H s) (hg : Gl X x) (hm : X.mg x = none) (hv : bootBuiltins x = some u) (h : Q u s)
    (hn : x ≠ "__name__" := by decide) (hd : (x == ("__debug__" : Str)) = false := by decide) : wpAny (model X.prog X.w) X.A (eval (.Name x pos) X.env) Q E s := by
  obtain ⟨mb, h1, h2⟩ := I.mod.blt
  exact Calls.Name_function_global I.ok.kind hg (Calls.loadGlobal_builtin (by rw [I.ok.glob]; exact I.mod.glob.keeps I.bk) hm (by rw [I.ok.blt]; exact h1.keeps I.bk) ((h2 x hn).trans hv) h) hd
theorem pe_glob {x : Str} {v : V} {u : Value} {pos : Pos} (hg : Gl X x) (hm : X.mg x = some u) (r : RelV v u) (hd : (x == ("__debug__" : Str)) = false := by decide) : PE X (.Name x pos) (tC v) :=
  fun _ _ _ H _ I h => ld_glob I hg hm ⟨v, H, I, r, h⟩ hd
theorem pe_bltn {x : Str} {v : V} {u : Value} {pos : Pos} (hg : Gl X x) (hm : X.mg x = none) (hv : bootBuiltins x = some u) (r : RelV v u) (hn : x ≠ "__name__" := by decide) (hd : (x == ("__debug__" : Str)) = false := by decide) : PE X (.Name x pos) (tC v) :=
  fun _ _ _ H _ I h => ld_blt I hg hm hv ⟨v, H, I, r, h⟩ hn hd
variable {a b : Expr} {ta tb : TE} {pos : Pos}
noncomputable def PC (X : Cx) (op : CmpOp) (a b : Expr) (t : TE) : Prop :=
  ∀ (pins : List (Addr × Obj)) (s : Shared) (σ : St) (H : Hp) (Q : VK), Inv X pins σ H s → t σ H Q →
    wpAny (model X.prog X.w) X.A (eval a X.env) (fun v s₁ => wpAny (model X.prog X.w) X.A (eval b X.env) (fun u s₂ => wpAny (model X.prog X.w) X.A (compareOp op v u) (EP X pins σ Q) X.xe s₂) X.xe s₁) X.xe s
theorem nobehind (b : Expr) {op : CmpOp} (h : op ≠ .In) (h2 : op ≠ .NotIn) : behindInMarks op b = false := by
  have e1 : (op == CmpOp.In) = false := by cases op <;> first | rfl | exact absurd rfl h
  have e2 : (op == CmpOp.NotIn) = false := by cases op <;> first | rfl | exact absurd rfl h2
  cases b <;> simp [behindInMarks, e1, e2]
noncomputable def tB (t : TE) : TT := fun σ H Q => t σ H fun x H1 => ∃ c, x = .bl c ∧ Q c H1
theorem pt_cmp {op : CmpOp} {t : TE} (h : PC X op a b t) (h1 : behindInMarks op b = false := by first | exact nobehind _ (by decide) (by decide) | rfl) : PT X (.Compare a [op] [b] pos) (tB t) := by
  intro pins s σ H Q I hw
  refine wpAny_isTrue_Compare1 (thn (h pins s σ H _ I hw) fun v s1 h1 => thn h1 fun u s2 h2 => thn h2 fun c s3 ⟨x, H1, I1, r1, q1⟩ => ?_) h1
  obtain ⟨d, rfl, q⟩ := q1
  cases r1
  exact wpAny_truthy_bool ⟨H1, I1, q⟩
theorem pt_val {e : Expr} {t : TE} (h : PE X e t) (he : ∀ whole, isTrue e X.env whole = (do let v ← whole; standAt e.pos; holding [v] (truthy v)) := by intro _; rfl) : PT X e (tB t) := by
  intro pins s σ H Q I hw
  refine isTrue_plain (thn (h pins s σ H _ I hw) fun v s1 ⟨x, H1, I1, r1, q1⟩ => ?_) (he _)
  obtain ⟨d, rfl, q⟩ := q1
  cases r1
  exact wpAny_truthy_bool ⟨H1, I1, q⟩
variable {tA tB' : TT} {rest : List Expr}
noncomputable def tAnd (t u : TT) : TT := fun σ H Q => t σ H fun c H1 => if c = true then u σ H1 Q else Q false H1
noncomputable def tOr (t u : TT) : TT := fun σ H Q => t σ H fun c H1 => if c = true then Q true H1 else u σ H1 Q
noncomputable def tNot (t : TT) : TT := fun σ H Q => t σ H fun c H1 => Q (!c) H1
theorem pw_and1 (ha : PT X a tA) : PW X (.BoolOp .And [a] pos) tA := by
  intro wh pins s σ H Q I h
  refine isTrue_and (thn (ha pins s σ H Q I h) fun c s1 e => ?_)
  cases c with
  | true => exact isTrue_and_nil e
  | false => exact e
theorem pw_or1 (ha : PT X a tA) : PW X (.BoolOp .Or [a] pos) tA := by
  intro wh pins s σ H Q I h
  refine isTrue_or (thn (ha pins s σ H Q I h) fun c s1 e => ?_)
  cases c with
  | false => exact isTrue_or_nil e
  | true => exact e
theorem pw_and (ha : PT X a tA) (hb : PW X (.BoolOp .And (b :: rest) pos) tB') : PW X (.BoolOp .And (a :: b :: rest) pos) (tAnd tA tB') := by
  intro wh pins s σ H Q I h
  refine isTrue_and (thn (ha pins s σ H _ I h) fun c s1 ⟨H1, I1, q1⟩ => ?_)
  cases c with
  | true => exact hb wh pins s1 σ H1 Q I1 q1
  | false => exact ⟨H1, I1, q1⟩
theorem pw_or (ha : PT X a tA) (hb : PW X (.BoolOp .Or (b :: rest) pos) tB') : PW X (.BoolOp .Or (a :: b :: rest) pos) (tOr tA tB') := by
  intro wh pins s σ H Q I h
  refine isTrue_or (thn (ha pins s σ H _ I h) fun c s1 ⟨H1, I1, q1⟩ => ?_)
  cases c with
  | true => exact ⟨H1, I1, q1⟩
  | false => exact hb wh pins s1 σ H1 Q I1 q1
theorem pt_not (ha : PT X a tA) : PT X (.UnaryOp .Not a pos) (tNot tA) := by
  intro pins s σ H Q I h
  exact isTrue_not (ha pins s σ H (fun c H1 => Q (!c) H1) I h)
noncomputable def tAndV (ta tb : TE) : TE := fun σ H Q => ta σ H fun x H1 => ∃ c, x = .bl c ∧ if c = true then tb σ H1 Q else Q (.bl false) H1
theorem pe_one {op} {t : TE} (h : PE X a t) : PE X (.BoolOp op [a] pos) t := fun pins s σ H Q I hw => BoolOp_one (h pins s σ H Q I hw)
theorem pe_and (ha : PE X a ta) (hb : PE X (.BoolOp .And (b :: rest) pos) tb) : PE X (.BoolOp .And (a :: b :: rest) pos) (tAndV ta tb) := by
  intro pins s σ H Q I h
  refine BoolOp_and (thn (ha pins s σ H _ I h) fun v s1 ⟨x, H1, I1, r1, q1⟩ => ?_)
  obtain ⟨c, rfl, q1⟩ := q1
  cases r1
  refine wpAny_truthy_bool ?_
  cases c with
  | true => exact hb pins s1 σ H1 Q I1 q1
  | false => exact ⟨.bl false, H1, I1, rfl, q1⟩
noncomputable def tIf (t : TT) (ta tb : TE) : TE := fun σ H Q => t σ H fun c H1 => if c = true then ta σ H1 Q else tb σ H1 Q
theorem pe_ifExp {c : Expr} (hc : PT X c tA) (ha : PE X a ta) (hb : PE X b tb) : PE X (.IfExp c a b pos) (tIf tA ta tb) := by
  intro pins s σ H Q I h
  refine wpAny_IfExp (thn (hc pins s σ H _ I h) fun d s1 ⟨H1, I1, q1⟩ => ?_)
  cases d with
  | true => exact ha pins s1 σ H1 Q I1 q1
  | false => exact hb pins s1 σ H1 Q I1 q1
end
end L2
namespace L2
open PySem PySem.Spec PyProof.Rows
noncomputable def SqL (K : PySem.W.Frag) (H : Hp) (a : Addr) (xs : List V) : Prop :=
  Rd H a (.lst xs) ∨
    ∃ (o : Obj) (its : Array Value) (n : Nat), K.lookup a = some o ∧ o.cls = .type "list" ∧ o.dict = none ∧ o.data = .seq its n ∧ its.size ≤ sizeLine ∧ Vals xs its.toList
noncomputable def SqT (K : PySem.W.Frag) (H : Hp) (a : Addr) (xs : List V) : Prop :=
  Rd H a (.tup xs) ∨
    ∃ (o : Obj) (its : Array Value) (n : Nat), K.lookup a = some o ∧ o.cls = .type "tuple" ∧ o.data = .seq its n ∧ its.size ≤ sizeLine ∧ Vals xs its.toList
noncomputable def absV : Value → Option V
  | .none => some .non
  | .bool b => some (.bl b)
  | .int i _ => some (.int i)
  | .str x _ => some (.str x)
  | .bytes b _ => some (.byt b)
  | .float b _ => some (.flt b)
  | .ref a => some (.ref a)
  | .type n => some (.ty n)
  | _ => none
theorem RelV.abs {x : V} {u : Value} (r : RelV x u) : absV u = some x := by
  cases x with
  | non => cases r; rfl
  | bl _ => cases r; rfl
  | int _ => obtain ⟨t, rfl⟩ := r; rfl
  | str _ => obtain ⟨t, rfl⟩ := r; rfl
  | byt _ => obtain ⟨t, rfl⟩ := r; rfl
  | flt _ => obtain ⟨t, rfl⟩ := r; rfl
  | ref _ => cases r; rfl
  | ty _ => cases r; rfl
theorem RelV.inj {x y : V} {u : Value} (r : RelV x u) (q : RelV y u) : x = y := Option.some.inj (r.abs.symm.trans q.abs)
theorem Vals.inj : ∀ {xs ys : List V} {us : List Value}, Vals xs us → Vals ys us → xs = ys
  | _, _, _, .nil, .nil => rfl
  | _, _, _, .cons r t, .cons r' t' => by rw [r.inj r', Vals.inj t t']
section
variable {X : Cx} {pins : List (Addr × Obj)} {σ : St} {H : Hp} {s : Shared} {a : Addr} {xs ys : List V}
theorem SqL.of {K : PySem.W.Frag} (h : H a = some (.lst xs)) : SqL K H a xs := .inl (.inl h)
theorem SqT.of {K : PySem.W.Frag} (h : H a = some (.tup xs)) : SqT K H a xs := .inl (.inl h)
theorem Inv.list (I : Inv X pins σ H s) (h : SqL X.K H a xs) : ∃ its : List Value, Vals xs its ∧ PlainL s.heap a its.toArray ∧ xs.length ≤ sizeLine := by
  rcases h with h | ⟨o, its, n, hk, hc, hd, hs, hz, r⟩
  · obtain ⟨z, its, n, r, e⟩ := h.ok I.hok
    exact ⟨its, r, ⟨_, n, e, rfl, rfl, rfl⟩, z⟩
  · refine ⟨its.toList, r, ⟨o, n, I.kIn a o hk, hc, hd, by simpa using hs⟩, ?_⟩
    have e := r.length
    simp only [Array.length_toList] at e
    omega
theorem Inv.tuple (I : Inv X pins σ H s) (h : SqT X.K H a xs) : ∃ its : List Value, Vals xs its ∧ IsTup s.heap a its.toArray ∧ xs.length ≤ sizeLine := by
  rcases h with h | ⟨o, its, n, hk, hc, hs, hz, r⟩
  · obtain ⟨z, its, r, p⟩ := h.ok I.hok
    exact ⟨its, r, p, z⟩
  · refine ⟨its.toList, r, ⟨o, I.kIn a o hk, hc, n, by simpa using hs⟩, ?_⟩
    have e := r.length
    simp only [Array.length_toList] at e
    omega
theorem Inv.list_inj (I : Inv X pins σ H s) (h : SqL X.K H a xs) (h' : SqL X.K H a ys) : xs = ys := by
  obtain ⟨its, r, ⟨o, n, e, _, _, d⟩, _⟩ := I.list h
  obtain ⟨its', r', ⟨o', n', e', _, _, d'⟩, _⟩ := I.list h'
  rw [e] at e'; cases e'
  rw [d] at d'
  injection d' with d1 _
  have : its = its' := by simpa using congrArg Array.toList d1
  subst this
  exact r.inj r'
theorem Inv.tuple_inj (I : Inv X pins σ H s) (h : SqT X.K H a xs) (h' : SqT X.K H a ys) : xs = ys := by
  obtain ⟨its, r, ⟨o, e, _, n, d⟩, _⟩ := I.tuple h
  obtain ⟨its', r', ⟨o', e', _, n', d'⟩, _⟩ := I.tuple h'
  rw [e] at e'; cases e'
  rw [d] at d'
  injection d' with d1 _
  have : its = its' := by simpa using congrArg Array.toList d1
  subst this
  exact r.inj r'
end
noncomputable abbrev Cx.wish (X : Cx) (E : Value → Shared → Prop) : Cx := { X with xe := E }
noncomputable abbrev Cx.nox (X : Cx) : Cx := X.wish fun _ _ => False
theorem Cx.Ok.wish {X : Cx} (ok : X.Ok) (E : Value → Shared → Prop) : (X.wish E).Ok :=
  ⟨ok.mod, ok.kind, ok.glob, ok.blt, ok.above, ok.inj, ok.has, ok.cab, ok.hd, ok.frames, ok.stk, ok.exf, ok.bs, ok.bsz, ok.noex, ok.exfs, ok.funs, ok.frf⟩
theorem Cx.Ok.unwish {X : Cx} {E : Value → Shared → Prop} (ok : (X.wish E).Ok) : X.Ok :=
  ⟨ok.mod, ok.kind, ok.glob, ok.blt, ok.above, ok.inj, ok.has, ok.cab, ok.hd, ok.frames, ok.stk, ok.exf, ok.bs, ok.bsz, ok.noex, ok.exfs, ok.funs, ok.frf⟩
section
variable {X : Cx} {pins : List (Addr × Obj)} {σ : St} {H : Hp} {s : Shared} {E : Value → Shared → Prop}
theorem Inv.wish (I : Inv X pins σ H s) (E : Value → Shared → Prop) : Inv (X.wish E) pins σ H s := ⟨I.ok.wish E, I.os, I.bare, I.base, I.loc, I.cell, I.free, I.freeC, I.pin, I.hok, I.len⟩
theorem Inv.unwish (I : Inv (X.wish E) pins σ H s) : Inv X pins σ H s := ⟨I.ok.unwish, I.os, I.bare, I.base, I.loc, I.cell, I.free, I.freeC, I.pin, I.hok, I.len⟩
theorem SP.unwish {D : Ends} {f : Flow} {s' : Shared} (h : SP (X.wish E) pins D f s') : SP X pins D f s' := by
  cases f with
  | next => obtain ⟨σ', H', I, q⟩ := h; exact ⟨σ', H', I.unwish, q⟩
  | brk => obtain ⟨σ', H', I, q⟩ := h; exact ⟨σ', H', I.unwish, q⟩
  | cont => obtain ⟨σ', H', I, q⟩ := h; exact ⟨σ', H', I.unwish, q⟩
  | ret u => obtain ⟨v, σ', H', I, r, q⟩ := h; exact ⟨v, σ', H', I.unwish, r, q⟩
theorem PE.nox {e : Expr} {t : TE} (h : PE X.nox e t) : PE X e t := fun pins s σ H Q I hw =>
  wpAny_mono (h pins s σ H Q (I.wish _) hw) (fun _ _ ⟨v, H', I', r, q⟩ => ⟨v, H', I'.unwish, r, q⟩) fun _ _ z => False.elim z
theorem PT.nox {e : Expr} {t : TT} (h : PT X.nox e t) : PT X e t := fun pins s σ H Q I hw =>
  wpAny_mono (h pins s σ H Q (I.wish _) hw) (fun _ _ ⟨H', I', q⟩ => ⟨H', I'.unwish, q⟩) fun _ _ z => False.elim z
theorem PSs.nox {st : List Stmt} {t : TS} (h : PSs X.nox st t) : PSs X st t := fun pins s σ H D I hw =>
  wpAny_mono (h pins s σ H D (I.wish _) hw) (fun _ _ q => q.unwish) fun _ _ z => False.elim z
end
section
variable {X : Cx} {st : Stmt} {rest : List Stmt} {t u : TS} {e : Expr} {te : TE} {pos : Pos}
noncomputable def tNext : TS := fun D σ H => D.nx σ H
noncomputable def tSeq (t u : TS) : TS := fun D σ H => t { D with nx := u D } σ H
theorem pss_nil : PSs X [] tNext := fun _ _ σ H _ I h => wpAny_execs_nil ⟨σ, H, I, h⟩
theorem pss_cons (h1 : PS X st t) (h2 : PSs X rest u) : PSs X (st :: rest) (tSeq t u) := by
  intro pins s σ H D I h
  refine wpAny_execs_cons (thn (h1 pins s σ H { D with nx := u D } I h) fun f s1 q => ?_)
  cases f with
  | next =>
    obtain ⟨σ', H', I', q⟩ := q
    exact h2 pins s1 σ' H' D I' q
  | ret v => exact q
  | brk => exact q
  | cont => exact q
theorem Inv.quiet {pins : List (Addr × Obj)} {σ : St} {H : Hp} {s : Shared} (I : Inv X pins σ H s) : interactive X.env = false := by simp [interactive, I.ok.kind]
noncomputable def tDrop (te : TE) : TS := fun D σ H => te σ H fun _ H1 => D.nx σ H1
theorem ps_expr (he : PE X e te) (hs : swapsWith e none pos.line X.env = pure false := by rfl) : PS X (.Expr e pos) (tDrop te) := by
  intro pins s σ H D I h
  exact wpAny_Expr_any (thn (he pins s σ H _ I h) fun v s1 ⟨x, H1, I1, r1, q1⟩ => ⟨σ, H1, I1, q1⟩) I.quiet hs
noncomputable def tRet (te : TE) : TS := fun D σ H => te σ H D.rt
theorem ps_ret (he : PE X e te) : PS X (.Return (some e) pos) (tRet te) := by
  intro pins s σ H D I h
  exact wpAny_Return_some (thn (he pins s σ H _ I h) fun v s1 ⟨x, H1, I1, r1, q1⟩ => ⟨x, σ, H1, I1, r1, q1⟩)
noncomputable def tIfS (c : TT) (t u : TS) : TS := fun D σ H => c σ H fun b H1 => if b = true then t D σ H1 else u D σ H1
theorem ps_if {c : Expr} {a b : List Stmt} {tc : TT} (hc : PT X c tc) (ha : PSs X a t) (hb : PSs X b u) : PS X (.If c a b pos) (tIfS tc t u) := by
  intro pins s σ H D I h
  refine wpAny_If (thn (hc pins s σ H _ I h) fun d s1 ⟨H1, I1, q1⟩ => ?_)
  cases d with
  | true => exact ha pins s1 σ H1 D I1 q1
  | false => exact hb pins s1 σ H1 D I1 q1
end
noncomputable abbrev TG := V → St → Hp → (St → Hp → Prop) → Prop
noncomputable abbrev TGs := List V → St → Hp → (St → Hp → Prop) → Prop
noncomputable def PG (X : Cx) (target : Expr) (t : TG) : Prop :=
  ∀ (pins : List (Addr × Obj)) (s : Shared) (σ : St) (H : Hp) (v : V) (u : Value) (Q : St → Hp → Prop), Inv X pins σ H s → RelV v u → t v σ H Q →
    wpAny (model X.prog X.w) X.A (assign target X.env u) (fun _ s' => ∃ σ' H', Inv X pins σ' H' s' ∧ Q σ' H') X.xe s
noncomputable def PGs (X : Cx) (ts : List Expr) (t : TGs) : Prop :=
  ∀ (pins : List (Addr × Obj)) (s : Shared) (σ : St) (H : Hp) (vs : List V) (us : List Value) (Q : St → Hp → Prop), Inv X pins σ H s → Vals vs us → t vs σ H Q →
    wpAny (model X.prog X.w) X.A (assignInOrder ((assignEach ts X.env).map (·.2)) us) (fun _ s' => ∃ σ' H', Inv X pins σ' H' s' ∧ Q σ' H') X.xe s
noncomputable abbrev TSet := V → V → V → Hp → (Hp → Prop) → Prop
noncomputable def PSet (X : Cx) (t : TSet) : Prop :=
  ∀ (pins : List (Addr × Obj)) (s : Shared) (σ : St) (H : Hp) (o i v : V) (ov iv u : Value) (Q : Hp → Prop), Inv X pins σ H s → RelV o ov → RelV i iv → RelV v u → t o i v H Q →
    wpAny (model X.prog X.w) X.A (setItem ov iv u) (fun _ s' => ∃ H', Inv X pins σ H' s' ∧ Q H') X.xe s
section
variable {X : Cx} {pos : Pos}
noncomputable def gName (i : Nat) : TG := fun v σ H Q => Q (σ.set i (some v)) H
theorem pg_name {i : Nat} {x : Str} (hN : X.N.Nodup) (hi : X.N[i]? = some x) (hx : Loc X.env.scope x) (hf : X.fn x = true ∨ X.env.scope.names.lookup x = some .local := by first | exact .inl rfl | exact .inr rfl | assumption) : PG X (.Name x pos) (gName i) := by
  intro pins s σ H v u Q I r h
  exact wpAny_assign_Name (store_ok I hN hi hx r (fun s' I' => ⟨_, H, I', h⟩) hf)
noncomputable def gNil : TGs := fun vs σ H Q => vs = [] ∧ Q σ H
noncomputable def gCons (t : TG) (u : TGs) : TGs := fun vs σ H Q => ∃ v r, vs = v :: r ∧ t v σ H fun σ' H' => u r σ' H' Q
theorem pgs_nil : PGs X [] gNil := by
  intro pins s σ H vs us Q I r h
  obtain ⟨e, h⟩ := h
  subst e
  cases r
  exact assignInOrder_nil ⟨σ, H, I, h⟩
theorem pgs_cons {e : Expr} {es : List Expr} {t : TG} {u : TGs} (h1 : PG X e t) (h2 : PGs X es u)
    (hs : (assignEach (e :: es) X.env).map (·.2) = assign e X.env :: (assignEach es X.env).map (·.2) := by rfl) : PGs X (e :: es) (gCons t u) := by
  intro pins s σ H vs us Q I r h
  obtain ⟨v, vr, e1, h⟩ := h
  subst e1
  cases r with
  | cons r rr =>
    rw [hs]
    refine assignInOrder_cons (thn (h1 pins s σ H _ _ _ I r h) fun _ s1 ⟨σ1, H1, I1, q1⟩ => ?_)
    exact h2 pins s1 σ1 H1 _ _ Q I1 rr q1
noncomputable def gSub (to ti : TE) (t : TSet) : TG := fun v σ H Q => to σ H fun o H1 => ti σ H1 fun i H2 => t o i v H2 fun H3 => Q σ H3
theorem pg_sub {o i : Expr} {to ti : TE} {t : TSet} (ho : PE X o to) (hi : PE X i ti) (hs : PSet X t)
    (ha : ∀ v, assign (.Subscript o i pos) X.env v = (do
      let ov ← holding [v] (eval o X.env)
      let iv ← holding [v, ov] (eval i X.env)
      standAt pos
      holding [v, ov, iv] (setItem ov iv v)
      release [v, ov, iv] []) := by intro _; rfl) : PG X (.Subscript o i pos) (gSub to ti t) := by
  intro pins s σ H v u Q I r h
  rw [ha]
  refine wpAny_bind (wpAny_holding (thn (ho pins s σ H _ I h) fun ov s1 ⟨x, H1, I1, r1, q1⟩ => ?_))
  refine wpAny_bind (wpAny_holding (thn (hi pins s1 σ H1 _ I1 q1) fun iv s2 ⟨y, H2, I2, r2, q2⟩ => ?_))
  refine wpAny_bind (wpAny_standAt (wpAny_bind (wpAny_holding (thn (hs pins s2 σ H2 x y v ov iv u _ I2 r1 r2 r q2) fun _ s3 ⟨H3, I3, q3⟩ => ?_))))
  exact wpAny_release ⟨σ, H3, I3, q3⟩
noncomputable def tAsg (te : TE) (g : TG) : TS := fun D σ H => te σ H fun x H1 => g x σ H1 D.nx
theorem ps_asg {tg e : Expr} {te : TE} {g : TG} (he : PE X e te) (hg : PG X tg g) (hs : swapsWithSole [tg] e pos.line X.env = pure false := by rfl) (hw : swappedStores [tg] e X.env = pure none := by rfl)
    (h1 : (assignEach [tg] X.env).map (·.2) = [assign tg X.env] := by rfl) : PS X (.Assign [tg] e pos) (tAsg te g) := by
  intro pins s σ H D I h
  refine wpAny_Assign_stores (thn (he pins s σ H _ I h) fun v s1 ⟨x, H1, I1, r1, q1⟩ => ?_) hs hw
  rw [h1]
  exact thn (hg pins s1 σ H1 x v _ I1 r1 q1) fun _ s2 q => q
theorem ps_set {i : Nat} {x : Str} {e : Expr} {te : TE} {pos' : Pos} (hN : X.N.Nodup) (hi : X.N[i]? = some x) (hx : Loc X.env.scope x) (he : PE X e te) (hs : swapsWith e (some (.Name x pos')) pos.line X.env = pure false := by rfl) (hf : X.fn x = true ∨ X.env.scope.names.lookup x = some .local := by first | exact .inl rfl | exact .inr rfl | assumption) :
    PS X (.Assign [.Name x pos'] e pos) (tAsg te (gName i)) := by
  intro pins s σ H D I h
  refine wpAny_Assign_Name (thn (he pins s σ H _ I h) fun v s1 ⟨y, H1, I1, r1, q1⟩ => ?_) hs
  exact store_ok I1 hN hi hx r1 (fun s2 I2 => ⟨_, H1, I2, q1⟩) hf
end
structure It where
  go : Nat → Hp → Prop
  yld : Nat → Hp → V → Hp → Prop
  stop : Nat → Hp → Prop
noncomputable def FpOk (X : Cx) (pins : List (Addr × Obj)) (H : Hp) (b : Addr) : Prop :=
  H b = none ∧ b ≠ X.env.locals ∧ b ∉ X.fs ∧ (b ∈ X.ex ∨ X.s₀.heap.objs.size ≤ b) ∧ (∀ x c, X.env.cells.lookup x = some c → c ≠ b) ∧ ∀ p ∈ X.pn ++ pins, p.1 ≠ b
theorem Inv.fpOk {X : Cx} {pins : List (Addr × Obj)} {σ : St} {H H' : Hp} {s : Shared} {b : Addr} (I : Inv X pins σ H s) (hb : s.heap.objs.size ≤ b) (hn : H' b = none) : FpOk X pins H' b := by
  refine ⟨hn, Nat.ne_of_gt (Nat.lt_of_lt_of_le I.lt hb), I.nofs hb, .inr (Nat.le_trans I.sz hb), fun x c e z => ?_, fun p hp z => ?_⟩
  · obtain ⟨v, q⟩ := I.cell x c e
    exact absurd (Nat.lt_of_lt_of_le q.lt (by rw [z]; exact hb)) (Nat.lt_irrefl _)
  · exact absurd (Nat.lt_of_lt_of_le (Heap.lt_size (I.pin p hp).1) (by rw [z]; exact hb)) (Nat.lt_irrefl _)
structure Turn (P : Program) (w : World) (K : PySem.W.Frag) (tg : Expr) (J : It) (fp : List Addr) (it : Addr) (tn : Nat → Heap → Prop) : Prop where
  mem : it ∈ fp
  obj : ∀ i h, tn i h → ∀ b ∈ fp, ∃ o, h.get? b = some o ∧ ∀ v, o.data ≠ .cell v
  keep : ∀ i h h', tn i h → (∀ b ∈ fp, ∀ o, h.get? b = some o → h'.get? b = some o) → tn i h'
  item : ∀ (X : Cx), X.prog = P → X.w = w → X.K = K → X.calm = true → ∀ (i : Nat) (pins : List (Addr × Obj)) (s : Shared) (σ : St) (H : Hp) (E : Value → Shared → Prop), Inv X pins σ H s → (∀ b ∈ fp, FpOk X pins H b) → tn i s.heap → J.go i H →
    wpAny (model P w) X.A (pyNext (.ref it)) (fun r s1 => ∃ u, r = some u ∧
      wpAny (model P w) X.A (letOwnedTupleGo tg (.ref it) u) (fun _ s2 => ∃ x H', Inv X pins σ H' s2 ∧ RelV x u ∧ J.yld i H x H' ∧ tn (i + 1) s2.heap ∧ ∀ b ∈ fp, H' b = none) E s1) E s
  done : ∀ (X : Cx), X.prog = P → X.w = w → X.K = K → X.calm = true → ∀ (i : Nat) (pins : List (Addr × Obj)) (s : Shared) (σ : St) (H : Hp) (E : Value → Shared → Prop), Inv X pins σ H s → (∀ b ∈ fp, FpOk X pins H b) → tn i s.heap → J.stop i H →
    wpAny (model P w) X.A (pyNext (.ref it)) (fun r s1 => r = none ∧ Inv X pins σ H s1) E s
  self : ∀ (A : Around) (i : Nat) (s : Shared) (Q : Value → Shared → Prop) (E : Value → Shared → Prop), tn i s.heap → Q (.ref it) s → wpAny (model P w) A (pyIter (.ref it)) Q E s
noncomputable abbrev TI := St → Hp → (It → Hp → Prop) → Prop
noncomputable def PIE (X : Cx) (pins : List (Addr × Obj)) (σ : St) (tg : Expr) (R : It → Hp → Prop) (itv : Value) (s2 : Shared) : Prop :=
  ∃ (it : Addr) (fp : List Addr) (tn : Nat → Heap → Prop) (J : It) (H' : Hp), itv = .ref it ∧ Inv X pins σ H' s2 ∧ Turn X.prog X.w X.K tg J fp it tn ∧ tn 0 s2.heap ∧ (∀ b ∈ fp, FpOk X pins H' b) ∧ R J H'
noncomputable def PI (X : Cx) (tg iter : Expr) (wi : TI) : Prop :=
  ∀ (pins : List (Addr × Obj)) (s : Shared) (σ : St) (H : Hp) (R : It → Hp → Prop), Inv X pins σ H s → wi σ H R →
    wpAny (model X.prog X.w) X.A (eval iter X.env) (fun v s1 => wpAny (model X.prog X.w) X.A (pyIter v) (PIE X pins σ tg R) X.xe s1) X.xe s
theorem go_of {M : Model} {A : Around} {E : Value → Shared → Prop} {s : Shared} {tg : Expr} {it : Addr} {u : Value} {o : Obj} {n : String} {vs : Array Value} {Q : Unit → Shared → Prop} (ho : s.heap.get? it = some o) (hc : o.cls = .type n) (hd : o.data = .fields vs)
    (hn : ["enumerate", "zip", "dict_itemiterator", "dict_reverseitemiterator", "odict_iterator", "itertools.zip_longest", "itertools.pairwise"].contains n = false) (hQ : Q () s) : wpAny M A (letOwnedTupleGo tg (.ref it) u) Q E s := by
  unfold letOwnedTupleGo
  cases tg <;> first
    | exact wpAny_pure hQ
    | (cases u <;> first
        | exact wpAny_pure hQ
        | (refine wpAny_bind (wpAny_load ho ?_)
           rw [hc, hd]
           show wpAny M A (if (["enumerate", "zip", "dict_itemiterator", "dict_reverseitemiterator", "odict_iterator", "itertools.zip_longest", "itertools.pairwise"].contains n && vs[0]? == some (rawInt _)) = true then _ else _) Q E s
           rw [if_neg (by intro h; rw [hn, Bool.false_and] at h; cases h)]
           exact wpAny_pure hQ))
noncomputable def Itl (K : PySem.W.Frag) (a : Addr) : It :=
  ⟨fun i H => ∃ xs x, SqL K H a xs ∧ xs[i]? = some x, fun i H x H' => H' = H ∧ ∀ xs, SqL K H a xs → xs[i]? = some x, fun i H => ∃ xs, SqL K H a xs ∧ xs.length ≤ i⟩
noncomputable def Itt (K : PySem.W.Frag) (a : Addr) : It :=
  ⟨fun i H => ∃ xs x, SqT K H a xs ∧ xs[i]? = some x, fun i H x H' => H' = H ∧ ∀ xs, SqT K H a xs → xs[i]? = some x, fun i H => ∃ xs, SqT K H a xs ∧ xs.length ≤ i⟩
noncomputable def Itr (lo : Int) (n : Nat) : It := ⟨fun i _ => i < n, fun i H x H' => H' = H ∧ x = .int (lo + i), fun i _ => n ≤ i⟩
theorem turn_list {P : Program} {w : World} {K : PySem.W.Frag} {tg : Expr} (a it : Addr) : Turn P w K tg (Itl K a) [it] it (fun i h => h.IsListIter it a i) where
  mem := by simp
  obj := fun i h st b hb => by
    have e : b = it := by simpa using hb
    subst e
    obtain ⟨o, e, c, d⟩ := st
    exact ⟨o, e, fun v z => by rw [d] at z; cases z⟩
  keep := fun i h h' st k => st.at fun o e => k it (by simp) o e
  item := by
    intro X hP hw hK hc i pins s σ H E I hf st hg
    subst hP hw hK
    obtain ⟨xs, x, hq, hx⟩ := hg
    obtain ⟨its, rv, p, hz⟩ := I.list hq
    obtain ⟨u, hu, ru⟩ := rv.get hx
    obtain ⟨f0, f1, f2, f3, f4, f5⟩ := hf it (by simp)
    refine wpAny_pyNext_list_item st p.isList (x := u) (by simpa using hu) fun h' st' sb => ?_
    have I1 : Inv X pins σ H { s with heap := h' } := I.turned (t' := s.toks) (fun b o hb e => (sb.2 b hb).trans e) f0 f1 f3 f4 f5
    obtain ⟨o, e, c, d⟩ := id st'
    exact ⟨u, rfl, go_of (s := { s with heap := h' }) e c d (by decide) ⟨x, H, I1, ru, ⟨rfl, fun ys hy => by rw [I.list_inj hy hq]; exact hx⟩, st', fun b hb => (hf b hb).1⟩⟩
  done := by
    intro X hP hw hK hc i pins s σ H E I hf st hg
    subst hP hw hK
    obtain ⟨xs, hq, hx⟩ := hg
    obtain ⟨its, rv, p, hz⟩ := I.list hq
    obtain ⟨f0, f1, f2, f3, f4, f5⟩ := hf it (by simp)
    have hl := rv.length
    exact wpAny_pyNext_list_end (I.ok.hd hc) st p.isList (by simp; omega) fun h' eb => ⟨rfl, I.turned (t' := s.toks) (fun b o hb e => eb b o hb e) f0 f1 f3 f4 f5⟩
  self := fun _ _ _ _ _ st h => wpAny_pyIter_listiter st h
theorem turn_tuple {P : Program} {w : World} {K : PySem.W.Frag} {tg : Expr} (a it : Addr) : Turn P w K tg (Itt K a) [it] it (fun i h => h.IsTupleIter it a i) where
  mem := by simp
  obj := fun i h st b hb => by
    have e : b = it := by simpa using hb
    subst e
    obtain ⟨o, e, c, d⟩ := st
    exact ⟨o, e, fun v z => by rw [d] at z; cases z⟩
  keep := fun i h h' st k => st.at fun o e => k it (by simp) o e
  item := by
    intro X hP hw hK hc i pins s σ H E I hf st hg
    subst hP hw hK
    obtain ⟨xs, x, hq, hx⟩ := hg
    obtain ⟨its, rv, p, hz⟩ := I.tuple hq
    obtain ⟨u, hu, ru⟩ := rv.get hx
    obtain ⟨f0, f1, f2, f3, f4, f5⟩ := hf it (by simp)
    refine wpAny_pyNext_tuple_item st (show s.heap.IsTuple a its.toArray from p) (x := u) (by simpa using hu) fun h' st' sb => ?_
    have I1 : Inv X pins σ H { s with heap := h' } := I.turned (t' := s.toks) (fun b o hb e => (sb.2 b hb).trans e) f0 f1 f3 f4 f5
    obtain ⟨o, e, c, d⟩ := id st'
    exact ⟨u, rfl, go_of (s := { s with heap := h' }) e c d (by decide) ⟨x, H, I1, ru, ⟨rfl, fun ys hy => by rw [I.tuple_inj hy hq]; exact hx⟩, st', fun b hb => (hf b hb).1⟩⟩
  done := by
    intro X hP hw hK hc i pins s σ H E I hf st hg
    subst hP hw hK
    obtain ⟨xs, hq, hx⟩ := hg
    obtain ⟨its, rv, p, hz⟩ := I.tuple hq
    obtain ⟨f0, f1, f2, f3, f4, f5⟩ := hf it (by simp)
    have hl := rv.length
    exact wpAny_pyNext_tuple_end (I.ok.hd hc) st (show s.heap.IsTuple a its.toArray from p) (by simp; omega) fun h' eb => ⟨rfl, I.turned (t' := s.toks) (fun b o hb e => eb b o hb e) f0 f1 f3 f4 f5⟩
  self := fun _ _ _ _ _ st h => wpAny_pyIter_tupleiter st h
theorem turn_range {P : Program} {w : World} {K : PySem.W.Frag} {tg : Expr} (it : Addr) (lo : Int) (n : Nat) : Turn P w K tg (Itr lo n) [it] it (fun i h => IsRangeIter h it (lo + (i : Nat) * 1) ((n : Int) - (i : Nat)) 1) where
  mem := by simp
  obj := fun i h st b hb => by
    have e : b = it := by simpa using hb
    subst e
    exact ⟨_, st, fun v z => by
      have z' : Data.fields _ = Data.cell v := z
      cases z'⟩
  keep := fun i h h' st k => k it (by simp) _ st
  item := by
    intro X hP hw hK hc i pins s σ H E I hf st hg
    subst hP hw hK
    obtain ⟨f0, f1, f2, f3, f4, f5⟩ := hf it (by simp)
    have W := Walks.range (prog := X.prog) (w := X.w) (I.ok.hd hc) it lo 1 n
    refine W.item i s _ _ hg st fun v h' tk hv st' kk => ?_
    obtain ⟨t, rfl⟩ := hv
    have I1 : Inv X pins σ H { s with heap := h', toks := tk } := I.turned (fun b o hb e => kk b o (by simpa using hb) e) f0 f1 f3 f4 f5
    refine ⟨_, rfl, go_of (s := { s with heap := h', toks := tk }) (n := "range_iterator") st' rfl rfl (by decide) ⟨.int (lo + i), H, I1, ⟨t, ?_⟩, ⟨rfl, rfl⟩, st', fun b hb => (hf b hb).1⟩⟩
    rw [Int.mul_one]
  done := by
    intro X hP hw hK hc i pins s σ H E I hf st hg
    subst hP hw hK
    obtain ⟨f0, f1, f2, f3, f4, f5⟩ := hf it (by simp)
    exact wpAny_pyNext_range_end (I.ok.hd hc) st (by have : n ≤ i := hg; omega) fun h' eb => ⟨rfl, I.turned (t' := s.toks) (fun b o hb e => eb b o hb e) f0 f1 f3 f4 f5⟩
  self := fun _ _ _ _ _ st h => wpAny_pyIter_rangeiter st h
end L2
namespace L2
open PySem PySem.Spec PyProof.Rows
section
variable {X : Cx} {tg : Expr}
theorem range_it {pins : List (Addr × Obj)} {σ : St} {H : Hp} {s : Shared} {R : It → Hp → Prop} {E : Value → Shared → Prop} {lo hi : Int} {t u v : Tok} {tk : Nat} (I : Inv X pins σ H s) (h1 : -(2 ^ 62) ≤ lo) (h2 : lo < 2 ^ 62) (h3 : -(2 ^ 62) ≤ hi) (h4 : hi < 2 ^ 62)
    (q : R (Itr lo (hi - lo).toNat) H) : wpAny (model X.prog X.w) X.A (pyIter (.ref s.heap.objs.size)) (PIE X pins σ tg R) E { s with heap := s.heap.push { cls := .type "range", data := .fields #[.int lo t, .int hi u, .int 1 v] }, toks := tk } := by
  refine wpAny_pyIter_range (IsRange.new ..) (small_one h1 h2 h3 h4) ?_
  have I1 : Inv X pins σ H { s with heap := s.heap.push { cls := .type "range", data := .fields #[.int lo t, .int hi u, .int 1 v] }, toks := tk } := I.kept fun b o e => Heap.get?_push_of_some _ e
  refine ⟨(s.heap.push { cls := .type "range", data := .fields #[.int lo t, .int hi u, .int 1 v] }).objs.size, [(s.heap.push { cls := .type "range", data := .fields #[.int lo t, .int hi u, .int 1 v] }).objs.size], _, _, H, rfl,
    I1.kept (t' := tk) fun b o e => Heap.get?_push_of_some _ e, turn_range _ lo (hi - lo).toNat, ?_, fun b hb => ?_, q⟩
  · have e1 : lo + ((0 : Nat) : Int) * 1 = lo := by simp
    have e2 : (((hi - lo).toNat : Nat) : Int) - ((0 : Nat) : Int) = Builtin.Range.rangeSize lo hi 1 := by rw [rangeSize_one]; split <;> omega
    show IsRangeIter _ _ (lo + ((0 : Nat) : Int) * 1) ((((hi - lo).toNat : Nat) : Int) - ((0 : Nat) : Int)) 1
    rw [e1, e2]
    exact Heap.get?_push_size _ rfl
  · have e : b = (s.heap.push { cls := .type "range", data := .fields #[.int lo t, .int hi u, .int 1 v] }).objs.size := by simpa using hb
    subst e
    exact I1.fpOk (Nat.le_refl _) (I1.hok.fresh (Nat.le_refl _))
noncomputable def iRng1 (ta : TA) : TI := fun σ H R => ta σ H fun vs H1 => ∃ j : Int, vs = [.int j] ∧ -(2 ^ 62) ≤ j ∧ j < 2 ^ 62 ∧ R (Itr 0 j.toNat) H1
theorem pi_range1 {a : Expr} {ta : TA} {p pos : Pos} (hg : Gl X "range") (hm : X.mg "range" = none) (ha : PA X [a] ta) (hs : starEach [a] X.env = [(false, eval a X.env)] := by rfl) : PI X tg (.Call (.Name "range" p) [a] [] pos) (iRng1 ta) := by
  intro pins s σ H R I h
  refine Call_ (ld_blt I hg hm boot_range (PyProof.Rows.callWith_type1 (thn (ha pos pins s σ H _ I h) fun us s1 ⟨vs, H1, I1, r1, q1⟩ => ?_) hs rfl))
  obtain ⟨j, e, q1, q2, q⟩ := q1
  subst e
  cases r1 with
  | cons r rr =>
    cases rr
    obtain ⟨t, rfl⟩ := r
    exact call_range_1 (range_it I1 (by omega) (by omega) q1 q2 (by simpa using q))
noncomputable def tFor (wi : TI) (g : TG) (tb : TS) : TS := fun D σ H => wi σ H fun J H1 => ∃ W : Nat → Nat → St → Hp → Prop, (∃ m, W 0 m σ H1) ∧ ∀ i m σ H, W i m σ H →
  (J.stop i H ∧ D.nx σ H) ∨ (J.go i H ∧ ∃ N : St → Hp → Prop, (∀ σ' H', N σ' H' → ∃ m', m' < m ∧ W (i + 1) m' σ' H') ∧ ∀ x H', J.yld i H x H' → g x σ H' fun σ2 H2 => tb { D with nx := N, ct := N, bk := D.nx } σ2 H2)
noncomputable def pinsAt (fp : List Addr) (h : Heap) : List (Addr × Obj) := fp.filterMap fun b => (h.get? b).map fun o => (b, o)
theorem mem_pinsAt {fp : List Addr} {h : Heap} {b : Addr} {o : Obj} (hb : b ∈ fp) (e : h.get? b = some o) : (b, o) ∈ pinsAt fp h := List.mem_filterMap.mpr ⟨b, hb, by rw [e]; rfl⟩
theorem of_pinsAt {fp : List Addr} {h : Heap} {p : Addr × Obj} (hp : p ∈ pinsAt fp h) : p.1 ∈ fp ∧ h.get? p.1 = some p.2 := by
  obtain ⟨b, hb, e⟩ := List.mem_filterMap.mp hp
  cases q : h.get? b with
  | none => rw [q] at e; cases e
  | some o =>
    rw [q] at e
    have e' : (b, o) = p := Option.some.inj e
    subst e'
    exact ⟨hb, q⟩
theorem Inv.pinned {pins : List (Addr × Obj)} {σ : St} {H : Hp} {s : Shared} {fp : List Addr} (I : Inv X pins σ H s) (hf : ∀ b ∈ fp, FpOk X pins H b) (ho : ∀ b ∈ fp, ∃ o, s.heap.get? b = some o ∧ ∀ v, o.data ≠ .cell v) : Inv X (pins ++ pinsAt fp s.heap) σ H s :=
  I.pins_of fun p hp => (List.mem_append.mp hp).elim (fun z => I.pin p (List.mem_append_right _ z)) fun z => by
    obtain ⟨hb, e⟩ := of_pinsAt z
    obtain ⟨f0, f1, f2, _⟩ := hf p.1 hb
    obtain ⟨o, e', d⟩ := ho p.1 hb
    rw [e] at e'; cases e'
    exact ⟨e, f0, f1, f2, d⟩
theorem Inv.unpinned {pins pl : List (Addr × Obj)} {σ : St} {H : Hp} {s : Shared} (I : Inv X (pins ++ pl) σ H s) : Inv X pins σ H s := I.pins_of fun p hp => I.pin p (List.mem_append_right _ (List.mem_append_left _ hp))
theorem ps_for {iter : Expr} {body : List Stmt} {wi : TI} {g : TG} {tb : TS} {pos : Pos} (hp : PassesOwn (model X.prog X.w) X.A X.env X.xe) (hc : X.calm = true) (hi : PI X tg iter wi) (hg : PG X tg g) (hb : PSs X body tb)
    (hs : ∀ x, foldedSetIterable iter X.env x = pure x := by intro _; rfl) : PS X (.For tg iter body [] pos) (tFor wi g tb) := by
  intro pins s σ H D I h
  refine wpAny_For (thn (hi pins s σ H _ I h) fun v s1 h1 => thn h1 fun itv s2 h2 => ?_) hs
  obtain ⟨it, fp, tn, J, H2, e, I2, T, st2, f2, W, ⟨m0, w0⟩, turn⟩ := h2
  subst e
  -- what stays true of the iterator's objects through the loop
  have stat : ∀ {H' : Hp}, (∀ b ∈ fp, H' b = none) → ∀ b ∈ fp, FpOk X pins H' b := fun hn b hb => ⟨hn b hb, (f2 b hb).2⟩
  refine codeAny_forLoop_any (fun n s' => ∃ i σ' H', Inv X pins σ' H' s' ∧ tn i s'.heap ∧ (∀ b ∈ fp, H' b = none) ∧ W i n σ' H') ?_ m0 ⟨0, σ, H2, I2, st2, fun b hb => (f2 b hb).1, w0⟩
  rintro n s3 ⟨i, σ3, H3, I3, st3, fr3, w3⟩
  rcases turn i n σ3 H3 w3 with ⟨stop, qn⟩ | ⟨go, N, hN, step⟩
  · refine wpAny_passesOwn hp (thn (T.done X rfl rfl rfl hc i pins s3 σ3 H3 X.xe I3 (stat fr3) st3 stop) fun r s4 ⟨hr, I4⟩ => ?_)
    subst hr
    exact wpAny_execs_nil ⟨σ3, H3, I4, qn⟩
  · refine wpAny_passesOwn hp (thn (T.item X rfl rfl rfl hc i pins s3 σ3 H3 X.xe I3 (stat fr3) st3 go) fun r s4 ⟨u, hr, h4⟩ => ?_)
    subst hr
    refine wpAny_passesOwn hp (thn h4 fun _ s5 ⟨x, H5, I5, r5, y5, st5, fr5⟩ => ?_)
    have I5' := I5.pinned (stat fr5) (T.obj _ _ st5)
    refine wpAny_passesOwn hp (thn (hg _ s5 σ3 H5 x u _ I5' r5 (step x H5 y5)) fun _ s6 ⟨σ6, H6, I6, q6⟩ => ?_)
    refine wpAny_passesOwn hp (thn (hb _ s6 σ6 H6 _ I6 q6) fun f s7 q7 => ?_)
    have again : ∀ {σ7 : St} {H7 : Hp}, Inv X (pins ++ pinsAt fp s5.heap) σ7 H7 s7 → N σ7 H7 → ∃ m, m < n ∧ ∃ i σ' H', Inv X pins σ' H' s7 ∧ tn i s7.heap ∧ (∀ b ∈ fp, H' b = none) ∧ W i m σ' H' := fun {σ7 H7} I7 n7 => by
      obtain ⟨m', hm, w7⟩ := hN σ7 H7 n7
      refine ⟨m', hm, i + 1, σ7, H7, I7.unpinned, T.keep _ _ _ st5 fun b hb o e => (I7.pin (b, o) (List.mem_append_right _ (List.mem_append_right _ (mem_pinsAt hb e)))).1, fun b hb => ?_, w7⟩
      obtain ⟨o, e, d⟩ := T.obj _ _ st5 b hb
      exact (I7.pin (b, o) (List.mem_append_right _ (List.mem_append_right _ (mem_pinsAt hb e)))).2.1
    cases f with
    | next => obtain ⟨σ7, H7, I7, n7⟩ := q7; exact again I7 n7
    | cont => obtain ⟨σ7, H7, I7, n7⟩ := q7; exact again I7 n7
    | brk => obtain ⟨σ7, H7, I7, q7⟩ := q7; exact ⟨σ7, H7, I7.unpinned, q7⟩
    | ret v => obtain ⟨x7, σ7, H7, I7, r7, q7⟩ := q7; exact ⟨x7, σ7, H7, I7.unpinned, r7, q7⟩
end
end L2
namespace L2
open PySem PySem.Spec PyProof.Rows
noncomputable abbrev R2 := V → V → Hp → VK → Prop
noncomputable def OpR (X : Cx) (f : Value → Value → Sem Value) (r : R2) : Prop :=
  ∀ (pins : List (Addr × Obj)) (s : Shared) (σ : St) (H : Hp) (x y : V) (v u : Value) (Q : VK), Inv X pins σ H s → RelV x v → RelV y u → r x y H Q →
    wpAny (model X.prog X.w) X.A (f v u) (EP X pins σ Q) X.xe s
noncomputable def UnR (X : Cx) (f : Value → Sem Value) (r : V → Hp → VK → Prop) : Prop :=
  ∀ (pins : List (Addr × Obj)) (s : Shared) (σ : St) (H : Hp) (x : V) (v : Value) (Q : VK), Inv X pins σ H s → RelV x v → r x H Q →
    wpAny (model X.prog X.w) X.A (f v) (EP X pins σ Q) X.xe s
noncomputable def CallR (X : Cx) (f : Value) (r : List V → Hp → VK → Prop) : Prop :=
  ∀ (pins : List (Addr × Obj)) (s : Shared) (σ : St) (H : Hp) (xs : List V) (us : List Value) (Q : VK), Inv X pins σ H s → Vals xs us → r xs H Q →
    wpAny (model X.prog X.w) X.A (call f us) (EP X pins σ Q) X.xe s
noncomputable def tOp (r : R2) (ta tb : TE) : TE := fun σ H Q => ta σ H fun x H1 => tb σ H1 fun y H2 => r x y H2 Q
noncomputable def tUn (r : V → Hp → VK → Prop) (ta : TE) : TE := fun σ H Q => ta σ H fun x H1 => r x H1 Q
noncomputable def rI (C : Int → Int → Prop) (g : Int → Int → V) : R2 := fun x y H Q => ∃ i j, x = .int i ∧ y = .int j ∧ C i j ∧ Q (g i j) H
noncomputable def rI0 (g : Int → Int → V) : R2 := fun x y H Q => ∃ i j, x = .int i ∧ y = .int j ∧ Q (g i j) H
noncomputable def rU (g : Int → V) : V → Hp → VK → Prop := fun x H Q => ∃ i, x = .int i ∧ Q (g i) H
section
variable {X : Cx} {a b c : Expr} {ta tb tc : TE} {pos : Pos}
theorem binT (ha : PE X a ta) (hb : PE X b tb) {pins : List (Addr × Obj)} {s : Shared} {σ : St} {H : Hp} {R : V → V → Hp → Prop} (I : Inv X pins σ H s)
    (h : ta σ H fun x H1 => tb σ H1 fun y H2 => R x y H2) {Q : Value → Shared → Prop} {f : Value → Value → Sem Value}
    (hf : ∀ v u s2 x y H2, Inv X pins σ H2 s2 → RelV x v → RelV y u → R x y H2 → wpAny (model X.prog X.w) X.A (f v u) Q X.xe s2) :
    wpAny (model X.prog X.w) X.A (eval a X.env) (fun v s₁ => wpAny (model X.prog X.w) X.A (eval b X.env) (fun u s₂ => wpAny (model X.prog X.w) X.A (f v u) Q X.xe s₂) X.xe s₁) X.xe s := by
  refine thn (ha pins s σ H _ I h) fun v s1 ⟨x, H1, I1, r1, q1⟩ => ?_
  refine thn (hb pins s1 σ H1 _ I1 q1) fun u s2 ⟨y, H2, I2, r2, q2⟩ => ?_
  exact hf v u s2 x y H2 I2 r1 r2 q2
theorem pe_op {op : Operator} {r : R2} (ho : OpR X (binaryOp op) r) (ha : PE X a ta) (hb : PE X b tb) : PE X (.BinOp a op b pos) (tOp r ta tb) := by
  intro pins s σ H Q I h
  exact wpAny_BinOp (binT ha hb I h fun v u s2 x y H2 I2 rx ry q => ho pins s2 σ H2 x y v u Q I2 rx ry q)
theorem pe_un {op : UnaryOp} {r : V → Hp → VK → Prop} (ho : UnR X (unaryOp op) r) (ha : PE X a ta) : PE X (.UnaryOp op a pos) (tUn r ta) := by
  intro pins s σ H Q I h
  exact UnaryOp_ (thn (ha pins s σ H _ I h) fun v s1 ⟨x, H1, I1, r1, q1⟩ => ho pins s1 σ H1 x v Q I1 r1 q1)
theorem opI {f : Value → Value → Sem Value} {C : Int → Int → Prop} {g : Int → Int → Int}
    (rule : ∀ (i j : Int) (t u : Tok) (s : Shared) (Q : Value → Shared → Prop) (E : Value → Shared → Prop), C i j → Q (.int (g i j) s.toks) { s with toks := s.toks + 1 } → wpAny (model X.prog X.w) X.A (f (.int i t) (.int j u)) Q E s) :
    OpR X f (rI C fun i j => .int (g i j)) := by
  intro pins s σ H x y v u Q I rx ry h
  obtain ⟨i, j, rfl, rfl, hc, q⟩ := h
  obtain ⟨t, rfl⟩ := rx
  obtain ⟨t', rfl⟩ := ry
  exact rule i j t t' s _ _ hc ⟨.int (g i j), H, I.tok _, ⟨_, rfl⟩, q⟩
theorem opI0 {f : Value → Value → Sem Value} {g : Int → Int → Int}
    (rule : ∀ (i j : Int) (t u : Tok) (s : Shared) (Q : Value → Shared → Prop) (E : Value → Shared → Prop), Q (.int (g i j) s.toks) { s with toks := s.toks + 1 } → wpAny (model X.prog X.w) X.A (f (.int i t) (.int j u)) Q E s) :
    OpR X f (rI0 fun i j => .int (g i j)) := by
  intro pins s σ H x y v u Q I rx ry h
  obtain ⟨i, j, rfl, rfl, q⟩ := h
  obtain ⟨t, rfl⟩ := rx
  obtain ⟨t', rfl⟩ := ry
  exact rule i j t t' s _ _ ⟨.int (g i j), H, I.tok _, ⟨_, rfl⟩, q⟩
theorem opB0 {f : Value → Value → Sem Value} {g : Int → Int → Bool}
    (rule : ∀ (i j : Int) (t u : Tok) (s : Shared) (Q : Value → Shared → Prop) (E : Value → Shared → Prop), Q (.bool (g i j)) s → wpAny (model X.prog X.w) X.A (f (.int i t) (.int j u)) Q E s) :
    OpR X f (rI0 fun i j => .bl (g i j)) := by
  intro pins s σ H x y v u Q I rx ry h
  obtain ⟨i, j, rfl, rfl, q⟩ := h
  obtain ⟨t, rfl⟩ := rx
  obtain ⟨t', rfl⟩ := ry
  exact rule i j t t' s _ _ ⟨.bl (g i j), H, I, rfl, q⟩
noncomputable def CDiv (i j : Int) : Prop := 0 < j ∧ j < 1073741824
noncomputable def CPow (i j : Int) : Prop := 0 ≤ j ∧ j ≤ 1000000 ∧ i.natAbs < 2 ^ 64
noncomputable def CMul (i j : Int) : Prop := (-(2 ^ 64) < i ∧ i < 2 ^ 64) ∨ (-(2 ^ 64) < j ∧ j < 2 ^ 64)
theorem CMul.ok {i j : Int} (h : CMul i j) : IntMulOk i j := by
  rcases h with ⟨h1, h2⟩ | ⟨h1, h2⟩
  · exact .of_left (intBits_le_64 h1 h2)
  · exact .of_right (intBits_le_64 h1 h2)
theorem op_add : OpR X (binaryOp .Add) (rI0 fun i j => .int (i + j)) := opI0 fun _ _ _ _ _ _ _ q => add_int q
theorem op_sub : OpR X (binaryOp .Sub) (rI0 fun i j => .int (i - j)) := opI0 fun _ _ _ _ _ _ _ q => sub_int q
theorem op_mul : OpR X (binaryOp .Mult) (rI CMul fun i j => .int (i * j)) := opI fun _ _ _ _ _ _ _ hc q => mul_int q hc.ok
theorem op_fdiv : OpR X (binaryOp .FloorDiv) (rI CDiv fun i j => .int (i / j)) := opI fun i j _ _ _ _ _ hc q => by
  have h1 : (0 : Int) < j := hc.1
  have h2 : j < 1073741824 := hc.2
  exact floordiv_int (by omega) (by rw [Int.fdiv_eq_ediv_of_nonneg i (by omega)]; exact q) (.inl (PyProof.noPylong_small (by omega)))
theorem op_mod : OpR X (binaryOp .Mod) (rI (fun _ j => 0 < j) fun i j => .int (i % j)) := opI fun i j _ _ _ _ _ hc q => by
  have h1 : (0 : Int) < j := hc
  exact mod_int' (by omega) (by rw [Int.fmod_eq_emod_of_nonneg i (by omega)]; exact q)
theorem unI {f : Value → Sem Value} {g : Int → Int}
    (rule : ∀ (i : Int) (t : Tok) (s : Shared) (Q : Value → Shared → Prop) (E : Value → Shared → Prop), Q (.int (g i) s.toks) { s with toks := s.toks + 1 } → wpAny (model X.prog X.w) X.A (f (.int i t)) Q E s) :
    UnR X f (rU fun i => .int (g i)) := by
  intro pins s σ H x v Q I rx h
  obtain ⟨i, rfl, q⟩ := h
  obtain ⟨t, rfl⟩ := rx
  exact rule i t s _ _ ⟨.int (g i), H, I.tok _, ⟨_, rfl⟩, q⟩
theorem un_neg : UnR X (unaryOp .USub) (rU fun i => .int (-i)) := unI fun _ _ _ _ _ q => neg_int q
end
section
variable {X : Cx} {a b c : Expr} {ta tb tc : TE} {pos : Pos}
theorem fin_bl {pins : List (Addr × Obj)} {σ : St} {H : Hp} {s : Shared} {Q : VK} {k k' : Bool} (I : Inv X pins σ H s) (q : Q (.bl k) H) (e : k = k') : EP X pins σ Q (.bool k') s := by
  subst e
  exact ⟨.bl k, H, I, rfl, q⟩
theorem op_lt : OpR X (compareOp .Lt) (rI0 fun i j => .bl (decide (i < j))) := opB0 fun _ _ _ _ _ _ _ q => lt_int q
theorem op_gt : OpR X (compareOp .Gt) (rI0 fun i j => .bl (decide (j < i))) := opB0 fun _ _ _ _ _ _ _ q => gt_int q
theorem op_ge : OpR X (compareOp .GtE) (rI0 fun i j => .bl (decide (j ≤ i))) := opB0 fun _ _ _ _ _ _ _ q => ge_int q
theorem op_in_str : OpR X (compareOp .In) (fun x y H Q => ∃ i j, x = .str i ∧ y = .str j ∧ Q (.bl (!(Builtin.Str.occurrences j i 0 j.length 1).isEmpty)) H) := by
  intro pins s σ H x y v u Q I rx ry h
  obtain ⟨i, j, rfl, rfl, q⟩ := h
  obtain ⟨t, rfl⟩ := rx
  obtain ⟨t', rfl⟩ := ry
  exact in_str (fin_bl I q rfl)
theorem op_isN : OpR X (compareOp .Is) (fun x y H Q => y = .non ∧ Q (.bl (decide (x = .non))) H) := by
  intro pins s σ H x y v u Q I rx ry h
  obtain ⟨rfl, q⟩ := h
  cases ry
  refine is_none_gen (fin_bl I q ?_)
  cases x <;> first
    | (cases rx; rfl)
    | (obtain ⟨t, rfl⟩ := rx; rfl)
theorem OpR.or {f : Value → Value → Sem Value} {r r' : R2} (h : OpR X f r) (h' : OpR X f r') : OpR X f (fun x y H Q => r x y H Q ∨ r' x y H Q) := by
  intro pins s σ H x y v u Q I rx ry q
  rcases q with q | q
  · exact h pins s σ H x y v u Q I rx ry q
  · exact h' pins s σ H x y v u Q I rx ry q
theorem nomark (b : Expr) {op : CmpOp} (h : op ≠ .In := by decide) (h2 : op ≠ .NotIn := by decide) : behindInMarks op b = false := by
  have e1 : (op == CmpOp.In) = false := by cases op <;> first | rfl | exact absurd rfl h
  have e2 : (op == CmpOp.NotIn) = false := by cases op <;> first | rfl | exact absurd rfl h2
  cases b <;> simp [behindInMarks, e1, e2]
theorem pe_cmpR {op : CmpOp} {r : R2} (ho : OpR X (compareOp op) r) (ha : PE X a ta) (hb : PE X b tb) (hm : behindInMarks op b = false) : PE X (.Compare a [op] [b] pos) (tOp r ta tb) := by
  intro pins s σ H Q I h
  exact wpAny_Compare1 (binT ha hb I h fun v u s2 x y H2 I2 rx ry q => ho pins s2 σ H2 x y v u Q I2 rx ry q) hm
noncomputable def tTest (t : TE) : TT := fun σ H Q => t σ H fun x H' => ∃ k, x = .bl k ∧ Q k H'
theorem pt_cmpR {op : CmpOp} {r : R2} (ho : OpR X (compareOp op) r) (ha : PE X a ta) (hb : PE X b tb) (hm : behindInMarks op b = false) : PT X (.Compare a [op] [b] pos) (tTest (tOp r ta tb)) := by
  intro pins s σ H Q I h
  refine wpAny_isTrue_Compare1 (thn (ha pins s σ H _ I h) fun v s1 ⟨x, H1, I1, r1, q1⟩ => thn (hb pins s1 σ H1 _ I1 q1) fun u s2 ⟨y, H2, I2, r2, q2⟩ =>
    thn (ho pins s2 σ H2 x y v u _ I2 r1 r2 q2) fun c s3 ⟨z, H3, I3, r3, k, e, q3⟩ => ?_) hm
  subst e
  cases r3
  exact wpAny_truthy_bool ⟨H3, I3, q3⟩
theorem line63 : (sizeLine : Nat) < 2 ^ 63 := by rw [sizeLine_eq]; decide
theorem op_add_str : OpR X (binaryOp .Add) (fun x y H Q => ∃ i j, x = .str i ∧ y = .str j ∧ i.length + j.length ≤ sizeLine ∧ Q (.str (i ++ j)) H) := by
  intro pins s σ H x y v u Q I rx ry h
  obtain ⟨i, j, rfl, rfl, hz, q⟩ := h
  obtain ⟨t, rfl⟩ := rx
  obtain ⟨t', rfl⟩ := ry
  exact add_str (fun t' tk => ⟨.str (i ++ j), H, I.tok _, ⟨_, rfl⟩, q⟩) hz
theorem vals1 {x : V} {us : List Value} (r : Vals [x] us) : ∃ u, us = [u] ∧ RelV x u := by
  cases r with
  | cons r1 r2 => cases r2; exact ⟨_, rfl, r1⟩
theorem vals2 {x y : V} {us : List Value} (r : Vals [x, y] us) : ∃ u w', us = [u, w'] ∧ RelV x u ∧ RelV y w' := by
  cases r with
  | cons r1 r2 =>
    cases r2 with
    | cons r3 r4 => cases r4; exact ⟨_, _, rfl, r1, r3⟩
theorem call_max2 (hc : X.calm = true) : CallR X (.builtin "max") (fun xs H Q => ∃ i j, xs = [.int i, .int j] ∧ Q (.int (if j > i then j else i)) H) := by
  intro pins s σ H xs us Q I r h
  obtain ⟨i, j, rfl, q⟩ := h
  obtain ⟨u, w', rfl, ⟨t, rfl⟩, ⟨t', rfl⟩⟩ := vals2 r
  refine max_two_ints (I.ok.hd hc) fun h' tk k => ⟨_, H, I.kept k, ?_, q⟩
  by_cases hj : j > i
  · rw [if_pos hj, if_pos hj]; exact ⟨_, rfl⟩
  · rw [if_neg hj, if_neg hj]; exact ⟨_, rfl⟩
theorem call_int1 : CallR X (.type "int") (fun xs H Q => (∃ i, xs = [.int i] ∧ Q (.int i) H) ∨ ∃ k, xs = [.bl k] ∧ Q (.int (if k then 1 else 0)) H) := by
  intro pins s σ H xs us Q I r h
  rcases h with ⟨i, rfl, q⟩ | ⟨k, rfl, q⟩
  · obtain ⟨u, rfl, t, rfl⟩ := vals1 r
    exact call_int_int ⟨.int i, H, I, ⟨_, rfl⟩, q⟩
  · obtain ⟨u, rfl, r1⟩ := vals1 r
    cases r1
    exact call_int_bool ⟨.int (if k then 1 else 0), H, I.tok _, ⟨_, rfl⟩, q⟩
end
end L2
namespace L2
open PySem PySem.Spec PyProof.Rows
noncomputable def putF (f : Str) (v : V) : List (Str × V) → List (Str × V)
  | [] => [(f, v)]
  | (g, x) :: r => if g = f then (g, v) :: r else (g, x) :: putF f v r
theorem RelO.some_of {v : V} {o : Option Value} (r : RelO (some v) o) : ∃ u, o = some u ∧ RelV v u := by
  cases o with
  | none => exact (show False from r).elim
  | some u => exact ⟨u, rfl, r⟩
structure Cls (K : PySem.W.Frag) (C : Addr) : Prop where
  pg : PySem.W.plainGet K C Str.empty = true
  hd : PySem.W.hasDictIn K C = true
  po : PySem.W.plainOver K C = true
  sa : PySem.W.findIn K (.ref C) "__setattr__" = some (some (.builtin "object.__setattr__"))
theorem Cls.get {K : PySem.W.Frag} {C : Addr} (c : Cls K C) (f : Str) : PySem.W.plainGet K C f = true := c.pg
section
variable {X : Cx} {o e value : Expr} {f : Str} {pos pos' tpos : Pos} {ta tv : TE}
noncomputable def rAdd : V → V → Hp → VK → Prop := fun x y H Q => ∃ i j, x = .int i ∧ y = .int j ∧ Q (.int (i + j)) H
noncomputable def rSub : V → V → Hp → VK → Prop := fun x y H Q => ∃ i j, x = .int i ∧ y = .int j ∧ Q (.int (i - j)) H
end
end L2
namespace L2
open PySem PySem.Spec PyProof.Rows
structure Room (k : Nat) (A : Around) : Prop where
  hd : A.handled = none
  dp : A.depth + 3 * k + 5 < recursionLimit
  un : A.units + 16 * k + 200 < cLine
theorem Room.mono {j k : Nat} {A : Around} (r : Room k A) (h : j ≤ k) : Room j A := ⟨r.hd, by have := r.dp; omega, by have := r.un; omega⟩
theorem Room.deeper {k : Nat} {A : Around} (r : Room (k + 1) A) (env : Env) : Room k (A.deeper env) :=
  ⟨r.hd, by have := r.dp; show A.depth + 1 + 3 * k + 5 < _; omega, by have := r.un; show A.units + 3 + 16 * k + 200 < _; omega⟩
theorem Room.in1 {k : Nat} {A : Around} (r : Room (k + 1) A) : Room k A.in1 :=
  ⟨r.hd, by have := r.dp; show A.depth + 3 * k + 5 < _; omega, by have := r.un; show A.units + 1 + 16 * k + 200 < _; omega⟩
theorem Room.depth {k : Nat} {A : Around} (r : Room k A) : A.depth < recursionLimit := by have := r.dp; omega
theorem Room.units {k : Nat} {A : Around} (r : Room k A) : A.units + 64 < cLine := by have := r.un; omega
noncomputable def tNil : TA := fun _ H Q => Q [] H
noncomputable def tCons (ta : TE) (tr : TA) : TA := fun σ H Q => ta σ H fun x H1 => tr σ H1 fun xs H2 => Q (x :: xs) H2
section
variable {X : Cx} {e : Expr} {es : List Expr} {te : TE} {t : TA} {pos : Pos}
theorem pa_nil : PA X [] tNil := fun _ _ _ _ H Q I h => Calls.spliced_nil ⟨[], H, I, .nil, h⟩
theorem pa_cons (ha : PE X e te) (hr : PA X es t) (hs : starEach (e :: es) X.env = (false, eval e X.env) :: starEach es X.env := by rfl) : PA X (e :: es) (tCons te t) := by
  intro pos pins s σ H Q I h
  rw [hs]
  show wpAny _ _ (spliced ((false, eval e X.env) :: backTo pos (starEach es X.env))) _ _ s
  refine Calls.spliced_cons (thn (ha pins s σ H _ I h) fun u s1 ⟨x, H1, I1, r1, q1⟩ => ?_)
  exact thn (hr pos pins s1 σ H1 _ I1 q1) fun us s2 ⟨xs, H2, I2, r2, q2⟩ => ⟨x :: xs, H2, I2, .cons r1 r2, q2⟩
noncomputable def tTup (t : TA) : TE := fun σ H Q => t σ H fun xs H1 => xs.length ≤ sizeLine ∧ ∀ p, H1 p = none → Q (.ref p) (upd H1 p (.tup xs))
noncomputable def tLst (t : TA) : TE := fun σ H Q => t σ H fun xs H1 => xs.length ≤ sizeLine ∧ ∀ p, H1 p = none → Q (.ref p) (upd H1 p (.lst xs))
theorem pe_tup {x1} (h : PA X es t) : PE X (.Tuple es x1 pos) (tTup t) := by
  intro pins s σ H Q I hq
  refine wpAny_Tuple_spliced (thn (h pos pins s σ H _ I hq) fun us s1 ⟨xs, H1, I1, r, z, q⟩ => ⟨by rw [← r.length]; exact z, ?_⟩)
  have hf : H1 s1.heap.objs.size = none := I1.hok.fresh (Nat.le_refl _)
  refine ⟨.ref s1.heap.objs.size, upd H1 s1.heap.objs.size (.tup xs), I1.laid (t' := s1.toks) (fun b u e => Heap.get?_push_of_some _ e) (Nat.le_refl _) ?_, rfl, q _ hf⟩
  exact ⟨z, us, r, ⟨_, Heap.get?_push_size _ rfl, rfl, _, rfl⟩⟩
theorem pe_lst (h : PA X es t) : PE X (.List es pos) (tLst t) := by
  intro pins s σ H Q I hq
  refine wpAny_List_spliced (thn (h pos pins s σ H _ I hq) fun us s1 ⟨xs, H1, I1, r, z, q⟩ => ⟨by rw [← r.length]; exact z, ?_⟩)
  have hf : H1 s1.heap.objs.size = none := I1.hok.fresh (Nat.le_refl _)
  refine ⟨.ref s1.heap.objs.size, upd H1 s1.heap.objs.size (.lst xs), I1.laid (t' := s1.toks) (fun b u e => Heap.get?_push_of_some _ e) (Nat.le_refl _) ?_, rfl, q _ hf⟩
  exact ⟨z, us, 0, r, Heap.get?_push_size _ rfl⟩
end
noncomputable abbrev Sp := List V → Hp → VK → XK → Prop
noncomputable abbrev CXT := List Env → Hp → Shared → XK → Value → Shared → Prop
structure Env0 (P : Program) (w : World) (K : PySem.W.Frag) (mg : Str → Option Value) (base : Heap) (A : Around) (outer : List Env) (s : Shared) (H : Hp) : Prop where
  frames : A.frames = some outer
  mod : Mod K mg base
  bs : ∀ b o, base.get? b = some o → s.heap.get? b = some o ∧ H b = none
  bsz : base.objs.size ≤ s.heap.objs.size
  funs : s.heap.FunFrames base outer
  frf : ∀ b ∈ frs outer, H b = none
  hok : HOk P w H s.heap
  bare : AllBare s.gens
noncomputable def CE (outer : List Env) (P : Program) (w : World) (H : Hp) (s : Shared) (Q : VK) (u : Value) (s' : Shared) : Prop :=
  ∃ v H', s'.os = s.os ∧ AllBare s'.gens ∧ Un (frs outer) [] H H' s.heap s'.heap ∧ HOk P w H' s'.heap ∧ RelV v u ∧ Q v H'
noncomputable def CR (CX : CXT) (outer : List Env) (P : Program) (w : World) (H : Hp) (s : Shared) (Q : VK) (E : XK) (r : Result) (s' : Shared) : Prop :=
  match r with
  | .ok (.ret u) => CE outer P w H s Q u s'
  | .ok _ => False
  | .error e => CX outer H s E e s'
structure FnOk (P : Program) (w : World) (K : PySem.W.Frag) (mg : Str → Option Value) (base : Heap) (CX : CXT) (k : Nat) (f : Addr) (fd : FuncData) (ps : List Str) (sp : Sp) : Prop where
  len : ∀ vs H Q E, sp vs H Q E → vs.length = ps.length
  run : ∀ (A : Around) (outer : List Env) (s : Shared) (H : Hp) (args : Args) (us : List Value) (vs : List V) (Q : VK) (E : XK), Room k A → Env0 P w K mg base A outer s H → BindsTo s fd args (ps.zip us) → Vals vs us → sp vs H Q E →
    codeAny (model P w) A (.call (.ref f) args) (CR CX outer P w H s Q E) s
theorem FnOk.mono {P : Program} {w : World} {K : PySem.W.Frag} {mg : Str → Option Value} {base : Heap} {CX : CXT} {j k : Nat} {f : Addr} {fd : FuncData} {ps : List Str} {sp : Sp} (F : FnOk P w K mg base CX j f fd ps sp) (h : j ≤ k) :
    FnOk P w K mg base CX k f fd ps sp := ⟨F.len, fun A outer s H args us vs Q E hr => F.run A outer s H args us vs Q E (hr.mono h)⟩
theorem FnOk.imp {P : Program} {w : World} {K : PySem.W.Frag} {mg : Str → Option Value} {base : Heap} {CX : CXT} {k : Nat} {f : Addr} {fd : FuncData} {ps : List Str} {sp sp' : Sp} (F : FnOk P w K mg base CX k f fd ps sp)
    (h : ∀ vs H Q E, sp' vs H Q E → sp vs H Q E) : FnOk P w K mg base CX k f fd ps sp' :=
  ⟨fun vs H Q E q => F.len vs H Q E (h _ _ _ _ q), fun A outer s H args us vs Q E hr he hb hv hs => F.run A outer s H args us vs Q E hr he hb hv (h _ _ _ _ hs)⟩
theorem Env0.in1 {P : Program} {w : World} {K : PySem.W.Frag} {mg : Str → Option Value} {base : Heap} {A : Around} {outer : List Env} {s : Shared} {H : Hp} (e : Env0 P w K mg base A outer s H) :
    Env0 P w K mg base A.in1 outer s H := ⟨e.frames, e.mod, e.bs, e.bsz, e.funs, e.frf, e.hok, e.bare⟩
section
variable {X : Cx} {pins : List (Addr × Obj)} {σ : St} {H : Hp} {s s' : Shared}
theorem Inv.env0 (I : Inv X pins σ H s) : Env0 X.prog X.w X.K X.mg X.base X.A X.stack s H :=
  ⟨I.ok.frames, I.ok.mod, I.bs, Nat.le_trans I.ok.bsz I.sz, I.stack, I.stkFree, I.hok, I.bare⟩
theorem Inv.after {Q : VK} {u : Value} (I : Inv X pins σ H s) (h : CE X.stack X.prog X.w H s Q u s') : EP X pins σ Q u s' := by
  obtain ⟨v, H', os, bare, un, hok, r, q⟩ := h
  obtain ⟨hh, g, d, t, os'⟩ := s'
  obtain rfl : os' = s.os := os
  exact ⟨v, H', I.call (h' := hh) (g' := g) (d' := d) (t' := t) (ch := []) un hok bare (fun b z => absurd z (by simp)), r, q⟩
end
noncomputable def tCall (sp : Sp) (dvs : List V) (E : XK) (t : TA) : TE := fun σ H Q => t σ H fun vs H1 => sp (vs ++ dvs) H1 Q E
noncomputable def Binds (K : PySem.W.Frag) (fd : FuncData) (ps : List Str) (ds : List Value) : Prop :=
  ∀ (s : Shared) (us : List Value), K.In s.heap → (us ++ ds).length = ps.length → BindsTo s fd ⟨us, []⟩ (ps.zip (us ++ ds))
theorem Binds.all {K : PySem.W.Frag} {fd : FuncData} {ps : List Str} (h : ∀ us : List Value, us.length = ps.length → bindArgs fd ⟨us, []⟩ = pure (ps.zip us)) : Binds K fd ps [] := fun s us _ hl => by
  rw [List.append_nil] at hl ⊢
  exact .of_eq (h us hl)
noncomputable def Passes (CX : CXT) (X : Cx) (E : XK) : Prop := ∀ (pins : List (Addr × Obj)) (σ : St) (H : Hp) (s : Shared) (e : Value) (s' : Shared), Inv X pins σ H s → CX X.stack H s E e s' → X.xe e s'
section
variable {X : Cx} {CX : CXT} {k : Nat} {f C : Addr} {fd : FuncData} {ps : List Str} {sp : Sp} {dvs : List V} {ds : List Value} {E : XK} {x m : Str} {p pos apos : Pos} {e o : Expr} {es : List Expr} {ta : TE} {t : TA}
theorem run_fn {pins : List (Addr × Obj)} {σ : St} {H : Hp} {s : Shared} {Q : VK} {us : List Value} {vs : List V} (F : FnOk X.prog X.w X.K X.mg X.base CX k f fd ps sp) (hr : Room k X.A) (hb : Binds X.K fd ps ds) (hd : Vals dvs ds) (hx : Passes CX X E)
    (I : Inv X pins σ H s) (r : Vals vs us) (h : sp (vs ++ dvs) H Q E) : wpAny (model X.prog X.w) X.A (call (.ref f) us) (EP X pins σ Q) X.xe s := by
  have r2 : Vals (vs ++ dvs) (us ++ ds) := r.append hd
  have hl : (us ++ ds).length = ps.length := by rw [← r2.length]; exact F.len _ _ _ _ h
  refine wpAny_call (codeAny_mono (F.run X.A X.stack s H ⟨us, []⟩ (us ++ ds) (vs ++ dvs) Q E hr I.env0 (hb s us I.kIn hl) r2 h) fun r s' hq => ?_)
  cases r with
  | error e => exact hx pins σ H s e s' I hq
  | ok fl =>
    cases fl with
    | ret u => exact I.after hq
    | next => exact False.elim hq
    | brk => exact False.elim hq
    | cont => exact False.elim hq
theorem pe_call (F : FnOk X.prog X.w X.K X.mg X.base CX k f fd ps sp) (hr : Room k X.A) (hg : Gl X x) (hm : X.mg x = some (.ref f)) (hk : PySem.W.keepIn X.K (.ref f) = true) (hb : Binds X.K fd ps ds) (hd : Vals dvs ds) (hx : Passes CX X E)
    (ha : PA X (e :: es) t) (hdb : (x == ("__debug__" : Str)) = false := by decide) (he : starEach (e :: es) X.env = (false, eval e X.env) :: starEach es X.env := by rfl) (hpl : (backTo pos (starEach es X.env)).any (·.1) = false := by rfl) :
    PE X (.Call (.Name x p) (e :: es) [] pos) (tCall sp dvs E t) := by
  intro pins s σ H Q I h
  refine wpAny_Call_Name_kw (ld_glob I hg hm ?_ hdb)
  refine PySem.W.callWith_K (h₀ := X.base) I.ok.mod.kin hk (thn (ha pos pins s σ H _ I h) fun us s1 ⟨vs, H1, I1, r, q⟩ => ⟨I1.kIn, ?_⟩) he hpl
  exact run_fn F hr hb hd hx I1 r q
end
structure FnScope (N P : List Str) (sc : Scope) : Prop where
  kind : sc.kind = .function
  co : sc.isCoroutine = false
  gen : sc.isGenerator = false
  nd : N.Nodup
  pre : N.take P.length = P
  par : ∀ x ∈ P, sc.names.lookup x = some .local ∨ sc.names.lookup x = some .cell
  nofree : ∀ y ∈ sc.names, y.2 ≠ .free
theorem bindL_out {kindOf : Str → Option NameKind} {x : Str} : ∀ {binds : List (Str × Value)} {m : Str → Option Value}, (∀ v, (x, v) ∉ binds) → bindL kindOf binds m x = m x
  | [], _, _ => rfl
  | (n, v) :: r, m, h => by
    unfold bindL
    rw [bindL_out fun w hw => h w (List.mem_cons_of_mem _ hw)]
    split
    · have : x ≠ n := by rintro rfl; exact h v List.mem_cons_self
      simp [this]
    · rfl
theorem bindC_out {kindOf : Str → Option NameKind} {x : Str} : ∀ {binds : List (Str × Value)} {m : Str → Option Value}, (∀ v, (x, v) ∉ binds) → bindC kindOf binds m x = m x
  | [], _, _ => rfl
  | (n, v) :: r, m, h => by
    unfold bindC
    rw [bindC_out fun w hw => h w (List.mem_cons_of_mem _ hw)]
    split
    · rfl
    · have : x ≠ n := by rintro rfl; exact h v List.mem_cons_self
      simp [this]
theorem bindL_get {kindOf : Str → Option NameKind} {x : Str} {v : Value} : ∀ {P : List Str} {vs : List Value} {i : Nat} {m : Str → Option Value}, P.Nodup → P[i]? = some x → vs[i]? = some v → kindOf x = some .local →
    bindL kindOf (P.zip vs) m x = some v
  | [], _, _, _, _, h, _, _ => by simp at h
  | _ :: _, [], _, _, _, _, h, _ => by simp at h
  | p :: P, w :: vs, 0, m, nd, h1, h2, hk => by
    simp at h1 h2; subst h1; subst h2
    show bindL kindOf ((p, w) :: P.zip vs) m p = _
    unfold bindL
    rw [bindL_out fun v hv => (List.nodup_cons.mp nd).1 (List.of_mem_zip hv).1, if_pos hk]
    simp
  | p :: P, w :: vs, i + 1, m, nd, h1, h2, hk => by
    show bindL kindOf ((p, w) :: P.zip vs) m x = _
    unfold bindL
    exact bindL_get (i := i) (List.nodup_cons.mp nd).2 (by simpa using h1) (by simpa using h2) hk
theorem bindC_get {kindOf : Str → Option NameKind} {x : Str} {v : Value} : ∀ {P : List Str} {vs : List Value} {i : Nat} {m : Str → Option Value}, P.Nodup → P[i]? = some x → vs[i]? = some v → kindOf x ≠ some .local →
    bindC kindOf (P.zip vs) m x = some v
  | [], _, _, _, _, h, _, _ => by simp at h
  | _ :: _, [], _, _, _, _, h, _ => by simp at h
  | p :: P, w :: vs, 0, m, nd, h1, h2, hk => by
    simp at h1 h2; subst h1; subst h2
    show bindC kindOf ((p, w) :: P.zip vs) m p = _
    unfold bindC
    rw [bindC_out fun v hv => (List.nodup_cons.mp nd).1 (List.of_mem_zip hv).1, if_neg hk]
    simp
  | p :: P, w :: vs, i + 1, m, nd, h1, h2, hk => by
    show bindC kindOf ((p, w) :: P.zip vs) m x = _
    unfold bindC
    exact bindC_get (i := i) (List.nodup_cons.mp nd).2 (by simpa using h1) (by simpa using h2) hk
noncomputable def start (N : List Str) (vs : List V) : St := vs.map some ++ List.replicate (N.length - vs.length) none
noncomputable def cxOf (CX : CXT) (P : Program) (w : World) (K : PySem.W.Frag) (mg : Str → Option Value) (base : Heap) (N : List Str) (qual : Str) (scope : Scope) (f : Addr) (cd : Value) (A : Around) (outer : List Env) (s : Shared) (H : Hp) (E : XK) : Cx where
  prog := P
  w := w
  K := K
  mg := mg
  base := base
  A := A.deeper (envOfC qual scope s.heap.objs.size f cd)
  N := N
  s₀ := s
  H₀ := H
  env := envOfC qual scope s.heap.objs.size f cd
  outer := outer
  stack := envOfC qual scope s.heap.objs.size f cd :: outer
  ex := []
  calm := true
  fn := fun _ => true
  pn := []
  xe := fun e s' => wpAny (model P w) (A.deeper (envOfC qual scope s.heap.objs.size f cd)) (leaving (envOfC qual scope s.heap.objs.size f cd) e) (fun _ s'' => CX outer H s E e s'') (fun e' s'' => CX outer H s E e' s'') s'
theorem cell_has {sc : Scope} {n : Nat} {x : Str} (h : sc.names.lookup x = some .cell) : ∃ c, (cellsFrom n sc.names []).lookup x = some c := by
  have q := PySem.W.cellsFrom_some sc.names n [] (.inl h)
  exact Option.isSome_iff_exists.mp q
theorem inv_start {CX : CXT} {P : Program} {w : World} {K : PySem.W.Frag} {mg : Str → Option Value} {base : Heap} {N ps : List Str} {qual : Str} {scope : Scope} {f : Addr} {cd : Value} {A : Around} {outer : List Env} {s s1 : Shared} {H : Hp} {E : XK} {us : List Value} {vs : List V}
    (S : FnScope N ps scope) (hd : A.handled = none) (e0 : Env0 P w K mg base A outer s H) (hl : vs.length = ps.length) (r : Vals vs us)
    (x : InCallC s s.heap.objs.size (bindL (envOfC qual scope s.heap.objs.size f cd).kindOf (ps.zip us) fun _ => none) (cellsFrom (s.heap.objs.size + 1) scope.names []) (bindC (envOfC qual scope s.heap.objs.size f cd).kindOf (ps.zip us) fun _ => none) s1) :
    Inv (cxOf CX P w K mg base N qual scope f cd A outer s H E) [] (start N vs) H s1 := by
  have hpl : ps.length ≤ N.length := by have := congrArg List.length S.pre; rw [List.length_take] at this; omega
  obtain ⟨h1, tk, rfl, hk⟩ := x.done
  have noA : ∀ b : Addr, b ∉ (cxOf CX P w K mg base N qual scope f cd A outer s H E).ex := fun b z => absurd (show b ∈ ([] : List Addr) from z) (by simp)
  refine ⟨⟨e0.mod, S.kind, rfl, rfl, Nat.le_refl _, fun y z c h1 h2 => ?_, fun y hy => ?_, fun y c _ h => ?_, fun _ => hd, Around.frames_deeper e0.frames, .inr ⟨rfl, rfl⟩, fun b z => absurd z (noA b), e0.bs, e0.bsz, fun b _ _ => noA b, fun b z => absurd z (noA b), e0.funs, e0.frf⟩,
    rfl, e0.bare, Un.kept hk, ⟨_, x.toInCall.ns, fun i y v h1 h2 h3 => ?_⟩, fun y c h => ⟨_, x.cell y c h⟩, e0.hok.fresh (Nat.le_refl _), fun y c h => ?_, fun p hp => absurd (show p ∈ ([] : List (Addr × Obj)) from hp) (by simp), e0.hok.kept hk, ?_⟩
  · exact name_of_addr x.apart (PySem.mem_of_lookup h1) (PySem.mem_of_lookup h2)
  · have hy : scope.names.lookup y = some .cell ∨ scope.names.lookup y = some .free := hy
    rcases hy with hy | hy
    · exact cell_has hy
    · exact absurd rfl (S.nofree _ (PySem.mem_of_lookup hy))
  · exact Nat.le_of_lt (x.above y c (PySem.mem_of_lookup h))
  · have hi : i < vs.length := by
      unfold start at h2
      by_cases hi : i < vs.length
      · exact hi
      · rw [List.getElem?_append_right (by simpa using hi)] at h2
        rw [List.getElem?_replicate] at h2
        split at h2 <;> cases h2
    have ha : vs[i]? = some v := by
      unfold start at h2
      rw [List.getElem?_append_left (by simpa using hi), List.getElem?_map] at h2
      cases e : vs[i]? with
      | none => rw [e] at h2; cases h2
      | some a => rw [e] at h2; cases h2; rfl
    obtain ⟨u, hu, rv⟩ := r.get ha
    have hp : ps[i]? = some y := by
      rw [← S.pre, List.getElem?_take_of_lt (by omega)]; exact h1
    have ndP : ps.Nodup := by rw [← S.pre]; exact S.nd.sublist (List.take_sublist _ _)
    refine ⟨u, rv, ?_⟩
    rcases S.par y (List.mem_of_getElem? hp) with k | k
    · exact .inl ⟨k, bindL_get ndP hp hu k⟩
    · obtain ⟨c, e⟩ := cell_has (n := s.heap.objs.size + 1) k
      refine .inr ⟨.inl k, c, e, ?_⟩
      have q := x.cell y c e
      rw [bindC_get ndP hp hu (by show scope.names.lookup y ≠ _; rw [k]; decide)] at q
      exact q
  · exact e0.hok.fresh (Nat.le_of_lt (x.above y c (PySem.mem_of_lookup h)))
  · unfold start
    show _ = N.length
    rw [List.length_append, List.length_map, List.length_replicate]
    omega
theorem fn_of {CX : CXT} {P : Program} {w : World} {K : PySem.W.Frag} {mg : Str → Option Value} {base : Heap} {k : Nat} {f : Addr} {name qual : Str} {params : Arguments} {body : List Stmt} {scope : Scope} {dV kV doc pm cdv ct oc : Value} {an od : Option Addr}
    {osl : Array (Option Value)} {N ps : List Str} {sp : Sp} (lk : K.lookup f = some ⟨oc, od, .func (PySem.W.fnOf name qual params body scope dV kV doc pm an cdv ct), osl⟩) (hcd : PySem.W.codeIn K cdv qual = true) (S : FnScope N ps scope)
    (len : ∀ vs H Q E, sp vs H Q E → vs.length = ps.length)
    (hbody : ∀ (A : Around) (outer : List Env) (s : Shared) (H : Hp) (vs : List V) (Q : VK) (E : XK), Room k (A.deeper (envOfC qual scope s.heap.objs.size f cdv)) → sp vs H Q E →
      ∃ t, PSs (cxOf CX P w K mg base N qual scope f cdv A outer s H E) body t ∧ t { nx := fun _ H' => Q .non H', rt := Q } (start N vs) H) :
    FnOk P w K mg base CX (k + 1) f (PySem.W.fnOf name qual params body scope dV kV doc pm an cdv ct) ps sp := by
  refine ⟨len, fun A outer s H args us vs Q E hr e0 hb r hsp => ?_⟩
  have hl := len _ _ _ _ hsp
  have KX : K.In s.heap := e0.mod.kin.keeps fun b o e => (e0.bs b o e).1
  have lim : s.heap.NoLimit := e0.mod.nolimit.keeps fun b o e => (e0.bs b o e).1
  have hkind : ∀ y ∈ ps.zip us, scope.names.lookup y.1 = some .local ∨ (scope.names.lookup y.1 = some .cell ∧ ((cellsFrom (s.heap.objs.size + 1) scope.names []).lookup y.1).isSome = true) := fun ⟨n, v⟩ hy => by
    rcases S.par n (List.of_mem_zip hy).1 with q | q
    · exact .inl q
    · exact .inr ⟨q, PySem.W.cellsFrom_some _ _ _ (.inl q)⟩
  refine codeAny_call_function hr.depth (KX _ _ lk) rfl S.co S.gen rfl (PySem.W.codeRec_of KX hcd) (hb _ _ _ _ ?_)
  refine wpAny_newFunctionEnv_cells S.kind hkind fun env he s1 x => ?_
  subst he
  refine ⟨lim.keeps x.toInCall.keep, codeAny_func ?_⟩
  obtain ⟨t, ht, hq⟩ := hbody A outer s H vs Q E (hr.deeper _) hsp
  have I : Inv (cxOf CX P w K mg base N qual scope f cdv A outer s H E) [] (start N vs) H s1 := inv_start S hr.hd e0 hl r x
  refine wpAny_mono (ht [] s1 (start N vs) H _ I hq) (fun fl s' hs => ?_) fun e s' hs => hs
  have fin : ∀ {σ' : St} {H' : Hp} {v : V} {u : Value}, Inv (cxOf CX P w K mg base N qual scope f cdv A outer s H E) [] σ' H' s' → RelV v u → Q v H' → CE outer P w H s Q u s' :=
    fun {σ' H' v u} J rv q => ⟨v, H', J.os, J.bare, J.base, J.hok, rv, q⟩
  cases fl with
  | ret u =>
    obtain ⟨v, σ', H', J, rv, q⟩ := hs
    exact fin J rv q
  | next =>
    obtain ⟨σ', H', J, q⟩ := hs
    exact fin (v := V.non) (u := Value.none) J rfl q
  | brk =>
    obtain ⟨_, _, _, q⟩ := hs
    exact False.elim q
  | cont =>
    obtain ⟨_, _, _, q⟩ := hs
    exact False.elim q
end L2
namespace L2
open PySem PySem.Spec PyProof.Rows
section
variable {X : Cx} {x : Str} {p pos : Pos} {e : Expr} {es : List Expr} {t : TA} {id T : String} {r : List V → Hp → VK → Prop}
noncomputable def tCB (r : List V → Hp → VK → Prop) (t : TA) : TE := fun σ H Q => t σ H fun vs H1 => r vs H1 Q
theorem pe_callB (hc : CallR X (.builtin id) r) (hg : Gl X x) (hm : X.mg x = none) (hv : bootBuiltins x = some (.builtin id)) (ha : PA X (e :: es) t) (hn : x ≠ "__name__" := by decide) (hdb : (x == ("__debug__" : Str)) = false := by decide)
    (he : starEach (e :: es) X.env = (false, eval e X.env) :: starEach es X.env := by rfl) (hpl : (backTo pos (starEach es X.env)).any (·.1) = false := by rfl) : PE X (.Call (.Name x p) (e :: es) [] pos) (tCB r t) := by
  intro pins s σ H Q I h
  refine wpAny_Call_Name_kw (ld_blt I hg hm hv ?_ hn hdb)
  exact PyProof.Rows.callWith_builtin1 (thn (ha pos pins s σ H _ I h) fun us s1 ⟨vs, H1, I1, r1, q1⟩ => hc pins s1 σ H1 vs us Q I1 r1 q1) he hpl
theorem pe_callTy (hc : CallR X (.type T) r) (hg : Gl X x) (hm : X.mg x = none) (hv : bootBuiltins x = some (.type T)) (ha : PA X (e :: es) t) (hn : x ≠ "__name__" := by decide) (hdb : (x == ("__debug__" : Str)) = false := by decide)
    (he : starEach (e :: es) X.env = (false, eval e X.env) :: starEach es X.env := by rfl) (hpl : (backTo pos (starEach es X.env)).any (·.1) = false := by rfl) : PE X (.Call (.Name x p) (e :: es) [] pos) (tCB r t) := by
  intro pins s σ H Q I h
  refine wpAny_Call_Name_kw (ld_blt I hg hm hv ?_ hn hdb)
  exact PyProof.Rows.callWith_type1 (thn (ha pos pins s σ H _ I h) fun us s1 ⟨vs, H1, I1, r1, q1⟩ => hc pins s1 σ H1 vs us Q I1 r1 q1) he hpl
end
end L2
namespace HT
open PySem PyProof.Rows
section
variable {prog : Program} {w : World} {A : Around} {E : Value → Shared → Prop} {s : Shared}
theorem cat_tup {t b : Addr} {vs ws : List Value} {Q : Value → Shared → Prop} (ht : IsTup s.heap t vs.toArray) (hb : IsTup s.heap b ws.toArray) (hv : vs ≠ [])
    (h1 : ws = [] → Q (.ref t) s) (h2 : ws ≠ [] → Q (.ref s.heap.objs.size) { s with heap := s.heap.push { cls := .type "tuple", data := .seq (vs ++ ws).toArray } })
    (hsz : vs.length + ws.length ≤ sizeLine) : wpAny (model prog w) A (binaryOp .Add (.ref t) (.ref b)) Q E s := by
  obtain ⟨⟨cls, dd, data, sl⟩, ho, hc, n, hd⟩ := id ht
  obtain ⟨⟨cls2, dd2, data2, sl2⟩, ho2, hc2, n2, hd2⟩ := id hb
  simp only at hc hd hc2 hd2
  subst hc hd hc2 hd2
  have e : vs.toArray ++ ws.toArray = (vs ++ ws).toArray := by simp
  by_cases hw : ws = []
  · exact concat_meets ⟨_, ho, rfl⟩ ⟨_, ho2, rfl⟩ noFill_tuple_add seq_tuple_add PySem.F.slot_tuple_add PySem.F.entry_tuple_add (PySem.F.args_tuple_add_2 _ _)
      (tuple_addW1 t b vs.toArray ws.toArray n n2 dd dd2 sl sl2 (by simpa using hv) (by simp [hw])) ⟨ho, ho2, h1 hw⟩
  · refine concat_meets ⟨_, ho, rfl⟩ ⟨_, ho2, rfl⟩ noFill_tuple_add seq_tuple_add PySem.F.slot_tuple_add PySem.F.entry_tuple_add (PySem.F.args_tuple_add_2 _ _)
      (tuple_addW2 t b vs.toArray ws.toArray n n2 dd dd2 sl sl2 (by simpa using hv) (by simpa using hw) (by rw [List.size_toArray, List.size_toArray]; exact hsz)) ⟨ho, ho2, ?_⟩
    rw [e]
    exact h2 hw
noncomputable def sIx (n d : Nat) : Option Int → Nat
  | none => d
  | some v => if v < 0 then (v + (n : Int)).toNat else min v.toNat n
theorem sIx_none (n d : Nat) : sIx n d none = d := rfl
theorem sIx_nat (n d k : Nat) : sIx n d (some (k : Int)) = min k n := by
  show (if (k : Int) < 0 then ((k : Int) + (n : Int)).toNat else min (k : Int).toNat n) = min k n
  rw [if_neg (by omega), Int.toNat_natCast]
theorem sIx_le (n d : Nat) (hd : d ≤ n) (o : Option Int) : sIx n d o ≤ n := by
  cases o with
  | none => exact hd
  | some v =>
    show (if v < 0 then (v + (n : Int)).toNat else min v.toNat n) ≤ n
    by_cases hv : v < 0
    · rw [if_pos hv]; omega
    · rw [if_neg hv]; exact Nat.min_le_right _ _
theorem clip_eq (v : Int) (n d : Nat) : (if v < 0 then max (v + (n : Int)) 0 else min v (n : Int)) = ((sIx n d (some v) : Nat) : Int) := by
  show (if v < 0 then max (v + (n : Int)) 0 else min v (n : Int)) = (((if v < 0 then (v + (n : Int)).toNat else min v.toNat n) : Nat) : Int)
  by_cases hv : v < 0
  · simp only [if_pos hv]; omega
  · simp only [if_neg hv]; omega
theorem adjust_gen (lo hi : Option Int) (n : Nat) : Builtin.Slice.sliceAdjust lo hi 1 (n : Int) = (((sIx n 0 lo : Nat) : Int), ((sIx n n hi : Nat) : Int)) := by
  have h1 : ¬ ((1 : Int) < 0) := by omega
  unfold Builtin.Slice.sliceAdjust
  simp only [h1, if_false]
  refine Prod.ext ?_ ?_
  · cases lo with
    | none => rfl
    | some v => exact clip_eq v n 0
  · cases hi with
    | none => rfl
    | some v => exact clip_eq v n n
theorem places_gen (i j : Nat) : Builtin.Slice.slicePlaces (i : Int) (j : Int) 1 = j - i := by
  unfold Builtin.Slice.slicePlaces
  have h1 : (1 : Int) > 0 := by omega
  simp only [h1, if_true, Int.ediv_one]
  split <;> omega
theorem slicePart_ {v : Value} {o : Option Int} {Q : Option Int → Shared → Prop} (p : IsPart v o) (h : Q o s) : wpAny (model prog w) A (Builtin.Slice.slicePartIndex v) Q E s := by
  cases p with
  | none => exact slicePart_none h
  | int i t => exact slicePart_int h
theorem sliceApplied_gen {sl : Addr} {vl vu : Value} {lo hi : Option Int} {n : Nat} {Q : Int × Int × Nat → Shared → Prop} (hs : s.heap.IsSliceOf sl vl vu .none) (pl : IsPart vl lo) (pu : IsPart vu hi)
    (h : Q (((sIx n 0 lo : Nat) : Int), 1, sIx n n hi - sIx n 0 lo) s) : wpAny (model prog w) A (Builtin.Slice.sliceApplied (.ref sl) (pure (n : Int))) Q E s := by
  obtain ⟨os, hos, hcs, hds⟩ := id hs
  unfold Builtin.Slice.sliceApplied Builtin.Slice.sliceFields
  refine wpAny_bind (wpAny_bind (wpAny_field hos hds (x := vl) rfl (wpAny_bind (wpAny_field hos hds (x := vu) rfl (wpAny_bind (wpAny_field hos hds (x := .none) rfl (wpAny_pure ?_)))))))
  refine wpAny_bind (slicePart_none ?_)
  show wpAny _ _ (if ((1 : Int) == 0) = true then _ else _) _ _ s
  rw [if_neg (by decide)]
  refine wpAny_bind (slicePart_ pl (wpAny_bind (slicePart_ pu (wpAny_bind (wpAny_pure ?_)))))
  show wpAny _ _ (match Builtin.Slice.sliceAdjust lo hi 1 (n : Int) with | (lo, hi) => pure (lo, (1 : Int), Builtin.Slice.slicePlaces lo hi 1)) _ _ s
  rw [adjust_gen lo hi n]
  show wpAny _ _ (pure (((sIx n 0 lo : Nat) : Int), (1 : Int), Builtin.Slice.slicePlaces ((sIx n 0 lo : Nat) : Int) ((sIx n n hi : Nat) : Int) 1)) _ _ s
  rw [places_gen]
  exact wpAny_pure h
theorem pick_gen (xs : Array Value) (i k : Nat) : ((List.range k).filterMap fun (m : Nat) => xs[((i : Int) + (m : Int) * 1).toNat]?).toArray = ((xs.toList.drop i).take k).toArray := by
  have e : (fun (m : Nat) => xs[((i : Int) + (m : Int) * 1).toNat]?) = fun m => xs[i + m]? := by
    funext m
    have : ((i : Int) + (m : Int) * 1).toNat = i + m := by omega
    rw [this]
  rw [e]
  have := pick_run xs i k
  rw [List.filterMap_map] at this
  have e2 : ((fun x => xs[x]?) ∘ fun x => i + x) = fun m => xs[i + m]? := rfl
  rw [e2] at this
  rw [this]
theorem getItem_tuple_cut {t sl : Addr} {items : Array Value} {vl vu : Value} {lo hi : Option Int} {Q : Value → Shared → Prop} (ht : IsTup s.heap t items) (hs : s.heap.IsSliceOf sl vl vu .none) (pl : IsPart vl lo) (pu : IsPart vu hi)
    (hw : ¬ (sIx items.size 0 lo = 0 ∧ sIx items.size items.size hi = items.size))
    (h : Q (.ref s.heap.objs.size) { s with heap := s.heap.push { cls := .type "tuple", data := .seq ((items.toList.drop (sIx items.size 0 lo)).take (sIx items.size items.size hi - sIx items.size 0 lo)).toArray } })
    (hsz : items.size ≤ sizeLine) : wpAny (model prog w) A (getItem (.ref t) (.ref sl)) Q E s := by
  have htake : sizeOk (.seq ((items.toList.drop (sIx items.size 0 lo)).take (sIx items.size items.size hi - sIx items.size 0 lo)).toArray) := by
    show ((items.toList.drop (sIx items.size 0 lo)).take (sIx items.size items.size hi - sIx items.size 0 lo)).toArray.size ≤ sizeLine
    rw [List.size_toArray, List.length_take, List.length_drop, Array.length_toList]
    omega
  have hj : sIx items.size items.size hi ≤ items.size := sIx_le _ _ (Nat.le_refl _) hi
  obtain ⟨os, hos, hcs, hds⟩ := id hs
  have hTs : s.TypeIs (.ref sl) "slice" := ⟨os, hos, hcs⟩
  unfold getItem
  try with_reducible refine wpAny_holding ?_
  first | refine wpAny_bind (wpAny_pure ?_) | skip
  refine wpAny_bind (wpAny_sequenceKey ht.typeIs (by decide) ?_)
  refine wpAny_bind (wpAny_callSpecial?_slot (name := Str.ofString "__getitem__") ht.typeIs PyProof.Rows.slot_tuple_getitem
    (wpAny_call_entry PyProof.Rows.slot_tuple_getitem ht.typeIs entry_tuple_getitem ?_ (args_tuple_getitem _ _)))
  show wpAny _ _ (Builtin.Tuple.tupleItemsOf (.ref t) >>= _) _ _ s
  refine wpAny_bind (tupleItemsOf_ ht ?_)
  refine wpAny_bind (wpAny_typeOf hTs ?_)
  rw [if_pos (by decide)]
  refine wpAny_bind (sliceApplied_gen hs pl pu ?_)
  have hno : ¬ ((((sIx items.size 0 lo : Nat) : Int) == 0 && (1 : Int) == 1 && (sIx items.size items.size hi - sIx items.size 0 lo) == items.size) = true) := by
    intro q
    rw [Bool.and_eq_true, Bool.and_eq_true] at q
    have q1 : ((sIx items.size 0 lo : Nat) : Int) = 0 := eq_of_beq q.1.1
    have q2 : sIx items.size items.size hi - sIx items.size 0 lo = items.size := eq_of_beq q.2
    exact hw ⟨by omega, by omega⟩
  show wpAny _ _ (if (((sIx items.size 0 lo : Nat) : Int) == 0 && (1 : Int) == 1 && (sIx items.size items.size hi - sIx items.size 0 lo) == items.size) = true then _ else _) _ _ s
  rw [if_neg hno, pick_gen]
  first
    | exact wpAny_bind (m := Builtin.Tuple.tupleExact _) (wpAny_newObj_type (wpAny_pure ⟨_, rfl, wpAny_pure h⟩) htake)
    | exact wpAny_bind (m := Builtin.Tuple.tupleExact _) (wpAny_newObj_type (wpAny_bind (wpAny_pure (wpAny_pure ⟨_, rfl, wpAny_pure h⟩))) htake)
    | exact wpAny_bind (wpAny_bind (m := Builtin.Tuple.tupleExact _) (wpAny_newObj_type (wpAny_pure (wpAny_pure ⟨_, rfl, wpAny_pure h⟩)) htake))
    | exact wpAny_bind (wpAny_bind (m := Builtin.Tuple.tupleExact _) (wpAny_newObj_type (wpAny_pure ⟨_, rfl, wpAny_pure h⟩) htake))
end
end HT
namespace L2
open PySem PySem.Spec PyProof.Rows
noncomputable abbrev TO := St → Hp → (Option Int → Hp → Prop) → Prop
noncomputable def PO (X : Cx) (e : Option Expr) (t : TO) : Prop :=
  ∀ (pins : List (Addr × Obj)) (s : Shared) (σ : St) (H : Hp) (Q : Option Int → Hp → Prop), Inv X pins σ H s → t σ H Q →
    wpAny (model X.prog X.w) X.A (evalPart e X.env) (fun u s' => ∃ o H', Inv X pins σ H' s' ∧ IsPart u o ∧ Q o H') X.xe s
noncomputable def tNoPart : TO := fun _ H Q => Q none H
noncomputable def tPart (t : TE) : TO := fun σ H Q => t σ H fun x H1 => ∃ i, x = .int i ∧ Q (some i) H1
section
variable {X : Cx} {e : Expr} {te : TE} {lo hi : Option Expr} {tl th : TO} {pos p2 : Pos}
theorem po_none : PO X none tNoPart := by
  intro pins s σ H Q I h
  rw [evalPart_none]
  exact wpAny_pure ⟨none, H, I, .none, h⟩
theorem po_some (h : PE X e te) : PO X (some e) (tPart te) := by
  intro pins s σ H Q I hw
  rw [evalPart_some]
  refine thn (h pins s σ H _ I hw) fun u s1 ⟨x, H1, I1, r1, q1⟩ => ?_
  obtain ⟨i, rfl, q⟩ := q1
  obtain ⟨t, rfl⟩ := r1
  exact ⟨some i, H1, I1, .int i t, q⟩
noncomputable def SlR (X : Cx) (r : V → Option Int → Option Int → Hp → VK → Prop) : Prop :=
  ∀ (pins : List (Addr × Obj)) (s : Shared) (σ : St) (H : Hp) (x : V) (v vl vu : Value) (lo hi : Option Int) (sl : Addr) (Q : VK), Inv X pins σ H s → RelV x v → s.heap.IsSliceOf sl vl vu .none → IsPart vl lo → IsPart vu hi → r x lo hi H Q →
    ∃ T id, typeLookup (.type T) "__getitem__" = pure (some (.builtin id)) ∧ s.TypeIs v T ∧ wpAny (model X.prog X.w) X.A (getItem v (.ref sl)) (EP X pins σ Q) X.xe s
theorem SlR.or {r r' : V → Option Int → Option Int → Hp → VK → Prop} (h : SlR X r) (h' : SlR X r') : SlR X (fun x lo hi H Q => r x lo hi H Q ∨ r' x lo hi H Q) := by
  intro pins s σ H x v vl vu lo hi sl Q I rx hs pl pu q
  rcases q with q | q
  · exact h pins s σ H x v vl vu lo hi sl Q I rx hs pl pu q
  · exact h' pins s σ H x v vl vu lo hi sl Q I rx hs pl pu q
noncomputable def tSl (r : V → Option Int → Option Int → Hp → VK → Prop) (te : TE) (tl th : TO) : TE := fun σ H Q => te σ H fun x H1 => tl σ H1 fun l H2 => th σ H2 fun u H3 => r x l u H3 Q
theorem pe_slice {r : V → Option Int → Option Int → Hp → VK → Prop} (hr : SlR X r) (he : PE X e te) (hl : PO X lo tl) (hu : PO X hi th) : PE X (.Subscript e (.Slice lo hi none p2) pos) (tSl r te tl th) := by
  intro pins s σ H Q I h
  refine Subscript_ (thn (he pins s σ H _ I h) fun v s1 ⟨x, H1, I1, r1, q1⟩ => ?_)
  refine wpAny_Slice (thn (hl pins s1 σ H1 _ I1 q1) fun vl s2 ⟨l, H2, I2, pl, q2⟩ => thn (hu pins s2 σ H2 _ I2 q2) fun vu s3 ⟨u, H3, I3, pu, q3⟩ => ?_)
  rw [evalPart_none]
  refine wpAny_pure ?_
  have I4 : Inv X pins σ H3 { s3 with heap := s3.heap.push { cls := .type "slice", data := .fields #[vl, vu, .none] } } := I3.kept (t' := s3.toks) fun b ob q => Heap.get?_push_of_some _ q
  obtain ⟨T, id, hT, ht, hg⟩ := hr pins { s3 with heap := s3.heap.push { cls := .type "slice", data := .fields #[vl, vu, .none] } } σ H3 x v vl vu l u s3.heap.objs.size Q I4 r1 (Heap.IsSliceOf.new ..) pl pu q3
  show wpAny (model X.prog X.w) X.A (subscriptTail e (.Slice lo hi none p2) v (.ref s3.heap.objs.size)) (EP X pins σ Q) X.xe { s3 with heap := s3.heap.push { cls := .type "slice", data := .fields #[vl, vu, .none] } }
  exact tail_any (ops := [.ref s3.heap.objs.size, v]) ht hT hg (by with_unfolding_all rfl)
noncomputable def cutV (xs : List V) (lo hi : Option Int) : List V := (xs.drop (HT.sIx xs.length 0 lo)).take (HT.sIx xs.length xs.length hi - HT.sIx xs.length 0 lo)
theorem cutV_length (xs : List V) (lo hi : Option Int) : (cutV xs lo hi).length ≤ xs.length := by
  unfold cutV
  rw [List.length_take, List.length_drop]
  omega
noncomputable def rSlT (K : PySem.W.Frag) : V → Option Int → Option Int → Hp → VK → Prop := fun x lo hi H Q => ∃ a xs, x = .ref a ∧ SqT K H a xs ∧
  ¬ (HT.sIx xs.length 0 lo = 0 ∧ HT.sIx xs.length xs.length hi = xs.length) ∧ ∀ p, H p = none → Q (.ref p) (upd H p (.tup (cutV xs lo hi)))
theorem sl_tup : SlR X (rSlT X.K) := by
  intro pins s σ H x v vl vu lo hi sl Q I rx hs pl pu h
  obtain ⟨a, xs, rfl, hx, hw, q⟩ := h
  cases rx
  obtain ⟨its, r, ht, hz⟩ := I.tuple hx
  have hlen : its.toArray.size = xs.length := by rw [List.size_toArray]; exact r.length.symm
  refine ⟨"tuple", _, PyProof.Rows.slot_tuple_getitem.lookup, ht.typeIs, ?_⟩
  refine HT.getItem_tuple_cut ht hs pl pu (by rw [hlen]; exact hw) ?_ (by rw [hlen]; exact hz)
  rw [hlen]
  refine ⟨.ref s.heap.objs.size, _, I.laid (t' := s.toks) (o := .tup (cutV xs lo hi)) (fun b ob q => Heap.get?_push_of_some _ q) (Nat.le_refl _) ?_, rfl, q _ (I.hok.fresh (Nat.le_refl _))⟩
  exact ⟨Nat.le_trans (cutV_length xs lo hi) hz, _, (r.drop (HT.sIx xs.length 0 lo)).take (HT.sIx xs.length xs.length hi - HT.sIx xs.length 0 lo), IsTup.new _ _⟩
theorem Vals.nil_iff {xs : List V} {us : List Value} (r : Vals xs us) : us = [] ↔ xs = [] := by
  cases r with
  | nil => simp
  | cons _ _ => simp
end
end L2
namespace L2
open PySem PySem.Spec PyProof.Rows
noncomputable def ixN (n : Nat) (i : Int) : Option Nat := if 0 ≤ i then (if i < n then some i.toNat else none) else if -(n : Int) ≤ i then some (i + n).toNat else none
noncomputable def atI {α : Type} (xs : List α) (i : Int) : Option α := (ixN xs.length i).bind fun j => xs[j]?
theorem ixN_seq {n : Nat} {i : Int} {j : Nat} (h : ixN n i = some j) : seqIndex? i n = some j ∧ j < n ∧ -(n : Int) ≤ i ∧ i < n := by
  unfold ixN at h
  by_cases h0 : 0 ≤ i
  · rw [if_pos h0] at h
    by_cases h1 : i < n
    · rw [if_pos h1] at h
      have e : i.toNat = j := Option.some.inj h
      exact ⟨by rw [seqIndex_of h0 h1, e], by omega, by omega, h1⟩
    · rw [if_neg h1] at h; cases h
  · rw [if_neg h0] at h
    by_cases h1 : -(n : Int) ≤ i
    · rw [if_pos h1] at h
      have e : (i + n).toNat = j := Option.some.inj h
      exact ⟨by rw [seqIndex_neg (by omega) h1, e], by omega, h1, by omega⟩
    · rw [if_neg h1] at h; cases h
theorem atI_get {α : Type} {xs : List α} {i : Int} {v : α} (h : atI xs i = some v) : ∃ j, seqIndex? i xs.length = some j ∧ xs[j]? = some v ∧ j < xs.length ∧ -(xs.length : Int) ≤ i ∧ i < xs.length := by
  unfold atI at h
  cases e : ixN xs.length i with
  | none => rw [e] at h; cases h
  | some j =>
    rw [e] at h
    obtain ⟨h1, h2, h3, h4⟩ := ixN_seq e
    exact ⟨j, h1, h, h2, h3, h4⟩
theorem atI_nat {α : Type} {xs : List α} {j : Nat} {v : α} (h : xs[j]? = some v) : atI xs (j : Int) = some v := by
  have hj : j < xs.length := (List.getElem?_eq_some_iff.mp h).1
  have e : ixN xs.length (j : Int) = some j := by
    unfold ixN
    rw [if_pos (by omega), if_pos (by omega)]; simp
  unfold atI; rw [e]; exact h
noncomputable def PlainIx (b : Expr) : Prop := ∀ o i, subscripted b false o i = operate [o, i] (getItem o i)
noncomputable def IxR (X : Cx) (r : R2) : Prop :=
  ∀ (value slice : Expr) (pins : List (Addr × Obj)) (s : Shared) (σ : St) (H : Hp) (x y : V) (v u : Value) (Q : VK), Inv X pins σ H s → RelV x v → RelV y u → r x y H Q →
    subscripted slice false v u = operate [v, u] (getItem v u) → wpAny (model X.prog X.w) X.A (subscriptTail value slice v u) (EP X pins σ Q) X.xe s
noncomputable def MtR (X : Cx) (id : String) (r : V → List V → Hp → VK → Prop) : Prop :=
  ∀ (pins : List (Addr × Obj)) (s : Shared) (σ : St) (H : Hp) (x : V) (xs : List V) (v : Value) (us : List Value) (Q : VK), Inv X pins σ H s → RelV x v → Vals xs us → r x xs H Q →
    wpAny (model X.prog X.w) X.A (call (.builtin id) (v :: us)) (EP X pins σ Q) X.xe s
section
variable {X : Cx} {a b : Expr} {ta tb : TE} {pos : Pos}
theorem IxR.or {r r' : R2} (h : IxR X r) (h' : IxR X r') : IxR X (fun x y H Q => r x y H Q ∨ r' x y H Q) := by
  intro value slice pins s σ H x y v u Q I rx ry q hs
  rcases q with q | q
  · exact h value slice pins s σ H x y v u Q I rx ry q hs
  · exact h' value slice pins s σ H x y v u Q I rx ry q hs
theorem MtR.or {id : String} {r r' : V → List V → Hp → VK → Prop} (h : MtR X id r) (h' : MtR X id r') : MtR X id (fun x xs H Q => r x xs H Q ∨ r' x xs H Q) := by
  intro pins s σ H x xs v us Q I rx rs q
  rcases q with q | q
  · exact h pins s σ H x xs v us Q I rx rs q
  · exact h' pins s σ H x xs v us Q I rx rs q
theorem pe_ix {r : R2} (hr : IxR X r) (ha : PE X a ta) (hb : PE X b tb) (hs : PlainIx b) : PE X (.Subscript a b pos) (tOp r ta tb) := by
  intro pins s σ H Q I h
  exact Subscript_ (binT ha hb I h fun v u s2 x y H2 I2 rx ry q => hr a b pins s2 σ H2 x y v u Q I2 rx ry q (hs _ _))
noncomputable def rIxL (K : PySem.W.Frag) : R2 := fun x y H Q => ∃ p xs i v, x = .ref p ∧ y = .int i ∧ SqL K H p xs ∧ atI xs i = some v ∧ Q v H
noncomputable def rIxT (K : PySem.W.Frag) : R2 := fun x y H Q => ∃ p xs i v, x = .ref p ∧ y = .int i ∧ SqT K H p xs ∧ atI xs i = some v ∧ Q v H
noncomputable def rIxS : R2 := fun x y H Q => ∃ z i c, x = .str z ∧ y = .int i ∧ z.length ≤ sizeLine ∧ atI z.cps.toList i = some c ∧ Q (.str ⟨#[c]⟩) H
theorem ix_list : IxR X (rIxL X.K) := by
  intro value slice pins s σ H x y v u Q I rx ry h hs
  obtain ⟨p, xs, i, z, rfl, rfl, hq, he, q⟩ := h
  cases rx
  obtain ⟨t, rfl⟩ := ry
  obtain ⟨its, r, pl, hz⟩ := I.list hq
  obtain ⟨j, h1, h2, h3, h4, h5⟩ := atI_get he
  obtain ⟨w, ew, rw'⟩ := r.get h2
  have hl := r.length
  have hn := line63
  have fin : EP X pins σ Q w s := ⟨z, H, I, rw', q⟩
  by_cases h0 : 0 ≤ i
  · have hj : i.toNat = j := by
      rw [seqIndex_of h0 h5] at h1
      exact Option.some.inj h1
    exact item_listR pl.isList h0 (by omega) (by rw [hj]; simpa using ew) fin hs
  · have hj : (i + (its.toArray.size : Int)).toNat = j := by
      rw [seqIndex_neg (by omega) h4] at h1
      rw [List.size_toArray, ← hl]
      exact Option.some.inj h1
    exact subscriptTail_builtinR (x := w) pl.isList.typeIs slot_list_getitem.lookup
      (wpAny_getItem_list_neg (Q := fun r s' => r = w ∧ EP X pins σ Q r s') pl.isList (by omega) (by rw [List.size_toArray] <;> omega) (by omega) (by rw [hj]; simpa using ew) ⟨rfl, fin⟩) hs
theorem ix_tup : IxR X (rIxT X.K) := by
  intro value slice pins s σ H x y v u Q I rx ry h hs
  obtain ⟨p, xs, i, z, rfl, rfl, hq, he, q⟩ := h
  cases rx
  obtain ⟨t, rfl⟩ := ry
  obtain ⟨its, r, pl, hz⟩ := I.tuple hq
  obtain ⟨j, h1, h2, h3, h4, h5⟩ := atI_get he
  obtain ⟨w, ew, rw'⟩ := r.get h2
  have hl := r.length
  have hn := line63
  have fin : EP X pins σ Q w s := ⟨z, H, I, rw', q⟩
  exact subscriptTail_builtinR (x := w) pl.typeIs slot_tuple_getitem.lookup
    (getItem_tuple (j := j) (Q := fun r s' => r = w ∧ EP X pins σ Q r s') pl (by omega) (by omega) (by rw [List.size_toArray, ← hl]; exact h1) (by simpa using ew) ⟨rfl, fin⟩) hs
theorem ix_str : IxR X rIxS := by
  intro value slice pins s σ H x y v u Q I rx ry h hs
  obtain ⟨z, i, c, rfl, rfl, hz, he, q⟩ := h
  obtain ⟨t, rfl⟩ := rx
  obtain ⟨t', rfl⟩ := ry
  obtain ⟨j, h1, h2, h3, h4, h5⟩ := atI_get he
  have hl : z.cps.toList.length = z.length := by simp [Str.length]
  rw [hl] at h1 h4 h5
  have hn := line63
  exact tail_any (typeIs_str s z t) slot_str_getitem.lookup (getItem_str (c := c) (by
    have e1 : decide (i < -(2 ^ 63 : Int)) = false := decide_eq_false (by omega)
    have e2 : decide (i ≥ 2 ^ 63) = false := decide_eq_false (by omega)
    rw [e1, e2, Bool.or_false]) (by rw [h1]; simpa using h2) ⟨.str ⟨#[c]⟩, H, I.tok _, ⟨_, rfl⟩, q⟩) hs
noncomputable def rIx (K : PySem.W.Frag) : R2 := fun x y H Q => rIxL K x y H Q ∨ rIxT K x y H Q ∨ rIxS x y H Q
theorem ix_seq : IxR X (rIx X.K) := ix_list.or (ix_tup.or ix_str)
theorem mapSeq_set (its : List Value) (n j : Nat) (u : Value) : Obj.mapSeq (·.setIfInBounds j u) { cls := .type "list", data := .seq its.toArray n } = { cls := .type "list", data := .seq (its.set j u).toArray n } := by
  simp [Obj.mapSeq]
theorem Inv.lst {pins : List (Addr × Obj)} {σ : St} {H : Hp} {s : Shared} {p : Addr} {xs : List V} (I : Inv X pins σ H s) (h : H p = some (.lst xs)) :
    ∃ (its : List Value) (n : Nat), Vals xs its ∧ s.heap.get? p = some { cls := .type "list", data := .seq its.toArray n } ∧ xs.length ≤ sizeLine := by
  obtain ⟨z, its, n, r, e⟩ := I.hok p _ h
  exact ⟨its, n, r, e, z⟩
theorem Inv.lstUpd {pins : List (Addr × Obj)} {σ : St} {H : Hp} {s : Shared} {p : Addr} {xs ys : List V} {its its' : List Value} {n n' : Nat} {f : Obj → Obj} (I : Inv X pins σ H s) (h : H p = some (.lst xs))
    (ho : s.heap.get? p = some { cls := .type "list", data := .seq its.toArray n }) (hf : f { cls := .type "list", data := .seq its.toArray n } = { cls := .type "list", data := .seq its'.toArray n' }) (r : Vals ys its') (hz : ys.length ≤ sizeLine) (t : Nat) :
    Inv X pins σ (upd H p (.lst ys)) { s with heap := s.heap.update p f, toks := t } := by
  have e : (s.heap.update p f).get? p = some { cls := .type "list", data := .seq its'.toArray n' } := by
    rw [Heap.get?_update_self f ho (by rw [hf] <;> rfl), hf]
  refine I.write (x := p) (e := p) (by rw [h]; trivial) (.inl rfl) (fun b u hb q => (Heap.get?_update_other _ _ (Ne.symm hb)).trans q) ⟨_, e⟩ ?_
  exact ⟨hz, its', n', r, e⟩
noncomputable def rSetL : V → V → V → Hp → (Hp → Prop) → Prop := fun o i v H Q => ∃ p xs k j, o = .ref p ∧ i = .int k ∧ H p = some (.lst xs) ∧ ixN xs.length k = some j ∧ Q (upd H p (.lst (xs.set j v)))
theorem set_list : PSet X rSetL := by
  intro pins s σ H o i v ov iv u Q I ro ri rv h
  obtain ⟨p, xs, k, j, rfl, rfl, hp, hj, q⟩ := h
  cases ro
  obtain ⟨t, rfl⟩ := ri
  obtain ⟨its, n, r, ho, hz⟩ := I.lst hp
  obtain ⟨h1, h2, h3, h4⟩ := ixN_seq hj
  have hl := r.length
  have hn := line63
  have I' : Inv X pins σ (upd H p (.lst (xs.set j v))) { s with heap := s.heap.update p (Obj.mapSeq (·.setIfInBounds j u)) } :=
    I.lstUpd hp ho (mapSeq_set its n j u) (r.set rv j) (by rw [List.length_set]; exact hz) s.toks
  by_cases h0 : 0 ≤ k
  · have hk : k.toNat = j := by
      rw [seqIndex_of h0 h4] at h1
      exact Option.some.inj h1
    exact PySem.W.ki_setAt ho h0 (by omega) (by rw [List.size_toArray, ← hl]; exact h4) (by rw [hk]; exact ⟨_, I', q⟩)
  · have hk : (k + (its.toArray.size : Int)).toNat = j := by
      rw [seqIndex_neg (by omega) h3] at h1
      rw [List.size_toArray, ← hl]
      exact Option.some.inj h1
    exact PySem.W.ki_setBack ho (by omega) (by rw [List.size_toArray, ← hl]; exact h3) (by omega) (by rw [hk]; exact ⟨_, I', q⟩)
theorem slice_bounds (lo hi : Option Int) (n : Nat) : (sliceBounds lo hi none n).1 = ((HT.sIx n 0 lo : Nat) : Int) ∧ (sliceBounds lo hi none n).2.1 = ((HT.sIx n n hi : Nat) : Int) ∧ (sliceBounds lo hi none n).2.2 = 1 := by
  refine ⟨?_, ?_, rfl⟩
  · cases lo with
    | none => simp [sliceBounds, HT.sIx]
    | some i =>
      simp only [sliceBounds, HT.sIx, Option.getD_none, show (1 : Int) > 0 by decide, if_true]
      by_cases h : i < 0
      · simp only [h, if_true] <;> omega
      · simp only [h, if_false] <;> omega
  · cases hi with
    | none => simp [sliceBounds, HT.sIx]
    | some i =>
      simp only [sliceBounds, HT.sIx, Option.getD_none, show (1 : Int) > 0 by decide, if_true]
      by_cases h : i < 0
      · simp only [h, if_true] <;> omega
      · simp only [h, if_false] <;> omega
theorem slicePick_cut (its : List Value) (lo hi : Option Int) : slicePick its.toArray lo hi none = ((its.drop (HT.sIx its.length 0 lo)).take (HT.sIx its.length its.length hi - HT.sIx its.length 0 lo)).toArray := by
  obtain ⟨h1, h2, h3⟩ := slice_bounds lo hi its.toArray.size
  unfold slicePick
  rw [h1, h2, h3]
  simp only [sliceRange_one, pick_run, List.size_toArray] <;> rfl
noncomputable def rSlL (K : PySem.W.Frag) : V → Option Int → Option Int → Hp → VK → Prop := fun x lo hi H Q => ∃ a xs, x = .ref a ∧ SqL K H a xs ∧ ∀ p, H p = none → Q (.ref p) (upd H p (.lst (cutV xs lo hi)))
theorem sl_list : SlR X (rSlL X.K) := by
  intro pins s σ H x v vl vu lo hi sl Q I rx hs pl pu h
  obtain ⟨a, xs, rfl, hx, q⟩ := h
  cases rx
  obtain ⟨its, r, ht, hz⟩ := I.list hx
  have hlen := r.length
  refine ⟨"list", _, slot_list_getitem.lookup, ht.isList.typeIs, ?_⟩
  refine wpAny_getItem_list_slice ht.isList hs pl pu .none (by simp) ?_ (by rw [List.size_toArray] <;> omega)
  rw [slicePick_cut, ← hlen]
  refine ⟨.ref s.heap.objs.size, _, I.laid (t' := s.toks) (o := .lst (cutV xs lo hi)) (fun b ob q => Heap.get?_push_of_some _ q) (Nat.le_refl _) ?_, rfl, q _ (I.hok.fresh (Nat.le_refl _))⟩
  exact ⟨Nat.le_trans (cutV_length xs lo hi) hz, _, 0, (r.drop (HT.sIx xs.length 0 lo)).take (HT.sIx xs.length xs.length hi - HT.sIx xs.length 0 lo), Heap.get?_push_size _ rfl⟩
noncomputable def flatV : V → Bool
  | .non => true
  | .bl _ => true
  | .int _ => true
  | .str _ => true
  | _ => false
noncomputable def eqV : V → V → Bool
  | .non, .non => true
  | .bl a, .bl b => a == b
  | .bl a, .int b => (if a then 1 else 0) == b
  | .int a, .bl b => a == (if b then 1 else 0)
  | .int a, .int b => a == b
  | .str a, .str b => a == b
  | _, _ => false
theorem eqAt_V {A : Around} {s : Shared} {y x : V} {u v : Value} (ry : RelV y u) (rx : RelV x v) (fy : flatV y = true) (fx : flatV x = true) : SeqAt.EqAt A s u v (eqV y x) := by
  cases y with
  | non =>
    cases ry
    cases x with
    | non => cases rx; exact SeqAt.EqAt.same _
    | bl b => cases rx; exact SeqAt.EqAt.none_bool b
    | int b => obtain ⟨t, rfl⟩ := rx; exact SeqAt.EqAt.none_int b t
    | str b => obtain ⟨t, rfl⟩ := rx; exact SeqAt.EqAt.none_str b t
    | _ => exact absurd (show false = true from fx) Bool.false_ne_true
  | bl a =>
    cases ry
    cases x with
    | non => cases rx; exact SeqAt.EqAt.bool_none a
    | bl b => cases rx; exact SeqAt.EqAt.bool_bool a b
    | int b => obtain ⟨t, rfl⟩ := rx; exact SeqAt.EqAt.bool_int a b t
    | str b => obtain ⟨t, rfl⟩ := rx; exact SeqAt.EqAt.bool_str a b t
    | _ => exact absurd (show false = true from fx) Bool.false_ne_true
  | int a =>
    obtain ⟨t', rfl⟩ := ry
    cases x with
    | non => cases rx; exact SeqAt.EqAt.int_none a t'
    | bl b => cases rx; exact SeqAt.EqAt.int_bool a t' b
    | int b => obtain ⟨t, rfl⟩ := rx; exact SeqAt.EqAt.int_int a t' b t
    | str b => obtain ⟨t, rfl⟩ := rx; exact SeqAt.EqAt.int_str a t' b t
    | _ => exact absurd (show false = true from fx) Bool.false_ne_true
  | str a =>
    obtain ⟨t', rfl⟩ := ry
    cases x with
    | non => cases rx; exact SeqAt.EqAt.str_none a t'
    | bl b => cases rx; exact SeqAt.EqAt.str_bool a t' b
    | int b => obtain ⟨t, rfl⟩ := rx; exact SeqAt.EqAt.str_int a t' b t
    | str b => obtain ⟨t, rfl⟩ := rx; exact SeqAt.EqAt.str_str a t' b t
    | _ => exact absurd (show false = true from fx) Bool.false_ne_true
  | _ => exact absurd (show false = true from fy) Bool.false_ne_true
noncomputable def eqU (x : V) (u : Value) : Bool := match u with
  | .none => eqV .non x
  | .bool b => eqV (.bl b) x
  | .int i _ => eqV (.int i) x
  | .str z _ => eqV (.str z) x
  | _ => false
theorem eqU_of {x y : V} {u : Value} (r : RelV y u) (f : flatV y = true) : eqU x u = eqV y x := by
  cases y with
  | non => cases r; rfl
  | bl b => cases r; rfl
  | int i => obtain ⟨t, rfl⟩ := r; rfl
  | str z => obtain ⟨t, rfl⟩ := r; rfl
  | _ => exact absurd (show false = true from f) Bool.false_ne_true
theorem any_eqU {x : V} : ∀ {xs : List V} {us : List Value}, Vals xs us → xs.all flatV = true → us.any (eqU x) = xs.any fun y => eqV y x
  | _, _, .nil, _ => rfl
  | y :: xs, u :: us, .cons r t, f => by
    rw [List.all_cons, Bool.and_eq_true] at f
    rw [List.any_cons, List.any_cons, eqU_of r f.1, any_eqU t f.2]
theorem mem_eqAt {A : Around} {s : Shared} {x : V} {v : Value} (rx : RelV x v) (fx : flatV x = true) : ∀ {xs : List V} {us : List Value}, Vals xs us → xs.all flatV = true → ∀ u ∈ us, SeqAt.EqAt A s u v (eqU x u)
  | _, _, .nil, _ => fun u hu => by cases hu
  | y :: xs, u :: us, .cons r t, f => fun u' hu => by
    rw [List.all_cons, Bool.and_eq_true] at f
    rcases List.mem_cons.mp hu with rfl | hu
    · rw [eqU_of r f.1]; exact eqAt_V r rx f.1 fx
    · exact mem_eqAt rx fx t f.2 u' hu
noncomputable def inV (x : V) (xs : List V) : Bool := xs.any fun y => eqV y x
noncomputable def rIn (K : PySem.W.Frag) (neg : Bool) : R2 := fun x y H Q => ∃ p xs, y = .ref p ∧ (SqL K H p xs ∨ SqT K H p xs) ∧ flatV x = true ∧ xs.all flatV = true ∧ Q (.bl (if neg then !inV x xs else inV x xs)) H
theorem op_in_seq : OpR X (compareOp .In) (rIn X.K false) := by
  intro pins s σ H x y v u Q I rx ry h
  obtain ⟨p, xs, rfl, hq, fx, fs, q⟩ := h
  cases ry
  rcases hq with hq | hq
  · obtain ⟨its, r, pl, hz⟩ := I.list hq
    refine SeqAt.in_listAt (eqU x) pl.isList (fun w hw => mem_eqAt rx fx r fs w (by simpa using hw)) ⟨.bl _, H, I, rfl, ?_⟩
    rw [show its.toArray.any (eqU x) = its.any (eqU x) by simp, any_eqU r fs]
    exact q
  · obtain ⟨its, r, pl, hz⟩ := I.tuple hq
    refine SeqAt.in_tupleAt (eqU x) pl (fun w hw => mem_eqAt rx fx r fs w (by simpa using hw)) ⟨.bl _, H, I, rfl, ?_⟩
    rw [show its.toArray.any (eqU x) = its.any (eqU x) by simp, any_eqU r fs]
    exact q
theorem call_len_seq : CallR X (.builtin "len") (fun xs H Q => ∃ p ys, xs = [.ref p] ∧ (SqL X.K H p ys ∨ SqT X.K H p ys) ∧ Q (.int ys.length) H) := by
  intro pins s σ H xs us Q I r h
  obtain ⟨p, ys, rfl, hq, q⟩ := h
  obtain ⟨u, rfl, rx⟩ := vals1 r
  cases rx
  have hn := line63
  rcases hq with hq | hq
  · obtain ⟨its, r', pl, hz⟩ := I.list hq
    have hlen := r'.length
    exact Calls.call_len_list pl.isList (by simp only [List.size_toArray] <;> omega) ⟨.int ys.length, H, I.tok _, ⟨s.toks + 1, by rw [List.size_toArray, hlen]⟩, q⟩
  · obtain ⟨its, r', pl, hz⟩ := I.tuple hq
    have hlen := r'.length
    exact len_tuple pl (by simp only [List.size_toArray] <;> omega) ⟨.int ys.length, H, I.tok _, ⟨s.toks + 1, by rw [List.size_toArray, hlen]⟩, q⟩
theorem call_len_str : CallR X (.builtin "len") (fun xs H Q => ∃ z, xs = [.str z] ∧ z.length ≤ sizeLine ∧ Q (.int z.length) H) := by
  intro pins s σ H xs us Q I r h
  obtain ⟨z, rfl, hz, q⟩ := h
  obtain ⟨u, rfl, t, rfl⟩ := vals1 r
  have hn := line63
  exact len_str (by omega) ⟨.int z.length, H, I.tok _, ⟨_, rfl⟩, q⟩
theorem CallR.or {f : Value} {r r' : List V → Hp → VK → Prop} (h : CallR X f r) (h' : CallR X f r') : CallR X f (fun xs H Q => r xs H Q ∨ r' xs H Q) := by
  intro pins s σ H xs us Q I rs q
  rcases q with q | q
  · exact h pins s σ H xs us Q I rs q
  · exact h' pins s σ H xs us Q I rs q
theorem call_list_of : CallR X (.type "list") (fun xs H Q => ∃ p ys, xs = [.ref p] ∧ (SqL X.K H p ys ∨ SqT X.K H p ys) ∧ ∀ l, H l = none → Q (.ref l) (upd H l (.lst ys))) := by
  intro pins s σ H xs us Q I r h
  obtain ⟨p, ys, rfl, hq, q⟩ := h
  obtain ⟨u, rfl, rx⟩ := vals1 r
  cases rx
  have fin : ∀ (its : List Value), Vals ys its → ys.length ≤ sizeLine → ∀ (h' : Heap) (c' : Nat), (∀ b o', s.heap.get? b = some o' → h'.get? b = some o') →
      h'.get? s.heap.objs.size = some { cls := .type "list", dict := none, data := .seq its.toArray c', slots := #[] } → EP X pins σ Q (.ref s.heap.objs.size) { s with heap := h' } := fun its r' hz h' c' kp e =>
    ⟨.ref s.heap.objs.size, _, I.laid (t' := s.toks) kp (Nat.le_refl _) (show ObjOk X.prog X.w _ h' _ (.lst ys) from ⟨hz, its, c', r', e⟩), rfl, q _ (I.hok.fresh (Nat.le_refl _))⟩
  rcases hq with hq | hq
  · obtain ⟨its, r', pl, hz⟩ := I.list hq
    have hlen := r'.length
    obtain ⟨o, ho, hc, n, hd⟩ := pl.isList
    exact call_list_seq p (.inl rfl) ho hc hd (fun h' c' kp e => fin its r' hz h' c' kp e) (by simp only [List.size_toArray] <;> omega)
  · obtain ⟨its, r', pl, hz⟩ := I.tuple hq
    have hlen := r'.length
    obtain ⟨o, ho, hc, n, hd⟩ := pl
    exact call_list_seq p (.inr rfl) ho hc hd (fun h' c' kp e => fin its r' hz h' c' kp e) (by simp only [List.size_toArray] <;> omega)
theorem call_tuple_of : CallR X (.type "tuple") (fun xs H Q => ∃ p ys, xs = [.ref p] ∧ ((SqL X.K H p ys ∧ ∀ l, H l = none → Q (.ref l) (upd H l (.tup ys))) ∨ (SqT X.K H p ys ∧ Q (.ref p) H))) := by
  intro pins s σ H xs us Q I r h
  obtain ⟨p, ys, rfl, h⟩ := h
  obtain ⟨u, rfl, rx⟩ := vals1 r
  cases rx
  rcases h with ⟨hq, q⟩ | ⟨hq, q⟩
  · obtain ⟨its, r', pl, hz⟩ := I.list hq
    have hlen := r'.length
    refine call_tuple_list pl.isList (fun h' kp => ?_) (by simp only [List.size_toArray] <;> omega)
    have I1 : Inv X pins σ H { s with heap := h' } := I.kept (t' := s.toks) kp
    have I2 : Inv X pins σ (upd H h'.objs.size (.tup ys)) { s with heap := h'.push { cls := .type "tuple", data := .seq its.toArray } } :=
      I1.laid (t' := s.toks) (fun b o e => Heap.get?_push_of_some _ e) (Nat.le_refl _) (show ObjOk X.prog X.w _ _ _ (.tup ys) from ⟨hz, its, r', IsTup.new _ _⟩)
    exact ⟨.ref h'.objs.size, _, I2, rfl, q _ (I1.hok.fresh (Nat.le_refl _))⟩
  · obtain ⟨its, r', pl, hz⟩ := I.tuple hq
    exact call_tuple_same pl ⟨.ref p, H, I, rfl, q⟩
noncomputable def tyV (K : PySem.W.Frag) (T : String) (x : V) (H : Hp) : Prop := match x with
  | .str _ => T = "str"
  | .int _ => T = "int"
  | .ref p => (T = "list" ∧ ∃ xs, SqL K H p xs) ∨ (T = "tuple" ∧ ∃ o, K.lookup p = some o ∧ o.cls = .type "tuple" ∧ o.dict = none) ∨
      (T = "dict" ∧ ((∃ kvs, H p = some (.dK kvs)) ∨ ∃ kvs, H p = some (.dT kvs))) ∨ (T = "set" ∧ ∃ S n, H p = some (.set S n))
  | _ => False
theorem tyV_is {pins : List (Addr × Obj)} {σ : St} {H : Hp} {s : Shared} {T : String} {x : V} {v : Value} (I : Inv X pins σ H s) (r : RelV x v) (ty : tyV X.K T x H) :
    s.TypeIs v T ∧ ∀ a, v = .ref a → ∃ ob, s.heap.get? a = some ob ∧ ob.dict = none := by
  cases x with
  | str z =>
    obtain ⟨t, rfl⟩ := r
    cases (show T = "str" from ty)
    exact ⟨typeIs_str s z t, fun _ e => nomatch e⟩
  | int i =>
    obtain ⟨t, rfl⟩ := r
    cases (show T = "int" from ty)
    exact ⟨typeIs_int s i t, fun _ e => nomatch e⟩
  | ref p =>
    cases r
    rcases ty with ⟨rfl, xs, hq⟩ | ⟨rfl, o, hk, hc, hd⟩ | ⟨rfl, hk⟩ | ⟨rfl, S, n, hk⟩
    · obtain ⟨its, _, pl, _⟩ := I.list hq
      refine ⟨pl.isList.typeIs, fun a e => ?_⟩
      cases e
      obtain ⟨o, n, e, c, hd, _⟩ := pl
      exact ⟨o, e, hd⟩
    · refine ⟨⟨o, I.kIn p o hk, hc⟩, fun a e => ?_⟩
      cases e
      exact ⟨o, I.kIn _ o hk, hd⟩
    · have z : ∃ o, s.heap.get? p = some o ∧ o.ExactDict := by
        rcases hk with ⟨kvs, hk⟩ | ⟨kvs, hk⟩
        · obtain ⟨_, _, _, _, o, _, _, e, ex, _⟩ := I.hok p _ hk
          exact ⟨o, e, ex⟩
        · obtain ⟨_, _, _, _, o, _, _, e, ex, _⟩ := I.hok p _ hk
          exact ⟨o, e, ex⟩
      obtain ⟨o, e, ex⟩ := z
      refine ⟨⟨o, e, ex.1⟩, fun a e2 => ?_⟩
      cases e2
      exact ⟨o, e, ex.2.1⟩
    · obtain ⟨o, _, _, _, e, ex, _⟩ := I.hok p _ hk
      refine ⟨⟨o, e, ex.1⟩, fun a e2 => ?_⟩
      cases e2
      exact ⟨o, e, ex.2.1⟩
  | _ => exact False.elim ty
noncomputable def tBM (K : PySem.W.Frag) (T : String) (r : V → List V → Hp → VK → Prop) (to : TE) (t : TA) : TE := fun σ H Q => to σ H fun x H1 => tyV K T x H1 ∧ t σ H1 fun xs H2 => r x xs H2 Q
variable {o e : Expr} {es : List Expr} {to : TE} {t : TA} {name : Str} {apos cpos : Pos} {T id : String} {r : V → List V → Hp → VK → Prop}
theorem pe_bm (pa : PlainAttrs T) (slot : Slot T name id) (hty : typeOf (.builtin id) = pure (.type "method_descriptor")) (hm : MtR X id r) (ho : PE X o to) (ha : PA X (e :: es) t)
    (hbase : attributeBase o name X.env (eval o X.env) = eval o X.env := by rfl)
    (hfew : ((backTo cpos (starEach (e :: es) X.env)).all (fun x => !x.1) && (backToKw cpos (keywordEach [] X.env)).all (fun x => x.1.isSome)
      && decide ((e :: es).length + ([] : List Keyword).length + (if ([] : List Keyword).isEmpty then 0 else 1) < 30)) = true := by rfl)
    (hline : (apos.endLine == cpos.line) = true := by rfl) (hs : starEach (e :: es) X.env = (false, eval e X.env) :: starEach es X.env := by rfl) (hplain : (backTo cpos (starEach es X.env)).any (·.1) = false := by rfl) :
    PE X (.Call (.Attribute o name apos) (e :: es) [] cpos) (tBM X.K T r to t) := by
  intro pins s σ H Q I h
  refine wpAny_Call_method_late hbase hfew hline rfl (thn (ho pins s σ H _ I h) fun v s1 ⟨x, H1, I1, r1, ty, q1⟩ => ?_)
  obtain ⟨h1, h2⟩ := tyV_is I1 r1 ty
  refine ⟨T, id, pa, slot, hty, h1, h2, ?_⟩
  have hA := ha cpos pins s1 σ H1 _ I1 q1
  rw [hs] at hA ⊢
  refine Calls.callWith_builtin (by show (false || (backTo cpos (starEach es X.env)).any (·.1)) = false; rw [hplain] <;> rfl) (Calls.evalArgs_plain ?_)
  exact thn hA fun us s2 ⟨vs, H2, I2, r2, q2⟩ => hm pins s2 σ H2 x vs v us Q I2 r1 r2 q2
end
end L2
namespace L2
open PySem PySem.Spec PyProof.Rows
noncomputable def MtM (X : Cx) (id : String) (r : V → List V → Hp → VK → Prop) : Prop :=
  ∀ (pins : List (Addr × Obj)) (s : Shared) (σ : St) (H : Hp) (x : V) (xs : List V) (v : Value) (us : List Value) (Q : VK), Inv X pins σ H s → RelV x v → Vals xs us → r x xs H Q →
    wpAny (model X.prog X.w) X.A (call (.builtin id) (v :: us)) (EP X pins σ Q) X.xe s
theorem Vals.one : ∀ {x : V} {us : List Value}, Vals [x] us → ∃ u, us = [u] ∧ RelV x u
  | _, _, .cons r .nil => ⟨_, rfl, r⟩
theorem Vals.two : ∀ {x y : V} {us : List Value}, Vals [x, y] us → ∃ u v, us = [u, v] ∧ RelV x u ∧ RelV y v
  | _, _, _, .cons r (.cons q .nil) => ⟨_, _, rfl, r, q⟩
theorem Vals.zero : ∀ {us : List Value}, Vals [] us → us = []
  | _, .nil => rfl
theorem Vals.reverse {xs : List V} {us : List Value} (h : Vals xs us) : Vals xs.reverse us.reverse := by
  induction h with
  | nil => exact .nil
  | cons r t ih => rw [List.reverse_cons, List.reverse_cons]; exact Vals.append ih (.cons r .nil)
theorem Vals.rep {xs : List V} {us : List Value} (h : Vals xs us) : ∀ k : Nat, Vals (List.replicate k xs).flatten (List.replicate k us).flatten
  | 0 => .nil
  | k + 1 => by
    rw [List.replicate_succ, List.replicate_succ, List.flatten_cons, List.flatten_cons]
    exact Vals.append h (Vals.rep h k)
theorem foldl_rep (its : List Value) : ∀ (k : Nat) (acc : List Value),
    List.foldl (fun x1 x2 => x1 ++ x2) acc.toArray (List.replicate k its.toArray) = (acc ++ (List.replicate k its).flatten).toArray
  | 0, acc => by simp
  | k + 1, acc => by
    have e : acc.toArray ++ its.toArray = (acc ++ its).toArray := by simp
    have e2 : (acc ++ its) ++ (List.replicate k its).flatten = acc ++ (List.replicate (k + 1) its).flatten := by
      rw [List.replicate_succ, List.flatten_cons, List.append_assoc]
    rw [← e2, ← foldl_rep its k (acc ++ its), ← e, List.replicate_succ, List.foldl_cons]
section
variable {X : Cx} {pins : List (Addr × Obj)} {σ : St} {H : Hp} {s : Shared} {l b : Addr} {xs ys zs : List V}
theorem Inv.lset {its its' : List Value} {n : Nat} {f : Array Value → Array Value} {t' : Nat} (I : Inv X pins σ H s) (hH : H l = some (.lst xs))
    (e : s.heap.get? l = some { cls := .type "list", data := .seq its.toArray n }) (hf : f its.toArray = its'.toArray) (hv : Vals ys its') (hz : ys.length ≤ sizeLine) :
    Inv X pins σ (upd H l (.lst ys)) { s with heap := s.heap.update l (Obj.mapSeq f), toks := t' } := by
  have q := PySem.IsL.update e f
  rw [hf] at q
  refine I.write (x := l) (e := l) (by rw [hH]; exact trivial) (.inl rfl) (fun b' u hb hu => (Heap.get?_update_other s.heap (Obj.mapSeq f) (Ne.symm hb)).trans hu) ⟨_, q⟩ ?_
  exact ⟨hz, its', _, hv, q⟩
theorem Inv.lnew {its : List Value} {t' : Nat} (I : Inv X pins σ H s) (hv : Vals ys its) (hz : ys.length ≤ sizeLine) :
    Inv X pins σ (upd H s.heap.objs.size (.lst ys)) { s with heap := s.heap.push { cls := .type "list", data := .seq its.toArray }, toks := t' } :=
  I.laid (fun _ _ q => Heap.get?_push_of_some _ q) (Nat.le_refl _) ⟨hz, its, 0, hv, Heap.get?_push_size _ rfl⟩
theorem Inv.fresh (I : Inv X pins σ H s) : H s.heap.objs.size = none := I.hok.fresh (Nat.le_refl _)
theorem Inv.lstM (I : Inv X pins σ H s) (hH : H l = some (.lst xs)) : xs.length ≤ sizeLine ∧ ∃ (its : List Value) (n : Nat), Vals xs its ∧ xs.length = its.length ∧ s.heap.get? l = some { cls := .type "list", data := .seq its.toArray n } := by
  obtain ⟨z, its, n, r, e⟩ := I.hok l _ hH
  exact ⟨z, its, n, r, r.length, e⟩
theorem notLongL {n : Nat} (h : n ≤ sizeLine) : Builtin.List.listTooLong n = false := by
  unfold Builtin.List.listTooLong
  exact decide_eq_false (by omega)
end
section
variable {X : Cx}
noncomputable def rAppend : V → List V → Hp → VK → Prop := fun x vs H Q => ∃ l xs y, x = .ref l ∧ vs = [y] ∧ H l = some (.lst xs) ∧ xs.length < sizeLine ∧ Q .non (upd H l (.lst (xs ++ [y])))
theorem mt_append : MtM X "list.append" rAppend := by
  intro pins s σ H x vs v us Q I rx rv h
  obtain ⟨l, xs, y, rfl, rfl, hH, hz, q⟩ := h
  cases rx
  obtain ⟨u, rfl, ru⟩ := rv.one
  obtain ⟨z, its, n, r, hl, e⟩ := I.lstM hH
  refine call_meets F.slot_list_append ⟨_, e, rfl⟩ F.entry_list_append (F.args_list_append_2 _ _) (PySem.list_append l its.toArray n u (by rw [List.size_toArray]; omega)) ⟨e, ?_⟩
  refine ⟨.non, _, I.lset (its' := its ++ [u]) hH e (by simp) (r.append (.cons ru .nil)) ?_, rfl, q⟩
  rw [List.length_append, List.length_singleton]
  omega
noncomputable def rCat : R2 := fun x y H Q => ∃ l b xs zs, x = .ref l ∧ y = .ref b ∧ H l = some (.lst xs) ∧ H b = some (.lst zs) ∧ xs.length + zs.length ≤ sizeLine ∧ ∀ p, H p = none → Q (.ref p) (upd H p (.lst (xs ++ zs)))
theorem op_cat : OpR X (binaryOp .Add) rCat := by
  intro pins s σ H x y v u Q I rx ry h
  obtain ⟨l, b, xs, zs, rfl, rfl, hH, hB, hz, q⟩ := h
  cases rx
  cases ry
  obtain ⟨z, its, n, r, hl, e⟩ := I.lstM hH
  obtain ⟨z2, its2, n2, r2, hl2, e2⟩ := I.lstM hB
  refine PySem.P.add_list e e2 ?_ (by rw [List.size_toArray, List.size_toArray]; omega)
  have ea : its.toArray ++ its2.toArray = (its ++ its2).toArray := by simp
  rw [ea]
  exact ⟨.ref _, _, I.lnew (t' := s.toks) (r.append r2) (by rw [List.length_append]; omega), rfl, q _ I.fresh⟩
noncomputable def rRep : R2 := fun x y H Q => ∃ l k xs, x = .ref l ∧ y = .int k ∧ H l = some (.lst xs) ∧ -(2 ^ 63) ≤ k ∧ k < 2 ^ 63 ∧ xs.length * k.toNat ≤ sizeLine ∧
  ∀ p, H p = none → Q (.ref p) (upd H p (.lst (List.replicate k.toNat xs).flatten))
theorem len_rep {α : Type} (xs : List α) (k : Nat) : (List.replicate k xs).flatten.length = k * xs.length := by
  induction k with
  | zero => simp
  | succ k ih => rw [List.replicate_succ, List.flatten_cons, List.length_append, ih, Nat.succ_mul, Nat.add_comm]
theorem op_rep : OpR X (binaryOp .Mult) rRep := by
  intro pins s σ H x y v u Q I rx ry h
  obtain ⟨l, k, xs, rfl, rfl, hH, h1, h2, hz, q⟩ := h
  cases rx
  obtain ⟨t, rfl⟩ := ry
  obtain ⟨z, its, n, r, hl, e⟩ := I.lstM hH
  have hlen : its.toArray.size * k.toNat ≤ sizeLine := by rw [List.size_toArray, ← hl]; exact hz
  have hcap : ¬ its.toArray.size * k.toNat > (2 ^ 63 - 1) / 8 := by
    have : (sizeLine : Nat) ≤ (2 ^ 63 - 1) / 8 := by decide
    omega
  have hfit : ¬ (!Builtin.List.listFitsIndex k) = true := by
    rw [fitsIndex_both h1 h2]
    exact Bool.false_ne_true
  have hlong : ¬ Builtin.List.listTooLong (its.toArray.size * k.toNat) = true := by
    rw [notLongL hlen]
    exact Bool.false_ne_true
  have hnew : List.foldl (fun x1 x2 => x1 ++ x2) #[] (List.replicate (if its.toArray.isEmpty = true then 0 else k.toNat) its.toArray) = (List.replicate k.toNat its).flatten.toArray := by
    have f0 : ∀ m : Nat, List.foldl (fun x1 x2 => x1 ++ x2) #[] (List.replicate m its.toArray) = (List.replicate m its).flatten.toArray := fun m => by
      have := foldl_rep its m []
      rw [List.nil_append] at this
      exact this
    rw [f0]
    cases its with
    | nil => simp
    | cons a r' => rw [if_neg (by simp)]
  refine wpAny_binaryOp_repeat_ref (T := "list") (U := "int") (by decide) ⟨_, e, rfl⟩ (fun s' => typeIs_int s' k t) noFill_list_mul F.fills_int_mul F.slot_int_rmul repeat_list F.slot_int_index.lookup
    (call_meets F.slot_int_rmul (typeIs_int s k t) F.entry_int_rmul (F.args_int_rmul_2 _ _) (int___rmul___int_list k t l its.toArray n)
      ⟨e, rfl, ⟨_, e, rfl⟩, call_meets F.slot_list_mul ⟨_, e, rfl⟩ F.entry_list_mul (F.args_list_mul_2 _ _) (AutoListH.list___mul___list_int_3 l its.toArray n k t hfit hcap hlong) ⟨e, ?_⟩⟩)
  rw [hnew]
  exact ⟨.ref _, _, I.lnew (t' := s.toks) (r.rep k.toNat) (by rw [len_rep, Nat.mul_comm]; exact hz), rfl, q _ I.fresh⟩
end
end L2
namespace Att
open PySem PySem.W PySem.Calls PyProof.Rows
theorem ints_of_wellAll {P : Params} {h : Heap} : ∀ (ns : List Int) (vs : List Value), WellAll P h vs (ns.map WData.int) → IntsAre vs ns := by
  intro ns
  induction ns with
  | nil =>
    intro vs w
    rw [List.map_nil] at w
    cases w
    exact .nil
  | cons n ns ih =>
    intro vs w
    rw [List.map_cons] at w
    cases w with
    | cons a b =>
      cases a
      exact .cons _ _ (ih _ b)
theorem script_of {l : OpenLaw} {n : Nat} (hn : l.most = some n) {P : Params} {h : Heap} {args : List WData} {vals : List Value}
    (hpre : l.row.toRowW.claim.pre args = true) (hwl : WellAll P h vals args) :
    ∃ a vs ns, vals = [Value.ref a] ∧ args = [WData.list (ns.map WData.int)] ∧ h.get? a = some { cls := .type "list", data := .seq vs.toArray } ∧ IntsAre vs ns ∧ ns.length ≤ n := by
  have hsh : WShape.hasAll [] args [.list .int] = true := (pre_splitW hpre).1
  have hc : l.pre.holds [] { args := args } = true := (pre_splitW hpre).2
  obtain ⟨d, r, rfl, h1, h2⟩ := hasAllW_cons hsh
  obtain rfl := hasAllW_nil h2
  obtain ⟨xs, rfl, h3⟩ := hasW_list h1
  obtain ⟨ns, rfl⟩ := items_int h3
  have hlen : ns.length ≤ n := by
    unfold OpenLaw.pre at hc
    have h4 : (WTm.not (.lt (.lit (.int (n : Int))) (.len (.arg 0)))).holds [] { args := [.list (ns.map .int)] } = true := by
      have h4 := (holds_andW hc).1
      rw [hn] at h4
      exact h4
    have h5 := condW_of h4 (w_not (w_lt w_lit (w_len_list (w_arg rfl))))
    rw [List.length_map] at h5
    refine Nat.le_of_not_lt fun q => ?_
    have q' : (n : Int) < ((ns.length : Nat) : Int) := by omega
    first
      | (rw [decide_eq_true q'] at h5; exact absurd h5 (by decide))
      | (simp at h5; omega)
  cases hwl with
  | cons w1 w2 =>
    cases w2
    cases w1 with
    | list ho hall => exact ⟨_, _, ns, rfl, rfl, ho, ints_of_wellAll ns _ hall, hlen⟩
theorem post_true (l : OpenLaw) (args : List WData) : l.row.toRowW.claim.post args (.bool true) args = true :=
  postW_of (r := l.row.toRowW) (X := (true == true))
    (show WShape.has [] (.bool true) .bool = true by first | rfl | decide | simp [WShape.has, WShape.arms, WShape.armsAll])
    (show (WTm.eq .res (.lit (.bool true))).value [] { args := args, res := some (.bool true), after := args } = some (.bool (true == true)) from w_eq_bool (w_res rfl) w_lit) rfl
theorem attach_call {l : OpenLaw} {n : Nat} {q : Program} {loose : List Str} {XP : (Str → Option Value) → Heap → Prop} {YP : World → Heap → Prop} {d : DefRec}
    (hn : l.most = some n) (hdf : d.params.defaults = [])
    (call : ∀ (w : World) (s₀ s₁ : Shared) (mg mb : Str → Option Value) (fa : Addr) (o : Obj) (pm cd doc : Value) (a : Addr) (vs : List Value) (ns : List Int),
      Ground q loose [] XP w s₀ mg mb s₁.heap → YP w s₁.heap →
      s₁.heap.get? fa = some o → o.data = .func (docDef d.name d.params d.body d.scope pm cd doc) → s₁.heap.CodeRec cd d.name → mg d.name = some (.ref fa) →
      s₁.heap.get? a = some { cls := .type "list", data := .seq vs.toArray } → IntsAre vs ns → ns.length ≤ n → s₁.gens = #[] →
      codeAny (model l.prog w) callerA (.call (.ref fa) ⟨[.ref a], []⟩) (fun r s' => r = .ok (.ret (.bool true)) ∧ OldK s₁.heap s'.heap ∧ s'.os = s₁.os ∧ AllBare s'.gens) s₁) :
    WalkO q loose XP YP l.row.toRowW d [] (fun f vs => PySem.call f vs) := by
  intro w s₀ s₁ mg mb G Y fa o pm cd doc dV kV ho hd hcd hD hmg hg args vals as hpre hlay hrd hwl hlo
  obtain rfl : dV = .none := Dflts.none hD hdf
  obtain rfl : kV = .none := Dflts.noKw hD
  obtain ⟨a, vs, ns, rfl, rfl, hobj, hints, hlen⟩ := script_of hn hpre hwl
  refine enter_call (codeAny_mono (call w s₀ s₁ mg mb fa o pm cd doc a vs ns G Y ho (fd_plain hd) hcd hmg hobj hints hlen hg) fun r s' hq => ?_)
  obtain ⟨rfl, h2, h3, h4⟩ := hq
  exact ⟨.inl ⟨.bool true, .bool true, [], rfl, fun _ => rfl, .bool true, post_true l _, fun _ => ⟨List.Pairwise.nil, fun _ hm => (nomatch hm)⟩⟩, h2, h3, h4⟩
end Att
namespace L2
open PySem PySem.Spec PyProof.Rows
theorem vals_ints : ∀ {vs : List Value} {ns : List Int}, IntsAre vs ns → Vals (ns.map V.int) vs
  | _, _, .nil => .nil
  | _, _, .cons n t h => .cons ⟨t, rfl⟩ (vals_ints h)
noncomputable def Only (H : Hp) : Prop := ∀ b, H b = none ∨ ∃ o xs, H b = some (.frz o (.lst xs))
theorem law_call {P : Program} {w : World} {K : PySem.W.Frag} {mg mb : Str → Option Value} {CX : CXT} {k : Nat} {fa a : Addr} {fd : FuncData} {x : Str} {sp : Sp} {s₁ : Shared} {vs : List Value} {ns : List Int}
    (KX : K.In s₁.heap) (hns : s₁.heap.Ns mainGlobals mg) (hb : s₁.heap.Ns builtinsNs mb) (hbb : ∀ x : Str, x ≠ "__name__" → mb x = bootBuiltins x) (hlim : s₁.heap.NoLimit) (hg : s₁.gens = #[])
    (ha : s₁.heap.get? a = some { cls := .type "list", data := .seq vs.toArray }) (hi : IntsAre vs ns) (hl : ns.length ≤ sizeLine) (hr : Room k callerA)
    (F : ∀ base : Heap, K.In base → base.Ns mainGlobals mg → FnOk P w K mg base CX k fa fd [x] sp) (hbind : ∀ (s : Shared) (u : Value), BindsTo s fd ⟨[u], []⟩ [(x, u)])
    (hsp : ∀ H : Hp, Only H → SqL K H a (ns.map V.int) → sp [.ref a] H (fun v _ => v = .bl true) fun _ _ _ => False)
    (hCX : ∀ H e s', CX [] H s₁ (fun _ _ _ => False) e s' → False) :
    codeAny (model P w) callerA (.call (.ref fa) ⟨[.ref a], []⟩) (fun r s' => r = .ok (.ret (.bool true)) ∧ OldK s₁.heap s'.heap ∧ s'.os = s₁.os ∧ AllBare s'.gens) s₁ := by
  have rv := vals_ints hi
  have lenV := hi.length
  -- from an abstract heap in which nothing but the script may be tracked
  have core : ∀ H : Hp, Only H → SqL K H a (ns.map V.int) → HOk P w H s₁.heap → (∀ b, H b ≠ none → b = a) → (H a ≠ none → K.lookup a = none) →
      codeAny (model P w) callerA (.call (.ref fa) ⟨[.ref a], []⟩) (fun r s' => r = .ok (.ret (.bool true)) ∧ OldK s₁.heap s'.heap ∧ s'.os = s₁.os ∧ AllBare s'.gens) s₁ := by
    intro H hO hS hok hA hK
    have base_of : ∀ {b : Addr} {o : Obj}, s₁.heap.get? b = some o → H b = none → (hidT s₁.heap H).get? b = some o := fun e n => hidT_get e n
    have noA : ∀ {b : Addr} {o : Obj} {es : Array DictEntry} {ep : Nat}, s₁.heap.get? b = some o → o.data = .dict es ep → H b = none := fun {b o es ep} e d => by
      cases q : H b with
      | none => rfl
      | some u =>
        have e' : b = a := hA b (by rw [q]; simp)
        subst e'
        rw [ha] at e; cases e
        have d' : Data.seq vs.toArray _ = Data.dict es ep := d
        cases d'
    have nsK : ∀ {b : Addr} {m : Str → Option Value}, s₁.heap.Ns b m → (hidT s₁.heap H).Ns b m := fun {b m} ⟨o, es, ep, e, d, r⟩ => ⟨o, es, ep, base_of e (noA e d), d, r⟩
    have hKb : K.In (hidT s₁.heap H) := fun b o e => base_of (KX b o e) (by
      cases q : H b with
      | none => rfl
      | some u =>
        have e' : b = a := hA b (by rw [q]; simp)
        subst e'
        rw [hK (by rw [q]; simp)] at e; cases e)
    have hM : Mod K mg (hidT s₁.heap H) := ⟨hKb, nsK hns, ⟨mb, nsK hb, hbb⟩, let ⟨mc, h1, h2⟩ := hlim; ⟨mc, nsK h1, h2⟩⟩
    have e0 : Env0 P w K mg (hidT s₁.heap H) callerA [] s₁ H := ⟨rfl, hM, fun b o e => of_hidT e, Nat.le_of_eq (hidT_size _ _), trivial, fun b hb => absurd (show b ∈ ([] : List Addr) from hb) (by simp), hok, .of_eq hg⟩
    refine codeAny_mono ((F _ hKb (nsK hns)).run callerA [] s₁ H ⟨[.ref a], []⟩ [.ref a] [.ref a] _ _ hr e0 (hbind s₁ (.ref a)) (.cons rfl .nil) (hsp H hO hS)) fun r s' h => ?_
    cases r with
    | error e => exact (hCX H e s' h).elim
    | ok fl =>
      cases fl with
      | next => exact False.elim h
      | brk => exact False.elim h
      | cont => exact False.elim h
      | ret u =>
        obtain ⟨v, H', os, bare, un, hok', r', q⟩ := h
        have q' : v = .bl true := q
        subst q'
        obtain rfl : u = Value.bool true := r'
        refine ⟨rfl, OldK.of_keep fun b o e => ?_, os, bare⟩
        cases q : H b with
        | none => exact un.keep b o e q (by intro z; exact absurd (show b ∈ ([] : List Addr) from z) (by simp)) (by simp)
        | some u =>
          rcases hO b with z | ⟨ob, xs, z⟩
          · rw [q] at z; cases z
          · have z2 := un.frzs b ob _ z
            obtain ⟨e1, _⟩ := hok b _ z
            obtain ⟨e2, _⟩ := hok' b _ z2
            rw [e] at e1; cases e1
            exact e2
  cases hk : K.lookup a with
  | some o =>
    -- the script is one of the module's own objects
    have e := KX a o hk
    rw [ha] at e
    cases e
    refine core (fun _ => none) (fun _ => .inl rfl) (.inr ⟨_, vs.toArray, _, hk, rfl, rfl, rfl, by rw [List.size_toArray, lenV]; exact hl, by simpa using rv⟩) (fun b u z => by have z' : (none : Option HO) = some u := z; cases z') (fun b z => absurd rfl z) fun z => absurd rfl z
  | none =>
    refine core (fun b => if b = a then some (.frz { cls := .type "list", data := .seq vs.toArray } (.lst (ns.map V.int))) else none) (fun b => ?_) (.inl (.inr ⟨{ cls := .type "list", data := .seq vs.toArray }, if_pos rfl⟩)) (fun b u z => ?_) (fun b z => ?_) fun _ => hk
    · by_cases hb : b = a
      · exact .inr ⟨_, _, if_pos hb⟩
      · exact .inl (if_neg hb)
    · by_cases hb : b = a
      · have z' := (if_pos hb).symm.trans z
        cases z'
        subst hb
        exact ⟨ha, by rw [List.length_map]; exact hl, vs, _, rv, ha⟩
      · have z' := (if_neg hb).symm.trans z
        cases z'
    · by_cases hb : b = a
      · exact hb
      · exact absurd (if_neg hb) z
end L2
namespace L2
open PySem PySem.Spec PyProof.Rows
theorem walk_of {l : PySem.W.OpenLaw} {n k : Nat} {q : Program} {loose : List Str} {XP : (Str → Option Value) → Heap → Prop} {YP : World → Heap → Prop} {d : DefRec} {K : Params → PySem.W.Frag} {CX : World → CXT} {sp : World → Sp} {x : Str}
    (hn : l.most = some n) (hn2 : n ≤ sizeLine) (hdf : d.params.defaults = []) (hr : Room k callerA)
    (hY : ∀ (w : World) (h : Heap), YP w h → (K w.params).In h)
    (F : ∀ (w : World) (mg : Str → Option Value) (fa : Addr) (h : Heap), (K w.params).In h → h.Ns mainGlobals mg → mg d.name = some (.ref fa) →
      ∃ fd : FuncData, (∀ (s : Shared) (u : Value), BindsTo s fd ⟨[u], []⟩ [(x, u)]) ∧
        ∀ base : Heap, (K w.params).In base → base.Ns mainGlobals mg → FnOk l.prog w (K w.params) mg base (CX w) k fa fd [x] (sp w))
    (hsp : ∀ (w : World) (H : Hp) (a : Addr) (ns : List Int), ns.length ≤ n → Only H → SqL (K w.params) H a (ns.map V.int) → sp w [.ref a] H (fun v _ => v = .bl true) fun _ _ _ => False)
    (hCX : ∀ (w : World) (H : Hp) (s : Shared) (e : Value) (s' : Shared), CX w [] H s (fun _ _ _ => False) e s' → False) :
    PySem.W.WalkO q loose XP YP l.row.toRowW d [] (fun f vs => PySem.call f vs) := by
  refine Att.attach_call hn hdf fun w s₀ s₁ mg mb fa o pm cd doc a vs ns G Y ho hd hcd hmg hobj hints hlen hg => ?_
  have KX := hY w _ Y
  obtain ⟨fd, hb, hF⟩ := F w mg fa _ KX G.T.g hmg
  exact law_call KX G.T.g G.T.b G.T.builtins G.T.nolimit hg hobj hints (Nat.le_trans hlen hn2) hr hF hb (fun H hO hS => hsp w H a ns hlen hO hS) fun H e s' => hCX w H s₁ e s'
end L2
namespace L2
open PySem PySem.Spec PyProof.Rows
noncomputable def defArgs (s : Stmt) : Arguments := match s with
  | .FunctionDef _ a _ _ _ _ _ _ _ _ => a
  | _ => { posonlyargs := [], args := [], vararg := none, kwonlyargs := [], kw_defaults := [], kwarg := none, defaults := [] }
noncomputable def defBody (s : Stmt) : List Stmt := match s with
  | .FunctionDef _ _ b _ _ _ _ _ _ _ => b
  | _ => []
noncomputable def defScope (s : Stmt) : Scope := match s with
  | .FunctionDef _ _ _ _ _ _ sc _ _ _ => sc
  | _ => { kind := .function, names := [], isGenerator := false, isCoroutine := false }
noncomputable abbrev CX0 : CXT := fun _ _ _ _ _ _ => False
noncomputable abbrev E0 : XK := fun _ _ _ => False
theorem pass0 {X : Cx} : Passes CX0 X E0 := fun _ _ _ _ _ _ _ h => h.elim
structure Fun (K : PySem.W.Frag) (x qual : Str) (st : Stmt) (f : Addr) (fd : FuncData) : Prop where
  ex : ∃ (oc : Value) (od : Option Addr) (kV doc pm : Value) (an : Option Addr) (cdv ct : Value) (osl : Array (Option Value)),
    fd = PySem.W.fnOf x qual (defArgs st) (defBody st) (defScope st) .none kV doc pm an cdv ct ∧ K.lookup f = some ⟨oc, od, .func fd, osl⟩ ∧ PySem.W.codeIn K cdv qual = true
  kp : PySem.W.keepIn K (.ref f) = true
section
variable {P : Program} {w : World} {K : PySem.W.Frag} {mg : Str → Option Value} {base : Heap}
theorem Fun.ok {x qual : Str} {st : Stmt} {f : Addr} {fd : FuncData} {N ps : List Str} {k : Nat} {sp : Sp} (F : Fun K x qual st f fd) (S : FnScope N ps (defScope st)) (len : ∀ vs H Q E, sp vs H Q E → vs.length = ps.length)
    (hbody : ∀ (cdv : Value) (A : Around) (outer : List Env) (s : Shared) (H : Hp) (vs : List V) (Q : VK) (E : XK), Room k (A.deeper (envOfC qual (defScope st) s.heap.objs.size f cdv)) → sp vs H Q E →
      ∃ t, PSs (cxOf CX0 P w K mg base N qual (defScope st) f cdv A outer s H E).nox (defBody st) t ∧ t { nx := fun _ H' => Q .non H', rt := Q } (start N vs) H) : FnOk P w K mg base CX0 (k + 1) f fd ps sp := by
  obtain ⟨oc, od, kV, doc, pm, an, cdv, ct, osl, rfl, lk, hcd⟩ := F.ex
  refine fn_of lk hcd S len fun A outer s H vs Q E hr hsp => ?_
  obtain ⟨t, h, q⟩ := hbody cdv A outer s H vs Q E hr hsp
  exact ⟨t, h.nox, q⟩
theorem Fun.binds {x qual : Str} {st : Stmt} {f : Addr} {fd : FuncData} {ps : List Str} (F : Fun K x qual st f fd)
    (h : ∀ (kV doc pm : Value) (an : Option Addr) (cdv ct : Value) (us : List Value), us.length = ps.length → bindArgs (PySem.W.fnOf x qual (defArgs st) (defBody st) (defScope st) .none kV doc pm an cdv ct) ⟨us, []⟩ = pure (ps.zip us)) : Binds K fd ps [] := by
  obtain ⟨oc, od, kV, doc, pm, an, cdv, ct, osl, rfl, lk, hcd⟩ := F.ex
  exact .all (h kV doc pm an cdv ct)
theorem fun_mk {x qual : Str} {st : Stmt} {f : Addr} {oc : Value} {od an : Option Addr} {osl : Array (Option Value)} {kV doc pm cdv ct : Value} (l : K.lookup f = some ⟨oc, od, .func (PySem.W.fnOf x qual (defArgs st) (defBody st) (defScope st) .none kV doc pm an cdv ct), osl⟩)
    (c : PySem.W.codeIn K cdv qual = true) (k : PySem.W.keepIn K (.ref f) = true) : Fun K x qual st f (PySem.W.fnOf x qual (defArgs st) (defBody st) (defScope st) .none kV doc pm an cdv ct) := ⟨⟨oc, od, kV, doc, pm, an, cdv, ct, osl, rfl, l, c⟩, k⟩
end
theorem iteF {A B : Prop} (h : B) : if false = true then A else B := by
  rw [if_neg Bool.false_ne_true]
  exact h
theorem iteT {A B : Prop} (h : A) : if true = true then A else B := by
  rw [if_pos rfl]
  exact h
noncomputable def Same (H H' : Hp) : Prop := ∀ b o, H b = some o → H' b = some o
theorem Same.refl (H : Hp) : Same H H := fun _ _ h => h
theorem Same.trans {H H1 H2 : Hp} (a : Same H H1) (b : Same H1 H2) : Same H H2 := fun c o h => b c o (a c o h)
theorem Same.free {H H' : Hp} (e : Same H H') {l : Addr} (h : H' l = Option.none) : H l = Option.none := by
  cases q : H l with
  | none => rfl
  | some o =>
    rw [e l o q] at h
    cases h
theorem Same.seq {K : PySem.W.Frag} {H H' : Hp} {a : Addr} {xs : List V} (e : Same H H') (h : SqL K H a xs) : SqL K H' a xs := by
  rcases h with (h | ⟨o, h⟩) | h
  · exact .inl (.inl (e _ _ h))
  · exact .inl (.inr ⟨o, e _ _ h⟩)
  · exact .inr h
end L2
namespace L2
open PySem PySem.Spec PyProof.Rows
section
variable {κ : Type} [DecidableEq κ]
noncomputable def valV (kvs : List (κ × V)) (k : κ) : Option V := (kvs.find? fun kv => decide (kv.1 = k)).map (·.2)
noncomputable def putK (kvs : List (κ × V)) (k : κ) (v : V) : List (κ × V) :=
  if (kvs.any fun kv => decide (kv.1 = k)) = true then kvs.map (fun kv => if kv.1 = k then (kv.1, v) else kv) else kvs ++ [(k, v)]
noncomputable def dropK (kvs : List (κ × V)) (k : κ) : List (κ × V) := kvs.filter fun kv => decide (kv.1 ≠ k)
theorem valV_nil {k : κ} : valV ([] : List (κ × V)) k = none := rfl
theorem valV_pos {p : κ × V} {r : List (κ × V)} {k : κ} (e : p.1 = k) : valV (p :: r) k = some p.2 := by simp [valV, List.find?_cons, e]
theorem valV_neg {p : κ × V} {r : List (κ × V)} {k : κ} (e : ¬ p.1 = k) : valV (p :: r) k = valV r k := by simp [valV, List.find?_cons, e]
theorem valV_any (k : κ) : ∀ kvs : List (κ × V), (kvs.any fun kv => decide (kv.1 = k)) = (valV kvs k).isSome
  | [] => rfl
  | p :: r => by
    rw [List.any_cons]
    by_cases e : p.1 = k
    · simp only [valV_pos e, decide_eq_true e, Bool.true_or, Option.isSome_some]
    · rw [valV_neg e, decide_eq_false e, Bool.false_or]; exact valV_any k r
theorem length_putK (kvs : List (κ × V)) (k : κ) (v : V) : (putK kvs k v).length ≤ kvs.length + 1 := by
  unfold putK
  split
  · rw [List.length_map]; omega
  · rw [List.length_append, List.length_cons, List.length_nil]; omega
theorem RelO.isSome_eq {o : Option V} {u : Option Value} (r : RelO o u) : o.isSome = u.isSome := by
  cases o with
  | none => cases u with
    | none => rfl
    | some _ => exact (show False from r).elim
  | some _ => cases u with
    | none => exact (show False from r).elim
    | some _ => rfl
theorem RelO.getD {o : Option V} {u : Option Value} {d : V} {d' : Value} (r : RelO o u) (rd : RelV d d') : RelV (o.getD d) (u.getD d') := by
  cases o with
  | none => cases u with
    | none => exact rd
    | some _ => exact (show False from r).elim
  | some _ => cases u with
    | none => exact (show False from r).elim
    | some _ => exact r
theorem KV.val {kvs : List (κ × V)} {vs : List (κ × Value)} (r : KV kvs vs) (k : κ) : RelO (valV kvs k) (valueAt vs k) := by
  unfold KV at r
  induction r with
  | nil => exact True.intro
  | @cons p q ps qs h t ih =>
    obtain ⟨h1, h2⟩ := h
    by_cases e : p.1 = k
    · have e' : q.1 = k := h1.symm.trans e
      have b : valueAt (q :: qs) k = some q.2 := by simp [valueAt, List.find?_cons, e']
      rw [valV_pos e, b]; exact h2
    · have e' : ¬ q.1 = k := fun z => e (h1.trans z)
      have b : valueAt (q :: qs) k = valueAt qs k := by simp [valueAt, List.find?_cons, e']
      rw [valV_neg e, b]; exact ih
theorem KV.any {kvs : List (κ × V)} {vs : List (κ × Value)} (r : KV kvs vs) (k : κ) : (kvs.any fun kv => decide (kv.1 = k)) = vs.any fun kv => decide (kv.1 = k) := by
  unfold KV at r
  induction r with
  | nil => rfl
  | cons h t ih => rw [List.any_cons, List.any_cons, ih, h.1]
theorem KV.repl {kvs : List (κ × V)} {vs : List (κ × Value)} (r : KV kvs vs) (k : κ) {y : V} {u : Value} (ry : RelV y u) :
    KV (kvs.map fun kv => if kv.1 = k then (kv.1, y) else kv) (vs.map fun kv => if kv.1 = k then (kv.1, u) else kv) := by
  unfold KV at r ⊢
  induction r with
  | nil => exact .nil
  | @cons p q ps qs h t ih =>
    rw [List.map_cons, List.map_cons]
    refine .cons ?_ ih
    obtain ⟨h1, h2⟩ := h
    by_cases e : p.1 = k
    · rw [if_pos e, if_pos (h1.symm.trans e)]; exact ⟨h1, ry⟩
    · rw [if_neg e, if_neg (fun z => e (h1.trans z))]; exact ⟨h1, h2⟩
theorem KV.put {kvs : List (κ × V)} {vs : List (κ × Value)} (r : KV kvs vs) (k : κ) {y : V} {u : Value} (ry : RelV y u) : KV (putK kvs k y) (stored vs k u) := by
  unfold putK stored
  rw [r.any k]
  by_cases e : (vs.any fun kv => decide (kv.1 = k)) = true
  · rw [if_pos e, if_pos e]; exact r.repl k ry
  · rw [if_neg e, if_neg e]; exact Paired.snoc r ⟨rfl, ry⟩
theorem KV.drop {kvs : List (κ × V)} {vs : List (κ × Value)} (r : KV kvs vs) (k : κ) : KV (dropK kvs k) (without vs k) := by
  unfold KV at r ⊢
  unfold dropK without
  induction r with
  | nil => exact .nil
  | @cons p q ps qs h t ih =>
    obtain ⟨h1, h2⟩ := h
    rw [List.filter_cons, List.filter_cons]
    by_cases e : p.1 = k
    · have a : ¬ decide (p.1 ≠ k) = true := by simp [e]
      have b : ¬ decide (q.1 ≠ k) = true := by simp [h1.symm.trans e]
      rw [if_neg a, if_neg b]; exact ih
    · have e' : ¬ q.1 = k := fun z => e (h1.trans z)
      have a : decide (p.1 ≠ k) = true := by simp [e]
      have b : decide (q.1 ≠ k) = true := by simp [e']
      rw [if_pos a, if_pos b]; exact .cons ⟨h1, h2⟩ ih
theorem KV.keys {kvs : List (κ × V)} {vs : List (κ × Value)} (r : KV kvs vs) : kvs.map (·.1) = vs.map (·.1) := by
  unfold KV at r
  induction r with
  | nil => rfl
  | cons h t ih => rw [List.map_cons, List.map_cons, ih, h.1]
theorem KV.length {kvs : List (κ × V)} {vs : List (κ × Value)} (r : KV kvs vs) : kvs.length = vs.length := Paired.length r
end
theorem kV_is {P : Program} {w : World} {k : Key} {u : Value} (r : RelV (kV k) u) : (mixKind P w).is k u = true := by
  cases k with
  | inl i => obtain ⟨t, e⟩ := (show ∃ t, u = Value.int i t from r); subst e; exact mixKind_int P w i t
  | inr x => obtain ⟨t, e⟩ := (show ∃ t, u = Value.str x t from r); subst e; exact mixKind_str P w x t
theorem items_are {P : Program} {w : World} : ∀ {ks : List Key} {us : List Value}, Vals (ks.map kV) us → ItemsAre (mixKind P w) ks us
  | [], _, r => by rw [List.map_nil] at r; cases r; exact .nil
  | k :: ks, _, r => by
    rw [List.map_cons] at r
    cases r with
    | cons h t => exact .cons (kV_is h) (items_are t)
noncomputable abbrev KT (H : Hp) : List (List Key × V) → List (List Key × Addr × Value) → Prop := Paired fun p q => p.1 = q.1 ∧ H q.2.1 = some (.tup (p.1.map kV)) ∧ RelV p.2 q.2.2
theorem KT.val {H : Hp} {kvs : List (List Key × V)} {xs : List (List Key × Addr × Value)} (r : KT H kvs xs) (k : List Key) : RelO (valV kvs k) ((atKey xs k).map (·.2)) := by
  induction r with
  | nil => exact True.intro
  | @cons p q ps qs h t ih =>
    obtain ⟨h1, _, h2⟩ := h
    by_cases e : p.1 = k
    · have e' : q.1 = k := h1.symm.trans e
      have b : atKey (q :: qs) k = some q.2 := by simp [atKey, List.find?_cons, e']
      rw [valV_pos e, b]; exact h2
    · have e' : ¬ q.1 = k := fun z => e (h1.trans z)
      have b : atKey (q :: qs) k = atKey qs k := by simp [atKey, List.find?_cons, e']
      rw [valV_neg e, b]; exact ih
theorem KT.repl {H : Hp} {kvs : List (List Key × V)} {xs : List (List Key × Addr × Value)} (r : KT H kvs xs) (k : List Key) {y : V} {u : Value} (ry : RelV y u) :
    KT H (kvs.map fun kv => if kv.1 = k then (kv.1, y) else kv) (xs.map (putAt k u)) := by
  induction r with
  | nil => exact .nil
  | @cons p q ps qs h t ih =>
    rw [List.map_cons, List.map_cons]
    refine .cons ?_ ih
    obtain ⟨h1, h2, h3⟩ := h
    unfold putAt
    by_cases e : p.1 = k
    · rw [if_pos e, if_pos (h1.symm.trans e)]; exact ⟨h1, h2, ry⟩
    · rw [if_neg e, if_neg (fun z => e (h1.trans z))]; exact ⟨h1, h2, h3⟩
theorem KT.put {H : Hp} {kvs : List (List Key × V)} {xs : List (List Key × Addr × Value)} (r : KT H kvs xs) (k : List Key) {b : Addr} {y : V} {u : Value} (hb : H b = some (.tup (k.map kV))) (ry : RelV y u) :
    KT H (putK kvs k y) (storedH xs k b u) := by
  have e : (kvs.any fun kv => decide (kv.1 = k)) = (atKey xs k).isSome := by
    rw [valV_any, (r.val k).isSome_eq, Option.isSome_map]
  unfold putK storedH
  rw [e]
  by_cases q : (atKey xs k).isSome = true
  · rw [if_pos q, if_pos q]; exact r.repl k ry
  · rw [if_neg q, if_neg q]; exact Paired.snoc r ⟨rfl, hb, ry⟩
theorem KT.keeps {H H' : Hp} {kvs : List (List Key × V)} {xs : List (List Key × Addr × Value)} (r : KT H kvs xs) (ht : ∀ b ys, H b = some (.tup ys) → H' b = some (.tup ys)) : KT H' kvs xs :=
  Paired.mapP r fun _ _ z => ⟨z.1, ht _ _ z.2.1, z.2.2⟩
section
variable {P : Program} {w : World} {H : Hp} {h : Heap} {a : Addr}
theorem rd_of {u : HO} (ok : HOk P w H h) (e : Rd H a u) : ObjOk P w H h a u := e.ok ok
theorem dk_rd {kvs : List (Key × V)} (ok : HOk P w H h) (e : Rd H a (.dK kvs)) : kvs.length ≤ sizeLine ∧ (a == sysModules) = false ∧ ∃ vs, KV kvs vs ∧ h.DictOf (mixKind P w) a vs :=
  show ObjOk P w H h a (.dK kvs) from rd_of ok e
theorem dk_of {kvs : List (Key × V)} (ok : HOk P w H h) (e : H a = some (.dK kvs)) : kvs.length ≤ sizeLine ∧ (a == sysModules) = false ∧ ∃ vs, KV kvs vs ∧ h.DictOf (mixKind P w) a vs := dk_rd ok (.inl e)
theorem key_of {ks : List Key} (ok : HOk P w H h) (e : H a = some (.tup (ks.map kV))) : (tupleKind (mixKind P w)).is h ks a := by
  obtain ⟨_, its, r, o, h1, h2, n, h3⟩ := (show ObjOk P w H h a (.tup (ks.map kV)) from ok a _ e)
  exact ⟨o, its.toArray, n, h1, h2, h3, by simpa using items_are r⟩
theorem dt_rd {kvs : List (List Key × V)} (ok : HOk P w H h) (e : Rd H a (.dT kvs)) : kvs.length ≤ sizeLine ∧ (a == sysModules) = false ∧
    ∃ xs, KT H kvs xs ∧ h.DictOfH (tupleKind (mixKind P w)) a xs := by
  obtain ⟨z, y, xs, r, o, es, ep, h1, h2, h3, h4, h5⟩ := (show ObjOk P w H h a (.dT kvs) from rd_of ok e)
  refine ⟨z, y, xs, r, o, es, ep, h1, h2, h3, h4, fun x hx => ?_, h5⟩
  have all : ∀ {l : List (List Key × V)} {m : List (List Key × Addr × Value)}, KT H l m → ∀ x ∈ m, (tupleKind (mixKind P w)).is h x.1 x.2.1 := by
    intro l m q
    induction q with
    | nil => intro x hx; exact nomatch hx
    | @cons p q ps qs hq t ih =>
      intro x hx
      rcases List.mem_cons.mp hx with e | hx
      · subst e
        exact key_of ok (by rw [← hq.1]; exact hq.2.1)
      · exact ih x hx
  exact all r x hx
theorem dt_of {kvs : List (List Key × V)} (ok : HOk P w H h) (e : H a = some (.dT kvs)) : kvs.length ≤ sizeLine ∧ (a == sysModules) = false ∧
    ∃ xs, KT H kvs xs ∧ h.DictOfH (tupleKind (mixKind P w)) a xs := dt_rd ok (.inl e)
end
noncomputable def DGet (H : Hp) (a : Addr) (y : V) (r : Option V) : Prop :=
  (∃ kvs k, Rd H a (.dK kvs) ∧ y = kV k ∧ r = valV kvs k) ∨ ∃ kvs k b, Rd H a (.dT kvs) ∧ y = .ref b ∧ H b = some (.tup (k.map kV)) ∧ r = valV kvs k
noncomputable def DPut (H : Hp) (a : Addr) (y v : V) (H' : Hp) : Prop :=
  (∃ kvs k, H a = some (.dK kvs) ∧ y = kV k ∧ kvs.length < sizeLine ∧ H' = upd H a (.dK (putK kvs k v))) ∨
  ∃ kvs k b, H a = some (.dT kvs) ∧ y = .ref b ∧ H b = some (.tup (k.map kV)) ∧ kvs.length < sizeLine ∧ H' = upd H a (.dT (putK kvs k v))
theorem DGet.k {H : Hp} {a : Addr} {kvs : List (Key × V)} {k : Key} (e : H a = some (.dK kvs)) : DGet H a (kV k) (valV kvs k) := .inl ⟨kvs, k, .inl e, rfl, rfl⟩
theorem DGet.t {H : Hp} {a b : Addr} {kvs : List (List Key × V)} {k : List Key} (e : H a = some (.dT kvs)) (eb : H b = some (.tup (k.map kV))) : DGet H a (.ref b) (valV kvs k) := .inr ⟨kvs, k, b, .inl e, rfl, eb, rfl⟩
theorem DPut.k {H : Hp} {a : Addr} {kvs : List (Key × V)} {k : Key} {v : V} (e : H a = some (.dK kvs)) (hl : kvs.length < sizeLine) : DPut H a (kV k) v (upd H a (.dK (putK kvs k v))) := .inl ⟨kvs, k, e, rfl, hl, rfl⟩
theorem DPut.t {H : Hp} {a b : Addr} {kvs : List (List Key × V)} {k : List Key} {v : V} (e : H a = some (.dT kvs)) (eb : H b = some (.tup (k.map kV))) (hl : kvs.length < sizeLine) :
    DPut H a (.ref b) v (upd H a (.dT (putK kvs k v))) := .inr ⟨kvs, k, b, e, rfl, eb, hl, rfl⟩
section
variable {X : Cx} {pins : List (Addr × Obj)} {σ : St} {H : Hp} {s : Shared} {a : Addr} {y v : V} {u r : Value} {o : Option V} {A : Around} {E : Value → Shared → Prop}
theorem Inv.big (I : Inv X pins σ H s) : sysModules < s.heap.objs.size := by
  have h : mainGlobals < s.heap.objs.size := (I.mod.glob.keeps I.bk).lt
  exact Nat.lt_trans (by decide) h
theorem d_getItem {Q : Value → Shared → Prop} (hu : A.units + 1 < cLine) (I : Inv X pins σ H s) (g : DGet H a y (some v)) (ry : RelV y u) (h : ∀ w' s', Inv X pins σ H s' → RelV v w' → Q w' s') :
    wpAny (model X.prog X.w) A (getItem (.ref a) u) Q E s := by
  rcases g with ⟨kvs, k, e, ey, l⟩ | ⟨kvs, k, b, e, ey, eb, l⟩
  · subst ey
    obtain ⟨z, hd, vs, rel, dd⟩ := dk_rd I.hok e
    obtain ⟨w', hw, rw'⟩ := RelO.some_of (v := v) (o := valueAt vs k) (by rw [l]; exact rel.val k)
    exact wpAny_getItem_of (kV_is ry) dd.mapOf hw (h w' _ (I.tok _) rw')
  · subst ey
    cases (show u = Value.ref b from ry)
    obtain ⟨z, hd, xs, rel, dd⟩ := dt_rd I.hok e
    obtain ⟨w', hw, rw'⟩ := RelO.some_of (v := v) (o := (atKey xs k).map (·.2)) (by rw [l]; exact rel.val k)
    obtain ⟨p, hp, hp2⟩ := Option.map_eq_some_iff.mp hw
    refine wpAny_getItem_heap (tupleKind_room_in1 hu) (key_of I.hok eb) dd hp ?_
    rw [hp2]
    exact h w' _ (I.tok _) rw'
theorem d_notIn {Q : Value → Shared → Prop} (hu : A.units + 1 < cLine) (I : Inv X pins σ H s) (g : DGet H a y o) (ry : RelV y u) (h : ∀ s', Inv X pins σ H s' → Q (.bool (!o.isSome)) s') :
    wpAny (model X.prog X.w) A (compareOp .NotIn u (.ref a)) Q E s := by
  rcases g with ⟨kvs, k, e, ey, l⟩ | ⟨kvs, k, b, e, ey, eb, l⟩
  · subst ey
    obtain ⟨z, hd, vs, rel, dd⟩ := dk_rd I.hok e
    refine wpAny_notIn_of (kV_is ry) hd dd.mapOf ?_
    rw [← (rel.val k).isSome_eq, ← l]
    exact h _ (I.tok _)
  · subst ey
    cases (show u = Value.ref b from ry)
    obtain ⟨z, hd, xs, rel, dd⟩ := dt_rd I.hok e
    refine wpAny_notIn_heap (tupleKind_room_in1 hu) (key_of I.hok eb) hd dd ?_
    have q := (rel.val k).isSome_eq
    rw [Option.isSome_map] at q
    rw [← q, ← l]
    exact h _ (I.tok _)
theorem d_write {h' : Heap} {t' : Nat} {ob : HO} (I : Inv X pins σ H s) (mu : Mut (H a)) (hs : Heap.SameBut a s.heap h') (he : ∃ q, h'.get? a = some q) (new : ObjOk X.prog X.w (upd H a ob) h' a ob) :
    Inv X pins σ (upd H a ob) { s with heap := h', toks := t' } :=
  I.write (x := a) (e := a) mu (.inl rfl) (fun b q hb z => (hs.2 b hb).trans z) he new
theorem dk_new {P : Program} {w : World} {H' : Hp} {h' : Heap} {kvs : List (Key × V)} {vs : List (Key × Value)} (z : kvs.length ≤ sizeLine) (hd : (a == sysModules) = false) (rel : KV kvs vs) (dd : h'.DictOf (mixKind P w) a vs) :
    ObjOk P w H' h' a (.dK kvs) := ⟨z, hd, vs, rel, dd⟩
theorem d_setItem {H' : Hp} {Q : Unit → Shared → Prop} (hu : A.units + 1 < cLine) (I : Inv X pins σ H s) (g : DPut H a y v H') (ry : RelV y u) (rv : RelV v r) (h : ∀ s', Inv X pins σ H' s' → Q () s') :
    wpAny (model X.prog X.w) A (setItem (.ref a) u r) Q E s := by
  rcases g with ⟨kvs, k, e, ey, l, eH⟩ | ⟨kvs, k, b, e, ey, eb, l, eH⟩
  · subst ey eH
    obtain ⟨z, hd, vs, rel, dd⟩ := dk_of I.hok e
    have hz : vs.length ≤ sizeLine := by rw [← rel.length]; exact z
    have hl : (putK kvs k v).length ≤ sizeLine := by have := length_putK kvs k v; omega
    refine wpAny_setItem_pairs (hsz := hz) (kV_is ry) dd fun h' dd' hs => h _ ?_
    have he : ∃ q, h'.get? a = some q := let ⟨q, _, _, hq, _⟩ := dd'; ⟨q, hq⟩
    exact d_write I (by rw [e]; exact True.intro) hs he (dk_new hl hd (rel.put k rv) dd')
  · subst ey eH
    cases (show u = Value.ref b from ry)
    obtain ⟨z, hd, xs, rel, dd⟩ := dt_of I.hok e
    have hz : xs.length ≤ sizeLine := by rw [← Paired.length rel]; exact z
    have hl : (putK kvs k v).length ≤ sizeLine := by have := length_putK kvs k v; omega
    refine wpAny_setItem_heap (hsz := hz) (tupleKind_room_in1 hu) (key_of I.hok eb) dd fun h' dd' hs => h _ ?_
    obtain ⟨q, es, ep, hq, h2, h3, h4, _, h5⟩ := dd'
    refine d_write I (by rw [e]; exact True.intro) hs ⟨q, hq⟩ ⟨hl, hd, _, (rel.put k eb rv).keeps fun c ys ec => ?_, q, es, ep, hq, h2, h3, h4, h5⟩
    rw [upd_ne (ne_of ec e (fun z => nomatch z))]
    exact ec
end
noncomputable def NoSl (i : Expr) : Prop := ∀ ov iv, subscripted i false ov iv = operate [ov, iv] (getItem ov iv)
theorem subD_of {prog : Program} {w : World} {A : Around} {E : Value → Shared → Prop} {s : Shared} {env : Env} {value slice : Expr} {pos : Pos} {T id : String} {Q : Value → Shared → Prop}
    (hl : typeLookup (.type T) "__getitem__" = pure (some (.builtin id))) (hs : NoSl slice)
    (h : wpAny (model prog w) A (eval value env) (fun o s₁ => wpAny (model prog w) A (eval slice env) (fun i s₂ => s₂.TypeIs o T ∧ wpAny (model prog w) A (getItem o i) Q E s₂) E s₁) E s) :
    wpAny (model prog w) A (eval (.Subscript value slice pos) env) Q E s := by
  refine Subscript_ (wpAny_mono h (fun o s₁ h₁ => wpAny_mono h₁ (fun i s₂ h₂ => ?_) fun _ _ x => x) fun _ _ x => x)
  obtain ⟨hT, h₂⟩ := h₂
  unfold subscriptTail
  refine wpAny_bind ?_
  rw [getitemInPython_of_ne hT.not_modules]
  refine wpAny_bind (wpAny_specialOf hT hl ?_)
  have fin : wpAny (model prog w) A (subscripted slice false o i) (fun r s₃ => wpAny (model prog w) A (letTemporaryGo value o r >>= fun _ => pure r) Q E s₃) E s₂ := by
    rw [hs o i]
    exact wpAny_operating (wpAny_mono h₂ (fun r s₃ h₃ => wpAny_bind (wpAny_letTemporaryGo (wpAny_pure h₃))) fun _ _ x => x)
  first
    | exact wpAny_pure (wpAny_bind fin)
    | exact wpAny_bind (wpAny_pure (wpAny_bind fin))
    | exact wpAny_bind fin
theorem dict_typeIs {X : Cx} {pins : List (Addr × Obj)} {σ : St} {H : Hp} {s : Shared} {a : Addr} {y : V} {o : Option V} (I : Inv X pins σ H s) (g : DGet H a y o) : s.TypeIs (.ref a) "dict" := by
  rcases g with ⟨kvs, k, e, _, _⟩ | ⟨kvs, k, b, e, _, _, _⟩
  · obtain ⟨_, _, vs, _, dd⟩ := dk_rd I.hok e
    exact dd.typeIs
  · obtain ⟨_, _, xs, _, dd⟩ := dt_rd I.hok e
    exact dd.typeIs
noncomputable def tDGet (td ty : TE) : TE := fun σ H Q => td σ H fun x H1 => ty σ H1 fun y H2 => ∃ a v, x = .ref a ∧ DGet H2 a y (some v) ∧ Q v H2
noncomputable def tDNotIn (ty td : TE) : TE := fun σ H Q => ty σ H fun y H1 => td σ H1 fun x H2 => ∃ a o, x = .ref a ∧ DGet H2 a y o ∧ Q (.bl (!o.isSome)) H2
noncomputable def sDPut (td ty tv : TE) : TS := fun D σ H => tv σ H fun v H1 => td σ H1 fun x H2 => ty σ H2 fun y H3 => ∃ a H4, x = .ref a ∧ DPut H3 a y v H4 ∧ D.nx σ H4
section
variable {X : Cx} {o i e value : Expr} {pos pos' tpos : Pos} {td ty tv : TE}
theorem pe_dget (hu : X.A.units + 1 < cLine) (ho : PE X o td) (hi : PE X i ty) (hs : NoSl i) : PE X (.Subscript o i pos) (tDGet td ty) := by
  intro pins s σ H Q I h
  refine subD_of PySem.F.slot_dict_getitem.lookup hs (thn (ho pins s σ H _ I h) fun u s1 ⟨x, H1, I1, rx, q1⟩ => thn (hi pins s1 σ H1 _ I1 q1) fun iv s2 ⟨y, H2, I2, ry, a, v, ex, g, q2⟩ => ?_)
  subst ex
  obtain rfl : u = Value.ref a := rx
  exact ⟨dict_typeIs I2 g, d_getItem hu I2 g ry fun w' s3 I3 rw' => ⟨v, H2, I3, rw', q2⟩⟩
theorem pc_dnotin (hu : X.A.units + 1 < cLine) (hi : PE X i ty) (ho : PE X o td) : PC X .NotIn i o (tDNotIn ty td) := by
  intro pins s σ H Q I h
  refine thn (hi pins s σ H _ I h) fun iv s1 ⟨y, H1, I1, ry, q1⟩ => thn (ho pins s1 σ H1 _ I1 q1) fun u s2 ⟨x, H2, I2, rx, a, ov, ex, g, q2⟩ => ?_
  subst ex
  obtain rfl : u = Value.ref a := rx
  exact d_notIn hu I2 g ry fun s3 I3 => ⟨.bl (!ov.isSome), H2, I3, rfl, q2⟩
theorem ps_dput (hu : X.A.units + 1 < cLine) (ho : PE X o td) (hi : PE X i ty) (hv : PE X value tv) (hs : swapsWith value (some (.Subscript o i pos')) pos.line X.env = pure false) :
    PS X (.Assign [.Subscript o i pos'] value pos) (sDPut td ty tv) := by
  intro pins s σ H D I h
  refine wpAny_Assign_Subscript (thn (hv pins s σ H _ I h) fun r s1 ⟨v, H1, I1, rv, q1⟩ => thn (ho pins s1 σ H1 _ I1 q1) fun u s2 ⟨x, H2, I2, rx, q2⟩ => thn (hi pins s2 σ H2 _ I2 q2) fun iv s3 ⟨y, H3, I3, ry, a, H4, ex, g, q3⟩ => ?_) hs
  subst ex
  obtain rfl : u = Value.ref a := rx
  exact d_setItem hu I3 g ry rv fun s4 I4 => ⟨σ, H4, I4, q3⟩
end
theorem dk_empty {P : Program} {w : World} {H : Hp} (h : Heap) (hb : sysModules < h.objs.size) : ObjOk P w H (h.push { cls := .type "dict", data := .dict #[] }) h.objs.size (.dK []) :=
  ⟨Nat.zero_le _, beq_eq_false_iff_ne.mpr (Ne.symm (Nat.ne_of_lt hb)), [], .nil, Heap.DictOf.new h⟩
noncomputable def tDNewK (K : PySem.W.Frag) : TE := fun _ H Q => ∀ p, H p = none → K.lookup p = none → Q (.ref p) (upd H p (.dK []))
section
variable {X : Cx} {pos : Pos}
theorem pe_dnewK : PE X (.Dict [] [] pos) (tDNewK X.K) := fun pins s σ H Q I h =>
  wpAny_Dict_empty ⟨.ref s.heap.objs.size, _, I.laid (a := s.heap.objs.size) (o := .dK []) (t' := s.toks) (fun _ _ q => Heap.get?_push_of_some _ q) (Nat.le_refl _) (dk_empty s.heap I.big), rfl, h _ (I.hok.fresh (Nat.le_refl _)) (by cases e : X.K.lookup s.heap.objs.size with | none => rfl | some o => exact absurd (Heap.lt_size (I.kIn _ o e)) (Nat.lt_irrefl _))⟩
end
noncomputable def tPairs : List (TE × TE) → St → Hp → (List (V × V) → Hp → Prop) → Prop
  | [], _, H, Q => Q [] H
  | (tk, tv) :: r, σ, H, Q => tk σ H fun x H1 => tv σ H1 fun y H2 => tPairs r σ H2 fun ps H3 => Q ((x, y) :: ps) H3
noncomputable abbrev VV : List (V × V) → List (Value × Value) → Prop := Paired fun p q => RelV p.1 q.1 ∧ RelV p.2 q.2
noncomputable def PPs (X : Cx) (pos : Pos) (keys : List (Option Expr)) (values : List Expr) (trs : List (TE × TE)) : Prop :=
  ∀ (pins : List (Addr × Obj)) (s : Shared) (σ : St) (H : Hp) (Q : List (V × V) → Hp → Prop), Inv X pins σ H s → tPairs trs σ H Q →
    wpAny (model X.prog X.w) X.A (evalPairs (pairTrees keys values X.env pos)) (fun vs s' => ∃ ps H', Inv X pins σ H' s' ∧ VV ps vs ∧ Q ps H') X.xe s
theorem pps_nil {X : Cx} {pos : Pos} : PPs X pos [] [] [] := fun pins s σ H Q I h => pairTrees_nil_walk ⟨[], H, I, .nil, h⟩
theorem pps_cons {X : Cx} {pos : Pos} {k v : Expr} {ks : List (Option Expr)} {vs : List Expr} {tk tv : TE} {trs : List (TE × TE)} (hk : PE X k tk) (hv : PE X v tv) (hr : PPs X pos ks vs trs) :
    PPs X pos (some k :: ks) (v :: vs) ((tk, tv) :: trs) := fun pins s σ H Q I h =>
  pairTrees_cons_walk (thn (hk pins s σ H _ I h) fun u s1 ⟨x, H1, I1, rx, q1⟩ => thn (hv pins s1 σ H1 _ I1 q1) fun w2 s2 ⟨y, H2, I2, ry, q2⟩ =>
    thn (hr pins s2 σ H2 _ I2 q2) fun ws s3 ⟨ps, H3, I3, rel, q3⟩ => ⟨(x, y) :: ps, H3, I3, .cons ⟨rx, ry⟩ rel, q3⟩)
noncomputable def mergeK (kvs more : List (Key × V)) : List (Key × V) := more.foldl (fun acc kv => putK acc kv.1 kv.2) kvs
theorem KV.merge : ∀ {more : List (Key × V)} {rs : List (Key × Value)} {kvs : List (Key × V)} {vs : List (Key × Value)}, KV more rs → KV kvs vs → KV (mergeK kvs more) (merged vs rs) := by
  intro more rs kvs vs r
  unfold KV at r
  induction r generalizing kvs vs with
  | nil => intro q; exact q
  | @cons p q ps qs h t ih =>
    intro r0
    have e : KV (putK kvs p.1 p.2) (stored vs q.1 q.2) := by
      have := r0.put p.1 h.2
      rw [← h.1]; exact this
    exact ih e
theorem length_mergeK : ∀ (more kvs : List (Key × V)), (mergeK kvs more).length ≤ kvs.length + more.length
  | [], kvs => by show kvs.length ≤ kvs.length + 0; omega
  | p :: r, kvs => by
    have h1 := length_mergeK r (putK kvs p.1 p.2)
    have h2 := length_putK kvs p.1 p.2
    show (mergeK (putK kvs p.1 p.2) r).length ≤ _
    rw [List.length_cons]; omega
theorem carries_of {P : Program} {w : World} : ∀ {kvs : List (Key × V)} {ws : List (Value × Value)}, VV (kvs.map fun kv => (kV kv.1, kv.2)) ws → ∃ rs, Carries (mixKind P w) ws rs ∧ KV kvs rs
  | [], _, r => by rw [List.map_nil] at r; cases r; exact ⟨[], True.intro, .nil⟩
  | p :: kvs, _, r => by
    rw [List.map_cons] at r
    cases r with
    | @cons a b as bs h t =>
      obtain ⟨rs, c, q⟩ := carries_of (P := P) (w := w) t
      obtain ⟨b1, b2⟩ := b
      exact ⟨(p.1, b2) :: rs, ⟨kV_is h.1, rfl, c⟩, .cons ⟨rfl, h.2⟩ q⟩
noncomputable def tDisp (K : PySem.W.Frag) (trs : List (TE × TE)) : TE := fun σ H Q => ∀ p, H p = none → K.lookup p = none → tPairs trs σ (upd H p (.dK [])) fun ps H2 => H2 p = some (.dK []) ∧ ∃ kvs : List (Key × V), ps = kvs.map (fun kv => (kV kv.1, kv.2)) ∧ kvs.length ≤ 15 ∧ Q (.ref p) (upd H2 p (.dK (mergeK [] kvs)))
theorem pe_disp {X : Cx} {pos : Pos} {keys : List (Option Expr)} {values : List Expr} {trs : List (TE × TE)} (h : PPs X pos keys values trs) (hall : keys.all (·.isSome) = true) (hl : keys.length = values.length) (h0 : keys ≠ [])
    (h15 : keys.length ≤ 15) : PE X (.Dict keys values pos) (tDisp X.K trs) := by
  intro pins s σ H Q I q
  have hn := I.hok.fresh (Nat.le_refl s.heap.objs.size)
  have I1 := I.laid (a := s.heap.objs.size) (o := .dK []) (h' := s.heap.push { cls := .type "dict", data := .dict #[] }) (t' := s.toks) (fun _ _ q => Heap.get?_push_of_some _ q) (Nat.le_refl _) (dk_empty s.heap I.big)
  refine wpAny_Dict_walk (knd := mixKind X.prog X.w) hall hl h0 h15 (thn (h pins _ σ _ _ I1 (q _ hn (by cases e : X.K.lookup s.heap.objs.size with | none => rfl | some o => exact absurd (Heap.lt_size (I.kIn _ o e)) (Nat.lt_irrefl _)))) fun ws s2 ⟨ps, H2, I2, rel, e, kvs, ep, lk, q2⟩ => ?_)
  subst ep
  obtain ⟨rs, c, rk⟩ := carries_of (P := X.prog) (w := X.w) rel
  obtain ⟨z, hd, vs0, r0, dd⟩ := dk_of I2.hok e
  cases r0
  refine ⟨rs, c, dd, fun h' dd' hs => ⟨.ref s.heap.objs.size, _, ?_, rfl, q2⟩⟩
  have hz : (mergeK [] kvs).length ≤ sizeLine := by
    have h1 := length_mergeK kvs []
    rw [List.length_nil] at h1
    rw [sizeLine_eq]; omega
  have he : ∃ q, h'.get? s.heap.objs.size = some q := let ⟨q, _, _, hq, _⟩ := dd'; ⟨q, hq⟩
  exact d_write I2 (by rw [e]; exact True.intro) hs he (dk_new hz hd (rk.merge .nil) dd')
noncomputable def IsD (H : Hp) (a : Addr) : Prop := (∃ kvs, Rd H a (.dK kvs)) ∨ ∃ kvs, Rd H a (.dT kvs)
end L2
set_option maxHeartbeats 4000000
namespace L2
open PySem PySem.Spec PyProof.Rows
noncomputable def clGo (cells : List (Str × Addr)) : List (Str × NameKind) → List (Str × Addr) → List (Str × Addr)
  | [], acc => acc
  | (n, k) :: r, acc => clGo cells r (if k = .free then (n, (cells.lookup n).getD 0) :: acc else acc)
theorem forIn_cl {env : Env} {f : (Str × NameKind) → List (Str × Addr) → Sem (ForInStep (List (Str × Addr)))}
    (h1 : ∀ n k acc, k ≠ .free → f (n, k) acc = pure (.yield acc)) (h2 : ∀ n acc c, env.cells.lookup n = some c → f (n, .free) acc = pure (.yield ((n, c) :: acc))) :
    ∀ (names : List (Str × NameKind)) (acc : List (Str × Addr)), (∀ x ∈ names, x.2 = .free → ∃ c, env.cells.lookup x.1 = some c) → forIn names acc f = (pure (clGo env.cells names acc) : Sem (List (Str × Addr)))
  | [], acc, _ => by simp [clGo]
  | (n, k) :: r, acc, h => by
    rw [List.forIn_cons]
    by_cases hk : k = .free
    · subst hk
      obtain ⟨c, hc⟩ := h (n, .free) List.mem_cons_self rfl
      rw [h2 n acc c hc, pure_bind]
      show forIn r ((n, c) :: acc) f = _
      rw [forIn_cl h1 h2 r ((n, c) :: acc) fun x hx => h x (List.mem_cons_of_mem _ hx)]
      show _ = pure (clGo env.cells r (if NameKind.free = .free then (n, (env.cells.lookup n).getD 0) :: acc else acc))
      rw [if_pos rfl, hc]
      rfl
    · rw [h1 n k acc hk, pure_bind]
      show forIn r acc f = _
      rw [forIn_cl h1 h2 r acc fun x hx => h x (List.mem_cons_of_mem _ hx)]
      show _ = pure (clGo env.cells r (if k = .free then (n, (env.cells.lookup n).getD 0) :: acc else acc))
      rw [if_neg hk]
theorem clos_eq {env : Env} {sc : Scope} (h : ∀ x ∈ sc.names, x.2 = .free → ∃ c, env.cells.lookup x.1 = some c) : closureFor sc env = pure (clGo env.cells sc.names []) := by
  simp only [closureFor]
  rw [forIn_cl (env := env) ?h1 ?h2 sc.names [] h, pure_bind]
  case h1 =>
    intro n k acc hk
    have : (k == NameKind.free) = false := by simpa using hk
    simp only [this, Bool.false_eq_true, if_false]
  case h2 =>
    intro n acc c hc
    simp only [beq_self_eq_true, if_true, cellOf, hc]
    rfl
theorem clGo_sub {cells : List (Str × Addr)} {x : Str} {c : Addr} : ∀ (names : List (Str × NameKind)) (acc : List (Str × Addr)), (∀ y ∈ names, y.2 = .free → ∃ c, cells.lookup y.1 = some c) → (clGo cells names acc).lookup x = some c → acc.lookup x = some c ∨ cells.lookup x = some c
  | [], acc, _, h => .inl h
  | (n, k) :: r, acc, hf, h => by
    rcases clGo_sub r _ (fun y hy => hf y (List.mem_cons_of_mem _ hy)) h with h | h
    · by_cases hk : k = .free
      · rw [if_pos hk] at h
        obtain ⟨c', hc'⟩ := hf (n, k) List.mem_cons_self hk
        have hc2 : cells.lookup n = some c' := hc'
        rw [hc2] at h
        by_cases e : x = n
        · subst e
          simp at h
          subst h
          exact .inr hc2
        · have : (x == n) = false := by simpa using e
          rw [List.lookup_cons, this] at h
          exact .inl h
      · rw [if_neg hk] at h
        exact .inl h
    · exact .inr h
theorem clGo_some {cells : List (Str × Addr)} {x : Str} : ∀ (names : List (Str × NameKind)) (acc : List (Str × Addr)), ((∃ c, acc.lookup x = some c) ∨ (x, NameKind.free) ∈ names) → ∃ c, (clGo cells names acc).lookup x = some c
  | [], acc, h => by
    rcases h with h | h
    · exact h
    · cases h
  | (n, k) :: r, acc, h => by
    refine clGo_some r _ ?_
    rcases h with ⟨c, h⟩ | h
    · refine .inl ?_
      by_cases hk : k = .free
      · rw [if_pos hk, List.lookup_cons]
        by_cases e : (x == n) = true
        · rw [e]; exact ⟨_, rfl⟩
        · have e' : (x == n) = false := by simpa using e
          rw [e']; exact ⟨c, h⟩
      · rw [if_neg hk]; exact ⟨c, h⟩
    · rcases List.mem_cons.mp h with e | h
      · injection e with e1 e2
        subst e1; subst e2
        refine .inl ?_
        rw [if_pos rfl, List.lookup_cons]
        simp
      · exact .inr h
theorem mem_of_look {α : Type} : ∀ {l : List (Str × α)} {x : Str} {k : α}, l.lookup x = some k → (x, k) ∈ l
  | [], _, _, h => by simp at h
  | (n, a) :: r, x, k, h => by
    rw [List.lookup_cons] at h
    by_cases e : x = n
    · subst e
      simp at h
      subst h
      exact List.mem_cons_self
    · have : (x == n) = false := by simpa using e
      rw [this] at h
      exact List.mem_cons_of_mem _ (mem_of_look h)
theorem relabel_look {env : Env} : ∀ {names : List (Str × NameKind)} {x : Str} {k : NameKind},
    (names.map fun (n, k) => if (k == NameKind.free && env.scope.kind == .function && env.kindOf n == some .cell) then (n, NameKind.cell) else (n, k)).lookup x = some k →
    ∃ k0, names.lookup x = some k0 ∧ (k = k0 ∨ k0 = .free)
  | [], _, _, h => by simp at h
  | (n, k0) :: r, x, k, h => by
    rw [List.map_cons] at h
    by_cases e : x = n
    · subst e
      refine ⟨k0, by simp, ?_⟩
      by_cases hc : (k0 == NameKind.free && env.scope.kind == .function && env.kindOf x == some .cell) = true
      · right
        simp at hc
        exact hc.1.1
      · left
        dsimp only at h
        rw [if_neg hc] at h
        simp at h
        exact h.symm
    · have e' : (x == n) = false := by simpa using e
      rw [List.lookup_cons, e']
      dsimp only at h
      split at h
      · rw [List.lookup_cons, e'] at h
        exact relabel_look h
      · rw [List.lookup_cons, e'] at h
        exact relabel_look h
theorem relabel_cell {env : Env} (hk : env.scope.kind = .function) : ∀ {names : List (Str × NameKind)} {x : Str}, names.lookup x = some .free → env.kindOf x = some .cell →
    (names.map fun (n, k) => if (k == NameKind.free && env.scope.kind == .function && env.kindOf n == some .cell) then (n, NameKind.cell) else (n, k)).lookup x = some .cell
  | [], _, h, _ => by simp at h
  | (n, k0) :: r, x, h, hx => by
    rw [List.map_cons]
    by_cases e : x = n
    · subst e
      simp at h
      subst h
      have hc : (NameKind.free == NameKind.free && env.scope.kind == .function && env.kindOf x == some .cell) = true := by simp [hk, hx]
      dsimp only
      rw [if_pos hc]
      simp
    · have e' : (x == n) = false := by simpa using e
      rw [List.lookup_cons, e'] at h
      dsimp only
      split
      · rw [List.lookup_cons, e']; exact relabel_cell hk h hx
      · rw [List.lookup_cons, e']; exact relabel_cell hk h hx
structure CompScope (so : Scope) (N : List Str) (caps : List (Nat × Str)) (sc : Scope) : Prop where
  kind : sc.kind = .function
  nocell : ∀ y ∈ sc.names, y.2 ≠ .cell
  names : ∀ y ∈ sc.names, y.2 = .local → sc.names.lookup y.1 = some .local
  free : ∀ y ∈ sc.names, y.2 = .free → so.names.lookup y.1 = some .cell
  caps : ∀ p ∈ caps, N[p.1]? = some p.2 ∧ so.names.lookup p.2 = some .cell ∧ sc.names.lookup p.2 = some .free
noncomputable def capσ (caps : List (Nat × Str)) (σ : St) : St := caps.map fun p => (σ[p.1]?).join
noncomputable abbrev cxComp (X : Cx) (L : List Str) (caps : List (Nat × Str)) (sc : Scope) (C : Addr) (s : Shared) (H : Hp) (fp : List Addr) : Cx :=
  { X with N := L ++ caps.map (·.2), s₀ := s, H₀ := H, env := compEnvC sc (clGo X.env.cells sc.names []) C X.env, outer := X.stack, stack := X.stack, ex := fp, fn := fun _ => false, pn := [], xe := fun _ _ => False }
theorem ne_lt {a b : Addr} {n : Nat} (h : a < n) (h2 : n ≤ b) : a ≠ b := Nat.ne_of_lt (Nat.lt_of_lt_of_le h h2)
section
variable {X : Cx} {pins : List (Addr × Obj)} {σ : St} {H : Hp} {s : Shared} {L : List Str} {caps : List (Nat × Str)} {sc : Scope} {C D : Addr} {fp : List Addr}
theorem Inv.clFree (I : Inv X pins σ H s) (S : CompScope X.env.scope X.N caps sc) : ∀ x ∈ sc.names, x.2 = .free → ∃ c, X.env.cells.lookup x.1 = some c := fun x hx hf =>
  I.ok.has x.1 (.inl (S.free x hx hf))
theorem Inv.clSub (I : Inv X pins σ H s) (S : CompScope X.env.scope X.N caps sc) {x : Str} {c : Addr} (h : (clGo X.env.cells sc.names []).lookup x = some c) : X.env.cells.lookup x = some c := by
  rcases clGo_sub sc.names [] (I.clFree S) h with h | h
  · simp at h
  · exact h
theorem comp_start {h₁ : Heap} {tk : Nat} {m : Str → Option Value} {oD : Obj} (I : Inv X pins σ H s) (S : CompScope X.env.scope X.N caps sc) (hfp : ∀ b ∈ fp, FpOk X pins H b) (hfo : ∀ b ∈ fp, ∃ o, s.heap.get? b = some o)
    (hC : s.heap.objs.size ≤ C) (hn : h₁.Ns C m) (old : ∀ b o, s.heap.get? b = some o → h₁.get? b = some o) (hD : s.heap.objs.size ≤ D) (hDC : D ≠ C) (eD : h₁.get? D = some oD) (dD : ∀ v, oD.data ≠ .cell v) :
    Inv (cxComp X L caps sc C s H fp) [(D, oD)] (List.replicate L.length none ++ capσ caps σ) H { s with heap := h₁, toks := tk } := by
  have hcells : ∀ x c, (clGo X.env.cells sc.names []).lookup x = some c → ∃ v, s.heap.IsCell c v := fun x c e => I.cell x c (I.clSub S e)
  refine ⟨⟨I.ok.mod, S.kind, I.ok.glob, I.ok.blt, hC, fun x y c h1 h2 => I.ok.inj x y c (I.clSub S h1) (I.clSub S h2), fun x hx => ?_, fun _ _ h => (Bool.false_ne_true h).elim, I.ok.hd, I.ok.frames, .inl rfl, fun b hb => ⟨?_, fun x c e => (hfp b hb).2.2.2.2.1 x c (I.clSub S e)⟩, I.bs, Nat.le_trans I.ok.bsz I.sz, fun b o e hb => ?_, fun b hb hz => ?_, I.stack, I.stkFree⟩,
    rfl, I.bare, Un.kept old, ⟨m, hn, fun i x v e1 e2 e3 => ?_⟩, fun x c e => ?_, I.hok.fresh hC, fun x c e => I.freeC x c (I.clSub S e), fun p hp => ?_, I.hok.kept old, ?_⟩
  · -- has
    have key : ∀ k, (relabel sc X.env).names.lookup x = some k → (k = .cell ∨ k = .free) → (x, NameKind.free) ∈ sc.names := fun k e hk => by
      obtain ⟨k0, e0, h0⟩ := relabel_look e
      have hm := mem_of_look e0
      rcases h0 with h0 | h0
      · subst h0
        rcases hk with hk | hk
        · exact absurd hk (S.nocell _ hm)
        · rw [hk] at hm; exact hm
      · rw [h0] at hm; exact hm
    have hm : (x, NameKind.free) ∈ sc.names := by
      rcases hx with hx | hx
      · exact key _ hx (.inl rfl)
      · exact key _ hx (.inr rfl)
    exact clGo_some sc.names [] (.inr hm)
  · obtain ⟨o, e⟩ := hfo b hb
    exact Nat.ne_of_lt (Nat.lt_of_lt_of_le (Heap.lt_size e) hC)
  · rcases (hfp b hb).2.2.2.1 with z | z
    · exact I.ok.noex b o e z
    · exact absurd (Nat.lt_of_lt_of_le (Heap.lt_size e) (Nat.le_trans I.ok.bsz z)) (Nat.lt_irrefl _)
  · rcases List.mem_cons.mp (I.stkSub b hz) with z | z
    · exact (hfp b hb).2.1 z
    · exact (hfp b hb).2.2.1 z
  · -- loc
    have e1' : (L ++ caps.map (·.2))[i]? = some x := e1
    by_cases hi : i < L.length
    · rw [List.getElem?_append_left (by simpa using hi), List.getElem?_replicate] at e2
      split at e2 <;> cases e2
    · rw [List.getElem?_append_right (by simpa using Nat.not_lt.mp hi), List.length_replicate] at e2
      rw [List.getElem?_append_right (Nat.not_lt.mp hi)] at e1'
      unfold capσ at e2
      rw [List.getElem?_map] at e1' e2
      cases hp : caps[i - L.length]? with
      | none => rw [hp] at e1'; cases e1'
      | some p =>
        rw [hp] at e1' e2
        have ex : p.2 = x := Option.some.inj e1'
        have ev : (σ[p.1]?).join = some v := Option.some.inj e2
        have ev' : σ[p.1]? = some (some v) := by
          cases q : σ[p.1]? with
          | none => rw [q] at ev; cases ev
          | some o => rw [q] at ev; exact congrArg some ev
        obtain ⟨c1, c2, c3⟩ := S.caps p (List.mem_of_getElem? hp)
        obtain ⟨m0, hn0, hl⟩ := I.loc
        rw [ex] at c1 c2 c3
        obtain ⟨u, r, l⟩ := hl p.1 x v c1 ev' (.inr (.inl c2))
        refine ⟨u, r, .inr ⟨.inl (relabel_cell I.ok.kind c3 c2), ?_⟩⟩
        rcases l with ⟨hk, _⟩ | ⟨_, c, hc, hcell⟩
        · have : X.env.scope.names.lookup x = some .local := hk
          rw [c2] at this; cases this
        · obtain ⟨c', hc'⟩ := clGo_some (cells := X.env.cells) sc.names [] (.inr (mem_of_look c3))
          have := I.clSub S hc'
          rw [hc] at this
          cases this
          obtain ⟨o, ho, hd⟩ := hcell
          exact ⟨c, hc', o, old _ _ ho, hd⟩
  · obtain ⟨v, o, ho, hd⟩ := hcells x c e
    exact ⟨v, o, old _ _ ho, hd⟩
  · have : p ∈ [(D, oD)] := hp
    have ep : p = (D, oD) := by simpa using this
    subst ep
    refine ⟨eD, I.hok.fresh hD, hDC, fun z => ?_, dD⟩
    have zz : H D = none := I.hok.fresh hD
    obtain ⟨_, o, ho, _⟩ := (I.stack).mem z
    exact absurd (Nat.lt_of_lt_of_le (Heap.lt_size ho) hD) (Nat.lt_irrefl _)
  · show (List.replicate L.length none ++ capσ caps σ).length = (L ++ caps.map (·.2)).length
    unfold capσ
    simp
noncomputable def PIf (X : Cx) (ifs : List Expr) (t : TT) : Prop :=
  ∀ (pins : List (Addr × Obj)) (s : Shared) (σ : St) (H : Hp) (Q : Bool → Hp → Prop), Inv X pins σ H s → t σ H Q →
    wpAny (model X.prog X.w) X.A (forIn ifs true fun c r => if r = true then do let ok ← isTrue c X.env (eval c X.env); pure (ForInStep.yield ok) else pure (ForInStep.yield r)) (TP X pins σ Q) X.xe s
theorem pif_nil : PIf X [] (fun _ H Q => Q true H) := fun pins s σ H Q I h => wpAny_tests_nil ⟨H, I, h⟩
theorem pif_one {c : Expr} {t : TT} (h : PT X c t) : PIf X [c] t := fun pins s σ H Q I hq => wpAny_tests_one (h pins s σ H Q I hq)
theorem compLoop_any {prog : Program} {w : World} {A : Around} {R : Result → Shared → Prop} {s : Shared} {elt target iter : Expr} {ifs : List Expr} {scope : Scope} {pos : Pos} {it acc : Value} {env : Env} (I : Nat → Shared → Prop)
    (turn : ∀ n s, I n s → wpAny (model prog w) A (pyNext it) (fun r s₁ => match r with
      | none => R (.ok .next) s₁
      | some v => wpAny (model prog w) A (letOwnedTupleGo target it v) (fun _ s1' => wpAny (model prog w) A (assign target env v) (fun _ s₂ =>
          wpAny (model prog w) A (forIn ifs true fun c r => if r = true then do let ok ← isTrue c env (eval c env); pure (ForInStep.yield ok) else pure (ForInStep.yield r)) (fun ok s₃ =>
            if ok = true then wpAny (model prog w) A (eval elt env) (fun x s₄ =>
              wpAny (model prog w) A (call (.builtin "list.append") [acc, x]) (fun _ s₅ => ∃ m, m < n ∧ I m s₅) (fun _ _ => False) s₄) (fun _ _ => False) s₃
            else ∃ m, m < n ∧ I m s₃) (fun _ _ => False) s₂) (fun _ _ => False) s1') (fun _ _ => False) s₁) (fun _ _ => False) s)
    (n : Nat) (h : I n s) : codeAny (model prog w) A (.compLoop (.ListComp elt [⟨target, iter, ifs, 0⟩] scope pos) 0 it acc env) R s := by
  refine codeAny_loop rfl I (fun n s hI => ?_) n h
  show wpAny _ A ((compTurn (.ListComp elt [⟨target, iter, ifs, 0⟩] scope pos) 0 it acc env).onRaise (fun x => do noteFrame x env; theTreesLotGoes x)) _ _ s
  refine wpAny_noted ?_
  rw [compTurn_list]
  refine wpAny_bind (wpAny_standAt (wpAny_bind (wpAny_mono (turn n s hI) (fun r s₁ h₁ => ?_) fun _ _ h' => h'.elim)))
  cases r with
  | none => exact wpAny_pure h₁
  | some v =>
    refine wpAny_bind (wpAny_mono h₁ (fun _ s1' h1' => ?_) fun _ _ h' => h'.elim)
    refine wpAny_bind (wpAny_mono h1' (fun _ s₂ h₂ => wpAny_bind (wpAny_mono h₂ (fun ok s₃ h₃ => ?_) fun _ _ h' => h'.elim)) fun _ _ h' => h'.elim)
    cases ok with
    | false => exact wpAny_pure ⟨rfl, h₃⟩
    | true =>
      exact wpAny_bind (wpAny_bind (wpAny_mono h₃ (fun x s₄ h₄ => wpAny_bind (wpAny_mono h₄ (fun _ s₅ h₅ => wpAny_pure (wpAny_pure ⟨rfl, h₅⟩)) fun _ _ h' => h'.elim)) fun _ _ h' => h'.elim))
noncomputable def compW (J : It) (g : TG) (tc : TT) (te : TE) (σ0 : St) (H1 : Hp) (Fin : List V → Hp → Prop) : Prop :=
  ∃ W : Nat → Nat → St → List V → Hp → Prop, (∃ m, W 0 m σ0 [] H1) ∧ ∀ i m σ ys H, W i m σ ys H →
    (J.stop i H ∧ Fin ys H) ∨ (J.go i H ∧ ys.length < sizeLine ∧ ∀ x H', J.yld i H x H' → g x σ H' fun σ2 H2 => tc σ2 H2 fun b H3 =>
      if b = true then te σ2 H3 fun y H4 => ∃ m', m' < m ∧ W (i + 1) m' σ2 (ys ++ [y]) H4 else ∃ m', m' < m ∧ W (i + 1) m' σ2 ys H3)
theorem comp_block {elt iter tg : Expr} {ifs : List Expr} {pos : Pos} {g : TG} {tc : TT} {te : TE} {J : It} {it : Addr} {tn : Nat → Heap → Prop} {Fin : List V → Hp → Prop} {RR : Value → Addr → Result → Shared → Prop} {E : Value → Shared → Prop} {s₂ : Shared}
    (hc : X.calm = true) (S : CompScope X.env.scope X.N caps sc) (I : Inv X pins σ H s₂) (T : Turn X.prog X.w X.K tg J fp it tn) (st : tn 0 s₂.heap) (hfp : ∀ b ∈ fp, FpOk X pins H b)
    (hg : ∀ C, PG (cxComp X L caps sc C s₂ H fp) tg g) (hif : ∀ C, PIf (cxComp X L caps sc C s₂ H fp) ifs tc) (he : ∀ C, PE (cxComp X L caps sc C s₂ H fp) elt te)
    (hW : compW J g tc te (List.replicate L.length none ++ capσ caps σ) H Fin)
    (hRR : ∀ C D s' m ys H', Inv X pins σ (upd H' D (.lst ys)) s' → s'.heap.Ns C m → FpOk X pins (upd H' D (.lst ys)) C → H' D = none → Fin ys H' → RR (.ref D) C (.ok .next) s') :
    wpAny (model X.prog X.w) X.A (newList []) (fun acc s₃ => wpAny (model X.prog X.w) X.A (newFunctionEnv sc X.env.globals (clGo X.env.cells sc.names []) [] X.env.qual none .none (some X.env)) (fun cenv s₄ =>
      codeAny (model X.prog X.w) X.A (.compStart (.ListComp elt [⟨tg, iter, ifs, 0⟩] sc pos) 0 (.ref it) acc { cenv with scope := relabel sc X.env }) (RR acc cenv.locals) s₄) E s₃) E s₂ := by
  refine wpAny_newObj_type (wpAny_newFunctionEnv S.nocell (by intro y hy; simp at hy) (fun h₁ hns₁ hsb₁ => ?_) S.kind)
  dsimp only at hns₁ hsb₁ ⊢
  generalize hH2 : s₂.heap.push { cls := .type "list", dict := none, data := .seq ([] : List Value).toArray } = H2 at hns₁ hsb₁ ⊢
  have hCs : H2.objs.size = s₂.heap.objs.size + 1 := by rw [← hH2, Heap.size_push]
  have hDC : s₂.heap.objs.size ≠ H2.objs.size := by rw [hCs]; exact Nat.ne_of_lt (Nat.lt_succ_self _)
  have hCle : s₂.heap.objs.size ≤ H2.objs.size := by rw [hCs]; exact Nat.le_succ _
  have below : ∀ b, b < s₂.heap.objs.size → b ≠ H2.objs.size ∧ b ≠ s₂.heap.objs.size := fun b hb => ⟨by rw [hCs]; exact Nat.ne_of_lt (Nat.lt_succ_of_lt hb), Nat.ne_of_lt hb⟩
  have old : ∀ b o, s₂.heap.get? b = some o → h₁.get? b = some o := fun b o e => hsb₁.extBut b o (below b (Heap.lt_size e)).1 (Heap.get?_push_of_some _ (hH2 ▸ Heap.get?_push_of_some _ e))
  have hacc : h₁.get? s₂.heap.objs.size = some { cls := .type "list", data := .seq ([] : List Value).toArray } := hsb₁.extBut _ _ hDC (Heap.get?_push_of_some _ (hH2 ▸ Heap.get?_push_size _ rfl))
  generalize hCn : H2.objs.size = C at hns₁ hsb₁ hDC hCle below ⊢
  generalize hDn : s₂.heap.objs.size = D at hacc hDC ⊢
  have hDle : s₂.heap.objs.size ≤ D := Nat.le_of_eq hDn
  have fo : ∀ b ∈ fp, ∃ o, s₂.heap.get? b = some o := fun b hb => let ⟨o, e, _⟩ := T.obj 0 _ st b hb; ⟨o, e⟩
  have bD : ∀ b ∈ fp, D ≠ b := fun b hb z => by
    obtain ⟨o, e⟩ := fo b hb
    exact ne_lt (Heap.lt_size e) hDle z.symm
  have cD : ∀ x c, X.env.cells.lookup x = some c → c ≠ D := fun x c e => by
    obtain ⟨v, o, ho, _⟩ := I.cell x c e
    exact ne_lt (Heap.lt_size ho) hDle
  have cC : ∀ x c, X.env.cells.lookup x = some c → c ≠ C := fun x c e => by
    obtain ⟨v, o, ho, _⟩ := I.cell x c e
    exact ne_lt (Heap.lt_size ho) hCle
  have start := fun tk => comp_start (L := L) (fp := fp) (tk := tk) I S hfp fo hCle hns₁ old hDle hDC hacc (fun v z => by
    have z' : Data.seq _ _ = Data.cell v := z
    cases z')
  obtain ⟨W, ⟨m0, w0⟩, turn⟩ := hW
  -- the static facts of the iterator's records in the block
  have stat : ∀ {pl : List (Addr × Obj)} {H' : Hp}, (∀ b ∈ fp, H' b = none) → (∀ p ∈ pl, p.1 = D) → ∀ b ∈ fp, FpOk (cxComp X L caps sc C s₂ H fp) pl H' b := fun {pl H'} hn hpl b hb => by
    obtain ⟨f0, f1, f2, f3, f4, f5⟩ := hfp b hb
    obtain ⟨o, e⟩ := fo b hb
    refine ⟨hn b hb, (below b (Heap.lt_size e)).1, fun z => ?_, .inl hb, fun x c e' => f4 x c (I.clSub S e'), fun p hp z => ?_⟩
    · rcases List.mem_cons.mp (I.stkSub b z) with z | z
      · exact f1 z
      · exact f2 z
    · have hp' : p ∈ pl := hp
      exact bD b hb ((hpl p hp').symm.trans z)
  have fin : ∀ (s' : Shared) (σ' : St) (H' : Hp) (ys : List V) (its : List Value) (n : Nat), Inv (cxComp X L caps sc C s₂ H fp) [(D, { cls := .type "list", data := .seq its.toArray n })] σ' H' s' → Vals ys its → ys.length ≤ sizeLine → Fin ys H' → RR (.ref D) C (.ok .next) s' := fun s' σ' H' ys its n I' rv hz hF => by
    obtain ⟨m, hm, _⟩ := I'.loc
    obtain ⟨eD, hDn', _, _, _⟩ := I'.pin (D, { cls := .type "list", data := .seq its.toArray n }) (by simp)
    have eD' : s'.heap.get? D = some { cls := .type "list", data := .seq its.toArray n } := eD
    have hDnone : H' D = none := hDn'
    have hCnone : H' C = none := I'.free
    have neD : ∀ b o, s₂.heap.get? b = some o → b ≠ D := fun b o e => ne_lt (Heap.lt_size e) hDle
    have neH : ∀ b u, H b = some u → b ≠ D := fun b u e => ne_lt (I.hok.lt e) hDle
    have ub := I'.base
    have hok : HOk X.prog X.w (upd H' D (.lst ys)) s'.heap := fun b u e => by
      by_cases hb : b = D
      · subst hb
        rw [upd_same] at e
        cases e
        exact ⟨hz, its, n, rv, eD'⟩
      · rw [upd_ne hb] at e
        exact (I'.hok b u e).stay (fun c v _ q => q) (fun c q => by rw [upd_ne (ne_of_none q hDnone)]; exact q) fun c xs q => by rw [upd_ne (ne_of_none q hDnone)]; exact q
    have un : Un (frs X.stack) fp H (upd H' D (.lst ys)) s₂.heap s'.heap := ⟨ub.keep, ub.slot, fun b o e n hx => by rw [upd_ne (neD b o e)]; exact ub.free b o e n hx, ub.there, fun b xs e => by rw [upd_ne (neH b _ e)]; exact ub.tups b xs e,
      fun b o u e => by rw [upd_ne (neH b _ e)]; exact ub.frzs b o u e, fun b ps e => by rw [upd_ne (neH b _ e)]; exact ub.tbls b ps e⟩
    have IX : Inv X pins σ (upd H' D (.lst ys)) s' := I.call' (ch := fp) I'.os un hok I'.bare fun b hb => by
      obtain ⟨f0, f1, f2, f3, f4, f5⟩ := hfp b hb
      exact ⟨f3, f1, f4, f5⟩
    refine hRR C D s' m ys H' IX hm ⟨by rw [upd_ne (Ne.symm hDC)]; exact hCnone, ?_, ?_, .inr (Nat.le_trans I.sz hCle), cC, fun p hp => ?_⟩ hDnone hF
    · exact Ne.symm (ne_lt I.lt hCle)
    · exact I.nofs hCle
    · exact ne_lt (Heap.lt_size (I.pin p hp).1) hCle
  have loop : ∀ s₃ : Shared, s₃ = { s₂ with heap := h₁, toks := s₂.toks + ([] : List (Str × Value)).length } →
      codeAny (model X.prog X.w) X.A (.compLoop (.ListComp elt [⟨tg, iter, ifs, 0⟩] sc pos) 0 (.ref it) (.ref D) (compEnvC sc (clGo X.env.cells sc.names []) C X.env)) (RR (.ref D) C) s₃ := by
    rintro s₃ rfl
    refine compLoop_any (fun k s' => ∃ i σ' H' ys its n, Inv (cxComp X L caps sc C s₂ H fp) [(D, { cls := .type "list", data := .seq its.toArray n })] σ' H' s' ∧ tn i s'.heap ∧ (∀ b ∈ fp, H' b = none) ∧ Vals ys its ∧ ys.length ≤ sizeLine ∧ W i k σ' ys H') ?_ m0
      ⟨0, _, H, [], [], 0, start _, T.keep 0 _ _ st (fun b hb o e => old b o e), fun b hb => (hfp b hb).1, .nil, Nat.zero_le _, w0⟩
    rintro k s' ⟨i, σ', H', ys, its, n, I', st', fr', rv, hz, w'⟩
    have hpl : ∀ p ∈ [(D, ({ cls := .type "list", data := .seq its.toArray n } : Obj))], p.1 = D := fun p hp => by
      rcases List.mem_cons.mp hp with e | e
      · rw [e]
      · cases e
    rcases turn i k σ' ys H' w' with ⟨stop, hF⟩ | ⟨go, hlen, step⟩
    · refine thn (T.done (cxComp X L caps sc C s₂ H fp) rfl rfl rfl hc i _ s' σ' H' _ I' (stat fr' hpl) st' stop) fun r s4 ⟨hr, I4⟩ => ?_
      subst hr
      exact fin s4 σ' H' ys its n I4 rv hz hF
    · refine thn (T.item (cxComp X L caps sc C s₂ H fp) rfl rfl rfl hc i _ s' σ' H' _ I' (stat fr' hpl) st' go) fun r s4 ⟨u, hr, h4⟩ => ?_
      subst hr
      refine thn h4 fun _ s5 ⟨x, H5, I5, r5, y5, st5, fr5⟩ => ?_
      have I5' := I5.pinned (stat fr5 hpl) (T.obj _ _ st5)
      refine thn (hg C _ s5 σ' H5 x u _ I5' r5 (step x H5 y5)) fun _ s6 ⟨σ6, H6, I6, q6⟩ => ?_
      refine thn (hif C _ s6 σ6 H6 _ I6 q6) fun ok s7 ⟨H7, I7, q7⟩ => ?_
      have back : ∀ {σ8 : St} {H8 : Hp} {s8 : Shared}, Inv (cxComp X L caps sc C s₂ H fp) ([(D, { cls := .type "list", data := .seq its.toArray n })] ++ pinsAt fp s5.heap) σ8 H8 s8 →
          tn (i + 1) s8.heap ∧ ∀ b ∈ fp, H8 b = none := fun {σ8 H8 s8} I8 => by
        refine ⟨T.keep _ _ _ st5 fun b hb o e => (I8.pin (b, o) (List.mem_append_right _ (List.mem_append_right _ (mem_pinsAt hb e)))).1, fun b hb => ?_⟩
        obtain ⟨o, e, d⟩ := T.obj _ _ st5 b hb
        exact (I8.pin (b, o) (List.mem_append_right _ (List.mem_append_right _ (mem_pinsAt hb e)))).2.1
      cases ok with
      | false =>
        rw [if_neg Bool.false_ne_true] at q7
        rw [if_neg Bool.false_ne_true]
        obtain ⟨m', hm', w7⟩ := q7
        obtain ⟨b1, b2⟩ := back I7
        exact ⟨m', hm', i + 1, σ6, H7, ys, its, n, I7.unpinned, b1, b2, rv, hz, w7⟩
      | true =>
        rw [if_pos rfl] at q7
        rw [if_pos rfl]
        refine thn (he C _ s7 σ6 H7 _ I7 q7) fun yv s8 ⟨y, H8, I8, r8, m', hm', w8⟩ => ?_
        obtain ⟨b1, b2⟩ := back I8
        obtain ⟨eD, hDn8, neL8, nf8, _⟩ := I8.pin (D, { cls := .type "list", data := .seq its.toArray n }) (by simp)
        have hl := rv.length
        refine append_at (s := s8) eD (fun h9 sb e9 => ?_) (by simp only [List.size_toArray]; omega)
        have I8' : Inv (cxComp X L caps sc C s₂ H fp) [] σ6 H8 s8 := I8.pins_of fun p hp => nomatch hp
        have I9 : Inv (cxComp X L caps sc C s₂ H fp) [] σ6 H8 { s8 with heap := h9 } := I8'.turned (t' := s8.toks) (it := D) (fun b o hb e => (sb.2 b hb).trans e) hDn8 neL8 (.inr hDle) (fun x c e => cD x c (I.clSub S e)) fun p hp => nomatch (show p ∈ ([] : List (Addr × Obj)) from hp)
        have ep : its.toArray.push yv = (its ++ [yv]).toArray := by simp
        rw [ep] at e9
        refine ⟨m', hm', i + 1, σ6, H8, ys ++ [y], its ++ [yv], n + 1, I9.pins_of fun p hp => ?_, T.keep _ _ _ b1 fun b hb o e => (sb.2 b (Ne.symm (bD b hb))).trans e, b2, Vals.append rv (.cons r8 .nil), by rw [List.length_append]; exact hlen, w8⟩
        obtain rfl : p = (D, ({ cls := .type "list", data := .seq (its ++ [yv]).toArray (n + 1) } : Obj)) := by
          rcases List.mem_cons.mp hp with e | e
          · exact e
          · cases e
        exact ⟨e9, hDn8, neL8, nf8, fun v z => by
          have z' : Data.seq _ _ = Data.cell v := z
          cases z'⟩
  exact codeAny_compStart_list (loop _ rfl) (T.self X.A 0 _ _ _ (T.keep 0 _ _ st fun b hb o e => old b o e) (loop _ rfl))
noncomputable def tComp (wi : TI) (g : TG) (tc : TT) (te : TE) (nL : Nat) (caps : List (Nat × Str)) : TE := fun σ H Q => wi σ H fun J H1 =>
  compW J g tc te (List.replicate nL none ++ capσ caps σ) H1 fun ys H2 => ∀ p, H2 p = none → Q (.ref p) (upd H2 p (.lst ys))
theorem pe_comp {elt iter tg : Expr} {ifs : List Expr} {pos : Pos} {wi : TI} {g : TG} {tc : TT} {te : TE} (L : List Str) (caps : List (Nat × Str)) (hc : X.calm = true) (S : CompScope X.env.scope X.N caps sc) (hi : PI X tg iter wi)
    (hg : ∀ C s H fp, PG (cxComp X L caps sc C s H fp) tg g) (hif : ∀ C s H fp, PIf (cxComp X L caps sc C s H fp) ifs tc) (he : ∀ C s H fp, PE (cxComp X L caps sc C s H fp) elt te)
    (hs : ∀ x, foldedSetIterable iter X.env x = pure x := by intro _; rfl) : PE X (.ListComp elt [⟨tg, iter, ifs, 0⟩] sc pos) (tComp wi g tc te L.length caps) := by
  intro pins s σ H Q I h
  rw [eval_ListComp]
  refine wpAny_comprehension_free (use := none) rfl hs (clos_eq (I.clFree S)) S.kind S.names (thn (hi pins s σ H _ I h) fun v s1 h1 => thn h1 fun itv s2 h2 => ?_)
  obtain ⟨it, fp, tn, J, H2, e, I2, T, st2, f2, hW⟩ := h2
  subst e
  refine comp_block (L := L) (RR := fun acc C => compPost (model X.prog X.w) X.A X.xe none (EP X pins σ Q) acc C) hc S I2 T st2 f2 (fun C => hg C _ _ _) (fun C => hif C _ _ _) (fun C => he C _ _ _) hW ?_
  intro C D s' m ys H' I' hn hC hDn hF
  refine ⟨m, hn, fun h' sb => ?_⟩
  obtain ⟨f0, f1, f2, f3, f4, f5⟩ := hC
  exact ⟨.ref D, _, I'.turned (t' := s'.toks) (it := C) (fun b o hb e => (sb.2 b hb).trans e) f0 f1 f3 f4 f5, rfl, hF D hDn⟩
theorem ps_comp {elt iter tg : Expr} {ifs : List Expr} {pos py spos : Pos} {wi : TI} {g : TG} {tc : TT} {te : TE} {i : Nat} {y : Str} (L : List Str) (caps : List (Nat × Str)) (hc : X.calm = true) (hN : X.N.Nodup) (hy : X.N[i]? = some y) (hyl : X.env.scope.names.lookup y = some .local)
    (S : CompScope X.env.scope X.N caps sc) (hi : PI X tg iter wi)
    (hg : ∀ C s H fp, PG (cxComp X L caps sc C s H fp) tg g) (hif : ∀ C s H fp, PIf (cxComp X L caps sc C s H fp) ifs tc) (he : ∀ C s H fp, PE (cxComp X L caps sc C s H fp) elt te)
    (hsw : swapsWith (.ListComp elt [⟨tg, iter, ifs, 0⟩] sc pos) (some (.Name y py)) spos.line X.env = pure true := by rfl)
    (hs : ∀ x, foldedSetIterable iter X.env x = pure x := by intro _; rfl) : PS X (.Assign [.Name y py] (.ListComp elt [⟨tg, iter, ifs, 0⟩] sc pos) spos) (tAsg (tComp wi g tc te L.length caps) (gName i)) := by
  intro pins s σ H D I h
  rw [exec_Assign_Name_used _ _ _ _ hsw]
  refine wpAny_bind (wpAny_standAt (wpAny_bind ?_))
  show wpAny _ X.A (do let _ ← comprehension (.ListComp elt [⟨tg, iter, ifs, 0⟩] sc pos) sc X.env _ (newList []) false (eval iter X.env) (some (assign (.Name y py) X.env))) _ _ s
  refine wpAny_bind (wpAny_mono (wpAny_comprehension_free (use := some (assign (.Name y py) X.env)) (Q := fun _ s' => SP X pins D .next s') rfl hs (clos_eq (I.clFree S)) S.kind S.names
    (thn (hi pins s σ H _ I h) fun v s1 h1 => thn h1 fun itv s2 h2 => ?_)) (fun _ s' hq => wpAny_pure (wpAny_pure hq)) fun _ _ e => e)
  obtain ⟨it, fp, tn, J, H2, e, I2, T, st2, f2, hW⟩ := h2
  subst e
  refine comp_block (L := L) (RR := fun acc C => compPost (model X.prog X.w) X.A X.xe (some (assign (.Name y py) X.env)) (fun _ s' => SP X pins D .next s') acc C) hc S I2 T st2 f2 (fun C => hg C _ _ _) (fun C => hif C _ _ _) (fun C => he C _ _ _) hW ?_
  intro C Dd s' m ys H' I' hn hC hDn hF
  obtain ⟨f0, f1, f2, f3, f4, f5⟩ := hC
  show wpAny _ X.A (assign (.Name y py) X.env (.ref Dd)) _ _ _
  refine wpAny_assign_Name (store_ok2 (v := .ref Dd) I' hN hy (.inl hyl) rfl (fun s'' I'' hsb => ?_) (.inr hyl))
  obtain ⟨a, hsb, ha⟩ := hsb
  have hL : a ≠ C := by
    rcases ha with z | z
    · rw [z]; exact Ne.symm f1
    · exact f4 y a z
  refine ⟨m, hn.sameBut hsb (Ne.symm hL), fun h' sb => ?_⟩
  exact ⟨_, _, I''.turned (t' := s''.toks) (it := C) (fun b o hb e => (sb.2 b hb).trans e) f0 f1 f3 f4 f5, hF Dd hDn⟩
end
end L2
namespace L3
open PySem PySem.Spec PyProof.Rows L2
inductive Dt where
  | non | bl (b : Bool) | int (i : Int) | str (x : Str) | tup (xs : List Dt) | lst (n : Nat) | ty (n : String) | dic (n : Nat) | ins (n : Nat)
inductive SO where
  | ro (xs : List Dt) | rw (xs : List Dt) | dc (kvs : List (Key × Dt)) | ob (C : Str) (fs : List (Str × Dt))
noncomputable def SO.items : SO → List Dt
  | .ro xs => xs
  | .rw xs => xs
  | .dc _ => []
  | .ob _ _ => []
noncomputable def IsL (K : PySem.W.Frag) (H : Hp) (a : Addr) : Prop := ∃ vs, SqL K H a vs
noncomputable def IsD (H : Hp) (a : Addr) : Prop := ∃ kvs, H a = some (.dK kvs)
noncomputable def IsO (H : Hp) (a : Addr) : Prop := ∃ C dx fs, H a = some (.ins C dx fs)
noncomputable abbrev Sto := List SO
noncomputable abbrev Rho := List (Option Dt)
mutual
noncomputable def D (K : PySem.W.Frag) (φ : Nat → Addr) (N : Nat) (H : Hp) : Dt → V → Prop
  | .non, v => v = .non
  | .bl b, v => v = .bl b
  | .int i, v => v = .int i
  | .str x, v => v = .str x
  | .ty n, v => v = .ty n
  | .tup ds, v => ∃ a vs, v = .ref a ∧ SqT K H a vs ∧ DL K φ N H ds vs
  | .lst n, v => n < N ∧ v = .ref (φ n) ∧ IsL K H (φ n)
  | .dic n, v => n < N ∧ v = .ref (φ n) ∧ IsD H (φ n)
  | .ins n, v => n < N ∧ v = .ref (φ n) ∧ IsO H (φ n)
noncomputable def DL (K : PySem.W.Frag) (φ : Nat → Addr) (N : Nat) (H : Hp) : List Dt → List V → Prop
  | [], vs => vs = []
  | d :: ds, vs => ∃ v r, vs = v :: r ∧ D K φ N H d v ∧ DL K φ N H ds r
end
structure Evo (K : PySem.W.Frag) (φ : Nat → Addr) (N : Nat) (H : Hp) (φ' : Nat → Addr) (N' : Nat) (H' : Hp) : Prop where
  le : N ≤ N'
  ext : ∀ i, i < N → φ' i = φ i
  tup : ∀ a vs, SqT K H a vs → SqT K H' a vs
  lst : ∀ i, i < N → IsL K H (φ i) → IsL K H' (φ i)
  dic : ∀ i, i < N → IsD H (φ i) → IsD H' (φ i)
  ins : ∀ i, i < N → IsO H (φ i) → IsO H' (φ i)
section
variable {K : PySem.W.Frag} {φ φ' φ1 φ2 : Nat → Addr} {N N' N1 N2 : Nat} {H H' H1 H2 : Hp}
theorem Evo.refl : Evo K φ N H φ N H := ⟨Nat.le_refl _, fun _ _ => rfl, fun _ _ h => h, fun _ _ h => h, fun _ _ h => h, fun _ _ h => h⟩
theorem Evo.trans (a : Evo K φ N H φ1 N1 H1) (b : Evo K φ1 N1 H1 φ2 N2 H2) : Evo K φ N H φ2 N2 H2 :=
  ⟨Nat.le_trans a.le b.le, fun i hi => (b.ext i (Nat.lt_of_lt_of_le hi a.le)).trans (a.ext i hi), fun x vs h => b.tup x vs (a.tup x vs h), 
    fun i hi h => (fun q : IsL K H1 (φ1 i) → IsL K H2 (φ1 i) => a.ext i hi ▸ q (a.ext i hi ▸ a.lst i hi h)) (b.lst i (Nat.lt_of_lt_of_le hi a.le)),
    fun i hi h => (fun q : IsD H1 (φ1 i) → IsD H2 (φ1 i) => a.ext i hi ▸ q (a.ext i hi ▸ a.dic i hi h)) (b.dic i (Nat.lt_of_lt_of_le hi a.le)),
    fun i hi h => (fun q : IsO H1 (φ1 i) → IsO H2 (φ1 i) => a.ext i hi ▸ q (a.ext i hi ▸ a.ins i hi h)) (b.ins i (Nat.lt_of_lt_of_le hi a.le))⟩
mutual
theorem D.evo (e : Evo K φ N H φ' N' H') : ∀ {d : Dt} {v : V}, D K φ N H d v → D K φ' N' H' d v
  | .non, _, h => by simpa [D] using h
  | .bl _, _, h => by simpa [D] using h
  | .int _, _, h => by simpa [D] using h
  | .str _, _, h => by simpa [D] using h
  | .ty _, _, h => by simpa [D] using h
  | .tup ds, v, h => by
    simp only [D] at h ⊢
    obtain ⟨a, vs, h1, h2, h3⟩ := h
    exact ⟨a, vs, h1, e.tup a vs h2, DL.evo e h3⟩
  | .lst n, v, h => by
    simp only [D] at h ⊢
    obtain ⟨h1, h2, h3⟩ := h
    exact ⟨Nat.lt_of_lt_of_le h1 e.le, by rw [e.ext n h1]; exact h2, by rw [e.ext n h1]; exact e.lst n h1 h3⟩
  | .dic n, v, h => by
    simp only [D] at h ⊢
    obtain ⟨h1, h2, h3⟩ := h
    exact ⟨Nat.lt_of_lt_of_le h1 e.le, by rw [e.ext n h1]; exact h2, by rw [e.ext n h1]; exact e.dic n h1 h3⟩
  | .ins n, v, h => by
    simp only [D] at h ⊢
    obtain ⟨h1, h2, h3⟩ := h
    exact ⟨Nat.lt_of_lt_of_le h1 e.le, by rw [e.ext n h1]; exact h2, by rw [e.ext n h1]; exact e.ins n h1 h3⟩
theorem DL.evo (e : Evo K φ N H φ' N' H') : ∀ {ds : List Dt} {vs : List V}, DL K φ N H ds vs → DL K φ' N' H' ds vs
  | [], vs, h => by simpa [DL] using h
  | d :: ds, vs, h => by
    simp only [DL] at h ⊢
    obtain ⟨v, r, h1, h2, h3⟩ := h
    exact ⟨v, r, h1, D.evo e h2, DL.evo e h3⟩
end
theorem DL.length : ∀ {ds : List Dt} {vs : List V}, DL K φ N H ds vs → ds.length = vs.length
  | [], vs, h => by simp only [DL] at h; rw [h]; rfl
  | d :: ds, vs, h => by
    simp only [DL] at h
    obtain ⟨v, r, h1, _, h3⟩ := h
    rw [h1, List.length_cons, List.length_cons, DL.length h3]
theorem DL.get : ∀ {ds : List Dt} {vs : List V} {i : Nat} {d : Dt}, DL K φ N H ds vs → ds[i]? = some d → ∃ v, vs[i]? = some v ∧ D K φ N H d v
  | [], _, _, _, _, e => by simp at e
  | d :: ds, vs, 0, d', h, e => by
    simp only [DL] at h
    obtain ⟨v, r, h1, h2, _⟩ := h
    simp at e
    subst e; subst h1
    exact ⟨v, rfl, h2⟩
  | d :: ds, vs, i + 1, d', h, e => by
    simp only [DL] at h
    obtain ⟨v, r, h1, _, h3⟩ := h
    subst h1
    obtain ⟨w, e1, e2⟩ := DL.get (i := i) h3 (by simpa using e)
    exact ⟨w, by simpa using e1, e2⟩
theorem DL.nil : DL K φ N H [] [] := by simp [DL]
theorem DL.cons {d : Dt} {v : V} {ds : List Dt} {vs : List V} (h : D K φ N H d v) (t : DL K φ N H ds vs) : DL K φ N H (d :: ds) (v :: vs) := by
  simp only [DL]; exact ⟨v, vs, rfl, h, t⟩
theorem DL.uncons {d : Dt} {v : V} {ds : List Dt} {vs : List V} (h : DL K φ N H (d :: ds) (v :: vs)) : D K φ N H d v ∧ DL K φ N H ds vs := by
  simp only [DL] at h
  obtain ⟨v', r, h1, h2, h3⟩ := h
  cases h1
  exact ⟨h2, h3⟩
theorem DL.append : ∀ {ds es : List Dt} {vs ws : List V}, DL K φ N H ds vs → DL K φ N H es ws → DL K φ N H (ds ++ es) (vs ++ ws)
  | [], _, vs, _, h, h' => by simp only [DL] at h; rw [h]; exact h'
  | d :: ds, es, vs, ws, h, h' => by
    simp only [DL] at h
    obtain ⟨v, r, h1, h2, h3⟩ := h
    subst h1
    exact DL.cons h2 (DL.append h3 h')
theorem DL.drop : ∀ {ds : List Dt} {vs : List V} (n : Nat), DL K φ N H ds vs → DL K φ N H (ds.drop n) (vs.drop n)
  | ds, vs, 0, h => h
  | [], vs, n + 1, h => by simp only [DL] at h; rw [h]; simpa using DL.nil
  | d :: ds, vs, n + 1, h => by
    simp only [DL] at h
    obtain ⟨v, r, h1, h2, h3⟩ := h
    subst h1
    exact DL.drop n h3
theorem DL.take : ∀ {ds : List Dt} {vs : List V} (n : Nat), DL K φ N H ds vs → DL K φ N H (ds.take n) (vs.take n)
  | ds, vs, 0, h => by simpa using DL.nil
  | [], vs, n + 1, h => by simp only [DL] at h; rw [h]; simpa using DL.nil
  | d :: ds, vs, n + 1, h => by
    simp only [DL] at h
    obtain ⟨v, r, h1, h2, h3⟩ := h
    subst h1
    exact DL.cons h2 (DL.take n h3)
theorem DL.set {d : Dt} {v : V} (hd : D K φ N H d v) : ∀ {ds : List Dt} {vs : List V} (n : Nat), DL K φ N H ds vs → DL K φ N H (ds.set n d) (vs.set n v)
  | [], vs, n, h => by simp only [DL] at h; rw [h]; simpa using DL.nil
  | e :: ds, vs, 0, h => by
    simp only [DL] at h
    obtain ⟨w, r, h1, h2, h3⟩ := h
    subst h1
    exact DL.cons hd h3
  | e :: ds, vs, n + 1, h => by
    simp only [DL] at h
    obtain ⟨w, r, h1, h2, h3⟩ := h
    subst h1
    exact DL.cons h2 (DL.set hd n h3)
theorem DL.one {d : Dt} {vs : List V} (h : DL K φ N H [d] vs) : ∃ v, vs = [v] ∧ D K φ N H d v := by
  simp only [DL] at h
  obtain ⟨v, r, h1, h2, h3⟩ := h
  subst h3
  exact ⟨v, h1, h2⟩
theorem DL.two {d e : Dt} {vs : List V} (h : DL K φ N H [d, e] vs) : ∃ v w, vs = [v, w] ∧ D K φ N H d v ∧ D K φ N H e w := by
  simp only [DL] at h
  obtain ⟨v, r, h1, h2, w, r', h3, h4, h5⟩ := h
  subst h5; subst h3
  exact ⟨v, w, h1, h2, h4⟩
theorem D.int {i : Int} {v : V} (h : D K φ N H (.int i) v) : v = .int i := by simpa [D] using h
theorem D.bl {i : Bool} {v : V} (h : D K φ N H (.bl i) v) : v = .bl i := by simpa [D] using h
theorem D.str {i : Str} {v : V} (h : D K φ N H (.str i) v) : v = .str i := by simpa [D] using h
theorem D.non {v : V} (h : D K φ N H .non v) : v = .non := by simpa [D] using h
theorem D.ty {n : String} {v : V} (h : D K φ N H (.ty n) v) : v = .ty n := by simpa [D] using h
theorem D.tup {ds : List Dt} {v : V} (h : D K φ N H (.tup ds) v) : ∃ a vs, v = .ref a ∧ SqT K H a vs ∧ DL K φ N H ds vs := by simpa [D] using h
theorem D.lst {n : Nat} {v : V} (h : D K φ N H (.lst n) v) : n < N ∧ v = .ref (φ n) := by simp only [D] at h; exact ⟨h.1, h.2.1⟩
theorem D.isL {n : Nat} {v : V} (h : D K φ N H (.lst n) v) : IsL K H (φ n) := by simp only [D] at h; exact h.2.2
theorem D.dic {n : Nat} {v : V} (h : D K φ N H (.dic n) v) : n < N ∧ v = .ref (φ n) := by simp only [D] at h; exact ⟨h.1, h.2.1⟩
theorem D.isD {n : Nat} {v : V} (h : D K φ N H (.dic n) v) : IsD H (φ n) := by simp only [D] at h; exact h.2.2
theorem D.ins {n : Nat} {v : V} (h : D K φ N H (.ins n) v) : n < N ∧ v = .ref (φ n) := by simp only [D] at h; exact ⟨h.1, h.2.1⟩
theorem D.mkInt {i : Int} : D K φ N H (.int i) (.int i) := by simp [D]
theorem D.mkBl {i : Bool} : D K φ N H (.bl i) (.bl i) := by simp [D]
theorem D.mkStr {i : Str} : D K φ N H (.str i) (.str i) := by simp [D]
theorem D.mkNon : D K φ N H .non .non := by simp [D]
theorem D.mkTy {n : String} : D K φ N H (.ty n) (.ty n) := by simp [D]
theorem D.mkTup {ds : List Dt} {a : Addr} {vs : List V} (h : SqT K H a vs) (t : DL K φ N H ds vs) : D K φ N H (.tup ds) (.ref a) := by simp only [D]; exact ⟨a, vs, rfl, h, t⟩
theorem D.mkLst {n : Nat} (h : n < N) (hl : IsL K H (φ n)) : D K φ N H (.lst n) (.ref (φ n)) := by simp only [D]; exact ⟨h, trivial, hl⟩
theorem D.mkDic {n : Nat} (h : n < N) (hl : IsD H (φ n)) : D K φ N H (.dic n) (.ref (φ n)) := by simp only [D]; exact ⟨h, trivial, hl⟩
end
noncomputable def SqR (K : PySem.W.Frag) (H : Hp) (a : Addr) (xs : List V) : Prop :=
  (∃ o, H a = some (.frz o (.lst xs))) ∨
    ∃ (o : Obj) (its : Array Value) (n : Nat), K.lookup a = some o ∧ o.cls = .type "list" ∧ o.dict = none ∧ o.data = .seq its n ∧ its.size ≤ sizeLine ∧ Vals xs its.toList
theorem SqR.sq {K : PySem.W.Frag} {H : Hp} {a : Addr} {xs : List V} (h : SqR K H a xs) : SqL K H a xs := by
  rcases h with h | h
  · exact .inl (.inr h)
  · exact .inr h
noncomputable def Holds (K : PySem.W.Frag) (φ : Nat → Addr) (N : Nat) (H : Hp) : SO → Addr → Prop
  | .ro xs, a => ∃ vs, SqR K H a vs ∧ DL K φ N H xs vs
  | .rw xs, a => ∃ vs, H a = some (.lst vs) ∧ DL K φ N H xs vs
  | .dc kvs, a => ∃ vs : List (Key × V), H a = some (.dK vs) ∧ K.lookup a = none ∧ kvs.map (·.1) = vs.map (·.1) ∧ DL K φ N H (kvs.map (·.2)) (vs.map (·.2))
  | .ob C fs, a => ∃ (c dx : Addr) (vs : List (Str × V)), H a = some (.ins c dx vs) ∧ K.lookup a = none ∧ PySem.W.nsIn K mainGlobals C = some (some (.ref c)) ∧ fs.map (·.1) = vs.map (·.1) ∧ DL K φ N H (fs.map (·.2)) (vs.map (·.2))
noncomputable def SO.wr : SO → Bool
  | .ro _ => false
  | _ => true
structure Rep (K : PySem.W.Frag) (φ : Nat → Addr) (st : Sto) (H : Hp) : Prop where
  injA : ∀ (i j : Nat) a b, st[i]? = some a → st[j]? = some b → a.wr = true → b.wr = true → φ i = φ j → i = j
  all : ∀ (i : Nat) o, st[i]? = some o → Holds K φ st.length H o (φ i)
section
variable {K : PySem.W.Frag} {φ φ' : Nat → Addr} {N N' : Nat} {st : Sto} {H H' : Hp} {p : Addr}
theorem Rep.inj (R : Rep K φ st H) : ∀ (i j : Nat) xs ys, st[i]? = some (.rw xs) → st[j]? = some (.rw ys) → φ i = φ j → i = j := fun i j _ _ e1 e2 h => R.injA i j _ _ e1 e2 rfl rfl h
theorem Rep.ro (R : Rep K φ st H) : ∀ (i : Nat) xs, st[i]? = some (.ro xs) → ∃ vs, SqR K H (φ i) vs ∧ DL K φ st.length H xs vs := fun i _ e => R.all i _ e
theorem Rep.rw (R : Rep K φ st H) : ∀ (i : Nat) xs, st[i]? = some (.rw xs) → ∃ vs, H (φ i) = some (.lst vs) ∧ DL K φ st.length H xs vs := fun i _ e => R.all i _ e
theorem Rep.seq (R : Rep K φ st H) {i : Nat} {o : SO} (e : st[i]? = some o) (hl : IsL K H (φ i)) : ∃ vs, SqL K H (φ i) vs ∧ DL K φ st.length H o.items vs := by
  have no : ∀ {u : HO}, H (φ i) = some u → K.lookup (φ i) = none → (∀ vs, u ≠ .lst vs) → (∀ ob vs, u ≠ .frz ob vs) → False := by
    intro u h hk h1 h2
    obtain ⟨vs, (h3 | ⟨ob, h3⟩) | ⟨ob, _, _, h3, _⟩⟩ := hl
    · rw [h] at h3; exact h1 _ (Option.some.inj h3)
    · rw [h] at h3; exact h2 _ _ (Option.some.inj h3)
    · rw [hk] at h3; cases h3
  cases o with
  | ro xs =>
    obtain ⟨vs, h1, h2⟩ := R.ro i xs e
    exact ⟨vs, h1.sq, h2⟩
  | rw xs =>
    obtain ⟨vs, h1, h2⟩ := R.rw i xs e
    exact ⟨vs, SqL.of h1, h2⟩
  | dc kvs =>
    obtain ⟨vs, h1, h2, _⟩ := R.all i _ e
    exact (no h1 h2 (fun _ z => by cases z) (fun _ _ z => by cases z)).elim
  | ob C fs =>
    obtain ⟨c, dx, vs, h1, h2, _⟩ := R.all i _ e
    exact (no h1 h2 (fun _ z => by cases z) (fun _ _ z => by cases z)).elim
theorem sqT_upd {a : Addr} {vs : List V} {o : HO} (h : SqT K H a vs) (hp : H p = none) : SqT K (upd H p o) a vs := by
  rcases h with (h | ⟨ob, h⟩) | h
  · exact .inl (.inl (by rw [upd_ne (ne_of_none h hp)]; exact h))
  · exact .inl (.inr ⟨ob, by rw [upd_ne (ne_of_none h hp)]; exact h⟩)
  · exact .inr h
theorem sqR_upd {a : Addr} {vs : List V} {o : HO} (h : SqR K H a vs) (hp : H p = none) : SqR K (upd H p o) a vs := by
  rcases h with ⟨ob, h⟩ | h
  · exact .inl ⟨ob, by rw [upd_ne (ne_of_none h hp)]; exact h⟩
  · exact .inr h
theorem sqT_updL {a : Addr} {vs ws : List V} {o : HO} (h : SqT K H a vs) (hp : H p = some (.lst ws)) : SqT K (upd H p o) a vs := by
  rcases h with (h | ⟨ob, h⟩) | h
  · exact .inl (.inl (by rw [upd_ne (ne_of h hp (by intro z; cases z))]; exact h))
  · exact .inl (.inr ⟨ob, by rw [upd_ne (ne_of h hp (by intro z; cases z))]; exact h⟩)
  · exact .inr h
theorem sqL_upd {a : Addr} {vs : List V} {o : HO} (h : SqL K H a vs) (hp : H p = none) : SqL K (upd H p o) a vs := by
  rcases h with (h | ⟨ob, h⟩) | h
  · exact .inl (.inl (by rw [upd_ne (ne_of_none h hp)]; exact h))
  · exact .inl (.inr ⟨ob, by rw [upd_ne (ne_of_none h hp)]; exact h⟩)
  · exact .inr h
theorem isL_upd {a : Addr} {o : HO} (h : IsL K H a) (hp : H p = none) : IsL K (upd H p o) a := let ⟨vs, h⟩ := h; ⟨vs, sqL_upd h hp⟩
theorem isD_upd {a : Addr} {o : HO} (h : IsD H a) (hp : H p = none) : IsD (upd H p o) a := let ⟨vs, h⟩ := h; ⟨vs, by rw [upd_ne (ne_of_none h hp)]; exact h⟩
theorem isO_upd {a : Addr} {o : HO} (h : IsO H a) (hp : H p = none) : IsO (upd H p o) a := let ⟨c, d, f, h⟩ := h; ⟨c, d, f, by rw [upd_ne (ne_of_none h hp)]; exact h⟩
theorem evo_new {o : HO} (hp : H p = none) : Evo K φ N H φ N (upd H p o) := ⟨Nat.le_refl _, fun _ _ => rfl, fun _ _ h => sqT_upd h hp, fun _ _ h => isL_upd h hp, fun _ _ h => isD_upd h hp, fun _ _ h => isO_upd h hp⟩
theorem Holds.stay {o : SO} {a : Addr} (h : Holds K φ N H o a) (e : Evo K φ N H φ' N' H') (hr : ∀ vs, SqR K H a vs → SqR K H' a vs) (hw : o.wr = true → H' a = H a) : Holds K φ' N' H' o a := by
  cases o with
  | ro xs => obtain ⟨vs, h1, h2⟩ := h; exact ⟨vs, hr vs h1, h2.evo e⟩
  | rw xs => obtain ⟨vs, h1, h2⟩ := h; exact ⟨vs, by rw [hw rfl]; exact h1, h2.evo e⟩
  | dc kvs => obtain ⟨vs, h1, h2, h3, h4⟩ := h; exact ⟨vs, by rw [hw rfl]; exact h1, h2, h3, h4.evo e⟩
  | ob C fs => obtain ⟨c, dx, vs, h1, h2, h3, h4, h5⟩ := h; exact ⟨c, dx, vs, by rw [hw rfl]; exact h1, h2, h3, h4, h5.evo e⟩
theorem Holds.some_ {o : SO} {a : Addr} (h : Holds K φ N H o a) (hw : o.wr = true) : ∃ u, H a = some u := by
  cases o with
  | ro xs => cases hw
  | rw xs => obtain ⟨vs, h1, _⟩ := h; exact ⟨_, h1⟩
  | dc kvs => obtain ⟨vs, h1, _⟩ := h; exact ⟨_, h1⟩
  | ob C fs => obtain ⟨c, dx, vs, h1, _⟩ := h; exact ⟨_, h1⟩
theorem Rep.laid {o : HO} (R : Rep K φ st H) (hp : H p = none) : Rep K φ st (upd H p o) :=
  ⟨R.injA, fun i x e => (R.all i x e).stay (evo_new hp) (fun _ h => sqR_upd h hp) fun w => by
    obtain ⟨u, h⟩ := (R.all i x e).some_ w
    exact upd_ne (ne_of_none h hp)⟩
noncomputable def phiNew (φ : Nat → Addr) (n : Nat) (p : Addr) : Nat → Addr := fun i => if i = n then p else φ i
theorem phi_at {n : Nat} : phiNew φ n p n = p := by unfold phiNew; rw [if_pos rfl]
theorem phi_lt {n i : Nat} (h : i < n) : phiNew φ n p i = φ i := by unfold phiNew; rw [if_neg (Nat.ne_of_lt h)]
theorem evo_add {o : SO} {u : HO} (hp : H p = none) : Evo K φ st.length H (phiNew φ st.length p) (st ++ [o]).length (upd H p u) :=
  ⟨by rw [List.length_append]; exact Nat.le_add_right _ _, fun i hi => phi_lt hi, fun _ _ h => sqT_upd h hp, fun _ _ h => isL_upd h hp, fun _ _ h => isD_upd h hp, fun _ _ h => isO_upd h hp⟩
theorem evo_lst {vs : List V} {xs : List Dt} (hp : H p = none) : Evo K φ st.length H (phiNew φ st.length p) (st ++ [SO.rw xs]).length (upd H p (.lst vs)) := evo_add hp
theorem get_snoc {α : Type} {l : List α} {x y : α} {i : Nat} (e : (l ++ [x])[i]? = some y) : (i < l.length ∧ l[i]? = some y) ∨ (i = l.length ∧ y = x) := by
  by_cases h : i < l.length
  · left
    rw [List.getElem?_append_left h] at e
    exact ⟨h, e⟩
  · right
    rw [List.getElem?_append_right (Nat.not_lt.mp h)] at e
    have h0 : i - l.length = 0 := by
      cases q : i - l.length with
      | zero => rfl
      | succ n => rw [q] at e; simp at e
    rw [h0] at e
    have : x = y := by simpa using e
    exact ⟨by omega, this.symm⟩
theorem lt_of_get {α : Type} {l : List α} {y : α} {i : Nat} (e : l[i]? = some y) : i < l.length := (List.getElem?_eq_some_iff.mp e).1
theorem Rep.add {o : SO} {u : HO} (R : Rep K φ st H) (hp : H p = none) (hd : Holds K (phiNew φ st.length p) (st ++ [o]).length (upd H p u) o p) : Rep K (phiNew φ st.length p) (st ++ [o]) (upd H p u) := by
  have ev : Evo K φ st.length H (phiNew φ st.length p) (st ++ [o]).length (upd H p u) := evo_add hp
  have notp : ∀ (i : Nat) x, st[i]? = some x → x.wr = true → φ i ≠ p := fun i x e w z => by
    obtain ⟨v, h⟩ := (R.all i x e).some_ w
    rw [z, hp] at h; cases h
  refine ⟨fun i j a b e1 e2 w1 w2 h => ?_, fun i x e => ?_⟩
  · rcases get_snoc e1 with ⟨l1, e1⟩ | ⟨l1, e1⟩
    · rcases get_snoc e2 with ⟨l2, e2⟩ | ⟨l2, e2⟩
      · rw [phi_lt l1, phi_lt l2] at h
        exact R.injA i j _ _ e1 e2 w1 w2 h
      · rw [phi_lt l1, l2, phi_at] at h
        exact absurd h (notp i _ e1 w1)
    · rcases get_snoc e2 with ⟨l2, e2⟩ | ⟨l2, e2⟩
      · rw [phi_lt l2, l1, phi_at] at h
        exact absurd h.symm (notp j _ e2 w2)
      · rw [l1, l2]
  · rcases get_snoc e with ⟨l1, e1⟩ | ⟨l1, e1⟩
    · rw [phi_lt l1]
      exact (R.all i x e1).stay ev (fun _ h => sqR_upd h hp) fun w => upd_ne (notp i x e1 w)
    · rw [l1, phi_at, e1]; exact hd
theorem Rep.newL {vs : List V} {xs : List Dt} (R : Rep K φ st H) (hp : H p = none) (hd : DL K φ st.length H xs vs) : Rep K (phiNew φ st.length p) (st ++ [.rw xs]) (upd H p (.lst vs)) :=
  R.add hp ⟨vs, upd_same, hd.evo (evo_add hp)⟩
theorem sqT_updW {a : Addr} {vs : List V} {u w : HO} (h : SqT K H a vs) (hp : H p = some u) (h1 : ∀ xs, u ≠ .tup xs) (h2 : ∀ o x, u ≠ .frz o x) : SqT K (upd H p w) a vs := by
  rcases h with (h | ⟨ob, h⟩) | h
  · exact .inl (.inl (by rw [upd_ne (ne_of h hp (fun z => h1 _ z.symm))]; exact h))
  · exact .inl (.inr ⟨ob, by rw [upd_ne (ne_of h hp (fun z => h2 _ _ z.symm))]; exact h⟩)
  · exact .inr h
theorem sqR_updW {a : Addr} {vs : List V} {u w : HO} (h : SqR K H a vs) (hp : H p = some u) (h2 : ∀ o x, u ≠ .frz o x) : SqR K (upd H p w) a vs := by
  rcases h with ⟨ob, h⟩ | h
  · exact .inl ⟨ob, by rw [upd_ne (ne_of h hp (fun z => h2 _ _ z.symm))]; exact h⟩
  · exact .inr h
noncomputable def sameK : HO → HO → Prop
  | .lst _, .lst _ => True
  | .dK _, .dK _ => True
  | .ins _ _ _, .ins _ _ _ => True
  | _, _ => False
theorem isL_updW {a : Addr} {u w : HO} (h : IsL K H a) (hp : H p = some u) (hk : sameK u w) : IsL K (upd H p w) a := by
  by_cases e : a = p
  · subst e
    cases u <;> cases w <;> first | exact hk.elim | skip
    · exact ⟨_, SqL.of upd_same⟩
    · obtain ⟨vs, (h | ⟨ob, h⟩) | h⟩ := h
      · rw [hp] at h; cases h
      · rw [hp] at h; cases h
      · exact ⟨vs, .inr h⟩
    · obtain ⟨vs, (h | ⟨ob, h⟩) | h⟩ := h
      · rw [hp] at h; cases h
      · rw [hp] at h; cases h
      · exact ⟨vs, .inr h⟩
  · obtain ⟨vs, (h | ⟨ob, h⟩) | h⟩ := h
    · exact ⟨vs, .inl (.inl (by rw [upd_ne e]; exact h))⟩
    · exact ⟨vs, .inl (.inr ⟨ob, by rw [upd_ne e]; exact h⟩)⟩
    · exact ⟨vs, .inr h⟩
theorem isD_updW {a : Addr} {u w : HO} (h : IsD H a) (hp : H p = some u) (hk : sameK u w) : IsD (upd H p w) a := by
  by_cases e : a = p
  · subst e
    obtain ⟨vs, h⟩ := h
    rw [hp] at h
    cases h
    cases w <;> first | exact hk.elim | exact ⟨_, upd_same⟩
  · obtain ⟨vs, h⟩ := h
    exact ⟨vs, by rw [upd_ne e]; exact h⟩
theorem isO_updW {a : Addr} {u w : HO} (h : IsO H a) (hp : H p = some u) (hk : sameK u w) : IsO (upd H p w) a := by
  by_cases e : a = p
  · subst e
    obtain ⟨c, d, f, h⟩ := h
    rw [hp] at h
    cases h
    cases w <;> first | exact hk.elim | exact ⟨_, _, _, upd_same⟩
  · obtain ⟨c, d, f, h⟩ := h
    exact ⟨c, d, f, by rw [upd_ne e]; exact h⟩
theorem sameK_ne {u w : HO} (hk : sameK u w) : (∀ xs, u ≠ .tup xs) ∧ ∀ o x, u ≠ .frz o x := by
  cases u <;> first | exact hk.elim | exact ⟨(fun _ z => nomatch z), (fun _ _ z => nomatch z)⟩
theorem evo_setW {n : Nat} {u w : HO} {o : SO} (hn : n < st.length) (h : H (φ n) = some u) (hk : sameK u w) : Evo K φ st.length H φ (st.set n o).length (upd H (φ n) w) :=
  ⟨by rw [List.length_set]; exact Nat.le_refl _, fun _ _ => rfl, fun _ _ hh => sqT_updW hh h (sameK_ne hk).1 (sameK_ne hk).2, fun _ _ hh => isL_updW hh h hk, fun _ _ hh => isD_updW hh h hk, fun _ _ hh => isO_updW hh h hk⟩
theorem evo_set {n : Nat} {vs ws : List V} {o : SO} (h : H (φ n) = some (.lst ws)) : Evo K φ st.length H φ (st.set n o).length (upd H (φ n) (.lst vs)) :=
  ⟨by rw [List.length_set]; exact Nat.le_refl _, fun _ _ => rfl, fun _ _ hh => sqT_updL hh h, fun _ _ hh => isL_updW hh h trivial, fun _ _ hh => isD_updW hh h trivial, fun _ _ hh => isO_updW hh h trivial⟩
theorem Rep.put {n : Nat} {u w : HO} {o q : SO} (R : Rep K φ st H) (hn : st[n]? = some q) (hq : q.wr = true) (ho : o.wr = true) (h : H (φ n) = some u) (hk : sameK u w) (hd : Holds K φ (st.set n o).length (upd H (φ n) w) o (φ n)) : Rep K φ (st.set n o) (upd H (φ n) w) := by
  have hlt := lt_of_get hn
  have ev : Evo K φ st.length H φ (st.set n o).length (upd H (φ n) w) := evo_setW hlt h hk
  have get : ∀ {i : Nat} {x : SO}, (st.set n o)[i]? = some x → (i = n ∧ x = o) ∨ (i ≠ n ∧ st[i]? = some x) := fun {i x} e => by
    by_cases h : i = n
    · left
      subst h
      rw [List.getElem?_set_self hlt] at e
      exact ⟨rfl, (Option.some.inj e).symm⟩
    · right
      rw [List.getElem?_set_ne (Ne.symm h)] at e
      exact ⟨h, e⟩
  refine ⟨fun i j a b e1 e2 w1 w2 hh => ?_, fun i x e => ?_⟩
  · have g : ∀ {i : Nat} {a : SO}, (st.set n o)[i]? = some a → a.wr = true → ∃ a', st[i]? = some a' ∧ a'.wr = true := fun {i a} e w => by
      rcases get e with ⟨h, _⟩ | ⟨_, h⟩
      · rw [h]; exact ⟨q, hn, hq⟩
      · exact ⟨a, h, w⟩
    obtain ⟨z1, g1, y1⟩ := g e1 w1
    obtain ⟨z2, g2, y2⟩ := g e2 w2
    exact R.injA i j z1 z2 g1 g2 y1 y2 hh
  · rcases get e with ⟨h1, h2⟩ | ⟨h1, h2⟩
    · rw [h1, h2]; exact hd
    · exact (R.all i x h2).stay ev (fun _ hh => sqR_updW hh h (sameK_ne hk).2) fun w => upd_ne fun z => h1 (R.injA i n x q h2 hn w hq z)
theorem Rep.setL {n : Nat} {vs : List V} {xs ys : List Dt} (R : Rep K φ st H) (hn : st[n]? = some (.rw ys)) (hd : DL K φ st.length H xs vs) : Rep K φ (st.set n (.rw xs)) (upd H (φ n) (.lst vs)) := by
  obtain ⟨ws, hw, _⟩ := R.rw n ys hn
  exact R.put hn rfl rfl hw trivial ⟨vs, upd_same, hd.evo (evo_set hw)⟩
end
noncomputable abbrev VD := Dt → Sto → Prop
noncomputable abbrev TD := Rho → Sto → VD → Prop
noncomputable abbrev TBD := Rho → Sto → (Bool → Sto → Prop) → Prop
noncomputable abbrev TAD := Rho → Sto → (List Dt → Sto → Prop) → Prop
structure EndsD where
  nx : Rho → Sto → Prop
  rt : VD
  bk : Rho → Sto → Prop := fun _ _ => False
  ct : Rho → Sto → Prop := fun _ _ => False
noncomputable abbrev TSD := EndsD → Rho → Sto → Prop
noncomputable def DR (K : PySem.W.Frag) (φ : Nat → Addr) (N : Nat) (H : Hp) (ρ : Rho) (σ : L2.St) : Prop :=
  ρ.length = σ.length ∧ ∀ (i : Nat) d, ρ[i]? = some (some d) → ∃ v, σ[i]? = some (some v) ∧ D K φ N H d v
section
variable {K : PySem.W.Frag} {φ φ' : Nat → Addr} {N N' : Nat} {H H' : Hp} {ρ : Rho} {σ : L2.St}
theorem DR.evo (h : DR K φ N H ρ σ) (e : Evo K φ N H φ' N' H') : DR K φ' N' H' ρ σ :=
  ⟨h.1, fun i d q => let ⟨v, h1, h2⟩ := h.2 i d q; ⟨v, h1, h2.evo e⟩⟩
theorem DR.set {d : Dt} {v : V} (h : DR K φ N H ρ σ) (hd : D K φ N H d v) (i : Nat) : DR K φ N H (ρ.set i (some d)) (σ.set i (some v)) := by
  refine ⟨by rw [List.length_set, List.length_set]; exact h.1, fun j e q => ?_⟩
  by_cases hj : j = i
  · subst hj
    have hl : j < ρ.length := by
      have := lt_of_get q
      rwa [List.length_set] at this
    rw [List.getElem?_set_self hl] at q
    cases q
    exact ⟨v, by rw [List.getElem?_set_self (by rw [← h.1]; exact hl)], hd⟩
  · rw [List.getElem?_set_ne (Ne.symm hj)] at q
    rw [List.getElem?_set_ne (Ne.symm hj)]
    exact h.2 j e q
end
noncomputable def Pre (K : PySem.W.Frag) (φ : Nat → Addr) (st : Sto) (H : Hp) (ρ : Rho) (σ : L2.St) : Prop := Rep K φ st H ∧ DR K φ st.length H ρ σ
noncomputable def Bhd (K : PySem.W.Frag) (φ : Nat → Addr) (st : Sto) (H : Hp) (φ' : Nat → Addr) (st' : Sto) (H' : Hp) : Prop := Rep K φ' st' H' ∧ Evo K φ st.length H φ' st'.length H'
noncomputable def liftE (K : PySem.W.Frag) (t : TD) : TE := fun σ H Q => ∃ φ st ρ P, Pre K φ st H ρ σ ∧ t ρ st P ∧
  ∀ d st', P d st' → ∀ φ' H' v, Bhd K φ st H φ' st' H' → D K φ' st'.length H' d v → Q v H'
noncomputable def liftT (K : PySem.W.Frag) (t : TBD) : TT := fun σ H Q => ∃ φ st ρ P, Pre K φ st H ρ σ ∧ t ρ st P ∧
  ∀ b st', P b st' → ∀ φ' H', Bhd K φ st H φ' st' H' → Q b H'
noncomputable def liftA (K : PySem.W.Frag) (t : TAD) : TA := fun σ H Q => ∃ φ st ρ P, Pre K φ st H ρ σ ∧ t ρ st P ∧
  ∀ ds st', P ds st' → ∀ φ' H' vs, Bhd K φ st H φ' st' H' → DL K φ' st'.length H' ds vs → Q vs H'
noncomputable def liftS (K : PySem.W.Frag) (t : TSD) : TS := fun E σ H => ∃ φ st ρ P, Pre K φ st H ρ σ ∧ t P ρ st ∧
  (∀ ρ' st', P.nx ρ' st' → ∀ φ' H' σ', Bhd K φ st H φ' st' H' → DR K φ' st'.length H' ρ' σ' → E.nx σ' H') ∧
  (∀ ρ' st', P.bk ρ' st' → ∀ φ' H' σ', Bhd K φ st H φ' st' H' → DR K φ' st'.length H' ρ' σ' → E.bk σ' H') ∧
  (∀ ρ' st', P.ct ρ' st' → ∀ φ' H' σ', Bhd K φ st H φ' st' H' → DR K φ' st'.length H' ρ' σ' → E.ct σ' H') ∧
  (∀ d st', P.rt d st' → ∀ φ' H' v, Bhd K φ st H φ' st' H' → D K φ' st'.length H' d v → E.rt v H')
noncomputable def DE (X : Cx) (e : Expr) (t : TD) : Prop := PE X e (liftE X.K t)
noncomputable def DT (X : Cx) (e : Expr) (t : TBD) : Prop := PT X e (liftT X.K t)
noncomputable def DA (X : Cx) (es : List Expr) (t : TAD) : Prop := PA X es (liftA X.K t)
noncomputable def DS (X : Cx) (s : Stmt) (t : TSD) : Prop := PS X s (liftS X.K t)
noncomputable def DSs (X : Cx) (s : List Stmt) (t : TSD) : Prop := PSs X s (liftS X.K t)
section
variable {K : PySem.W.Frag} {φ φ1 φ2 : Nat → Addr} {st st1 st2 : Sto} {H H1 H2 : Hp} {ρ : Rho} {σ : L2.St}
theorem Bhd.refl (h : Rep K φ st H) : Bhd K φ st H φ st H := ⟨h, .refl⟩
theorem Bhd.trans (a : Bhd K φ st H φ1 st1 H1) (b : Bhd K φ1 st1 H1 φ2 st2 H2) : Bhd K φ st H φ2 st2 H2 := ⟨b.1, a.2.trans b.2⟩
theorem Pre.on (p : Pre K φ st H ρ σ) (b : Bhd K φ st H φ1 st1 H1) : Pre K φ1 st1 H1 ρ σ := ⟨b.1, p.2.evo b.2⟩
end
theorem _root_.L2.PE.imp {X : Cx} {e : Expr} {t t' : TE} (h : PE X e t) (i : ∀ σ H Q, t' σ H Q → t σ H Q) : PE X e t' := fun pins s σ H Q I q => h pins s σ H Q I (i σ H Q q)
theorem _root_.L2.PT.imp {X : Cx} {e : Expr} {t t' : TT} (h : PT X e t) (i : ∀ σ H Q, t' σ H Q → t σ H Q) : PT X e t' := fun pins s σ H Q I q => h pins s σ H Q I (i σ H Q q)
theorem _root_.L2.PA.imp {X : Cx} {es : List Expr} {t t' : TA} (h : PA X es t) (i : ∀ σ H Q, t' σ H Q → t σ H Q) : PA X es t' := fun pos pins s σ H Q I q => h pos pins s σ H Q I (i σ H Q q)
theorem _root_.L2.PS.imp {X : Cx} {e : Stmt} {t t' : TS} (h : PS X e t) (i : ∀ D σ H, t' D σ H → t D σ H) : PS X e t' := fun pins s σ H Dn I q => h pins s σ H Dn I (i Dn σ H q)
theorem _root_.L2.PSs.imp {X : Cx} {e : List Stmt} {t t' : TS} (h : PSs X e t) (i : ∀ D σ H, t' D σ H → t D σ H) : PSs X e t' := fun pins s σ H Dn I q => h pins s σ H Dn I (i Dn σ H q)
end L3
namespace L3
open PySem PySem.Spec PyProof.Rows L2
open AutoSeq1 (wpAny_loadPart')
section
variable {prog : Program} {w : World} {A : Around} {E : Value → Shared → Prop} {s : Shared}
theorem cat_tupA {t b : Addr} {vs ws : List Value} {Q : Value → Shared → Prop} (ht : IsTup s.heap t vs.toArray) (hb : IsTup s.heap b ws.toArray)
    (h0 : vs = [] → Q (.ref b) s) (h1 : vs ≠ [] → ws = [] → Q (.ref t) s) (h2 : vs ≠ [] → ws ≠ [] → Q (.ref s.heap.objs.size) { s with heap := s.heap.push { cls := .type "tuple", data := .seq (vs ++ ws).toArray } })
    (hsz : vs.length + ws.length ≤ sizeLine) : wpAny (model prog w) A (binaryOp .Add (.ref t) (.ref b)) Q E s := by
  by_cases hv : vs = []
  · obtain ⟨⟨cls, dd, data, sl⟩, ho, hc, n, hd⟩ := id ht
    obtain ⟨⟨cls2, dd2, data2, sl2⟩, ho2, hc2, n2, hd2⟩ := id hb
    simp only at hc hd hc2 hd2
    subst hc hd hc2 hd2
    exact concat_meets ⟨_, ho, rfl⟩ ⟨_, ho2, rfl⟩ noFill_tuple_add seq_tuple_add PySem.F.slot_tuple_add PySem.F.entry_tuple_add (PySem.F.args_tuple_add_2 _ _)
      (tuple_addW0 t b vs.toArray ws.toArray n n2 dd dd2 sl sl2 (by simp [hv])) ⟨ho, ho2, h0 hv⟩
  · exact HT.cat_tup ht hb hv (h1 hv) (h2 hv) hsz
end
theorem noFill_tuple_mul : fillsNumberSlot (.type "tuple") "mul" = pure false :=
  PySem.fillsNumberSlot_seq (id := "tuple.__mul__") (r := some (.builtin "tuple.__rmul__")) F.slot_tuple_mul.lookup (by decide +kernel) F.slot_tuple_rmul.lookup (by decide +kernel)
theorem repeat_tuple : seqRepeat? (.type "tuple") = pure (some (.builtin "tuple.__mul__")) := by
  unfold seqRepeat?
  rw [PySem.seqSlot_of (T := "tuple") (name := "__mul__") (id := "tuple.__mul__") F.slot_tuple_mul.lookup (by decide +kernel), PySem.seqSlot_of (T := "tuple") (name := "__rmul__") (id := "tuple.__rmul__") F.slot_tuple_rmul.lookup (by decide +kernel)]
  rfl
theorem int_rmul_tuple (a : Int) (t : Tok) (l : Addr) (items : Array Value) (n : Nat) (d : Option Addr) (sl : Array (Option Value)) :
    Meets (Builtin.«int.__rmul__» ⟨[.int a t, .ref l], []⟩) (fun _ R s => s.heap.get? l = some { cls := .type "tuple", dict := d, data := .seq items n, slots := sl } ∧ R (.ok (.ret Value.notImplemented)) s) :=
  .of_wp fun prog w A R s h => by obtain ⟨hp, g, d, tk, os⟩ := s; obtain ⟨hl, h⟩ := h; wp_walk; exact ⟨_, rfl, h⟩
theorem tuple_mulW (l : Addr) (items : Array Value) (n : Nat) (d : Option Addr) (sl : Array (Option Value)) (x : Int) (u : Tok) (h0 : items.isEmpty = false) (h1 : 2 ≤ x) (h2 : x < 2 ^ 20) (h3 : items.size * x.toNat ≤ sizeLine) :
    Meets (Builtin.«tuple.__mul__» ⟨[.ref l, .int x u], []⟩) (fun _ R s => s.heap.get? l = some { cls := .type "tuple", dict := d, data := .seq items n, slots := sl } ∧
      R (.ok (.ret (Value.ref s.heap.objs.size))) { s with heap := s.heap.push { cls := Value.type "tuple", data := Data.seq (List.foldl (fun x1 x2 => x1 ++ x2) #[] (List.replicate x.toNat items)) }, toks := s.toks }) :=
  .of_wp fun prog w A R s h => by
    obtain ⟨hp, g, d, tk, os⟩ := s; obtain ⟨hl, h⟩ := h
    have f1 := AutoSeq1.idx_int
    have e1 : (decide (x < -(2 ^ 63)) || decide (x ≥ 2 ^ 63)) = false := by
      rw [decide_eq_false (by omega), decide_eq_false (by omega)]; rfl
    have e2 : (items.isEmpty || x == 1) = false := by
      rw [h0, Bool.false_or]; exact beq_eq_false_iff_ne.mpr (by omega)
    have e3 : (decide (x ≤ 0) || items.isEmpty) = false := by
      rw [h0, Bool.or_false]; exact decide_eq_false (by omega)
    have e4 : ¬ ((items.size : Int) * x > (2 ^ 63 - 1) / 8) := by
      have hb : items.size * x.toNat ≤ 16777216 := by rw [← sizeLine_eq]; exact h3
      have : (items.size : Int) * x = ((items.size * x.toNat : Nat) : Int) := by
        rw [Int.natCast_mul, Int.toNat_of_nonneg (by omega)]
      rw [this]
      omega
    wp_walk using wpAny_loadPart' hl
    rw [if_neg (fun q => Bool.false_ne_true (e1.symm.trans q))]
    wp_walk using wpAny_loadPart' hl
    rw [if_neg (fun q => Bool.false_ne_true (e2.symm.trans q))]
    wp_walk using wpAny_loadPart' hl
    rw [if_neg (fun q => Bool.false_ne_true (e3.symm.trans q))]
    wp_walk using wpAny_loadPart' hl
    rw [if_neg e4]
    wp_walk using wpAny_loadPart' hl
    have hx : (items.size : Int) * x = ((items.size * x.toNat : Nat) : Int) := by
      rw [Int.natCast_mul, Int.toNat_of_nonneg (by omega)]
    have e5 : Builtin.Tuple.tupleTooMany ((items.size : Int) * x) = false := by
      unfold Builtin.Tuple.tupleTooMany
      rw [hx]
      exact decide_eq_false (by omega)
    rw [if_neg (fun q => Bool.false_ne_true (e5.symm.trans q))]
    have f0 : List.foldl (fun x1 x2 => x1 ++ x2) #[] (List.replicate x.toNat items) = (List.replicate x.toNat items.toList).flatten.toArray := by
      have := foldl_rep items.toList x.toNat []
      rw [List.nil_append, Array.toArray_toList] at this
      exact this
    have hsz : sizeOk (.seq (List.foldl (fun x1 x2 => x1 ++ x2) #[] (List.replicate x.toNat items))) := by
      show (List.foldl (fun x1 x2 => x1 ++ x2) #[] (List.replicate x.toNat items)).size ≤ sizeLine
      rw [f0, List.size_toArray, len_rep, Array.length_toList, Nat.mul_comm]
      exact h3
    unfold Builtin.Tuple.tupleExact
    exact wpAny_bind (wpAny_newObj_type (wpAny_pure ⟨_, rfl, h⟩) hsz)
section
variable {X : Cx}
theorem op_catA : OpR X (binaryOp .Add) (fun x y H Q => ∃ a b xs ys, x = .ref a ∧ y = .ref b ∧ SqT X.K H a xs ∧ SqT X.K H b ys ∧ xs.length + ys.length ≤ sizeLine ∧
    (xs = [] → Q (.ref b) H) ∧ (xs ≠ [] → ys = [] → Q (.ref a) H) ∧ (xs ≠ [] → ys ≠ [] → ∀ p, H p = none → Q (.ref p) (upd H p (.tup (xs ++ ys))))) := by
  intro pins s σ H x y v u Q I rx ry h
  obtain ⟨a, b, xs, ys, rfl, rfl, ha, hb, hz, q0, q1, q2⟩ := h
  cases rx
  cases ry
  obtain ⟨its, r1, p1, _⟩ := I.tuple ha
  obtain ⟨its2, r2, p2, _⟩ := I.tuple hb
  refine cat_tupA p1 p2 (fun z => ⟨.ref b, H, I, rfl, q0 (r1.nil_iff.mp z)⟩) (fun z1 z => ⟨.ref a, H, I, rfl, q1 (fun w => z1 (r1.nil_iff.mpr w)) (r2.nil_iff.mp z)⟩) (fun z1 z => ?_) (by rw [← r1.length, ← r2.length]; exact hz)
  refine ⟨.ref s.heap.objs.size, _, I.laid (t' := s.toks) (o := .tup (xs ++ ys)) (fun b ob q => Heap.get?_push_of_some _ q) (Nat.le_refl _) ?_, rfl, q2 (fun w => z1 (r1.nil_iff.mpr w)) (fun w => z (r2.nil_iff.mpr w)) _ (I.hok.fresh (Nat.le_refl _))⟩
  exact ⟨by rw [List.length_append]; exact hz, _, r1.append r2, IsTup.new _ _⟩
theorem op_repT : OpR X (binaryOp .Mult) (fun x y H Q => ∃ a k xs, x = .ref a ∧ y = .int k ∧ SqT X.K H a xs ∧ xs ≠ [] ∧ 2 ≤ k ∧ k < 2 ^ 20 ∧ xs.length * k.toNat ≤ sizeLine ∧
    ∀ p, H p = none → Q (.ref p) (upd H p (.tup (List.replicate k.toNat xs).flatten))) := by
  intro pins s σ H x y v u Q I rx ry h
  obtain ⟨a, k, xs, rfl, rfl, ha, hne, h2, h3, hz, q⟩ := h
  cases rx
  obtain ⟨t, rfl⟩ := ry
  obtain ⟨its, r1, p1, _⟩ := I.tuple ha
  have hl := r1.length
  obtain ⟨⟨cls, dd, data, sl⟩, ho, hc, n, hd⟩ := id p1
  simp only at hc hd
  subst hc hd
  have f0 : List.foldl (fun x1 x2 => x1 ++ x2) #[] (List.replicate k.toNat its.toArray) = (List.replicate k.toNat its).flatten.toArray := by
    have := foldl_rep its k.toNat []
    rw [List.nil_append] at this
    exact this
  have hz' : its.toArray.size * k.toNat ≤ sizeLine := by rw [List.size_toArray, ← hl]; exact hz
  have he : its.toArray.isEmpty = false := by
    cases its with
    | nil => exact absurd (List.length_eq_zero_iff.mp hl) hne
    | cons _ _ => rfl
  refine wpAny_binaryOp_repeat_ref (T := "tuple") (U := "int") (by decide) ⟨_, ho, rfl⟩ (fun s' => typeIs_int s' k t) noFill_tuple_mul F.fills_int_mul F.slot_int_rmul repeat_tuple F.slot_int_index.lookup
    (call_meets F.slot_int_rmul (typeIs_int s k t) F.entry_int_rmul (F.args_int_rmul_2 _ _) (int_rmul_tuple k t a its.toArray n dd sl)
      ⟨ho, rfl, ⟨_, ho, rfl⟩, call_meets F.slot_tuple_mul ⟨_, ho, rfl⟩ F.entry_tuple_mul (F.args_tuple_mul_2 _ _) (tuple_mulW a its.toArray n dd sl k t he h2 h3 hz') ⟨ho, ?_⟩⟩)
  rw [f0]
  refine ⟨.ref s.heap.objs.size, _, I.laid (t' := s.toks) (o := .tup (List.replicate k.toNat xs).flatten) (fun b ob q => Heap.get?_push_of_some _ q) (Nat.le_refl _) ?_, rfl, q _ (I.hok.fresh (Nat.le_refl _))⟩
  exact ⟨by rw [len_rep, Nat.mul_comm]; exact hz, _, Vals.rep r1 _, IsTup.new _ _⟩
end
end L3
namespace L3
open PySem PySem.Spec PyProof.Rows L2
noncomputable def okD : Nat → Dt → Bool
  | 0, .tup _ => false
  | n + 1, .tup xs => xs.all (okD n)
  | _, .lst _ => false
  | _, .ty _ => false
  | _, .dic _ => false
  | _, .ins _ => false
  | _, _ => true
noncomputable def eqL (f : Dt → Dt → Bool) : List Dt → List Dt → Bool
  | [], [] => true
  | x :: xs, y :: ys => f x y && eqL f xs ys
  | _, _ => false
noncomputable def eqD : Nat → Dt → Dt → Bool
  | _, .non, .non => true
  | _, .bl a, .bl b => a == b
  | _, .bl a, .int b => (if a then 1 else 0) == b
  | _, .int a, .bl b => a == (if b then 1 else 0)
  | _, .int a, .int b => a == b
  | _, .str a, .str b => a == b
  | n + 1, .tup a, .tup b => eqL (eqD n) a b
  | _, _, _ => false
theorem eqL_self {f : Dt → Dt → Bool} : ∀ {xs : List Dt}, (∀ x ∈ xs, f x x = true) → eqL f xs xs = true
  | [], _ => rfl
  | x :: xs, h => by
    unfold eqL
    rw [h x List.mem_cons_self, eqL_self fun y hy => h y (List.mem_cons_of_mem _ hy)]
    rfl
theorem eqD_self : ∀ {n : Nat} {d : Dt}, okD n d = true → eqD n d d = true
  | 0, .tup _, h => by simp [okD] at h
  | n + 1, .tup xs, h => by
    simp only [okD] at h
    simp only [eqD]
    exact eqL_self fun x hx => eqD_self (List.all_eq_true.mp h x hx)
  | n, .non, _ => by cases n <;> rfl
  | n, .bl b, _ => by cases n <;> simp [eqD]
  | n, .int b, _ => by cases n <;> simp [eqD]
  | n, .str b, _ => by cases n <;> simp [eqD]
  | n, .lst _, h => by cases n <;> simp [okD] at h
  | n, .ty _, h => by cases n <;> simp [okD] at h
  | n, .dic _, h => by cases n <;> simp [okD] at h
  | n, .ins _, h => by cases n <;> simp [okD] at h
theorem eqL_range {f : Dt → Dt → Bool} : ∀ (xs ys : List Dt), eqL f xs ys = ((List.range (min xs.length ys.length)).all (fun j => f (xs.getD j .non) (ys.getD j .non)) && xs.length == ys.length)
  | [], [] => rfl
  | [], _ :: _ => by simp [eqL]
  | _ :: _, [] => by simp [eqL]
  | x :: xs, y :: ys => by
    unfold eqL
    rw [eqL_range xs ys]
    have e : min (x :: xs).length (y :: ys).length = min xs.length ys.length + 1 := by simp [Nat.succ_min_succ]
    rw [e, List.range_succ_eq_map, List.all_cons, List.all_map]
    simp only [List.getD_cons_zero, List.length_cons]
    have e2 : ((xs.length + 1 == ys.length + 1) : Bool) = (xs.length == ys.length) := by
      rw [Bool.eq_iff_iff]; simp
    rw [e2, Bool.and_assoc]
    rfl
section
variable {X : Cx} {pins : List (Addr × Obj)} {σ : L2.St} {H : Hp} {s : Shared} {φ : Nat → Addr} {N : Nat}
theorem getD_of {xs : List Dt} {j : Nat} {d : Dt} (h : xs[j]? = some d) : xs.getD j .non = d := by simp [List.getD, h]
theorem DL_inj0 {f : Dt → Bool} (hf : ∀ {d e : Dt} {v : V}, f d = true → f e = true → D X.K φ N H d v → D X.K φ N H e v → d = e) : ∀ {a b : List Dt} {vs : List V}, DL X.K φ N H a vs → DL X.K φ N H b vs → a.all f = true → b.all f = true → a = b
  | [], [], _, _, _, _, _ => rfl
  | [], y :: b, vs, h1, h2, _, _ => by
    have := h1.length; have := h2.length; simp at *; omega
  | x :: a, [], vs, h1, h2, _, _ => by
    have := h1.length; have := h2.length; simp at *; omega
  | x :: a, y :: b, vs, h1, h2, o1, o2 => by
    rw [List.all_cons, Bool.and_eq_true] at o1 o2
    simp only [DL] at h1 h2
    obtain ⟨v, r, rfl, p1, p2⟩ := h1
    obtain ⟨v', r', e, q1, q2⟩ := h2
    cases e
    rw [hf o1.1 o2.1 p1 q1, DL_inj0 hf p2 q2 o1.2 o2.2]
theorem D_inj (I : Inv X pins σ H s) : ∀ (n : Nat) {d e : Dt} {v : V}, okD n d = true → okD n e = true → D X.K φ N H d v → D X.K φ N H e v → d = e := by
  intro n
  induction n with
  | zero =>
    intro d e v o1 o2 h1 h2
    cases d <;> cases e <;> first
      | (exfalso; revert o1; simp [okD]; done)
      | (exfalso; revert o2; simp [okD]; done)
      | (simp only [D] at h1 h2; subst h1; first | (cases h2; rfl) | (cases h2))
  | succ n ih =>
    intro d e v o1 o2 h1 h2
    cases d <;> cases e <;> first
      | (exfalso; revert o1; simp [okD]; done)
      | (exfalso; revert o2; simp [okD]; done)
      | (simp only [D] at h1 h2; subst h1; first | (cases h2; rfl) | (cases h2; done) | (obtain ⟨_, _, z, _⟩ := h2; cases z))
      | (simp only [D] at h1 h2; subst h2; obtain ⟨_, _, z, _⟩ := h1; cases z)
      | (simp only [okD] at o1 o2
         obtain ⟨p, vs, e1, hs, hd⟩ := h1.tup
         obtain ⟨q, ws, e2, hs2, hd2⟩ := h2.tup
         rw [e1] at e2
         cases e2
         have := I.tuple_inj hs hs2
         subst this
         rw [DL_inj0 (f := okD n) (fun a b c d => ih a b c d) hd hd2 o1 o2])
theorem DL_inj (I : Inv X pins σ H s) {n : Nat} {a b : List Dt} {vs : List V} (h1 : DL X.K φ N H a vs) (h2 : DL X.K φ N H b vs) (o1 : a.all (okD n) = true) (o2 : b.all (okD n) = true) : a = b :=
  DL_inj0 (fun a b c d => D_inj I n a b c d) h1 h2 o1 o2
theorem eqAt_D (I : Inv X pins σ H s) : ∀ (n : Nat) {A : Around} {d e : Dt} {v w : V} {u1 u2 : Value}, A.units + n < cLine → okD n d = true → okD n e = true → D X.K φ N H d v → D X.K φ N H e w → RelV v u1 → RelV w u2 → SeqAt.EqAt A s u1 u2 (eqD n d e)
  | n, A, .non, .non, v, w, u1, u2, hu, _, _, h1, h2, r1, r2 => by cases h1.non; cases h2.non; cases r1; cases r2; cases n <;> exact SeqAt.EqAt.same _
  | n, A, .non, .bl b, v, w, u1, u2, hu, _, _, h1, h2, r1, r2 => by cases h1.non; cases h2.bl; cases r1; cases r2; cases n <;> exact SeqAt.EqAt.none_bool b
  | n, A, .non, .int b, v, w, u1, u2, hu, _, _, h1, h2, r1, r2 => by cases h1.non; cases h2.int; cases r1; obtain ⟨t, rfl⟩ := r2; cases n <;> exact SeqAt.EqAt.none_int b t
  | n, A, .non, .str b, v, w, u1, u2, hu, _, _, h1, h2, r1, r2 => by cases h1.non; cases h2.str; cases r1; obtain ⟨t, rfl⟩ := r2; cases n <;> exact SeqAt.EqAt.none_str b t
  | n, A, .bl a, .non, v, w, u1, u2, hu, _, _, h1, h2, r1, r2 => by cases h1.bl; cases h2.non; cases r1; cases r2; cases n <;> exact SeqAt.EqAt.bool_none a
  | n, A, .bl a, .bl b, v, w, u1, u2, hu, _, _, h1, h2, r1, r2 => by cases h1.bl; cases h2.bl; cases r1; cases r2; cases n <;> exact SeqAt.EqAt.bool_bool a b
  | n, A, .bl a, .int b, v, w, u1, u2, hu, _, _, h1, h2, r1, r2 => by cases h1.bl; cases h2.int; cases r1; obtain ⟨t, rfl⟩ := r2; cases n <;> exact SeqAt.EqAt.bool_int a b t
  | n, A, .bl a, .str b, v, w, u1, u2, hu, _, _, h1, h2, r1, r2 => by cases h1.bl; cases h2.str; cases r1; obtain ⟨t, rfl⟩ := r2; cases n <;> exact SeqAt.EqAt.bool_str a b t
  | n, A, .int a, .non, v, w, u1, u2, hu, _, _, h1, h2, r1, r2 => by cases h1.int; cases h2.non; obtain ⟨t, rfl⟩ := r1; cases r2; cases n <;> exact SeqAt.EqAt.int_none a t
  | n, A, .int a, .bl b, v, w, u1, u2, hu, _, _, h1, h2, r1, r2 => by cases h1.int; cases h2.bl; obtain ⟨t, rfl⟩ := r1; cases r2; cases n <;> exact SeqAt.EqAt.int_bool a t b
  | n, A, .int a, .int b, v, w, u1, u2, hu, _, _, h1, h2, r1, r2 => by cases h1.int; cases h2.int; obtain ⟨t, rfl⟩ := r1; obtain ⟨t', rfl⟩ := r2; cases n <;> exact SeqAt.EqAt.int_int a t b t'
  | n, A, .int a, .str b, v, w, u1, u2, hu, _, _, h1, h2, r1, r2 => by cases h1.int; cases h2.str; obtain ⟨t, rfl⟩ := r1; obtain ⟨t', rfl⟩ := r2; cases n <;> exact SeqAt.EqAt.int_str a t b t'
  | n, A, .str a, .non, v, w, u1, u2, hu, _, _, h1, h2, r1, r2 => by cases h1.str; cases h2.non; obtain ⟨t, rfl⟩ := r1; cases r2; cases n <;> exact SeqAt.EqAt.str_none a t
  | n, A, .str a, .bl b, v, w, u1, u2, hu, _, _, h1, h2, r1, r2 => by cases h1.str; cases h2.bl; obtain ⟨t, rfl⟩ := r1; cases r2; cases n <;> exact SeqAt.EqAt.str_bool a t b
  | n, A, .str a, .int b, v, w, u1, u2, hu, _, _, h1, h2, r1, r2 => by cases h1.str; cases h2.int; obtain ⟨t, rfl⟩ := r1; obtain ⟨t', rfl⟩ := r2; cases n <;> exact SeqAt.EqAt.str_int a t b t'
  | n, A, .str a, .str b, v, w, u1, u2, hu, _, _, h1, h2, r1, r2 => by cases h1.str; cases h2.str; obtain ⟨t, rfl⟩ := r1; obtain ⟨t', rfl⟩ := r2; cases n <;> exact SeqAt.EqAt.str_str a t b t'
  | n, A, .tup a, .non, v, w, u1, u2, hu, _, _, h1, h2, r1, r2 => by
    obtain ⟨p, vs, rfl, hs, hd⟩ := h1.tup; cases h2.non; cases r1; cases r2; obtain ⟨its, _, ht, _⟩ := I.tuple hs; cases n <;> exact SeqAt.EqAt.tuple_none ht (by omega)
  | n, A, .tup a, .bl b, v, w, u1, u2, hu, _, _, h1, h2, r1, r2 => by
    obtain ⟨p, vs, rfl, hs, hd⟩ := h1.tup; cases h2.bl; cases r1; cases r2; obtain ⟨its, _, ht, _⟩ := I.tuple hs; cases n <;> exact SeqAt.EqAt.tuple_bool b ht (by omega)
  | n, A, .tup a, .int b, v, w, u1, u2, hu, _, _, h1, h2, r1, r2 => by
    obtain ⟨p, vs, rfl, hs, hd⟩ := h1.tup; cases h2.int; cases r1; obtain ⟨t', rfl⟩ := r2; obtain ⟨its, _, ht, _⟩ := I.tuple hs; cases n <;> exact SeqAt.EqAt.tuple_int b t' ht (by omega)
  | n, A, .tup a, .str b, v, w, u1, u2, hu, _, _, h1, h2, r1, r2 => by
    obtain ⟨p, vs, rfl, hs, hd⟩ := h1.tup; cases h2.str; cases r1; obtain ⟨t', rfl⟩ := r2; obtain ⟨its, _, ht, _⟩ := I.tuple hs; cases n <;> exact SeqAt.EqAt.tuple_str b t' ht (by omega)
  | n, A, .non, .tup b, v, w, u1, u2, hu, _, _, h1, h2, r1, r2 => by
    obtain ⟨p, vs, rfl, hs, hd⟩ := h2.tup; cases h1.non; cases r1; cases r2; obtain ⟨its, _, ht, _⟩ := I.tuple hs; cases n <;> exact SeqAt.EqAt.none_tuple ht (by omega)
  | n, A, .bl a, .tup b, v, w, u1, u2, hu, _, _, h1, h2, r1, r2 => by
    obtain ⟨p, vs, rfl, hs, hd⟩ := h2.tup; cases h1.bl; cases r1; cases r2; obtain ⟨its, _, ht, _⟩ := I.tuple hs; cases n <;> exact SeqAt.EqAt.bool_tuple a ht (by omega)
  | n, A, .int a, .tup b, v, w, u1, u2, hu, _, _, h1, h2, r1, r2 => by
    obtain ⟨p, vs, rfl, hs, hd⟩ := h2.tup; cases h1.int; obtain ⟨t', rfl⟩ := r1; cases r2; obtain ⟨its, _, ht, _⟩ := I.tuple hs; cases n <;> exact SeqAt.EqAt.int_tuple a t' ht (by omega)
  | n, A, .str a, .tup b, v, w, u1, u2, hu, _, _, h1, h2, r1, r2 => by
    obtain ⟨p, vs, rfl, hs, hd⟩ := h2.tup; cases h1.str; obtain ⟨t', rfl⟩ := r1; cases r2; obtain ⟨its, _, ht, _⟩ := I.tuple hs; cases n <;> exact SeqAt.EqAt.str_tuple a t' ht (by omega)
  | 0, A, .tup a, .tup b, v, w, u1, u2, hu, o1, _, h1, h2, r1, r2 => by simp [okD] at o1
  | n + 1, A, .tup a, .tup b, v, w, u1, u2, hu, o1, o2, h1, h2, r1, r2 => by
    simp only [okD] at o1 o2
    obtain ⟨p, vs, rfl, hs, hd⟩ := h1.tup
    obtain ⟨q, ws, rfl, hs2, hd2⟩ := h2.tup
    cases r1; cases r2
    obtain ⟨its, rv, ht, _⟩ := I.tuple hs
    obtain ⟨its2, rv2, ht2, _⟩ := I.tuple hs2
    have l1 : its.toArray.size = a.length := by rw [List.size_toArray, ← rv.length, hd.length]
    have l2 : its2.toArray.size = b.length := by rw [List.size_toArray, ← rv2.length, hd2.length]
    have hu' : A.in1.units + n < cLine := by show A.units + 1 + n < cLine; omega
    have rc : SeqAt.RcAt A s (.ref p) (.ref q) (eqD (n + 1) (.tup a) (.tup b)) := by
      have := SeqAt.RcAt.tuples (A := A) (s := s) (e := fun j => eqD n (a.getD j .non) (b.getD j .non)) ht ht2 (by omega) (fun j h1 h2 => by
        have hj1 : j < a.length := by rw [← l1]; exact h1
        have hj2 : j < b.length := by rw [← l2]; exact h2
        have ea : a[j]? = some a[j] := by simp [hj1]
        have eb : b[j]? = some b[j] := by simp [hj2]
        obtain ⟨x, ex, dx⟩ := hd.get ea
        obtain ⟨y, ey, dy⟩ := hd2.get eb
        obtain ⟨ux, eux, rx⟩ := rv.get ex
        obtain ⟨uy, euy, ry⟩ := rv2.get ey
        have gx : its.toArray[j] = ux := by
          have : its[j]? = some its[j] := by simp at h1; simp [h1]
          rw [eux] at this
          simpa using (Option.some.inj this).symm
        have gy : its2.toArray[j] = uy := by
          have : its2[j]? = some its2[j] := by simp at h2; simp [h2]
          rw [euy] at this
          simpa using (Option.some.inj this).symm
        rw [gx, gy, getD_of ea, getD_of eb]
        exact eqAt_D I n hu' (List.all_eq_true.mp o1 _ (List.getElem_mem hj1)) (List.all_eq_true.mp o2 _ (List.getElem_mem hj2)) dx dy rx ry)
      rw [l1, l2] at this
      simp only [eqD]
      rw [eqL_range]
      exact this
    by_cases hpq : p = q
    · subst hpq
      have : eqD (n + 1) (.tup a) (.tup b) = true ∨ eqD (n + 1) (.tup a) (.tup b) = false := by cases eqD (n + 1) (.tup a) (.tup b) <;> simp
      have e1 : its = its2 := by
        obtain ⟨o, e, _, m, d⟩ := ht
        obtain ⟨o', e', _, m', d'⟩ := ht2
        rw [e] at e'; cases e'
        rw [d] at d'
        injection d' with d1 _
        simpa using congrArg Array.toList d1
      have ev : vs = ws := by subst e1; exact rv.inj rv2
      have eab : a = b := by
        subst ev
        exact DL_inj I hd hd2 o1 o2
      subst eab
      rw [eqD_self (by simp only [okD]; exact o1)]
      exact SeqAt.EqAt.same _
    · exact SeqAt.EqAt.of_refs hpq rc
  | n, A, .lst _, _, v, w, u1, u2, hu, o1, _, h1, h2, r1, r2 => by cases n <;> simp [okD] at o1
  | n, A, .ty _, _, v, w, u1, u2, hu, o1, _, h1, h2, r1, r2 => by cases n <;> simp [okD] at o1
  | n, A, .dic _, _, v, w, u1, u2, hu, o1, _, h1, h2, r1, r2 => by cases n <;> simp [okD] at o1
  | n, A, .ins _, _, v, w, u1, u2, hu, o1, _, h1, h2, r1, r2 => by cases n <;> simp [okD] at o1
  | n, A, .non, .lst _, v, w, u1, u2, hu, _, o1, h1, h2, r1, r2 => by cases n <;> simp [okD] at o1
  | n, A, .non, .ty _, v, w, u1, u2, hu, _, o1, h1, h2, r1, r2 => by cases n <;> simp [okD] at o1
  | n, A, .non, .dic _, v, w, u1, u2, hu, _, o1, h1, h2, r1, r2 => by cases n <;> simp [okD] at o1
  | n, A, .non, .ins _, v, w, u1, u2, hu, _, o1, h1, h2, r1, r2 => by cases n <;> simp [okD] at o1
  | n, A, .bl _, .lst _, v, w, u1, u2, hu, _, o1, h1, h2, r1, r2 => by cases n <;> simp [okD] at o1
  | n, A, .bl _, .ty _, v, w, u1, u2, hu, _, o1, h1, h2, r1, r2 => by cases n <;> simp [okD] at o1
  | n, A, .bl _, .dic _, v, w, u1, u2, hu, _, o1, h1, h2, r1, r2 => by cases n <;> simp [okD] at o1
  | n, A, .bl _, .ins _, v, w, u1, u2, hu, _, o1, h1, h2, r1, r2 => by cases n <;> simp [okD] at o1
  | n, A, .int _, .lst _, v, w, u1, u2, hu, _, o1, h1, h2, r1, r2 => by cases n <;> simp [okD] at o1
  | n, A, .int _, .ty _, v, w, u1, u2, hu, _, o1, h1, h2, r1, r2 => by cases n <;> simp [okD] at o1
  | n, A, .int _, .dic _, v, w, u1, u2, hu, _, o1, h1, h2, r1, r2 => by cases n <;> simp [okD] at o1
  | n, A, .int _, .ins _, v, w, u1, u2, hu, _, o1, h1, h2, r1, r2 => by cases n <;> simp [okD] at o1
  | n, A, .str _, .lst _, v, w, u1, u2, hu, _, o1, h1, h2, r1, r2 => by cases n <;> simp [okD] at o1
  | n, A, .str _, .ty _, v, w, u1, u2, hu, _, o1, h1, h2, r1, r2 => by cases n <;> simp [okD] at o1
  | n, A, .str _, .dic _, v, w, u1, u2, hu, _, o1, h1, h2, r1, r2 => by cases n <;> simp [okD] at o1
  | n, A, .str _, .ins _, v, w, u1, u2, hu, _, o1, h1, h2, r1, r2 => by cases n <;> simp [okD] at o1
  | n, A, .tup _, .lst _, v, w, u1, u2, hu, _, o1, h1, h2, r1, r2 => by cases n <;> simp [okD] at o1
  | n, A, .tup _, .ty _, v, w, u1, u2, hu, _, o1, h1, h2, r1, r2 => by cases n <;> simp [okD] at o1
  | n, A, .tup _, .dic _, v, w, u1, u2, hu, _, o1, h1, h2, r1, r2 => by cases n <;> simp [okD] at o1
  | n, A, .tup _, .ins _, v, w, u1, u2, hu, _, o1, h1, h2, r1, r2 => by cases n <;> simp [okD] at o1
end
end L3
namespace L3
open PySem PySem.Spec PyProof.Rows L2
noncomputable abbrev RD2 := Dt → Dt → Sto → VD → Prop
noncomputable abbrev RDL := List Dt → Sto → VD → Prop
noncomputable def liftR (K : PySem.W.Frag) (r : RD2) : R2 := fun v w H Q => ∃ φ st x y P, Rep K φ st H ∧ D K φ st.length H x v ∧ D K φ st.length H y w ∧ r x y st P ∧
  ∀ d st', P d st' → ∀ φ' H' u, Bhd K φ st H φ' st' H' → D K φ' st'.length H' d u → Q u H'
noncomputable def liftC (K : PySem.W.Frag) (r : RDL) : List V → Hp → VK → Prop := fun vs H Q => ∃ φ st ds P, Rep K φ st H ∧ DL K φ st.length H ds vs ∧ r ds st P ∧
  ∀ d st', P d st' → ∀ φ' H' u, Bhd K φ st H φ' st' H' → D K φ' st'.length H' d u → Q u H'
noncomputable def OpD (X : Cx) (f : Value → Value → Sem Value) (r : RD2) : Prop := OpR X f (liftR X.K r)
noncomputable def CallD (X : Cx) (f : Value) (r : RDL) : Prop := CallR X f (liftC X.K r)
noncomputable def tvar (i : Nat) : TD := fun ρ st P => match ρ[i]? with
  | some (some d) => P d st
  | _ => False
noncomputable def tcon (d : Dt) : TD := fun _ st P => P d st
noncomputable def tbin (r : RD2) (ta tb : TD) : TD := fun ρ st P => ta ρ st fun x st1 => tb ρ st1 fun y st2 => r x y st2 P
noncomputable def tcall (r : RDL) (t : TAD) : TD := fun ρ st P => t ρ st fun ds st1 => r ds st1 P
section
variable {K : PySem.W.Frag} {r : RD2} {ta tb : TD} {σ : L2.St} {H : Hp} {Q : VK} {R : RDL} {t : TAD}
theorem bin_lift (h : liftE K (tbin r ta tb) σ H Q) : tOp (liftR K r) (liftE K ta) (liftE K tb) σ H Q := by
  obtain ⟨φ, st, ρ, P, pre, ht, hq⟩ := h
  refine ⟨φ, st, ρ, _, pre, ht, fun x st1 h1 φ1 H1 v b1 dx => ?_⟩
  refine ⟨φ1, st1, ρ, _, pre.on b1, h1, fun y st2 h2 φ2 H2 w b2 dy => ?_⟩
  exact ⟨φ2, st2, x, y, P, b2.1, dx.evo b2.2, dy, h2, fun d st' hp φ' H' u b3 du => hq d st' hp φ' H' u (b1.trans (b2.trans b3)) du⟩
theorem call_lift (h : liftE K (tcall R t) σ H Q) : tCB (liftC K R) (liftA K t) σ H Q := by
  obtain ⟨φ, st, ρ, P, pre, ht, hq⟩ := h
  refine ⟨φ, st, ρ, _, pre, ht, fun ds st1 h1 φ1 H1 vs b1 dx => ?_⟩
  exact ⟨φ1, st1, ds, P, b1.1, dx, h1, fun d st' hp φ' H' u b3 du => hq d st' hp φ' H' u (b1.trans b3) du⟩
end
section
variable {X : Cx} {a b c e : Expr} {es : List Expr} {ta tb tc t : TD} {tas : TAD} {pos : Pos}
theorem de_var (i : Nat) {x : Str} (hN : X.N[i]? = some x := by rfl) (hv : Vis X.env.scope x := by first | exact Or.inl rfl | exact Or.inr (Or.inl rfl) | exact Or.inr (Or.inr rfl)) (hd : (x == ("__debug__" : Str)) = false := by decide)
    (hcd : (x == ("__classdict__" : Str)) = false := by decide) : DE X (.Name x pos) (tvar i) := (pe_var hN hv hd hcd).imp fun σ H Q h => by
  obtain ⟨φ, st, ρ, P, pre, ht, hq⟩ := h
  unfold tvar at ht
  split at ht
  · rename_i d e
    obtain ⟨v, e1, e2⟩ := pre.2.2 i d e
    exact ⟨v, e1, hq d st ht φ H v (.refl pre.1) e2⟩
  · exact ht.elim
theorem con_lift {d : Dt} {v : V} {K : PySem.W.Frag} (h : ∀ φ N H, D K φ N H d v) : ∀ (σ : L2.St) H Q, liftE K (tcon d) σ H Q → tC v σ H Q := fun σ H Q h' => by
  obtain ⟨φ, st, ρ, P, pre, ht, hq⟩ := h'
  exact hq d st ht φ H v (.refl pre.1) (h _ _ _)
theorem de_int {i j pos} : DE X (.Constant (.int i) j pos) (tcon (.int i)) := (pe_int).imp (con_lift fun _ _ _ => D.mkInt)
theorem de_bl {i j pos} : DE X (.Constant (.bool i) j pos) (tcon (.bl i)) := (pe_bl).imp (con_lift fun _ _ _ => D.mkBl)
theorem de_non {j pos} : DE X (.Constant .none j pos) (tcon .non) := (pe_non).imp (con_lift fun _ _ _ => D.mkNon)
theorem de_str {i j pos} : DE X (.Constant (.str i) j pos) (tcon (.str i)) := (pe_str).imp (con_lift fun _ _ _ => D.mkStr)
theorem de_ty {x : Str} {T : String} (hm : X.mg x = none) (hv : bootBuiltins x = some (.type T)) (hg : Gl X x := by rfl) (hn : x ≠ "__name__" := by decide) (hd : (x == ("__debug__" : Str)) = false := by decide) : DE X (.Name x pos) (tcon (.ty T)) :=
  (pe_bltn (v := .ty T) hg hm hv rfl hn hd).imp (con_lift fun _ _ _ => D.mkTy)
theorem de_glob {x : Str} {d : Dt} {v : V} {u : Value} (hm : X.mg x = some u) (r : RelV v u) (hD : ∀ φ N H, D X.K φ N H d v) (hg : Gl X x := by rfl) (hd : (x == ("__debug__" : Str)) = false := by decide) : DE X (.Name x pos) (tcon d) :=
  (pe_glob hg hm r hd).imp (con_lift hD)
theorem de_op {op : Operator} {r : RD2} (ho : OpD X (binaryOp op) r) (ha : DE X a ta) (hb : DE X b tb) : DE X (.BinOp a op b pos) (tbin r ta tb) := (pe_op ho ha hb).imp fun _ _ _ => bin_lift
theorem de_cmp {op : CmpOp} {r : RD2} (ho : OpD X (compareOp op) r) (ha : DE X a ta) (hb : DE X b tb) (hm : behindInMarks op b = false := by first | exact nomark _ | with_unfolding_all rfl) : DE X (.Compare a [op] [b] pos) (tbin r ta tb) := (pe_cmpR ho ha hb hm).imp fun _ _ _ => bin_lift
noncomputable def tbool (t : TD) : TBD := fun ρ st P => t ρ st fun x st1 => match x with
  | .bl k => P k st1
  | _ => False
theorem bool_lift {K : PySem.W.Frag} {t : TD} {σ : L2.St} {H : Hp} {Q : Bool → Hp → Prop} (h : liftT K (tbool t) σ H Q) : liftE K t σ H fun x H' => ∃ k, x = .bl k ∧ Q k H' := by
  obtain ⟨φ, st, ρ, P, pre, ht, hq⟩ := h
  refine ⟨φ, st, ρ, _, pre, ht, fun d st1 h1 φ1 H1 v b1 dx => ?_⟩
  cases d with
  | bl k => exact ⟨k, dx.bl, hq k st1 h1 φ1 H1 b1⟩
  | _ => exact h1.elim
theorem dt_cmp {op : CmpOp} {r : RD2} (ho : OpD X (compareOp op) r) (ha : DE X a ta) (hb : DE X b tb) (hm : behindInMarks op b = false := by first | exact nomark _ | with_unfolding_all rfl) : DT X (.Compare a [op] [b] pos) (tbool (tbin r ta tb)) :=
  (pt_cmpR ho ha hb hm).imp fun σ H Q h => bin_lift (bool_lift h)
theorem dt_val (h : DE X e t) (he : ∀ whole, isTrue e X.env whole = (do let v ← whole; standAt e.pos; holding [v] (truthy v)) := by intro _; rfl) : DT X e (tbool t) := (pt_val h he).imp fun σ H Q h => bool_lift h
noncomputable def tnotB (t : TBD) : TBD := fun ρ st P => t ρ st fun k st1 => P (!k) st1
theorem dt_not {t : TBD} (h : DT X a t) : DT X (.UnaryOp .Not a pos) (tnotB t) := (pt_not h).imp fun σ H Q h => by
  obtain ⟨φ, st, ρ, P, pre, ht, hq⟩ := h
  exact ⟨φ, st, ρ, _, pre, ht, fun k st1 h1 φ1 H1 b1 => hq _ st1 h1 φ1 H1 b1⟩
noncomputable def DW (X : Cx) (e : Expr) (t : TBD) : Prop := PW X e (liftT X.K t)
theorem PW.imp {X : Cx} {e : Expr} {t t' : TT} (h : PW X e t) (i : ∀ σ H Q, t' σ H Q → t σ H Q) : PW X e t' := fun wh pins s σ H Q I q => h wh pins s σ H Q I (i σ H Q q)
noncomputable def tandB (t u : TBD) : TBD := fun ρ st P => t ρ st fun k st1 => if k = true then u ρ st1 P else P false st1
noncomputable def torB (t u : TBD) : TBD := fun ρ st P => t ρ st fun k st1 => if k = true then P true st1 else u ρ st1 P
variable {tA tB' : TBD} {rest : List Expr}
theorem dw_and1 (h : DT X a tA) : DW X (.BoolOp .And [a] pos) tA := pw_and1 h
theorem dw_or1 (h : DT X a tA) : DW X (.BoolOp .Or [a] pos) tA := pw_or1 h
theorem dw_and (ha : DT X a tA) (hb : DW X (.BoolOp .And (b :: rest) pos) tB') : DW X (.BoolOp .And (a :: b :: rest) pos) (tandB tA tB') := PW.imp (pw_and ha hb) fun σ H Q h => by
  obtain ⟨φ, st, ρ, P, pre, ht, hq⟩ := h
  refine ⟨φ, st, ρ, _, pre, ht, fun k st1 h1 φ1 H1 b1 => ?_⟩
  cases k with
  | true =>
    rw [if_pos rfl] at h1 ⊢
    exact ⟨φ1, st1, ρ, P, pre.on b1, h1, fun k st2 h2 φ2 H2 b2 => hq k st2 h2 φ2 H2 (b1.trans b2)⟩
  | false =>
    rw [if_neg Bool.false_ne_true] at h1 ⊢
    exact hq false st1 h1 φ1 H1 b1
theorem dw_or (ha : DT X a tA) (hb : DW X (.BoolOp .Or (b :: rest) pos) tB') : DW X (.BoolOp .Or (a :: b :: rest) pos) (torB tA tB') := PW.imp (pw_or ha hb) fun σ H Q h => by
  obtain ⟨φ, st, ρ, P, pre, ht, hq⟩ := h
  refine ⟨φ, st, ρ, _, pre, ht, fun k st1 h1 φ1 H1 b1 => ?_⟩
  cases k with
  | false =>
    rw [if_neg Bool.false_ne_true] at h1 ⊢
    exact ⟨φ1, st1, ρ, P, pre.on b1, h1, fun k st2 h2 φ2 H2 b2 => hq k st2 h2 φ2 H2 (b1.trans b2)⟩
  | true =>
    rw [if_pos rfl] at h1 ⊢
    exact hq true st1 h1 φ1 H1 b1
theorem dt_of {tA : TBD} (h : DW X e tA) : DT X e tA := h _
noncomputable def tandV (t u : TD) : TD := fun ρ st P => t ρ st fun x st1 => match x with
  | .bl k => if k = true then u ρ st1 P else P (.bl false) st1
  | _ => False
noncomputable def torV (t u : TD) : TD := fun ρ st P => t ρ st fun x st1 => match x with
  | .bl k => if k = true then P (.bl true) st1 else u ρ st1 P
  | _ => False
noncomputable def tnotV (t : TD) : TD := fun ρ st P => t ρ st fun x st1 => match x with
  | .bl k => P (.bl (!k)) st1
  | _ => False
theorem de_one {op} (h : DE X a t) : DE X (.BoolOp op [a] pos) t := pe_one h
theorem de_and (ha : DE X a ta) (hb : DE X (.BoolOp .And (b :: rest) pos) tb) : DE X (.BoolOp .And (a :: b :: rest) pos) (tandV ta tb) := (pe_and ha hb).imp fun σ H Q h => by
  obtain ⟨φ, st, ρ, P, pre, ht, hq⟩ := h
  refine ⟨φ, st, ρ, _, pre, ht, fun d st1 h1 φ1 H1 v b1 dx => ?_⟩
  cases d with
  | bl k =>
    refine ⟨k, dx.bl, ?_⟩
    cases k with
    | true => exact iteT ⟨φ1, st1, ρ, P, pre.on b1, h1, fun k st2 h2 φ2 H2 v2 b2 => hq k st2 h2 φ2 H2 v2 (b1.trans b2)⟩
    | false => exact iteF (hq _ st1 h1 φ1 H1 _ b1 D.mkBl)
  | _ => exact h1.elim
noncomputable def tifE (c : TBD) (t u : TD) : TD := fun ρ st P => c ρ st fun k st1 => if k = true then t ρ st1 P else u ρ st1 P
theorem de_if {tC : TBD} (hc : DT X c tC) (ha : DE X a ta) (hb : DE X b tb) : DE X (.IfExp c a b pos) (tifE tC ta tb) := (pe_ifExp hc ha hb).imp fun σ H Q h => by
  obtain ⟨φ, st, ρ, P, pre, ht, hq⟩ := h
  refine ⟨φ, st, ρ, _, pre, ht, fun k st1 h1 φ1 H1 b1 => ?_⟩
  cases k with
  | true => exact iteT ⟨φ1, st1, ρ, P, pre.on b1, (by rw [if_pos rfl] at h1; exact h1), fun k st2 h2 φ2 H2 v2 b2 => hq k st2 h2 φ2 H2 v2 (b1.trans b2)⟩
  | false => exact iteF ⟨φ1, st1, ρ, P, pre.on b1, (by rw [if_neg Bool.false_ne_true] at h1; exact h1), fun k st2 h2 φ2 H2 v2 b2 => hq k st2 h2 φ2 H2 v2 (b1.trans b2)⟩
noncomputable def tanil : TAD := fun _ st P => P [] st
noncomputable def tacons (t : TD) (u : TAD) : TAD := fun ρ st P => t ρ st fun x st1 => u ρ st1 fun xs st2 => P (x :: xs) st2
theorem da_nil : DA X [] tanil := (pa_nil).imp fun σ H Q h => by
  obtain ⟨φ, st, ρ, P, pre, ht, hq⟩ := h
  exact hq [] st ht φ H [] (.refl pre.1) .nil
theorem da_cons (ha : DE X e t) (hr : DA X es tas) (hs : starEach (e :: es) X.env = (false, eval e X.env) :: starEach es X.env := by rfl) : DA X (e :: es) (tacons t tas) := (pa_cons ha hr hs).imp fun σ H Q h => by
  obtain ⟨φ, st, ρ, P, pre, ht, hq⟩ := h
  refine ⟨φ, st, ρ, _, pre, ht, fun x st1 h1 φ1 H1 v b1 dx => ?_⟩
  refine ⟨φ1, st1, ρ, _, pre.on b1, h1, fun xs st2 h2 φ2 H2 vs b2 dxs => ?_⟩
  exact hq _ st2 h2 φ2 H2 _ (b1.trans b2) (.cons (dx.evo b2.2) dxs)
noncomputable def ttup (t : TAD) : TD := fun ρ st P => t ρ st fun ds st1 => ds.length ≤ sizeLine ∧ P (.tup ds) st1
noncomputable def tlst (t : TAD) : TD := fun ρ st P => t ρ st fun ds st1 => ds.length ≤ sizeLine ∧ P (.lst st1.length) (st1 ++ [.rw ds])
theorem bhd_tup {K : PySem.W.Frag} {φ : Nat → Addr} {st : Sto} {H : Hp} {p : Addr} {o : HO} (R : Rep K φ st H) (hp : H p = none) : Bhd K φ st H φ st (upd H p o) := ⟨R.laid hp, evo_new hp⟩
theorem bhd_lst {K : PySem.W.Frag} {φ : Nat → Addr} {st : Sto} {H : Hp} {p : Addr} {ds : List Dt} {vs : List V} (R : Rep K φ st H) (hp : H p = none) (hd : DL K φ st.length H ds vs) :
    Bhd K φ st H (phiNew φ st.length p) (st ++ [.rw ds]) (upd H p (.lst vs)) := ⟨R.newL hp hd, evo_lst hp⟩
theorem d_new {K : PySem.W.Frag} {φ : Nat → Addr} {st : Sto} {H : Hp} {p : Addr} {ds : List Dt} {vs : List V} : D K (phiNew φ st.length p) (st ++ [SO.rw ds]).length (upd H p (.lst vs)) (.lst st.length) (.ref p) := by
  have := D.mkLst (K := K) (φ := phiNew φ st.length p) (H := upd H p (.lst vs)) (n := st.length) (N := (st ++ [SO.rw ds]).length) (by simp) (by rw [phi_at]; exact ⟨vs, SqL.of upd_same⟩)
  rw [phi_at] at this
  exact this
theorem de_tup {x1} (h : DA X es tas) : DE X (.Tuple es x1 pos) (ttup tas) := (pe_tup h).imp fun σ H Q h => by
  obtain ⟨φ, st, ρ, P, pre, ht, hq⟩ := h
  refine ⟨φ, st, ρ, _, pre, ht, fun ds st1 h1 φ1 H1 vs b1 dx => ⟨by rw [← dx.length]; exact h1.1, fun p hp => ?_⟩⟩
  exact hq _ st1 h1.2 φ1 _ _ (b1.trans (bhd_tup b1.1 hp)) (.mkTup (SqT.of upd_same) (dx.evo (evo_new hp)))
theorem de_lst (h : DA X es tas) : DE X (.List es pos) (tlst tas) := (pe_lst h).imp fun σ H Q h => by
  obtain ⟨φ, st, ρ, P, pre, ht, hq⟩ := h
  refine ⟨φ, st, ρ, _, pre, ht, fun ds st1 h1 φ1 H1 vs b1 dx => ⟨by rw [← dx.length]; exact h1.1, fun p hp => ?_⟩⟩
  exact hq _ _ h1.2 _ _ _ (b1.trans (bhd_lst b1.1 hp dx)) d_new
end
end L3
namespace L3
open PySem PySem.Spec PyProof.Rows L2
noncomputable def rAdd : RD2 := fun x y st P => match x, y with
  | .int i, .int j => P (.int (i + j)) st
  | .str i, .str j => i.length + j.length ≤ sizeLine ∧ P (.str (i ++ j)) st
  | .tup i, .tup j => i.length + j.length ≤ sizeLine ∧ P (.tup (i ++ j)) st
  | .lst n, .lst m => match st[n]?, st[m]? with
    | some (.rw xs), some (.rw ys) => xs.length + ys.length ≤ sizeLine ∧ P (.lst st.length) (st ++ [.rw (xs ++ ys)])
    | _, _ => False
  | _, _ => False
noncomputable def rSub : RD2 := fun x y st P => match x, y with
  | .int i, .int j => P (.int (i - j)) st
  | _, _ => False
noncomputable def rMul : RD2 := fun x y st P => match x, y with
  | .int i, .int j => CMul i j ∧ P (.int (i * j)) st
  | .tup xs, .int k => xs ≠ [] ∧ 2 ≤ k ∧ k < 2 ^ 20 ∧ xs.length * k.toNat ≤ sizeLine ∧ P (.tup (List.replicate k.toNat xs).flatten) st
  | .lst n, .int k => match st[n]? with
    | some (.rw xs) => 0 ≤ k ∧ k < 2 ^ 20 ∧ xs.length * k.toNat ≤ sizeLine ∧ P (.lst st.length) (st ++ [.rw (List.replicate k.toNat xs).flatten])
    | _ => False
  | _, _ => False
noncomputable def rDiv : RD2 := fun x y st P => match x, y with
  | .int i, .int j => CDiv i j ∧ P (.int (i / j)) st
  | _, _ => False
noncomputable def rMod : RD2 := fun x y st P => match x, y with
  | .int i, .int j => 0 < j ∧ P (.int (i % j)) st
  | _, _ => False
noncomputable def rCmpI (p : Int → Int → Bool) : RD2 := fun x y st P => match x, y with
  | .int i, .int j => P (.bl (p i j)) st
  | _, _ => False
noncomputable def rEqD (neg : Bool) : RD2 := fun x y st P => match x, y with
  | .lst n, .lst m => match st[n]?, st[m]? with
    | some a, some b => a.items.all (okD 8) = true ∧ b.items.all (okD 8) = true ∧ P (.bl (eqL (eqD 8) a.items b.items != neg)) st
    | _, _ => False
  | x, y => okD 8 x = true ∧ okD 8 y = true ∧ P (.bl (eqD 8 x y != neg)) st
noncomputable def rIsD (neg : Bool) : RD2 := fun x y st P => match x, y with
  | .bl a, .bl b => P (.bl ((a == b) != neg)) st
  | .non, .non => P (.bl (true != neg)) st
  | .bl _, .non => P (.bl (false != neg)) st
  | .int _, .non => P (.bl (false != neg)) st
  | .str _, .non => P (.bl (false != neg)) st
  | .tup _, .non => P (.bl (false != neg)) st
  | .lst _, .non => P (.bl (false != neg)) st
  | _, _ => False
noncomputable def seqOf (st : Sto) : Dt → Option (List Dt)
  | .tup xs => some xs
  | .lst n => (st[n]?).map SO.items
  | _ => none
noncomputable def rInD (neg : Bool) : RD2 := fun x y st P => match x, y with
  | .str i, .str j => P (.bl ((!(Builtin.Str.occurrences j i 0 j.length 1).isEmpty) != neg)) st
  | x, y => match seqOf st y with
    | some xs => okD 0 x = true ∧ xs.all (okD 0) = true ∧ P (.bl (xs.any (fun z => eqD 0 z x) != neg)) st
    | none => False
section
variable {X : Cx} {K : PySem.W.Frag} {φ : Nat → Addr} {st : Sto} {H : Hp} {P : VD} {Q : VK} {d : Dt} {v : V}
noncomputable abbrev Go (K : PySem.W.Frag) (φ : Nat → Addr) (st : Sto) (H : Hp) (P : VD) (Q : VK) : Prop := ∀ d st', P d st' → ∀ φ' H' u, Bhd K φ st H φ' st' H' → D K φ' st'.length H' d u → Q u H'
theorem Go.here (g : Go K φ st H P Q) (R : Rep K φ st H) (hp : P d st) (hd : D K φ st.length H d v) : Q v H := g d st hp φ H v (.refl R) hd
theorem od_add : OpD X (binaryOp .Add) rAdd := by
  intro pins s σ H v w u1 u2 Q I r1 r2 h
  obtain ⟨φ, st, x, y, P, R, dx, dy, hr, hq⟩ := h
  cases x with
  | int i =>
    cases y with
    | int j => exact op_add pins s σ H v w u1 u2 Q I r1 r2 ⟨i, j, dx.int, dy.int, Go.here hq R hr D.mkInt⟩
    | _ => exact hr.elim
  | str i =>
    cases y with
    | str j => exact op_add_str pins s σ H v w u1 u2 Q I r1 r2 ⟨i, j, dx.str, dy.str, hr.1, Go.here hq R hr.2 D.mkStr⟩
    | _ => exact hr.elim
  | tup i =>
    cases y with
    | tup j =>
      obtain ⟨a, vs, e1, s1, d1⟩ := dx.tup
      obtain ⟨b, ws, e2, s2, d2⟩ := dy.tup
      have l1 := d1.length
      have l2 := d2.length
      have hr1 : i.length + j.length ≤ sizeLine := hr.1
      have hr2 : P (.tup (i ++ j)) st := hr.2
      refine op_catA pins s σ H v w u1 u2 Q I r1 r2 ⟨a, b, vs, ws, e1, e2, s1, s2, by omega, fun z => ?_, fun z1 z2 => ?_, fun z1 z2 p hp => ?_⟩
      · rw [z] at l1
        have : i = [] := List.length_eq_zero_iff.mp l1
        rw [this, List.nil_append] at hr2
        exact Go.here hq R hr2 (.mkTup s2 d2)
      · rw [z2] at l2
        have : j = [] := List.length_eq_zero_iff.mp l2
        rw [this, List.append_nil] at hr2
        exact Go.here hq R hr2 (.mkTup s1 d1)
      · exact hq _ st hr2 φ _ _ (bhd_tup R hp) (.mkTup (SqT.of upd_same) ((d1.append d2).evo (evo_new hp)))
    | _ => exact hr.elim
  | lst n =>
    cases y with
    | lst m =>
      have hr' : match st[n]?, st[m]? with
        | some (.rw xs), some (.rw ys) => xs.length + ys.length ≤ sizeLine ∧ P (.lst st.length) (st ++ [.rw (xs ++ ys)])
        | _, _ => False := hr
      split at hr'
      · rename_i xs ys e1 e2
        obtain ⟨vs, h1, d1⟩ := R.rw n xs e1
        obtain ⟨ws, h2, d2⟩ := R.rw m ys e2
        have l1 := d1.length
        have l2 := d2.length
        have z := hr'.1
        exact op_cat pins s σ H v w u1 u2 Q I r1 r2 ⟨φ n, φ m, vs, ws, dx.lst.2, dy.lst.2, h1, h2, by omega, fun p hp => hq _ _ hr'.2 _ _ _ (bhd_lst R hp (d1.append d2)) d_new⟩
      · exact hr'.elim
    | _ => exact hr.elim
  | _ => cases y <;> exact hr.elim
theorem od_sub : OpD X (binaryOp .Sub) rSub := by
  intro pins s σ H v w u1 u2 Q I r1 r2 h
  obtain ⟨φ, st, x, y, P, R, dx, dy, hr, hq⟩ := h
  cases x with
  | int i =>
    cases y with
    | int j => exact op_sub pins s σ H v w u1 u2 Q I r1 r2 ⟨i, j, dx.int, dy.int, Go.here hq R hr D.mkInt⟩
    | _ => exact hr.elim
  | _ => cases y <;> exact hr.elim
theorem od_mul : OpD X (binaryOp .Mult) rMul := by
  intro pins s σ H v w u1 u2 Q I r1 r2 h
  obtain ⟨φ, st, x, y, P, R, dx, dy, hr, hq⟩ := h
  cases x with
  | int i =>
    cases y with
    | int j => exact op_mul pins s σ H v w u1 u2 Q I r1 r2 ⟨i, j, dx.int, dy.int, hr.1, Go.here hq R hr.2 D.mkInt⟩
    | _ => exact hr.elim
  | tup xs =>
    cases y with
    | int k =>
      obtain ⟨a, vs, e1, s1, d1⟩ := dx.tup
      obtain ⟨h1, h2, h3, h4, h5⟩ : xs ≠ [] ∧ 2 ≤ k ∧ k < 2 ^ 20 ∧ xs.length * k.toNat ≤ sizeLine ∧ P (.tup (List.replicate k.toNat xs).flatten) st := hr
      have rep : ∀ m : Nat, DL X.K φ st.length H (List.replicate m xs).flatten (List.replicate m vs).flatten := fun m => by
        induction m with
        | zero => exact .nil
        | succ m ih => rw [List.replicate_succ, List.replicate_succ, List.flatten_cons, List.flatten_cons]; exact d1.append ih
      refine op_repT pins s σ H v w u1 u2 Q I r1 r2 ⟨a, k, vs, e1, dy.int, s1, fun z => ?_, h2, h3, by rw [← d1.length]; exact h4, fun p hp => ?_⟩
      · have := d1.length
        rw [z] at this
        exact h1 (List.length_eq_zero_iff.mp this)
      · exact hq _ st h5 φ _ _ (bhd_tup R hp) (.mkTup (SqT.of upd_same) ((rep _).evo (evo_new hp)))
    | _ => exact hr.elim
  | lst n =>
    cases y with
    | int k =>
      have hr' : match st[n]? with
        | some (.rw xs) => 0 ≤ k ∧ k < 2 ^ 20 ∧ xs.length * k.toNat ≤ sizeLine ∧ P (.lst st.length) (st ++ [.rw (List.replicate k.toNat xs).flatten])
        | _ => False := hr
      split at hr'
      · rename_i xs e1
        obtain ⟨vs, h1, d1⟩ := R.rw n xs e1
        obtain ⟨g1, g2, g3, g4⟩ := hr'
        have rep : ∀ m : Nat, DL X.K φ st.length H (List.replicate m xs).flatten (List.replicate m vs).flatten := fun m => by
          induction m with
          | zero => exact .nil
          | succ m ih => rw [List.replicate_succ, List.replicate_succ, List.flatten_cons, List.flatten_cons]; exact d1.append ih
        exact op_rep pins s σ H v w u1 u2 Q I r1 r2 ⟨φ n, k, vs, dx.lst.2, dy.int, h1, by omega, by omega, by rw [← d1.length]; exact g3, fun p hp => hq _ _ g4 _ _ _ (bhd_lst R hp (rep _)) d_new⟩
      · exact hr'.elim
    | _ => exact hr.elim
  | _ => cases y <;> exact hr.elim
theorem od_div : OpD X (binaryOp .FloorDiv) rDiv := by
  intro pins s σ H v w u1 u2 Q I r1 r2 h
  obtain ⟨φ, st, x, y, P, R, dx, dy, hr, hq⟩ := h
  cases x with
  | int i =>
    cases y with
    | int j => exact op_fdiv pins s σ H v w u1 u2 Q I r1 r2 ⟨i, j, dx.int, dy.int, hr.1, Go.here hq R hr.2 D.mkInt⟩
    | _ => exact hr.elim
  | _ => cases y <;> exact hr.elim
theorem od_mod : OpD X (binaryOp .Mod) rMod := by
  intro pins s σ H v w u1 u2 Q I r1 r2 h
  obtain ⟨φ, st, x, y, P, R, dx, dy, hr, hq⟩ := h
  cases x with
  | int i =>
    cases y with
    | int j => exact op_mod pins s σ H v w u1 u2 Q I r1 r2 ⟨i, j, dx.int, dy.int, hr.1, Go.here hq R hr.2 D.mkInt⟩
    | _ => exact hr.elim
  | _ => cases y <;> exact hr.elim
theorem od_cmpI {op : CmpOp} {p : Int → Int → Bool} (ho : OpR X (compareOp op) (rI0 fun i j => .bl (p i j))) : OpD X (compareOp op) (rCmpI p) := by
  intro pins s σ H v w u1 u2 Q I r1 r2 h
  obtain ⟨φ, st, x, y, P, R, dx, dy, hr, hq⟩ := h
  cases x with
  | int i =>
    cases y with
    | int j => exact ho pins s σ H v w u1 u2 Q I r1 r2 ⟨i, j, dx.int, dy.int, Go.here hq R hr D.mkBl⟩
    | _ => exact hr.elim
  | _ => cases y <;> exact hr.elim
theorem od_lt : OpD X (compareOp .Lt) (rCmpI fun i j => decide (i < j)) := od_cmpI op_lt
theorem od_gt : OpD X (compareOp .Gt) (rCmpI fun i j => decide (j < i)) := od_cmpI op_gt
theorem od_ge : OpD X (compareOp .GtE) (rCmpI fun i j => decide (j ≤ i)) := od_cmpI op_ge
theorem bne_false' (k : Bool) : (k != false) = k := by cases k <;> rfl
theorem bne_true' (k : Bool) : (k != true) = !k := by cases k <;> rfl
theorem fin_bool {pins : List (Addr × Obj)} {σ : L2.St} {s : Shared} (I : Inv X pins σ H s) (g : Go X.K φ st H P Q) (R : Rep X.K φ st H) {k k' : Bool} (hp : P (.bl k) st) (e : k = k') : EP X pins σ Q (.bool k') s := by
  subst e
  exact ⟨.bl k, H, I, rfl, Go.here g R hp D.mkBl⟩
end
section
variable {X : Cx} {pins : List (Addr × Obj)} {σ : L2.St} {H : Hp} {s : Shared} {φ : Nat → Addr} {N : Nat}
theorem els_D (I : Inv X pins σ H s) {n : Nat} {A : Around} {a b : List Dt} {vs ws : List V} {its its2 : List Value} (hu : A.units + n + 1 < cLine) (hd : DL X.K φ N H a vs) (hd2 : DL X.K φ N H b ws) (rv : Vals vs its) (rv2 : Vals ws its2)
    (o1 : a.all (okD n) = true) (o2 : b.all (okD n) = true) {j : Nat} (h1 : j < its.toArray.size) (h2 : j < its2.toArray.size) : SeqAt.EqAt A.in1 s its.toArray[j] its2.toArray[j] (eqD n (a.getD j .non) (b.getD j .non)) := by
  have l1 : its.toArray.size = a.length := by rw [List.size_toArray, ← rv.length, hd.length]
  have l2 : its2.toArray.size = b.length := by rw [List.size_toArray, ← rv2.length, hd2.length]
  have hj1 : j < a.length := by rw [← l1]; exact h1
  have hj2 : j < b.length := by rw [← l2]; exact h2
  have ea : a[j]? = some a[j] := by simp [hj1]
  have eb : b[j]? = some b[j] := by simp [hj2]
  obtain ⟨x, ex, dx⟩ := hd.get ea
  obtain ⟨y, ey, dy⟩ := hd2.get eb
  obtain ⟨ux, eux, rx⟩ := rv.get ex
  obtain ⟨uy, euy, ry⟩ := rv2.get ey
  have gx : its.toArray[j] = ux := by
    have : its[j]? = some its[j] := by simp at h1; simp [h1]
    rw [eux] at this
    simpa using (Option.some.inj this).symm
  have gy : its2.toArray[j] = uy := by
    have : its2[j]? = some its2[j] := by simp at h2; simp [h2]
    rw [euy] at this
    simpa using (Option.some.inj this).symm
  rw [gx, gy, getD_of ea, getD_of eb]
  exact eqAt_D I n (by show A.units + 1 + n < cLine; omega) (List.all_eq_true.mp o1 _ (List.getElem_mem hj1)) (List.all_eq_true.mp o2 _ (List.getElem_mem hj2)) dx dy rx ry
theorem rcEq_D (I : Inv X pins σ H s) (n : Nat) {A : Around} : ∀ {d e : Dt} {v w : V} {u1 u2 : Value}, A.units + n + 1 < cLine → okD (n + 1) d = true → okD (n + 1) e = true → D X.K φ N H d v → D X.K φ N H e w → RelV v u1 → RelV w u2 → SeqAt.RcAt A s u1 u2 (eqD (n + 1) d e)
  | .non, .non, v, w, u1, u2, hu, _, _, h1, h2, r1, r2 => by cases h1.non; cases h2.non; cases r1; cases r2; exact SeqAt.RcAt.none_none
  | .non, .bl b, v, w, u1, u2, hu, _, _, h1, h2, r1, r2 => by cases h1.non; cases h2.bl; cases r1; cases r2; exact SeqAt.RcAt.none_bool b
  | .non, .int b, v, w, u1, u2, hu, _, _, h1, h2, r1, r2 => by cases h1.non; cases h2.int; cases r1; obtain ⟨t', rfl⟩ := r2; exact SeqAt.RcAt.none_int b t'
  | .non, .str b, v, w, u1, u2, hu, _, _, h1, h2, r1, r2 => by cases h1.non; cases h2.str; cases r1; obtain ⟨t', rfl⟩ := r2; exact SeqAt.RcAt.none_str b t'
  | .bl a, .non, v, w, u1, u2, hu, _, _, h1, h2, r1, r2 => by cases h1.bl; cases h2.non; cases r1; cases r2; exact SeqAt.RcAt.bool_none a
  | .bl a, .bl b, v, w, u1, u2, hu, _, _, h1, h2, r1, r2 => by cases h1.bl; cases h2.bl; cases r1; cases r2; exact SeqAt.RcAt.bool_bool a b
  | .bl a, .int b, v, w, u1, u2, hu, _, _, h1, h2, r1, r2 => by cases h1.bl; cases h2.int; cases r1; obtain ⟨t', rfl⟩ := r2; exact SeqAt.RcAt.bool_int a b t'
  | .bl a, .str b, v, w, u1, u2, hu, _, _, h1, h2, r1, r2 => by cases h1.bl; cases h2.str; cases r1; obtain ⟨t', rfl⟩ := r2; exact SeqAt.RcAt.bool_str a b t'
  | .int a, .non, v, w, u1, u2, hu, _, _, h1, h2, r1, r2 => by cases h1.int; cases h2.non; obtain ⟨t, rfl⟩ := r1; cases r2; exact SeqAt.RcAt.int_none a t
  | .int a, .bl b, v, w, u1, u2, hu, _, _, h1, h2, r1, r2 => by cases h1.int; cases h2.bl; obtain ⟨t, rfl⟩ := r1; cases r2; exact SeqAt.RcAt.int_bool a t b
  | .int a, .int b, v, w, u1, u2, hu, _, _, h1, h2, r1, r2 => by cases h1.int; cases h2.int; obtain ⟨t, rfl⟩ := r1; obtain ⟨t', rfl⟩ := r2; exact SeqAt.RcAt.int_int a t b t'
  | .int a, .str b, v, w, u1, u2, hu, _, _, h1, h2, r1, r2 => by cases h1.int; cases h2.str; obtain ⟨t, rfl⟩ := r1; obtain ⟨t', rfl⟩ := r2; exact SeqAt.RcAt.int_str a t b t'
  | .str a, .non, v, w, u1, u2, hu, _, _, h1, h2, r1, r2 => by cases h1.str; cases h2.non; obtain ⟨t, rfl⟩ := r1; cases r2; exact SeqAt.RcAt.str_none a t
  | .str a, .bl b, v, w, u1, u2, hu, _, _, h1, h2, r1, r2 => by cases h1.str; cases h2.bl; obtain ⟨t, rfl⟩ := r1; cases r2; exact SeqAt.RcAt.str_bool a t b
  | .str a, .int b, v, w, u1, u2, hu, _, _, h1, h2, r1, r2 => by cases h1.str; cases h2.int; obtain ⟨t, rfl⟩ := r1; obtain ⟨t', rfl⟩ := r2; exact SeqAt.RcAt.str_int a t b t'
  | .str a, .str b, v, w, u1, u2, hu, _, _, h1, h2, r1, r2 => by cases h1.str; cases h2.str; obtain ⟨t, rfl⟩ := r1; obtain ⟨t', rfl⟩ := r2; exact SeqAt.RcAt.str_str a t b t'
  | .tup a, .non, v, w, u1, u2, hu, _, _, h1, h2, r1, r2 => by
    obtain ⟨p, vs, rfl, hs, hd⟩ := h1.tup; cases h2.non; cases r1; cases r2; obtain ⟨its, _, ht, _⟩ := I.tuple hs; exact SeqAt.RcAt.tuple_none ht (by omega)
  | .non, .tup a, v, w, u1, u2, hu, _, _, h1, h2, r1, r2 => by
    obtain ⟨p, vs, rfl, hs, hd⟩ := h2.tup; cases h1.non; cases r2; cases r1; obtain ⟨its, _, ht, _⟩ := I.tuple hs; exact SeqAt.RcAt.none_tuple ht (by omega)
  | .tup a, .bl b, v, w, u1, u2, hu, _, _, h1, h2, r1, r2 => by
    obtain ⟨p, vs, rfl, hs, hd⟩ := h1.tup; cases h2.bl; cases r1; cases r2; obtain ⟨its, _, ht, _⟩ := I.tuple hs; exact SeqAt.RcAt.tuple_bool b ht (by omega)
  | .bl b, .tup a, v, w, u1, u2, hu, _, _, h1, h2, r1, r2 => by
    obtain ⟨p, vs, rfl, hs, hd⟩ := h2.tup; cases h1.bl; cases r2; cases r1; obtain ⟨its, _, ht, _⟩ := I.tuple hs; exact SeqAt.RcAt.bool_tuple b ht (by omega)
  | .tup a, .int b, v, w, u1, u2, hu, _, _, h1, h2, r1, r2 => by
    obtain ⟨p, vs, rfl, hs, hd⟩ := h1.tup; cases h2.int; cases r1; obtain ⟨t', rfl⟩ := r2; obtain ⟨its, _, ht, _⟩ := I.tuple hs; exact SeqAt.RcAt.tuple_int b t' ht (by omega)
  | .int b, .tup a, v, w, u1, u2, hu, _, _, h1, h2, r1, r2 => by
    obtain ⟨p, vs, rfl, hs, hd⟩ := h2.tup; cases h1.int; cases r2; obtain ⟨t', rfl⟩ := r1; obtain ⟨its, _, ht, _⟩ := I.tuple hs; exact SeqAt.RcAt.int_tuple b t' ht (by omega)
  | .tup a, .str b, v, w, u1, u2, hu, _, _, h1, h2, r1, r2 => by
    obtain ⟨p, vs, rfl, hs, hd⟩ := h1.tup; cases h2.str; cases r1; obtain ⟨t', rfl⟩ := r2; obtain ⟨its, _, ht, _⟩ := I.tuple hs; exact SeqAt.RcAt.tuple_str b t' ht (by omega)
  | .str b, .tup a, v, w, u1, u2, hu, _, _, h1, h2, r1, r2 => by
    obtain ⟨p, vs, rfl, hs, hd⟩ := h2.tup; cases h1.str; cases r2; obtain ⟨t', rfl⟩ := r1; obtain ⟨its, _, ht, _⟩ := I.tuple hs; exact SeqAt.RcAt.str_tuple b t' ht (by omega)
  | .tup a, .tup b, v, w, u1, u2, hu, o1, o2, h1, h2, r1, r2 => by
    simp only [okD] at o1 o2
    obtain ⟨p, vs, rfl, hs, hd⟩ := h1.tup
    obtain ⟨q, ws, rfl, hs2, hd2⟩ := h2.tup
    cases r1; cases r2
    obtain ⟨its, rv, ht, _⟩ := I.tuple hs
    obtain ⟨its2, rv2, ht2, _⟩ := I.tuple hs2
    have l1 : its.toArray.size = a.length := by rw [List.size_toArray, ← rv.length, hd.length]
    have l2 : its2.toArray.size = b.length := by rw [List.size_toArray, ← rv2.length, hd2.length]
    have := SeqAt.RcAt.tuples (A := A) (s := s) (e := fun j => eqD n (a.getD j .non) (b.getD j .non)) ht ht2 (by omega) (fun j h1 h2 => els_D I hu hd hd2 rv rv2 o1 o2 h1 h2)
    rw [l1, l2] at this
    simp only [eqD]
    rw [eqL_range]
    exact this
  | .lst _, _, v, w, u1, u2, hu, o1, _, h1, h2, r1, r2 => by simp [okD] at o1
  | .non, .lst _, v, w, u1, u2, hu, _, o1, h1, h2, r1, r2 => by simp [okD] at o1
  | .bl _, .lst _, v, w, u1, u2, hu, _, o1, h1, h2, r1, r2 => by simp [okD] at o1
  | .int _, .lst _, v, w, u1, u2, hu, _, o1, h1, h2, r1, r2 => by simp [okD] at o1
  | .str _, .lst _, v, w, u1, u2, hu, _, o1, h1, h2, r1, r2 => by simp [okD] at o1
  | .tup _, .lst _, v, w, u1, u2, hu, _, o1, h1, h2, r1, r2 => by simp [okD] at o1
  | .ty _, _, v, w, u1, u2, hu, o1, _, h1, h2, r1, r2 => by simp [okD] at o1
  | .dic _, _, v, w, u1, u2, hu, o1, _, h1, h2, r1, r2 => by simp [okD] at o1
  | .ins _, _, v, w, u1, u2, hu, o1, _, h1, h2, r1, r2 => by simp [okD] at o1
  | .non, .ty _, v, w, u1, u2, hu, _, o1, h1, h2, r1, r2 => by simp [okD] at o1
  | .non, .dic _, v, w, u1, u2, hu, _, o1, h1, h2, r1, r2 => by simp [okD] at o1
  | .non, .ins _, v, w, u1, u2, hu, _, o1, h1, h2, r1, r2 => by simp [okD] at o1
  | .bl _, .ty _, v, w, u1, u2, hu, _, o1, h1, h2, r1, r2 => by simp [okD] at o1
  | .bl _, .dic _, v, w, u1, u2, hu, _, o1, h1, h2, r1, r2 => by simp [okD] at o1
  | .bl _, .ins _, v, w, u1, u2, hu, _, o1, h1, h2, r1, r2 => by simp [okD] at o1
  | .int _, .ty _, v, w, u1, u2, hu, _, o1, h1, h2, r1, r2 => by simp [okD] at o1
  | .int _, .dic _, v, w, u1, u2, hu, _, o1, h1, h2, r1, r2 => by simp [okD] at o1
  | .int _, .ins _, v, w, u1, u2, hu, _, o1, h1, h2, r1, r2 => by simp [okD] at o1
  | .str _, .ty _, v, w, u1, u2, hu, _, o1, h1, h2, r1, r2 => by simp [okD] at o1
  | .str _, .dic _, v, w, u1, u2, hu, _, o1, h1, h2, r1, r2 => by simp [okD] at o1
  | .str _, .ins _, v, w, u1, u2, hu, _, o1, h1, h2, r1, r2 => by simp [okD] at o1
  | .tup _, .ty _, v, w, u1, u2, hu, _, o1, h1, h2, r1, r2 => by simp [okD] at o1
  | .tup _, .dic _, v, w, u1, u2, hu, _, o1, h1, h2, r1, r2 => by simp [okD] at o1
  | .tup _, .ins _, v, w, u1, u2, hu, _, o1, h1, h2, r1, r2 => by simp [okD] at o1
theorem rcNe_D (I : Inv X pins σ H s) (n : Nat) {A : Around} : ∀ {d e : Dt} {v w : V} {u1 u2 : Value}, A.units + n + 1 < cLine → okD (n + 1) d = true → okD (n + 1) e = true → D X.K φ N H d v → D X.K φ N H e w → RelV v u1 → RelV w u2 → SeqAt.RcNeAt A s u1 u2 (!(eqD (n + 1) d e))
  | .non, .non, v, w, u1, u2, hu, _, _, h1, h2, r1, r2 => by cases h1.non; cases h2.non; cases r1; cases r2; exact SeqAt.RcNeAt.none_none
  | .non, .bl b, v, w, u1, u2, hu, _, _, h1, h2, r1, r2 => by cases h1.non; cases h2.bl; cases r1; cases r2; exact SeqAt.RcNeAt.none_bool b
  | .non, .int b, v, w, u1, u2, hu, _, _, h1, h2, r1, r2 => by cases h1.non; cases h2.int; cases r1; obtain ⟨t', rfl⟩ := r2; exact SeqAt.RcNeAt.none_int b t'
  | .non, .str b, v, w, u1, u2, hu, _, _, h1, h2, r1, r2 => by cases h1.non; cases h2.str; cases r1; obtain ⟨t', rfl⟩ := r2; exact SeqAt.RcNeAt.none_str b t'
  | .bl a, .non, v, w, u1, u2, hu, _, _, h1, h2, r1, r2 => by cases h1.bl; cases h2.non; cases r1; cases r2; exact SeqAt.RcNeAt.bool_none a
  | .bl a, .bl b, v, w, u1, u2, hu, _, _, h1, h2, r1, r2 => by cases h1.bl; cases h2.bl; cases r1; cases r2; exact SeqAt.RcNeAt.bool_bool a b
  | .bl a, .int b, v, w, u1, u2, hu, _, _, h1, h2, r1, r2 => by cases h1.bl; cases h2.int; cases r1; obtain ⟨t', rfl⟩ := r2; exact SeqAt.RcNeAt.bool_int a b t'
  | .bl a, .str b, v, w, u1, u2, hu, _, _, h1, h2, r1, r2 => by cases h1.bl; cases h2.str; cases r1; obtain ⟨t', rfl⟩ := r2; exact SeqAt.RcNeAt.bool_str a b t'
  | .int a, .non, v, w, u1, u2, hu, _, _, h1, h2, r1, r2 => by cases h1.int; cases h2.non; obtain ⟨t, rfl⟩ := r1; cases r2; exact SeqAt.RcNeAt.int_none a t
  | .int a, .bl b, v, w, u1, u2, hu, _, _, h1, h2, r1, r2 => by cases h1.int; cases h2.bl; obtain ⟨t, rfl⟩ := r1; cases r2; exact SeqAt.RcNeAt.int_bool a t b
  | .int a, .int b, v, w, u1, u2, hu, _, _, h1, h2, r1, r2 => by cases h1.int; cases h2.int; obtain ⟨t, rfl⟩ := r1; obtain ⟨t', rfl⟩ := r2; exact SeqAt.RcNeAt.int_int a t b t'
  | .int a, .str b, v, w, u1, u2, hu, _, _, h1, h2, r1, r2 => by cases h1.int; cases h2.str; obtain ⟨t, rfl⟩ := r1; obtain ⟨t', rfl⟩ := r2; exact SeqAt.RcNeAt.int_str a t b t'
  | .str a, .non, v, w, u1, u2, hu, _, _, h1, h2, r1, r2 => by cases h1.str; cases h2.non; obtain ⟨t, rfl⟩ := r1; cases r2; exact SeqAt.RcNeAt.str_none a t
  | .str a, .bl b, v, w, u1, u2, hu, _, _, h1, h2, r1, r2 => by cases h1.str; cases h2.bl; obtain ⟨t, rfl⟩ := r1; cases r2; exact SeqAt.RcNeAt.str_bool a t b
  | .str a, .int b, v, w, u1, u2, hu, _, _, h1, h2, r1, r2 => by cases h1.str; cases h2.int; obtain ⟨t, rfl⟩ := r1; obtain ⟨t', rfl⟩ := r2; exact SeqAt.RcNeAt.str_int a t b t'
  | .str a, .str b, v, w, u1, u2, hu, _, _, h1, h2, r1, r2 => by cases h1.str; cases h2.str; obtain ⟨t, rfl⟩ := r1; obtain ⟨t', rfl⟩ := r2; exact SeqAt.RcNeAt.str_str a t b t'
  | .tup a, .non, v, w, u1, u2, hu, _, _, h1, h2, r1, r2 => by
    obtain ⟨p, vs, rfl, hs, hd⟩ := h1.tup; cases h2.non; cases r1; cases r2; obtain ⟨its, _, ht, _⟩ := I.tuple hs; exact SeqAt.RcNeAt.tuple_none ht (by omega)
  | .non, .tup a, v, w, u1, u2, hu, _, _, h1, h2, r1, r2 => by
    obtain ⟨p, vs, rfl, hs, hd⟩ := h2.tup; cases h1.non; cases r2; cases r1; obtain ⟨its, _, ht, _⟩ := I.tuple hs; exact SeqAt.RcNeAt.none_tuple ht (by omega)
  | .tup a, .bl b, v, w, u1, u2, hu, _, _, h1, h2, r1, r2 => by
    obtain ⟨p, vs, rfl, hs, hd⟩ := h1.tup; cases h2.bl; cases r1; cases r2; obtain ⟨its, _, ht, _⟩ := I.tuple hs; exact SeqAt.RcNeAt.tuple_bool b ht (by omega)
  | .bl b, .tup a, v, w, u1, u2, hu, _, _, h1, h2, r1, r2 => by
    obtain ⟨p, vs, rfl, hs, hd⟩ := h2.tup; cases h1.bl; cases r2; cases r1; obtain ⟨its, _, ht, _⟩ := I.tuple hs; exact SeqAt.RcNeAt.bool_tuple b ht (by omega)
  | .tup a, .int b, v, w, u1, u2, hu, _, _, h1, h2, r1, r2 => by
    obtain ⟨p, vs, rfl, hs, hd⟩ := h1.tup; cases h2.int; cases r1; obtain ⟨t', rfl⟩ := r2; obtain ⟨its, _, ht, _⟩ := I.tuple hs; exact SeqAt.RcNeAt.tuple_int b t' ht (by omega)
  | .int b, .tup a, v, w, u1, u2, hu, _, _, h1, h2, r1, r2 => by
    obtain ⟨p, vs, rfl, hs, hd⟩ := h2.tup; cases h1.int; cases r2; obtain ⟨t', rfl⟩ := r1; obtain ⟨its, _, ht, _⟩ := I.tuple hs; exact SeqAt.RcNeAt.int_tuple b t' ht (by omega)
  | .tup a, .str b, v, w, u1, u2, hu, _, _, h1, h2, r1, r2 => by
    obtain ⟨p, vs, rfl, hs, hd⟩ := h1.tup; cases h2.str; cases r1; obtain ⟨t', rfl⟩ := r2; obtain ⟨its, _, ht, _⟩ := I.tuple hs; exact SeqAt.RcNeAt.tuple_str b t' ht (by omega)
  | .str b, .tup a, v, w, u1, u2, hu, _, _, h1, h2, r1, r2 => by
    obtain ⟨p, vs, rfl, hs, hd⟩ := h2.tup; cases h1.str; cases r2; obtain ⟨t', rfl⟩ := r1; obtain ⟨its, _, ht, _⟩ := I.tuple hs; exact SeqAt.RcNeAt.str_tuple b t' ht (by omega)
  | .tup a, .tup b, v, w, u1, u2, hu, o1, o2, h1, h2, r1, r2 => by
    simp only [okD] at o1 o2
    obtain ⟨p, vs, rfl, hs, hd⟩ := h1.tup
    obtain ⟨q, ws, rfl, hs2, hd2⟩ := h2.tup
    cases r1; cases r2
    obtain ⟨its, rv, ht, _⟩ := I.tuple hs
    obtain ⟨its2, rv2, ht2, _⟩ := I.tuple hs2
    have l1 : its.toArray.size = a.length := by rw [List.size_toArray, ← rv.length, hd.length]
    have l2 : its2.toArray.size = b.length := by rw [List.size_toArray, ← rv2.length, hd2.length]
    have := SeqAt.RcNeAt.tuples (A := A) (s := s) (e := fun j => eqD n (a.getD j .non) (b.getD j .non)) ht ht2 (by omega) (fun j h1 h2 => els_D I hu hd hd2 rv rv2 o1 o2 h1 h2)
    rw [l1, l2] at this
    simp only [eqD]
    rw [eqL_range]
    exact this
  | .lst _, _, v, w, u1, u2, hu, o1, _, h1, h2, r1, r2 => by simp [okD] at o1
  | .non, .lst _, v, w, u1, u2, hu, _, o1, h1, h2, r1, r2 => by simp [okD] at o1
  | .bl _, .lst _, v, w, u1, u2, hu, _, o1, h1, h2, r1, r2 => by simp [okD] at o1
  | .int _, .lst _, v, w, u1, u2, hu, _, o1, h1, h2, r1, r2 => by simp [okD] at o1
  | .str _, .lst _, v, w, u1, u2, hu, _, o1, h1, h2, r1, r2 => by simp [okD] at o1
  | .tup _, .lst _, v, w, u1, u2, hu, _, o1, h1, h2, r1, r2 => by simp [okD] at o1
  | .ty _, _, v, w, u1, u2, hu, o1, _, h1, h2, r1, r2 => by simp [okD] at o1
  | .dic _, _, v, w, u1, u2, hu, o1, _, h1, h2, r1, r2 => by simp [okD] at o1
  | .ins _, _, v, w, u1, u2, hu, o1, _, h1, h2, r1, r2 => by simp [okD] at o1
  | .non, .ty _, v, w, u1, u2, hu, _, o1, h1, h2, r1, r2 => by simp [okD] at o1
  | .non, .dic _, v, w, u1, u2, hu, _, o1, h1, h2, r1, r2 => by simp [okD] at o1
  | .non, .ins _, v, w, u1, u2, hu, _, o1, h1, h2, r1, r2 => by simp [okD] at o1
  | .bl _, .ty _, v, w, u1, u2, hu, _, o1, h1, h2, r1, r2 => by simp [okD] at o1
  | .bl _, .dic _, v, w, u1, u2, hu, _, o1, h1, h2, r1, r2 => by simp [okD] at o1
  | .bl _, .ins _, v, w, u1, u2, hu, _, o1, h1, h2, r1, r2 => by simp [okD] at o1
  | .int _, .ty _, v, w, u1, u2, hu, _, o1, h1, h2, r1, r2 => by simp [okD] at o1
  | .int _, .dic _, v, w, u1, u2, hu, _, o1, h1, h2, r1, r2 => by simp [okD] at o1
  | .int _, .ins _, v, w, u1, u2, hu, _, o1, h1, h2, r1, r2 => by simp [okD] at o1
  | .str _, .ty _, v, w, u1, u2, hu, _, o1, h1, h2, r1, r2 => by simp [okD] at o1
  | .str _, .dic _, v, w, u1, u2, hu, _, o1, h1, h2, r1, r2 => by simp [okD] at o1
  | .str _, .ins _, v, w, u1, u2, hu, _, o1, h1, h2, r1, r2 => by simp [okD] at o1
  | .tup _, .ty _, v, w, u1, u2, hu, _, o1, h1, h2, r1, r2 => by simp [okD] at o1
  | .tup _, .dic _, v, w, u1, u2, hu, _, o1, h1, h2, r1, r2 => by simp [okD] at o1
  | .tup _, .ins _, v, w, u1, u2, hu, _, o1, h1, h2, r1, r2 => by simp [okD] at o1
end
theorem od_eq {X : Cx} (hu : X.A.units + 16 < cLine) : OpD X (compareOp .Eq) (rEqD false) := by
  intro pins s σ H v w u1 u2 Q I r1 r2 h
  obtain ⟨φ, st, x, y, P, R, dx, dy, hr, hq⟩ := h
  have gen : okD 8 x = true → okD 8 y = true → P (.bl (eqD 8 x y != false)) st → wpAny (model X.prog X.w) X.A (compareOp .Eq u1 u2) (EP X pins σ Q) X.xe s := fun o1 o2 hp => by
    rw [bne_false'] at hp
    exact rcEq_D I 7 (by omega) o1 o2 dx dy r1 r2 _ _ _ _ (fin_bool I hq R hp rfl)
  cases x with
  | lst n =>
    cases y with
    | lst m =>
      have hr' : match st[n]?, st[m]? with
        | some a, some b => a.items.all (okD 8) = true ∧ b.items.all (okD 8) = true ∧ P (.bl (eqL (eqD 8) a.items b.items != false)) st
        | _, _ => False := hr
      split at hr'
      · rename_i a b e1 e2
        obtain ⟨o1, o2, hp⟩ := hr'
        rw [bne_false'] at hp
        obtain ⟨vs, s1, d1⟩ := R.seq e1 dx.isL
        obtain ⟨ws, s2, d2⟩ := R.seq e2 dy.isL
        obtain ⟨its, rv, pl, _⟩ := I.list s1
        obtain ⟨its2, rv2, pl2, _⟩ := I.list s2
        have e1' := dx.lst.2
        have e2' := dy.lst.2
        subst e1'; subst e2'
        cases r1; cases r2
        have l1 : its.toArray.size = a.items.length := by rw [List.size_toArray, ← rv.length, d1.length]
        have l2 : its2.toArray.size = b.items.length := by rw [List.size_toArray, ← rv2.length, d2.length]
        rw [eqL_range] at hp
        by_cases hl : its.toArray.size = its2.toArray.size
        · have := SeqAt.RcAt.lists (A := X.A) (s := s) (e := fun j => eqD 8 (a.items.getD j .non) (b.items.getD j .non)) pl.isList pl2.isList hl (by omega) (fun j h1 h2 => els_D I (by omega) d1 d2 rv rv2 o1 o2 h1 h2)
          refine this _ _ _ _ (fin_bool I hq R hp ?_)
          rw [← l1, ← l2, ← hl, Nat.min_self]
          simp
        · have hl' : (its.toArray.size != its2.toArray.size) = true := by simpa using hl
          refine SeqAt.RcAt.lists_lengths (A := X.A) pl.isList pl2.isList hl' (by omega) _ _ _ _ (fin_bool I hq R hp ?_)
          rw [← l1, ← l2]
          have : (its.toArray.size == its2.toArray.size) = false := by simpa using hl
          rw [this, Bool.and_false]
      · exact hr'.elim
    | _ => exact absurd (show okD 8 (.lst n) = true from hr.1) (by simp [okD])
  | _ => cases y <;> exact gen hr.1 hr.2.1 hr.2.2
theorem od_ne {X : Cx} (hu : X.A.units + 16 < cLine) : OpD X (compareOp .NotEq) (rEqD true) := by
  intro pins s σ H v w u1 u2 Q I r1 r2 h
  obtain ⟨φ, st, x, y, P, R, dx, dy, hr, hq⟩ := h
  have gen : okD 8 x = true → okD 8 y = true → P (.bl (eqD 8 x y != true)) st → wpAny (model X.prog X.w) X.A (compareOp .NotEq u1 u2) (EP X pins σ Q) X.xe s := fun o1 o2 hp => by
    rw [bne_true'] at hp
    exact rcNe_D I 7 (by omega) o1 o2 dx dy r1 r2 _ _ _ _ (fin_bool I hq R hp rfl)
  cases x with
  | lst n =>
    cases y with
    | lst m =>
      have hr' : match st[n]?, st[m]? with
        | some a, some b => a.items.all (okD 8) = true ∧ b.items.all (okD 8) = true ∧ P (.bl (eqL (eqD 8) a.items b.items != true)) st
        | _, _ => False := hr
      split at hr'
      · rename_i a b e1 e2
        obtain ⟨o1, o2, hp⟩ := hr'
        rw [bne_true'] at hp
        obtain ⟨vs, s1, d1⟩ := R.seq e1 dx.isL
        obtain ⟨ws, s2, d2⟩ := R.seq e2 dy.isL
        obtain ⟨its, rv, pl, _⟩ := I.list s1
        obtain ⟨its2, rv2, pl2, _⟩ := I.list s2
        have e1' := dx.lst.2
        have e2' := dy.lst.2
        subst e1'; subst e2'
        cases r1; cases r2
        have l1 : its.toArray.size = a.items.length := by rw [List.size_toArray, ← rv.length, d1.length]
        have l2 : its2.toArray.size = b.items.length := by rw [List.size_toArray, ← rv2.length, d2.length]
        rw [eqL_range] at hp
        by_cases hl : its.toArray.size = its2.toArray.size
        · have := SeqAt.RcNeAt.lists (A := X.A) (s := s) (e := fun j => eqD 8 (a.items.getD j .non) (b.items.getD j .non)) pl.isList pl2.isList hl (by omega) (fun j h1 h2 => els_D I (by omega) d1 d2 rv rv2 o1 o2 h1 h2)
          refine this _ _ _ _ (fin_bool I hq R hp ?_)
          rw [← l1, ← l2, ← hl, Nat.min_self]
          simp
        · have hl' : (its.toArray.size != its2.toArray.size) = true := by simpa using hl
          refine SeqAt.RcNeAt.lists_lengths (A := X.A) pl.isList pl2.isList hl' (by omega) _ _ _ _ (fin_bool I hq R hp ?_)
          rw [← l1, ← l2]
          have : (its.toArray.size == its2.toArray.size) = false := by simpa using hl
          rw [this, Bool.and_false]
          rfl
      · exact hr'.elim
    | _ => exact absurd (show okD 8 (.lst n) = true from hr.1) (by simp [okD])
  | _ => cases y <;> exact gen hr.1 hr.2.1 hr.2.2
end L3
namespace L3
open PySem PySem.Spec PyProof.Rows L2
section
variable {X : Cx}
theorem od_is : OpD X (compareOp .Is) (rIsD false) := by
  intro pins s σ H v w u1 u2 Q I r1 r2 h
  obtain ⟨φ, st, x, y, P, R, dx, dy, hr, hq⟩ := h
  have nn : y = .non → v ≠ .non → P (.bl (false != false)) st → wpAny (model X.prog X.w) X.A (compareOp .Is u1 u2) (EP X pins σ Q) X.xe s := fun e hv hp => by
    subst e
    have := dy.non
    exact op_isN pins s σ H v w u1 u2 Q I r1 r2 ⟨this, by rw [decide_eq_false hv]; exact Go.here hq R hp D.mkBl⟩
  cases x with
  | bl a =>
    cases y with
    | bl b =>
      cases dx.bl; cases dy.bl; cases r1; cases r2
      exact is_bool (fin_bool I hq R hr (by rw [bne_false']))
    | non => exact nn rfl (by rw [dx.bl]; intro z; cases z) hr
    | _ => exact hr.elim
  | non =>
    cases y with
    | non => exact op_isN pins s σ H v w u1 u2 Q I r1 r2 ⟨dy.non, by rw [decide_eq_true dx.non]; exact Go.here hq R hr D.mkBl⟩
    | _ => exact hr.elim
  | int a =>
    cases y with
    | non => exact nn rfl (by rw [dx.int]; intro z; cases z) hr
    | _ => exact hr.elim
  | str a =>
    cases y with
    | non => exact nn rfl (by rw [dx.str]; intro z; cases z) hr
    | _ => exact hr.elim
  | tup a =>
    cases y with
    | non => exact nn rfl (by obtain ⟨_, _, e, _⟩ := dx.tup; rw [e]; intro z; cases z) hr
    | _ => exact hr.elim
  | lst a =>
    cases y with
    | non => exact nn rfl (by rw [dx.lst.2]; intro z; cases z) hr
    | _ => exact hr.elim
  | _ => cases y <;> exact hr.elim
end
end L3
namespace L3
open PySem PySem.Spec PyProof.Rows L2
section
variable {X : Cx}
theorem flat_of {K : PySem.W.Frag} {φ : Nat → Addr} {N : Nat} {H : Hp} {d : Dt} {v : V} (h : D K φ N H d v) (o : okD 0 d = true) : flatV v = true := by
  cases d with
  | non => cases h.non; rfl
  | bl _ => cases h.bl; rfl
  | int _ => cases h.int; rfl
  | str _ => cases h.str; rfl
  | _ => exact absurd o (by simp [okD])
theorem flats_of {K : PySem.W.Frag} {φ : Nat → Addr} {N : Nat} {H : Hp} : ∀ {ds : List Dt} {vs : List V}, DL K φ N H ds vs → ds.all (okD 0) = true → vs.all flatV = true
  | [], vs, h, _ => by simp only [DL] at h; rw [h]; rfl
  | d :: ds, vs, h, o => by
    simp only [DL] at h
    obtain ⟨v, r, rfl, h2, h3⟩ := h
    rw [List.all_cons, Bool.and_eq_true] at o ⊢
    exact ⟨flat_of h2 o.1, flats_of h3 o.2⟩
theorem eqV_of {K : PySem.W.Frag} {φ : Nat → Addr} {N : Nat} {H : Hp} {d e : Dt} {v w : V} (h : D K φ N H d v) (h' : D K φ N H e w) (o : okD 0 d = true) (o' : okD 0 e = true) : eqV v w = eqD 0 d e := by
  cases d <;> (try (exfalso; revert o; simp [okD]; done)) <;> cases e <;> (try (exfalso; revert o'; simp [okD]; done)) <;> (simp only [D] at h h'; subst h; subst h'; rfl)
theorem anyV_of {K : PySem.W.Frag} {φ : Nat → Addr} {N : Nat} {H : Hp} {d : Dt} {v : V} (h' : D K φ N H d v) (o' : okD 0 d = true) : ∀ {ds : List Dt} {vs : List V}, DL K φ N H ds vs → ds.all (okD 0) = true → inV v vs = ds.any (fun z => eqD 0 z d)
  | [], vs, h, _ => by simp only [DL] at h; rw [h]; rfl
  | e :: ds, vs, h, o => by
    simp only [DL] at h
    obtain ⟨w, r, rfl, h2, h3⟩ := h
    rw [List.all_cons, Bool.and_eq_true] at o
    have ih := anyV_of h' o' h3 o.2
    unfold inV at ih ⊢
    rw [List.any_cons, List.any_cons, ih, eqV_of h2 h' o.1 o']
theorem seq_of {K : PySem.W.Frag} {φ : Nat → Addr} {st : Sto} {H : Hp} {y : Dt} {w : V} {xs : List Dt} (R : Rep K φ st H) (dy : D K φ st.length H y w) (e : seqOf st y = some xs) :
    ∃ p vs, w = .ref p ∧ ((SqL K H p vs ∧ ∃ n, y = .lst n) ∨ (SqT K H p vs ∧ y = .tup xs)) ∧ DL K φ st.length H xs vs := by
  cases y with
  | tup zs =>
    have e' : zs = xs := Option.some.inj e
    subst e'
    obtain ⟨a, vs, e1, s1, d1⟩ := dy.tup
    exact ⟨a, vs, e1, .inr ⟨s1, rfl⟩, d1⟩
  | lst n =>
    have e' : (st[n]?).map SO.items = some xs := e
    cases q : st[n]? with
    | none => rw [q] at e'; cases e'
    | some o =>
      rw [q] at e'
      have e2 : o.items = xs := Option.some.inj e'
      obtain ⟨vs, h1, h2⟩ := R.seq q dy.isL
      rw [e2] at h2
      exact ⟨φ n, vs, dy.lst.2, .inl ⟨h1, n, rfl⟩, h2⟩
  | _ => cases e
theorem od_in : OpD X (compareOp .In) (rInD false) := by
  intro pins s σ H v w u1 u2 Q I r1 r2 h
  obtain ⟨φ, st, x, y, P, R, dx, dy, hr, hq⟩ := h
  have gen : (match seqOf st y with
    | some xs => okD 0 x = true ∧ xs.all (okD 0) = true ∧ P (.bl (xs.any (fun z => eqD 0 z x) != false)) st
    | none => False) → wpAny (model X.prog X.w) X.A (compareOp .In u1 u2) (EP X pins σ Q) X.xe s := fun hg => by
    split at hg
    · rename_i xs e
      obtain ⟨o1, o2, hp⟩ := hg
      obtain ⟨p, vs, e1, hs, hd⟩ := seq_of R dy e
      refine op_in_seq pins s σ H v w u1 u2 Q I r1 r2 ⟨p, vs, e1, hs.elim (fun z => .inl z.1) fun z => .inr z.1, flat_of dx o1, flats_of hd o2, ?_⟩
      rw [if_neg Bool.false_ne_true, anyV_of dx o1 hd o2]
      rw [bne_false'] at hp
      exact Go.here hq R hp D.mkBl
    · exact hg.elim
  cases x with
  | str i =>
    cases y with
    | str j =>
      have hr' : P (.bl ((!(Builtin.Str.occurrences j i 0 j.length 1).isEmpty) != false)) st := hr
      rw [bne_false'] at hr'
      exact op_in_str pins s σ H v w u1 u2 Q I r1 r2 ⟨i, j, dx.str, dy.str, Go.here hq R hr' D.mkBl⟩
    | _ => exact gen hr
  | _ => exact gen hr
end
end L3
namespace L3
open PySem PySem.Spec PyProof.Rows L2
section
variable {X : Cx}
noncomputable def rIxD : RD2 := fun x y st P => match y with
  | .int i => (match x with
    | .str z => z.length ≤ sizeLine ∧ (match atI z.cps.toList i with
      | some c => P (.str ⟨#[c]⟩) st
      | none => False)
    | x => match seqOf st x with
      | some xs => (match atI xs i with
        | some d => P d st
        | none => False)
      | none => False)
  | _ => False
theorem DL.atI {K : PySem.W.Frag} {φ : Nat → Addr} {N : Nat} {H : Hp} {ds : List Dt} {vs : List V} {i : Int} {d : Dt} (h : DL K φ N H ds vs) (e : L2.atI ds i = some d) : ∃ v, L2.atI vs i = some v ∧ D K φ N H d v := by
  unfold L2.atI at e ⊢
  rw [← h.length]
  cases q : ixN ds.length i with
  | none => rw [q] at e; cases e
  | some j =>
    rw [q] at e
    exact h.get e
theorem de_ix {a b : Expr} {ta tb : TD} {pos : Pos} (ha : DE X a ta) (hb : DE X b tb) (hs : PlainIx b := by exact fun _ _ => rfl) : DE X (.Subscript a b pos) (tbin rIxD ta tb) := by
  have key : IxR X (liftR X.K rIxD) := by
    intro value slice pins s σ H v w u1 u2 Q I r1 r2 h hsub
    obtain ⟨φ, st, x, y, P, R, dx, dy, hr, hq⟩ := h
    cases y with
    | int i =>
      have gen : (match seqOf st x with
        | some xs => (match atI xs i with
          | some d => P d st
          | none => False)
        | none => False) → wpAny (model X.prog X.w) X.A (subscriptTail value slice u1 u2) (EP X pins σ Q) X.xe s := fun hg => by
        split at hg
        · rename_i xs e
          split at hg
          · rename_i d ed
            obtain ⟨p, vs, e1, hs, hd⟩ := seq_of R dx e
            obtain ⟨z, ez, dz⟩ := hd.atI ed
            refine ix_seq value slice pins s σ H v w u1 u2 Q I r1 r2 ?_ hsub
            rcases hs with ⟨hs, _⟩ | ⟨hs, _⟩
            · exact .inl ⟨p, vs, i, z, e1, dy.int, hs, ez, Go.here hq R hg dz⟩
            · exact .inr (.inl ⟨p, vs, i, z, e1, dy.int, hs, ez, Go.here hq R hg dz⟩)
          · exact hg.elim
        · exact hg.elim
      cases x with
      | str z =>
        have hr' : z.length ≤ sizeLine ∧ (match atI z.cps.toList i with
          | some c => P (.str ⟨#[c]⟩) st
          | none => False) := hr
        obtain ⟨h1, h2⟩ := hr'
        split at h2
        · rename_i c ec
          exact ix_seq value slice pins s σ H v w u1 u2 Q I r1 r2 (.inr (.inr ⟨z, i, c, dx.str, dy.int, h1, ec, Go.here hq R h2 D.mkStr⟩)) hsub
        · exact h2.elim
      | _ => exact gen hr
    | _ => exact hr.elim
  exact (pe_ix key ha hb hs).imp fun _ _ _ => bin_lift
noncomputable abbrev TOD := Rho → Sto → (Option Int → Sto → Prop) → Prop
noncomputable def liftO (K : PySem.W.Frag) (t : TOD) : TO := fun σ H Q => ∃ φ st ρ P, Pre K φ st H ρ σ ∧ t ρ st P ∧ ∀ o st', P o st' → ∀ φ' H', Bhd K φ st H φ' st' H' → Q o H'
noncomputable def DO (X : Cx) (e : Option Expr) (t : TOD) : Prop := PO X e (liftO X.K t)
noncomputable def tonone : TOD := fun _ st P => P none st
noncomputable def tosome (t : TD) : TOD := fun ρ st P => t ρ st fun x st1 => match x with
  | .int i => P (some i) st1
  | _ => False
theorem do_none : DO X none tonone := fun pins s σ H Q I h => by
  obtain ⟨φ, st, ρ, P, pre, ht, hq⟩ := h
  exact po_none pins s σ H Q I (hq none st ht φ H (.refl pre.1))
theorem do_some {e : Expr} {t : TD} (he : DE X e t) : DO X (some e) (tosome t) := fun pins s σ H Q I h => by
  refine po_some he pins s σ H Q I ?_
  obtain ⟨φ, st, ρ, P, pre, ht, hq⟩ := h
  refine ⟨φ, st, ρ, _, pre, ht, fun d st1 h1 φ1 H1 v b1 dx => ?_⟩
  cases d with
  | int i => exact ⟨i, dx.int, hq _ st1 h1 φ1 H1 b1⟩
  | _ => exact h1.elim
noncomputable def cutD (xs : List Dt) (lo hi : Option Int) : List Dt := (xs.drop (HT.sIx xs.length 0 lo)).take (HT.sIx xs.length xs.length hi - HT.sIx xs.length 0 lo)
noncomputable def tslice (te : TD) (tl th : TOD) : TD := fun ρ st P => te ρ st fun x st1 => tl ρ st1 fun lo st2 => th ρ st2 fun hi st3 => match x with
  | .tup xs => ¬ (HT.sIx xs.length 0 lo = 0 ∧ HT.sIx xs.length xs.length hi = xs.length) ∧ P (.tup (cutD xs lo hi)) st3
  | .lst n => (match st3[n]? with
    | some o => P (.lst st3.length) (st3 ++ [.rw (cutD o.items lo hi)])
    | none => False)
  | _ => False
end
end L3
namespace L3
open PySem PySem.Spec PyProof.Rows L2
noncomputable def liftSp (K : PySem.W.Frag) (sp : RDL) : Sp := fun vs H Q _ => liftC K sp vs H Q
section
variable {X : Cx} {e : Expr} {es : List Expr} {t : TAD} {pos p : Pos} {x : Str}
theorem de_call {k : Nat} {f : Addr} {fd : FuncData} {ps : List Str} {sp : RDL} (F : FnOk X.prog X.w X.K X.mg X.base CX0 k f fd ps (liftSp X.K sp)) (hr : Room k X.A) (hm : X.mg x = some (.ref f)) (hk : PySem.W.keepIn X.K (.ref f) = true)
    (hb : Binds X.K fd ps []) (ha : DA X (e :: es) t) (hg : Gl X x := by rfl) (hdb : (x == ("__debug__" : Str)) = false := by decide) (he : starEach (e :: es) X.env = (false, eval e X.env) :: starEach es X.env := by rfl)
    (hpl : (backTo pos (starEach es X.env)).any (·.1) = false := by rfl) : DE X (.Call (.Name x p) (e :: es) [] pos) (tcall sp t) := by
  refine PE.imp (pe_call F hr hg hm hk hb .nil pass0 ha hdb he hpl) fun σ H Q h => ?_
  have := call_lift h
  obtain ⟨φ, st, ρ, P, pre, ht, hq⟩ := this
  refine ⟨φ, st, ρ, P, pre, ht, fun ds st' hp φ' H' vs b d => ?_⟩
  show liftSp X.K sp (vs ++ []) H' Q E0
  rw [List.append_nil]
  exact hq ds st' hp φ' H' vs b d
theorem de_callB {id : String} {r : RDL} (hc : CallD X (.builtin id) r) (hm : X.mg x = none) (hv : bootBuiltins x = some (.builtin id)) (ha : DA X (e :: es) t) (hg : Gl X x := by rfl) (hn : x ≠ "__name__" := by decide) (hdb : (x == ("__debug__" : Str)) = false := by decide)
    (he : starEach (e :: es) X.env = (false, eval e X.env) :: starEach es X.env := by rfl) (hpl : (backTo pos (starEach es X.env)).any (·.1) = false := by rfl) : DE X (.Call (.Name x p) (e :: es) [] pos) (tcall r t) :=
  PE.imp (pe_callB hc hg hm hv ha hn hdb he hpl) fun σ H Q h => call_lift h
theorem de_callTy {T : String} {r : RDL} (hc : CallD X (.type T) r) (hm : X.mg x = none) (hv : bootBuiltins x = some (.type T)) (ha : DA X (e :: es) t) (hg : Gl X x := by rfl) (hn : x ≠ "__name__" := by decide) (hdb : (x == ("__debug__" : Str)) = false := by decide)
    (he : starEach (e :: es) X.env = (false, eval e X.env) :: starEach es X.env := by rfl) (hpl : (backTo pos (starEach es X.env)).any (·.1) = false := by rfl) : DE X (.Call (.Name x p) (e :: es) [] pos) (tcall r t) :=
  PE.imp (pe_callTy hc hg hm hv ha hn hdb he hpl) fun σ H Q h => call_lift h
noncomputable def rLen : RDL := fun ds st P => match ds with
  | [.str z] => z.length ≤ sizeLine ∧ P (.int z.length) st
  | [x] => (match seqOf st x with
    | some xs => P (.int xs.length) st
    | none => False)
  | _ => False
theorem cd_len : CallD X (.builtin "len") rLen := by
  intro pins s σ H vs us Q I rv h
  obtain ⟨φ, st, ds, P, R, dl, hr, hq⟩ := h
  rcases ds with _ | ⟨x, _ | ⟨y, r⟩⟩
  · exact hr.elim
  rotate_left
  · cases x <;> exact hr.elim
  · obtain ⟨v, rfl, dx⟩ := dl.one
    have gen : (match seqOf st x with
      | some xs => P (.int xs.length) st
      | none => False) → wpAny (model X.prog X.w) X.A (call (.builtin "len") us) (EP X pins σ Q) X.xe s := fun hg => by
      split at hg
      · rename_i xs e
        obtain ⟨p, ws, e1, hs, hd⟩ := seq_of R dx e
        refine call_len_seq pins s σ H [v] us Q I rv ⟨p, ws, by rw [e1], hs.elim (fun z => .inl z.1) fun z => .inr z.1, ?_⟩
        rw [← hd.length]
        exact Go.here hq R hg D.mkInt
      · exact hg.elim
    cases x with
    | str z => exact call_len_str pins s σ H [v] us Q I rv ⟨z, by rw [dx.str], hr.1, Go.here hq R hr.2 D.mkInt⟩
    | _ => exact gen hr
noncomputable def rTuple : RDL := fun ds st P => match ds with
  | [x] => (match seqOf st x with
    | some xs => P (.tup xs) st
    | none => False)
  | _ => False
theorem cd_tuple : CallD X (.type "tuple") rTuple := by
  intro pins s σ H vs us Q I rv h
  obtain ⟨φ, st, ds, P, R, dl, hr, hq⟩ := h
  rcases ds with _ | ⟨x, _ | ⟨y, r⟩⟩
  · exact hr.elim
  rotate_left
  · cases x <;> exact hr.elim
  · obtain ⟨v, rfl, dx⟩ := dl.one
    have hr' : (match seqOf st x with
      | some xs => P (.tup xs) st
      | none => False) := hr
    split at hr'
    · rename_i xs e
      obtain ⟨p, ws, e1, hs, hd⟩ := seq_of R dx e
      refine call_tuple_of pins s σ H [v] us Q I rv ⟨p, ws, by rw [e1], ?_⟩
      rcases hs with ⟨hs, _⟩ | ⟨hs, ex⟩
      · exact .inl ⟨hs, fun l hl => hq _ st hr' φ _ _ (bhd_tup R hl) (.mkTup (SqT.of upd_same) (hd.evo (evo_new hl)))⟩
      · exact .inr ⟨hs, Go.here hq R hr' (.mkTup hs hd)⟩
    · exact hr'.elim
noncomputable def rList : RDL := fun ds st P => match ds with
  | [x] => (match seqOf st x with
    | some xs => P (.lst st.length) (st ++ [.rw xs])
    | none => False)
  | _ => False
theorem cd_list : CallD X (.type "list") rList := by
  intro pins s σ H vs us Q I rv h
  obtain ⟨φ, st, ds, P, R, dl, hr, hq⟩ := h
  rcases ds with _ | ⟨x, _ | ⟨y, r⟩⟩
  · exact hr.elim
  rotate_left
  · cases x <;> exact hr.elim
  · obtain ⟨v, rfl, dx⟩ := dl.one
    have hr' : (match seqOf st x with
      | some xs => P (.lst st.length) (st ++ [.rw xs])
      | none => False) := hr
    split at hr'
    · rename_i xs e
      obtain ⟨p, ws, e1, hs, hd⟩ := seq_of R dx e
      exact call_list_of pins s σ H [v] us Q I rv ⟨p, ws, by rw [e1], hs.elim (fun z => .inl z.1) fun z => .inr z.1, fun l hl => hq _ _ hr' _ _ _ (bhd_lst R hl hd) d_new⟩
    · exact hr'.elim
end
end L3
namespace L3
open PySem PySem.Spec PyProof.Rows L2
section
variable {X : Cx}
noncomputable def tyN : Dt → Option String
  | .non => some "NoneType"
  | .bl _ => some "bool"
  | .int _ => some "int"
  | .str _ => some "str"
  | .tup _ => some "tuple"
  | .lst _ => some "list"
  | .ty _ => none
  | .dic _ => none
  | .ins _ => none
noncomputable def isT (t c : String) : Bool := t == c || (t == "bool" && c == "int")
theorem kit_of (K : PySem.W.Frag) {t c : String} (ht : t = "NoneType" ∨ t = "bool" ∨ t = "int" ∨ t = "str" ∨ t = "tuple" ∨ t = "list") (hc : c = "bool" ∨ c = "int" ∨ c = "str" ∨ c = "tuple" ∨ c = "list") : PySem.W.kitOne K (.type t) (.type c) = some (isT t c) := by
  rcases ht with rfl | rfl | rfl | rfl | rfl | rfl <;> rcases hc with rfl | rfl | rfl | rfl | rfl <;> kernel_rfl
noncomputable def rIsInst : RDL := fun ds st P => match ds with
  | [x, .ty c] => (c = "bool" ∨ c = "int" ∨ c = "str" ∨ c = "tuple" ∨ c = "list") ∧ (match tyN x with
    | some t => P (.bl (isT t c)) st
    | none => False)
  | _ => False
theorem cd_isinst : CallD X (.builtin "isinstance") rIsInst := by
  intro pins s σ H vs us Q I rv h
  obtain ⟨φ, st, ds, P, R, dl, hr, hq⟩ := h
  rcases ds with _ | ⟨x, _ | ⟨y, _ | ⟨z, r⟩⟩⟩
  · exact hr.elim
  · exact hr.elim
  rotate_left
  · cases y <;> exact hr.elim
  · cases y <;> first
      | exact hr.elim
      | skip
    rename_i c
    obtain ⟨v, w, rfl, dx, dy⟩ := dl.two
    obtain ⟨u, u', rfl, ru, ru'⟩ := vals2 rv
    have := dy.ty
    subst this
    have := (show u' = Value.type c from ru')
    subst this
    obtain ⟨hc, hr⟩ := hr
    have fin : ∀ {t : String}, P (.bl (isT t c)) st → ∀ tk, EP X pins σ Q (.bool (isT t c)) { s with toks := tk } := fun {t} hp tk => ⟨.bl _, H, I.tok tk, rfl, Go.here hq R hp D.mkBl⟩
    cases x with
    | non => cases dx.non; cases ru; exact PySem.W.kia_one PySem.W.kitx_none I.kIn True.intro (kit_of _ (.inl rfl) hc) (fun z => nomatch z) (fin hr)
    | bl k => cases dx.bl; cases ru; exact PySem.W.kia_one PySem.W.kitx_bool I.kIn True.intro (kit_of _ (.inr (.inl rfl)) hc) (fun z => nomatch z) (fin hr)
    | int k => cases dx.int; obtain ⟨t, rfl⟩ := ru; exact PySem.W.kia_one PySem.W.kitx_int I.kIn True.intro (kit_of _ (.inr (.inr (.inl rfl))) hc) (fun z => nomatch z) (fin hr)
    | str k => cases dx.str; obtain ⟨t, rfl⟩ := ru; exact PySem.W.kia_one PySem.W.kitx_str I.kIn True.intro (kit_of _ (.inr (.inr (.inr (.inl rfl)))) hc) (fun z => nomatch z) (fin hr)
    | tup xs =>
      obtain ⟨a, ws, e1, s1, d1⟩ := dx.tup
      subst e1
      cases ru
      obtain ⟨its, _, ⟨o, h1, h2, _⟩, _⟩ := I.tuple s1
      exact PySem.W.kia_one PySem.W.kitx_tuple I.kIn ⟨o, h1, h2⟩ (kit_of _ (.inr (.inr (.inr (.inr (.inl rfl))))) hc) (fun z => nomatch z) (fin hr)
    | lst n =>
      obtain ⟨ws, s1⟩ := dx.isL
      obtain ⟨hn, e1⟩ := dx.lst
      subst e1
      cases ru
      obtain ⟨its, _, pl, _⟩ := I.list s1
      obtain ⟨ob, h1, h2, _⟩ := pl.isList
      exact PySem.W.kia_one PySem.W.kitx_list I.kIn ⟨ob, h1, h2⟩ (kit_of _ (.inr (.inr (.inr (.inr (.inr rfl))))) hc) (fun z => nomatch z) (fin hr)
    | ty _ => exact hr.elim
    | dic _ => exact hr.elim
    | ins _ => exact hr.elim
end
end L3
namespace L3
open PySem PySem.Spec PyProof.Rows L2
section
variable {X : Cx} {s : Stmt} {rest : List Stmt} {t u : TSD} {e : Expr} {te : TD} {pos : Pos}
noncomputable def tnext : TSD := fun E ρ st => E.nx ρ st
noncomputable def tseq (t u : TSD) : TSD := fun E ρ st => t { E with nx := u E } ρ st
theorem dss_nil : DSs X [] tnext := (pss_nil).imp fun E σ H h => by
  obtain ⟨φ, st, ρ, P, pre, ht, n, b, c, r⟩ := h
  exact n ρ st ht φ H σ (.refl pre.1) pre.2
theorem dss_cons (h1 : DS X s t) (h2 : DSs X rest u) : DSs X (s :: rest) (tseq t u) := (pss_cons h1 h2).imp fun E σ H h => by
  obtain ⟨φ, st, ρ, P, pre, ht, n, b, c, r⟩ := h
  refine ⟨φ, st, ρ, { P with nx := u P }, pre, ht, fun ρ' st' hu φ' H' σ' bh dr => ?_, b, c, r⟩
  exact ⟨φ', st', ρ', P, ⟨bh.1, dr⟩, hu, fun ρ2 st2 h2 φ2 H2 σ2 b2 d2 => n ρ2 st2 h2 φ2 H2 σ2 (bh.trans b2) d2, fun ρ2 st2 h2 φ2 H2 σ2 b2 d2 => b ρ2 st2 h2 φ2 H2 σ2 (bh.trans b2) d2,
    fun ρ2 st2 h2 φ2 H2 σ2 b2 d2 => c ρ2 st2 h2 φ2 H2 σ2 (bh.trans b2) d2, fun d st2 h2 φ2 H2 v b2 d2 => r d st2 h2 φ2 H2 v (bh.trans b2) d2⟩
noncomputable def tdrop (te : TD) : TSD := fun E ρ st => te ρ st fun _ st1 => E.nx ρ st1
theorem ds_expr (he : DE X e te) (hs : swapsWith e none pos.line X.env = pure false := by rfl) : DS X (.Expr e pos) (tdrop te) := (ps_expr he hs).imp fun E σ H h => by
  obtain ⟨φ, st, ρ, P, pre, ht, n, b, c, r⟩ := h
  exact ⟨φ, st, ρ, _, pre, ht, fun d st1 h1 φ1 H1 v b1 dx => n ρ st1 h1 φ1 H1 σ b1 (pre.on b1).2⟩
noncomputable def tret (te : TD) : TSD := fun E ρ st => te ρ st E.rt
theorem ds_ret (he : DE X e te) : DS X (.Return (some e) pos) (tret te) := (ps_ret he).imp fun E σ H h => by
  obtain ⟨φ, st, ρ, P, pre, ht, n, b, c, r⟩ := h
  exact ⟨φ, st, ρ, P.rt, pre, ht, r⟩
noncomputable def tretN : TSD := fun E _ st => E.rt .non st
noncomputable def tifS (c : TBD) (t u : TSD) : TSD := fun E ρ st => c ρ st fun k st1 => if k = true then t E ρ st1 else u E ρ st1
theorem ds_if {c : Expr} {a b : List Stmt} {tc : TBD} (hc : DT X c tc) (ha : DSs X a t) (hb : DSs X b u) : DS X (.If c a b pos) (tifS tc t u) := (ps_if hc ha hb).imp fun E σ H h => by
  obtain ⟨φ, st, ρ, P, pre, ht, n, b, c, r⟩ := h
  refine ⟨φ, st, ρ, _, pre, ht, fun k st1 h1 φ1 H1 b1 => ?_⟩
  have on : ∀ {v : TSD}, v P ρ st1 → liftS X.K v E σ H1 := fun {v} hv => ⟨φ1, st1, ρ, P, pre.on b1, hv, fun ρ2 st2 h2 φ2 H2 σ2 b2 d2 => n ρ2 st2 h2 φ2 H2 σ2 (b1.trans b2) d2, fun ρ2 st2 h2 φ2 H2 σ2 b2 d2 => b ρ2 st2 h2 φ2 H2 σ2 (b1.trans b2) d2,
    fun ρ2 st2 h2 φ2 H2 σ2 b2 d2 => c ρ2 st2 h2 φ2 H2 σ2 (b1.trans b2) d2, fun d st2 h2 φ2 H2 v b2 d2 => r d st2 h2 φ2 H2 v (b1.trans b2) d2⟩
  cases k with
  | true => exact iteT (on (by rw [if_pos rfl] at h1; exact h1))
  | false => exact iteF (on (by rw [if_neg Bool.false_ne_true] at h1; exact h1))
noncomputable abbrev TGD := Dt → Rho → Sto → (Rho → Sto → Prop) → Prop
noncomputable abbrev TGsD := List Dt → Rho → Sto → (Rho → Sto → Prop) → Prop
noncomputable def liftG (K : PySem.W.Frag) (g : TGD) : TG := fun v σ H Q => ∃ φ st ρ d P, Pre K φ st H ρ σ ∧ D K φ st.length H d v ∧ g d ρ st P ∧ ∀ ρ' st', P ρ' st' → ∀ φ' H' σ', Bhd K φ st H φ' st' H' → DR K φ' st'.length H' ρ' σ' → Q σ' H'
noncomputable def liftGs (K : PySem.W.Frag) (g : TGsD) : TGs := fun vs σ H Q => ∃ φ st ρ ds P, Pre K φ st H ρ σ ∧ DL K φ st.length H ds vs ∧ g ds ρ st P ∧ ∀ ρ' st', P ρ' st' → ∀ φ' H' σ', Bhd K φ st H φ' st' H' → DR K φ' st'.length H' ρ' σ' → Q σ' H'
noncomputable def DG (X : Cx) (tg : Expr) (g : TGD) : Prop := PG X tg (liftG X.K g)
noncomputable def DGs (X : Cx) (tg : List Expr) (g : TGsD) : Prop := PGs X tg (liftGs X.K g)
theorem _root_.L2.PG.imp {X : Cx} {e : Expr} {t t' : TG} (h : PG X e t) (i : ∀ v σ H Q, t' v σ H Q → t v σ H Q) : PG X e t' := fun pins s σ H v u Q I r q => h pins s σ H v u Q I r (i v σ H Q q)
theorem _root_.L2.PGs.imp {X : Cx} {e : List Expr} {t t' : TGs} (h : PGs X e t) (i : ∀ v σ H Q, t' v σ H Q → t v σ H Q) : PGs X e t' := fun pins s σ H v u Q I r q => h pins s σ H v u Q I r (i v σ H Q q)
noncomputable def gname (i : Nat) : TGD := fun d ρ st P => P (ρ.set i (some d)) st
theorem dg_name (i : Nat) {x : Str} (hN : X.N.Nodup) (hi : X.N[i]? = some x := by rfl) (hx : Loc X.env.scope x := by first | exact Or.inl rfl | exact Or.inr rfl) (hf : X.fn x = true ∨ X.env.scope.names.lookup x = some .local := by first | exact .inl rfl | exact .inr rfl | assumption) : DG X (.Name x pos) (gname i) :=
  (pg_name hN hi hx hf).imp fun v σ H Q h => by
    obtain ⟨φ, st, ρ, d, P, pre, hd, hg, hq⟩ := h
    exact hq _ st hg φ H _ (.refl pre.1) (pre.2.set hd i)
noncomputable def gsnil : TGsD := fun ds ρ st P => match ds with
  | [] => P ρ st
  | _ => False
noncomputable def gscons (g : TGD) (gs : TGsD) : TGsD := fun ds ρ st P => match ds with
  | d :: r => g d ρ st fun ρ1 st1 => gs r ρ1 st1 P
  | _ => False
theorem dgs_nil : DGs X [] gsnil := (pgs_nil).imp fun v σ H Q h => by
  obtain ⟨φ, st, ρ, ds, P, pre, hd, hg, hq⟩ := h
  cases ds with
  | nil =>
    have : v = [] := by simpa [DL] using hd
    exact ⟨this, hq _ st hg φ H _ (.refl pre.1) pre.2⟩
  | cons _ _ => exact hg.elim
theorem dgs_cons {es : List Expr} {g : TGD} {gs : TGsD} (h1 : DG X e g) (h2 : DGs X es gs) (hs : (assignEach (e :: es) X.env).map (·.2) = assign e X.env :: (assignEach es X.env).map (·.2) := by rfl) : DGs X (e :: es) (gscons g gs) := (pgs_cons h1 h2 hs).imp fun v σ H Q h => by
  obtain ⟨φ, st, ρ, ds, P, pre, hd, hg, hq⟩ := h
  cases ds with
  | nil => exact hg.elim
  | cons d r =>
    simp only [DL] at hd
    obtain ⟨w, ws, rfl, dw, dws⟩ := hd
    refine ⟨w, ws, rfl, φ, st, ρ, d, _, pre, dw, hg, fun ρ1 st1 h1 φ1 H1 σ1 b1 dr1 => ?_⟩
    exact ⟨φ1, st1, ρ1, r, P, ⟨b1.1, dr1⟩, dws.evo b1.2, h1, fun ρ2 st2 h2 φ2 H2 σ2 b2 d2 => hq ρ2 st2 h2 φ2 H2 σ2 (b1.trans b2) d2⟩
noncomputable def gunpack (n : Nat) (gs : TGsD) : TGD := fun d ρ st P => match seqOf st d with
  | some xs => xs.length = n ∧ gs xs ρ st P
  | none => False
theorem draw_list {prog : Program} {w : World} {A : Around} {E : Value → Shared → Prop} {it l : Addr} {items : Array Value} (hne : l ≠ it) : ∀ (n i : Nat) (s : Shared) (Q : List Value → Shared → Prop), s.heap.IsListIter it l i → s.heap.IsList l items → i + n ≤ items.size →
    (∀ h', h'.IsListIter it l (i + n) → Heap.SameBut it s.heap h' → Q ((items.toList.drop i).take n) { s with heap := h' }) → wpAny (model prog w) A (draw (.ref it) n) Q E s
  | 0, i, s, Q, hit, hl, hn, h => by
    unfold draw
    have := h s.heap (by simpa using hit) (.refl ..)
    simpa using wpAny_pure this
  | n + 1, i, s, Q, hit, hl, hn, h => by
    unfold draw
    have hi : i < items.size := by omega
    refine wpAny_bind (wpAny_pyNext_list_item hit hl (x := items[i]) (by simp [hi]) fun h1 hit1 sb1 => ?_)
    dsimp only
    refine wpAny_bind (wpAny_holding ?_)
    refine draw_list hne n (i + 1) { s with heap := h1 } _ hit1 (hl.extBut sb1.extBut hne) (by omega) fun h2 hit2 sb2 => ?_
    refine wpAny_pure ?_
    have e : (items.toList.drop i).take (n + 1) = items[i] :: (items.toList.drop (i + 1)).take n := by
      rw [List.drop_eq_getElem_cons (by simpa using hi), List.take_succ_cons]
      simp
    have := h h2 (by rw [show i + (n + 1) = i + 1 + n by omega]; exact hit2) (sb1.trans sb2)
    rw [e] at this
    exact this
end
end L3
namespace L3
open PySem PySem.Spec PyProof.Rows L2
section
variable {prog : Program} {w : World} {A : Around} {E : Value → Shared → Prop} {s : Shared}
theorem unpackItems_list {l : Addr} {items : Array Value} {Q : List Value → Shared → Prop} (hh : A.handled = none) (hl : s.heap.IsList l items)
    (hQ : ∀ h', Heap.ExtBut s.heap.objs.size s.heap h' → Q items.toList { s with heap := h' }) : wpAny (model prog w) A (unpackItems (.ref l) items.size none) Q E s := by
  have hlt : l ≠ s.heap.objs.size := by obtain ⟨o, ho, _⟩ := hl; exact Nat.ne_of_lt (Heap.lt_size ho)
  unfold unpackItems
  refine wpAny_bind ?_
  unfold notIterableAtAll
  refine wpAny_bind (wpAny_specialOf hl.typeIs slot_list_iter.lookup ?_)
  refine wpAny_pure ?_
  simp only [Bool.false_eq_true, if_false]
  refine wpAny_bind (wpAny_holding (wpAny_pyIter_list hl ?_))
  refine wpAny_bind (wpAny_holding (draw_list hlt items.size 0 _ _ ⟨_, Heap.get?_push_size _ rfl, rfl, rfl⟩ (hl.push _) (by omega) fun h₁ hit₁ hs₁ => ?_))
  have hall : List.take items.size (List.drop 0 items.toList) = items.toList := by
    rw [List.drop_zero]; exact List.take_of_length_le (by simp)
  rw [hall]
  rw [if_neg (by simp)]
  have hl₁ : h₁.IsList l items := (hl.push _).extBut hs₁.extBut hlt
  refine wpAny_bind (wpAny_holding (wpAny_pyNext_list_end hh hit₁ hl₁ (by simp) fun h₂ he₂ => ?_))
  simp only [Option.isSome_none, Bool.false_eq_true, if_false]
  exact wpAny_pure (hQ h₂ fun b o hb e => he₂ b o hb (hs₁.extBut b o hb (Heap.get?_push_of_some _ e)))
theorem assign_Tuple_list {env : Env} {elts : List Expr} {x1} {pos : Pos} {t : Addr} {items : Array Value} {Q : Unit → Shared → Prop} (hh : A.handled = none) (ht : s.heap.IsList t items)
    (hn : (assignEach elts env).length = items.size) (hstar : (assignEach elts env).findIdx? (·.1) = none)
    (h : ∀ h', Heap.ExtBut s.heap.objs.size s.heap h' → wpAny (model prog w) A (assignInOrder ((assignEach elts env).map (·.2)) items.toList) Q E { s with heap := h' }) :
    wpAny (model prog w) A (assign (.Tuple elts x1 pos) env (.ref t)) Q E s := by
  rw [assign_Tuple]
  refine wpAny_bind (wpAny_standAt ?_)
  unfold unpack
  rw [hn, hstar]
  exact wpAny_bind (wpAny_holding (unpackItems_list hh ht h))
end
section
variable {X : Cx} {pos : Pos} {e : Expr} {te : TD}
theorem dg_unpack {es : List Expr} {k : Nat} {gs : TGsD} (n : Nat) (hc : X.calm = true) (h : DGs X es gs) (hn : (assignEach es X.env).length = n := by rfl) (hst : (assignEach es X.env).findIdx? (·.1) = none := by rfl) : DG X (.Tuple es k pos) (gunpack n gs) := by
  intro pins s σ H v u Q I r hw
  obtain ⟨φ, st, ρ, d, P, pre, hd, hg, hq⟩ := hw
  unfold gunpack at hg
  split at hg
  · rename_i xs ex
    obtain ⟨hl, hg⟩ := hg
    obtain ⟨p, vs, e1, hs, dl⟩ := seq_of pre.1 hd ex
    subst e1
    cases r
    have hlen := dl.length
    rcases hs with ⟨hs, _⟩ | ⟨hs, _⟩
    · obtain ⟨its, rv, pl, _⟩ := I.list hs
      have := rv.length
      refine assign_Tuple_list (I.ok.hd hc) pl.isList (by rw [hn, List.size_toArray]; omega) hst fun h' hx => ?_
      have I1 : Inv X pins σ H { s with heap := h' } := I.kept (t' := s.toks) fun b o e => hx b o (Nat.ne_of_lt (Heap.lt_size e)) e
      exact h pins _ σ H vs _ Q I1 (by simpa using rv) ⟨φ, st, ρ, xs, P, pre, dl, hg, hq⟩
    · obtain ⟨its, rv, ht, _⟩ := I.tuple hs
      have := rv.length
      refine assign_Tuple_tuple (I.ok.hd hc) ht (by rw [hn, List.size_toArray]; omega) hst fun h' hx => ?_
      have I1 : Inv X pins σ H { s with heap := h' } := I.kept (t' := s.toks) fun b o e => hx b o (Nat.ne_of_lt (Heap.lt_size e)) e
      exact h pins _ σ H vs _ Q I1 (by simpa using rv) ⟨φ, st, ρ, xs, P, pre, dl, hg, hq⟩
  · exact hg.elim
noncomputable def tasg (te : TD) (g : TGD) : TSD := fun E ρ st => te ρ st fun d st1 => g d ρ st1 E.nx
theorem asg_lift {K : PySem.W.Frag} {te : TD} {g : TGD} {E : Ends} {σ : L2.St} {H : Hp} (h : liftS K (tasg te g) E σ H) : tAsg (liftE K te) (liftG K g) E σ H := by
  obtain ⟨φ, st, ρ, P, pre, ht, n, b, c, r⟩ := h
  refine ⟨φ, st, ρ, _, pre, ht, fun d st1 h1 φ1 H1 v b1 dx => ?_⟩
  exact ⟨φ1, st1, ρ, d, P.nx, pre.on b1, dx, h1, fun ρ2 st2 h2 φ2 H2 σ2 b2 d2 => n ρ2 st2 h2 φ2 H2 σ2 (b1.trans b2) d2⟩
theorem ds_asg {tg : Expr} {g : TGD} (he : DE X e te) (hg : DG X tg g) (hs : swapsWithSole [tg] e pos.line X.env = pure false := by rfl) (hw : swappedStores [tg] e X.env = pure none := by rfl)
    (h1 : (assignEach [tg] X.env).map (·.2) = [assign tg X.env] := by rfl) : DS X (.Assign [tg] e pos) (tasg te g) := (ps_asg he hg hs hw h1).imp fun _ _ _ => asg_lift
theorem ds_set (i : Nat) {x : Str} {pos' : Pos} (hN : X.N.Nodup) (he : DE X e te) (hi : X.N[i]? = some x := by rfl) (hx : Loc X.env.scope x := by first | exact Or.inl rfl | exact Or.inr rfl) (hs : swapsWith e (some (.Name x pos')) pos.line X.env = pure false := by rfl)
    (hf : X.fn x = true ∨ X.env.scope.names.lookup x = some .local := by first | exact .inl rfl | exact .inr rfl | assumption) : DS X (.Assign [.Name x pos'] e pos) (tasg te (gname i)) := (ps_set hN hi hx he hs hf).imp fun E σ H h => by
  obtain ⟨φ, st, ρ, P, pre, ht, n, b, c, r⟩ := h
  exact ⟨φ, st, ρ, _, pre, ht, fun d st1 h1 φ1 H1 v b1 dx => n _ st1 h1 φ1 H1 _ b1 ((pre.on b1).2.set dx i)⟩
noncomputable def gsub (to ti : TD) : TGD := fun d ρ st P => to ρ st fun o st1 => ti ρ st1 fun i st2 => match o, i with
  | .lst n, .int k => (match st2[n]? with
    | some (.rw xs) => (match ixN xs.length k with
      | some j => P ρ (st2.set n (.rw (xs.set j d)))
      | none => False)
    | _ => False)
  | _, _ => False
theorem dg_sub {o i : Expr} {to ti : TD} (ho : DE X o to) (hi : DE X i ti)
    (ha : ∀ v, assign (.Subscript o i pos) X.env v = (do
      let ov ← holding [v] (eval o X.env)
      let iv ← holding [v, ov] (eval i X.env)
      standAt pos
      holding [v, ov, iv] (setItem ov iv v)
      release [v, ov, iv] []) := by intro _; rfl) : DG X (.Subscript o i pos) (gsub to ti) := (pg_sub ho hi set_list ha).imp fun v σ H Q h => by
  obtain ⟨φ, st, ρ, d, P, pre, hd, hg, hq⟩ := h
  refine ⟨φ, st, ρ, _, pre, hg, fun x st1 h1 φ1 H1 w b1 dx => ?_⟩
  refine ⟨φ1, st1, ρ, _, pre.on b1, h1, fun y st2 h2 φ2 H2 z b2 dy => ?_⟩
  cases x with
  | lst n =>
    cases y with
    | int k =>
      have h2' : (match st2[n]? with
        | some (.rw xs) => (match ixN xs.length k with
          | some j => P ρ (st2.set n (.rw (xs.set j d)))
          | none => False)
        | _ => False) := h2
      split at h2'
      · rename_i xs ex
        split at h2'
        · rename_i j ej
          obtain ⟨vs, hv, dl⟩ := b2.1.rw n xs ex
          have dx2 := dx.evo b2.2
          have hd2 := (hd.evo b1.2).evo b2.2
          refine ⟨φ2 n, vs, k, j, dx2.lst.2, dy.int, hv, by rw [← dl.length]; exact ej, ?_⟩
          have bb : Bhd X.K φ2 st2 H2 φ2 (st2.set n (.rw (xs.set j d))) (upd H2 (φ2 n) (.lst (vs.set j v))) := ⟨b2.1.setL ex (dl.set hd2 j), evo_set hv⟩
          exact hq _ _ h2' φ2 _ σ (b1.trans (b2.trans bb)) (((pre.on b1).on b2).on bb).2
        · exact h2'.elim
      · exact h2'.elim
    | _ => exact h2.elim
  | _ => cases y <;> exact h2.elim
noncomputable def tappend (to te : TD) : TD := fun ρ st P => to ρ st fun o st1 => match o with
  | .lst n => te ρ st1 fun d st2 => (match st2[n]? with
    | some (.rw xs) => xs.length < sizeLine ∧ P .non (st2.set n (.rw (xs ++ [d])))
    | _ => False)
  | _ => False
theorem de_append {o : Expr} {to : TD} {apos cpos : Pos} (ho : DE X o to) (he : DE X e te)
    (hbase : attributeBase o "append" X.env (eval o X.env) = eval o X.env := by rfl)
    (hfew : ((backTo cpos (starEach [e] X.env)).all (fun x => !x.1) && (backToKw cpos (keywordEach [] X.env)).all (fun x => x.1.isSome)
      && decide (([e] : List Expr).length + ([] : List Keyword).length + (if ([] : List Keyword).isEmpty then 0 else 1) < 30)) = true := by rfl)
    (hline : (apos.endLine == cpos.line) = true := by rfl) (hs : starEach [e] X.env = (false, eval e X.env) :: starEach [] X.env := by rfl) (hplain : (backTo cpos (starEach ([] : List Expr) X.env)).any (·.1) = false := by rfl) :
    DE X (.Call (.Attribute o "append" apos) [e] [] cpos) (tappend to te) := by
  refine PE.imp (pe_bm PySem.F.plainAttrs_list PySem.F.slot_list_append PySem.F.type_list_append mt_append ho (da_cons he da_nil hs) hbase hfew hline hs hplain) fun σ H Q h => ?_
  obtain ⟨φ, st, ρ, P, pre, ht, hq⟩ := h
  refine ⟨φ, st, ρ, _, pre, ht, fun x st1 h1 φ1 H1 v b1 dx => ?_⟩
  cases x with
  | lst n =>
    have hn := dx.lst.1
    obtain ⟨so, eo⟩ : ∃ so, st1[n]? = some so := ⟨st1[n], by simp [hn]⟩
    obtain ⟨ws, hws, _⟩ := b1.1.seq eo dx.isL
    refine ⟨?_, ?_⟩
    · rw [dx.lst.2]
      exact .inl ⟨rfl, ws, hws⟩
    refine ⟨φ1, st1, ρ, (fun ds st2 => match ds with
      | [d] => (match st2[n]? with
        | some (.rw xs) => xs.length < sizeLine ∧ P .non (st2.set n (.rw (xs ++ [d])))
        | _ => False)
      | _ => False), pre.on b1, h1, fun ds st2 h2 φ2 H2 zs b2 dz => ?_⟩
    rcases ds with _ | ⟨d, _ | ⟨d2, r⟩⟩
    · exact h2.elim
    rotate_left
    · exact h2.elim
    · have h2 : (match st2[n]? with
        | some (.rw xs) => xs.length < sizeLine ∧ P .non (st2.set n (.rw (xs ++ [d])))
        | _ => False) := h2
      split at h2
      · rename_i xs ex
        obtain ⟨y, rfl, dy⟩ := dz.one
        obtain ⟨vs, hv, dl⟩ := b2.1.rw n xs ex
        have dx2 := dx.evo b2.2
        have bb : Bhd X.K φ2 st2 H2 φ2 (st2.set n (.rw (xs ++ [d]))) (upd H2 (φ2 n) (.lst (vs ++ [y]))) := ⟨b2.1.setL ex (dl.append (.cons dy .nil)), evo_set hv⟩
        exact ⟨φ2 n, vs, y, dx2.lst.2, rfl, hv, by rw [← dl.length]; exact h2.1, hq _ _ h2.2 φ2 _ _ (b1.trans (b2.trans bb)) D.mkNon⟩
      · exact h2.elim
  | _ => exact h1.elim
end
end L3
namespace L3
open PySem PySem.Spec PyProof.Rows L2
noncomputable def forW (items : List Dt) (ok : Sto → Prop) (g : TGD) (tb : TSD) : TSD := fun E ρ st => ∃ Inv : Nat → Rho → Sto → Prop, Inv 0 ρ st ∧ (∀ i ρ' st', i ≤ items.length → Inv i ρ' st' → ok st') ∧
  (∀ (i : Nat) d ρ' st', items[i]? = some d → Inv i ρ' st' → g d ρ' st' fun ρ2 st2 => tb { E with nx := Inv (i + 1), ct := Inv (i + 1), bk := E.nx } ρ2 st2) ∧ ∀ ρ' st', Inv items.length ρ' st' → E.nx ρ' st'
noncomputable def Yields (K : PySem.W.Frag) (φ1 : Nat → Addr) (st1 : Sto) (H1 : Hp) (J : It) (items : List Dt) (ok : Sto → Prop) : Prop :=
  ∀ (i : Nat) φ' st' H', Bhd K φ1 st1 H1 φ' st' H' → ok st' → i ≤ items.length → (i = items.length → J.stop i H') ∧
    (∀ d, items[i]? = some d → J.go i H' ∧ ∀ y H2, J.yld i H' y H2 → Bhd K φ' st' H' φ' st' H2 ∧ D K φ' st'.length H2 d y)
section
variable {K : PySem.W.Frag} {φ1 : Nat → Addr} {st1 : Sto} {H1 : Hp} {ρ1 : Rho} {σ1 : L2.St} {J : It} {items : List Dt} {ok : Sto → Prop} {g : TGD} {tb : TSD}
theorem for_gen {E : EndsD} {E' : Ends} (pre : Pre K φ1 st1 H1 ρ1 σ1) (hJ : Yields K φ1 st1 H1 J items ok) (hf : forW items ok g tb E ρ1 st1)
    (n : ∀ ρ' st', E.nx ρ' st' → ∀ φ' H' σ', Bhd K φ1 st1 H1 φ' st' H' → DR K φ' st'.length H' ρ' σ' → E'.nx σ' H')
    (r : ∀ d st', E.rt d st' → ∀ φ' H' v, Bhd K φ1 st1 H1 φ' st' H' → D K φ' st'.length H' d v → E'.rt v H') :
    ∃ W : Nat → Nat → L2.St → Hp → Prop, (∃ m, W 0 m σ1 H1) ∧ ∀ i m σ H, W i m σ H →
      (J.stop i H ∧ E'.nx σ H) ∨ (J.go i H ∧ ∃ N : L2.St → Hp → Prop, (∀ σ' H', N σ' H' → ∃ m', m' < m ∧ W (i + 1) m' σ' H') ∧ ∀ x H', J.yld i H x H' → liftG K g x σ H' fun σ2 H2 => liftS K tb { E' with nx := N, ct := N, bk := E'.nx } σ2 H2) := by
  obtain ⟨Inv, h0, hok, step, fin⟩ := hf
  refine ⟨fun i m σ H => m = items.length - i ∧ i ≤ items.length ∧ ∃ φ' st' ρ', Pre K φ' st' H ρ' σ ∧ Bhd K φ1 st1 H1 φ' st' H ∧ Inv i ρ' st', ⟨items.length, by simp, Nat.zero_le _, φ1, st1, ρ1, pre, .refl pre.1, h0⟩, ?_⟩
  rintro i m σ H ⟨rfl, hi, φ', st', ρ', pre', bh, hI⟩
  obtain ⟨js, jg⟩ := hJ i φ' st' H bh (hok i ρ' st' hi hI) hi
  by_cases hlt : i < items.length
  · have ed : items[i]? = some items[i] := by simp [hlt]
    obtain ⟨go, yl⟩ := jg _ ed
    refine .inr ⟨go, fun σ3 H3 => ∃ φ3 st3 ρ3, Pre K φ3 st3 H3 ρ3 σ3 ∧ Bhd K φ1 st1 H1 φ3 st3 H3 ∧ Inv (i + 1) ρ3 st3, fun σ3 H3 h3 => ⟨items.length - (i + 1), by omega, rfl, hlt, h3⟩, fun y H2 hy => ?_⟩
    obtain ⟨b2, dy⟩ := yl y H2 hy
    refine ⟨φ', st', ρ', items[i], _, pre'.on b2, dy, step i _ ρ' st' ed hI, fun ρ3 st3 h3 φ3 H3 σ3 b3 d3 => ?_⟩
    have b13 := bh.trans (b2.trans b3)
    refine ⟨φ3, st3, ρ3, _, ⟨b3.1, d3⟩, h3, fun ρ4 st4 h4 φ4 H4 σ4 b4 d4 => ⟨φ4, st4, ρ4, ⟨b4.1, d4⟩, b13.trans b4, h4⟩, fun ρ4 st4 h4 φ4 H4 σ4 b4 d4 => n ρ4 st4 h4 φ4 H4 σ4 (b13.trans b4) d4,
      fun ρ4 st4 h4 φ4 H4 σ4 b4 d4 => ⟨φ4, st4, ρ4, ⟨b4.1, d4⟩, b13.trans b4, h4⟩, fun d st4 h4 φ4 H4 v b4 d4 => r d st4 h4 φ4 H4 v (b13.trans b4) d4⟩
  · have e : i = items.length := by omega
    subst e
    exact .inl ⟨js rfl, n ρ' st' (fin ρ' st' hI) φ' H σ bh pre'.2⟩
end
noncomputable abbrev TID := Rho → Sto → (List Dt → (Sto → Prop) → Sto → Prop) → Prop
noncomputable def liftI (K : PySem.W.Frag) (t : TID) : TI := fun σ H R => ∃ φ st ρ P, Pre K φ st H ρ σ ∧ t ρ st P ∧ ∀ items ok st', P items ok st' → ∀ φ' H' J, Bhd K φ st H φ' st' H' → Yields K φ' st' H' J items ok → R J H'
noncomputable def DI (X : Cx) (tg it : Expr) (t : TID) : Prop := PI X tg it (liftI X.K t)
noncomputable def tfor (ti : TID) (g : TGD) (tb : TSD) : TSD := fun E ρ st => ti ρ st fun items ok st1 => forW items ok g tb E ρ st1
section
variable {X : Cx} {tg iter : Expr} {body : List Stmt} {pos : Pos} {ti : TID} {g : TGD} {tb : TSD}
theorem ds_for (hp : PassesOwn (model X.prog X.w) X.A X.env X.xe) (hc : X.calm = true) (hi : DI X tg iter ti) (hg : DG X tg g) (hb : DSs X body tb) (hs : ∀ x, foldedSetIterable iter X.env x = pure x := by intro _; rfl) : DS X (.For tg iter body [] pos) (tfor ti g tb) :=
  (ps_for hp hc hi hg hb hs).imp fun E σ H h => by
    obtain ⟨φ, st, ρ, P, pre, ht, n, b, c, r⟩ := h
    refine ⟨φ, st, ρ, _, pre, ht, fun items ok st1 h1 φ1 H1 J b1 hJ => ?_⟩
    exact for_gen (pre.on b1) hJ h1 (fun ρ2 st2 h2 φ2 H2 σ2 b2 d2 => n ρ2 st2 h2 φ2 H2 σ2 (b1.trans b2) d2) fun d st2 h2 φ2 H2 v b2 d2 => r d st2 h2 φ2 H2 v (b1.trans b2) d2
noncomputable def iseq (te : TD) : TID := fun ρ st P => te ρ st fun x st1 => match seqOf st1 x with
  | some xs => P xs (fun st' => seqOf st' x = some xs) st1
  | none => False
theorem di_seq {te : TD} (he : DE X iter te) : DI X tg iter (iseq te) := by
  intro pins s σ H R I h
  obtain ⟨φ, st, ρ, P, pre, ht, hq⟩ := h
  refine thn (he pins s σ H _ I ⟨φ, st, ρ, _, pre, ht, fun x st1 h1 φ1 H1 v b1 dx => (show ∃ φ1 st1 x, Bhd X.K φ st H φ1 st1 H1 ∧ D X.K φ1 st1.length H1 x v ∧ (match seqOf st1 x with
    | some xs => P xs (fun st' => seqOf st' x = some xs) st1
    | none => False) from ⟨φ1, st1, x, b1, dx, h1⟩)⟩) fun u s1 ⟨v, H1, I1, ru, φ1, st1, x, b1, dx, h1⟩ => ?_
  split at h1
  · rename_i xs ex
    obtain ⟨a, vs, e1, hs, dl⟩ := seq_of b1.1 dx ex
    subst e1
    cases ru
    rcases hs with ⟨hs, n, exn⟩ | ⟨hs, _⟩
    · obtain ⟨its, rv, pl, hz⟩ := I1.list hs
      refine wpAny_pyIter_list pl.isList ?_
      refine ⟨s1.heap.objs.size, [s1.heap.objs.size], _, _, H1, rfl, I1.kept (t' := s1.toks) fun b o e => Heap.get?_push_of_some _ e, turn_list a _, ⟨_, Heap.get?_push_size _ rfl, rfl, rfl⟩, fun b hb => ?_, hq xs _ st1 h1 φ1 H1 _ b1 ?_⟩
      · have e : b = s1.heap.objs.size := by simpa using hb
        subst e
        exact I1.fpOk (Nat.le_refl _) (I1.hok.fresh (Nat.le_refl _))
      · intro i φ' st' H' bh hok hi
        obtain ⟨a', ws, e2, hs', dl'⟩ := seq_of bh.1 (dx.evo bh.2) hok
        cases e2
        have hsl : SqL X.K H' a ws := by
          rcases hs' with z | ⟨_, z⟩
          · exact z.1
          · rw [exn] at z; cases z
        have hlen := dl'.length
        refine ⟨fun e => ⟨ws, hsl, by omega⟩, fun d ed => ?_⟩
        obtain ⟨y, ey, dy⟩ := dl'.get ed
        refine ⟨⟨ws, y, hsl, ey⟩, fun y' H2 hy => ?_⟩
        obtain ⟨rfl, hy⟩ := hy
        have := hy ws hsl
        rw [ey] at this
        cases this
        exact ⟨.refl bh.1, dy⟩
    · obtain ⟨its, rv, pl, hz⟩ := I1.tuple hs
      refine wpAny_pyIter_tuple (show s1.heap.IsTuple a its.toArray from pl) ?_
      refine ⟨s1.heap.objs.size, [s1.heap.objs.size], _, _, H1, rfl, I1.kept (t' := s1.toks) fun b o e => Heap.get?_push_of_some _ e, turn_tuple a _, ⟨_, Heap.get?_push_size _ rfl, rfl, rfl⟩, fun b hb => ?_, hq xs _ st1 h1 φ1 H1 _ b1 ?_⟩
      · have e : b = s1.heap.objs.size := by simpa using hb
        subst e
        exact I1.fpOk (Nat.le_refl _) (I1.hok.fresh (Nat.le_refl _))
      · intro i φ' st' H' bh hok hi
        have hsl : SqT X.K H' a vs := bh.2.tup a vs hs
        have dl' := dl.evo bh.2
        have hlen := dl'.length
        refine ⟨fun e => ⟨vs, hsl, by omega⟩, fun d ed => ?_⟩
        obtain ⟨y, ey, dy⟩ := dl'.get ed
        refine ⟨⟨vs, y, hsl, ey⟩, fun y' H2 hy => ?_⟩
        obtain ⟨rfl, hy⟩ := hy
        have := hy vs hsl
        rw [ey] at this
        cases this
        exact ⟨.refl bh.1, dy⟩
  · exact h1.elim
noncomputable def rangeD (lo : Int) (n : Nat) : List Dt := (List.range n).map fun k => .int (lo + (k : Nat))
theorem range_get {lo : Int} {n i : Nat} {d : Dt} (h : (rangeD lo n)[i]? = some d) : i < n ∧ d = .int (lo + (i : Nat)) := by
  unfold rangeD at h
  rw [List.getElem?_map] at h
  cases q : (List.range n)[i]? with
  | none => rw [q] at h; cases h
  | some k =>
    rw [q] at h
    have := List.getElem?_eq_some_iff.mp q
    obtain ⟨h1, h2⟩ := this
    rw [List.getElem_range] at h2
    subst h2
    rw [List.length_range] at h1
    exact ⟨h1, (Option.some.inj h).symm⟩
theorem range_len {lo : Int} {n : Nat} : (rangeD lo n).length = n := by unfold rangeD; simp
theorem yields_range {K : PySem.W.Frag} {φ : Nat → Addr} {st : Sto} {H : Hp} {lo : Int} {n : Nat} : Yields K φ st H (Itr lo n) (rangeD lo n) (fun _ => True) := fun i φ' st' H' bh _ hi => by
  rw [range_len] at hi
  refine ⟨fun e => by rw [range_len] at e; exact Nat.le_of_eq e.symm, fun d ed => ?_⟩
  obtain ⟨h1, rfl⟩ := range_get ed
  refine ⟨h1, fun y H2 hy => ?_⟩
  obtain ⟨rfl, rfl⟩ := hy
  exact ⟨.refl bh.1, D.mkInt⟩
noncomputable def irng1 (ta : TD) : TID := fun ρ st P => ta ρ st fun x st1 => match x with
  | .int j => -(2 ^ 62) ≤ j ∧ j < 2 ^ 62 ∧ P (rangeD 0 j.toNat) (fun _ => True) st1
  | _ => False
theorem di_range1 {a : Expr} {ta : TD} {p : Pos} (hm : X.mg "range" = none) (ha : DE X a ta) (hg : Gl X "range" := by rfl) (hs : starEach [a] X.env = [(false, eval a X.env)] := by rfl) : DI X tg (.Call (.Name "range" p) [a] [] pos) (irng1 ta) := by
  intro pins s σ H R I h
  refine pi_range1 hg hm (da_cons ha da_nil hs) hs pins s σ H R I ?_
  obtain ⟨φ, st, ρ, P, pre, ht, hq⟩ := h
  refine ⟨φ, st, ρ, (fun ds st1 => match ds with
    | [x] => (match x with
      | .int j => -(2 ^ 62) ≤ j ∧ j < 2 ^ 62 ∧ P (rangeD 0 j.toNat) (fun _ => True) st1
      | _ => False)
    | _ => False), pre, ?_, fun ds st1 h1 φ1 H1 vs b1 dl => ?_⟩
  · exact ht
  · rcases ds with _ | ⟨d, _ | ⟨d2, r⟩⟩
    · exact h1.elim
    rotate_left
    · exact h1.elim
    · cases d <;> first
        | exact h1.elim
        | skip
      rename_i j
      obtain ⟨v, rfl, dv⟩ := dl.one
      obtain ⟨h2, h3, h4⟩ := h1
      exact ⟨j, by rw [dv.int], h2, h3, hq _ _ st1 h4 φ1 H1 _ b1 yields_range⟩
noncomputable def compD (items : List Dt) (ok : Sto → Prop) (tc : TBD) (te : TD) (cρ : Rho) (st : Sto) (Fin : List Dt → Sto → Prop) : Prop := ∃ Inv : Nat → List Dt → Sto → Prop, Inv 0 [] st ∧ (∀ i ys st', i ≤ items.length → Inv i ys st' → ok st') ∧
  (∀ (i : Nat) d ys st', items[i]? = some d → Inv i ys st' → ys.length < sizeLine ∧ tc (some d :: cρ) st' fun k st1 => if k = true then te (some d :: cρ) st1 fun y st2 => Inv (i + 1) (ys ++ [y]) st2 else Inv (i + 1) ys st1) ∧
  ∀ ys st', Inv items.length ys st' → Fin ys st'
noncomputable def capρ (caps : List (Nat × Str)) (ρ : Rho) : Rho := caps.map fun p => (ρ[p.1]?).join
theorem cap_DR {K : PySem.W.Frag} {φ : Nat → Addr} {N : Nat} {H : Hp} {ρ : Rho} {σ : L2.St} (h : DR K φ N H ρ σ) (caps : List (Nat × Str)) : DR K φ N H (capρ caps ρ) (capσ caps σ) := by
  refine ⟨by unfold capρ capσ; simp, fun i d e => ?_⟩
  unfold capρ at e
  rw [List.getElem?_map] at e
  unfold capσ
  rw [List.getElem?_map]
  cases q : caps[i]? with
  | none => rw [q] at e; cases e
  | some p =>
    rw [q] at e
    have e' : (ρ[p.1]?).join = some d := Option.some.inj e
    have e2 : ρ[p.1]? = some (some d) := by
      cases q : ρ[p.1]? with
      | none => rw [q] at e'; cases e'
      | some o => rw [q] at e'; exact congrArg some e'
    obtain ⟨v, ev, dv⟩ := h.2 p.1 d e2
    exact ⟨v, by show some ((σ[p.1]?).join) = _; rw [ev]; rfl, dv⟩
theorem dr_cons {K : PySem.W.Frag} {φ : Nat → Addr} {N : Nat} {H : Hp} {ρ : Rho} {σ : L2.St} {o : Option V} {d : Dt} {v : V} (h : DR K φ N H ρ σ) (hd : D K φ N H d v) : DR K φ N H (some d :: ρ) (some v :: σ) := by
  refine ⟨by rw [List.length_cons, List.length_cons, h.1], fun i e q => ?_⟩
  cases i with
  | zero => simp at q; subst q; exact ⟨v, rfl, hd⟩
  | succ i => exact h.2 i e (by simpa using q)
noncomputable def DIf (X : Cx) (ifs : List Expr) (t : TBD) : Prop := PIf X ifs (liftT X.K t)
theorem dif_nil : DIf X [] (fun _ st P => P true st) := fun pins s σ H Q I h => by
  obtain ⟨φ, st, ρ, P, pre, ht, hq⟩ := h
  exact pif_nil pins s σ H Q I (hq true st ht φ H (.refl pre.1))
theorem dif_one {c : Expr} {t : TBD} (h : DT X c t) : DIf X [c] t := pif_one h
theorem comp_gen {K : PySem.W.Frag} {φ1 : Nat → Addr} {st1 : Sto} {H1 : Hp} {cρ : Rho} {cσ : L2.St} {J : It} {items : List Dt} {ok : Sto → Prop} {tc : TBD} {te : TD} {Fin : List Dt → Sto → Prop} {Fin' : List V → Hp → Prop}
    (R : Rep K φ1 st1 H1) (dr : DR K φ1 st1.length H1 cρ cσ) (hJ : Yields K φ1 st1 H1 J items ok) (hc : compD items ok tc te cρ st1 Fin)
    (hF : ∀ ys st' φ' H' vs, Fin ys st' → Bhd K φ1 st1 H1 φ' st' H' → DL K φ' st'.length H' ys vs → Fin' vs H') :
    compW J (gName 0) (liftT K tc) (liftE K te) (List.replicate 1 none ++ cσ) H1 Fin' := by
  obtain ⟨Inv, h0, hok, step, fin⟩ := hc
  refine ⟨fun i m σ vs H => m = items.length - i ∧ i ≤ items.length ∧ ∃ φ' st' ys o, σ = o :: cσ ∧ Bhd K φ1 st1 H1 φ' st' H ∧ DL K φ' st'.length H ys vs ∧ Inv i ys st',
    ⟨items.length, by simp, Nat.zero_le _, φ1, st1, [], none, rfl, .refl R, .nil, h0⟩, ?_⟩
  rintro i m σ vs H ⟨rfl, hi, φ', st', ys, o, rfl, bh, dl, hI⟩
  obtain ⟨js, jg⟩ := hJ i φ' st' H bh (hok i ys st' hi hI) hi
  by_cases hlt : i < items.length
  · have ed : items[i]? = some items[i] := by simp [hlt]
    obtain ⟨go, yl⟩ := jg _ ed
    obtain ⟨hz, hstep⟩ := step i _ ys st' ed hI
    refine .inr ⟨go, by rw [← dl.length]; exact hz, fun y H2 hy => ?_⟩
    obtain ⟨b2, dy⟩ := yl y H2 hy
    have b12 := bh.trans b2
    have pre2 : Pre K φ' st' H2 (some items[i] :: cρ) (some y :: cσ) := ⟨b2.1, dr_cons (o := none) (dr.evo b12.2) dy⟩
    show liftT K tc (some y :: cσ) H2 _
    refine ⟨φ', st', _, _, pre2, hstep, fun k st3 h3 φ3 H3 b3 => ?_⟩
    cases k with
    | false =>
      rw [if_neg Bool.false_ne_true] at h3 ⊢
      exact ⟨items.length - (i + 1), by omega, rfl, hlt, φ3, st3, ys, some y, rfl, b12.trans b3, dl.evo (b2.2.trans b3.2), h3⟩
    | true =>
      rw [if_pos rfl] at h3 ⊢
      refine ⟨φ3, st3, _, _, pre2.on b3, h3, fun z st4 h4 φ4 H4 w b4 dz => ?_⟩
      exact ⟨items.length - (i + 1), by omega, rfl, hlt, φ4, st4, ys ++ [z], some y, rfl, b12.trans (b3.trans b4), (dl.evo (b2.2.trans (b3.2.trans b4.2))).append (.cons dz .nil), h4⟩
  · have e : i = items.length := by omega
    subst e
    exact .inl ⟨js rfl, hF ys st' φ' H vs (fin ys st' hI) bh dl⟩
noncomputable def tcomp (ti : TID) (tc : TBD) (te : TD) (caps : List (Nat × Str)) : TD := fun ρ st P => ti ρ st fun items ok st1 => compD items ok tc te (capρ caps ρ) st1 fun ys st2 => P (.lst st2.length) (st2 ++ [.rw ys])
theorem comp_lift {K : PySem.W.Frag} {tc : TBD} {te : TD} {caps : List (Nat × Str)} {σ : L2.St} {H : Hp} {Q : VK} (h : liftE K (tcomp ti tc te caps) σ H Q) : tComp (liftI K ti) (gName 0) (liftT K tc) (liftE K te) 1 caps σ H Q := by
  obtain ⟨φ, st, ρ, P, pre, ht, hq⟩ := h
  refine ⟨φ, st, ρ, _, pre, ht, fun items ok st1 h1 φ1 H1 J b1 hJ => ?_⟩
  refine comp_gen b1.1 (cap_DR (pre.on b1).2 caps) hJ h1 fun ys st2 φ2 H2 vs hF b2 dl p hp => ?_
  exact hq _ _ hF _ _ _ (b1.trans (b2.trans (bhd_lst b2.1 hp dl))) d_new
variable {elt : Expr} {ifs : List Expr} {sc : Scope} {x : Str} {px : Pos} {tc : TBD} {te : TD}
theorem de_comp (caps : List (Nat × Str)) (hc : X.calm = true) (S : CompScope X.env.scope X.N caps sc) (hx : sc.names.lookup x = some .local) (hnd : ([x] ++ caps.map (·.2)).Nodup) (hi : DI X (.Name x px) iter ti)
    (hif : ∀ C s H fp, DIf (cxComp X [x] caps sc C s H fp) ifs tc) (he : ∀ C s H fp, DE (cxComp X [x] caps sc C s H fp) elt te)
    (hs : ∀ x, foldedSetIterable iter X.env x = pure x := by intro _; rfl) : DE X (.ListComp elt [⟨.Name x px, iter, ifs, 0⟩] sc pos) (tcomp ti tc te caps) :=
  PE.imp (pe_comp (g := gName 0) (tc := liftT X.K tc) (te := liftE X.K te) [x] caps hc S hi (fun C s H fp => pg_name hnd rfl (.inl (lookup_relabel_local hx)) (.inr (lookup_relabel_local hx))) hif he hs) fun σ H Q h => comp_lift h
theorem ds_comp (i : Nat) {y : Str} {py spos : Pos} (caps : List (Nat × Str)) (hc : X.calm = true) (hN : X.N.Nodup) (S : CompScope X.env.scope X.N caps sc) (hx : sc.names.lookup x = some .local) (hnd : ([x] ++ caps.map (·.2)).Nodup) (hi : DI X (.Name x px) iter ti)
    (hif : ∀ C s H fp, DIf (cxComp X [x] caps sc C s H fp) ifs tc) (he : ∀ C s H fp, DE (cxComp X [x] caps sc C s H fp) elt te)
    (hy : X.N[i]? = some y := by rfl) (hyl : X.env.scope.names.lookup y = some .local := by rfl)
    (hsw : swapsWith (.ListComp elt [⟨.Name x px, iter, ifs, 0⟩] sc pos) (some (.Name y py)) spos.line X.env = pure true := by rfl)
    (hs : ∀ x, foldedSetIterable iter X.env x = pure x := by intro _; rfl) : DS X (.Assign [.Name y py] (.ListComp elt [⟨.Name x px, iter, ifs, 0⟩] sc pos) spos) (tasg (tcomp ti tc te caps) (gname i)) :=
  PS.imp (ps_comp (g := gName 0) (tc := liftT X.K tc) (te := liftE X.K te) [x] caps hc hN hy hyl S hi (fun C s H fp => pg_name hnd rfl (.inl (lookup_relabel_local hx)) (.inr (lookup_relabel_local hx))) hif he hsw hs) fun E σ H h => by
    obtain ⟨φ, st, ρ, P, pre, ht, n, b, c, r⟩ := h
    refine comp_lift (ti := ti) (tc := tc) (te := te) (caps := caps) ⟨φ, st, ρ, _, pre, ht, fun d st1 h1 φ1 H1 v b1 dx => ?_⟩
    exact n _ st1 h1 φ1 H1 _ b1 ((pre.on b1).2.set dx i)
noncomputable def startD (N : List Str) (ds : List Dt) : Rho := ds.map some ++ List.replicate (N.length - ds.length) none
theorem start_DR {K : PySem.W.Frag} {φ : Nat → Addr} {n : Nat} {H : Hp} {ds : List Dt} {vs : List V} (h : DL K φ n H ds vs) (N : List Str) : DR K φ n H (startD N ds) (L2.start N vs) := by
  refine ⟨by unfold startD L2.start; simp [h.length], fun i d e => ?_⟩
  unfold startD at e
  unfold L2.start
  by_cases hi : i < ds.length
  · rw [List.getElem?_append_left (by simpa using hi), List.getElem?_map] at e
    cases q : ds[i]? with
    | none => rw [q] at e; cases e
    | some d' =>
      rw [q] at e
      have : d' = d := by
        have e' : some (some d') = some (some d) := e
        injection e' with e1; injection e1
      subst this
      obtain ⟨v, ev, dv⟩ := h.get q
      refine ⟨v, ?_, dv⟩
      rw [List.getElem?_append_left (by simp; rw [← h.length]; exact hi), List.getElem?_map, ev]
      rfl
  · rw [List.getElem?_append_right (by simpa using Nat.not_lt.mp hi), List.getElem?_replicate] at e
    split at e <;> cases e
theorem fun_ok {P : Program} {w : World} {K : PySem.W.Frag} {mg : Str → Option Value} {base : Heap} {x qual : Str} {stt : Stmt} {f : Addr} {fd : FuncData} {N ps : List Str} {k : Nat} {sp : RDL} (F : Fun K x qual stt f fd) (S : FnScope N ps (defScope stt))
    (len : ∀ ds st Pd, sp ds st Pd → ds.length = ps.length)
    (hbody : ∀ (cdv : Value) (A : Around) (outer : List Env) (s : Shared) (H : Hp) (E : XK), Room k (A.deeper (envOfC qual (defScope stt) s.heap.objs.size f cdv)) →
      ∃ t, DSs (cxOf CX0 P w K mg base N qual (defScope stt) f cdv A outer s H E).nox (defBody stt) t ∧ ∀ ds st Pd, sp ds st Pd → t { nx := fun _ st' => Pd .non st', rt := Pd } (startD N ds) st) : FnOk P w K mg base CX0 (k + 1) f fd ps (liftSp K sp) := by
  refine F.ok S (fun vs H Q E h => ?_) fun cdv A outer s H vs Q E hr h => ?_
  · obtain ⟨φ, st, ds, Pd, R, dl, hs, hq⟩ := h
    rw [← dl.length]
    exact len ds st Pd hs
  · obtain ⟨t, ht, hb⟩ := hbody cdv A outer s H E hr
    obtain ⟨φ, st, ds, Pd, R, dl, hs, hq⟩ := h
    refine ⟨_, ht, φ, st, startD N ds, _, ⟨R, start_DR dl N⟩, hb ds st Pd hs, fun ρ' st' h' φ' H' σ' b' d' => hq _ st' h' φ' H' _ b' D.mkNon, fun ρ' st' h' => h'.elim, fun ρ' st' h' => h'.elim, fun d st' h' φ' H' v b' d' => hq d st' h' φ' H' v b' d'⟩
end
end L3
namespace L3
open PySem PySem.Spec PyProof.Rows L2
structure DefOk (P : Program) (w : World) (K : PySem.W.Frag) (mg : Str → Option Value) (base : Heap) (x : Str) (k : Nat) (sp : RDL) : Prop where
  ex : ∃ f fd ps, FnOk P w K mg base CX0 k f fd ps (liftSp K sp) ∧ mg x = some (.ref f) ∧ PySem.W.keepIn K (.ref f) = true ∧ Binds K fd ps []
section
variable {X : Cx} {e : Expr} {es : List Expr} {t : TAD} {pos p : Pos} {x : Str}
theorem de_callO {k : Nat} {sp : RDL} (F : DefOk X.prog X.w X.K X.mg X.base x k sp) (hr : Room k X.A) (ha : DA X (e :: es) t) (hg : Gl X x) (hdb : (x == ("__debug__" : Str)) = false) (he : starEach (e :: es) X.env = (false, eval e X.env) :: starEach es X.env)
    (hpl : (backTo pos (starEach es X.env)).any (·.1) = false) : DE X (.Call (.Name x p) (e :: es) [] pos) (tcall sp t) := by
  obtain ⟨f, fd, ps, h1, h2, h3, h4⟩ := F.ex
  exact de_call h1 hr h2 h3 h4 ha hg hdb he hpl
theorem hu16 {A : Around} {k : Nat} (hr : Room k A) : A.units + 16 < cLine := Nat.lt_of_le_of_lt (Nat.add_le_add_left (by decide : 16 ≤ 64) _) hr.units
structure ConOk (K : PySem.W.Frag) (mg : Str → Option Value) (x : Str) (d : Dt) : Prop where
  ex : ∃ v u, mg x = some u ∧ RelV v u ∧ ∀ φ N H, D K φ N H d v
theorem de_con {d : Dt} (h : ConOk X.K X.mg x d) (hg : Gl X x) (hd : (x == ("__debug__" : Str)) = false) : DE X (.Name x pos) (tcon d) := by
  obtain ⟨v, u, h1, h2, h3⟩ := h.ex
  exact de_glob h1 h2 h3 hg hd
structure Hint (caps : List (Nat × Str)) : Prop where
  ok : True
end
section
variable {X : Cx} {a b c : Expr} {ta tb tc : TD} {pos : Pos}
theorem dx_add (ha : DE X a ta) (hb : DE X b tb) : DE X (.BinOp a .Add b pos) (tbin L3.rAdd ta tb) := de_op od_add ha hb
theorem dx_sub (ha : DE X a ta) (hb : DE X b tb) : DE X (.BinOp a .Sub b pos) (tbin rSub ta tb) := de_op od_sub ha hb
theorem dx_mul (ha : DE X a ta) (hb : DE X b tb) : DE X (.BinOp a .Mult b pos) (tbin rMul ta tb) := de_op od_mul ha hb
theorem dx_div (ha : DE X a ta) (hb : DE X b tb) : DE X (.BinOp a .FloorDiv b pos) (tbin rDiv ta tb) := de_op od_div ha hb
theorem dx_mod (ha : DE X a ta) (hb : DE X b tb) : DE X (.BinOp a .Mod b pos) (tbin rMod ta tb) := de_op od_mod ha hb
theorem dx_eq (hu : X.A.units + 16 < cLine) (ha : DE X a ta) (hb : DE X b tb) (hm : behindInMarks .Eq b = false) : DE X (.Compare a [.Eq] [b] pos) (tbin (rEqD false) ta tb) := de_cmp (od_eq hu) ha hb hm
theorem dtx_eq (hu : X.A.units + 16 < cLine) (ha : DE X a ta) (hb : DE X b tb) (hm : behindInMarks .Eq b = false) : DT X (.Compare a [.Eq] [b] pos) (tbool (tbin (rEqD false) ta tb)) := dt_cmp (od_eq hu) ha hb hm
theorem dx_ne (hu : X.A.units + 16 < cLine) (ha : DE X a ta) (hb : DE X b tb) (hm : behindInMarks .NotEq b = false) : DE X (.Compare a [.NotEq] [b] pos) (tbin (rEqD true) ta tb) := de_cmp (od_ne hu) ha hb hm
theorem dtx_ne (hu : X.A.units + 16 < cLine) (ha : DE X a ta) (hb : DE X b tb) (hm : behindInMarks .NotEq b = false) : DT X (.Compare a [.NotEq] [b] pos) (tbool (tbin (rEqD true) ta tb)) := dt_cmp (od_ne hu) ha hb hm
theorem dx_lt (ha : DE X a ta) (hb : DE X b tb) (hm : behindInMarks .Lt b = false) : DE X (.Compare a [.Lt] [b] pos) (tbin (rCmpI fun i j => decide (i < j)) ta tb) := de_cmp od_lt ha hb hm
theorem dtx_lt (ha : DE X a ta) (hb : DE X b tb) (hm : behindInMarks .Lt b = false) : DT X (.Compare a [.Lt] [b] pos) (tbool (tbin (rCmpI fun i j => decide (i < j)) ta tb)) := dt_cmp od_lt ha hb hm
theorem dx_gt (ha : DE X a ta) (hb : DE X b tb) (hm : behindInMarks .Gt b = false) : DE X (.Compare a [.Gt] [b] pos) (tbin (rCmpI fun i j => decide (j < i)) ta tb) := de_cmp od_gt ha hb hm
theorem dtx_gt (ha : DE X a ta) (hb : DE X b tb) (hm : behindInMarks .Gt b = false) : DT X (.Compare a [.Gt] [b] pos) (tbool (tbin (rCmpI fun i j => decide (j < i)) ta tb)) := dt_cmp od_gt ha hb hm
theorem dx_ge (ha : DE X a ta) (hb : DE X b tb) (hm : behindInMarks .GtE b = false) : DE X (.Compare a [.GtE] [b] pos) (tbin (rCmpI fun i j => decide (j ≤ i)) ta tb) := de_cmp od_ge ha hb hm
theorem dtx_ge (ha : DE X a ta) (hb : DE X b tb) (hm : behindInMarks .GtE b = false) : DT X (.Compare a [.GtE] [b] pos) (tbool (tbin (rCmpI fun i j => decide (j ≤ i)) ta tb)) := dt_cmp od_ge ha hb hm
theorem dtx_in (ha : DE X a ta) (hb : DE X b tb) (hm : behindInMarks .In b = false) : DT X (.Compare a [.In] [b] pos) (tbool (tbin (rInD false) ta tb)) := dt_cmp od_in ha hb hm
theorem dx_is (ha : DE X a ta) (hb : DE X b tb) (hm : behindInMarks .Is b = false) : DE X (.Compare a [.Is] [b] pos) (tbin (rIsD false) ta tb) := de_cmp od_is ha hb hm
theorem dtx_is (ha : DE X a ta) (hb : DE X b tb) (hm : behindInMarks .Is b = false) : DT X (.Compare a [.Is] [b] pos) (tbool (tbin (rIsD false) ta tb)) := dt_cmp od_is ha hb hm
theorem dx_len {e : Expr} {es : List Expr} {t : TAD} {p : Pos} (hm : X.mg "len" = none) (ha : DA X (e :: es) t) (hg : Gl X "len") (he : starEach (e :: es) X.env = (false, eval e X.env) :: starEach es X.env) (hpl : (backTo pos (starEach es X.env)).any (·.1) = false) : DE X (.Call (.Name "len" p) (e :: es) [] pos) (tcall rLen t) := de_callB cd_len hm PySem.boot_len ha hg (by decide) (by decide) he hpl
theorem dx_isinst {e : Expr} {es : List Expr} {t : TAD} {p : Pos} (hm : X.mg "isinstance" = none) (ha : DA X (e :: es) t) (hg : Gl X "isinstance") (he : starEach (e :: es) X.env = (false, eval e X.env) :: starEach es X.env) (hpl : (backTo pos (starEach es X.env)).any (·.1) = false) : DE X (.Call (.Name "isinstance" p) (e :: es) [] pos) (tcall rIsInst t) := de_callB cd_isinst hm boot_isinstance ha hg (by decide) (by decide) he hpl
theorem dx_tuple {e : Expr} {es : List Expr} {t : TAD} {p : Pos} (hm : X.mg "tuple" = none) (ha : DA X (e :: es) t) (hg : Gl X "tuple") (he : starEach (e :: es) X.env = (false, eval e X.env) :: starEach es X.env) (hpl : (backTo pos (starEach es X.env)).any (·.1) = false) : DE X (.Call (.Name "tuple" p) (e :: es) [] pos) (tcall rTuple t) := de_callTy cd_tuple hm PyProof.Rows.boot_tuple ha hg (by decide) (by decide) he hpl
theorem dx_list {e : Expr} {es : List Expr} {t : TAD} {p : Pos} (hm : X.mg "list" = none) (ha : DA X (e :: es) t) (hg : Gl X "list") (he : starEach (e :: es) X.env = (false, eval e X.env) :: starEach es X.env) (hpl : (backTo pos (starEach es X.env)).any (·.1) = false) : DE X (.Call (.Name "list" p) (e :: es) [] pos) (tcall rList t) := de_callTy cd_list hm PyProof.Rows.boot_list ha hg (by decide) (by decide) he hpl
theorem dx_tyInt (hm : X.mg "int" = none) (hg : Gl X "int") : DE X (.Name "int" pos) (tcon (.ty "int")) := de_ty hm PyProof.Rows.boot_int hg
theorem dx_tyBool (hm : X.mg "bool" = none) (hg : Gl X "bool") : DE X (.Name "bool" pos) (tcon (.ty "bool")) := de_ty hm PyProof.Rows.boot_bool hg
theorem dx_tyList (hm : X.mg "list" = none) (hg : Gl X "list") : DE X (.Name "list" pos) (tcon (.ty "list")) := de_ty hm PyProof.Rows.boot_list hg
end
noncomputable def scCheck (so : Scope) (N : List Str) (caps : List (Nat × Str)) (sc : Scope) : Bool :=
  decide (sc.kind = .function) && (sc.names.all fun y => decide (y.2 ≠ .cell)) && (sc.names.all fun y => decide (y.2 = .local → sc.names.lookup y.1 = some .local)) && (sc.names.all fun y => decide (y.2 = .free → so.names.lookup y.1 = some .cell)) &&
    (caps.all fun p => decide (N[p.1]? = some p.2 ∧ so.names.lookup p.2 = some .cell ∧ sc.names.lookup p.2 = some .free))
theorem sc_of {so : Scope} {N : List Str} {caps : List (Nat × Str)} {sc : Scope} (h : scCheck so N caps sc = true) : CompScope so N caps sc := by
  unfold scCheck at h
  simp only [Bool.and_eq_true] at h
  obtain ⟨⟨⟨⟨h1, h2⟩, h3⟩, h4⟩, h5⟩ := h
  exact ⟨of_decide_eq_true h1, fun y hy => of_decide_eq_true (List.all_eq_true.mp h2 y hy), fun y hy => of_decide_eq_true (List.all_eq_true.mp h3 y hy), fun y hy => of_decide_eq_true (List.all_eq_true.mp h4 y hy), fun y hy => of_decide_eq_true (List.all_eq_true.mp h5 y hy)⟩
theorem sc_hint {so : Scope} {N : List Str} {caps : List (Nat × Str)} {sc : Scope} (_ : Hint caps) (h : scCheck so N caps sc = true) : CompScope so N caps sc := sc_of h
noncomputable def spLaw : RDL := fun ds st P => ∃ ns : List Int, ds = [.lst 0] ∧ st = [.ro (ns.map .int)] ∧ ns.length ≤ 63 ∧ ∀ st', P (.bl true) st'
theorem DL.ints {K : PySem.W.Frag} {φ : Nat → Addr} {N : Nat} {H : Hp} : ∀ ns : List Int, DL K φ N H (ns.map .int) (ns.map V.int)
  | [] => .nil
  | n :: ns => .cons D.mkInt (DL.ints ns)
theorem law_walk {l : PySem.W.OpenLaw} {q : Program} {loose : List Str} {XP : (Str → Option Value) → Heap → Prop} {YP : World → Heap → Prop} {d : DefRec} {K : Params → PySem.W.Frag} (k : Nat) (hn : l.most = some 63) (hdf : d.params.defaults = []) (hr : Room k callerA)
    (hY : ∀ (w : World) (h : Heap), YP w h → (K w.params).In h)
    (F : ∀ (w : World) (mg : Str → Option Value) (fa : Addr) (h : Heap), (K w.params).In h → h.Ns mainGlobals mg → mg d.name = some (.ref fa) →
      ∃ fd : FuncData, (∀ (s : Shared) (u : Value), BindsTo s fd ⟨[u], []⟩ [("script", u)]) ∧ ∀ base : Heap, (K w.params).In base → base.Ns mainGlobals mg → FnOk l.prog w (K w.params) mg base CX0 k fa fd ["script"] (liftSp (K w.params) spLaw)) :
    PySem.W.WalkO q loose XP YP l.row.toRowW d [] (fun f vs => PySem.call f vs) := by
  refine L2.walk_of (n := 63) (k := k) (x := "script") (CX := fun _ => CX0) (sp := fun w => liftSp (K w.params) spLaw) hn (by decide) hdf hr hY F (fun w H a ns hl hO hS => ?_) fun _ _ _ _ _ z => z
  have hR : SqR (K w.params) H a (ns.map V.int) := by
    rcases hS with (h | h) | h
    · rcases hO a with z | ⟨o, xs, z⟩
      · rw [h] at z; cases z
      · rw [h] at z; cases z
    · exact .inl h
    · exact .inr h
  refine ⟨fun _ => a, [.ro (ns.map .int)], [.lst 0], fun d st' => d = .bl true, ⟨fun i j x y e _ hw => ?_, fun i x e => ?_⟩, .cons (D.mkLst (by show 0 < 1; decide) ⟨_, hR.sq⟩) .nil, ⟨ns, rfl, rfl, hl, fun _ => rfl⟩, fun d st' hd φ' H' u b du => by rw [hd] at du; exact du.bl⟩
  · cases i with
    | zero => simp at e; subst e; cases hw
    | succ i => simp at e
  · cases i with
    | zero =>
      simp at e
      subst e
      exact ⟨ns.map V.int, hR, DL.ints ns⟩
    | succ i => simp at e
end L3
namespace L3
open PySem PySem.Spec PyProof.Rows L2
noncomputable def Ite (K : PySem.W.Frag) (a : Addr) : It :=
  ⟨fun i H => ∃ xs x, SqL K H a xs ∧ xs[i]? = some x, fun i H x H' => ∃ p v, H p = none ∧ H' = upd H p (.tup [.int i, v]) ∧ x = .ref p ∧ ∀ xs, SqL K H a xs → xs[i]? = some v, fun i H => ∃ xs, SqL K H a xs ∧ xs.length ≤ i⟩
theorem turn_enum {P : Program} {w : World} {K : PySem.W.Frag} {elts : List Expr} {x1} {pos : Pos} (a e it : Addr) (hei : e ≠ it) :
    Turn P w K (.Tuple elts x1 pos) (Ite K a) [e, it] e (fun i h => (∃ old, IsEnum h e it (i : Nat) old) ∧ h.IsListIter it a i) where
  mem := by simp
  obj := fun i h st b hb => by
    obtain ⟨⟨old, he⟩, o, ho, hc, hd⟩ := st
    rcases List.mem_cons.mp hb with rfl | hb
    · exact ⟨_, he, fun v z => by
        have z' : Data.fields _ = Data.cell v := z
        cases z'⟩
    · have : b = it := by simpa using hb
      subst this
      exact ⟨o, ho, fun v z => by rw [hd] at z; cases z⟩
  keep := fun i h h' st k => by
    obtain ⟨⟨old, he⟩, hit⟩ := st
    exact ⟨⟨old, k e (by simp) _ he⟩, hit.at fun o x => k it (by simp) o x⟩
  item := by
    intro X hP hw hK hc i pins s σ H E I hf st hg
    subst hP hw hK
    obtain ⟨⟨old, he⟩, hit⟩ := st
    obtain ⟨xs, x, hq, hx⟩ := hg
    obtain ⟨its, rv, p, hz⟩ := I.list hq
    obtain ⟨u, hu, ru⟩ := rv.get hx
    obtain ⟨e0, e1, e2, e3, e4, e5⟩ := hf e (by simp)
    obtain ⟨i0, i1, i2, i3, i4, i5⟩ := hf it (by simp)
    refine wpAny_pyNext_enum_item he hit p.isList (x := u) (by simpa using hu) hei fun h' ho hit' hT hsz hk => ?_
    refine ⟨_, rfl, wpAny_letOwnedTupleGo_enum (s := { s with heap := h', toks := s.toks + 1 }) ho fun h2 he2 hs2 => ?_⟩
    have hT2 : h2.get? s.heap.objs.size = some { cls := .type "tuple", data := .seq #[.int i s.toks, u] } := (hs2.2 _ (Ne.symm (ne_lt (Heap.lt_size he) (Nat.le_refl _)))).trans hT
    have hk2 : ∀ b o, b ≠ e → b ≠ it → s.heap.get? b = some o → h2.get? b = some o := fun b o hb hb2 q => (hs2.2 b hb).trans (hk b o hb hb2 q)
    have hp : H s.heap.objs.size = none := I.hok.fresh (Nat.le_refl _)
    have nt : ∀ b v, H b = some v → b ≠ e ∧ b ≠ it := fun b v q => ⟨fun z => (by rw [z, e0] at q; cases q), fun z => (by rw [z, i0] at q; cases q)⟩
    refine ⟨.ref s.heap.objs.size, upd H s.heap.objs.size (.tup [.int i, x]), ?_, rfl, ⟨_, x, hp, rfl, rfl, fun ys hy => by rw [I.list_inj hy hq]; exact hx⟩, ⟨⟨u, by simpa using he2⟩, hit'.at fun o y => (hs2.2 it hei.symm).trans y⟩, fun b hb => ?_⟩
    · show Inv X pins σ _ { s with heap := h2, gens := s.gens, drawn := s.drawn, toks := s.toks + 1 }
      refine Inv.step (s := s) (h' := h2) (g' := s.gens) (d' := s.drawn) (t' := s.toks + 1) (ch := [e, it]) I (fun b hb => ?_) (fun b o _ _ hc q _ => hk2 b o (fun z => hc (by simp [z])) (fun z => hc (by simp [z])) q) (fun b o _ _ hc q _ => ⟨o.slots, hk2 b o (fun z => hc (by simp [z])) (fun z => hc (by simp [z])) q⟩)
        (fun b o _ q n => by rw [upd_ne (ne_lt (Heap.lt_size q) (Nat.le_refl _))]; exact n) (fun b o hc q => ⟨o, hk2 b o (fun z => hc (by simp [z])) (fun z => hc (by simp [z])) q⟩)
        (fun b ys q => by rw [upd_ne (ne_of_none q hp)]; exact q) (fun b o v q => by rw [upd_ne (ne_of_none q hp)]; exact q) (fun b ps q => ⟨#[], by rw [upd_ne (ne_of_none q hp), q]; simp⟩) (fun m hm => ?_) (fun b v q => ?_) I.bare
      · rcases List.mem_cons.mp hb with rfl | hb
        · exact ⟨e3, e1, e4, e5⟩
        · have : b = it := by simpa using hb
          subst this
          exact ⟨i3, i1, i4, i5⟩
      · obtain ⟨o, es, ep, ho, r⟩ := hm
        exact ⟨o, es, ep, hk2 _ o (Ne.symm e1) (Ne.symm i1) ho, r⟩
      · by_cases hb : b = s.heap.objs.size
        · subst hb
          rw [upd_same] at q
          cases q
          refine ⟨by show 2 ≤ sizeLine; decide, [.int i s.toks, u], .cons ⟨_, rfl⟩ (.cons ru .nil), ⟨_, hT2, rfl, 0, rfl⟩⟩
        · rw [upd_ne hb] at q
          refine (I.hok b v q).stay (fun c o hc y => ?_) (fun c y => by rw [upd_ne (ne_of_none y hp)]; exact y) fun c ys y => by rw [upd_ne (ne_of_none y hp)]; exact y
          rcases hc with rfl | hc
          · exact hk2 c o (nt c v q).1 (nt c v q).2 y
          · exact hk2 c o (nt c _ hc).1 (nt c _ hc).2 y
    · have hlt : b < s.heap.objs.size := by
        rcases List.mem_cons.mp hb with rfl | hb
        · exact Heap.lt_size he
        · have : b = it := by simpa using hb
          subst this
          obtain ⟨o, ho, _⟩ := hit
          exact Heap.lt_size ho
      rw [upd_ne (ne_lt hlt (Nat.le_refl _))]
      exact (hf b hb).1
  done := by
    intro X hP hw hK hc i pins s σ H E I hf st hg
    subst hP hw hK
    obtain ⟨⟨old, he⟩, hit⟩ := st
    obtain ⟨xs, hq, hx⟩ := hg
    obtain ⟨its, rv, p, hz⟩ := I.list hq
    obtain ⟨i0, i1, i2, i3, i4, i5⟩ := hf it (by simp)
    have hl := rv.length
    exact wpAny_pyNext_enum_end (I.ok.hd hc) he hit p.isList (by simp; omega) fun h' eb => ⟨rfl, I.turned (t' := s.toks) (fun b o hb e => eb b o hb e) i0 i1 i3 i4 i5⟩
  self := fun _ _ _ _ _ st h => by
    obtain ⟨⟨old, he⟩, _⟩ := st
    exact wpAny_pyIter_enum he h
noncomputable def enumD : Nat → List Dt → List Dt
  | _, [] => []
  | n, d :: ds => .tup [.int (n : Nat), d] :: enumD (n + 1) ds
theorem enum_get : ∀ {ds : List Dt} {n i : Nat} {x : Dt}, (enumD n ds)[i]? = some x → ∃ d, ds[i]? = some d ∧ x = .tup [.int ((n + i : Nat)), d]
  | [], _, _, _, h => by simp [enumD] at h
  | d :: ds, n, 0, x, h => by
    simp [enumD] at h
    exact ⟨d, rfl, by rw [← h]; rfl⟩
  | d :: ds, n, i + 1, x, h => by
    obtain ⟨e, h1, h2⟩ := enum_get (ds := ds) (n := n + 1) (i := i) (x := x) (by simpa [enumD] using h)
    exact ⟨e, by simpa using h1, by rw [h2, show n + 1 + i = n + (i + 1) by omega]⟩
theorem enum_len : ∀ {ds : List Dt} {n : Nat}, (enumD n ds).length = ds.length
  | [], _ => rfl
  | d :: ds, n => by simp [enumD, enum_len]
noncomputable def ienum (te : TD) : TID := fun ρ st P => te ρ st fun x st1 => match x with
  | .lst n => (match st1[n]? with
    | some o => P (enumD 0 o.items) (fun st' => (st'[n]?).map SO.items = some o.items) st1
    | none => False)
  | _ => False
section
variable {X : Cx} {a : Expr} {elts : List Expr} {x1 : Nat} {tpos pos p : Pos} {te : TD}
theorem di_enum (hm : X.mg "enumerate" = none) (ha : DE X a te) (hg : Gl X "enumerate") (hs : starEach [a] X.env = [(false, eval a X.env)]) : DI X (.Tuple elts x1 tpos) (.Call (.Name "enumerate" p) [a] [] pos) (ienum te) := by
  intro pins s σ H R I h
  obtain ⟨φ, st, ρ, P, pre, ht, hq⟩ := h
  refine Call_ (ld_blt I hg hm PyProof.Rows.boot_enumerate (PyProof.Rows.callWith_type1 (thn (da_cons ha da_nil hs pos pins s σ H _ I ⟨φ, st, ρ, (fun ds st1 => match ds with
    | [x] => (match x with
      | .lst n => (match st1[n]? with
        | some o => P (enumD 0 o.items) (fun st' => (st'[n]?).map SO.items = some o.items) st1
        | none => False)
      | _ => False)
    | _ => False), pre, ht, fun ds st1 h1 φ1 H1 vs b1 dl => (show ∃ φ1 st1 ds, Bhd X.K φ st H φ1 st1 H1 ∧ DL X.K φ1 st1.length H1 ds vs ∧ (match ds with
    | [x] => (match x with
      | .lst n => (match st1[n]? with
        | some o => P (enumD 0 o.items) (fun st' => (st'[n]?).map SO.items = some o.items) st1
        | none => False)
      | _ => False)
    | _ => False) from ⟨φ1, st1, ds, b1, dl, h1⟩)⟩) fun us s1 ⟨vs, H1, I1, rv, φ1, st1, ds, b1, dl, h1⟩ => ?_) hs rfl))
  rcases ds with _ | ⟨d, _ | ⟨d2, r⟩⟩
  · exact h1.elim
  rotate_left
  · exact h1.elim
  · obtain ⟨v, rfl, dv⟩ := dl.one
    obtain ⟨u, rfl, ru⟩ := vals1 rv
    cases d with
    | lst n =>
      have h1 : (match st1[n]? with
        | some o => P (enumD 0 o.items) (fun st' => (st'[n]?).map SO.items = some o.items) st1
        | none => False) := h1
      split at h1
      · rename_i o eo
        obtain ⟨ws, hs1, dws⟩ := b1.1.seq eo dv.isL
        have ev := dv.lst.2
        subst ev
        cases ru
        obtain ⟨its, rvs, pl, hz⟩ := I1.list hs1
        refine call_enumerate_list pl.isList fun h' he hit hsz hk => ?_
        refine wpAny_pyIter_enum (s := { s1 with heap := h' }) he ?_
        have I2 : Inv X pins σ H1 { s1 with heap := h' } := I1.kept (t' := s1.toks) hk
        have hei : s1.heap.objs.size + 1 ≠ s1.heap.objs.size := by omega
        refine ⟨s1.heap.objs.size + 1, [s1.heap.objs.size + 1, s1.heap.objs.size], _, _, H1, rfl, I2, turn_enum (φ1 n) _ _ hei, ⟨⟨_, he⟩, hit⟩, fun b hb => ?_, hq _ _ st1 h1 φ1 H1 _ b1 ?_⟩
        · have hle : s1.heap.objs.size ≤ b := by
            rcases List.mem_cons.mp hb with e | hb
            · rw [e]; exact Nat.le_succ _
            · have e : b = s1.heap.objs.size := by simpa using hb
              rw [e]; exact Nat.le_refl _
          exact I1.fpOk hle (I1.hok.fresh hle)
        · intro i φ' st' H' bh hok hi
          have hok' : (st'[n]?).map SO.items = some o.items := hok
          obtain ⟨a', zs, e2, hs', dl'⟩ := seq_of (y := .lst n) (xs := o.items) bh.1 (dv.evo bh.2) hok'
          cases e2
          have hsl : SqL X.K H' (φ1 n) zs := by
            rcases hs' with z | ⟨_, z⟩
            · exact z.1
            · cases z
          have hlen := dl'.length
          rw [enum_len] at hi
          refine ⟨fun e => ⟨zs, hsl, by rw [enum_len] at e; omega⟩, fun d ed => ?_⟩
          obtain ⟨d', ed', rfl⟩ := enum_get ed
          obtain ⟨y, ey, dy⟩ := dl'.get ed'
          refine ⟨⟨zs, y, hsl, ey⟩, fun y' H2 hy => ?_⟩
          obtain ⟨q, v, hq1, rfl, rfl, hv⟩ := hy
          have := hv zs hsl
          rw [ey] at this
          cases this
          refine ⟨bhd_tup bh.1 hq1, .mkTup (SqT.of upd_same) (.cons ?_ (.cons (dy.evo (evo_new hq1)) .nil))⟩
          rw [Nat.zero_add]
          exact D.mkInt
      · exact h1.elim
    | _ => exact h1.elim
structure ConT (K : PySem.W.Frag) (mg : Str → Option Value) (x : Str) (ds : List Dt) : Prop where
  ex : ∃ a o vs its n, mg x = some (.ref a) ∧ K.lookup a = some o ∧ o.cls = .type "tuple" ∧ o.dict = none ∧ o.data = .seq its n ∧ its.size ≤ sizeLine ∧ Vals vs its.toList ∧ ∀ φ N H, DL K φ N H ds vs
theorem ConT.con {K : PySem.W.Frag} {mg : Str → Option Value} {x : Str} {ds : List Dt} (h : ConT K mg x ds) : ConOk K mg x (.tup ds) := by
  obtain ⟨a, o, vs, its, n, h1, h2, h3, h4, h5, h6, h7, h8⟩ := h.ex
  exact ⟨.ref a, _, h1, rfl, fun φ N H => .mkTup (.inr ⟨o, its, n, h2, h3, h5, h6, h7⟩) (h8 φ N H)⟩
noncomputable def tindex (ds : List Dt) (te : TD) : TD := fun ρ st P => te ρ st fun y st1 => okD 0 y = true ∧ ds.all (okD 0) = true ∧ (match ds.findIdx? (fun z => eqD 0 z y) with
  | some j => P (.int (j : Nat)) st1
  | none => False)
end
noncomputable def strsAre : List Value → List Str → Bool
  | [], [] => true
  | .str x _ :: us, s :: ss => x == s && strsAre us ss
  | _, _ => false
theorem vals_strs : ∀ {us : List Value} {ss : List Str}, strsAre us ss = true → Vals (ss.map V.str) us
  | [], [], _ => .nil
  | [], _ :: _, h => by simp [strsAre] at h
  | u :: us, [], h => by cases u <;> simp [strsAre] at h
  | u :: us, s :: ss, h => by
    cases u with
    | str x t =>
      rw [strsAre, Bool.and_eq_true] at h
      have e : x = s := eq_of_beq h.1
      subst e
      exact .cons ⟨t, rfl⟩ (vals_strs h.2)
    | _ => simp [strsAre] at h
theorem DL.strs {K : PySem.W.Frag} {φ : Nat → Addr} {N : Nat} {H : Hp} : ∀ ss : List Str, DL K φ N H (ss.map .str) (ss.map V.str)
  | [] => .nil
  | n :: ns => .cons D.mkStr (DL.strs ns)
theorem conT_strs {K : PySem.W.Frag} {mg : Str → Option Value} {x : Str} {a : Addr} {its : Array Value} {n : Nat} {sl : Array (Option Value)} {ss : List Str} (hm : mg x = some (.ref a)) (l : K.lookup a = some ⟨.type "tuple", none, .seq its n, sl⟩) (v : strsAre its.toList ss = true) (sz : its.size ≤ sizeLine) :
    ConT K mg x (ss.map .str) := ⟨a, _, ss.map V.str, its, n, hm, l, rfl, rfl, rfl, sz, vals_strs v, fun _ _ _ => DL.strs ss⟩
noncomputable def rIntB : RDL := fun ds st P => match ds with
  | [x] => (match x with
    | .bl k => P (.int (if k then 1 else 0)) st
    | .int i => P (.int i) st
    | _ => False)
  | _ => False
theorem cd_int {X : Cx} : CallD X (.type "int") rIntB := by
  intro pins s σ H vs us Q I rv h
  obtain ⟨φ, st, ds, P, R, dl, hr, hq⟩ := h
  rcases ds with _ | ⟨x, _ | ⟨y, r⟩⟩
  · exact hr.elim
  rotate_left
  · exact hr.elim
  · obtain ⟨v, rfl, dx⟩ := dl.one
    cases x with
    | bl k => exact call_int1 pins s σ H [v] us Q I rv (.inr ⟨k, by rw [dx.bl], Go.here hq R hr D.mkInt⟩)
    | int k => exact call_int1 pins s σ H [v] us Q I rv (.inl ⟨k, by rw [dx.int], Go.here hq R hr D.mkInt⟩)
    | _ => exact hr.elim
theorem dx_int {X : Cx} {pos : Pos} {e : Expr} {es : List Expr} {t : TAD} {p : Pos} (hm : X.mg "int" = none) (ha : DA X (e :: es) t) (hg : Gl X "int") (he : starEach (e :: es) X.env = (false, eval e X.env) :: starEach es X.env) (hpl : (backTo pos (starEach es X.env)).any (·.1) = false) : DE X (.Call (.Name "int" p) (e :: es) [] pos) (tcall rIntB t) := de_callTy cd_int hm PyProof.Rows.boot_int ha hg (by decide) (by decide) he hpl
structure Hint2 (caps : List (Nat × Str)) : Prop where
  ok : True
theorem sc_hint2 {so : Scope} {N : List Str} {caps : List (Nat × Str)} {sc : Scope} (_ : Hint2 caps) (h : scCheck so N caps sc = true) : CompScope so N caps sc := sc_of h
theorem get_app {st : Sto} {i : Nat} {o x : SO} (h : st[i]? = some o) : (st ++ [x])[i]? = some o := by
  rw [List.getElem?_append_left (lt_of_get h)]; exact h
theorem get_set_ne {st : Sto} {i j : Nat} {o x : SO} (h : st[i]? = some o) (hne : j ≠ i) : (st.set j x)[i]? = some o := by
  rw [List.getElem?_set_ne hne]; exact h
theorem get_set_self {st : Sto} {i : Nat} {o x : SO} (h : st[i]? = some o) : (st.set i x)[i]? = some x := by
  rw [List.getElem?_set_self (lt_of_get h)]
theorem get_new {st : Sto} {x : SO} : (st ++ [x])[st.length]? = some x := by simp
noncomputable def ExtS (st st' : Sto) : Prop := ∀ (i : Nat) o, st[i]? = some o → st'[i]? = some o
theorem ExtS.refl (st : Sto) : ExtS st st := fun _ _ h => h
theorem ExtS.trans {a b c : Sto} (h : ExtS a b) (h' : ExtS b c) : ExtS a c := fun i o q => h' i o (h i o q)
theorem ExtS.app (st : Sto) (x : SO) : ExtS st (st ++ [x]) := fun _ _ h => get_app h
noncomputable abbrev Ed (Pd : VD) : EndsD := { nx := fun _ st' => Pd .non st', rt := Pd }
theorem cmul_r {i j : Int} (h1 : 0 ≤ j) (h2 : j < 4294967296) : CMul i j := .inr ⟨by omega, by omega⟩
theorem cmul_l {i j : Int} (h1 : 0 ≤ i) (h2 : i < 4294967296) : CMul i j := .inl ⟨by omega, by omega⟩
theorem small {n : Nat} (h : n < 1000) : n < sizeLine := Nat.lt_trans h (by decide)
theorem cdiv {i j : Int} (h1 : 0 < j) (h2 : j < 1073741824) : CDiv i j := ⟨h1, h2⟩
theorem cut_len (ns : List Int) (k : Int) : (L3.cutD (ns.map Dt.int) none (some k)).length ≤ ns.length := by
  unfold L3.cutD
  rw [List.length_take, List.length_drop, List.length_map]
  omega
theorem cut_int {ns : List Int} {i : Nat} {k : Int} {d : Dt} (h : (L3.cutD (ns.map Dt.int) none (some k))[i]? = some d) : ∃ c : Int, d = .int c := by
  have h1 := List.mem_of_getElem? h
  unfold L3.cutD at h1
  have h2 := List.mem_of_mem_drop (List.mem_of_mem_take h1)
  obtain ⟨c, _, rfl⟩ := List.mem_map.mp h2
  exact ⟨c, rfl⟩
end L3
namespace L3
open PySem PySem.Spec PyProof.Rows L2
theorem hu1 {k : Nat} {A : Around} (r : Room k A) : A.units + 1 < cLine := by have := r.units; omega
noncomputable def rMax2 : RDL := fun ds st P => match ds with
  | [.int i, .int j] => P (.int (if j > i then j else i)) st
  | _ => False
theorem two_of {X : Cx} {φ : Nat → Addr} {N : Nat} {H : Hp} {i j : Int} {vs : List V} (dl : DL X.K φ N H [.int i, .int j] vs) : vs = [.int i, .int j] := by
  obtain ⟨v, ws, rfl, d1, d2⟩ := dl
  obtain ⟨w, us, rfl, e1, e2⟩ := d2
  rw [d1.int, e1.int, show us = [] from e2]
section
variable {X : Cx}
theorem cd_max (hc : X.calm = true) : CallD X (.builtin "max") rMax2 := by
  intro pins s σ H vs us Q I rv h
  obtain ⟨φ, st, ds, P, R, dl, hr, hq⟩ := h
  unfold rMax2 at hr
  split at hr
  · rename_i i j
    exact call_max2 hc pins s σ H vs us Q I rv ⟨i, j, two_of (X := X) dl, Go.here hq R hr D.mkInt⟩
  · exact hr.elim
variable {pos : Pos}
theorem dx_max {e : Expr} {es : List Expr} {t : TAD} {p : Pos} (hc : X.calm = true) (hm : X.mg "max" = none) (ha : DA X (e :: es) t) (hg : Gl X "max") (he : starEach (e :: es) X.env = (false, eval e X.env) :: starEach es X.env) (hpl : (backTo pos (starEach es X.env)).any (·.1) = false) : DE X (.Call (.Name "max" p) (e :: es) [] pos) (tcall rMax2 t) := de_callB (cd_max hc) hm PyProof.Rows.boot_max ha hg (by decide) (by decide) he hpl
end
end L3
namespace L3
open PySem PySem.Spec PyProof.Rows L2
noncomputable def rAllB : RDL := fun ds st P => match ds with
  | [.lst n] => (match st[n]? with
    | some o => ∃ bs : List Bool, o.items = bs.map .bl ∧ P (.bl (bs.all id)) st
    | none => False)
  | _ => False
theorem bools_are {K : PySem.W.Frag} {φ : Nat → Addr} {N : Nat} {H : Hp} : ∀ {bs : List Bool} {ws : List V} {us : List Value}, DL K φ N H (bs.map .bl) ws → Vals ws us → LSm.BoolsAre us bs
  | [], ws, us, dl, rv => by
    have e : ws = [] := by simpa [DL] using dl
    subst e
    cases rv
    exact .nil
  | b :: bs, ws, us, dl, rv => by
    obtain ⟨v, r, rfl, h1, h2⟩ := dl
    cases rv with
    | @cons a u as us' h t =>
      have e : v = .bl b := h1.bl
      subst e
      have e2 : u = Value.bool b := h
      subst e2
      exact .cons b (bools_are h2 t)
section
variable {X : Cx}
theorem cd_all (hc : X.calm = true) : CallD X (.builtin "all") rAllB := by
  intro pins s σ H vs us Q I rv h
  obtain ⟨φ, st, ds, P, R, dl, hr, hq⟩ := h
  rcases ds with _ | ⟨x, _ | ⟨y, r⟩⟩
  · exact hr.elim
  rotate_left
  · cases x <;> exact hr.elim
  · obtain ⟨v, rfl, dx⟩ := dl.one
    obtain ⟨u, rfl, ru⟩ := vals1 rv
    cases x with
    | lst n =>
      have hr : (match st[n]? with
        | some o => ∃ bs : List Bool, o.items = bs.map .bl ∧ P (.bl (bs.all id)) st
        | none => False) := hr
      split at hr
      · rename_i o eo
        obtain ⟨bs, eb, hp⟩ := hr
        obtain ⟨ws, hs1, dws⟩ := R.seq eo dx.isL
        rw [eb] at dws
        have ev := dx.lst.2
        subst ev
        cases ru
        obtain ⟨its, rvs, pl, hz⟩ := I.list hs1
        have hb : LSm.BoolsAre its bs := bools_are dws rvs
        have hl : s.heap.IsList (φ n) its.toArray := pl.isList
        have hlt : φ n < s.heap.objs.size := by obtain ⟨_, e, _⟩ := hl; exact Heap.lt_size e
        refine call_all_walk (wpAny_pyIter_list hl ?_)
        refine ⟨s.heap.objs.size, [s.heap.objs.size, φ n], [s.heap.objs.size], its.toArray.size, _, _, fun i => (bs[i]?).getD true, rfl, Walks.list (A := X.A.in1) (I.ok.hd hc) _ (φ n) (Nat.ne_of_lt hlt) its.toArray,
          ⟨⟨_, Heap.get?_push_size _ rfl, rfl, rfl⟩, hl.push _⟩, fun i v s' Q' E' hP hQ => ?_, fun h' tk hk => ?_⟩
        · obtain ⟨b, e, rfl⟩ := hb.get i v (by simpa using hP)
          simp only [e, Option.getD_some] at hQ
          exact wpAny_truthy_bool hQ
        · have e : ((List.range its.toArray.size).all fun i => (bs[i]?).getD true) = bs.all id := by
            rw [List.size_toArray, hb.length]; exact LSm.range_all bs
          rw [e]
          exact ⟨.bl (bs.all id), H, I.kept (t' := tk) (LSm.kept_iter hk), rfl, Go.here hq R hp D.mkBl⟩
      · exact hr.elim
    | _ => exact hr.elim
theorem dx_all {pos : Pos} {e : Expr} {es : List Expr} {t : TAD} {p : Pos} (hc : X.calm = true) (hm : X.mg "all" = none) (ha : DA X (e :: es) t) (hg : Gl X "all") (he : starEach (e :: es) X.env = (false, eval e X.env) :: starEach es X.env) (hpl : (backTo pos (starEach es X.env)).any (·.1) = false) : DE X (.Call (.Name "all" p) (e :: es) [] pos) (tcall rAllB t) := de_callB (cd_all hc) hm PyProof.Rows.boot_all ha hg (by decide) (by decide) he hpl
end
end L3
namespace L3
open PySem PySem.Spec PyProof.Rows L2
section
variable {X : Cx} {a b c : Expr} {ta tb tc : TD} {pos : Pos}
noncomputable def rPow : RD2 := fun x y st P => match x, y with
  | .int i, .int j => CPow i j ∧ P (.int (i ^ j.toNat)) st
  | _, _ => False
noncomputable def tneg (ta : TD) : TD := fun ρ st P => ta ρ st fun d st1 => match d with
  | .int i => P (.int (-i)) st1
  | _ => False
theorem de_neg (ha : DE X a ta) : DE X (.UnaryOp .USub a pos) (tneg ta) := (pe_un un_neg ha).imp fun σ H Q h => by
  obtain ⟨φ, st, ρ, P, pre, ht, hq⟩ := h
  refine ⟨φ, st, ρ, _, pre, ht, fun d st1 h1 φ1 H1 v b1 dx => ?_⟩
  cases d with
  | int i => exact ⟨i, dx.int, hq _ st1 h1 φ1 H1 _ b1 D.mkInt⟩
  | _ => exact h1.elim
noncomputable def irng2 (ta tb : TD) : TID := fun ρ st P => ta ρ st fun x st1 => tb ρ st1 fun y st2 => match x, y with
  | .int i, .int j => (-(2 ^ 62) ≤ i ∧ i < 2 ^ 62 ∧ -(2 ^ 62) ≤ j ∧ j < 2 ^ 62) ∧ P (rangeD i (j - i).toNat) (fun _ => True) st2
  | _, _ => False
end
structure DefOkD (P : Program) (w : World) (K : PySem.W.Frag) (mg : Str → Option Value) (base : Heap) (x : Str) (k n : Nat) (sp : RDL) (dd : Dt) : Prop where
  ex : ∃ f fd ps, FnOk P w K mg base CX0 k f fd ps (liftSp K sp) ∧ mg x = some (.ref f) ∧ PySem.W.keepIn K (.ref f) = true ∧ Binds K fd ps [] ∧ ∃ u v, Binds K fd ps [u] ∧ RelV v u ∧ ∀ φ N H, D K φ N H dd v
end L3
namespace L3
open PySem PySem.Spec PyProof.Rows L2
open AutoSeq1 (wpAny_loadPart')
noncomputable def rSumI : RDL := fun ds st P => match ds with
  | [.lst n] => (match st[n]? with
    | some o => ∃ ns : List Int, o.items = ns.map .int ∧ P (.int ns.sum) st
    | none => False)
  | _ => False
theorem ints_are {K : PySem.W.Frag} {φ : Nat → Addr} {N : Nat} {H : Hp} : ∀ {ns : List Int} {ws : List V} {us : List Value}, DL K φ N H (ns.map .int) ws → Vals ws us → IntsAre us ns
  | [], ws, us, dl, rv => by
    have e : ws = [] := by simpa [DL] using dl
    subst e
    cases rv
    exact .nil
  | n :: ns, ws, us, dl, rv => by
    obtain ⟨v, r, rfl, h1, h2⟩ := dl
    cases rv with
    | @cons a u as us' h t =>
      have e : v = .int n := h1.int
      subst e
      obtain ⟨tk, rfl⟩ := h
      exact .cons n tk (ints_are h2 t)
section
variable {X : Cx}
theorem cd_sum (hc : X.calm = true) : CallD X (.builtin "sum") rSumI := by
  intro pins s σ H vs us Q I rv h
  obtain ⟨φ, st, ds, P, R, dl, hr, hq⟩ := h
  rcases ds with _ | ⟨x, _ | ⟨y, r⟩⟩
  · exact hr.elim
  rotate_left
  · cases x <;> exact hr.elim
  · obtain ⟨v, rfl, dx⟩ := dl.one
    obtain ⟨u, rfl, ru⟩ := vals1 rv
    cases x with
    | lst n =>
      have hr : (match st[n]? with
        | some o => ∃ ns : List Int, o.items = ns.map .int ∧ P (.int ns.sum) st
        | none => False) := hr
      split at hr
      · rename_i o eo
        obtain ⟨ns, eb, hp⟩ := hr
        obtain ⟨ws, hs1, dws⟩ := R.seq eo dx.isL
        rw [eb] at dws
        have ev := dx.lst.2
        subst ev
        cases ru
        obtain ⟨its, rvs, pl, hz⟩ := I.list hs1
        have hi : IntsAre its ns := ints_are dws rvs
        have hl : s.heap.IsList (φ n) its.toArray := pl.isList
        obtain ⟨xs, hx⟩ := hi.allInts.items
        have hl' : s.heap.IsList (φ n) (intItems xs) := hx ▸ hl
        refine sum_intListG (I.ok.hd hc) hl' fun h' tk t' hk => ?_
        have e1 : ns = xs.toList.map (·.1) := by
          rw [← nums_intItems, ← hx]
          exact (show numsOf its.toArray.toList = ns from hi.numsOf).symm
        have e2 : preSum (numAt xs) xs.size = ns.sum := by
          rw [preSum_eq, List.take_of_length_le (by simp), e1]
        rw [e2]
        exact ⟨.int ns.sum, H, I.kept (t' := tk) hk, ⟨_, rfl⟩, Go.here hq R hp D.mkInt⟩
      · exact hr.elim
    | _ => exact hr.elim
theorem dx_sum {pos : Pos} {e : Expr} {es : List Expr} {t : TAD} {p : Pos} (hc : X.calm = true) (hm : X.mg "sum" = none) (ha : DA X (e :: es) t) (hg : Gl X "sum") (he : starEach (e :: es) X.env = (false, eval e X.env) :: starEach es X.env) (hpl : (backTo pos (starEach es X.env)).any (·.1) = false) : DE X (.Call (.Name "sum" p) (e :: es) [] pos) (tcall rSumI t) := de_callB (cd_sum hc) hm PyProof.Rows.boot_sum ha hg (by decide) (by decide) he hpl
noncomputable def tlistrng (ta : TD) : TD := fun ρ st P => ta ρ st fun x st1 => match x with
  | .int j => 0 ≤ j ∧ j ≤ 2 ^ 20 ∧ P (.lst st1.length) (st1 ++ [.rw (rangeD 0 j.toNat)])
  | _ => False
theorem items_vals : ∀ (n : Nat) (acc : List Value) (lo : Int), acc.length = n → (∀ (j : Nat) (v : Value), acc[j]? = some v → ∃ t, v = .int (lo + (j : Int) * 1) t) → Vals ((List.range n).map fun k => V.int (lo + (k : Nat))) acc := by
  intro n acc lo hl h
  have key : ∀ (acc : List Value) (m : Nat), (∀ (j : Nat) (v : Value), acc[j]? = some v → ∃ t, v = .int (lo + ((m + j : Nat) : Int)) t) → Vals ((List.range' m acc.length).map fun k => V.int (lo + (k : Nat))) acc := by
    intro acc
    induction acc with
    | nil => intro m _; exact .nil
    | cons a as ih =>
      intro m h
      rw [List.length_cons, List.range'_succ, List.map_cons]
      obtain ⟨t, rfl⟩ := h 0 a rfl
      refine .cons ⟨t, rfl⟩ (ih (m + 1) fun j v e => ?_)
      obtain ⟨t, ht⟩ := h (j + 1) v (by simpa using e)
      exact ⟨t, by rw [ht]; congr 2 <;> omega⟩
  have := key acc 0 fun j v e => by
    obtain ⟨t, ht⟩ := h j v e
    exact ⟨t, by rw [ht]; simp⟩
  rw [hl, ← List.range_eq_range'] at this
  exact this
theorem DL_range {K : PySem.W.Frag} {φ : Nat → Addr} {N : Nat} {H : Hp} (lo : Int) (l : List Nat) : DL K φ N H (l.map fun k => Dt.int (lo + (k : Nat))) (l.map fun k => V.int (lo + (k : Nat))) := by
  induction l with
  | nil => exact .nil
  | cons a as ih => exact .cons D.mkInt ih
theorem de_listrng {a : Expr} {ta : TD} {p p2 pos pos2 : Pos} (hc : X.calm = true) (hm : X.mg "list" = none) (hm2 : X.mg "range" = none) (ha : DE X a ta) (hg : Gl X "list") (hg2 : Gl X "range")
    (hs : starEach [a] X.env = [(false, eval a X.env)]) (he : starEach [.Call (.Name "range" p2) [a] [] pos2] X.env = [(false, eval (.Call (.Name "range" p2) [a] [] pos2) X.env)]) :
    DE X (.Call (.Name "list" p) [.Call (.Name "range" p2) [a] [] pos2] [] pos) (tlistrng ta) := by
  intro pins s σ H Q I h
  obtain ⟨φ, st, ρ, P, pre, ht, hq⟩ := h
  refine wpAny_Call_Name_kw (ld_blt I hg hm PyProof.Rows.boot_list ?_ (by decide) (by decide))
  refine PyProof.Rows.callWith_type1 ?_ he rfl
  rw [he]
  show wpAny _ _ (spliced ((false, eval (.Call (.Name "range" p2) [a] [] pos2) X.env) :: [])) _ _ s
  refine Calls.spliced_cons ?_
  refine Call_ (ld_blt I hg2 hm2 PyProof.Rows.boot_range (PyProof.Rows.callWith_type1 ?_ hs rfl))
  rw [hs]
  show wpAny _ _ (spliced ((false, eval a X.env) :: [])) _ _ s
  refine Calls.spliced_cons ?_
  refine thn (ha pins s σ H _ I ⟨φ, st, ρ, _, pre, ht, fun x st1 h1 φ1 H1 v b1 dx => (show ∃ φ1 st1 x, Bhd X.K φ st H φ1 st1 H1 ∧ D X.K φ1 st1.length H1 x v ∧ (match x with
    | .int j => 0 ≤ j ∧ j ≤ 2 ^ 20 ∧ P (.lst st1.length) (st1 ++ [.rw (rangeD 0 j.toNat)])
    | _ => False) from ⟨φ1, st1, x, b1, dx, h1⟩)⟩) fun u s1 ⟨v, H1, I1, rv, φ1, st1, x, b1, dx, h1⟩ => ?_
  cases x with
  | int j =>
    obtain ⟨j0, j1, hp⟩ := h1
    have ev := dx.int
    subst ev
    obtain ⟨t, rfl⟩ := rv
    refine Calls.spliced_nil ?_
    refine call_range_1 ?_
    refine Calls.spliced_nil ?_
    have I2 : Inv X pins σ H1 { s1 with heap := s1.heap.push { cls := .type "range", data := .fields #[.int 0 s1.toks, .int j t, .int 1 (s1.toks + 1)] }, toks := s1.toks + 1 + 1 } := I1.kept fun b o e => Heap.get?_push_of_some _ e
    have hn : Builtin.Range.rangeSize 0 j 1 = ((j.toNat : Nat) : Int) := by rw [rangeSize_one]; split <;> omega
    refine call_list_range (I2.ok.hd hc) (IsRange.new ..) (small_one (by decide) (by decide) (by omega) (by omega)) hn (by omega) fun h' tk acc c' kp hS hacc => ?_
    have hv : Vals ((List.range j.toNat).map fun k => V.int (0 + (k : Nat))) acc.toList := items_vals j.toNat acc.toList 0 (by rw [Array.length_toList]; exact hacc.1) fun i v e => hacc.2 i v (by simpa using e)
    have hz : ((List.range j.toNat).map fun k => V.int (0 + (k : Nat))).length ≤ sizeLine := by
      rw [List.length_map, List.length_range, sizeLine_eq]; omega
    have hno := I2.hok.fresh (Nat.le_refl _)
    refine ⟨.ref _, _, I2.laid (t' := tk) kp (Nat.le_refl _) (show ObjOk X.prog X.w _ h' _ (.lst ((List.range j.toNat).map fun k => V.int (0 + (k : Nat)))) from ⟨hz, acc.toList, c', hv, by simpa using hS⟩), rfl, ?_⟩
    have bb := bhd_lst b1.1 (ds := rangeD 0 j.toNat) hno (DL_range 0 (List.range j.toNat))
    exact hq _ _ hp _ _ _ (b1.trans bb) d_new
  | _ => exact h1.elim
end
noncomputable def rRepT : RD2 := fun x y st P => match x, y with
  | .tup xs, .int k => xs ≠ [] ∧ -(2 ^ 20) < k ∧ k < 2 ^ 20 ∧ xs.length * k.toNat ≤ sizeLine ∧ P (.tup (List.replicate k.toNat xs).flatten) st
  | _, _ => False
end L3
namespace HT
open PySem PySem.Spec PyProof.Rows
section
variable {prog : Program} {w : World} {A : Around} {E : Value → Shared → Prop} {s : Shared}
theorem getItem_tuple_whole {t sl : Addr} {items : Array Value} {vl vu : Value} {lo hi : Option Int} {Q : Value → Shared → Prop} (ht : IsTup s.heap t items) (hs : s.heap.IsSliceOf sl vl vu .none) (pl : IsPart vl lo) (pu : IsPart vu hi)
    (hw : sIx items.size 0 lo = 0 ∧ sIx items.size items.size hi = items.size) (h : Q (.ref t) s) : wpAny (model prog w) A (getItem (.ref t) (.ref sl)) Q E s := by
  obtain ⟨os, hos, hcs, hds⟩ := id hs
  have hTs : s.TypeIs (.ref sl) "slice" := ⟨os, hos, hcs⟩
  unfold getItem
  try with_reducible refine wpAny_holding ?_
  first | refine wpAny_bind (wpAny_pure ?_) | skip
  refine wpAny_bind (wpAny_sequenceKey ht.typeIs (by decide) ?_)
  refine wpAny_bind (wpAny_callSpecial?_slot (name := Str.ofString "__getitem__") ht.typeIs PyProof.Rows.slot_tuple_getitem
    (wpAny_call_entry PyProof.Rows.slot_tuple_getitem ht.typeIs entry_tuple_getitem ?_ (args_tuple_getitem _ _)))
  show wpAny _ _ (Builtin.Tuple.tupleItemsOf (.ref t) >>= _) _ _ s
  refine wpAny_bind (tupleItemsOf_ ht ?_)
  refine wpAny_bind (wpAny_typeOf hTs ?_)
  rw [if_pos (by decide)]
  refine wpAny_bind (sliceApplied_gen hs pl pu ?_)
  have hyes : (((sIx items.size 0 lo : Nat) : Int) == 0 && (1 : Int) == 1 && (sIx items.size items.size hi - sIx items.size 0 lo) == items.size) = true := by
    rw [hw.1, hw.2]; simp
  show wpAny _ _ (if (((sIx items.size 0 lo : Nat) : Int) == 0 && (1 : Int) == 1 && (sIx items.size items.size hi - sIx items.size 0 lo) == items.size) = true then _ else _) _ _ s
  rw [if_pos hyes]
  unfold Builtin.Tuple.tupleIsExact
  refine wpAny_bind (wpAny_bind (wpAny_typeOf ht.typeIs (wpAny_pure ?_)))
  rw [if_pos (by decide)]
  first
    | exact wpAny_bind (wpAny_pure (wpAny_pure ⟨_, rfl, wpAny_pure h⟩))
    | exact wpAny_bind (wpAny_rule (wpAny_bind (wpAny_pure (wpAny_pure ⟨_, rfl, wpAny_pure h⟩))))
    | exact wpAny_bind (wpAny_rule (wpAny_bind (wpAny_pure ⟨_, rfl, wpAny_pure h⟩)))
    | exact wpAny_pure ⟨_, rfl, wpAny_pure h⟩
    | exact wpAny_bind (wpAny_pure ⟨_, rfl, wpAny_pure h⟩)
end
end HT
namespace L3
open PySem PySem.Spec PyProof.Rows L2
noncomputable def rSlW (K : PySem.W.Frag) : V → Option Int → Option Int → Hp → VK → Prop := fun x lo hi H Q => ∃ a xs, x = .ref a ∧ SqT K H a xs ∧ (HT.sIx xs.length 0 lo = 0 ∧ HT.sIx xs.length xs.length hi = xs.length) ∧ Q (.ref a) H
section
variable {X : Cx}
theorem sl_whole : SlR X (rSlW X.K) := by
  intro pins s σ H x v vl vu lo hi sl Q I rx hs pl pu h
  obtain ⟨a, xs, rfl, hx, hw, q⟩ := h
  cases rx
  obtain ⟨its, r, ht, hz⟩ := I.tuple hx
  have hlen : its.toArray.size = xs.length := by rw [List.size_toArray]; exact r.length.symm
  refine ⟨"tuple", _, PyProof.Rows.slot_tuple_getitem.lookup, ht.typeIs, ?_⟩
  exact HT.getItem_tuple_whole ht hs pl pu (by rw [hlen]; exact hw) ⟨.ref a, H, I, rfl, q⟩
noncomputable def tsliceA (te : TD) (tl th : TOD) : TD := fun ρ st P => te ρ st fun x st1 => tl ρ st1 fun lo st2 => th ρ st2 fun hi st3 => match x with
  | .tup xs => P (.tup (cutD xs lo hi)) st3
  | .lst n => (match st3[n]? with
    | some o => P (.lst st3.length) (st3 ++ [.rw (cutD o.items lo hi)])
    | none => False)
  | _ => False
theorem cut_whole {xs : List Dt} {lo hi : Option Int} (h : HT.sIx xs.length 0 lo = 0 ∧ HT.sIx xs.length xs.length hi = xs.length) : cutD xs lo hi = xs := by
  unfold cutD
  rw [h.1, h.2]
  simp
theorem de_sliceA {e : Expr} {lo hi : Option Expr} {te : TD} {tl th : TOD} {pos p2 : Pos} (he : DE X e te) (hl : DO X lo tl) (hu : DO X hi th) : DE X (.Subscript e (.Slice lo hi none p2) pos) (tsliceA te tl th) := by
  refine PE.imp (pe_slice ((sl_tup.or sl_list).or sl_whole) he hl hu) fun σ H Q h => ?_
  obtain ⟨φ, st, ρ, P, pre, ht, hq⟩ := h
  refine ⟨φ, st, ρ, _, pre, ht, fun x st1 h1 φ1 H1 v b1 dx => ?_⟩
  refine ⟨φ1, st1, ρ, _, pre.on b1, h1, fun l st2 h2 φ2 H2 b2 => ?_⟩
  refine ⟨φ2, st2, ρ, _, (pre.on b1).on b2, h2, fun u st3 h3 φ3 H3 b3 => ?_⟩
  have b := b1.trans (b2.trans b3)
  have dx3 := (dx.evo b2.2).evo b3.2
  cases x with
  | tup xs =>
    obtain ⟨a, vs, e1, s1, d1⟩ := dx3.tup
    have h3' : P (.tup (cutD xs l u)) st3 := h3
    by_cases hw : HT.sIx xs.length 0 l = 0 ∧ HT.sIx xs.length xs.length u = xs.length
    · rw [cut_whole hw] at h3'
      exact .inr ⟨a, vs, e1, s1, by rw [← d1.length]; exact hw, hq _ st3 h3' φ3 _ _ b (by rw [← e1]; exact dx3)⟩
    refine .inl (.inl ⟨a, vs, e1, s1, by rw [← d1.length]; exact hw, fun p hp => hq _ st3 h3' φ3 _ _ (b.trans (bhd_tup b3.1 hp)) (.mkTup (SqT.of upd_same) ?_)⟩)
    unfold cutD cutV
    rw [← d1.length]
    exact ((d1.drop _).take _).evo (evo_new hp)
  | lst n =>
    have h3' : (match st3[n]? with
      | some o => P (.lst st3.length) (st3 ++ [.rw (cutD o.items l u)])
      | none => False) := h3
    split at h3'
    · rename_i o eo
      obtain ⟨vs, s1, d1⟩ := b3.1.seq eo dx3.isL
      refine .inl (.inr ⟨φ3 n, vs, dx3.lst.2, s1, fun p hp => ?_⟩)
      have : DL X.K φ3 st3.length H3 (cutD o.items l u) (cutV vs l u) := by
        unfold cutD cutV
        rw [← d1.length]
        exact (d1.drop _).take _
      exact hq _ _ h3' _ _ _ (b.trans (bhd_lst b3.1 hp this)) d_new
    · exact h3'.elim
  | _ => exact h3.elim
end
structure FunD (K : PySem.W.Frag) (x qual : Str) (st : Stmt) (f : Addr) (fd : FuncData) (T : Addr) : Prop where
  ex : ∃ (oc : Value) (od : Option Addr) (kV doc pm : Value) (an : Option Addr) (cdv ct : Value) (osl : Array (Option Value)),
    fd = PySem.W.fnOf x qual (defArgs st) (defBody st) (defScope st) (.ref T) kV doc pm an cdv ct ∧ K.lookup f = some ⟨oc, od, .func fd, osl⟩ ∧ PySem.W.codeIn K cdv qual = true
  kp : PySem.W.keepIn K (.ref f) = true
theorem FunD.ok {P : Program} {w : World} {K : PySem.W.Frag} {mg : Str → Option Value} {base : Heap} {x qual : Str} {st : Stmt} {f T : Addr} {fd : FuncData} {N ps : List Str} {k : Nat} {sp : Sp} (F : FunD K x qual st f fd T) (S : FnScope N ps (defScope st)) (len : ∀ vs H Q E, sp vs H Q E → vs.length = ps.length)
    (hbody : ∀ (cdv : Value) (A : Around) (outer : List Env) (s : Shared) (H : Hp) (vs : List V) (Q : VK) (E : XK), Room k (A.deeper (envOfC qual (defScope st) s.heap.objs.size f cdv)) → sp vs H Q E →
      ∃ t, PSs (cxOf CX0 P w K mg base N qual (defScope st) f cdv A outer s H E).nox (defBody st) t ∧ t { nx := fun _ H' => Q .non H', rt := Q } (start N vs) H) : FnOk P w K mg base CX0 (k + 1) f fd ps sp := by
  obtain ⟨oc, od, kV, doc, pm, an, cdv, ct, osl, rfl, lk, hcd⟩ := F.ex
  refine fn_of lk hcd S len fun A outer s H vs Q E hr hsp => ?_
  obtain ⟨t, h, q⟩ := hbody cdv A outer s H vs Q E hr hsp
  exact ⟨t, h.nox, q⟩
end L3
namespace L3
open PySem PySem.Spec PyProof.Rows L2
noncomputable def tcallK (r : RDL) (t : TAD) (u : TD) : TD := fun ρ st P => t ρ st fun ds st1 => u ρ st1 fun d st2 => r (ds ++ [d]) st2 P
end L3
namespace L3
open PySem PySem.Spec PyProof.Rows L2
theorem DefOkD.of {P : Program} {w : World} {K : PySem.W.Frag} {mg : Str → Option Value} {base : Heap} {x : Str} {k n : Nat} {sp : RDL} {i : Int} {f : Addr} {fd : FuncData} {ps : List Str} {t : Tok}
    (h : FnOk P w K mg base CX0 k f fd ps (liftSp K sp)) (hm : mg x = some (.ref f)) (hk : PySem.W.keepIn K (.ref f) = true) (b0 : Binds K fd ps []) (b1 : Binds K fd ps [.int i t]) : DefOkD P w K mg base x k n sp (.int i) :=
  ⟨⟨f, fd, ps, h, hm, hk, b0, .int i t, .int i, b1, ⟨t, rfl⟩, fun _ _ _ => D.mkInt⟩⟩
end L3
namespace L3
open PySem PySem.Spec PyProof.Rows L2
theorem liftSp_imp {K : PySem.W.Frag} {sp sp' : RDL} (h : ∀ ds st P, sp ds st P → sp' ds st P) {vs : List V} {H : Hp} {Q : VK} {E : XK} (q : liftSp K sp vs H Q E) : liftSp K sp' vs H Q E := by
  obtain ⟨φ, st, ds, P, R, dl, hs, hq⟩ := q
  exact ⟨φ, st, ds, P, R, dl, h _ _ _ hs, hq⟩
theorem DefOk.imp {P : Program} {w : World} {K : PySem.W.Frag} {mg : Str → Option Value} {base : Heap} {x : Str} {k : Nat} {sp sp' : RDL} (F : DefOk P w K mg base x k sp') (h : ∀ ds st P, sp ds st P → sp' ds st P) : DefOk P w K mg base x k sp := by
  obtain ⟨f, fd, ps, h1, h2, h3, h4⟩ := F.ex
  exact ⟨⟨f, fd, ps, ⟨fun vs H Q E q => h1.len vs H Q E (liftSp_imp h q), fun A outer s H args us vs Q E r e b v q => h1.run A outer s H args us vs Q E r e b v (liftSp_imp h q)⟩, h2, h3, h4⟩⟩
end L3
namespace HT
open PySem PySem.Spec PyProof.Rows
end HT
namespace L3
open PySem PySem.Spec PyProof.Rows L2
noncomputable def trev (te : TD) : TD := fun ρ st P => te ρ st fun x st1 => match x with
  | .tup xs => P (.tup xs.reverse) st1
  | _ => False
theorem DL.reverse {K : PySem.W.Frag} {φ : Nat → Addr} {N : Nat} {H : Hp} : ∀ {ds : List Dt} {vs : List V}, DL K φ N H ds vs → DL K φ N H ds.reverse vs.reverse
  | [], [], _ => by simpa using DL.nil
  | d :: ds, [], h => by simp [DL] at h
  | [], v :: vs, h => by simp [DL] at h
  | d :: ds, v :: vs, h => by
    simp only [DL] at h
    obtain ⟨v1, r, e, h1, h2⟩ := h
    cases e
    rw [List.reverse_cons, List.reverse_cons]
    exact (DL.reverse h2).append (.cons h1 .nil)
end L3
namespace L3
open PySem PySem.Spec PyProof.Rows L2
end L3
namespace L3
open PySem PySem.Spec PyProof.Rows L2
end L3
namespace L3
open PySem PySem.Spec PyProof.Rows L2
end L3
namespace L3
open PySem PySem.Spec PyProof.Rows L2
end L3
namespace L3
open PySem PySem.Spec PyProof.Rows L2
theorem vals_ints : ∀ {us : List Value} {ns : List Int}, IntsAre us ns → Vals (ns.map V.int) us
  | _, _, .nil => .nil
  | _, _, .cons n tk h => .cons ⟨tk, rfl⟩ (vals_ints h)
end L3
namespace L3
open PySem PySem.Spec PyProof.Rows L2
noncomputable def keyD : Dt → Option Key
  | .int i => some (.inl i)
  | .str x => some (.inr x)
  | _ => none
noncomputable def valD (kvs : List (Key × Dt)) (k : Key) : Option Dt := (kvs.find? fun kv => decide (kv.1 = k)).map (·.2)
noncomputable def putD (kvs : List (Key × Dt)) (k : Key) (d : Dt) : List (Key × Dt) :=
  if (kvs.any fun kv => decide (kv.1 = k)) = true then kvs.map (fun kv => if kv.1 = k then (kv.1, d) else kv) else kvs ++ [(k, d)]
noncomputable def KD (K : PySem.W.Frag) (φ : Nat → Addr) (N : Nat) (H : Hp) (kvs : List (Key × Dt)) (vs : List (Key × V)) : Prop := kvs.map (·.1) = vs.map (·.1) ∧ DL K φ N H (kvs.map (·.2)) (vs.map (·.2))
section
variable {K : PySem.W.Frag} {φ : Nat → Addr} {N : Nat} {H : Hp}
theorem key_of {y : Dt} {k : Key} {v : V} (e : keyD y = some k) (d : D K φ N H y v) : v = kV k := by
  cases y with
  | int i => cases e; exact d.int
  | str x => cases e; exact d.str
  | _ => cases e
theorem KD.uncons {k : Key} {d : Dt} {r : List (Key × Dt)} {vs : List (Key × V)} (h : KD K φ N H ((k, d) :: r) vs) : ∃ v r', vs = (k, v) :: r' ∧ D K φ N H d v ∧ KD K φ N H r r' := by
  obtain ⟨h1, h2⟩ := h
  cases vs with
  | nil => cases h1
  | cons p r' =>
    obtain ⟨k', v⟩ := p
    rw [List.map_cons, List.map_cons] at h1
    injection h1 with e1 e2
    have e1 : k = k' := e1
    subst e1
    obtain ⟨a, b⟩ := DL.uncons (d := d) (v := v) h2
    exact ⟨v, r', rfl, a, e2, b⟩
theorem KD.cons {k : Key} {d : Dt} {v : V} {r : List (Key × Dt)} {r' : List (Key × V)} (a : D K φ N H d v) (h : KD K φ N H r r') : KD K φ N H ((k, d) :: r) ((k, v) :: r') := ⟨by rw [List.map_cons, List.map_cons, h.1], .cons a h.2⟩
theorem KD.nil : KD K φ N H [] [] := ⟨rfl, .nil⟩
theorem KD.nilV {vs : List (Key × V)} (h : KD K φ N H [] vs) : vs = [] := by
  cases vs with
  | nil => rfl
  | cons p r => cases h.1
theorem KD.val : ∀ {kvs : List (Key × Dt)} {vs : List (Key × V)} (k : Key), KD K φ N H kvs vs → (valD kvs k = none ∧ valV vs k = none) ∨ ∃ d v, valD kvs k = some d ∧ valV vs k = some v ∧ D K φ N H d v
  | [], vs, k, h => by rw [h.nilV]; exact .inl ⟨rfl, rfl⟩
  | (k', d) :: r, vs, k, h => by
    obtain ⟨v, r', rfl, dv, h'⟩ := h.uncons
    by_cases e : k' = k
    · exact .inr ⟨d, v, by simp [valD, List.find?_cons, e], by simp [valV, List.find?_cons, e], dv⟩
    · have e1 : valD ((k', d) :: r) k = valD r k := by simp [valD, List.find?_cons, e]
      have e2 : valV ((k', v) :: r') k = valV r' k := by simp [valV, List.find?_cons, e]
      rw [e1, e2]
      exact h'.val k
theorem KD.any : ∀ {kvs : List (Key × Dt)} {vs : List (Key × V)} (k : Key), KD K φ N H kvs vs → (kvs.any fun kv => decide (kv.1 = k)) = (vs.any fun kv => decide (kv.1 = k))
  | [], vs, k, h => by rw [h.nilV]; rfl
  | (k', d) :: r, vs, k, h => by
    obtain ⟨v, r', rfl, _, h'⟩ := h.uncons
    rw [List.any_cons, List.any_cons, h'.any k]
theorem KD.app : ∀ {a b : List (Key × Dt)} {c e : List (Key × V)}, KD K φ N H a c → KD K φ N H b e → KD K φ N H (a ++ b) (c ++ e)
  | [], b, c, e, h, h' => by rw [h.nilV]; exact h'
  | (k, d) :: r, b, c, e, h, h' => by
    obtain ⟨v, r', rfl, dv, h2⟩ := h.uncons
    exact (h2.app h').cons dv
theorem KD.put {d : Dt} {v : V} (dv : D K φ N H d v) (k : Key) {kvs : List (Key × Dt)} {vs : List (Key × V)} (h : KD K φ N H kvs vs) : KD K φ N H (putD kvs k d) (putK vs k v) := by
  unfold putD putK
  rw [h.any k]
  split
  · have go : ∀ {kvs : List (Key × Dt)} {vs : List (Key × V)}, KD K φ N H kvs vs → KD K φ N H (kvs.map fun kv => if kv.1 = k then (kv.1, d) else kv) (vs.map fun kv => if kv.1 = k then (kv.1, v) else kv) := by
      intro kvs
      induction kvs with
      | nil => intro vs h; rw [h.nilV]; exact .nil
      | cons p r ih =>
        intro vs h
        obtain ⟨k', d'⟩ := p
        obtain ⟨v', r', rfl, dv', h'⟩ := h.uncons
        rw [List.map_cons, List.map_cons]
        by_cases e : k' = k
        · rw [if_pos e, if_pos e]; exact (ih h').cons dv
        · rw [if_neg e, if_neg e]; exact (ih h').cons dv'
    exact go h
  · exact h.app (KD.cons dv .nil)
theorem KD.length {kvs : List (Key × Dt)} {vs : List (Key × V)} (h : KD K φ N H kvs vs) : kvs.length = vs.length := by
  have := congrArg List.length h.1
  rwa [List.length_map, List.length_map] at this
theorem Rep.dc {st : Sto} (R : Rep K φ st H) {n : Nat} {kvs : List (Key × Dt)} (e : st[n]? = some (.dc kvs)) : ∃ vs, H (φ n) = some (.dK vs) ∧ K.lookup (φ n) = none ∧ KD K φ st.length H kvs vs := by
  obtain ⟨vs, h1, h2, h3, h4⟩ := R.all n _ e
  exact ⟨vs, h1, h2, h3, h4⟩
theorem bhd_dnew {st : Sto} {p : Addr} {kvs : List (Key × Dt)} {vs : List (Key × V)} (R : Rep K φ st H) (hp : H p = none) (hk : K.lookup p = none) (hd : KD K φ st.length H kvs vs) : Bhd K φ st H (phiNew φ st.length p) (st ++ [.dc kvs]) (upd H p (.dK vs)) :=
  ⟨R.add hp ⟨vs, upd_same, hk, hd.1, hd.2.evo (evo_add hp)⟩, evo_add hp⟩
theorem d_dnew {st : Sto} {p : Addr} {kvs : List (Key × Dt)} {vs : List (Key × V)} : D K (phiNew φ st.length p) (st ++ [SO.dc kvs]).length (upd H p (.dK vs)) (.dic st.length) (.ref p) := by
  have := D.mkDic (K := K) (φ := phiNew φ st.length p) (H := upd H p (.dK vs)) (n := st.length) (N := (st ++ [SO.dc kvs]).length) (by simp) (by rw [phi_at]; exact ⟨vs, upd_same⟩)
  rw [phi_at] at this
  exact this
theorem bhd_dset {st : Sto} {n : Nat} {kvs kvs' : List (Key × Dt)} {vs' : List (Key × V)} (R : Rep K φ st H) (e : st[n]? = some (.dc kvs)) (hd : KD K φ st.length H kvs' vs') : Bhd K φ st H φ (st.set n (.dc kvs')) (upd H (φ n) (.dK vs')) := by
  obtain ⟨vs, h1, h2, h3⟩ := R.dc e
  exact ⟨R.put e rfl rfl h1 trivial ⟨vs', upd_same, h2, hd.1, hd.2.evo (evo_setW (o := .dc kvs') (w := .dK vs') (lt_of_get e) h1 trivial)⟩, evo_setW (w := .dK vs') (lt_of_get e) h1 trivial⟩
end
section
variable {X : Cx} {o i : Expr} {to ti : TD} {pos : Pos}
noncomputable def tdict0 : TD := fun _ st P => P (.dic st.length) (st ++ [.dc []])
theorem de_dict0 : DE X (.Dict [] [] pos) tdict0 := pe_dnewK.imp fun σ H Q h => by
  obtain ⟨φ, st, ρ, P, pre, ht, hq⟩ := h
  exact fun p hp hk => hq _ _ ht _ _ _ (bhd_dnew pre.1 hp hk .nil) d_dnew
noncomputable def rDGet : RD2 := fun x y st P => match x with
  | .dic n => (match st[n]?, keyD y with
    | some (.dc kvs), some k => (match valD kvs k with
      | some d => P d st
      | none => False)
    | _, _ => False)
  | _ => False
theorem de_dget (hu : X.A.units + 1 < cLine) (ho : DE X o to) (hi : DE X i ti) (hs : NoSl i) : DE X (.Subscript o i pos) (tbin rDGet to ti) := (pe_dget hu ho hi hs).imp fun σ H Q h => by
  obtain ⟨φ, st, ρ, P, pre, ht, hq⟩ := h
  refine ⟨φ, st, ρ, _, pre, ht, fun x st1 h1 φ1 H1 v b1 dx => ?_⟩
  refine ⟨φ1, st1, ρ, _, pre.on b1, h1, fun y st2 h2 φ2 H2 w b2 dy => ?_⟩
  cases x with
  | dic n =>
    have h2 : (match st2[n]?, keyD y with
      | some (.dc kvs), some k => (match valD kvs k with
        | some d => P d st2
        | none => False)
      | _, _ => False) := h2
    split at h2
    · rename_i kvs k e1 e2
      split at h2
      · rename_i d ed
        obtain ⟨vs, hv, _, hk⟩ := b2.1.dc e1
        rcases hk.val k with ⟨z, _⟩ | ⟨d', v2, ed', ev, dv⟩
        · rw [ed] at z; cases z
        · rw [ed] at ed'
          cases ed'
          refine ⟨φ2 n, v2, (dx.evo b2.2).dic.2, ?_, hq d st2 h2 φ2 H2 v2 (b1.trans b2) dv⟩
          rw [key_of e2 dy, ← ev]
          exact DGet.k hv
      · exact h2.elim
    · exact h2.elim
  | _ => exact h2.elim
noncomputable def rDIn (neg : Bool) : RD2 := fun x y st P => match y with
  | .dic n => (match st[n]?, keyD x with
    | some (.dc kvs), some k => P (.bl ((valD kvs k).isSome != neg)) st
    | _, _ => False)
  | _ => False
theorem din_lift {φ : Nat → Addr} {st2 : Sto} {H2 : Hp} {n : Nat} {x : Dt} {w : V} {neg : Bool} {P : VD} {v : V} (R : Rep X.K φ st2 H2) (dx : D X.K φ st2.length H2 x v) (dy : D X.K φ st2.length H2 (.dic n) w) (h : rDIn neg x (.dic n) st2 P) : ∃ a o, w = .ref a ∧ DGet H2 a v o ∧ P (.bl (o.isSome != neg)) st2 := by
  have h : (match st2[n]?, keyD x with
    | some (.dc kvs), some k => P (.bl ((valD kvs k).isSome != neg)) st2
    | _, _ => False) := h
  split at h
  · rename_i kvs k e1 e2
    obtain ⟨vs, hv, _, hk⟩ := R.dc e1
    refine ⟨φ n, valV vs k, dy.dic.2, by rw [key_of e2 dx]; exact DGet.k hv, ?_⟩
    rcases hk.val k with ⟨z1, z2⟩ | ⟨d', v2, z1, z2, _⟩
    · rw [z1] at h; rw [z2]; exact h
    · rw [z1] at h; rw [z2]; exact h
  · exact h.elim
noncomputable def gdput (to ti : TD) : TGD := fun d ρ st P => to ρ st fun o st1 => ti ρ st1 fun i st2 => match o with
  | .dic n => (match st2[n]?, keyD i with
    | some (.dc kvs), some k => kvs.length < sizeLine ∧ P ρ (st2.set n (.dc (putD kvs k d)))
    | _, _ => False)
  | _ => False
theorem ds_dput {value : Expr} {tv : TD} {pos' : Pos} (hu : X.A.units + 1 < cLine) (ho : DE X o to) (hi : DE X i ti) (hv : DE X value tv) (hs : swapsWith value (some (.Subscript o i pos')) pos.line X.env = pure false) :
    DS X (.Assign [.Subscript o i pos'] value pos) (tasg tv (gdput to ti)) := (ps_dput hu ho hi hv hs).imp fun E σ H h => by
  obtain ⟨φ, st, ρ, P, pre, ht, n, b, c, r⟩ := h
  refine ⟨φ, st, ρ, _, pre, ht, fun d st1 h1 φ1 H1 v b1 dv => ?_⟩
  refine ⟨φ1, st1, ρ, _, pre.on b1, h1, fun x st2 h2 φ2 H2 w b2 dx => ?_⟩
  refine ⟨φ2, st2, ρ, _, (pre.on b1).on b2, h2, fun y st3 h3 φ3 H3 z b3 dy => ?_⟩
  cases x with
  | dic m =>
    have h3 : (match st3[m]?, keyD y with
      | some (.dc kvs), some k => kvs.length < sizeLine ∧ P.nx ρ (st3.set m (.dc (putD kvs k d)))
      | _, _ => False) := h3
    split at h3
    · rename_i kvs k e1 e2
      obtain ⟨vs, hv, _, hk⟩ := b3.1.dc e1
      have dv3 := dv.evo (b2.trans b3).2
      have bb := bhd_dset b3.1 e1 (hk.put dv3 k)
      refine ⟨φ3 m, _, (dx.evo b3.2).dic.2, by rw [key_of e2 dy]; exact DPut.k hv (by rw [← hk.length]; exact h3.1), ?_⟩
      exact n _ _ h3.2 φ3 _ _ (((b1.trans b2).trans b3).trans bb) ((pre.on (((b1.trans b2).trans b3).trans bb)).2)
    · exact h3.elim
  | _ => exact h3.elim
noncomputable def tvK : List (Key × TD) → TAD
  | [] => fun _ st P => P [] st
  | (_, t) :: r => fun ρ st P => t ρ st fun x st1 => tvK r ρ st1 fun xs st2 => P (x :: xs) st2
noncomputable def tdict (kts : List (Key × TD)) : TD := fun ρ st P => tvK kts ρ (st ++ [.dc []]) fun ds st1 => st1[st.length]? = some (.dc []) ∧ P (.dic st.length) (st1.set st.length (.dc ((kts.map (·.1)).zip ds)))
noncomputable def DPK (X : Cx) (pos : Pos) (keys : List (Option Expr)) (values : List Expr) (kts : List (Key × TD)) : Prop := PPs X pos keys values (kts.map fun q => (tC (kV q.1), liftE X.K q.2))
theorem dpk_nil : DPK X pos [] [] [] := pps_nil
theorem dpk_str {k : Str} {j : Nat} {p : Pos} {v : Expr} {t : TD} {ks : List (Option Expr)} {vs : List Expr} {kts : List (Key × TD)} (hv : DE X v t) (hr : DPK X pos ks vs kts) : DPK X pos (some (.Constant (.str k) j p) :: ks) (v :: vs) ((.inr k, t) :: kts) := pps_cons pe_str hv hr
theorem pairsK {K : PySem.W.Frag} : ∀ {kts : List (Key × TD)} {σ : L2.St} {H : Hp} {φ : Nat → Addr} {st : Sto} {ρ : Rho} {P : List Dt → Sto → Prop} {Q : List (V × V) → Hp → Prop}, Pre K φ st H ρ σ → tvK kts ρ st P →
    (∀ ds st', P ds st' → ∀ φ' H' (vs : List V), Bhd K φ st H φ' st' H' → DL K φ' st'.length H' ds vs → ds.length = kts.length → Q (((kts.map (·.1)).zip vs).map fun kv => (kV kv.1, kv.2)) H') → tPairs (kts.map fun q => (tC (kV q.1), liftE K q.2)) σ H Q
  | [], σ, H, φ, st, ρ, P, Q, pre, ht, hq => hq [] st ht φ H [] (.refl pre.1) .nil rfl
  | (k, t) :: r, σ, H, φ, st, ρ, P, Q, pre, ht, hq => by
    refine ⟨φ, st, ρ, _, pre, ht, fun d st1 h1 φ1 H1 v b1 dx => ?_⟩
    refine pairsK (pre.on b1) h1 fun ds st2 h2 φ2 H2 vs b2 dl hl => ?_
    exact hq (d :: ds) st2 h2 φ2 H2 (v :: vs) (b1.trans b2) (.cons (dx.evo b2.2) dl) (by rw [List.length_cons, hl, List.length_cons])
theorem merge_zip : ∀ {more acc : List (Key × V)}, (∀ kv ∈ more, valV acc kv.1 = none) → (more.map (·.1)).Nodup → mergeK acc more = acc ++ more := by
  intro more
  induction more with
  | nil => intro acc _ _; show acc = _; rw [List.append_nil]
  | cons p r ih =>
    intro acc h nd
    rw [List.map_cons, List.nodup_cons] at nd
    have hp : putK acc p.1 p.2 = acc ++ [p] := by
      unfold putK
      have hn : ¬ (acc.any fun kv => decide (kv.1 = p.1)) = true := by
        intro ha
        obtain ⟨kv, hm, he⟩ := List.any_eq_true.mp ha
        have hv := h p (List.mem_cons_self ..)
        unfold valV at hv
        rw [Option.map_eq_none_iff, List.find?_eq_none] at hv
        exact hv kv hm he
      rw [if_neg hn]
    show mergeK (putK acc p.1 p.2) r = _
    rw [hp, ih (fun kv hk => ?_) nd.2, List.append_assoc]; rfl
    have h1 := h kv (List.mem_cons_of_mem _ hk)
    unfold valV at h1 ⊢
    rw [Option.map_eq_none_iff, List.find?_eq_none] at h1 ⊢
    intro q hq
    rcases List.mem_append.mp hq with z | z
    · exact h1 q z
    · rw [List.mem_singleton.mp z]
      have : p.1 ≠ kv.1 := fun e => nd.1 (by rw [e]; exact List.mem_map.mpr ⟨kv, hk, rfl⟩)
      simpa using this
theorem de_dict {keys : List (Option Expr)} {values : List Expr} {kts : List (Key × TD)} (h : DPK X pos keys values kts) (hall : keys.all (·.isSome) = true) (hl : keys.length = values.length) (h0 : keys ≠ []) (h15 : keys.length ≤ 15) (hk : kts.length ≤ 15) (nd : (kts.map (·.1)).Nodup) : DE X (.Dict keys values pos) (tdict kts) := by
  refine PE.imp (pe_disp h hall hl h0 h15) fun σ H Q q => ?_
  obtain ⟨φ, st, ρ, P, pre, ht, hq⟩ := q
  intro a hn kf
  have b0 := bhd_dnew (kvs := []) (vs := []) pre.1 hn kf .nil
  have ht : tvK kts ρ (st ++ [.dc []]) fun ds st1 => st1[st.length]? = some (.dc []) ∧ P (.dic st.length) (st1.set st.length (.dc ((kts.map (·.1)).zip ds))) := ht
  refine pairsK (pre.on b0) ht fun ds st1 h1 φ1 H1 vs b1 dl hlen => ?_
  have ep : φ1 st.length = a := by
    rw [b1.2.ext st.length (by simp), phi_at]
  obtain ⟨vs0, e0, _, k0⟩ := b1.1.dc h1.1
  rw [k0.nilV, ep] at e0
  have hvl : vs.length = kts.length := by rw [← dl.length]; exact hlen
  have kn : ((kts.map (·.1)).zip vs).map (·.1) = kts.map (·.1) := List.map_fst_zip (by rw [List.length_map]; omega)
  refine ⟨e0, (kts.map (·.1)).zip vs, rfl, by rw [List.length_zip, List.length_map]; omega, ?_⟩
  rw [merge_zip (fun kv _ => valV_nil) (by rw [kn]; exact nd), List.nil_append]
  have kd : KD X.K φ1 st1.length H1 ((kts.map (·.1)).zip ds) ((kts.map (·.1)).zip vs) := by
    refine ⟨?_, ?_⟩
    · rw [kn, List.map_fst_zip (by rw [List.length_map]; omega)]
    · rw [List.map_snd_zip (by rw [List.length_map]; omega), List.map_snd_zip (by rw [List.length_map]; omega)]; exact dl
  have bb := bhd_dset b1.1 h1.1 kd
  rw [ep] at bb
  refine hq _ _ h1.2 φ1 _ _ ((b0.trans b1).trans bb) ?_
  have := D.mkDic (K := X.K) (φ := φ1) (H := upd H1 a (.dK ((kts.map (·.1)).zip vs))) (n := st.length) (N := (st1.set st.length (.dc ((kts.map (·.1)).zip ds))).length) (by rw [List.length_set]; exact lt_of_get h1.1) (by rw [ep]; exact ⟨_, upd_same⟩)
  rw [ep] at this
  exact this
end
end L3
namespace L3
open PySem PySem.Spec PyProof.Rows L2
noncomputable def putO (f : Str) (d : Dt) : List (Str × Dt) → List (Str × Dt)
  | [] => [(f, d)]
  | (g, x) :: r => if g = f then (g, d) :: r else (g, x) :: putO f d r
noncomputable def OD (K : PySem.W.Frag) (φ : Nat → Addr) (N : Nat) (H : Hp) (fs : List (Str × Dt)) (vs : List (Str × V)) : Prop := fs.map (·.1) = vs.map (·.1) ∧ DL K φ N H (fs.map (·.2)) (vs.map (·.2))
section
variable {K : PySem.W.Frag} {φ : Nat → Addr} {N : Nat} {H : Hp}
theorem OD.uncons {k : Str} {d : Dt} {r : List (Str × Dt)} {vs : List (Str × V)} (h : OD K φ N H ((k, d) :: r) vs) : ∃ v r', vs = (k, v) :: r' ∧ D K φ N H d v ∧ OD K φ N H r r' := by
  obtain ⟨h1, h2⟩ := h
  cases vs with
  | nil => cases h1
  | cons p r' =>
    obtain ⟨k', v⟩ := p
    rw [List.map_cons, List.map_cons] at h1
    injection h1 with e1 e2
    have e1 : k = k' := e1
    subst e1
    obtain ⟨a, b⟩ := DL.uncons (d := d) (v := v) h2
    exact ⟨v, r', rfl, a, e2, b⟩
theorem OD.cons {k : Str} {d : Dt} {v : V} {r : List (Str × Dt)} {r' : List (Str × V)} (a : D K φ N H d v) (h : OD K φ N H r r') : OD K φ N H ((k, d) :: r) ((k, v) :: r') := ⟨by rw [List.map_cons, List.map_cons, h.1], .cons a h.2⟩
theorem OD.nil : OD K φ N H [] [] := ⟨rfl, .nil⟩
theorem OD.nilV {vs : List (Str × V)} (h : OD K φ N H [] vs) : vs = [] := by
  cases vs with
  | nil => rfl
  | cons p r => cases h.1
theorem OD.length {fs : List (Str × Dt)} {vs : List (Str × V)} (h : OD K φ N H fs vs) : fs.length = vs.length := by
  have := congrArg List.length h.1
  rwa [List.length_map, List.length_map] at this
theorem OD.put {d : Dt} {v : V} (dv : D K φ N H d v) (f : Str) : ∀ {fs : List (Str × Dt)} {vs : List (Str × V)}, OD K φ N H fs vs → OD K φ N H (putO f d fs) (putF f v vs)
  | [], vs, h => by rw [h.nilV]; exact OD.cons dv .nil
  | (k, d') :: r, vs, h => by
    obtain ⟨v', r', rfl, dv', h'⟩ := h.uncons
    unfold putO putF
    by_cases e : k = f
    · rw [if_pos e, if_pos e]; exact h'.cons dv
    · rw [if_neg e, if_neg e]; exact (OD.put dv f h').cons dv'
theorem Rep.ob {st : Sto} (R : Rep K φ st H) {n : Nat} {C : Str} {fs : List (Str × Dt)} (e : st[n]? = some (.ob C fs)) : ∃ (c dx : Addr) (vs : List (Str × V)), H (φ n) = some (.ins c dx vs) ∧ K.lookup (φ n) = none ∧ PySem.W.nsIn K mainGlobals C = some (some (.ref c)) ∧ OD K φ st.length H fs vs := by
  obtain ⟨c, dx, vs, h1, h2, h3, h4, h5⟩ := R.all n _ e
  exact ⟨c, dx, vs, h1, h2, h3, h4, h5⟩
end
end L3
namespace L3
open PySem PySem.Spec PyProof.Rows L2
section
variable {X : Cx} {e st : Expr} {te : TE} {pos p2 : Pos}
noncomputable def tRevL (K : PySem.W.Frag) (te : TE) (ts : TO) : TE := fun σ H Q => te σ H fun x H1 => ts σ H1 fun o H2 => o = some (-1) ∧ ∃ a xs, x = .ref a ∧ SqL K H2 a xs ∧ ∀ p, H2 p = none → Q (.ref p) (upd H2 p (.lst xs.reverse))
theorem pe_revL {ts : TO} (he : PE X e te) (hs : PO X (some st) ts) : PE X (.Subscript e (.Slice none none (some st) p2) pos) (tRevL X.K te ts) := by
  intro pins s σ H Q I h
  refine Subscript_ (thn (he pins s σ H _ I h) fun v s1 ⟨x, H1, I1, r1, q1⟩ => ?_)
  refine wpAny_Slice ?_
  rw [evalPart_none]
  refine wpAny_pure ?_
  refine wpAny_pure ?_
  refine thn (hs pins s1 σ H1 _ I1 q1) fun u s3 ⟨o, H3, I3, pu, q3⟩ => ?_
  obtain ⟨rfl, a, xs, rfl, hx, q⟩ := q3
  cases pu with
  | int i t =>
    have I4 : Inv X pins σ H3 { s3 with heap := s3.heap.push { cls := .type "slice", data := .fields #[.none, .none, .int (-1) t] } } := I3.kept (t' := s3.toks) fun b ob q => Heap.get?_push_of_some _ q
    cases r1
    obtain ⟨its, r, ht, hz⟩ := I4.list hx
    have hlen : its.toArray.size = xs.length := by rw [List.size_toArray]; exact r.length.symm
    have hg : wpAny (model X.prog X.w) X.A (getItem (.ref a) (.ref s3.heap.objs.size)) (EP X pins σ Q) X.xe { s3 with heap := s3.heap.push { cls := .type "slice", data := .fields #[.none, .none, .int (-1) t] } } := by
      refine wpAny_getItem_list_slice ht.isList (Heap.IsSliceOf.new ..) .none .none (.int (-1) t) (by decide) ?_ (by rw [hlen]; exact hz)
      rw [PySem.W.krv_pick]
      refine ⟨.ref _, _, I4.laid (t' := s3.toks) (o := .lst xs.reverse) (fun b ob q => Heap.get?_push_of_some _ q) (Nat.le_refl _) ?_, rfl, q _ (I4.hok.fresh (Nat.le_refl _))⟩
      exact ⟨by rw [List.length_reverse]; exact hz, _, 0, r.reverse, Heap.get?_push_size _ rfl⟩
    show wpAny (model X.prog X.w) X.A (subscriptTail e (.Slice none none (some st) p2) (.ref a) (.ref s3.heap.objs.size)) (EP X pins σ Q) X.xe { s3 with heap := s3.heap.push { cls := .type "slice", data := .fields #[.none, .none, .int (-1) t] } }
    exact tail_any (ops := [.ref a, .ref s3.heap.objs.size]) ht.isList.typeIs slot_list_getitem.lookup hg (by with_unfolding_all rfl)
end
noncomputable def trevL (te : TD) : TD := fun ρ st P => te ρ st fun x st1 => match x with
  | .lst n => (match st1[n]? with
    | some (.rw xs) => P (.lst st1.length) (st1 ++ [.rw xs.reverse])
    | _ => False)
  | _ => False
section
variable {X : Cx} {e : Expr} {pos p2 p3 p4 : Pos}
theorem de_revL {te : TD} {j : Nat} (he : DE X e te) : DE X (.Subscript e (.Slice none none (some (.UnaryOp .USub (.Constant (.int 1) j p4) p3)) p2) pos) (trevL te) := by
  refine PE.imp (pe_revL he (do_some (de_neg de_int))) fun σ H Q h => ?_
  obtain ⟨φ, st, ρ, P, pre, ht, hq⟩ := h
  refine ⟨φ, st, ρ, _, pre, ht, fun x st1 h1 φ1 H1 v b1 dx => ?_⟩
  refine ⟨φ1, st1, ρ, fun o st' => o = some (-1) ∧ st' = st1, pre.on b1, ⟨rfl, rfl⟩, fun o st2 h2 φ2 H2 b2 => ?_⟩
  obtain ⟨rfl, rfl⟩ := h2
  refine ⟨rfl, ?_⟩
  cases x with
  | lst n =>
    have dx2 := dx.evo b2.2
    dsimp only at h1
    split at h1
    · rename_i xs e1
      obtain ⟨hn, rfl⟩ := dx2.lst
      obtain ⟨vs, s1, d1⟩ := b2.1.seq e1 dx2.isL
      refine ⟨_, vs, rfl, s1, fun p hp => ?_⟩
      exact hq _ _ h1 _ _ _ ((b1.trans b2).trans (bhd_lst b2.1 hp (DL.reverse d1))) d_new
    · exact h1.elim
  | _ => exact h1.elim
end
section
variable {X : Cx} {o i : Expr} {to ti : TD} {pos : Pos}
theorem dtx_dnotin (hu : X.A.units + 1 < cLine) (hi : DE X i ti) (ho : DE X o to) (hm : behindInMarks .NotIn o = false) : DT X (.Compare i [.NotIn] [o] pos) (tbool (tbin (rDIn true) ti to)) := (pt_cmp (pc_dnotin hu hi ho) hm).imp fun σ H Q h => by
  obtain ⟨φ, st, ρ, P, pre, ht, hq⟩ := bool_lift h
  refine ⟨φ, st, ρ, _, pre, ht, fun x st1 h1 φ1 H1 v b1 dx => ?_⟩
  refine ⟨φ1, st1, ρ, _, pre.on b1, h1, fun y st2 h2 φ2 H2 w b2 dy => ?_⟩
  cases y with
  | dic n =>
    obtain ⟨a, ov, e, g, p⟩ := din_lift b2.1 (dx.evo b2.2) dy h2
    refine ⟨a, ov, e, g, hq _ st2 p φ2 H2 _ (b1.trans b2) ?_⟩
    cases ov <;> exact D.mkBl
  | _ => exact h2.elim
end
end L3
namespace KH
open PySem L2 L3
noncomputable def HandO (o : SO) : Prop := ∃ a b c : Int, o = .rw [.int a, .int b, .int c] ∧ 0 ≤ b ∧ b < 1000000007
noncomputable def HandAt (st : Sto) (h : Nat) : Prop := ∃ o, st[h]? = some o ∧ HandO o
noncomputable def Keep (h : Nat) (st st' : Sto) : Prop := (∀ i o, i ≠ h → st[i]? = some o → st'[i]? = some o) ∧ HandAt st' h
theorem Keep.refl {h : Nat} {st : Sto} (a : HandAt st h) : Keep h st st := ⟨fun _ _ _ q => q, a⟩
theorem Keep.trans {h : Nat} {a b c : Sto} (x : Keep h a b) (y : Keep h b c) : Keep h a c := ⟨fun i o n q => y.1 i o n (x.1 i o n q), y.2⟩
theorem HandAt.ext {h : Nat} {st st' : Sto} (a : HandAt st h) (e : ExtS st st') : HandAt st' h := by
  obtain ⟨o, q, r⟩ := a; exact ⟨o, e _ _ q, r⟩
theorem Keep.of {h : Nat} {st st' : Sto} (a : HandAt st h) (e : ExtS st st') : Keep h st st' := ⟨fun i o _ q => e i o q, a.ext e⟩
theorem Keep.app {h : Nat} {st st' : Sto} (k : Keep h st st') (x : SO) : Keep h st (st' ++ [x]) := k.trans (.of k.2 (.app _ _))
noncomputable def spHand : RDL := fun ds st P => ∃ c k : Int, ds = [.int c, .int k] ∧ ∀ o, HandO o → P (.lst st.length) (st ++ [o])
noncomputable def spDraw : RDL := fun ds st P => ∃ (h : Nat) (n : Int), ds = [.lst h, .int n] ∧ 0 < n ∧ n < 1073741824 ∧ HandAt st h ∧ ∀ (v : Int) st', 0 ≤ v → v < n → Keep h st st' → P (.int v) st'
end KH
namespace K19
open PySem L2 L3 KH
noncomputable def namS : List Str := ["add", "sub", "mul", "nought", "high", "over", "under", "wide", "rest"]
noncomputable def namD : List Dt := namS.map .str
noncomputable def underD (w : Str) (ns : List Dt) : List Dt := if namS.contains w = true then ns else []
noncomputable def spUnder : RDL := fun ds st P => ∃ (w : Str) (ns : List Dt), ds = [.tup (.str w :: ns)] ∧ P (.tup (underD w ns)) st
noncomputable def spRight : RDL := fun ds st P => ∃ (w : Str) (ns due : List Int), ds = [.tup (.str w :: ns.map .int), .tup (due.map .int)] ∧ ns.length < 100 ∧ due.map Dt.int = underD w (ns.map .int) ∧ ∀ st', ExtS st st' → P (.bl true) st'
end K19
namespace KH
open PySem PySem.Spec PyProof.Rows L2 L3
noncomputable abbrev t__law_hand : TSD := (tseq (tret (tlst (tacons (tcon (Dt.int 0)) (tacons (tbin rMod (tbin rMul (tbin L3.rAdd (tbin L3.rAdd (tbin rMod (tvar 0) (tcon (Dt.int 1000000007))) (tbin rMul (tcon (Dt.int 7919)) (tvar 1))) (tcon (Dt.int 1))) (tcon (Dt.int 69069))) (tcon (Dt.int 1000000007))) (tacons (tvar 0) tanil))))) tnext)
noncomputable abbrev t__law_draw : TSD := (tseq (tifS (torB (tbool (tbin (rCmpI fun i j => decide (j ≤ i)) (tbin rIxD (tvar 0) (tcon (Dt.int 2))) (tcon (Dt.int 1000)))) (tbool (tbin (rCmpI fun i j => decide (i < j)) (tbin rIxD (tvar 0) (tcon (Dt.int 2))) (tneg (tcon (Dt.int 1000)))))) (tseq (tasg (tbin rMod (tbin rIxD (tvar 0) (tcon (Dt.int 2))) (tvar 1)) (gname 2)) (tseq (tasg (tbin rDiv (tbin rIxD (tvar 0) (tcon (Dt.int 2))) (tvar 1)) (gsub (tvar 0) (tcon (Dt.int 2)))) (tseq (tret (tvar 2)) tnext))) tnext) (tseq (tasg (tbin L3.rAdd (tbin rIxD (tvar 0) (tcon (Dt.int 0))) (tcon (Dt.int 1))) (gsub (tvar 0) (tcon (Dt.int 0)))) (tseq (tasg (tbin rMod (tbin L3.rAdd (tbin L3.rAdd (tbin rMul (tbin rIxD (tvar 0) (tcon (Dt.int 1))) (tbin rIxD (tvar 0) (tcon (Dt.int 1)))) (tbin rMul (tcon (Dt.int 7)) (tbin rIxD (tvar 0) (tcon (Dt.int 0))))) (tcon (Dt.int 11))) (tcon (Dt.int 1000000007))) (gsub (tvar 0) (tcon (Dt.int 1)))) (tseq (tret (tbin rMod (tbin rDiv (tbin rIxD (tvar 0) (tcon (Dt.int 1))) (tcon (Dt.int 3))) (tvar 1))) tnext))))
theorem rd__law_hand {ds : List Dt} {st : Sto} {Pd : VD} (h : spHand ds st Pd) : t__law_hand (Ed Pd) (startD ["cell", "k"] ds) st := by
  obtain ⟨c, k, rfl, h⟩ := h
  refine ⟨by decide, cmul_l (by decide) (by decide), cmul_r (by decide) (by decide), by decide, by show 3 ≤ sizeLine; decide, ?_⟩
  exact h _ ⟨_, _, _, rfl, Int.emod_nonneg _ (by decide), Int.emod_lt_of_pos _ (by decide)⟩
theorem iteB {b : Bool} {A B : Prop} (h : b = true) (a : A) : if b = true then A else B := by rw [if_pos h]; exact a
theorem iteBF {b : Bool} {A B : Prop} (h : b = false) (a : B) : if b = true then A else B := by rw [if_neg (by rw [h]; exact Bool.false_ne_true)]; exact a
theorem at0 {x y z : Dt} : atI [x, y, z] 0 = some x := rfl
theorem at1 {x y z : Dt} : atI [x, y, z] 1 = some y := rfl
theorem at2 {x y z : Dt} : atI [x, y, z] 2 = some z := rfl
theorem keep_set {h : Nat} {st : Sto} {o x : SO} (e : st[h]? = some o) (hx : HandO x) : Keep h st (st.set h x) :=
  ⟨fun i y n q => get_set_ne q (Ne.symm n), x, get_set_self e, hx⟩
theorem rd__law_draw {ds : List Dt} {st : Sto} {Pd : VD} (h : spDraw ds st Pd) : t__law_draw (Ed Pd) (startD ["hand", "limit", "found"] ds) st := by
  obtain ⟨h, n, rfl, h0, h1, ⟨o, ho, a, b, c, rfl, b0, b1⟩, hP⟩ := h
  have hs : ∀ x, (st.set h x)[h]? = some x := fun x => get_set_self ho
  simp only [tseq, tasg, tret, tbin, tvar, tcon, gname, gsub, torB, tbool, tifS, tnext, tneg, rIxD, rMod, rMul, L3.rAdd, rDiv, rCmpI, seqOf, startD, List.map_cons, List.map_nil, List.length_cons, List.length_nil, List.cons_append, List.nil_append, List.replicate, List.set, List.getElem?_cons_zero, List.getElem?_cons_succ, Option.map_some, SO.items, ho, at0, at1, at2, hs, List.set_set,
    show ∀ x y z : Dt, ixN ([x, y, z].length) 0 = some 0 from fun _ _ _ => rfl, show ixN (0 + 1 + 1 + 1) 0 = some 0 from rfl, show ixN (0 + 1 + 1 + 1) 1 = some 1 from rfl, show ixN (0 + 1 + 1 + 1) 2 = some 2 from rfl]
  have upper : (0 < n ∧ CDiv c n ∧ Pd (Dt.int (c % n)) (st.set h (SO.rw [Dt.int a, Dt.int b, Dt.int (c / n)]))) :=
    ⟨h0, ⟨h0, h1⟩, hP _ _ (Int.emod_nonneg _ (by omega)) (Int.emod_lt_of_pos _ h0) (keep_set ho ⟨_, _, _, rfl, b0, b1⟩)⟩
  have hh : HandO (.rw [Dt.int (a + 1), .int ((b * b + 7 * (a + 1) + 11) % 1000000007), .int c]) := ⟨_, _, _, rfl, Int.emod_nonneg _ (by decide), Int.emod_lt_of_pos _ (by decide)⟩
  by_cases c1 : (1000 : Int) ≤ c
  · refine iteB (decide_eq_true c1) ?_
    rw [if_pos trivial]
    exact upper
  · refine iteBF (decide_eq_false c1) ?_
    by_cases c2 : c < -1000
    · refine iteB (decide_eq_true c2) ?_
      exact upper
    · refine iteBF (decide_eq_false c2) ?_
      exact ⟨.inl ⟨by omega, by omega⟩, cmul_l (by decide) (by decide), by decide, cdiv (by decide) (by decide), h0, hP _ _ (Int.emod_nonneg _ (by omega)) (Int.emod_lt_of_pos _ h0) (keep_set ho hh)⟩
end KH
namespace K01
open PySem L2 L3
noncomputable def wordsS : List Str := ["halt", "put", "add", "sub", "mul", "bad", "div", "get", "set", "jump", "when", "go", "tell", "hear", "right", "back"]
noncomputable def wordsD : List Dt := wordsS.map .str
noncomputable def wordOf (i : Int) : Str := wordsS.getD i.toNat ""
noncomputable def outD (n : Int) : Dt := .tup [.str (wordOf (n / 4096 % 16)), .int (n / 512 % 8), .int (n / 64 % 8), .int (n % 64)]
noncomputable def spSetOut : RDL := fun ds st P => ∃ n : Int, ds = [.int n] ∧ P (outD n) st
noncomputable def spNumberOf : RDL := fun ds st P => ∃ (k : Nat) (a b c : Int), k < 16 ∧ ds = [.tup [.str (wordOf k), .int a, .int b, .int c]] ∧ P (.int ((k : Int) * 4096 + a * 512 + b * 64 + c)) st
noncomputable def wholeD (t : String) : Bool := isT t "int" && !isT t "bool"
noncomputable def spWhole : RDL := fun ds st P => ∃ x t, ds = [x] ∧ tyN x = some t ∧ P (.bl (wholeD t)) st
noncomputable def spWords : RDL := fun ds st P => ds = [] ∧ ∀ st' n, ExtS st st' → st'[n]? = some (.rw wordsD) → P (.lst n) st'
noncomputable def spRight : RDL := fun ds st P => ∃ n : Int, ds = [.int n] ∧ 0 ≤ n ∧ n < 65536 ∧ ∀ st', ExtS st st' → P (.bl true) st'
end K01
namespace K01
open PySem PySem.Spec PyProof.Rows L2 L3
noncomputable abbrev t__law_words : TSD := (tseq (tasg (tlst (tacons (tcon (Dt.str (Str.ofString "halt"))) (tacons (tcon (Dt.str (Str.ofString "put"))) (tacons (tcon (Dt.str (Str.ofString "add"))) (tacons (tcon (Dt.str (Str.ofString "sub"))) (tacons (tcon (Dt.str (Str.ofString "mul"))) (tacons (tcon (Dt.str (Str.ofString "bad"))) (tacons (tcon (Dt.str (Str.ofString "div"))) (tacons (tcon (Dt.str (Str.ofString "get"))) tanil))))))))) (gname 0)) (tseq (tret (tbin L3.rAdd (tvar 0) (tlst (tacons (tcon (Dt.str (Str.ofString "set"))) (tacons (tcon (Dt.str (Str.ofString "jump"))) (tacons (tcon (Dt.str (Str.ofString "when"))) (tacons (tcon (Dt.str (Str.ofString "go"))) (tacons (tcon (Dt.str (Str.ofString "tell"))) (tacons (tcon (Dt.str (Str.ofString "hear"))) (tacons (tcon (Dt.str (Str.ofString "right"))) (tacons (tcon (Dt.str (Str.ofString "back"))) tanil))))))))))) tnext))
noncomputable abbrev t_law : TSD := (tseq (tfor (iseq (tbin L3.rAdd (tslice (tvar 0) tonone (tosome (tcon (Dt.int 63)))) (tlst (tacons (tcall rLen (tacons (tvar 0) tanil)) (tacons (tcon (Dt.int 65535)) (tacons (tcon (Dt.int 4095)) (tacons (tcon (Dt.int 4096)) tanil))))))) (gname 1) (tseq (tifS (tnotB (tbool (tcall spRight (tacons (tbin rMod (tvar 1) (tcon (Dt.int 65536))) tanil)))) (tseq (tret (tcon (Dt.bl false))) tnext) tnext) (tseq (tfor (ienum (tcall spWords tanil)) (gunpack 2 (gscons (gname 2) (gscons (gname 3) gsnil))) (tseq (tasg (ttup (tacons (tvar 3) (tacons (tbin rMod (tbin rDiv (tvar 1) (tcon (Dt.int 2))) (tcon (Dt.int 8))) (tacons (tbin rMod (tbin rDiv (tvar 1) (tcon (Dt.int 16))) (tcon (Dt.int 8))) (tacons (tbin rMod (tbin rDiv (tvar 1) (tcon (Dt.int 128))) (tcon (Dt.int 64))) tanil))))) (gname 4)) (tseq (tasg (tcall spNumberOf (tacons (tvar 4) tanil)) (gname 5)) (tseq (tifS (torB (tnotB (tbool (tcall spWhole (tacons (tvar 5) tanil)))) (tbool (tbin (rEqD true) (tvar 5) (tbin L3.rAdd (tbin rMul (tcon (Dt.int 64)) (tbin L3.rAdd (tbin L3.rAdd (tbin rMul (tcon (Dt.int 64)) (tvar 2)) (tbin rMul (tcon (Dt.int 8)) (tbin rIxD (tvar 4) (tcon (Dt.int 1))))) (tbin rIxD (tvar 4) (tcon (Dt.int 2))))) (tbin rIxD (tvar 4) (tcon (Dt.int 3))))))) (tseq (tret (tcon (Dt.bl false))) tnext) tnext) (tseq (tifS (tbool (tbin (rEqD true) (tcall spSetOut (tacons (tvar 5) tanil)) (tvar 4))) (tseq (tret (tcon (Dt.bl false))) tnext) tnext) tnext))))) tnext))) (tseq (tret (tcon (Dt.bl true))) tnext))
theorem word_at {i : Int} (h0 : 0 ≤ i) (h1 : i < 16) : atI wordsD i = some (.str (wordOf i)) := by
  obtain ⟨n, rfl⟩ : ∃ n : Nat, i = n := ⟨i.toNat, by omega⟩
  have hn : n < 16 := by omega
  have key : ∀ n : Nat, n < 16 → wordsS[n]? = some (wordsS.getD n "") := by decide +kernel
  refine atI_nat ?_
  show (wordsS.map Dt.str)[n]? = _
  rw [List.getElem?_map, key n hn]
  rfl
theorem read_words {ds : List Dt} {st : Sto} {Pd : VD} (h : spWords ds st Pd) : t__law_words (Ed Pd) (startD ["some"] ds) st := by
  obtain ⟨rfl, h⟩ := h
  refine ⟨by show 8 ≤ sizeLine; decide, by show 8 ≤ sizeLine; decide, ?_⟩
  simp only [tseq, tasg, tret, tbin, tvar, tcon, gname, tcall, tacons, tanil, ttup, tlst, tandV, torV, tnotV, tnotB, tandB, torB, tbool, tifS, tifE, tnext, tdrop, tfor, iseq, irng1, tslice, tonone, tosome, tappend, rLen, rTuple, seqOf, rIsInst, rIxD, rMod, rMul, L3.rAdd, rDiv, rEqD, rIsD, rCmpI, startD, tindex, gunpack, gscons, gsnil, ienum, List.map_cons, List.map_nil, List.length_cons, List.length_nil, List.cons_append, List.nil_append, List.replicate, List.set, List.getElem?_cons_zero, List.getElem?_cons_succ, Option.map_some, SO.items]
  rw [get_app (get_new (st := st)), get_new]
  refine ⟨by show 16 ≤ sizeLine; decide, h _ _ (((ExtS.app st _).trans (ExtS.app _ _)).trans (ExtS.app _ _)) get_new⟩
noncomputable def Shape (ρ : Rho) : Prop := ∃ a1 a2 a3 a4 a5, ρ = [some (.lst 0), a1, a2, a3, a4, a5]
theorem words_get {i : Nat} {d : Dt} (h : wordsD[i]? = some d) : i < 16 ∧ d = .str (wordOf i) := by
  have hi : i < 16 := lt_of_get h
  have := word_at (i := (i : Int)) (by omega) (by omega)
  have e : atI wordsD (i : Int) = some d := atI_nat h
  rw [this] at e
  exact ⟨hi, (Option.some.inj e).symm⟩
theorem out_of {i a b c : Int} (i0 : 0 ≤ i) (i1 : i < 16) (a0 : 0 ≤ a) (a1 : a < 8) (b0 : 0 ≤ b) (b1 : b < 8) (c0 : 0 ≤ c) (c1 : c < 64) : outD (64 * (64 * i + 8 * a + b) + c) = .tup [.str (wordOf i), .int a, .int b, .int c] := by
  unfold outD
  rw [show (64 * (64 * i + 8 * a + b) + c) / 4096 % 16 = i by omega, show (64 * (64 * i + 8 * a + b) + c) / 512 % 8 = a by omega, show (64 * (64 * i + 8 * a + b) + c) / 64 % 8 = b by omega, show (64 * (64 * i + 8 * a + b) + c) % 64 = c by omega]
theorem read_turn {E : EndsD} {c : Int} {a2 a3 a4 a5 : Option Dt} {st : Sto} {items : List Dt} (h3 : st[3]? = some (.rw items)) (hE : ∀ ρ' st', Shape ρ' → st'[3]? = some (.rw items) → E.nx ρ' st') :
    (tseq (tifS (tnotB (tbool (tcall spRight (tacons (tbin rMod (tvar 1) (tcon (Dt.int 65536))) tanil)))) (tseq (tret (tcon (Dt.bl false))) tnext) tnext) (tseq (tfor (ienum (tcall spWords tanil)) (gunpack 2 (gscons (gname 2) (gscons (gname 3) gsnil))) (tseq (tasg (ttup (tacons (tvar 3) (tacons (tbin rMod (tbin rDiv (tvar 1) (tcon (Dt.int 2))) (tcon (Dt.int 8))) (tacons (tbin rMod (tbin rDiv (tvar 1) (tcon (Dt.int 16))) (tcon (Dt.int 8))) (tacons (tbin rMod (tbin rDiv (tvar 1) (tcon (Dt.int 128))) (tcon (Dt.int 64))) tanil))))) (gname 4)) (tseq (tasg (tcall spNumberOf (tacons (tvar 4) tanil)) (gname 5)) (tseq (tifS (torB (tnotB (tbool (tcall spWhole (tacons (tvar 5) tanil)))) (tbool (tbin (rEqD true) (tvar 5) (tbin L3.rAdd (tbin rMul (tcon (Dt.int 64)) (tbin L3.rAdd (tbin L3.rAdd (tbin rMul (tcon (Dt.int 64)) (tvar 2)) (tbin rMul (tcon (Dt.int 8)) (tbin rIxD (tvar 4) (tcon (Dt.int 1))))) (tbin rIxD (tvar 4) (tcon (Dt.int 2))))) (tbin rIxD (tvar 4) (tcon (Dt.int 3))))))) (tseq (tret (tcon (Dt.bl false))) tnext) tnext) (tseq (tifS (tbool (tbin (rEqD true) (tcall spSetOut (tacons (tvar 5) tanil)) (tvar 4))) (tseq (tret (tcon (Dt.bl false))) tnext) tnext) tnext))))) tnext)) E [some (.lst 0), some (.int c), a2, a3, a4, a5] st := by
  refine ⟨by decide, c % 65536, rfl, by omega, by omega, fun st1 ext1 => iteF ?_⟩
  refine ⟨rfl, fun st2 m ext2 hm => ?_⟩
  simp only [hm, SO.items]
  refine ⟨fun j ρ st' => (∃ a2 a3 a4 a5, ρ = [some (.lst 0), some (.int c), a2, a3, a4, a5]) ∧ st' = st2, ⟨⟨_, _, _, _, rfl⟩, rfl⟩, fun _ _ _ _ h => by rw [h.2]; simp [hm, SO.items], ?_, ?_⟩
  · rintro i d ρ st' hd ⟨⟨a2, a3, a4, a5, rfl⟩, rfl⟩
    obtain ⟨w, hw, rfl⟩ := enum_get hd
    obtain ⟨hi, rfl⟩ := words_get hw
    rw [Nat.zero_add]
    refine ⟨rfl, ?_⟩
    refine ⟨cdiv (by decide) (by decide), by decide, cdiv (by decide) (by decide), by decide, cdiv (by decide) (by decide), by decide, by show 4 ≤ sizeLine; decide, ?_⟩
    refine ⟨i, c / 2 % 8, c / 16 % 8, c / 128 % 64, hi, rfl, ?_⟩
    refine ⟨_, "int", rfl, rfl, iteF ?_⟩
    refine ⟨cmul_l (by decide) (by decide), cmul_l (by decide) (by decide), cmul_l (by decide) (by decide), rfl, rfl, ?_⟩
    have e : (i : Int) * 4096 + c / 2 % 8 * 512 + c / 16 % 8 * 64 + c / 128 % 64 = 64 * (64 * (i : Int) + 8 * (c / 2 % 8) + c / 16 % 8) + c / 128 % 64 := by omega
    simp only [e, eqD, beq_self_eq_true, bne_true']
    refine iteF ?_
    refine ⟨_, rfl, rfl, rfl, ?_⟩
    have e2 : outD (64 * (64 * (i : Int) + 8 * (c / 2 % 8) + c / 16 % 8) + c / 128 % 64) = .tup [.str (wordOf i), .int (c / 2 % 8), .int (c / 16 % 8), .int (c / 128 % 64)] :=
      out_of (by omega) (by omega) (by omega) (by omega) (by omega) (by omega) (by omega) (by omega)
    rw [e2, eqD_self (by rfl)]
    exact iteF ⟨⟨_, _, _, _, rfl⟩, rfl⟩
  · rintro ρ st' ⟨⟨a2, a3, a4, a5, rfl⟩, rfl⟩
    exact hE _ _ ⟨_, _, _, _, _, rfl⟩ (ext2 _ _ (ext1 _ _ h3))
end K01
namespace KS
structure GoodS (rs cs : List Int) : Prop where
  pg : cs.length = 8 * rs.length
  le : cs.length ≤ 128
  rr : ∀ r ∈ rs, 0 ≤ r ∧ r < 8
  cc : ∀ c ∈ cs, 0 ≤ c ∧ c < 65536
end KS
namespace KS
open PySem L2 L3 KH
noncomputable def isD (l : List Int) : Dt := .tup (l.map .int)
noncomputable def spNumber : RDL := fun ds st P => ∃ h : Nat, ds = [.lst h] ∧ HandAt st h ∧ ∀ (v : Int) st', 0 ≤ v → v < 65536 → Keep h st st' → P (.int v) st'
noncomputable def Drawn (d0 d1 d2 d3 : Dt) (rs cs : List Int) : Prop := GoodS rs cs ∧ (∃ p : Int, d0 = .int p ∧ 0 ≤ p) ∧ (∃ bs : List Int, d1 = isD bs ∧ bs.length = 8 ∧ ∀ b ∈ bs, 0 ≤ b ∧ b < 65536) ∧ (∃ ms : List Bool, d2 = .tup (ms.map .bl) ∧ ms.length = 3) ∧ (d3 = .non ∨ ∃ (v : Int) (ms : List Bool), d3 = .tup [.int v, .tup (ms.map .bl)] ∧ 0 ≤ v ∧ v < 65536 ∧ ms.length = 3)
end KS
namespace K15
open PySem L2 L3 KH KS
end K15
namespace KS
open PySem PySem.Spec PyProof.Rows L2 L3 KH
noncomputable abbrev t__law_number : TSD := (tseq (tasg (tcall KH.spDraw (tacons (tvar 0) (tacons (tcon (Dt.int 5)) tanil))) (gname 1)) (tseq (tret (tbin L3.rAdd (tbin rIxD (tlst (tacons (tcon (Dt.int 0)) (tacons (tcon (Dt.int 0)) (tacons (tcon (Dt.int 0)) (tacons (tcon (Dt.int 65532)) (tacons (tcon (Dt.int 32766)) tanil)))))) (tvar 1)) (tcall KH.spDraw (tacons (tvar 0) (tacons (tbin rIxD (tlst (tacons (tcon (Dt.int 8)) (tacons (tcon (Dt.int 130)) (tacons (tcon (Dt.int 65536)) (tacons (tcon (Dt.int 4)) (tacons (tcon (Dt.int 4)) tanil)))))) (tvar 1)) tanil))))) tnext))
theorem pickAt {st : Sto} {m : Nat} {xs : List Dt} {v : Int} {d : Dt} {P : VD} (e : st[m]? = some (.rw xs)) (a : atI xs v = some d) (h : P d st) : rIxD (.lst m) (.int v) st P := by
  simp only [rIxD, seqOf, e, Option.map_some, SO.items, a]
  exact h
theorem pickS {st : Sto} {m : Nat} {xs : List Dt} {v : Int} {d : Dt} {P : VD} (e : seqOf st (.lst m) = some xs) (a : atI xs v = some d) (h : P d st) : rIxD (.lst m) (.int v) st P := by
  simp only [rIxD, e, a]
  exact h
theorem atI_of {xs : List Dt} {v : Int} (h0 : 0 ≤ v) (h1 : v < xs.length) : ∃ d, atI xs v = some d ∧ d ∈ xs ∧ xs[v.toNat]? = some d := by
  have hl : v.toNat < xs.length := by omega
  refine ⟨xs[v.toNat], ?_, List.getElem_mem hl, List.getElem?_eq_getElem hl⟩
  unfold atI ixN
  rw [if_pos h0, if_pos h1]
  exact List.getElem?_eq_getElem hl
theorem pick {st : Sto} {m : Nat} {xs : List Dt} {v : Int} {P : VD} (e : st[m]? = some (.rw xs)) (h0 : 0 ≤ v) (h1 : v < xs.length) (h : ∀ d ∈ xs, P d st) : rIxD (.lst m) (.int v) st P := by
  obtain ⟨d, a, hm, _⟩ := atI_of h0 h1
  exact pickAt e a (h d hm)
theorem pickT {st : Sto} {xs : List Dt} {v : Int} {P : VD} (h0 : 0 ≤ v) (h1 : v < xs.length) (h : ∀ d, xs[v.toNat]? = some d → P d st) : rIxD (.tup xs) (.int v) st P := by
  obtain ⟨d, a, _, q⟩ := atI_of h0 h1
  simp only [rIxD, seqOf, a]
  exact h d q
theorem pickTA {st : Sto} {xs : List Dt} {v : Int} {d : Dt} {P : VD} (a : atI xs v = some d) (h : P d st) : rIxD (.tup xs) (.int v) st P := by
  simp only [rIxD, seqOf, a]
  exact h
theorem ne_of_hand {h : Nat} {st : Sto} (a : HandAt st h) : st.length ≠ h := by
  obtain ⟨o, q, _⟩ := a
  have := lt_of_get q
  omega
theorem get_int {xs : List Int} {i : Nat} {d : Dt} (h : (xs.map Dt.int)[i]? = some d) : ∃ x, xs[i]? = some x ∧ d = .int x := by
  rw [List.getElem?_map] at h
  cases q : xs[i]? with
  | none => rw [q] at h; cases h
  | some y => rw [q] at h; exact ⟨y, rfl, (Option.some.inj h).symm⟩
theorem numF {h : Nat} {st s1 : Sto} {Pd : VD} {xs ys : List Dt} (lo n : Int) (hlo : 0 ≤ lo) (hn : 0 < n) (hn2 : n < 1073741824) (hs : lo + n ≤ 65536) (k1 : Keep h st s1) (hP : ∀ (v : Int) st', 0 ≤ v → v < 65536 → Keep h st st' → Pd (.int v) st') :
    spDraw [.lst h, .int n] (s1 ++ [.rw xs] ++ [.rw ys]) (fun d s2 => L3.rAdd (.int lo) d s2 Pd) :=
  ⟨h, n, rfl, hn, hn2, (k1.2.ext (.app _ _)).ext (.app _ _), fun w s2 w0 w1 k2 => hP _ _ (by omega) (by omega) (((k1.app _).app _).trans k2)⟩
theorem rd__law_number {ds : List Dt} {st : Sto} {Pd : VD} (h : spNumber ds st Pd) : t__law_number (Ed Pd) (startD ["hand", "style"] ds) st := by
  obtain ⟨h, rfl, ha, hP⟩ := h
  show t__law_number (Ed Pd) [some (.lst h), none] st
  simp only [t__law_number, if_true, if_false, Bool.false_eq_true, tseq, tasg, tret, tretN, tdrop, tbin, tvar, tcon, tcall, tcallK, tacons, tanil, tlst, ttup, gname, tnext, tneg, tbool, L3.rAdd, L3.rSub, rMul, rDiv, rMod, rCmpI, rEqD, List.map_cons, List.map_nil, List.length_cons, List.length_nil, List.cons_append, List.nil_append, List.set_cons_zero, List.set_cons_succ, List.getElem?_cons_zero, List.getElem?_cons_succ, tifS, tandB, torB, tnotB, tfor, irng1, irng2, tcomp, capρ, Option.join_some, tsliceA, tonone, tosome, rRepT]
  refine ⟨h, 5, rfl, by decide, by decide, ha, fun v s1 v0 v1 k1 => ?_⟩
  rcases (show v = 0 ∨ v = 1 ∨ v = 2 ∨ v = 3 ∨ v = 4 by omega) with rfl | rfl | rfl | rfl | rfl
  · exact ⟨by show 5 ≤ sizeLine; decide, pickAt get_new rfl ⟨by show 5 ≤ sizeLine; decide, pickAt get_new rfl (numF 0 8 (by decide) (by decide) (by decide) (by decide) k1 hP)⟩⟩
  · exact ⟨by show 5 ≤ sizeLine; decide, pickAt get_new rfl ⟨by show 5 ≤ sizeLine; decide, pickAt get_new rfl (numF 0 130 (by decide) (by decide) (by decide) (by decide) k1 hP)⟩⟩
  · exact ⟨by show 5 ≤ sizeLine; decide, pickAt get_new rfl ⟨by show 5 ≤ sizeLine; decide, pickAt get_new rfl (numF 0 65536 (by decide) (by decide) (by decide) (by decide) k1 hP)⟩⟩
  · exact ⟨by show 5 ≤ sizeLine; decide, pickAt get_new rfl ⟨by show 5 ≤ sizeLine; decide, pickAt get_new rfl (numF 65532 4 (by decide) (by decide) (by decide) (by decide) k1 hP)⟩⟩
  · exact ⟨by show 5 ≤ sizeLine; decide, pickAt get_new rfl ⟨by show 5 ≤ sizeLine; decide, pickAt get_new rfl (numF 32766 4 (by decide) (by decide) (by decide) (by decide) k1 hP)⟩⟩
theorem ixI {xs : List Int} {v : Int} {st : Sto} {P : VD} (h0 : 0 ≤ v) (h1 : v < xs.length) (h : P (.int (xs.getD v.toNat 0)) st) : rIxD (isD xs) (.int v) st P := by
  refine pickT h0 (by rw [List.length_map]; exact h1) fun d hd => ?_
  obtain ⟨x, hx, rfl⟩ := get_int hd
  rw [List.getD_eq_getElem?_getD, hx] at h
  exact h
theorem set_new {st : Sto} {x y : SO} : (st ++ [x]).set st.length y = st ++ [y] := by simp
theorem nums_comp {ρ : Rho} {st : Sto} {P : VD} {h j : Nat} (hρ : ρ[j]? = some (some (.lst h))) (ha : HandAt st h) (hP : ∀ (bs : List Int) st', bs.length = 8 → (∀ b ∈ bs, 0 ≤ b ∧ b < 65536) → Keep h st st' → P (isD bs) st') :
    (tcall rTuple (tacons (tcomp (irng1 (tcon (Dt.int 8))) (fun x st P => P true st) (tcall KS.spNumber (tacons (tvar 1) tanil)) [(j, "hand")]) tanil)) ρ st P := by
  simp only [tcall, tacons, tcomp, irng1, tcon, capρ, List.map_cons, List.map_nil, hρ, Option.join_some]
  refine ⟨by decide, by decide, ?_⟩
  refine ⟨fun i ys s => ∃ bs : List Int, ys = bs.map .int ∧ bs.length = i ∧ (∀ b ∈ bs, 0 ≤ b ∧ b < 65536) ∧ Keep h st s, ⟨[], rfl, rfl, by simp, .refl ha⟩, fun _ _ _ _ _ => trivial, ?_, ?_⟩
  · rintro i d ys s hd ⟨bs, rfl, hl, hb, k⟩
    obtain ⟨hi, rfl⟩ := range_get hd
    refine ⟨by rw [List.length_map, hl]; exact small (by have : i < 8 := hi; omega), ?_⟩
    refine iteT ?_
    refine ⟨h, rfl, k.2, fun v s1 v0 v1 k1 => ?_⟩
    refine ⟨bs ++ [v], by rw [List.map_append]; rfl, by simp [hl], fun b hb' => ?_, k.trans k1⟩
    rcases List.mem_append.mp hb' with q | q
    · exact hb b q
    · rw [List.mem_singleton.mp q]; exact ⟨v0, v1⟩
  · rintro ys s ⟨bs, rfl, hl, hb, k⟩
    simp only [rTuple, seqOf, get_new, Option.map_some, SO.items, tanil]
    exact hP bs _ hl hb (k.app _)
end KS
namespace KW
inductive Op2 | add | sub | mul | over | under | wide | rest
inductive Nd where
  | num (n : Int) | box (k : Nat) | mark (k : Nat) | item (i : Nat) | two (w : Op2) (x y : Nat) | nought (x : Nat) | high (x : Nat) | yes | no
inductive Vl where
  | n (i : Int) | b (k : Bool) | non
noncomputable def two (w : Op2) (x y : Int) : Vl := match w with
  | .add => .n ((x + y) % 65536)
  | .sub => .n ((x - y) % 65536)
  | .mul => .n (x * y % 65536)
  | .over => .b (decide (65536 ≤ x + y))
  | .under => .b (decide (x < y))
  | .wide => .b (decide (65536 ≤ x * y))
  | .rest => .b (decide (y ≠ 0) && decide (x % y ≠ 0))
noncomputable def worth (nd : Nd) (f : List Vl) (bx : List Int) (mk : List Bool) (br : List (Option Int)) : Vl := match nd with
  | .num n => .n n
  | .box k => .n (bx.getD k 0)
  | .mark k => .b (mk.getD k false)
  | .item i => (match br[i]? with
    | some (some v) => .n v
    | _ => .non)
  | .two w x y => (match f[x]?, f[y]? with
    | some (.n a), some (.n c) => two w a c
    | _, _ => .non)
  | .nought x => (match f[x]? with
    | some (.n a) => .b (decide (a = 0))
    | _ => .non)
  | .high x => (match f[x]? with
    | some (.n a) => .b (decide (32768 ≤ a))
    | _ => .non)
  | .yes => .b true
  | .no => .b false
noncomputable def go (bx : List Int) (mk : List Bool) (br : List (Option Int)) : List Vl → List Nd → List Vl
  | f, [] => f
  | f, nd :: r => go bx mk br (f ++ [worth nd f bx mk br]) r
noncomputable def worths (nds : List Nd) (bx : List Int) (mk : List Bool) (br : List (Option Int)) : List Vl := go bx mk br [] nds
theorem go_app (bx : List Int) (mk : List Bool) (br : List (Option Int)) : ∀ (a b : List Nd) (f : List Vl), go bx mk br f (a ++ b) = go bx mk br (go bx mk br f a) b
  | [], b, f => rfl
  | x :: a, b, f => by simp only [List.cons_append, go]; exact go_app bx mk br a b _
theorem go_len (bx : List Int) (mk : List Bool) (br : List (Option Int)) : ∀ (a : List Nd) (f : List Vl), (go bx mk br f a).length = f.length + a.length
  | [], f => rfl
  | x :: a, f => by simp only [go]; rw [go_len bx mk br a]; simp; omega
theorem worths_snoc (a : List Nd) (x : Nd) (bx : List Int) (mk : List Bool) (br : List (Option Int)) : worths (a ++ [x]) bx mk br = worths a bx mk br ++ [worth x (worths a bx mk br) bx mk br] := by
  unfold worths; rw [go_app]; rfl
theorem worths_len (a : List Nd) (bx : List Int) (mk : List Bool) (br : List (Option Int)) : (worths a bx mk br).length = a.length := by
  unfold worths; rw [go_len]; simp
theorem go_take (bx : List Int) (mk : List Bool) (br : List (Option Int)) : ∀ (a : List Nd) (f : List Vl), (go bx mk br f a).take f.length = f
  | [], f => by simp [go]
  | x :: a, f => by
    simp only [go]
    have := go_take bx mk br a (f ++ [worth x f bx mk br])
    have h2 : ((go bx mk br (f ++ [worth x f bx mk br]) a).take (f ++ [worth x f bx mk br]).length).take f.length = f := by rw [this]; simp
    rw [List.take_take] at h2
    rw [show min f.length (f ++ [worth x f bx mk br]).length = f.length by simp] at h2
    exact h2
theorem worths_take (a : List Nd) (c : Nat) (bx : List Int) (mk : List Bool) (br : List (Option Int)) : worths (a.take c) bx mk br = (worths a bx mk br).take c := by
  by_cases h : c ≤ a.length
  · have e : worths a bx mk br = go bx mk br (worths (a.take c) bx mk br) (a.drop c) := by
      unfold worths; rw [← go_app, List.take_append_drop]
    have l : (worths (a.take c) bx mk br).length = c := by rw [worths_len]; simp; omega
    rw [e]
    conv => rhs; arg 1; rw [← l]
    rw [go_take]
  · rw [List.take_of_length_le (by omega), List.take_of_length_le (by rw [worths_len]; omega)]
noncomputable def OkN (ss : List Nat) (m : Nat) (nd : Nd) (s : Nat) : Prop := match nd with
  | .num n => 0 ≤ n ∧ n < 65536 ∧ s = 0
  | .box k => k < 8 ∧ s = 0
  | .mark k => k < 3 ∧ s = 1
  | .item i => i < m ∧ s = 0
  | .two w x y => ss[x]? = some 0 ∧ ss[y]? = some 0 ∧ s = (match w with | .add => 0 | .sub => 0 | .mul => 0 | _ => 1)
  | .nought x => ss[x]? = some 0 ∧ s = 1
  | .high x => ss[x]? = some 0 ∧ s = 1
  | .yes => s = 1
  | .no => s = 1
inductive OkT (m : Nat) : List Nd → List Nat → Prop
  | nil : OkT m [] []
  | snoc {a : List Nd} {ss : List Nat} {x : Nd} {s : Nat} : OkT m a ss → OkN ss m x s → OkT m (a ++ [x]) (ss ++ [s])
theorem OkT.len {m : Nat} {a : List Nd} {ss : List Nat} (h : OkT m a ss) : a.length = ss.length := by
  induction h with
  | nil => rfl
  | snoc _ _ ih => simp [ih]
theorem OkT.take {m : Nat} {a : List Nd} {ss : List Nat} (h : OkT m a ss) : ∀ i, OkT m (a.take i) (ss.take i) := by
  induction h with
  | nil => intro i; simpa using OkT.nil
  | @snoc a ss x s h o ih =>
    intro i
    have hl := h.len
    by_cases hi : i ≤ a.length
    · rw [List.take_append_of_le_length hi, List.take_append_of_le_length (by omega)]; exact ih i
    · rw [List.take_of_length_le (by simp; omega), List.take_of_length_le (by simp; omega)]; exact .snoc h o
theorem OkT.at_ {m : Nat} {a : List Nd} {ss : List Nat} (h : OkT m a ss) : ∀ {i : Nat} (hi : i < a.length), ∃ s, OkN (ss.take i) m a[i] s := by
  induction h with
  | nil => intro i hi; simp at hi
  | @snoc a ss x s h o ih =>
    intro i hi
    have hl := h.len
    by_cases h2 : i < a.length
    · rw [List.getElem_append_left h2, List.take_append_of_le_length (by omega)]
      exact ih h2
    · have e : i = a.length := by simp at hi; omega
      subst e
      have e1 : (a ++ [x])[a.length]'hi = x := by simp
      have e2 : (ss ++ [s]).take a.length = ss := by rw [hl]; simp
      rw [e1, e2]
      exact ⟨s, o⟩
noncomputable def IsS (s : Nat) (v : Vl) : Prop := match v with
  | .n i => s = 0 ∧ 0 ≤ i ∧ i < 65536
  | .b _ => s = 1
  | .non => False
noncomputable def IsSN (s : Nat) (v : Vl) : Prop := v = .non ∨ IsS s v
structure Env (bx : List Int) (mk : List Bool) (br : List (Option Int)) : Prop where
  b8 : ∀ i, 0 ≤ bx.getD i 0 ∧ bx.getD i 0 < 65536
  br : ∀ (i : Nat) v, br[i]? = some (some v) → 0 ≤ v ∧ v < 65536
noncomputable def Sorted (ss : List Nat) (f : List Vl) : Prop := f.length = ss.length ∧ ∀ (i : Nat) v s, f[i]? = some v → ss[i]? = some s → IsSN s v
theorem two_sort (w : Op2) (x y : Int) : IsS (match w with | .add => 0 | .sub => 0 | .mul => 0 | _ => 1) (two w x y) := by
  cases w <;> simp only [two, IsS] <;> first | rfl | (refine ⟨trivial, ?_, ?_⟩ <;> omega)
theorem get_snoc' {α : Type} {l : List α} {x y : α} {i : Nat} (e : (l ++ [x])[i]? = some y) : (i < l.length ∧ l[i]? = some y) ∨ (i = l.length ∧ y = x) := by
  by_cases h : i < l.length
  · rw [List.getElem?_append_left h] at e; exact .inl ⟨h, e⟩
  · rw [List.getElem?_append_right (by omega)] at e
    by_cases h2 : i = l.length
    · subst h2; simp at e; exact .inr ⟨rfl, e.symm⟩
    · rw [List.getElem?_eq_none (by simp; omega)] at e; cases e
theorem worth_sort {ss : List Nat} {m : Nat} {x : Nd} {s : Nat} {f : List Vl} {bx : List Int} {mk : List Bool} {br : List (Option Int)} (g : Env bx mk br) (o : OkN ss m x s) (hf : Sorted ss f) : IsSN s (worth x f bx mk br) := by
  cases x with
  | num n => exact .inr ⟨o.2.2, o.1, o.2.1⟩
  | box k => exact .inr ⟨o.2, g.b8 k⟩
  | mark k => exact .inr o.2
  | item i =>
    simp only [worth]
    split
    · rename_i v e; exact .inr ⟨o.2, g.br i v e⟩
    · exact .inl rfl
  | two w x y =>
    simp only [worth]
    split
    · rename_i a c e1 e2; right; rw [o.2.2]; exact two_sort w a c
    · exact .inl rfl
  | nought x =>
    simp only [worth]
    split
    · exact .inr o.2
    · exact .inl rfl
  | high x =>
    simp only [worth]
    split
    · exact .inr o.2
    · exact .inl rfl
  | yes => exact .inr o
  | no => exact .inr o
theorem sorted_of {m : Nat} {a : List Nd} {ss : List Nat} {bx : List Int} {mk : List Bool} {br : List (Option Int)} (g : Env bx mk br) (h : OkT m a ss) : Sorted ss (worths a bx mk br) := by
  induction h with
  | nil => exact ⟨rfl, fun i v s e => by simp [worths, go] at e⟩
  | @snoc a ss x s h o ih =>
    rw [worths_snoc]
    refine ⟨by simp [ih.1], fun i v s' e1 e2 => ?_⟩
    rcases get_snoc' e1 with ⟨hi, e1⟩ | ⟨hi, e1⟩
    · rcases get_snoc' e2 with ⟨_, e2⟩ | ⟨hj, _⟩
      · exact ih.2 i v s' e1 e2
      · have := ih.1; omega
    · rcases get_snoc' e2 with ⟨hj, _⟩ | ⟨_, e2⟩
      · have := ih.1; omega
      · subst e1 e2; exact worth_sort g o ih
theorem full_of {m : Nat} {a : List Nd} {ss : List Nat} {bx : List Int} {mk : List Bool} {br : List (Option Int)} (g : Env bx mk br) (hb : ∀ i, i < m → ∃ v, br[i]? = some (some v)) (h : OkT m a ss) :
    ∀ v ∈ worths a bx mk br, v ≠ .non := by
  induction h with
  | nil => intro v hv; simp [worths, go] at hv
  | @snoc a ss x s h o ih =>
    intro v hv
    rw [worths_snoc] at hv
    rcases List.mem_append.mp hv with hv | hv
    · exact ih v hv
    · have S := sorted_of g h
      have num : ∀ i, ss[i]? = some 0 → ∃ c : Int, (worths a bx mk br)[i]? = some (Vl.n c) := fun i e => by
        have hi : i < ss.length := (List.getElem?_eq_some_iff.mp e).1
        have hi' : i < (worths a bx mk br).length := by rw [S.1]; exact hi
        have e2 : (worths a bx mk br)[i]? = some (worths a bx mk br)[i] := by simp [hi']
        have hne := ih _ (List.getElem_mem hi')
        rcases S.2 i _ 0 e2 e with h0 | h0
        · exact absurd h0 hne
        · cases q : (worths a bx mk br)[i] with
          | n c => exact ⟨c, by rw [e2, q]⟩
          | b k => rw [q] at h0; exact absurd h0 (by simp [IsS])
          | non => rw [q] at h0; exact h0.elim
      simp only [List.mem_singleton] at hv
      subst hv
      cases x with
      | num n => simp [worth]
      | box k => simp [worth]
      | mark k => simp [worth]
      | item i => obtain ⟨v, e⟩ := hb i o.1; simp [worth, e]
      | two w x y =>
        obtain ⟨c, e1⟩ := num x o.1
        obtain ⟨d, e2⟩ := num y o.2.1
        simp only [worth, e1, e2]
        cases w <;> simp [two]
      | nought x => obtain ⟨c, e⟩ := num x o.1; simp [worth, e]
      | high x => obtain ⟨c, e⟩ := num x o.1; simp [worth, e]
      | yes => simp [worth]
      | no => simp [worth]
noncomputable def Less (f g : List Vl) : Prop := f.length = g.length ∧ ∀ (i : Nat) v w, f[i]? = some v → g[i]? = some w → v = .non ∨ v = w
theorem less_of {a : List Nd} {bx : List Int} {mk : List Bool} {br br' : List (Option Int)} (hb : ∀ (i : Nat) v, br'[i]? = some (some v) → br[i]? = some (some v)) : Less (worths a bx mk br') (worths a bx mk br) := by
  suffices key : ∀ (r : List Nd) (f g : List Vl), Less f g → Less (go bx mk br' f r) (go bx mk br g r) from key a [] [] ⟨rfl, fun i v w e => by simp at e⟩
  intro r
  induction r with
  | nil => intro f g h; exact h
  | cons x r ih =>
    intro f g h
    refine ih _ _ ⟨by simp [h.1], fun i v w e1 e2 => ?_⟩
    rcases get_snoc' e1 with ⟨hi, e1⟩ | ⟨hi, e1⟩
    · rcases get_snoc' e2 with ⟨_, e2⟩ | ⟨hj, _⟩
      · exact h.2 i v w e1 e2
      · have := h.1; omega
    · rcases get_snoc' e2 with ⟨hj, _⟩ | ⟨_, e2⟩
      · have := h.1; omega
      · subst e1 e2
        have num : ∀ (i : Nat) c, f[i]? = some (.n c) → g[i]? = some (.n c) := fun i c e => by
          have hi : i < f.length := (List.getElem?_eq_some_iff.mp e).1
          have hi' : i < g.length := by rw [← h.1]; exact hi
          have e2 : g[i]? = some g[i] := by simp [hi']
          rcases h.2 i _ _ e e2 with z | z
          · cases z
          · rw [e2, ← z]
        cases x with
        | num n => exact .inr rfl
        | box k => exact .inr rfl
        | mark k => exact .inr rfl
        | item i =>
          simp only [worth]
          split
          · rename_i v e; right; rw [hb i v e]
          · exact .inl rfl
        | two w x y =>
          simp only [worth]
          split
          · rename_i c d e1 e2; right; rw [num x c e1, num y d e2]
          · exact .inl rfl
        | nought x =>
          simp only [worth]
          split
          · rename_i c e; right; rw [num x c e]
          · exact .inl rfl
        | high x =>
          simp only [worth]
          split
          · rename_i c e; right; rw [num x c e]
          · exact .inl rfl
        | yes => exact .inr rfl
        | no => exact .inr rfl
noncomputable def fixed (nd : Nd) (v : Vl) : Nd := match nd, v with
  | .box _, .n i => .num i
  | .item _, .n i => .num i
  | .mark _, .b true => .yes
  | .mark _, .b false => .no
  | nd, _ => nd
noncomputable def fixAll (a : List Nd) (f : List Vl) : List Nd := List.zipWith fixed a f
theorem fix_of {m : Nat} {a : List Nd} {ss : List Nat} {bx bx' : List Int} {mk mk' : List Bool} {br br' : List (Option Int)} (g : Env bx mk br) (hb : ∀ i, i < m → ∃ v, br[i]? = some (some v)) (h : OkT m a ss) :
    worths (fixAll a (worths a bx mk br)) bx' mk' br' = worths a bx mk br := by
  induction h with
  | nil => rfl
  | @snoc a ss x s h o ih =>
    have e : fixAll (a ++ [x]) (worths (a ++ [x]) bx mk br) = fixAll a (worths a bx mk br) ++ [fixed x (worth x (worths a bx mk br) bx mk br)] := by
      rw [worths_snoc]; unfold fixAll; rw [List.zipWith_append (by rw [worths_len])]; rfl
    rw [e, worths_snoc, worths_snoc, ih]
    congr 2
    cases x with
    | num n => rfl
    | box k => rfl
    | mark k => simp only [worth, fixed]; cases mk.getD k false <;> rfl
    | item i => obtain ⟨v, e⟩ := hb i o.1; simp only [worth, fixed, e]
    | two w x y =>
      have : fixed (.two w x y) (worth (.two w x y) (worths a bx mk br) bx mk br) = .two w x y := by unfold fixed; split <;> first | rfl | contradiction
      rw [this]; rfl
    | nought x =>
      have : fixed (.nought x) (worth (.nought x) (worths a bx mk br) bx mk br) = .nought x := by unfold fixed; split <;> first | rfl | contradiction
      rw [this]; rfl
    | high x =>
      have : fixed (.high x) (worth (.high x) (worths a bx mk br) bx mk br) = .high x := by unfold fixed; split <;> first | rfl | contradiction
      rw [this]; rfl
    | yes => rfl
    | no => rfl
noncomputable def moved (k : Nat) : Nd → Nd
  | .two w x y => .two w (x + k) (y + k)
  | .nought x => .nought (x + k)
  | .high x => .high (x + k)
  | nd => nd
theorem move_of (bx : List Int) (mk : List Bool) (br : List (Option Int)) (f : List Vl) : ∀ (r : List Nd) (g : List Vl), go bx mk br (f ++ g) (r.map (moved f.length)) = f ++ go bx mk br g r
  | [], g => rfl
  | x :: r, g => by
    simp only [List.map_cons, go]
    have at_ : ∀ i : Nat, (f ++ g)[i + f.length]? = g[i]? := fun i => by rw [List.getElem?_append_right (by omega)]; congr 1; omega
    have e : worth (moved f.length x) (f ++ g) bx mk br = worth x g bx mk br := by
      cases x <;> simp only [moved, worth, at_]
    rw [e, List.append_assoc]
    exact move_of bx mk br f r _
theorem both_of (a b : List Nd) (bx : List Int) (mk : List Bool) (br : List (Option Int)) : worths (a ++ b.map (moved a.length)) bx mk br = worths a bx mk br ++ worths b bx mk br := by
  unfold worths
  rw [go_app]
  have l : (go bx mk br [] a).length = a.length := by rw [go_len]; simp
  have := move_of bx mk br (go bx mk br [] a) b []
  rw [List.append_nil, l] at this
  exact this
end KW
namespace K20
open PySem L2 L3 KH KW
noncomputable def nm : Op2 → Str
  | .add => "add" | .sub => "sub" | .mul => "mul" | .over => "over" | .under => "under" | .wide => "wide" | .rest => "rest"
noncomputable def nD : Nd → Dt
  | .num n => .tup [.str "num", .int n]
  | .box k => .tup [.str "box", .int k]
  | .mark k => .tup [.str "mark", .int k]
  | .item i => .tup [.str "item", .int i]
  | .two w x y => .tup [.str (nm w), .int x, .int y]
  | .nought x => .tup [.str "nought", .int x]
  | .high x => .tup [.str "high", .int x]
  | .yes => .tup [.str "yes"]
  | .no => .tup [.str "no"]
noncomputable def vD : Vl → Dt
  | .n i => .int i
  | .b k => .bl k
  | .non => .non
noncomputable def oD : Option Int → Dt
  | some i => .int i
  | none => .non
noncomputable def tab (a : List Nd) : Dt := .tup (a.map nD)
noncomputable def bxD (b : List Int) : Dt := .tup (b.map .int)
noncomputable def mkD (b : List Bool) : Dt := .tup (b.map .bl)
noncomputable def Has (st : Sto) (n : Nat) (xs : List Dt) : Prop := ∃ o, st[n]? = some o ∧ o.items = xs
theorem Has.ext {st st' : Sto} {n : Nat} {xs : List Dt} (h : Has st n xs) (e : ExtS st st') : Has st' n xs := by
  obtain ⟨o, a, b⟩ := h; exact ⟨o, e _ _ a, b⟩
noncomputable def spPlain : RDL := fun ds st P => ∃ (w : Op2) (x y : Int), ds = [.str (nm w), .int x, .int y] ∧ (w = .add ∨ w = .sub ∨ w = .mul) ∧ 0 ≤ x ∧ x < 65536 ∧ P (.int (match w with | .add => x + y | .sub => x - y | _ => x * y)) st
noncomputable def spMade : RDL := fun ds st P => ∃ (w : Str) (n : Nat), ds = [.str w, .lst n] ∧
  ((w = "yes" ∧ P (.bl true) st) ∨ (w = "no" ∧ P (.bl false) st) ∨ (∃ x : Int, Has st n [.int x] ∧ ((w = "nought" ∧ P (.bl (decide (x = 0))) st) ∨ (w = "high" ∧ P (.bl (decide (32768 ≤ x))) st))) ∨
   ∃ (o : Op2) (x y : Int), w = nm o ∧ Has st n [.int x, .int y] ∧ 0 ≤ x ∧ x < 65536 ∧ 0 ≤ y ∧ y < 65536 ∧ P (vD (two o x y)) st)
noncomputable def Sorts (ss : List Nat) : List Dt := ss.map fun (s : Nat) => Dt.int (s : Int)
noncomputable def spWorth : RDL := fun ds st P => ∃ (m : Nat) (ss : List Nat) (s : Nat) (nd : Nd) (f : Nat) (vs : List Vl) (bx : List Int) (mk : List Bool) (b : Nat) (br : List (Option Int)), ds = [nD nd, .lst f, bxD bx, mkD mk, .lst b] ∧ Has st f (vs.map vD) ∧ Has st b (br.map oD) ∧
  OkN ss m nd s ∧ Sorted ss vs ∧ bx.length = 8 ∧ mk.length = 3 ∧ vs.length < 1000 ∧ br.length < 1000 ∧ ∀ st', ExtS st st' → P (vD (worth nd vs bx mk br)) st'
noncomputable def spWorths : RDL := fun ds st P => ∃ (m : Nat) (a : List Nd) (ss : List Nat) (bx : List Int) (mk : List Bool) (b : Nat) (br : List (Option Int)), ds = [tab a, bxD bx, mkD mk, .lst b] ∧ Has st b (br.map oD) ∧ OkT m a ss ∧ Env bx mk br ∧ bx.length = 8 ∧ mk.length = 3 ∧ a.length < 500 ∧ br.length < 500 ∧
  ∀ st' r, ExtS st st' → st.length ≤ r → st'[r]? = some (.rw ((worths a bx mk br).map vD)) → P (.lst r) st'
noncomputable def spLeaf : RDL := fun ds st P => ∃ (h i m : Nat), ds = [.lst h, .lst i] ∧ HandAt st h ∧ h ≠ i ∧ Has st i (rangeD 0 m) ∧ 0 < m ∧ m < 100 ∧ ∀ nd s st', (∀ ss, OkN ss m nd s) → Keep h st st' → P (.tup [nD nd, .int s]) st'
noncomputable def spNode : RDL := fun ds st P => ∃ (h o i m : Nat) (ss : List Nat), ds = [.lst h, .lst o, .lst i] ∧ HandAt st h ∧ h ≠ o ∧ h ≠ i ∧ Has st o (Sorts ss) ∧ ss.length < 500 ∧ Has st i (rangeD 0 m) ∧ 0 < m ∧ m < 100 ∧ ∀ nd s st', OkN ss m nd s → Keep h st st' → P (.tup [nD nd, .int s]) st'
noncomputable def spMoved : RDL := fun ds st P => ∃ (nd : Nd) (k : Nat), ds = [nD nd, .int k] ∧ ∀ st', ExtS st st' → P (nD (moved k nd)) st'
noncomputable def spFixed : RDL := fun ds st P => ∃ (nd : Nd) (v : Vl), ds = [nD nd, vD v] ∧ (∀ k, nd = .mark k → ∃ b, v = .b b) ∧ (∀ k, nd = .box k → ∃ i, v = .n i) ∧ (∀ k, nd = .item k → ∃ i, v = .n i) ∧ ∀ st', ExtS st st' → P (nD (fixed nd v)) st'
end K20
namespace K20
open PySem PySem.Spec PyProof.Rows L2 L3 KH KS KW
noncomputable abbrev t_plain_outcome : TSD := (tseq (tifS (tbool (tbin (rEqD false) (tvar 0) (tcon (Dt.str (Str.ofString "add"))))) (tseq (tret (tbin L3.rAdd (tvar 1) (tvar 2))) tnext) tnext) (tseq (tifS (tbool (tbin (rEqD false) (tvar 0) (tcon (Dt.str (Str.ofString "sub"))))) (tseq (tret (tbin L3.rSub (tvar 1) (tvar 2))) tnext) tnext) (tseq (tret (tbin rMul (tvar 1) (tvar 2))) tnext)))
noncomputable abbrev t_made_of : TSD := (tseq (tifS (tbool (tbin (rInD false) (tvar 0) (ttup (tacons (tcon (Dt.str (Str.ofString "yes"))) (tacons (tcon (Dt.str (Str.ofString "no"))) tanil))))) (tseq (tret (tbin (rEqD false) (tvar 0) (tcon (Dt.str (Str.ofString "yes"))))) tnext) tnext) (tseq (tasg (tbin rIxD (tvar 1) (tcon (Dt.int 0))) (gname 2)) (tseq (tifS (tbool (tbin (rEqD false) (tvar 0) (tcon (Dt.str (Str.ofString "nought"))))) (tseq (tret (tbin (rEqD false) (tvar 2) (tcon (Dt.int 0)))) tnext) tnext) (tseq (tifS (tbool (tbin (rEqD false) (tvar 0) (tcon (Dt.str (Str.ofString "high"))))) (tseq (tret (tbin (rCmpI fun i j => decide (j ≤ i)) (tvar 2) (tcon (Dt.int 32768)))) tnext) tnext) (tseq (tasg (tbin rIxD (tvar 1) (tcon (Dt.int 1))) (gname 3)) (tseq (tifS (tbool (tbin (rEqD false) (tvar 0) (tcon (Dt.str (Str.ofString "over"))))) (tseq (tret (tbin (rCmpI fun i j => decide (j ≤ i)) (tbin L3.rAdd (tvar 2) (tvar 3)) (tcon (Dt.int 65536)))) tnext) tnext) (tseq (tifS (tbool (tbin (rEqD false) (tvar 0) (tcon (Dt.str (Str.ofString "under"))))) (tseq (tret (tbin (rCmpI fun i j => decide (i < j)) (tvar 2) (tvar 3))) tnext) tnext) (tseq (tifS (tbool (tbin (rEqD false) (tvar 0) (tcon (Dt.str (Str.ofString "wide"))))) (tseq (tret (tbin (rCmpI fun i j => decide (j ≤ i)) (tbin rMul (tvar 2) (tvar 3)) (tcon (Dt.int 65536)))) tnext) tnext) (tseq (tifS (tbool (tbin (rEqD false) (tvar 0) (tcon (Dt.str (Str.ofString "rest"))))) (tseq (tret (tandV (tbin (rEqD true) (tvar 3) (tcon (Dt.int 0))) (tbin (rEqD true) (tbin rMod (tvar 2) (tvar 3)) (tcon (Dt.int 0))))) tnext) tnext) (tseq (tret (tbin rMod (tcall spPlain (tacons (tvar 0) (tacons (tvar 2) (tacons (tvar 3) tanil)))) (tcon (Dt.int 65536)))) tnext))))))))))
noncomputable abbrev t_worth : TSD := (tseq (tasg (tbin rIxD (tvar 0) (tcon (Dt.int 0))) (gname 5)) (tseq (tifS (tbool (tbin (rEqD false) (tvar 5) (tcon (Dt.str (Str.ofString "num"))))) (tseq (tret (tbin rIxD (tvar 0) (tcon (Dt.int 1)))) tnext) tnext) (tseq (tifS (tbool (tbin (rEqD false) (tvar 5) (tcon (Dt.str (Str.ofString "box"))))) (tseq (tret (tbin rIxD (tvar 2) (tbin rIxD (tvar 0) (tcon (Dt.int 1))))) tnext) tnext) (tseq (tifS (tbool (tbin (rEqD false) (tvar 5) (tcon (Dt.str (Str.ofString "mark"))))) (tseq (tret (tbin rIxD (tvar 3) (tbin rIxD (tvar 0) (tcon (Dt.int 1))))) tnext) tnext) (tseq (tifS (tbool (tbin (rEqD false) (tvar 5) (tcon (Dt.str (Str.ofString "item"))))) (tseq (tret (tifE (tbool (tbin (rCmpI fun i j => decide (i < j)) (tbin rIxD (tvar 0) (tcon (Dt.int 1))) (tcall rLen (tacons (tvar 4) tanil)))) (tbin rIxD (tvar 4) (tbin rIxD (tvar 0) (tcon (Dt.int 1)))) (tcon Dt.non))) tnext) tnext) (tseq (tasg (tcomp (iseq (tcall K19.spUnder (tacons (tvar 0) tanil))) (fun x st P => P true st) (tbin rIxD (tvar 1) (tvar 0)) [(1, "before")]) (gname 6)) (tseq (tret (tifE (tbool (tbin (rInD false) (tcon Dt.non) (tvar 6))) (tcon Dt.non) (tcall spMade (tacons (tvar 5) (tacons (tvar 6) tanil))))) tnext)))))))
noncomputable abbrev t_worths : TSD := (tseq (tasg (tlst tanil) (gname 4)) (tseq (tfor (iseq (tvar 0)) (gname 5) (tseq (tdrop (tappend (tvar 4) (tcall spWorth (tacons (tvar 5) (tacons (tvar 4) (tacons (tvar 1) (tacons (tvar 2) (tacons (tvar 3) tanil)))))))) tnext)) (tseq (tret (tvar 4)) tnext)))
noncomputable abbrev t__law_leaf : TSD := (tseq (tasg (tcall KH.spDraw (tacons (tvar 0) (tacons (tcon (Dt.int 9)) tanil))) (gname 2)) (tseq (tifS (tbool (tbin (rCmpI fun i j => decide (i < j)) (tvar 2) (tcon (Dt.int 3)))) (tseq (tret (ttup (tacons (ttup (tacons (tcon (Dt.str (Str.ofString "num"))) (tacons (tcall KS.spNumber (tacons (tvar 0) tanil)) tanil))) (tacons (tcon (Dt.int 0)) tanil)))) tnext) tnext) (tseq (tifS (tbool (tbin (rCmpI fun i j => decide (i < j)) (tvar 2) (tcon (Dt.int 5)))) (tseq (tret (ttup (tacons (ttup (tacons (tcon (Dt.str (Str.ofString "box"))) (tacons (tcall KH.spDraw (tacons (tvar 0) (tacons (tcon (Dt.int 8)) tanil))) tanil))) (tacons (tcon (Dt.int 0)) tanil)))) tnext) tnext) (tseq (tifS (tandB (tbool (tbin (rEqD false) (tvar 2) (tcon (Dt.int 5)))) (tbool (tbin (rCmpI fun i j => decide (j < i)) (tcall rLen (tacons (tvar 1) tanil)) (tcon (Dt.int 0))))) (tseq (tret (ttup (tacons (ttup (tacons (tcon (Dt.str (Str.ofString "item"))) (tacons (tbin rIxD (tvar 1) (tcall KH.spDraw (tacons (tvar 0) (tacons (tcall rLen (tacons (tvar 1) tanil)) tanil)))) tanil))) (tacons (tcon (Dt.int 0)) tanil)))) tnext) tnext) (tseq (tifS (tbool (tbin (rEqD false) (tvar 2) (tcon (Dt.int 6)))) (tseq (tret (ttup (tacons (ttup (tacons (tcon (Dt.str (Str.ofString "mark"))) (tacons (tcall KH.spDraw (tacons (tvar 0) (tacons (tcon (Dt.int 3)) tanil))) tanil))) (tacons (tcon (Dt.int 1)) tanil)))) tnext) tnext) (tseq (tret (tbin rIxD (tlst (tacons (ttup (tacons (ttup (tacons (tcon (Dt.str (Str.ofString "num"))) (tacons (tcall KH.spDraw (tacons (tvar 0) (tacons (tcon (Dt.int 3)) tanil))) tanil))) (tacons (tcon (Dt.int 0)) tanil))) (tacons (ttup (tacons (ttup (tacons (tcon (Dt.str (Str.ofString "yes"))) tanil)) (tacons (tcon (Dt.int 1)) tanil))) (tacons (ttup (tacons (ttup (tacons (tcon (Dt.str (Str.ofString "no"))) tanil)) (tacons (tcon (Dt.int 1)) tanil))) tanil)))) (tcall KH.spDraw (tacons (tvar 0) (tacons (tcon (Dt.int 3)) tanil))))) tnext))))))
noncomputable abbrev t__law_node : TSD := (tseq (tasg (tcomp (irng1 (tcall rLen (tacons (tvar 1) tanil))) (tbool (tbin (rEqD false) (tbin rIxD (tvar 1) (tvar 0)) (tcon (Dt.int 0)))) (tvar 0) [(1, "sorts")]) (gname 3)) (tseq (tasg (tcall KH.spDraw (tacons (tvar 0) (tacons (tcon (Dt.int 14)) tanil))) (gname 4)) (tseq (tifS (torB (tbool (tbin (rEqD false) (tvar 3) (tlst tanil))) (tbool (tbin (rCmpI fun i j => decide (i < j)) (tvar 4) (tcon (Dt.int 3))))) (tseq (tret (tcall spLeaf (tacons (tvar 0) (tacons (tvar 2) tanil)))) tnext) tnext) (tseq (tasg (tbin rIxD (tvar 3) (tcall KH.spDraw (tacons (tvar 0) (tacons (tcall rLen (tacons (tvar 3) tanil)) tanil)))) (gname 5)) (tseq (tasg (tbin rIxD (tvar 3) (tbin rIxD (tlst (tacons (tcall KH.spDraw (tacons (tvar 0) (tacons (tcall rLen (tacons (tvar 3) tanil)) tanil))) (tacons (tbin L3.rSub (tcall rLen (tacons (tvar 3) tanil)) (tcon (Dt.int 1))) tanil))) (tcall KH.spDraw (tacons (tvar 0) (tacons (tcon (Dt.int 2)) tanil))))) (gname 6)) (tseq (tifS (tbool (tbin (rCmpI fun i j => decide (i < j)) (tvar 4) (tcon (Dt.int 9)))) (tseq (tret (ttup (tacons (ttup (tacons (tbin rIxD (tlst (tacons (tcon (Dt.str (Str.ofString "add"))) (tacons (tcon (Dt.str (Str.ofString "sub"))) (tacons (tcon (Dt.str (Str.ofString "mul"))) tanil)))) (tbin rMod (tvar 4) (tcon (Dt.int 3)))) (tacons (tvar 5) (tacons (tvar 6) tanil)))) (tacons (tcon (Dt.int 0)) tanil)))) tnext) tnext) (tseq (tifS (tbool (tbin (rCmpI fun i j => decide (i < j)) (tvar 4) (tcon (Dt.int 11)))) (tseq (tret (ttup (tacons (ttup (tacons (tbin rIxD (tlst (tacons (tcon (Dt.str (Str.ofString "nought"))) (tacons (tcon (Dt.str (Str.ofString "high"))) tanil))) (tbin rMod (tvar 4) (tcon (Dt.int 2)))) (tacons (tvar 5) tanil))) (tacons (tcon (Dt.int 1)) tanil)))) tnext) tnext) (tseq (tret (ttup (tacons (ttup (tacons (tbin rIxD (tlst (tacons (tcon (Dt.str (Str.ofString "over"))) (tacons (tcon (Dt.str (Str.ofString "under"))) (tacons (tcon (Dt.str (Str.ofString "wide"))) (tacons (tcon (Dt.str (Str.ofString "rest"))) tanil))))) (tcall KH.spDraw (tacons (tvar 0) (tacons (tcon (Dt.int 4)) tanil)))) (tacons (tvar 5) (tacons (tvar 6) tanil)))) (tacons (tcon (Dt.int 1)) tanil)))) tnext))))))))
theorem seq_has {st : Sto} {n : Nat} {xs : List Dt} (h : Has st n xs) : seqOf st (.lst n) = some xs := by
  obtain ⟨o, a, b⟩ := h
  show (st[n]?).map SO.items = _
  rw [a, ← b]; rfl
theorem rd_plain_outcome {ds : List Dt} {st : Sto} {Pd : VD} (h : spPlain ds st Pd) : t_plain_outcome (Ed Pd) (startD ["word", "x", "y"] ds) st := by
  obtain ⟨w, x, y, rfl, hw, x0, x1, hP⟩ := h
  rcases hw with rfl | rfl | rfl
  · refine ⟨rfl, rfl, iteB (by decide +kernel) hP⟩
  · refine ⟨rfl, rfl, iteBF (by decide +kernel) ?_⟩
    exact ⟨rfl, rfl, iteB (by decide +kernel) hP⟩
  · refine ⟨rfl, rfl, iteBF (by decide +kernel) ?_⟩
    refine ⟨rfl, rfl, iteBF (by decide +kernel) ?_⟩
    exact ⟨cmul_l x0 (by omega), hP⟩
noncomputable def mtail1 : TSD := (tseq (tasg (tbin rIxD (tvar 1) (tcon (Dt.int 0))) (gname 2)) (tseq (tifS (tbool (tbin (rEqD false) (tvar 0) (tcon (Dt.str (Str.ofString "nought"))))) (tseq (tret (tbin (rEqD false) (tvar 2) (tcon (Dt.int 0)))) tnext) tnext) (tseq (tifS (tbool (tbin (rEqD false) (tvar 0) (tcon (Dt.str (Str.ofString "high"))))) (tseq (tret (tbin (rCmpI fun i j => decide (j ≤ i)) (tvar 2) (tcon (Dt.int 32768)))) tnext) tnext) (tseq (tasg (tbin rIxD (tvar 1) (tcon (Dt.int 1))) (gname 3)) (tseq (tifS (tbool (tbin (rEqD false) (tvar 0) (tcon (Dt.str (Str.ofString "over"))))) (tseq (tret (tbin (rCmpI fun i j => decide (j ≤ i)) (tbin L3.rAdd (tvar 2) (tvar 3)) (tcon (Dt.int 65536)))) tnext) tnext) (tseq (tifS (tbool (tbin (rEqD false) (tvar 0) (tcon (Dt.str (Str.ofString "under"))))) (tseq (tret (tbin (rCmpI fun i j => decide (i < j)) (tvar 2) (tvar 3))) tnext) tnext) (tseq (tifS (tbool (tbin (rEqD false) (tvar 0) (tcon (Dt.str (Str.ofString "wide"))))) (tseq (tret (tbin (rCmpI fun i j => decide (j ≤ i)) (tbin rMul (tvar 2) (tvar 3)) (tcon (Dt.int 65536)))) tnext) tnext) (tseq (tifS (tbool (tbin (rEqD false) (tvar 0) (tcon (Dt.str (Str.ofString "rest"))))) (tseq (tret (tandV (tbin (rEqD true) (tvar 3) (tcon (Dt.int 0))) (tbin (rEqD true) (tbin rMod (tvar 2) (tvar 3)) (tcon (Dt.int 0))))) tnext) tnext) (tseq (tret (tbin rMod (tcall spPlain (tacons (tvar 0) (tacons (tvar 2) (tacons (tvar 3) tanil)))) (tcon (Dt.int 65536)))) tnext)))))))))
theorem made_1 {E : EndsD} {st : Sto} {w : Str} {n : Nat} {a3 : Option Dt} {x : Int} {r : List Dt} (hx : Has st n (.int x :: r)) (h : (w = "nought" ∧ E.rt (.bl (decide (x = 0))) st) ∨ (w = "high" ∧ E.rt (.bl (decide (32768 ≤ x))) st)) :
    mtail1 E [some (.str w), some (.lst n), none, a3] st := by
  simp only [mtail1, tseq, tasg, tbin, tvar, tcon, gname, List.getElem?_cons_zero, List.getElem?_cons_succ, List.set_cons_zero, List.set_cons_succ]
  refine pickS (seq_has hx) (d := .int x) (by simp [atI, ixN]) ?_
  rcases h with ⟨rfl, h⟩ | ⟨rfl, h⟩
  · refine ⟨rfl, rfl, iteB (by decide +kernel) ?_⟩
    refine ⟨rfl, rfl, ?_⟩
    have e : (eqD 8 (Dt.int x) (Dt.int 0) != false) = decide (x = 0) := by
      rw [bne_false']
      rfl
    show E.rt (.bl (eqD 8 (Dt.int x) (Dt.int 0) != false)) st
    rw [e]; exact h
  · refine ⟨rfl, rfl, iteBF (by decide +kernel) ?_⟩
    refine ⟨rfl, rfl, iteB (by decide +kernel) ?_⟩
    exact h
theorem made_2 {E : EndsD} {st : Sto} {o : Op2} {n : Nat} {a3 : Option Dt} {x y : Int} (hx : Has st n [.int x, .int y]) (x0 : 0 ≤ x) (x1 : x < 65536) (y0 : 0 ≤ y) (y1 : y < 65536) (h : E.rt (vD (two o x y)) st) :
    mtail1 E [some (.str (nm o)), some (.lst n), none, a3] st := by
  simp only [mtail1, tseq, tasg, tbin, tvar, tcon, gname, List.getElem?_cons_zero, List.getElem?_cons_succ, List.set_cons_zero, List.set_cons_succ]
  refine pickS (seq_has hx) (d := .int x) rfl ?_
  have n1 : (eqD 8 (Dt.str (nm o)) (Dt.str "nought") != false) = false := by cases o <;> decide +kernel
  have n2 : (eqD 8 (Dt.str (nm o)) (Dt.str "high") != false) = false := by cases o <;> decide +kernel
  refine ⟨rfl, rfl, iteBF n1 ?_⟩
  refine ⟨rfl, rfl, iteBF n2 ?_⟩
  refine pickS (seq_has hx) (d := .int y) rfl ?_
  cases o with
  | add =>
    refine ⟨rfl, rfl, iteBF (by decide +kernel) ?_⟩
    refine ⟨rfl, rfl, iteBF (by decide +kernel) ?_⟩
    refine ⟨rfl, rfl, iteBF (by decide +kernel) ?_⟩
    refine ⟨rfl, rfl, iteBF (by decide +kernel) ?_⟩
    exact ⟨.add, x, y, rfl, .inl rfl, x0, x1, by decide, h⟩
  | sub =>
    refine ⟨rfl, rfl, iteBF (by decide +kernel) ?_⟩
    refine ⟨rfl, rfl, iteBF (by decide +kernel) ?_⟩
    refine ⟨rfl, rfl, iteBF (by decide +kernel) ?_⟩
    refine ⟨rfl, rfl, iteBF (by decide +kernel) ?_⟩
    exact ⟨.sub, x, y, rfl, .inr (.inl rfl), x0, x1, by decide, h⟩
  | mul =>
    refine ⟨rfl, rfl, iteBF (by decide +kernel) ?_⟩
    refine ⟨rfl, rfl, iteBF (by decide +kernel) ?_⟩
    refine ⟨rfl, rfl, iteBF (by decide +kernel) ?_⟩
    refine ⟨rfl, rfl, iteBF (by decide +kernel) ?_⟩
    exact ⟨.mul, x, y, rfl, .inr (.inr rfl), x0, x1, by decide, h⟩
  | over => exact ⟨rfl, rfl, iteB (by decide +kernel) h⟩
  | under =>
    refine ⟨rfl, rfl, iteBF (by decide +kernel) ?_⟩
    exact ⟨rfl, rfl, iteB (by decide +kernel) h⟩
  | wide =>
    refine ⟨rfl, rfl, iteBF (by decide +kernel) ?_⟩
    refine ⟨rfl, rfl, iteBF (by decide +kernel) ?_⟩
    exact ⟨rfl, rfl, iteB (by decide +kernel) ⟨cmul_l x0 (by omega), h⟩⟩
  | rest =>
    refine ⟨rfl, rfl, iteBF (by decide +kernel) ?_⟩
    refine ⟨rfl, rfl, iteBF (by decide +kernel) ?_⟩
    refine ⟨rfl, rfl, iteBF (by decide +kernel) ?_⟩
    refine ⟨rfl, rfl, iteB (by decide +kernel) ?_⟩
    refine ⟨rfl, rfl, ?_⟩
    by_cases hy : y = 0
    · subst hy
      exact h
    · have e : (eqD 8 (Dt.int y) (Dt.int 0) != true) = true := by
        show ((y == 0) != true) = true
        rw [beq_eq_false_iff_ne.mpr hy]; rfl
      rw [e]
      refine ⟨by omega, rfl, rfl, ?_⟩
      have e2 : (eqD 8 (Dt.int (x % y)) (Dt.int 0) != true) = (decide (y ≠ 0) && decide (x % y ≠ 0)) := by
        rw [decide_eq_true hy, Bool.true_and]
        show ((x % y == 0) != true) = _
        by_cases hr : x % y = 0
        · rw [hr]; rfl
        · rw [beq_eq_false_iff_ne.mpr hr, decide_eq_true hr]; rfl
      rw [e2]
      exact h
theorem rd_made_of {ds : List Dt} {st : Sto} {Pd : VD} (h : spMade ds st Pd) : t_made_of (Ed Pd) (startD ["word", "named", "x", "y"] ds) st := by
  obtain ⟨w, n, rfl, h⟩ := h
  refine ⟨by show 2 ≤ sizeLine; decide, rfl, by decide, ?_⟩
  rcases h with ⟨rfl, h⟩ | ⟨rfl, h⟩ | ⟨x, hx, h⟩ | ⟨o, x, y, rfl, hx, x0, x1, y0, y1, h⟩
  · exact iteB (by decide +kernel) ⟨rfl, rfl, h⟩
  · exact iteB (by decide +kernel) ⟨rfl, rfl, h⟩
  · refine iteBF (by rcases h with ⟨rfl, _⟩ | ⟨rfl, _⟩ <;> decide +kernel) ?_
    exact made_1 (E := Ed Pd) hx h
  · refine iteBF (by cases o <;> decide +kernel) ?_
    exact made_2 (E := Ed Pd) hx x0 x1 y0 y1 h
noncomputable def wtail5 : TSD := (tseq (tasg (tcomp (iseq (tcall K19.spUnder (tacons (tvar 0) tanil))) (fun x st P => P true st) (tbin rIxD (tvar 1) (tvar 0)) [(1, "before")]) (gname 6)) (tseq (tret (tifE (tbool (tbin (rInD false) (tcon Dt.non) (tvar 6))) (tcon Dt.non) (tcall spMade (tacons (tvar 5) (tacons (tvar 6) tanil))))) tnext))
noncomputable def wtail1 : TSD := (tseq (tifS (tbool (tbin (rEqD false) (tvar 5) (tcon (Dt.str (Str.ofString "num"))))) (tseq (tret (tbin rIxD (tvar 0) (tcon (Dt.int 1)))) tnext) tnext) (tseq (tifS (tbool (tbin (rEqD false) (tvar 5) (tcon (Dt.str (Str.ofString "box"))))) (tseq (tret (tbin rIxD (tvar 2) (tbin rIxD (tvar 0) (tcon (Dt.int 1))))) tnext) tnext) (tseq (tifS (tbool (tbin (rEqD false) (tvar 5) (tcon (Dt.str (Str.ofString "mark"))))) (tseq (tret (tbin rIxD (tvar 3) (tbin rIxD (tvar 0) (tcon (Dt.int 1))))) tnext) tnext) (tseq (tifS (tbool (tbin (rEqD false) (tvar 5) (tcon (Dt.str (Str.ofString "item"))))) (tseq (tret (tifE (tbool (tbin (rCmpI fun i j => decide (i < j)) (tbin rIxD (tvar 0) (tcon (Dt.int 1))) (tcall rLen (tacons (tvar 4) tanil)))) (tbin rIxD (tvar 4) (tbin rIxD (tvar 0) (tcon (Dt.int 1)))) (tcon Dt.non))) tnext) tnext) (tseq (tasg (tcomp (iseq (tcall K19.spUnder (tacons (tvar 0) tanil))) (fun x st P => P true st) (tbin rIxD (tvar 1) (tvar 0)) [(1, "before")]) (gname 6)) (tseq (tret (tifE (tbool (tbin (rInD false) (tcon Dt.non) (tvar 6))) (tcon Dt.non) (tcall spMade (tacons (tvar 5) (tacons (tvar 6) tanil))))) tnext))))))
theorem nmS : ∀ o : Op2, K19.namS.contains (nm o) = true := by intro o; cases o <;> decide +kernel
theorem vflat : ∀ v : Vl, okD 0 (vD v) = true := by intro v; cases v <;> rfl
theorem isnon : ∀ v : Vl, eqD 0 (vD v) .non = (match v with | .non => true | _ => false) := by intro v; cases v <;> rfl
theorem worth_named {E : EndsD} {st : Sto} {w : Str} {ns : List Dt} {is : List Nat} {f : Nat} {vs : List Vl} {bx : Dt} {mk : Dt} {b : Dt} {a6 : Option Dt} (hu : K19.underD w ns = is.map (fun i : Nat => Dt.int (i : Int))) (hf : Has st f (vs.map vD)) (hl : ∀ i ∈ is, i < vs.length) (hil : is.length < 100)
    (h : (tseq (tret (tifE (tbool (tbin (rInD false) (tcon Dt.non) (tvar 6))) (tcon Dt.non) (tcall spMade (tacons (tvar 5) (tacons (tvar 6) tanil))))) tnext) E [some (.tup (.str w :: ns)), some (.lst f), some bx, some mk, some b, some (.str w), some (.lst st.length)] (st ++ [.rw (is.map fun i => vD (vs.getD i .non))])) :
    wtail5 E [some (.tup (.str w :: ns)), some (.lst f), some bx, some mk, some b, some (.str w), a6] st := by
  refine ⟨w, ns, rfl, ?_⟩
  rw [hu]
  refine ⟨fun j ys s' => ys = (is.take j).map (fun i => vD (vs.getD i .non)) ∧ s' = st, ⟨rfl, rfl⟩, fun _ _ _ _ _ => rfl, ?_, ?_⟩
  · rintro i d ys s' hd ⟨rfl, rfl⟩
    have hi := lt_of_get hd
    rw [List.length_map] at hi
    have hil2 : (is.take i).length ≤ is.length := List.length_take_le' i is
    refine ⟨by rw [List.length_map]; exact small (by omega), iteT ?_⟩
    rw [List.getElem?_map] at hd
    have e1 : is[i]? = some is[i] := List.getElem?_eq_getElem hi
    rw [e1] at hd
    have e2 : d = .int ((is[i] : Nat) : Int) := (Option.some.inj hd).symm
    subst e2
    have hv := hl _ (List.getElem_mem hi)
    obtain ⟨d, ha, _, hg⟩ := atI_of (xs := vs.map vD) (v := ((is[i] : Nat) : Int)) (by omega) (by rw [List.length_map]; omega)
    simp only [tbin, tvar, capρ, List.map_cons, List.map_nil, List.getElem?_cons_zero, List.getElem?_cons_succ, Option.join_some]
    refine pickS (seq_has hf) ha ⟨?_, rfl⟩
    rw [List.take_add_one, e1, List.map_append]
    congr 1
    rw [Int.toNat_natCast, List.getElem?_map, List.getElem?_eq_getElem hv] at hg
    have hg : d = vD vs[is[i]] := (Option.some.inj hg).symm
    rw [hg]
    show [vD vs[is[i]]] = [vD (vs.getD is[i] .non)]
    rw [List.getD_eq_getElem?_getD, List.getElem?_eq_getElem hv]
    rfl
  · rintro ys s' ⟨rfl, rfl⟩
    rw [List.length_map, List.take_length]
    exact h
theorem worth_made {E : EndsD} {st : Sto} {w : Str} {ns : List Dt} {f n : Nat} {bx mk b : Dt} {us : List Vl} (hn : Has st n (us.map vD))
    (hN : (∃ u ∈ us, u = .non) → E.rt .non st) (hM : (∀ u ∈ us, u ≠ .non) → spMade [.str w, .lst n] st E.rt) :
    (tseq (tret (tifE (tbool (tbin (rInD false) (tcon Dt.non) (tvar 6))) (tcon Dt.non) (tcall spMade (tacons (tvar 5) (tacons (tvar 6) tanil))))) tnext) E [some (.tup (.str w :: ns)), some (.lst f), some bx, some mk, some b, some (.str w), some (.lst n)] st := by
  simp only [tseq, tret, tifE, tbool, tbin, tcon, tvar, tcall, tacons, tanil, List.getElem?_cons_zero, List.getElem?_cons_succ]
  show (match seqOf st (.lst n) with | some xs => _ | none => _)
  rw [seq_has hn]
  have hall : (us.map vD).all (okD 0) = true := by
    rw [List.all_map]
    exact List.all_eq_true.mpr fun x _ => vflat x
  refine ⟨rfl, hall, ?_⟩
  have e : ((us.map vD).any (fun z => eqD 0 z .non) != false) = us.any (fun v => match v with | .non => true | _ => false) := by
    rw [bne_false', List.any_map]
    congr 1
    funext v
    exact isnon v
  rw [e]
  cases h : us.any (fun v => match v with | .non => true | _ => false) with
  | true =>
    refine iteT (hN ?_)
    obtain ⟨u, hu, q⟩ := List.any_eq_true.mp h
    refine ⟨u, hu, ?_⟩
    cases u with
    | non => rfl
    | n i => cases q
    | b k => cases q
  | false =>
    refine iteF (hM fun u hu q => ?_)
    subst q
    have := List.any_eq_false.mp h .non hu
    exact this rfl
theorem step_ne {s t : Str} {A R : TSD} {E : EndsD} {ρ : Rho} {st : Sto} (h5 : ρ[5]? = some (some (.str s))) (hne : (s == t) = false) (h : R E ρ st) : (tseq (tifS (tbool (tbin (rEqD false) (tvar 5) (tcon (Dt.str t)))) A tnext) R) E ρ st := by
  simp only [tseq, tifS, tbool, tbin, tvar, tcon, h5]
  refine ⟨rfl, rfl, iteBF ?_ h⟩
  show ((s == t) != false) = false
  rw [hne]; rfl
theorem step_eq {s : Str} {A R : TSD} {E : EndsD} {ρ : Rho} {st : Sto} (h5 : ρ[5]? = some (some (.str s))) (h : A { E with nx := R E } ρ st) : (tseq (tifS (tbool (tbin (rEqD false) (tvar 5) (tcon (Dt.str s)))) A tnext) R) E ρ st := by
  simp only [tseq, tifS, tbool, tbin, tvar, tcon, h5]
  refine ⟨rfl, rfl, iteB ?_ h⟩
  show ((s == s) != false) = true
  rw [beq_self_eq_true]; rfl
theorem at0c {d : Dt} {ns : List Dt} : atI (d :: ns) 0 = some d := by simp [atI, ixN]
theorem at1c {d e : Dt} {ns : List Dt} : atI (d :: e :: ns) 1 = some e := by
  have h : ixN (d :: e :: ns).length 1 = some 1 := by unfold ixN; rw [if_pos (by decide), if_pos (by simp; omega)]; rfl
  unfold atI; rw [h]; rfl
theorem num_at {ss : List Nat} {vs : List Vl} (S : Sorted ss vs) {x : Nat} (h : ss[x]? = some 0) : x < vs.length ∧ (vs.getD x .non = .non ∧ (vs[x]? = some .non) ∨ ∃ i : Int, vs.getD x .non = .n i ∧ vs[x]? = some (.n i) ∧ 0 ≤ i ∧ i < 65536) := by
  have hx : x < vs.length := by rw [S.1]; exact lt_of_get h
  have e : vs[x]? = some vs[x] := List.getElem?_eq_getElem hx
  have e2 : vs.getD x .non = vs[x] := by rw [List.getD_eq_getElem?_getD, e]; rfl
  refine ⟨hx, ?_⟩
  rw [e2, e]
  rcases S.2 x _ 0 e h with q | q
  · exact .inl ⟨q, by rw [q]⟩
  · cases hv : vs[x] with
    | n i => rw [hv] at q; exact .inr ⟨i, rfl, rfl, q.2.1, q.2.2⟩
    | b k => rw [hv] at q; exact absurd q (by simp [IsS])
    | non => rw [hv] at q; exact q.elim
theorem rd_worth {ds : List Dt} {st : Sto} {Pd : VD} (h : spWorth ds st Pd) : t_worth (Ed Pd) (startD ["node", "before", "boxes", "marks", "brought", "word", "named"] ds) st := by
  obtain ⟨m, ss, s, nd, f, vs, bx, mk, b, br, rfl, hf, hb, ok, S, h8, h3, hv, hr, hP⟩ := h
  have start : ∀ (w : Str) (ns : List Dt), nD nd = .tup (.str w :: ns) → (∀ R : TSD, R = R → True) → True := fun _ _ _ _ => trivial
  cases nd with
  | num n =>
    show wtail1 (Ed Pd) [some (.tup [.str "num", .int n]), some (.lst f), some (bxD bx), some (mkD mk), some (.lst b), some (.str "num"), none] st
    unfold wtail1
    refine step_eq (s := "num") rfl ?_
    exact hP st (.refl _)
  | box k =>
    show wtail1 (Ed Pd) [some (.tup [.str "box", .int k]), some (.lst f), some (bxD bx), some (mkD mk), some (.lst b), some (.str "box"), none] st
    unfold wtail1
    refine step_ne (s := "box") rfl (by decide +kernel) ?_
    refine step_eq (s := "box") rfl ?_
    show rIxD (isD bx) (.int k) st Pd
    refine ixI (xs := bx) (by omega) (by have := ok.1; omega) ?_
    rw [Int.toNat_natCast]
    exact hP _ (.refl _)
  | mark k =>
    show wtail1 (Ed Pd) [some (.tup [.str "mark", .int k]), some (.lst f), some (bxD bx), some (mkD mk), some (.lst b), some (.str "mark"), none] st
    unfold wtail1
    refine step_ne (s := "mark") rfl (by decide +kernel) ?_
    refine step_ne (s := "mark") rfl (by decide +kernel) ?_
    refine step_eq (s := "mark") rfl ?_
    show rIxD (.tup (mk.map .bl)) (.int k) st Pd
    refine pickT (xs := mk.map .bl) (by omega) (by rw [List.length_map]; have := ok.1; omega) fun d hd => ?_
    rw [Int.toNat_natCast, List.getElem?_map] at hd
    have hk : k < mk.length := by have := ok.1; omega
    rw [List.getElem?_eq_getElem hk] at hd
    have hd : d = .bl mk[k] := (Option.some.inj hd).symm
    subst hd
    have := hP st (.refl _)
    simp only [worth, vD, List.getD_eq_getElem?_getD, List.getElem?_eq_getElem hk] at this
    exact this
  | item i =>
    show wtail1 (Ed Pd) [some (.tup [.str "item", .int i]), some (.lst f), some (bxD bx), some (mkD mk), some (.lst b), some (.str "item"), none] st
    unfold wtail1
    refine step_ne (s := "item") rfl (by decide +kernel) ?_
    refine step_ne (s := "item") rfl (by decide +kernel) ?_
    refine step_ne (s := "item") rfl (by decide +kernel) ?_
    refine step_eq (s := "item") rfl ?_
    show (match seqOf st (.lst b) with | some xs => _ | none => _)
    rw [seq_has hb]
    by_cases hi : i < br.length
    · refine iteB (decide_eq_true (by rw [List.length_map]; omega)) ?_
      show rIxD (.lst b) (.int i) st Pd
      obtain ⟨d, ha, _, hg⟩ := atI_of (xs := br.map oD) (v := (i : Int)) (by omega) (by rw [List.length_map]; omega)
      refine pickS (seq_has hb) ha ?_
      rw [Int.toNat_natCast, List.getElem?_map, List.getElem?_eq_getElem hi] at hg
      have hg : d = oD br[i] := (Option.some.inj hg).symm
      subst hg
      have := hP st (.refl _)
      simp only [worth, List.getElem?_eq_getElem hi] at this
      cases q : br[i] with
      | none => rw [q] at this; exact this
      | some v => rw [q] at this; exact this
    · refine iteBF (decide_eq_false (by rw [List.length_map]; omega)) ?_
      have := hP st (.refl _)
      simp only [worth, List.getElem?_eq_none (Nat.le_of_not_lt hi)] at this
      exact this
  | two w x y =>
    show wtail1 (Ed Pd) [some (.tup [.str (nm w), .int x, .int y]), some (.lst f), some (bxD bx), some (mkD mk), some (.lst b), some (.str (nm w)), none] st
    unfold wtail1
    refine step_ne (s := nm w) rfl (by cases w <;> decide +kernel) ?_
    refine step_ne (s := nm w) rfl (by cases w <;> decide +kernel) ?_
    refine step_ne (s := nm w) rfl (by cases w <;> decide +kernel) ?_
    refine step_ne (s := nm w) rfl (by cases w <;> decide +kernel) ?_
    obtain ⟨hx, qx⟩ := num_at S ok.1
    obtain ⟨hy, qy⟩ := num_at S ok.2.1
    refine worth_named (E := Ed Pd) (w := nm w) (ns := [.int x, .int y]) (is := [x, y]) (if_pos (nmS w)) hf (by intro i hi; simp at hi; rcases hi with rfl | rfl <;> assumption) (by show 2 < 100; decide) ?_
    refine worth_made (us := [vs.getD x .non, vs.getD y .non]) ⟨_, get_new, rfl⟩ ?_ ?_
    · rintro ⟨u, hu, rfl⟩
      have e : worth (.two w x y) vs bx mk br = .non := by
        simp only [List.mem_cons, List.not_mem_nil, or_false] at hu
        rcases hu with hu | hu
        · rcases qx with ⟨_, q⟩ | ⟨i, q, _⟩
          · simp only [worth, q]
          · rw [q] at hu; cases hu
        · rcases qy with ⟨_, q⟩ | ⟨i, q, _⟩
          · simp only [worth]
            rw [q]
            cases vs[x]? with
            | none => rfl
            | some v => cases v <;> rfl
          · rw [q] at hu; cases hu
      have := hP (st ++ [.rw (List.map (fun i => vD (vs.getD i .non)) [x, y])]) (.app _ _)
      rw [e] at this
      exact this
    · intro hne
      rcases qx with ⟨q, _⟩ | ⟨i, q1, q2, i0, i1⟩
      · exact absurd q (hne _ (by simp))
      rcases qy with ⟨q, _⟩ | ⟨j, q3, q4, j0, j1⟩
      · exact absurd q (hne _ (by simp))
      refine ⟨_, _, rfl, .inr (.inr (.inr ⟨w, i, j, rfl, ⟨_, get_new, ?_⟩, i0, i1, j0, j1, ?_⟩))⟩
      · show [vD (vs.getD x .non), vD (vs.getD y .non)] = _
        rw [q1, q3]; rfl
      · have e : worth (.two w x y) vs bx mk br = two w i j := by simp only [worth, q2, q4]
        rw [← e]
        exact hP _ (.app _ _)
  | nought x =>
    show wtail1 (Ed Pd) [some (.tup [.str "nought", .int x]), some (.lst f), some (bxD bx), some (mkD mk), some (.lst b), some (.str "nought"), none] st
    unfold wtail1
    refine step_ne (s := "nought") rfl (by decide +kernel) ?_
    refine step_ne (s := "nought") rfl (by decide +kernel) ?_
    refine step_ne (s := "nought") rfl (by decide +kernel) ?_
    refine step_ne (s := "nought") rfl (by decide +kernel) ?_
    obtain ⟨hx, qx⟩ := num_at S ok.1
    refine worth_named (E := Ed Pd) (w := "nought") (ns := [.int x]) (is := [x]) (if_pos (by decide +kernel)) hf (by intro i hi; simp at hi; rw [hi]; exact hx) (by show 1 < 100; decide) ?_
    refine worth_made (us := [vs.getD x .non]) ⟨_, get_new, rfl⟩ ?_ ?_
    · rintro ⟨u, hu, rfl⟩
      simp only [List.mem_cons, List.not_mem_nil, or_false] at hu
      rcases qx with ⟨_, q⟩ | ⟨i, q, _⟩
      · have e : worth (.nought x) vs bx mk br = .non := by simp only [worth, q]
        have := hP (st ++ [.rw (List.map (fun i => vD (vs.getD i .non)) [x])]) (.app _ _)
        rw [e] at this
        exact this
      · rw [q] at hu; cases hu
    · intro hne
      rcases qx with ⟨q, _⟩ | ⟨i, q1, q2, i0, i1⟩
      · exact absurd q (hne _ (by simp))
      refine ⟨_, _, rfl, .inr (.inr (.inl ⟨i, ⟨_, get_new, ?_⟩, .inl ⟨rfl, ?_⟩⟩))⟩
      · show [vD (vs.getD x .non)] = _
        rw [q1]; rfl
      · have e : worth (.nought x) vs bx mk br = .b (decide (i = 0)) := by simp only [worth, q2]
        have := hP (st ++ [.rw (List.map (fun i => vD (vs.getD i .non)) [x])]) (.app _ _)
        rw [e] at this
        exact this
  | high x =>
    show wtail1 (Ed Pd) [some (.tup [.str "high", .int x]), some (.lst f), some (bxD bx), some (mkD mk), some (.lst b), some (.str "high"), none] st
    unfold wtail1
    refine step_ne (s := "high") rfl (by decide +kernel) ?_
    refine step_ne (s := "high") rfl (by decide +kernel) ?_
    refine step_ne (s := "high") rfl (by decide +kernel) ?_
    refine step_ne (s := "high") rfl (by decide +kernel) ?_
    obtain ⟨hx, qx⟩ := num_at S ok.1
    refine worth_named (E := Ed Pd) (w := "high") (ns := [.int x]) (is := [x]) (if_pos (by decide +kernel)) hf (by intro i hi; simp at hi; rw [hi]; exact hx) (by show 1 < 100; decide) ?_
    refine worth_made (us := [vs.getD x .non]) ⟨_, get_new, rfl⟩ ?_ ?_
    · rintro ⟨u, hu, rfl⟩
      simp only [List.mem_cons, List.not_mem_nil, or_false] at hu
      rcases qx with ⟨_, q⟩ | ⟨i, q, _⟩
      · have e : worth (.high x) vs bx mk br = .non := by simp only [worth, q]
        have := hP (st ++ [.rw (List.map (fun i => vD (vs.getD i .non)) [x])]) (.app _ _)
        rw [e] at this
        exact this
      · rw [q] at hu; cases hu
    · intro hne
      rcases qx with ⟨q, _⟩ | ⟨i, q1, q2, i0, i1⟩
      · exact absurd q (hne _ (by simp))
      refine ⟨_, _, rfl, .inr (.inr (.inl ⟨i, ⟨_, get_new, ?_⟩, .inr ⟨rfl, ?_⟩⟩))⟩
      · show [vD (vs.getD x .non)] = _
        rw [q1]; rfl
      · have e : worth (.high x) vs bx mk br = .b (decide (32768 ≤ i)) := by simp only [worth, q2]
        have := hP (st ++ [.rw (List.map (fun i => vD (vs.getD i .non)) [x])]) (.app _ _)
        rw [e] at this
        exact this
  | yes =>
    show wtail1 (Ed Pd) [some (.tup [.str "yes"]), some (.lst f), some (bxD bx), some (mkD mk), some (.lst b), some (.str "yes"), none] st
    unfold wtail1
    refine step_ne (s := "yes") rfl (by decide +kernel) ?_
    refine step_ne (s := "yes") rfl (by decide +kernel) ?_
    refine step_ne (s := "yes") rfl (by decide +kernel) ?_
    refine step_ne (s := "yes") rfl (by decide +kernel) ?_
    refine worth_named (E := Ed Pd) (w := "yes") (ns := []) (is := []) (if_neg (by decide +kernel)) hf (by simp) (by decide) ?_
    refine worth_made (us := []) ⟨_, get_new, rfl⟩ (by rintro ⟨u, hu, _⟩; simp at hu) fun _ => ?_
    exact ⟨_, _, rfl, .inl ⟨rfl, hP _ (.app _ _)⟩⟩
  | no =>
    show wtail1 (Ed Pd) [some (.tup [.str "no"]), some (.lst f), some (bxD bx), some (mkD mk), some (.lst b), some (.str "no"), none] st
    unfold wtail1
    refine step_ne (s := "no") rfl (by decide +kernel) ?_
    refine step_ne (s := "no") rfl (by decide +kernel) ?_
    refine step_ne (s := "no") rfl (by decide +kernel) ?_
    refine step_ne (s := "no") rfl (by decide +kernel) ?_
    refine worth_named (E := Ed Pd) (w := "no") (ns := []) (is := []) (if_neg (by decide +kernel)) hf (by simp) (by decide) ?_
    refine worth_made (us := []) ⟨_, get_new, rfl⟩ (by rintro ⟨u, hu, _⟩; simp at hu) fun _ => ?_
    exact ⟨_, _, rfl, .inr (.inl ⟨rfl, hP _ (.app _ _)⟩)⟩
theorem rd_worths {ds : List Dt} {st : Sto} {Pd : VD} (h : spWorths ds st Pd) : t_worths (Ed Pd) (startD ["nodes", "boxes", "marks", "brought", "found", "node"] ds) st := by
  obtain ⟨m, a, ss, bx, mk, b, br, rfl, hb, hT, hE, h8, h3, ha, hr, hP⟩ := h
  refine ⟨Nat.zero_le _, ?_⟩
  have hbl : b < st.length := by obtain ⟨o, q, _⟩ := hb; exact lt_of_get q
  refine ⟨fun i ρ s' => (∃ a5, ρ = [some (tab a), some (bxD bx), some (mkD mk), some (.lst b), some (.lst st.length), a5]) ∧ ExtS st s' ∧ s'[st.length]? = some (.rw ((worths (a.take i) bx mk br).map vD)), ?_, fun _ _ _ _ _ => rfl, ?_, ?_⟩
  · exact ⟨⟨_, rfl⟩, .app _ _, get_new⟩
  · rintro i d ρ s' hd ⟨⟨a5, rfl⟩, ext, gs⟩
    have hi := lt_of_get hd
    rw [List.length_map] at hi
    rw [List.getElem?_map, List.getElem?_eq_getElem hi] at hd
    have hd : d = nD a[i] := (Option.some.inj hd).symm
    subst hd
    have hT2 := OkT.take hT i
    obtain ⟨s, hs⟩ := OkT.at_ hT hi
    have S := sorted_of hE hT2
    refine ⟨m, ss.take i, s, a[i], st.length, worths (a.take i) bx mk br, bx, mk, b, br, rfl, ⟨_, gs, rfl⟩, hb.ext ext, hs, S, h8, h3, by rw [worths_len]; have := List.length_take_le' i a; omega, by omega, fun s2 e2 => ?_⟩
    show (match s2[st.length]? with | some (.rw xs) => _ | _ => _)
    rw [e2 _ _ gs]
    refine ⟨by rw [List.length_map, worths_len]; exact small (by have := List.length_take_le' i a; omega), ⟨_, rfl⟩, fun k o q => get_set_ne ((ext.trans e2) k o q) (by have := lt_of_get q; omega), ?_⟩
    rw [get_set_self (e2 _ _ gs)]
    rw [List.take_add_one, List.getElem?_eq_getElem hi]
    show _ = some (SO.rw ((worths (a.take i ++ [a[i]]) bx mk br).map vD))
    rw [worths_snoc, List.map_append]
    rfl
  · rintro ρ s' ⟨⟨a5, rfl⟩, ext, gs⟩
    rw [List.length_map, List.take_length] at gs
    exact hP _ _ ext (Nat.le_refl _) gs
end K20
namespace K20
open PySem PySem.Spec PyProof.Rows L2 L3 KH KS KW
noncomputable def ltail1 : TSD := (tseq (tifS (tbool (tbin (rCmpI fun i j => decide (i < j)) (tvar 2) (tcon (Dt.int 3)))) (tseq (tret (ttup (tacons (ttup (tacons (tcon (Dt.str (Str.ofString "num"))) (tacons (tcall KS.spNumber (tacons (tvar 0) tanil)) tanil))) (tacons (tcon (Dt.int 0)) tanil)))) tnext) tnext) (tseq (tifS (tbool (tbin (rCmpI fun i j => decide (i < j)) (tvar 2) (tcon (Dt.int 5)))) (tseq (tret (ttup (tacons (ttup (tacons (tcon (Dt.str (Str.ofString "box"))) (tacons (tcall KH.spDraw (tacons (tvar 0) (tacons (tcon (Dt.int 8)) tanil))) tanil))) (tacons (tcon (Dt.int 0)) tanil)))) tnext) tnext) (tseq (tifS (tandB (tbool (tbin (rEqD false) (tvar 2) (tcon (Dt.int 5)))) (tbool (tbin (rCmpI fun i j => decide (j < i)) (tcall rLen (tacons (tvar 1) tanil)) (tcon (Dt.int 0))))) (tseq (tret (ttup (tacons (ttup (tacons (tcon (Dt.str (Str.ofString "item"))) (tacons (tbin rIxD (tvar 1) (tcall KH.spDraw (tacons (tvar 0) (tacons (tcall rLen (tacons (tvar 1) tanil)) tanil)))) tanil))) (tacons (tcon (Dt.int 0)) tanil)))) tnext) tnext) (tseq (tifS (tbool (tbin (rEqD false) (tvar 2) (tcon (Dt.int 6)))) (tseq (tret (ttup (tacons (ttup (tacons (tcon (Dt.str (Str.ofString "mark"))) (tacons (tcall KH.spDraw (tacons (tvar 0) (tacons (tcon (Dt.int 3)) tanil))) tanil))) (tacons (tcon (Dt.int 1)) tanil)))) tnext) tnext) (tseq (tret (tbin rIxD (tlst (tacons (ttup (tacons (ttup (tacons (tcon (Dt.str (Str.ofString "num"))) (tacons (tcall KH.spDraw (tacons (tvar 0) (tacons (tcon (Dt.int 3)) tanil))) tanil))) (tacons (tcon (Dt.int 0)) tanil))) (tacons (ttup (tacons (ttup (tacons (tcon (Dt.str (Str.ofString "yes"))) tanil)) (tacons (tcon (Dt.int 1)) tanil))) (tacons (ttup (tacons (ttup (tacons (tcon (Dt.str (Str.ofString "no"))) tanil)) (tacons (tcon (Dt.int 1)) tanil))) tanil)))) (tcall KH.spDraw (tacons (tvar 0) (tacons (tcon (Dt.int 3)) tanil))))) tnext)))))
noncomputable def ltail3 : TSD := (tseq (tifS (tandB (tbool (tbin (rEqD false) (tvar 2) (tcon (Dt.int 5)))) (tbool (tbin (rCmpI fun i j => decide (j < i)) (tcall rLen (tacons (tvar 1) tanil)) (tcon (Dt.int 0))))) (tseq (tret (ttup (tacons (ttup (tacons (tcon (Dt.str (Str.ofString "item"))) (tacons (tbin rIxD (tvar 1) (tcall KH.spDraw (tacons (tvar 0) (tacons (tcall rLen (tacons (tvar 1) tanil)) tanil)))) tanil))) (tacons (tcon (Dt.int 0)) tanil)))) tnext) tnext) (tseq (tifS (tbool (tbin (rEqD false) (tvar 2) (tcon (Dt.int 6)))) (tseq (tret (ttup (tacons (ttup (tacons (tcon (Dt.str (Str.ofString "mark"))) (tacons (tcall KH.spDraw (tacons (tvar 0) (tacons (tcon (Dt.int 3)) tanil))) tanil))) (tacons (tcon (Dt.int 1)) tanil)))) tnext) tnext) (tseq (tret (tbin rIxD (tlst (tacons (ttup (tacons (ttup (tacons (tcon (Dt.str (Str.ofString "num"))) (tacons (tcall KH.spDraw (tacons (tvar 0) (tacons (tcon (Dt.int 3)) tanil))) tanil))) (tacons (tcon (Dt.int 0)) tanil))) (tacons (ttup (tacons (ttup (tacons (tcon (Dt.str (Str.ofString "yes"))) tanil)) (tacons (tcon (Dt.int 1)) tanil))) (tacons (ttup (tacons (ttup (tacons (tcon (Dt.str (Str.ofString "no"))) tanil)) (tacons (tcon (Dt.int 1)) tanil))) tanil)))) (tcall KH.spDraw (tacons (tvar 0) (tacons (tcon (Dt.int 3)) tanil))))) tnext)))
noncomputable def ltail4 : TSD := (tseq (tifS (tbool (tbin (rEqD false) (tvar 2) (tcon (Dt.int 6)))) (tseq (tret (ttup (tacons (ttup (tacons (tcon (Dt.str (Str.ofString "mark"))) (tacons (tcall KH.spDraw (tacons (tvar 0) (tacons (tcon (Dt.int 3)) tanil))) tanil))) (tacons (tcon (Dt.int 1)) tanil)))) tnext) tnext) (tseq (tret (tbin rIxD (tlst (tacons (ttup (tacons (ttup (tacons (tcon (Dt.str (Str.ofString "num"))) (tacons (tcall KH.spDraw (tacons (tvar 0) (tacons (tcon (Dt.int 3)) tanil))) tanil))) (tacons (tcon (Dt.int 0)) tanil))) (tacons (ttup (tacons (ttup (tacons (tcon (Dt.str (Str.ofString "yes"))) tanil)) (tacons (tcon (Dt.int 1)) tanil))) (tacons (ttup (tacons (ttup (tacons (tcon (Dt.str (Str.ofString "no"))) tanil)) (tacons (tcon (Dt.int 1)) tanil))) tanil)))) (tcall KH.spDraw (tacons (tvar 0) (tacons (tcon (Dt.int 3)) tanil))))) tnext))
theorem lenL {st : Sto} {n : Nat} {xs : List Dt} {P : VD} (h : Has st n xs) (q : P (.int (xs.length : Nat)) st) : rLen [.lst n] st P := by
  show (match seqOf st (.lst n) with | some xs => _ | none => _)
  rw [seq_has h]; exact q
theorem has_keep {h n : Nat} {st st' : Sto} {xs : List Dt} (a : Has st n xs) (k : Keep h st st') (ne : h ≠ n) : Has st' n xs := by
  obtain ⟨o, q, r⟩ := a
  exact ⟨o, k.1 _ _ (Ne.symm ne) q, r⟩
theorem rd__law_leaf {ds : List Dt} {st : Sto} {Pd : VD} (h : spLeaf ds st Pd) : t__law_leaf (Ed Pd) (startD ["hand", "items", "style"] ds) st := by
  obtain ⟨h, i, m, rfl, ha, hne, hi, m0, m1, hP⟩ := h
  refine ⟨h, 9, rfl, by decide, by decide, ha, fun v s1 v0 v1 k1 => ?_⟩
  have hi1 := has_keep hi k1 hne
  have two : (2 : Nat) ≤ sizeLine := by decide
  show ltail1 (Ed Pd) [some (.lst h), some (.lst i), some (.int v)] s1
  by_cases c1 : v < 3
  · refine iteB (decide_eq_true c1) ?_
    refine ⟨h, rfl, k1.2, fun n s2 n0 n1 k2 => ?_⟩
    exact ⟨two, two, hP (.num n) 0 _ (fun _ => ⟨n0, n1, rfl⟩) (k1.trans k2)⟩
  refine iteBF (decide_eq_false c1) ?_
  by_cases c2 : v < 5
  · refine iteB (decide_eq_true c2) ?_
    refine ⟨h, 8, rfl, by decide, by decide, k1.2, fun n s2 n0 n1 k2 => ?_⟩
    obtain ⟨k, rfl⟩ : ∃ k : Nat, n = (k : Int) := ⟨n.toNat, by omega⟩
    exact ⟨two, two, hP (.box k) 0 _ (fun _ => ⟨by omega, rfl⟩) (k1.trans k2)⟩
  refine iteBF (decide_eq_false c2) ?_
  have mark : ∀ v : Int, ltail4 (Ed Pd) [some (.lst h), some (.lst i), some (.int v)] s1 := by
    intro v
    refine ⟨rfl, rfl, ?_⟩
    show if (eqD 8 (Dt.int v) (Dt.int 6) != false) = true then _ else _
    generalize (eqD 8 (Dt.int v) (Dt.int 6) != false) = bb
    cases bb with
    | true =>
      refine iteT ?_
      refine ⟨h, 3, rfl, by decide, by decide, k1.2, fun n s2 n0 n1 k2 => ?_⟩
      obtain ⟨k, rfl⟩ : ∃ k : Nat, n = (k : Int) := ⟨n.toNat, by omega⟩
      exact ⟨two, two, hP (.mark k) 1 _ (fun _ => ⟨by omega, rfl⟩) (k1.trans k2)⟩
    | false =>
      refine iteF ?_
      refine ⟨h, 3, rfl, by decide, by decide, k1.2, fun n s2 n0 n1 k2 => ?_⟩
      refine ⟨two, two, by show 1 ≤ sizeLine; decide, two, by show 1 ≤ sizeLine; decide, two, by show 3 ≤ sizeLine; decide, ?_⟩
      refine ⟨h, 3, rfl, by decide, by decide, (k2.app _).2, fun w s3 w0 w1 k3 => ?_⟩
      have e := k3.1 _ _ (ne_of_hand k2.2) get_new
      have K3 : Keep h st s3 := (k1.trans (k2.app _)).trans k3
      refine pick e w0 w1 fun d hd => ?_
      simp only [List.mem_cons, List.not_mem_nil, or_false] at hd
      rcases hd with rfl | rfl | rfl
      · exact hP (.num n) 0 _ (fun _ => ⟨n0, by omega, rfl⟩) K3
      · exact hP .yes 1 _ (fun _ => rfl) K3
      · exact hP .no 1 _ (fun _ => rfl) K3
  show ltail3 (Ed Pd) [some (.lst h), some (.lst i), some (.int v)] s1
  simp only [ltail3, tseq, tifS, tandB, tbool, tbin, tvar, tcon, tcall, tacons, tanil, List.getElem?_cons_zero, List.getElem?_cons_succ]
  refine ⟨rfl, rfl, ?_⟩
  generalize (eqD 8 (Dt.int v) (Dt.int 5) != false) = bb
  cases bb with
  | false => exact iteF (mark v)
  | true =>
    refine iteT ?_
    refine lenL hi1 ?_
    have hlen : (rangeD 0 m).length = m := by simp [rangeD]
    refine iteB (decide_eq_true (by rw [hlen]; omega)) ?_
    simp only [tseq, tret, ttup, tacons, tcon, tbin, tvar, tcall, tanil, List.getElem?_cons_zero, List.getElem?_cons_succ]
    refine lenL hi1 ?_
    rw [hlen]
    refine ⟨h, (m : Int), rfl, by omega, by omega, k1.2, fun w s2 w0 w1 k2 => ?_⟩
    obtain ⟨d, hat, _, hg⟩ := atI_of (xs := rangeD 0 m) (v := w) w0 (by rw [hlen]; exact w1)
    obtain ⟨_, rfl⟩ := range_get hg
    refine pickS (seq_has (has_keep hi1 k2 hne)) hat ?_
    refine ⟨two, two, ?_⟩
    have := hP (.item w.toNat) 0 s2 (fun _ => ⟨by omega, rfl⟩) (k1.trans k2)
    rw [Int.zero_add]
    exact this
noncomputable def ntail5 : TSD := (tseq (tifS (tbool (tbin (rCmpI fun i j => decide (i < j)) (tvar 4) (tcon (Dt.int 9)))) (tseq (tret (ttup (tacons (ttup (tacons (tbin rIxD (tlst (tacons (tcon (Dt.str (Str.ofString "add"))) (tacons (tcon (Dt.str (Str.ofString "sub"))) (tacons (tcon (Dt.str (Str.ofString "mul"))) tanil)))) (tbin rMod (tvar 4) (tcon (Dt.int 3)))) (tacons (tvar 5) (tacons (tvar 6) tanil)))) (tacons (tcon (Dt.int 0)) tanil)))) tnext) tnext) (tseq (tifS (tbool (tbin (rCmpI fun i j => decide (i < j)) (tvar 4) (tcon (Dt.int 11)))) (tseq (tret (ttup (tacons (ttup (tacons (tbin rIxD (tlst (tacons (tcon (Dt.str (Str.ofString "nought"))) (tacons (tcon (Dt.str (Str.ofString "high"))) tanil))) (tbin rMod (tvar 4) (tcon (Dt.int 2)))) (tacons (tvar 5) tanil))) (tacons (tcon (Dt.int 1)) tanil)))) tnext) tnext) (tseq (tret (ttup (tacons (ttup (tacons (tbin rIxD (tlst (tacons (tcon (Dt.str (Str.ofString "over"))) (tacons (tcon (Dt.str (Str.ofString "under"))) (tacons (tcon (Dt.str (Str.ofString "wide"))) (tacons (tcon (Dt.str (Str.ofString "rest"))) tanil))))) (tcall KH.spDraw (tacons (tvar 0) (tacons (tcon (Dt.int 4)) tanil)))) (tacons (tvar 5) (tacons (tvar 6) tanil)))) (tacons (tcon (Dt.int 1)) tanil)))) tnext)))
noncomputable def ntail3 : TSD := (tseq (tasg (tbin rIxD (tvar 3) (tcall KH.spDraw (tacons (tvar 0) (tacons (tcall rLen (tacons (tvar 3) tanil)) tanil)))) (gname 5)) (tseq (tasg (tbin rIxD (tvar 3) (tbin rIxD (tlst (tacons (tcall KH.spDraw (tacons (tvar 0) (tacons (tcall rLen (tacons (tvar 3) tanil)) tanil))) (tacons (tbin L3.rSub (tcall rLen (tacons (tvar 3) tanil)) (tcon (Dt.int 1))) tanil))) (tcall KH.spDraw (tacons (tvar 0) (tacons (tcon (Dt.int 2)) tanil))))) (gname 6)) ntail5))
noncomputable def ntail1 : TSD := (tseq (tasg (tcall KH.spDraw (tacons (tvar 0) (tacons (tcon (Dt.int 14)) tanil))) (gname 4)) (tseq (tifS (torB (tbool (tbin (rEqD false) (tvar 3) (tlst tanil))) (tbool (tbin (rCmpI fun i j => decide (i < j)) (tvar 4) (tcon (Dt.int 3))))) (tseq (tret (tcall spLeaf (tacons (tvar 0) (tacons (tvar 2) tanil)))) tnext) tnext) ntail3))
noncomputable def ntail0 : TSD := (tseq (tasg (tcomp (irng1 (tcall rLen (tacons (tvar 1) tanil))) (tbool (tbin (rEqD false) (tbin rIxD (tvar 1) (tvar 0)) (tcon (Dt.int 0)))) (tvar 0) [(1, "sorts")]) (gname 3)) ntail1)
theorem op3 {v : Int} (h0 : 0 ≤ v) (h1 : v < 3) : ∃ w : Op2, atI [Dt.str "add", .str "sub", .str "mul"] v = some (.str (nm w)) ∧ ((match w with | .add => 0 | .sub => 0 | .mul => 0 | _ => 1) : Nat) = 0 := by
  rcases (show v = 0 ∨ v = 1 ∨ v = 2 by omega) with rfl | rfl | rfl
  · exact ⟨.add, rfl, rfl⟩
  · exact ⟨.sub, rfl, rfl⟩
  · exact ⟨.mul, rfl, rfl⟩
theorem op4 {v : Int} (h0 : 0 ≤ v) (h1 : v < 4) : ∃ w : Op2, atI [Dt.str "over", .str "under", .str "wide", .str "rest"] v = some (.str (nm w)) ∧ ((match w with | .add => 0 | .sub => 0 | .mul => 0 | _ => 1) : Nat) = 1 := by
  rcases (show v = 0 ∨ v = 1 ∨ v = 2 ∨ v = 3 by omega) with rfl | rfl | rfl | rfl
  · exact ⟨.over, rfl, rfl⟩
  · exact ⟨.under, rfl, rfl⟩
  · exact ⟨.wide, rfl, rfl⟩
  · exact ⟨.rest, rfl, rfl⟩
theorem node5 {Pd : VD} {st s1 : Sto} {h m : Nat} {o i q : Dt} {v : Int} {x y : Nat} {ss : List Nat} (k1 : Keep h st s1) (v0 : 0 ≤ v) (v1 : v < 14) (hx : ss[x]? = some 0) (hy : ss[y]? = some 0) (hP : ∀ nd s st', OkN ss m nd s → Keep h st st' → Pd (.tup [nD nd, .int (s : Nat)]) st') :
    ntail5 (Ed Pd) [some (.lst h), some o, some i, some q, some (.int v), some (.int x), some (.int y)] s1 := by
  have two : (2 : Nat) ≤ sizeLine := by decide
  have three : (3 : Nat) ≤ sizeLine := by decide
  by_cases c1 : v < 9
  · refine iteB (decide_eq_true c1) ?_
    refine ⟨three, by decide, ?_⟩
    obtain ⟨w, hw, hs⟩ := op3 (Int.emod_nonneg v (by decide)) (Int.emod_lt_of_pos v (by decide))
    refine pickAt get_new hw ?_
    exact ⟨three, two, hP (.two w x y) 0 _ ⟨hx, hy, hs.symm⟩ (k1.app _)⟩
  refine iteBF (decide_eq_false c1) ?_
  by_cases c2 : v < 11
  · refine iteB (decide_eq_true c2) ?_
    refine ⟨two, by decide, ?_⟩
    rcases (show v % 2 = 0 ∨ v % 2 = 1 by omega) with e | e
    · rw [e]
      refine pickAt get_new rfl ?_
      exact ⟨two, two, hP (.nought x) 1 _ ⟨hx, rfl⟩ (k1.app _)⟩
    · rw [e]
      refine pickAt get_new rfl ?_
      exact ⟨two, two, hP (.high x) 1 _ ⟨hx, rfl⟩ (k1.app _)⟩
  refine iteBF (decide_eq_false c2) ?_
  refine ⟨by show 4 ≤ sizeLine; decide, ?_⟩
  refine ⟨h, 4, rfl, by decide, by decide, (k1.app _).2, fun u s2 u0 u1 k2 => ?_⟩
  obtain ⟨w, hw, hs⟩ := op4 u0 u1
  refine pickAt (k2.1 _ _ (ne_of_hand k1.2) get_new) hw ?_
  exact ⟨three, two, hP (.two w x y) 1 _ ⟨hx, hy, hs.symm⟩ ((k1.app _).trans k2)⟩
theorem node3 {Pd : VD} {st s1 : Sto} {h m q : Nat} {o i : Dt} {v : Int} {ss : List Nat} {ks : List Nat} {a5 a6 : Option Dt} (k1 : Keep h st s1) (v0 : 0 ≤ v) (v1 : v < 14) (hk : s1[q]? = some (.rw (ks.map fun k : Nat => Dt.int (k : Int)))) (hqh : q ≠ h) (hks : ∀ k ∈ ks, ss[k]? = some 0) (hkl : ks.length < 600) (hne : ks ≠ []) (hP : ∀ nd s st', OkN ss m nd s → Keep h st st' → Pd (.tup [nD nd, .int (s : Nat)]) st') :
    ntail3 (Ed Pd) [some (.lst h), some o, some i, some (.lst q), some (.int v), a5, a6] s1 := by
  have hpos : 0 < ks.length := List.length_pos_iff.mpr hne
  have hkm : (ks.map fun k : Nat => Dt.int (k : Int)).length = ks.length := by rw [List.length_map]
  have pickK : ∀ {s : Sto} {w : Int} {P : VD}, s[q]? = some (.rw (ks.map fun k : Nat => Dt.int (k : Int))) → 0 ≤ w → w < (ks.length : Nat) → (∀ k : Nat, ss[k]? = some 0 → P (.int k) s) → rIxD (.lst q) (.int w) s P := by
    intro s w P e w0 w1 hp
    refine pick e w0 (by rw [hkm]; exact w1) fun d hd => ?_
    obtain ⟨k, hk, rfl⟩ := List.mem_map.mp hd
    exact hp k (hks k hk)
  simp only [ntail3, tseq, tasg, tbin, tvar, tcall, tacons, tanil, gname, List.getElem?_cons_zero, List.getElem?_cons_succ, List.set_cons_zero, List.set_cons_succ]
  refine lenL ⟨_, hk, rfl⟩ ?_
  rw [show (SO.rw (ks.map fun k : Nat => Dt.int (k : Int))).items.length = ks.length from hkm]
  refine ⟨h, (ks.length : Nat), rfl, by omega, by omega, k1.2, fun w s2 w0 w1 k2 => ?_⟩
  have g2 := k2.1 _ _ hqh hk
  refine pickK g2 w0 w1 fun x hx => ?_
  simp only [tlst, tacons, tcall, tvar, tcon, tbin, tanil, L3.rSub, List.getElem?_cons_zero, List.getElem?_cons_succ, List.set_cons_zero, List.set_cons_succ]
  refine lenL ⟨_, g2, rfl⟩ ?_
  rw [show (SO.rw (ks.map fun k : Nat => Dt.int (k : Int))).items.length = ks.length from hkm]
  refine ⟨h, (ks.length : Nat), rfl, by omega, by omega, k2.2, fun u s3 u0 u1 k3 => ?_⟩
  have g3 := k3.1 _ _ hqh g2
  refine lenL ⟨_, g3, rfl⟩ ?_
  rw [show (SO.rw (ks.map fun k : Nat => Dt.int (k : Int))).items.length = ks.length from hkm]
  refine ⟨by show 2 ≤ sizeLine; decide, ?_⟩
  refine ⟨h, 2, rfl, by decide, by decide, (k3.app _).2, fun z s4 z0 z1 k4 => ?_⟩
  have e4 := k4.1 _ _ (ne_of_hand k3.2) get_new
  have g4 := k4.1 _ _ hqh (get_app g3)
  have K4 : Keep h st s4 := ((k1.trans k2).trans (k3.app _)).trans k4
  refine pick e4 z0 z1 fun d hd => ?_
  obtain ⟨c, rfl, c0, c1⟩ : ∃ c : Int, d = .int c ∧ 0 ≤ c ∧ c < (ks.length : Nat) := by
    simp only [List.mem_cons, List.not_mem_nil, or_false] at hd
    rcases hd with rfl | rfl
    · exact ⟨u, rfl, u0, u1⟩
    · exact ⟨_, rfl, by omega, by omega⟩
  refine pickK g4 c0 c1 fun y hy => ?_
  exact node5 K4 v0 v1 hx hy hP
theorem rd__law_node {ds : List Dt} {st : Sto} {Pd : VD} (h : spNode ds st Pd) : t__law_node (Ed Pd) (startD ["hand", "sorts", "items", "some", "style", "x", "y"] ds) st := by
  obtain ⟨h, o, i, m, ss, rfl, ha, hho, hhi, ho, hsl, hi, m0, m1, hP⟩ := h
  have hol : (Sorts ss).length = ss.length := by unfold Sorts; rw [List.length_map]
  show ntail0 (Ed Pd) [some (.lst h), some (.lst o), some (.lst i), none, none, none, none] st
  simp only [ntail0, tseq, tasg, tcomp, irng1, tcall, tacons, tanil, tvar, gname, capρ, List.map_cons, List.map_nil, Option.join_some, List.getElem?_cons_zero, List.getElem?_cons_succ, List.set_cons_zero, List.set_cons_succ]
  refine lenL ho ?_
  rw [hol]
  refine ⟨by omega, by omega, ?_⟩
  rw [Int.toNat_natCast]
  refine ⟨fun j ys s' => (∃ ks : List Nat, ys = ks.map (fun k : Nat => Dt.int (k : Int)) ∧ ks.length ≤ j ∧ ∀ k ∈ ks, ss[k]? = some 0) ∧ s' = st, ⟨⟨[], rfl, Nat.le_refl _, by simp⟩, rfl⟩, fun _ _ _ _ _ => trivial, ?_, ?_⟩
  · rintro j d ys s' hd ⟨⟨ks, rfl, hkl, hks⟩, rfl⟩
    obtain ⟨hj, rfl⟩ := range_get hd
    refine ⟨by rw [List.length_map]; exact small (by omega), ?_⟩
    obtain ⟨d, hat, _, hg⟩ := atI_of (xs := Sorts ss) (v := 0 + (j : Int)) (by omega) (by rw [hol]; omega)
    simp only [tbool, tbin, tvar, tcon, List.getElem?_cons_zero, List.getElem?_cons_succ]
    refine pickS (seq_has ho) hat ?_
    rw [show (0 + (j : Int)).toNat = j by omega] at hg
    unfold Sorts at hg
    rw [List.getElem?_map, List.getElem?_eq_getElem hj] at hg
    have hg : d = .int ((ss[j] : Nat) : Int) := (Option.some.inj hg).symm
    subst hg
    refine ⟨rfl, rfl, ?_⟩
    by_cases h0 : ss[j] = 0
    · refine iteB (show ((((ss[j] : Nat) : Int) == 0) != false) = true by rw [h0]; rfl) ?_
      refine ⟨⟨ks ++ [j], by rw [List.map_append, Int.zero_add]; rfl, by simp; omega, fun k hk => ?_⟩, rfl⟩
      rcases List.mem_append.mp hk with q | q
      · exact hks k q
      · rw [List.mem_singleton.mp q, List.getElem?_eq_getElem hj, h0]
    · refine iteBF (show ((((ss[j] : Nat) : Int) == 0) != false) = false by rw [bne_false']; exact beq_eq_false_iff_ne.mpr (by omega)) ?_
      exact ⟨⟨ks, rfl, by omega, hks⟩, rfl⟩
  · rintro ys s' ⟨⟨ks, rfl, hkl, hks⟩, rfl⟩
    have hlen : (rangeD 0 ss.length).length = ss.length := by simp [rangeD]
    rw [hlen] at hkl
    obtain ⟨q, hq⟩ : ∃ q, q = s'.length := ⟨_, rfl⟩
    have hqh : q ≠ h := by rw [hq]; exact ne_of_hand ha
    have hqi : h ≠ i := hhi
    have k0 : Keep h s' (s' ++ [.rw (ks.map fun k : Nat => Dt.int (k : Int))]) := (Keep.refl ha).app _
    have g0 : (s' ++ [SO.rw (ks.map fun k : Nat => Dt.int (k : Int))])[q]? = some (.rw (ks.map fun k : Nat => Dt.int (k : Int))) := by rw [hq]; exact get_new
    rw [← hq]
    refine ⟨h, 14, rfl, by decide, by decide, k0.2, fun v s1 v0 v1 k1 => ?_⟩
    have g1 := k1.1 _ _ hqh g0
    have K1 := k0.trans k1
    simp only [tseq, tifS, torB, tbool, tbin, tvar, tlst, tanil, tcon, gname, List.getElem?_cons_zero, List.getElem?_cons_succ, List.set_cons_zero, List.set_cons_succ]
    refine ⟨Nat.zero_le _, ?_⟩
    have hok : (ks.map fun k : Nat => Dt.int (k : Int)).all (okD 8) = true := by
      rw [List.all_map]
      exact List.all_eq_true.mpr fun x _ => rfl
    have K2 := K1.app (.rw [])
    have leaf : (tseq (tret (tcall spLeaf (tacons (tvar 0) (tacons (tvar 2) tanil)))) tnext) (Ed Pd) [some (.lst h), some (.lst o), some (.lst i), some (.lst q), some (.int v), none, none] (s1 ++ [.rw []]) :=
      ⟨h, i, m, rfl, K2.2, hhi, has_keep hi K2 hhi, m0, m1, fun nd s st' on k => hP nd s st' (on ss) (K2.trans k)⟩
    simp only [rEqD, get_app g1, get_new, SO.items]
    refine ⟨hok, rfl, ?_⟩
    cases ks with
    | nil => exact leaf
    | cons k ks =>
      by_cases c3 : v < 3
      · refine iteBF rfl (iteB (decide_eq_true c3) leaf)
      · refine iteBF rfl (iteBF (decide_eq_false c3) ?_)
        exact node3 (ks := k :: ks) K2 v0 v1 (get_app g1) hqh hks (by omega) (by simp) hP
end K20
namespace KW
theorem worths_get {a : List Nd} {bx : List Int} {mk : List Bool} {br : List (Option Int)} {k : Nat} (h : k < a.length) : (worths a bx mk br)[k]? = some (worth a[k] (worths (a.take k) bx mk br) bx mk br) := by
  have e := worths_take a (k + 1) bx mk br
  rw [List.take_add_one, List.getElem?_eq_getElem h] at e
  have e : worths (a.take k ++ [a[k]]) bx mk br = (worths a bx mk br).take (k + 1) := e
  rw [worths_snoc] at e
  have q : ((worths a bx mk br).take (k + 1))[k]? = (worths a bx mk br)[k]? := List.getElem?_take_of_lt (by omega)
  rw [← q, ← e]
  have l : (worths (a.take k) bx mk br).length = k := by rw [worths_len]; simp; omega
  rw [List.getElem?_append_right (by omega), l]
  simp
theorem fixed_ok {ss : List Nat} {m : Nat} {x : Nd} {s : Nat} {v : Vl} (o : OkN ss m x s) (hv : IsS s v) : OkN ss m (fixed x v) s := by
  cases x with
  | num n => cases v <;> exact o
  | box k => cases v with
    | n i => exact ⟨hv.2.1, hv.2.2, hv.1⟩
    | b c => exact o
    | non => exact o
  | mark k => cases v with
    | n i => exact o
    | b c => cases c <;> exact o.2
    | non => exact o
  | item i => cases v with
    | n j => exact ⟨hv.2.1, hv.2.2, hv.1⟩
    | b c => exact o
    | non => exact o
  | two w x y => cases v <;> exact o
  | nought x => cases v <;> exact o
  | high x => cases v <;> exact o
  | yes => cases v <;> exact o
  | no => cases v <;> exact o
theorem fix_ok {m : Nat} {a : List Nd} {ss : List Nat} {bx : List Int} {mk : List Bool} {br : List (Option Int)} (g : Env bx mk br) (hb : ∀ i, i < m → ∃ v, br[i]? = some (some v)) (h : OkT m a ss) : OkT m (fixAll a (worths a bx mk br)) ss := by
  induction h with
  | nil => exact .nil
  | @snoc a ss x s h o ih =>
    have e : fixAll (a ++ [x]) (worths (a ++ [x]) bx mk br) = fixAll a (worths a bx mk br) ++ [fixed x (worth x (worths a bx mk br) bx mk br)] := by
      rw [worths_snoc]; unfold fixAll; rw [List.zipWith_append (by rw [worths_len])]; rfl
    rw [e]
    refine .snoc ih (fixed_ok o ?_)
    have hs := worth_sort (x := x) g o (sorted_of g h)
    have hne := full_of g hb (.snoc h o) (worth x (worths a bx mk br) bx mk br) (by rw [worths_snoc]; simp)
    rcases hs with q | q
    · exact absurd q hne
    · exact q
theorem OkN.ext {ss tt : List Nat} {m : Nat} {x : Nd} {s : Nat} (o : OkN ss m x s) : OkN (tt ++ ss) m (moved tt.length x) s := by
  have at_ : ∀ i : Nat, (tt ++ ss)[i + tt.length]? = ss[i]? := fun i => by rw [List.getElem?_append_right (by omega)]; congr 1; omega
  cases x with
  | num n => exact o
  | box k => exact o
  | mark k => exact o
  | item i => exact o
  | two w x y => exact ⟨by rw [at_]; exact o.1, by rw [at_]; exact o.2.1, o.2.2⟩
  | nought x => exact ⟨by rw [at_]; exact o.1, o.2⟩
  | high x => exact ⟨by rw [at_]; exact o.1, o.2⟩
  | yes => exact o
  | no => exact o
theorem both_ok {m : Nat} {a b : List Nd} {ss tt : List Nat} (h : OkT m a ss) (g : OkT m b tt) : OkT m (a ++ b.map (moved a.length)) (ss ++ tt) := by
  induction g with
  | nil => simpa using h
  | @snoc b tt x s g o ih =>
    rw [List.map_append, ← List.append_assoc, ← List.append_assoc]
    refine .snoc ih ?_
    have := OkN.ext (tt := ss) o
    rw [← h.len] at this
    exact this
theorem leaf_mark {f : List Vl} {bx : List Int} {mk : List Bool} {br : List (Option Int)} {k : Nat} : ∃ b, worth (.mark k) f bx mk br = .b b := ⟨_, rfl⟩
theorem leaf_box {f : List Vl} {bx : List Int} {mk : List Bool} {br : List (Option Int)} {k : Nat} : ∃ i, worth (.box k) f bx mk br = .n i := ⟨_, rfl⟩
theorem leaf_item {f : List Vl} {bx : List Int} {mk : List Bool} {br : List (Option Int)} {k : Nat} {v : Int} (h : br[k]? = some (some v)) : ∃ i, worth (.item k) f bx mk br = .n i := ⟨v, by simp only [worth, h]⟩
theorem item_lt {m : Nat} {a : List Nd} {ss : List Nat} (h : OkT m a ss) {i k : Nat} (hi : i < a.length) (e : a[i] = .item k) : k < m := by
  obtain ⟨s, o⟩ := OkT.at_ h hi
  rw [e] at o
  exact o.1
end KW
namespace K19
open PySem PySem.Spec PyProof.Rows L2 L3 KH
noncomputable abbrev t_under : TSD := (tseq (tret (tifE (tbool (tbin (rInD false) (tbin rIxD (tvar 0) (tcon (Dt.int 0))) (tcon (Dt.tup namD)))) (tsliceA (tvar 0) (tosome (tcon (Dt.int 1))) tonone) (ttup tanil))) tnext)
noncomputable abbrev t__law_hand : TSD := KH.t__law_hand
noncomputable abbrev t__law_draw : TSD := KH.t__law_draw
noncomputable abbrev t_tail : TSD := (tseq (tfor (iseq (tlst (tacons (tcon (Dt.str (Str.ofString "add"))) (tacons (tcon (Dt.str (Str.ofString "sub"))) (tacons (tcon (Dt.str (Str.ofString "mul"))) (tacons (tcon (Dt.str (Str.ofString "over"))) (tacons (tcon (Dt.str (Str.ofString "under"))) (tacons (tcon (Dt.str (Str.ofString "wide"))) (tacons (tcon (Dt.str (Str.ofString "rest"))) tanil))))))))) (gname 6) (tseq (tifS (tnotB (tbool (tcall spRight (tacons (ttup (tacons (tvar 6) (tacons (tvar 4) (tacons (tvar 5) tanil)))) (tacons (ttup (tacons (tvar 4) (tacons (tvar 5) tanil))) tanil))))) (tseq (tret (tcon (Dt.bl false))) tnext) tnext) tnext)) (tseq (tifS (torB (tnotB (tbool (tcall spRight (tacons (ttup (tacons (tcon (Dt.str (Str.ofString "nought"))) (tacons (tvar 4) tanil))) (tacons (ttup (tacons (tvar 4) tanil)) tanil))))) (tnotB (tbool (tcall spRight (tacons (ttup (tacons (tcon (Dt.str (Str.ofString "high"))) (tacons (tvar 5) tanil))) (tacons (ttup (tacons (tvar 5) tanil)) tanil)))))) (tseq (tret (tcon (Dt.bl false))) tnext) tnext) (tseq (tfor (iseq (tlst (tacons (ttup (tacons (tcon (Dt.str (Str.ofString "num"))) (tacons (tvar 4) tanil))) (tacons (ttup (tacons (tcon (Dt.str (Str.ofString "box"))) (tacons (tbin rMod (tvar 4) (tcon (Dt.int 8))) tanil))) (tacons (ttup (tacons (tcon (Dt.str (Str.ofString "mark"))) (tacons (tbin rMod (tvar 4) (tcon (Dt.int 3))) tanil))) (tacons (ttup (tacons (tcon (Dt.str (Str.ofString "item"))) (tacons (tvar 5) tanil))) (tacons (ttup (tacons (tcon (Dt.str (Str.ofString "yes"))) tanil)) (tacons (ttup (tacons (tcon (Dt.str (Str.ofString "no"))) tanil)) tanil)))))))) (gname 7) (tseq (tifS (tnotB (tbool (tcall spRight (tacons (tvar 7) (tacons (ttup tanil) tanil))))) (tseq (tret (tcon (Dt.bl false))) tnext) tnext) tnext)) tnext)))
noncomputable abbrev t_turn : TSD := (tseq (tasg (tcall spHand (tacons (tvar 2) (tacons (tvar 1) tanil))) (gname 3)) (tseq (tasg (tbin rIxD (tlst (tacons (tcall spDraw (tacons (tvar 3) (tacons (tcon (Dt.int 3)) tanil))) (tacons (tcall spDraw (tacons (tvar 3) (tacons (tbin rPow (tcon (Dt.int 10)) (tcon (Dt.int 9))) tanil))) tanil))) (tcall spDraw (tacons (tvar 3) (tacons (tcon (Dt.int 2)) tanil)))) (gname 4)) (tseq (tasg (tbin rIxD (tlst (tacons (tvar 4) (tacons (tcall spDraw (tacons (tvar 3) (tacons (tbin rPow (tcon (Dt.int 10)) (tcon (Dt.int 9))) tanil))) tanil))) (tcall spDraw (tacons (tvar 3) (tacons (tcon (Dt.int 2)) tanil)))) (gname 5)) t_tail)))
noncomputable abbrev t_law : TSD := (tseq (tfor (ienum (tbin L3.rAdd (tsliceA (tvar 0) tonone (tosome (tcon (Dt.int 63)))) (tlst (tacons (tcall rLen (tacons (tvar 0) tanil)) tanil)))) (gunpack 2 (gscons (gname 1) (gscons (gname 2) gsnil))) t_turn) (tseq (tret (tcon (Dt.bl true))) tnext))
theorem nam_ok : namD.all (okD 0) = true := by decide +kernel
theorem nam_in (w : Str) : (namD.any (fun z => eqD 0 z (.str w)) != false) = namS.contains w := by
  unfold namD
  rw [List.any_map]
  have e : (namS.any ((fun z => eqD 0 z (.str w)) ∘ Dt.str)) = namS.any (fun s => s == w) := rfl
  rw [e, bne_false']
  rw [List.contains_eq_any_beq]
  congr 1
  funext s
  exact Bool.eq_iff_iff.mpr ⟨fun h => by rw [eq_of_beq h]; exact beq_self_eq_true _, fun h => by rw [eq_of_beq h]; exact beq_self_eq_true _⟩
theorem cut1 (d : Dt) (ns : List Dt) : L3.cutD (d :: ns) (some 1) none = ns := by
  unfold L3.cutD
  have e : HT.sIx (d :: ns).length 0 (some 1) = 1 := by simp [HT.sIx]
  rw [e, HT.sIx_none]
  simp
theorem rd_under {ds : List Dt} {st : Sto} {Pd : VD} (h : spUnder ds st Pd) : t_under (Ed Pd) (startD ["node"] ds) st := by
  obtain ⟨w, ns, rfl, h⟩ := h
  have a0 : atI (Dt.str w :: ns) 0 = some (.str w) := by simp [atI, ixN]
  show (match atI (Dt.str w :: ns) 0 with | some d => _ | none => _)
  rw [a0]
  refine ⟨rfl, nam_ok, ?_⟩
  unfold underD at h
  rw [nam_in w]
  cases hc : namS.contains w with
  | true =>
    rw [hc, if_pos rfl] at h
    refine iteT ?_
    show Pd (.tup (L3.cutD (.str w :: ns) (some 1) none)) st
    rw [cut1]
    exact h
  | false =>
    rw [hc, if_neg Bool.false_ne_true] at h
    refine iteF ⟨Nat.zero_le _, h⟩
theorem under_T {w : Str} {ns : List Dt} (h : namS.contains w = true) : underD w ns = ns := if_pos h
theorem under_F {w : Str} {ns : List Dt} (h : namS.contains w = false) : underD w ns = [] := if_neg (by rw [h]; exact Bool.false_ne_true)
theorem pick2 {st : Sto} {m : Nat} {x y : Dt} {v : Int} {P : VD} (e : st[m]? = some (.rw [x, y])) (h0 : 0 ≤ v) (h1 : v < 2) (hx : P x st) (hy : P y st) : rIxD (.lst m) (.int v) st P := by
  simp only [rIxD, seqOf, e, Option.map_some, SO.items]
  rcases (show v = 0 ∨ v = 1 by omega) with rfl | rfl
  · exact hx
  · exact hy
noncomputable def Shape (ρ : Rho) : Prop := ∃ a1 a2 a3 a4 a5 a6 a7, ρ = [some (.lst 0), a1, a2, a3, a4, a5, a6, a7]
theorem read_words {E : EndsD} {b0 a1 a2 a3 a6 a7 : Option Dt} {x y : Int} {st : Sto} (hE : ∀ a6 st', ExtS st st' → E.nx [b0, a1, a2, a3, some (.int x), some (.int y), a6, a7] st') :
    tfor (iseq (tlst (tacons (tcon (Dt.str (Str.ofString "add"))) (tacons (tcon (Dt.str (Str.ofString "sub"))) (tacons (tcon (Dt.str (Str.ofString "mul"))) (tacons (tcon (Dt.str (Str.ofString "over"))) (tacons (tcon (Dt.str (Str.ofString "under"))) (tacons (tcon (Dt.str (Str.ofString "wide"))) (tacons (tcon (Dt.str (Str.ofString "rest"))) tanil))))))))) (gname 6) (tseq (tifS (tnotB (tbool (tcall spRight (tacons (ttup (tacons (tvar 6) (tacons (tvar 4) (tacons (tvar 5) tanil)))) (tacons (ttup (tacons (tvar 4) (tacons (tvar 5) tanil))) tanil))))) (tseq (tret (tcon (Dt.bl false))) tnext) tnext) tnext) E [b0, a1, a2, a3, some (.int x), some (.int y), a6, a7] st := by
  simp only [tfor, iseq, tlst, tacons, tanil, tcon, seqOf]
  refine ⟨by show 7 ≤ sizeLine; decide, ?_⟩
  rw [get_new]
  simp only [Option.map_some, SO.items]
  refine ⟨fun j ρ st' => (∃ a6, ρ = [b0, a1, a2, a3, some (.int x), some (.int y), a6, a7]) ∧ ExtS (st ++ [.rw [.str "add", .str "sub", .str "mul", .str "over", .str "under", .str "wide", .str "rest"]]) st', ⟨⟨_, rfl⟩, ExtS.refl _⟩, fun _ _ _ _ q => ?_, ?_, ?_⟩
  · have := q.2 _ _ (get_new (st := st))
    show Option.map SO.items _ = _
    rw [this]; rfl
  · rintro i d ρ st' hd ⟨⟨a6, rfl⟩, ext⟩
    obtain ⟨w, rfl, hw⟩ : ∃ w : Str, d = .str w ∧ namS.contains w = true := by
      have h1 := List.mem_of_getElem? hd
      simp only [List.mem_cons, List.not_mem_nil, or_false] at h1
      rcases h1 with h | h | h | h | h | h | h <;> exact ⟨_, h, by decide +kernel⟩
    refine ⟨by show 3 ≤ sizeLine; decide, by show 2 ≤ sizeLine; decide, ?_⟩
    refine ⟨w, [x, y], [x, y], rfl, by show 2 < 100; decide, (under_T hw).symm, fun st2 e2 => iteF ?_⟩
    exact ⟨⟨_, rfl⟩, ext.trans e2⟩
  · rintro ρ st' ⟨⟨a6, rfl⟩, ext⟩
    exact hE _ _ ((ExtS.app _ _).trans ext)
theorem read_rest {E : EndsD} {b0 a1 a2 a3 a6 a7 : Option Dt} {x y : Int} {st : Sto} (hE : ∀ a7 st', ExtS st st' → E.nx [b0, a1, a2, a3, some (.int x), some (.int y), a6, a7] st') :
    tfor (iseq (tlst (tacons (ttup (tacons (tcon (Dt.str (Str.ofString "num"))) (tacons (tvar 4) tanil))) (tacons (ttup (tacons (tcon (Dt.str (Str.ofString "box"))) (tacons (tbin rMod (tvar 4) (tcon (Dt.int 8))) tanil))) (tacons (ttup (tacons (tcon (Dt.str (Str.ofString "mark"))) (tacons (tbin rMod (tvar 4) (tcon (Dt.int 3))) tanil))) (tacons (ttup (tacons (tcon (Dt.str (Str.ofString "item"))) (tacons (tvar 5) tanil))) (tacons (ttup (tacons (tcon (Dt.str (Str.ofString "yes"))) tanil)) (tacons (ttup (tacons (tcon (Dt.str (Str.ofString "no"))) tanil)) tanil)))))))) (gname 7) (tseq (tifS (tnotB (tbool (tcall spRight (tacons (tvar 7) (tacons (ttup tanil) tanil))))) (tseq (tret (tcon (Dt.bl false))) tnext) tnext) tnext) E [b0, a1, a2, a3, some (.int x), some (.int y), a6, a7] st := by
  simp only [tfor, iseq, tlst, ttup, tacons, tanil, tcon, tvar, tbin, rMod, seqOf, List.getElem?_cons_zero, List.getElem?_cons_succ]
  refine ⟨by show 2 ≤ sizeLine; decide, by decide, by show 2 ≤ sizeLine; decide, by decide, by show 2 ≤ sizeLine; decide, by show 2 ≤ sizeLine; decide, by show 1 ≤ sizeLine; decide, by show 1 ≤ sizeLine; decide, by show 6 ≤ sizeLine; decide, ?_⟩
  rw [get_new]
  simp only [Option.map_some, SO.items]
  refine ⟨fun j ρ st' => (∃ a7, ρ = [b0, a1, a2, a3, some (.int x), some (.int y), a6, a7]) ∧ ExtS (st ++ [.rw [.tup [.str "num", .int x], .tup [.str "box", .int (x % 8)], .tup [.str "mark", .int (x % 3)], .tup [.str "item", .int y], .tup [.str "yes"], .tup [.str "no"]]]) st', ⟨⟨_, rfl⟩, ExtS.refl _⟩, fun _ _ _ _ q => ?_, ?_, ?_⟩
  · have := q.2 _ _ (get_new (st := st))
    show Option.map SO.items _ = _
    rw [this]; rfl
  · rintro i d ρ st' hd ⟨⟨a7, rfl⟩, ext⟩
    obtain ⟨w, ns, rfl, hl, hw⟩ : ∃ (w : Str) (ns : List Int), d = .tup (.str w :: ns.map .int) ∧ ns.length < 100 ∧ namS.contains w = false := by
      have h1 := List.mem_of_getElem? hd
      simp only [List.mem_cons, List.not_mem_nil, or_false] at h1
      rcases h1 with h | h | h | h | h | h
      · exact ⟨_, [x], h, by show 1 < 100; decide, by decide +kernel⟩
      · exact ⟨_, [x % 8], h, by show 1 < 100; decide, by decide +kernel⟩
      · exact ⟨_, [x % 3], h, by show 1 < 100; decide, by decide +kernel⟩
      · exact ⟨_, [y], h, by show 1 < 100; decide, by decide +kernel⟩
      · exact ⟨_, [], h, by decide, by decide +kernel⟩
      · exact ⟨_, [], h, by decide, by decide +kernel⟩
    refine ⟨Nat.zero_le _, ?_⟩
    refine ⟨w, ns, [], rfl, hl, (under_F hw).symm, fun st2 e2 => iteF ?_⟩
    exact ⟨⟨_, rfl⟩, ext.trans e2⟩
  · rintro ρ st' ⟨⟨a7, rfl⟩, ext⟩
    exact hE _ _ ((ExtS.app _ _).trans ext)
theorem read_turn {E : EndsD} {c k : Int} {a3 a4 a5 a6 a7 : Option Dt} {st : Sto} {items : List Dt} (h3 : st[3]? = some (.rw items)) (hE : ∀ ρ' st', Shape ρ' → st'[3]? = some (.rw items) → E.nx ρ' st') :
    t_turn E [some (.lst 0), some (.int k), some (.int c), a3, a4, a5, a6, a7] st := by
  have hlt : 3 < st.length := lt_of_get h3
  refine ⟨c, k, rfl, fun o ho => ?_⟩
  have H1 : HandAt (st ++ [o]) st.length := ⟨o, get_new, ho⟩
  have g1 : (st ++ [o])[3]? = some (.rw items) := get_app h3
  generalize hh : st.length = h at *
  generalize st ++ [o] = s1 at *
  refine ⟨h, 3, rfl, by decide, by decide, H1, fun v1 s2 _ _ k2 => ?_⟩
  refine ⟨⟨by decide, by decide, by decide⟩, ?_⟩
  refine ⟨h, 10 ^ 9, rfl, by decide, by decide, k2.2, fun v2 s3 _ _ k3 => ?_⟩
  refine ⟨by show 2 ≤ sizeLine; decide, ?_⟩
  have H3 : HandAt (s3 ++ [.rw [.int v1, .int v2]]) h := k3.2.ext (ExtS.app _ _)
  have l3 : s3.length ≠ h := by
    obtain ⟨o, q, _⟩ := k3.2
    have := lt_of_get q
    omega
  refine ⟨h, 2, rfl, by decide, by decide, H3, fun v3 s4 p3 q3 k4 => ?_⟩
  have m4 : s4[s3.length]? = some (.rw [.int v1, .int v2]) := k4.1 _ _ l3 get_new
  have g4 : s4[3]? = some (.rw items) := k4.1 _ _ (by omega) (get_app (k3.1 _ _ (by omega) (k2.1 _ _ (by omega) g1)))
  have main : ∀ x : Int, (tseq (tasg (tbin rIxD (tlst (tacons (tvar 4) (tacons (tcall spDraw (tacons (tvar 3) (tacons (tbin rPow (tcon (Dt.int 10)) (tcon (Dt.int 9))) tanil))) tanil))) (tcall spDraw (tacons (tvar 3) (tacons (tcon (Dt.int 2)) tanil)))) (gname 5)) t_tail) E [some (.lst 0), some (.int k), some (.int c), some (.lst h), some (.int x), a5, a6, a7] s4 := by
    intro x
    refine ⟨⟨by decide, by decide, by decide⟩, ?_⟩
    refine ⟨h, 10 ^ 9, rfl, by decide, by decide, k4.2, fun v5 s5 _ _ k5 => ?_⟩
    refine ⟨by show 2 ≤ sizeLine; decide, ?_⟩
    have H5 : HandAt (s5 ++ [.rw [.int x, .int v5]]) h := k5.2.ext (ExtS.app _ _)
    have l5 : s5.length ≠ h := by
      obtain ⟨o, q, _⟩ := k5.2
      have := lt_of_get q
      omega
    refine ⟨h, 2, rfl, by decide, by decide, H5, fun v6 s6 p6 q6 k6 => ?_⟩
    have m6 : s6[s5.length]? = some (.rw [.int x, .int v5]) := k6.1 _ _ l5 get_new
    have g6 : s6[3]? = some (.rw items) := k6.1 _ _ (by omega) (get_app (k5.1 _ _ (by omega) g4))
    have fin : ∀ y : Int, t_tail E [some (.lst 0), some (.int k), some (.int c), some (.lst h), some (.int x), some (.int y), a6, a7] s6 := by
      intro y
      refine read_words fun a6 s7 e7 => ?_
      refine ⟨by show 2 ≤ sizeLine; decide, by show 1 ≤ sizeLine; decide, ?_⟩
      refine ⟨"nought", [x], [x], rfl, by show 1 < 100; decide, (under_T (by decide +kernel)).symm, fun s8 e8 => iteF ?_⟩
      refine ⟨by show 2 ≤ sizeLine; decide, by show 1 ≤ sizeLine; decide, ?_⟩
      refine ⟨"high", [y], [y], rfl, by show 1 < 100; decide, (under_T (by decide +kernel)).symm, fun s9 e9 => iteF ?_⟩
      refine read_rest fun a7 s10 e10 => ?_
      exact hE _ _ ⟨_, _, _, _, _, _, _, rfl⟩ (e10 _ _ (e9 _ _ (e8 _ _ (e7 _ _ g6))))
    exact pick2 m6 p6 q6 (fin x) (fin v5)
  exact pick2 m4 p3 q3 (main v1) (main v2)
theorem rd_law {ds : List Dt} {st : Sto} {Pd : VD} (h : spLaw ds st Pd) : t_law (Ed Pd) (startD ["script", "k", "cell", "hand", "x", "y", "word", "node"] ds) st := by
  obtain ⟨ns, rfl, rfl, hl, h⟩ := h
  have hc := cut_len ns 63
  refine ⟨by show 1 ≤ sizeLine; decide, ?_, ?_⟩
  · show (L3.cutD (ns.map Dt.int) none (some 63)).length + 1 ≤ sizeLine
    exact Nat.le_of_lt (small (by omega))
  · refine ⟨fun j ρ st' => Shape ρ ∧ st'[3]? = some (.rw (L3.cutD (ns.map Dt.int) none (some 63) ++ [.int ((ns.map Dt.int).length : Nat)])), ⟨⟨_, _, _, _, _, _, _, rfl⟩, rfl⟩, fun _ _ st' _ hh => ?_, ?_, ?_⟩
    · show (st'[3]?).map SO.items = some _
      rw [hh.2]
      rfl
    · rintro i d ρ st' hd ⟨⟨a1, a2, a3, a4, a5, a6, a7, rfl⟩, g3⟩
      obtain ⟨w, hw, rfl⟩ := enum_get hd
      obtain ⟨c, rfl⟩ : ∃ c : Int, w = .int c := by
        have hm := List.mem_of_getElem? hw
        rcases List.mem_append.mp hm with e | e
        · obtain ⟨i, hi⟩ := List.mem_iff_getElem?.mp e
          exact cut_int hi
        · simp only [List.mem_cons, List.not_mem_nil, or_false] at e
          exact ⟨_, e⟩
      refine ⟨rfl, ?_⟩
      exact read_turn g3 fun ρ' st' hs g => ⟨hs, g⟩
    · rintro ρ st' _
      exact h st'
end K19
namespace K20
open PySem PySem.Spec PyProof.Rows L2 L3 KH KS KW
noncomputable abbrev t_law : TSD := (tseq (tasg (tcall KH.spHand (tacons (tcall rSumI (tacons (tvar 0) tanil)) (tacons (tcon (Dt.int 20)) tanil))) (gname 1)) (tseq (tasg (tlistrng (tbin rIxD (tlst (tacons (tcon (Dt.int 5)) (tacons (tcon (Dt.int 60)) tanil))) (tcall KH.spDraw (tacons (tvar 1) (tacons (tcon (Dt.int 2)) tanil))))) (gname 2)) (tseq (tasg (ttup tanil) (gname 3)) (tseq (tasg (tlst tanil) (gname 4)) (tseq (tfor (ienum (tsliceA (tvar 0) tonone (tosome (tcon (Dt.int 63))))) (gunpack 2 (gscons (gname 5) (gscons (gname 6) gsnil))) (tseq (tasg (tcall KH.spHand (tacons (tvar 6) (tacons (tvar 5) tanil))) (gname 7)) (tseq (tfor (irng1 (tcon (Dt.int 2))) (gname 8) (tseq (tasg (tcall spNode (tacons (tvar 7) (tacons (tvar 4) (tacons (tvar 2) tanil)))) (gunpack 2 (gscons (gname 9) (gscons (gname 10) gsnil)))) (tseq (tasg (tbin L3.rAdd (tvar 3) (ttup (tacons (tvar 9) tanil))) (gname 3)) (tseq (tdrop (tappend (tvar 4) (tvar 10))) tnext)))) tnext))) (tseq (tasg (tcall rTuple (tacons (tcomp (irng1 (tcon (Dt.int 8))) (fun x st P => P true st) (tcall KS.spNumber (tacons (tvar 1) tanil)) [(1, "hand")]) tanil)) (gname 11)) (tseq (tasg (tcall rTuple (tacons (tcomp (irng1 (tcon (Dt.int 3))) (fun x st P => P true st) (tbin (rEqD false) (tcall KH.spDraw (tacons (tvar 1) (tacons (tcon (Dt.int 2)) tanil))) (tcon (Dt.int 1))) [(1, "hand")]) tanil)) (gname 12)) (tseq (tasg (tcomp (iseq (tvar 2)) (fun x st P => P true st) (tcall KS.spNumber (tacons (tvar 1) tanil)) [(1, "hand")]) (gname 13)) (tseq (tasg (tcall spWorths (tacons (tvar 3) (tacons (tvar 11) (tacons (tvar 12) (tacons (tvar 13) tanil))))) (gname 14)) (tseq (tifS (tbool (tbin (rCmpI fun i j => decide (j < i)) (tcall rLen (tacons (tcomp (iseq (tvar 14)) (tbool (tbin (rIsD false) (tvar 0) (tcon Dt.non))) (tvar 0) []) tanil)) (tcon (Dt.int 0)))) (tseq (tret (tcon (Dt.bl false))) tnext) tnext) (tseq (tfor (irng1 (tcon (Dt.int 5))) (gname 8) (tseq (tasg (tcall KH.spDraw (tacons (tvar 1) (tacons (tcall rLen (tacons (tvar 2) tanil)) tanil))) (gname 15)) (tseq (tasg (tcall spWorths (tacons (tvar 3) (tacons (tvar 11) (tacons (tvar 12) (tacons (tsliceA (tvar 13) tonone (tosome (tvar 15))) tanil))))) (gname 16)) (tseq (tifS (tbool (tbin (rEqD true) (tcall rLen (tacons (tvar 16) tanil)) (tcall rLen (tacons (tvar 14) tanil)))) (tseq (tret (tcon (Dt.bl false))) tnext) tnext) (tseq (tfor (irng1 (tcall rLen (tacons (tvar 14) tanil))) (gname 5) (tseq (tifS (tandB (tbool (tbin (rIsD true) (tbin rIxD (tvar 16) (tvar 5)) (tcon Dt.non))) (tbool (tbin (rEqD true) (tbin rIxD (tvar 16) (tvar 5)) (tbin rIxD (tvar 14) (tvar 5))))) (tseq (tret (tcon (Dt.bl false))) tnext) tnext) tnext)) tnext))))) (tseq (tasg (tcall rTuple (tacons (tcomp (irng1 (tcall rLen (tacons (tvar 3) tanil))) (fun x st P => P true st) (tcall spFixed (tacons (tbin rIxD (tvar 2) (tvar 0)) (tacons (tbin rIxD (tvar 1) (tvar 0)) tanil))) [(14, "due"), (3, "nodes")]) tanil)) (gname 17)) (tseq (tifS (tbool (tbin (rEqD true) (tcall spWorths (tacons (tvar 17) (tacons (trev (tvar 11)) (tacons (ttup (tacons (tcon (Dt.bl true)) (tacons (tcon (Dt.bl false)) (tacons (tcon (Dt.bl true)) tanil)))) (tacons (tlst tanil) tanil))))) (tvar 14))) (tseq (tret (tcon (Dt.bl false))) tnext) tnext) (tseq (tasg (tcall KH.spDraw (tacons (tvar 1) (tacons (tbin L3.rAdd (tcall rLen (tacons (tvar 3) tanil)) (tcon (Dt.int 1))) tanil))) (gname 18)) (tseq (tifS (tbool (tbin (rEqD true) (tcall spWorths (tacons (tsliceA (tvar 3) tonone (tosome (tvar 18))) (tacons (tvar 11) (tacons (tvar 12) (tacons (tvar 13) tanil))))) (tsliceA (tvar 14) tonone (tosome (tvar 18))))) (tseq (tret (tcon (Dt.bl false))) tnext) tnext) (tseq (tasg (tbin L3.rAdd (tvar 3) (tcall rTuple (tacons (tcomp (iseq (tsliceA (tvar 3) tonone (tosome (tcon (Dt.int 60))))) (fun x st P => P true st) (tcall spMoved (tacons (tvar 0) (tacons (tcall rLen (tacons (tvar 1) tanil)) tanil))) [(3, "nodes")]) tanil))) (gname 19)) (tseq (tret (tbin (rEqD false) (tcall spWorths (tacons (tvar 19) (tacons (tvar 11) (tacons (tvar 12) (tacons (tvar 13) tanil))))) (tbin L3.rAdd (tvar 14) (tsliceA (tvar 14) tonone (tosome (tcon (Dt.int 60))))))) tnext)))))))))))))))))
noncomputable def l16 : TSD := (tseq (tret (tbin (rEqD false) (tcall spWorths (tacons (tvar 19) (tacons (tvar 11) (tacons (tvar 12) (tacons (tvar 13) tanil))))) (tbin L3.rAdd (tvar 14) (tsliceA (tvar 14) tonone (tosome (tcon (Dt.int 60))))))) tnext)
noncomputable def l15 : TSD := (tseq (tasg (tbin L3.rAdd (tvar 3) (tcall rTuple (tacons (tcomp (iseq (tsliceA (tvar 3) tonone (tosome (tcon (Dt.int 60))))) (fun x st P => P true st) (tcall spMoved (tacons (tvar 0) (tacons (tcall rLen (tacons (tvar 1) tanil)) tanil))) [(3, "nodes")]) tanil))) (gname 19)) l16)
noncomputable def l13 : TSD := (tseq (tasg (tcall KH.spDraw (tacons (tvar 1) (tacons (tbin L3.rAdd (tcall rLen (tacons (tvar 3) tanil)) (tcon (Dt.int 1))) tanil))) (gname 18)) (tseq (tifS (tbool (tbin (rEqD true) (tcall spWorths (tacons (tsliceA (tvar 3) tonone (tosome (tvar 18))) (tacons (tvar 11) (tacons (tvar 12) (tacons (tvar 13) tanil))))) (tsliceA (tvar 14) tonone (tosome (tvar 18))))) (tseq (tret (tcon (Dt.bl false))) tnext) tnext) l15))
noncomputable def l11 : TSD := (tseq (tasg (tcall rTuple (tacons (tcomp (irng1 (tcall rLen (tacons (tvar 3) tanil))) (fun x st P => P true st) (tcall spFixed (tacons (tbin rIxD (tvar 2) (tvar 0)) (tacons (tbin rIxD (tvar 1) (tvar 0)) tanil))) [(14, "due"), (3, "nodes")]) tanil)) (gname 17)) (tseq (tifS (tbool (tbin (rEqD true) (tcall spWorths (tacons (tvar 17) (tacons (trev (tvar 11)) (tacons (ttup (tacons (tcon (Dt.bl true)) (tacons (tcon (Dt.bl false)) (tacons (tcon (Dt.bl true)) tanil)))) (tacons (tlst tanil) tanil))))) (tvar 14))) (tseq (tret (tcon (Dt.bl false))) tnext) tnext) l13))
noncomputable def l10 : TSD := (tseq (tfor (irng1 (tcon (Dt.int 5))) (gname 8) (tseq (tasg (tcall KH.spDraw (tacons (tvar 1) (tacons (tcall rLen (tacons (tvar 2) tanil)) tanil))) (gname 15)) (tseq (tasg (tcall spWorths (tacons (tvar 3) (tacons (tvar 11) (tacons (tvar 12) (tacons (tsliceA (tvar 13) tonone (tosome (tvar 15))) tanil))))) (gname 16)) (tseq (tifS (tbool (tbin (rEqD true) (tcall rLen (tacons (tvar 16) tanil)) (tcall rLen (tacons (tvar 14) tanil)))) (tseq (tret (tcon (Dt.bl false))) tnext) tnext) (tseq (tfor (irng1 (tcall rLen (tacons (tvar 14) tanil))) (gname 5) (tseq (tifS (tandB (tbool (tbin (rIsD true) (tbin rIxD (tvar 16) (tvar 5)) (tcon Dt.non))) (tbool (tbin (rEqD true) (tbin rIxD (tvar 16) (tvar 5)) (tbin rIxD (tvar 14) (tvar 5))))) (tseq (tret (tcon (Dt.bl false))) tnext) tnext) tnext)) tnext))))) l11)
noncomputable def l9 : TSD := (tseq (tifS (tbool (tbin (rCmpI fun i j => decide (j < i)) (tcall rLen (tacons (tcomp (iseq (tvar 14)) (tbool (tbin (rIsD false) (tvar 0) (tcon Dt.non))) (tvar 0) []) tanil)) (tcon (Dt.int 0)))) (tseq (tret (tcon (Dt.bl false))) tnext) tnext) l10)
noncomputable def l5 : TSD := (tseq (tasg (tcall rTuple (tacons (tcomp (irng1 (tcon (Dt.int 8))) (fun x st P => P true st) (tcall KS.spNumber (tacons (tvar 1) tanil)) [(1, "hand")]) tanil)) (gname 11)) (tseq (tasg (tcall rTuple (tacons (tcomp (irng1 (tcon (Dt.int 3))) (fun x st P => P true st) (tbin (rEqD false) (tcall KH.spDraw (tacons (tvar 1) (tacons (tcon (Dt.int 2)) tanil))) (tcon (Dt.int 1))) [(1, "hand")]) tanil)) (gname 12)) (tseq (tasg (tcomp (iseq (tvar 2)) (fun x st P => P true st) (tcall KS.spNumber (tacons (tvar 1) tanil)) [(1, "hand")]) (gname 13)) (tseq (tasg (tcall spWorths (tacons (tvar 3) (tacons (tvar 11) (tacons (tvar 12) (tacons (tvar 13) tanil))))) (gname 14)) l9))))
noncomputable def l4 : TSD := (tseq (tfor (ienum (tsliceA (tvar 0) tonone (tosome (tcon (Dt.int 63))))) (gunpack 2 (gscons (gname 5) (gscons (gname 6) gsnil))) (tseq (tasg (tcall KH.spHand (tacons (tvar 6) (tacons (tvar 5) tanil))) (gname 7)) (tseq (tfor (irng1 (tcon (Dt.int 2))) (gname 8) (tseq (tasg (tcall spNode (tacons (tvar 7) (tacons (tvar 4) (tacons (tvar 2) tanil)))) (gunpack 2 (gscons (gname 9) (gscons (gname 10) gsnil)))) (tseq (tasg (tbin L3.rAdd (tvar 3) (ttup (tacons (tvar 9) tanil))) (gname 3)) (tseq (tdrop (tappend (tvar 4) (tvar 10))) tnext)))) tnext))) l5)
noncomputable def b4 : TSD := (tseq (tasg (tcall KH.spHand (tacons (tvar 6) (tacons (tvar 5) tanil))) (gname 7)) (tseq (tfor (irng1 (tcon (Dt.int 2))) (gname 8) (tseq (tasg (tcall spNode (tacons (tvar 7) (tacons (tvar 4) (tacons (tvar 2) tanil)))) (gunpack 2 (gscons (gname 9) (gscons (gname 10) gsnil)))) (tseq (tasg (tbin L3.rAdd (tvar 3) (ttup (tacons (tvar 9) tanil))) (gname 3)) (tseq (tdrop (tappend (tvar 4) (tvar 10))) tnext)))) tnext))
noncomputable def b41 : TSD := (tseq (tasg (tcall spNode (tacons (tvar 7) (tacons (tvar 4) (tacons (tvar 2) tanil)))) (gunpack 2 (gscons (gname 9) (gscons (gname 10) gsnil)))) (tseq (tasg (tbin L3.rAdd (tvar 3) (ttup (tacons (tvar 9) tanil))) (gname 3)) (tseq (tdrop (tappend (tvar 4) (tvar 10))) tnext)))
noncomputable def b103 : TSD := (tseq (tifS (tandB (tbool (tbin (rIsD true) (tbin rIxD (tvar 16) (tvar 5)) (tcon Dt.non))) (tbool (tbin (rEqD true) (tbin rIxD (tvar 16) (tvar 5)) (tbin rIxD (tvar 14) (tvar 5))))) (tseq (tret (tcon (Dt.bl false))) tnext) tnext) tnext)
noncomputable abbrev R (it so b du : Nat) (a : List Nd) (bs : List Int) (ms : List Bool) (x5 x6 x7 x8 x9 x10 x15 x16 x17 x18 x19 : Option Dt) : Rho := [some (.lst 0), some (.lst 1), some (.lst it), some (tab a), some (.lst so), x5, x6, x7, x8, x9, x10, some (bxD bs), some (mkD ms), some (.lst b), some (.lst du), x15, x16, x17, x18, x19]
noncomputable def brF (ns : List Int) : List (Option Int) := ns.map some
structure G (m : Nat) (a : List Nd) (ss : List Nat) (bs : List Int) (ms : List Bool) (ns : List Int) : Prop where
  ok : OkT m a ss
  al : a.length ≤ 126
  m0 : 0 < m
  m1 : m < 100
  b8 : bs.length = 8
  bb : ∀ b ∈ bs, 0 ≤ b ∧ b < 65536
  m3 : ms.length = 3
  nl : ns.length = m
  nb : ∀ n ∈ ns, 0 ≤ n ∧ n < 65536
structure S (st : Sto) (it b du m : Nat) (a : List Nd) (bs : List Int) (ms : List Bool) (ns : List Int) : Prop where
  hand : HandAt st 1
  items : Has st it (rangeD 0 m)
  br : st[b]? = some (.rw (ns.map .int))
  due : st[du]? = some (.rw ((worths a bs ms (brF ns)).map vD))
  n1 : it ≠ 1
  n2 : b ≠ 1
  n3 : du ≠ 1
theorem S.keep {st st' : Sto} {it b du m : Nat} {a : List Nd} {bs : List Int} {ms : List Bool} {ns : List Int} (s : S st it b du m a bs ms ns) (k : Keep 1 st st') : S st' it b du m a bs ms ns :=
  ⟨k.2, has_keep s.items k (Ne.symm s.n1), k.1 _ _ s.n2 s.br, k.1 _ _ s.n3 s.due, s.n1, s.n2, s.n3⟩
theorem S.ext {st st' : Sto} {it b du m : Nat} {a : List Nd} {bs : List Int} {ms : List Bool} {ns : List Int} (s : S st it b du m a bs ms ns) (e : ExtS st st') : S st' it b du m a bs ms ns := s.keep (.of s.hand e)
theorem br_items (ns : List Int) : (brF ns).map oD = ns.map Dt.int := by unfold brF; rw [List.map_map]; rfl
theorem getD_ok {bs : List Int} (h : ∀ b ∈ bs, 0 ≤ b ∧ b < 65536) (i : Nat) : 0 ≤ bs.getD i 0 ∧ bs.getD i 0 < 65536 := by
  by_cases hi : i < bs.length
  · have e : bs.getD i 0 = bs[i] := by simp [List.getD, hi]
    rw [e]; exact h _ (List.getElem_mem hi)
  · have e : bs.getD i 0 = 0 := by rw [List.getD_eq_getElem?_getD, List.getElem?_eq_none (by omega)]; rfl
    rw [e]; exact ⟨by decide, by decide⟩
theorem env_of {bs : List Int} {ms : List Bool} {ns : List Int} (hb : ∀ b ∈ bs, 0 ≤ b ∧ b < 65536) (hn : ∀ n ∈ ns, 0 ≤ n ∧ n < 65536) : Env bs ms (brF ns) := by
  refine ⟨getD_ok hb, fun i v e => ?_⟩
  unfold brF at e
  rw [List.getElem?_map] at e
  cases q : ns[i]? with
  | none => rw [q] at e; cases e
  | some n =>
    rw [q] at e
    have e : n = v := Option.some.inj (Option.some.inj e)
    rw [← e]; exact hn n (List.mem_of_getElem? q)
theorem brF_at {ns : List Int} {i : Nat} (h : i < ns.length) : ∃ v, (brF ns)[i]? = some (some v) := ⟨ns[i], by unfold brF; rw [List.getElem?_map, List.getElem?_eq_getElem h]; rfl⟩
theorem cutT {xs : List Dt} {k : Nat} : L3.cutD xs none (some (k : Int)) = xs.take k := by
  unfold L3.cutD
  rw [HT.sIx_none, HT.sIx_nat, List.drop_zero, Nat.sub_zero]
  rcases Nat.le_total k xs.length with h | h
  · rw [Nat.min_eq_left h]
  · rw [Nat.min_eq_right h, List.take_length, List.take_of_length_le h]
theorem take1 {α : Type} {l : List α} {j : Nat} (h : j < l.length) : l.take (j + 1) = l.take j ++ [l[j]] := by rw [List.take_add_one, List.getElem?_eq_getElem h]; rfl
theorem vall (vs : List Vl) : (vs.map vD).all (okD 8) = true := by
  rw [List.all_map]
  exact List.all_eq_true.mpr fun v _ => by cases v <;> rfl
theorem vself (vs : List Vl) : eqL (eqD 8) (vs.map vD) (vs.map vD) = true := eqL_self fun x hx => by
  obtain ⟨v, _, rfl⟩ := List.mem_map.mp hx
  cases v with
  | n i => show (i == i) = true; exact beq_self_eq_true _
  | b k => show (k == k) = true; exact beq_self_eq_true _
  | non => rfl
theorem eqW {st : Sto} {n m : Nat} {vs : List Vl} {neg : Bool} {P : VD} (e1 : st[n]? = some (.rw (vs.map vD))) (e2 : st[m]? = some (.rw (vs.map vD))) (h : P (.bl (true != neg)) st) : rEqD neg (.lst n) (.lst m) st P := by
  simp only [rEqD, e1, e2, SO.items]
  exact ⟨vall vs, vall vs, by rw [vself]; exact h⟩
section
variable {Pd : VD} {st : Sto} {it so b du m : Nat} {a : List Nd} {ss : List Nat} {bs : List Int} {ms : List Bool} {ns : List Int} {x5 x6 x7 x8 x9 x10 x15 x16 x17 x18 x19 : Option Dt}
theorem law16 (g : G m a ss bs ms ns) (s : S st it b du m a bs ms ns) (hP : ∀ st', Pd (.bl true) st') :
    l16 (Ed Pd) (R it so b du a bs ms x5 x6 x7 x8 x9 x10 x15 x16 x17 x18 (some (tab (a ++ (a.take 60).map (moved a.length))))) st := by
  have hal := g.al
  have hlen : (a ++ (a.take 60).map (moved a.length)).length < 500 := by
    rw [List.length_append, List.length_map]
    have := List.length_take_le' 60 a
    omega
  refine ⟨m, _, ss ++ ss.take 60, bs, ms, b, brF ns, rfl, ⟨_, s.br, (br_items ns).symm⟩, both_ok g.ok (g.ok.take 60), env_of g.bb g.nb, g.b8, g.m3, hlen, by unfold brF; rw [List.length_map, g.nl]; have := g.m1; omega, fun s1 r e1 hr g1 => ?_⟩
  rw [both_of, worths_take] at g1
  obtain ⟨W, hW⟩ : ∃ W, W = worths a bs ms (brF ns) := ⟨_, rfl⟩
  have hWl : W.length = a.length := by rw [hW, worths_len]
  have hd := e1 _ _ s.due
  rw [← hW] at g1 hd
  simp only [tbin, tvar, tsliceA, tonone, tosome, tcon, List.getElem?_cons_zero, List.getElem?_cons_succ, hd, SO.items]
  have hcut : L3.cutD (W.map vD) none (some 60) = (W.take 60).map vD := by
    have := cutT (xs := W.map vD) (k := 60)
    rw [← List.map_take] at this
    exact this
  rw [hcut]
  simp only [L3.rAdd, get_app hd, get_new]
  refine ⟨?_, ?_⟩
  · rw [List.length_map, List.length_map]
    have := List.length_take_le' 60 W
    exact Nat.le_of_lt (small (by omega))
  · rw [← List.map_append]
    exact eqW (get_app (get_app g1)) get_new (hP _)
theorem law15 (g : G m a ss bs ms ns) (s : S st it b du m a bs ms ns) (hP : ∀ st', Pd (.bl true) st') : l15 (Ed Pd) (R it so b du a bs ms x5 x6 x7 x8 x9 x10 x15 x16 x17 x18 x19) st := by
  have hal := g.al
  simp only [l15, tseq, tasg, tbin, tvar, tcall, tacons, tcomp, iseq, tsliceA, tonone, tosome, tcon, gname, capρ, List.map_cons, List.map_nil, Option.join_some, List.getElem?_cons_zero, List.getElem?_cons_succ, List.set_cons_zero, List.set_cons_succ, tab, seqOf]
  have hcut : L3.cutD (a.map nD) none (some 60) = (a.take 60).map nD := by
    have := cutT (xs := a.map nD) (k := 60)
    rw [← List.map_take] at this
    exact this
  rw [hcut]
  have htl := List.length_take_le' 60 a
  refine ⟨fun j ys s' => ys = ((a.take 60).take j).map (fun nd => nD (moved a.length nd)) ∧ ExtS st s', ⟨rfl, .refl _⟩, fun _ _ _ _ _ => trivial, ?_, ?_⟩
  · rintro j d ys s' hd ⟨rfl, ext⟩
    have hj := lt_of_get hd
    rw [List.length_map] at hj
    have e3 : (a.take 60)[j]? = some (a.take 60)[j] := List.getElem?_eq_getElem hj
    rw [List.getElem?_map, e3] at hd
    have hd : d = nD (a.take 60)[j] := (Option.some.inj hd).symm
    subst hd
    have := List.length_take_le' j (a.take 60)
    refine ⟨by rw [List.length_map]; exact small (by omega), iteT ?_⟩
    simp only [tcall, tacons, tvar, List.getElem?_cons_zero, List.getElem?_cons_succ, rLen, seqOf, tanil]
    rw [List.length_map]
    refine ⟨_, a.length, rfl, fun s2 e2 => ⟨?_, ext.trans e2⟩⟩
    rw [take1 hj, List.map_append]
    rfl
  · rintro ys s' ⟨rfl, ext⟩
    rw [List.length_map, List.take_length]
    simp only [tanil, rTuple, seqOf, get_new, Option.map_some, SO.items, L3.rAdd]
    refine ⟨by rw [List.length_map, List.length_map]; exact Nat.le_of_lt (small (by omega)), ?_⟩
    have := law16 (x5 := x5) (x6 := x6) (x7 := x7) (x8 := x8) (x9 := x9) (x10 := x10) (x15 := x15) (x16 := x16) (x17 := x17) (x18 := x18) (so := so) g (s.ext (ext.trans (.app _ (.rw (List.map (fun nd => nD (moved a.length nd)) (a.take 60)))))) hP
    simp only [R, tab, List.map_append, List.map_map] at this
    exact this
theorem law13 (g : G m a ss bs ms ns) (s : S st it b du m a bs ms ns) (hP : ∀ st', Pd (.bl true) st') : l13 (Ed Pd) (R it so b du a bs ms x5 x6 x7 x8 x9 x10 x15 x16 x17 x18 x19) st := by
  have hal := g.al
  simp only [l13, tseq, tasg, tbin, tvar, tcall, tacons, tanil, tcon, gname, tifS, tbool, List.getElem?_cons_zero, List.getElem?_cons_succ, List.set_cons_zero, List.set_cons_succ, tab, rLen, seqOf, L3.rAdd]
  rw [List.length_map]
  refine ⟨1, ((a.length : Nat) : Int) + 1, rfl, by omega, by omega, s.hand, fun v s1 v0 v1 k1 => ?_⟩
  obtain ⟨c, rfl⟩ : ∃ c : Nat, v = (c : Int) := ⟨v.toNat, by omega⟩
  have s1' := s.keep k1
  simp only [tsliceA, tvar, tonone, tosome, List.getElem?_cons_zero, List.getElem?_cons_succ]
  rw [show L3.cutD (a.map nD) none (some (c : Int)) = (a.take c).map nD by rw [cutT, List.map_take]]
  have := List.length_take_le' c a
  refine ⟨m, a.take c, ss.take c, bs, ms, b, brF ns, rfl, ⟨_, s1'.br, (br_items ns).symm⟩, g.ok.take c, env_of g.bb g.nb, g.b8, g.m3, by omega, by unfold brF; rw [List.length_map, g.nl]; have := g.m1; omega, fun s2 r e2 hr g2 => ?_⟩
  rw [worths_take] at g2
  have hd := e2 _ _ s1'.due
  simp only [tvar, List.getElem?_cons_zero, List.getElem?_cons_succ, hd, SO.items]
  rw [cutT, ← List.map_take]
  refine eqW (get_app g2) get_new ?_
  exact law15 g ((s1'.ext e2).ext (.app _ _)) hP
theorem pickN {st : Sto} {a : List Nd} {k : Nat} {P : VD} (h : k < a.length) (hp : P (nD a[k]) st) : rIxD (.tup (a.map nD)) (.int (k : Int)) st P := by
  refine pickT (by omega) (by rw [List.length_map]; omega) fun d hd => ?_
  rw [Int.toNat_natCast, List.getElem?_map, List.getElem?_eq_getElem h] at hd
  rw [← (Option.some.inj hd)]
  exact hp
theorem pickW {st : Sto} {n k : Nat} {vs : List Vl} {P : VD} (e : st[n]? = some (.rw (vs.map vD))) (h : k < vs.length) (hp : P (vD vs[k]) st) : rIxD (.lst n) (.int (k : Int)) st P := by
  obtain ⟨d, ha, _, hg⟩ := atI_of (xs := vs.map vD) (v := (k : Int)) (by omega) (by rw [List.length_map]; omega)
  refine pickAt e ha ?_
  rw [Int.toNat_natCast, List.getElem?_map, List.getElem?_eq_getElem h] at hg
  rw [← (Option.some.inj hg)]
  exact hp
theorem law11 (g : G m a ss bs ms ns) (s : S st it b du m a bs ms ns) (hP : ∀ st', Pd (.bl true) st') : l11 (Ed Pd) (R it so b du a bs ms x5 x6 x7 x8 x9 x10 x15 x16 x17 x18 x19) st := by
  have hal := g.al
  have env := env_of (ms := ms) g.bb g.nb
  have hbr : ∀ i, i < m → ∃ v, (brF ns)[i]? = some (some v) := fun i hi => brF_at (by rw [g.nl]; exact hi)
  obtain ⟨W, hW⟩ : ∃ W, W = worths a bs ms (brF ns) := ⟨_, rfl⟩
  have hWl : W.length = a.length := by rw [hW, worths_len]
  simp only [l11, tseq, tasg, tvar, tcall, tacons, tcomp, irng1, gname, capρ, List.map_cons, List.map_nil, Option.join_some, List.getElem?_cons_zero, List.getElem?_cons_succ, List.set_cons_zero, List.set_cons_succ, tab, tanil, rLen, seqOf]
  rw [List.length_map]
  refine ⟨by omega, by omega, ?_⟩
  rw [Int.toNat_natCast]
  refine ⟨fun j ys s' => ys = ((fixAll a W).take j).map nD ∧ ExtS st s', ⟨rfl, .refl _⟩, fun _ _ _ _ _ => trivial, ?_, ?_⟩
  · rintro j d ys s' hd ⟨rfl, ext⟩
    obtain ⟨hj, rfl⟩ := range_get hd
    have := List.length_take_le j (fixAll a W)
    refine ⟨by rw [List.length_map]; exact small (by omega), iteT ?_⟩
    rw [Int.zero_add]
    simp only [tcall, tacons, tanil, tbin, tvar, List.getElem?_cons_zero, List.getElem?_cons_succ]
    refine pickN hj ?_
    have hd2 := (s.ext ext).due
    rw [← hW] at hd2
    refine pickW hd2 (by omega) ?_
    have hw : W[j]'(by omega) = worth a[j] (worths (a.take j) bs ms (brF ns)) bs ms (brF ns) := by
      have q := worths_get (bx := bs) (mk := ms) (br := brF ns) hj
      rw [← hW, List.getElem?_eq_getElem (by omega)] at q
      exact Option.some.inj q
    refine ⟨a[j], W[j]'(by omega), rfl, fun k e => ?_, fun k e => ?_, fun k e => ?_, fun s2 e2 => ⟨?_, ext.trans e2⟩⟩
    · rw [hw, e]; exact leaf_mark
    · rw [hw, e]; exact leaf_box
    · rw [hw, e]
      obtain ⟨v, hv⟩ := hbr k (item_lt g.ok hj e)
      exact leaf_item hv
    · have hz : (fixAll a W)[j]? = some (fixed a[j] (W[j]'(by omega))) := by
        unfold fixAll
        rw [List.getElem?_zipWith, List.getElem?_eq_getElem hj, List.getElem?_eq_getElem (by omega)]
      rw [List.take_add_one, hz, List.map_append]
      rfl
  · rintro ys s' ⟨rfl, ext⟩
    have hfl : (fixAll a W).length = a.length := by unfold fixAll; rw [List.length_zipWith, hWl, Nat.min_self]
    have hrl : (rangeD 0 a.length).length = a.length := by simp [rangeD]
    rw [hrl, List.take_of_length_le (by omega)]
    simp only [rTuple, seqOf, get_new, Option.map_some, SO.items, tifS, tbool, tbin, tvar, tcall, tacons, ttup, tlst, tcon, tanil, trev, bxD, List.getElem?_cons_zero, List.getElem?_cons_succ, List.set_cons_zero, List.set_cons_succ]
    refine ⟨by show 3 ≤ sizeLine; decide, Nat.zero_le _, ?_⟩
    have sF := (s.ext ext).ext (.app _ (.rw (List.map nD (fixAll a W))))
    refine ⟨m, fixAll a W, ss, bs.reverse, [true, false, true], _, [], ?_, ⟨_, get_new, rfl⟩, by rw [hW]; exact fix_ok env hbr g.ok, ⟨getD_ok fun b hb => g.bb b (List.mem_reverse.mp hb), fun i v e => by simp at e⟩, by rw [List.length_reverse]; exact g.b8, rfl, by omega, by show 0 < 500; decide, fun s2 r e2 hr g2 => ?_⟩
    · rw [← List.map_reverse]; rfl
    · rw [hW, fix_of env hbr g.ok, ← hW] at g2
      have sG := (sF.ext (.app _ (.rw []))).ext e2
      have hd2 := sG.due
      rw [← hW] at hd2
      refine eqW g2 hd2 ?_
      exact law13 g sG hP
theorem isNn {i : Int} {st : Sto} {P : VD} : rIsD true (.int i) .non st P = P (.bl true) st := rfl
theorem isNb {q : Bool} {st : Sto} {P : VD} : rIsD true (.bl q) .non st P = P (.bl true) st := rfl
theorem law103 {E : EndsD} {st : Sto} {fo : Nat} {k : Nat} {F : List Vl} {x6 x7 x8 x9 x10 x15 x17 x18 x19 : Option Dt} (s : S st it b du m a bs ms ns) (hf : st[fo]? = some (.rw (F.map vD))) (hk : k < F.length) (hk2 : k < (worths a bs ms (brF ns)).length) (hl : F[k] = .non ∨ F[k] = (worths a bs ms (brF ns))[k])
    (hE : E.nx (R it so b du a bs ms (some (.int (0 + (k : Nat)))) x6 x7 x8 x9 x10 x15 (some (.lst fo)) x17 x18 x19) st) :
    b103 E (R it so b du a bs ms (some (.int (0 + (k : Nat)))) x6 x7 x8 x9 x10 x15 (some (.lst fo)) x17 x18 x19) st := by
  simp only [b103, tseq, tifS, tandB, tbool, tbin, tvar, tcon, List.getElem?_cons_zero, List.getElem?_cons_succ, tnext]
  rw [Int.zero_add] at hE ⊢
  refine pickW hf hk ?_
  rcases hl with hl | hl
  · rw [hl]
    exact hE
  · have hd := s.due
    have hre : rEqD true (vD F[k]) (vD (worths a bs ms (brF ns))[k]) st (fun x st1 => match x with | .bl q => (if q = true then (tseq (tret (tcon (Dt.bl false))) tnext) { E with nx := tnext E } (R it so b du a bs ms (some (.int (k : Nat))) x6 x7 x8 x9 x10 x15 (some (.lst fo)) x17 x18 x19) st1 else E.nx (R it so b du a bs ms (some (.int (k : Nat))) x6 x7 x8 x9 x10 x15 (some (.lst fo)) x17 x18 x19) st1) | _ => False) := by
      rw [hl]
      generalize (worths a bs ms (brF ns))[k] = v
      have ok : okD 8 (vD v) = true := by cases v <;> rfl
      have gen : okD 8 (vD v) = true ∧ okD 8 (vD v) = true ∧ (match (Dt.bl (eqD 8 (vD v) (vD v) != true)) with | .bl q => (if q = true then (tseq (tret (tcon (Dt.bl false))) tnext) { E with nx := tnext E } (R it so b du a bs ms (some (.int (k : Nat))) x6 x7 x8 x9 x10 x15 (some (.lst fo)) x17 x18 x19) st else E.nx (R it so b du a bs ms (some (.int (k : Nat))) x6 x7 x8 x9 x10 x15 (some (.lst fo)) x17 x18 x19) st) | _ => False) := by
        refine ⟨ok, ok, ?_⟩
        rw [eqD_self ok]
        exact hE
      cases v <;> exact gen
    cases hv : F[k] with
    | non => exact hE
    | n i =>
      rw [show vD (Vl.n i) = Dt.int i from rfl, isNn]
      simp only [if_true]
      refine pickW hf hk ?_
      refine pickW hd hk2 ?_
      exact hre
    | b q =>
      rw [show vD (Vl.b q) = Dt.bl q from rfl, isNb]
      simp only [if_true]
      refine pickW hf hk ?_
      refine pickW hd hk2 ?_
      exact hre
theorem law10 (g : G m a ss bs ms ns) (s : S st it b du m a bs ms ns) (hP : ∀ st', Pd (.bl true) st') : l10 (Ed Pd) (R it so b du a bs ms x5 x6 x7 x8 x9 x10 x15 x16 x17 x18 x19) st := by
  have hal := g.al
  refine ⟨by decide, by decide, ?_⟩
  refine ⟨fun i ρ s' => (∃ y5 y8 y15 y16, ρ = R it so b du a bs ms y5 x6 x7 y8 x9 x10 y15 y16 x17 x18 x19) ∧ S s' it b du m a bs ms ns, ⟨⟨_, _, _, _, rfl⟩, s⟩, fun _ _ _ _ _ => trivial, ?_, ?_⟩
  · rintro i d ρ s' hd ⟨⟨y5, y8, y15, y16, rfl⟩, s2⟩
    obtain ⟨hi, rfl⟩ := range_get hd
    simp only [gname, tcall, tacons, tanil, tvar, tasg, tseq, tsliceA, tonone, tosome, tbool, tbin, tifS, List.getElem?_cons_zero, List.getElem?_cons_succ, List.set_cons_zero, List.set_cons_succ]
    refine lenL s2.items ?_
    have hml : (rangeD 0 m).length = m := by simp [rangeD]
    rw [hml]
    refine ⟨1, (m : Nat), rfl, by have := g.m0; omega, by have := g.m1; omega, s2.hand, fun v s3 v0 v1 k3 => ?_⟩
    obtain ⟨c, rfl⟩ : ∃ c : Nat, v = (c : Int) := ⟨v.toNat, by omega⟩
    have s3' := s2.keep k3
    simp only [s3'.br, SO.items]
    rw [cutT, ← List.map_take]
    have s4 := s3'.ext (.app _ (.rw ((ns.take c).map Dt.int)))
    have hcl := List.length_take_le' c ns
    refine ⟨m, a, ss, bs, ms, _, brF (ns.take c), rfl, ⟨_, get_new, (br_items _).symm⟩, g.ok, env_of g.bb fun n hn => g.nb n (List.mem_of_mem_take hn), g.b8, g.m3, by omega, by unfold brF; rw [List.length_map]; have := g.m1; have := g.nl; omega, fun s5 r e5 hr g5 => ?_⟩
    have s5' := s4.ext e5
    have less : Less (worths a bs ms (brF (ns.take c))) (worths a bs ms (brF ns)) := less_of fun i v e => by
      unfold brF at e ⊢
      rw [List.map_take] at e
      by_cases hi : i < c
      · rw [List.getElem?_take_of_lt hi] at e; exact e
      · rw [List.getElem?_eq_none (by simp; omega)] at e; cases e
    have hFl : (worths a bs ms (brF (ns.take c))).length = a.length := by rw [worths_len]
    have hWl : (worths a bs ms (brF ns)).length = a.length := by rw [worths_len]
    refine lenL ⟨_, g5, rfl⟩ ?_
    refine lenL ⟨_, s5'.due, rfl⟩ ?_
    have e1 : (SO.rw ((worths a bs ms (brF (ns.take c))).map vD)).items.length = a.length := by show (List.map vD _).length = _; rw [List.length_map, hFl]
    have e2 : (SO.rw ((worths a bs ms (brF ns)).map vD)).items.length = a.length := by show (List.map vD _).length = _; rw [List.length_map, hWl]
    rw [e1, e2]
    refine ⟨rfl, rfl, ?_⟩
    refine iteBF (show ((((a.length : Nat) : Int) == ((a.length : Nat) : Int)) != true) = false by simp) ?_
    simp only [tnext, tseq, tfor, irng1, tcall, tacons, tanil, tvar, List.getElem?_cons_zero, List.getElem?_cons_succ]
    refine lenL ⟨_, s5'.due, rfl⟩ ?_
    rw [e2]
    refine ⟨by omega, by omega, ?_⟩
    rw [Int.toNat_natCast]
    refine ⟨fun j ρ s' => (∃ y5, ρ = R it so b du a bs ms y5 x6 x7 (some (.int (0 + (i : Nat)))) x9 x10 (some (.int c)) (some (.lst r)) x17 x18 x19) ∧ s' = s5, ⟨⟨_, rfl⟩, rfl⟩, fun _ _ _ _ _ => trivial, ?_, ?_⟩
    · rintro j d ρ s' hd ⟨⟨y5, rfl⟩, rfl⟩
      obtain ⟨hj, rfl⟩ := range_get hd
      have hj1 : j < (worths a bs ms (brF (ns.take c))).length := by rw [hFl]; exact hj
      have hj2 : j < (worths a bs ms (brF ns)).length := by rw [hWl]; exact hj
      refine law103 s5' g5 hj1 hj2 (less.2 j _ _ (List.getElem?_eq_getElem hj1) (List.getElem?_eq_getElem hj2)) ?_
      exact ⟨⟨_, rfl⟩, rfl⟩
    · rintro ρ s' ⟨⟨y5, rfl⟩, rfl⟩
      exact ⟨⟨_, _, _, _, rfl⟩, s5'⟩
  · rintro ρ s' ⟨⟨y5, y8, y15, y16, rfl⟩, s2⟩
    exact law11 g s2 hP
theorem law9 (g : G m a ss bs ms ns) (s : S st it b du m a bs ms ns) (hP : ∀ st', Pd (.bl true) st') : l9 (Ed Pd) (R it so b du a bs ms x5 x6 x7 x8 x9 x10 x15 x16 x17 x18 x19) st := by
  have env := env_of (ms := ms) g.bb g.nb
  have hbr : ∀ i, i < m → ∃ v, (brF ns)[i]? = some (some v) := fun i hi => brF_at (by rw [g.nl]; exact hi)
  have full := full_of env hbr g.ok
  simp only [l9, tseq, tifS, tbool, tbin, tcall, tacons, tcomp, iseq, tvar, capρ, List.map_nil, List.getElem?_cons_zero, List.getElem?_cons_succ, seqOf, s.due, Option.map_some, SO.items]
  refine ⟨fun j ys s' => ys = [] ∧ s' = st, ⟨rfl, rfl⟩, fun _ _ s' _ q => by show (s'[du]?).map SO.items = _; rw [q.2, s.due]; rfl, ?_, ?_⟩
  · rintro j d ys s' hd ⟨rfl, rfl⟩
    obtain ⟨v, hv, rfl⟩ := List.mem_map.mp (List.mem_of_getElem? hd)
    refine ⟨small (by decide), ?_⟩
    have hne := full v hv
    cases v with
    | n i => exact ⟨rfl, rfl⟩
    | b k => exact ⟨rfl, rfl⟩
    | non => exact absurd rfl hne
  · rintro ys s' ⟨rfl, rfl⟩
    simp only [tanil, tcon, rCmpI]
    refine lenL ⟨_, get_new, rfl⟩ ?_
    refine iteBF (decide_eq_false (by show ¬ (0 : Int) < ((0 : Nat) : Int); decide)) ?_
    exact law10 g (s.ext (.app _ _)) hP
end
theorem marks_comp {ρ : Rho} {st : Sto} {P : VD} {h j : Nat} (hρ : ρ[j]? = some (some (.lst h))) (ha : HandAt st h) (hP : ∀ (bs : List Bool) st', bs.length = 3 → Keep h st st' → P (.tup (bs.map .bl)) st') :
    (tcall rTuple (tacons (tcomp (irng1 (tcon (Dt.int 3))) (fun x st P => P true st) (tbin (rEqD false) (tcall KH.spDraw (tacons (tvar 1) (tacons (tcon (Dt.int 2)) tanil))) (tcon (Dt.int 1))) [(j, "hand")]) tanil)) ρ st P := by
  simp only [tcall, tacons, tcomp, irng1, tcon, capρ, List.map_cons, List.map_nil, hρ, Option.join_some]
  refine ⟨by decide, by decide, ?_⟩
  refine ⟨fun i ys s => ∃ bs : List Bool, ys = bs.map .bl ∧ bs.length = i ∧ Keep h st s, ⟨[], rfl, rfl, .refl ha⟩, fun _ _ _ _ _ => trivial, ?_, ?_⟩
  · rintro i d ys s hd ⟨bs, rfl, hl, k⟩
    obtain ⟨hi, rfl⟩ := range_get hd
    refine ⟨by rw [List.length_map, hl]; exact small (by have : i < 3 := hi; omega), ?_⟩
    refine iteT ?_
    refine ⟨h, 2, rfl, by decide, by decide, k.2, fun v s1 v0 v1 k1 => ?_⟩
    refine ⟨rfl, rfl, bs ++ [eqD 8 (Dt.int v) (Dt.int 1) != false], ?_, by simp [hl], k.trans k1⟩
    rw [List.map_append]; rfl
  · rintro ys s ⟨bs, rfl, hl, k⟩
    simp only [rTuple, seqOf, get_new, Option.map_some, SO.items, tanil]
    exact hP bs _ hl (k.app _)
structure Keep2 (h so : Nat) (st st' : Sto) : Prop where
  k : ∀ i o, i ≠ h → i ≠ so → st[i]? = some o → st'[i]? = some o
noncomputable abbrev RA (it so : Nat) (a : List Nd) (x5 x6 x7 x8 x9 x10 : Option Dt) : Rho := [some (.lst 0), some (.lst 1), some (.lst it), some (tab a), some (.lst so), x5, x6, x7, x8, x9, x10, none, none, none, none, none, none, none, none, none]
theorem law5 {Pd : VD} {st : Sto} {it so m : Nat} {a : List Nd} {ss : List Nat} {x5 x6 x7 x8 x9 x10 : Option Dt} (ok : OkT m a ss) (al : a.length ≤ 126) (m0 : 0 < m) (m1 : m < 100) (hh : HandAt st 1) (hi : Has st it (rangeD 0 m)) (n1 : it ≠ 1) (hP : ∀ st', Pd (.bl true) st') :
    l5 (Ed Pd) (RA it so a x5 x6 x7 x8 x9 x10) st := by
  refine nums_comp (ρ := RA it so a x5 x6 x7 x8 x9 x10) (j := 1) rfl hh fun bs s1 hb hbb k1 => ?_
  refine marks_comp (ρ := [some (.lst 0), some (.lst 1), some (.lst it), some (tab a), some (.lst so), x5, x6, x7, x8, x9, x10, some (isD bs), none, none, none, none, none, none, none, none]) (j := 1) rfl k1.2 fun ms s2 hms k2 => ?_
  have hi2 := has_keep (has_keep hi k1 (Ne.symm n1)) k2 (Ne.symm n1)
  have l1 : 1 < s2.length := by obtain ⟨o, q, _⟩ := k2.2; exact lt_of_get q
  show (match seqOf s2 (.lst it) with | some xs => _ | none => _)
  rw [seq_has hi2]
  have hml : (rangeD 0 m).length = m := by simp [rangeD]
  refine ⟨fun j ys s' => ∃ ns : List Int, ys = ns.map .int ∧ ns.length = j ∧ (∀ n ∈ ns, 0 ≤ n ∧ n < 65536) ∧ Keep 1 s2 s', ⟨[], rfl, rfl, by simp, .refl k2.2⟩, fun _ _ s' _ q => by obtain ⟨_, _, _, _, k⟩ := q; exact seq_has (has_keep hi2 k (Ne.symm n1)), ?_, ?_⟩
  · rintro j d ys s' hd ⟨ns, rfl, hl, hb', k⟩
    have hj := lt_of_get hd
    rw [hml] at hj
    refine ⟨by rw [List.length_map]; exact small (by omega), iteT ?_⟩
    refine ⟨1, rfl, k.2, fun v s3 v0 v1 k3 => ?_⟩
    refine ⟨ns ++ [v], by rw [List.map_append]; rfl, by simp [hl], fun n hn => ?_, k.trans k3⟩
    rcases List.mem_append.mp hn with q | q
    · exact hb' n q
    · rw [List.mem_singleton.mp q]; exact ⟨v0, v1⟩
  · rintro ys s3 ⟨ns, rfl, hl, hb', k3⟩
    rw [hml] at hl
    have l3 : 1 < s3.length := by obtain ⟨o, q, _⟩ := k3.2; exact lt_of_get q
    have g : G m a ss bs ms ns := ⟨ok, al, m0, m1, hb, hbb, hms, hl, hb'⟩
    have k4 := k3.app (.rw (ns.map Dt.int))
    refine ⟨m, a, ss, bs, ms, _, brF ns, rfl, ⟨_, get_new, (br_items ns).symm⟩, ok, env_of hbb hb', hb, hms, by omega, by unfold brF; rw [List.length_map]; omega, fun s5 r e5 hr g5 => ?_⟩
    have k5 := k4.trans (.of k4.2 e5)
    have s : S s5 it s3.length r m a bs ms ns := ⟨k5.2, has_keep hi2 k5 (Ne.symm n1), e5 _ _ get_new, g5, n1, by omega, by rw [List.length_append] at hr; simp at hr; omega⟩
    exact law9 g s hP
theorem law41 {E : EndsD} {st : Sto} {it so ow m : Nat} {a : List Nd} {ss : List Nat} {x5 x6 x8 x9 x10 : Option Dt} (ok : OkT m a ss) (al : a.length < 126) (m0 : 0 < m) (m1 : m < 100) (ho : HandAt st ow) (hi : Has st it (rangeD 0 m)) (hs : st[so]? = some (.rw (Sorts ss))) (n1 : ow ≠ so) (n2 : ow ≠ it) (n3 : so ≠ it)
    (hE : ∀ nd s st' x9 x10, OkN ss m nd s → Keep2 ow so st st' → st'[so]? = some (.rw (Sorts (ss ++ [s]))) → HandAt st' ow → E.nx (RA it so (a ++ [nd]) x5 x6 (some (.lst ow)) x8 x9 x10) st') :
    b41 E (RA it so a x5 x6 (some (.lst ow)) x8 x9 x10) st := by
  refine ⟨ow, so, it, m, ss, rfl, ho, n1, n2, ⟨_, hs, rfl⟩, by have := ok.len; omega, hi, m0, m1, fun nd s s1 on k1 => ?_⟩
  refine ⟨rfl, ?_⟩
  simp only [gscons, gname, gsnil, tseq, tasg, tbin, tvar, ttup, tacons, tanil, tdrop, tappend, tnext, tab, L3.rAdd, List.getElem?_cons_zero, List.getElem?_cons_succ, List.set_cons_zero, List.set_cons_succ]
  refine ⟨by show 1 ≤ sizeLine; decide, ?_, ?_⟩
  · show (a.map nD).length + 1 ≤ sizeLine
    rw [List.length_map]
    exact Nat.le_of_lt (small (by omega))
  have g1 := k1.1 _ _ (Ne.symm n1) hs
  rw [g1]
  refine ⟨by unfold Sorts; rw [List.length_map]; exact small (by have := ok.len; omega), ?_⟩
  have := hE nd s (s1.set so (.rw (Sorts ss ++ [.int (s : Nat)]))) (some (nD nd)) (some (.int (s : Nat))) on ⟨fun i o n n' q => get_set_ne (k1.1 i o n q) (Ne.symm n')⟩ (by rw [get_set_self g1]; unfold Sorts; rw [List.map_append]; rfl) (by obtain ⟨o, q, r⟩ := k1.2; exact ⟨o, get_set_ne q (Ne.symm n1), r⟩)
  simp only [RA, tab, List.map_append] at this
  exact this
theorem law4 {E : EndsD} {st : Sto} {it so m i : Nat} {a : List Nd} {ss : List Nat} {k c : Int} {x7 x8 x9 x10 : Option Dt} (ok : OkT m a ss) (al : a.length + 2 ≤ 126) (m0 : 0 < m) (m1 : m < 100) (hi : Has st it (rangeD 0 m)) (hs : st[so]? = some (.rw (Sorts ss))) (n3 : so ≠ it) (ni : it < st.length)
    (hE : ∀ a' ss' st' x7 x8 x9 x10, OkT m a' ss' → a'.length = a.length + 2 → (∀ i o, i ≠ so → st[i]? = some o → st'[i]? = some o) → st'[so]? = some (.rw (Sorts ss')) → E.nx (RA it so a' (some (.int k)) (some (.int c)) x7 x8 x9 x10) st') :
    b4 E (RA it so a (some (.int k)) (some (.int c)) x7 x8 x9 x10) st := by
  have hsl := lt_of_get hs
  refine ⟨c, k, rfl, fun o ho => ?_⟩
  refine ⟨by decide, by decide, ?_⟩
  refine ⟨fun j ρ s' => ∃ a' ss' y8 y9 y10, ρ = RA it so a' (some (.int k)) (some (.int c)) (some (.lst st.length)) y8 y9 y10 ∧ OkT m a' ss' ∧ a'.length = a.length + j ∧ Keep2 st.length so (st ++ [o]) s' ∧ s'[so]? = some (.rw (Sorts ss')) ∧ HandAt s' st.length, ?_, fun _ _ _ _ _ => trivial, ?_, ?_⟩
  · exact ⟨a, ss, _, _, _, rfl, ok, rfl, ⟨fun _ _ _ _ q => q⟩, get_app hs, ⟨o, get_new, ho⟩⟩
  · rintro j d ρ s' hd ⟨a', ss', y8, y9, y10, rfl, ok', al', k2, gs, hh⟩
    obtain ⟨hj, rfl⟩ := range_get hd
    have hj : j < 2 := hj
    have hi' : Has s' it (rangeD 0 m) := by
      obtain ⟨o', q, r⟩ := hi
      exact ⟨o', k2.k _ _ (by omega) (Ne.symm n3) (get_app q), r⟩
    refine law41 ok' (by omega) m0 m1 hh hi' gs (by omega) (by omega) n3 fun nd s st' z9 z10 on k3 g3 h3 => ?_
    exact ⟨a' ++ [nd], ss' ++ [s], _, _, _, rfl, .snoc ok' on, by simp [al']; omega, ⟨fun i o n n' q => k3.k i o n n' (k2.k i o n n' q)⟩, g3, h3⟩
  · rintro ρ s' ⟨a', ss', y8, y9, y10, rfl, ok', al', k2, gs, hh⟩
    refine hE a' ss' s' _ _ _ _ ok' al' (fun i o n q => ?_) gs
    exact k2.k i o (by have := lt_of_get q; omega) n (get_app q)
theorem rd_law {ds : List Dt} {st : Sto} {Pd : VD} (h : spLaw ds st Pd) : t_law (Ed Pd) (startD ["script", "hand", "items", "nodes", "sorts", "k", "cell", "own", "turn", "node", "sort", "boxes", "marks", "brought", "due", "many", "found", "fixed", "cut", "both"] ds) st := by
  obtain ⟨ns, rfl, rfl, hl, hP⟩ := h
  refine ⟨ns, rfl, ?_⟩
  refine ⟨_, _, rfl, fun o ho => ?_⟩
  obtain ⟨s0, hs0⟩ : ∃ s0, s0 = [SO.ro (ns.map .int)] ++ [o] := ⟨_, rfl⟩
  have H1 : HandAt s0 1 := by rw [hs0]; exact ⟨o, rfl, ho⟩
  have S0 : s0[0]? = some (.ro (ns.map .int)) := by rw [hs0]; rfl
  have L0 : s0.length = 2 := by rw [hs0]; rfl
  rw [← hs0]
  refine ⟨by show 2 ≤ sizeLine; decide, ?_⟩
  refine ⟨1, 2, rfl, by decide, by decide, ((Keep.refl H1).app _).2, fun v s1 v0 v1 k1 => ?_⟩
  have K1 : Keep 1 s0 s1 := ((Keep.refl H1).app _).trans k1
  have e1 := k1.1 _ _ (by omega) (get_new (st := s0))
  have l1 : 2 < s1.length := by have := lt_of_get e1; omega
  refine pick e1 v0 v1 fun d hd => ?_
  obtain ⟨m, rfl, m0, m1⟩ : ∃ m : Nat, d = .int m ∧ 0 < m ∧ m < 100 := by
    simp only [List.mem_cons, List.not_mem_nil, or_false] at hd
    rcases hd with rfl | rfl
    · exact ⟨5, rfl, by decide, by decide⟩
    · exact ⟨60, rfl, by decide, by decide⟩
  refine ⟨by omega, by omega, ?_⟩
  rw [Int.toNat_natCast]
  refine ⟨Nat.zero_le _, Nat.zero_le _, ?_⟩
  obtain ⟨it, hit⟩ : ∃ it, it = s1.length := ⟨_, rfl⟩
  obtain ⟨s2, hs2⟩ : ∃ s2, s2 = s1 ++ [SO.rw (rangeD 0 m)] := ⟨_, rfl⟩
  have K2 : Keep 1 s0 s2 := by rw [hs2]; exact K1.app _
  have I2 : s2[it]? = some (.rw (rangeD 0 m)) := by rw [hs2, hit]; exact get_new
  have L2' : s2.length = it + 1 := by rw [hs2, hit]; simp
  rw [← hit, ← hs2]
  obtain ⟨so, hso⟩ : ∃ so, so = s2.length := ⟨_, rfl⟩
  obtain ⟨s3, hs3⟩ : ∃ s3, s3 = s2 ++ [SO.rw []] := ⟨_, rfl⟩
  have K3 : Keep 1 s0 s3 := by rw [hs3]; exact K2.app _
  have I3 : s3[it]? = some (.rw (rangeD 0 m)) := by rw [hs3]; exact get_app I2
  have O3 : s3[so]? = some (.rw []) := by rw [hs3, hso]; exact get_new
  have L3' : s3.length = so + 1 := by rw [hs3, hso]; simp
  show l4 (Ed Pd) (RA it s2.length [] none none none none none none) (s2 ++ [SO.rw []])
  rw [← hs3, ← hso]
  have S3 := K3.1 0 _ (by decide) S0
  simp only [l4, tseq, tfor, ienum, tsliceA, tvar, tonone, tosome, tcon, List.getElem?_cons_zero, List.getElem?_cons_succ, S3, SO.items, get_new]
  obtain ⟨cut, hcut⟩ : ∃ cut, L3.cutD (ns.map Dt.int) none (some 63) = cut := ⟨_, rfl⟩
  have hcl : cut.length ≤ 63 := by rw [← hcut]; exact Nat.le_trans (cut_len ns 63) hl
  have hints : ∀ d ∈ cut, ∃ c : Int, d = .int c := by
    intro d hd
    rw [← hcut] at hd
    have := List.mem_of_mem_drop (List.mem_of_mem_take hd)
    obtain ⟨c, _, rfl⟩ := List.mem_map.mp this
    exact ⟨c, rfl⟩
  rw [hcut]
  refine ⟨fun i ρ s' => ∃ a ss y5 y6 y7 y8 y9 y10, ρ = RA it so a y5 y6 y7 y8 y9 y10 ∧ OkT m a ss ∧ a.length = 2 * i ∧ HandAt s' 1 ∧ s'[it]? = some (.rw (rangeD 0 m)) ∧ s'[so]? = some (.rw (Sorts ss)) ∧ s'[s3.length]? = some (.rw cut), ?_, fun _ _ s' _ q => ?_, ?_, ?_⟩
  · obtain ⟨o1, q1, r1⟩ := K3.2
    exact ⟨[], [], _, _, _, _, _, _, rfl, .nil, rfl, ⟨o1, get_app q1, r1⟩, get_app I3, get_app O3, get_new⟩
  · obtain ⟨_, _, _, _, _, _, _, _, _, _, _, _, _, _, q⟩ := q
    show (s'[s3.length]?).map SO.items = _
    rw [q]; rfl
  · rintro i d ρ s' hd ⟨a, ss, y5, y6, y7, y8, y9, y10, rfl, ok, al, hh, hi, hs, hc⟩
    have hil := lt_of_get hd
    rw [enum_len] at hil
    obtain ⟨w, hw, rfl⟩ := enum_get hd
    obtain ⟨c, rfl⟩ := hints w (List.mem_of_getElem? hw)
    refine ⟨rfl, ?_⟩
    refine law4 (i := i) ok (by omega) m0 m1 ⟨_, hi, rfl⟩ hs (by omega) (lt_of_get hi) fun a' ss' st' z7 z8 z9 z10 ok' al' kk gs => ?_
    obtain ⟨o1, q1, r1⟩ := hh
    exact ⟨a', ss', _, _, _, _, _, _, rfl, ok', by omega, ⟨o1, kk _ _ (by omega) q1, r1⟩, kk _ _ (by omega) hi, gs, kk _ _ (by omega) hc⟩
  · rintro ρ s' ⟨a, ss, y5, y6, y7, y8, y9, y10, rfl, ok, al, hh, hi, hs, hc⟩
    rw [enum_len] at al
    exact law5 ok (by omega) m0 m1 hh ⟨_, hi, rfl⟩ (by omega) hP
end K20
namespace K20
open PySem PySem.Spec PyProof.Rows L2 L3 KH KS KW
noncomputable abbrev t__law_hand : TSD := KH.t__law_hand
noncomputable abbrev t__law_draw : TSD := KH.t__law_draw
noncomputable abbrev t__law_number : TSD := KS.t__law_number
noncomputable abbrev t_under : TSD := K19.t_under
end K20
namespace K18
open PySem L2 L3 KH KW K20
noncomputable def spJoined : RDL := fun ds st P => ∃ (o : Op2) (x y : Int), ds = [.str (nm o), .int x, .int y] ∧ 0 ≤ x ∧ x < 65536 ∧ 0 ≤ y ∧ y < 65536 ∧ ∀ st', ExtS st st' → P (vD (two o x y)) st'
noncomputable def leafy : Nd → Bool
  | .two _ _ _ => false | .nought _ => false | .high _ => false | _ => true
noncomputable def spLeafWorth : RDL := fun ds st P => ∃ (nd : Nd) (ss : List Nat) (m s : Nat) (bx : List Int) (mk : List Bool) (b : Nat) (br : List (Option Int)), ds = [nD nd, bxD bx, mkD mk, .lst b] ∧ leafy nd = true ∧ OkN ss m nd s ∧ m < 100 ∧ bx.length = 8 ∧ mk.length = 3 ∧ st[b]? = some (.rw (br.map oD)) ∧ br.length < 500 ∧ ∀ st', ExtS st st' → P (vD (worth nd [] bx mk br)) st'
noncomputable def mkv (W : List Vl) (j : Nat) : Key × Dt := (Sum.inl (j : Int), vD (W.getD j .non))
noncomputable def Memo (W : List Vl) (kvs : List (Key × Dt)) : Prop := ∃ js : List Nat, js.Nodup ∧ (∀ j ∈ js, j < W.length) ∧ kvs = js.map (mkv W)
theorem nodup_le : ∀ (n : Nat) (js : List Nat), js.Nodup → (∀ j ∈ js, j < n) → js.length ≤ n := by
  intro n
  induction n with
  | zero =>
    intro js _ h
    cases js with
    | nil => exact Nat.le_refl _
    | cons j r => exact absurd (h j List.mem_cons_self) (Nat.not_lt_zero _)
  | succ n ih =>
    intro js nd h
    have h2 := ih (js.erase n) (nd.erase n) (fun j hj => by
      have h3 := h j (List.mem_of_mem_erase hj)
      have h4 : j ≠ n := fun e => by subst e; exact nd.not_mem_erase hj
      omega)
    by_cases hm : n ∈ js
    · rw [List.length_erase_of_mem hm] at h2; omega
    · rw [List.erase_of_not_mem hm] at h2; omega
theorem Memo.len {W : List Vl} {kvs : List (Key × Dt)} (h : Memo W kvs) : kvs.length ≤ W.length := by
  obtain ⟨js, nd, hb, rfl⟩ := h
  rw [List.length_map]; exact nodup_le _ _ nd hb
theorem key_eq {i j : Nat} : ((Sum.inl (i : Int) : Key) = Sum.inl (j : Int)) ↔ i = j := ⟨fun e => Int.ofNat.inj (Sum.inl.inj e), fun e => by rw [e]⟩
theorem memo_val (W : List Vl) : ∀ (js : List Nat) (k : Nat), valD (js.map (mkv W)) (Sum.inl (k : Int)) = if k ∈ js then some (vD (W.getD k .non)) else none
  | [], k => rfl
  | j :: r, k => by
    have ih := memo_val W r k
    unfold valD at ih ⊢
    rw [List.map_cons, List.find?_cons]
    by_cases h : j = k
    · subst h
      rw [show decide ((mkv W j).1 = Sum.inl (j : Int)) = true from decide_eq_true rfl, if_pos List.mem_cons_self]; rfl
    · rw [show decide ((mkv W j).1 = Sum.inl (k : Int)) = false from decide_eq_false (fun e => h (key_eq.mp e))]
      show Option.map _ (List.find? _ (r.map (mkv W))) = _
      rw [ih]
      by_cases h2 : k ∈ r
      · rw [if_pos h2, if_pos (List.mem_cons_of_mem _ h2)]
      · rw [if_neg h2, if_neg (fun q => by rcases List.mem_cons.mp q with e | e; exact h e.symm; exact h2 e)]
theorem memo_any (W : List Vl) (js : List Nat) (k : Nat) : ((js.map (mkv W)).any fun kv => decide (kv.1 = (Sum.inl (k : Int) : Key))) = decide (k ∈ js) := by
  rw [Bool.eq_iff_iff, List.any_eq_true, decide_eq_true_eq]
  constructor
  · rintro ⟨kv, hkv, e⟩
    obtain ⟨j, hj, rfl⟩ := List.mem_map.mp hkv
    have := key_eq.mp (of_decide_eq_true e)
    rw [← this]; exact hj
  · intro h
    exact ⟨mkv W k, List.mem_map_of_mem h, decide_eq_true rfl⟩
theorem memo_put {W : List Vl} {kvs : List (Key × Dt)} {k : Nat} (h : Memo W kvs) (hk : k < W.length) : Memo W (putD kvs (Sum.inl (k : Int)) (vD (W.getD k .non))) ∧ valD (putD kvs (Sum.inl (k : Int)) (vD (W.getD k .non))) (Sum.inl (k : Int)) = some (vD (W.getD k .non)) := by
  obtain ⟨js, nd, hb, rfl⟩ := h
  by_cases hm : k ∈ js
  · have e : putD (js.map (mkv W)) (Sum.inl (k : Int)) (vD (W.getD k .non)) = js.map (mkv W) := by
      unfold putD
      rw [memo_any, if_pos (decide_eq_true hm), List.map_map]
      apply List.map_congr_left
      intro j _
      show (if (mkv W j).1 = _ then _ else _) = _
      by_cases q : j = k
      · subst q; exact if_pos rfl
      · exact if_neg (fun e => q (key_eq.mp e))
    rw [e]
    exact ⟨⟨js, nd, hb, rfl⟩, by rw [memo_val, if_pos hm]⟩
  · have e : putD (js.map (mkv W)) (Sum.inl (k : Int)) (vD (W.getD k .non)) = (js ++ [k]).map (mkv W) := by
      unfold putD
      rw [memo_any, if_neg (by rw [decide_eq_false hm]; exact Bool.false_ne_true), List.map_append]; rfl
    rw [e]
    refine ⟨⟨js ++ [k], ?_, ?_, rfl⟩, by rw [memo_val, if_pos (by simp)]⟩
    · rw [List.nodup_append]
      refine ⟨nd, by simp, fun a ha b hb' => ?_⟩
      rw [List.mem_singleton] at hb'
      subst hb'
      intro e; subst e; exact hm ha
    · intro j hj
      rcases List.mem_append.mp hj with q | q
      · exact hb j q
      · rw [List.mem_singleton.mp q]; exact hk
noncomputable def Kp (s : Nat) (st st' : Sto) : Prop := ∀ i o, i ≠ s → st[i]? = some o → st'[i]? = some o
noncomputable def spW (N : Nat) : RDL := fun ds st P => ∃ (m : Nat) (a : List Nd) (ss : List Nat) (bx : List Int) (mk : List Bool) (br : List (Option Int)) (n k b s : Nat) (kvs : List (Key × Dt)), ds = [.lst n, .int k, bxD bx, mkD mk, .lst b, .dic s] ∧ k < N ∧ k < a.length ∧ st[n]? = some (.rw (a.map nD)) ∧ st[b]? = some (.rw (br.map oD)) ∧ st[s]? = some (.dc kvs) ∧
  Memo (worths a bx mk br) kvs ∧ OkT m a ss ∧ m < 100 ∧ Env bx mk br ∧ bx.length = 8 ∧ mk.length = 3 ∧ a.length < 200 ∧ br.length < 500 ∧
  ∀ st' kvs', Kp s st st' → st'[s]? = some (.dc kvs') → Memo (worths a bx mk br) kvs' → P (vD ((worths a bx mk br).getD k .non)) st'
noncomputable def spAlike : RDL := fun ds st P => ∃ v : Vl, ds = [vD v, vD v] ∧ P (.bl true) st
theorem at_get {W : List Vl} {k : Nat} (h : k < W.length) : W[k]? = some (W.getD k .non) := by
  rw [List.getElem?_eq_getElem h, List.getD_eq_getElem?_getD, List.getElem?_eq_getElem h]; rfl
theorem w_at {a : List Nd} {bx : List Int} {mk : List Bool} {br : List (Option Int)} {k : Nat} (h : k < a.length) : (worths a bx mk br).getD k .non = worth a[k] ((worths a bx mk br).take k) bx mk br := by
  rw [List.getD_eq_getElem?_getD, worths_get h, worths_take]; rfl
theorem tk_at {W : List Vl} {k x : Nat} (hx : x < k) (hk : k < W.length) : (W.take k)[x]? = some (W.getD x .non) := by
  rw [List.getElem?_take_of_lt hx]; exact at_get (by omega)
theorem worth_leaf {nd : Nd} (h : leafy nd = true) (f g : List Vl) (bx : List Int) (mk : List Bool) (br : List (Option Int)) : worth nd f bx mk br = worth nd g bx mk br := by
  cases nd <;> first | rfl | cases h
theorem named_ok {m : Nat} {a : List Nd} {ss : List Nat} {bx : List Int} {mk : List Bool} {br : List (Option Int)} (ok : OkT m a ss) (g : Env bx mk br) {k x : Nat} (hk : k < a.length) (hx : (ss.take k)[x]? = some 0) : x < k ∧ ((worths a bx mk br).getD x .non = .non ∨ ∃ i, (worths a bx mk br).getD x .non = .n i ∧ 0 ≤ i ∧ i < 65536) := by
  have hxk : x < k := by
    have := List.getElem?_eq_some_iff.mp hx
    obtain ⟨h1, _⟩ := this
    have := List.length_take_le k ss
    omega
  refine ⟨hxk, ?_⟩
  have hs := sorted_of g ok
  rw [List.getElem?_take_of_lt hxk] at hx
  have h2 := hs.2 x _ 0 (at_get (by rw [worths_len]; omega)) hx
  rcases h2 with h2 | h2
  · exact .inl h2
  · right
    generalize (worths a bx mk br).getD x .non = v at h2 ⊢
    cases v with
    | n i => exact ⟨i, rfl, h2.2.1, h2.2.2⟩
    | b q => exact absurd h2 (by show ¬ (0 = 1); decide)
    | non => exact h2.elim
end K18
namespace K18
open PySem PySem.Spec PyProof.Rows L2 L3 KH KS KW K20
noncomputable abbrev t__law_joined : TSD := (tseq (tifS (tbool (tbin (rInD false) (tvar 0) (ttup (tacons (tcon (Dt.str (Str.ofString "over"))) (tacons (tcon (Dt.str (Str.ofString "wide"))) tanil))))) (tseq (tret (tbin (rCmpI fun i j => decide (j < i)) (tbin rIxD (tlst (tacons (tbin L3.rAdd (tvar 1) (tvar 2)) (tacons (tbin rMul (tvar 1) (tvar 2)) tanil))) (tcall rIntB (tacons (tbin (rEqD false) (tvar 0) (tcon (Dt.str (Str.ofString "wide")))) tanil))) (tcon (Dt.int 65535)))) tnext) tnext) (tseq (tifS (tbool (tbin (rEqD false) (tvar 0) (tcon (Dt.str (Str.ofString "under"))))) (tseq (tret (tbin (rCmpI fun i j => decide (j < i)) (tbin L3.rSub (tvar 2) (tvar 1)) (tcon (Dt.int 0)))) tnext) tnext) (tseq (tifS (tbool (tbin (rEqD false) (tvar 0) (tcon (Dt.str (Str.ofString "rest"))))) (tseq (tret (tandV (tbin (rEqD true) (tvar 2) (tcon (Dt.int 0))) (tbin (rEqD true) (tvar 1) (tbin rMul (tbin rDiv (tvar 1) (tcall rMax2 (tacons (tcon (Dt.int 1)) (tacons (tvar 2) tanil)))) (tvar 2))))) tnext) tnext) (tseq (tret (tbin rMod (tbin rDGet (tdict [(Sum.inr (Str.ofString "add"), (tbin L3.rAdd (tvar 1) (tvar 2))), (Sum.inr (Str.ofString "sub"), (tbin L3.rSub (tvar 1) (tvar 2))), (Sum.inr (Str.ofString "mul"), (tbin rMul (tvar 1) (tvar 2)))]) (tvar 0)) (tcon (Dt.int 65536)))) tnext))))
noncomputable abbrev t__law_leaf_worth : TSD := (tseq (tifS (tbool (tbin (rEqD false) (tbin rIxD (tvar 0) (tcon (Dt.int 0))) (tcon (Dt.str (Str.ofString "item"))))) (tseq (tret (tbin rIxD (tbin L3.rAdd (tcall rList (tacons (tvar 3) tanil)) (tbin rMul (tlst (tacons (tcon Dt.non) tanil)) (tbin L3.rAdd (tbin rIxD (tvar 0) (tcon (Dt.int 1))) (tcon (Dt.int 1))))) (tbin rIxD (tvar 0) (tcon (Dt.int 1))))) tnext) tnext) (tseq (tifS (tbool (tbin (rEqD false) (tbin rIxD (tvar 0) (tcon (Dt.int 0))) (tcon (Dt.str (Str.ofString "num"))))) (tseq (tret (tbin rIxD (tvar 0) (tcon (Dt.int 1)))) tnext) tnext) (tseq (tifS (tbool (tbin (rEqD false) (tbin rIxD (tvar 0) (tcon (Dt.int 0))) (tcon (Dt.str (Str.ofString "box"))))) (tseq (tret (tbin rIxD (tvar 1) (tbin rIxD (tvar 0) (tcon (Dt.int 1))))) tnext) tnext) (tseq (tifS (tbool (tbin (rEqD false) (tbin rIxD (tvar 0) (tcon (Dt.int 0))) (tcon (Dt.str (Str.ofString "mark"))))) (tseq (tret (tbin rIxD (tvar 2) (tbin rIxD (tvar 0) (tcon (Dt.int 1))))) tnext) tnext) (tseq (tret (tbin (rEqD false) (tbin rIxD (tvar 0) (tcon (Dt.int 0))) (tcon (Dt.str (Str.ofString "yes"))))) tnext)))))
noncomputable abbrev t__law_alike : TSD := (tseq (tifS (tbool (tbin (rIsD false) (tvar 1) (tcon Dt.non))) (tseq (tret (tbin (rIsD false) (tvar 0) (tcon Dt.non))) tnext) tnext) (tseq (tifS (torB (tbool (tcall rIsInst (tacons (tvar 1) (tacons (tcon (Dt.ty "bool")) tanil)))) (tbool (tcall rIsInst (tacons (tvar 0) (tacons (tcon (Dt.ty "bool")) tanil))))) (tseq (tret (tandV (tcall rIsInst (tacons (tvar 1) (tacons (tcon (Dt.ty "bool")) tanil))) (tandV (tcall rIsInst (tacons (tvar 0) (tacons (tcon (Dt.ty "bool")) tanil))) (tbin (rEqD false) (tvar 0) (tvar 1))))) tnext) tnext) (tseq (tret (tandV (tcall rIsInst (tacons (tvar 0) (tacons (tcon (Dt.ty "int")) tanil))) (tbin (rEqD false) (tvar 0) (tvar 1)))) tnext)))
theorem eqi {x y : Int} {b : Bool} {st : Sto} {P : VD} (h : P (.bl (decide (x = y) != b)) st) : rEqD b (.int x) (.int y) st P := by
  refine ⟨rfl, rfl, ?_⟩
  have e : eqD 8 (.int x) (.int y) = decide (x = y) := rfl
  rw [e]; exact h
theorem eq_str {a b : Str} : eqD 8 (.str a) (.str b) = (a == b) := rfl
theorem strT {a b : Str} {st : Sto} {P : VD} (h : (a == b) = true) (q : P (.bl true) st) : rEqD false (.str a) (.str b) st P := ⟨rfl, rfl, by
  rw [eq_str, h]; exact q⟩
theorem strF {a b : Str} {st : Sto} {P : VD} (h : (a == b) = false) (q : P (.bl false) st) : rEqD false (.str a) (.str b) st P := ⟨rfl, rfl, by
  rw [eq_str, h]; exact q⟩
theorem dd {p q : Prop} [Decidable p] [Decidable q] (h : p ↔ q) : decide p = decide q := decide_eq_decide.mpr h
theorem rest_eq {x y : Int} (x0 : 0 ≤ x) (y0 : 0 < y) : (x = x / (if y > 1 then y else 1) * y) ↔ x % y = 0 := by
  have e : (if y > 1 then y else 1) = y := by split <;> omega
  rw [e]
  constructor
  · intro h
    rw [h]; exact Int.mul_emod_left _ _
  · intro h
    exact (Int.ediv_mul_cancel (Int.dvd_of_emod_eq_zero h)).symm
noncomputable def j0 : TSD := (tseq (tret (tbin (rCmpI fun i j => decide (j < i)) (tbin rIxD (tlst (tacons (tbin L3.rAdd (tvar 1) (tvar 2)) (tacons (tbin rMul (tvar 1) (tvar 2)) tanil))) (tcall rIntB (tacons (tbin (rEqD false) (tvar 0) (tcon (Dt.str (Str.ofString "wide")))) tanil))) (tcon (Dt.int 65535)))) tnext)
noncomputable def j3 : TSD := (tseq (tret (tbin rMod (tbin rDGet (tdict [(Sum.inr (Str.ofString "add"), (tbin L3.rAdd (tvar 1) (tvar 2))), (Sum.inr (Str.ofString "sub"), (tbin L3.rSub (tvar 1) (tvar 2))), (Sum.inr (Str.ofString "mul"), (tbin rMul (tvar 1) (tvar 2)))]) (tvar 0)) (tcon (Dt.int 65536)))) tnext)
noncomputable def j2 : TSD := (tseq (tifS (tbool (tbin (rEqD false) (tvar 0) (tcon (Dt.str (Str.ofString "rest"))))) (tseq (tret (tandV (tbin (rEqD true) (tvar 2) (tcon (Dt.int 0))) (tbin (rEqD true) (tvar 1) (tbin rMul (tbin rDiv (tvar 1) (tcall rMax2 (tacons (tcon (Dt.int 1)) (tacons (tvar 2) tanil)))) (tvar 2))))) tnext) tnext) j3)
noncomputable def j1 : TSD := (tseq (tifS (tbool (tbin (rEqD false) (tvar 0) (tcon (Dt.str (Str.ofString "under"))))) (tseq (tret (tbin (rCmpI fun i j => decide (j < i)) (tbin L3.rSub (tvar 2) (tvar 1)) (tcon (Dt.int 0)))) tnext) tnext) j2)
section
variable {E : EndsD} {st : Sto} {x y : Int}
noncomputable abbrev RJ (o : Op2) (x y : Int) : Rho := [some (.str (nm o)), some (.int x), some (.int y)]
theorem joined0 {w : Op2} (hw : w = .over ∨ w = .wide) (cm : CMul x y) (hP : ∀ st', ExtS st st' → E.rt (vD (two w x y)) st') : j0 E (RJ w x y) st := by
  simp only [j0, tseq, tret, tbin, tlst, tacons, tanil, tvar, tcon, tcall, L3.rAdd, rMul, List.getElem?_cons_zero, List.getElem?_cons_succ]
  refine ⟨cm, by show 2 ≤ sizeLine; decide, ?_⟩
  have h := hP (st ++ [.rw [.int (x + y), .int (x * y)]]) (.app _ _)
  rcases hw with rfl | rfl
  · refine strF (by decide +kernel) ?_
    simp only [rIntB, Bool.false_eq_true, if_false, if_true]
    refine pickAt get_new (d := .int (x + y)) rfl ?_
    simp only [KW.two, vD] at h
    rw [show decide (65536 ≤ x + y) = decide (65535 < x + y) from dd (by omega)] at h
    exact h
  · refine strT (by decide +kernel) ?_
    simp only [rIntB, Bool.false_eq_true, if_false, if_true]
    refine pickAt get_new (d := .int (x * y)) rfl ?_
    simp only [KW.two, vD] at h
    rw [show decide (65536 ≤ x * y) = decide (65535 < x * y) from dd (by omega)] at h
    exact h
theorem joined3 {w : Op2} (hw : w = .add ∨ w = .sub ∨ w = .mul) (cm : CMul x y) (hP : ∀ st', ExtS st st' → E.rt (vD (two w x y)) st') : j3 E (RJ w x y) st := by
  simp only [j3, tseq, tret, tbin, tdict, tvK, tvar, tcon, L3.rAdd, L3.rSub, rMul, List.getElem?_cons_zero, List.getElem?_cons_succ, List.map_cons, List.map_nil, List.zip_cons_cons, List.zip_nil_right, get_new]
  refine ⟨cm, trivial, ?_⟩
  rw [set_new]
  simp only [rDGet, get_new, keyD]
  have e : ∀ kvs, ExtS st (st ++ [SO.dc kvs]) := fun kvs => .app _ _
  rcases hw with rfl | rfl | rfl
  · rw [show valD [(Sum.inr (Str.ofString "add"), Dt.int (x + y)), (Sum.inr (Str.ofString "sub"), Dt.int (x - y)), (Sum.inr (Str.ofString "mul"), Dt.int (x * y))] (Sum.inr (nm .add)) = some (.int (x + y)) from rfl]
    exact ⟨by decide, hP _ (e _)⟩
  · rw [show valD [(Sum.inr (Str.ofString "add"), Dt.int (x + y)), (Sum.inr (Str.ofString "sub"), Dt.int (x - y)), (Sum.inr (Str.ofString "mul"), Dt.int (x * y))] (Sum.inr (nm .sub)) = some (.int (x - y)) from rfl]
    exact ⟨by decide, hP _ (e _)⟩
  · rw [show valD [(Sum.inr (Str.ofString "add"), Dt.int (x + y)), (Sum.inr (Str.ofString "sub"), Dt.int (x - y)), (Sum.inr (Str.ofString "mul"), Dt.int (x * y))] (Sum.inr (nm .mul)) = some (.int (x * y)) from rfl]
    exact ⟨by decide, hP _ (e _)⟩
theorem joined2 {w : Op2} (hw : w = .rest ∨ w = .add ∨ w = .sub ∨ w = .mul) (x0 : 0 ≤ x) (x1 : x < 65536) (y0 : 0 ≤ y) (y1 : y < 65536) (cm : CMul x y) (hP : ∀ st', ExtS st st' → E.rt (vD (two w x y)) st') : j2 E (RJ w x y) st := by
  simp only [j2, tseq, tifS, tbool, tbin, tvar, tcon, tret, tandV, List.getElem?_cons_zero, List.getElem?_cons_succ, tnext]
  rcases hw with rfl | hw
  · refine strT (by decide +kernel) ?_
    have h := hP st (.refl _)
    simp only [KW.two, vD] at h
    refine iteB (b := true) rfl ?_
    refine eqi ?_
    by_cases hy : y = 0
    · subst hy
      exact h
    · have hy0 : 0 < y := by omega
      rw [show (decide (y = 0) != true) = true by rw [decide_eq_false hy]; rfl]
      rw [decide_eq_true hy, Bool.true_and] at h
      have hm : (if y > 1 then y else 1) = y := by split <;> omega
      simp only [tcall, tacons, tcon, tvar, tanil, rMax2, rDiv, rMul, List.getElem?_cons_zero, List.getElem?_cons_succ, hm]
      refine ⟨⟨by omega, by omega⟩, cmul_r y0 (by omega), ?_⟩
      refine eqi ?_
      rw [show (decide (x = x / y * y) != true) = decide (x % y ≠ 0) by
        rw [show decide (x = x / y * y) = decide (x % y = 0) from dd (by have := rest_eq x0 hy0; rw [hm] at this; exact this)]
        by_cases q : x % y = 0
        · rw [decide_eq_true q, decide_eq_false (fun n => n q)]; rfl
        · rw [decide_eq_false q, decide_eq_true q]; rfl]
      exact h
  · refine strF (by rcases hw with rfl | rfl | rfl <;> decide +kernel) ?_
    exact joined3 hw cm hP
theorem joined1 {w : Op2} (hw : w ≠ .over ∧ w ≠ .wide) (x0 : 0 ≤ x) (x1 : x < 65536) (y0 : 0 ≤ y) (y1 : y < 65536) (cm : CMul x y) (hP : ∀ st', ExtS st st' → E.rt (vD (two w x y)) st') : j1 E (RJ w x y) st := by
  simp only [j1, tseq, tifS, tbool, tbin, tvar, tcon, tret, List.getElem?_cons_zero, List.getElem?_cons_succ, tnext]
  cases w with
  | under =>
    refine strT (by decide +kernel) ?_
    have h := hP st (.refl _)
    simp only [KW.two, vD] at h
    rw [show decide (x < y) = decide (0 < y - x) from dd (by omega)] at h
    exact h
  | over => exact absurd rfl hw.1
  | wide => exact absurd rfl hw.2
  | rest =>
    refine strF (by decide +kernel) ?_
    exact joined2 (.inl rfl) x0 x1 y0 y1 cm hP
  | add =>
    refine strF (by decide +kernel) ?_
    exact joined2 (.inr (.inl rfl)) x0 x1 y0 y1 cm hP
  | sub =>
    refine strF (by decide +kernel) ?_
    exact joined2 (.inr (.inr (.inl rfl))) x0 x1 y0 y1 cm hP
  | mul =>
    refine strF (by decide +kernel) ?_
    exact joined2 (.inr (.inr (.inr rfl))) x0 x1 y0 y1 cm hP
theorem rd__law_joined {ds : List Dt} {st : Sto} {Pd : VD} (h : spJoined ds st Pd) : t__law_joined (Ed Pd) (startD ["word", "x", "y"] ds) st := by
  obtain ⟨o, x, y, rfl, x0, x1, y0, y1, hP⟩ := h
  have two : (2 : Nat) ≤ sizeLine := by decide
  have cm : CMul x y := cmul_l x0 (by omega)
  refine ⟨two, rfl, by decide, ?_⟩
  by_cases hw : o = .over ∨ o = .wide
  · refine iteB (by rcases hw with rfl | rfl <;> decide +kernel) ?_
    exact joined0 (E := Ed Pd) hw cm hP
  · refine iteBF (by cases o <;> first | decide +kernel | (exact absurd (.inl rfl) hw) | (exact absurd (.inr rfl) hw)) ?_
    exact joined1 (E := Ed Pd) ⟨fun e => hw (.inl e), fun e => hw (.inr e)⟩ x0 x1 y0 y1 cm hP
end
noncomputable def w0 : TSD := (tseq (tret (tbin rIxD (tbin L3.rAdd (tcall rList (tacons (tvar 3) tanil)) (tbin rMul (tlst (tacons (tcon Dt.non) tanil)) (tbin L3.rAdd (tbin rIxD (tvar 0) (tcon (Dt.int 1))) (tcon (Dt.int 1))))) (tbin rIxD (tvar 0) (tcon (Dt.int 1))))) tnext)
noncomputable def w4 : TSD := (tseq (tret (tbin (rEqD false) (tbin rIxD (tvar 0) (tcon (Dt.int 0))) (tcon (Dt.str (Str.ofString "yes"))))) tnext)
noncomputable def w3 : TSD := (tseq (tifS (tbool (tbin (rEqD false) (tbin rIxD (tvar 0) (tcon (Dt.int 0))) (tcon (Dt.str (Str.ofString "mark"))))) (tseq (tret (tbin rIxD (tvar 2) (tbin rIxD (tvar 0) (tcon (Dt.int 1))))) tnext) tnext) w4)
noncomputable def w2 : TSD := (tseq (tifS (tbool (tbin (rEqD false) (tbin rIxD (tvar 0) (tcon (Dt.int 0))) (tcon (Dt.str (Str.ofString "box"))))) (tseq (tret (tbin rIxD (tvar 1) (tbin rIxD (tvar 0) (tcon (Dt.int 1))))) tnext) tnext) w3)
noncomputable def w1 : TSD := (tseq (tifS (tbool (tbin (rEqD false) (tbin rIxD (tvar 0) (tcon (Dt.int 0))) (tcon (Dt.str (Str.ofString "num"))))) (tseq (tret (tbin rIxD (tvar 0) (tcon (Dt.int 1)))) tnext) tnext) w2)
section
variable {E : EndsD} {st : Sto} {bx : List Int} {mk : List Bool} {b : Nat} {br : List (Option Int)}
noncomputable abbrev RL (nd : Dt) (bx : List Int) (mk : List Bool) (b : Nat) : Rho := [some nd, some (bxD bx), some (mkD mk), some (.lst b)]
theorem at1c {x y : Dt} {r : List Dt} : atI (x :: y :: r) 1 = some y := by
  simp [atI, ixN]
  rw [if_pos (by omega)]; rfl
theorem item_at {i n : Nat} (h : i < n) : (br.map oD ++ List.replicate n Dt.non)[i]? = some (vD (worth (.item i) [] bx mk br)) := by
  by_cases hi : i < br.length
  · rw [List.getElem?_append_left (by rw [List.length_map]; exact hi), List.getElem?_map]
    simp only [worth]
    rw [List.getElem?_eq_getElem hi]
    cases br[i] <;> rfl
  · rw [List.getElem?_append_right (by rw [List.length_map]; omega), List.getElem?_replicate, List.length_map, if_pos (by omega)]
    simp only [worth]
    rw [List.getElem?_eq_none (by omega)]; rfl
theorem leaf0 {i : Nat} (hi : i < 100) (hb : st[b]? = some (.rw (br.map oD))) (hl : br.length < 500) (hP : ∀ st', ExtS st st' → E.rt (vD (worth (.item i) [] bx mk br)) st') : w0 E (RL (nD (.item i)) bx mk b) st := by
  simp only [w0, tseq, tret, tbin, tcall, tacons, tanil, tvar, tcon, tlst, nD, rList, seqOf, List.getElem?_cons_zero, List.getElem?_cons_succ, hb, Option.map_some, SO.items, List.length_cons, List.length_nil]
  refine ⟨by show 1 ≤ sizeLine; decide, ?_⟩
  refine pickTA at1c ?_
  simp only [L3.rAdd, rMul, get_new]
  have hn : ((i : Int) + 1).toNat = i + 1 := by omega
  rw [hn, List.flatten_replicate_singleton]
  refine ⟨by omega, by omega, by simp only [List.length_cons, List.length_nil]; exact Nat.le_of_lt (small (by omega)), ?_⟩
  rw [get_app (get_app (get_new (st := st)))]
  simp only [get_new]
  refine ⟨by rw [List.length_map, List.length_replicate]; exact Nat.le_of_lt (small (by omega)), ?_⟩
  refine pickTA at1c ?_
  obtain ⟨d, ha, _, hg⟩ := atI_of (xs := br.map oD ++ List.replicate (i + 1) Dt.non) (v := (i : Int)) (by omega) (by rw [List.length_append, List.length_replicate]; omega)
  rw [Int.toNat_natCast, item_at (by omega)] at hg
  refine pickAt get_new ha ?_
  rw [← Option.some.inj hg]
  exact hP _ (((((ExtS.app _ _).trans (.app _ _)).trans (.app _ _)).trans (.app _ _)))
theorem rd__law_leaf_worth {ds : List Dt} {st : Sto} {Pd : VD} (h : spLeafWorth ds st Pd) : t__law_leaf_worth (Ed Pd) (startD ["node", "boxes", "marks", "brought"] ds) st := by
  obtain ⟨nd, ss, m, s, bx, mk, b, br, rfl, hlf, ok, hm, hb8, hm3, hb, hl, hP⟩ := h
  have hP0 := hP st (.refl _)
  cases nd with
  | item i =>
    refine ⟨rfl, rfl, iteB (by decide +kernel) ?_⟩
    exact leaf0 (E := Ed Pd) (Nat.lt_trans ok.1 hm) hb hl hP
  | num n =>
    refine ⟨rfl, rfl, iteBF (by decide +kernel) ?_⟩
    refine ⟨rfl, rfl, iteB (by decide +kernel) ?_⟩
    exact hP0
  | box k =>
    refine ⟨rfl, rfl, iteBF (by decide +kernel) ?_⟩
    refine ⟨rfl, rfl, iteBF (by decide +kernel) ?_⟩
    refine ⟨rfl, rfl, iteB (by decide +kernel) ?_⟩
    refine ixI (xs := bx) (by omega) (by rw [hb8]; have := ok.1; omega) ?_
    rw [Int.toNat_natCast]; exact hP0
  | mark k =>
    refine ⟨rfl, rfl, iteBF (by decide +kernel) ?_⟩
    refine ⟨rfl, rfl, iteBF (by decide +kernel) ?_⟩
    refine ⟨rfl, rfl, iteBF (by decide +kernel) ?_⟩
    refine ⟨rfl, rfl, iteB (by decide +kernel) ?_⟩
    refine pickT (xs := mk.map .bl) (v := (k : Int)) (by omega) (by rw [List.length_map, hm3]; have := ok.1; omega) fun d hd => ?_
    have hk : k < mk.length := by rw [hm3]; exact ok.1
    rw [Int.toNat_natCast, List.getElem?_map, List.getElem?_eq_getElem hk] at hd
    have hd : d = .bl mk[k] := (Option.some.inj hd).symm
    subst hd
    have e : mk.getD k false = mk[k] := by simp [List.getD, hk]
    simp only [worth, vD, e] at hP0
    exact hP0
  | yes =>
    refine ⟨rfl, rfl, iteBF (by decide +kernel) ?_⟩
    refine ⟨rfl, rfl, iteBF (by decide +kernel) ?_⟩
    refine ⟨rfl, rfl, iteBF (by decide +kernel) ?_⟩
    refine ⟨rfl, rfl, iteBF (by decide +kernel) ?_⟩
    exact ⟨rfl, rfl, hP0⟩
  | no =>
    refine ⟨rfl, rfl, iteBF (by decide +kernel) ?_⟩
    refine ⟨rfl, rfl, iteBF (by decide +kernel) ?_⟩
    refine ⟨rfl, rfl, iteBF (by decide +kernel) ?_⟩
    refine ⟨rfl, rfl, iteBF (by decide +kernel) ?_⟩
    exact ⟨rfl, rfl, hP0⟩
  | two o x y => cases hlf
  | nought x => cases hlf
  | high x => cases hlf
theorem rd__law_alike {ds : List Dt} {st : Sto} {Pd : VD} (h : spAlike ds st Pd) : t__law_alike (Ed Pd) (startD ["found", "due"] ds) st := by
  obtain ⟨v, rfl, hP⟩ := h
  cases v with
  | non => exact hP
  | n i =>
    refine ⟨.inl rfl, .inl rfl, .inr (.inl rfl), ?_⟩
    refine eqi ?_
    rw [decide_eq_true rfl]; exact hP
  | b q =>
    refine ⟨.inl rfl, .inl rfl, .inl rfl, rfl, rfl, ?_⟩
    show Pd (.bl ((q == q) != false)) st
    rw [beq_self_eq_true]; exact hP
end
end K18
namespace K18
open PySem PySem.Spec PyProof.Rows L2 L3 KH KS KW K20
section
variable (N : Nat)
noncomputable abbrev t__law_worth : TSD := (tseq (tifS (tbool (tbin (rDIn true) (tvar 1) (tvar 5))) (tseq (tasg (tbin rIxD (tvar 0) (tvar 1)) (gname 6)) (tseq (tifS (tbool (tbin (rInD false) (tbin rIxD (tvar 6) (tcon (Dt.int 0))) (ttup (tacons (tcon (Dt.str (Str.ofString "item"))) (tacons (tcon (Dt.str (Str.ofString "num"))) (tacons (tcon (Dt.str (Str.ofString "box"))) (tacons (tcon (Dt.str (Str.ofString "mark"))) (tacons (tcon (Dt.str (Str.ofString "yes"))) (tacons (tcon (Dt.str (Str.ofString "no"))) tanil))))))))) (tseq (tasg (tcall spLeafWorth (tacons (tvar 6) (tacons (tvar 2) (tacons (tvar 3) (tacons (tvar 4) tanil))))) (gdput (tvar 5) (tvar 1))) (tseq (tret (tbin rDGet (tvar 5) (tvar 1))) tnext)) tnext) (tseq (tasg (tcomp (iseq (tsliceA (tvar 6) (tosome (tcon (Dt.int 1))) tonone)) (fun x st P => P true st) (tcall (spW N) (tacons (tvar 4) (tacons (tvar 0) (tacons (tvar 1) (tacons (tvar 3) (tacons (tvar 2) (tacons (tvar 5) tanil))))))) [(2, "boxes"), (4, "brought"), (3, "marks"), (0, "nodes"), (5, "seen")]) (gname 7)) (tseq (tifS (torB (tbool (tbin (rIsD false) (tbin rIxD (tvar 7) (tcon (Dt.int 0))) (tcon Dt.non))) (tbool (tbin (rIsD false) (tbin rIxD (tvar 7) (tneg (tcon (Dt.int 1)))) (tcon Dt.non)))) (tseq (tasg (tcon Dt.non) (gdput (tvar 5) (tvar 1))) tnext) (tseq (tifS (torB (tbool (tbin (rEqD false) (tbin rIxD (tvar 6) (tcon (Dt.int 0))) (tcon (Dt.str (Str.ofString "nought"))))) (tbool (tbin (rEqD false) (tbin rIxD (tvar 6) (tcon (Dt.int 0))) (tcon (Dt.str (Str.ofString "high")))))) (tseq (tasg (tbin rIxD (tlst (tacons (tbin (rEqD false) (tbin rIxD (tvar 7) (tcon (Dt.int 0))) (tcon (Dt.int 0))) (tacons (tbin (rCmpI fun i j => decide (j < i)) (tbin rIxD (tvar 7) (tcon (Dt.int 0))) (tcon (Dt.int 32767))) tanil))) (tcall rIntB (tacons (tbin (rEqD false) (tbin rIxD (tvar 6) (tcon (Dt.int 0))) (tcon (Dt.str (Str.ofString "high")))) tanil))) (gdput (tvar 5) (tvar 1))) tnext) (tseq (tasg (tcall spJoined (tacons (tbin rIxD (tvar 6) (tcon (Dt.int 0))) (tacons (tbin rIxD (tvar 7) (tcon (Dt.int 0))) (tacons (tbin rIxD (tvar 7) (tcon (Dt.int 1))) tanil)))) (gdput (tvar 5) (tvar 1))) tnext)) tnext)) tnext)))) tnext) (tseq (tret (tbin rDGet (tvar 5) (tvar 1))) tnext))
noncomputable def wb3 : TSD := (tseq (tifS (torB (tbool (tbin (rIsD false) (tbin rIxD (tvar 7) (tcon (Dt.int 0))) (tcon Dt.non))) (tbool (tbin (rIsD false) (tbin rIxD (tvar 7) (tneg (tcon (Dt.int 1)))) (tcon Dt.non)))) (tseq (tasg (tcon Dt.non) (gdput (tvar 5) (tvar 1))) tnext) (tseq (tifS (torB (tbool (tbin (rEqD false) (tbin rIxD (tvar 6) (tcon (Dt.int 0))) (tcon (Dt.str (Str.ofString "nought"))))) (tbool (tbin (rEqD false) (tbin rIxD (tvar 6) (tcon (Dt.int 0))) (tcon (Dt.str (Str.ofString "high")))))) (tseq (tasg (tbin rIxD (tlst (tacons (tbin (rEqD false) (tbin rIxD (tvar 7) (tcon (Dt.int 0))) (tcon (Dt.int 0))) (tacons (tbin (rCmpI fun i j => decide (j < i)) (tbin rIxD (tvar 7) (tcon (Dt.int 0))) (tcon (Dt.int 32767))) tanil))) (tcall rIntB (tacons (tbin (rEqD false) (tbin rIxD (tvar 6) (tcon (Dt.int 0))) (tcon (Dt.str (Str.ofString "high")))) tanil))) (gdput (tvar 5) (tvar 1))) tnext) (tseq (tasg (tcall spJoined (tacons (tbin rIxD (tvar 6) (tcon (Dt.int 0))) (tacons (tbin rIxD (tvar 7) (tcon (Dt.int 0))) (tacons (tbin rIxD (tvar 7) (tcon (Dt.int 1))) tanil)))) (gdput (tvar 5) (tvar 1))) tnext)) tnext)) tnext)
noncomputable def wb2 : TSD := (tseq (tasg (tcomp (iseq (tsliceA (tvar 6) (tosome (tcon (Dt.int 1))) tonone)) (fun x st P => P true st) (tcall (spW N) (tacons (tvar 4) (tacons (tvar 0) (tacons (tvar 1) (tacons (tvar 3) (tacons (tvar 2) (tacons (tvar 5) tanil))))))) [(2, "boxes"), (4, "brought"), (3, "marks"), (0, "nodes"), (5, "seen")]) (gname 7)) wb3)
noncomputable def wb1 : TSD := (tseq (tifS (tbool (tbin (rInD false) (tbin rIxD (tvar 6) (tcon (Dt.int 0))) (ttup (tacons (tcon (Dt.str (Str.ofString "item"))) (tacons (tcon (Dt.str (Str.ofString "num"))) (tacons (tcon (Dt.str (Str.ofString "box"))) (tacons (tcon (Dt.str (Str.ofString "mark"))) (tacons (tcon (Dt.str (Str.ofString "yes"))) (tacons (tcon (Dt.str (Str.ofString "no"))) tanil))))))))) (tseq (tasg (tcall spLeafWorth (tacons (tvar 6) (tacons (tvar 2) (tacons (tvar 3) (tacons (tvar 4) tanil))))) (gdput (tvar 5) (tvar 1))) (tseq (tret (tbin rDGet (tvar 5) (tvar 1))) tnext)) tnext) (wb2 N))
noncomputable def wb0 : TSD := (tseq (tasg (tbin rIxD (tvar 0) (tvar 1)) (gname 6)) (wb1 N))
end
section
variable {E : EndsD} {st : Sto} {W : List Vl} {bx : List Int} {mk : List Bool} {n k b s q : Nat} {br : List (Option Int)} {kvs : List (Key × Dt)} {nd : Nd} {x6 x7 : Option Dt}
noncomputable abbrev RW8 (n k : Nat) (bx : List Int) (mk : List Bool) (b s : Nat) (x6 x7 : Option Dt) : Rho := [some (.lst n), some (.int (k : Nat)), some (bxD bx), some (mkD mk), some (.lst b), some (.dic s), x6, x7]
theorem Kp.refl {s : Nat} (st : Sto) : Kp s st st := fun _ _ _ h => h
theorem Kp.trans {s : Nat} {a b c : Sto} (h : Kp s a b) (g : Kp s b c) : Kp s a c := fun i o n q => g i o n (h i o n q)
theorem Kp.ext {s : Nat} {a b : Sto} (h : ExtS a b) : Kp s a b := fun i o _ q => h i o q
theorem Kp.set {s : Nat} {a : Sto} {x : SO} : Kp s a (a.set s x) := fun i o n q => get_set_ne q (Ne.symm n)
theorem put_fin {Q : Rho → Sto → Prop} (hs : st[s]? = some (.dc kvs)) (m : Memo W kvs) (hk : k < W.length) (hl : W.length < 200) {d : Dt} (hd : d = vD (W.getD k .non))
    (h : ∀ st' kvs', Kp s st st' → st'[s]? = some (.dc kvs') → Memo W kvs' → valD kvs' (Sum.inl (k : Int)) = some (vD (W.getD k .non)) → Q (RW8 n k bx mk b s x6 x7) st') : gdput (tvar 5) (tvar 1) d (RW8 n k bx mk b s x6 x7) st Q := by
  subst hd
  obtain ⟨m1, m2⟩ := memo_put m hk
  simp only [gdput, tvar, List.getElem?_cons_zero, List.getElem?_cons_succ, hs, keyD]
  exact ⟨small (by have := m.len; omega), h _ _ Kp.set (get_set_self hs) m1 m2⟩
noncomputable def wv2 (o : Op2) : Vl → Vl → Vl
  | .n a, .n c => two o a c
  | _, _ => .non
noncomputable def wv1 (hi : Bool) : Vl → Vl
  | .n a => .b (if hi then decide (32768 ≤ a) else decide (a = 0))
  | _ => .non
theorem step_two {o : Op2} {x y : Nat} {v1 v2 : Vl} (hs : st[s]? = some (.dc kvs)) (m : Memo W kvs) (hk : k < W.length) (hl : W.length < 200) (hq : st[q]? = some (.rw [vD v1, vD v2]))
    (h1 : v1 = .non ∨ ∃ i, v1 = .n i ∧ 0 ≤ i ∧ i < 65536) (h2 : v2 = .non ∨ ∃ i, v2 = .n i ∧ 0 ≤ i ∧ i < 65536) (hw : W.getD k .non = wv2 o v1 v2)
    (hE : ∀ st' kvs', Kp s st st' → st'[s]? = some (.dc kvs') → Memo W kvs' → valD kvs' (Sum.inl (k : Int)) = some (vD (W.getD k .non)) → E.nx (RW8 n k bx mk b s (some (nD (.two o x y))) (some (.lst q))) st') :
    wb3 E (RW8 n k bx mk b s (some (nD (.two o x y))) (some (.lst q))) st := by
  simp only [wb3, tseq, tifS, torB, tbool, tbin, tvar, tcon, tasg, tneg, List.getElem?_cons_zero, List.getElem?_cons_succ, tnext]
  refine pickAt hq (d := vD v1) rfl ?_
  rcases h1 with rfl | ⟨a, rfl, a0, a1⟩
  · refine put_fin hs m hk hl (d := Dt.non) (by rw [hw]; rfl) hE
  · simp only [vD, rIsD, Bool.false_eq_true, if_false, bne_self_eq_false]
    refine pickAt hq (d := vD v2) rfl ?_
    rcases h2 with rfl | ⟨c, rfl, c0, c1⟩
    · exact put_fin hs m hk hl (d := Dt.non) (by rw [hw]; rfl) hE
    · simp only [vD, rIsD, Bool.false_eq_true, if_false]
      refine pickTA at0c ?_
      refine strF (by cases o <;> decide +kernel) ?_
      simp only [Bool.false_eq_true, if_false]
      refine pickTA at0c ?_
      refine strF (by cases o <;> decide +kernel) ?_
      simp only [tcall, tacons, tanil, tbin, tvar, tcon, List.getElem?_cons_zero, List.getElem?_cons_succ, Bool.false_eq_true, if_false]
      refine pickTA at0c ?_
      refine pickAt hq (d := .int a) rfl ?_
      refine pickAt hq (d := .int c) rfl ?_
      refine ⟨o, a, c, rfl, a0, a1, c0, c1, fun s1 e1 => ?_⟩
      refine put_fin (e1 _ _ hs) m hk hl (by rw [hw]; rfl) fun s2 kvs2 k2 g2 m2 v2 => hE s2 kvs2 ((Kp.ext e1).trans k2) g2 m2 v2
theorem step_one {hi : Bool} {x : Nat} {v1 : Vl} (hs : st[s]? = some (.dc kvs)) (m : Memo W kvs) (hk : k < W.length) (hl : W.length < 200) (hq : st[q]? = some (.rw [vD v1]))
    (h1 : v1 = .non ∨ ∃ i, v1 = .n i ∧ 0 ≤ i ∧ i < 65536) (hnd : nd = (if hi then .high x else .nought x)) (hw : W.getD k .non = wv1 hi v1)
    (hE : ∀ st' kvs', Kp s st st' → st'[s]? = some (.dc kvs') → Memo W kvs' → valD kvs' (Sum.inl (k : Int)) = some (vD (W.getD k .non)) → E.nx (RW8 n k bx mk b s (some (nD nd)) (some (.lst q))) st') :
    wb3 E (RW8 n k bx mk b s (some (nD nd)) (some (.lst q))) st := by
  simp only [wb3, tseq, tifS, torB, tbool, tbin, tvar, tcon, tasg, tneg, List.getElem?_cons_zero, List.getElem?_cons_succ, tnext]
  refine pickAt hq (d := vD v1) rfl ?_
  rcases h1 with rfl | ⟨a, rfl, a0, a1⟩
  · refine put_fin hs m hk hl (d := Dt.non) (by rw [hw]; rfl) hE
  · simp only [vD, rIsD, Bool.false_eq_true, if_false, bne_self_eq_false]
    refine pickAt hq (d := vD (.n a)) rfl ?_
    simp only [vD, rIsD, Bool.false_eq_true, if_false]
    have size2 : (2 : Nat) ≤ sizeLine := by decide
    cases hi with
    | true =>
      simp only [if_true, wv1] at hnd hw
      subst hnd
      refine pickTA at0c ?_
      refine strF (by decide +kernel) ?_
      simp only [Bool.false_eq_true, if_false]
      refine pickTA at0c ?_
      refine strT (by decide +kernel) ?_
      simp only [tcall, tacons, tanil, tbin, tvar, tcon, tlst, List.getElem?_cons_zero, List.getElem?_cons_succ, Bool.false_eq_true, if_false, if_true]
      refine pickAt hq (d := .int a) rfl ?_
      refine eqi ?_
      refine pickAt hq (d := .int a) rfl ?_
      refine ⟨size2, ?_⟩
      refine pickTA at0c ?_
      refine strT (by decide +kernel) ?_
      simp only [rIntB, Bool.false_eq_true, if_false, if_true]
      refine pickAt get_new (d := .bl (decide (32767 < a))) rfl ?_
      refine put_fin (get_app hs) m hk hl (by rw [hw]; exact congrArg Dt.bl (dd (by omega))) fun s2 kvs2 k2 g2 m2 v2 => hE s2 kvs2 ((Kp.ext (.app _ _)).trans k2) g2 m2 v2
    | false =>
      simp only [Bool.false_eq_true, if_false, wv1] at hnd hw
      subst hnd
      refine pickTA at0c ?_
      refine strT (by decide +kernel) ?_
      simp only [tcall, tacons, tanil, tbin, tvar, tcon, tlst, List.getElem?_cons_zero, List.getElem?_cons_succ, Bool.false_eq_true, if_false, if_true]
      refine pickAt hq (d := .int a) rfl ?_
      refine eqi ?_
      refine pickAt hq (d := .int a) rfl ?_
      refine ⟨size2, ?_⟩
      refine pickTA at0c ?_
      refine strF (by decide +kernel) ?_
      simp only [rIntB, Bool.false_eq_true, if_false, if_true]
      refine pickAt get_new (d := .bl (decide (a = 0) != false)) rfl ?_
      refine put_fin (get_app hs) m hk hl (by rw [hw, Bool.bne_false]; rfl) fun s2 kvs2 k2 g2 m2 v2 => hE s2 kvs2 ((Kp.ext (.app _ _)).trans k2) g2 m2 v2
theorem comp_named {m : Nat} {a : List Nd} {ss : List Nat} {N : Nat} {Q : VD} {is : List Nat} {w : Str} (W' : List Vl) (hW : W' = worths a bx mk br) (hn : st[n]? = some (.rw (a.map nD))) (hb : st[b]? = some (.rw (br.map oD))) (hs : st[s]? = some (.dc kvs)) (me : Memo W' kvs) (ok : OkT m a ss) (m1 : m < 100) (g : Env bx mk br) (b8 : bx.length = 8) (m3 : mk.length = 3) (al : a.length < 200) (bl : br.length < 500)
    (hi : ∀ x ∈ is, x < N ∧ x < a.length) (il : is.length < 100)
    (hQ : ∀ st' kvs', Kp s st st' → st'[s]? = some (.dc kvs') → Memo W' kvs' → Q (.lst st'.length) (st' ++ [.rw (is.map fun x => vD (W'.getD x .non))])) :
    tcomp (iseq (tsliceA (tvar 6) (tosome (tcon (Dt.int 1))) tonone)) (fun x st P => P true st) (tcall (spW N) (tacons (tvar 4) (tacons (tvar 0) (tacons (tvar 1) (tacons (tvar 3) (tacons (tvar 2) (tacons (tvar 5) tanil))))))) [(2, "boxes"), (4, "brought"), (3, "marks"), (0, "nodes"), (5, "seen")]
      (RW8 n k bx mk b s (some (.tup (.str w :: is.map fun x : Nat => Dt.int (x : Int)))) x7) st Q := by
  subst hW
  simp only [tcomp, iseq, tsliceA, tosome, tonone, tcon, tvar, List.getElem?_cons_zero, List.getElem?_cons_succ, seqOf]
  have hc : L3.cutD (.str w :: is.map fun x : Nat => Dt.int (x : Int)) (some 1) none = is.map fun x : Nat => Dt.int (x : Int) := by
    unfold L3.cutD
    rw [HT.sIx_none, show (1 : Int) = ((1 : Nat) : Int) from rfl, HT.sIx_nat, List.length_cons, Nat.min_eq_left (by omega), List.drop_succ_cons, List.drop_zero, Nat.add_sub_cancel, List.take_length]
  rw [hc]
  refine ⟨fun j ys s' => ys = (is.take j).map (fun x => vD ((worths a bx mk br).getD x .non)) ∧ ∃ kvs', Kp s st s' ∧ s'[s]? = some (.dc kvs') ∧ Memo (worths a bx mk br) kvs', ⟨rfl, kvs, .refl _, hs, me⟩, fun _ _ _ _ _ => trivial, ?_, ?_⟩
  · rintro j d ys s' hd ⟨rfl, kv1, k1, g1, me1⟩
    have hj := lt_of_get hd
    rw [List.length_map] at hj
    rw [List.getElem?_map, List.getElem?_eq_getElem hj] at hd
    have hd : d = .int ((is[j] : Nat) : Int) := (Option.some.inj hd).symm
    subst hd
    have hil := List.length_take_le' j is
    refine ⟨by rw [List.length_map]; exact small (by omega), iteT ?_⟩
    have hx := hi _ (List.getElem_mem hj)
    have nn : n ≠ s := fun e => by rw [e, hs] at hn; cases hn
    have nb : b ≠ s := fun e => by rw [e, hs] at hb; cases hb
    refine ⟨m, a, ss, bx, mk, br, n, is[j], b, s, kv1, rfl, hx.1, hx.2, k1 _ _ nn hn, k1 _ _ nb hb, g1, me1, ok, m1, g, b8, m3, al, bl, fun s2 kv2 k2 g2 me2 => ⟨?_, kv2, k1.trans k2, g2, me2⟩⟩
    rw [take1 hj, List.map_append]; rfl
  · rintro ys s' ⟨rfl, kv1, k1, g1, me1⟩
    rw [List.length_map, List.take_length]
    exact hQ s' kv1 k1 g1 me1
theorem rd__law_worth (N : Nat) {ds : List Dt} {st : Sto} {Pd : VD} (h : spW (N + 1) ds st Pd) : t__law_worth N (Ed Pd) (startD ["nodes", "k", "boxes", "marks", "brought", "seen", "node", "some"] ds) st := by
  obtain ⟨m, a, ss, bx, mk, br, n, k, b, s, kvs, rfl, kN, ka, hn, hb, hs, me, ok, m1, g, b8, m3, al, bl, hP⟩ := h
  obtain ⟨W, hW⟩ : ∃ W, W = worths a bx mk br := ⟨_, rfl⟩
  rw [← hW] at me hP
  have wl : W.length = a.length := by rw [hW, worths_len]
  have kW : k < W.length := by omega
  have wl2 : W.length < 200 := by omega
  have wk : W.getD k .non = worth a[k] (W.take k) bx mk br := by rw [hW]; exact w_at ka
  obtain ⟨E', hE'⟩ : ∃ E' : EndsD, E' = { Ed Pd with nx := (tseq (tret (tbin rDGet (tvar 5) (tvar 1))) tnext) (Ed Pd) } := ⟨_, rfl⟩
  have fin : ∀ st' kvs' x6 x7, Kp s st st' → st'[s]? = some (.dc kvs') → Memo W kvs' → valD kvs' (Sum.inl (k : Int)) = some (vD (W.getD k .non)) → E'.nx (RW8 n k bx mk b s x6 x7) st' := by
    intro st' kvs' x6 x7 k1 g1 me1 v1
    rw [hE']
    show rDGet (.dic s) (.int (k : Nat)) st' Pd
    simp only [rDGet, g1, keyD, v1]
    exact hP st' kvs' k1 g1 me1
  show (tifS (tbool (tbin (rDIn true) (tvar 1) (tvar 5))) (wb0 N) tnext) { Ed Pd with nx := (tseq (tret (tbin rDGet (tvar 5) (tvar 1))) tnext) (Ed Pd) } (RW8 n k bx mk b s none none) st
  rw [← hE']
  simp only [tifS, tbool, tbin, tvar, List.getElem?_cons_zero, List.getElem?_cons_succ, rDIn, hs, keyD]
  cases hv : valD kvs (Sum.inl (k : Int)) with
  | some d =>
    have hd : d = vD (W.getD k .non) := by
      obtain ⟨js, nd, hb', rfl⟩ := me
      rw [memo_val] at hv
      split at hv
      · exact (Option.some.inj hv).symm
      · cases hv
    subst hd
    exact fin st kvs none none (.refl _) hs me hv
  | none =>
    show wb0 N E' (RW8 n k bx mk b s none none) st
    simp only [wb0, tseq, tasg, tbin, tvar, gname, List.getElem?_cons_zero, List.getElem?_cons_succ, List.set_cons_zero, List.set_cons_succ]
    obtain ⟨d, ha, _, hg⟩ := atI_of (xs := a.map nD) (v := (k : Int)) (by omega) (by rw [List.length_map]; omega)
    rw [Int.toNat_natCast, List.getElem?_map, List.getElem?_eq_getElem ka] at hg
    refine pickAt hn ha ?_
    rw [← Option.some.inj hg]
    obtain ⟨sk, on⟩ := ok.at_ ka
    have six : (6 : Nat) ≤ sizeLine := by decide
    have leaf : ∀ (w : Str) (ns : List Dt), nD a[k] = .tup (.str w :: ns) → leafy a[k] = true → ([Dt.str "item", .str "num", .str "box", .str "mark", .str "yes", .str "no"].any (fun z => eqD 0 z (.str w)) != false) = true → wb1 N E' (RW8 n k bx mk b s (some (nD a[k])) none) st := by
      intro w ns e1 lf c1
      simp only [wb1, tseq, tifS, tbool, tbin, tvar, tcon, ttup, tacons, tanil, List.getElem?_cons_zero, List.getElem?_cons_succ]
      rw [e1]
      refine pickTA at0c ?_
      refine ⟨six, rfl, by decide, iteB c1 ?_⟩
      simp only [tasg, tcall, tacons, tanil, tvar, tret, tbin, List.getElem?_cons_zero, List.getElem?_cons_succ]
      rw [← e1]
      refine ⟨a[k], ss.take k, m, sk, bx, mk, b, br, rfl, lf, on, m1, b8, m3, hb, bl, fun s1 e => ?_⟩
      refine put_fin (e _ _ hs) me kW wl2 (by rw [wk]; exact congrArg vD (worth_leaf lf _ _ _ _ _)) fun s2 kv2 k2 g2 me2 v2 => ?_
      have := fin s2 kv2 none none ((Kp.ext e).trans k2) g2 me2 v2
      rw [hE'] at this ⊢
      exact this
    have named : ∀ (w : Str) (is : List Nat), nD a[k] = .tup (.str w :: is.map fun x : Nat => Dt.int (x : Int)) → ([Dt.str "item", .str "num", .str "box", .str "mark", .str "yes", .str "no"].any (fun z => eqD 0 z (.str w)) != false) = false → (∀ x ∈ is, x < k) → is.length < 100 →
        (∀ st' kvs', Kp s st st' → st'[s]? = some (.dc kvs') → Memo W kvs' → wb3 E' (RW8 n k bx mk b s (some (nD a[k])) (some (.lst st'.length))) (st' ++ [.rw (is.map fun x => vD (W.getD x .non))])) → wb1 N E' (RW8 n k bx mk b s (some (nD a[k])) none) st := by
      intro w is e1 c1 hi il h
      simp only [wb1, tseq, tifS, tbool, tbin, tvar, tcon, ttup, tacons, tanil, List.getElem?_cons_zero, List.getElem?_cons_succ]
      rw [e1] at h ⊢
      refine pickTA at0c ?_
      refine ⟨six, rfl, by decide, iteBF c1 ?_⟩
      simp only [tnext, wb2, tseq, tasg]
      exact comp_named W hW hn hb hs me ok m1 g b8 m3 al bl (fun x hx => ⟨by have := hi x hx; omega, by have := hi x hx; omega⟩) il h
    cases q : a[k] with
    | item i => rw [← q]; exact leaf "item" _ (by rw [q]; rfl) (by rw [q]; rfl) (by decide +kernel)
    | num i => rw [← q]; exact leaf "num" _ (by rw [q]; rfl) (by rw [q]; rfl) (by decide +kernel)
    | box i => rw [← q]; exact leaf "box" _ (by rw [q]; rfl) (by rw [q]; rfl) (by decide +kernel)
    | mark i => rw [← q]; exact leaf "mark" _ (by rw [q]; rfl) (by rw [q]; rfl) (by decide +kernel)
    | yes => rw [← q]; exact leaf "yes" _ (by rw [q]; rfl) (by rw [q]; rfl) (by decide +kernel)
    | no => rw [← q]; exact leaf "no" _ (by rw [q]; rfl) (by rw [q]; rfl) (by decide +kernel)
    | two o x y =>
      rw [q] at on wk
      obtain ⟨x1, x2⟩ := named_ok ok g ka on.1
      obtain ⟨y1, y2⟩ := named_ok ok g ka on.2.1
      rw [← hW] at x2 y2
      rw [← q]
      refine named (nm o) [x, y] (by rw [q]; rfl) (by cases o <;> decide +kernel) (by simp; omega) (by simp) fun s1 kv1 k1 g1 me1 => ?_
      rw [q]
      refine step_two (W := W) (get_app g1) me1 kW wl2 get_new x2 y2 ?_ fun s2 kv2 k2 g2 me2 v2 => fin s2 kv2 _ _ ((k1.trans (.ext (.app _ _))).trans k2) g2 me2 v2
      rw [wk]
      simp only [worth]
      rw [tk_at x1 kW, tk_at y1 kW]
      rcases x2 with e | ⟨i, e, _⟩ <;> rcases y2 with e' | ⟨j, e', _⟩ <;> rw [e, e'] <;> rfl
    | nought x =>
      rw [q] at on wk
      obtain ⟨x1, x2⟩ := named_ok ok g ka on.1
      rw [← hW] at x2
      rw [← q]
      refine named "nought" [x] (by rw [q]; rfl) (by decide +kernel) (by simp; omega) (by simp) fun s1 kv1 k1 g1 me1 => ?_
      refine step_one (W := W) (hi := false) (x := x) (get_app g1) me1 kW wl2 get_new x2 q ?_ fun s2 kv2 k2 g2 me2 v2 => fin s2 kv2 _ _ ((k1.trans (.ext (.app _ _))).trans k2) g2 me2 v2
      rw [wk]
      simp only [worth]
      rw [tk_at x1 kW]
      rcases x2 with e | ⟨i, e, _⟩ <;> rw [e] <;> rfl
    | high x =>
      rw [q] at on wk
      obtain ⟨x1, x2⟩ := named_ok ok g ka on.1
      rw [← hW] at x2
      rw [← q]
      refine named "high" [x] (by rw [q]; rfl) (by decide +kernel) (by simp; omega) (by simp) fun s1 kv1 k1 g1 me1 => ?_
      refine step_one (W := W) (hi := true) (x := x) (get_app g1) me1 kW wl2 get_new x2 q ?_ fun s2 kv2 k2 g2 me2 v2 => fin s2 kv2 _ _ ((k1.trans (.ext (.app _ _))).trans k2) g2 me2 v2
      rw [wk]
      simp only [worth]
      rw [tk_at x1 kW]
      rcases x2 with e | ⟨i, e, _⟩ <;> rw [e] <;> rfl
end
end K18
namespace K18
open PySem PySem.Spec PyProof.Rows L2 L3 KH KS KW K20
noncomputable abbrev t_law : TSD := (tseq (tasg (tcall KH.spHand (tacons (tcall rSumI (tacons (tvar 0) tanil)) (tacons (tcon (Dt.int 18)) tanil))) (gname 1)) (tseq (tasg (tlistrng (tbin rIxD (tlst (tacons (tcon (Dt.int 5)) (tacons (tcon (Dt.int 60)) tanil))) (tcall KH.spDraw (tacons (tvar 1) (tacons (tcon (Dt.int 2)) tanil))))) (gname 2)) (tseq (tasg (tlst tanil) (gname 3)) (tseq (tasg (tlst tanil) (gname 4)) (tseq (tfor (ienum (tsliceA (tvar 0) tonone (tosome (tcon (Dt.int 63))))) (gunpack 2 (gscons (gname 5) (gscons (gname 6) gsnil))) (tseq (tasg (tcall KH.spHand (tacons (tvar 6) (tacons (tvar 5) tanil))) (gname 7)) (tseq (tfor (irng1 (tcon (Dt.int 2))) (gname 8) (tseq (tasg (tcall K20.spNode (tacons (tvar 7) (tacons (tvar 4) (tacons (tvar 2) tanil)))) (gunpack 2 (gscons (gname 9) (gscons (gname 10) gsnil)))) (tseq (tdrop (tappend (tvar 3) (tvar 9))) (tseq (tdrop (tappend (tvar 4) (tvar 10))) tnext)))) tnext))) (tseq (tasg (tcall rTuple (tacons (tcomp (irng1 (tcon (Dt.int 8))) (fun x st P => P true st) (tcall KS.spNumber (tacons (tvar 1) tanil)) [(1, "hand")]) tanil)) (gname 11)) (tseq (tasg (tcall rTuple (tacons (tcomp (irng1 (tcon (Dt.int 3))) (fun x st P => P true st) (tbin (rEqD false) (tcall KH.spDraw (tacons (tvar 1) (tacons (tcon (Dt.int 2)) tanil))) (tcon (Dt.int 1))) [(1, "hand")]) tanil)) (gname 12)) (tseq (tfor (irng1 (tcon (Dt.int 3))) (gname 8) (tseq (tasg (tcomp (irng1 (tcall KH.spDraw (tacons (tvar 1) (tacons (tbin L3.rAdd (tcall rLen (tacons (tvar 2) tanil)) (tcon (Dt.int 1))) tanil)))) (fun x st P => P true st) (tcall KS.spNumber (tacons (tvar 1) tanil)) [(1, "hand")]) (gname 13)) (tseq (tfor (irng1 (tcall rLen (tacons (tvar 13) tanil))) (gname 5) (tseq (tasg (tbin rIxD (tlst (tacons (tbin rIxD (tvar 13) (tvar 5)) (tacons (tbin rIxD (tvar 13) (tvar 5)) (tacons (tcon Dt.non) tanil)))) (tcall KH.spDraw (tacons (tvar 1) (tacons (tcon (Dt.int 3)) tanil)))) (gsub (tvar 13) (tvar 5))) tnext)) (tseq (tasg tdict0 (gname 14)) (tseq (tasg (trevL (tcomp (irng1 (tcall rLen (tacons (tvar 3) tanil))) (fun x st P => P true st) (tcall (spW 130) (tacons (tvar 4) (tacons (tbin L3.rSub (tbin L3.rSub (tcall rLen (tacons (tvar 4) tanil)) (tcon (Dt.int 1))) (tvar 0)) (tacons (tvar 1) (tacons (tvar 3) (tacons (tvar 2) (tacons (tvar 5) tanil))))))) [(11, "boxes"), (13, "brought"), (12, "marks"), (3, "nodes"), (14, "seen")])) (gname 15)) (tseq (tasg (tcall rList (tacons (tvar 13) tanil)) (gname 16)) (tseq (tasg (tcall K20.spWorths (tacons (tcall rTuple (tacons (tvar 3) tanil)) (tacons (tvar 11) (tacons (tvar 12) (tacons (tvar 16) tanil))))) (gname 17)) (tseq (tifS (torB (tnotB (tbool (tcall rIsInst (tacons (tvar 17) (tacons (tcon (Dt.ty "list")) tanil))))) (torB (tbool (tbin (rEqD true) (tcall rLen (tacons (tvar 17) tanil)) (tcall rLen (tacons (tvar 15) tanil)))) (tbool (tbin (rEqD true) (tvar 16) (tvar 13))))) (tseq (tret (tcon (Dt.bl false))) tnext) tnext) (tseq (tifS (tnotB (tbool (tcall rAllB (tacons (tcomp (irng1 (tcall rLen (tacons (tvar 15) tanil))) (fun x st P => P true st) (tcall spAlike (tacons (tbin rIxD (tvar 2) (tvar 0)) (tacons (tbin rIxD (tvar 1) (tvar 0)) tanil))) [(15, "due"), (17, "found")]) tanil)))) (tseq (tret (tcon (Dt.bl false))) tnext) tnext) (tseq (tdrop (tappend (tvar 17) (tcon (Dt.int 7)))) (tseq (tifS (torB (tbool (tbin (rEqD true) (tcall K20.spWorths (tacons (tcall rTuple (tacons (tvar 3) tanil)) (tacons (tvar 11) (tacons (tvar 12) (tacons (tvar 16) tanil))))) (tvar 15))) (tbool (tbin (rEqD true) (tvar 16) (tvar 13)))) (tseq (tret (tcon (Dt.bl false))) tnext) tnext) tnext))))))))))) (tseq (tret (tbin (rEqD false) (tcall K20.spWorths (tacons (ttup tanil) (tacons (tvar 11) (tacons (tvar 12) (tacons (tlst tanil) tanil))))) (tlst tanil))) tnext)))))))))
noncomputable def l8 : TSD := (tseq (tret (tbin (rEqD false) (tcall K20.spWorths (tacons (ttup tanil) (tacons (tvar 11) (tacons (tvar 12) (tacons (tlst tanil) tanil))))) (tlst tanil))) tnext)
noncomputable def l7 : TSD := (tseq (tfor (irng1 (tcon (Dt.int 3))) (gname 8) (tseq (tasg (tcomp (irng1 (tcall KH.spDraw (tacons (tvar 1) (tacons (tbin L3.rAdd (tcall rLen (tacons (tvar 2) tanil)) (tcon (Dt.int 1))) tanil)))) (fun x st P => P true st) (tcall KS.spNumber (tacons (tvar 1) tanil)) [(1, "hand")]) (gname 13)) (tseq (tfor (irng1 (tcall rLen (tacons (tvar 13) tanil))) (gname 5) (tseq (tasg (tbin rIxD (tlst (tacons (tbin rIxD (tvar 13) (tvar 5)) (tacons (tbin rIxD (tvar 13) (tvar 5)) (tacons (tcon Dt.non) tanil)))) (tcall KH.spDraw (tacons (tvar 1) (tacons (tcon (Dt.int 3)) tanil)))) (gsub (tvar 13) (tvar 5))) tnext)) (tseq (tasg tdict0 (gname 14)) (tseq (tasg (trevL (tcomp (irng1 (tcall rLen (tacons (tvar 3) tanil))) (fun x st P => P true st) (tcall (spW 130) (tacons (tvar 4) (tacons (tbin L3.rSub (tbin L3.rSub (tcall rLen (tacons (tvar 4) tanil)) (tcon (Dt.int 1))) (tvar 0)) (tacons (tvar 1) (tacons (tvar 3) (tacons (tvar 2) (tacons (tvar 5) tanil))))))) [(11, "boxes"), (13, "brought"), (12, "marks"), (3, "nodes"), (14, "seen")])) (gname 15)) (tseq (tasg (tcall rList (tacons (tvar 13) tanil)) (gname 16)) (tseq (tasg (tcall K20.spWorths (tacons (tcall rTuple (tacons (tvar 3) tanil)) (tacons (tvar 11) (tacons (tvar 12) (tacons (tvar 16) tanil))))) (gname 17)) (tseq (tifS (torB (tnotB (tbool (tcall rIsInst (tacons (tvar 17) (tacons (tcon (Dt.ty "list")) tanil))))) (torB (tbool (tbin (rEqD true) (tcall rLen (tacons (tvar 17) tanil)) (tcall rLen (tacons (tvar 15) tanil)))) (tbool (tbin (rEqD true) (tvar 16) (tvar 13))))) (tseq (tret (tcon (Dt.bl false))) tnext) tnext) (tseq (tifS (tnotB (tbool (tcall rAllB (tacons (tcomp (irng1 (tcall rLen (tacons (tvar 15) tanil))) (fun x st P => P true st) (tcall spAlike (tacons (tbin rIxD (tvar 2) (tvar 0)) (tacons (tbin rIxD (tvar 1) (tvar 0)) tanil))) [(15, "due"), (17, "found")]) tanil)))) (tseq (tret (tcon (Dt.bl false))) tnext) tnext) (tseq (tdrop (tappend (tvar 17) (tcon (Dt.int 7)))) (tseq (tifS (torB (tbool (tbin (rEqD true) (tcall K20.spWorths (tacons (tcall rTuple (tacons (tvar 3) tanil)) (tacons (tvar 11) (tacons (tvar 12) (tacons (tvar 16) tanil))))) (tvar 15))) (tbool (tbin (rEqD true) (tvar 16) (tvar 13)))) (tseq (tret (tcon (Dt.bl false))) tnext) tnext) tnext))))))))))) l8)
noncomputable def l5 : TSD := (tseq (tasg (tcall rTuple (tacons (tcomp (irng1 (tcon (Dt.int 8))) (fun x st P => P true st) (tcall KS.spNumber (tacons (tvar 1) tanil)) [(1, "hand")]) tanil)) (gname 11)) (tseq (tasg (tcall rTuple (tacons (tcomp (irng1 (tcon (Dt.int 3))) (fun x st P => P true st) (tbin (rEqD false) (tcall KH.spDraw (tacons (tvar 1) (tacons (tcon (Dt.int 2)) tanil))) (tcon (Dt.int 1))) [(1, "hand")]) tanil)) (gname 12)) l7))
noncomputable def l4 : TSD := (tseq (tfor (ienum (tsliceA (tvar 0) tonone (tosome (tcon (Dt.int 63))))) (gunpack 2 (gscons (gname 5) (gscons (gname 6) gsnil))) (tseq (tasg (tcall KH.spHand (tacons (tvar 6) (tacons (tvar 5) tanil))) (gname 7)) (tseq (tfor (irng1 (tcon (Dt.int 2))) (gname 8) (tseq (tasg (tcall K20.spNode (tacons (tvar 7) (tacons (tvar 4) (tacons (tvar 2) tanil)))) (gunpack 2 (gscons (gname 9) (gscons (gname 10) gsnil)))) (tseq (tdrop (tappend (tvar 3) (tvar 9))) (tseq (tdrop (tappend (tvar 4) (tvar 10))) tnext)))) tnext))) l5)
noncomputable def b4 : TSD := (tseq (tasg (tcall KH.spHand (tacons (tvar 6) (tacons (tvar 5) tanil))) (gname 7)) (tseq (tfor (irng1 (tcon (Dt.int 2))) (gname 8) (tseq (tasg (tcall K20.spNode (tacons (tvar 7) (tacons (tvar 4) (tacons (tvar 2) tanil)))) (gunpack 2 (gscons (gname 9) (gscons (gname 10) gsnil)))) (tseq (tdrop (tappend (tvar 3) (tvar 9))) (tseq (tdrop (tappend (tvar 4) (tvar 10))) tnext)))) tnext))
noncomputable def b41 : TSD := (tseq (tasg (tcall K20.spNode (tacons (tvar 7) (tacons (tvar 4) (tacons (tvar 2) tanil)))) (gunpack 2 (gscons (gname 9) (gscons (gname 10) gsnil)))) (tseq (tdrop (tappend (tvar 3) (tvar 9))) (tseq (tdrop (tappend (tvar 4) (tvar 10))) tnext)))
noncomputable def c9 : TSD := (tseq (tifS (torB (tbool (tbin (rEqD true) (tcall K20.spWorths (tacons (tcall rTuple (tacons (tvar 3) tanil)) (tacons (tvar 11) (tacons (tvar 12) (tacons (tvar 16) tanil))))) (tvar 15))) (tbool (tbin (rEqD true) (tvar 16) (tvar 13)))) (tseq (tret (tcon (Dt.bl false))) tnext) tnext) tnext)
noncomputable def c7 : TSD := (tseq (tifS (tnotB (tbool (tcall rAllB (tacons (tcomp (irng1 (tcall rLen (tacons (tvar 15) tanil))) (fun x st P => P true st) (tcall spAlike (tacons (tbin rIxD (tvar 2) (tvar 0)) (tacons (tbin rIxD (tvar 1) (tvar 0)) tanil))) [(15, "due"), (17, "found")]) tanil)))) (tseq (tret (tcon (Dt.bl false))) tnext) tnext) (tseq (tdrop (tappend (tvar 17) (tcon (Dt.int 7)))) c9))
noncomputable def c6 : TSD := (tseq (tifS (torB (tnotB (tbool (tcall rIsInst (tacons (tvar 17) (tacons (tcon (Dt.ty "list")) tanil))))) (torB (tbool (tbin (rEqD true) (tcall rLen (tacons (tvar 17) tanil)) (tcall rLen (tacons (tvar 15) tanil)))) (tbool (tbin (rEqD true) (tvar 16) (tvar 13))))) (tseq (tret (tcon (Dt.bl false))) tnext) tnext) c7)
noncomputable def c5 : TSD := (tseq (tasg (tcall K20.spWorths (tacons (tcall rTuple (tacons (tvar 3) tanil)) (tacons (tvar 11) (tacons (tvar 12) (tacons (tvar 16) tanil))))) (gname 17)) c6)
noncomputable def c4 : TSD := (tseq (tasg (tcall rList (tacons (tvar 13) tanil)) (gname 16)) c5)
noncomputable def c3 : TSD := (tseq (tasg (trevL (tcomp (irng1 (tcall rLen (tacons (tvar 3) tanil))) (fun x st P => P true st) (tcall (spW 130) (tacons (tvar 4) (tacons (tbin L3.rSub (tbin L3.rSub (tcall rLen (tacons (tvar 4) tanil)) (tcon (Dt.int 1))) (tvar 0)) (tacons (tvar 1) (tacons (tvar 3) (tacons (tvar 2) (tacons (tvar 5) tanil))))))) [(11, "boxes"), (13, "brought"), (12, "marks"), (3, "nodes"), (14, "seen")])) (gname 15)) c4)
noncomputable def c2 : TSD := (tseq (tasg tdict0 (gname 14)) c3)
noncomputable def c1 : TSD := (tseq (tfor (irng1 (tcall rLen (tacons (tvar 13) tanil))) (gname 5) (tseq (tasg (tbin rIxD (tlst (tacons (tbin rIxD (tvar 13) (tvar 5)) (tacons (tbin rIxD (tvar 13) (tvar 5)) (tacons (tcon Dt.non) tanil)))) (tcall KH.spDraw (tacons (tvar 1) (tacons (tcon (Dt.int 3)) tanil)))) (gsub (tvar 13) (tvar 5))) tnext)) c2)
noncomputable def c0 : TSD := (tseq (tasg (tcomp (irng1 (tcall KH.spDraw (tacons (tvar 1) (tacons (tbin L3.rAdd (tcall rLen (tacons (tvar 2) tanil)) (tcon (Dt.int 1))) tanil)))) (fun x st P => P true st) (tcall KS.spNumber (tacons (tvar 1) tanil)) [(1, "hand")]) (gname 13)) c1)
noncomputable def b71 : TSD := (tseq (tasg (tbin rIxD (tlst (tacons (tbin rIxD (tvar 13) (tvar 5)) (tacons (tbin rIxD (tvar 13) (tvar 5)) (tacons (tcon Dt.non) tanil)))) (tcall KH.spDraw (tacons (tvar 1) (tacons (tcon (Dt.int 3)) tanil)))) (gsub (tvar 13) (tvar 5))) tnext)
theorem len_has {st : Sto} {n : Nat} {xs : List Dt} {P : VD} (h : Has st n xs) (p : P (.int (xs.length : Nat)) st) : rLen [.lst n] st P := by
  show (match seqOf st (.lst n) with | some xs => P (.int xs.length) st | none => False)
  rw [seq_has h]; exact p
theorem has_rw {st : Sto} {n : Nat} {xs : List Dt} (h : st[n]? = some (.rw xs)) : Has st n xs := ⟨_, h, rfl⟩
theorem ook : ∀ x : Option Int, okD 8 (oD x) = true := by intro x; cases x <;> rfl
theorem eqO {st : Sto} {n m : Nat} {vs : List (Option Int)} {neg : Bool} {P : VD} (e1 : st[n]? = some (.rw (vs.map oD))) (e2 : st[m]? = some (.rw (vs.map oD))) (h : P (.bl (true != neg)) st) : rEqD neg (.lst n) (.lst m) st P := by
  simp only [rEqD, e1, e2, SO.items]
  have a : (vs.map oD).all (okD 8) = true := by rw [List.all_map]; exact List.all_eq_true.mpr fun v _ => ook v
  refine ⟨a, a, ?_⟩
  have e : eqL (eqD 8) (vs.map oD) (vs.map oD) = true := eqL_self fun x hx => by
    obtain ⟨v, _, rfl⟩ := List.mem_map.mp hx
    cases v with
    | some i => show (i == i) = true; exact beq_self_eq_true _
    | none => rfl
  rw [e]; exact h
structure G (m : Nat) (a : List Nd) (ss : List Nat) (bs : List Int) (ms : List Bool) : Prop where
  ok : OkT m a ss
  al : a.length ≤ 126
  m0 : 0 < m
  m1 : m < 100
  b8 : bs.length = 8
  bb : ∀ b ∈ bs, 0 ≤ b ∧ b < 65536
  m3 : ms.length = 3
structure S (st : Sto) (it no m : Nat) (a : List Nd) : Prop where
  hand : HandAt st 1
  items : Has st it (rangeD 0 m)
  nodes : st[no]? = some (.rw (a.map nD))
  n1 : it ≠ 1
  n2 : no ≠ 1
theorem S.keep {st st' : Sto} {it no m : Nat} {a : List Nd} (s : S st it no m a) (k : Keep 1 st st') : S st' it no m a :=
  ⟨k.2, has_keep s.items k (Ne.symm s.n1), k.1 _ _ s.n2 s.nodes, s.n1, s.n2⟩
theorem S.ext {st st' : Sto} {it no m : Nat} {a : List Nd} (s : S st it no m a) (e : ExtS st st') : S st' it no m a := s.keep (.of s.hand e)
noncomputable def BrOk (br : List (Option Int)) : Prop := ∀ (i : Nat) v, br[i]? = some (some v) → 0 ≤ v ∧ v < 65536
theorem env_of' {bs : List Int} {ms : List Bool} {br : List (Option Int)} (hb : ∀ b ∈ bs, 0 ≤ b ∧ b < 65536) (hn : BrOk br) : KW.Env bs ms br := ⟨getD_ok hb, hn⟩
noncomputable abbrev R (it no so : Nat) (bs : List Int) (ms : List Bool) (x5 x6 x7 x8 x9 x10 x13 x14 x15 x16 x17 : Option Dt) : Rho := [some (.lst 0), some (.lst 1), some (.lst it), some (.lst no), some (.lst so), x5, x6, x7, x8, x9, x10, some (bxD bs), some (mkD ms), x13, x14, x15, x16, x17]
section
variable {E : EndsD} {Pd : VD} {st : Sto} {it no so b sn du hd fo m : Nat} {a : List Nd} {ss : List Nat} {bs : List Int} {ms : List Bool} {br : List (Option Int)} {x5 x6 x7 x8 x9 x10 x13 x14 x15 x16 x17 : Option Dt}
theorem law8 (g : G m a ss bs ms) (hP : ∀ st', Pd (.bl true) st') : l8 (Ed Pd) (R it no so bs ms x5 x6 x7 x8 x9 x10 x13 x14 x15 x16 x17) st := by
  simp only [l8, tseq, tret, tbin, tcall, tacons, tanil, ttup, tlst, tvar, List.getElem?_cons_zero, List.getElem?_cons_succ]
  refine ⟨Nat.zero_le _, Nat.zero_le _, ?_⟩
  refine ⟨m, [], [], bs, ms, _, [], rfl, ⟨_, get_new, rfl⟩, .nil, ⟨getD_ok g.bb, fun i v e => by simp at e⟩, g.b8, g.m3, by decide, by decide, fun s2 r e2 hr g2 => ?_⟩
  refine ⟨Nat.zero_le _, ?_⟩
  exact eqW (vs := []) (get_app g2) get_new (hP _)
structure T (st : Sto) (it no m b : Nat) (a : List Nd) (bs : List Int) (ms : List Bool) (br : List (Option Int)) : Prop where
  s : S st it no m a
  br : st[b]? = some (.rw (br.map oD))
  nb : b ≠ 1
  nit : b ≠ it
  nno : b ≠ no
theorem T.ext {st' : Sto} (t : T st it no m b a bs ms br) (e : ExtS st st') : T st' it no m b a bs ms br := ⟨t.s.ext e, e _ _ t.br, t.nb, t.nit, t.nno⟩
theorem ask (g : G m a ss bs ms) (t : T st it no m b a bs ms br) (hh : st[hd]? = some (.rw (br.map oD))) (ok : BrOk br) (bl : br.length < 200) {P : VD}
    (h : ∀ st' r, ExtS st st' → st.length ≤ r → st'[r]? = some (.rw ((worths a bs ms br).map vD)) → P (.lst r) st') :
    (tcall K20.spWorths (tacons (tcall rTuple (tacons (tvar 3) tanil)) (tacons (tvar 11) (tacons (tvar 12) (tacons (tvar 16) tanil))))) (R it no so bs ms x5 x6 x7 x8 x9 x10 x13 x14 x15 (some (.lst hd)) x17) st P := by
  simp only [tcall, tacons, tanil, tvar, List.getElem?_cons_zero, List.getElem?_cons_succ, rTuple, seqOf, t.s.nodes, Option.map_some, SO.items]
  have := g.al
  exact ⟨m, a, ss, bs, ms, hd, br, rfl, ⟨_, hh, rfl⟩, g.ok, env_of' g.bb ok, g.b8, g.m3, by omega, by omega, h⟩
theorem turn9 (g : G m a ss bs ms) (t : T st it no m b a bs ms br) (hh : st[hd]? = some (.rw (br.map oD))) (hdu : st[du]? = some (.rw ((worths a bs ms br).map vD))) (ok : BrOk br) (bl : br.length < 200)
    (hE : ∀ st', ExtS st st' → E.nx (R it no so bs ms x5 x6 x7 x8 x9 x10 (some (.lst b)) x14 (some (.lst du)) (some (.lst hd)) x17) st') :
    c9 E (R it no so bs ms x5 x6 x7 x8 x9 x10 (some (.lst b)) x14 (some (.lst du)) (some (.lst hd)) x17) st := by
  simp only [c9, tseq, tifS, torB, tbool, tbin]
  refine ask g t hh ok bl fun s1 r e1 hr g1 => ?_
  simp only [tvar, List.getElem?_cons_zero, List.getElem?_cons_succ, tnext]
  refine eqW g1 (e1 _ _ hdu) ?_
  simp only [bne_self_eq_false, Bool.false_eq_true, if_false]
  refine eqO (e1 _ _ hh) (e1 _ _ t.br) ?_
  exact hE s1 e1
theorem turn7 (g : G m a ss bs ms) (t : T st it no m b a bs ms br) (hh : st[hd]? = some (.rw (br.map oD))) (hdu : st[du]? = some (.rw ((worths a bs ms br).map vD))) (hf : st[fo]? = some (.rw ((worths a bs ms br).map vD))) (ok : BrOk br) (bl : br.length < 200)
    (n1 : fo ≠ 1) (n2 : fo ≠ it) (n3 : fo ≠ no) (n4 : fo ≠ b) (n5 : fo ≠ hd) (n6 : fo ≠ du)
    (hE : ∀ st', (∀ i o, i ≠ fo → st[i]? = some o → st'[i]? = some o) → E.nx (R it no so bs ms x5 x6 x7 x8 x9 x10 (some (.lst b)) x14 (some (.lst du)) (some (.lst hd)) (some (.lst fo))) st') :
    c7 E (R it no so bs ms x5 x6 x7 x8 x9 x10 (some (.lst b)) x14 (some (.lst du)) (some (.lst hd)) (some (.lst fo))) st := by
  have hal := g.al
  obtain ⟨W, hW⟩ : ∃ W, W = worths a bs ms br := ⟨_, rfl⟩
  have hWl : W.length = a.length := by rw [hW, worths_len]
  simp only [c7, tseq, tifS, tnotB, tbool, tcall, tacons, tanil, tcomp, irng1, tvar, capρ, List.map_cons, List.map_nil, Option.join_some, List.getElem?_cons_zero, List.getElem?_cons_succ]
  refine len_has (has_rw hdu) ?_
  rw [← hW] at hdu hf ⊢
  rw [List.length_map]
  refine ⟨by omega, by omega, ?_⟩
  rw [Int.toNat_natCast]
  refine ⟨fun j ys s' => ys = (List.replicate j true).map .bl ∧ s' = st, ⟨rfl, rfl⟩, fun _ _ _ _ _ => trivial, ?_, ?_⟩
  · rintro j d ys s' hd' ⟨rfl, rfl⟩
    obtain ⟨hj, rfl⟩ := range_get hd'
    refine ⟨by rw [List.length_map, List.length_replicate]; exact small (by omega), iteT ?_⟩
    rw [Int.zero_add]
    simp only [tbin, tvar, tcall, tacons, tanil, List.getElem?_cons_zero, List.getElem?_cons_succ]
    refine pickW hf hj ?_
    refine pickW hdu hj ?_
    refine ⟨W[j], rfl, ?_, rfl⟩
    rw [List.replicate_succ', List.map_append]; rfl
  · rintro ys s' ⟨rfl, rfl⟩
    simp only [rAllB, get_new, SO.items]
    refine ⟨_, rfl, ?_⟩
    have e : (List.replicate (rangeD 0 W.length).length true).all id = true := by
      rw [List.all_eq_true]
      intro x hx
      rw [List.eq_of_mem_replicate hx]; rfl
    rw [e]
    simp only [Bool.not_true, Bool.false_eq_true, if_false, tnext]
    simp only [tseq, tdrop, tappend, tvar, tcon, List.getElem?_cons_zero, List.getElem?_cons_succ]
    rw [get_app hf]
    refine ⟨by rw [List.length_map]; exact small (by omega), ?_⟩
    obtain ⟨s1, hs1⟩ : ∃ s1, s1 = (s' ++ [SO.rw (List.map Dt.bl (List.replicate (rangeD 0 W.length).length true))]).set fo (.rw (W.map vD ++ [.int 7])) := ⟨_, rfl⟩
    have kp : ∀ i o, i ≠ fo → s'[i]? = some o → s1[i]? = some o := by
      intro i o n q
      rw [hs1]; exact get_set_ne (get_app q) (Ne.symm n)
    rw [← hs1]
    have t1 : T s1 it no m b a bs ms br := by
      refine ⟨⟨?_, ?_, kp _ _ (Ne.symm n3) t.s.nodes, t.s.n1, t.s.n2⟩, kp _ _ (Ne.symm n4) t.br, t.nb, t.nit, t.nno⟩
      · obtain ⟨o, q, r⟩ := t.s.hand
        exact ⟨o, kp _ _ (Ne.symm n1) q, r⟩
      · obtain ⟨o, q, r⟩ := t.s.items
        exact ⟨o, kp _ _ (Ne.symm n2) q, r⟩
    exact turn9 g t1 (kp _ _ (Ne.symm n5) hh) (by rw [← hW]; exact kp _ _ (Ne.symm n6) hdu) ok bl fun s2 e2 => hE s2 fun i o n q => e2 _ _ (kp i o n q)
theorem turn6 (g : G m a ss bs ms) (t : T st it no m b a bs ms br) (hh : st[hd]? = some (.rw (br.map oD))) (hdu : st[du]? = some (.rw ((worths a bs ms br).map vD))) (hf : st[fo]? = some (.rw ((worths a bs ms br).map vD))) (ok : BrOk br) (bl : br.length < 200)
    (n1 : fo ≠ 1) (n2 : fo ≠ it) (n3 : fo ≠ no) (n4 : fo ≠ b) (n5 : fo ≠ hd) (n6 : fo ≠ du)
    (hE : ∀ st', (∀ i o, i ≠ fo → st[i]? = some o → st'[i]? = some o) → E.nx (R it no so bs ms x5 x6 x7 x8 x9 x10 (some (.lst b)) x14 (some (.lst du)) (some (.lst hd)) (some (.lst fo))) st') :
    c6 E (R it no so bs ms x5 x6 x7 x8 x9 x10 (some (.lst b)) x14 (some (.lst du)) (some (.lst hd)) (some (.lst fo))) st := by
  simp only [c6, tseq, tifS, torB, tnotB, tbool, tbin, tcall, tacons, tanil, tvar, tcon, List.getElem?_cons_zero, List.getElem?_cons_succ]
  refine ⟨by simp, ?_⟩
  simp only [tyN, show isT "list" "list" = true by decide +kernel, Bool.not_true, Bool.false_eq_true, if_false]
  refine len_has (has_rw hf) ?_
  refine len_has (has_rw hdu) ?_
  refine eqi ?_
  rw [decide_eq_true rfl]
  simp only [bne_self_eq_false, Bool.false_eq_true, if_false]
  refine eqO hh t.br ?_
  simp only [bne_self_eq_false, Bool.false_eq_true, if_false, tnext]
  exact turn7 g t hh hdu hf ok bl n1 n2 n3 n4 n5 n6 hE
theorem lt_has {n : Nat} {xs : List Dt} (h : Has st n xs) : n < st.length := by
  obtain ⟨o, q, _⟩ := h; exact lt_of_get q
theorem turn5 (g : G m a ss bs ms) (t : T st it no m b a bs ms br) (hh : st[hd]? = some (.rw (br.map oD))) (hdu : st[du]? = some (.rw ((worths a bs ms br).map vD))) (ok : BrOk br) (bl : br.length < 200)
    (hE : ∀ st' x17, (∀ i o, i < st.length → st[i]? = some o → st'[i]? = some o) → E.nx (R it no so bs ms x5 x6 x7 x8 x9 x10 (some (.lst b)) x14 (some (.lst du)) (some (.lst hd)) x17) st') :
    c5 E (R it no so bs ms x5 x6 x7 x8 x9 x10 (some (.lst b)) x14 (some (.lst du)) (some (.lst hd)) x17) st := by
  simp only [c5, tseq, tasg]
  refine ask g t hh ok bl fun s1 r e1 hr g1 => ?_
  have l1 : 1 < st.length := by obtain ⟨o, q, _⟩ := t.s.hand; exact lt_of_get q
  have l2 := lt_has t.s.items
  have l3 := lt_of_get t.s.nodes
  have l4 := lt_of_get t.br
  have l5 := lt_of_get hh
  have l6 := lt_of_get hdu
  refine turn6 (E := E) (fo := r) g (t.ext e1) (e1 _ _ hh) (e1 _ _ hdu) g1 ok bl (by omega) (by omega) (by omega) (by omega) (by omega) (by omega) fun s2 k2 => hE s2 _ fun i o n q => k2 _ _ (by omega) (e1 _ _ q)
theorem turn4 (g : G m a ss bs ms) (t : T st it no m b a bs ms br) (hdu : st[du]? = some (.rw ((worths a bs ms br).map vD))) (ok : BrOk br) (bl : br.length < 200)
    (hE : ∀ st' x16 x17, (∀ i o, i < st.length → st[i]? = some o → st'[i]? = some o) → E.nx (R it no so bs ms x5 x6 x7 x8 x9 x10 (some (.lst b)) x14 (some (.lst du)) x16 x17) st') :
    c4 E (R it no so bs ms x5 x6 x7 x8 x9 x10 (some (.lst b)) x14 (some (.lst du)) x16 x17) st := by
  simp only [c4, tseq, tasg, tcall, tacons, tanil, tvar, gname, rList, seqOf, List.getElem?_cons_zero, List.getElem?_cons_succ, List.set_cons_zero, List.set_cons_succ, t.br, Option.map_some, SO.items]
  refine turn5 (E := E) (hd := st.length) g (t.ext (.app _ _)) get_new (get_app hdu) ok bl fun s2 z17 k2 => hE s2 _ _ fun i o n q => k2 _ _ (by rw [List.length_append]; omega) (get_app q)
theorem rev_due {W : List Vl} : ((List.range W.length).map fun j => vD (W.getD (W.length - 1 - j) .non)).reverse = W.map vD := by
  apply List.ext_getElem
  · simp
  · intro i h1 h2
    simp at h1 h2
    rw [List.getElem_reverse]
    simp
    congr 1
    have e : W.length - 1 - (W.length - 1 - i) = i := by omega
    rw [e, List.getElem?_eq_getElem h2]; rfl
theorem turn3 (g : G m a ss bs ms) (t : T st it no m b a bs ms br) (hsn : st[sn]? = some (.dc [])) (ok : BrOk br) (bl : br.length < 200)
    (hE : ∀ st' x15 x16 x17, (∀ i o, i ≠ sn → i < st.length → st[i]? = some o → st'[i]? = some o) → E.nx (R it no so bs ms x5 x6 x7 x8 x9 x10 (some (.lst b)) (some (.dic sn)) x15 x16 x17) st') :
    c3 E (R it no so bs ms x5 x6 x7 x8 x9 x10 (some (.lst b)) (some (.dic sn)) x15 x16 x17) st := by
  have hal := g.al
  obtain ⟨W, hW⟩ : ∃ W, W = worths a bs ms br := ⟨_, rfl⟩
  have hWl : W.length = a.length := by rw [hW, worths_len]
  have nn : no ≠ sn := fun e => by have := t.s.nodes; rw [e, hsn] at this; cases this
  have nb : b ≠ sn := fun e => by have := t.br; rw [e, hsn] at this; cases this
  have n1 : 1 ≠ sn := fun e => by
    obtain ⟨o, q, r⟩ := t.s.hand
    rw [e, hsn] at q
    cases q
    obtain ⟨_, _, _, r, _⟩ := r
    cases r
  simp only [c3, tseq, tasg, trevL, tcomp, irng1, tcall, tacons, tanil, tvar, capρ, List.map_cons, List.map_nil, Option.join_some, List.getElem?_cons_zero, List.getElem?_cons_succ]
  refine len_has (has_rw t.s.nodes) ?_
  rw [List.length_map]
  refine ⟨by omega, by omega, ?_⟩
  rw [Int.toNat_natCast]
  refine ⟨fun j ys s' => ys = (List.range j).map (fun i => vD (W.getD (W.length - 1 - i) .non)) ∧ ∃ kvs, Kp sn st s' ∧ s'[sn]? = some (.dc kvs) ∧ Memo W kvs, ⟨rfl, [], .refl _, hsn, ⟨[], List.nodup_nil, by simp, rfl⟩⟩, fun _ _ _ _ _ => trivial, ?_, ?_⟩
  · rintro j d ys s' hd' ⟨rfl, kvs, k1, g1, me⟩
    obtain ⟨hj, rfl⟩ := range_get hd'
    refine ⟨by rw [List.length_map, List.length_range]; exact small (by omega), iteT ?_⟩
    have hno := k1 _ _ nn t.s.nodes
    simp only [tcall, tacons, tanil, tbin, tvar, tcon, List.getElem?_cons_zero, List.getElem?_cons_succ]
    refine len_has (has_rw hno) ?_
    rw [List.length_map]
    simp only [L3.rSub]
    have e : ((a.length : Nat) : Int) - 1 - (0 + (j : Nat)) = ((W.length - 1 - j : Nat) : Int) := by omega
    rw [e]
    refine ⟨m, a, ss, bs, ms, br, no, W.length - 1 - j, b, sn, kvs, rfl, by omega, by omega, hno, k1 _ _ nb t.br, g1, by rw [← hW]; exact me, g.ok, g.m1, env_of' g.bb ok, g.b8, g.m3, by omega, by omega, fun s2 kv2 k2 g2 me2 => ⟨?_, kv2, k1.trans k2, g2, by rw [hW]; exact me2⟩⟩
    rw [← hW, List.range_succ, List.map_append]; rfl
  · rintro ys s' ⟨rfl, kvs, k1, g1, me⟩
    have hrl : (rangeD 0 a.length).length = a.length := by simp [rangeD]
    rw [hrl, ← hWl]
    simp only [get_new, rev_due, gname, List.set_cons_zero, List.set_cons_succ]
    have t1 : T s' it no m b a bs ms br := by
      refine ⟨⟨?_, ?_, k1 _ _ nn t.s.nodes, t.s.n1, t.s.n2⟩, k1 _ _ nb t.br, t.nb, t.nit, t.nno⟩
      · obtain ⟨o, q, r⟩ := t.s.hand
        exact ⟨o, k1 _ _ n1 q, r⟩
      · obtain ⟨o, q, r⟩ := t.s.items
        refine ⟨o, k1 _ _ (fun e => ?_) q, r⟩
        rw [e, hsn] at q
        cases q
        have := g.m0
        have hh : (rangeD 0 m).length = 0 := by rw [← r]; rfl
        simp [rangeD] at hh
        omega
    refine turn4 (E := E) (du := (s' ++ [SO.rw ((List.range W.length).map fun i => vD (W.getD (W.length - 1 - i) .non))]).length) g ((t1.ext (.app _ _)).ext (.app _ _)) ?_ ok bl fun s2 z16 z17 k2 => hE s2 _ _ _ fun i o n _ q => k2 _ _ ?_ (get_app (get_app (k1 _ _ n q)))
    · rw [← hW]; exact get_new
    · have := lt_of_get (k1 _ _ n q)
      simp only [List.length_append]; omega
theorem turn2 (g : G m a ss bs ms) (t : T st it no m b a bs ms br) (ok : BrOk br) (bl : br.length < 200)
    (hE : ∀ st' x14 x15 x16 x17, ExtS st st' → E.nx (R it no so bs ms x5 x6 x7 x8 x9 x10 (some (.lst b)) x14 x15 x16 x17) st') :
    c2 E (R it no so bs ms x5 x6 x7 x8 x9 x10 (some (.lst b)) x14 x15 x16 x17) st := by
  simp only [c2, tseq, tasg, tdict0, gname, List.set_cons_zero, List.set_cons_succ]
  refine turn3 (E := E) (sn := st.length) g (t.ext (.app _ _)) get_new ok bl fun s2 z15 z16 z17 k2 => hE s2 _ _ _ _ fun i o q => k2 _ _ (by have := lt_of_get q; omega) (by rw [List.length_append]; have := lt_of_get q; omega) (get_app q)
theorem turn71 {k : Nat} (t : T st it no m b a bs ms br) (ok : BrOk br) (hk : k < br.length)
    (hE : ∀ st' br', T st' it no m b a bs ms br' → BrOk br' → br'.length = br.length → E.nx (R it no so bs ms (some (.int (k : Nat))) x6 x7 x8 x9 x10 (some (.lst b)) x14 x15 x16 x17) st') :
    b71 E (R it no so bs ms (some (.int (k : Nat))) x6 x7 x8 x9 x10 (some (.lst b)) x14 x15 x16 x17) st := by
  simp only [b71, tseq, tasg, tbin, tlst, tacons, tanil, tcall, tvar, tcon, List.getElem?_cons_zero, List.getElem?_cons_succ, tnext]
  obtain ⟨d, ha, _, hg⟩ := atI_of (xs := br.map oD) (v := (k : Int)) (by omega) (by rw [List.length_map]; omega)
  rw [Int.toNat_natCast, List.getElem?_map, List.getElem?_eq_getElem hk] at hg
  have hd : d = oD br[k] := (Option.some.inj hg).symm
  subst hd
  refine pickAt t.br ha ?_
  refine pickAt t.br ha ?_
  refine ⟨by show 3 ≤ sizeLine; decide, ?_⟩
  have t1 := t.ext (.app _ (.rw [oD br[k], oD br[k], .non]))
  refine ⟨1, 3, rfl, by decide, by decide, t1.s.hand, fun v s1 v0 v1 k1 => ?_⟩
  have hl := k1.1 _ _ (by have := t.s.hand; obtain ⟨o, q, _⟩ := this; have := lt_of_get q; omega) (get_new (st := st) (x := SO.rw [oD br[k], oD br[k], .non]))
  refine pick hl v0 v1 fun d hd => ?_
  have hb1 := k1.1 _ _ t.nb t1.br
  obtain ⟨x, rfl, hx⟩ : ∃ x : Option Int, d = oD x ∧ (x = br[k] ∨ x = none) := by
    simp only [List.mem_cons, List.not_mem_nil, or_false] at hd
    rcases hd with rfl | rfl | rfl
    · exact ⟨_, rfl, .inl rfl⟩
    · exact ⟨_, rfl, .inl rfl⟩
    · exact ⟨none, rfl, .inr rfl⟩
  simp only [gsub, tvar, List.getElem?_cons_zero, List.getElem?_cons_succ, hb1]
  have e : ixN (br.map oD).length (k : Int) = some k := by
    unfold ixN
    rw [if_pos (by omega), if_pos (by rw [List.length_map]; omega), Int.toNat_natCast]
  rw [e]
  have s1' := t1.s.keep k1
  have t2 : T (s1.set b (.rw ((br.set k x).map oD))) it no m b a bs ms (br.set k x) := by
    refine ⟨⟨?_, ?_, ?_, t.s.n1, t.s.n2⟩, get_set_self hb1, t.nb, t.nit, t.nno⟩
    · obtain ⟨o, q, r⟩ := s1'.hand
      exact ⟨o, get_set_ne q t.nb, r⟩
    · obtain ⟨o, q, r⟩ := s1'.items
      exact ⟨o, get_set_ne q t.nit, r⟩
    · exact get_set_ne s1'.nodes t.nno
  have e2 : (br.map oD).set k (oD x) = (br.set k x).map oD := by rw [List.map_set]
  show E.nx _ (s1.set b (.rw ((br.map oD).set k (oD x))))
  rw [e2]
  refine hE _ _ t2 ?_ (List.length_set ..)
  intro i v q
  rw [List.getElem?_set] at q
  split at q
  · first
      | (split at q
         · rcases hx with rfl | rfl
           · have q := Option.some.inj q
             exact ok k v (by rw [List.getElem?_eq_getElem hk, q])
           · cases q
         · cases q)
      | (rcases hx with rfl | rfl
         · have q := Option.some.inj q
           exact ok k v (by rw [List.getElem?_eq_getElem hk, q])
         · cases q)
  · exact ok i v q
theorem turn1 (g : G m a ss bs ms) (t : T st it no m b a bs ms br) (ok : BrOk br) (bl : br.length < 200)
    (hE : ∀ st' x5 x14 x15 x16 x17, S st' it no m a → E.nx (R it no so bs ms x5 x6 x7 x8 x9 x10 (some (.lst b)) x14 x15 x16 x17) st') :
    c1 E (R it no so bs ms x5 x6 x7 x8 x9 x10 (some (.lst b)) x14 x15 x16 x17) st := by
  simp only [c1, tseq, tfor, irng1, tcall, tacons, tanil, tvar, List.getElem?_cons_zero, List.getElem?_cons_succ]
  refine len_has (has_rw t.br) ?_
  rw [List.length_map]
  refine ⟨by omega, by omega, ?_⟩
  rw [Int.toNat_natCast]
  refine ⟨fun j ρ s' => ∃ br' y5, ρ = R it no so bs ms y5 x6 x7 x8 x9 x10 (some (.lst b)) x14 x15 x16 x17 ∧ T s' it no m b a bs ms br' ∧ BrOk br' ∧ br'.length = br.length, ⟨br, x5, rfl, t, ok, rfl⟩, fun _ _ _ _ _ => trivial, ?_, ?_⟩
  · rintro j d ρ s' hd' ⟨br', y5, rfl, t', ok', bl'⟩
    obtain ⟨hj, rfl⟩ := range_get hd'
    rw [Int.zero_add]
    refine turn71 (k := j) t' ok' (by omega) fun s2 br2 t2 ok2 bl2 => ⟨br2, _, rfl, t2, ok2, by omega⟩
  · rintro ρ s' ⟨br', y5, rfl, t', ok', bl'⟩
    exact turn2 g t' ok' (by omega) fun s2 z14 z15 z16 z17 e2 => hE s2 _ _ _ _ _ (t'.s.ext e2)
theorem turn0 (g : G m a ss bs ms) (s : S st it no m a)
    (hE : ∀ st' x5 x13 x14 x15 x16 x17, S st' it no m a → E.nx (R it no so bs ms x5 x6 x7 x8 x9 x10 x13 x14 x15 x16 x17) st') :
    c0 E (R it no so bs ms x5 x6 x7 x8 x9 x10 x13 x14 x15 x16 x17) st := by
  have m1 := g.m1
  have hml : (rangeD 0 m).length = m := by simp [rangeD]
  simp only [c0, tseq, tasg, tcomp, irng1, tcall, tacons, tanil, tbin, tvar, tcon, capρ, List.map_cons, List.map_nil, Option.join_some, List.getElem?_cons_zero, List.getElem?_cons_succ]
  refine len_has s.items ?_
  rw [hml]
  refine ⟨1, ((m : Nat) : Int) + 1, rfl, by omega, by omega, s.hand, fun v s1 v0 v1 k1 => ?_⟩
  obtain ⟨c, rfl⟩ : ∃ c : Nat, v = (c : Int) := ⟨v.toNat, by omega⟩
  refine ⟨by omega, by omega, ?_⟩
  rw [Int.toNat_natCast]
  have s1' := s.keep k1
  have hcl : (rangeD 0 c).length = c := by simp [rangeD]
  refine ⟨fun j ys s' => ∃ ns : List Int, ys = ns.map .int ∧ ns.length = j ∧ (∀ n ∈ ns, 0 ≤ n ∧ n < 65536) ∧ Keep 1 s1 s', ⟨[], rfl, rfl, by simp, .refl k1.2⟩, fun _ _ _ _ _ => trivial, ?_, ?_⟩
  · rintro j d ys s' hd ⟨ns, rfl, hl, hb', k⟩
    have hj := lt_of_get hd
    rw [hcl] at hj
    refine ⟨by rw [List.length_map]; exact small (by omega), iteT ?_⟩
    refine ⟨1, rfl, k.2, fun v s3 v0 v1 k3 => ?_⟩
    refine ⟨ns ++ [v], by rw [List.map_append]; rfl, by simp [hl], fun n hn => ?_, k.trans k3⟩
    rcases List.mem_append.mp hn with q | q
    · exact hb' n q
    · rw [List.mem_singleton.mp q]; exact ⟨v0, v1⟩
  · rintro ys s3 ⟨ns, rfl, hl, hb', k3⟩
    rw [hcl] at hl
    have s3' := s1'.keep k3
    have l1 : 1 < s3.length := by obtain ⟨o, q, _⟩ := s3'.hand; exact lt_of_get q
    have l2 := lt_has s3'.items
    have l3 := lt_of_get s3'.nodes
    simp only [gname, List.set_cons_zero, List.set_cons_succ]
    refine turn1 (E := E) (br := brF ns) g ⟨s3'.ext (.app _ _), by rw [br_items]; exact get_new, by omega, by omega, by omega⟩ ?_ (by unfold brF; rw [List.length_map]; omega) fun s4 z5 z14 z15 z16 z17 s4' => hE s4 _ _ _ _ _ _ s4'
    intro i v e
    unfold brF at e
    rw [List.getElem?_map] at e
    cases q : ns[i]? with
    | none => rw [q] at e; cases e
    | some n =>
      rw [q] at e
      have e : n = v := Option.some.inj (Option.some.inj e)
      rw [← e]; exact hb' n (List.mem_of_getElem? q)
theorem law7 (g : G m a ss bs ms) (s : S st it no m a) (hP : ∀ st', Pd (.bl true) st') : l7 (Ed Pd) (R it no so bs ms x5 x6 x7 x8 x9 x10 x13 x14 x15 x16 x17) st := by
  refine ⟨by decide, by decide, ?_⟩
  refine ⟨fun j ρ s' => ∃ y5 y8 y13 y14 y15 y16 y17, ρ = R it no so bs ms y5 x6 x7 y8 x9 x10 y13 y14 y15 y16 y17 ∧ S s' it no m a, ⟨_, _, _, _, _, _, _, rfl, s⟩, fun _ _ _ _ _ => trivial, ?_, ?_⟩
  · rintro j d ρ s' hd ⟨y5, y8, y13, y14, y15, y16, y17, rfl, s1⟩
    exact turn0 g s1 fun s2 z5 z13 z14 z15 z16 z17 s2' => ⟨_, _, _, _, _, _, _, rfl, s2'⟩
  · rintro ρ s' ⟨y5, y8, y13, y14, y15, y16, y17, rfl, s1⟩
    exact law8 g hP
noncomputable abbrev RA (it no so : Nat) (x5 x6 x7 x8 x9 x10 : Option Dt) : Rho := [some (.lst 0), some (.lst 1), some (.lst it), some (.lst no), some (.lst so), x5, x6, x7, x8, x9, x10, none, none, none, none, none, none, none]
theorem law5 (ok : OkT m a ss) (al : a.length ≤ 126) (m0 : 0 < m) (m1 : m < 100) (s : S st it no m a) (hP : ∀ st', Pd (.bl true) st') :
    l5 (Ed Pd) (RA it no so x5 x6 x7 x8 x9 x10) st := by
  refine nums_comp (ρ := RA it no so x5 x6 x7 x8 x9 x10) (j := 1) rfl s.hand fun bs s1 hb hbb k1 => ?_
  refine marks_comp (ρ := [some (.lst 0), some (.lst 1), some (.lst it), some (.lst no), some (.lst so), x5, x6, x7, x8, x9, x10, some (isD bs), none, none, none, none, none, none]) (j := 1) rfl k1.2 fun ms s2 hms k2 => ?_
  exact law7 ⟨ok, al, m0, m1, hb, hbb, hms⟩ ((s.keep k1).keep k2) hP
structure Keep3 (h so no : Nat) (st st' : Sto) : Prop where
  k : ∀ i o, i ≠ h → i ≠ so → i ≠ no → st[i]? = some o → st'[i]? = some o
theorem law41 {ow : Nat} (ok : OkT m a ss) (al : a.length < 126) (m0 : 0 < m) (m1 : m < 100) (ho : HandAt st ow) (hi : Has st it (rangeD 0 m)) (hs : st[so]? = some (.rw (Sorts ss))) (hn : st[no]? = some (.rw (a.map nD))) (n1 : ow ≠ so) (n2 : ow ≠ it) (n3 : so ≠ it) (n4 : ow ≠ no) (n5 : so ≠ no)
    (hE : ∀ nd s st' x9 x10, OkN ss m nd s → Keep3 ow so no st st' → st'[so]? = some (.rw (Sorts (ss ++ [s]))) → st'[no]? = some (.rw ((a ++ [nd]).map nD)) → HandAt st' ow → E.nx (RA it no so x5 x6 (some (.lst ow)) x8 x9 x10) st') :
    b41 E (RA it no so x5 x6 (some (.lst ow)) x8 x9 x10) st := by
  refine ⟨ow, so, it, m, ss, rfl, ho, n1, n2, ⟨_, hs, rfl⟩, by have := ok.len; omega, hi, m0, m1, fun nd s s1 on k1 => ?_⟩
  refine ⟨rfl, ?_⟩
  simp only [gscons, gname, gsnil, tseq, tvar, tdrop, tappend, tnext, List.getElem?_cons_zero, List.getElem?_cons_succ, List.set_cons_zero, List.set_cons_succ]
  have g0 := k1.1 _ _ (Ne.symm n4) hn
  rw [g0]
  refine ⟨by rw [List.length_map]; exact small (by omega), ?_⟩
  have g1 : (s1.set no (.rw (a.map nD ++ [nD nd])))[so]? = some (.rw (Sorts ss)) := get_set_ne (k1.1 _ _ (Ne.symm n1) hs) (Ne.symm n5)
  rw [g1]
  refine ⟨by unfold Sorts; rw [List.length_map]; exact small (by have := ok.len; omega), ?_⟩
  refine hE nd s ((s1.set no (.rw (a.map nD ++ [nD nd]))).set so (.rw (Sorts ss ++ [.int (s : Nat)]))) (some (nD nd)) (some (.int (s : Nat))) on ⟨fun i o n n' n'' q => get_set_ne (get_set_ne (k1.1 i o n q) (Ne.symm n'')) (Ne.symm n')⟩ (by rw [get_set_self g1]; unfold Sorts; rw [List.map_append]; rfl) ?_ ?_
  · rw [List.map_append]; exact get_set_ne (get_set_self g0) n5
  · obtain ⟨o, q, r⟩ := k1.2
    exact ⟨o, get_set_ne (get_set_ne q (Ne.symm n4)) (Ne.symm n1), r⟩
theorem law4 {i : Nat} {k c : Int} (ok : OkT m a ss) (al : a.length + 2 ≤ 126) (m0 : 0 < m) (m1 : m < 100) (hi : Has st it (rangeD 0 m)) (hs : st[so]? = some (.rw (Sorts ss))) (hn : st[no]? = some (.rw (a.map nD))) (n3 : so ≠ it) (n5 : so ≠ no) (n6 : no ≠ it)
    (hE : ∀ a' ss' st' x7 x8 x9 x10, OkT m a' ss' → a'.length = a.length + 2 → (∀ i o, i ≠ so → i ≠ no → st[i]? = some o → st'[i]? = some o) → st'[so]? = some (.rw (Sorts ss')) → st'[no]? = some (.rw (a'.map nD)) → E.nx (RA it no so (some (.int k)) (some (.int c)) x7 x8 x9 x10) st') :
    b4 E (RA it no so (some (.int k)) (some (.int c)) x7 x8 x9 x10) st := by
  have hsl := lt_of_get hs
  have hnl := lt_of_get hn
  have hil := lt_has hi
  refine ⟨c, k, rfl, fun o ho => ?_⟩
  refine ⟨by decide, by decide, ?_⟩
  refine ⟨fun j ρ s' => ∃ a' ss' y8 y9 y10, ρ = RA it no so (some (.int k)) (some (.int c)) (some (.lst st.length)) y8 y9 y10 ∧ OkT m a' ss' ∧ a'.length = a.length + j ∧ Keep3 st.length so no (st ++ [o]) s' ∧ s'[so]? = some (.rw (Sorts ss')) ∧ s'[no]? = some (.rw (a'.map nD)) ∧ HandAt s' st.length, ?_, fun _ _ _ _ _ => trivial, ?_, ?_⟩
  · exact ⟨a, ss, _, _, _, rfl, ok, rfl, ⟨fun _ _ _ _ _ q => q⟩, get_app hs, get_app hn, ⟨o, get_new, ho⟩⟩
  · rintro j d ρ s' hd ⟨a', ss', y8, y9, y10, rfl, ok', al', k2, gs, gn, hh⟩
    obtain ⟨hj, rfl⟩ := range_get hd
    have hj : j < 2 := hj
    have hi' : Has s' it (rangeD 0 m) := by
      obtain ⟨o', q, r⟩ := hi
      exact ⟨o', k2.k _ _ (by omega) (Ne.symm n3) (Ne.symm n6) (get_app q), r⟩
    refine law41 ok' (by omega) m0 m1 hh hi' gs gn (by omega) (by omega) n3 (by omega) n5 fun nd s st' z9 z10 on k3 g3 gn3 h3 => ?_
    exact ⟨a' ++ [nd], ss' ++ [s], _, _, _, rfl, .snoc ok' on, by simp [al']; omega, ⟨fun i o n n' n'' q => k3.k i o n n' n'' (k2.k i o n n' n'' q)⟩, g3, gn3, h3⟩
  · rintro ρ s' ⟨a', ss', y8, y9, y10, rfl, ok', al', k2, gs, gn, hh⟩
    refine hE a' ss' s' _ _ _ _ ok' al' (fun i o n n' q => ?_) gs gn
    exact k2.k i o (by have := lt_of_get q; omega) n n' (get_app q)
theorem rd_law {ds : List Dt} {st : Sto} {Pd : VD} (h : spLaw ds st Pd) : t_law (Ed Pd) (startD ["script", "hand", "items", "nodes", "sorts", "k", "cell", "own", "turn", "node", "sort", "boxes", "marks", "brought", "seen", "due", "handed", "found"] ds) st := by
  obtain ⟨ns, rfl, rfl, hl, hP⟩ := h
  refine ⟨ns, rfl, ?_⟩
  refine ⟨_, _, rfl, fun o ho => ?_⟩
  obtain ⟨s0, hs0⟩ : ∃ s0, s0 = [SO.ro (ns.map .int)] ++ [o] := ⟨_, rfl⟩
  have H1 : HandAt s0 1 := by rw [hs0]; exact ⟨o, rfl, ho⟩
  have S0 : s0[0]? = some (.ro (ns.map .int)) := by rw [hs0]; rfl
  have L0 : s0.length = 2 := by rw [hs0]; rfl
  rw [← hs0]
  refine ⟨by show 2 ≤ sizeLine; decide, ?_⟩
  refine ⟨1, 2, rfl, by decide, by decide, ((Keep.refl H1).app _).2, fun v s1 v0 v1 k1 => ?_⟩
  have K1 : Keep 1 s0 s1 := ((Keep.refl H1).app _).trans k1
  have e1 := k1.1 _ _ (by omega) (get_new (st := s0))
  have l1 : 2 < s1.length := by have := lt_of_get e1; omega
  refine pick e1 v0 v1 fun d hd => ?_
  obtain ⟨m, rfl, m0, m1⟩ : ∃ m : Nat, d = .int m ∧ 0 < m ∧ m < 100 := by
    simp only [List.mem_cons, List.not_mem_nil, or_false] at hd
    rcases hd with rfl | rfl
    · exact ⟨5, rfl, by decide, by decide⟩
    · exact ⟨60, rfl, by decide, by decide⟩
  refine ⟨by omega, by omega, ?_⟩
  rw [Int.toNat_natCast]
  refine ⟨Nat.zero_le _, Nat.zero_le _, ?_⟩
  obtain ⟨it, hit⟩ : ∃ it, it = s1.length := ⟨_, rfl⟩
  obtain ⟨s2, hs2⟩ : ∃ s2, s2 = s1 ++ [SO.rw (rangeD 0 m)] := ⟨_, rfl⟩
  have K2 : Keep 1 s0 s2 := by rw [hs2]; exact K1.app _
  have I2 : s2[it]? = some (.rw (rangeD 0 m)) := by rw [hs2, hit]; exact get_new
  have L2' : s2.length = it + 1 := by rw [hs2, hit]; simp
  rw [← hit, ← hs2]
  obtain ⟨no, hno⟩ : ∃ no, no = s2.length := ⟨_, rfl⟩
  obtain ⟨s3, hs3⟩ : ∃ s3, s3 = s2 ++ [SO.rw []] := ⟨_, rfl⟩
  have K3 : Keep 1 s0 s3 := by rw [hs3]; exact K2.app _
  have I3 : s3[it]? = some (.rw (rangeD 0 m)) := by rw [hs3]; exact get_app I2
  have N3 : s3[no]? = some (.rw []) := by rw [hs3, hno]; exact get_new
  have L3' : s3.length = no + 1 := by rw [hs3, hno]; simp
  rw [← hno, ← hs3]
  obtain ⟨so, hso⟩ : ∃ so, so = s3.length := ⟨_, rfl⟩
  obtain ⟨s4, hs4⟩ : ∃ s4, s4 = s3 ++ [SO.rw []] := ⟨_, rfl⟩
  have K4 : Keep 1 s0 s4 := by rw [hs4]; exact K3.app _
  have I4 : s4[it]? = some (.rw (rangeD 0 m)) := by rw [hs4]; exact get_app I3
  have N4 : s4[no]? = some (.rw []) := by rw [hs4]; exact get_app N3
  have O4 : s4[so]? = some (.rw []) := by rw [hs4, hso]; exact get_new
  have L4' : s4.length = so + 1 := by rw [hs4, hso]; simp
  show l4 (Ed Pd) (RA it no s3.length none none none none none none) (s3 ++ [SO.rw []])
  rw [← hs4, ← hso]
  have S4 := K4.1 0 _ (by decide) S0
  simp only [l4, tseq, tfor, ienum, tsliceA, tvar, tonone, tosome, tcon, List.getElem?_cons_zero, List.getElem?_cons_succ, S4, SO.items, get_new]
  obtain ⟨cut, hcut⟩ : ∃ cut, L3.cutD (ns.map Dt.int) none (some 63) = cut := ⟨_, rfl⟩
  have hcl : cut.length ≤ 63 := by rw [← hcut]; exact Nat.le_trans (cut_len ns 63) hl
  have hints : ∀ d ∈ cut, ∃ c : Int, d = .int c := by
    intro d hd
    rw [← hcut] at hd
    have := List.mem_of_mem_drop (List.mem_of_mem_take hd)
    obtain ⟨c, _, rfl⟩ := List.mem_map.mp this
    exact ⟨c, rfl⟩
  rw [hcut]
  refine ⟨fun i ρ s' => ∃ a ss y5 y6 y7 y8 y9 y10, ρ = RA it no so y5 y6 y7 y8 y9 y10 ∧ OkT m a ss ∧ a.length = 2 * i ∧ HandAt s' 1 ∧ s'[it]? = some (.rw (rangeD 0 m)) ∧ s'[so]? = some (.rw (Sorts ss)) ∧ s'[no]? = some (.rw (a.map nD)) ∧ s'[s4.length]? = some (.rw cut), ?_, fun _ _ s' _ q => ?_, ?_, ?_⟩
  · obtain ⟨o1, q1, r1⟩ := K4.2
    exact ⟨[], [], _, _, _, _, _, _, rfl, .nil, rfl, ⟨o1, get_app q1, r1⟩, get_app I4, get_app O4, get_app N4, get_new⟩
  · obtain ⟨_, _, _, _, _, _, _, _, _, _, _, _, _, _, _, q⟩ := q
    show (s'[s4.length]?).map SO.items = _
    rw [q]; rfl
  · rintro i d ρ s' hd ⟨a, ss, y5, y6, y7, y8, y9, y10, rfl, ok, al, hh, hi, hs, hn, hc⟩
    have hil := lt_of_get hd
    rw [enum_len] at hil
    obtain ⟨w, hw, rfl⟩ := enum_get hd
    obtain ⟨c, rfl⟩ := hints w (List.mem_of_getElem? hw)
    refine ⟨rfl, ?_⟩
    refine law4 (i := i) ok (by omega) m0 m1 ⟨_, hi, rfl⟩ hs hn (by omega) (by omega) (by omega) fun a' ss' st' z7 z8 z9 z10 ok' al' kk gs gn => ?_
    obtain ⟨o1, q1, r1⟩ := hh
    exact ⟨a', ss', _, _, _, _, _, _, rfl, ok', by omega, ⟨o1, kk _ _ (by omega) (by omega) q1, r1⟩, kk _ _ (by omega) (by omega) hi, gs, gn, kk _ _ (by omega) (by omega) hc⟩
  · rintro ρ s' ⟨a, ss, y5, y6, y7, y8, y9, y10, rfl, ok, al, hh, hi, hs, hn, hc⟩
    rw [enum_len] at al
    exact law5 ok (by omega) m0 m1 ⟨hh, ⟨_, hi, rfl⟩, hn, by omega, by omega⟩ hP
end
noncomputable abbrev t__law_hand : TSD := KH.t__law_hand
noncomputable abbrev t__law_draw : TSD := KH.t__law_draw
noncomputable abbrev t__law_number : TSD := KS.t__law_number
noncomputable abbrev t_under : TSD := K19.t_under
noncomputable abbrev t_plain_outcome : TSD := K20.t_plain_outcome
noncomputable abbrev t_made_of : TSD := K20.t_made_of
noncomputable abbrev t_worth : TSD := K20.t_worth
noncomputable abbrev t_worths : TSD := K20.t_worths
noncomputable abbrev t__law_leaf : TSD := K20.t__law_leaf
noncomputable abbrev t__law_node : TSD := K20.t__law_node
end K18
namespace K18
open PySem PySem.Spec PyProof.Rows L2 L3 KH KS KW
local macro_rules | `(tactic| k_dat $x:ident "e") => `(tactic| (case $x:ident => walk_at "d_e"))
local macro_rules | `(tactic| k_dat $x:ident "r") => `(tactic| (case $x:ident => rfl))
local macro_rules | `(tactic| k_dat $x:ident "m") => `(tactic| (case $x:ident => assumption))
local macro_rules | `(tactic| k_dat $x:ident "d") => `(tactic| (case $x:ident => decide))
local macro_rules | `(tactic| k_dat $x:ident "a") => `(tactic| (case $x:ident => walk_at "d_a"))
local macro_rules | `(tactic| k_dat $x:ident "t") => `(tactic| (case $x:ident => walk_at "d_t"))
local macro_rules | `(tactic| k_dat $x:ident "s") => `(tactic| (case $x:ident => walk_at "d_ss"))
local macro_rules | `(tactic| k_dat $x:ident "i") => `(tactic| (case $x:ident => walk_at "d_i"))
local macro_rules | `(tactic| k_dat $x:ident "n") => `(tactic| (case $x:ident => first | exact nomark _ | with_unfolding_all rfl))
local macro_rules | `(tactic| k_dat $n:num "zv0") => `(tactic| ((with_reducible refine' de_var $n ?n ?v ?d ?c); k_dat n "r"; (case v => first | exact Or.inl rfl | exact Or.inr (Or.inl rfl)); k_dat d "d"; k_dat c "d"))
local macro_rules | `(tactic| k_dat $n:num "zc0") => `(tactic| ((with_reducible refine' ds_comp $n _ ?hc ?N ?S ?hx ?nd ?i ?f ?e ?y ?yl ?sw ?hs); k_dat y "r"; k_dat hc "r"; k_dat N "m"; (case S => exact sc_hint (by assumption) (by rfl)); k_dat hx "r"; (case nd => decide +kernel); k_dat sw "r"; k_dat yl "r"; k_dat i "i"; (case f => (intro _ _ _ _; walk_at "d_if")); (case e => (intro _ _ _ _; walk_at "d_e")); (case hs => (intro _; rfl))))
local macro_rules | `(tactic| k_dat $n:num "zc1") => `(tactic| ((with_reducible refine' ds_comp $n _ ?hc ?N ?S ?hx ?nd ?i ?f ?e ?y ?yl ?sw ?hs); k_dat y "r"; k_dat hc "r"; k_dat N "m"; (case S => exact sc_hint2 (by assumption) (by rfl)); k_dat hx "r"; (case nd => decide +kernel); k_dat sw "r"; k_dat yl "r"; k_dat i "i"; (case f => (intro _ _ _ _; walk_at "d_if")); (case e => (intro _ _ _ _; walk_at "d_e")); (case hs => (intro _; rfl))))
local macro_rules | `(tactic| k_dat $n:num "zc2") => `(tactic| ((with_reducible refine' ds_comp $n [] ?hc ?N ?S ?hx ?nd ?i ?f ?e ?y ?yl ?sw ?hs); k_dat y "r"; k_dat hc "r"; k_dat N "m"; (case S => exact sc_of (by rfl)); k_dat hx "r"; (case nd => decide +kernel); k_dat sw "r"; k_dat yl "r"; k_dat i "i"; (case f => (intro _ _ _ _; walk_at "d_if")); (case e => (intro _ _ _ _; walk_at "d_e")); (case hs => (intro _; rfl))))
local macro_rules | `(tactic| k_dat $n:num "zs0") => `(tactic| ((with_reducible refine' ds_set $n ?N ?e ?i ?x ?s ?f); k_dat i "r"; k_dat s "r"; k_dat N "m"; (case x => first | exact Or.inl rfl | exact Or.inr rfl); (case f => first | exact .inl rfl | exact .inr rfl); k_dat e "e"))
local macro_rules | `(tactic| k_dat $n:num "zg0") => `(tactic| ((with_reducible refine' dg_name $n ?nd ?n ?x ?f); k_dat n "r"; k_dat nd "m"; (case x => first | exact Or.inl rfl | exact Or.inr rfl); (case f => first | exact .inl rfl | exact .inr rfl)))
local macro_rules | `(tactic| k_dat $n:num "zu0") => `(tactic| ((with_reducible refine' dg_unpack $n ?c ?g ?n ?s); k_dat n "r"; k_dat c "r"; (case g => walk_at "d_gs"); k_dat s "r"))
local macro_rules | `(tactic| k_dat $l:ident "s0") => `(tactic| ((with_reducible refine' $l ?v ?r); k_dat v "e"; (case r => walk_at "d_pk")))
local macro_rules | `(tactic| k_dat $l:ident "s1") => `(tactic| ((with_reducible refine' $l ?a ?b); k_dat a "e"; k_dat b "e"))
local macro_rules | `(tactic| k_dat $l:ident "s2") => `(tactic| ((with_reducible refine' $l ?a); k_dat a "e"))
local macro_rules | `(tactic| k_dat $l:ident "s3") => `(tactic| ((with_reducible refine' $l ?a ?b ?h1 ?h2 ?h3 ?h4 ?h5); k_dat a "e"; k_dat b "e"; k_dat h1 "r"; k_dat h2 "r"; k_dat h3 "r"; k_dat h4 "r"; k_dat h5 "r"))
local macro_rules | `(tactic| k_dat $l:ident "s4") => `(tactic| ((with_reducible refine' $l ?f ?n ?r ?a ?g ?db ?he ?hpl); k_dat f "m"; k_dat n "r"; (case r => walk_at "d_room"); k_dat a "a"; k_dat g "r"; k_dat db "d"; k_dat he "r"; k_dat hpl "r"))
local macro_rules | `(tactic| k_dat $l:ident "s5") => `(tactic| ((with_reducible refine' $l ?hu ?a ?b ?m); (case hu => walk_at "d_hu"); k_dat a "e"; k_dat b "e"; k_dat m "n"))
local macro_rules | `(tactic| k_dat $l:ident "s6") => `(tactic| ((with_reducible refine' $l ?a ?b ?m); k_dat a "e"; k_dat b "e"; k_dat m "n"))
local macro_rules | `(tactic| k_dat $l:ident "s7") => `(tactic| ((with_reducible refine' $l ?c ?m ?a ?g ?he ?hpl); k_dat c "r"; k_dat m "m"; k_dat a "a"; k_dat g "r"; k_dat he "r"; k_dat hpl "r"))
local macro_rules | `(tactic| k_dat $l:ident "s8") => `(tactic| ((with_reducible refine' $l ?a); k_dat a "a"))
local macro_rules | `(tactic| k_dat $l:ident "s9") => `(tactic| ((with_reducible refine' $l ?a ?l ?h); k_dat a "e"; (case l => walk_at "d_o"); (case h => walk_at "d_o")))
local macro_rules | `(tactic| k_dat $l:ident "s10") => `(tactic| ((with_reducible refine' $l ?m ?a ?g ?he ?hpl); k_dat m "m"; k_dat a "a"; k_dat g "r"; k_dat he "r"; k_dat hpl "r"))
local macro_rules | `(tactic| k_dat $l:ident "s11") => `(tactic| ((with_reducible refine' $l ?m ?g); k_dat m "m"; k_dat g "r"))
local macro_rules | `(tactic| k_dat $l:ident "s12") => `(tactic| ((with_reducible refine' $l ?a ?b ?c ?m); k_dat a "e"; k_dat b "e"; k_dat c "e"; (case m => with_unfolding_all rfl)))
local macro_rules | `(tactic| k_dat $l:ident "s13") => `(tactic| ((with_reducible refine' $l ?hu ?a ?b ?m); (case hu => exact hu1 (by assumption)); k_dat a "e"; k_dat b "e"; k_dat m "n"))
local macro_rules | `(tactic| k_dat $l:ident "s14") => `(tactic| ((with_reducible refine' $l ?a); k_dat a "t"))
local macro_rules | `(tactic| k_dat $l:ident "s15") => `(tactic| ((with_reducible refine' $l ?a ?b); k_dat a "t"; (case b => walk_at "d_w")))
local macro_rules | `(tactic| k_dat $l:ident "s16") => `(tactic| ((with_reducible refine' $l ?m ?a ?g ?s); k_dat m "m"; k_dat a "e"; k_dat g "r"; k_dat s "r"))
local macro_rules | `(tactic| walk_at "d_room") => `(tactic| first
  | exact Room.mono (by assumption) (by decide)
  | exact Room.mono (by assumption) (by omega))
local macro_rules | `(tactic| walk_at "d_hu") => `(tactic| first
  | exact hu16 (by assumption))
local macro_rules | `(tactic| walk_at "d_ps") => `(tactic| first
  | (with_reducible exact dps_nil)
  | ((with_reducible refine' dps_cons ?v ?r); k_dat v "e"; (case r => walk_at "d_ps")))
local macro_rules | `(tactic| walk_at "d_pk") => `(tactic| first
  | (with_reducible exact dpk_nil)
  | (k_dat dpk_str "s0"))
local macro_rules | `(tactic| walk_at "d_e") => `(tactic| first
  | (with_reducible exact de_int)
  | (with_reducible exact de_str)
  | (with_reducible exact de_bl)
  | (with_reducible exact de_non)
  | ((with_reducible show DE _ (.Name _ _) _); first
      | (k_dat 0 "zv0")
      | (k_dat 1 "zv0")
      | (k_dat 2 "zv0")
      | (k_dat 3 "zv0")
      | (k_dat 4 "zv0")
      | (k_dat 5 "zv0")
      | (k_dat 6 "zv0")
      | (k_dat 7 "zv0")
      | (k_dat 8 "zv0")
      | (k_dat 9 "zv0")
      | (k_dat 10 "zv0")
      | (k_dat 11 "zv0")
      | (k_dat 12 "zv0")
      | (k_dat 13 "zv0")
      | (k_dat 14 "zv0")
      | (k_dat 15 "zv0")
      | (k_dat 16 "zv0")
      | (k_dat 17 "zv0")
      | (k_dat 18 "zv0")
      | (k_dat 19 "zv0"))
  | (k_dat de_neg "s2")
  | ((with_reducible refine' de_listrng ?c ?m ?m2 ?a ?g ?g2 ?s ?he); k_dat c "r"; k_dat m "m"; k_dat m2 "m"; k_dat a "e"; k_dat g "r"; k_dat g2 "r"; k_dat s "r"; k_dat he "r")
  | (k_dat de_revL "s2")
  | (k_dat dx_add "s1")
  | (k_dat dx_sub "s1")
  | (k_dat dx_mul "s1")
  | (k_dat dx_div "s1")
  | (k_dat dx_mod "s1")
  | (k_dat dx_eq "s5")
  | (k_dat dx_ne "s5")
  | (k_dat dx_lt "s6")
  | (k_dat dx_gt "s6")
  | (k_dat dx_ge "s6")
  | (k_dat dx_is "s6")
  | (k_dat dx_max "s7")
  | (k_dat dx_all "s7")
  | (k_dat dx_sum "s7")
  | (k_dat de_tup "s8")
  | (k_dat de_lst "s8")
  | (k_dat de_sliceA "s9")
  | ((with_reducible refine' de_ix ?a ?b ?s); k_dat a "e"; k_dat b "e"; (case s => exact fun _ _ => rfl))
  | ((with_reducible refine' de_callO ?f ?r ?a ?g ?db ?he ?hpl); k_dat f "m"; (case r => walk_at "d_room"); k_dat a "a"; k_dat g "r"; k_dat db "d"; k_dat he "r"; k_dat hpl "r")
  | (k_dat dx_len "s10")
  | (k_dat dx_isinst "s10")
  | (k_dat dx_tuple "s10")
  | (k_dat dx_list "s10")
  | (k_dat dx_int "s10")
  | (k_dat dx_tyInt "s11")
  | (k_dat dx_tyBool "s11")
  | (k_dat dx_tyList "s11")
  | ((with_reducible refine' de_con ?f ?g ?db); (case f => first | assumption | exact ConT.con (by assumption)); k_dat g "r"; k_dat db "d")
  | (k_dat de_append "s3")
  | (k_dat de_and "s1")
  | (k_dat de_one "s2")
  | ((with_reducible refine' de_if ?c ?a ?b); k_dat c "t"; k_dat a "e"; k_dat b "e")
  | ((with_reducible refine' de_comp _ ?hc ?S ?hx ?nd ?i ?f ?e ?hs); k_dat hc "r"; (case S => exact sc_hint (by assumption) (by rfl)); k_dat hx "r"; (case nd => decide +kernel); k_dat i "i"; (case f => (intro _ _ _ _; walk_at "d_if")); (case e => (intro _ _ _ _; walk_at "d_e")); (case hs => (intro _; rfl)))
  | ((with_reducible refine' de_comp _ ?hc ?S ?hx ?nd ?i ?f ?e ?hs); k_dat hc "r"; (case S => exact sc_hint2 (by assumption) (by rfl)); k_dat hx "r"; (case nd => decide +kernel); k_dat i "i"; (case f => (intro _ _ _ _; walk_at "d_if")); (case e => (intro _ _ _ _; walk_at "d_e")); (case hs => (intro _; rfl)))
  | ((with_reducible refine' de_comp [] ?hc ?S ?hx ?nd ?i ?f ?e ?hs); k_dat hc "r"; (case S => exact sc_of (by rfl)); k_dat hx "r"; (case nd => decide +kernel); k_dat i "i"; (case f => (intro _ _ _ _; walk_at "d_if")); (case e => (intro _ _ _ _; walk_at "d_e")); (case hs => (intro _; rfl)))
  | (with_reducible exact de_dict0)
  | ((with_reducible refine' de_dict ?h ?hall ?hl ?h0 ?h15 ?hk ?nd); (case h => walk_at "d_pk"); k_dat hall "r"; k_dat hl "r"; (case h0 => exact List.cons_ne_nil _ _); k_dat h15 "d"; k_dat hk "d"; k_dat nd "d")
  | ((with_reducible refine' de_dget ?hu ?a ?b ?s); (case hu => exact hu1 (by assumption)); k_dat a "e"; k_dat b "e"; (case s => exact fun _ _ => rfl)))
local macro_rules | `(tactic| walk_at "d_a") => `(tactic| first
  | (with_reducible exact da_nil)
  | ((with_reducible refine' da_cons ?a ?b ?h); k_dat a "e"; k_dat b "a"; k_dat h "r"))
local macro_rules | `(tactic| walk_at "d_o") => `(tactic| first
  | (with_reducible exact do_none)
  | (k_dat do_some "s2"))
local macro_rules | `(tactic| walk_at "d_t") => `(tactic| first
  | (k_dat dt_not "s14")
  | ((with_reducible refine' dt_of (dw_and ?a ?b)); k_dat a "t"; (case b => walk_at "d_w"))
  | ((with_reducible refine' dt_of (dw_or ?a ?b)); k_dat a "t"; (case b => walk_at "d_w"))
  | (k_dat dtx_eq "s5")
  | (k_dat dtx_ne "s5")
  | (k_dat dtx_lt "s6")
  | (k_dat dtx_gt "s6")
  | (k_dat dtx_ge "s6")
  | (k_dat dtx_in "s6")
  | (k_dat dtx_is "s6")
  | (k_dat dtx_dnotin "s13")
  | ((with_reducible refine' dt_val ?a ?h); k_dat a "e"; (case h => (intro _; rfl))))
local macro_rules | `(tactic| walk_at "d_w") => `(tactic| first
  | (k_dat dw_and "s15")
  | (k_dat dw_or "s15")
  | (k_dat dw_and1 "s14")
  | (k_dat dw_or1 "s14"))
local macro_rules | `(tactic| walk_at "d_if") => `(tactic| first
  | (with_reducible exact dif_nil)
  | (k_dat dif_one "s14"))
local macro_rules | `(tactic| walk_at "d_i") => `(tactic| first
  | (k_dat di_enum "s16")
  | (k_dat di_range1 "s16")
  | (k_dat di_seq "s2"))
local macro_rules | `(tactic| walk_at "d_g") => `(tactic| first
  | (k_dat 0 "zg0")
  | (k_dat 1 "zg0")
  | (k_dat 2 "zg0")
  | (k_dat 3 "zg0")
  | (k_dat 4 "zg0")
  | (k_dat 5 "zg0")
  | (k_dat 6 "zg0")
  | (k_dat 7 "zg0")
  | (k_dat 8 "zg0")
  | (k_dat 9 "zg0")
  | (k_dat 10 "zg0")
  | (k_dat 11 "zg0")
  | (k_dat 12 "zg0")
  | (k_dat 13 "zg0")
  | (k_dat 14 "zg0")
  | (k_dat 15 "zg0")
  | (k_dat 16 "zg0")
  | (k_dat 17 "zg0")
  | (k_dat 18 "zg0")
  | (k_dat 19 "zg0")
  | (k_dat 1 "zu0")
  | (k_dat 2 "zu0")
  | (k_dat 3 "zu0")
  | (k_dat 4 "zu0")
  | (k_dat 5 "zu0")
  | (k_dat 6 "zu0")
  | (k_dat 7 "zu0")
  | (k_dat 8 "zu0")
  | ((with_reducible refine' dg_sub ?a ?b ?h); k_dat a "e"; k_dat b "e"; (case h => (intro _; rfl))))
local macro_rules | `(tactic| walk_at "d_gs") => `(tactic| first
  | (with_reducible exact dgs_nil)
  | ((with_reducible refine' dgs_cons ?a ?b ?h); (case a => walk_at "d_g"); (case b => walk_at "d_gs"); k_dat h "r"))
local macro_rules | `(tactic| walk_at "d_s") => `(tactic| first
  | (k_dat ds_ret "s2")
  | ((with_reducible refine' ds_if ?c ?a ?b); k_dat c "t"; k_dat a "s"; k_dat b "s")
  | ((with_reducible refine' ds_expr ?a ?h); k_dat h "r"; k_dat a "e")
  | ((with_reducible refine' ds_for ?p ?c ?i ?g ?b ?h); (case p => exact PassesOwn.never); k_dat c "r"; k_dat i "i"; (case g => walk_at "d_g"); k_dat b "s"; (case h => (intro _; rfl)))
  | ((with_reducible show DS _ (.Assign [.Name _ _] (.ListComp _ _ _ _) _) _); first
      | (k_dat 0 "zc0")
      | (k_dat 0 "zc1")
      | (k_dat 0 "zc2")
      | (k_dat 1 "zc0")
      | (k_dat 1 "zc1")
      | (k_dat 1 "zc2")
      | (k_dat 2 "zc0")
      | (k_dat 2 "zc1")
      | (k_dat 2 "zc2")
      | (k_dat 3 "zc0")
      | (k_dat 3 "zc1")
      | (k_dat 3 "zc2")
      | (k_dat 4 "zc0")
      | (k_dat 4 "zc1")
      | (k_dat 4 "zc2")
      | (k_dat 5 "zc0")
      | (k_dat 5 "zc1")
      | (k_dat 5 "zc2")
      | (k_dat 6 "zc0")
      | (k_dat 6 "zc1")
      | (k_dat 6 "zc2")
      | (k_dat 7 "zc0")
      | (k_dat 7 "zc1")
      | (k_dat 7 "zc2")
      | (k_dat 8 "zc0")
      | (k_dat 8 "zc1")
      | (k_dat 8 "zc2")
      | (k_dat 9 "zc0")
      | (k_dat 9 "zc1")
      | (k_dat 9 "zc2")
      | (k_dat 10 "zc0")
      | (k_dat 10 "zc1")
      | (k_dat 10 "zc2")
      | (k_dat 11 "zc0")
      | (k_dat 11 "zc1")
      | (k_dat 11 "zc2")
      | (k_dat 12 "zc0")
      | (k_dat 12 "zc1")
      | (k_dat 12 "zc2")
      | (k_dat 13 "zc0")
      | (k_dat 13 "zc1")
      | (k_dat 13 "zc2")
      | (k_dat 14 "zc0")
      | (k_dat 14 "zc1")
      | (k_dat 14 "zc2")
      | (k_dat 15 "zc0")
      | (k_dat 15 "zc1")
      | (k_dat 15 "zc2")
      | (k_dat 16 "zc0")
      | (k_dat 16 "zc1")
      | (k_dat 16 "zc2")
      | (k_dat 17 "zc0")
      | (k_dat 17 "zc1")
      | (k_dat 17 "zc2")
      | (k_dat 18 "zc0")
      | (k_dat 18 "zc1")
      | (k_dat 18 "zc2")
      | (k_dat 19 "zc0")
      | (k_dat 19 "zc1")
      | (k_dat 19 "zc2"))
  | ((with_reducible show DS _ (.Assign [.Name _ _] _ _) _); first
      | (k_dat 0 "zs0")
      | (k_dat 1 "zs0")
      | (k_dat 2 "zs0")
      | (k_dat 3 "zs0")
      | (k_dat 4 "zs0")
      | (k_dat 5 "zs0")
      | (k_dat 6 "zs0")
      | (k_dat 7 "zs0")
      | (k_dat 8 "zs0")
      | (k_dat 9 "zs0")
      | (k_dat 10 "zs0")
      | (k_dat 11 "zs0")
      | (k_dat 12 "zs0")
      | (k_dat 13 "zs0")
      | (k_dat 14 "zs0")
      | (k_dat 15 "zs0")
      | (k_dat 16 "zs0")
      | (k_dat 17 "zs0")
      | (k_dat 18 "zs0")
      | (k_dat 19 "zs0"))
  | ((with_reducible refine' ds_dput ?hu ?a ?b ?v ?s); (case hu => exact hu1 (by assumption)); k_dat s "r"; k_dat v "e"; k_dat a "e"; k_dat b "e")
  | ((with_reducible refine' ds_asg ?e ?g ?s ?w ?h); k_dat s "r"; k_dat w "r"; k_dat h "r"; k_dat e "e"; (case g => walk_at "d_g"))
  | ((with_reducible show DS _ (.AugAssign (.Name _ _) _ _ _) _); first
      | (k_dat 19 "za0")))
local macro_rules | `(tactic| walk_at "d_ss") => `(tactic| first
  | (with_reducible exact dss_nil)
  | ((with_reducible refine' dss_cons ?a ?b); (case a => walk_at "d_s"); k_dat b "s"))
noncomputable def top (i : Nat) : Stmt := PySem.Challenge.pw_asitruns_k18_worths.main.body.getD i (.Pass ⟨0, 0, 0, 0⟩)
noncomputable abbrev s_plain_outcome : Stmt := top 1
noncomputable abbrev s_under : Stmt := top 4
noncomputable abbrev s_made_of : Stmt := top 5
noncomputable abbrev s_worth : Stmt := top 6
noncomputable abbrev s_worths : Stmt := top 7
noncomputable abbrev s__law_hand : Stmt := top 9
noncomputable abbrev s__law_draw : Stmt := top 10
noncomputable abbrev s__law_number : Stmt := top 11
noncomputable abbrev s__law_leaf : Stmt := top 12
noncomputable abbrev s__law_node : Stmt := top 13
noncomputable abbrev s__law_joined : Stmt := top 14
noncomputable abbrev s__law_leaf_worth : Stmt := top 15
noncomputable abbrev s__law_worth : Stmt := top 16
noncomputable abbrev s__law_alike : Stmt := top 17
noncomputable abbrev s_law : Stmt := top 18
section
variable {P : Program} {w : World} {K : PySem.W.Frag} {mg : Str → Option Value} {base : Heap} {f : Addr} {fd : FuncData}
theorem scplain_outcome : FnScope ["word", "x", "y"] ["word", "x", "y"] (defScope s_plain_outcome) := ⟨rfl, rfl, rfl, by decide +kernel, rfl, by decide +kernel, by decide +kernel⟩
theorem okplain_outcome (F : Fun K "plain_outcome" "plain_outcome" s_plain_outcome f fd)  : FnOk P w K mg base CX0 1 f fd ["word", "x", "y"] (liftSp K K20.spPlain) := by
  have nd := scplain_outcome.nd
  refine fun_ok F scplain_outcome (fun ds st Pd h => by obtain ⟨_, _, _, rfl, _⟩ := h; rfl) fun cdv A outer s H E hr => ?_
  refine ⟨t_plain_outcome, ?t, fun ds st Pd h => K20.rd_plain_outcome h⟩
  case t =>
    refine' dss_cons ?a ?b
    case a => walk_at "d_s"
    case b => walk_at "d_ss"
theorem scunder : FnScope ["node"] ["node"] (defScope s_under) := ⟨rfl, rfl, rfl, by decide +kernel, rfl, by decide +kernel, by decide +kernel⟩
theorem okunder (F : Fun K "under" "under" s_under f fd) (gT0 : ConT K mg "NAMING" K19.namD) : FnOk P w K mg base CX0 1 f fd ["node"] (liftSp K K19.spUnder) := by
  have nd := scunder.nd
  refine fun_ok F scunder (fun ds st Pd h => by obtain ⟨_, _, rfl, _⟩ := h; rfl) fun cdv A outer s H E hr => ?_
  refine ⟨t_under, ?t, fun ds st Pd h => K19.rd_under h⟩
  case t =>
    refine' dss_cons ?a ?b
    case a => walk_at "d_s"
    case b => walk_at "d_ss"
theorem scmade_of : FnScope ["word", "named", "x", "y"] ["word", "named"] (defScope s_made_of) := ⟨rfl, rfl, rfl, by decide +kernel, rfl, by decide +kernel, by decide +kernel⟩
theorem okmade_of (F : Fun K "made_of" "made_of" s_made_of f fd) (dplain_outcome : DefOk P w K mg base "plain_outcome" 1 K20.spPlain) : FnOk P w K mg base CX0 2 f fd ["word", "named"] (liftSp K K20.spMade) := by
  have nd := scmade_of.nd
  refine fun_ok F scmade_of (fun ds st Pd h => by obtain ⟨_, _, rfl, _⟩ := h; rfl) fun cdv A outer s H E hr => ?_
  refine ⟨t_made_of, ?t, fun ds st Pd h => K20.rd_made_of h⟩
  case t =>
    refine' dss_cons ?a ?b
    case a => walk_at "d_s"
    case b => walk_at "d_ss"
theorem scworth : FnScope ["node", "before", "boxes", "marks", "brought", "word", "named"] ["node", "before", "boxes", "marks", "brought"] (defScope s_worth) := ⟨rfl, rfl, rfl, by decide +kernel, rfl, by decide +kernel, by decide +kernel⟩
theorem okworth (F : Fun K "worth" "worth" s_worth f fd) (m3 : mg "len" = none) (dunder : DefOk P w K mg base "under" 1 K19.spUnder) (dmade_of : DefOk P w K mg base "made_of" 2 K20.spMade) : FnOk P w K mg base CX0 3 f fd ["node", "before", "boxes", "marks", "brought"] (liftSp K K20.spWorth) := by
  have nd := scworth.nd
  have hint0 : Hint [(1, "before")] := ⟨trivial⟩
  refine fun_ok F scworth (fun ds st Pd h => by obtain ⟨_, _, _, _, _, _, _, _, _, _, rfl, _⟩ := h; rfl) fun cdv A outer s H E hr => ?_
  refine ⟨t_worth, ?t, fun ds st Pd h => K20.rd_worth h⟩
  case t =>
    refine' dss_cons ?a ?b
    case a => walk_at "d_s"
    case b => walk_at "d_ss"
theorem scworths : FnScope ["nodes", "boxes", "marks", "brought", "found", "node"] ["nodes", "boxes", "marks", "brought"] (defScope s_worths) := ⟨rfl, rfl, rfl, by decide +kernel, rfl, by decide +kernel, by decide +kernel⟩
theorem okworths (F : Fun K "worths" "worths" s_worths f fd) (dworth : DefOk P w K mg base "worth" 3 K20.spWorth) : FnOk P w K mg base CX0 4 f fd ["nodes", "boxes", "marks", "brought"] (liftSp K K20.spWorths) := by
  have nd := scworths.nd
  refine fun_ok F scworths (fun ds st Pd h => by obtain ⟨_, _, _, _, _, _, _, rfl, _⟩ := h; rfl) fun cdv A outer s H E hr => ?_
  refine ⟨t_worths, ?t, fun ds st Pd h => K20.rd_worths h⟩
  case t =>
    refine' dss_cons ?a ?b
    case a => walk_at "d_s"
    case b => walk_at "d_ss"
theorem sc_law_hand : FnScope ["cell", "k"] ["cell", "k"] (defScope s__law_hand) := ⟨rfl, rfl, rfl, by decide +kernel, rfl, by decide +kernel, by decide +kernel⟩
theorem ok_law_hand (F : Fun K "_law_hand" "_law_hand" s__law_hand f fd)  : FnOk P w K mg base CX0 1 f fd ["cell", "k"] (liftSp K KH.spHand) := by
  have nd := sc_law_hand.nd
  refine fun_ok F sc_law_hand (fun ds st Pd h => by obtain ⟨_, _, rfl, _⟩ := h; rfl) fun cdv A outer s H E hr => ?_
  refine ⟨t__law_hand, ?t, fun ds st Pd h => KH.rd__law_hand h⟩
  case t =>
    refine' dss_cons ?a ?b
    case a => walk_at "d_s"
    case b => walk_at "d_ss"
theorem sc_law_draw : FnScope ["hand", "limit", "found"] ["hand", "limit"] (defScope s__law_draw) := ⟨rfl, rfl, rfl, by decide +kernel, rfl, by decide +kernel, by decide +kernel⟩
theorem ok_law_draw (F : Fun K "_law_draw" "_law_draw" s__law_draw f fd)  : FnOk P w K mg base CX0 1 f fd ["hand", "limit"] (liftSp K KH.spDraw) := by
  have nd := sc_law_draw.nd
  refine fun_ok F sc_law_draw (fun ds st Pd h => by obtain ⟨_, _, rfl, _⟩ := h; rfl) fun cdv A outer s H E hr => ?_
  refine ⟨t__law_draw, ?t, fun ds st Pd h => KH.rd__law_draw h⟩
  case t =>
    refine' dss_cons ?a ?b
    case a => walk_at "d_s"
    case b => walk_at "d_ss"
theorem sc_law_number : FnScope ["hand", "style"] ["hand"] (defScope s__law_number) := ⟨rfl, rfl, rfl, by decide +kernel, rfl, by decide +kernel, by decide +kernel⟩
theorem ok_law_number (F : Fun K "_law_number" "_law_number" s__law_number f fd) (d_law_draw : DefOk P w K mg base "_law_draw" 1 KH.spDraw) : FnOk P w K mg base CX0 2 f fd ["hand"] (liftSp K KS.spNumber) := by
  have nd := sc_law_number.nd
  refine fun_ok F sc_law_number (fun ds st Pd h => by obtain ⟨_, rfl, _⟩ := h; rfl) fun cdv A outer s H E hr => ?_
  refine ⟨t__law_number, ?t, fun ds st Pd h => KS.rd__law_number h⟩
  case t =>
    refine' dss_cons ?a ?b
    case a => walk_at "d_s"
    case b => walk_at "d_ss"
theorem sc_law_leaf : FnScope ["hand", "items", "style"] ["hand", "items"] (defScope s__law_leaf) := ⟨rfl, rfl, rfl, by decide +kernel, rfl, by decide +kernel, by decide +kernel⟩
theorem ok_law_leaf (F : Fun K "_law_leaf" "_law_leaf" s__law_leaf f fd) (m3 : mg "len" = none) (d_law_draw : DefOk P w K mg base "_law_draw" 1 KH.spDraw) (d_law_number : DefOk P w K mg base "_law_number" 2 KS.spNumber) : FnOk P w K mg base CX0 3 f fd ["hand", "items"] (liftSp K K20.spLeaf) := by
  have nd := sc_law_leaf.nd
  refine fun_ok F sc_law_leaf (fun ds st Pd h => by obtain ⟨_, _, _, rfl, _⟩ := h; rfl) fun cdv A outer s H E hr => ?_
  refine ⟨t__law_leaf, ?t, fun ds st Pd h => K20.rd__law_leaf h⟩
  case t =>
    refine' dss_cons ?a ?b
    case a => walk_at "d_s"
    case b => walk_at "d_ss"
theorem sc_law_node : FnScope ["hand", "sorts", "items", "some", "style", "x", "y"] ["hand", "sorts", "items"] (defScope s__law_node) := ⟨rfl, rfl, rfl, by decide +kernel, rfl, by decide +kernel, by decide +kernel⟩
theorem ok_law_node (F : Fun K "_law_node" "_law_node" s__law_node f fd) (m3 : mg "len" = none) (m7 : mg "range" = none) (d_law_draw : DefOk P w K mg base "_law_draw" 1 KH.spDraw) (d_law_leaf : DefOk P w K mg base "_law_leaf" 3 K20.spLeaf) : FnOk P w K mg base CX0 4 f fd ["hand", "sorts", "items"] (liftSp K K20.spNode) := by
  have nd := sc_law_node.nd
  have hint0 : Hint [(1, "sorts")] := ⟨trivial⟩
  refine fun_ok F sc_law_node (fun ds st Pd h => by obtain ⟨_, _, _, _, _, rfl, _⟩ := h; rfl) fun cdv A outer s H E hr => ?_
  refine ⟨t__law_node, ?t, fun ds st Pd h => K20.rd__law_node h⟩
  case t =>
    refine' dss_cons ?a ?b
    case a => walk_at "d_s"
    case b => walk_at "d_ss"
theorem sc_law_joined : FnScope ["word", "x", "y"] ["word", "x", "y"] (defScope s__law_joined) := ⟨rfl, rfl, rfl, by decide +kernel, rfl, by decide +kernel, by decide +kernel⟩
theorem ok_law_joined (F : Fun K "_law_joined" "_law_joined" s__law_joined f fd) (m4 : mg "int" = none) (m8 : mg "max" = none) : FnOk P w K mg base CX0 1 f fd ["word", "x", "y"] (liftSp K spJoined) := by
  have nd := sc_law_joined.nd
  refine fun_ok F sc_law_joined (fun ds st Pd h => by obtain ⟨_, _, _, rfl, _⟩ := h; rfl) fun cdv A outer s H E hr => ?_
  refine ⟨t__law_joined, ?t, fun ds st Pd h => rd__law_joined h⟩
  case t =>
    refine' dss_cons ?a ?b
    case a => walk_at "d_s"
    case b => walk_at "d_ss"
theorem sc_law_leaf_worth : FnScope ["node", "boxes", "marks", "brought"] ["node", "boxes", "marks", "brought"] (defScope s__law_leaf_worth) := ⟨rfl, rfl, rfl, by decide +kernel, rfl, by decide +kernel, by decide +kernel⟩
theorem ok_law_leaf_worth (F : Fun K "_law_leaf_worth" "_law_leaf_worth" s__law_leaf_worth f fd) (m10 : mg "list" = none) : FnOk P w K mg base CX0 1 f fd ["node", "boxes", "marks", "brought"] (liftSp K spLeafWorth) := by
  have nd := sc_law_leaf_worth.nd
  refine fun_ok F sc_law_leaf_worth (fun ds st Pd h => by obtain ⟨_, _, _, _, _, _, _, _, rfl, _⟩ := h; rfl) fun cdv A outer s H E hr => ?_
  refine ⟨t__law_leaf_worth, ?t, fun ds st Pd h => rd__law_leaf_worth h⟩
  case t =>
    refine' dss_cons ?a ?b
    case a => walk_at "d_s"
    case b => walk_at "d_ss"
theorem sc_law_worth : FnScope ["nodes", "k", "boxes", "marks", "brought", "seen", "node", "some"] ["nodes", "k", "boxes", "marks", "brought", "seen"] (defScope s__law_worth) := ⟨rfl, rfl, rfl, by decide +kernel, rfl, by decide +kernel, by decide +kernel⟩
theorem lift_zero {K : PySem.W.Frag} {vs : List V} {H : Hp} {Q : VK} {E : XK} (h : liftSp K (spW 0) vs H Q E) : False := by
  obtain ⟨φ, st, ds, Pd, R, dl, hs, hq⟩ := h
  obtain ⟨_, _, _, _, _, _, _, _, _, _, _, rfl, h, _⟩ := hs
  exact absurd h (Nat.not_lt_zero _)
theorem ok_law_worth (N : Nat) (F : Fun K "_law_worth" "_law_worth" s__law_worth f fd) (m4 : mg "int" = none) (d_law_joined : DefOk P w K mg base "_law_joined" 1 spJoined) (d_law_leaf_worth : DefOk P w K mg base "_law_leaf_worth" 1 spLeafWorth) (d_law_worth : DefOk P w K mg base "_law_worth" (2 + N) (spW N)) : FnOk P w K mg base CX0 (2 + N + 1) f fd ["nodes", "k", "boxes", "marks", "brought", "seen"] (liftSp K (spW (N + 1))) := by
  have nd := sc_law_worth.nd
  have hint0 : Hint [(2, "boxes"), (4, "brought"), (3, "marks"), (0, "nodes"), (5, "seen")] := ⟨trivial⟩
  refine fun_ok F sc_law_worth (fun ds st Pd h => by obtain ⟨_, _, _, _, _, _, _, _, _, _, _, rfl, _⟩ := h; rfl) fun cdv A outer s H E hr => ?_
  refine ⟨t__law_worth N, ?t, fun ds st Pd h => rd__law_worth N h⟩
  case t =>
    refine' dss_cons ?a ?b
    case a => walk_at "d_s"
    case b => walk_at "d_ss"
theorem sc_law_alike : FnScope ["found", "due"] ["found", "due"] (defScope s__law_alike) := ⟨rfl, rfl, rfl, by decide +kernel, rfl, by decide +kernel, by decide +kernel⟩
theorem ok_law_alike (F : Fun K "_law_alike" "_law_alike" s__law_alike f fd) (m2 : mg "isinstance" = none) (m4 : mg "int" = none) (m5 : mg "bool" = none) : FnOk P w K mg base CX0 1 f fd ["found", "due"] (liftSp K spAlike) := by
  have nd := sc_law_alike.nd
  refine fun_ok F sc_law_alike (fun ds st Pd h => by obtain ⟨_, rfl, _⟩ := h; rfl) fun cdv A outer s H E hr => ?_
  refine ⟨t__law_alike, ?t, fun ds st Pd h => rd__law_alike h⟩
  case t =>
    refine' dss_cons ?a ?b
    case a => walk_at "d_s"
    case b => walk_at "d_ss"
theorem sclaw : FnScope ["script", "hand", "items", "nodes", "sorts", "k", "cell", "own", "turn", "node", "sort", "boxes", "marks", "brought", "seen", "due", "handed", "found"] ["script"] (defScope s_law) := ⟨rfl, rfl, rfl, by decide +kernel, rfl, by decide +kernel, by decide +kernel⟩
theorem oklaw (F : Fun K "law" "law" s_law f fd) (m0 : mg "all" = none) (m1 : mg "tuple" = none) (m2 : mg "isinstance" = none) (m3 : mg "len" = none) (m6 : mg "enumerate" = none) (m7 : mg "range" = none) (m9 : mg "sum" = none) (m10 : mg "list" = none) (dworths : DefOk P w K mg base "worths" 4 K20.spWorths) (d_law_hand : DefOk P w K mg base "_law_hand" 1 KH.spHand) (d_law_draw : DefOk P w K mg base "_law_draw" 1 KH.spDraw) (d_law_number : DefOk P w K mg base "_law_number" 2 KS.spNumber) (d_law_node : DefOk P w K mg base "_law_node" 4 K20.spNode) (d_law_worth : DefOk P w K mg base "_law_worth" 132 (spW 130)) (d_law_alike : DefOk P w K mg base "_law_alike" 1 spAlike) : FnOk P w K mg base CX0 140 f fd ["script"] (liftSp K spLaw) := by
  have nd := sclaw.nd
  have hint0 : Hint [(1, "hand")] := ⟨trivial⟩
  have hint1 : Hint [(11, "boxes"), (13, "brought"), (12, "marks"), (3, "nodes"), (14, "seen")] := ⟨trivial⟩
  have hint2 : Hint [(15, "due"), (17, "found")] := ⟨trivial⟩
  refine fun_ok F sclaw (fun ds st Pd h => by obtain ⟨c, rfl, _⟩ := h; rfl) fun cdv A outer s H E hr => ?_
  refine ⟨t_law, ?t, fun ds st Pd h => rd_law h⟩
  case t =>
    refine' dss_cons ?a ?b
    case a => walk_at "d_s"
    case b => walk_at "d_ss"
end
@[elab_as_elim] theorem len1 {C : List Value → Prop} (us : List Value) (hl : us.length = 1) (h : ∀ a0, C [a0]) : C us := by
  match us, hl with
  | [a0], _ => exact h _
@[elab_as_elim] theorem len2 {C : List Value → Prop} (us : List Value) (hl : us.length = 2) (h : ∀ a0 a1, C [a0, a1]) : C us := by
  match us, hl with
  | [a0, a1], _ => exact h _ _
@[elab_as_elim] theorem len3 {C : List Value → Prop} (us : List Value) (hl : us.length = 3) (h : ∀ a0 a1 a2, C [a0, a1, a2]) : C us := by
  match us, hl with
  | [a0, a1, a2], _ => exact h _ _ _
@[elab_as_elim] theorem len4 {C : List Value → Prop} (us : List Value) (hl : us.length = 4) (h : ∀ a0 a1 a2 a3, C [a0, a1, a2, a3]) : C us := by
  match us, hl with
  | [a0, a1, a2, a3], _ => exact h _ _ _ _
@[elab_as_elim] theorem len5 {C : List Value → Prop} (us : List Value) (hl : us.length = 5) (h : ∀ a0 a1 a2 a3 a4, C [a0, a1, a2, a3, a4]) : C us := by
  match us, hl with
  | [a0, a1, a2, a3, a4], _ => exact h _ _ _ _ _
@[elab_as_elim] theorem len6 {C : List Value → Prop} (us : List Value) (hl : us.length = 6) (h : ∀ a0 a1 a2 a3 a4 a5, C [a0, a1, a2, a3, a4, a5]) : C us := by
  match us, hl with
  | [a0, a1, a2, a3, a4, a5], _ => exact h _ _ _ _ _ _
@[elab_as_elim] theorem len7 {C : List Value → Prop} (us : List Value) (hl : us.length = 7) (h : ∀ a0 a1 a2 a3 a4 a5 a6, C [a0, a1, a2, a3, a4, a5, a6]) : C us := by
  match us, hl with
  | [a0, a1, a2, a3, a4, a5, a6], _ => exact h _ _ _ _ _ _ _
@[elab_as_elim] theorem len8 {C : List Value → Prop} (us : List Value) (hl : us.length = 8) (h : ∀ a0 a1 a2 a3 a4 a5 a6 a7, C [a0, a1, a2, a3, a4, a5, a6, a7]) : C us := by
  match us, hl with
  | [a0, a1, a2, a3, a4, a5, a6, a7], _ => exact h _ _ _ _ _ _ _ _
@[elab_as_elim] theorem len9 {C : List Value → Prop} (us : List Value) (hl : us.length = 9) (h : ∀ a0 a1 a2 a3 a4 a5 a6 a7 a8, C [a0, a1, a2, a3, a4, a5, a6, a7, a8]) : C us := by
  match us, hl with
  | [a0, a1, a2, a3, a4, a5, a6, a7, a8], _ => exact h _ _ _ _ _ _ _ _ _
theorem all_mk {l : PySem.W.OpenLaw} {w : World} {K : PySem.W.Frag} {h : Heap} {mg : Str → Option Value} {fa f0 f1 f2 f3 f4 f5 f6 f7 f8 f9 f10 f11 f12 f13 f14 : Addr} (X : K.In h) (G : h.Ns mainGlobals mg) (hfa : mg "law" = some (.ref fa))
    {od0 od1 od2 od3 od4 od5 od6 od7 od8 od9 od10 od11 od12 od13 od14 an0 an1 an2 an3 an4 an5 an6 an7 an8 an9 an10 an11 an12 an13 an14 : Option Addr} {sl0 sl1 sl2 sl3 sl4 sl5 sl6 sl7 sl8 sl9 sl10 sl11 sl12 sl13 sl14 : Array (Option Value)} {oc0 oc1 oc2 oc3 oc4 oc5 oc6 oc7 oc8 oc9 oc10 oc11 oc12 oc13 oc14 kV0 kV1 kV2 kV3 kV4 kV5 kV6 kV7 kV8 kV9 kV10 kV11 kV12 kV13 kV14 dc0 dc1 dc2 dc3 dc4 dc5 dc6 dc7 dc8 dc9 dc10 dc11 dc12 dc13 dc14 pm0 pm1 pm2 pm3 pm4 pm5 pm6 pm7 pm8 pm9 pm10 pm11 pm12 pm13 pm14 cd0 cd1 cd2 cd3 cd4 cd5 cd6 cd7 cd8 cd9 cd10 cd11 cd12 cd13 cd14 ct0 ct1 ct2 ct3 ct4 ct5 ct6 ct7 ct8 ct9 ct10 ct11 ct12 ct13 ct14 : Value}
    (a0 : PySem.W.nsIn K mainGlobals "plain_outcome" = some (some (.ref f0))) (l0 : K.lookup f0 = some ⟨oc0, od0, .func (PySem.W.fnOf "plain_outcome" "plain_outcome" (defArgs s_plain_outcome) (defBody s_plain_outcome) (defScope s_plain_outcome) .none kV0 dc0 pm0 an0 cd0 ct0), sl0⟩) (c0 : PySem.W.codeIn K cd0 "plain_outcome" = true) (k0 : PySem.W.keepIn K (.ref f0) = true)
    (a1 : PySem.W.nsIn K mainGlobals "under" = some (some (.ref f1))) (l1 : K.lookup f1 = some ⟨oc1, od1, .func (PySem.W.fnOf "under" "under" (defArgs s_under) (defBody s_under) (defScope s_under) .none kV1 dc1 pm1 an1 cd1 ct1), sl1⟩) (c1 : PySem.W.codeIn K cd1 "under" = true) (k1 : PySem.W.keepIn K (.ref f1) = true)
    (a2 : PySem.W.nsIn K mainGlobals "made_of" = some (some (.ref f2))) (l2 : K.lookup f2 = some ⟨oc2, od2, .func (PySem.W.fnOf "made_of" "made_of" (defArgs s_made_of) (defBody s_made_of) (defScope s_made_of) .none kV2 dc2 pm2 an2 cd2 ct2), sl2⟩) (c2 : PySem.W.codeIn K cd2 "made_of" = true) (k2 : PySem.W.keepIn K (.ref f2) = true)
    (a3 : PySem.W.nsIn K mainGlobals "worth" = some (some (.ref f3))) (l3 : K.lookup f3 = some ⟨oc3, od3, .func (PySem.W.fnOf "worth" "worth" (defArgs s_worth) (defBody s_worth) (defScope s_worth) .none kV3 dc3 pm3 an3 cd3 ct3), sl3⟩) (c3 : PySem.W.codeIn K cd3 "worth" = true) (k3 : PySem.W.keepIn K (.ref f3) = true)
    (a4 : PySem.W.nsIn K mainGlobals "worths" = some (some (.ref f4))) (l4 : K.lookup f4 = some ⟨oc4, od4, .func (PySem.W.fnOf "worths" "worths" (defArgs s_worths) (defBody s_worths) (defScope s_worths) .none kV4 dc4 pm4 an4 cd4 ct4), sl4⟩) (c4 : PySem.W.codeIn K cd4 "worths" = true) (k4 : PySem.W.keepIn K (.ref f4) = true)
    (a5 : PySem.W.nsIn K mainGlobals "_law_hand" = some (some (.ref f5))) (l5 : K.lookup f5 = some ⟨oc5, od5, .func (PySem.W.fnOf "_law_hand" "_law_hand" (defArgs s__law_hand) (defBody s__law_hand) (defScope s__law_hand) .none kV5 dc5 pm5 an5 cd5 ct5), sl5⟩) (c5 : PySem.W.codeIn K cd5 "_law_hand" = true) (k5 : PySem.W.keepIn K (.ref f5) = true)
    (a6 : PySem.W.nsIn K mainGlobals "_law_draw" = some (some (.ref f6))) (l6 : K.lookup f6 = some ⟨oc6, od6, .func (PySem.W.fnOf "_law_draw" "_law_draw" (defArgs s__law_draw) (defBody s__law_draw) (defScope s__law_draw) .none kV6 dc6 pm6 an6 cd6 ct6), sl6⟩) (c6 : PySem.W.codeIn K cd6 "_law_draw" = true) (k6 : PySem.W.keepIn K (.ref f6) = true)
    (a7 : PySem.W.nsIn K mainGlobals "_law_number" = some (some (.ref f7))) (l7 : K.lookup f7 = some ⟨oc7, od7, .func (PySem.W.fnOf "_law_number" "_law_number" (defArgs s__law_number) (defBody s__law_number) (defScope s__law_number) .none kV7 dc7 pm7 an7 cd7 ct7), sl7⟩) (c7 : PySem.W.codeIn K cd7 "_law_number" = true) (k7 : PySem.W.keepIn K (.ref f7) = true)
    (a8 : PySem.W.nsIn K mainGlobals "_law_leaf" = some (some (.ref f8))) (l8 : K.lookup f8 = some ⟨oc8, od8, .func (PySem.W.fnOf "_law_leaf" "_law_leaf" (defArgs s__law_leaf) (defBody s__law_leaf) (defScope s__law_leaf) .none kV8 dc8 pm8 an8 cd8 ct8), sl8⟩) (c8 : PySem.W.codeIn K cd8 "_law_leaf" = true) (k8 : PySem.W.keepIn K (.ref f8) = true)
    (a9 : PySem.W.nsIn K mainGlobals "_law_node" = some (some (.ref f9))) (l9 : K.lookup f9 = some ⟨oc9, od9, .func (PySem.W.fnOf "_law_node" "_law_node" (defArgs s__law_node) (defBody s__law_node) (defScope s__law_node) .none kV9 dc9 pm9 an9 cd9 ct9), sl9⟩) (c9 : PySem.W.codeIn K cd9 "_law_node" = true) (k9 : PySem.W.keepIn K (.ref f9) = true)
    (a10 : PySem.W.nsIn K mainGlobals "_law_joined" = some (some (.ref f10))) (l10 : K.lookup f10 = some ⟨oc10, od10, .func (PySem.W.fnOf "_law_joined" "_law_joined" (defArgs s__law_joined) (defBody s__law_joined) (defScope s__law_joined) .none kV10 dc10 pm10 an10 cd10 ct10), sl10⟩) (c10 : PySem.W.codeIn K cd10 "_law_joined" = true) (k10 : PySem.W.keepIn K (.ref f10) = true)
    (a11 : PySem.W.nsIn K mainGlobals "_law_leaf_worth" = some (some (.ref f11))) (l11 : K.lookup f11 = some ⟨oc11, od11, .func (PySem.W.fnOf "_law_leaf_worth" "_law_leaf_worth" (defArgs s__law_leaf_worth) (defBody s__law_leaf_worth) (defScope s__law_leaf_worth) .none kV11 dc11 pm11 an11 cd11 ct11), sl11⟩) (c11 : PySem.W.codeIn K cd11 "_law_leaf_worth" = true) (k11 : PySem.W.keepIn K (.ref f11) = true)
    (a12 : PySem.W.nsIn K mainGlobals "_law_worth" = some (some (.ref f12))) (l12 : K.lookup f12 = some ⟨oc12, od12, .func (PySem.W.fnOf "_law_worth" "_law_worth" (defArgs s__law_worth) (defBody s__law_worth) (defScope s__law_worth) .none kV12 dc12 pm12 an12 cd12 ct12), sl12⟩) (c12 : PySem.W.codeIn K cd12 "_law_worth" = true) (k12 : PySem.W.keepIn K (.ref f12) = true)
    (a13 : PySem.W.nsIn K mainGlobals "_law_alike" = some (some (.ref f13))) (l13 : K.lookup f13 = some ⟨oc13, od13, .func (PySem.W.fnOf "_law_alike" "_law_alike" (defArgs s__law_alike) (defBody s__law_alike) (defScope s__law_alike) .none kV13 dc13 pm13 an13 cd13 ct13), sl13⟩) (c13 : PySem.W.codeIn K cd13 "_law_alike" = true) (k13 : PySem.W.keepIn K (.ref f13) = true)
    (a14 : PySem.W.nsIn K mainGlobals "law" = some (some (.ref f14))) (l14 : K.lookup f14 = some ⟨oc14, od14, .func (PySem.W.fnOf "law" "law" (defArgs s_law) (defBody s_law) (defScope s_law) .none kV14 dc14 pm14 an14 cd14 ct14), sl14⟩) (c14 : PySem.W.codeIn K cd14 "law" = true) (k14 : PySem.W.keepIn K (.ref f14) = true)
    {aT0 : Addr} {iT0 : Array Value} {nT0 : Nat} {sT0 : Array (Option Value)} (b0 : PySem.W.nsIn K mainGlobals "NAMING" = some (some (.ref aT0))) (e0 : K.lookup aT0 = some ⟨.type "tuple", none, .seq iT0 nT0, sT0⟩) (v0 : strsAre iT0.toList K19.namS = true) (w0 : iT0.size ≤ sizeLine)
    (z0 : PySem.W.nsIn K mainGlobals "all" = some none)
    (z1 : PySem.W.nsIn K mainGlobals "tuple" = some none)
    (z2 : PySem.W.nsIn K mainGlobals "isinstance" = some none)
    (z3 : PySem.W.nsIn K mainGlobals "len" = some none)
    (z4 : PySem.W.nsIn K mainGlobals "int" = some none)
    (z5 : PySem.W.nsIn K mainGlobals "bool" = some none)
    (z6 : PySem.W.nsIn K mainGlobals "enumerate" = some none)
    (z7 : PySem.W.nsIn K mainGlobals "range" = some none)
    (z8 : PySem.W.nsIn K mainGlobals "max" = some none)
    (z9 : PySem.W.nsIn K mainGlobals "sum" = some none)
    (z10 : PySem.W.nsIn K mainGlobals "list" = some none)
    : ∃ fd : FuncData, (∀ (s : Shared) (v : Value), BindsTo s fd ⟨[v], []⟩ [("script", v)]) ∧ ∀ base : Heap, K.In base → base.Ns mainGlobals mg → FnOk l.prog w K mg base CX0 140 fa fd ["script"] (liftSp K spLaw) := by
  have e := hfa.symm.trans (PySem.W.mg_of X G a14)
  cases e
  have F0 := fun_mk (st := s_plain_outcome) l0 c0 k0
  have B0 := F0.binds (ps := ["word", "x", "y"]) fun _ _ _ _ _ _ us hl => len3 us hl fun _ _ _ => rfl
  have F1 := fun_mk (st := s_under) l1 c1 k1
  have B1 := F1.binds (ps := ["node"]) fun _ _ _ _ _ _ us hl => len1 us hl fun _ => rfl
  have F2 := fun_mk (st := s_made_of) l2 c2 k2
  have B2 := F2.binds (ps := ["word", "named"]) fun _ _ _ _ _ _ us hl => len2 us hl fun _ _ => rfl
  have F3 := fun_mk (st := s_worth) l3 c3 k3
  have B3 := F3.binds (ps := ["node", "before", "boxes", "marks", "brought"]) fun _ _ _ _ _ _ us hl => len5 us hl fun _ _ _ _ _ => rfl
  have F4 := fun_mk (st := s_worths) l4 c4 k4
  have B4 := F4.binds (ps := ["nodes", "boxes", "marks", "brought"]) fun _ _ _ _ _ _ us hl => len4 us hl fun _ _ _ _ => rfl
  have F5 := fun_mk (st := s__law_hand) l5 c5 k5
  have B5 := F5.binds (ps := ["cell", "k"]) fun _ _ _ _ _ _ us hl => len2 us hl fun _ _ => rfl
  have F6 := fun_mk (st := s__law_draw) l6 c6 k6
  have B6 := F6.binds (ps := ["hand", "limit"]) fun _ _ _ _ _ _ us hl => len2 us hl fun _ _ => rfl
  have F7 := fun_mk (st := s__law_number) l7 c7 k7
  have B7 := F7.binds (ps := ["hand"]) fun _ _ _ _ _ _ us hl => len1 us hl fun _ => rfl
  have F8 := fun_mk (st := s__law_leaf) l8 c8 k8
  have B8 := F8.binds (ps := ["hand", "items"]) fun _ _ _ _ _ _ us hl => len2 us hl fun _ _ => rfl
  have F9 := fun_mk (st := s__law_node) l9 c9 k9
  have B9 := F9.binds (ps := ["hand", "sorts", "items"]) fun _ _ _ _ _ _ us hl => len3 us hl fun _ _ _ => rfl
  have F10 := fun_mk (st := s__law_joined) l10 c10 k10
  have B10 := F10.binds (ps := ["word", "x", "y"]) fun _ _ _ _ _ _ us hl => len3 us hl fun _ _ _ => rfl
  have F11 := fun_mk (st := s__law_leaf_worth) l11 c11 k11
  have B11 := F11.binds (ps := ["node", "boxes", "marks", "brought"]) fun _ _ _ _ _ _ us hl => len4 us hl fun _ _ _ _ => rfl
  have F12 := fun_mk (st := s__law_worth) l12 c12 k12
  have B12 := F12.binds (ps := ["nodes", "k", "boxes", "marks", "brought", "seen"]) fun _ _ _ _ _ _ us hl => len6 us hl fun _ _ _ _ _ _ => rfl
  have F13 := fun_mk (st := s__law_alike) l13 c13 k13
  have B13 := F13.binds (ps := ["found", "due"]) fun _ _ _ _ _ _ us hl => len2 us hl fun _ _ => rfl
  have F14 := fun_mk (st := s_law) l14 c14 k14
  have gT0 := conT_strs (mg := mg) (x := "NAMING") (PySem.W.mg_of X G b0) e0 v0 w0
  have m0 := PySem.W.mg_none_of X G z0
  have m1 := PySem.W.mg_none_of X G z1
  have m2 := PySem.W.mg_none_of X G z2
  have m3 := PySem.W.mg_none_of X G z3
  have m4 := PySem.W.mg_none_of X G z4
  have m5 := PySem.W.mg_none_of X G z5
  have m6 := PySem.W.mg_none_of X G z6
  have m7 := PySem.W.mg_none_of X G z7
  have m8 := PySem.W.mg_none_of X G z8
  have m9 := PySem.W.mg_none_of X G z9
  have m10 := PySem.W.mg_none_of X G z10
  refine ⟨PySem.W.fnOf "law" "law" (defArgs s_law) (defBody s_law) (defScope s_law) .none kV14 dc14 pm14 an14 cd14 ct14, fun s v => .of_eq rfl, fun base _ _ => ?_⟩
  have Dplain_outcome : DefOk l.prog w K mg base "plain_outcome" 1 K20.spPlain := ⟨_, _, _, okplain_outcome F0 , PySem.W.mg_of X G a0, k0, B0⟩
  have Dunder : DefOk l.prog w K mg base "under" 1 K19.spUnder := ⟨_, _, _, okunder F1 gT0, PySem.W.mg_of X G a1, k1, B1⟩
  have Dmade_of : DefOk l.prog w K mg base "made_of" 2 K20.spMade := ⟨_, _, _, okmade_of F2 Dplain_outcome, PySem.W.mg_of X G a2, k2, B2⟩
  have Dworth : DefOk l.prog w K mg base "worth" 3 K20.spWorth := ⟨_, _, _, okworth F3 m3 Dunder Dmade_of, PySem.W.mg_of X G a3, k3, B3⟩
  have Dworths : DefOk l.prog w K mg base "worths" 4 K20.spWorths := ⟨_, _, _, okworths F4 Dworth, PySem.W.mg_of X G a4, k4, B4⟩
  have D_law_hand : DefOk l.prog w K mg base "_law_hand" 1 KH.spHand := ⟨_, _, _, ok_law_hand F5 , PySem.W.mg_of X G a5, k5, B5⟩
  have D_law_draw : DefOk l.prog w K mg base "_law_draw" 1 KH.spDraw := ⟨_, _, _, ok_law_draw F6 , PySem.W.mg_of X G a6, k6, B6⟩
  have D_law_number : DefOk l.prog w K mg base "_law_number" 2 KS.spNumber := ⟨_, _, _, ok_law_number F7 D_law_draw, PySem.W.mg_of X G a7, k7, B7⟩
  have D_law_leaf : DefOk l.prog w K mg base "_law_leaf" 3 K20.spLeaf := ⟨_, _, _, ok_law_leaf F8 m3 D_law_draw D_law_number, PySem.W.mg_of X G a8, k8, B8⟩
  have D_law_node : DefOk l.prog w K mg base "_law_node" 4 K20.spNode := ⟨_, _, _, ok_law_node F9 m3 m7 D_law_draw D_law_leaf, PySem.W.mg_of X G a9, k9, B9⟩
  have D_law_joined : DefOk l.prog w K mg base "_law_joined" 1 spJoined := ⟨_, _, _, ok_law_joined F10 m4 m8, PySem.W.mg_of X G a10, k10, B10⟩
  have D_law_leaf_worth : DefOk l.prog w K mg base "_law_leaf_worth" 1 spLeafWorth := ⟨_, _, _, ok_law_leaf_worth F11 m10, PySem.W.mg_of X G a11, k11, B11⟩
  have R_law_worth : ∀ N, DefOk l.prog w K mg base "_law_worth" (2 + N) (spW N) := by
    intro N
    induction N with
    | zero =>
      have F0 : ∀ fd, FnOk l.prog w K mg base CX0 (2 + 0) f12 fd ["nodes", "k", "boxes", "marks", "brought", "seen"] (liftSp K (spW 0)) := fun fd => ⟨fun vs H Q E h => (lift_zero h).elim, fun A outer s H args us vs Q E hr he hb hv h => (lift_zero h).elim⟩
      exact ⟨_, _, _, F0 _, PySem.W.mg_of X G a12, k12, B12⟩
    | succ N ih => exact ⟨_, _, _, ok_law_worth N F12 m4 D_law_joined D_law_leaf_worth ih, PySem.W.mg_of X G a12, k12, B12⟩
  have D_law_worth : DefOk l.prog w K mg base "_law_worth" 132 (spW 130) := R_law_worth 130
  have D_law_alike : DefOk l.prog w K mg base "_law_alike" 1 spAlike := ⟨_, _, _, ok_law_alike F13 m2 m4 m5, PySem.W.mg_of X G a13, k13, B13⟩
  exact oklaw F14 m0 m1 m2 m3 m6 m7 m9 m10 Dworths D_law_hand D_law_draw D_law_number D_law_node D_law_worth D_law_alike
end K18
open PySem PySem.W PyProof.Rows
set_option maxRecDepth 100000 in
set_option maxHeartbeats 0 in
theorem PySem.Challenge.cw_asitruns_k18_worths_holds : PySem.Challenge.rw_asitruns_k18_worths.Holds := by
  w_on; o_law; k_head; (case hw => w_witness2)
  k_fill
  refine L3.law_walk (l := PySem.Challenge.rw_asitruns_k18_worths) 140 rfl rfl ⟨rfl, by decide, by decide⟩ (fun w h Y => PySem.W.kIn_of Y) ?F
  case F =>
    intro w mg fa h KX G hmg
    refine' K18.all_mk KX G hmg ?a0 ?l0 ?c0 ?k0 ?a1 ?l1 ?c1 ?k1 ?a2 ?l2 ?c2 ?k2 ?a3 ?l3 ?c3 ?k3 ?a4 ?l4 ?c4 ?k4 ?a5 ?l5 ?c5 ?k5 ?a6 ?l6 ?c6 ?k6 ?a7 ?l7 ?c7 ?k7 ?a8 ?l8 ?c8 ?k8 ?a9 ?l9 ?c9 ?k9 ?a10 ?l10 ?c10 ?k10 ?a11 ?l11 ?c11 ?k11 ?a12 ?l12 ?c12 ?k12 ?a13 ?l13 ?c13 ?k13 ?a14 ?l14 ?c14 ?k14 ?b0 ?e0 ?v0 ?w0 ?z0 ?z1 ?z2 ?z3 ?z4 ?z5 ?z6 ?z7 ?z8 ?z9 ?z10
    (case a0 => k_is)
    (case l0 => k_is)
    (case c0 => k_is)
    (case k0 => k_is)
    (case a1 => k_is)
    (case l1 => k_is)
    (case c1 => k_is)
    (case k1 => k_is)
    (case a2 => k_is)
    (case l2 => k_is)
    (case c2 => k_is)
    (case k2 => k_is)
    (case a3 => k_is)
    (case l3 => k_is)
    (case c3 => k_is)
    (case k3 => k_is)
    (case a4 => k_is)
    (case l4 => k_is)
    (case c4 => k_is)
    (case k4 => k_is)
    (case a5 => k_is)
    (case l5 => k_is)
    (case c5 => k_is)
    (case k5 => k_is)
    (case a6 => k_is)
    (case l6 => k_is)
    (case c6 => k_is)
    (case k6 => k_is)
    (case a7 => k_is)
    (case l7 => k_is)
    (case c7 => k_is)
    (case k7 => k_is)
    (case a8 => k_is)
    (case l8 => k_is)
    (case c8 => k_is)
    (case k8 => k_is)
    (case a9 => k_is)
    (case l9 => k_is)
    (case c9 => k_is)
    (case k9 => k_is)
    (case a10 => k_is)
    (case l10 => k_is)
    (case c10 => k_is)
    (case k10 => k_is)
    (case a11 => k_is)
    (case l11 => k_is)
    (case c11 => k_is)
    (case k11 => k_is)
    (case a12 => k_is)
    (case l12 => k_is)
    (case c12 => k_is)
    (case k12 => k_is)
    (case a13 => k_is)
    (case l13 => k_is)
    (case c13 => k_is)
    (case k13 => k_is)
    (case a14 => k_is)
    (case l14 => k_is)
    (case c14 => k_is)
    (case k14 => k_is)
    (case b0 => k_is)
    (case e0 => k_is)
    (case v0 => rfl)
    (case w0 => decide)
    (case z0 => k_is)
    (case z1 => k_is)
    (case z2 => k_is)
    (case z3 => k_is)
    (case z4 => k_is)
    (case z5 => k_is)
    (case z6 => k_is)
    (case z7 => k_is)
    (case z8 => k_is)
    (case z9 => k_is)
    (case z10 => k_is)

