import PyProof.Rows.All
import Wide.All
import OpenK.AllK
import Wide.FinOn
import Lean
import PyProof.EqAt
import PyProof.EqKinds
import PyProof.TupleCall
import PyProof.NeKinds
import KE.LcSums
import KE.KRevSl
import OpenK.KTop
import PyProof.Draws
import PyProof.EnumMake
import KE.KIntText
import KE.KxText
import PyProof.StrLawsTight
import PyProof.StrLawsChain
import PyProof.StrLawsIn
import PyProof.StrLawsJoin
import PyProof.CallStr
import PyProof.MeetsStr
import PyProof.MeetsStr2
import PyProof.StrCalls2
import PyProof.StrLoop
import PyProof.ConsumeWalk
import PySem.Challenge.RW_asitruns_k85_rows_to
set_option Elab.async false
set_option linter.all false
set_option maxRecDepth 100000
namespace L2
open PySem PySem.Spec PyProof.Rows
noncomputable abbrev Key := Sum Int Str
noncomputable def keyIs : Key → Value → Bool
  | .inl k, v => Value.isInt k v
  | .inr x, v => Value.isStrOf x v
noncomputable def keyH (w : World) : Key → Int
  | .inl k => hashInt k
  | .inr x => hashStr w x
theorem keyIs_shape : ∀ {k : Key} {v : Value}, keyIs k v = true → (∃ i t, k = Sum.inl i ∧ v = Value.int i t) ∨ (∃ x t, k = Sum.inr x ∧ v = Value.str x t)
  | .inl i, v, h => by
    obtain ⟨t, e⟩ := Value.isInt_shape (k := i) (v := v) h
    exact .inl ⟨i, t, rfl, e⟩
  | .inr x, v, h => by
    obtain ⟨t, e⟩ := Value.isStrOf_shape (x := x) (v := v) h
    exact .inr ⟨x, t, rfl, e⟩
theorem keyIs_int (i : Int) (t : Tok) : keyIs (.inl i) (.int i t) = true := by simp [keyIs, Value.isInt]
theorem keyIs_str (x : Str) (t : Tok) : keyIs (.inr x) (.str x t) = true := by simp [keyIs, Value.isStrOf]
theorem key_ll (a b : Int) : decide ((Sum.inl a : Key) = Sum.inl b) = (a == b) := by
  by_cases e : a = b
  · subst e; simp
  · have h : ¬ (Sum.inl a : Key) = Sum.inl b := fun q => e (Sum.inl.inj q)
    rw [decide_eq_false h]
    exact (beq_eq_false_iff_ne.mpr e).symm
theorem key_rr (a b : Str) : decide ((Sum.inr a : Key) = Sum.inr b) = decide (a = b) := by
  by_cases e : a = b
  · subst e; simp
  · have h : ¬ (Sum.inr a : Key) = Sum.inr b := fun q => e (Sum.inr.inj q)
    rw [decide_eq_false h, decide_eq_false e]
theorem key_lr (a : Int) (b : Str) : decide ((Sum.inl a : Key) = Sum.inr b) = false := decide_eq_false (fun q => nomatch q)
theorem key_rl (a : Str) (b : Int) : decide ((Sum.inr a : Key) = Sum.inl b) = false := decide_eq_false (fun q => nomatch q)
noncomputable def mixKind (prog : Program) (w : World) : PySem.KeyKind prog w Key where
  is := keyIs
  hash := keyH w
  inj := fun v a b ha hb => by
    rcases keyIs_shape ha with ⟨i, t, rfl, rfl⟩ | ⟨x, t, rfl, rfl⟩
    · rcases keyIs_shape hb with ⟨j, u, rfl, e⟩ | ⟨y, u, rfl, e⟩
      · injection e with e1 _; rw [e1]
      · exact nomatch e
    · rcases keyIs_shape hb with ⟨j, u, rfl, e⟩ | ⟨y, u, rfl, e⟩
      · exact nomatch e
      · injection e with e1 _; rw [e1]
  byValue := fun k v h => by
    rcases keyIs_shape h with ⟨i, t, rfl, rfl⟩ | ⟨x, t, rfl, rfl⟩ <;> rfl
  pyHash := fun hv h => by
    rcases keyIs_shape hv with ⟨i, t, rfl, rfl⟩ | ⟨x, t, rfl, rfl⟩
    · exact wpAny_pyHash_int h
    · exact wpAny_pyHash_str h
  eqBool := fun hu hv h => by
    rcases keyIs_shape hu with ⟨i, t, rfl, rfl⟩ | ⟨x, t, rfl, rfl⟩
    · rcases keyIs_shape hv with ⟨j, u, rfl, rfl⟩ | ⟨y, u, rfl, rfl⟩
      · rw [key_ll] at h; exact wpAny_eqBool_int h
      · rw [key_lr] at h; exact SeqAt.EqAt.int_str i t y u _ _ _ _ h
    · rcases keyIs_shape hv with ⟨j, u, rfl, rfl⟩ | ⟨y, u, rfl, rfl⟩
      · rw [key_rl] at h; exact SeqAt.EqAt.str_int x t j u _ _ _ _ h
      · rw [key_rr] at h; exact wpAny_eqBool_str h
  «strs» := fun k x t v h => by
    rcases keyIs_shape h with ⟨i, u, rfl, e⟩ | ⟨y, u, rfl, e⟩
    · exact nomatch e
    · injection e with e1 _
      subst e1
      cases v <;> rfl
theorem mixKind_int (prog : Program) (w : World) (i : Int) (t : Tok) : (mixKind prog w).is (.inl i) (.int i t) = true := keyIs_int i t
theorem mixKind_str (prog : Program) (w : World) (x : Str) (t : Tok) : (mixKind prog w).is (.inr x) (.str x t) = true := keyIs_str x t
end L2
namespace L2
open PySem PySem.Spec PyProof.Rows
inductive V where
  | non | bl (b : Bool) | int (i : Int) | str (x : Str) | byt (b : Array UInt8) | flt (b : UInt64) | ref (a : Addr) | ty (n : String)
  deriving DecidableEq
noncomputable def RelV : V → Value → Prop
  | .non, u => u = Value.none
  | .bl b, u => u = Value.bool b
  | .int i, u => ∃ t, u = Value.int i t
  | .str x, u => ∃ t, u = Value.str x t
  | .byt b, u => ∃ t, u = Value.bytes b t
  | .flt b, u => ∃ t, u = Value.float b t
  | .ref a, u => u = Value.ref a
  | .ty n, u => u = Value.type n
noncomputable abbrev Vals : List V → List Value → Prop := Paired RelV
theorem Vals.length {xs : List V} {us : List Value} (r : Vals xs us) : xs.length = us.length := Paired.length r
theorem Vals.get : ∀ {xs : List V} {us : List Value} {i : Nat} {x : V}, Vals xs us → xs[i]? = some x → ∃ u, us[i]? = some u ∧ RelV x u
  | _, _, _, _, .nil, e => by simp at e
  | _, _, 0, _, .cons r _, e => by simp at e; subst e; exact ⟨_, rfl, r⟩
  | _, _, i + 1, x, .cons _ t, e => by
    obtain ⟨u, h1, h2⟩ := Vals.get (i := i) (x := x) t (by simpa using e)
    exact ⟨u, by simpa using h1, h2⟩
theorem Vals.set {x : V} {u : Value} (r : RelV x u) : ∀ {xs : List V} {us : List Value} (i : Nat), Vals xs us → Vals (xs.set i x) (us.set i u)
  | _, _, _, .nil => .nil
  | _, _, 0, .cons _ t => .cons r t
  | _, _, i + 1, .cons q t => .cons q (Vals.set r i t)
theorem Vals.append : ∀ {xs ys : List V} {us ws : List Value}, Vals xs us → Vals ys ws → Vals (xs ++ ys) (us ++ ws)
  | _, _, _, _, .nil, s => s
  | _, _, _, _, .cons r t, s => .cons r (Vals.append t s)
theorem Vals.take : ∀ {xs : List V} {us : List Value} (n : Nat), Vals xs us → Vals (xs.take n) (us.take n)
  | _, _, 0, _ => .nil
  | _, _, _ + 1, .nil => .nil
  | _, _, n + 1, .cons r t => .cons r (Vals.take n t)
theorem Vals.drop : ∀ {xs : List V} {us : List Value} (n : Nat), Vals xs us → Vals (xs.drop n) (us.drop n)
  | _, _, 0, r => r
  | _, _, _ + 1, .nil => .nil
  | _, _, n + 1, .cons _ t => Vals.drop n t
noncomputable def RelO : Option V → Option Value → Prop
  | some v, some u => RelV v u
  | none, none => True
  | _, _ => False
noncomputable def KV {κ : Type} : List (κ × V) → List (κ × Value) → Prop := Paired fun (p : κ × V) (q : κ × Value) => p.1 = q.1 ∧ RelV p.2 q.2
noncomputable def kV : Key → V
  | .inl i => .int i
  | .inr x => .str x
inductive HO where
  /-- a list -/
  | lst (xs : List V)
  /-- a tuple (never changes) -/
  | tup (xs : List V)
  /-- a dict whose keys are ints and texts; one whose keys are tuples of ints and texts (the empty one is both) -/
  | dK (kvs : List (Key × V)) | dT (kvs : List (List Key × V))
  /-- a set of ints: its members, its size -/
  | set (S : Int → Bool) (n : Nat)
  /-- an instance of the class at C, its dict at dx, its attributes -/
  | ins (C dx : Addr) (fs : List (Str × V))
  /-- the dict of the instance at x -/
  | own (x : Addr)
  /-- the dict of an exception -/
  | xd (fs : List (Str × V))
  /-- a bound method, f of x -/
  | met (f x : Addr)
  /-- a range object lo, lo + 1, .. below hi -/
  | rng (lo hi : Int)
  /-- a thing that is known to the object (the script; a dict while a loop walks it): read, never written while it is so -/
  | frz (o : Obj) (u : HO)
  /-- a code object's table -/
  | tbl (ps : Array Value)
  /-- any other thing, by what is true of its one object (a def of one's own: SetO a S n := HO.ext fun h => ..) -/
  | ext (φ : Heap → Prop)
noncomputable abbrev Hp := Addr → Option HO
noncomputable def upd (H : Hp) (a : Addr) (o : HO) : Hp := fun b => if b = a then some o else H b
theorem upd_same {H : Hp} {a : Addr} {o : HO} : upd H a o a = some o := by unfold upd; rw [if_pos rfl]
theorem upd_ne {H : Hp} {a b : Addr} {o : HO} (h : b ≠ a) : upd H a o b = H b := by unfold upd; rw [if_neg h]
theorem ne_of {H : Hp} {a b : Addr} {o u : HO} (h : H a = some o) (h' : H b = some u) (d : o ≠ u) : a ≠ b := by
  intro e; subst e; rw [h] at h'; exact d (Option.some.inj h')
theorem ne_of_none {H : Hp} {a b : Addr} {o : HO} (h : H a = some o) (h' : H b = none) : a ≠ b := by
  intro e; subst e; rw [h] at h'; cases h'
section
variable (P : Program) (w : World)
noncomputable def ObjOk (H : Hp) (h : Heap) (a : Addr) : HO → Prop
  | .lst xs => xs.length ≤ sizeLine ∧ ∃ (its : List Value) (n : Nat), Vals xs its ∧ h.get? a = some { cls := .type "list", data := .seq its.toArray n }
  | .tup xs => xs.length ≤ sizeLine ∧ ∃ its : List Value, Vals xs its ∧ IsTup h a its.toArray
  | .dK kvs => kvs.length ≤ sizeLine ∧ (a == sysModules) = false ∧ ∃ vs, KV kvs vs ∧ h.DictOf (mixKind P w) a vs
  | .dT kvs => kvs.length ≤ sizeLine ∧ (a == sysModules) = false ∧ ∃ xs : List (List Key × Addr × Value),
      Paired (fun (p : List Key × V) (q : List Key × Addr × Value) => p.1 = q.1 ∧ H q.2.1 = some (.tup (p.1.map kV)) ∧ RelV p.2 q.2.2) kvs xs ∧
      ∃ o es ep, h.get? a = some o ∧ o.ExactDict ∧ o.data = .dict es ep ∧ es.toList = xs.map (entryOfKey (tupleKind (mixKind P w))) ∧ (xs.map (·.1)).Nodup
  | .set S n => h.SetOf (intKind P w) a S n
  | .ins C dx fs => H dx = some (.own a) ∧ fs.length ≤ 1000 ∧ dx ≠ a ∧ h.get? a = some (PySem.W.instObj C dx) ∧
      ∃ mA, h.Ns1 dx mA ∧ (∀ f, RelO (fs.lookup f) (mA f)) ∧ PySem.Within mA (fs.map (·.1))
  | .own _ => ∃ o, h.get? a = some o
  | .xd fs => ∃ mA, h.Ns1 a mA ∧ ∀ f, RelO (fs.lookup f) (mA f)
  | .rng lo hi => ∃ t u v, h.get? a = some { cls := .type "range", data := .fields #[.int lo t, .int hi u, .int 1 v] }
  | .frz o u => h.get? a = some o ∧ ObjOk H h a u
  | .tbl ps => h.get? a = some { cls := .none, data := .fields ps }
  | .met f x => h.get? a = some (PySem.W.methodObj (.ref f) (.ref x))
  | .ext φ => φ h ∧ (∃ o, h.get? a = some o) ∧ ∀ h1 h2 : Heap, φ h1 → (∀ o, h1.get? a = some o → h2.get? a = some o) → φ h2
noncomputable def HOk (H : Hp) (h : Heap) : Prop := ∀ a o, H a = some o → ObjOk P w H h a o
end
section
variable {P : Program} {w : World} {H H' : Hp} {h h' : Heap} {a : Addr} {o : HO}
theorem ObjOk.lt (x : ObjOk P w H h a o) : a < h.objs.size := by
  cases o with
  | lst xs => obtain ⟨_, _, _, _, e⟩ := x; exact Heap.lt_size e
  | tup xs => obtain ⟨_, _, _, p⟩ := x; exact p.lt
  | dK kvs => obtain ⟨_, _, _, _, o, _, _, e, _⟩ := x; exact Heap.lt_size e
  | dT kvs => obtain ⟨_, _, _, _, o, _, _, e, _⟩ := x; exact Heap.lt_size e
  | set S n => obtain ⟨o, _, _, _, e, _⟩ := x; exact Heap.lt_size e
  | ins C dx fs => obtain ⟨_, _, _, e, _⟩ := x; exact Heap.lt_size e
  | own y => obtain ⟨_, e⟩ := x; exact Heap.lt_size e
  | xd fs => obtain ⟨_, ⟨_, _, _, e, _⟩, _⟩ := x; exact Heap.lt_size e
  | rng lo hi => obtain ⟨_, _, _, e⟩ := x; exact Heap.lt_size e
  | frz ob u => obtain ⟨e, _⟩ := x; exact Heap.lt_size e
  | tbl ps => exact Heap.lt_size (show h.get? a = some _ from x)
  | met f y => exact Heap.lt_size (show h.get? a = some _ from x)
  | ext φ => obtain ⟨_, ⟨_, e⟩, _⟩ := x; exact Heap.lt_size e
theorem Paired.mapP {α β : Type} {F G : α → β → Prop} : ∀ {l₁ : List α} {l₂ : List β}, Paired F l₁ l₂ → (∀ a b, F a b → G a b) → Paired G l₁ l₂
  | _, _, .nil, _ => .nil
  | _, _, .cons r t, f => .cons (f _ _ r) (Paired.mapP t f)
theorem ObjOk.stay (x : ObjOk P w H h a o) (k : ∀ b u, (b = a ∨ H b = some (.own a)) → h.get? b = some u → h'.get? b = some u)
    (ho : ∀ b, H b = some (.own a) → H' b = some (.own a)) (ht : ∀ b xs, H b = some (.tup xs) → H' b = some (.tup xs)) : ObjOk P w H' h' a o := by
  induction o with
  | lst xs => obtain ⟨z, its, n, r, e⟩ := x; exact ⟨z, its, n, r, k _ _ (.inl rfl) e⟩
  | tup xs => obtain ⟨z, its, r, ob, e, c⟩ := x; exact ⟨z, its, r, ob, k _ _ (.inl rfl) e, c⟩
  | dK kvs => obtain ⟨z, y, vs, r, ob, es, ep, e, c⟩ := x; exact ⟨z, y, vs, r, ob, es, ep, k _ _ (.inl rfl) e, c⟩
  | dT kvs =>
    obtain ⟨z, y, xs, r, ob, es, ep, e, c⟩ := x
    exact ⟨z, y, xs, Paired.mapP r fun p q z => ⟨z.1, ht _ _ z.2.1, z.2.2⟩, ob, es, ep, k _ _ (.inl rfl) e, c⟩
  | set S n => obtain ⟨ob, es, ep, t, e, c⟩ := x; exact ⟨ob, es, ep, t, k _ _ (.inl rfl) e, c⟩
  | ins C dx fs =>
    obtain ⟨d, z, ne, e, mA, ⟨od, es, ep, e2, c⟩, r⟩ := x
    exact ⟨ho _ d, z, ne, k _ _ (.inl rfl) e, mA, ⟨od, es, ep, k _ _ (.inr d) e2, c⟩, r⟩
  | own y => obtain ⟨ob, e⟩ := x; exact ⟨ob, k _ _ (.inl rfl) e⟩
  | xd fs => obtain ⟨mA, ⟨od, es, ep, e, c⟩, r⟩ := x; exact ⟨mA, ⟨od, es, ep, k _ _ (.inl rfl) e, c⟩, r⟩
  | rng lo hi => obtain ⟨t, u, v, e⟩ := x; exact ⟨t, u, v, k _ _ (.inl rfl) e⟩
  | frz ob u ih => obtain ⟨e, q⟩ := x; exact ⟨k _ _ (.inl rfl) e, ih q⟩
  | tbl ps =>
    have e : h.get? a = some { cls := .none, data := .fields ps } := x
    show h'.get? a = some { cls := .none, data := .fields ps }
    exact k a _ (.inl rfl) e
  | met f y =>
    have e : h.get? a = some (PySem.W.methodObj (.ref f) (.ref y)) := x
    show h'.get? a = some (PySem.W.methodObj (.ref f) (.ref y))
    exact k a _ (.inl rfl) e
  | ext φ => obtain ⟨p, ⟨o, e⟩, st⟩ := x; exact ⟨st _ _ p fun o q => k _ _ (.inl rfl) q, ⟨o, k _ _ (.inl rfl) e⟩, st⟩
theorem HOk.lt (x : HOk P w H h) (e : H a = some o) : a < h.objs.size := (x a o e).lt
theorem HOk.fresh (x : HOk P w H h) (e : h.objs.size ≤ a) : H a = none := by
  cases q : H a with
  | none => rfl
  | some u => exact absurd (Nat.lt_of_lt_of_le (x.lt q) e) (Nat.lt_irrefl _)
theorem HOk.kept (x : HOk P w H h) (k : ∀ b u, h.get? b = some u → h'.get? b = some u) : HOk P w H h' := fun a o e =>
  (x a o e).stay (fun b u _ q => k b u q) (fun _ q => q) fun _ _ q => q
theorem HOk.laid (x : HOk P w H h) (k : ∀ b u, h.get? b = some u → h'.get? b = some u) (hp : h.objs.size ≤ a) (new : ObjOk P w (upd H a o) h' a o) : HOk P w (upd H a o) h' := fun b u e => by
  have hn := x.fresh hp
  by_cases hb : b = a
  · subst hb; rw [upd_same] at e; cases e; exact new
  · rw [upd_ne hb] at e
    exact (x b u e).stay (fun c v _ q => k c v q) (fun c q => by rw [upd_ne (ne_of_none q hn)]; exact q) fun c xs q => by rw [upd_ne (ne_of_none q hn)]; exact q
end
noncomputable def Rd (H : Hp) (a : Addr) (u : HO) : Prop := H a = some u ∨ ∃ o, H a = some (.frz o u)
theorem Rd.of {H : Hp} {a : Addr} {u : HO} (h : H a = some u) : Rd H a u := .inl h
theorem Rd.ok {P : Program} {w : World} {H : Hp} {h : Heap} {a : Addr} {u : HO} (r : Rd H a u) (x : HOk P w H h) : ObjOk P w H h a u := by
  rcases r with r | ⟨o, r⟩
  · exact x a u r
  · obtain ⟨_, q⟩ := x a _ r
    exact q
noncomputable def Mut : Option HO → Prop
  | some (.lst _) => True
  | some (.dK _) => True
  | some (.dT _) => True
  | some (.set _ _) => True
  | some (.ins _ _ _) => True
  | some (.ext _) => True
  | _ => False
section
variable {P : Program} {w : World} {H : Hp} {h h' : Heap} {x e : Addr} {o' : HO}
theorem HOk.write (ok : HOk P w H h) (mu : Mut (H x)) (he : e = x ∨ H e = some (.own x)) (k : ∀ b u, b ≠ e → h.get? b = some u → h'.get? b = some u) (heo : ∃ u, h'.get? e = some u)
    (new : ObjOk P w (upd H x o') h' x o') : HOk P w (upd H x o') h' := fun b u q => by
  have nown : ∀ c y, H c = some (.own y) → c ≠ x := fun c y r z => by subst z; rw [r] at mu; exact mu
  have ntup : ∀ c xs, H c = some (.tup xs) → c ≠ x := fun c xs r z => by subst z; rw [r] at mu; exact mu
  by_cases hb : b = x
  · subst hb; rw [upd_same] at q; cases q; exact new
  · rw [upd_ne hb] at q
    by_cases hbe : b = e
    · have q' : H b = some (.own x) := by
        rcases he with z | z
        · exact absurd (hbe.trans z) hb
        · rw [hbe]; exact z
      rw [q] at q'; cases q'
      obtain ⟨v, hv⟩ := heo
      exact ⟨v, by rw [hbe]; exact hv⟩
    · refine (ok b u q).stay (fun c v hc r => k c v ?_ r) (fun c r => by rw [upd_ne (nown c b r)]; exact r) fun c xs r => by rw [upd_ne (ntup c xs r)]; exact r
      rcases hc with rfl | hc
      · exact hbe
      · rintro rfl
        rcases he with z | z
        · exact nown c b hc z
        · rw [hc] at z; cases z; exact hb rfl
end
structure Un (fs ex : List Addr) (H H' : Hp) (h h' : Heap) : Prop where
  keep : ∀ b o, h.get? b = some o → H b = none → b ∉ fs → b ∉ ex → h'.get? b = some o
  slot : ∀ b o, h.get? b = some o → H b = none → b ∈ fs → b ∉ ex → ∃ sl, h'.get? b = some { o with slots := sl }
  free : ∀ b o, h.get? b = some o → H b = none → b ∉ ex → H' b = none
  there : ∀ b o, h.get? b = some o → b ∉ ex → ∃ o', h'.get? b = some o'
  tups : ∀ b xs, H b = some (.tup xs) → H' b = some (.tup xs)
  frzs : ∀ b o u, H b = some (.frz o u) → H' b = some (.frz o u)
  tbls : ∀ b ps, H b = some (.tbl ps) → ∃ more, H' b = some (.tbl (ps ++ more))
section
variable {fs fs' ex ex' : List Addr} {H H1 H2 : Hp} {h h1 h2 h' : Heap} {a x e : Addr} {o : HO}
theorem Un.any (u : Un fs ex H H1 h h1) {b : Addr} {ob : Obj} (q : h.get? b = some ob) (n : H b = none) (hx : b ∉ ex) : ∃ sl, h1.get? b = some { ob with slots := sl } := by
  by_cases hb : b ∈ fs
  · exact u.slot b ob q n hb hx
  · exact ⟨ob.slots, u.keep b ob q n hb hx⟩
theorem Un.trans (a : Un fs ex H H1 h h1) (b : Un fs ex H1 H2 h1 h2) : Un fs ex H H2 h h2 where
  keep := fun c ob q n hc hx => b.keep c ob (a.keep c ob q n hc hx) (a.free c ob q n hx) hc hx
  slot := fun c ob q n hc hx => by
    obtain ⟨sl, e1⟩ := a.slot c ob q n hc hx
    obtain ⟨sl', e2⟩ := b.slot c _ e1 (a.free c ob q n hx) hc hx
    exact ⟨sl', e2⟩
  free := fun c ob q n hx => by
    obtain ⟨o', e1⟩ := a.there c ob q hx
    exact b.free c o' e1 (a.free c ob q n hx) hx
  there := fun c ob q hx => by
    obtain ⟨o', e1⟩ := a.there c ob q hx
    exact b.there c o' e1 hx
  tups := fun c xs q => b.tups c xs (a.tups c xs q)
  frzs := fun c ob xs q => b.frzs c ob xs (a.frzs c ob xs q)
  tbls := fun c ps q => by
    obtain ⟨m1, e1⟩ := a.tbls c ps q
    obtain ⟨m2, e2⟩ := b.tbls c _ e1
    exact ⟨m1 ++ m2, by rw [e2, Array.append_assoc]⟩
theorem Un.kept (k : ∀ b u, h.get? b = some u → h'.get? b = some u) : Un fs ex H H h h' :=
  ⟨fun b ob q _ _ _ => k b ob q, fun b ob q _ _ _ => ⟨ob.slots, k b ob q⟩, fun _ _ _ n _ => n, fun b ob q _ => ⟨ob, k b ob q⟩, fun _ _ q => q, fun _ _ _ q => q, fun _ ps q => ⟨#[], by rw [q]; simp⟩⟩
theorem Un.refl : Un fs ex H H h h := Un.kept fun _ _ q => q
theorem Un.laid (k : ∀ b u, h.get? b = some u → h'.get? b = some u) (hp : h.objs.size ≤ a) (hn : H a = none) : Un fs ex H (upd H a o) h h' where
  keep := fun b u q _ _ _ => k b u q
  slot := fun b u q _ _ _ => ⟨u.slots, k b u q⟩
  free := fun b u q n _ => by rw [upd_ne (Nat.ne_of_lt (Nat.lt_of_lt_of_le (Heap.lt_size q) hp))]; exact n
  there := fun b u q _ => ⟨u, k b u q⟩
  tups := fun b xs q => by rw [upd_ne (ne_of_none q hn)]; exact q
  frzs := fun b u xs q => by rw [upd_ne (ne_of_none q hn)]; exact q
  tbls := fun b ps q => ⟨#[], by rw [upd_ne (ne_of_none q hn), q]; simp⟩
theorem Un.write (mu : Mut (H x)) (he : e = x ∨ H e = some (.own x)) (k : ∀ b u, b ≠ e → h.get? b = some u → h'.get? b = some u) (heo : ∃ u, h'.get? e = some u) : Un fs ex H (upd H x o) h h' := by
  have hx : ∀ b, H b = none → b ≠ x := fun b n z => by subst z; rw [n] at mu; exact mu
  have hb : ∀ b, H b = none → b ≠ e := fun b n z => by
    subst z
    rcases he with r | r
    · exact hx b n r
    · rw [n] at r; cases r
  have hm : ∀ b u, H b = some u → ¬ Mut (some u) → b ≠ x := fun b u q nm z => by subst z; rw [q] at mu; exact nm mu
  refine ⟨fun b u q n _ _ => k b u (hb b n) q, fun b u q n _ _ => ⟨u.slots, k b u (hb b n) q⟩, fun b u q n _ => by rw [upd_ne (hx b n)]; exact n, fun b u q _ => ?_,
    fun b xs q => by rw [upd_ne (hm b _ q fun z => z)]; exact q, fun b u xs q => by rw [upd_ne (hm b _ q fun z => z)]; exact q, fun b ps q => ⟨#[], by rw [upd_ne (hm b _ q fun z => z), q]; simp⟩⟩
  by_cases hbe : b = e
  · subst hbe; exact heo
  · exact ⟨u, k b u hbe q⟩
theorem Un.mono (u : Un fs ex H H1 h h1) (hs : ∀ b ∈ fs, b ∈ fs') (hx : ∀ b ∈ ex, b ∈ ex') : Un fs' ex' H H1 h h1 :=
  ⟨fun b ob q n hb he => u.keep b ob q n (fun z => hb (hs b z)) fun z => he (hx b z), fun _ _ q n _ he => u.any q n fun z => he (hx _ z), fun b ob q n he => u.free b ob q n fun z => he (hx b z), fun b ob q he => u.there b ob q fun z => he (hx b z), u.tups, u.frzs, u.tbls⟩
end
noncomputable def trk (h : Heap) (H : Hp) : List Addr := (List.range h.objs.size).filter fun a => (H a).isSome
noncomputable def hidT (h : Heap) (H : Hp) : Heap := PySem.W.hideAll h (trk h H)
theorem hidT_size (h : Heap) (H : Hp) : (hidT h H).objs.size = h.objs.size := PySem.W.hideAll_size _ _
theorem hidT_get {h : Heap} {H : Hp} {b : Addr} {o : Obj} (e : h.get? b = some o) (n : H b = none) : (hidT h H).get? b = some o :=
  PySem.W.hideAll_get _ e fun hm => by
    have q : (H b).isSome = true := (List.mem_filter.mp hm).2
    rw [n] at q; simp at q
theorem of_hidT {h : Heap} {H : Hp} {b : Addr} {o : Obj} (e : (hidT h H).get? b = some o) : h.get? b = some o ∧ H b = none := by
  have e' : h.get? b = some o := PySem.W.of_hideAll (trk h H) e
  refine ⟨e', ?_⟩
  cases q : H b with
  | none => rfl
  | some x =>
    have hm : b ∈ trk h H := List.mem_filter.mpr ⟨List.mem_range.mpr (Heap.lt_size e'), by simp [q]⟩
    have z : (hidT h H).get? b = none := PySem.W.hideAll_none (trk h H) hm
    rw [z] at e; cases e
noncomputable def allNews (g h : Heap) (L : Addr) : List (Addr × Obj) := (List.range h.objs.size).filterMap fun a => if a = L ∨ (g.get? a).isSome = true then none else (h.get? a).map fun o => (a, o)
noncomputable def rest (g h : Heap) (L d : Addr) : List (Addr × Obj) := (allNews g h L).filter fun p => decide (p.1 ≠ d)
end L2
namespace L2
open PySem PySem.Spec PyProof.Rows
structure Mod (K : PySem.W.Frag) (mg : Str → Option Value) (base : Heap) : Prop where
  kin : K.In base
  glob : base.Ns mainGlobals mg
  blt : ∃ mb, base.Ns builtinsNs mb ∧ ∀ x : Str, x ≠ "__name__" → mb x = bootBuiltins x
  nolimit : base.NoLimit
structure Cx where
  prog : Program
  w : World
  K : PySem.W.Frag
  mg : Str → Option Value
  base : Heap
  A : Around
  N : List Str
  s₀ : Shared
  H₀ : Hp
  env : Env
  outer : List Env
  stack : List Env
  ex : List Addr
  fn : Str → Bool
  calm : Bool
  pn : List (Addr × Obj)
  xe : Value → Shared → Prop
noncomputable def frs (l : List Env) : List Addr := l.filterMap (·.frame)
noncomputable abbrev Cx.fs (X : Cx) : List Addr := frs X.outer
noncomputable def Vis (sc : Scope) (x : Str) : Prop := sc.names.lookup x = some .local ∨ sc.names.lookup x = some .cell ∨ sc.names.lookup x = some .free
noncomputable def Loc (sc : Scope) (x : Str) : Prop := sc.names.lookup x = some .local ∨ sc.names.lookup x = some .cell
noncomputable def Look (env : Env) (h : Heap) (m : Str → Option Value) (x : Str) (u : Value) : Prop :=
  (env.kindOf x = some .local ∧ m x = some u) ∨ ((env.kindOf x = some .cell ∨ env.kindOf x = some .free) ∧ ∃ c, env.cells.lookup x = some c ∧ h.IsCell c (some u))
structure Cx.Ok (X : Cx) : Prop where
  mod : Mod X.K X.mg X.base
  kind : X.env.scope.kind = .function
  glob : X.env.globals = mainGlobals
  blt : X.env.builtins = builtinsNs
  above : X.s₀.heap.objs.size ≤ X.env.locals
  inj : ∀ x y c, X.env.cells.lookup x = some c → X.env.cells.lookup y = some c → x = y
  has : ∀ x, (X.env.kindOf x = some .cell ∨ X.env.kindOf x = some .free) → ∃ c, X.env.cells.lookup x = some c
  cab : ∀ x c, X.fn x = true → X.env.cells.lookup x = some c → X.s₀.heap.objs.size ≤ c
  hd : X.calm = true → X.A.handled = none
  frames : X.A.frames = some X.stack
  stk : X.stack = X.outer ∨ (X.stack = X.env :: X.outer ∧ X.env.frame = some X.env.locals)
  exf : ∀ b ∈ X.ex, b ≠ X.env.locals ∧ ∀ x c, X.env.cells.lookup x = some c → c ≠ b
  bs : ∀ b o, X.base.get? b = some o → X.s₀.heap.get? b = some o ∧ X.H₀ b = none
  bsz : X.base.objs.size ≤ X.s₀.heap.objs.size
  noex : ∀ b o, X.base.get? b = some o → b ∉ X.ex
  exfs : ∀ b ∈ X.ex, b ∉ X.fs
  funs : X.s₀.heap.FunFrames X.base X.outer
  frf : ∀ b ∈ X.fs, X.H₀ b = none
structure Inv (X : Cx) (pins : List (Addr × Obj)) (σ : List (Option V)) (H : Hp) (s : Shared) : Prop where
  ok : X.Ok
  os : s.os = X.s₀.os
  bare : AllBare s.gens
  base : Un X.fs X.ex X.H₀ H X.s₀.heap s.heap
  loc : ∃ m, s.heap.Ns X.env.locals m ∧ ∀ (i : Nat) (x : Str) (v : V), X.N[i]? = some x → σ[i]? = some (some v) → Vis X.env.scope x → ∃ u, RelV v u ∧ Look X.env s.heap m x u
  cell : ∀ x c, X.env.cells.lookup x = some c → ∃ v, s.heap.IsCell c v
  free : H X.env.locals = none
  freeC : ∀ x c, X.env.cells.lookup x = some c → H c = none
  pin : ∀ p ∈ X.pn ++ pins, s.heap.get? p.1 = some p.2 ∧ H p.1 = none ∧ p.1 ≠ X.env.locals ∧ p.1 ∉ X.fs ∧ ∀ v, p.2.data ≠ .cell v
  hok : HOk X.prog X.w H s.heap
  len : σ.length = X.N.length
section
variable {X : Cx} {pins : List (Addr × Obj)} {σ : List (Option V)} {H H' : Hp} {s : Shared} {h' : Heap}
theorem Cx.Ok.nofr (ok : X.Ok) {b : Addr} {o : Obj} (e : X.base.get? b = some o) : b ∉ X.fs := fun hb => by
  have := (ok.funs.mem hb).1
  rw [e] at this; cases this
theorem Inv.bs (I : Inv X pins σ H s) : ∀ b o, X.base.get? b = some o → s.heap.get? b = some o ∧ H b = none := fun b o e =>
  ⟨I.base.keep b o (I.ok.bs b o e).1 (I.ok.bs b o e).2 (I.ok.nofr e) (I.ok.noex b o e), I.base.free b o (I.ok.bs b o e).1 (I.ok.bs b o e).2 (I.ok.noex b o e)⟩
theorem Inv.bk (I : Inv X pins σ H s) : ∀ b o, X.base.get? b = some o → s.heap.get? b = some o := fun b o e => (I.bs b o e).1
theorem Inv.mod (I : Inv X pins σ H s) : Mod X.K X.mg X.base := I.ok.mod
theorem Inv.kIn (I : Inv X pins σ H s) : X.K.In s.heap := I.ok.mod.kin.keeps I.bk
theorem Inv.nolimit (I : Inv X pins σ H s) : s.heap.NoLimit := I.ok.mod.nolimit.keeps I.bk
theorem Inv.lt (I : Inv X pins σ H s) : X.env.locals < s.heap.objs.size := let ⟨_, hn, _⟩ := I.loc; hn.lt
theorem Inv.sz (I : Inv X pins σ H s) : X.s₀.heap.objs.size ≤ s.heap.objs.size := Nat.le_trans I.ok.above (Nat.le_of_lt I.lt)
theorem Inv.nofs (I : Inv X pins σ H s) {a : Addr} (h : s.heap.objs.size ≤ a) : a ∉ X.fs := fun hb => by
  obtain ⟨_, o, ho, _⟩ := I.ok.funs.mem hb
  exact absurd (Nat.lt_of_lt_of_le (Heap.lt_size ho) (Nat.le_trans I.sz h)) (Nat.lt_irrefl _)
theorem Inv.cne (I : Inv X pins σ H s) : ∀ x c, X.env.cells.lookup x = some c → c ≠ X.env.locals := fun x c e z => by
  obtain ⟨v, o, ho, hd⟩ := I.cell x c e
  obtain ⟨m, ⟨o', es, ep, ho', hd', _⟩, _⟩ := I.loc
  rw [z, ho'] at ho; cases ho; rw [hd'] at hd; cases hd
theorem Inv.funs (I : Inv X pins σ H s) : s.heap.FunFrames X.base X.outer := by
  have all : ∀ (l : List Env), (∀ b ∈ frs l, b ∈ X.fs) → X.s₀.heap.FunFrames X.base l → s.heap.FunFrames X.base l := by
    intro l
    induction l with
    | nil => intro _ _; trivial
    | cons env r ih =>
      intro hs hl
      obtain ⟨hk, ⟨L, o, hf, hn, ho, hd⟩, hr⟩ := hl
      have hL : L ∈ X.fs := hs L (by unfold frs; rw [List.filterMap_cons, hf]; exact List.mem_cons_self)
      obtain ⟨sl, e⟩ := I.base.slot L o ho (I.ok.frf L hL) hL fun z => I.ok.exfs L z hL
      exact ⟨hk, ⟨L, _, hf, hn, e, hd⟩, ih (fun b hb => hs b (by unfold frs; rw [List.filterMap_cons, hf]; exact List.mem_cons_of_mem _ hb)) hr⟩
  exact all X.outer (fun _ hb => hb) I.ok.funs
theorem Inv.stack (I : Inv X pins σ H s) : s.heap.FunFrames X.base X.stack := by
  rcases I.ok.stk with e | ⟨e, hf⟩
  · rw [e]; exact I.funs
  · rw [e]
    obtain ⟨m, hn, _⟩ := I.loc
    refine .cons (by rw [I.ok.kind]; decide) hf hn ?_ I.funs
    exact Heap.get?_none_of_le (Nat.le_trans I.ok.bsz I.ok.above)
theorem Inv.stkSub (I : Inv X pins σ H s) : ∀ b ∈ frs X.stack, b ∈ X.env.locals :: X.fs := fun b hb => by
  rcases I.ok.stk with e | ⟨e, hf⟩
  · rw [e] at hb; exact List.mem_cons_of_mem _ hb
  · rw [e] at hb
    unfold frs at hb
    rw [List.filterMap_cons, hf] at hb
    exact hb
theorem Inv.stkFree (I : Inv X pins σ H s) : ∀ b ∈ frs X.stack, H b = none := fun b hb => by
  rcases List.mem_cons.mp (I.stkSub b hb) with e | hb
  · rw [e]; exact I.free
  · obtain ⟨_, o, ho, _⟩ := I.ok.funs.mem hb
    exact I.base.free b o ho (I.ok.frf b hb) fun z => I.ok.exfs b z hb
theorem Inv.step {g' : Array GenState} {t' : Nat} {d' : Drawn} {ch : List Addr} (I : Inv X pins σ H s)
    (hch : ∀ b ∈ ch, (b ∈ X.ex ∨ X.s₀.heap.objs.size ≤ b) ∧ b ≠ X.env.locals ∧ (∀ x c, X.env.cells.lookup x = some c → c ≠ b) ∧ ∀ p ∈ X.pn ++ pins, p.1 ≠ b)
    (keep : ∀ b o, b ≠ X.env.locals → b ∉ X.fs → b ∉ ch → s.heap.get? b = some o → H b = none → h'.get? b = some o)
    (slot : ∀ b o, b ≠ X.env.locals → b ∈ X.fs → b ∉ ch → s.heap.get? b = some o → H b = none → ∃ sl, h'.get? b = some { o with slots := sl }) (free : ∀ b o, b ∉ ch → s.heap.get? b = some o → H b = none → H' b = none)
    (there : ∀ b o, b ∉ ch → s.heap.get? b = some o → ∃ o', h'.get? b = some o')
    (tups : ∀ b xs, H b = some (.tup xs) → H' b = some (.tup xs)) (frzs : ∀ b o u, H b = some (.frz o u) → H' b = some (.frz o u)) (tbls : ∀ b ps, H b = some (.tbl ps) → ∃ more, H' b = some (.tbl (ps ++ more)))
    (ns : ∀ m, s.heap.Ns X.env.locals m → h'.Ns X.env.locals m) (hok : HOk X.prog X.w H' h') (hg : AllBare g') :
    Inv X pins σ H' { s with heap := h', gens := g', drawn := d', toks := t' } := by
  have neL : ∀ b o, X.s₀.heap.get? b = some o → b ≠ X.env.locals := fun b o e => Nat.ne_of_lt (Nat.lt_of_lt_of_le (Heap.lt_size e) I.ok.above)
  have neC : ∀ b o, X.s₀.heap.get? b = some o → b ∉ X.ex → b ∉ ch := fun b o e hx hb => by
    rcases (hch b hb).1 with z | z
    · exact hx z
    · exact absurd (Nat.lt_of_lt_of_le (Heap.lt_size e) z) (Nat.lt_irrefl _)
  have cellK : ∀ x c, X.env.cells.lookup x = some c → ∀ v, s.heap.IsCell c v → h'.IsCell c v := fun x c e v ⟨o, ho, hd⟩ => by
    have nch : c ∉ ch := fun z => (hch c z).2.2.1 x c e rfl
    by_cases hc : c ∈ X.fs
    · obtain ⟨sl, q⟩ := slot c o (I.cne x c e) hc nch ho (I.freeC x c e)
      exact ⟨_, q, hd⟩
    · exact ⟨o, keep c o (I.cne x c e) hc nch ho (I.freeC x c e), hd⟩
  refine ⟨I.ok, I.os, hg, ⟨fun b o e n hb hx => ?_, fun b o e n hb hx => ?_, fun b o e n hx => ?_, fun b o e hx => ?_, fun b xs e => tups b xs (I.base.tups b xs e), fun b o xs e => frzs b o xs (I.base.frzs b o xs e), fun b ps e => ?_⟩, ?_, fun x c e => ?_, ?_, fun x c e => ?_, fun p hp => ?_, hok, I.len⟩
  · exact keep b o (neL b o e) hb (neC b o e hx) (I.base.keep b o e n hb hx) (I.base.free b o e n hx)
  · obtain ⟨sl, e1⟩ := I.base.slot b o e n hb hx
    obtain ⟨sl', e2⟩ := slot b _ (neL b o e) hb (neC b o e hx) e1 (I.base.free b o e n hx)
    exact ⟨sl', e2⟩
  · obtain ⟨o', e1⟩ := I.base.there b o e hx
    exact free b o' (neC b o e hx) e1 (I.base.free b o e n hx)
  · obtain ⟨o', e1⟩ := I.base.there b o e hx
    exact there b o' (neC b o e hx) e1
  · obtain ⟨m1, e1⟩ := I.base.tbls b ps e
    obtain ⟨m2, e2⟩ := tbls b _ e1
    exact ⟨m1 ++ m2, by rw [e2, Array.append_assoc]⟩
  · obtain ⟨m, hn, hl⟩ := I.loc
    refine ⟨m, ns m hn, fun i x v e1 e2 e3 => ?_⟩
    obtain ⟨u, r, l⟩ := hl i x v e1 e2 e3
    refine ⟨u, r, ?_⟩
    rcases l with l | ⟨k, c, e, z⟩
    · exact .inl l
    · exact .inr ⟨k, c, e, cellK x c e _ z⟩
  · obtain ⟨v, z⟩ := I.cell x c e
    exact ⟨v, cellK x c e v z⟩
  · obtain ⟨m, ⟨o, _, _, ho, _⟩, _⟩ := I.loc
    exact free _ o (fun z => (hch _ z).2.1 rfl) ho I.free
  · obtain ⟨v, o, ho, hd⟩ := I.cell x c e
    exact free c o (fun z => (hch c z).2.2.1 x c e rfl) ho (I.freeC x c e)
  · obtain ⟨e, n, ne, nf, d⟩ := I.pin p hp
    have nch : p.1 ∉ ch := fun z => (hch p.1 z).2.2.2 p hp rfl
    exact ⟨keep p.1 p.2 ne nf nch e n, free p.1 p.2 nch e n, ne, nf, d⟩
theorem Inv.un {t' : Nat} (I : Inv X pins σ H s) (u : Un X.fs [] H H' s.heap h') (hok : HOk X.prog X.w H' h') : Inv X pins σ H' { s with heap := h', toks := t' } := by
  obtain ⟨m, ⟨o, es, ep, ho, r⟩, _⟩ := id I.loc
  obtain ⟨sl, hL⟩ := u.any ho I.free (by simp)
  exact I.step (g' := s.gens) (d' := s.drawn) (ch := []) (fun _ z => nomatch z) (fun b o _ hb _ e n => u.keep b o e n hb (by simp)) (fun b o _ hb _ e n => u.slot b o e n hb (by simp)) (fun b o _ e n => u.free b o e n (by simp)) (fun b o _ e => u.there b o e (by simp)) u.tups u.frzs u.tbls (fun m' hm => by
    obtain ⟨o', es', ep', ho', r'⟩ := hm
    rw [ho] at ho'; cases ho'
    exact ⟨_, es', ep', hL, r'⟩) hok I.bare
theorem Inv.call {g' : Array GenState} {t' : Nat} {d' : Drawn} {ch : List Addr} (I : Inv X pins σ H s) (u : Un (frs X.stack) ch H H' s.heap h') (hok : HOk X.prog X.w H' h') (hg : AllBare g')
    (hch : ∀ b ∈ ch, (b ∈ X.ex ∨ X.s₀.heap.objs.size ≤ b) ∧ b ≠ X.env.locals ∧ (∀ x c, X.env.cells.lookup x = some c → c ≠ b) ∧ ∀ p ∈ X.pn ++ pins, p.1 ≠ b) :
    Inv X pins σ H' { s with heap := h', gens := g', drawn := d', toks := t' } := by
  obtain ⟨m, ⟨o, es, ep, ho, r⟩, _⟩ := id I.loc
  obtain ⟨sl, hL⟩ := u.any ho I.free fun z => (hch _ z).2.1 rfl
  exact I.step (ch := ch) hch (fun b o hL hb hc e n => u.keep b o e n (fun z => (List.mem_cons.mp (I.stkSub b z)).elim hL hb) hc) (fun b o _ _ hc e n => u.any e n hc) (fun b o hc e n => u.free b o e n hc) (fun b o hc e => u.there b o e hc) u.tups u.frzs u.tbls (fun m' hm => by
    obtain ⟨o', es', ep', ho', r'⟩ := hm
    rw [ho] at ho'; cases ho'
    exact ⟨_, es', ep', hL, r'⟩) hok hg
theorem Inv.turned {t' : Nat} {it : Addr} (I : Inv X pins σ H s) (k : ∀ b o, b ≠ it → s.heap.get? b = some o → h'.get? b = some o) (hn : H it = none) (hL : it ≠ X.env.locals)
    (h1 : it ∈ X.ex ∨ X.s₀.heap.objs.size ≤ it) (h2 : ∀ x c, X.env.cells.lookup x = some c → c ≠ it) (h3 : ∀ p ∈ X.pn ++ pins, p.1 ≠ it) : Inv X pins σ H { s with heap := h', toks := t' } := by
  have nit : ∀ b u, H b = some u → b ≠ it := fun b u e z => by rw [z, hn] at e; cases e
  refine I.step (g' := s.gens) (d' := s.drawn) (ch := [it]) (fun b hb => ?_) (fun b o _ _ hc e _ => k b o (fun z => hc (by simp [z])) e) (fun b o _ _ hc e _ => ⟨o.slots, k b o (fun z => hc (by simp [z])) e⟩) (fun _ _ _ _ n => n)
    (fun b o hc e => ⟨o, k b o (fun z => hc (by simp [z])) e⟩) (fun _ _ e => e) (fun _ _ _ e => e) (fun b ps e => ⟨#[], by rw [e]; simp⟩) (fun m hm => ?_) (fun b u e => ?_) I.bare
  · have e : b = it := by simpa using hb
    subst e
    exact ⟨h1, hL, h2, h3⟩
  · obtain ⟨o, es, ep, ho, r⟩ := hm
    exact ⟨o, es, ep, k _ o (Ne.symm hL) ho, r⟩
  · refine (I.hok b u e).stay (fun c v hc q => k c v ?_ q) (fun _ q => q) fun _ _ q => q
    rcases hc with z | z
    · rw [z]; exact nit b u e
    · exact nit c _ z
theorem Inv.tok (I : Inv X pins σ H s) (t : Nat) : Inv X pins σ H { s with toks := t } := I.un (h' := s.heap) (t' := t) Un.refl I.hok
theorem Inv.kept {t' : Nat} (I : Inv X pins σ H s) (k : ∀ b u, s.heap.get? b = some u → h'.get? b = some u) : Inv X pins σ H { s with heap := h', toks := t' } := I.un (Un.kept k) (I.hok.kept k)
theorem Inv.laid {a : Addr} {o : HO} {t' : Nat} (I : Inv X pins σ H s) (k : ∀ b u, s.heap.get? b = some u → h'.get? b = some u) (hp : s.heap.objs.size ≤ a) (new : ObjOk X.prog X.w (upd H a o) h' a o) :
    Inv X pins σ (upd H a o) { s with heap := h', toks := t' } := I.un (Un.laid k hp (I.hok.fresh hp)) (I.hok.laid k hp new)
theorem Inv.write {x e : Addr} {o : HO} {t' : Nat} (I : Inv X pins σ H s) (mu : Mut (H x)) (he : e = x ∨ H e = some (.own x)) (k : ∀ b u, b ≠ e → s.heap.get? b = some u → h'.get? b = some u) (heo : ∃ u, h'.get? e = some u)
    (new : ObjOk X.prog X.w (upd H x o) h' x o) : Inv X pins σ (upd H x o) { s with heap := h', toks := t' } := I.un (Un.write mu he k heo) (I.hok.write mu he k heo new)
theorem Inv.pins_of {pins' : List (Addr × Obj)} (I : Inv X pins σ H s) (h : ∀ p ∈ pins', s.heap.get? p.1 = some p.2 ∧ H p.1 = none ∧ p.1 ≠ X.env.locals ∧ p.1 ∉ X.fs ∧ ∀ v, p.2.data ≠ .cell v) : Inv X pins' σ H s :=
  ⟨I.ok, I.os, I.bare, I.base, I.loc, I.cell, I.free, I.freeC, fun p hp => (List.mem_append.mp hp).elim (fun z => I.pin p (List.mem_append_left _ z)) (h p), I.hok, I.len⟩
theorem nodup_ix {N : List Str} (hN : N.Nodup) {i j : Nat} {x : Str} (a : N[i]? = some x) (b : N[j]? = some x) : i = j := by
  obtain ⟨h1, e1⟩ := List.getElem?_eq_some_iff.mp a
  obtain ⟨h2, e2⟩ := List.getElem?_eq_some_iff.mp b
  exact (List.getElem_inj hN).mp (e1.trans e2.symm)
theorem store_ok2 {M : Model} {A : Around} {E : Value → Shared → Prop} {i : Nat} {x : Str} {v : V} {u : Value} {Q : Unit → Shared → Prop} (I : Inv X pins σ H s) (hN : X.N.Nodup) (hi : X.N[i]? = some x) (hx : Loc X.env.scope x) (r : RelV v u)
    (h : ∀ s', Inv X pins (σ.set i (some v)) H s' → (∃ a, Heap.SameBut a s.heap s'.heap ∧ (a = X.env.locals ∨ X.env.cells.lookup x = some a)) → Q () s') (hf : X.fn x = true ∨ X.env.scope.names.lookup x = some .local := by first | exact .inl rfl | exact .inr rfl | assumption) : wpAny M A (storeName X.env x u) Q E s := by
  obtain ⟨m, hn, hl⟩ := id I.loc
  have hcls : (X.env.scope.kind == .class || (X.env.scope.kind == .module && X.env.locals != X.env.globals)) = false := by rw [I.ok.kind]; rfl
  have hiσ : i < σ.length := by rw [I.len]; exact (List.getElem?_eq_some_iff.mp hi).1
  have cne := I.cne
  have tracked : ∀ {a : Addr} {h' : Heap}, (∃ o, s.heap.get? a = some o ∧ H a = none) → Heap.SameBut a s.heap h' → HOk X.prog X.w H h' := fun {a h'} ha hs b ob e => by
    obtain ⟨_, _, hfree⟩ := ha
    refine (I.hok b ob e).stay (fun c w' hc q => (hs.2 c ?_).trans q) (fun _ q => q) fun _ _ q => q
    rintro rfl
    rcases hc with rfl | hc
    · rw [hfree] at e; cases e
    · rw [hfree] at hc; cases hc
  rcases hx with hk | hk
  · refine wpAny_storeName_local hk hn (fun h' hn' hs => ?_) hcls
    obtain ⟨oL, _, _, hoL, _⟩ := id hn
    refine h _ ⟨I.ok, I.os, I.bare, ⟨fun b o e n hb hx => ?_, fun b o e n hb hx => ?_, I.base.free, fun b o e hx => ?_, I.base.tups, I.base.frzs, I.base.tbls⟩, ⟨_, hn', fun j y v' e1 e2 e3 => ?_⟩, fun y c e => ?_, I.free, I.freeC, fun p hp => ?_, tracked ⟨oL, hoL, I.free⟩ hs, by simpa using I.len⟩ ⟨_, hs, .inl rfl⟩
    · exact (hs.2 b (Nat.ne_of_lt (Nat.lt_of_lt_of_le (Heap.lt_size e) I.ok.above))).trans (I.base.keep b o e n hb hx)
    · obtain ⟨sl, e1⟩ := I.base.slot b o e n hb hx
      exact ⟨sl, (hs.2 b (Nat.ne_of_lt (Nat.lt_of_lt_of_le (Heap.lt_size e) I.ok.above))).trans e1⟩
    · obtain ⟨o', e1⟩ := I.base.there b o e hx
      exact ⟨o', (hs.2 b (Nat.ne_of_lt (Nat.lt_of_lt_of_le (Heap.lt_size e) I.ok.above))).trans e1⟩
    · by_cases hj : j = i
      · subst hj
        rw [hi] at e1; cases e1
        rw [List.getElem?_set_self hiσ] at e2
        cases e2
        exact ⟨u, r, .inl ⟨hk, by simp⟩⟩
      · rw [List.getElem?_set_ne (Ne.symm hj)] at e2
        obtain ⟨u', r', q⟩ := hl j y v' e1 e2 e3
        refine ⟨u', r', ?_⟩
        rcases q with ⟨k, e⟩ | ⟨k, c, e, z⟩
        · refine .inl ⟨k, ?_⟩
          have : y ≠ x := fun e => hj (nodup_ix hN e1 (e ▸ hi))
          simp [this, e]
        · exact .inr ⟨k, c, e, z.sameBut hs (cne y c e)⟩
    · obtain ⟨w', z⟩ := I.cell y c e
      exact ⟨w', z.sameBut hs (cne y c e)⟩
    · obtain ⟨e, n, ne, nf, d⟩ := I.pin p hp
      exact ⟨(hs.2 p.1 ne).trans e, n, ne, nf, d⟩
  · have hfn : X.fn x = true := by
      rcases hf with z | z
      · exact z
      · rw [z] at hk; cases hk
    obtain ⟨c, hc⟩ := I.ok.has x (.inl hk)
    obtain ⟨w', z⟩ := I.cell x c hc
    refine wpAny_storeName_cell I.ok.kind hk hc z (fun h' hc' hs => ?_)
    obtain ⟨oc, hoc, hocd⟩ := id z
    refine h { s with heap := h' } ⟨I.ok, I.os, I.bare, ⟨fun b o e n hb hx => ?_, fun b o e n hb hx => ?_, I.base.free, fun b o e hx => ?_, I.base.tups, I.base.frzs, I.base.tbls⟩, ⟨m, hn.sameBut hs (Ne.symm (cne x c hc)), fun j y v' e1 e2 e3 => ?_⟩, fun y c' e => ?_, I.free, I.freeC, fun p hp => ?_, tracked ⟨oc, hoc, I.freeC x c hc⟩ hs, by simpa using I.len⟩ ⟨c, hs, .inr hc⟩
    · exact (hs.2 b (Nat.ne_of_lt (Nat.lt_of_lt_of_le (Heap.lt_size e) (I.ok.cab x c hfn hc)))).trans (I.base.keep b o e n hb hx)
    · obtain ⟨sl, e1⟩ := I.base.slot b o e n hb hx
      exact ⟨sl, (hs.2 b (Nat.ne_of_lt (Nat.lt_of_lt_of_le (Heap.lt_size e) (I.ok.cab x c hfn hc)))).trans e1⟩
    · obtain ⟨o', e1⟩ := I.base.there b o e hx
      exact ⟨o', (hs.2 b (Nat.ne_of_lt (Nat.lt_of_lt_of_le (Heap.lt_size e) (I.ok.cab x c hfn hc)))).trans e1⟩
    · by_cases hj : j = i
      · subst hj
        rw [hi] at e1; cases e1
        rw [List.getElem?_set_self hiσ] at e2
        cases e2
        exact ⟨u, r, .inr ⟨.inl hk, c, hc, hc'⟩⟩
      · rw [List.getElem?_set_ne (Ne.symm hj)] at e2
        obtain ⟨u', r', q⟩ := hl j y v' e1 e2 e3
        refine ⟨u', r', ?_⟩
        rcases q with q | ⟨k, c', e, z'⟩
        · exact .inl q
        · refine .inr ⟨k, c', e, z'.sameBut hs ?_⟩
          rintro rfl
          exact hj (nodup_ix hN e1 (I.ok.inj _ _ _ e hc ▸ hi))
    · by_cases hcc : c' = c
      · subst hcc; exact ⟨_, hc'⟩
      · obtain ⟨w2, z2⟩ := I.cell y c' e
        exact ⟨w2, z2.sameBut hs hcc⟩
    · obtain ⟨e, n, ne, nf, d⟩ := I.pin p hp
      refine ⟨(hs.2 p.1 ?_).trans e, n, ne, nf, d⟩
      intro q
      rw [q, hoc] at e
      have q' : oc = p.2 := Option.some.inj e
      exact d w' (by rw [← q']; exact hocd)
theorem store_ok {M : Model} {A : Around} {E : Value → Shared → Prop} {i : Nat} {x : Str} {v : V} {u : Value} {Q : Unit → Shared → Prop} (I : Inv X pins σ H s) (hN : X.N.Nodup) (hi : X.N[i]? = some x) (hx : Loc X.env.scope x) (r : RelV v u)
    (h : ∀ s', Inv X pins (σ.set i (some v)) H s' → Q () s') (hf : X.fn x = true ∨ X.env.scope.names.lookup x = some .local := by first | exact .inl rfl | exact .inr rfl | assumption) : wpAny M A (storeName X.env x u) Q E s :=
  store_ok2 I hN hi hx r (fun s' I' _ => h s' I') hf
theorem Inv.call' {s' : Shared} {ch : List Addr} (I : Inv X pins σ H s) (ho : s'.os = s.os) (u : Un (frs X.stack) ch H H' s.heap s'.heap) (hok : HOk X.prog X.w H' s'.heap) (hg : AllBare s'.gens)
    (hch : ∀ b ∈ ch, (b ∈ X.ex ∨ X.s₀.heap.objs.size ≤ b) ∧ b ≠ X.env.locals ∧ (∀ x c, X.env.cells.lookup x = some c → c ≠ b) ∧ ∀ p ∈ X.pn ++ pins, p.1 ≠ b) : Inv X pins σ H' s' := by
  obtain ⟨h', g', d', t', o'⟩ := s'
  have e : o' = s.os := ho
  subst e
  exact I.call (g' := g') (t' := t') (d' := d') u hok hg hch
end
noncomputable abbrev XK := Value → Option Addr → Hp → Prop
noncomputable abbrev St := List (Option V)
noncomputable abbrev VK := V → Hp → Prop
noncomputable abbrev TE := St → Hp → VK → Prop
noncomputable abbrev TT := St → Hp → (Bool → Hp → Prop) → Prop
noncomputable abbrev TA := St → Hp → (List V → Hp → Prop) → Prop
structure Ends where
  nx : St → Hp → Prop
  rt : VK
  bk : St → Hp → Prop := fun _ _ => False
  ct : St → Hp → Prop := fun _ _ => False
noncomputable abbrev TS := Ends → St → Hp → Prop
noncomputable def EP (X : Cx) (pins : List (Addr × Obj)) (σ : St) (Q : VK) (u : Value) (s' : Shared) : Prop := ∃ v H', Inv X pins σ H' s' ∧ RelV v u ∧ Q v H'
noncomputable def TP (X : Cx) (pins : List (Addr × Obj)) (σ : St) (Q : Bool → Hp → Prop) (b : Bool) (s' : Shared) : Prop := ∃ H', Inv X pins σ H' s' ∧ Q b H'
noncomputable def AP (X : Cx) (pins : List (Addr × Obj)) (σ : St) (Q : List V → Hp → Prop) (us : List Value) (s' : Shared) : Prop := ∃ vs H', Inv X pins σ H' s' ∧ Vals vs us ∧ Q vs H'
noncomputable def SP (X : Cx) (pins : List (Addr × Obj)) (D : Ends) (f : Flow) (s' : Shared) : Prop :=
  match f with
  | .next => ∃ σ' H', Inv X pins σ' H' s' ∧ D.nx σ' H'
  | .brk => ∃ σ' H', Inv X pins σ' H' s' ∧ D.bk σ' H'
  | .cont => ∃ σ' H', Inv X pins σ' H' s' ∧ D.ct σ' H'
  | .ret u => ∃ v σ' H', Inv X pins σ' H' s' ∧ RelV v u ∧ D.rt v H'
noncomputable def PE (X : Cx) (e : Expr) (t : TE) : Prop :=
  ∀ (pins : List (Addr × Obj)) (s : Shared) (σ : St) (H : Hp) (Q : VK), Inv X pins σ H s → t σ H Q → wpAny (model X.prog X.w) X.A (eval e X.env) (EP X pins σ Q) X.xe s
noncomputable def PT (X : Cx) (e : Expr) (t : TT) : Prop :=
  ∀ (pins : List (Addr × Obj)) (s : Shared) (σ : St) (H : Hp) (Q : Bool → Hp → Prop), Inv X pins σ H s → t σ H Q → wpAny (model X.prog X.w) X.A (isTrue e X.env (eval e X.env)) (TP X pins σ Q) X.xe s
noncomputable def PW (X : Cx) (e : Expr) (t : TT) : Prop :=
  ∀ (whole : Sem Value) (pins : List (Addr × Obj)) (s : Shared) (σ : St) (H : Hp) (Q : Bool → Hp → Prop), Inv X pins σ H s → t σ H Q → wpAny (model X.prog X.w) X.A (isTrue e X.env whole) (TP X pins σ Q) X.xe s
noncomputable def PA (X : Cx) (es : List Expr) (t : TA) : Prop :=
  ∀ (pos : Pos) (pins : List (Addr × Obj)) (s : Shared) (σ : St) (H : Hp) (Q : List V → Hp → Prop), Inv X pins σ H s → t σ H Q → wpAny (model X.prog X.w) X.A (spliced (backTo pos (starEach es X.env))) (AP X pins σ Q) X.xe s
noncomputable def PS (X : Cx) (st : Stmt) (t : TS) : Prop :=
  ∀ (pins : List (Addr × Obj)) (s : Shared) (σ : St) (H : Hp) (D : Ends), Inv X pins σ H s → t D σ H → wpAny (model X.prog X.w) X.A (exec st X.env) (SP X pins D) X.xe s
noncomputable def PSs (X : Cx) (st : List Stmt) (t : TS) : Prop :=
  ∀ (pins : List (Addr × Obj)) (s : Shared) (σ : St) (H : Hp) (D : Ends), Inv X pins σ H s → t D σ H → wpAny (model X.prog X.w) X.A (execs st X.env) (SP X pins D) X.xe s
theorem thn {α : Type} {t : Sem α} {Q Q' : α → Shared → Prop} {M : Model} {A : Around} {E : Value → Shared → Prop} {s : Shared} (h : wpAny M A t Q E s) (hQ : ∀ a s, Q a s → Q' a s) : wpAny M A t Q' E s := wpAny_mono h hQ fun _ _ x => x
end L2
namespace L2
open PySem PySem.Spec PyProof.Rows
section
variable {X : Cx}
noncomputable def tVar (i : Nat) : TE := fun σ H Q => ∃ v, σ[i]? = some (some v) ∧ Q v H
noncomputable def tC (v : V) : TE := fun _ H Q => Q v H
theorem pe_var {i : Nat} {x : Str} {pos : Pos} (hN : X.N[i]? = some x) (hv : Vis X.env.scope x) (hd : (x == ("__debug__" : Str)) = false := by decide) (hcd : (x == ("__classdict__" : Str)) = false := by decide) : PE X (.Name x pos) (tVar i) := by
  intro pins s σ H Q I h
  obtain ⟨v, e, h⟩ := h
  obtain ⟨m, hn, hl⟩ := I.loc
  obtain ⟨u, r, l⟩ := hl i x v hN e hv
  have fin : EP X pins σ Q u s := ⟨v, H, I, r, h⟩
  rcases l with ⟨hk, hm⟩ | ⟨hk, c, hc, hcell⟩
  · exact wpAny_Name (wpAny_loadName_local I.ok.kind hk hn hm fin) hd
  · rcases hk with hk | hk
    · exact wpAny_Name (wpAny_loadName_cell I.ok.kind hk hc hcell fin) hd
    · exact wpAny_Name (wpAny_loadName_free I.ok.kind hk hc hcell fin hcd) hd
theorem pe_int {i j pos} : PE X (.Constant (.int i) j pos) (tC (.int i)) := fun _ _ _ H _ I h => wpAny_Constant_int ⟨.int i, H, I.tok _, ⟨_, rfl⟩, h⟩
theorem pe_bl {b j pos} : PE X (.Constant (.bool b) j pos) (tC (.bl b)) := fun _ _ _ H _ I h => Constant_bool ⟨.bl b, H, I, rfl, h⟩
theorem pe_non {j pos} : PE X (.Constant .none j pos) (tC .non) := fun _ _ _ H _ I h => Constant_none ⟨.non, H, I, rfl, h⟩
theorem pe_str {x j pos} : PE X (.Constant (.str x) j pos) (tC (.str x)) := fun _ _ _ H _ I h => Calls.Constant_str ⟨.str x, H, I.tok _, ⟨_, rfl⟩, h⟩
noncomputable def Gl (X : Cx) (x : Str) : Prop := X.env.kindOf x = some .globalImplicit
theorem ld_glob {E : Value → Shared → Prop} {pins : List (Addr × Obj)} {s : Shared} {σ : St} {H : Hp} {x : Str} {u : Value} {pos : Pos} {Q : Value → Shared → Prop} (I : Inv X pins σ H s) (hg : Gl X x) (hm : X.mg x = some u) (h : Q u s)
    (hd : (x == ("__debug__" : Str)) = false := by decide) : wpAny (model X.prog X.w) X.A (eval (.Name x pos) X.env) Q E s :=
  Calls.Name_function_global I.ok.kind hg (Calls.loadGlobal_global (by rw [I.ok.glob]; exact I.mod.glob.keeps I.bk) hm h) hd
theorem ld_blt {E : Value → Shared → Prop} {pins : List (Addr × Obj)} {s : Shared} {σ : St} {H : Hp} {x : Str} {u : Value} {pos : Pos} {Q : Value → Shared → Prop} (I : Inv X pins σ H s) (hg : Gl X x) (hm : X.mg x = none) (hv : bootBuiltins x = some u) (h : Q u s)
    (hn : x ≠ "__name__" := by decide) (hd : (x == ("__debug__" : Str)) = false := by decide) : wpAny (model X.prog X.w) X.A (eval (.Name x pos) X.env) Q E s := by
  obtain ⟨mb, h1, h2⟩ := I.mod.blt
  exact Calls.Name_function_global I.ok.kind hg (Calls.loadGlobal_builtin (by rw [I.ok.glob]; exact I.mod.glob.keeps I.bk) hm (by rw [I.ok.blt]; exact h1.keeps I.bk) ((h2 x hn).trans hv) h) hd
theorem pe_bltn {x : Str} {v : V} {u : Value} {pos : Pos} (hg : Gl X x) (hm : X.mg x = none) (hv : bootBuiltins x = some u) (r : RelV v u) (hn : x ≠ "__name__" := by decide) (hd : (x == ("__debug__" : Str)) = false := by decide) : PE X (.Name x pos) (tC v) :=
  fun _ _ _ H _ I h => ld_blt I hg hm hv ⟨v, H, I, r, h⟩ hn hd
variable {a b : Expr} {ta tb : TE} {pos : Pos}
noncomputable def tB (t : TE) : TT := fun σ H Q => t σ H fun x H1 => ∃ c, x = .bl c ∧ Q c H1
theorem pt_val {e : Expr} {t : TE} (h : PE X e t) (he : ∀ whole, isTrue e X.env whole = (do let v ← whole; standAt e.pos; holding [v] (truthy v)) := by intro _; rfl) : PT X e (tB t) := by
  intro pins s σ H Q I hw
  refine isTrue_plain (thn (h pins s σ H _ I hw) fun v s1 ⟨x, H1, I1, r1, q1⟩ => ?_) (he _)
  obtain ⟨d, rfl, q⟩ := q1
  cases r1
  exact wpAny_truthy_bool ⟨H1, I1, q⟩
variable {tA tB' : TT} {rest : List Expr}
noncomputable def tAnd (t u : TT) : TT := fun σ H Q => t σ H fun c H1 => if c = true then u σ H1 Q else Q false H1
noncomputable def tOr (t u : TT) : TT := fun σ H Q => t σ H fun c H1 => if c = true then Q true H1 else u σ H1 Q
noncomputable def tNot (t : TT) : TT := fun σ H Q => t σ H fun c H1 => Q (!c) H1
theorem pw_and1 (ha : PT X a tA) : PW X (.BoolOp .And [a] pos) tA := by
  intro wh pins s σ H Q I h
  refine isTrue_and (thn (ha pins s σ H Q I h) fun c s1 e => ?_)
  cases c with
  | true => exact isTrue_and_nil e
  | false => exact e
theorem pw_or1 (ha : PT X a tA) : PW X (.BoolOp .Or [a] pos) tA := by
  intro wh pins s σ H Q I h
  refine isTrue_or (thn (ha pins s σ H Q I h) fun c s1 e => ?_)
  cases c with
  | false => exact isTrue_or_nil e
  | true => exact e
theorem pw_and (ha : PT X a tA) (hb : PW X (.BoolOp .And (b :: rest) pos) tB') : PW X (.BoolOp .And (a :: b :: rest) pos) (tAnd tA tB') := by
  intro wh pins s σ H Q I h
  refine isTrue_and (thn (ha pins s σ H _ I h) fun c s1 ⟨H1, I1, q1⟩ => ?_)
  cases c with
  | true => exact hb wh pins s1 σ H1 Q I1 q1
  | false => exact ⟨H1, I1, q1⟩
theorem pw_or (ha : PT X a tA) (hb : PW X (.BoolOp .Or (b :: rest) pos) tB') : PW X (.BoolOp .Or (a :: b :: rest) pos) (tOr tA tB') := by
  intro wh pins s σ H Q I h
  refine isTrue_or (thn (ha pins s σ H _ I h) fun c s1 ⟨H1, I1, q1⟩ => ?_)
  cases c with
  | true => exact ⟨H1, I1, q1⟩
  | false => exact hb wh pins s1 σ H1 Q I1 q1
theorem pt_not (ha : PT X a tA) : PT X (.UnaryOp .Not a pos) (tNot tA) := by
  intro pins s σ H Q I h
  exact isTrue_not (ha pins s σ H (fun c H1 => Q (!c) H1) I h)
noncomputable def tAndV (ta tb : TE) : TE := fun σ H Q => ta σ H fun x H1 => ∃ c, x = .bl c ∧ if c = true then tb σ H1 Q else Q (.bl false) H1
noncomputable def tNotV (ta : TE) : TE := fun σ H Q => ta σ H fun x H1 => ∃ c, x = .bl c ∧ Q (.bl (!c)) H1
theorem pe_one {op} {t : TE} (h : PE X a t) : PE X (.BoolOp op [a] pos) t := fun pins s σ H Q I hw => BoolOp_one (h pins s σ H Q I hw)
theorem pe_and (ha : PE X a ta) (hb : PE X (.BoolOp .And (b :: rest) pos) tb) : PE X (.BoolOp .And (a :: b :: rest) pos) (tAndV ta tb) := by
  intro pins s σ H Q I h
  refine BoolOp_and (thn (ha pins s σ H _ I h) fun v s1 ⟨x, H1, I1, r1, q1⟩ => ?_)
  obtain ⟨c, rfl, q1⟩ := q1
  cases r1
  refine wpAny_truthy_bool ?_
  cases c with
  | true => exact hb pins s1 σ H1 Q I1 q1
  | false => exact ⟨.bl false, H1, I1, rfl, q1⟩
theorem pe_not (ha : PE X a ta) : PE X (.UnaryOp .Not a pos) (tNotV ta) := by
  intro pins s σ H Q I h
  refine UnaryOp_ (thn (ha pins s σ H _ I h) fun v s1 ⟨x, H1, I1, r1, q1⟩ => ?_)
  obtain ⟨c, rfl, q1⟩ := q1
  cases r1
  exact not_of (wpAny_truthy_bool ⟨.bl (!c), H1, I1, rfl, q1⟩)
end
end L2
namespace L2
open PySem PySem.Spec PyProof.Rows
noncomputable def SqL (K : PySem.W.Frag) (H : Hp) (a : Addr) (xs : List V) : Prop :=
  Rd H a (.lst xs) ∨
    ∃ (o : Obj) (its : Array Value) (n : Nat), K.lookup a = some o ∧ o.cls = .type "list" ∧ o.dict = none ∧ o.data = .seq its n ∧ its.size ≤ sizeLine ∧ Vals xs its.toList
noncomputable def SqT (K : PySem.W.Frag) (H : Hp) (a : Addr) (xs : List V) : Prop :=
  Rd H a (.tup xs) ∨
    ∃ (o : Obj) (its : Array Value) (n : Nat), K.lookup a = some o ∧ o.cls = .type "tuple" ∧ o.data = .seq its n ∧ its.size ≤ sizeLine ∧ Vals xs its.toList
noncomputable def absV : Value → Option V
  | .none => some .non
  | .bool b => some (.bl b)
  | .int i _ => some (.int i)
  | .str x _ => some (.str x)
  | .bytes b _ => some (.byt b)
  | .float b _ => some (.flt b)
  | .ref a => some (.ref a)
  | .type n => some (.ty n)
  | _ => none
theorem RelV.abs {x : V} {u : Value} (r : RelV x u) : absV u = some x := by
  cases x with
  | non => cases r; rfl
  | bl _ => cases r; rfl
  | int _ => obtain ⟨t, rfl⟩ := r; rfl
  | str _ => obtain ⟨t, rfl⟩ := r; rfl
  | byt _ => obtain ⟨t, rfl⟩ := r; rfl
  | flt _ => obtain ⟨t, rfl⟩ := r; rfl
  | ref _ => cases r; rfl
  | ty _ => cases r; rfl
theorem RelV.inj {x y : V} {u : Value} (r : RelV x u) (q : RelV y u) : x = y := Option.some.inj (r.abs.symm.trans q.abs)
theorem Vals.inj : ∀ {xs ys : List V} {us : List Value}, Vals xs us → Vals ys us → xs = ys
  | _, _, _, .nil, .nil => rfl
  | _, _, _, .cons r t, .cons r' t' => by rw [r.inj r', Vals.inj t t']
section
variable {X : Cx} {pins : List (Addr × Obj)} {σ : St} {H : Hp} {s : Shared} {a : Addr} {xs ys : List V}
theorem SqL.of {K : PySem.W.Frag} (h : H a = some (.lst xs)) : SqL K H a xs := .inl (.inl h)
theorem SqT.of {K : PySem.W.Frag} (h : H a = some (.tup xs)) : SqT K H a xs := .inl (.inl h)
theorem Inv.list (I : Inv X pins σ H s) (h : SqL X.K H a xs) : ∃ its : List Value, Vals xs its ∧ PlainL s.heap a its.toArray ∧ xs.length ≤ sizeLine := by
  rcases h with h | ⟨o, its, n, hk, hc, hd, hs, hz, r⟩
  · obtain ⟨z, its, n, r, e⟩ := h.ok I.hok
    exact ⟨its, r, ⟨_, n, e, rfl, rfl, rfl⟩, z⟩
  · refine ⟨its.toList, r, ⟨o, n, I.kIn a o hk, hc, hd, by simpa using hs⟩, ?_⟩
    have e := r.length
    simp only [Array.length_toList] at e
    omega
theorem Inv.tuple (I : Inv X pins σ H s) (h : SqT X.K H a xs) : ∃ its : List Value, Vals xs its ∧ IsTup s.heap a its.toArray ∧ xs.length ≤ sizeLine := by
  rcases h with h | ⟨o, its, n, hk, hc, hs, hz, r⟩
  · obtain ⟨z, its, r, p⟩ := h.ok I.hok
    exact ⟨its, r, p, z⟩
  · refine ⟨its.toList, r, ⟨o, I.kIn a o hk, hc, n, by simpa using hs⟩, ?_⟩
    have e := r.length
    simp only [Array.length_toList] at e
    omega
theorem Inv.list_inj (I : Inv X pins σ H s) (h : SqL X.K H a xs) (h' : SqL X.K H a ys) : xs = ys := by
  obtain ⟨its, r, ⟨o, n, e, _, _, d⟩, _⟩ := I.list h
  obtain ⟨its', r', ⟨o', n', e', _, _, d'⟩, _⟩ := I.list h'
  rw [e] at e'; cases e'
  rw [d] at d'
  injection d' with d1 _
  have : its = its' := by simpa using congrArg Array.toList d1
  subst this
  exact r.inj r'
theorem Inv.tuple_inj (I : Inv X pins σ H s) (h : SqT X.K H a xs) (h' : SqT X.K H a ys) : xs = ys := by
  obtain ⟨its, r, ⟨o, e, _, n, d⟩, _⟩ := I.tuple h
  obtain ⟨its', r', ⟨o', e', _, n', d'⟩, _⟩ := I.tuple h'
  rw [e] at e'; cases e'
  rw [d] at d'
  injection d' with d1 _
  have : its = its' := by simpa using congrArg Array.toList d1
  subst this
  exact r.inj r'
end
noncomputable abbrev Cx.wish (X : Cx) (E : Value → Shared → Prop) : Cx := { X with xe := E }
noncomputable abbrev Cx.nox (X : Cx) : Cx := X.wish fun _ _ => False
theorem Cx.Ok.wish {X : Cx} (ok : X.Ok) (E : Value → Shared → Prop) : (X.wish E).Ok :=
  ⟨ok.mod, ok.kind, ok.glob, ok.blt, ok.above, ok.inj, ok.has, ok.cab, ok.hd, ok.frames, ok.stk, ok.exf, ok.bs, ok.bsz, ok.noex, ok.exfs, ok.funs, ok.frf⟩
theorem Cx.Ok.unwish {X : Cx} {E : Value → Shared → Prop} (ok : (X.wish E).Ok) : X.Ok :=
  ⟨ok.mod, ok.kind, ok.glob, ok.blt, ok.above, ok.inj, ok.has, ok.cab, ok.hd, ok.frames, ok.stk, ok.exf, ok.bs, ok.bsz, ok.noex, ok.exfs, ok.funs, ok.frf⟩
section
variable {X : Cx} {pins : List (Addr × Obj)} {σ : St} {H : Hp} {s : Shared} {E : Value → Shared → Prop}
theorem Inv.wish (I : Inv X pins σ H s) (E : Value → Shared → Prop) : Inv (X.wish E) pins σ H s := ⟨I.ok.wish E, I.os, I.bare, I.base, I.loc, I.cell, I.free, I.freeC, I.pin, I.hok, I.len⟩
theorem Inv.unwish (I : Inv (X.wish E) pins σ H s) : Inv X pins σ H s := ⟨I.ok.unwish, I.os, I.bare, I.base, I.loc, I.cell, I.free, I.freeC, I.pin, I.hok, I.len⟩
theorem SP.unwish {D : Ends} {f : Flow} {s' : Shared} (h : SP (X.wish E) pins D f s') : SP X pins D f s' := by
  cases f with
  | next => obtain ⟨σ', H', I, q⟩ := h; exact ⟨σ', H', I.unwish, q⟩
  | brk => obtain ⟨σ', H', I, q⟩ := h; exact ⟨σ', H', I.unwish, q⟩
  | cont => obtain ⟨σ', H', I, q⟩ := h; exact ⟨σ', H', I.unwish, q⟩
  | ret u => obtain ⟨v, σ', H', I, r, q⟩ := h; exact ⟨v, σ', H', I.unwish, r, q⟩
theorem PE.nox {e : Expr} {t : TE} (h : PE X.nox e t) : PE X e t := fun pins s σ H Q I hw =>
  wpAny_mono (h pins s σ H Q (I.wish _) hw) (fun _ _ ⟨v, H', I', r, q⟩ => ⟨v, H', I'.unwish, r, q⟩) fun _ _ z => False.elim z
theorem PT.nox {e : Expr} {t : TT} (h : PT X.nox e t) : PT X e t := fun pins s σ H Q I hw =>
  wpAny_mono (h pins s σ H Q (I.wish _) hw) (fun _ _ ⟨H', I', q⟩ => ⟨H', I'.unwish, q⟩) fun _ _ z => False.elim z
theorem PSs.nox {st : List Stmt} {t : TS} (h : PSs X.nox st t) : PSs X st t := fun pins s σ H D I hw =>
  wpAny_mono (h pins s σ H D (I.wish _) hw) (fun _ _ q => q.unwish) fun _ _ z => False.elim z
end
section
variable {X : Cx} {st : Stmt} {rest : List Stmt} {t u : TS} {e : Expr} {te : TE} {pos : Pos}
noncomputable def tNext : TS := fun D σ H => D.nx σ H
noncomputable def tSeq (t u : TS) : TS := fun D σ H => t { D with nx := u D } σ H
theorem pss_nil : PSs X [] tNext := fun _ _ σ H _ I h => wpAny_execs_nil ⟨σ, H, I, h⟩
theorem pss_cons (h1 : PS X st t) (h2 : PSs X rest u) : PSs X (st :: rest) (tSeq t u) := by
  intro pins s σ H D I h
  refine wpAny_execs_cons (thn (h1 pins s σ H { D with nx := u D } I h) fun f s1 q => ?_)
  cases f with
  | next =>
    obtain ⟨σ', H', I', q⟩ := q
    exact h2 pins s1 σ' H' D I' q
  | ret v => exact q
  | brk => exact q
  | cont => exact q
theorem Inv.quiet {pins : List (Addr × Obj)} {σ : St} {H : Hp} {s : Shared} (I : Inv X pins σ H s) : interactive X.env = false := by simp [interactive, I.ok.kind]
noncomputable def tDrop (te : TE) : TS := fun D σ H => te σ H fun _ H1 => D.nx σ H1
theorem ps_expr (he : PE X e te) (hs : swapsWith e none pos.line X.env = pure false := by rfl) : PS X (.Expr e pos) (tDrop te) := by
  intro pins s σ H D I h
  exact wpAny_Expr_any (thn (he pins s σ H _ I h) fun v s1 ⟨x, H1, I1, r1, q1⟩ => ⟨σ, H1, I1, q1⟩) I.quiet hs
noncomputable def tRet (te : TE) : TS := fun D σ H => te σ H D.rt
theorem ps_ret (he : PE X e te) : PS X (.Return (some e) pos) (tRet te) := by
  intro pins s σ H D I h
  exact wpAny_Return_some (thn (he pins s σ H _ I h) fun v s1 ⟨x, H1, I1, r1, q1⟩ => ⟨x, σ, H1, I1, r1, q1⟩)
noncomputable def tIfS (c : TT) (t u : TS) : TS := fun D σ H => c σ H fun b H1 => if b = true then t D σ H1 else u D σ H1
theorem ps_if {c : Expr} {a b : List Stmt} {tc : TT} (hc : PT X c tc) (ha : PSs X a t) (hb : PSs X b u) : PS X (.If c a b pos) (tIfS tc t u) := by
  intro pins s σ H D I h
  refine wpAny_If (thn (hc pins s σ H _ I h) fun d s1 ⟨H1, I1, q1⟩ => ?_)
  cases d with
  | true => exact ha pins s1 σ H1 D I1 q1
  | false => exact hb pins s1 σ H1 D I1 q1
end
noncomputable abbrev TG := V → St → Hp → (St → Hp → Prop) → Prop
noncomputable abbrev TGs := List V → St → Hp → (St → Hp → Prop) → Prop
noncomputable def PG (X : Cx) (target : Expr) (t : TG) : Prop :=
  ∀ (pins : List (Addr × Obj)) (s : Shared) (σ : St) (H : Hp) (v : V) (u : Value) (Q : St → Hp → Prop), Inv X pins σ H s → RelV v u → t v σ H Q →
    wpAny (model X.prog X.w) X.A (assign target X.env u) (fun _ s' => ∃ σ' H', Inv X pins σ' H' s' ∧ Q σ' H') X.xe s
noncomputable def PGs (X : Cx) (ts : List Expr) (t : TGs) : Prop :=
  ∀ (pins : List (Addr × Obj)) (s : Shared) (σ : St) (H : Hp) (vs : List V) (us : List Value) (Q : St → Hp → Prop), Inv X pins σ H s → Vals vs us → t vs σ H Q →
    wpAny (model X.prog X.w) X.A (assignInOrder ((assignEach ts X.env).map (·.2)) us) (fun _ s' => ∃ σ' H', Inv X pins σ' H' s' ∧ Q σ' H') X.xe s
noncomputable abbrev TSet := V → V → V → Hp → (Hp → Prop) → Prop
noncomputable def PSet (X : Cx) (t : TSet) : Prop :=
  ∀ (pins : List (Addr × Obj)) (s : Shared) (σ : St) (H : Hp) (o i v : V) (ov iv u : Value) (Q : Hp → Prop), Inv X pins σ H s → RelV o ov → RelV i iv → RelV v u → t o i v H Q →
    wpAny (model X.prog X.w) X.A (setItem ov iv u) (fun _ s' => ∃ H', Inv X pins σ H' s' ∧ Q H') X.xe s
section
variable {X : Cx} {pos : Pos}
noncomputable def gName (i : Nat) : TG := fun v σ H Q => Q (σ.set i (some v)) H
theorem pg_name {i : Nat} {x : Str} (hN : X.N.Nodup) (hi : X.N[i]? = some x) (hx : Loc X.env.scope x) (hf : X.fn x = true ∨ X.env.scope.names.lookup x = some .local := by first | exact .inl rfl | exact .inr rfl | assumption) : PG X (.Name x pos) (gName i) := by
  intro pins s σ H v u Q I r h
  exact wpAny_assign_Name (store_ok I hN hi hx r (fun s' I' => ⟨_, H, I', h⟩) hf)
noncomputable def gNil : TGs := fun vs σ H Q => vs = [] ∧ Q σ H
noncomputable def gCons (t : TG) (u : TGs) : TGs := fun vs σ H Q => ∃ v r, vs = v :: r ∧ t v σ H fun σ' H' => u r σ' H' Q
theorem pgs_nil : PGs X [] gNil := by
  intro pins s σ H vs us Q I r h
  obtain ⟨e, h⟩ := h
  subst e
  cases r
  exact assignInOrder_nil ⟨σ, H, I, h⟩
theorem pgs_cons {e : Expr} {es : List Expr} {t : TG} {u : TGs} (h1 : PG X e t) (h2 : PGs X es u)
    (hs : (assignEach (e :: es) X.env).map (·.2) = assign e X.env :: (assignEach es X.env).map (·.2) := by rfl) : PGs X (e :: es) (gCons t u) := by
  intro pins s σ H vs us Q I r h
  obtain ⟨v, vr, e1, h⟩ := h
  subst e1
  cases r with
  | cons r rr =>
    rw [hs]
    refine assignInOrder_cons (thn (h1 pins s σ H _ _ _ I r h) fun _ s1 ⟨σ1, H1, I1, q1⟩ => ?_)
    exact h2 pins s1 σ1 H1 _ _ Q I1 rr q1
noncomputable def gSub (to ti : TE) (t : TSet) : TG := fun v σ H Q => to σ H fun o H1 => ti σ H1 fun i H2 => t o i v H2 fun H3 => Q σ H3
theorem pg_sub {o i : Expr} {to ti : TE} {t : TSet} (ho : PE X o to) (hi : PE X i ti) (hs : PSet X t)
    (ha : ∀ v, assign (.Subscript o i pos) X.env v = (do
      let ov ← holding [v] (eval o X.env)
      let iv ← holding [v, ov] (eval i X.env)
      standAt pos
      holding [v, ov, iv] (setItem ov iv v)
      release [v, ov, iv] []) := by intro _; rfl) : PG X (.Subscript o i pos) (gSub to ti t) := by
  intro pins s σ H v u Q I r h
  rw [ha]
  refine wpAny_bind (wpAny_holding (thn (ho pins s σ H _ I h) fun ov s1 ⟨x, H1, I1, r1, q1⟩ => ?_))
  refine wpAny_bind (wpAny_holding (thn (hi pins s1 σ H1 _ I1 q1) fun iv s2 ⟨y, H2, I2, r2, q2⟩ => ?_))
  refine wpAny_bind (wpAny_standAt (wpAny_bind (wpAny_holding (thn (hs pins s2 σ H2 x y v ov iv u _ I2 r1 r2 r q2) fun _ s3 ⟨H3, I3, q3⟩ => ?_))))
  exact wpAny_release ⟨σ, H3, I3, q3⟩
noncomputable def tAsg (te : TE) (g : TG) : TS := fun D σ H => te σ H fun x H1 => g x σ H1 D.nx
theorem ps_asg {tg e : Expr} {te : TE} {g : TG} (he : PE X e te) (hg : PG X tg g) (hs : swapsWithSole [tg] e pos.line X.env = pure false := by rfl) (hw : swappedStores [tg] e X.env = pure none := by rfl)
    (h1 : (assignEach [tg] X.env).map (·.2) = [assign tg X.env] := by rfl) : PS X (.Assign [tg] e pos) (tAsg te g) := by
  intro pins s σ H D I h
  refine wpAny_Assign_stores (thn (he pins s σ H _ I h) fun v s1 ⟨x, H1, I1, r1, q1⟩ => ?_) hs hw
  rw [h1]
  exact thn (hg pins s1 σ H1 x v _ I1 r1 q1) fun _ s2 q => q
theorem ps_set {i : Nat} {x : Str} {e : Expr} {te : TE} {pos' : Pos} (hN : X.N.Nodup) (hi : X.N[i]? = some x) (hx : Loc X.env.scope x) (he : PE X e te) (hs : swapsWith e (some (.Name x pos')) pos.line X.env = pure false := by rfl) (hf : X.fn x = true ∨ X.env.scope.names.lookup x = some .local := by first | exact .inl rfl | exact .inr rfl | assumption) :
    PS X (.Assign [.Name x pos'] e pos) (tAsg te (gName i)) := by
  intro pins s σ H D I h
  refine wpAny_Assign_Name (thn (he pins s σ H _ I h) fun v s1 ⟨y, H1, I1, r1, q1⟩ => ?_) hs
  exact store_ok I1 hN hi hx r1 (fun s2 I2 => ⟨_, H1, I2, q1⟩) hf
end
structure It where
  go : Nat → Hp → Prop
  yld : Nat → Hp → V → Hp → Prop
  stop : Nat → Hp → Prop
noncomputable def FpOk (X : Cx) (pins : List (Addr × Obj)) (H : Hp) (b : Addr) : Prop :=
  H b = none ∧ b ≠ X.env.locals ∧ b ∉ X.fs ∧ (b ∈ X.ex ∨ X.s₀.heap.objs.size ≤ b) ∧ (∀ x c, X.env.cells.lookup x = some c → c ≠ b) ∧ ∀ p ∈ X.pn ++ pins, p.1 ≠ b
theorem Inv.fpOk {X : Cx} {pins : List (Addr × Obj)} {σ : St} {H H' : Hp} {s : Shared} {b : Addr} (I : Inv X pins σ H s) (hb : s.heap.objs.size ≤ b) (hn : H' b = none) : FpOk X pins H' b := by
  refine ⟨hn, Nat.ne_of_gt (Nat.lt_of_lt_of_le I.lt hb), I.nofs hb, .inr (Nat.le_trans I.sz hb), fun x c e z => ?_, fun p hp z => ?_⟩
  · obtain ⟨v, q⟩ := I.cell x c e
    exact absurd (Nat.lt_of_lt_of_le q.lt (by rw [z]; exact hb)) (Nat.lt_irrefl _)
  · exact absurd (Nat.lt_of_lt_of_le (Heap.lt_size (I.pin p hp).1) (by rw [z]; exact hb)) (Nat.lt_irrefl _)
structure Turn (P : Program) (w : World) (K : PySem.W.Frag) (tg : Expr) (J : It) (fp : List Addr) (it : Addr) (tn : Nat → Heap → Prop) : Prop where
  mem : it ∈ fp
  obj : ∀ i h, tn i h → ∀ b ∈ fp, ∃ o, h.get? b = some o ∧ ∀ v, o.data ≠ .cell v
  keep : ∀ i h h', tn i h → (∀ b ∈ fp, ∀ o, h.get? b = some o → h'.get? b = some o) → tn i h'
  item : ∀ (X : Cx), X.prog = P → X.w = w → X.K = K → X.calm = true → ∀ (i : Nat) (pins : List (Addr × Obj)) (s : Shared) (σ : St) (H : Hp) (E : Value → Shared → Prop), Inv X pins σ H s → (∀ b ∈ fp, FpOk X pins H b) → tn i s.heap → J.go i H →
    wpAny (model P w) X.A (pyNext (.ref it)) (fun r s1 => ∃ u, r = some u ∧
      wpAny (model P w) X.A (letOwnedTupleGo tg (.ref it) u) (fun _ s2 => ∃ x H', Inv X pins σ H' s2 ∧ RelV x u ∧ J.yld i H x H' ∧ tn (i + 1) s2.heap ∧ ∀ b ∈ fp, H' b = none) E s1) E s
  done : ∀ (X : Cx), X.prog = P → X.w = w → X.K = K → X.calm = true → ∀ (i : Nat) (pins : List (Addr × Obj)) (s : Shared) (σ : St) (H : Hp) (E : Value → Shared → Prop), Inv X pins σ H s → (∀ b ∈ fp, FpOk X pins H b) → tn i s.heap → J.stop i H →
    wpAny (model P w) X.A (pyNext (.ref it)) (fun r s1 => r = none ∧ Inv X pins σ H s1) E s
  self : ∀ (A : Around) (i : Nat) (s : Shared) (Q : Value → Shared → Prop) (E : Value → Shared → Prop), tn i s.heap → Q (.ref it) s → wpAny (model P w) A (pyIter (.ref it)) Q E s
noncomputable abbrev TI := St → Hp → (It → Hp → Prop) → Prop
noncomputable def PIE (X : Cx) (pins : List (Addr × Obj)) (σ : St) (tg : Expr) (R : It → Hp → Prop) (itv : Value) (s2 : Shared) : Prop :=
  ∃ (it : Addr) (fp : List Addr) (tn : Nat → Heap → Prop) (J : It) (H' : Hp), itv = .ref it ∧ Inv X pins σ H' s2 ∧ Turn X.prog X.w X.K tg J fp it tn ∧ tn 0 s2.heap ∧ (∀ b ∈ fp, FpOk X pins H' b) ∧ R J H'
noncomputable def PI (X : Cx) (tg iter : Expr) (wi : TI) : Prop :=
  ∀ (pins : List (Addr × Obj)) (s : Shared) (σ : St) (H : Hp) (R : It → Hp → Prop), Inv X pins σ H s → wi σ H R →
    wpAny (model X.prog X.w) X.A (eval iter X.env) (fun v s1 => wpAny (model X.prog X.w) X.A (pyIter v) (PIE X pins σ tg R) X.xe s1) X.xe s
theorem go_of {M : Model} {A : Around} {E : Value → Shared → Prop} {s : Shared} {tg : Expr} {it : Addr} {u : Value} {o : Obj} {n : String} {vs : Array Value} {Q : Unit → Shared → Prop} (ho : s.heap.get? it = some o) (hc : o.cls = .type n) (hd : o.data = .fields vs)
    (hn : ["enumerate", "zip", "dict_itemiterator", "dict_reverseitemiterator", "odict_iterator", "itertools.zip_longest", "itertools.pairwise"].contains n = false) (hQ : Q () s) : wpAny M A (letOwnedTupleGo tg (.ref it) u) Q E s := by
  unfold letOwnedTupleGo
  cases tg <;> first
    | exact wpAny_pure hQ
    | (cases u <;> first
        | exact wpAny_pure hQ
        | (refine wpAny_bind (wpAny_load ho ?_)
           rw [hc, hd]
           show wpAny M A (if (["enumerate", "zip", "dict_itemiterator", "dict_reverseitemiterator", "odict_iterator", "itertools.zip_longest", "itertools.pairwise"].contains n && vs[0]? == some (rawInt _)) = true then _ else _) Q E s
           rw [if_neg (by intro h; rw [hn, Bool.false_and] at h; cases h)]
           exact wpAny_pure hQ))
noncomputable def Itl (K : PySem.W.Frag) (a : Addr) : It :=
  ⟨fun i H => ∃ xs x, SqL K H a xs ∧ xs[i]? = some x, fun i H x H' => H' = H ∧ ∀ xs, SqL K H a xs → xs[i]? = some x, fun i H => ∃ xs, SqL K H a xs ∧ xs.length ≤ i⟩
noncomputable def Itt (K : PySem.W.Frag) (a : Addr) : It :=
  ⟨fun i H => ∃ xs x, SqT K H a xs ∧ xs[i]? = some x, fun i H x H' => H' = H ∧ ∀ xs, SqT K H a xs → xs[i]? = some x, fun i H => ∃ xs, SqT K H a xs ∧ xs.length ≤ i⟩
noncomputable def Itr (lo : Int) (n : Nat) : It := ⟨fun i _ => i < n, fun i H x H' => H' = H ∧ x = .int (lo + i), fun i _ => n ≤ i⟩
theorem turn_list {P : Program} {w : World} {K : PySem.W.Frag} {tg : Expr} (a it : Addr) : Turn P w K tg (Itl K a) [it] it (fun i h => h.IsListIter it a i) where
  mem := by simp
  obj := fun i h st b hb => by
    have e : b = it := by simpa using hb
    subst e
    obtain ⟨o, e, c, d⟩ := st
    exact ⟨o, e, fun v z => by rw [d] at z; cases z⟩
  keep := fun i h h' st k => st.at fun o e => k it (by simp) o e
  item := by
    intro X hP hw hK hc i pins s σ H E I hf st hg
    subst hP hw hK
    obtain ⟨xs, x, hq, hx⟩ := hg
    obtain ⟨its, rv, p, hz⟩ := I.list hq
    obtain ⟨u, hu, ru⟩ := rv.get hx
    obtain ⟨f0, f1, f2, f3, f4, f5⟩ := hf it (by simp)
    refine wpAny_pyNext_list_item st p.isList (x := u) (by simpa using hu) fun h' st' sb => ?_
    have I1 : Inv X pins σ H { s with heap := h' } := I.turned (t' := s.toks) (fun b o hb e => (sb.2 b hb).trans e) f0 f1 f3 f4 f5
    obtain ⟨o, e, c, d⟩ := id st'
    exact ⟨u, rfl, go_of (s := { s with heap := h' }) e c d (by decide) ⟨x, H, I1, ru, ⟨rfl, fun ys hy => by rw [I.list_inj hy hq]; exact hx⟩, st', fun b hb => (hf b hb).1⟩⟩
  done := by
    intro X hP hw hK hc i pins s σ H E I hf st hg
    subst hP hw hK
    obtain ⟨xs, hq, hx⟩ := hg
    obtain ⟨its, rv, p, hz⟩ := I.list hq
    obtain ⟨f0, f1, f2, f3, f4, f5⟩ := hf it (by simp)
    have hl := rv.length
    exact wpAny_pyNext_list_end (I.ok.hd hc) st p.isList (by simp; omega) fun h' eb => ⟨rfl, I.turned (t' := s.toks) (fun b o hb e => eb b o hb e) f0 f1 f3 f4 f5⟩
  self := fun _ _ _ _ _ st h => wpAny_pyIter_listiter st h
theorem turn_tuple {P : Program} {w : World} {K : PySem.W.Frag} {tg : Expr} (a it : Addr) : Turn P w K tg (Itt K a) [it] it (fun i h => h.IsTupleIter it a i) where
  mem := by simp
  obj := fun i h st b hb => by
    have e : b = it := by simpa using hb
    subst e
    obtain ⟨o, e, c, d⟩ := st
    exact ⟨o, e, fun v z => by rw [d] at z; cases z⟩
  keep := fun i h h' st k => st.at fun o e => k it (by simp) o e
  item := by
    intro X hP hw hK hc i pins s σ H E I hf st hg
    subst hP hw hK
    obtain ⟨xs, x, hq, hx⟩ := hg
    obtain ⟨its, rv, p, hz⟩ := I.tuple hq
    obtain ⟨u, hu, ru⟩ := rv.get hx
    obtain ⟨f0, f1, f2, f3, f4, f5⟩ := hf it (by simp)
    refine wpAny_pyNext_tuple_item st (show s.heap.IsTuple a its.toArray from p) (x := u) (by simpa using hu) fun h' st' sb => ?_
    have I1 : Inv X pins σ H { s with heap := h' } := I.turned (t' := s.toks) (fun b o hb e => (sb.2 b hb).trans e) f0 f1 f3 f4 f5
    obtain ⟨o, e, c, d⟩ := id st'
    exact ⟨u, rfl, go_of (s := { s with heap := h' }) e c d (by decide) ⟨x, H, I1, ru, ⟨rfl, fun ys hy => by rw [I.tuple_inj hy hq]; exact hx⟩, st', fun b hb => (hf b hb).1⟩⟩
  done := by
    intro X hP hw hK hc i pins s σ H E I hf st hg
    subst hP hw hK
    obtain ⟨xs, hq, hx⟩ := hg
    obtain ⟨its, rv, p, hz⟩ := I.tuple hq
    obtain ⟨f0, f1, f2, f3, f4, f5⟩ := hf it (by simp)
    have hl := rv.length
    exact wpAny_pyNext_tuple_end (I.ok.hd hc) st (show s.heap.IsTuple a its.toArray from p) (by simp; omega) fun h' eb => ⟨rfl, I.turned (t' := s.toks) (fun b o hb e => eb b o hb e) f0 f1 f3 f4 f5⟩
  self := fun _ _ _ _ _ st h => wpAny_pyIter_tupleiter st h
theorem turn_range {P : Program} {w : World} {K : PySem.W.Frag} {tg : Expr} (it : Addr) (lo : Int) (n : Nat) : Turn P w K tg (Itr lo n) [it] it (fun i h => IsRangeIter h it (lo + (i : Nat) * 1) ((n : Int) - (i : Nat)) 1) where
  mem := by simp
  obj := fun i h st b hb => by
    have e : b = it := by simpa using hb
    subst e
    exact ⟨_, st, fun v z => by
      have z' : Data.fields _ = Data.cell v := z
      cases z'⟩
  keep := fun i h h' st k => k it (by simp) _ st
  item := by
    intro X hP hw hK hc i pins s σ H E I hf st hg
    subst hP hw hK
    obtain ⟨f0, f1, f2, f3, f4, f5⟩ := hf it (by simp)
    have W := Walks.range (prog := X.prog) (w := X.w) (I.ok.hd hc) it lo 1 n
    refine W.item i s _ _ hg st fun v h' tk hv st' kk => ?_
    obtain ⟨t, rfl⟩ := hv
    have I1 : Inv X pins σ H { s with heap := h', toks := tk } := I.turned (fun b o hb e => kk b o (by simpa using hb) e) f0 f1 f3 f4 f5
    refine ⟨_, rfl, go_of (s := { s with heap := h', toks := tk }) (n := "range_iterator") st' rfl rfl (by decide) ⟨.int (lo + i), H, I1, ⟨t, ?_⟩, ⟨rfl, rfl⟩, st', fun b hb => (hf b hb).1⟩⟩
    rw [Int.mul_one]
  done := by
    intro X hP hw hK hc i pins s σ H E I hf st hg
    subst hP hw hK
    obtain ⟨f0, f1, f2, f3, f4, f5⟩ := hf it (by simp)
    exact wpAny_pyNext_range_end (I.ok.hd hc) st (by have : n ≤ i := hg; omega) fun h' eb => ⟨rfl, I.turned (t' := s.toks) (fun b o hb e => eb b o hb e) f0 f1 f3 f4 f5⟩
  self := fun _ _ _ _ _ st h => wpAny_pyIter_rangeiter st h
end L2
namespace L2
open PySem PySem.Spec PyProof.Rows
section
variable {X : Cx} {tg : Expr}
theorem range_it {pins : List (Addr × Obj)} {σ : St} {H : Hp} {s : Shared} {R : It → Hp → Prop} {E : Value → Shared → Prop} {lo hi : Int} {t u v : Tok} {tk : Nat} (I : Inv X pins σ H s) (h1 : -(2 ^ 62) ≤ lo) (h2 : lo < 2 ^ 62) (h3 : -(2 ^ 62) ≤ hi) (h4 : hi < 2 ^ 62)
    (q : R (Itr lo (hi - lo).toNat) H) : wpAny (model X.prog X.w) X.A (pyIter (.ref s.heap.objs.size)) (PIE X pins σ tg R) E { s with heap := s.heap.push { cls := .type "range", data := .fields #[.int lo t, .int hi u, .int 1 v] }, toks := tk } := by
  refine wpAny_pyIter_range (IsRange.new ..) (small_one h1 h2 h3 h4) ?_
  have I1 : Inv X pins σ H { s with heap := s.heap.push { cls := .type "range", data := .fields #[.int lo t, .int hi u, .int 1 v] }, toks := tk } := I.kept fun b o e => Heap.get?_push_of_some _ e
  refine ⟨(s.heap.push { cls := .type "range", data := .fields #[.int lo t, .int hi u, .int 1 v] }).objs.size, [(s.heap.push { cls := .type "range", data := .fields #[.int lo t, .int hi u, .int 1 v] }).objs.size], _, _, H, rfl,
    I1.kept (t' := tk) fun b o e => Heap.get?_push_of_some _ e, turn_range _ lo (hi - lo).toNat, ?_, fun b hb => ?_, q⟩
  · have e1 : lo + ((0 : Nat) : Int) * 1 = lo := by simp
    have e2 : (((hi - lo).toNat : Nat) : Int) - ((0 : Nat) : Int) = Builtin.Range.rangeSize lo hi 1 := by rw [rangeSize_one]; split <;> omega
    show IsRangeIter _ _ (lo + ((0 : Nat) : Int) * 1) ((((hi - lo).toNat : Nat) : Int) - ((0 : Nat) : Int)) 1
    rw [e1, e2]
    exact Heap.get?_push_size _ rfl
  · have e : b = (s.heap.push { cls := .type "range", data := .fields #[.int lo t, .int hi u, .int 1 v] }).objs.size := by simpa using hb
    subst e
    exact I1.fpOk (Nat.le_refl _) (I1.hok.fresh (Nat.le_refl _))
noncomputable def iRng1 (ta : TA) : TI := fun σ H R => ta σ H fun vs H1 => ∃ j : Int, vs = [.int j] ∧ -(2 ^ 62) ≤ j ∧ j < 2 ^ 62 ∧ R (Itr 0 j.toNat) H1
noncomputable def iRng2 (ta : TA) : TI := fun σ H R => ta σ H fun vs H1 => ∃ i j : Int, vs = [.int i, .int j] ∧ (-(2 ^ 62) ≤ i ∧ i < 2 ^ 62 ∧ -(2 ^ 62) ≤ j ∧ j < 2 ^ 62) ∧ R (Itr i (j - i).toNat) H1
theorem pi_range1 {a : Expr} {ta : TA} {p pos : Pos} (hg : Gl X "range") (hm : X.mg "range" = none) (ha : PA X [a] ta) (hs : starEach [a] X.env = [(false, eval a X.env)] := by rfl) : PI X tg (.Call (.Name "range" p) [a] [] pos) (iRng1 ta) := by
  intro pins s σ H R I h
  refine Call_ (ld_blt I hg hm boot_range (PyProof.Rows.callWith_type1 (thn (ha pos pins s σ H _ I h) fun us s1 ⟨vs, H1, I1, r1, q1⟩ => ?_) hs rfl))
  obtain ⟨j, e, q1, q2, q⟩ := q1
  subst e
  cases r1 with
  | cons r rr =>
    cases rr
    obtain ⟨t, rfl⟩ := r
    exact call_range_1 (range_it I1 (by omega) (by omega) q1 q2 (by simpa using q))
theorem pi_range2 {a b : Expr} {ta : TA} {p pos : Pos} (hg : Gl X "range") (hm : X.mg "range" = none) (ha : PA X [a, b] ta) (hs : starEach [a, b] X.env = [(false, eval a X.env), (false, eval b X.env)] := by rfl) (hs2 : starEach [b] X.env = [(false, eval b X.env)] := by rfl) :
    PI X tg (.Call (.Name "range" p) [a, b] [] pos) (iRng2 ta) := by
  intro pins s σ H R I h
  refine Call_ (ld_blt I hg hm boot_range (PyProof.Rows.callWith_type1 (thn (ha pos pins s σ H _ I h) fun us s1 ⟨vs, H1, I1, r1, q1⟩ => ?_) (by rw [hs, hs2]) (by rw [hs2]; rfl)))
  obtain ⟨i, j, e, ⟨q1, q2, q3, q4⟩, q⟩ := q1
  subst e
  cases r1 with
  | cons r rr =>
    cases rr with
    | cons r' rr =>
      cases rr
      obtain ⟨t, rfl⟩ := r
      obtain ⟨t', rfl⟩ := r'
      exact call_range_2 (range_it I1 q1 q2 q3 q4 q)
noncomputable def tFor (wi : TI) (g : TG) (tb : TS) : TS := fun D σ H => wi σ H fun J H1 => ∃ W : Nat → Nat → St → Hp → Prop, (∃ m, W 0 m σ H1) ∧ ∀ i m σ H, W i m σ H →
  (J.stop i H ∧ D.nx σ H) ∨ (J.go i H ∧ ∃ N : St → Hp → Prop, (∀ σ' H', N σ' H' → ∃ m', m' < m ∧ W (i + 1) m' σ' H') ∧ ∀ x H', J.yld i H x H' → g x σ H' fun σ2 H2 => tb { D with nx := N, ct := N, bk := D.nx } σ2 H2)
noncomputable def pinsAt (fp : List Addr) (h : Heap) : List (Addr × Obj) := fp.filterMap fun b => (h.get? b).map fun o => (b, o)
theorem mem_pinsAt {fp : List Addr} {h : Heap} {b : Addr} {o : Obj} (hb : b ∈ fp) (e : h.get? b = some o) : (b, o) ∈ pinsAt fp h := List.mem_filterMap.mpr ⟨b, hb, by rw [e]; rfl⟩
theorem of_pinsAt {fp : List Addr} {h : Heap} {p : Addr × Obj} (hp : p ∈ pinsAt fp h) : p.1 ∈ fp ∧ h.get? p.1 = some p.2 := by
  obtain ⟨b, hb, e⟩ := List.mem_filterMap.mp hp
  cases q : h.get? b with
  | none => rw [q] at e; cases e
  | some o =>
    rw [q] at e
    have e' : (b, o) = p := Option.some.inj e
    subst e'
    exact ⟨hb, q⟩
theorem Inv.pinned {pins : List (Addr × Obj)} {σ : St} {H : Hp} {s : Shared} {fp : List Addr} (I : Inv X pins σ H s) (hf : ∀ b ∈ fp, FpOk X pins H b) (ho : ∀ b ∈ fp, ∃ o, s.heap.get? b = some o ∧ ∀ v, o.data ≠ .cell v) : Inv X (pins ++ pinsAt fp s.heap) σ H s :=
  I.pins_of fun p hp => (List.mem_append.mp hp).elim (fun z => I.pin p (List.mem_append_right _ z)) fun z => by
    obtain ⟨hb, e⟩ := of_pinsAt z
    obtain ⟨f0, f1, f2, _⟩ := hf p.1 hb
    obtain ⟨o, e', d⟩ := ho p.1 hb
    rw [e] at e'; cases e'
    exact ⟨e, f0, f1, f2, d⟩
theorem Inv.unpinned {pins pl : List (Addr × Obj)} {σ : St} {H : Hp} {s : Shared} (I : Inv X (pins ++ pl) σ H s) : Inv X pins σ H s := I.pins_of fun p hp => I.pin p (List.mem_append_right _ (List.mem_append_left _ hp))
theorem ps_for {iter : Expr} {body : List Stmt} {wi : TI} {g : TG} {tb : TS} {pos : Pos} (hp : PassesOwn (model X.prog X.w) X.A X.env X.xe) (hc : X.calm = true) (hi : PI X tg iter wi) (hg : PG X tg g) (hb : PSs X body tb)
    (hs : ∀ x, foldedSetIterable iter X.env x = pure x := by intro _; rfl) : PS X (.For tg iter body [] pos) (tFor wi g tb) := by
  intro pins s σ H D I h
  refine wpAny_For (thn (hi pins s σ H _ I h) fun v s1 h1 => thn h1 fun itv s2 h2 => ?_) hs
  obtain ⟨it, fp, tn, J, H2, e, I2, T, st2, f2, W, ⟨m0, w0⟩, turn⟩ := h2
  subst e
  -- what stays true of the iterator's objects through the loop
  have stat : ∀ {H' : Hp}, (∀ b ∈ fp, H' b = none) → ∀ b ∈ fp, FpOk X pins H' b := fun hn b hb => ⟨hn b hb, (f2 b hb).2⟩
  refine codeAny_forLoop_any (fun n s' => ∃ i σ' H', Inv X pins σ' H' s' ∧ tn i s'.heap ∧ (∀ b ∈ fp, H' b = none) ∧ W i n σ' H') ?_ m0 ⟨0, σ, H2, I2, st2, fun b hb => (f2 b hb).1, w0⟩
  rintro n s3 ⟨i, σ3, H3, I3, st3, fr3, w3⟩
  rcases turn i n σ3 H3 w3 with ⟨stop, qn⟩ | ⟨go, N, hN, step⟩
  · refine wpAny_passesOwn hp (thn (T.done X rfl rfl rfl hc i pins s3 σ3 H3 X.xe I3 (stat fr3) st3 stop) fun r s4 ⟨hr, I4⟩ => ?_)
    subst hr
    exact wpAny_execs_nil ⟨σ3, H3, I4, qn⟩
  · refine wpAny_passesOwn hp (thn (T.item X rfl rfl rfl hc i pins s3 σ3 H3 X.xe I3 (stat fr3) st3 go) fun r s4 ⟨u, hr, h4⟩ => ?_)
    subst hr
    refine wpAny_passesOwn hp (thn h4 fun _ s5 ⟨x, H5, I5, r5, y5, st5, fr5⟩ => ?_)
    have I5' := I5.pinned (stat fr5) (T.obj _ _ st5)
    refine wpAny_passesOwn hp (thn (hg _ s5 σ3 H5 x u _ I5' r5 (step x H5 y5)) fun _ s6 ⟨σ6, H6, I6, q6⟩ => ?_)
    refine wpAny_passesOwn hp (thn (hb _ s6 σ6 H6 _ I6 q6) fun f s7 q7 => ?_)
    have again : ∀ {σ7 : St} {H7 : Hp}, Inv X (pins ++ pinsAt fp s5.heap) σ7 H7 s7 → N σ7 H7 → ∃ m, m < n ∧ ∃ i σ' H', Inv X pins σ' H' s7 ∧ tn i s7.heap ∧ (∀ b ∈ fp, H' b = none) ∧ W i m σ' H' := fun {σ7 H7} I7 n7 => by
      obtain ⟨m', hm, w7⟩ := hN σ7 H7 n7
      refine ⟨m', hm, i + 1, σ7, H7, I7.unpinned, T.keep _ _ _ st5 fun b hb o e => (I7.pin (b, o) (List.mem_append_right _ (List.mem_append_right _ (mem_pinsAt hb e)))).1, fun b hb => ?_, w7⟩
      obtain ⟨o, e, d⟩ := T.obj _ _ st5 b hb
      exact (I7.pin (b, o) (List.mem_append_right _ (List.mem_append_right _ (mem_pinsAt hb e)))).2.1
    cases f with
    | next => obtain ⟨σ7, H7, I7, n7⟩ := q7; exact again I7 n7
    | cont => obtain ⟨σ7, H7, I7, n7⟩ := q7; exact again I7 n7
    | brk => obtain ⟨σ7, H7, I7, q7⟩ := q7; exact ⟨σ7, H7, I7.unpinned, q7⟩
    | ret v => obtain ⟨x7, σ7, H7, I7, r7, q7⟩ := q7; exact ⟨x7, σ7, H7, I7.unpinned, r7, q7⟩
end
end L2
namespace L2
open PySem PySem.Spec PyProof.Rows
noncomputable abbrev R2 := V → V → Hp → VK → Prop
noncomputable def OpR (X : Cx) (f : Value → Value → Sem Value) (r : R2) : Prop :=
  ∀ (pins : List (Addr × Obj)) (s : Shared) (σ : St) (H : Hp) (x y : V) (v u : Value) (Q : VK), Inv X pins σ H s → RelV x v → RelV y u → r x y H Q →
    wpAny (model X.prog X.w) X.A (f v u) (EP X pins σ Q) X.xe s
noncomputable def UnR (X : Cx) (f : Value → Sem Value) (r : V → Hp → VK → Prop) : Prop :=
  ∀ (pins : List (Addr × Obj)) (s : Shared) (σ : St) (H : Hp) (x : V) (v : Value) (Q : VK), Inv X pins σ H s → RelV x v → r x H Q →
    wpAny (model X.prog X.w) X.A (f v) (EP X pins σ Q) X.xe s
noncomputable def CallR (X : Cx) (f : Value) (r : List V → Hp → VK → Prop) : Prop :=
  ∀ (pins : List (Addr × Obj)) (s : Shared) (σ : St) (H : Hp) (xs : List V) (us : List Value) (Q : VK), Inv X pins σ H s → Vals xs us → r xs H Q →
    wpAny (model X.prog X.w) X.A (call f us) (EP X pins σ Q) X.xe s
noncomputable def tOp (r : R2) (ta tb : TE) : TE := fun σ H Q => ta σ H fun x H1 => tb σ H1 fun y H2 => r x y H2 Q
noncomputable def tUn (r : V → Hp → VK → Prop) (ta : TE) : TE := fun σ H Q => ta σ H fun x H1 => r x H1 Q
noncomputable def rI (C : Int → Int → Prop) (g : Int → Int → V) : R2 := fun x y H Q => ∃ i j, x = .int i ∧ y = .int j ∧ C i j ∧ Q (g i j) H
noncomputable def rI0 (g : Int → Int → V) : R2 := fun x y H Q => ∃ i j, x = .int i ∧ y = .int j ∧ Q (g i j) H
noncomputable def rU (g : Int → V) : V → Hp → VK → Prop := fun x H Q => ∃ i, x = .int i ∧ Q (g i) H
section
variable {X : Cx} {a b c : Expr} {ta tb tc : TE} {pos : Pos}
theorem binT (ha : PE X a ta) (hb : PE X b tb) {pins : List (Addr × Obj)} {s : Shared} {σ : St} {H : Hp} {R : V → V → Hp → Prop} (I : Inv X pins σ H s)
    (h : ta σ H fun x H1 => tb σ H1 fun y H2 => R x y H2) {Q : Value → Shared → Prop} {f : Value → Value → Sem Value}
    (hf : ∀ v u s2 x y H2, Inv X pins σ H2 s2 → RelV x v → RelV y u → R x y H2 → wpAny (model X.prog X.w) X.A (f v u) Q X.xe s2) :
    wpAny (model X.prog X.w) X.A (eval a X.env) (fun v s₁ => wpAny (model X.prog X.w) X.A (eval b X.env) (fun u s₂ => wpAny (model X.prog X.w) X.A (f v u) Q X.xe s₂) X.xe s₁) X.xe s := by
  refine thn (ha pins s σ H _ I h) fun v s1 ⟨x, H1, I1, r1, q1⟩ => ?_
  refine thn (hb pins s1 σ H1 _ I1 q1) fun u s2 ⟨y, H2, I2, r2, q2⟩ => ?_
  exact hf v u s2 x y H2 I2 r1 r2 q2
theorem pe_op {op : Operator} {r : R2} (ho : OpR X (binaryOp op) r) (ha : PE X a ta) (hb : PE X b tb) : PE X (.BinOp a op b pos) (tOp r ta tb) := by
  intro pins s σ H Q I h
  exact wpAny_BinOp (binT ha hb I h fun v u s2 x y H2 I2 rx ry q => ho pins s2 σ H2 x y v u Q I2 rx ry q)
theorem pe_un {op : UnaryOp} {r : V → Hp → VK → Prop} (ho : UnR X (unaryOp op) r) (ha : PE X a ta) : PE X (.UnaryOp op a pos) (tUn r ta) := by
  intro pins s σ H Q I h
  exact UnaryOp_ (thn (ha pins s σ H _ I h) fun v s1 ⟨x, H1, I1, r1, q1⟩ => ho pins s1 σ H1 x v Q I1 r1 q1)
theorem opI {f : Value → Value → Sem Value} {C : Int → Int → Prop} {g : Int → Int → Int}
    (rule : ∀ (i j : Int) (t u : Tok) (s : Shared) (Q : Value → Shared → Prop) (E : Value → Shared → Prop), C i j → Q (.int (g i j) s.toks) { s with toks := s.toks + 1 } → wpAny (model X.prog X.w) X.A (f (.int i t) (.int j u)) Q E s) :
    OpR X f (rI C fun i j => .int (g i j)) := by
  intro pins s σ H x y v u Q I rx ry h
  obtain ⟨i, j, rfl, rfl, hc, q⟩ := h
  obtain ⟨t, rfl⟩ := rx
  obtain ⟨t', rfl⟩ := ry
  exact rule i j t t' s _ _ hc ⟨.int (g i j), H, I.tok _, ⟨_, rfl⟩, q⟩
theorem opI0 {f : Value → Value → Sem Value} {g : Int → Int → Int}
    (rule : ∀ (i j : Int) (t u : Tok) (s : Shared) (Q : Value → Shared → Prop) (E : Value → Shared → Prop), Q (.int (g i j) s.toks) { s with toks := s.toks + 1 } → wpAny (model X.prog X.w) X.A (f (.int i t) (.int j u)) Q E s) :
    OpR X f (rI0 fun i j => .int (g i j)) := by
  intro pins s σ H x y v u Q I rx ry h
  obtain ⟨i, j, rfl, rfl, q⟩ := h
  obtain ⟨t, rfl⟩ := rx
  obtain ⟨t', rfl⟩ := ry
  exact rule i j t t' s _ _ ⟨.int (g i j), H, I.tok _, ⟨_, rfl⟩, q⟩
theorem opB0 {f : Value → Value → Sem Value} {g : Int → Int → Bool}
    (rule : ∀ (i j : Int) (t u : Tok) (s : Shared) (Q : Value → Shared → Prop) (E : Value → Shared → Prop), Q (.bool (g i j)) s → wpAny (model X.prog X.w) X.A (f (.int i t) (.int j u)) Q E s) :
    OpR X f (rI0 fun i j => .bl (g i j)) := by
  intro pins s σ H x y v u Q I rx ry h
  obtain ⟨i, j, rfl, rfl, q⟩ := h
  obtain ⟨t, rfl⟩ := rx
  obtain ⟨t', rfl⟩ := ry
  exact rule i j t t' s _ _ ⟨.bl (g i j), H, I, rfl, q⟩
noncomputable def CDiv (i j : Int) : Prop := 0 < j ∧ j < 1073741824
noncomputable def CPow (i j : Int) : Prop := 0 ≤ j ∧ j ≤ 1000000 ∧ i.natAbs < 2 ^ 64
noncomputable def CMul (i j : Int) : Prop := (-(2 ^ 64) < i ∧ i < 2 ^ 64) ∨ (-(2 ^ 64) < j ∧ j < 2 ^ 64)
theorem CMul.ok {i j : Int} (h : CMul i j) : IntMulOk i j := by
  rcases h with ⟨h1, h2⟩ | ⟨h1, h2⟩
  · exact .of_left (intBits_le_64 h1 h2)
  · exact .of_right (intBits_le_64 h1 h2)
theorem two_pow_nn (k : Nat) : (0 : Int) ≤ 2 ^ k := by
  rw [two_pow_cast]
  exact Int.natCast_nonneg _
theorem op_add : OpR X (binaryOp .Add) (rI0 fun i j => .int (i + j)) := opI0 fun _ _ _ _ _ _ _ q => add_int q
theorem op_sub : OpR X (binaryOp .Sub) (rI0 fun i j => .int (i - j)) := opI0 fun _ _ _ _ _ _ _ q => sub_int q
theorem op_mul : OpR X (binaryOp .Mult) (rI CMul fun i j => .int (i * j)) := opI fun _ _ _ _ _ _ _ hc q => mul_int q hc.ok
theorem op_fdiv : OpR X (binaryOp .FloorDiv) (rI CDiv fun i j => .int (i / j)) := opI fun i j _ _ _ _ _ hc q => by
  have h1 : (0 : Int) < j := hc.1
  have h2 : j < 1073741824 := hc.2
  exact floordiv_int (by omega) (by rw [Int.fdiv_eq_ediv_of_nonneg i (by omega)]; exact q) (.inl (PyProof.noPylong_small (by omega)))
theorem op_mod : OpR X (binaryOp .Mod) (rI (fun _ j => 0 < j) fun i j => .int (i % j)) := opI fun i j _ _ _ _ _ hc q => by
  have h1 : (0 : Int) < j := hc
  exact mod_int' (by omega) (by rw [Int.fmod_eq_emod_of_nonneg i (by omega)]; exact q)
theorem op_shl : OpR X (binaryOp .LShift) (rI CPow fun i j => .int (i * 2 ^ j.toNat)) := opI fun _ _ _ _ _ _ _ hc q => lshift_int_small hc.1 hc.2.1 hc.2.2 q
theorem op_shr : OpR X (binaryOp .RShift) (rI (fun _ j => 0 ≤ j) fun i j => .int (i / 2 ^ j.toNat)) := opI fun i j _ _ _ _ _ hc q =>
  rshift_int hc (by rw [Int.fdiv_eq_ediv_of_nonneg i (two_pow_nn _)]; exact q)
theorem op_and : OpR X (binaryOp .BitAnd) (rI0 fun i j => .int (Builtin.bitAnd i j)) := opI0 fun _ _ _ _ _ _ _ q => and_int q
theorem unI {f : Value → Sem Value} {g : Int → Int}
    (rule : ∀ (i : Int) (t : Tok) (s : Shared) (Q : Value → Shared → Prop) (E : Value → Shared → Prop), Q (.int (g i) s.toks) { s with toks := s.toks + 1 } → wpAny (model X.prog X.w) X.A (f (.int i t)) Q E s) :
    UnR X f (rU fun i => .int (g i)) := by
  intro pins s σ H x v Q I rx h
  obtain ⟨i, rfl, q⟩ := h
  obtain ⟨t, rfl⟩ := rx
  exact rule i t s _ _ ⟨.int (g i), H, I.tok _, ⟨_, rfl⟩, q⟩
theorem un_neg : UnR X (unaryOp .USub) (rU fun i => .int (-i)) := unI fun _ _ _ _ _ q => neg_int q
end
section
variable {X : Cx} {a b c : Expr} {ta tb tc : TE} {pos : Pos}
theorem fin_bl {pins : List (Addr × Obj)} {σ : St} {H : Hp} {s : Shared} {Q : VK} {k k' : Bool} (I : Inv X pins σ H s) (q : Q (.bl k) H) (e : k = k') : EP X pins σ Q (.bool k') s := by
  subst e
  exact ⟨.bl k, H, I, rfl, q⟩
theorem op_lt : OpR X (compareOp .Lt) (rI0 fun i j => .bl (decide (i < j))) := opB0 fun _ _ _ _ _ _ _ q => lt_int q
theorem op_gt : OpR X (compareOp .Gt) (rI0 fun i j => .bl (decide (j < i))) := opB0 fun _ _ _ _ _ _ _ q => gt_int q
theorem op_in_str : OpR X (compareOp .In) (fun x y H Q => ∃ i j, x = .str i ∧ y = .str j ∧ Q (.bl (!(Builtin.Str.occurrences j i 0 j.length 1).isEmpty)) H) := by
  intro pins s σ H x y v u Q I rx ry h
  obtain ⟨i, j, rfl, rfl, q⟩ := h
  obtain ⟨t, rfl⟩ := rx
  obtain ⟨t', rfl⟩ := ry
  exact in_str (fin_bl I q rfl)
theorem op_isN : OpR X (compareOp .Is) (fun x y H Q => y = .non ∧ Q (.bl (decide (x = .non))) H) := by
  intro pins s σ H x y v u Q I rx ry h
  obtain ⟨rfl, q⟩ := h
  cases ry
  refine is_none_gen (fin_bl I q ?_)
  cases x <;> first
    | (cases rx; rfl)
    | (obtain ⟨t, rfl⟩ := rx; rfl)
theorem OpR.or {f : Value → Value → Sem Value} {r r' : R2} (h : OpR X f r) (h' : OpR X f r') : OpR X f (fun x y H Q => r x y H Q ∨ r' x y H Q) := by
  intro pins s σ H x y v u Q I rx ry q
  rcases q with q | q
  · exact h pins s σ H x y v u Q I rx ry q
  · exact h' pins s σ H x y v u Q I rx ry q
theorem nomark (b : Expr) {op : CmpOp} (h : op ≠ .In := by decide) (h2 : op ≠ .NotIn := by decide) : behindInMarks op b = false := by
  have e1 : (op == CmpOp.In) = false := by cases op <;> first | rfl | exact absurd rfl h
  have e2 : (op == CmpOp.NotIn) = false := by cases op <;> first | rfl | exact absurd rfl h2
  cases b <;> simp [behindInMarks, e1, e2]
theorem pe_cmpR {op : CmpOp} {r : R2} (ho : OpR X (compareOp op) r) (ha : PE X a ta) (hb : PE X b tb) (hm : behindInMarks op b = false) : PE X (.Compare a [op] [b] pos) (tOp r ta tb) := by
  intro pins s σ H Q I h
  exact wpAny_Compare1 (binT ha hb I h fun v u s2 x y H2 I2 rx ry q => ho pins s2 σ H2 x y v u Q I2 rx ry q) hm
noncomputable def tTest (t : TE) : TT := fun σ H Q => t σ H fun x H' => ∃ k, x = .bl k ∧ Q k H'
theorem pt_cmpR {op : CmpOp} {r : R2} (ho : OpR X (compareOp op) r) (ha : PE X a ta) (hb : PE X b tb) (hm : behindInMarks op b = false) : PT X (.Compare a [op] [b] pos) (tTest (tOp r ta tb)) := by
  intro pins s σ H Q I h
  refine wpAny_isTrue_Compare1 (thn (ha pins s σ H _ I h) fun v s1 ⟨x, H1, I1, r1, q1⟩ => thn (hb pins s1 σ H1 _ I1 q1) fun u s2 ⟨y, H2, I2, r2, q2⟩ =>
    thn (ho pins s2 σ H2 x y v u _ I2 r1 r2 q2) fun c s3 ⟨z, H3, I3, r3, k, e, q3⟩ => ?_) hm
  subst e
  cases r3
  exact wpAny_truthy_bool ⟨H3, I3, q3⟩
theorem line63 : (sizeLine : Nat) < 2 ^ 63 := by rw [sizeLine_eq]; decide
theorem op_add_str : OpR X (binaryOp .Add) (fun x y H Q => ∃ i j, x = .str i ∧ y = .str j ∧ i.length + j.length ≤ sizeLine ∧ Q (.str (i ++ j)) H) := by
  intro pins s σ H x y v u Q I rx ry h
  obtain ⟨i, j, rfl, rfl, hz, q⟩ := h
  obtain ⟨t, rfl⟩ := rx
  obtain ⟨t', rfl⟩ := ry
  exact add_str (fun t' tk => ⟨.str (i ++ j), H, I.tok _, ⟨_, rfl⟩, q⟩) hz
theorem vals1 {x : V} {us : List Value} (r : Vals [x] us) : ∃ u, us = [u] ∧ RelV x u := by
  cases r with
  | cons r1 r2 => cases r2; exact ⟨_, rfl, r1⟩
theorem vals2 {x y : V} {us : List Value} (r : Vals [x, y] us) : ∃ u w', us = [u, w'] ∧ RelV x u ∧ RelV y w' := by
  cases r with
  | cons r1 r2 =>
    cases r2 with
    | cons r3 r4 => cases r4; exact ⟨_, _, rfl, r1, r3⟩
theorem call_int1 : CallR X (.type "int") (fun xs H Q => (∃ i, xs = [.int i] ∧ Q (.int i) H) ∨ ∃ k, xs = [.bl k] ∧ Q (.int (if k then 1 else 0)) H) := by
  intro pins s σ H xs us Q I r h
  rcases h with ⟨i, rfl, q⟩ | ⟨k, rfl, q⟩
  · obtain ⟨u, rfl, t, rfl⟩ := vals1 r
    exact call_int_int ⟨.int i, H, I, ⟨_, rfl⟩, q⟩
  · obtain ⟨u, rfl, r1⟩ := vals1 r
    cases r1
    exact call_int_bool ⟨.int (if k then 1 else 0), H, I.tok _, ⟨_, rfl⟩, q⟩
end
end L2
namespace L2
open PySem PySem.Spec PyProof.Rows
noncomputable def putF (f : Str) (v : V) : List (Str × V) → List (Str × V)
  | [] => [(f, v)]
  | (g, x) :: r => if g = f then (g, v) :: r else (g, x) :: putF f v r
structure Cls (K : PySem.W.Frag) (C : Addr) : Prop where
  pg : PySem.W.plainGet K C Str.empty = true
  hd : PySem.W.hasDictIn K C = true
  po : PySem.W.plainOver K C = true
  sa : PySem.W.findIn K (.ref C) "__setattr__" = some (some (.builtin "object.__setattr__"))
theorem Cls.get {K : PySem.W.Frag} {C : Addr} (c : Cls K C) (f : Str) : PySem.W.plainGet K C f = true := c.pg
section
variable {X : Cx} {pins : List (Addr × Obj)} {σ : St} {H : Hp} {s : Shared} {a C dx : Addr} {fs : List (Str × V)} {f : Str} {v : V} {A : Around} {E : Value → Shared → Prop}
theorem Inv.made (I : Inv X pins σ H s) : Inv X pins σ (upd (upd H s.heap.objs.size (.own (s.heap.objs.size + 1))) (s.heap.objs.size + 1) (.ins C s.heap.objs.size []))
    { s with heap := (s.heap.push PySem.W.emptyDict).push (PySem.W.instObj C s.heap.objs.size) } := by
  have e1 : (s.heap.push PySem.W.emptyDict).get? s.heap.objs.size = some PySem.W.emptyDict := Heap.get?_push_size s.heap rfl
  have e2 : ((s.heap.push PySem.W.emptyDict).push (PySem.W.instObj C s.heap.objs.size)).get? (s.heap.objs.size + 1) = some (PySem.W.instObj C s.heap.objs.size) := by
    have := Heap.get?_push_size (s.heap.push PySem.W.emptyDict) (o := PySem.W.instObj C s.heap.objs.size) rfl
    rwa [Heap.size_push] at this
  have e3 : (s.heap.push PySem.W.emptyDict).Ns s.heap.objs.size (fun _ => none) := ⟨PySem.W.emptyDict, #[], _, e1, rfl, (fun e he => absurd he (by simp)), fun _ => rfl⟩
  have I1 := I.laid (a := s.heap.objs.size) (o := .own (s.heap.objs.size + 1)) (h' := s.heap.push PySem.W.emptyDict) (t' := s.toks) (fun b u q => Heap.get?_push_of_some _ q) (Nat.le_refl _) ⟨_, e1⟩
  refine I1.laid (a := s.heap.objs.size + 1) (o := .ins C s.heap.objs.size []) (t' := s.toks) (fun b u q => Heap.get?_push_of_some _ q) (Nat.le_of_eq (Heap.size_push _ _)) ?_
  have ne : s.heap.objs.size ≠ s.heap.objs.size + 1 := Nat.ne_of_lt (Nat.lt_succ_self _)
  refine ⟨by rw [upd_ne ne, upd_same], Nat.zero_le _, ne, e2, fun _ => none, (Heap.Ns1.of_empty e3).at fun o q => Heap.get?_push_of_some _ q, fun _ => True.intro, fun y hy => absurd rfl hy⟩
end
section
variable {X : Cx} {o e value : Expr} {f : Str} {pos pos' tpos : Pos} {ta tv : TE}
noncomputable def rAdd : V → V → Hp → VK → Prop := fun x y H Q => ∃ i j, x = .int i ∧ y = .int j ∧ Q (.int (i + j)) H
noncomputable def rSub : V → V → Hp → VK → Prop := fun x y H Q => ∃ i j, x = .int i ∧ y = .int j ∧ Q (.int (i - j)) H
end
end L2
namespace L2
open PySem PySem.Spec PyProof.Rows
structure Room (k : Nat) (A : Around) : Prop where
  hd : A.handled = none
  dp : A.depth + 3 * k + 5 < recursionLimit
  un : A.units + 16 * k + 200 < cLine
theorem Room.mono {j k : Nat} {A : Around} (r : Room k A) (h : j ≤ k) : Room j A := ⟨r.hd, by have := r.dp; omega, by have := r.un; omega⟩
theorem Room.deeper {k : Nat} {A : Around} (r : Room (k + 1) A) (env : Env) : Room k (A.deeper env) :=
  ⟨r.hd, by have := r.dp; show A.depth + 1 + 3 * k + 5 < _; omega, by have := r.un; show A.units + 3 + 16 * k + 200 < _; omega⟩
theorem Room.in1 {k : Nat} {A : Around} (r : Room (k + 1) A) : Room k A.in1 :=
  ⟨r.hd, by have := r.dp; show A.depth + 3 * k + 5 < _; omega, by have := r.un; show A.units + 1 + 16 * k + 200 < _; omega⟩
theorem Room.depth {k : Nat} {A : Around} (r : Room k A) : A.depth < recursionLimit := by have := r.dp; omega
theorem Room.units {k : Nat} {A : Around} (r : Room k A) : A.units + 64 < cLine := by have := r.un; omega
noncomputable def tNil : TA := fun _ H Q => Q [] H
noncomputable def tCons (ta : TE) (tr : TA) : TA := fun σ H Q => ta σ H fun x H1 => tr σ H1 fun xs H2 => Q (x :: xs) H2
section
variable {X : Cx} {e : Expr} {es : List Expr} {te : TE} {t : TA} {pos : Pos}
theorem pa_nil : PA X [] tNil := fun _ _ _ _ H Q I h => Calls.spliced_nil ⟨[], H, I, .nil, h⟩
theorem pa_cons (ha : PE X e te) (hr : PA X es t) (hs : starEach (e :: es) X.env = (false, eval e X.env) :: starEach es X.env := by rfl) : PA X (e :: es) (tCons te t) := by
  intro pos pins s σ H Q I h
  rw [hs]
  show wpAny _ _ (spliced ((false, eval e X.env) :: backTo pos (starEach es X.env))) _ _ s
  refine Calls.spliced_cons (thn (ha pins s σ H _ I h) fun u s1 ⟨x, H1, I1, r1, q1⟩ => ?_)
  exact thn (hr pos pins s1 σ H1 _ I1 q1) fun us s2 ⟨xs, H2, I2, r2, q2⟩ => ⟨x :: xs, H2, I2, .cons r1 r2, q2⟩
noncomputable def tTup (t : TA) : TE := fun σ H Q => t σ H fun xs H1 => xs.length ≤ sizeLine ∧ ∀ p, H1 p = none → Q (.ref p) (upd H1 p (.tup xs))
noncomputable def tLst (t : TA) : TE := fun σ H Q => t σ H fun xs H1 => xs.length ≤ sizeLine ∧ ∀ p, H1 p = none → Q (.ref p) (upd H1 p (.lst xs))
theorem pe_tup {x1} (h : PA X es t) : PE X (.Tuple es x1 pos) (tTup t) := by
  intro pins s σ H Q I hq
  refine wpAny_Tuple_spliced (thn (h pos pins s σ H _ I hq) fun us s1 ⟨xs, H1, I1, r, z, q⟩ => ⟨by rw [← r.length]; exact z, ?_⟩)
  have hf : H1 s1.heap.objs.size = none := I1.hok.fresh (Nat.le_refl _)
  refine ⟨.ref s1.heap.objs.size, upd H1 s1.heap.objs.size (.tup xs), I1.laid (t' := s1.toks) (fun b u e => Heap.get?_push_of_some _ e) (Nat.le_refl _) ?_, rfl, q _ hf⟩
  exact ⟨z, us, r, ⟨_, Heap.get?_push_size _ rfl, rfl, _, rfl⟩⟩
theorem pe_lst (h : PA X es t) : PE X (.List es pos) (tLst t) := by
  intro pins s σ H Q I hq
  refine wpAny_List_spliced (thn (h pos pins s σ H _ I hq) fun us s1 ⟨xs, H1, I1, r, z, q⟩ => ⟨by rw [← r.length]; exact z, ?_⟩)
  have hf : H1 s1.heap.objs.size = none := I1.hok.fresh (Nat.le_refl _)
  refine ⟨.ref s1.heap.objs.size, upd H1 s1.heap.objs.size (.lst xs), I1.laid (t' := s1.toks) (fun b u e => Heap.get?_push_of_some _ e) (Nat.le_refl _) ?_, rfl, q _ hf⟩
  exact ⟨z, us, 0, r, Heap.get?_push_size _ rfl⟩
end
noncomputable abbrev Sp := List V → Hp → VK → XK → Prop
noncomputable abbrev CXT := List Env → Hp → Shared → XK → Value → Shared → Prop
structure Env0 (P : Program) (w : World) (K : PySem.W.Frag) (mg : Str → Option Value) (base : Heap) (A : Around) (outer : List Env) (s : Shared) (H : Hp) : Prop where
  frames : A.frames = some outer
  mod : Mod K mg base
  bs : ∀ b o, base.get? b = some o → s.heap.get? b = some o ∧ H b = none
  bsz : base.objs.size ≤ s.heap.objs.size
  funs : s.heap.FunFrames base outer
  frf : ∀ b ∈ frs outer, H b = none
  hok : HOk P w H s.heap
  bare : AllBare s.gens
noncomputable def CE (outer : List Env) (P : Program) (w : World) (H : Hp) (s : Shared) (Q : VK) (u : Value) (s' : Shared) : Prop :=
  ∃ v H', s'.os = s.os ∧ AllBare s'.gens ∧ Un (frs outer) [] H H' s.heap s'.heap ∧ HOk P w H' s'.heap ∧ RelV v u ∧ Q v H'
noncomputable def CR (CX : CXT) (outer : List Env) (P : Program) (w : World) (H : Hp) (s : Shared) (Q : VK) (E : XK) (r : Result) (s' : Shared) : Prop :=
  match r with
  | .ok (.ret u) => CE outer P w H s Q u s'
  | .ok _ => False
  | .error e => CX outer H s E e s'
structure FnOk (P : Program) (w : World) (K : PySem.W.Frag) (mg : Str → Option Value) (base : Heap) (CX : CXT) (k : Nat) (f : Addr) (fd : FuncData) (ps : List Str) (sp : Sp) : Prop where
  len : ∀ vs H Q E, sp vs H Q E → vs.length = ps.length
  run : ∀ (A : Around) (outer : List Env) (s : Shared) (H : Hp) (args : Args) (us : List Value) (vs : List V) (Q : VK) (E : XK), Room k A → Env0 P w K mg base A outer s H → BindsTo s fd args (ps.zip us) → Vals vs us → sp vs H Q E →
    codeAny (model P w) A (.call (.ref f) args) (CR CX outer P w H s Q E) s
theorem FnOk.mono {P : Program} {w : World} {K : PySem.W.Frag} {mg : Str → Option Value} {base : Heap} {CX : CXT} {j k : Nat} {f : Addr} {fd : FuncData} {ps : List Str} {sp : Sp} (F : FnOk P w K mg base CX j f fd ps sp) (h : j ≤ k) :
    FnOk P w K mg base CX k f fd ps sp := ⟨F.len, fun A outer s H args us vs Q E hr => F.run A outer s H args us vs Q E (hr.mono h)⟩
theorem FnOk.imp {P : Program} {w : World} {K : PySem.W.Frag} {mg : Str → Option Value} {base : Heap} {CX : CXT} {k : Nat} {f : Addr} {fd : FuncData} {ps : List Str} {sp sp' : Sp} (F : FnOk P w K mg base CX k f fd ps sp)
    (h : ∀ vs H Q E, sp' vs H Q E → sp vs H Q E) : FnOk P w K mg base CX k f fd ps sp' :=
  ⟨fun vs H Q E q => F.len vs H Q E (h _ _ _ _ q), fun A outer s H args us vs Q E hr he hb hv hs => F.run A outer s H args us vs Q E hr he hb hv (h _ _ _ _ hs)⟩
theorem Env0.in1 {P : Program} {w : World} {K : PySem.W.Frag} {mg : Str → Option Value} {base : Heap} {A : Around} {outer : List Env} {s : Shared} {H : Hp} (e : Env0 P w K mg base A outer s H) :
    Env0 P w K mg base A.in1 outer s H := ⟨e.frames, e.mod, e.bs, e.bsz, e.funs, e.frf, e.hok, e.bare⟩
section
variable {X : Cx} {pins : List (Addr × Obj)} {σ : St} {H : Hp} {s s' : Shared}
theorem Inv.env0 (I : Inv X pins σ H s) : Env0 X.prog X.w X.K X.mg X.base X.A X.stack s H :=
  ⟨I.ok.frames, I.ok.mod, I.bs, Nat.le_trans I.ok.bsz I.sz, I.stack, I.stkFree, I.hok, I.bare⟩
theorem Inv.after {Q : VK} {u : Value} (I : Inv X pins σ H s) (h : CE X.stack X.prog X.w H s Q u s') : EP X pins σ Q u s' := by
  obtain ⟨v, H', os, bare, un, hok, r, q⟩ := h
  obtain ⟨hh, g, d, t, os'⟩ := s'
  obtain rfl : os' = s.os := os
  exact ⟨v, H', I.call (h' := hh) (g' := g) (d' := d) (t' := t) (ch := []) un hok bare (fun b z => absurd z (by simp)), r, q⟩
end
noncomputable def tCall (sp : Sp) (dvs : List V) (E : XK) (t : TA) : TE := fun σ H Q => t σ H fun vs H1 => sp (vs ++ dvs) H1 Q E
noncomputable def Binds (K : PySem.W.Frag) (fd : FuncData) (ps : List Str) (ds : List Value) : Prop :=
  ∀ (s : Shared) (us : List Value), K.In s.heap → (us ++ ds).length = ps.length → BindsTo s fd ⟨us, []⟩ (ps.zip (us ++ ds))
theorem Binds.all {K : PySem.W.Frag} {fd : FuncData} {ps : List Str} (h : ∀ us : List Value, us.length = ps.length → bindArgs fd ⟨us, []⟩ = pure (ps.zip us)) : Binds K fd ps [] := fun s us _ hl => by
  rw [List.append_nil] at hl ⊢
  exact .of_eq (h us hl)
noncomputable def Passes (CX : CXT) (X : Cx) (E : XK) : Prop := ∀ (pins : List (Addr × Obj)) (σ : St) (H : Hp) (s : Shared) (e : Value) (s' : Shared), Inv X pins σ H s → CX X.stack H s E e s' → X.xe e s'
section
variable {X : Cx} {CX : CXT} {k : Nat} {f C : Addr} {fd : FuncData} {ps : List Str} {sp : Sp} {dvs : List V} {ds : List Value} {E : XK} {x m : Str} {p pos apos : Pos} {e o : Expr} {es : List Expr} {ta : TE} {t : TA}
theorem run_fn {pins : List (Addr × Obj)} {σ : St} {H : Hp} {s : Shared} {Q : VK} {us : List Value} {vs : List V} (F : FnOk X.prog X.w X.K X.mg X.base CX k f fd ps sp) (hr : Room k X.A) (hb : Binds X.K fd ps ds) (hd : Vals dvs ds) (hx : Passes CX X E)
    (I : Inv X pins σ H s) (r : Vals vs us) (h : sp (vs ++ dvs) H Q E) : wpAny (model X.prog X.w) X.A (call (.ref f) us) (EP X pins σ Q) X.xe s := by
  have r2 : Vals (vs ++ dvs) (us ++ ds) := r.append hd
  have hl : (us ++ ds).length = ps.length := by rw [← r2.length]; exact F.len _ _ _ _ h
  refine wpAny_call (codeAny_mono (F.run X.A X.stack s H ⟨us, []⟩ (us ++ ds) (vs ++ dvs) Q E hr I.env0 (hb s us I.kIn hl) r2 h) fun r s' hq => ?_)
  cases r with
  | error e => exact hx pins σ H s e s' I hq
  | ok fl =>
    cases fl with
    | ret u => exact I.after hq
    | next => exact False.elim hq
    | brk => exact False.elim hq
    | cont => exact False.elim hq
theorem pe_call (F : FnOk X.prog X.w X.K X.mg X.base CX k f fd ps sp) (hr : Room k X.A) (hg : Gl X x) (hm : X.mg x = some (.ref f)) (hk : PySem.W.keepIn X.K (.ref f) = true) (hb : Binds X.K fd ps ds) (hd : Vals dvs ds) (hx : Passes CX X E)
    (ha : PA X (e :: es) t) (hdb : (x == ("__debug__" : Str)) = false := by decide) (he : starEach (e :: es) X.env = (false, eval e X.env) :: starEach es X.env := by rfl) (hpl : (backTo pos (starEach es X.env)).any (·.1) = false := by rfl) :
    PE X (.Call (.Name x p) (e :: es) [] pos) (tCall sp dvs E t) := by
  intro pins s σ H Q I h
  refine wpAny_Call_Name_kw (ld_glob I hg hm ?_ hdb)
  refine PySem.W.callWith_K (h₀ := X.base) I.ok.mod.kin hk (thn (ha pos pins s σ H _ I h) fun us s1 ⟨vs, H1, I1, r, q⟩ => ⟨I1.kIn, ?_⟩) he hpl
  exact run_fn F hr hb hd hx I1 r q
end
noncomputable def PK (X : Cx) (kws : List Keyword) (t : TA) : Prop :=
  ∀ (pos : Pos) (pins : List (Addr × Obj)) (s : Shared) (σ : St) (H : Hp) (Q : List V → Hp → Prop), Inv X pins σ H s → t σ H Q → wpAny (model X.prog X.w) X.A (evalAll ((backToKw pos (keywordEach kws X.env)).map (·.2))) (AP X pins σ Q) X.xe s
section
variable {X : Cx} {CX : CXT} {k : Nat} {f C : Addr} {fd : FuncData} {ps ks : List Str} {sp : Sp} {E : XK} {x m : Str} {p pos apos kpos : Pos} {e o : Expr} {es : List Expr} {kws : List Keyword} {te ta : TE} {t tk : TA} {nm : Option Str}
theorem pk_nil : PK X [] tNil := fun _ _ _ _ H Q I h => wpAny_evalAll_nil ⟨[], H, I, .nil, h⟩
theorem pk_cons (ha : PE X e te) (hr : PK X kws t) : PK X (⟨nm, e, kpos⟩ :: kws) (tCons te t) := by
  intro pos pins s σ H Q I h
  show wpAny _ _ (evalAll ((do let v ← eval e X.env; standAt pos; pure v) :: (backToKw pos (keywordEach kws X.env)).map (·.2))) _ _ s
  refine wpAny_evalAll_cons (wpAny_bind (thn (ha pins s σ H _ I h) fun u s1 ⟨x, H1, I1, r1, q1⟩ => wpAny_bind (wpAny_standAt (wpAny_pure ?_))))
  exact thn (hr pos pins s1 σ H1 _ I1 q1) fun us s2 ⟨xs, H2, I2, r2, q2⟩ => ⟨x :: xs, H2, I2, .cons r1 r2, q2⟩
variable {g : List Value → List Value → List Value} {gV : List V → List V → List V}
end
structure FnScope (N P : List Str) (sc : Scope) : Prop where
  kind : sc.kind = .function
  co : sc.isCoroutine = false
  gen : sc.isGenerator = false
  nd : N.Nodup
  pre : N.take P.length = P
  par : ∀ x ∈ P, sc.names.lookup x = some .local ∨ sc.names.lookup x = some .cell
  nofree : ∀ y ∈ sc.names, y.2 ≠ .free
theorem bindL_out {kindOf : Str → Option NameKind} {x : Str} : ∀ {binds : List (Str × Value)} {m : Str → Option Value}, (∀ v, (x, v) ∉ binds) → bindL kindOf binds m x = m x
  | [], _, _ => rfl
  | (n, v) :: r, m, h => by
    unfold bindL
    rw [bindL_out fun w hw => h w (List.mem_cons_of_mem _ hw)]
    split
    · have : x ≠ n := by rintro rfl; exact h v List.mem_cons_self
      simp [this]
    · rfl
theorem bindC_out {kindOf : Str → Option NameKind} {x : Str} : ∀ {binds : List (Str × Value)} {m : Str → Option Value}, (∀ v, (x, v) ∉ binds) → bindC kindOf binds m x = m x
  | [], _, _ => rfl
  | (n, v) :: r, m, h => by
    unfold bindC
    rw [bindC_out fun w hw => h w (List.mem_cons_of_mem _ hw)]
    split
    · rfl
    · have : x ≠ n := by rintro rfl; exact h v List.mem_cons_self
      simp [this]
theorem bindL_get {kindOf : Str → Option NameKind} {x : Str} {v : Value} : ∀ {P : List Str} {vs : List Value} {i : Nat} {m : Str → Option Value}, P.Nodup → P[i]? = some x → vs[i]? = some v → kindOf x = some .local →
    bindL kindOf (P.zip vs) m x = some v
  | [], _, _, _, _, h, _, _ => by simp at h
  | _ :: _, [], _, _, _, _, h, _ => by simp at h
  | p :: P, w :: vs, 0, m, nd, h1, h2, hk => by
    simp at h1 h2; subst h1; subst h2
    show bindL kindOf ((p, w) :: P.zip vs) m p = _
    unfold bindL
    rw [bindL_out fun v hv => (List.nodup_cons.mp nd).1 (List.of_mem_zip hv).1, if_pos hk]
    simp
  | p :: P, w :: vs, i + 1, m, nd, h1, h2, hk => by
    show bindL kindOf ((p, w) :: P.zip vs) m x = _
    unfold bindL
    exact bindL_get (i := i) (List.nodup_cons.mp nd).2 (by simpa using h1) (by simpa using h2) hk
theorem bindC_get {kindOf : Str → Option NameKind} {x : Str} {v : Value} : ∀ {P : List Str} {vs : List Value} {i : Nat} {m : Str → Option Value}, P.Nodup → P[i]? = some x → vs[i]? = some v → kindOf x ≠ some .local →
    bindC kindOf (P.zip vs) m x = some v
  | [], _, _, _, _, h, _, _ => by simp at h
  | _ :: _, [], _, _, _, _, h, _ => by simp at h
  | p :: P, w :: vs, 0, m, nd, h1, h2, hk => by
    simp at h1 h2; subst h1; subst h2
    show bindC kindOf ((p, w) :: P.zip vs) m p = _
    unfold bindC
    rw [bindC_out fun v hv => (List.nodup_cons.mp nd).1 (List.of_mem_zip hv).1, if_neg hk]
    simp
  | p :: P, w :: vs, i + 1, m, nd, h1, h2, hk => by
    show bindC kindOf ((p, w) :: P.zip vs) m x = _
    unfold bindC
    exact bindC_get (i := i) (List.nodup_cons.mp nd).2 (by simpa using h1) (by simpa using h2) hk
noncomputable def start (N : List Str) (vs : List V) : St := vs.map some ++ List.replicate (N.length - vs.length) none
noncomputable def cxOf (CX : CXT) (P : Program) (w : World) (K : PySem.W.Frag) (mg : Str → Option Value) (base : Heap) (N : List Str) (qual : Str) (scope : Scope) (f : Addr) (cd : Value) (A : Around) (outer : List Env) (s : Shared) (H : Hp) (E : XK) : Cx where
  prog := P
  w := w
  K := K
  mg := mg
  base := base
  A := A.deeper (envOfC qual scope s.heap.objs.size f cd)
  N := N
  s₀ := s
  H₀ := H
  env := envOfC qual scope s.heap.objs.size f cd
  outer := outer
  stack := envOfC qual scope s.heap.objs.size f cd :: outer
  ex := []
  calm := true
  fn := fun _ => true
  pn := []
  xe := fun e s' => wpAny (model P w) (A.deeper (envOfC qual scope s.heap.objs.size f cd)) (leaving (envOfC qual scope s.heap.objs.size f cd) e) (fun _ s'' => CX outer H s E e s'') (fun e' s'' => CX outer H s E e' s'') s'
theorem cell_has {sc : Scope} {n : Nat} {x : Str} (h : sc.names.lookup x = some .cell) : ∃ c, (cellsFrom n sc.names []).lookup x = some c := by
  have q := PySem.W.cellsFrom_some sc.names n [] (.inl h)
  exact Option.isSome_iff_exists.mp q
theorem inv_start {CX : CXT} {P : Program} {w : World} {K : PySem.W.Frag} {mg : Str → Option Value} {base : Heap} {N ps : List Str} {qual : Str} {scope : Scope} {f : Addr} {cd : Value} {A : Around} {outer : List Env} {s s1 : Shared} {H : Hp} {E : XK} {us : List Value} {vs : List V}
    (S : FnScope N ps scope) (hd : A.handled = none) (e0 : Env0 P w K mg base A outer s H) (hl : vs.length = ps.length) (r : Vals vs us)
    (x : InCallC s s.heap.objs.size (bindL (envOfC qual scope s.heap.objs.size f cd).kindOf (ps.zip us) fun _ => none) (cellsFrom (s.heap.objs.size + 1) scope.names []) (bindC (envOfC qual scope s.heap.objs.size f cd).kindOf (ps.zip us) fun _ => none) s1) :
    Inv (cxOf CX P w K mg base N qual scope f cd A outer s H E) [] (start N vs) H s1 := by
  have hpl : ps.length ≤ N.length := by have := congrArg List.length S.pre; rw [List.length_take] at this; omega
  obtain ⟨h1, tk, rfl, hk⟩ := x.done
  have noA : ∀ b : Addr, b ∉ (cxOf CX P w K mg base N qual scope f cd A outer s H E).ex := fun b z => absurd (show b ∈ ([] : List Addr) from z) (by simp)
  refine ⟨⟨e0.mod, S.kind, rfl, rfl, Nat.le_refl _, fun y z c h1 h2 => ?_, fun y hy => ?_, fun y c _ h => ?_, fun _ => hd, Around.frames_deeper e0.frames, .inr ⟨rfl, rfl⟩, fun b z => absurd z (noA b), e0.bs, e0.bsz, fun b _ _ => noA b, fun b z => absurd z (noA b), e0.funs, e0.frf⟩,
    rfl, e0.bare, Un.kept hk, ⟨_, x.toInCall.ns, fun i y v h1 h2 h3 => ?_⟩, fun y c h => ⟨_, x.cell y c h⟩, e0.hok.fresh (Nat.le_refl _), fun y c h => ?_, fun p hp => absurd (show p ∈ ([] : List (Addr × Obj)) from hp) (by simp), e0.hok.kept hk, ?_⟩
  · exact name_of_addr x.apart (PySem.mem_of_lookup h1) (PySem.mem_of_lookup h2)
  · have hy : scope.names.lookup y = some .cell ∨ scope.names.lookup y = some .free := hy
    rcases hy with hy | hy
    · exact cell_has hy
    · exact absurd rfl (S.nofree _ (PySem.mem_of_lookup hy))
  · exact Nat.le_of_lt (x.above y c (PySem.mem_of_lookup h))
  · have hi : i < vs.length := by
      unfold start at h2
      by_cases hi : i < vs.length
      · exact hi
      · rw [List.getElem?_append_right (by simpa using hi)] at h2
        rw [List.getElem?_replicate] at h2
        split at h2 <;> cases h2
    have ha : vs[i]? = some v := by
      unfold start at h2
      rw [List.getElem?_append_left (by simpa using hi), List.getElem?_map] at h2
      cases e : vs[i]? with
      | none => rw [e] at h2; cases h2
      | some a => rw [e] at h2; cases h2; rfl
    obtain ⟨u, hu, rv⟩ := r.get ha
    have hp : ps[i]? = some y := by
      rw [← S.pre, List.getElem?_take_of_lt (by omega)]; exact h1
    have ndP : ps.Nodup := by rw [← S.pre]; exact S.nd.sublist (List.take_sublist _ _)
    refine ⟨u, rv, ?_⟩
    rcases S.par y (List.mem_of_getElem? hp) with k | k
    · exact .inl ⟨k, bindL_get ndP hp hu k⟩
    · obtain ⟨c, e⟩ := cell_has (n := s.heap.objs.size + 1) k
      refine .inr ⟨.inl k, c, e, ?_⟩
      have q := x.cell y c e
      rw [bindC_get ndP hp hu (by show scope.names.lookup y ≠ _; rw [k]; decide)] at q
      exact q
  · exact e0.hok.fresh (Nat.le_of_lt (x.above y c (PySem.mem_of_lookup h)))
  · unfold start
    show _ = N.length
    rw [List.length_append, List.length_map, List.length_replicate]
    omega
theorem fn_of {CX : CXT} {P : Program} {w : World} {K : PySem.W.Frag} {mg : Str → Option Value} {base : Heap} {k : Nat} {f : Addr} {name qual : Str} {params : Arguments} {body : List Stmt} {scope : Scope} {dV kV doc pm cdv ct oc : Value} {an od : Option Addr}
    {osl : Array (Option Value)} {N ps : List Str} {sp : Sp} (lk : K.lookup f = some ⟨oc, od, .func (PySem.W.fnOf name qual params body scope dV kV doc pm an cdv ct), osl⟩) (hcd : PySem.W.codeIn K cdv qual = true) (S : FnScope N ps scope)
    (len : ∀ vs H Q E, sp vs H Q E → vs.length = ps.length)
    (hbody : ∀ (A : Around) (outer : List Env) (s : Shared) (H : Hp) (vs : List V) (Q : VK) (E : XK), Room k (A.deeper (envOfC qual scope s.heap.objs.size f cdv)) → sp vs H Q E →
      ∃ t, PSs (cxOf CX P w K mg base N qual scope f cdv A outer s H E) body t ∧ t { nx := fun _ H' => Q .non H', rt := Q } (start N vs) H) :
    FnOk P w K mg base CX (k + 1) f (PySem.W.fnOf name qual params body scope dV kV doc pm an cdv ct) ps sp := by
  refine ⟨len, fun A outer s H args us vs Q E hr e0 hb r hsp => ?_⟩
  have hl := len _ _ _ _ hsp
  have KX : K.In s.heap := e0.mod.kin.keeps fun b o e => (e0.bs b o e).1
  have lim : s.heap.NoLimit := e0.mod.nolimit.keeps fun b o e => (e0.bs b o e).1
  have hkind : ∀ y ∈ ps.zip us, scope.names.lookup y.1 = some .local ∨ (scope.names.lookup y.1 = some .cell ∧ ((cellsFrom (s.heap.objs.size + 1) scope.names []).lookup y.1).isSome = true) := fun ⟨n, v⟩ hy => by
    rcases S.par n (List.of_mem_zip hy).1 with q | q
    · exact .inl q
    · exact .inr ⟨q, PySem.W.cellsFrom_some _ _ _ (.inl q)⟩
  refine codeAny_call_function hr.depth (KX _ _ lk) rfl S.co S.gen rfl (PySem.W.codeRec_of KX hcd) (hb _ _ _ _ ?_)
  refine wpAny_newFunctionEnv_cells S.kind hkind fun env he s1 x => ?_
  subst he
  refine ⟨lim.keeps x.toInCall.keep, codeAny_func ?_⟩
  obtain ⟨t, ht, hq⟩ := hbody A outer s H vs Q E (hr.deeper _) hsp
  have I : Inv (cxOf CX P w K mg base N qual scope f cdv A outer s H E) [] (start N vs) H s1 := inv_start S hr.hd e0 hl r x
  refine wpAny_mono (ht [] s1 (start N vs) H _ I hq) (fun fl s' hs => ?_) fun e s' hs => hs
  have fin : ∀ {σ' : St} {H' : Hp} {v : V} {u : Value}, Inv (cxOf CX P w K mg base N qual scope f cdv A outer s H E) [] σ' H' s' → RelV v u → Q v H' → CE outer P w H s Q u s' :=
    fun {σ' H' v u} J rv q => ⟨v, H', J.os, J.bare, J.base, J.hok, rv, q⟩
  cases fl with
  | ret u =>
    obtain ⟨v, σ', H', J, rv, q⟩ := hs
    exact fin J rv q
  | next =>
    obtain ⟨σ', H', J, q⟩ := hs
    exact fin (v := V.non) (u := Value.none) J rfl q
  | brk =>
    obtain ⟨_, _, _, q⟩ := hs
    exact False.elim q
  | cont =>
    obtain ⟨_, _, _, q⟩ := hs
    exact False.elim q
end L2
namespace L2
open PySem PySem.Spec PyProof.Rows
section
variable {X : Cx} {x : Str} {p pos : Pos} {e : Expr} {es : List Expr} {t : TA} {id T : String} {r : List V → Hp → VK → Prop}
noncomputable def tCB (r : List V → Hp → VK → Prop) (t : TA) : TE := fun σ H Q => t σ H fun vs H1 => r vs H1 Q
theorem pe_callB (hc : CallR X (.builtin id) r) (hg : Gl X x) (hm : X.mg x = none) (hv : bootBuiltins x = some (.builtin id)) (ha : PA X (e :: es) t) (hn : x ≠ "__name__" := by decide) (hdb : (x == ("__debug__" : Str)) = false := by decide)
    (he : starEach (e :: es) X.env = (false, eval e X.env) :: starEach es X.env := by rfl) (hpl : (backTo pos (starEach es X.env)).any (·.1) = false := by rfl) : PE X (.Call (.Name x p) (e :: es) [] pos) (tCB r t) := by
  intro pins s σ H Q I h
  refine wpAny_Call_Name_kw (ld_blt I hg hm hv ?_ hn hdb)
  exact PyProof.Rows.callWith_builtin1 (thn (ha pos pins s σ H _ I h) fun us s1 ⟨vs, H1, I1, r1, q1⟩ => hc pins s1 σ H1 vs us Q I1 r1 q1) he hpl
theorem pe_callTy (hc : CallR X (.type T) r) (hg : Gl X x) (hm : X.mg x = none) (hv : bootBuiltins x = some (.type T)) (ha : PA X (e :: es) t) (hn : x ≠ "__name__" := by decide) (hdb : (x == ("__debug__" : Str)) = false := by decide)
    (he : starEach (e :: es) X.env = (false, eval e X.env) :: starEach es X.env := by rfl) (hpl : (backTo pos (starEach es X.env)).any (·.1) = false := by rfl) : PE X (.Call (.Name x p) (e :: es) [] pos) (tCB r t) := by
  intro pins s σ H Q I h
  refine wpAny_Call_Name_kw (ld_blt I hg hm hv ?_ hn hdb)
  exact PyProof.Rows.callWith_type1 (thn (ha pos pins s σ H _ I h) fun us s1 ⟨vs, H1, I1, r1, q1⟩ => hc pins s1 σ H1 vs us Q I1 r1 q1) he hpl
end
end L2
namespace HT
open PySem PyProof.Rows
section
variable {prog : Program} {w : World} {A : Around} {E : Value → Shared → Prop} {s : Shared}
theorem cat_tup {t b : Addr} {vs ws : List Value} {Q : Value → Shared → Prop} (ht : IsTup s.heap t vs.toArray) (hb : IsTup s.heap b ws.toArray) (hv : vs ≠ [])
    (h1 : ws = [] → Q (.ref t) s) (h2 : ws ≠ [] → Q (.ref s.heap.objs.size) { s with heap := s.heap.push { cls := .type "tuple", data := .seq (vs ++ ws).toArray } })
    (hsz : vs.length + ws.length ≤ sizeLine) : wpAny (model prog w) A (binaryOp .Add (.ref t) (.ref b)) Q E s := by
  obtain ⟨⟨cls, dd, data, sl⟩, ho, hc, n, hd⟩ := id ht
  obtain ⟨⟨cls2, dd2, data2, sl2⟩, ho2, hc2, n2, hd2⟩ := id hb
  simp only at hc hd hc2 hd2
  subst hc hd hc2 hd2
  have e : vs.toArray ++ ws.toArray = (vs ++ ws).toArray := by simp
  by_cases hw : ws = []
  · exact concat_meets ⟨_, ho, rfl⟩ ⟨_, ho2, rfl⟩ noFill_tuple_add seq_tuple_add PySem.F.slot_tuple_add PySem.F.entry_tuple_add (PySem.F.args_tuple_add_2 _ _)
      (tuple_addW1 t b vs.toArray ws.toArray n n2 dd dd2 sl sl2 (by simpa using hv) (by simp [hw])) ⟨ho, ho2, h1 hw⟩
  · refine concat_meets ⟨_, ho, rfl⟩ ⟨_, ho2, rfl⟩ noFill_tuple_add seq_tuple_add PySem.F.slot_tuple_add PySem.F.entry_tuple_add (PySem.F.args_tuple_add_2 _ _)
      (tuple_addW2 t b vs.toArray ws.toArray n n2 dd dd2 sl sl2 (by simpa using hv) (by simpa using hw) (by rw [List.size_toArray, List.size_toArray]; exact hsz)) ⟨ho, ho2, ?_⟩
    rw [e]
    exact h2 hw
noncomputable def sIx (n d : Nat) : Option Int → Nat
  | none => d
  | some v => if v < 0 then (v + (n : Int)).toNat else min v.toNat n
theorem sIx_none (n d : Nat) : sIx n d none = d := rfl
theorem sIx_nat (n d k : Nat) : sIx n d (some (k : Int)) = min k n := by
  show (if (k : Int) < 0 then ((k : Int) + (n : Int)).toNat else min (k : Int).toNat n) = min k n
  rw [if_neg (by omega), Int.toNat_natCast]
theorem sIx_le (n d : Nat) (hd : d ≤ n) (o : Option Int) : sIx n d o ≤ n := by
  cases o with
  | none => exact hd
  | some v =>
    show (if v < 0 then (v + (n : Int)).toNat else min v.toNat n) ≤ n
    by_cases hv : v < 0
    · rw [if_pos hv]; omega
    · rw [if_neg hv]; exact Nat.min_le_right _ _
theorem clip_eq (v : Int) (n d : Nat) : (if v < 0 then max (v + (n : Int)) 0 else min v (n : Int)) = ((sIx n d (some v) : Nat) : Int) := by
  show (if v < 0 then max (v + (n : Int)) 0 else min v (n : Int)) = (((if v < 0 then (v + (n : Int)).toNat else min v.toNat n) : Nat) : Int)
  by_cases hv : v < 0
  · simp only [if_pos hv]; omega
  · simp only [if_neg hv]; omega
theorem adjust_gen (lo hi : Option Int) (n : Nat) : Builtin.Slice.sliceAdjust lo hi 1 (n : Int) = (((sIx n 0 lo : Nat) : Int), ((sIx n n hi : Nat) : Int)) := by
  have h1 : ¬ ((1 : Int) < 0) := by omega
  unfold Builtin.Slice.sliceAdjust
  simp only [h1, if_false]
  refine Prod.ext ?_ ?_
  · cases lo with
    | none => rfl
    | some v => exact clip_eq v n 0
  · cases hi with
    | none => rfl
    | some v => exact clip_eq v n n
theorem places_gen (i j : Nat) : Builtin.Slice.slicePlaces (i : Int) (j : Int) 1 = j - i := by
  unfold Builtin.Slice.slicePlaces
  have h1 : (1 : Int) > 0 := by omega
  simp only [h1, if_true, Int.ediv_one]
  split <;> omega
theorem slicePart_ {v : Value} {o : Option Int} {Q : Option Int → Shared → Prop} (p : IsPart v o) (h : Q o s) : wpAny (model prog w) A (Builtin.Slice.slicePartIndex v) Q E s := by
  cases p with
  | none => exact slicePart_none h
  | int i t => exact slicePart_int h
theorem sliceApplied_gen {sl : Addr} {vl vu : Value} {lo hi : Option Int} {n : Nat} {Q : Int × Int × Nat → Shared → Prop} (hs : s.heap.IsSliceOf sl vl vu .none) (pl : IsPart vl lo) (pu : IsPart vu hi)
    (h : Q (((sIx n 0 lo : Nat) : Int), 1, sIx n n hi - sIx n 0 lo) s) : wpAny (model prog w) A (Builtin.Slice.sliceApplied (.ref sl) (pure (n : Int))) Q E s := by
  obtain ⟨os, hos, hcs, hds⟩ := id hs
  unfold Builtin.Slice.sliceApplied Builtin.Slice.sliceFields
  refine wpAny_bind (wpAny_bind (wpAny_field hos hds (x := vl) rfl (wpAny_bind (wpAny_field hos hds (x := vu) rfl (wpAny_bind (wpAny_field hos hds (x := .none) rfl (wpAny_pure ?_)))))))
  refine wpAny_bind (slicePart_none ?_)
  show wpAny _ _ (if ((1 : Int) == 0) = true then _ else _) _ _ s
  rw [if_neg (by decide)]
  refine wpAny_bind (slicePart_ pl (wpAny_bind (slicePart_ pu (wpAny_bind (wpAny_pure ?_)))))
  show wpAny _ _ (match Builtin.Slice.sliceAdjust lo hi 1 (n : Int) with | (lo, hi) => pure (lo, (1 : Int), Builtin.Slice.slicePlaces lo hi 1)) _ _ s
  rw [adjust_gen lo hi n]
  show wpAny _ _ (pure (((sIx n 0 lo : Nat) : Int), (1 : Int), Builtin.Slice.slicePlaces ((sIx n 0 lo : Nat) : Int) ((sIx n n hi : Nat) : Int) 1)) _ _ s
  rw [places_gen]
  exact wpAny_pure h
theorem pick_gen (xs : Array Value) (i k : Nat) : ((List.range k).filterMap fun (m : Nat) => xs[((i : Int) + (m : Int) * 1).toNat]?).toArray = ((xs.toList.drop i).take k).toArray := by
  have e : (fun (m : Nat) => xs[((i : Int) + (m : Int) * 1).toNat]?) = fun m => xs[i + m]? := by
    funext m
    have : ((i : Int) + (m : Int) * 1).toNat = i + m := by omega
    rw [this]
  rw [e]
  have := pick_run xs i k
  rw [List.filterMap_map] at this
  have e2 : ((fun x => xs[x]?) ∘ fun x => i + x) = fun m => xs[i + m]? := rfl
  rw [e2] at this
  rw [this]
theorem getItem_tuple_cut {t sl : Addr} {items : Array Value} {vl vu : Value} {lo hi : Option Int} {Q : Value → Shared → Prop} (ht : IsTup s.heap t items) (hs : s.heap.IsSliceOf sl vl vu .none) (pl : IsPart vl lo) (pu : IsPart vu hi)
    (hw : ¬ (sIx items.size 0 lo = 0 ∧ sIx items.size items.size hi = items.size))
    (h : Q (.ref s.heap.objs.size) { s with heap := s.heap.push { cls := .type "tuple", data := .seq ((items.toList.drop (sIx items.size 0 lo)).take (sIx items.size items.size hi - sIx items.size 0 lo)).toArray } })
    (hsz : items.size ≤ sizeLine) : wpAny (model prog w) A (getItem (.ref t) (.ref sl)) Q E s := by
  have htake : sizeOk (.seq ((items.toList.drop (sIx items.size 0 lo)).take (sIx items.size items.size hi - sIx items.size 0 lo)).toArray) := by
    show ((items.toList.drop (sIx items.size 0 lo)).take (sIx items.size items.size hi - sIx items.size 0 lo)).toArray.size ≤ sizeLine
    rw [List.size_toArray, List.length_take, List.length_drop, Array.length_toList]
    omega
  have hj : sIx items.size items.size hi ≤ items.size := sIx_le _ _ (Nat.le_refl _) hi
  obtain ⟨os, hos, hcs, hds⟩ := id hs
  have hTs : s.TypeIs (.ref sl) "slice" := ⟨os, hos, hcs⟩
  unfold getItem
  try with_reducible refine wpAny_holding ?_
  first | refine wpAny_bind (wpAny_pure ?_) | skip
  refine wpAny_bind (wpAny_sequenceKey ht.typeIs (by decide) ?_)
  refine wpAny_bind (wpAny_callSpecial?_slot (name := Str.ofString "__getitem__") ht.typeIs PyProof.Rows.slot_tuple_getitem
    (wpAny_call_entry PyProof.Rows.slot_tuple_getitem ht.typeIs entry_tuple_getitem ?_ (args_tuple_getitem _ _)))
  show wpAny _ _ (Builtin.Tuple.tupleItemsOf (.ref t) >>= _) _ _ s
  refine wpAny_bind (tupleItemsOf_ ht ?_)
  refine wpAny_bind (wpAny_typeOf hTs ?_)
  rw [if_pos (by decide)]
  refine wpAny_bind (sliceApplied_gen hs pl pu ?_)
  have hno : ¬ ((((sIx items.size 0 lo : Nat) : Int) == 0 && (1 : Int) == 1 && (sIx items.size items.size hi - sIx items.size 0 lo) == items.size) = true) := by
    intro q
    rw [Bool.and_eq_true, Bool.and_eq_true] at q
    have q1 : ((sIx items.size 0 lo : Nat) : Int) = 0 := eq_of_beq q.1.1
    have q2 : sIx items.size items.size hi - sIx items.size 0 lo = items.size := eq_of_beq q.2
    exact hw ⟨by omega, by omega⟩
  show wpAny _ _ (if (((sIx items.size 0 lo : Nat) : Int) == 0 && (1 : Int) == 1 && (sIx items.size items.size hi - sIx items.size 0 lo) == items.size) = true then _ else _) _ _ s
  rw [if_neg hno, pick_gen]
  first
    | exact wpAny_bind (m := Builtin.Tuple.tupleExact _) (wpAny_newObj_type (wpAny_pure ⟨_, rfl, wpAny_pure h⟩) htake)
    | exact wpAny_bind (m := Builtin.Tuple.tupleExact _) (wpAny_newObj_type (wpAny_bind (wpAny_pure (wpAny_pure ⟨_, rfl, wpAny_pure h⟩))) htake)
    | exact wpAny_bind (wpAny_bind (m := Builtin.Tuple.tupleExact _) (wpAny_newObj_type (wpAny_pure (wpAny_pure ⟨_, rfl, wpAny_pure h⟩)) htake))
    | exact wpAny_bind (wpAny_bind (m := Builtin.Tuple.tupleExact _) (wpAny_newObj_type (wpAny_pure ⟨_, rfl, wpAny_pure h⟩) htake))
end
end HT
namespace L2
open PySem PySem.Spec PyProof.Rows
noncomputable abbrev TO := St → Hp → (Option Int → Hp → Prop) → Prop
noncomputable def PO (X : Cx) (e : Option Expr) (t : TO) : Prop :=
  ∀ (pins : List (Addr × Obj)) (s : Shared) (σ : St) (H : Hp) (Q : Option Int → Hp → Prop), Inv X pins σ H s → t σ H Q →
    wpAny (model X.prog X.w) X.A (evalPart e X.env) (fun u s' => ∃ o H', Inv X pins σ H' s' ∧ IsPart u o ∧ Q o H') X.xe s
noncomputable def tNoPart : TO := fun _ H Q => Q none H
noncomputable def tPart (t : TE) : TO := fun σ H Q => t σ H fun x H1 => ∃ i, x = .int i ∧ Q (some i) H1
section
variable {X : Cx} {e : Expr} {te : TE} {lo hi : Option Expr} {tl th : TO} {pos p2 : Pos}
theorem po_none : PO X none tNoPart := by
  intro pins s σ H Q I h
  rw [evalPart_none]
  exact wpAny_pure ⟨none, H, I, .none, h⟩
theorem po_some (h : PE X e te) : PO X (some e) (tPart te) := by
  intro pins s σ H Q I hw
  rw [evalPart_some]
  refine thn (h pins s σ H _ I hw) fun u s1 ⟨x, H1, I1, r1, q1⟩ => ?_
  obtain ⟨i, rfl, q⟩ := q1
  obtain ⟨t, rfl⟩ := r1
  exact ⟨some i, H1, I1, .int i t, q⟩
noncomputable def SlR (X : Cx) (r : V → Option Int → Option Int → Hp → VK → Prop) : Prop :=
  ∀ (pins : List (Addr × Obj)) (s : Shared) (σ : St) (H : Hp) (x : V) (v vl vu : Value) (lo hi : Option Int) (sl : Addr) (Q : VK), Inv X pins σ H s → RelV x v → s.heap.IsSliceOf sl vl vu .none → IsPart vl lo → IsPart vu hi → r x lo hi H Q →
    ∃ T id, typeLookup (.type T) "__getitem__" = pure (some (.builtin id)) ∧ s.TypeIs v T ∧ wpAny (model X.prog X.w) X.A (getItem v (.ref sl)) (EP X pins σ Q) X.xe s
theorem SlR.or {r r' : V → Option Int → Option Int → Hp → VK → Prop} (h : SlR X r) (h' : SlR X r') : SlR X (fun x lo hi H Q => r x lo hi H Q ∨ r' x lo hi H Q) := by
  intro pins s σ H x v vl vu lo hi sl Q I rx hs pl pu q
  rcases q with q | q
  · exact h pins s σ H x v vl vu lo hi sl Q I rx hs pl pu q
  · exact h' pins s σ H x v vl vu lo hi sl Q I rx hs pl pu q
noncomputable def tSl (r : V → Option Int → Option Int → Hp → VK → Prop) (te : TE) (tl th : TO) : TE := fun σ H Q => te σ H fun x H1 => tl σ H1 fun l H2 => th σ H2 fun u H3 => r x l u H3 Q
theorem pe_slice {r : V → Option Int → Option Int → Hp → VK → Prop} (hr : SlR X r) (he : PE X e te) (hl : PO X lo tl) (hu : PO X hi th) : PE X (.Subscript e (.Slice lo hi none p2) pos) (tSl r te tl th) := by
  intro pins s σ H Q I h
  refine Subscript_ (thn (he pins s σ H _ I h) fun v s1 ⟨x, H1, I1, r1, q1⟩ => ?_)
  refine wpAny_Slice (thn (hl pins s1 σ H1 _ I1 q1) fun vl s2 ⟨l, H2, I2, pl, q2⟩ => thn (hu pins s2 σ H2 _ I2 q2) fun vu s3 ⟨u, H3, I3, pu, q3⟩ => ?_)
  rw [evalPart_none]
  refine wpAny_pure ?_
  have I4 : Inv X pins σ H3 { s3 with heap := s3.heap.push { cls := .type "slice", data := .fields #[vl, vu, .none] } } := I3.kept (t' := s3.toks) fun b ob q => Heap.get?_push_of_some _ q
  obtain ⟨T, id, hT, ht, hg⟩ := hr pins { s3 with heap := s3.heap.push { cls := .type "slice", data := .fields #[vl, vu, .none] } } σ H3 x v vl vu l u s3.heap.objs.size Q I4 r1 (Heap.IsSliceOf.new ..) pl pu q3
  show wpAny (model X.prog X.w) X.A (subscriptTail e (.Slice lo hi none p2) v (.ref s3.heap.objs.size)) (EP X pins σ Q) X.xe { s3 with heap := s3.heap.push { cls := .type "slice", data := .fields #[vl, vu, .none] } }
  exact tail_any (ops := [.ref s3.heap.objs.size, v]) ht hT hg (by with_unfolding_all rfl)
noncomputable def cutV (xs : List V) (lo hi : Option Int) : List V := (xs.drop (HT.sIx xs.length 0 lo)).take (HT.sIx xs.length xs.length hi - HT.sIx xs.length 0 lo)
theorem cutV_length (xs : List V) (lo hi : Option Int) : (cutV xs lo hi).length ≤ xs.length := by
  unfold cutV
  rw [List.length_take, List.length_drop]
  omega
noncomputable def rSlT (K : PySem.W.Frag) : V → Option Int → Option Int → Hp → VK → Prop := fun x lo hi H Q => ∃ a xs, x = .ref a ∧ SqT K H a xs ∧
  ¬ (HT.sIx xs.length 0 lo = 0 ∧ HT.sIx xs.length xs.length hi = xs.length) ∧ ∀ p, H p = none → Q (.ref p) (upd H p (.tup (cutV xs lo hi)))
theorem sl_tup : SlR X (rSlT X.K) := by
  intro pins s σ H x v vl vu lo hi sl Q I rx hs pl pu h
  obtain ⟨a, xs, rfl, hx, hw, q⟩ := h
  cases rx
  obtain ⟨its, r, ht, hz⟩ := I.tuple hx
  have hlen : its.toArray.size = xs.length := by rw [List.size_toArray]; exact r.length.symm
  refine ⟨"tuple", _, PyProof.Rows.slot_tuple_getitem.lookup, ht.typeIs, ?_⟩
  refine HT.getItem_tuple_cut ht hs pl pu (by rw [hlen]; exact hw) ?_ (by rw [hlen]; exact hz)
  rw [hlen]
  refine ⟨.ref s.heap.objs.size, _, I.laid (t' := s.toks) (o := .tup (cutV xs lo hi)) (fun b ob q => Heap.get?_push_of_some _ q) (Nat.le_refl _) ?_, rfl, q _ (I.hok.fresh (Nat.le_refl _))⟩
  exact ⟨Nat.le_trans (cutV_length xs lo hi) hz, _, (r.drop (HT.sIx xs.length 0 lo)).take (HT.sIx xs.length xs.length hi - HT.sIx xs.length 0 lo), IsTup.new _ _⟩
theorem Vals.nil_iff {xs : List V} {us : List Value} (r : Vals xs us) : us = [] ↔ xs = [] := by
  cases r with
  | nil => simp
  | cons _ _ => simp
end
end L2
namespace L2
open PySem PySem.Spec PyProof.Rows
noncomputable def ixN (n : Nat) (i : Int) : Option Nat := if 0 ≤ i then (if i < n then some i.toNat else none) else if -(n : Int) ≤ i then some (i + n).toNat else none
noncomputable def atI {α : Type} (xs : List α) (i : Int) : Option α := (ixN xs.length i).bind fun j => xs[j]?
theorem ixN_seq {n : Nat} {i : Int} {j : Nat} (h : ixN n i = some j) : seqIndex? i n = some j ∧ j < n ∧ -(n : Int) ≤ i ∧ i < n := by
  unfold ixN at h
  by_cases h0 : 0 ≤ i
  · rw [if_pos h0] at h
    by_cases h1 : i < n
    · rw [if_pos h1] at h
      have e : i.toNat = j := Option.some.inj h
      exact ⟨by rw [seqIndex_of h0 h1, e], by omega, by omega, h1⟩
    · rw [if_neg h1] at h; cases h
  · rw [if_neg h0] at h
    by_cases h1 : -(n : Int) ≤ i
    · rw [if_pos h1] at h
      have e : (i + n).toNat = j := Option.some.inj h
      exact ⟨by rw [seqIndex_neg (by omega) h1, e], by omega, h1, by omega⟩
    · rw [if_neg h1] at h; cases h
theorem atI_get {α : Type} {xs : List α} {i : Int} {v : α} (h : atI xs i = some v) : ∃ j, seqIndex? i xs.length = some j ∧ xs[j]? = some v ∧ j < xs.length ∧ -(xs.length : Int) ≤ i ∧ i < xs.length := by
  unfold atI at h
  cases e : ixN xs.length i with
  | none => rw [e] at h; cases h
  | some j =>
    rw [e] at h
    obtain ⟨h1, h2, h3, h4⟩ := ixN_seq e
    exact ⟨j, h1, h, h2, h3, h4⟩
theorem atI_nat {α : Type} {xs : List α} {j : Nat} {v : α} (h : xs[j]? = some v) : atI xs (j : Int) = some v := by
  have hj : j < xs.length := (List.getElem?_eq_some_iff.mp h).1
  have e : ixN xs.length (j : Int) = some j := by
    unfold ixN
    rw [if_pos (by omega), if_pos (by omega)]; simp
  unfold atI; rw [e]; exact h
theorem atI_last {α : Type} (xs : List α) (v : α) : atI (xs ++ [v]) (-1) = some v := by
  have hl : (xs ++ [v]).length = xs.length + 1 := by simp
  have e : ixN (xs ++ [v]).length (-1) = some xs.length := by
    unfold ixN
    rw [hl, if_neg (by decide), if_pos (by omega)]
    congr 1
    omega
  unfold atI
  rw [e]
  show (xs ++ [v])[xs.length]? = some v
  simp
noncomputable def PlainIx (b : Expr) : Prop := ∀ o i, subscripted b false o i = operate [o, i] (getItem o i)
noncomputable def IxR (X : Cx) (r : R2) : Prop :=
  ∀ (value slice : Expr) (pins : List (Addr × Obj)) (s : Shared) (σ : St) (H : Hp) (x y : V) (v u : Value) (Q : VK), Inv X pins σ H s → RelV x v → RelV y u → r x y H Q →
    subscripted slice false v u = operate [v, u] (getItem v u) → wpAny (model X.prog X.w) X.A (subscriptTail value slice v u) (EP X pins σ Q) X.xe s
noncomputable def MtR (X : Cx) (id : String) (r : V → List V → Hp → VK → Prop) : Prop :=
  ∀ (pins : List (Addr × Obj)) (s : Shared) (σ : St) (H : Hp) (x : V) (xs : List V) (v : Value) (us : List Value) (Q : VK), Inv X pins σ H s → RelV x v → Vals xs us → r x xs H Q →
    wpAny (model X.prog X.w) X.A (call (.builtin id) (v :: us)) (EP X pins σ Q) X.xe s
section
variable {X : Cx} {a b : Expr} {ta tb : TE} {pos : Pos}
theorem IxR.or {r r' : R2} (h : IxR X r) (h' : IxR X r') : IxR X (fun x y H Q => r x y H Q ∨ r' x y H Q) := by
  intro value slice pins s σ H x y v u Q I rx ry q hs
  rcases q with q | q
  · exact h value slice pins s σ H x y v u Q I rx ry q hs
  · exact h' value slice pins s σ H x y v u Q I rx ry q hs
theorem MtR.or {id : String} {r r' : V → List V → Hp → VK → Prop} (h : MtR X id r) (h' : MtR X id r') : MtR X id (fun x xs H Q => r x xs H Q ∨ r' x xs H Q) := by
  intro pins s σ H x xs v us Q I rx rs q
  rcases q with q | q
  · exact h pins s σ H x xs v us Q I rx rs q
  · exact h' pins s σ H x xs v us Q I rx rs q
theorem pe_ix {r : R2} (hr : IxR X r) (ha : PE X a ta) (hb : PE X b tb) (hs : PlainIx b) : PE X (.Subscript a b pos) (tOp r ta tb) := by
  intro pins s σ H Q I h
  exact Subscript_ (binT ha hb I h fun v u s2 x y H2 I2 rx ry q => hr a b pins s2 σ H2 x y v u Q I2 rx ry q (hs _ _))
noncomputable def rIxL (K : PySem.W.Frag) : R2 := fun x y H Q => ∃ p xs i v, x = .ref p ∧ y = .int i ∧ SqL K H p xs ∧ atI xs i = some v ∧ Q v H
noncomputable def rIxT (K : PySem.W.Frag) : R2 := fun x y H Q => ∃ p xs i v, x = .ref p ∧ y = .int i ∧ SqT K H p xs ∧ atI xs i = some v ∧ Q v H
noncomputable def rIxS : R2 := fun x y H Q => ∃ z i c, x = .str z ∧ y = .int i ∧ z.length ≤ sizeLine ∧ atI z.cps.toList i = some c ∧ Q (.str ⟨#[c]⟩) H
theorem ix_list : IxR X (rIxL X.K) := by
  intro value slice pins s σ H x y v u Q I rx ry h hs
  obtain ⟨p, xs, i, z, rfl, rfl, hq, he, q⟩ := h
  cases rx
  obtain ⟨t, rfl⟩ := ry
  obtain ⟨its, r, pl, hz⟩ := I.list hq
  obtain ⟨j, h1, h2, h3, h4, h5⟩ := atI_get he
  obtain ⟨w, ew, rw'⟩ := r.get h2
  have hl := r.length
  have hn := line63
  have fin : EP X pins σ Q w s := ⟨z, H, I, rw', q⟩
  by_cases h0 : 0 ≤ i
  · have hj : i.toNat = j := by
      rw [seqIndex_of h0 h5] at h1
      exact Option.some.inj h1
    exact item_listR pl.isList h0 (by omega) (by rw [hj]; simpa using ew) fin hs
  · have hj : (i + (its.toArray.size : Int)).toNat = j := by
      rw [seqIndex_neg (by omega) h4] at h1
      rw [List.size_toArray, ← hl]
      exact Option.some.inj h1
    exact subscriptTail_builtinR (x := w) pl.isList.typeIs slot_list_getitem.lookup
      (wpAny_getItem_list_neg (Q := fun r s' => r = w ∧ EP X pins σ Q r s') pl.isList (by omega) (by rw [List.size_toArray] <;> omega) (by omega) (by rw [hj]; simpa using ew) ⟨rfl, fin⟩) hs
theorem ix_tup : IxR X (rIxT X.K) := by
  intro value slice pins s σ H x y v u Q I rx ry h hs
  obtain ⟨p, xs, i, z, rfl, rfl, hq, he, q⟩ := h
  cases rx
  obtain ⟨t, rfl⟩ := ry
  obtain ⟨its, r, pl, hz⟩ := I.tuple hq
  obtain ⟨j, h1, h2, h3, h4, h5⟩ := atI_get he
  obtain ⟨w, ew, rw'⟩ := r.get h2
  have hl := r.length
  have hn := line63
  have fin : EP X pins σ Q w s := ⟨z, H, I, rw', q⟩
  exact subscriptTail_builtinR (x := w) pl.typeIs slot_tuple_getitem.lookup
    (getItem_tuple (j := j) (Q := fun r s' => r = w ∧ EP X pins σ Q r s') pl (by omega) (by omega) (by rw [List.size_toArray, ← hl]; exact h1) (by simpa using ew) ⟨rfl, fin⟩) hs
theorem ix_str : IxR X rIxS := by
  intro value slice pins s σ H x y v u Q I rx ry h hs
  obtain ⟨z, i, c, rfl, rfl, hz, he, q⟩ := h
  obtain ⟨t, rfl⟩ := rx
  obtain ⟨t', rfl⟩ := ry
  obtain ⟨j, h1, h2, h3, h4, h5⟩ := atI_get he
  have hl : z.cps.toList.length = z.length := by simp [Str.length]
  rw [hl] at h1 h4 h5
  have hn := line63
  exact tail_any (typeIs_str s z t) slot_str_getitem.lookup (getItem_str (c := c) (by
    have e1 : decide (i < -(2 ^ 63 : Int)) = false := decide_eq_false (by omega)
    have e2 : decide (i ≥ 2 ^ 63) = false := decide_eq_false (by omega)
    rw [e1, e2, Bool.or_false]) (by rw [h1]; simpa using h2) ⟨.str ⟨#[c]⟩, H, I.tok _, ⟨_, rfl⟩, q⟩) hs
noncomputable def rIx (K : PySem.W.Frag) : R2 := fun x y H Q => rIxL K x y H Q ∨ rIxT K x y H Q ∨ rIxS x y H Q
theorem ix_seq : IxR X (rIx X.K) := ix_list.or (ix_tup.or ix_str)
theorem mapSeq_set (its : List Value) (n j : Nat) (u : Value) : Obj.mapSeq (·.setIfInBounds j u) { cls := .type "list", data := .seq its.toArray n } = { cls := .type "list", data := .seq (its.set j u).toArray n } := by
  simp [Obj.mapSeq]
theorem Inv.lst {pins : List (Addr × Obj)} {σ : St} {H : Hp} {s : Shared} {p : Addr} {xs : List V} (I : Inv X pins σ H s) (h : H p = some (.lst xs)) :
    ∃ (its : List Value) (n : Nat), Vals xs its ∧ s.heap.get? p = some { cls := .type "list", data := .seq its.toArray n } ∧ xs.length ≤ sizeLine := by
  obtain ⟨z, its, n, r, e⟩ := I.hok p _ h
  exact ⟨its, n, r, e, z⟩
theorem Inv.lstUpd {pins : List (Addr × Obj)} {σ : St} {H : Hp} {s : Shared} {p : Addr} {xs ys : List V} {its its' : List Value} {n n' : Nat} {f : Obj → Obj} (I : Inv X pins σ H s) (h : H p = some (.lst xs))
    (ho : s.heap.get? p = some { cls := .type "list", data := .seq its.toArray n }) (hf : f { cls := .type "list", data := .seq its.toArray n } = { cls := .type "list", data := .seq its'.toArray n' }) (r : Vals ys its') (hz : ys.length ≤ sizeLine) (t : Nat) :
    Inv X pins σ (upd H p (.lst ys)) { s with heap := s.heap.update p f, toks := t } := by
  have e : (s.heap.update p f).get? p = some { cls := .type "list", data := .seq its'.toArray n' } := by
    rw [Heap.get?_update_self f ho (by rw [hf] <;> rfl), hf]
  refine I.write (x := p) (e := p) (by rw [h]; trivial) (.inl rfl) (fun b u hb q => (Heap.get?_update_other _ _ (Ne.symm hb)).trans q) ⟨_, e⟩ ?_
  exact ⟨hz, its', n', r, e⟩
noncomputable def rSetL : V → V → V → Hp → (Hp → Prop) → Prop := fun o i v H Q => ∃ p xs k j, o = .ref p ∧ i = .int k ∧ H p = some (.lst xs) ∧ ixN xs.length k = some j ∧ Q (upd H p (.lst (xs.set j v)))
theorem set_list : PSet X rSetL := by
  intro pins s σ H o i v ov iv u Q I ro ri rv h
  obtain ⟨p, xs, k, j, rfl, rfl, hp, hj, q⟩ := h
  cases ro
  obtain ⟨t, rfl⟩ := ri
  obtain ⟨its, n, r, ho, hz⟩ := I.lst hp
  obtain ⟨h1, h2, h3, h4⟩ := ixN_seq hj
  have hl := r.length
  have hn := line63
  have I' : Inv X pins σ (upd H p (.lst (xs.set j v))) { s with heap := s.heap.update p (Obj.mapSeq (·.setIfInBounds j u)) } :=
    I.lstUpd hp ho (mapSeq_set its n j u) (r.set rv j) (by rw [List.length_set]; exact hz) s.toks
  by_cases h0 : 0 ≤ k
  · have hk : k.toNat = j := by
      rw [seqIndex_of h0 h4] at h1
      exact Option.some.inj h1
    exact PySem.W.ki_setAt ho h0 (by omega) (by rw [List.size_toArray, ← hl]; exact h4) (by rw [hk]; exact ⟨_, I', q⟩)
  · have hk : (k + (its.toArray.size : Int)).toNat = j := by
      rw [seqIndex_neg (by omega) h3] at h1
      rw [List.size_toArray, ← hl]
      exact Option.some.inj h1
    exact PySem.W.ki_setBack ho (by omega) (by rw [List.size_toArray, ← hl]; exact h3) (by omega) (by rw [hk]; exact ⟨_, I', q⟩)
theorem slice_bounds (lo hi : Option Int) (n : Nat) : (sliceBounds lo hi none n).1 = ((HT.sIx n 0 lo : Nat) : Int) ∧ (sliceBounds lo hi none n).2.1 = ((HT.sIx n n hi : Nat) : Int) ∧ (sliceBounds lo hi none n).2.2 = 1 := by
  refine ⟨?_, ?_, rfl⟩
  · cases lo with
    | none => simp [sliceBounds, HT.sIx]
    | some i =>
      simp only [sliceBounds, HT.sIx, Option.getD_none, show (1 : Int) > 0 by decide, if_true]
      by_cases h : i < 0
      · simp only [h, if_true] <;> omega
      · simp only [h, if_false] <;> omega
  · cases hi with
    | none => simp [sliceBounds, HT.sIx]
    | some i =>
      simp only [sliceBounds, HT.sIx, Option.getD_none, show (1 : Int) > 0 by decide, if_true]
      by_cases h : i < 0
      · simp only [h, if_true] <;> omega
      · simp only [h, if_false] <;> omega
theorem slicePick_cut (its : List Value) (lo hi : Option Int) : slicePick its.toArray lo hi none = ((its.drop (HT.sIx its.length 0 lo)).take (HT.sIx its.length its.length hi - HT.sIx its.length 0 lo)).toArray := by
  obtain ⟨h1, h2, h3⟩ := slice_bounds lo hi its.toArray.size
  unfold slicePick
  rw [h1, h2, h3]
  simp only [sliceRange_one, pick_run, List.size_toArray] <;> rfl
noncomputable def rSlL (K : PySem.W.Frag) : V → Option Int → Option Int → Hp → VK → Prop := fun x lo hi H Q => ∃ a xs, x = .ref a ∧ SqL K H a xs ∧ ∀ p, H p = none → Q (.ref p) (upd H p (.lst (cutV xs lo hi)))
theorem sl_list : SlR X (rSlL X.K) := by
  intro pins s σ H x v vl vu lo hi sl Q I rx hs pl pu h
  obtain ⟨a, xs, rfl, hx, q⟩ := h
  cases rx
  obtain ⟨its, r, ht, hz⟩ := I.list hx
  have hlen := r.length
  refine ⟨"list", _, slot_list_getitem.lookup, ht.isList.typeIs, ?_⟩
  refine wpAny_getItem_list_slice ht.isList hs pl pu .none (by simp) ?_ (by rw [List.size_toArray] <;> omega)
  rw [slicePick_cut, ← hlen]
  refine ⟨.ref s.heap.objs.size, _, I.laid (t' := s.toks) (o := .lst (cutV xs lo hi)) (fun b ob q => Heap.get?_push_of_some _ q) (Nat.le_refl _) ?_, rfl, q _ (I.hok.fresh (Nat.le_refl _))⟩
  exact ⟨Nat.le_trans (cutV_length xs lo hi) hz, _, 0, (r.drop (HT.sIx xs.length 0 lo)).take (HT.sIx xs.length xs.length hi - HT.sIx xs.length 0 lo), Heap.get?_push_size _ rfl⟩
noncomputable def flatV : V → Bool
  | .non => true
  | .bl _ => true
  | .int _ => true
  | .str _ => true
  | _ => false
noncomputable def eqV : V → V → Bool
  | .non, .non => true
  | .bl a, .bl b => a == b
  | .bl a, .int b => (if a then 1 else 0) == b
  | .int a, .bl b => a == (if b then 1 else 0)
  | .int a, .int b => a == b
  | .str a, .str b => a == b
  | _, _ => false
theorem eqAt_V {A : Around} {s : Shared} {y x : V} {u v : Value} (ry : RelV y u) (rx : RelV x v) (fy : flatV y = true) (fx : flatV x = true) : SeqAt.EqAt A s u v (eqV y x) := by
  cases y with
  | non =>
    cases ry
    cases x with
    | non => cases rx; exact SeqAt.EqAt.same _
    | bl b => cases rx; exact SeqAt.EqAt.none_bool b
    | int b => obtain ⟨t, rfl⟩ := rx; exact SeqAt.EqAt.none_int b t
    | str b => obtain ⟨t, rfl⟩ := rx; exact SeqAt.EqAt.none_str b t
    | _ => exact absurd (show false = true from fx) Bool.false_ne_true
  | bl a =>
    cases ry
    cases x with
    | non => cases rx; exact SeqAt.EqAt.bool_none a
    | bl b => cases rx; exact SeqAt.EqAt.bool_bool a b
    | int b => obtain ⟨t, rfl⟩ := rx; exact SeqAt.EqAt.bool_int a b t
    | str b => obtain ⟨t, rfl⟩ := rx; exact SeqAt.EqAt.bool_str a b t
    | _ => exact absurd (show false = true from fx) Bool.false_ne_true
  | int a =>
    obtain ⟨t', rfl⟩ := ry
    cases x with
    | non => cases rx; exact SeqAt.EqAt.int_none a t'
    | bl b => cases rx; exact SeqAt.EqAt.int_bool a t' b
    | int b => obtain ⟨t, rfl⟩ := rx; exact SeqAt.EqAt.int_int a t' b t
    | str b => obtain ⟨t, rfl⟩ := rx; exact SeqAt.EqAt.int_str a t' b t
    | _ => exact absurd (show false = true from fx) Bool.false_ne_true
  | str a =>
    obtain ⟨t', rfl⟩ := ry
    cases x with
    | non => cases rx; exact SeqAt.EqAt.str_none a t'
    | bl b => cases rx; exact SeqAt.EqAt.str_bool a t' b
    | int b => obtain ⟨t, rfl⟩ := rx; exact SeqAt.EqAt.str_int a t' b t
    | str b => obtain ⟨t, rfl⟩ := rx; exact SeqAt.EqAt.str_str a t' b t
    | _ => exact absurd (show false = true from fx) Bool.false_ne_true
  | _ => exact absurd (show false = true from fy) Bool.false_ne_true
noncomputable def eqU (x : V) (u : Value) : Bool := match u with
  | .none => eqV .non x
  | .bool b => eqV (.bl b) x
  | .int i _ => eqV (.int i) x
  | .str z _ => eqV (.str z) x
  | _ => false
theorem eqU_of {x y : V} {u : Value} (r : RelV y u) (f : flatV y = true) : eqU x u = eqV y x := by
  cases y with
  | non => cases r; rfl
  | bl b => cases r; rfl
  | int i => obtain ⟨t, rfl⟩ := r; rfl
  | str z => obtain ⟨t, rfl⟩ := r; rfl
  | _ => exact absurd (show false = true from f) Bool.false_ne_true
theorem any_eqU {x : V} : ∀ {xs : List V} {us : List Value}, Vals xs us → xs.all flatV = true → us.any (eqU x) = xs.any fun y => eqV y x
  | _, _, .nil, _ => rfl
  | y :: xs, u :: us, .cons r t, f => by
    rw [List.all_cons, Bool.and_eq_true] at f
    rw [List.any_cons, List.any_cons, eqU_of r f.1, any_eqU t f.2]
theorem mem_eqAt {A : Around} {s : Shared} {x : V} {v : Value} (rx : RelV x v) (fx : flatV x = true) : ∀ {xs : List V} {us : List Value}, Vals xs us → xs.all flatV = true → ∀ u ∈ us, SeqAt.EqAt A s u v (eqU x u)
  | _, _, .nil, _ => fun u hu => by cases hu
  | y :: xs, u :: us, .cons r t, f => fun u' hu => by
    rw [List.all_cons, Bool.and_eq_true] at f
    rcases List.mem_cons.mp hu with rfl | hu
    · rw [eqU_of r f.1]; exact eqAt_V r rx f.1 fx
    · exact mem_eqAt rx fx t f.2 u' hu
noncomputable def inV (x : V) (xs : List V) : Bool := xs.any fun y => eqV y x
noncomputable def rIn (K : PySem.W.Frag) (neg : Bool) : R2 := fun x y H Q => ∃ p xs, y = .ref p ∧ (SqL K H p xs ∨ SqT K H p xs) ∧ flatV x = true ∧ xs.all flatV = true ∧ Q (.bl (if neg then !inV x xs else inV x xs)) H
theorem op_in_seq : OpR X (compareOp .In) (rIn X.K false) := by
  intro pins s σ H x y v u Q I rx ry h
  obtain ⟨p, xs, rfl, hq, fx, fs, q⟩ := h
  cases ry
  rcases hq with hq | hq
  · obtain ⟨its, r, pl, hz⟩ := I.list hq
    refine SeqAt.in_listAt (eqU x) pl.isList (fun w hw => mem_eqAt rx fx r fs w (by simpa using hw)) ⟨.bl _, H, I, rfl, ?_⟩
    rw [show its.toArray.any (eqU x) = its.any (eqU x) by simp, any_eqU r fs]
    exact q
  · obtain ⟨its, r, pl, hz⟩ := I.tuple hq
    refine SeqAt.in_tupleAt (eqU x) pl (fun w hw => mem_eqAt rx fx r fs w (by simpa using hw)) ⟨.bl _, H, I, rfl, ?_⟩
    rw [show its.toArray.any (eqU x) = its.any (eqU x) by simp, any_eqU r fs]
    exact q
theorem call_len_seq : CallR X (.builtin "len") (fun xs H Q => ∃ p ys, xs = [.ref p] ∧ (SqL X.K H p ys ∨ SqT X.K H p ys) ∧ Q (.int ys.length) H) := by
  intro pins s σ H xs us Q I r h
  obtain ⟨p, ys, rfl, hq, q⟩ := h
  obtain ⟨u, rfl, rx⟩ := vals1 r
  cases rx
  have hn := line63
  rcases hq with hq | hq
  · obtain ⟨its, r', pl, hz⟩ := I.list hq
    have hlen := r'.length
    exact Calls.call_len_list pl.isList (by simp only [List.size_toArray] <;> omega) ⟨.int ys.length, H, I.tok _, ⟨s.toks + 1, by rw [List.size_toArray, hlen]⟩, q⟩
  · obtain ⟨its, r', pl, hz⟩ := I.tuple hq
    have hlen := r'.length
    exact len_tuple pl (by simp only [List.size_toArray] <;> omega) ⟨.int ys.length, H, I.tok _, ⟨s.toks + 1, by rw [List.size_toArray, hlen]⟩, q⟩
theorem call_len_str : CallR X (.builtin "len") (fun xs H Q => ∃ z, xs = [.str z] ∧ z.length ≤ sizeLine ∧ Q (.int z.length) H) := by
  intro pins s σ H xs us Q I r h
  obtain ⟨z, rfl, hz, q⟩ := h
  obtain ⟨u, rfl, t, rfl⟩ := vals1 r
  have hn := line63
  exact len_str (by omega) ⟨.int z.length, H, I.tok _, ⟨_, rfl⟩, q⟩
theorem CallR.or {f : Value} {r r' : List V → Hp → VK → Prop} (h : CallR X f r) (h' : CallR X f r') : CallR X f (fun xs H Q => r xs H Q ∨ r' xs H Q) := by
  intro pins s σ H xs us Q I rs q
  rcases q with q | q
  · exact h pins s σ H xs us Q I rs q
  · exact h' pins s σ H xs us Q I rs q
theorem call_list_of : CallR X (.type "list") (fun xs H Q => ∃ p ys, xs = [.ref p] ∧ (SqL X.K H p ys ∨ SqT X.K H p ys) ∧ ∀ l, H l = none → Q (.ref l) (upd H l (.lst ys))) := by
  intro pins s σ H xs us Q I r h
  obtain ⟨p, ys, rfl, hq, q⟩ := h
  obtain ⟨u, rfl, rx⟩ := vals1 r
  cases rx
  have fin : ∀ (its : List Value), Vals ys its → ys.length ≤ sizeLine → ∀ (h' : Heap) (c' : Nat), (∀ b o', s.heap.get? b = some o' → h'.get? b = some o') →
      h'.get? s.heap.objs.size = some { cls := .type "list", dict := none, data := .seq its.toArray c', slots := #[] } → EP X pins σ Q (.ref s.heap.objs.size) { s with heap := h' } := fun its r' hz h' c' kp e =>
    ⟨.ref s.heap.objs.size, _, I.laid (t' := s.toks) kp (Nat.le_refl _) (show ObjOk X.prog X.w _ h' _ (.lst ys) from ⟨hz, its, c', r', e⟩), rfl, q _ (I.hok.fresh (Nat.le_refl _))⟩
  rcases hq with hq | hq
  · obtain ⟨its, r', pl, hz⟩ := I.list hq
    have hlen := r'.length
    obtain ⟨o, ho, hc, n, hd⟩ := pl.isList
    exact call_list_seq p (.inl rfl) ho hc hd (fun h' c' kp e => fin its r' hz h' c' kp e) (by simp only [List.size_toArray] <;> omega)
  · obtain ⟨its, r', pl, hz⟩ := I.tuple hq
    have hlen := r'.length
    obtain ⟨o, ho, hc, n, hd⟩ := pl
    exact call_list_seq p (.inr rfl) ho hc hd (fun h' c' kp e => fin its r' hz h' c' kp e) (by simp only [List.size_toArray] <;> omega)
theorem call_tuple_of : CallR X (.type "tuple") (fun xs H Q => ∃ p ys, xs = [.ref p] ∧ ((SqL X.K H p ys ∧ ∀ l, H l = none → Q (.ref l) (upd H l (.tup ys))) ∨ (SqT X.K H p ys ∧ Q (.ref p) H))) := by
  intro pins s σ H xs us Q I r h
  obtain ⟨p, ys, rfl, h⟩ := h
  obtain ⟨u, rfl, rx⟩ := vals1 r
  cases rx
  rcases h with ⟨hq, q⟩ | ⟨hq, q⟩
  · obtain ⟨its, r', pl, hz⟩ := I.list hq
    have hlen := r'.length
    refine call_tuple_list pl.isList (fun h' kp => ?_) (by simp only [List.size_toArray] <;> omega)
    have I1 : Inv X pins σ H { s with heap := h' } := I.kept (t' := s.toks) kp
    have I2 : Inv X pins σ (upd H h'.objs.size (.tup ys)) { s with heap := h'.push { cls := .type "tuple", data := .seq its.toArray } } :=
      I1.laid (t' := s.toks) (fun b o e => Heap.get?_push_of_some _ e) (Nat.le_refl _) (show ObjOk X.prog X.w _ _ _ (.tup ys) from ⟨hz, its, r', IsTup.new _ _⟩)
    exact ⟨.ref h'.objs.size, _, I2, rfl, q _ (I1.hok.fresh (Nat.le_refl _))⟩
  · obtain ⟨its, r', pl, hz⟩ := I.tuple hq
    exact call_tuple_same pl ⟨.ref p, H, I, rfl, q⟩
noncomputable def tyV (K : PySem.W.Frag) (T : String) (x : V) (H : Hp) : Prop := match x with
  | .str _ => T = "str"
  | .int _ => T = "int"
  | .ref p => (T = "list" ∧ ∃ xs, SqL K H p xs) ∨ (T = "tuple" ∧ ∃ o, K.lookup p = some o ∧ o.cls = .type "tuple" ∧ o.dict = none) ∨
      (T = "dict" ∧ ((∃ kvs, H p = some (.dK kvs)) ∨ ∃ kvs, H p = some (.dT kvs))) ∨ (T = "set" ∧ ∃ S n, H p = some (.set S n))
  | _ => False
theorem tyV_is {pins : List (Addr × Obj)} {σ : St} {H : Hp} {s : Shared} {T : String} {x : V} {v : Value} (I : Inv X pins σ H s) (r : RelV x v) (ty : tyV X.K T x H) :
    s.TypeIs v T ∧ ∀ a, v = .ref a → ∃ ob, s.heap.get? a = some ob ∧ ob.dict = none := by
  cases x with
  | str z =>
    obtain ⟨t, rfl⟩ := r
    cases (show T = "str" from ty)
    exact ⟨typeIs_str s z t, fun _ e => nomatch e⟩
  | int i =>
    obtain ⟨t, rfl⟩ := r
    cases (show T = "int" from ty)
    exact ⟨typeIs_int s i t, fun _ e => nomatch e⟩
  | ref p =>
    cases r
    rcases ty with ⟨rfl, xs, hq⟩ | ⟨rfl, o, hk, hc, hd⟩ | ⟨rfl, hk⟩ | ⟨rfl, S, n, hk⟩
    · obtain ⟨its, _, pl, _⟩ := I.list hq
      refine ⟨pl.isList.typeIs, fun a e => ?_⟩
      cases e
      obtain ⟨o, n, e, c, hd, _⟩ := pl
      exact ⟨o, e, hd⟩
    · refine ⟨⟨o, I.kIn p o hk, hc⟩, fun a e => ?_⟩
      cases e
      exact ⟨o, I.kIn _ o hk, hd⟩
    · have z : ∃ o, s.heap.get? p = some o ∧ o.ExactDict := by
        rcases hk with ⟨kvs, hk⟩ | ⟨kvs, hk⟩
        · obtain ⟨_, _, _, _, o, _, _, e, ex, _⟩ := I.hok p _ hk
          exact ⟨o, e, ex⟩
        · obtain ⟨_, _, _, _, o, _, _, e, ex, _⟩ := I.hok p _ hk
          exact ⟨o, e, ex⟩
      obtain ⟨o, e, ex⟩ := z
      refine ⟨⟨o, e, ex.1⟩, fun a e2 => ?_⟩
      cases e2
      exact ⟨o, e, ex.2.1⟩
    · obtain ⟨o, _, _, _, e, ex, _⟩ := I.hok p _ hk
      refine ⟨⟨o, e, ex.1⟩, fun a e2 => ?_⟩
      cases e2
      exact ⟨o, e, ex.2.1⟩
  | _ => exact False.elim ty
noncomputable def tBM (K : PySem.W.Frag) (T : String) (r : V → List V → Hp → VK → Prop) (to : TE) (t : TA) : TE := fun σ H Q => to σ H fun x H1 => tyV K T x H1 ∧ t σ H1 fun xs H2 => r x xs H2 Q
variable {o e : Expr} {es : List Expr} {to : TE} {t : TA} {name : Str} {apos cpos : Pos} {T id : String} {r : V → List V → Hp → VK → Prop}
theorem pe_bm (pa : PlainAttrs T) (slot : Slot T name id) (hty : typeOf (.builtin id) = pure (.type "method_descriptor")) (hm : MtR X id r) (ho : PE X o to) (ha : PA X (e :: es) t)
    (hbase : attributeBase o name X.env (eval o X.env) = eval o X.env := by rfl)
    (hfew : ((backTo cpos (starEach (e :: es) X.env)).all (fun x => !x.1) && (backToKw cpos (keywordEach [] X.env)).all (fun x => x.1.isSome)
      && decide ((e :: es).length + ([] : List Keyword).length + (if ([] : List Keyword).isEmpty then 0 else 1) < 30)) = true := by rfl)
    (hline : (apos.endLine == cpos.line) = true := by rfl) (hs : starEach (e :: es) X.env = (false, eval e X.env) :: starEach es X.env := by rfl) (hplain : (backTo cpos (starEach es X.env)).any (·.1) = false := by rfl) :
    PE X (.Call (.Attribute o name apos) (e :: es) [] cpos) (tBM X.K T r to t) := by
  intro pins s σ H Q I h
  refine wpAny_Call_method_late hbase hfew hline rfl (thn (ho pins s σ H _ I h) fun v s1 ⟨x, H1, I1, r1, ty, q1⟩ => ?_)
  obtain ⟨h1, h2⟩ := tyV_is I1 r1 ty
  refine ⟨T, id, pa, slot, hty, h1, h2, ?_⟩
  have hA := ha cpos pins s1 σ H1 _ I1 q1
  rw [hs] at hA ⊢
  refine Calls.callWith_builtin (by show (false || (backTo cpos (starEach es X.env)).any (·.1)) = false; rw [hplain] <;> rfl) (Calls.evalArgs_plain ?_)
  exact thn hA fun us s2 ⟨vs, H2, I2, r2, q2⟩ => hm pins s2 σ H2 x vs v us Q I2 r1 r2 q2
end
end L2
namespace L2
open PySem PySem.Spec PyProof.Rows
noncomputable def MtM (X : Cx) (id : String) (r : V → List V → Hp → VK → Prop) : Prop :=
  ∀ (pins : List (Addr × Obj)) (s : Shared) (σ : St) (H : Hp) (x : V) (xs : List V) (v : Value) (us : List Value) (Q : VK), Inv X pins σ H s → RelV x v → Vals xs us → r x xs H Q →
    wpAny (model X.prog X.w) X.A (call (.builtin id) (v :: us)) (EP X pins σ Q) X.xe s
theorem Vals.one : ∀ {x : V} {us : List Value}, Vals [x] us → ∃ u, us = [u] ∧ RelV x u
  | _, _, .cons r .nil => ⟨_, rfl, r⟩
theorem Vals.two : ∀ {x y : V} {us : List Value}, Vals [x, y] us → ∃ u v, us = [u, v] ∧ RelV x u ∧ RelV y v
  | _, _, _, .cons r (.cons q .nil) => ⟨_, _, rfl, r, q⟩
theorem Vals.zero : ∀ {us : List Value}, Vals [] us → us = []
  | _, .nil => rfl
theorem Vals.rep {xs : List V} {us : List Value} (h : Vals xs us) : ∀ k : Nat, Vals (List.replicate k xs).flatten (List.replicate k us).flatten
  | 0 => .nil
  | k + 1 => by
    rw [List.replicate_succ, List.replicate_succ, List.flatten_cons, List.flatten_cons]
    exact Vals.append h (Vals.rep h k)
theorem foldl_rep (its : List Value) : ∀ (k : Nat) (acc : List Value),
    List.foldl (fun x1 x2 => x1 ++ x2) acc.toArray (List.replicate k its.toArray) = (acc ++ (List.replicate k its).flatten).toArray
  | 0, acc => by simp
  | k + 1, acc => by
    have e : acc.toArray ++ its.toArray = (acc ++ its).toArray := by simp
    have e2 : (acc ++ its) ++ (List.replicate k its).flatten = acc ++ (List.replicate (k + 1) its).flatten := by
      rw [List.replicate_succ, List.flatten_cons, List.append_assoc]
    rw [← e2, ← foldl_rep its k (acc ++ its), ← e, List.replicate_succ, List.foldl_cons]
section
variable {X : Cx} {pins : List (Addr × Obj)} {σ : St} {H : Hp} {s : Shared} {l b : Addr} {xs ys zs : List V}
theorem Inv.lset {its its' : List Value} {n : Nat} {f : Array Value → Array Value} {t' : Nat} (I : Inv X pins σ H s) (hH : H l = some (.lst xs))
    (e : s.heap.get? l = some { cls := .type "list", data := .seq its.toArray n }) (hf : f its.toArray = its'.toArray) (hv : Vals ys its') (hz : ys.length ≤ sizeLine) :
    Inv X pins σ (upd H l (.lst ys)) { s with heap := s.heap.update l (Obj.mapSeq f), toks := t' } := by
  have q := PySem.IsL.update e f
  rw [hf] at q
  refine I.write (x := l) (e := l) (by rw [hH]; exact trivial) (.inl rfl) (fun b' u hb hu => (Heap.get?_update_other s.heap (Obj.mapSeq f) (Ne.symm hb)).trans hu) ⟨_, q⟩ ?_
  exact ⟨hz, its', _, hv, q⟩
theorem Inv.lnew {its : List Value} {t' : Nat} (I : Inv X pins σ H s) (hv : Vals ys its) (hz : ys.length ≤ sizeLine) :
    Inv X pins σ (upd H s.heap.objs.size (.lst ys)) { s with heap := s.heap.push { cls := .type "list", data := .seq its.toArray }, toks := t' } :=
  I.laid (fun _ _ q => Heap.get?_push_of_some _ q) (Nat.le_refl _) ⟨hz, its, 0, hv, Heap.get?_push_size _ rfl⟩
theorem Inv.fresh (I : Inv X pins σ H s) : H s.heap.objs.size = none := I.hok.fresh (Nat.le_refl _)
theorem Inv.lstM (I : Inv X pins σ H s) (hH : H l = some (.lst xs)) : xs.length ≤ sizeLine ∧ ∃ (its : List Value) (n : Nat), Vals xs its ∧ xs.length = its.length ∧ s.heap.get? l = some { cls := .type "list", data := .seq its.toArray n } := by
  obtain ⟨z, its, n, r, e⟩ := I.hok l _ hH
  exact ⟨z, its, n, r, r.length, e⟩
theorem notLongL {n : Nat} (h : n ≤ sizeLine) : Builtin.List.listTooLong n = false := by
  unfold Builtin.List.listTooLong
  exact decide_eq_false (by omega)
end
section
variable {X : Cx}
noncomputable def rAppend : V → List V → Hp → VK → Prop := fun x vs H Q => ∃ l xs y, x = .ref l ∧ vs = [y] ∧ H l = some (.lst xs) ∧ xs.length < sizeLine ∧ Q .non (upd H l (.lst (xs ++ [y])))
theorem mt_append : MtM X "list.append" rAppend := by
  intro pins s σ H x vs v us Q I rx rv h
  obtain ⟨l, xs, y, rfl, rfl, hH, hz, q⟩ := h
  cases rx
  obtain ⟨u, rfl, ru⟩ := rv.one
  obtain ⟨z, its, n, r, hl, e⟩ := I.lstM hH
  refine call_meets F.slot_list_append ⟨_, e, rfl⟩ F.entry_list_append (F.args_list_append_2 _ _) (PySem.list_append l its.toArray n u (by rw [List.size_toArray]; omega)) ⟨e, ?_⟩
  refine ⟨.non, _, I.lset (its' := its ++ [u]) hH e (by simp) (r.append (.cons ru .nil)) ?_, rfl, q⟩
  rw [List.length_append, List.length_singleton]
  omega
noncomputable def rCat : R2 := fun x y H Q => ∃ l b xs zs, x = .ref l ∧ y = .ref b ∧ H l = some (.lst xs) ∧ H b = some (.lst zs) ∧ xs.length + zs.length ≤ sizeLine ∧ ∀ p, H p = none → Q (.ref p) (upd H p (.lst (xs ++ zs)))
theorem op_cat : OpR X (binaryOp .Add) rCat := by
  intro pins s σ H x y v u Q I rx ry h
  obtain ⟨l, b, xs, zs, rfl, rfl, hH, hB, hz, q⟩ := h
  cases rx
  cases ry
  obtain ⟨z, its, n, r, hl, e⟩ := I.lstM hH
  obtain ⟨z2, its2, n2, r2, hl2, e2⟩ := I.lstM hB
  refine PySem.P.add_list e e2 ?_ (by rw [List.size_toArray, List.size_toArray]; omega)
  have ea : its.toArray ++ its2.toArray = (its ++ its2).toArray := by simp
  rw [ea]
  exact ⟨.ref _, _, I.lnew (t' := s.toks) (r.append r2) (by rw [List.length_append]; omega), rfl, q _ I.fresh⟩
noncomputable def rRep : R2 := fun x y H Q => ∃ l k xs, x = .ref l ∧ y = .int k ∧ H l = some (.lst xs) ∧ -(2 ^ 63) ≤ k ∧ k < 2 ^ 63 ∧ xs.length * k.toNat ≤ sizeLine ∧
  ∀ p, H p = none → Q (.ref p) (upd H p (.lst (List.replicate k.toNat xs).flatten))
theorem len_rep {α : Type} (xs : List α) (k : Nat) : (List.replicate k xs).flatten.length = k * xs.length := by
  induction k with
  | zero => simp
  | succ k ih => rw [List.replicate_succ, List.flatten_cons, List.length_append, ih, Nat.succ_mul, Nat.add_comm]
theorem op_rep : OpR X (binaryOp .Mult) rRep := by
  intro pins s σ H x y v u Q I rx ry h
  obtain ⟨l, k, xs, rfl, rfl, hH, h1, h2, hz, q⟩ := h
  cases rx
  obtain ⟨t, rfl⟩ := ry
  obtain ⟨z, its, n, r, hl, e⟩ := I.lstM hH
  have hlen : its.toArray.size * k.toNat ≤ sizeLine := by rw [List.size_toArray, ← hl]; exact hz
  have hcap : ¬ its.toArray.size * k.toNat > (2 ^ 63 - 1) / 8 := by
    have : (sizeLine : Nat) ≤ (2 ^ 63 - 1) / 8 := by decide
    omega
  have hfit : ¬ (!Builtin.List.listFitsIndex k) = true := by
    rw [fitsIndex_both h1 h2]
    exact Bool.false_ne_true
  have hlong : ¬ Builtin.List.listTooLong (its.toArray.size * k.toNat) = true := by
    rw [notLongL hlen]
    exact Bool.false_ne_true
  have hnew : List.foldl (fun x1 x2 => x1 ++ x2) #[] (List.replicate (if its.toArray.isEmpty = true then 0 else k.toNat) its.toArray) = (List.replicate k.toNat its).flatten.toArray := by
    have f0 : ∀ m : Nat, List.foldl (fun x1 x2 => x1 ++ x2) #[] (List.replicate m its.toArray) = (List.replicate m its).flatten.toArray := fun m => by
      have := foldl_rep its m []
      rw [List.nil_append] at this
      exact this
    rw [f0]
    cases its with
    | nil => simp
    | cons a r' => rw [if_neg (by simp)]
  refine wpAny_binaryOp_repeat_ref (T := "list") (U := "int") (by decide) ⟨_, e, rfl⟩ (fun s' => typeIs_int s' k t) noFill_list_mul F.fills_int_mul F.slot_int_rmul repeat_list F.slot_int_index.lookup
    (call_meets F.slot_int_rmul (typeIs_int s k t) F.entry_int_rmul (F.args_int_rmul_2 _ _) (int___rmul___int_list k t l its.toArray n)
      ⟨e, rfl, ⟨_, e, rfl⟩, call_meets F.slot_list_mul ⟨_, e, rfl⟩ F.entry_list_mul (F.args_list_mul_2 _ _) (AutoListH.list___mul___list_int_3 l its.toArray n k t hfit hcap hlong) ⟨e, ?_⟩⟩)
  rw [hnew]
  exact ⟨.ref _, _, I.lnew (t' := s.toks) (r.rep k.toNat) (by rw [len_rep, Nat.mul_comm]; exact hz), rfl, q _ I.fresh⟩
end
end L2
namespace Att
open PySem PySem.W PySem.Calls PyProof.Rows
theorem ints_of_wellAll {P : Params} {h : Heap} : ∀ (ns : List Int) (vs : List Value), WellAll P h vs (ns.map WData.int) → IntsAre vs ns := by
  intro ns
  induction ns with
  | nil =>
    intro vs w
    rw [List.map_nil] at w
    cases w
    exact .nil
  | cons n ns ih =>
    intro vs w
    rw [List.map_cons] at w
    cases w with
    | cons a b =>
      cases a
      exact .cons _ _ (ih _ b)
theorem script_of {l : OpenLaw} {n : Nat} (hn : l.most = some n) {P : Params} {h : Heap} {args : List WData} {vals : List Value}
    (hpre : l.row.toRowW.claim.pre args = true) (hwl : WellAll P h vals args) :
    ∃ a vs ns, vals = [Value.ref a] ∧ args = [WData.list (ns.map WData.int)] ∧ h.get? a = some { cls := .type "list", data := .seq vs.toArray } ∧ IntsAre vs ns ∧ ns.length ≤ n := by
  have hsh : WShape.hasAll [] args [.list .int] = true := (pre_splitW hpre).1
  have hc : l.pre.holds [] { args := args } = true := (pre_splitW hpre).2
  obtain ⟨d, r, rfl, h1, h2⟩ := hasAllW_cons hsh
  obtain rfl := hasAllW_nil h2
  obtain ⟨xs, rfl, h3⟩ := hasW_list h1
  obtain ⟨ns, rfl⟩ := items_int h3
  have hlen : ns.length ≤ n := by
    unfold OpenLaw.pre at hc
    have h4 : (WTm.not (.lt (.lit (.int (n : Int))) (.len (.arg 0)))).holds [] { args := [.list (ns.map .int)] } = true := by
      have h4 := (holds_andW hc).1
      rw [hn] at h4
      exact h4
    have h5 := condW_of h4 (w_not (w_lt w_lit (w_len_list (w_arg rfl))))
    rw [List.length_map] at h5
    refine Nat.le_of_not_lt fun q => ?_
    have q' : (n : Int) < ((ns.length : Nat) : Int) := by omega
    first
      | (rw [decide_eq_true q'] at h5; exact absurd h5 (by decide))
      | (simp at h5; omega)
  cases hwl with
  | cons w1 w2 =>
    cases w2
    cases w1 with
    | list ho hall => exact ⟨_, _, ns, rfl, rfl, ho, ints_of_wellAll ns _ hall, hlen⟩
theorem post_true (l : OpenLaw) (args : List WData) : l.row.toRowW.claim.post args (.bool true) args = true :=
  postW_of (r := l.row.toRowW) (X := (true == true))
    (show WShape.has [] (.bool true) .bool = true by first | rfl | decide | simp [WShape.has, WShape.arms, WShape.armsAll])
    (show (WTm.eq .res (.lit (.bool true))).value [] { args := args, res := some (.bool true), after := args } = some (.bool (true == true)) from w_eq_bool (w_res rfl) w_lit) rfl
theorem attach_call {l : OpenLaw} {n : Nat} {q : Program} {loose : List Str} {XP : (Str → Option Value) → Heap → Prop} {YP : World → Heap → Prop} {d : DefRec}
    (hn : l.most = some n) (hdf : d.params.defaults = [])
    (call : ∀ (w : World) (s₀ s₁ : Shared) (mg mb : Str → Option Value) (fa : Addr) (o : Obj) (pm cd doc : Value) (a : Addr) (vs : List Value) (ns : List Int),
      Ground q loose [] XP w s₀ mg mb s₁.heap → YP w s₁.heap →
      s₁.heap.get? fa = some o → o.data = .func (docDef d.name d.params d.body d.scope pm cd doc) → s₁.heap.CodeRec cd d.name → mg d.name = some (.ref fa) →
      s₁.heap.get? a = some { cls := .type "list", data := .seq vs.toArray } → IntsAre vs ns → ns.length ≤ n → s₁.gens = #[] →
      codeAny (model l.prog w) callerA (.call (.ref fa) ⟨[.ref a], []⟩) (fun r s' => r = .ok (.ret (.bool true)) ∧ OldK s₁.heap s'.heap ∧ s'.os = s₁.os ∧ AllBare s'.gens) s₁) :
    WalkO q loose XP YP l.row.toRowW d [] (fun f vs => PySem.call f vs) := by
  intro w s₀ s₁ mg mb G Y fa o pm cd doc dV kV ho hd hcd hD hmg hg args vals as hpre hlay hrd hwl hlo
  obtain rfl : dV = .none := Dflts.none hD hdf
  obtain rfl : kV = .none := Dflts.noKw hD
  obtain ⟨a, vs, ns, rfl, rfl, hobj, hints, hlen⟩ := script_of hn hpre hwl
  refine enter_call (codeAny_mono (call w s₀ s₁ mg mb fa o pm cd doc a vs ns G Y ho (fd_plain hd) hcd hmg hobj hints hlen hg) fun r s' hq => ?_)
  obtain ⟨rfl, h2, h3, h4⟩ := hq
  exact ⟨.inl ⟨.bool true, .bool true, [], rfl, fun _ => rfl, .bool true, post_true l _, fun _ => ⟨List.Pairwise.nil, fun _ hm => (nomatch hm)⟩⟩, h2, h3, h4⟩
end Att
namespace L2
open PySem PySem.Spec PyProof.Rows
theorem vals_ints : ∀ {vs : List Value} {ns : List Int}, IntsAre vs ns → Vals (ns.map V.int) vs
  | _, _, .nil => .nil
  | _, _, .cons n t h => .cons ⟨t, rfl⟩ (vals_ints h)
noncomputable def Only (H : Hp) : Prop := ∀ b, H b = none ∨ ∃ o xs, H b = some (.frz o (.lst xs))
theorem law_call {P : Program} {w : World} {K : PySem.W.Frag} {mg mb : Str → Option Value} {CX : CXT} {k : Nat} {fa a : Addr} {fd : FuncData} {x : Str} {sp : Sp} {s₁ : Shared} {vs : List Value} {ns : List Int}
    (KX : K.In s₁.heap) (hns : s₁.heap.Ns mainGlobals mg) (hb : s₁.heap.Ns builtinsNs mb) (hbb : ∀ x : Str, x ≠ "__name__" → mb x = bootBuiltins x) (hlim : s₁.heap.NoLimit) (hg : s₁.gens = #[])
    (ha : s₁.heap.get? a = some { cls := .type "list", data := .seq vs.toArray }) (hi : IntsAre vs ns) (hl : ns.length ≤ sizeLine) (hr : Room k callerA)
    (F : ∀ base : Heap, K.In base → base.Ns mainGlobals mg → FnOk P w K mg base CX k fa fd [x] sp) (hbind : ∀ (s : Shared) (u : Value), BindsTo s fd ⟨[u], []⟩ [(x, u)])
    (hsp : ∀ H : Hp, Only H → SqL K H a (ns.map V.int) → sp [.ref a] H (fun v _ => v = .bl true) fun _ _ _ => False)
    (hCX : ∀ H e s', CX [] H s₁ (fun _ _ _ => False) e s' → False) :
    codeAny (model P w) callerA (.call (.ref fa) ⟨[.ref a], []⟩) (fun r s' => r = .ok (.ret (.bool true)) ∧ OldK s₁.heap s'.heap ∧ s'.os = s₁.os ∧ AllBare s'.gens) s₁ := by
  have rv := vals_ints hi
  have lenV := hi.length
  -- from an abstract heap in which nothing but the script may be tracked
  have core : ∀ H : Hp, Only H → SqL K H a (ns.map V.int) → HOk P w H s₁.heap → (∀ b, H b ≠ none → b = a) → (H a ≠ none → K.lookup a = none) →
      codeAny (model P w) callerA (.call (.ref fa) ⟨[.ref a], []⟩) (fun r s' => r = .ok (.ret (.bool true)) ∧ OldK s₁.heap s'.heap ∧ s'.os = s₁.os ∧ AllBare s'.gens) s₁ := by
    intro H hO hS hok hA hK
    have base_of : ∀ {b : Addr} {o : Obj}, s₁.heap.get? b = some o → H b = none → (hidT s₁.heap H).get? b = some o := fun e n => hidT_get e n
    have noA : ∀ {b : Addr} {o : Obj} {es : Array DictEntry} {ep : Nat}, s₁.heap.get? b = some o → o.data = .dict es ep → H b = none := fun {b o es ep} e d => by
      cases q : H b with
      | none => rfl
      | some u =>
        have e' : b = a := hA b (by rw [q]; simp)
        subst e'
        rw [ha] at e; cases e
        have d' : Data.seq vs.toArray _ = Data.dict es ep := d
        cases d'
    have nsK : ∀ {b : Addr} {m : Str → Option Value}, s₁.heap.Ns b m → (hidT s₁.heap H).Ns b m := fun {b m} ⟨o, es, ep, e, d, r⟩ => ⟨o, es, ep, base_of e (noA e d), d, r⟩
    have hKb : K.In (hidT s₁.heap H) := fun b o e => base_of (KX b o e) (by
      cases q : H b with
      | none => rfl
      | some u =>
        have e' : b = a := hA b (by rw [q]; simp)
        subst e'
        rw [hK (by rw [q]; simp)] at e; cases e)
    have hM : Mod K mg (hidT s₁.heap H) := ⟨hKb, nsK hns, ⟨mb, nsK hb, hbb⟩, let ⟨mc, h1, h2⟩ := hlim; ⟨mc, nsK h1, h2⟩⟩
    have e0 : Env0 P w K mg (hidT s₁.heap H) callerA [] s₁ H := ⟨rfl, hM, fun b o e => of_hidT e, Nat.le_of_eq (hidT_size _ _), trivial, fun b hb => absurd (show b ∈ ([] : List Addr) from hb) (by simp), hok, .of_eq hg⟩
    refine codeAny_mono ((F _ hKb (nsK hns)).run callerA [] s₁ H ⟨[.ref a], []⟩ [.ref a] [.ref a] _ _ hr e0 (hbind s₁ (.ref a)) (.cons rfl .nil) (hsp H hO hS)) fun r s' h => ?_
    cases r with
    | error e => exact (hCX H e s' h).elim
    | ok fl =>
      cases fl with
      | next => exact False.elim h
      | brk => exact False.elim h
      | cont => exact False.elim h
      | ret u =>
        obtain ⟨v, H', os, bare, un, hok', r', q⟩ := h
        have q' : v = .bl true := q
        subst q'
        obtain rfl : u = Value.bool true := r'
        refine ⟨rfl, OldK.of_keep fun b o e => ?_, os, bare⟩
        cases q : H b with
        | none => exact un.keep b o e q (by intro z; exact absurd (show b ∈ ([] : List Addr) from z) (by simp)) (by simp)
        | some u =>
          rcases hO b with z | ⟨ob, xs, z⟩
          · rw [q] at z; cases z
          · have z2 := un.frzs b ob _ z
            obtain ⟨e1, _⟩ := hok b _ z
            obtain ⟨e2, _⟩ := hok' b _ z2
            rw [e] at e1; cases e1
            exact e2
  cases hk : K.lookup a with
  | some o =>
    -- the script is one of the module's own objects
    have e := KX a o hk
    rw [ha] at e
    cases e
    refine core (fun _ => none) (fun _ => .inl rfl) (.inr ⟨_, vs.toArray, _, hk, rfl, rfl, rfl, by rw [List.size_toArray, lenV]; exact hl, by simpa using rv⟩) (fun b u z => by have z' : (none : Option HO) = some u := z; cases z') (fun b z => absurd rfl z) fun z => absurd rfl z
  | none =>
    refine core (fun b => if b = a then some (.frz { cls := .type "list", data := .seq vs.toArray } (.lst (ns.map V.int))) else none) (fun b => ?_) (.inl (.inr ⟨{ cls := .type "list", data := .seq vs.toArray }, if_pos rfl⟩)) (fun b u z => ?_) (fun b z => ?_) fun _ => hk
    · by_cases hb : b = a
      · exact .inr ⟨_, _, if_pos hb⟩
      · exact .inl (if_neg hb)
    · by_cases hb : b = a
      · have z' := (if_pos hb).symm.trans z
        cases z'
        subst hb
        exact ⟨ha, by rw [List.length_map]; exact hl, vs, _, rv, ha⟩
      · have z' := (if_neg hb).symm.trans z
        cases z'
    · by_cases hb : b = a
      · exact hb
      · exact absurd (if_neg hb) z
end L2
namespace L2
open PySem PySem.Spec PyProof.Rows
theorem walk_of {l : PySem.W.OpenLaw} {n k : Nat} {q : Program} {loose : List Str} {XP : (Str → Option Value) → Heap → Prop} {YP : World → Heap → Prop} {d : DefRec} {K : Params → PySem.W.Frag} {CX : World → CXT} {sp : World → Sp} {x : Str}
    (hn : l.most = some n) (hn2 : n ≤ sizeLine) (hdf : d.params.defaults = []) (hr : Room k callerA)
    (hY : ∀ (w : World) (h : Heap), YP w h → (K w.params).In h)
    (F : ∀ (w : World) (mg : Str → Option Value) (fa : Addr) (h : Heap), (K w.params).In h → h.Ns mainGlobals mg → mg d.name = some (.ref fa) →
      ∃ fd : FuncData, (∀ (s : Shared) (u : Value), BindsTo s fd ⟨[u], []⟩ [(x, u)]) ∧
        ∀ base : Heap, (K w.params).In base → base.Ns mainGlobals mg → FnOk l.prog w (K w.params) mg base (CX w) k fa fd [x] (sp w))
    (hsp : ∀ (w : World) (H : Hp) (a : Addr) (ns : List Int), ns.length ≤ n → Only H → SqL (K w.params) H a (ns.map V.int) → sp w [.ref a] H (fun v _ => v = .bl true) fun _ _ _ => False)
    (hCX : ∀ (w : World) (H : Hp) (s : Shared) (e : Value) (s' : Shared), CX w [] H s (fun _ _ _ => False) e s' → False) :
    PySem.W.WalkO q loose XP YP l.row.toRowW d [] (fun f vs => PySem.call f vs) := by
  refine Att.attach_call hn hdf fun w s₀ s₁ mg mb fa o pm cd doc a vs ns G Y ho hd hcd hmg hobj hints hlen hg => ?_
  have KX := hY w _ Y
  obtain ⟨fd, hb, hF⟩ := F w mg fa _ KX G.T.g hmg
  exact law_call KX G.T.g G.T.b G.T.builtins G.T.nolimit hg hobj hints (Nat.le_trans hlen hn2) hr hF hb (fun H hO hS => hsp w H a ns hlen hO hS) fun H e s' => hCX w H s₁ e s'
end L2
namespace L2
open PySem PySem.Spec PyProof.Rows
noncomputable def defArgs (s : Stmt) : Arguments := match s with
  | .FunctionDef _ a _ _ _ _ _ _ _ _ => a
  | _ => { posonlyargs := [], args := [], vararg := none, kwonlyargs := [], kw_defaults := [], kwarg := none, defaults := [] }
noncomputable def defBody (s : Stmt) : List Stmt := match s with
  | .FunctionDef _ _ b _ _ _ _ _ _ _ => b
  | _ => []
noncomputable def defScope (s : Stmt) : Scope := match s with
  | .FunctionDef _ _ _ _ _ _ sc _ _ _ => sc
  | _ => { kind := .function, names := [], isGenerator := false, isCoroutine := false }
noncomputable abbrev CX0 : CXT := fun _ _ _ _ _ _ => False
noncomputable abbrev E0 : XK := fun _ _ _ => False
theorem pass0 {X : Cx} : Passes CX0 X E0 := fun _ _ _ _ _ _ _ h => h.elim
structure Fun (K : PySem.W.Frag) (x qual : Str) (st : Stmt) (f : Addr) (fd : FuncData) : Prop where
  ex : ∃ (oc : Value) (od : Option Addr) (kV doc pm : Value) (an : Option Addr) (cdv ct : Value) (osl : Array (Option Value)),
    fd = PySem.W.fnOf x qual (defArgs st) (defBody st) (defScope st) .none kV doc pm an cdv ct ∧ K.lookup f = some ⟨oc, od, .func fd, osl⟩ ∧ PySem.W.codeIn K cdv qual = true
  kp : PySem.W.keepIn K (.ref f) = true
section
variable {P : Program} {w : World} {K : PySem.W.Frag} {mg : Str → Option Value} {base : Heap}
theorem Fun.ok {x qual : Str} {st : Stmt} {f : Addr} {fd : FuncData} {N ps : List Str} {k : Nat} {sp : Sp} (F : Fun K x qual st f fd) (S : FnScope N ps (defScope st)) (len : ∀ vs H Q E, sp vs H Q E → vs.length = ps.length)
    (hbody : ∀ (cdv : Value) (A : Around) (outer : List Env) (s : Shared) (H : Hp) (vs : List V) (Q : VK) (E : XK), Room k (A.deeper (envOfC qual (defScope st) s.heap.objs.size f cdv)) → sp vs H Q E →
      ∃ t, PSs (cxOf CX0 P w K mg base N qual (defScope st) f cdv A outer s H E).nox (defBody st) t ∧ t { nx := fun _ H' => Q .non H', rt := Q } (start N vs) H) : FnOk P w K mg base CX0 (k + 1) f fd ps sp := by
  obtain ⟨oc, od, kV, doc, pm, an, cdv, ct, osl, rfl, lk, hcd⟩ := F.ex
  refine fn_of lk hcd S len fun A outer s H vs Q E hr hsp => ?_
  obtain ⟨t, h, q⟩ := hbody cdv A outer s H vs Q E hr hsp
  exact ⟨t, h.nox, q⟩
theorem Fun.binds {x qual : Str} {st : Stmt} {f : Addr} {fd : FuncData} {ps : List Str} (F : Fun K x qual st f fd)
    (h : ∀ (kV doc pm : Value) (an : Option Addr) (cdv ct : Value) (us : List Value), us.length = ps.length → bindArgs (PySem.W.fnOf x qual (defArgs st) (defBody st) (defScope st) .none kV doc pm an cdv ct) ⟨us, []⟩ = pure (ps.zip us)) : Binds K fd ps [] := by
  obtain ⟨oc, od, kV, doc, pm, an, cdv, ct, osl, rfl, lk, hcd⟩ := F.ex
  exact .all (h kV doc pm an cdv ct)
theorem fun_mk {x qual : Str} {st : Stmt} {f : Addr} {oc : Value} {od an : Option Addr} {osl : Array (Option Value)} {kV doc pm cdv ct : Value} (l : K.lookup f = some ⟨oc, od, .func (PySem.W.fnOf x qual (defArgs st) (defBody st) (defScope st) .none kV doc pm an cdv ct), osl⟩)
    (c : PySem.W.codeIn K cdv qual = true) (k : PySem.W.keepIn K (.ref f) = true) : Fun K x qual st f (PySem.W.fnOf x qual (defArgs st) (defBody st) (defScope st) .none kV doc pm an cdv ct) := ⟨⟨oc, od, kV, doc, pm, an, cdv, ct, osl, rfl, l, c⟩, k⟩
end
theorem iteF {A B : Prop} (h : B) : if false = true then A else B := by
  rw [if_neg Bool.false_ne_true]
  exact h
theorem iteT {A B : Prop} (h : A) : if true = true then A else B := by
  rw [if_pos rfl]
  exact h
noncomputable def Same (H H' : Hp) : Prop := ∀ b o, H b = some o → H' b = some o
theorem Same.refl (H : Hp) : Same H H := fun _ _ h => h
theorem Same.trans {H H1 H2 : Hp} (a : Same H H1) (b : Same H1 H2) : Same H H2 := fun c o h => b c o (a c o h)
theorem Same.free {H H' : Hp} (e : Same H H') {l : Addr} (h : H' l = Option.none) : H l = Option.none := by
  cases q : H l with
  | none => rfl
  | some o =>
    rw [e l o q] at h
    cases h
theorem Same.seq {K : PySem.W.Frag} {H H' : Hp} {a : Addr} {xs : List V} (e : Same H H') (h : SqL K H a xs) : SqL K H' a xs := by
  rcases h with (h | ⟨o, h⟩) | h
  · exact .inl (.inl (e _ _ h))
  · exact .inl (.inr ⟨o, e _ _ h⟩)
  · exact .inr h
end L2
namespace L2
open PySem PySem.Spec PyProof.Rows
section
variable {κ : Type} [DecidableEq κ]
noncomputable def valV (kvs : List (κ × V)) (k : κ) : Option V := (kvs.find? fun kv => decide (kv.1 = k)).map (·.2)
noncomputable def putK (kvs : List (κ × V)) (k : κ) (v : V) : List (κ × V) :=
  if (kvs.any fun kv => decide (kv.1 = k)) = true then kvs.map (fun kv => if kv.1 = k then (kv.1, v) else kv) else kvs ++ [(k, v)]
noncomputable def dropK (kvs : List (κ × V)) (k : κ) : List (κ × V) := kvs.filter fun kv => decide (kv.1 ≠ k)
theorem valV_nil {k : κ} : valV ([] : List (κ × V)) k = none := rfl
theorem valV_pos {p : κ × V} {r : List (κ × V)} {k : κ} (e : p.1 = k) : valV (p :: r) k = some p.2 := by simp [valV, List.find?_cons, e]
theorem valV_neg {p : κ × V} {r : List (κ × V)} {k : κ} (e : ¬ p.1 = k) : valV (p :: r) k = valV r k := by simp [valV, List.find?_cons, e]
theorem valV_any (k : κ) : ∀ kvs : List (κ × V), (kvs.any fun kv => decide (kv.1 = k)) = (valV kvs k).isSome
  | [] => rfl
  | p :: r => by
    rw [List.any_cons]
    by_cases e : p.1 = k
    · simp only [valV_pos e, decide_eq_true e, Bool.true_or, Option.isSome_some]
    · rw [valV_neg e, decide_eq_false e, Bool.false_or]; exact valV_any k r
theorem length_putK (kvs : List (κ × V)) (k : κ) (v : V) : (putK kvs k v).length ≤ kvs.length + 1 := by
  unfold putK
  split
  · rw [List.length_map]; omega
  · rw [List.length_append, List.length_cons, List.length_nil]; omega
theorem RelO.isSome_eq {o : Option V} {u : Option Value} (r : RelO o u) : o.isSome = u.isSome := by
  cases o with
  | none => cases u with
    | none => rfl
    | some _ => exact (show False from r).elim
  | some _ => cases u with
    | none => exact (show False from r).elim
    | some _ => rfl
theorem RelO.getD {o : Option V} {u : Option Value} {d : V} {d' : Value} (r : RelO o u) (rd : RelV d d') : RelV (o.getD d) (u.getD d') := by
  cases o with
  | none => cases u with
    | none => exact rd
    | some _ => exact (show False from r).elim
  | some _ => cases u with
    | none => exact (show False from r).elim
    | some _ => exact r
theorem KV.val {kvs : List (κ × V)} {vs : List (κ × Value)} (r : KV kvs vs) (k : κ) : RelO (valV kvs k) (valueAt vs k) := by
  unfold KV at r
  induction r with
  | nil => exact True.intro
  | @cons p q ps qs h t ih =>
    obtain ⟨h1, h2⟩ := h
    by_cases e : p.1 = k
    · have e' : q.1 = k := h1.symm.trans e
      have b : valueAt (q :: qs) k = some q.2 := by simp [valueAt, List.find?_cons, e']
      rw [valV_pos e, b]; exact h2
    · have e' : ¬ q.1 = k := fun z => e (h1.trans z)
      have b : valueAt (q :: qs) k = valueAt qs k := by simp [valueAt, List.find?_cons, e']
      rw [valV_neg e, b]; exact ih
theorem KV.any {kvs : List (κ × V)} {vs : List (κ × Value)} (r : KV kvs vs) (k : κ) : (kvs.any fun kv => decide (kv.1 = k)) = vs.any fun kv => decide (kv.1 = k) := by
  unfold KV at r
  induction r with
  | nil => rfl
  | cons h t ih => rw [List.any_cons, List.any_cons, ih, h.1]
theorem KV.repl {kvs : List (κ × V)} {vs : List (κ × Value)} (r : KV kvs vs) (k : κ) {y : V} {u : Value} (ry : RelV y u) :
    KV (kvs.map fun kv => if kv.1 = k then (kv.1, y) else kv) (vs.map fun kv => if kv.1 = k then (kv.1, u) else kv) := by
  unfold KV at r ⊢
  induction r with
  | nil => exact .nil
  | @cons p q ps qs h t ih =>
    rw [List.map_cons, List.map_cons]
    refine .cons ?_ ih
    obtain ⟨h1, h2⟩ := h
    by_cases e : p.1 = k
    · rw [if_pos e, if_pos (h1.symm.trans e)]; exact ⟨h1, ry⟩
    · rw [if_neg e, if_neg (fun z => e (h1.trans z))]; exact ⟨h1, h2⟩
theorem KV.put {kvs : List (κ × V)} {vs : List (κ × Value)} (r : KV kvs vs) (k : κ) {y : V} {u : Value} (ry : RelV y u) : KV (putK kvs k y) (stored vs k u) := by
  unfold putK stored
  rw [r.any k]
  by_cases e : (vs.any fun kv => decide (kv.1 = k)) = true
  · rw [if_pos e, if_pos e]; exact r.repl k ry
  · rw [if_neg e, if_neg e]; exact Paired.snoc r ⟨rfl, ry⟩
theorem KV.drop {kvs : List (κ × V)} {vs : List (κ × Value)} (r : KV kvs vs) (k : κ) : KV (dropK kvs k) (without vs k) := by
  unfold KV at r ⊢
  unfold dropK without
  induction r with
  | nil => exact .nil
  | @cons p q ps qs h t ih =>
    obtain ⟨h1, h2⟩ := h
    rw [List.filter_cons, List.filter_cons]
    by_cases e : p.1 = k
    · have a : ¬ decide (p.1 ≠ k) = true := by simp [e]
      have b : ¬ decide (q.1 ≠ k) = true := by simp [h1.symm.trans e]
      rw [if_neg a, if_neg b]; exact ih
    · have e' : ¬ q.1 = k := fun z => e (h1.trans z)
      have a : decide (p.1 ≠ k) = true := by simp [e]
      have b : decide (q.1 ≠ k) = true := by simp [e']
      rw [if_pos a, if_pos b]; exact .cons ⟨h1, h2⟩ ih
theorem KV.keys {kvs : List (κ × V)} {vs : List (κ × Value)} (r : KV kvs vs) : kvs.map (·.1) = vs.map (·.1) := by
  unfold KV at r
  induction r with
  | nil => rfl
  | cons h t ih => rw [List.map_cons, List.map_cons, ih, h.1]
theorem KV.length {kvs : List (κ × V)} {vs : List (κ × Value)} (r : KV kvs vs) : kvs.length = vs.length := Paired.length r
end
theorem kV_is {P : Program} {w : World} {k : Key} {u : Value} (r : RelV (kV k) u) : (mixKind P w).is k u = true := by
  cases k with
  | inl i => obtain ⟨t, e⟩ := (show ∃ t, u = Value.int i t from r); subst e; exact mixKind_int P w i t
  | inr x => obtain ⟨t, e⟩ := (show ∃ t, u = Value.str x t from r); subst e; exact mixKind_str P w x t
theorem items_are {P : Program} {w : World} : ∀ {ks : List Key} {us : List Value}, Vals (ks.map kV) us → ItemsAre (mixKind P w) ks us
  | [], _, r => by rw [List.map_nil] at r; cases r; exact .nil
  | k :: ks, _, r => by
    rw [List.map_cons] at r
    cases r with
    | cons h t => exact .cons (kV_is h) (items_are t)
noncomputable abbrev KT (H : Hp) : List (List Key × V) → List (List Key × Addr × Value) → Prop := Paired fun p q => p.1 = q.1 ∧ H q.2.1 = some (.tup (p.1.map kV)) ∧ RelV p.2 q.2.2
theorem KT.val {H : Hp} {kvs : List (List Key × V)} {xs : List (List Key × Addr × Value)} (r : KT H kvs xs) (k : List Key) : RelO (valV kvs k) ((atKey xs k).map (·.2)) := by
  induction r with
  | nil => exact True.intro
  | @cons p q ps qs h t ih =>
    obtain ⟨h1, _, h2⟩ := h
    by_cases e : p.1 = k
    · have e' : q.1 = k := h1.symm.trans e
      have b : atKey (q :: qs) k = some q.2 := by simp [atKey, List.find?_cons, e']
      rw [valV_pos e, b]; exact h2
    · have e' : ¬ q.1 = k := fun z => e (h1.trans z)
      have b : atKey (q :: qs) k = atKey qs k := by simp [atKey, List.find?_cons, e']
      rw [valV_neg e, b]; exact ih
theorem KT.repl {H : Hp} {kvs : List (List Key × V)} {xs : List (List Key × Addr × Value)} (r : KT H kvs xs) (k : List Key) {y : V} {u : Value} (ry : RelV y u) :
    KT H (kvs.map fun kv => if kv.1 = k then (kv.1, y) else kv) (xs.map (putAt k u)) := by
  induction r with
  | nil => exact .nil
  | @cons p q ps qs h t ih =>
    rw [List.map_cons, List.map_cons]
    refine .cons ?_ ih
    obtain ⟨h1, h2, h3⟩ := h
    unfold putAt
    by_cases e : p.1 = k
    · rw [if_pos e, if_pos (h1.symm.trans e)]; exact ⟨h1, h2, ry⟩
    · rw [if_neg e, if_neg (fun z => e (h1.trans z))]; exact ⟨h1, h2, h3⟩
theorem KT.put {H : Hp} {kvs : List (List Key × V)} {xs : List (List Key × Addr × Value)} (r : KT H kvs xs) (k : List Key) {b : Addr} {y : V} {u : Value} (hb : H b = some (.tup (k.map kV))) (ry : RelV y u) :
    KT H (putK kvs k y) (storedH xs k b u) := by
  have e : (kvs.any fun kv => decide (kv.1 = k)) = (atKey xs k).isSome := by
    rw [valV_any, (r.val k).isSome_eq, Option.isSome_map]
  unfold putK storedH
  rw [e]
  by_cases q : (atKey xs k).isSome = true
  · rw [if_pos q, if_pos q]; exact r.repl k ry
  · rw [if_neg q, if_neg q]; exact Paired.snoc r ⟨rfl, hb, ry⟩
theorem KT.keeps {H H' : Hp} {kvs : List (List Key × V)} {xs : List (List Key × Addr × Value)} (r : KT H kvs xs) (ht : ∀ b ys, H b = some (.tup ys) → H' b = some (.tup ys)) : KT H' kvs xs :=
  Paired.mapP r fun _ _ z => ⟨z.1, ht _ _ z.2.1, z.2.2⟩
section
variable {P : Program} {w : World} {H : Hp} {h : Heap} {a : Addr}
theorem rd_of {u : HO} (ok : HOk P w H h) (e : Rd H a u) : ObjOk P w H h a u := e.ok ok
theorem dk_rd {kvs : List (Key × V)} (ok : HOk P w H h) (e : Rd H a (.dK kvs)) : kvs.length ≤ sizeLine ∧ (a == sysModules) = false ∧ ∃ vs, KV kvs vs ∧ h.DictOf (mixKind P w) a vs :=
  show ObjOk P w H h a (.dK kvs) from rd_of ok e
theorem dk_of {kvs : List (Key × V)} (ok : HOk P w H h) (e : H a = some (.dK kvs)) : kvs.length ≤ sizeLine ∧ (a == sysModules) = false ∧ ∃ vs, KV kvs vs ∧ h.DictOf (mixKind P w) a vs := dk_rd ok (.inl e)
theorem key_of {ks : List Key} (ok : HOk P w H h) (e : H a = some (.tup (ks.map kV))) : (tupleKind (mixKind P w)).is h ks a := by
  obtain ⟨_, its, r, o, h1, h2, n, h3⟩ := (show ObjOk P w H h a (.tup (ks.map kV)) from ok a _ e)
  exact ⟨o, its.toArray, n, h1, h2, h3, by simpa using items_are r⟩
theorem dt_rd {kvs : List (List Key × V)} (ok : HOk P w H h) (e : Rd H a (.dT kvs)) : kvs.length ≤ sizeLine ∧ (a == sysModules) = false ∧
    ∃ xs, KT H kvs xs ∧ h.DictOfH (tupleKind (mixKind P w)) a xs := by
  obtain ⟨z, y, xs, r, o, es, ep, h1, h2, h3, h4, h5⟩ := (show ObjOk P w H h a (.dT kvs) from rd_of ok e)
  refine ⟨z, y, xs, r, o, es, ep, h1, h2, h3, h4, fun x hx => ?_, h5⟩
  have all : ∀ {l : List (List Key × V)} {m : List (List Key × Addr × Value)}, KT H l m → ∀ x ∈ m, (tupleKind (mixKind P w)).is h x.1 x.2.1 := by
    intro l m q
    induction q with
    | nil => intro x hx; exact nomatch hx
    | @cons p q ps qs hq t ih =>
      intro x hx
      rcases List.mem_cons.mp hx with e | hx
      · subst e
        exact key_of ok (by rw [← hq.1]; exact hq.2.1)
      · exact ih x hx
  exact all r x hx
theorem dt_of {kvs : List (List Key × V)} (ok : HOk P w H h) (e : H a = some (.dT kvs)) : kvs.length ≤ sizeLine ∧ (a == sysModules) = false ∧
    ∃ xs, KT H kvs xs ∧ h.DictOfH (tupleKind (mixKind P w)) a xs := dt_rd ok (.inl e)
end
noncomputable def DGet (H : Hp) (a : Addr) (y : V) (r : Option V) : Prop :=
  (∃ kvs k, Rd H a (.dK kvs) ∧ y = kV k ∧ r = valV kvs k) ∨ ∃ kvs k b, Rd H a (.dT kvs) ∧ y = .ref b ∧ H b = some (.tup (k.map kV)) ∧ r = valV kvs k
noncomputable def DPut (H : Hp) (a : Addr) (y v : V) (H' : Hp) : Prop :=
  (∃ kvs k, H a = some (.dK kvs) ∧ y = kV k ∧ kvs.length < sizeLine ∧ H' = upd H a (.dK (putK kvs k v))) ∨
  ∃ kvs k b, H a = some (.dT kvs) ∧ y = .ref b ∧ H b = some (.tup (k.map kV)) ∧ kvs.length < sizeLine ∧ H' = upd H a (.dT (putK kvs k v))
theorem DGet.k {H : Hp} {a : Addr} {kvs : List (Key × V)} {k : Key} (e : H a = some (.dK kvs)) : DGet H a (kV k) (valV kvs k) := .inl ⟨kvs, k, .inl e, rfl, rfl⟩
theorem DGet.t {H : Hp} {a b : Addr} {kvs : List (List Key × V)} {k : List Key} (e : H a = some (.dT kvs)) (eb : H b = some (.tup (k.map kV))) : DGet H a (.ref b) (valV kvs k) := .inr ⟨kvs, k, b, .inl e, rfl, eb, rfl⟩
theorem DPut.k {H : Hp} {a : Addr} {kvs : List (Key × V)} {k : Key} {v : V} (e : H a = some (.dK kvs)) (hl : kvs.length < sizeLine) : DPut H a (kV k) v (upd H a (.dK (putK kvs k v))) := .inl ⟨kvs, k, e, rfl, hl, rfl⟩
theorem DPut.t {H : Hp} {a b : Addr} {kvs : List (List Key × V)} {k : List Key} {v : V} (e : H a = some (.dT kvs)) (eb : H b = some (.tup (k.map kV))) (hl : kvs.length < sizeLine) :
    DPut H a (.ref b) v (upd H a (.dT (putK kvs k v))) := .inr ⟨kvs, k, b, e, rfl, eb, hl, rfl⟩
section
variable {X : Cx} {pins : List (Addr × Obj)} {σ : St} {H : Hp} {s : Shared} {a : Addr} {y v : V} {u r : Value} {o : Option V} {A : Around} {E : Value → Shared → Prop}
theorem Inv.big (I : Inv X pins σ H s) : sysModules < s.heap.objs.size := by
  have h : mainGlobals < s.heap.objs.size := (I.mod.glob.keeps I.bk).lt
  exact Nat.lt_trans (by decide) h
theorem d_write {h' : Heap} {t' : Nat} {ob : HO} (I : Inv X pins σ H s) (mu : Mut (H a)) (hs : Heap.SameBut a s.heap h') (he : ∃ q, h'.get? a = some q) (new : ObjOk X.prog X.w (upd H a ob) h' a ob) :
    Inv X pins σ (upd H a ob) { s with heap := h', toks := t' } :=
  I.write (x := a) (e := a) mu (.inl rfl) (fun b q hb z => (hs.2 b hb).trans z) he new
theorem dk_new {P : Program} {w : World} {H' : Hp} {h' : Heap} {kvs : List (Key × V)} {vs : List (Key × Value)} (z : kvs.length ≤ sizeLine) (hd : (a == sysModules) = false) (rel : KV kvs vs) (dd : h'.DictOf (mixKind P w) a vs) :
    ObjOk P w H' h' a (.dK kvs) := ⟨z, hd, vs, rel, dd⟩
end
noncomputable def NoSl (i : Expr) : Prop := ∀ ov iv, subscripted i false ov iv = operate [ov, iv] (getItem ov iv)
theorem subD_of {prog : Program} {w : World} {A : Around} {E : Value → Shared → Prop} {s : Shared} {env : Env} {value slice : Expr} {pos : Pos} {T id : String} {Q : Value → Shared → Prop}
    (hl : typeLookup (.type T) "__getitem__" = pure (some (.builtin id))) (hs : NoSl slice)
    (h : wpAny (model prog w) A (eval value env) (fun o s₁ => wpAny (model prog w) A (eval slice env) (fun i s₂ => s₂.TypeIs o T ∧ wpAny (model prog w) A (getItem o i) Q E s₂) E s₁) E s) :
    wpAny (model prog w) A (eval (.Subscript value slice pos) env) Q E s := by
  refine Subscript_ (wpAny_mono h (fun o s₁ h₁ => wpAny_mono h₁ (fun i s₂ h₂ => ?_) fun _ _ x => x) fun _ _ x => x)
  obtain ⟨hT, h₂⟩ := h₂
  unfold subscriptTail
  refine wpAny_bind ?_
  rw [getitemInPython_of_ne hT.not_modules]
  refine wpAny_bind (wpAny_specialOf hT hl ?_)
  have fin : wpAny (model prog w) A (subscripted slice false o i) (fun r s₃ => wpAny (model prog w) A (letTemporaryGo value o r >>= fun _ => pure r) Q E s₃) E s₂ := by
    rw [hs o i]
    exact wpAny_operating (wpAny_mono h₂ (fun r s₃ h₃ => wpAny_bind (wpAny_letTemporaryGo (wpAny_pure h₃))) fun _ _ x => x)
  first
    | exact wpAny_pure (wpAny_bind fin)
    | exact wpAny_bind (wpAny_pure (wpAny_bind fin))
    | exact wpAny_bind fin
theorem dk_empty {P : Program} {w : World} {H : Hp} (h : Heap) (hb : sysModules < h.objs.size) : ObjOk P w H (h.push { cls := .type "dict", data := .dict #[] }) h.objs.size (.dK []) :=
  ⟨Nat.zero_le _, beq_eq_false_iff_ne.mpr (Ne.symm (Nat.ne_of_lt hb)), [], .nil, Heap.DictOf.new h⟩
noncomputable def tPairs : List (TE × TE) → St → Hp → (List (V × V) → Hp → Prop) → Prop
  | [], _, H, Q => Q [] H
  | (tk, tv) :: r, σ, H, Q => tk σ H fun x H1 => tv σ H1 fun y H2 => tPairs r σ H2 fun ps H3 => Q ((x, y) :: ps) H3
noncomputable abbrev VV : List (V × V) → List (Value × Value) → Prop := Paired fun p q => RelV p.1 q.1 ∧ RelV p.2 q.2
noncomputable def PPs (X : Cx) (pos : Pos) (keys : List (Option Expr)) (values : List Expr) (trs : List (TE × TE)) : Prop :=
  ∀ (pins : List (Addr × Obj)) (s : Shared) (σ : St) (H : Hp) (Q : List (V × V) → Hp → Prop), Inv X pins σ H s → tPairs trs σ H Q →
    wpAny (model X.prog X.w) X.A (evalPairs (pairTrees keys values X.env pos)) (fun vs s' => ∃ ps H', Inv X pins σ H' s' ∧ VV ps vs ∧ Q ps H') X.xe s
theorem pps_nil {X : Cx} {pos : Pos} : PPs X pos [] [] [] := fun pins s σ H Q I h => pairTrees_nil_walk ⟨[], H, I, .nil, h⟩
theorem pps_cons {X : Cx} {pos : Pos} {k v : Expr} {ks : List (Option Expr)} {vs : List Expr} {tk tv : TE} {trs : List (TE × TE)} (hk : PE X k tk) (hv : PE X v tv) (hr : PPs X pos ks vs trs) :
    PPs X pos (some k :: ks) (v :: vs) ((tk, tv) :: trs) := fun pins s σ H Q I h =>
  pairTrees_cons_walk (thn (hk pins s σ H _ I h) fun u s1 ⟨x, H1, I1, rx, q1⟩ => thn (hv pins s1 σ H1 _ I1 q1) fun w2 s2 ⟨y, H2, I2, ry, q2⟩ =>
    thn (hr pins s2 σ H2 _ I2 q2) fun ws s3 ⟨ps, H3, I3, rel, q3⟩ => ⟨(x, y) :: ps, H3, I3, .cons ⟨rx, ry⟩ rel, q3⟩)
noncomputable def mergeK (kvs more : List (Key × V)) : List (Key × V) := more.foldl (fun acc kv => putK acc kv.1 kv.2) kvs
theorem KV.merge : ∀ {more : List (Key × V)} {rs : List (Key × Value)} {kvs : List (Key × V)} {vs : List (Key × Value)}, KV more rs → KV kvs vs → KV (mergeK kvs more) (merged vs rs) := by
  intro more rs kvs vs r
  unfold KV at r
  induction r generalizing kvs vs with
  | nil => intro q; exact q
  | @cons p q ps qs h t ih =>
    intro r0
    have e : KV (putK kvs p.1 p.2) (stored vs q.1 q.2) := by
      have := r0.put p.1 h.2
      rw [← h.1]; exact this
    exact ih e
theorem length_mergeK : ∀ (more kvs : List (Key × V)), (mergeK kvs more).length ≤ kvs.length + more.length
  | [], kvs => by show kvs.length ≤ kvs.length + 0; omega
  | p :: r, kvs => by
    have h1 := length_mergeK r (putK kvs p.1 p.2)
    have h2 := length_putK kvs p.1 p.2
    show (mergeK (putK kvs p.1 p.2) r).length ≤ _
    rw [List.length_cons]; omega
theorem carries_of {P : Program} {w : World} : ∀ {kvs : List (Key × V)} {ws : List (Value × Value)}, VV (kvs.map fun kv => (kV kv.1, kv.2)) ws → ∃ rs, Carries (mixKind P w) ws rs ∧ KV kvs rs
  | [], _, r => by rw [List.map_nil] at r; cases r; exact ⟨[], True.intro, .nil⟩
  | p :: kvs, _, r => by
    rw [List.map_cons] at r
    cases r with
    | @cons a b as bs h t =>
      obtain ⟨rs, c, q⟩ := carries_of (P := P) (w := w) t
      obtain ⟨b1, b2⟩ := b
      exact ⟨(p.1, b2) :: rs, ⟨kV_is h.1, rfl, c⟩, .cons ⟨rfl, h.2⟩ q⟩
noncomputable def tDisp (K : PySem.W.Frag) (trs : List (TE × TE)) : TE := fun σ H Q => ∀ p, H p = none → K.lookup p = none → tPairs trs σ (upd H p (.dK [])) fun ps H2 => H2 p = some (.dK []) ∧ ∃ kvs : List (Key × V), ps = kvs.map (fun kv => (kV kv.1, kv.2)) ∧ kvs.length ≤ 15 ∧ Q (.ref p) (upd H2 p (.dK (mergeK [] kvs)))
theorem pe_disp {X : Cx} {pos : Pos} {keys : List (Option Expr)} {values : List Expr} {trs : List (TE × TE)} (h : PPs X pos keys values trs) (hall : keys.all (·.isSome) = true) (hl : keys.length = values.length) (h0 : keys ≠ [])
    (h15 : keys.length ≤ 15) : PE X (.Dict keys values pos) (tDisp X.K trs) := by
  intro pins s σ H Q I q
  have hn := I.hok.fresh (Nat.le_refl s.heap.objs.size)
  have I1 := I.laid (a := s.heap.objs.size) (o := .dK []) (h' := s.heap.push { cls := .type "dict", data := .dict #[] }) (t' := s.toks) (fun _ _ q => Heap.get?_push_of_some _ q) (Nat.le_refl _) (dk_empty s.heap I.big)
  refine wpAny_Dict_walk (knd := mixKind X.prog X.w) hall hl h0 h15 (thn (h pins _ σ _ _ I1 (q _ hn (by cases e : X.K.lookup s.heap.objs.size with | none => rfl | some o => exact absurd (Heap.lt_size (I.kIn _ o e)) (Nat.lt_irrefl _)))) fun ws s2 ⟨ps, H2, I2, rel, e, kvs, ep, lk, q2⟩ => ?_)
  subst ep
  obtain ⟨rs, c, rk⟩ := carries_of (P := X.prog) (w := X.w) rel
  obtain ⟨z, hd, vs0, r0, dd⟩ := dk_of I2.hok e
  cases r0
  refine ⟨rs, c, dd, fun h' dd' hs => ⟨.ref s.heap.objs.size, _, ?_, rfl, q2⟩⟩
  have hz : (mergeK [] kvs).length ≤ sizeLine := by
    have h1 := length_mergeK kvs []
    rw [List.length_nil] at h1
    rw [sizeLine_eq]; omega
  have he : ∃ q, h'.get? s.heap.objs.size = some q := let ⟨q, _, _, hq, _⟩ := dd'; ⟨q, hq⟩
  exact d_write I2 (by rw [e]; exact True.intro) hs he (dk_new hz hd (rk.merge .nil) dd')
structure M2 (X : Cx) (o : Expr) (m : Str) (apos : Pos) (e f : Expr) (cpos : Pos) : Prop where
  base : attributeBase o m X.env (eval o X.env) = eval o X.env
  few : ((backTo cpos (starEach [e, f] X.env)).all (fun x => !x.1) && (backToKw cpos (keywordEach [] X.env)).all (fun x => x.1.isSome)
    && decide (([e, f] : List Expr).length + ([] : List Keyword).length + (if ([] : List Keyword).isEmpty then 0 else 1) < 30)) = true
  line : (apos.endLine == cpos.line) = true
  trees : backTo cpos (starEach [e, f] X.env) = [(false, eval e X.env), (false, eval f X.env)]
noncomputable def IsD (H : Hp) (a : Addr) : Prop := (∃ kvs, Rd H a (.dK kvs)) ∨ ∃ kvs, Rd H a (.dT kvs)
theorem isD_at {X : Cx} {pins : List (Addr × Obj)} {σ : St} {H : Hp} {s : Shared} {a : Addr} (I : Inv X pins σ H s) (d : IsD H a) :
    s.TypeIs (.ref a) "dict" ∧ (∀ b, Value.ref a = .ref b → ∃ ob, s.heap.get? b = some ob ∧ ob.dict = none) ∧ (a == sysModules) = false := by
  rcases d with ⟨kvs, e⟩ | ⟨kvs, e⟩
  · obtain ⟨_, hd, vs, _, dd⟩ := dk_rd I.hok e
    refine ⟨dd.typeIs, fun b q => ?_, hd⟩
    cases q
    obtain ⟨ob, _, _, h1, h2, _⟩ := dd
    exact ⟨ob, h1, h2.2.1⟩
  · obtain ⟨_, hd, xs, _, dd⟩ := dt_rd I.hok e
    refine ⟨dd.typeIs, fun b q => ?_, hd⟩
    cases q
    obtain ⟨ob, _, _, h1, h2, _⟩ := dd
    exact ⟨ob, h1, h2.2.1⟩
section
variable {X : Cx} {pins : List (Addr × Obj)} {σ : St} {H : Hp} {s : Shared} {a : Addr} {y d : V} {u r : Value} {o : Option V} {A : Around} {E : Value → Shared → Prop}
theorem d_get2 {Q : Value → Shared → Prop} (hu : A.units + 1 < cLine) (I : Inv X pins σ H s) (g : DGet H a y o) (ry : RelV y u) (rd : RelV d r) (h : ∀ w' s', Inv X pins σ H s' → RelV (o.getD d) w' → Q w' s') :
    wpAny (model X.prog X.w) A (call (.builtin "dict.get") [.ref a, u, r]) Q E s := by
  rcases g with ⟨kvs, k, e, ey, l⟩ | ⟨kvs, k, b, e, ey, eb, l⟩
  · subst ey
    obtain ⟨z, hd, vs, rel, dd⟩ := dk_rd I.hok e
    refine call_meetsIn PySem.F.slot_dict_get dd.typeIs PySem.F.entry_dict_get (PySem.F.args_dict_get_3 _ _ _) (meets_dict_get_default (mixKind X.prog X.w) a (kV_is ry) hd r) ⟨_, dd.mapOf, h _ _ (I.tok _) ?_⟩
    rw [l]
    exact (rel.val k).getD rd
  · subst ey
    cases (show u = Value.ref b from ry)
    obtain ⟨z, hd, xs, rel, dd⟩ := dt_rd I.hok e
    refine call_meetsIn PySem.F.slot_dict_get dd.typeIs PySem.F.entry_dict_get (PySem.F.args_dict_get_3 _ _ _) (meetsH_dict_get_default (tupleKind (mixKind X.prog X.w)) a b hd r) ⟨tupleKind_room_in1 hu, k, xs, key_of I.hok eb, dd, h _ _ (I.tok _) ?_⟩
    rw [l]
    exact (rel.val k).getD rd
end
noncomputable def tDGet2 (td ty tx : TE) : TE := fun σ H Q => td σ H fun x H1 => ∃ a, x = .ref a ∧ IsD H1 a ∧ ty σ H1 fun y H2 => tx σ H2 fun z H3 => ∃ o, DGet H3 a y o ∧ Q (o.getD z) H3
section
variable {X : Cx} {o e f : Expr} {apos cpos : Pos} {td ty tx : TE}
theorem pe_dget2 (hu : X.A.units + 1 < cLine) (ho : PE X o td) (he : PE X e ty) (hf : PE X f tx) (m : M2 X o "get" apos e f cpos) : PE X (.Call (.Attribute o "get" apos) [e, f] [] cpos) (tDGet2 td ty tx) := by
  intro pins s σ H Q I h
  refine wpAny_Call_method m.base m.few m.line PySem.F.plainAttrs_dict PySem.F.slot_dict_get PySem.F.type_dict_get (thn (ho pins s σ H _ I h) fun u s1 ⟨x, H1, I1, rx, a, ex, d, q1⟩ => ?_)
  subst ex
  obtain rfl : u = Value.ref a := rx
  obtain ⟨t1, t2, _⟩ := isD_at I1 d
  refine ⟨t1, t2, ?_⟩
  rw [m.trees]
  refine Calls.callWith_builtin rfl (Calls.evalArgs_plain (Calls.spliced_cons (thn (he pins s1 σ H1 _ I1 q1) fun iv s2 ⟨y, H2, I2, ry, q2⟩ =>
    Calls.spliced_cons (thn (hf pins s2 σ H2 _ I2 q2) fun fv s3 ⟨z, H3, I3, rz, ov, g, q3⟩ => Calls.spliced_nil ?_))))
  exact d_get2 hu I3 g ry rz fun w' s4 I4 rw' => ⟨_, H3, I4, rw', q3⟩
end
end L2
set_option maxHeartbeats 4000000
namespace L2
open PySem PySem.Spec PyProof.Rows
noncomputable def clGo (cells : List (Str × Addr)) : List (Str × NameKind) → List (Str × Addr) → List (Str × Addr)
  | [], acc => acc
  | (n, k) :: r, acc => clGo cells r (if k = .free then (n, (cells.lookup n).getD 0) :: acc else acc)
theorem forIn_cl {env : Env} {f : (Str × NameKind) → List (Str × Addr) → Sem (ForInStep (List (Str × Addr)))}
    (h1 : ∀ n k acc, k ≠ .free → f (n, k) acc = pure (.yield acc)) (h2 : ∀ n acc c, env.cells.lookup n = some c → f (n, .free) acc = pure (.yield ((n, c) :: acc))) :
    ∀ (names : List (Str × NameKind)) (acc : List (Str × Addr)), (∀ x ∈ names, x.2 = .free → ∃ c, env.cells.lookup x.1 = some c) → forIn names acc f = (pure (clGo env.cells names acc) : Sem (List (Str × Addr)))
  | [], acc, _ => by simp [clGo]
  | (n, k) :: r, acc, h => by
    rw [List.forIn_cons]
    by_cases hk : k = .free
    · subst hk
      obtain ⟨c, hc⟩ := h (n, .free) List.mem_cons_self rfl
      rw [h2 n acc c hc, pure_bind]
      show forIn r ((n, c) :: acc) f = _
      rw [forIn_cl h1 h2 r ((n, c) :: acc) fun x hx => h x (List.mem_cons_of_mem _ hx)]
      show _ = pure (clGo env.cells r (if NameKind.free = .free then (n, (env.cells.lookup n).getD 0) :: acc else acc))
      rw [if_pos rfl, hc]
      rfl
    · rw [h1 n k acc hk, pure_bind]
      show forIn r acc f = _
      rw [forIn_cl h1 h2 r acc fun x hx => h x (List.mem_cons_of_mem _ hx)]
      show _ = pure (clGo env.cells r (if k = .free then (n, (env.cells.lookup n).getD 0) :: acc else acc))
      rw [if_neg hk]
theorem clos_eq {env : Env} {sc : Scope} (h : ∀ x ∈ sc.names, x.2 = .free → ∃ c, env.cells.lookup x.1 = some c) : closureFor sc env = pure (clGo env.cells sc.names []) := by
  simp only [closureFor]
  rw [forIn_cl (env := env) ?h1 ?h2 sc.names [] h, pure_bind]
  case h1 =>
    intro n k acc hk
    have : (k == NameKind.free) = false := by simpa using hk
    simp only [this, Bool.false_eq_true, if_false]
  case h2 =>
    intro n acc c hc
    simp only [beq_self_eq_true, if_true, cellOf, hc]
    rfl
theorem clGo_sub {cells : List (Str × Addr)} {x : Str} {c : Addr} : ∀ (names : List (Str × NameKind)) (acc : List (Str × Addr)), (∀ y ∈ names, y.2 = .free → ∃ c, cells.lookup y.1 = some c) → (clGo cells names acc).lookup x = some c → acc.lookup x = some c ∨ cells.lookup x = some c
  | [], acc, _, h => .inl h
  | (n, k) :: r, acc, hf, h => by
    rcases clGo_sub r _ (fun y hy => hf y (List.mem_cons_of_mem _ hy)) h with h | h
    · by_cases hk : k = .free
      · rw [if_pos hk] at h
        obtain ⟨c', hc'⟩ := hf (n, k) List.mem_cons_self hk
        have hc2 : cells.lookup n = some c' := hc'
        rw [hc2] at h
        by_cases e : x = n
        · subst e
          simp at h
          subst h
          exact .inr hc2
        · have : (x == n) = false := by simpa using e
          rw [List.lookup_cons, this] at h
          exact .inl h
      · rw [if_neg hk] at h
        exact .inl h
    · exact .inr h
theorem clGo_some {cells : List (Str × Addr)} {x : Str} : ∀ (names : List (Str × NameKind)) (acc : List (Str × Addr)), ((∃ c, acc.lookup x = some c) ∨ (x, NameKind.free) ∈ names) → ∃ c, (clGo cells names acc).lookup x = some c
  | [], acc, h => by
    rcases h with h | h
    · exact h
    · cases h
  | (n, k) :: r, acc, h => by
    refine clGo_some r _ ?_
    rcases h with ⟨c, h⟩ | h
    · refine .inl ?_
      by_cases hk : k = .free
      · rw [if_pos hk, List.lookup_cons]
        by_cases e : (x == n) = true
        · rw [e]; exact ⟨_, rfl⟩
        · have e' : (x == n) = false := by simpa using e
          rw [e']; exact ⟨c, h⟩
      · rw [if_neg hk]; exact ⟨c, h⟩
    · rcases List.mem_cons.mp h with e | h
      · injection e with e1 e2
        subst e1; subst e2
        refine .inl ?_
        rw [if_pos rfl, List.lookup_cons]
        simp
      · exact .inr h
theorem mem_of_look {α : Type} : ∀ {l : List (Str × α)} {x : Str} {k : α}, l.lookup x = some k → (x, k) ∈ l
  | [], _, _, h => by simp at h
  | (n, a) :: r, x, k, h => by
    rw [List.lookup_cons] at h
    by_cases e : x = n
    · subst e
      simp at h
      subst h
      exact List.mem_cons_self
    · have : (x == n) = false := by simpa using e
      rw [this] at h
      exact List.mem_cons_of_mem _ (mem_of_look h)
theorem relabel_look {env : Env} : ∀ {names : List (Str × NameKind)} {x : Str} {k : NameKind},
    (names.map fun (n, k) => if (k == NameKind.free && env.scope.kind == .function && env.kindOf n == some .cell) then (n, NameKind.cell) else (n, k)).lookup x = some k →
    ∃ k0, names.lookup x = some k0 ∧ (k = k0 ∨ k0 = .free)
  | [], _, _, h => by simp at h
  | (n, k0) :: r, x, k, h => by
    rw [List.map_cons] at h
    by_cases e : x = n
    · subst e
      refine ⟨k0, by simp, ?_⟩
      by_cases hc : (k0 == NameKind.free && env.scope.kind == .function && env.kindOf x == some .cell) = true
      · right
        simp at hc
        exact hc.1.1
      · left
        dsimp only at h
        rw [if_neg hc] at h
        simp at h
        exact h.symm
    · have e' : (x == n) = false := by simpa using e
      rw [List.lookup_cons, e']
      dsimp only at h
      split at h
      · rw [List.lookup_cons, e'] at h
        exact relabel_look h
      · rw [List.lookup_cons, e'] at h
        exact relabel_look h
theorem relabel_cell {env : Env} (hk : env.scope.kind = .function) : ∀ {names : List (Str × NameKind)} {x : Str}, names.lookup x = some .free → env.kindOf x = some .cell →
    (names.map fun (n, k) => if (k == NameKind.free && env.scope.kind == .function && env.kindOf n == some .cell) then (n, NameKind.cell) else (n, k)).lookup x = some .cell
  | [], _, h, _ => by simp at h
  | (n, k0) :: r, x, h, hx => by
    rw [List.map_cons]
    by_cases e : x = n
    · subst e
      simp at h
      subst h
      have hc : (NameKind.free == NameKind.free && env.scope.kind == .function && env.kindOf x == some .cell) = true := by simp [hk, hx]
      dsimp only
      rw [if_pos hc]
      simp
    · have e' : (x == n) = false := by simpa using e
      rw [List.lookup_cons, e'] at h
      dsimp only
      split
      · rw [List.lookup_cons, e']; exact relabel_cell hk h hx
      · rw [List.lookup_cons, e']; exact relabel_cell hk h hx
structure CompScope (so : Scope) (N : List Str) (caps : List (Nat × Str)) (sc : Scope) : Prop where
  kind : sc.kind = .function
  nocell : ∀ y ∈ sc.names, y.2 ≠ .cell
  names : ∀ y ∈ sc.names, y.2 = .local → sc.names.lookup y.1 = some .local
  free : ∀ y ∈ sc.names, y.2 = .free → so.names.lookup y.1 = some .cell
  caps : ∀ p ∈ caps, N[p.1]? = some p.2 ∧ so.names.lookup p.2 = some .cell ∧ sc.names.lookup p.2 = some .free
noncomputable def capσ (caps : List (Nat × Str)) (σ : St) : St := caps.map fun p => (σ[p.1]?).join
noncomputable abbrev cxComp (X : Cx) (L : List Str) (caps : List (Nat × Str)) (sc : Scope) (C : Addr) (s : Shared) (H : Hp) (fp : List Addr) : Cx :=
  { X with N := L ++ caps.map (·.2), s₀ := s, H₀ := H, env := compEnvC sc (clGo X.env.cells sc.names []) C X.env, outer := X.stack, stack := X.stack, ex := fp, fn := fun _ => false, pn := [], xe := fun _ _ => False }
theorem ne_lt {a b : Addr} {n : Nat} (h : a < n) (h2 : n ≤ b) : a ≠ b := Nat.ne_of_lt (Nat.lt_of_lt_of_le h h2)
section
variable {X : Cx} {pins : List (Addr × Obj)} {σ : St} {H : Hp} {s : Shared} {L : List Str} {caps : List (Nat × Str)} {sc : Scope} {C D : Addr} {fp : List Addr}
theorem Inv.clFree (I : Inv X pins σ H s) (S : CompScope X.env.scope X.N caps sc) : ∀ x ∈ sc.names, x.2 = .free → ∃ c, X.env.cells.lookup x.1 = some c := fun x hx hf =>
  I.ok.has x.1 (.inl (S.free x hx hf))
theorem Inv.clSub (I : Inv X pins σ H s) (S : CompScope X.env.scope X.N caps sc) {x : Str} {c : Addr} (h : (clGo X.env.cells sc.names []).lookup x = some c) : X.env.cells.lookup x = some c := by
  rcases clGo_sub sc.names [] (I.clFree S) h with h | h
  · simp at h
  · exact h
theorem comp_start {h₁ : Heap} {tk : Nat} {m : Str → Option Value} {oD : Obj} (I : Inv X pins σ H s) (S : CompScope X.env.scope X.N caps sc) (hfp : ∀ b ∈ fp, FpOk X pins H b) (hfo : ∀ b ∈ fp, ∃ o, s.heap.get? b = some o)
    (hC : s.heap.objs.size ≤ C) (hn : h₁.Ns C m) (old : ∀ b o, s.heap.get? b = some o → h₁.get? b = some o) (hD : s.heap.objs.size ≤ D) (hDC : D ≠ C) (eD : h₁.get? D = some oD) (dD : ∀ v, oD.data ≠ .cell v) :
    Inv (cxComp X L caps sc C s H fp) [(D, oD)] (List.replicate L.length none ++ capσ caps σ) H { s with heap := h₁, toks := tk } := by
  have hcells : ∀ x c, (clGo X.env.cells sc.names []).lookup x = some c → ∃ v, s.heap.IsCell c v := fun x c e => I.cell x c (I.clSub S e)
  refine ⟨⟨I.ok.mod, S.kind, I.ok.glob, I.ok.blt, hC, fun x y c h1 h2 => I.ok.inj x y c (I.clSub S h1) (I.clSub S h2), fun x hx => ?_, fun _ _ h => (Bool.false_ne_true h).elim, I.ok.hd, I.ok.frames, .inl rfl, fun b hb => ⟨?_, fun x c e => (hfp b hb).2.2.2.2.1 x c (I.clSub S e)⟩, I.bs, Nat.le_trans I.ok.bsz I.sz, fun b o e hb => ?_, fun b hb hz => ?_, I.stack, I.stkFree⟩,
    rfl, I.bare, Un.kept old, ⟨m, hn, fun i x v e1 e2 e3 => ?_⟩, fun x c e => ?_, I.hok.fresh hC, fun x c e => I.freeC x c (I.clSub S e), fun p hp => ?_, I.hok.kept old, ?_⟩
  · -- has
    have key : ∀ k, (relabel sc X.env).names.lookup x = some k → (k = .cell ∨ k = .free) → (x, NameKind.free) ∈ sc.names := fun k e hk => by
      obtain ⟨k0, e0, h0⟩ := relabel_look e
      have hm := mem_of_look e0
      rcases h0 with h0 | h0
      · subst h0
        rcases hk with hk | hk
        · exact absurd hk (S.nocell _ hm)
        · rw [hk] at hm; exact hm
      · rw [h0] at hm; exact hm
    have hm : (x, NameKind.free) ∈ sc.names := by
      rcases hx with hx | hx
      · exact key _ hx (.inl rfl)
      · exact key _ hx (.inr rfl)
    exact clGo_some sc.names [] (.inr hm)
  · obtain ⟨o, e⟩ := hfo b hb
    exact Nat.ne_of_lt (Nat.lt_of_lt_of_le (Heap.lt_size e) hC)
  · rcases (hfp b hb).2.2.2.1 with z | z
    · exact I.ok.noex b o e z
    · exact absurd (Nat.lt_of_lt_of_le (Heap.lt_size e) (Nat.le_trans I.ok.bsz z)) (Nat.lt_irrefl _)
  · rcases List.mem_cons.mp (I.stkSub b hz) with z | z
    · exact (hfp b hb).2.1 z
    · exact (hfp b hb).2.2.1 z
  · -- loc
    have e1' : (L ++ caps.map (·.2))[i]? = some x := e1
    by_cases hi : i < L.length
    · rw [List.getElem?_append_left (by simpa using hi), List.getElem?_replicate] at e2
      split at e2 <;> cases e2
    · rw [List.getElem?_append_right (by simpa using Nat.not_lt.mp hi), List.length_replicate] at e2
      rw [List.getElem?_append_right (Nat.not_lt.mp hi)] at e1'
      unfold capσ at e2
      rw [List.getElem?_map] at e1' e2
      cases hp : caps[i - L.length]? with
      | none => rw [hp] at e1'; cases e1'
      | some p =>
        rw [hp] at e1' e2
        have ex : p.2 = x := Option.some.inj e1'
        have ev : (σ[p.1]?).join = some v := Option.some.inj e2
        have ev' : σ[p.1]? = some (some v) := by
          cases q : σ[p.1]? with
          | none => rw [q] at ev; cases ev
          | some o => rw [q] at ev; exact congrArg some ev
        obtain ⟨c1, c2, c3⟩ := S.caps p (List.mem_of_getElem? hp)
        obtain ⟨m0, hn0, hl⟩ := I.loc
        rw [ex] at c1 c2 c3
        obtain ⟨u, r, l⟩ := hl p.1 x v c1 ev' (.inr (.inl c2))
        refine ⟨u, r, .inr ⟨.inl (relabel_cell I.ok.kind c3 c2), ?_⟩⟩
        rcases l with ⟨hk, _⟩ | ⟨_, c, hc, hcell⟩
        · have : X.env.scope.names.lookup x = some .local := hk
          rw [c2] at this; cases this
        · obtain ⟨c', hc'⟩ := clGo_some (cells := X.env.cells) sc.names [] (.inr (mem_of_look c3))
          have := I.clSub S hc'
          rw [hc] at this
          cases this
          obtain ⟨o, ho, hd⟩ := hcell
          exact ⟨c, hc', o, old _ _ ho, hd⟩
  · obtain ⟨v, o, ho, hd⟩ := hcells x c e
    exact ⟨v, o, old _ _ ho, hd⟩
  · have : p ∈ [(D, oD)] := hp
    have ep : p = (D, oD) := by simpa using this
    subst ep
    refine ⟨eD, I.hok.fresh hD, hDC, fun z => ?_, dD⟩
    have zz : H D = none := I.hok.fresh hD
    obtain ⟨_, o, ho, _⟩ := (I.stack).mem z
    exact absurd (Nat.lt_of_lt_of_le (Heap.lt_size ho) hD) (Nat.lt_irrefl _)
  · show (List.replicate L.length none ++ capσ caps σ).length = (L ++ caps.map (·.2)).length
    unfold capσ
    simp
noncomputable def PIf (X : Cx) (ifs : List Expr) (t : TT) : Prop :=
  ∀ (pins : List (Addr × Obj)) (s : Shared) (σ : St) (H : Hp) (Q : Bool → Hp → Prop), Inv X pins σ H s → t σ H Q →
    wpAny (model X.prog X.w) X.A (forIn ifs true fun c r => if r = true then do let ok ← isTrue c X.env (eval c X.env); pure (ForInStep.yield ok) else pure (ForInStep.yield r)) (TP X pins σ Q) X.xe s
theorem pif_nil : PIf X [] (fun _ H Q => Q true H) := fun pins s σ H Q I h => wpAny_tests_nil ⟨H, I, h⟩
theorem pif_one {c : Expr} {t : TT} (h : PT X c t) : PIf X [c] t := fun pins s σ H Q I hq => wpAny_tests_one (h pins s σ H Q I hq)
theorem compLoop_any {prog : Program} {w : World} {A : Around} {R : Result → Shared → Prop} {s : Shared} {elt target iter : Expr} {ifs : List Expr} {scope : Scope} {pos : Pos} {it acc : Value} {env : Env} (I : Nat → Shared → Prop)
    (turn : ∀ n s, I n s → wpAny (model prog w) A (pyNext it) (fun r s₁ => match r with
      | none => R (.ok .next) s₁
      | some v => wpAny (model prog w) A (letOwnedTupleGo target it v) (fun _ s1' => wpAny (model prog w) A (assign target env v) (fun _ s₂ =>
          wpAny (model prog w) A (forIn ifs true fun c r => if r = true then do let ok ← isTrue c env (eval c env); pure (ForInStep.yield ok) else pure (ForInStep.yield r)) (fun ok s₃ =>
            if ok = true then wpAny (model prog w) A (eval elt env) (fun x s₄ =>
              wpAny (model prog w) A (call (.builtin "list.append") [acc, x]) (fun _ s₅ => ∃ m, m < n ∧ I m s₅) (fun _ _ => False) s₄) (fun _ _ => False) s₃
            else ∃ m, m < n ∧ I m s₃) (fun _ _ => False) s₂) (fun _ _ => False) s1') (fun _ _ => False) s₁) (fun _ _ => False) s)
    (n : Nat) (h : I n s) : codeAny (model prog w) A (.compLoop (.ListComp elt [⟨target, iter, ifs, 0⟩] scope pos) 0 it acc env) R s := by
  refine codeAny_loop rfl I (fun n s hI => ?_) n h
  show wpAny _ A ((compTurn (.ListComp elt [⟨target, iter, ifs, 0⟩] scope pos) 0 it acc env).onRaise (fun x => do noteFrame x env; theTreesLotGoes x)) _ _ s
  refine wpAny_noted ?_
  rw [compTurn_list]
  refine wpAny_bind (wpAny_standAt (wpAny_bind (wpAny_mono (turn n s hI) (fun r s₁ h₁ => ?_) fun _ _ h' => h'.elim)))
  cases r with
  | none => exact wpAny_pure h₁
  | some v =>
    refine wpAny_bind (wpAny_mono h₁ (fun _ s1' h1' => ?_) fun _ _ h' => h'.elim)
    refine wpAny_bind (wpAny_mono h1' (fun _ s₂ h₂ => wpAny_bind (wpAny_mono h₂ (fun ok s₃ h₃ => ?_) fun _ _ h' => h'.elim)) fun _ _ h' => h'.elim)
    cases ok with
    | false => exact wpAny_pure ⟨rfl, h₃⟩
    | true =>
      exact wpAny_bind (wpAny_bind (wpAny_mono h₃ (fun x s₄ h₄ => wpAny_bind (wpAny_mono h₄ (fun _ s₅ h₅ => wpAny_pure (wpAny_pure ⟨rfl, h₅⟩)) fun _ _ h' => h'.elim)) fun _ _ h' => h'.elim))
noncomputable def compW (J : It) (g : TG) (tc : TT) (te : TE) (σ0 : St) (H1 : Hp) (Fin : List V → Hp → Prop) : Prop :=
  ∃ W : Nat → Nat → St → List V → Hp → Prop, (∃ m, W 0 m σ0 [] H1) ∧ ∀ i m σ ys H, W i m σ ys H →
    (J.stop i H ∧ Fin ys H) ∨ (J.go i H ∧ ys.length < sizeLine ∧ ∀ x H', J.yld i H x H' → g x σ H' fun σ2 H2 => tc σ2 H2 fun b H3 =>
      if b = true then te σ2 H3 fun y H4 => ∃ m', m' < m ∧ W (i + 1) m' σ2 (ys ++ [y]) H4 else ∃ m', m' < m ∧ W (i + 1) m' σ2 ys H3)
theorem comp_block {elt iter tg : Expr} {ifs : List Expr} {pos : Pos} {g : TG} {tc : TT} {te : TE} {J : It} {it : Addr} {tn : Nat → Heap → Prop} {Fin : List V → Hp → Prop} {RR : Value → Addr → Result → Shared → Prop} {E : Value → Shared → Prop} {s₂ : Shared}
    (hc : X.calm = true) (S : CompScope X.env.scope X.N caps sc) (I : Inv X pins σ H s₂) (T : Turn X.prog X.w X.K tg J fp it tn) (st : tn 0 s₂.heap) (hfp : ∀ b ∈ fp, FpOk X pins H b)
    (hg : ∀ C, PG (cxComp X L caps sc C s₂ H fp) tg g) (hif : ∀ C, PIf (cxComp X L caps sc C s₂ H fp) ifs tc) (he : ∀ C, PE (cxComp X L caps sc C s₂ H fp) elt te)
    (hW : compW J g tc te (List.replicate L.length none ++ capσ caps σ) H Fin)
    (hRR : ∀ C D s' m ys H', Inv X pins σ (upd H' D (.lst ys)) s' → s'.heap.Ns C m → FpOk X pins (upd H' D (.lst ys)) C → H' D = none → Fin ys H' → RR (.ref D) C (.ok .next) s') :
    wpAny (model X.prog X.w) X.A (newList []) (fun acc s₃ => wpAny (model X.prog X.w) X.A (newFunctionEnv sc X.env.globals (clGo X.env.cells sc.names []) [] X.env.qual none .none (some X.env)) (fun cenv s₄ =>
      codeAny (model X.prog X.w) X.A (.compStart (.ListComp elt [⟨tg, iter, ifs, 0⟩] sc pos) 0 (.ref it) acc { cenv with scope := relabel sc X.env }) (RR acc cenv.locals) s₄) E s₃) E s₂ := by
  refine wpAny_newObj_type (wpAny_newFunctionEnv S.nocell (by intro y hy; simp at hy) (fun h₁ hns₁ hsb₁ => ?_) S.kind)
  dsimp only at hns₁ hsb₁ ⊢
  generalize hH2 : s₂.heap.push { cls := .type "list", dict := none, data := .seq ([] : List Value).toArray } = H2 at hns₁ hsb₁ ⊢
  have hCs : H2.objs.size = s₂.heap.objs.size + 1 := by rw [← hH2, Heap.size_push]
  have hDC : s₂.heap.objs.size ≠ H2.objs.size := by rw [hCs]; exact Nat.ne_of_lt (Nat.lt_succ_self _)
  have hCle : s₂.heap.objs.size ≤ H2.objs.size := by rw [hCs]; exact Nat.le_succ _
  have below : ∀ b, b < s₂.heap.objs.size → b ≠ H2.objs.size ∧ b ≠ s₂.heap.objs.size := fun b hb => ⟨by rw [hCs]; exact Nat.ne_of_lt (Nat.lt_succ_of_lt hb), Nat.ne_of_lt hb⟩
  have old : ∀ b o, s₂.heap.get? b = some o → h₁.get? b = some o := fun b o e => hsb₁.extBut b o (below b (Heap.lt_size e)).1 (Heap.get?_push_of_some _ (hH2 ▸ Heap.get?_push_of_some _ e))
  have hacc : h₁.get? s₂.heap.objs.size = some { cls := .type "list", data := .seq ([] : List Value).toArray } := hsb₁.extBut _ _ hDC (Heap.get?_push_of_some _ (hH2 ▸ Heap.get?_push_size _ rfl))
  generalize hCn : H2.objs.size = C at hns₁ hsb₁ hDC hCle below ⊢
  generalize hDn : s₂.heap.objs.size = D at hacc hDC ⊢
  have hDle : s₂.heap.objs.size ≤ D := Nat.le_of_eq hDn
  have fo : ∀ b ∈ fp, ∃ o, s₂.heap.get? b = some o := fun b hb => let ⟨o, e, _⟩ := T.obj 0 _ st b hb; ⟨o, e⟩
  have bD : ∀ b ∈ fp, D ≠ b := fun b hb z => by
    obtain ⟨o, e⟩ := fo b hb
    exact ne_lt (Heap.lt_size e) hDle z.symm
  have cD : ∀ x c, X.env.cells.lookup x = some c → c ≠ D := fun x c e => by
    obtain ⟨v, o, ho, _⟩ := I.cell x c e
    exact ne_lt (Heap.lt_size ho) hDle
  have cC : ∀ x c, X.env.cells.lookup x = some c → c ≠ C := fun x c e => by
    obtain ⟨v, o, ho, _⟩ := I.cell x c e
    exact ne_lt (Heap.lt_size ho) hCle
  have start := fun tk => comp_start (L := L) (fp := fp) (tk := tk) I S hfp fo hCle hns₁ old hDle hDC hacc (fun v z => by
    have z' : Data.seq _ _ = Data.cell v := z
    cases z')
  obtain ⟨W, ⟨m0, w0⟩, turn⟩ := hW
  -- the static facts of the iterator's records in the block
  have stat : ∀ {pl : List (Addr × Obj)} {H' : Hp}, (∀ b ∈ fp, H' b = none) → (∀ p ∈ pl, p.1 = D) → ∀ b ∈ fp, FpOk (cxComp X L caps sc C s₂ H fp) pl H' b := fun {pl H'} hn hpl b hb => by
    obtain ⟨f0, f1, f2, f3, f4, f5⟩ := hfp b hb
    obtain ⟨o, e⟩ := fo b hb
    refine ⟨hn b hb, (below b (Heap.lt_size e)).1, fun z => ?_, .inl hb, fun x c e' => f4 x c (I.clSub S e'), fun p hp z => ?_⟩
    · rcases List.mem_cons.mp (I.stkSub b z) with z | z
      · exact f1 z
      · exact f2 z
    · have hp' : p ∈ pl := hp
      exact bD b hb ((hpl p hp').symm.trans z)
  have fin : ∀ (s' : Shared) (σ' : St) (H' : Hp) (ys : List V) (its : List Value) (n : Nat), Inv (cxComp X L caps sc C s₂ H fp) [(D, { cls := .type "list", data := .seq its.toArray n })] σ' H' s' → Vals ys its → ys.length ≤ sizeLine → Fin ys H' → RR (.ref D) C (.ok .next) s' := fun s' σ' H' ys its n I' rv hz hF => by
    obtain ⟨m, hm, _⟩ := I'.loc
    obtain ⟨eD, hDn', _, _, _⟩ := I'.pin (D, { cls := .type "list", data := .seq its.toArray n }) (by simp)
    have eD' : s'.heap.get? D = some { cls := .type "list", data := .seq its.toArray n } := eD
    have hDnone : H' D = none := hDn'
    have hCnone : H' C = none := I'.free
    have neD : ∀ b o, s₂.heap.get? b = some o → b ≠ D := fun b o e => ne_lt (Heap.lt_size e) hDle
    have neH : ∀ b u, H b = some u → b ≠ D := fun b u e => ne_lt (I.hok.lt e) hDle
    have ub := I'.base
    have hok : HOk X.prog X.w (upd H' D (.lst ys)) s'.heap := fun b u e => by
      by_cases hb : b = D
      · subst hb
        rw [upd_same] at e
        cases e
        exact ⟨hz, its, n, rv, eD'⟩
      · rw [upd_ne hb] at e
        exact (I'.hok b u e).stay (fun c v _ q => q) (fun c q => by rw [upd_ne (ne_of_none q hDnone)]; exact q) fun c xs q => by rw [upd_ne (ne_of_none q hDnone)]; exact q
    have un : Un (frs X.stack) fp H (upd H' D (.lst ys)) s₂.heap s'.heap := ⟨ub.keep, ub.slot, fun b o e n hx => by rw [upd_ne (neD b o e)]; exact ub.free b o e n hx, ub.there, fun b xs e => by rw [upd_ne (neH b _ e)]; exact ub.tups b xs e,
      fun b o u e => by rw [upd_ne (neH b _ e)]; exact ub.frzs b o u e, fun b ps e => by rw [upd_ne (neH b _ e)]; exact ub.tbls b ps e⟩
    have IX : Inv X pins σ (upd H' D (.lst ys)) s' := I.call' (ch := fp) I'.os un hok I'.bare fun b hb => by
      obtain ⟨f0, f1, f2, f3, f4, f5⟩ := hfp b hb
      exact ⟨f3, f1, f4, f5⟩
    refine hRR C D s' m ys H' IX hm ⟨by rw [upd_ne (Ne.symm hDC)]; exact hCnone, ?_, ?_, .inr (Nat.le_trans I.sz hCle), cC, fun p hp => ?_⟩ hDnone hF
    · exact Ne.symm (ne_lt I.lt hCle)
    · exact I.nofs hCle
    · exact ne_lt (Heap.lt_size (I.pin p hp).1) hCle
  have loop : ∀ s₃ : Shared, s₃ = { s₂ with heap := h₁, toks := s₂.toks + ([] : List (Str × Value)).length } →
      codeAny (model X.prog X.w) X.A (.compLoop (.ListComp elt [⟨tg, iter, ifs, 0⟩] sc pos) 0 (.ref it) (.ref D) (compEnvC sc (clGo X.env.cells sc.names []) C X.env)) (RR (.ref D) C) s₃ := by
    rintro s₃ rfl
    refine compLoop_any (fun k s' => ∃ i σ' H' ys its n, Inv (cxComp X L caps sc C s₂ H fp) [(D, { cls := .type "list", data := .seq its.toArray n })] σ' H' s' ∧ tn i s'.heap ∧ (∀ b ∈ fp, H' b = none) ∧ Vals ys its ∧ ys.length ≤ sizeLine ∧ W i k σ' ys H') ?_ m0
      ⟨0, _, H, [], [], 0, start _, T.keep 0 _ _ st (fun b hb o e => old b o e), fun b hb => (hfp b hb).1, .nil, Nat.zero_le _, w0⟩
    rintro k s' ⟨i, σ', H', ys, its, n, I', st', fr', rv, hz, w'⟩
    have hpl : ∀ p ∈ [(D, ({ cls := .type "list", data := .seq its.toArray n } : Obj))], p.1 = D := fun p hp => by
      rcases List.mem_cons.mp hp with e | e
      · rw [e]
      · cases e
    rcases turn i k σ' ys H' w' with ⟨stop, hF⟩ | ⟨go, hlen, step⟩
    · refine thn (T.done (cxComp X L caps sc C s₂ H fp) rfl rfl rfl hc i _ s' σ' H' _ I' (stat fr' hpl) st' stop) fun r s4 ⟨hr, I4⟩ => ?_
      subst hr
      exact fin s4 σ' H' ys its n I4 rv hz hF
    · refine thn (T.item (cxComp X L caps sc C s₂ H fp) rfl rfl rfl hc i _ s' σ' H' _ I' (stat fr' hpl) st' go) fun r s4 ⟨u, hr, h4⟩ => ?_
      subst hr
      refine thn h4 fun _ s5 ⟨x, H5, I5, r5, y5, st5, fr5⟩ => ?_
      have I5' := I5.pinned (stat fr5 hpl) (T.obj _ _ st5)
      refine thn (hg C _ s5 σ' H5 x u _ I5' r5 (step x H5 y5)) fun _ s6 ⟨σ6, H6, I6, q6⟩ => ?_
      refine thn (hif C _ s6 σ6 H6 _ I6 q6) fun ok s7 ⟨H7, I7, q7⟩ => ?_
      have back : ∀ {σ8 : St} {H8 : Hp} {s8 : Shared}, Inv (cxComp X L caps sc C s₂ H fp) ([(D, { cls := .type "list", data := .seq its.toArray n })] ++ pinsAt fp s5.heap) σ8 H8 s8 →
          tn (i + 1) s8.heap ∧ ∀ b ∈ fp, H8 b = none := fun {σ8 H8 s8} I8 => by
        refine ⟨T.keep _ _ _ st5 fun b hb o e => (I8.pin (b, o) (List.mem_append_right _ (List.mem_append_right _ (mem_pinsAt hb e)))).1, fun b hb => ?_⟩
        obtain ⟨o, e, d⟩ := T.obj _ _ st5 b hb
        exact (I8.pin (b, o) (List.mem_append_right _ (List.mem_append_right _ (mem_pinsAt hb e)))).2.1
      cases ok with
      | false =>
        rw [if_neg Bool.false_ne_true] at q7
        rw [if_neg Bool.false_ne_true]
        obtain ⟨m', hm', w7⟩ := q7
        obtain ⟨b1, b2⟩ := back I7
        exact ⟨m', hm', i + 1, σ6, H7, ys, its, n, I7.unpinned, b1, b2, rv, hz, w7⟩
      | true =>
        rw [if_pos rfl] at q7
        rw [if_pos rfl]
        refine thn (he C _ s7 σ6 H7 _ I7 q7) fun yv s8 ⟨y, H8, I8, r8, m', hm', w8⟩ => ?_
        obtain ⟨b1, b2⟩ := back I8
        obtain ⟨eD, hDn8, neL8, nf8, _⟩ := I8.pin (D, { cls := .type "list", data := .seq its.toArray n }) (by simp)
        have hl := rv.length
        refine append_at (s := s8) eD (fun h9 sb e9 => ?_) (by simp only [List.size_toArray]; omega)
        have I8' : Inv (cxComp X L caps sc C s₂ H fp) [] σ6 H8 s8 := I8.pins_of fun p hp => nomatch hp
        have I9 : Inv (cxComp X L caps sc C s₂ H fp) [] σ6 H8 { s8 with heap := h9 } := I8'.turned (t' := s8.toks) (it := D) (fun b o hb e => (sb.2 b hb).trans e) hDn8 neL8 (.inr hDle) (fun x c e => cD x c (I.clSub S e)) fun p hp => nomatch (show p ∈ ([] : List (Addr × Obj)) from hp)
        have ep : its.toArray.push yv = (its ++ [yv]).toArray := by simp
        rw [ep] at e9
        refine ⟨m', hm', i + 1, σ6, H8, ys ++ [y], its ++ [yv], n + 1, I9.pins_of fun p hp => ?_, T.keep _ _ _ b1 fun b hb o e => (sb.2 b (Ne.symm (bD b hb))).trans e, b2, Vals.append rv (.cons r8 .nil), by rw [List.length_append]; exact hlen, w8⟩
        obtain rfl : p = (D, ({ cls := .type "list", data := .seq (its ++ [yv]).toArray (n + 1) } : Obj)) := by
          rcases List.mem_cons.mp hp with e | e
          · exact e
          · cases e
        exact ⟨e9, hDn8, neL8, nf8, fun v z => by
          have z' : Data.seq _ _ = Data.cell v := z
          cases z'⟩
  exact codeAny_compStart_list (loop _ rfl) (T.self X.A 0 _ _ _ (T.keep 0 _ _ st fun b hb o e => old b o e) (loop _ rfl))
noncomputable def tComp (wi : TI) (g : TG) (tc : TT) (te : TE) (nL : Nat) (caps : List (Nat × Str)) : TE := fun σ H Q => wi σ H fun J H1 =>
  compW J g tc te (List.replicate nL none ++ capσ caps σ) H1 fun ys H2 => ∀ p, H2 p = none → Q (.ref p) (upd H2 p (.lst ys))
theorem pe_comp {elt iter tg : Expr} {ifs : List Expr} {pos : Pos} {wi : TI} {g : TG} {tc : TT} {te : TE} (L : List Str) (caps : List (Nat × Str)) (hc : X.calm = true) (S : CompScope X.env.scope X.N caps sc) (hi : PI X tg iter wi)
    (hg : ∀ C s H fp, PG (cxComp X L caps sc C s H fp) tg g) (hif : ∀ C s H fp, PIf (cxComp X L caps sc C s H fp) ifs tc) (he : ∀ C s H fp, PE (cxComp X L caps sc C s H fp) elt te)
    (hs : ∀ x, foldedSetIterable iter X.env x = pure x := by intro _; rfl) : PE X (.ListComp elt [⟨tg, iter, ifs, 0⟩] sc pos) (tComp wi g tc te L.length caps) := by
  intro pins s σ H Q I h
  rw [eval_ListComp]
  refine wpAny_comprehension_free (use := none) rfl hs (clos_eq (I.clFree S)) S.kind S.names (thn (hi pins s σ H _ I h) fun v s1 h1 => thn h1 fun itv s2 h2 => ?_)
  obtain ⟨it, fp, tn, J, H2, e, I2, T, st2, f2, hW⟩ := h2
  subst e
  refine comp_block (L := L) (RR := fun acc C => compPost (model X.prog X.w) X.A X.xe none (EP X pins σ Q) acc C) hc S I2 T st2 f2 (fun C => hg C _ _ _) (fun C => hif C _ _ _) (fun C => he C _ _ _) hW ?_
  intro C D s' m ys H' I' hn hC hDn hF
  refine ⟨m, hn, fun h' sb => ?_⟩
  obtain ⟨f0, f1, f2, f3, f4, f5⟩ := hC
  exact ⟨.ref D, _, I'.turned (t' := s'.toks) (it := C) (fun b o hb e => (sb.2 b hb).trans e) f0 f1 f3 f4 f5, rfl, hF D hDn⟩
theorem ps_comp {elt iter tg : Expr} {ifs : List Expr} {pos py spos : Pos} {wi : TI} {g : TG} {tc : TT} {te : TE} {i : Nat} {y : Str} (L : List Str) (caps : List (Nat × Str)) (hc : X.calm = true) (hN : X.N.Nodup) (hy : X.N[i]? = some y) (hyl : X.env.scope.names.lookup y = some .local)
    (S : CompScope X.env.scope X.N caps sc) (hi : PI X tg iter wi)
    (hg : ∀ C s H fp, PG (cxComp X L caps sc C s H fp) tg g) (hif : ∀ C s H fp, PIf (cxComp X L caps sc C s H fp) ifs tc) (he : ∀ C s H fp, PE (cxComp X L caps sc C s H fp) elt te)
    (hsw : swapsWith (.ListComp elt [⟨tg, iter, ifs, 0⟩] sc pos) (some (.Name y py)) spos.line X.env = pure true := by rfl)
    (hs : ∀ x, foldedSetIterable iter X.env x = pure x := by intro _; rfl) : PS X (.Assign [.Name y py] (.ListComp elt [⟨tg, iter, ifs, 0⟩] sc pos) spos) (tAsg (tComp wi g tc te L.length caps) (gName i)) := by
  intro pins s σ H D I h
  rw [exec_Assign_Name_used _ _ _ _ hsw]
  refine wpAny_bind (wpAny_standAt (wpAny_bind ?_))
  show wpAny _ X.A (do let _ ← comprehension (.ListComp elt [⟨tg, iter, ifs, 0⟩] sc pos) sc X.env _ (newList []) false (eval iter X.env) (some (assign (.Name y py) X.env))) _ _ s
  refine wpAny_bind (wpAny_mono (wpAny_comprehension_free (use := some (assign (.Name y py) X.env)) (Q := fun _ s' => SP X pins D .next s') rfl hs (clos_eq (I.clFree S)) S.kind S.names
    (thn (hi pins s σ H _ I h) fun v s1 h1 => thn h1 fun itv s2 h2 => ?_)) (fun _ s' hq => wpAny_pure (wpAny_pure hq)) fun _ _ e => e)
  obtain ⟨it, fp, tn, J, H2, e, I2, T, st2, f2, hW⟩ := h2
  subst e
  refine comp_block (L := L) (RR := fun acc C => compPost (model X.prog X.w) X.A X.xe (some (assign (.Name y py) X.env)) (fun _ s' => SP X pins D .next s') acc C) hc S I2 T st2 f2 (fun C => hg C _ _ _) (fun C => hif C _ _ _) (fun C => he C _ _ _) hW ?_
  intro C Dd s' m ys H' I' hn hC hDn hF
  obtain ⟨f0, f1, f2, f3, f4, f5⟩ := hC
  show wpAny _ X.A (assign (.Name y py) X.env (.ref Dd)) _ _ _
  refine wpAny_assign_Name (store_ok2 (v := .ref Dd) I' hN hy (.inl hyl) rfl (fun s'' I'' hsb => ?_) (.inr hyl))
  obtain ⟨a, hsb, ha⟩ := hsb
  have hL : a ≠ C := by
    rcases ha with z | z
    · rw [z]; exact Ne.symm f1
    · exact f4 y a z
  refine ⟨m, hn.sameBut hsb (Ne.symm hL), fun h' sb => ?_⟩
  exact ⟨_, _, I''.turned (t' := s''.toks) (it := C) (fun b o hb e => (sb.2 b hb).trans e) f0 f1 f3 f4 f5, hF Dd hDn⟩
end
end L2
namespace L3
open PySem PySem.Spec PyProof.Rows L2
inductive Dt where
  | non | bl (b : Bool) | int (i : Int) | str (x : Str) | tup (xs : List Dt) | lst (n : Nat) | ty (n : String) | dic (n : Nat) | ins (n : Nat)
inductive SO where
  | ro (xs : List Dt) | rw (xs : List Dt) | dc (kvs : List (Key × Dt)) | ob (C : Str) (fs : List (Str × Dt))
noncomputable def SO.items : SO → List Dt
  | .ro xs => xs
  | .rw xs => xs
  | .dc _ => []
  | .ob _ _ => []
noncomputable def IsL (K : PySem.W.Frag) (H : Hp) (a : Addr) : Prop := ∃ vs, SqL K H a vs
noncomputable def IsD (H : Hp) (a : Addr) : Prop := ∃ kvs, H a = some (.dK kvs)
noncomputable def IsO (H : Hp) (a : Addr) : Prop := ∃ C dx fs, H a = some (.ins C dx fs)
noncomputable abbrev Sto := List SO
noncomputable abbrev Rho := List (Option Dt)
mutual
noncomputable def D (K : PySem.W.Frag) (φ : Nat → Addr) (N : Nat) (H : Hp) : Dt → V → Prop
  | .non, v => v = .non
  | .bl b, v => v = .bl b
  | .int i, v => v = .int i
  | .str x, v => v = .str x
  | .ty n, v => v = .ty n
  | .tup ds, v => ∃ a vs, v = .ref a ∧ SqT K H a vs ∧ DL K φ N H ds vs
  | .lst n, v => n < N ∧ v = .ref (φ n) ∧ IsL K H (φ n)
  | .dic n, v => n < N ∧ v = .ref (φ n) ∧ IsD H (φ n)
  | .ins n, v => n < N ∧ v = .ref (φ n) ∧ IsO H (φ n)
noncomputable def DL (K : PySem.W.Frag) (φ : Nat → Addr) (N : Nat) (H : Hp) : List Dt → List V → Prop
  | [], vs => vs = []
  | d :: ds, vs => ∃ v r, vs = v :: r ∧ D K φ N H d v ∧ DL K φ N H ds r
end
structure Evo (K : PySem.W.Frag) (φ : Nat → Addr) (N : Nat) (H : Hp) (φ' : Nat → Addr) (N' : Nat) (H' : Hp) : Prop where
  le : N ≤ N'
  ext : ∀ i, i < N → φ' i = φ i
  tup : ∀ a vs, SqT K H a vs → SqT K H' a vs
  lst : ∀ i, i < N → IsL K H (φ i) → IsL K H' (φ i)
  dic : ∀ i, i < N → IsD H (φ i) → IsD H' (φ i)
  ins : ∀ i, i < N → IsO H (φ i) → IsO H' (φ i)
section
variable {K : PySem.W.Frag} {φ φ' φ1 φ2 : Nat → Addr} {N N' N1 N2 : Nat} {H H' H1 H2 : Hp}
theorem Evo.refl : Evo K φ N H φ N H := ⟨Nat.le_refl _, fun _ _ => rfl, fun _ _ h => h, fun _ _ h => h, fun _ _ h => h, fun _ _ h => h⟩
theorem Evo.trans (a : Evo K φ N H φ1 N1 H1) (b : Evo K φ1 N1 H1 φ2 N2 H2) : Evo K φ N H φ2 N2 H2 :=
  ⟨Nat.le_trans a.le b.le, fun i hi => (b.ext i (Nat.lt_of_lt_of_le hi a.le)).trans (a.ext i hi), fun x vs h => b.tup x vs (a.tup x vs h), 
    fun i hi h => (fun q : IsL K H1 (φ1 i) → IsL K H2 (φ1 i) => a.ext i hi ▸ q (a.ext i hi ▸ a.lst i hi h)) (b.lst i (Nat.lt_of_lt_of_le hi a.le)),
    fun i hi h => (fun q : IsD H1 (φ1 i) → IsD H2 (φ1 i) => a.ext i hi ▸ q (a.ext i hi ▸ a.dic i hi h)) (b.dic i (Nat.lt_of_lt_of_le hi a.le)),
    fun i hi h => (fun q : IsO H1 (φ1 i) → IsO H2 (φ1 i) => a.ext i hi ▸ q (a.ext i hi ▸ a.ins i hi h)) (b.ins i (Nat.lt_of_lt_of_le hi a.le))⟩
mutual
theorem D.evo (e : Evo K φ N H φ' N' H') : ∀ {d : Dt} {v : V}, D K φ N H d v → D K φ' N' H' d v
  | .non, _, h => by simpa [D] using h
  | .bl _, _, h => by simpa [D] using h
  | .int _, _, h => by simpa [D] using h
  | .str _, _, h => by simpa [D] using h
  | .ty _, _, h => by simpa [D] using h
  | .tup ds, v, h => by
    simp only [D] at h ⊢
    obtain ⟨a, vs, h1, h2, h3⟩ := h
    exact ⟨a, vs, h1, e.tup a vs h2, DL.evo e h3⟩
  | .lst n, v, h => by
    simp only [D] at h ⊢
    obtain ⟨h1, h2, h3⟩ := h
    exact ⟨Nat.lt_of_lt_of_le h1 e.le, by rw [e.ext n h1]; exact h2, by rw [e.ext n h1]; exact e.lst n h1 h3⟩
  | .dic n, v, h => by
    simp only [D] at h ⊢
    obtain ⟨h1, h2, h3⟩ := h
    exact ⟨Nat.lt_of_lt_of_le h1 e.le, by rw [e.ext n h1]; exact h2, by rw [e.ext n h1]; exact e.dic n h1 h3⟩
  | .ins n, v, h => by
    simp only [D] at h ⊢
    obtain ⟨h1, h2, h3⟩ := h
    exact ⟨Nat.lt_of_lt_of_le h1 e.le, by rw [e.ext n h1]; exact h2, by rw [e.ext n h1]; exact e.ins n h1 h3⟩
theorem DL.evo (e : Evo K φ N H φ' N' H') : ∀ {ds : List Dt} {vs : List V}, DL K φ N H ds vs → DL K φ' N' H' ds vs
  | [], vs, h => by simpa [DL] using h
  | d :: ds, vs, h => by
    simp only [DL] at h ⊢
    obtain ⟨v, r, h1, h2, h3⟩ := h
    exact ⟨v, r, h1, D.evo e h2, DL.evo e h3⟩
end
theorem DL.length : ∀ {ds : List Dt} {vs : List V}, DL K φ N H ds vs → ds.length = vs.length
  | [], vs, h => by simp only [DL] at h; rw [h]; rfl
  | d :: ds, vs, h => by
    simp only [DL] at h
    obtain ⟨v, r, h1, _, h3⟩ := h
    rw [h1, List.length_cons, List.length_cons, DL.length h3]
theorem DL.get : ∀ {ds : List Dt} {vs : List V} {i : Nat} {d : Dt}, DL K φ N H ds vs → ds[i]? = some d → ∃ v, vs[i]? = some v ∧ D K φ N H d v
  | [], _, _, _, _, e => by simp at e
  | d :: ds, vs, 0, d', h, e => by
    simp only [DL] at h
    obtain ⟨v, r, h1, h2, _⟩ := h
    simp at e
    subst e; subst h1
    exact ⟨v, rfl, h2⟩
  | d :: ds, vs, i + 1, d', h, e => by
    simp only [DL] at h
    obtain ⟨v, r, h1, _, h3⟩ := h
    subst h1
    obtain ⟨w, e1, e2⟩ := DL.get (i := i) h3 (by simpa using e)
    exact ⟨w, by simpa using e1, e2⟩
theorem DL.nil : DL K φ N H [] [] := by simp [DL]
theorem DL.cons {d : Dt} {v : V} {ds : List Dt} {vs : List V} (h : D K φ N H d v) (t : DL K φ N H ds vs) : DL K φ N H (d :: ds) (v :: vs) := by
  simp only [DL]; exact ⟨v, vs, rfl, h, t⟩
theorem DL.uncons {d : Dt} {v : V} {ds : List Dt} {vs : List V} (h : DL K φ N H (d :: ds) (v :: vs)) : D K φ N H d v ∧ DL K φ N H ds vs := by
  simp only [DL] at h
  obtain ⟨v', r, h1, h2, h3⟩ := h
  cases h1
  exact ⟨h2, h3⟩
theorem DL.append : ∀ {ds es : List Dt} {vs ws : List V}, DL K φ N H ds vs → DL K φ N H es ws → DL K φ N H (ds ++ es) (vs ++ ws)
  | [], _, vs, _, h, h' => by simp only [DL] at h; rw [h]; exact h'
  | d :: ds, es, vs, ws, h, h' => by
    simp only [DL] at h
    obtain ⟨v, r, h1, h2, h3⟩ := h
    subst h1
    exact DL.cons h2 (DL.append h3 h')
theorem DL.drop : ∀ {ds : List Dt} {vs : List V} (n : Nat), DL K φ N H ds vs → DL K φ N H (ds.drop n) (vs.drop n)
  | ds, vs, 0, h => h
  | [], vs, n + 1, h => by simp only [DL] at h; rw [h]; simpa using DL.nil
  | d :: ds, vs, n + 1, h => by
    simp only [DL] at h
    obtain ⟨v, r, h1, h2, h3⟩ := h
    subst h1
    exact DL.drop n h3
theorem DL.take : ∀ {ds : List Dt} {vs : List V} (n : Nat), DL K φ N H ds vs → DL K φ N H (ds.take n) (vs.take n)
  | ds, vs, 0, h => by simpa using DL.nil
  | [], vs, n + 1, h => by simp only [DL] at h; rw [h]; simpa using DL.nil
  | d :: ds, vs, n + 1, h => by
    simp only [DL] at h
    obtain ⟨v, r, h1, h2, h3⟩ := h
    subst h1
    exact DL.cons h2 (DL.take n h3)
theorem DL.set {d : Dt} {v : V} (hd : D K φ N H d v) : ∀ {ds : List Dt} {vs : List V} (n : Nat), DL K φ N H ds vs → DL K φ N H (ds.set n d) (vs.set n v)
  | [], vs, n, h => by simp only [DL] at h; rw [h]; simpa using DL.nil
  | e :: ds, vs, 0, h => by
    simp only [DL] at h
    obtain ⟨w, r, h1, h2, h3⟩ := h
    subst h1
    exact DL.cons hd h3
  | e :: ds, vs, n + 1, h => by
    simp only [DL] at h
    obtain ⟨w, r, h1, h2, h3⟩ := h
    subst h1
    exact DL.cons h2 (DL.set hd n h3)
theorem DL.one {d : Dt} {vs : List V} (h : DL K φ N H [d] vs) : ∃ v, vs = [v] ∧ D K φ N H d v := by
  simp only [DL] at h
  obtain ⟨v, r, h1, h2, h3⟩ := h
  subst h3
  exact ⟨v, h1, h2⟩
theorem DL.two {d e : Dt} {vs : List V} (h : DL K φ N H [d, e] vs) : ∃ v w, vs = [v, w] ∧ D K φ N H d v ∧ D K φ N H e w := by
  simp only [DL] at h
  obtain ⟨v, r, h1, h2, w, r', h3, h4, h5⟩ := h
  subst h5; subst h3
  exact ⟨v, w, h1, h2, h4⟩
theorem D.int {i : Int} {v : V} (h : D K φ N H (.int i) v) : v = .int i := by simpa [D] using h
theorem D.bl {i : Bool} {v : V} (h : D K φ N H (.bl i) v) : v = .bl i := by simpa [D] using h
theorem D.str {i : Str} {v : V} (h : D K φ N H (.str i) v) : v = .str i := by simpa [D] using h
theorem D.non {v : V} (h : D K φ N H .non v) : v = .non := by simpa [D] using h
theorem D.ty {n : String} {v : V} (h : D K φ N H (.ty n) v) : v = .ty n := by simpa [D] using h
theorem D.tup {ds : List Dt} {v : V} (h : D K φ N H (.tup ds) v) : ∃ a vs, v = .ref a ∧ SqT K H a vs ∧ DL K φ N H ds vs := by simpa [D] using h
theorem D.lst {n : Nat} {v : V} (h : D K φ N H (.lst n) v) : n < N ∧ v = .ref (φ n) := by simp only [D] at h; exact ⟨h.1, h.2.1⟩
theorem D.isL {n : Nat} {v : V} (h : D K φ N H (.lst n) v) : IsL K H (φ n) := by simp only [D] at h; exact h.2.2
theorem D.dic {n : Nat} {v : V} (h : D K φ N H (.dic n) v) : n < N ∧ v = .ref (φ n) := by simp only [D] at h; exact ⟨h.1, h.2.1⟩
theorem D.isD {n : Nat} {v : V} (h : D K φ N H (.dic n) v) : IsD H (φ n) := by simp only [D] at h; exact h.2.2
theorem D.ins {n : Nat} {v : V} (h : D K φ N H (.ins n) v) : n < N ∧ v = .ref (φ n) := by simp only [D] at h; exact ⟨h.1, h.2.1⟩
theorem D.mkInt {i : Int} : D K φ N H (.int i) (.int i) := by simp [D]
theorem D.mkBl {i : Bool} : D K φ N H (.bl i) (.bl i) := by simp [D]
theorem D.mkStr {i : Str} : D K φ N H (.str i) (.str i) := by simp [D]
theorem D.mkNon : D K φ N H .non .non := by simp [D]
theorem D.mkTy {n : String} : D K φ N H (.ty n) (.ty n) := by simp [D]
theorem D.mkTup {ds : List Dt} {a : Addr} {vs : List V} (h : SqT K H a vs) (t : DL K φ N H ds vs) : D K φ N H (.tup ds) (.ref a) := by simp only [D]; exact ⟨a, vs, rfl, h, t⟩
theorem D.mkLst {n : Nat} (h : n < N) (hl : IsL K H (φ n)) : D K φ N H (.lst n) (.ref (φ n)) := by simp only [D]; exact ⟨h, trivial, hl⟩
theorem D.mkDic {n : Nat} (h : n < N) (hl : IsD H (φ n)) : D K φ N H (.dic n) (.ref (φ n)) := by simp only [D]; exact ⟨h, trivial, hl⟩
end
noncomputable def SqR (K : PySem.W.Frag) (H : Hp) (a : Addr) (xs : List V) : Prop :=
  (∃ o, H a = some (.frz o (.lst xs))) ∨
    ∃ (o : Obj) (its : Array Value) (n : Nat), K.lookup a = some o ∧ o.cls = .type "list" ∧ o.dict = none ∧ o.data = .seq its n ∧ its.size ≤ sizeLine ∧ Vals xs its.toList
theorem SqR.sq {K : PySem.W.Frag} {H : Hp} {a : Addr} {xs : List V} (h : SqR K H a xs) : SqL K H a xs := by
  rcases h with h | h
  · exact .inl (.inr h)
  · exact .inr h
noncomputable def Holds (K : PySem.W.Frag) (φ : Nat → Addr) (N : Nat) (H : Hp) : SO → Addr → Prop
  | .ro xs, a => ∃ vs, SqR K H a vs ∧ DL K φ N H xs vs
  | .rw xs, a => ∃ vs, H a = some (.lst vs) ∧ DL K φ N H xs vs
  | .dc kvs, a => ∃ vs : List (Key × V), H a = some (.dK vs) ∧ K.lookup a = none ∧ kvs.map (·.1) = vs.map (·.1) ∧ DL K φ N H (kvs.map (·.2)) (vs.map (·.2))
  | .ob C fs, a => ∃ (c dx : Addr) (vs : List (Str × V)), H a = some (.ins c dx vs) ∧ K.lookup a = none ∧ PySem.W.nsIn K mainGlobals C = some (some (.ref c)) ∧ fs.map (·.1) = vs.map (·.1) ∧ DL K φ N H (fs.map (·.2)) (vs.map (·.2))
noncomputable def SO.wr : SO → Bool
  | .ro _ => false
  | _ => true
structure Rep (K : PySem.W.Frag) (φ : Nat → Addr) (st : Sto) (H : Hp) : Prop where
  injA : ∀ (i j : Nat) a b, st[i]? = some a → st[j]? = some b → a.wr = true → b.wr = true → φ i = φ j → i = j
  all : ∀ (i : Nat) o, st[i]? = some o → Holds K φ st.length H o (φ i)
section
variable {K : PySem.W.Frag} {φ φ' : Nat → Addr} {N N' : Nat} {st : Sto} {H H' : Hp} {p : Addr}
theorem Rep.inj (R : Rep K φ st H) : ∀ (i j : Nat) xs ys, st[i]? = some (.rw xs) → st[j]? = some (.rw ys) → φ i = φ j → i = j := fun i j _ _ e1 e2 h => R.injA i j _ _ e1 e2 rfl rfl h
theorem Rep.ro (R : Rep K φ st H) : ∀ (i : Nat) xs, st[i]? = some (.ro xs) → ∃ vs, SqR K H (φ i) vs ∧ DL K φ st.length H xs vs := fun i _ e => R.all i _ e
theorem Rep.rw (R : Rep K φ st H) : ∀ (i : Nat) xs, st[i]? = some (.rw xs) → ∃ vs, H (φ i) = some (.lst vs) ∧ DL K φ st.length H xs vs := fun i _ e => R.all i _ e
theorem Rep.seq (R : Rep K φ st H) {i : Nat} {o : SO} (e : st[i]? = some o) (hl : IsL K H (φ i)) : ∃ vs, SqL K H (φ i) vs ∧ DL K φ st.length H o.items vs := by
  have no : ∀ {u : HO}, H (φ i) = some u → K.lookup (φ i) = none → (∀ vs, u ≠ .lst vs) → (∀ ob vs, u ≠ .frz ob vs) → False := by
    intro u h hk h1 h2
    obtain ⟨vs, (h3 | ⟨ob, h3⟩) | ⟨ob, _, _, h3, _⟩⟩ := hl
    · rw [h] at h3; exact h1 _ (Option.some.inj h3)
    · rw [h] at h3; exact h2 _ _ (Option.some.inj h3)
    · rw [hk] at h3; cases h3
  cases o with
  | ro xs =>
    obtain ⟨vs, h1, h2⟩ := R.ro i xs e
    exact ⟨vs, h1.sq, h2⟩
  | rw xs =>
    obtain ⟨vs, h1, h2⟩ := R.rw i xs e
    exact ⟨vs, SqL.of h1, h2⟩
  | dc kvs =>
    obtain ⟨vs, h1, h2, _⟩ := R.all i _ e
    exact (no h1 h2 (fun _ z => by cases z) (fun _ _ z => by cases z)).elim
  | ob C fs =>
    obtain ⟨c, dx, vs, h1, h2, _⟩ := R.all i _ e
    exact (no h1 h2 (fun _ z => by cases z) (fun _ _ z => by cases z)).elim
theorem sqT_upd {a : Addr} {vs : List V} {o : HO} (h : SqT K H a vs) (hp : H p = none) : SqT K (upd H p o) a vs := by
  rcases h with (h | ⟨ob, h⟩) | h
  · exact .inl (.inl (by rw [upd_ne (ne_of_none h hp)]; exact h))
  · exact .inl (.inr ⟨ob, by rw [upd_ne (ne_of_none h hp)]; exact h⟩)
  · exact .inr h
theorem sqR_upd {a : Addr} {vs : List V} {o : HO} (h : SqR K H a vs) (hp : H p = none) : SqR K (upd H p o) a vs := by
  rcases h with ⟨ob, h⟩ | h
  · exact .inl ⟨ob, by rw [upd_ne (ne_of_none h hp)]; exact h⟩
  · exact .inr h
theorem sqT_updL {a : Addr} {vs ws : List V} {o : HO} (h : SqT K H a vs) (hp : H p = some (.lst ws)) : SqT K (upd H p o) a vs := by
  rcases h with (h | ⟨ob, h⟩) | h
  · exact .inl (.inl (by rw [upd_ne (ne_of h hp (by intro z; cases z))]; exact h))
  · exact .inl (.inr ⟨ob, by rw [upd_ne (ne_of h hp (by intro z; cases z))]; exact h⟩)
  · exact .inr h
theorem sqL_upd {a : Addr} {vs : List V} {o : HO} (h : SqL K H a vs) (hp : H p = none) : SqL K (upd H p o) a vs := by
  rcases h with (h | ⟨ob, h⟩) | h
  · exact .inl (.inl (by rw [upd_ne (ne_of_none h hp)]; exact h))
  · exact .inl (.inr ⟨ob, by rw [upd_ne (ne_of_none h hp)]; exact h⟩)
  · exact .inr h
theorem isL_upd {a : Addr} {o : HO} (h : IsL K H a) (hp : H p = none) : IsL K (upd H p o) a := let ⟨vs, h⟩ := h; ⟨vs, sqL_upd h hp⟩
theorem isD_upd {a : Addr} {o : HO} (h : IsD H a) (hp : H p = none) : IsD (upd H p o) a := let ⟨vs, h⟩ := h; ⟨vs, by rw [upd_ne (ne_of_none h hp)]; exact h⟩
theorem isO_upd {a : Addr} {o : HO} (h : IsO H a) (hp : H p = none) : IsO (upd H p o) a := let ⟨c, d, f, h⟩ := h; ⟨c, d, f, by rw [upd_ne (ne_of_none h hp)]; exact h⟩
theorem evo_new {o : HO} (hp : H p = none) : Evo K φ N H φ N (upd H p o) := ⟨Nat.le_refl _, fun _ _ => rfl, fun _ _ h => sqT_upd h hp, fun _ _ h => isL_upd h hp, fun _ _ h => isD_upd h hp, fun _ _ h => isO_upd h hp⟩
theorem Holds.stay {o : SO} {a : Addr} (h : Holds K φ N H o a) (e : Evo K φ N H φ' N' H') (hr : ∀ vs, SqR K H a vs → SqR K H' a vs) (hw : o.wr = true → H' a = H a) : Holds K φ' N' H' o a := by
  cases o with
  | ro xs => obtain ⟨vs, h1, h2⟩ := h; exact ⟨vs, hr vs h1, h2.evo e⟩
  | rw xs => obtain ⟨vs, h1, h2⟩ := h; exact ⟨vs, by rw [hw rfl]; exact h1, h2.evo e⟩
  | dc kvs => obtain ⟨vs, h1, h2, h3, h4⟩ := h; exact ⟨vs, by rw [hw rfl]; exact h1, h2, h3, h4.evo e⟩
  | ob C fs => obtain ⟨c, dx, vs, h1, h2, h3, h4, h5⟩ := h; exact ⟨c, dx, vs, by rw [hw rfl]; exact h1, h2, h3, h4, h5.evo e⟩
theorem Holds.some_ {o : SO} {a : Addr} (h : Holds K φ N H o a) (hw : o.wr = true) : ∃ u, H a = some u := by
  cases o with
  | ro xs => cases hw
  | rw xs => obtain ⟨vs, h1, _⟩ := h; exact ⟨_, h1⟩
  | dc kvs => obtain ⟨vs, h1, _⟩ := h; exact ⟨_, h1⟩
  | ob C fs => obtain ⟨c, dx, vs, h1, _⟩ := h; exact ⟨_, h1⟩
theorem Rep.laid {o : HO} (R : Rep K φ st H) (hp : H p = none) : Rep K φ st (upd H p o) :=
  ⟨R.injA, fun i x e => (R.all i x e).stay (evo_new hp) (fun _ h => sqR_upd h hp) fun w => by
    obtain ⟨u, h⟩ := (R.all i x e).some_ w
    exact upd_ne (ne_of_none h hp)⟩
noncomputable def phiNew (φ : Nat → Addr) (n : Nat) (p : Addr) : Nat → Addr := fun i => if i = n then p else φ i
theorem phi_at {n : Nat} : phiNew φ n p n = p := by unfold phiNew; rw [if_pos rfl]
theorem phi_lt {n i : Nat} (h : i < n) : phiNew φ n p i = φ i := by unfold phiNew; rw [if_neg (Nat.ne_of_lt h)]
theorem evo_add {o : SO} {u : HO} (hp : H p = none) : Evo K φ st.length H (phiNew φ st.length p) (st ++ [o]).length (upd H p u) :=
  ⟨by rw [List.length_append]; exact Nat.le_add_right _ _, fun i hi => phi_lt hi, fun _ _ h => sqT_upd h hp, fun _ _ h => isL_upd h hp, fun _ _ h => isD_upd h hp, fun _ _ h => isO_upd h hp⟩
theorem evo_lst {vs : List V} {xs : List Dt} (hp : H p = none) : Evo K φ st.length H (phiNew φ st.length p) (st ++ [SO.rw xs]).length (upd H p (.lst vs)) := evo_add hp
theorem get_snoc {α : Type} {l : List α} {x y : α} {i : Nat} (e : (l ++ [x])[i]? = some y) : (i < l.length ∧ l[i]? = some y) ∨ (i = l.length ∧ y = x) := by
  by_cases h : i < l.length
  · left
    rw [List.getElem?_append_left h] at e
    exact ⟨h, e⟩
  · right
    rw [List.getElem?_append_right (Nat.not_lt.mp h)] at e
    have h0 : i - l.length = 0 := by
      cases q : i - l.length with
      | zero => rfl
      | succ n => rw [q] at e; simp at e
    rw [h0] at e
    have : x = y := by simpa using e
    exact ⟨by omega, this.symm⟩
theorem lt_of_get {α : Type} {l : List α} {y : α} {i : Nat} (e : l[i]? = some y) : i < l.length := (List.getElem?_eq_some_iff.mp e).1
theorem Rep.add {o : SO} {u : HO} (R : Rep K φ st H) (hp : H p = none) (hd : Holds K (phiNew φ st.length p) (st ++ [o]).length (upd H p u) o p) : Rep K (phiNew φ st.length p) (st ++ [o]) (upd H p u) := by
  have ev : Evo K φ st.length H (phiNew φ st.length p) (st ++ [o]).length (upd H p u) := evo_add hp
  have notp : ∀ (i : Nat) x, st[i]? = some x → x.wr = true → φ i ≠ p := fun i x e w z => by
    obtain ⟨v, h⟩ := (R.all i x e).some_ w
    rw [z, hp] at h; cases h
  refine ⟨fun i j a b e1 e2 w1 w2 h => ?_, fun i x e => ?_⟩
  · rcases get_snoc e1 with ⟨l1, e1⟩ | ⟨l1, e1⟩
    · rcases get_snoc e2 with ⟨l2, e2⟩ | ⟨l2, e2⟩
      · rw [phi_lt l1, phi_lt l2] at h
        exact R.injA i j _ _ e1 e2 w1 w2 h
      · rw [phi_lt l1, l2, phi_at] at h
        exact absurd h (notp i _ e1 w1)
    · rcases get_snoc e2 with ⟨l2, e2⟩ | ⟨l2, e2⟩
      · rw [phi_lt l2, l1, phi_at] at h
        exact absurd h.symm (notp j _ e2 w2)
      · rw [l1, l2]
  · rcases get_snoc e with ⟨l1, e1⟩ | ⟨l1, e1⟩
    · rw [phi_lt l1]
      exact (R.all i x e1).stay ev (fun _ h => sqR_upd h hp) fun w => upd_ne (notp i x e1 w)
    · rw [l1, phi_at, e1]; exact hd
theorem Rep.newL {vs : List V} {xs : List Dt} (R : Rep K φ st H) (hp : H p = none) (hd : DL K φ st.length H xs vs) : Rep K (phiNew φ st.length p) (st ++ [.rw xs]) (upd H p (.lst vs)) :=
  R.add hp ⟨vs, upd_same, hd.evo (evo_add hp)⟩
theorem sqT_updW {a : Addr} {vs : List V} {u w : HO} (h : SqT K H a vs) (hp : H p = some u) (h1 : ∀ xs, u ≠ .tup xs) (h2 : ∀ o x, u ≠ .frz o x) : SqT K (upd H p w) a vs := by
  rcases h with (h | ⟨ob, h⟩) | h
  · exact .inl (.inl (by rw [upd_ne (ne_of h hp (fun z => h1 _ z.symm))]; exact h))
  · exact .inl (.inr ⟨ob, by rw [upd_ne (ne_of h hp (fun z => h2 _ _ z.symm))]; exact h⟩)
  · exact .inr h
theorem sqR_updW {a : Addr} {vs : List V} {u w : HO} (h : SqR K H a vs) (hp : H p = some u) (h2 : ∀ o x, u ≠ .frz o x) : SqR K (upd H p w) a vs := by
  rcases h with ⟨ob, h⟩ | h
  · exact .inl ⟨ob, by rw [upd_ne (ne_of h hp (fun z => h2 _ _ z.symm))]; exact h⟩
  · exact .inr h
noncomputable def sameK : HO → HO → Prop
  | .lst _, .lst _ => True
  | .dK _, .dK _ => True
  | .ins _ _ _, .ins _ _ _ => True
  | _, _ => False
theorem isL_updW {a : Addr} {u w : HO} (h : IsL K H a) (hp : H p = some u) (hk : sameK u w) : IsL K (upd H p w) a := by
  by_cases e : a = p
  · subst e
    cases u <;> cases w <;> first | exact hk.elim | skip
    · exact ⟨_, SqL.of upd_same⟩
    · obtain ⟨vs, (h | ⟨ob, h⟩) | h⟩ := h
      · rw [hp] at h; cases h
      · rw [hp] at h; cases h
      · exact ⟨vs, .inr h⟩
    · obtain ⟨vs, (h | ⟨ob, h⟩) | h⟩ := h
      · rw [hp] at h; cases h
      · rw [hp] at h; cases h
      · exact ⟨vs, .inr h⟩
  · obtain ⟨vs, (h | ⟨ob, h⟩) | h⟩ := h
    · exact ⟨vs, .inl (.inl (by rw [upd_ne e]; exact h))⟩
    · exact ⟨vs, .inl (.inr ⟨ob, by rw [upd_ne e]; exact h⟩)⟩
    · exact ⟨vs, .inr h⟩
theorem isD_updW {a : Addr} {u w : HO} (h : IsD H a) (hp : H p = some u) (hk : sameK u w) : IsD (upd H p w) a := by
  by_cases e : a = p
  · subst e
    obtain ⟨vs, h⟩ := h
    rw [hp] at h
    cases h
    cases w <;> first | exact hk.elim | exact ⟨_, upd_same⟩
  · obtain ⟨vs, h⟩ := h
    exact ⟨vs, by rw [upd_ne e]; exact h⟩
theorem isO_updW {a : Addr} {u w : HO} (h : IsO H a) (hp : H p = some u) (hk : sameK u w) : IsO (upd H p w) a := by
  by_cases e : a = p
  · subst e
    obtain ⟨c, d, f, h⟩ := h
    rw [hp] at h
    cases h
    cases w <;> first | exact hk.elim | exact ⟨_, _, _, upd_same⟩
  · obtain ⟨c, d, f, h⟩ := h
    exact ⟨c, d, f, by rw [upd_ne e]; exact h⟩
theorem sameK_ne {u w : HO} (hk : sameK u w) : (∀ xs, u ≠ .tup xs) ∧ ∀ o x, u ≠ .frz o x := by
  cases u <;> first | exact hk.elim | exact ⟨(fun _ z => nomatch z), (fun _ _ z => nomatch z)⟩
theorem evo_setW {n : Nat} {u w : HO} {o : SO} (hn : n < st.length) (h : H (φ n) = some u) (hk : sameK u w) : Evo K φ st.length H φ (st.set n o).length (upd H (φ n) w) :=
  ⟨by rw [List.length_set]; exact Nat.le_refl _, fun _ _ => rfl, fun _ _ hh => sqT_updW hh h (sameK_ne hk).1 (sameK_ne hk).2, fun _ _ hh => isL_updW hh h hk, fun _ _ hh => isD_updW hh h hk, fun _ _ hh => isO_updW hh h hk⟩
theorem evo_set {n : Nat} {vs ws : List V} {o : SO} (h : H (φ n) = some (.lst ws)) : Evo K φ st.length H φ (st.set n o).length (upd H (φ n) (.lst vs)) :=
  ⟨by rw [List.length_set]; exact Nat.le_refl _, fun _ _ => rfl, fun _ _ hh => sqT_updL hh h, fun _ _ hh => isL_updW hh h trivial, fun _ _ hh => isD_updW hh h trivial, fun _ _ hh => isO_updW hh h trivial⟩
theorem Rep.put {n : Nat} {u w : HO} {o q : SO} (R : Rep K φ st H) (hn : st[n]? = some q) (hq : q.wr = true) (ho : o.wr = true) (h : H (φ n) = some u) (hk : sameK u w) (hd : Holds K φ (st.set n o).length (upd H (φ n) w) o (φ n)) : Rep K φ (st.set n o) (upd H (φ n) w) := by
  have hlt := lt_of_get hn
  have ev : Evo K φ st.length H φ (st.set n o).length (upd H (φ n) w) := evo_setW hlt h hk
  have get : ∀ {i : Nat} {x : SO}, (st.set n o)[i]? = some x → (i = n ∧ x = o) ∨ (i ≠ n ∧ st[i]? = some x) := fun {i x} e => by
    by_cases h : i = n
    · left
      subst h
      rw [List.getElem?_set_self hlt] at e
      exact ⟨rfl, (Option.some.inj e).symm⟩
    · right
      rw [List.getElem?_set_ne (Ne.symm h)] at e
      exact ⟨h, e⟩
  refine ⟨fun i j a b e1 e2 w1 w2 hh => ?_, fun i x e => ?_⟩
  · have g : ∀ {i : Nat} {a : SO}, (st.set n o)[i]? = some a → a.wr = true → ∃ a', st[i]? = some a' ∧ a'.wr = true := fun {i a} e w => by
      rcases get e with ⟨h, _⟩ | ⟨_, h⟩
      · rw [h]; exact ⟨q, hn, hq⟩
      · exact ⟨a, h, w⟩
    obtain ⟨z1, g1, y1⟩ := g e1 w1
    obtain ⟨z2, g2, y2⟩ := g e2 w2
    exact R.injA i j z1 z2 g1 g2 y1 y2 hh
  · rcases get e with ⟨h1, h2⟩ | ⟨h1, h2⟩
    · rw [h1, h2]; exact hd
    · exact (R.all i x h2).stay ev (fun _ hh => sqR_updW hh h (sameK_ne hk).2) fun w => upd_ne fun z => h1 (R.injA i n x q h2 hn w hq z)
theorem Rep.setL {n : Nat} {vs : List V} {xs ys : List Dt} (R : Rep K φ st H) (hn : st[n]? = some (.rw ys)) (hd : DL K φ st.length H xs vs) : Rep K φ (st.set n (.rw xs)) (upd H (φ n) (.lst vs)) := by
  obtain ⟨ws, hw, _⟩ := R.rw n ys hn
  exact R.put hn rfl rfl hw trivial ⟨vs, upd_same, hd.evo (evo_set hw)⟩
end
noncomputable abbrev VD := Dt → Sto → Prop
noncomputable abbrev TD := Rho → Sto → VD → Prop
noncomputable abbrev TBD := Rho → Sto → (Bool → Sto → Prop) → Prop
noncomputable abbrev TAD := Rho → Sto → (List Dt → Sto → Prop) → Prop
structure EndsD where
  nx : Rho → Sto → Prop
  rt : VD
  bk : Rho → Sto → Prop := fun _ _ => False
  ct : Rho → Sto → Prop := fun _ _ => False
noncomputable abbrev TSD := EndsD → Rho → Sto → Prop
noncomputable def DR (K : PySem.W.Frag) (φ : Nat → Addr) (N : Nat) (H : Hp) (ρ : Rho) (σ : L2.St) : Prop :=
  ρ.length = σ.length ∧ ∀ (i : Nat) d, ρ[i]? = some (some d) → ∃ v, σ[i]? = some (some v) ∧ D K φ N H d v
section
variable {K : PySem.W.Frag} {φ φ' : Nat → Addr} {N N' : Nat} {H H' : Hp} {ρ : Rho} {σ : L2.St}
theorem DR.evo (h : DR K φ N H ρ σ) (e : Evo K φ N H φ' N' H') : DR K φ' N' H' ρ σ :=
  ⟨h.1, fun i d q => let ⟨v, h1, h2⟩ := h.2 i d q; ⟨v, h1, h2.evo e⟩⟩
theorem DR.set {d : Dt} {v : V} (h : DR K φ N H ρ σ) (hd : D K φ N H d v) (i : Nat) : DR K φ N H (ρ.set i (some d)) (σ.set i (some v)) := by
  refine ⟨by rw [List.length_set, List.length_set]; exact h.1, fun j e q => ?_⟩
  by_cases hj : j = i
  · subst hj
    have hl : j < ρ.length := by
      have := lt_of_get q
      rwa [List.length_set] at this
    rw [List.getElem?_set_self hl] at q
    cases q
    exact ⟨v, by rw [List.getElem?_set_self (by rw [← h.1]; exact hl)], hd⟩
  · rw [List.getElem?_set_ne (Ne.symm hj)] at q
    rw [List.getElem?_set_ne (Ne.symm hj)]
    exact h.2 j e q
end
noncomputable def Pre (K : PySem.W.Frag) (φ : Nat → Addr) (st : Sto) (H : Hp) (ρ : Rho) (σ : L2.St) : Prop := Rep K φ st H ∧ DR K φ st.length H ρ σ
noncomputable def Bhd (K : PySem.W.Frag) (φ : Nat → Addr) (st : Sto) (H : Hp) (φ' : Nat → Addr) (st' : Sto) (H' : Hp) : Prop := Rep K φ' st' H' ∧ Evo K φ st.length H φ' st'.length H'
noncomputable def liftE (K : PySem.W.Frag) (t : TD) : TE := fun σ H Q => ∃ φ st ρ P, Pre K φ st H ρ σ ∧ t ρ st P ∧
  ∀ d st', P d st' → ∀ φ' H' v, Bhd K φ st H φ' st' H' → D K φ' st'.length H' d v → Q v H'
noncomputable def liftT (K : PySem.W.Frag) (t : TBD) : TT := fun σ H Q => ∃ φ st ρ P, Pre K φ st H ρ σ ∧ t ρ st P ∧
  ∀ b st', P b st' → ∀ φ' H', Bhd K φ st H φ' st' H' → Q b H'
noncomputable def liftA (K : PySem.W.Frag) (t : TAD) : TA := fun σ H Q => ∃ φ st ρ P, Pre K φ st H ρ σ ∧ t ρ st P ∧
  ∀ ds st', P ds st' → ∀ φ' H' vs, Bhd K φ st H φ' st' H' → DL K φ' st'.length H' ds vs → Q vs H'
noncomputable def liftS (K : PySem.W.Frag) (t : TSD) : TS := fun E σ H => ∃ φ st ρ P, Pre K φ st H ρ σ ∧ t P ρ st ∧
  (∀ ρ' st', P.nx ρ' st' → ∀ φ' H' σ', Bhd K φ st H φ' st' H' → DR K φ' st'.length H' ρ' σ' → E.nx σ' H') ∧
  (∀ ρ' st', P.bk ρ' st' → ∀ φ' H' σ', Bhd K φ st H φ' st' H' → DR K φ' st'.length H' ρ' σ' → E.bk σ' H') ∧
  (∀ ρ' st', P.ct ρ' st' → ∀ φ' H' σ', Bhd K φ st H φ' st' H' → DR K φ' st'.length H' ρ' σ' → E.ct σ' H') ∧
  (∀ d st', P.rt d st' → ∀ φ' H' v, Bhd K φ st H φ' st' H' → D K φ' st'.length H' d v → E.rt v H')
noncomputable def DE (X : Cx) (e : Expr) (t : TD) : Prop := PE X e (liftE X.K t)
noncomputable def DT (X : Cx) (e : Expr) (t : TBD) : Prop := PT X e (liftT X.K t)
noncomputable def DA (X : Cx) (es : List Expr) (t : TAD) : Prop := PA X es (liftA X.K t)
noncomputable def DS (X : Cx) (s : Stmt) (t : TSD) : Prop := PS X s (liftS X.K t)
noncomputable def DSs (X : Cx) (s : List Stmt) (t : TSD) : Prop := PSs X s (liftS X.K t)
section
variable {K : PySem.W.Frag} {φ φ1 φ2 : Nat → Addr} {st st1 st2 : Sto} {H H1 H2 : Hp} {ρ : Rho} {σ : L2.St}
theorem Bhd.refl (h : Rep K φ st H) : Bhd K φ st H φ st H := ⟨h, .refl⟩
theorem Bhd.trans (a : Bhd K φ st H φ1 st1 H1) (b : Bhd K φ1 st1 H1 φ2 st2 H2) : Bhd K φ st H φ2 st2 H2 := ⟨b.1, a.2.trans b.2⟩
theorem Pre.on (p : Pre K φ st H ρ σ) (b : Bhd K φ st H φ1 st1 H1) : Pre K φ1 st1 H1 ρ σ := ⟨b.1, p.2.evo b.2⟩
end
theorem _root_.L2.PE.imp {X : Cx} {e : Expr} {t t' : TE} (h : PE X e t) (i : ∀ σ H Q, t' σ H Q → t σ H Q) : PE X e t' := fun pins s σ H Q I q => h pins s σ H Q I (i σ H Q q)
theorem _root_.L2.PT.imp {X : Cx} {e : Expr} {t t' : TT} (h : PT X e t) (i : ∀ σ H Q, t' σ H Q → t σ H Q) : PT X e t' := fun pins s σ H Q I q => h pins s σ H Q I (i σ H Q q)
theorem _root_.L2.PA.imp {X : Cx} {es : List Expr} {t t' : TA} (h : PA X es t) (i : ∀ σ H Q, t' σ H Q → t σ H Q) : PA X es t' := fun pos pins s σ H Q I q => h pos pins s σ H Q I (i σ H Q q)
theorem _root_.L2.PS.imp {X : Cx} {e : Stmt} {t t' : TS} (h : PS X e t) (i : ∀ D σ H, t' D σ H → t D σ H) : PS X e t' := fun pins s σ H Dn I q => h pins s σ H Dn I (i Dn σ H q)
theorem _root_.L2.PSs.imp {X : Cx} {e : List Stmt} {t t' : TS} (h : PSs X e t) (i : ∀ D σ H, t' D σ H → t D σ H) : PSs X e t' := fun pins s σ H Dn I q => h pins s σ H Dn I (i Dn σ H q)
end L3
namespace L3
open PySem PySem.Spec PyProof.Rows L2
open AutoSeq1 (wpAny_loadPart')
section
variable {prog : Program} {w : World} {A : Around} {E : Value → Shared → Prop} {s : Shared}
theorem cat_tupA {t b : Addr} {vs ws : List Value} {Q : Value → Shared → Prop} (ht : IsTup s.heap t vs.toArray) (hb : IsTup s.heap b ws.toArray)
    (h0 : vs = [] → Q (.ref b) s) (h1 : vs ≠ [] → ws = [] → Q (.ref t) s) (h2 : vs ≠ [] → ws ≠ [] → Q (.ref s.heap.objs.size) { s with heap := s.heap.push { cls := .type "tuple", data := .seq (vs ++ ws).toArray } })
    (hsz : vs.length + ws.length ≤ sizeLine) : wpAny (model prog w) A (binaryOp .Add (.ref t) (.ref b)) Q E s := by
  by_cases hv : vs = []
  · obtain ⟨⟨cls, dd, data, sl⟩, ho, hc, n, hd⟩ := id ht
    obtain ⟨⟨cls2, dd2, data2, sl2⟩, ho2, hc2, n2, hd2⟩ := id hb
    simp only at hc hd hc2 hd2
    subst hc hd hc2 hd2
    exact concat_meets ⟨_, ho, rfl⟩ ⟨_, ho2, rfl⟩ noFill_tuple_add seq_tuple_add PySem.F.slot_tuple_add PySem.F.entry_tuple_add (PySem.F.args_tuple_add_2 _ _)
      (tuple_addW0 t b vs.toArray ws.toArray n n2 dd dd2 sl sl2 (by simp [hv])) ⟨ho, ho2, h0 hv⟩
  · exact HT.cat_tup ht hb hv (h1 hv) (h2 hv) hsz
end
theorem noFill_tuple_mul : fillsNumberSlot (.type "tuple") "mul" = pure false :=
  PySem.fillsNumberSlot_seq (id := "tuple.__mul__") (r := some (.builtin "tuple.__rmul__")) F.slot_tuple_mul.lookup (by decide +kernel) F.slot_tuple_rmul.lookup (by decide +kernel)
theorem repeat_tuple : seqRepeat? (.type "tuple") = pure (some (.builtin "tuple.__mul__")) := by
  unfold seqRepeat?
  rw [PySem.seqSlot_of (T := "tuple") (name := "__mul__") (id := "tuple.__mul__") F.slot_tuple_mul.lookup (by decide +kernel), PySem.seqSlot_of (T := "tuple") (name := "__rmul__") (id := "tuple.__rmul__") F.slot_tuple_rmul.lookup (by decide +kernel)]
  rfl
theorem int_rmul_tuple (a : Int) (t : Tok) (l : Addr) (items : Array Value) (n : Nat) (d : Option Addr) (sl : Array (Option Value)) :
    Meets (Builtin.«int.__rmul__» ⟨[.int a t, .ref l], []⟩) (fun _ R s => s.heap.get? l = some { cls := .type "tuple", dict := d, data := .seq items n, slots := sl } ∧ R (.ok (.ret Value.notImplemented)) s) :=
  .of_wp fun prog w A R s h => by obtain ⟨hp, g, d, tk, os⟩ := s; obtain ⟨hl, h⟩ := h; wp_walk; exact ⟨_, rfl, h⟩
theorem tuple_mulW (l : Addr) (items : Array Value) (n : Nat) (d : Option Addr) (sl : Array (Option Value)) (x : Int) (u : Tok) (h0 : items.isEmpty = false) (h1 : 2 ≤ x) (h2 : x < 2 ^ 20) (h3 : items.size * x.toNat ≤ sizeLine) :
    Meets (Builtin.«tuple.__mul__» ⟨[.ref l, .int x u], []⟩) (fun _ R s => s.heap.get? l = some { cls := .type "tuple", dict := d, data := .seq items n, slots := sl } ∧
      R (.ok (.ret (Value.ref s.heap.objs.size))) { s with heap := s.heap.push { cls := Value.type "tuple", data := Data.seq (List.foldl (fun x1 x2 => x1 ++ x2) #[] (List.replicate x.toNat items)) }, toks := s.toks }) :=
  .of_wp fun prog w A R s h => by
    obtain ⟨hp, g, d, tk, os⟩ := s; obtain ⟨hl, h⟩ := h
    have f1 := AutoSeq1.idx_int
    have e1 : (decide (x < -(2 ^ 63)) || decide (x ≥ 2 ^ 63)) = false := by
      rw [decide_eq_false (by omega), decide_eq_false (by omega)]; rfl
    have e2 : (items.isEmpty || x == 1) = false := by
      rw [h0, Bool.false_or]; exact beq_eq_false_iff_ne.mpr (by omega)
    have e3 : (decide (x ≤ 0) || items.isEmpty) = false := by
      rw [h0, Bool.or_false]; exact decide_eq_false (by omega)
    have e4 : ¬ ((items.size : Int) * x > (2 ^ 63 - 1) / 8) := by
      have hb : items.size * x.toNat ≤ 16777216 := by rw [← sizeLine_eq]; exact h3
      have : (items.size : Int) * x = ((items.size * x.toNat : Nat) : Int) := by
        rw [Int.natCast_mul, Int.toNat_of_nonneg (by omega)]
      rw [this]
      omega
    wp_walk using wpAny_loadPart' hl
    rw [if_neg (fun q => Bool.false_ne_true (e1.symm.trans q))]
    wp_walk using wpAny_loadPart' hl
    rw [if_neg (fun q => Bool.false_ne_true (e2.symm.trans q))]
    wp_walk using wpAny_loadPart' hl
    rw [if_neg (fun q => Bool.false_ne_true (e3.symm.trans q))]
    wp_walk using wpAny_loadPart' hl
    rw [if_neg e4]
    wp_walk using wpAny_loadPart' hl
    have hx : (items.size : Int) * x = ((items.size * x.toNat : Nat) : Int) := by
      rw [Int.natCast_mul, Int.toNat_of_nonneg (by omega)]
    have e5 : Builtin.Tuple.tupleTooMany ((items.size : Int) * x) = false := by
      unfold Builtin.Tuple.tupleTooMany
      rw [hx]
      exact decide_eq_false (by omega)
    rw [if_neg (fun q => Bool.false_ne_true (e5.symm.trans q))]
    have f0 : List.foldl (fun x1 x2 => x1 ++ x2) #[] (List.replicate x.toNat items) = (List.replicate x.toNat items.toList).flatten.toArray := by
      have := foldl_rep items.toList x.toNat []
      rw [List.nil_append, Array.toArray_toList] at this
      exact this
    have hsz : sizeOk (.seq (List.foldl (fun x1 x2 => x1 ++ x2) #[] (List.replicate x.toNat items))) := by
      show (List.foldl (fun x1 x2 => x1 ++ x2) #[] (List.replicate x.toNat items)).size ≤ sizeLine
      rw [f0, List.size_toArray, len_rep, Array.length_toList, Nat.mul_comm]
      exact h3
    unfold Builtin.Tuple.tupleExact
    exact wpAny_bind (wpAny_newObj_type (wpAny_pure ⟨_, rfl, h⟩) hsz)
section
variable {X : Cx}
theorem op_catA : OpR X (binaryOp .Add) (fun x y H Q => ∃ a b xs ys, x = .ref a ∧ y = .ref b ∧ SqT X.K H a xs ∧ SqT X.K H b ys ∧ xs.length + ys.length ≤ sizeLine ∧
    (xs = [] → Q (.ref b) H) ∧ (xs ≠ [] → ys = [] → Q (.ref a) H) ∧ (xs ≠ [] → ys ≠ [] → ∀ p, H p = none → Q (.ref p) (upd H p (.tup (xs ++ ys))))) := by
  intro pins s σ H x y v u Q I rx ry h
  obtain ⟨a, b, xs, ys, rfl, rfl, ha, hb, hz, q0, q1, q2⟩ := h
  cases rx
  cases ry
  obtain ⟨its, r1, p1, _⟩ := I.tuple ha
  obtain ⟨its2, r2, p2, _⟩ := I.tuple hb
  refine cat_tupA p1 p2 (fun z => ⟨.ref b, H, I, rfl, q0 (r1.nil_iff.mp z)⟩) (fun z1 z => ⟨.ref a, H, I, rfl, q1 (fun w => z1 (r1.nil_iff.mpr w)) (r2.nil_iff.mp z)⟩) (fun z1 z => ?_) (by rw [← r1.length, ← r2.length]; exact hz)
  refine ⟨.ref s.heap.objs.size, _, I.laid (t' := s.toks) (o := .tup (xs ++ ys)) (fun b ob q => Heap.get?_push_of_some _ q) (Nat.le_refl _) ?_, rfl, q2 (fun w => z1 (r1.nil_iff.mpr w)) (fun w => z (r2.nil_iff.mpr w)) _ (I.hok.fresh (Nat.le_refl _))⟩
  exact ⟨by rw [List.length_append]; exact hz, _, r1.append r2, IsTup.new _ _⟩
theorem op_repT : OpR X (binaryOp .Mult) (fun x y H Q => ∃ a k xs, x = .ref a ∧ y = .int k ∧ SqT X.K H a xs ∧ xs ≠ [] ∧ 2 ≤ k ∧ k < 2 ^ 20 ∧ xs.length * k.toNat ≤ sizeLine ∧
    ∀ p, H p = none → Q (.ref p) (upd H p (.tup (List.replicate k.toNat xs).flatten))) := by
  intro pins s σ H x y v u Q I rx ry h
  obtain ⟨a, k, xs, rfl, rfl, ha, hne, h2, h3, hz, q⟩ := h
  cases rx
  obtain ⟨t, rfl⟩ := ry
  obtain ⟨its, r1, p1, _⟩ := I.tuple ha
  have hl := r1.length
  obtain ⟨⟨cls, dd, data, sl⟩, ho, hc, n, hd⟩ := id p1
  simp only at hc hd
  subst hc hd
  have f0 : List.foldl (fun x1 x2 => x1 ++ x2) #[] (List.replicate k.toNat its.toArray) = (List.replicate k.toNat its).flatten.toArray := by
    have := foldl_rep its k.toNat []
    rw [List.nil_append] at this
    exact this
  have hz' : its.toArray.size * k.toNat ≤ sizeLine := by rw [List.size_toArray, ← hl]; exact hz
  have he : its.toArray.isEmpty = false := by
    cases its with
    | nil => exact absurd (List.length_eq_zero_iff.mp hl) hne
    | cons _ _ => rfl
  refine wpAny_binaryOp_repeat_ref (T := "tuple") (U := "int") (by decide) ⟨_, ho, rfl⟩ (fun s' => typeIs_int s' k t) noFill_tuple_mul F.fills_int_mul F.slot_int_rmul repeat_tuple F.slot_int_index.lookup
    (call_meets F.slot_int_rmul (typeIs_int s k t) F.entry_int_rmul (F.args_int_rmul_2 _ _) (int_rmul_tuple k t a its.toArray n dd sl)
      ⟨ho, rfl, ⟨_, ho, rfl⟩, call_meets F.slot_tuple_mul ⟨_, ho, rfl⟩ F.entry_tuple_mul (F.args_tuple_mul_2 _ _) (tuple_mulW a its.toArray n dd sl k t he h2 h3 hz') ⟨ho, ?_⟩⟩)
  rw [f0]
  refine ⟨.ref s.heap.objs.size, _, I.laid (t' := s.toks) (o := .tup (List.replicate k.toNat xs).flatten) (fun b ob q => Heap.get?_push_of_some _ q) (Nat.le_refl _) ?_, rfl, q _ (I.hok.fresh (Nat.le_refl _))⟩
  exact ⟨by rw [len_rep, Nat.mul_comm]; exact hz, _, Vals.rep r1 _, IsTup.new _ _⟩
end
end L3
namespace L3
open PySem PySem.Spec PyProof.Rows L2
noncomputable def okD : Nat → Dt → Bool
  | 0, .tup _ => false
  | n + 1, .tup xs => xs.all (okD n)
  | _, .lst _ => false
  | _, .ty _ => false
  | _, .dic _ => false
  | _, .ins _ => false
  | _, _ => true
noncomputable def eqL (f : Dt → Dt → Bool) : List Dt → List Dt → Bool
  | [], [] => true
  | x :: xs, y :: ys => f x y && eqL f xs ys
  | _, _ => false
noncomputable def eqD : Nat → Dt → Dt → Bool
  | _, .non, .non => true
  | _, .bl a, .bl b => a == b
  | _, .bl a, .int b => (if a then 1 else 0) == b
  | _, .int a, .bl b => a == (if b then 1 else 0)
  | _, .int a, .int b => a == b
  | _, .str a, .str b => a == b
  | n + 1, .tup a, .tup b => eqL (eqD n) a b
  | _, _, _ => false
theorem eqL_self {f : Dt → Dt → Bool} : ∀ {xs : List Dt}, (∀ x ∈ xs, f x x = true) → eqL f xs xs = true
  | [], _ => rfl
  | x :: xs, h => by
    unfold eqL
    rw [h x List.mem_cons_self, eqL_self fun y hy => h y (List.mem_cons_of_mem _ hy)]
    rfl
theorem eqD_self : ∀ {n : Nat} {d : Dt}, okD n d = true → eqD n d d = true
  | 0, .tup _, h => by simp [okD] at h
  | n + 1, .tup xs, h => by
    simp only [okD] at h
    simp only [eqD]
    exact eqL_self fun x hx => eqD_self (List.all_eq_true.mp h x hx)
  | n, .non, _ => by cases n <;> rfl
  | n, .bl b, _ => by cases n <;> simp [eqD]
  | n, .int b, _ => by cases n <;> simp [eqD]
  | n, .str b, _ => by cases n <;> simp [eqD]
  | n, .lst _, h => by cases n <;> simp [okD] at h
  | n, .ty _, h => by cases n <;> simp [okD] at h
  | n, .dic _, h => by cases n <;> simp [okD] at h
  | n, .ins _, h => by cases n <;> simp [okD] at h
theorem eqL_range {f : Dt → Dt → Bool} : ∀ (xs ys : List Dt), eqL f xs ys = ((List.range (min xs.length ys.length)).all (fun j => f (xs.getD j .non) (ys.getD j .non)) && xs.length == ys.length)
  | [], [] => rfl
  | [], _ :: _ => by simp [eqL]
  | _ :: _, [] => by simp [eqL]
  | x :: xs, y :: ys => by
    unfold eqL
    rw [eqL_range xs ys]
    have e : min (x :: xs).length (y :: ys).length = min xs.length ys.length + 1 := by simp [Nat.succ_min_succ]
    rw [e, List.range_succ_eq_map, List.all_cons, List.all_map]
    simp only [List.getD_cons_zero, List.length_cons]
    have e2 : ((xs.length + 1 == ys.length + 1) : Bool) = (xs.length == ys.length) := by
      rw [Bool.eq_iff_iff]; simp
    rw [e2, Bool.and_assoc]
    rfl
section
variable {X : Cx} {pins : List (Addr × Obj)} {σ : L2.St} {H : Hp} {s : Shared} {φ : Nat → Addr} {N : Nat}
theorem getD_of {xs : List Dt} {j : Nat} {d : Dt} (h : xs[j]? = some d) : xs.getD j .non = d := by simp [List.getD, h]
theorem DL_inj0 {f : Dt → Bool} (hf : ∀ {d e : Dt} {v : V}, f d = true → f e = true → D X.K φ N H d v → D X.K φ N H e v → d = e) : ∀ {a b : List Dt} {vs : List V}, DL X.K φ N H a vs → DL X.K φ N H b vs → a.all f = true → b.all f = true → a = b
  | [], [], _, _, _, _, _ => rfl
  | [], y :: b, vs, h1, h2, _, _ => by
    have := h1.length; have := h2.length; simp at *; omega
  | x :: a, [], vs, h1, h2, _, _ => by
    have := h1.length; have := h2.length; simp at *; omega
  | x :: a, y :: b, vs, h1, h2, o1, o2 => by
    rw [List.all_cons, Bool.and_eq_true] at o1 o2
    simp only [DL] at h1 h2
    obtain ⟨v, r, rfl, p1, p2⟩ := h1
    obtain ⟨v', r', e, q1, q2⟩ := h2
    cases e
    rw [hf o1.1 o2.1 p1 q1, DL_inj0 hf p2 q2 o1.2 o2.2]
theorem D_inj (I : Inv X pins σ H s) : ∀ (n : Nat) {d e : Dt} {v : V}, okD n d = true → okD n e = true → D X.K φ N H d v → D X.K φ N H e v → d = e := by
  intro n
  induction n with
  | zero =>
    intro d e v o1 o2 h1 h2
    cases d <;> cases e <;> first
      | (exfalso; revert o1; simp [okD]; done)
      | (exfalso; revert o2; simp [okD]; done)
      | (simp only [D] at h1 h2; subst h1; first | (cases h2; rfl) | (cases h2))
  | succ n ih =>
    intro d e v o1 o2 h1 h2
    cases d <;> cases e <;> first
      | (exfalso; revert o1; simp [okD]; done)
      | (exfalso; revert o2; simp [okD]; done)
      | (simp only [D] at h1 h2; subst h1; first | (cases h2; rfl) | (cases h2; done) | (obtain ⟨_, _, z, _⟩ := h2; cases z))
      | (simp only [D] at h1 h2; subst h2; obtain ⟨_, _, z, _⟩ := h1; cases z)
      | (simp only [okD] at o1 o2
         obtain ⟨p, vs, e1, hs, hd⟩ := h1.tup
         obtain ⟨q, ws, e2, hs2, hd2⟩ := h2.tup
         rw [e1] at e2
         cases e2
         have := I.tuple_inj hs hs2
         subst this
         rw [DL_inj0 (f := okD n) (fun a b c d => ih a b c d) hd hd2 o1 o2])
theorem DL_inj (I : Inv X pins σ H s) {n : Nat} {a b : List Dt} {vs : List V} (h1 : DL X.K φ N H a vs) (h2 : DL X.K φ N H b vs) (o1 : a.all (okD n) = true) (o2 : b.all (okD n) = true) : a = b :=
  DL_inj0 (fun a b c d => D_inj I n a b c d) h1 h2 o1 o2
theorem eqAt_D (I : Inv X pins σ H s) : ∀ (n : Nat) {A : Around} {d e : Dt} {v w : V} {u1 u2 : Value}, A.units + n < cLine → okD n d = true → okD n e = true → D X.K φ N H d v → D X.K φ N H e w → RelV v u1 → RelV w u2 → SeqAt.EqAt A s u1 u2 (eqD n d e)
  | n, A, .non, .non, v, w, u1, u2, hu, _, _, h1, h2, r1, r2 => by cases h1.non; cases h2.non; cases r1; cases r2; cases n <;> exact SeqAt.EqAt.same _
  | n, A, .non, .bl b, v, w, u1, u2, hu, _, _, h1, h2, r1, r2 => by cases h1.non; cases h2.bl; cases r1; cases r2; cases n <;> exact SeqAt.EqAt.none_bool b
  | n, A, .non, .int b, v, w, u1, u2, hu, _, _, h1, h2, r1, r2 => by cases h1.non; cases h2.int; cases r1; obtain ⟨t, rfl⟩ := r2; cases n <;> exact SeqAt.EqAt.none_int b t
  | n, A, .non, .str b, v, w, u1, u2, hu, _, _, h1, h2, r1, r2 => by cases h1.non; cases h2.str; cases r1; obtain ⟨t, rfl⟩ := r2; cases n <;> exact SeqAt.EqAt.none_str b t
  | n, A, .bl a, .non, v, w, u1, u2, hu, _, _, h1, h2, r1, r2 => by cases h1.bl; cases h2.non; cases r1; cases r2; cases n <;> exact SeqAt.EqAt.bool_none a
  | n, A, .bl a, .bl b, v, w, u1, u2, hu, _, _, h1, h2, r1, r2 => by cases h1.bl; cases h2.bl; cases r1; cases r2; cases n <;> exact SeqAt.EqAt.bool_bool a b
  | n, A, .bl a, .int b, v, w, u1, u2, hu, _, _, h1, h2, r1, r2 => by cases h1.bl; cases h2.int; cases r1; obtain ⟨t, rfl⟩ := r2; cases n <;> exact SeqAt.EqAt.bool_int a b t
  | n, A, .bl a, .str b, v, w, u1, u2, hu, _, _, h1, h2, r1, r2 => by cases h1.bl; cases h2.str; cases r1; obtain ⟨t, rfl⟩ := r2; cases n <;> exact SeqAt.EqAt.bool_str a b t
  | n, A, .int a, .non, v, w, u1, u2, hu, _, _, h1, h2, r1, r2 => by cases h1.int; cases h2.non; obtain ⟨t, rfl⟩ := r1; cases r2; cases n <;> exact SeqAt.EqAt.int_none a t
  | n, A, .int a, .bl b, v, w, u1, u2, hu, _, _, h1, h2, r1, r2 => by cases h1.int; cases h2.bl; obtain ⟨t, rfl⟩ := r1; cases r2; cases n <;> exact SeqAt.EqAt.int_bool a t b
  | n, A, .int a, .int b, v, w, u1, u2, hu, _, _, h1, h2, r1, r2 => by cases h1.int; cases h2.int; obtain ⟨t, rfl⟩ := r1; obtain ⟨t', rfl⟩ := r2; cases n <;> exact SeqAt.EqAt.int_int a t b t'
  | n, A, .int a, .str b, v, w, u1, u2, hu, _, _, h1, h2, r1, r2 => by cases h1.int; cases h2.str; obtain ⟨t, rfl⟩ := r1; obtain ⟨t', rfl⟩ := r2; cases n <;> exact SeqAt.EqAt.int_str a t b t'
  | n, A, .str a, .non, v, w, u1, u2, hu, _, _, h1, h2, r1, r2 => by cases h1.str; cases h2.non; obtain ⟨t, rfl⟩ := r1; cases r2; cases n <;> exact SeqAt.EqAt.str_none a t
  | n, A, .str a, .bl b, v, w, u1, u2, hu, _, _, h1, h2, r1, r2 => by cases h1.str; cases h2.bl; obtain ⟨t, rfl⟩ := r1; cases r2; cases n <;> exact SeqAt.EqAt.str_bool a t b
  | n, A, .str a, .int b, v, w, u1, u2, hu, _, _, h1, h2, r1, r2 => by cases h1.str; cases h2.int; obtain ⟨t, rfl⟩ := r1; obtain ⟨t', rfl⟩ := r2; cases n <;> exact SeqAt.EqAt.str_int a t b t'
  | n, A, .str a, .str b, v, w, u1, u2, hu, _, _, h1, h2, r1, r2 => by cases h1.str; cases h2.str; obtain ⟨t, rfl⟩ := r1; obtain ⟨t', rfl⟩ := r2; cases n <;> exact SeqAt.EqAt.str_str a t b t'
  | n, A, .tup a, .non, v, w, u1, u2, hu, _, _, h1, h2, r1, r2 => by
    obtain ⟨p, vs, rfl, hs, hd⟩ := h1.tup; cases h2.non; cases r1; cases r2; obtain ⟨its, _, ht, _⟩ := I.tuple hs; cases n <;> exact SeqAt.EqAt.tuple_none ht (by omega)
  | n, A, .tup a, .bl b, v, w, u1, u2, hu, _, _, h1, h2, r1, r2 => by
    obtain ⟨p, vs, rfl, hs, hd⟩ := h1.tup; cases h2.bl; cases r1; cases r2; obtain ⟨its, _, ht, _⟩ := I.tuple hs; cases n <;> exact SeqAt.EqAt.tuple_bool b ht (by omega)
  | n, A, .tup a, .int b, v, w, u1, u2, hu, _, _, h1, h2, r1, r2 => by
    obtain ⟨p, vs, rfl, hs, hd⟩ := h1.tup; cases h2.int; cases r1; obtain ⟨t', rfl⟩ := r2; obtain ⟨its, _, ht, _⟩ := I.tuple hs; cases n <;> exact SeqAt.EqAt.tuple_int b t' ht (by omega)
  | n, A, .tup a, .str b, v, w, u1, u2, hu, _, _, h1, h2, r1, r2 => by
    obtain ⟨p, vs, rfl, hs, hd⟩ := h1.tup; cases h2.str; cases r1; obtain ⟨t', rfl⟩ := r2; obtain ⟨its, _, ht, _⟩ := I.tuple hs; cases n <;> exact SeqAt.EqAt.tuple_str b t' ht (by omega)
  | n, A, .non, .tup b, v, w, u1, u2, hu, _, _, h1, h2, r1, r2 => by
    obtain ⟨p, vs, rfl, hs, hd⟩ := h2.tup; cases h1.non; cases r1; cases r2; obtain ⟨its, _, ht, _⟩ := I.tuple hs; cases n <;> exact SeqAt.EqAt.none_tuple ht (by omega)
  | n, A, .bl a, .tup b, v, w, u1, u2, hu, _, _, h1, h2, r1, r2 => by
    obtain ⟨p, vs, rfl, hs, hd⟩ := h2.tup; cases h1.bl; cases r1; cases r2; obtain ⟨its, _, ht, _⟩ := I.tuple hs; cases n <;> exact SeqAt.EqAt.bool_tuple a ht (by omega)
  | n, A, .int a, .tup b, v, w, u1, u2, hu, _, _, h1, h2, r1, r2 => by
    obtain ⟨p, vs, rfl, hs, hd⟩ := h2.tup; cases h1.int; obtain ⟨t', rfl⟩ := r1; cases r2; obtain ⟨its, _, ht, _⟩ := I.tuple hs; cases n <;> exact SeqAt.EqAt.int_tuple a t' ht (by omega)
  | n, A, .str a, .tup b, v, w, u1, u2, hu, _, _, h1, h2, r1, r2 => by
    obtain ⟨p, vs, rfl, hs, hd⟩ := h2.tup; cases h1.str; obtain ⟨t', rfl⟩ := r1; cases r2; obtain ⟨its, _, ht, _⟩ := I.tuple hs; cases n <;> exact SeqAt.EqAt.str_tuple a t' ht (by omega)
  | 0, A, .tup a, .tup b, v, w, u1, u2, hu, o1, _, h1, h2, r1, r2 => by simp [okD] at o1
  | n + 1, A, .tup a, .tup b, v, w, u1, u2, hu, o1, o2, h1, h2, r1, r2 => by
    simp only [okD] at o1 o2
    obtain ⟨p, vs, rfl, hs, hd⟩ := h1.tup
    obtain ⟨q, ws, rfl, hs2, hd2⟩ := h2.tup
    cases r1; cases r2
    obtain ⟨its, rv, ht, _⟩ := I.tuple hs
    obtain ⟨its2, rv2, ht2, _⟩ := I.tuple hs2
    have l1 : its.toArray.size = a.length := by rw [List.size_toArray, ← rv.length, hd.length]
    have l2 : its2.toArray.size = b.length := by rw [List.size_toArray, ← rv2.length, hd2.length]
    have hu' : A.in1.units + n < cLine := by show A.units + 1 + n < cLine; omega
    have rc : SeqAt.RcAt A s (.ref p) (.ref q) (eqD (n + 1) (.tup a) (.tup b)) := by
      have := SeqAt.RcAt.tuples (A := A) (s := s) (e := fun j => eqD n (a.getD j .non) (b.getD j .non)) ht ht2 (by omega) (fun j h1 h2 => by
        have hj1 : j < a.length := by rw [← l1]; exact h1
        have hj2 : j < b.length := by rw [← l2]; exact h2
        have ea : a[j]? = some a[j] := by simp [hj1]
        have eb : b[j]? = some b[j] := by simp [hj2]
        obtain ⟨x, ex, dx⟩ := hd.get ea
        obtain ⟨y, ey, dy⟩ := hd2.get eb
        obtain ⟨ux, eux, rx⟩ := rv.get ex
        obtain ⟨uy, euy, ry⟩ := rv2.get ey
        have gx : its.toArray[j] = ux := by
          have : its[j]? = some its[j] := by simp at h1; simp [h1]
          rw [eux] at this
          simpa using (Option.some.inj this).symm
        have gy : its2.toArray[j] = uy := by
          have : its2[j]? = some its2[j] := by simp at h2; simp [h2]
          rw [euy] at this
          simpa using (Option.some.inj this).symm
        rw [gx, gy, getD_of ea, getD_of eb]
        exact eqAt_D I n hu' (List.all_eq_true.mp o1 _ (List.getElem_mem hj1)) (List.all_eq_true.mp o2 _ (List.getElem_mem hj2)) dx dy rx ry)
      rw [l1, l2] at this
      simp only [eqD]
      rw [eqL_range]
      exact this
    by_cases hpq : p = q
    · subst hpq
      have : eqD (n + 1) (.tup a) (.tup b) = true ∨ eqD (n + 1) (.tup a) (.tup b) = false := by cases eqD (n + 1) (.tup a) (.tup b) <;> simp
      have e1 : its = its2 := by
        obtain ⟨o, e, _, m, d⟩ := ht
        obtain ⟨o', e', _, m', d'⟩ := ht2
        rw [e] at e'; cases e'
        rw [d] at d'
        injection d' with d1 _
        simpa using congrArg Array.toList d1
      have ev : vs = ws := by subst e1; exact rv.inj rv2
      have eab : a = b := by
        subst ev
        exact DL_inj I hd hd2 o1 o2
      subst eab
      rw [eqD_self (by simp only [okD]; exact o1)]
      exact SeqAt.EqAt.same _
    · exact SeqAt.EqAt.of_refs hpq rc
  | n, A, .lst _, _, v, w, u1, u2, hu, o1, _, h1, h2, r1, r2 => by cases n <;> simp [okD] at o1
  | n, A, .ty _, _, v, w, u1, u2, hu, o1, _, h1, h2, r1, r2 => by cases n <;> simp [okD] at o1
  | n, A, .dic _, _, v, w, u1, u2, hu, o1, _, h1, h2, r1, r2 => by cases n <;> simp [okD] at o1
  | n, A, .ins _, _, v, w, u1, u2, hu, o1, _, h1, h2, r1, r2 => by cases n <;> simp [okD] at o1
  | n, A, .non, .lst _, v, w, u1, u2, hu, _, o1, h1, h2, r1, r2 => by cases n <;> simp [okD] at o1
  | n, A, .non, .ty _, v, w, u1, u2, hu, _, o1, h1, h2, r1, r2 => by cases n <;> simp [okD] at o1
  | n, A, .non, .dic _, v, w, u1, u2, hu, _, o1, h1, h2, r1, r2 => by cases n <;> simp [okD] at o1
  | n, A, .non, .ins _, v, w, u1, u2, hu, _, o1, h1, h2, r1, r2 => by cases n <;> simp [okD] at o1
  | n, A, .bl _, .lst _, v, w, u1, u2, hu, _, o1, h1, h2, r1, r2 => by cases n <;> simp [okD] at o1
  | n, A, .bl _, .ty _, v, w, u1, u2, hu, _, o1, h1, h2, r1, r2 => by cases n <;> simp [okD] at o1
  | n, A, .bl _, .dic _, v, w, u1, u2, hu, _, o1, h1, h2, r1, r2 => by cases n <;> simp [okD] at o1
  | n, A, .bl _, .ins _, v, w, u1, u2, hu, _, o1, h1, h2, r1, r2 => by cases n <;> simp [okD] at o1
  | n, A, .int _, .lst _, v, w, u1, u2, hu, _, o1, h1, h2, r1, r2 => by cases n <;> simp [okD] at o1
  | n, A, .int _, .ty _, v, w, u1, u2, hu, _, o1, h1, h2, r1, r2 => by cases n <;> simp [okD] at o1
  | n, A, .int _, .dic _, v, w, u1, u2, hu, _, o1, h1, h2, r1, r2 => by cases n <;> simp [okD] at o1
  | n, A, .int _, .ins _, v, w, u1, u2, hu, _, o1, h1, h2, r1, r2 => by cases n <;> simp [okD] at o1
  | n, A, .str _, .lst _, v, w, u1, u2, hu, _, o1, h1, h2, r1, r2 => by cases n <;> simp [okD] at o1
  | n, A, .str _, .ty _, v, w, u1, u2, hu, _, o1, h1, h2, r1, r2 => by cases n <;> simp [okD] at o1
  | n, A, .str _, .dic _, v, w, u1, u2, hu, _, o1, h1, h2, r1, r2 => by cases n <;> simp [okD] at o1
  | n, A, .str _, .ins _, v, w, u1, u2, hu, _, o1, h1, h2, r1, r2 => by cases n <;> simp [okD] at o1
  | n, A, .tup _, .lst _, v, w, u1, u2, hu, _, o1, h1, h2, r1, r2 => by cases n <;> simp [okD] at o1
  | n, A, .tup _, .ty _, v, w, u1, u2, hu, _, o1, h1, h2, r1, r2 => by cases n <;> simp [okD] at o1
  | n, A, .tup _, .dic _, v, w, u1, u2, hu, _, o1, h1, h2, r1, r2 => by cases n <;> simp [okD] at o1
  | n, A, .tup _, .ins _, v, w, u1, u2, hu, _, o1, h1, h2, r1, r2 => by cases n <;> simp [okD] at o1
end
end L3
namespace L3
open PySem PySem.Spec PyProof.Rows L2
noncomputable abbrev RD2 := Dt → Dt → Sto → VD → Prop
noncomputable abbrev RDL := List Dt → Sto → VD → Prop
noncomputable def liftR (K : PySem.W.Frag) (r : RD2) : R2 := fun v w H Q => ∃ φ st x y P, Rep K φ st H ∧ D K φ st.length H x v ∧ D K φ st.length H y w ∧ r x y st P ∧
  ∀ d st', P d st' → ∀ φ' H' u, Bhd K φ st H φ' st' H' → D K φ' st'.length H' d u → Q u H'
noncomputable def liftC (K : PySem.W.Frag) (r : RDL) : List V → Hp → VK → Prop := fun vs H Q => ∃ φ st ds P, Rep K φ st H ∧ DL K φ st.length H ds vs ∧ r ds st P ∧
  ∀ d st', P d st' → ∀ φ' H' u, Bhd K φ st H φ' st' H' → D K φ' st'.length H' d u → Q u H'
noncomputable def OpD (X : Cx) (f : Value → Value → Sem Value) (r : RD2) : Prop := OpR X f (liftR X.K r)
noncomputable def CallD (X : Cx) (f : Value) (r : RDL) : Prop := CallR X f (liftC X.K r)
noncomputable def tvar (i : Nat) : TD := fun ρ st P => match ρ[i]? with
  | some (some d) => P d st
  | _ => False
noncomputable def tcon (d : Dt) : TD := fun _ st P => P d st
noncomputable def tbin (r : RD2) (ta tb : TD) : TD := fun ρ st P => ta ρ st fun x st1 => tb ρ st1 fun y st2 => r x y st2 P
noncomputable def tcall (r : RDL) (t : TAD) : TD := fun ρ st P => t ρ st fun ds st1 => r ds st1 P
section
variable {K : PySem.W.Frag} {r : RD2} {ta tb : TD} {σ : L2.St} {H : Hp} {Q : VK} {R : RDL} {t : TAD}
theorem bin_lift (h : liftE K (tbin r ta tb) σ H Q) : tOp (liftR K r) (liftE K ta) (liftE K tb) σ H Q := by
  obtain ⟨φ, st, ρ, P, pre, ht, hq⟩ := h
  refine ⟨φ, st, ρ, _, pre, ht, fun x st1 h1 φ1 H1 v b1 dx => ?_⟩
  refine ⟨φ1, st1, ρ, _, pre.on b1, h1, fun y st2 h2 φ2 H2 w b2 dy => ?_⟩
  exact ⟨φ2, st2, x, y, P, b2.1, dx.evo b2.2, dy, h2, fun d st' hp φ' H' u b3 du => hq d st' hp φ' H' u (b1.trans (b2.trans b3)) du⟩
theorem call_lift (h : liftE K (tcall R t) σ H Q) : tCB (liftC K R) (liftA K t) σ H Q := by
  obtain ⟨φ, st, ρ, P, pre, ht, hq⟩ := h
  refine ⟨φ, st, ρ, _, pre, ht, fun ds st1 h1 φ1 H1 vs b1 dx => ?_⟩
  exact ⟨φ1, st1, ds, P, b1.1, dx, h1, fun d st' hp φ' H' u b3 du => hq d st' hp φ' H' u (b1.trans b3) du⟩
end
section
variable {X : Cx} {a b c e : Expr} {es : List Expr} {ta tb tc t : TD} {tas : TAD} {pos : Pos}
theorem de_var (i : Nat) {x : Str} (hN : X.N[i]? = some x := by rfl) (hv : Vis X.env.scope x := by first | exact Or.inl rfl | exact Or.inr (Or.inl rfl) | exact Or.inr (Or.inr rfl)) (hd : (x == ("__debug__" : Str)) = false := by decide)
    (hcd : (x == ("__classdict__" : Str)) = false := by decide) : DE X (.Name x pos) (tvar i) := (pe_var hN hv hd hcd).imp fun σ H Q h => by
  obtain ⟨φ, st, ρ, P, pre, ht, hq⟩ := h
  unfold tvar at ht
  split at ht
  · rename_i d e
    obtain ⟨v, e1, e2⟩ := pre.2.2 i d e
    exact ⟨v, e1, hq d st ht φ H v (.refl pre.1) e2⟩
  · exact ht.elim
theorem con_lift {d : Dt} {v : V} {K : PySem.W.Frag} (h : ∀ φ N H, D K φ N H d v) : ∀ (σ : L2.St) H Q, liftE K (tcon d) σ H Q → tC v σ H Q := fun σ H Q h' => by
  obtain ⟨φ, st, ρ, P, pre, ht, hq⟩ := h'
  exact hq d st ht φ H v (.refl pre.1) (h _ _ _)
theorem de_int {i j pos} : DE X (.Constant (.int i) j pos) (tcon (.int i)) := (pe_int).imp (con_lift fun _ _ _ => D.mkInt)
theorem de_bl {i j pos} : DE X (.Constant (.bool i) j pos) (tcon (.bl i)) := (pe_bl).imp (con_lift fun _ _ _ => D.mkBl)
theorem de_non {j pos} : DE X (.Constant .none j pos) (tcon .non) := (pe_non).imp (con_lift fun _ _ _ => D.mkNon)
theorem de_str {i j pos} : DE X (.Constant (.str i) j pos) (tcon (.str i)) := (pe_str).imp (con_lift fun _ _ _ => D.mkStr)
theorem de_ty {x : Str} {T : String} (hm : X.mg x = none) (hv : bootBuiltins x = some (.type T)) (hg : Gl X x := by rfl) (hn : x ≠ "__name__" := by decide) (hd : (x == ("__debug__" : Str)) = false := by decide) : DE X (.Name x pos) (tcon (.ty T)) :=
  (pe_bltn (v := .ty T) hg hm hv rfl hn hd).imp (con_lift fun _ _ _ => D.mkTy)
theorem de_op {op : Operator} {r : RD2} (ho : OpD X (binaryOp op) r) (ha : DE X a ta) (hb : DE X b tb) : DE X (.BinOp a op b pos) (tbin r ta tb) := (pe_op ho ha hb).imp fun _ _ _ => bin_lift
theorem de_cmp {op : CmpOp} {r : RD2} (ho : OpD X (compareOp op) r) (ha : DE X a ta) (hb : DE X b tb) (hm : behindInMarks op b = false := by first | exact nomark _ | with_unfolding_all rfl) : DE X (.Compare a [op] [b] pos) (tbin r ta tb) := (pe_cmpR ho ha hb hm).imp fun _ _ _ => bin_lift
noncomputable def tbool (t : TD) : TBD := fun ρ st P => t ρ st fun x st1 => match x with
  | .bl k => P k st1
  | _ => False
theorem bool_lift {K : PySem.W.Frag} {t : TD} {σ : L2.St} {H : Hp} {Q : Bool → Hp → Prop} (h : liftT K (tbool t) σ H Q) : liftE K t σ H fun x H' => ∃ k, x = .bl k ∧ Q k H' := by
  obtain ⟨φ, st, ρ, P, pre, ht, hq⟩ := h
  refine ⟨φ, st, ρ, _, pre, ht, fun d st1 h1 φ1 H1 v b1 dx => ?_⟩
  cases d with
  | bl k => exact ⟨k, dx.bl, hq k st1 h1 φ1 H1 b1⟩
  | _ => exact h1.elim
theorem dt_cmp {op : CmpOp} {r : RD2} (ho : OpD X (compareOp op) r) (ha : DE X a ta) (hb : DE X b tb) (hm : behindInMarks op b = false := by first | exact nomark _ | with_unfolding_all rfl) : DT X (.Compare a [op] [b] pos) (tbool (tbin r ta tb)) :=
  (pt_cmpR ho ha hb hm).imp fun σ H Q h => bin_lift (bool_lift h)
theorem dt_val (h : DE X e t) (he : ∀ whole, isTrue e X.env whole = (do let v ← whole; standAt e.pos; holding [v] (truthy v)) := by intro _; rfl) : DT X e (tbool t) := (pt_val h he).imp fun σ H Q h => bool_lift h
noncomputable def tnotB (t : TBD) : TBD := fun ρ st P => t ρ st fun k st1 => P (!k) st1
theorem dt_not {t : TBD} (h : DT X a t) : DT X (.UnaryOp .Not a pos) (tnotB t) := (pt_not h).imp fun σ H Q h => by
  obtain ⟨φ, st, ρ, P, pre, ht, hq⟩ := h
  exact ⟨φ, st, ρ, _, pre, ht, fun k st1 h1 φ1 H1 b1 => hq _ st1 h1 φ1 H1 b1⟩
noncomputable def DW (X : Cx) (e : Expr) (t : TBD) : Prop := PW X e (liftT X.K t)
theorem PW.imp {X : Cx} {e : Expr} {t t' : TT} (h : PW X e t) (i : ∀ σ H Q, t' σ H Q → t σ H Q) : PW X e t' := fun wh pins s σ H Q I q => h wh pins s σ H Q I (i σ H Q q)
noncomputable def tandB (t u : TBD) : TBD := fun ρ st P => t ρ st fun k st1 => if k = true then u ρ st1 P else P false st1
noncomputable def torB (t u : TBD) : TBD := fun ρ st P => t ρ st fun k st1 => if k = true then P true st1 else u ρ st1 P
variable {tA tB' : TBD} {rest : List Expr}
theorem dw_and1 (h : DT X a tA) : DW X (.BoolOp .And [a] pos) tA := pw_and1 h
theorem dw_or1 (h : DT X a tA) : DW X (.BoolOp .Or [a] pos) tA := pw_or1 h
theorem dw_and (ha : DT X a tA) (hb : DW X (.BoolOp .And (b :: rest) pos) tB') : DW X (.BoolOp .And (a :: b :: rest) pos) (tandB tA tB') := PW.imp (pw_and ha hb) fun σ H Q h => by
  obtain ⟨φ, st, ρ, P, pre, ht, hq⟩ := h
  refine ⟨φ, st, ρ, _, pre, ht, fun k st1 h1 φ1 H1 b1 => ?_⟩
  cases k with
  | true =>
    rw [if_pos rfl] at h1 ⊢
    exact ⟨φ1, st1, ρ, P, pre.on b1, h1, fun k st2 h2 φ2 H2 b2 => hq k st2 h2 φ2 H2 (b1.trans b2)⟩
  | false =>
    rw [if_neg Bool.false_ne_true] at h1 ⊢
    exact hq false st1 h1 φ1 H1 b1
theorem dw_or (ha : DT X a tA) (hb : DW X (.BoolOp .Or (b :: rest) pos) tB') : DW X (.BoolOp .Or (a :: b :: rest) pos) (torB tA tB') := PW.imp (pw_or ha hb) fun σ H Q h => by
  obtain ⟨φ, st, ρ, P, pre, ht, hq⟩ := h
  refine ⟨φ, st, ρ, _, pre, ht, fun k st1 h1 φ1 H1 b1 => ?_⟩
  cases k with
  | false =>
    rw [if_neg Bool.false_ne_true] at h1 ⊢
    exact ⟨φ1, st1, ρ, P, pre.on b1, h1, fun k st2 h2 φ2 H2 b2 => hq k st2 h2 φ2 H2 (b1.trans b2)⟩
  | true =>
    rw [if_pos rfl] at h1 ⊢
    exact hq true st1 h1 φ1 H1 b1
theorem dt_of {tA : TBD} (h : DW X e tA) : DT X e tA := h _
noncomputable def tandV (t u : TD) : TD := fun ρ st P => t ρ st fun x st1 => match x with
  | .bl k => if k = true then u ρ st1 P else P (.bl false) st1
  | _ => False
noncomputable def tnotV (t : TD) : TD := fun ρ st P => t ρ st fun x st1 => match x with
  | .bl k => P (.bl (!k)) st1
  | _ => False
theorem de_one {op} (h : DE X a t) : DE X (.BoolOp op [a] pos) t := pe_one h
theorem de_and (ha : DE X a ta) (hb : DE X (.BoolOp .And (b :: rest) pos) tb) : DE X (.BoolOp .And (a :: b :: rest) pos) (tandV ta tb) := (pe_and ha hb).imp fun σ H Q h => by
  obtain ⟨φ, st, ρ, P, pre, ht, hq⟩ := h
  refine ⟨φ, st, ρ, _, pre, ht, fun d st1 h1 φ1 H1 v b1 dx => ?_⟩
  cases d with
  | bl k =>
    refine ⟨k, dx.bl, ?_⟩
    cases k with
    | true => exact iteT ⟨φ1, st1, ρ, P, pre.on b1, h1, fun k st2 h2 φ2 H2 v2 b2 => hq k st2 h2 φ2 H2 v2 (b1.trans b2)⟩
    | false => exact iteF (hq _ st1 h1 φ1 H1 _ b1 D.mkBl)
  | _ => exact h1.elim
theorem de_not (ha : DE X a ta) : DE X (.UnaryOp .Not a pos) (tnotV ta) := (pe_not ha).imp fun σ H Q h => by
  obtain ⟨φ, st, ρ, P, pre, ht, hq⟩ := h
  refine ⟨φ, st, ρ, _, pre, ht, fun d st1 h1 φ1 H1 v b1 dx => ?_⟩
  cases d with
  | bl k => exact ⟨k, dx.bl, hq _ st1 h1 φ1 H1 _ b1 D.mkBl⟩
  | _ => exact h1.elim
noncomputable def tanil : TAD := fun _ st P => P [] st
noncomputable def tacons (t : TD) (u : TAD) : TAD := fun ρ st P => t ρ st fun x st1 => u ρ st1 fun xs st2 => P (x :: xs) st2
theorem da_nil : DA X [] tanil := (pa_nil).imp fun σ H Q h => by
  obtain ⟨φ, st, ρ, P, pre, ht, hq⟩ := h
  exact hq [] st ht φ H [] (.refl pre.1) .nil
theorem da_cons (ha : DE X e t) (hr : DA X es tas) (hs : starEach (e :: es) X.env = (false, eval e X.env) :: starEach es X.env := by rfl) : DA X (e :: es) (tacons t tas) := (pa_cons ha hr hs).imp fun σ H Q h => by
  obtain ⟨φ, st, ρ, P, pre, ht, hq⟩ := h
  refine ⟨φ, st, ρ, _, pre, ht, fun x st1 h1 φ1 H1 v b1 dx => ?_⟩
  refine ⟨φ1, st1, ρ, _, pre.on b1, h1, fun xs st2 h2 φ2 H2 vs b2 dxs => ?_⟩
  exact hq _ st2 h2 φ2 H2 _ (b1.trans b2) (.cons (dx.evo b2.2) dxs)
noncomputable def ttup (t : TAD) : TD := fun ρ st P => t ρ st fun ds st1 => ds.length ≤ sizeLine ∧ P (.tup ds) st1
noncomputable def tlst (t : TAD) : TD := fun ρ st P => t ρ st fun ds st1 => ds.length ≤ sizeLine ∧ P (.lst st1.length) (st1 ++ [.rw ds])
theorem bhd_tup {K : PySem.W.Frag} {φ : Nat → Addr} {st : Sto} {H : Hp} {p : Addr} {o : HO} (R : Rep K φ st H) (hp : H p = none) : Bhd K φ st H φ st (upd H p o) := ⟨R.laid hp, evo_new hp⟩
theorem bhd_lst {K : PySem.W.Frag} {φ : Nat → Addr} {st : Sto} {H : Hp} {p : Addr} {ds : List Dt} {vs : List V} (R : Rep K φ st H) (hp : H p = none) (hd : DL K φ st.length H ds vs) :
    Bhd K φ st H (phiNew φ st.length p) (st ++ [.rw ds]) (upd H p (.lst vs)) := ⟨R.newL hp hd, evo_lst hp⟩
theorem d_new {K : PySem.W.Frag} {φ : Nat → Addr} {st : Sto} {H : Hp} {p : Addr} {ds : List Dt} {vs : List V} : D K (phiNew φ st.length p) (st ++ [SO.rw ds]).length (upd H p (.lst vs)) (.lst st.length) (.ref p) := by
  have := D.mkLst (K := K) (φ := phiNew φ st.length p) (H := upd H p (.lst vs)) (n := st.length) (N := (st ++ [SO.rw ds]).length) (by simp) (by rw [phi_at]; exact ⟨vs, SqL.of upd_same⟩)
  rw [phi_at] at this
  exact this
theorem de_tup {x1} (h : DA X es tas) : DE X (.Tuple es x1 pos) (ttup tas) := (pe_tup h).imp fun σ H Q h => by
  obtain ⟨φ, st, ρ, P, pre, ht, hq⟩ := h
  refine ⟨φ, st, ρ, _, pre, ht, fun ds st1 h1 φ1 H1 vs b1 dx => ⟨by rw [← dx.length]; exact h1.1, fun p hp => ?_⟩⟩
  exact hq _ st1 h1.2 φ1 _ _ (b1.trans (bhd_tup b1.1 hp)) (.mkTup (SqT.of upd_same) (dx.evo (evo_new hp)))
theorem de_lst (h : DA X es tas) : DE X (.List es pos) (tlst tas) := (pe_lst h).imp fun σ H Q h => by
  obtain ⟨φ, st, ρ, P, pre, ht, hq⟩ := h
  refine ⟨φ, st, ρ, _, pre, ht, fun ds st1 h1 φ1 H1 vs b1 dx => ⟨by rw [← dx.length]; exact h1.1, fun p hp => ?_⟩⟩
  exact hq _ _ h1.2 _ _ _ (b1.trans (bhd_lst b1.1 hp dx)) d_new
end
end L3
namespace L3
open PySem PySem.Spec PyProof.Rows L2
noncomputable def rAdd : RD2 := fun x y st P => match x, y with
  | .int i, .int j => P (.int (i + j)) st
  | .str i, .str j => i.length + j.length ≤ sizeLine ∧ P (.str (i ++ j)) st
  | .tup i, .tup j => i.length + j.length ≤ sizeLine ∧ P (.tup (i ++ j)) st
  | .lst n, .lst m => match st[n]?, st[m]? with
    | some (.rw xs), some (.rw ys) => xs.length + ys.length ≤ sizeLine ∧ P (.lst st.length) (st ++ [.rw (xs ++ ys)])
    | _, _ => False
  | _, _ => False
noncomputable def rSub : RD2 := fun x y st P => match x, y with
  | .int i, .int j => P (.int (i - j)) st
  | _, _ => False
noncomputable def rMul : RD2 := fun x y st P => match x, y with
  | .int i, .int j => CMul i j ∧ P (.int (i * j)) st
  | .tup xs, .int k => xs ≠ [] ∧ 2 ≤ k ∧ k < 2 ^ 20 ∧ xs.length * k.toNat ≤ sizeLine ∧ P (.tup (List.replicate k.toNat xs).flatten) st
  | .lst n, .int k => match st[n]? with
    | some (.rw xs) => 0 ≤ k ∧ k < 2 ^ 20 ∧ xs.length * k.toNat ≤ sizeLine ∧ P (.lst st.length) (st ++ [.rw (List.replicate k.toNat xs).flatten])
    | _ => False
  | _, _ => False
noncomputable def rDiv : RD2 := fun x y st P => match x, y with
  | .int i, .int j => CDiv i j ∧ P (.int (i / j)) st
  | _, _ => False
noncomputable def rMod : RD2 := fun x y st P => match x, y with
  | .int i, .int j => 0 < j ∧ P (.int (i % j)) st
  | _, _ => False
noncomputable def rAndB : RD2 := fun x y st P => match x, y with
  | .int i, .int j => P (.int (Builtin.bitAnd i j)) st
  | _, _ => False
noncomputable def rCmpI (p : Int → Int → Bool) : RD2 := fun x y st P => match x, y with
  | .int i, .int j => P (.bl (p i j)) st
  | _, _ => False
noncomputable def rEqD (neg : Bool) : RD2 := fun x y st P => match x, y with
  | .lst n, .lst m => match st[n]?, st[m]? with
    | some a, some b => a.items.all (okD 8) = true ∧ b.items.all (okD 8) = true ∧ P (.bl (eqL (eqD 8) a.items b.items != neg)) st
    | _, _ => False
  | x, y => okD 8 x = true ∧ okD 8 y = true ∧ P (.bl (eqD 8 x y != neg)) st
noncomputable def rIsD (neg : Bool) : RD2 := fun x y st P => match x, y with
  | .bl a, .bl b => P (.bl ((a == b) != neg)) st
  | .non, .non => P (.bl (true != neg)) st
  | .bl _, .non => P (.bl (false != neg)) st
  | .int _, .non => P (.bl (false != neg)) st
  | .str _, .non => P (.bl (false != neg)) st
  | .tup _, .non => P (.bl (false != neg)) st
  | .lst _, .non => P (.bl (false != neg)) st
  | _, _ => False
noncomputable def seqOf (st : Sto) : Dt → Option (List Dt)
  | .tup xs => some xs
  | .lst n => (st[n]?).map SO.items
  | _ => none
noncomputable def rInD (neg : Bool) : RD2 := fun x y st P => match x, y with
  | .str i, .str j => P (.bl ((!(Builtin.Str.occurrences j i 0 j.length 1).isEmpty) != neg)) st
  | x, y => match seqOf st y with
    | some xs => okD 0 x = true ∧ xs.all (okD 0) = true ∧ P (.bl (xs.any (fun z => eqD 0 z x) != neg)) st
    | none => False
section
variable {X : Cx} {K : PySem.W.Frag} {φ : Nat → Addr} {st : Sto} {H : Hp} {P : VD} {Q : VK} {d : Dt} {v : V}
noncomputable abbrev Go (K : PySem.W.Frag) (φ : Nat → Addr) (st : Sto) (H : Hp) (P : VD) (Q : VK) : Prop := ∀ d st', P d st' → ∀ φ' H' u, Bhd K φ st H φ' st' H' → D K φ' st'.length H' d u → Q u H'
theorem Go.here (g : Go K φ st H P Q) (R : Rep K φ st H) (hp : P d st) (hd : D K φ st.length H d v) : Q v H := g d st hp φ H v (.refl R) hd
theorem od_add : OpD X (binaryOp .Add) rAdd := by
  intro pins s σ H v w u1 u2 Q I r1 r2 h
  obtain ⟨φ, st, x, y, P, R, dx, dy, hr, hq⟩ := h
  cases x with
  | int i =>
    cases y with
    | int j => exact op_add pins s σ H v w u1 u2 Q I r1 r2 ⟨i, j, dx.int, dy.int, Go.here hq R hr D.mkInt⟩
    | _ => exact hr.elim
  | str i =>
    cases y with
    | str j => exact op_add_str pins s σ H v w u1 u2 Q I r1 r2 ⟨i, j, dx.str, dy.str, hr.1, Go.here hq R hr.2 D.mkStr⟩
    | _ => exact hr.elim
  | tup i =>
    cases y with
    | tup j =>
      obtain ⟨a, vs, e1, s1, d1⟩ := dx.tup
      obtain ⟨b, ws, e2, s2, d2⟩ := dy.tup
      have l1 := d1.length
      have l2 := d2.length
      have hr1 : i.length + j.length ≤ sizeLine := hr.1
      have hr2 : P (.tup (i ++ j)) st := hr.2
      refine op_catA pins s σ H v w u1 u2 Q I r1 r2 ⟨a, b, vs, ws, e1, e2, s1, s2, by omega, fun z => ?_, fun z1 z2 => ?_, fun z1 z2 p hp => ?_⟩
      · rw [z] at l1
        have : i = [] := List.length_eq_zero_iff.mp l1
        rw [this, List.nil_append] at hr2
        exact Go.here hq R hr2 (.mkTup s2 d2)
      · rw [z2] at l2
        have : j = [] := List.length_eq_zero_iff.mp l2
        rw [this, List.append_nil] at hr2
        exact Go.here hq R hr2 (.mkTup s1 d1)
      · exact hq _ st hr2 φ _ _ (bhd_tup R hp) (.mkTup (SqT.of upd_same) ((d1.append d2).evo (evo_new hp)))
    | _ => exact hr.elim
  | lst n =>
    cases y with
    | lst m =>
      have hr' : match st[n]?, st[m]? with
        | some (.rw xs), some (.rw ys) => xs.length + ys.length ≤ sizeLine ∧ P (.lst st.length) (st ++ [.rw (xs ++ ys)])
        | _, _ => False := hr
      split at hr'
      · rename_i xs ys e1 e2
        obtain ⟨vs, h1, d1⟩ := R.rw n xs e1
        obtain ⟨ws, h2, d2⟩ := R.rw m ys e2
        have l1 := d1.length
        have l2 := d2.length
        have z := hr'.1
        exact op_cat pins s σ H v w u1 u2 Q I r1 r2 ⟨φ n, φ m, vs, ws, dx.lst.2, dy.lst.2, h1, h2, by omega, fun p hp => hq _ _ hr'.2 _ _ _ (bhd_lst R hp (d1.append d2)) d_new⟩
      · exact hr'.elim
    | _ => exact hr.elim
  | _ => cases y <;> exact hr.elim
theorem od_sub : OpD X (binaryOp .Sub) rSub := by
  intro pins s σ H v w u1 u2 Q I r1 r2 h
  obtain ⟨φ, st, x, y, P, R, dx, dy, hr, hq⟩ := h
  cases x with
  | int i =>
    cases y with
    | int j => exact op_sub pins s σ H v w u1 u2 Q I r1 r2 ⟨i, j, dx.int, dy.int, Go.here hq R hr D.mkInt⟩
    | _ => exact hr.elim
  | _ => cases y <;> exact hr.elim
theorem od_mul : OpD X (binaryOp .Mult) rMul := by
  intro pins s σ H v w u1 u2 Q I r1 r2 h
  obtain ⟨φ, st, x, y, P, R, dx, dy, hr, hq⟩ := h
  cases x with
  | int i =>
    cases y with
    | int j => exact op_mul pins s σ H v w u1 u2 Q I r1 r2 ⟨i, j, dx.int, dy.int, hr.1, Go.here hq R hr.2 D.mkInt⟩
    | _ => exact hr.elim
  | tup xs =>
    cases y with
    | int k =>
      obtain ⟨a, vs, e1, s1, d1⟩ := dx.tup
      obtain ⟨h1, h2, h3, h4, h5⟩ : xs ≠ [] ∧ 2 ≤ k ∧ k < 2 ^ 20 ∧ xs.length * k.toNat ≤ sizeLine ∧ P (.tup (List.replicate k.toNat xs).flatten) st := hr
      have rep : ∀ m : Nat, DL X.K φ st.length H (List.replicate m xs).flatten (List.replicate m vs).flatten := fun m => by
        induction m with
        | zero => exact .nil
        | succ m ih => rw [List.replicate_succ, List.replicate_succ, List.flatten_cons, List.flatten_cons]; exact d1.append ih
      refine op_repT pins s σ H v w u1 u2 Q I r1 r2 ⟨a, k, vs, e1, dy.int, s1, fun z => ?_, h2, h3, by rw [← d1.length]; exact h4, fun p hp => ?_⟩
      · have := d1.length
        rw [z] at this
        exact h1 (List.length_eq_zero_iff.mp this)
      · exact hq _ st h5 φ _ _ (bhd_tup R hp) (.mkTup (SqT.of upd_same) ((rep _).evo (evo_new hp)))
    | _ => exact hr.elim
  | lst n =>
    cases y with
    | int k =>
      have hr' : match st[n]? with
        | some (.rw xs) => 0 ≤ k ∧ k < 2 ^ 20 ∧ xs.length * k.toNat ≤ sizeLine ∧ P (.lst st.length) (st ++ [.rw (List.replicate k.toNat xs).flatten])
        | _ => False := hr
      split at hr'
      · rename_i xs e1
        obtain ⟨vs, h1, d1⟩ := R.rw n xs e1
        obtain ⟨g1, g2, g3, g4⟩ := hr'
        have rep : ∀ m : Nat, DL X.K φ st.length H (List.replicate m xs).flatten (List.replicate m vs).flatten := fun m => by
          induction m with
          | zero => exact .nil
          | succ m ih => rw [List.replicate_succ, List.replicate_succ, List.flatten_cons, List.flatten_cons]; exact d1.append ih
        exact op_rep pins s σ H v w u1 u2 Q I r1 r2 ⟨φ n, k, vs, dx.lst.2, dy.int, h1, by omega, by omega, by rw [← d1.length]; exact g3, fun p hp => hq _ _ g4 _ _ _ (bhd_lst R hp (rep _)) d_new⟩
      · exact hr'.elim
    | _ => exact hr.elim
  | _ => cases y <;> exact hr.elim
theorem od_div : OpD X (binaryOp .FloorDiv) rDiv := by
  intro pins s σ H v w u1 u2 Q I r1 r2 h
  obtain ⟨φ, st, x, y, P, R, dx, dy, hr, hq⟩ := h
  cases x with
  | int i =>
    cases y with
    | int j => exact op_fdiv pins s σ H v w u1 u2 Q I r1 r2 ⟨i, j, dx.int, dy.int, hr.1, Go.here hq R hr.2 D.mkInt⟩
    | _ => exact hr.elim
  | _ => cases y <;> exact hr.elim
theorem od_mod : OpD X (binaryOp .Mod) rMod := by
  intro pins s σ H v w u1 u2 Q I r1 r2 h
  obtain ⟨φ, st, x, y, P, R, dx, dy, hr, hq⟩ := h
  cases x with
  | int i =>
    cases y with
    | int j => exact op_mod pins s σ H v w u1 u2 Q I r1 r2 ⟨i, j, dx.int, dy.int, hr.1, Go.here hq R hr.2 D.mkInt⟩
    | _ => exact hr.elim
  | _ => cases y <;> exact hr.elim
theorem od_and : OpD X (binaryOp .BitAnd) rAndB := by
  intro pins s σ H v w u1 u2 Q I r1 r2 h
  obtain ⟨φ, st, x, y, P, R, dx, dy, hr, hq⟩ := h
  cases x with
  | int i =>
    cases y with
    | int j => exact op_and pins s σ H v w u1 u2 Q I r1 r2 ⟨i, j, dx.int, dy.int, Go.here hq R hr D.mkInt⟩
    | _ => exact hr.elim
  | _ => cases y <;> exact hr.elim
theorem od_cmpI {op : CmpOp} {p : Int → Int → Bool} (ho : OpR X (compareOp op) (rI0 fun i j => .bl (p i j))) : OpD X (compareOp op) (rCmpI p) := by
  intro pins s σ H v w u1 u2 Q I r1 r2 h
  obtain ⟨φ, st, x, y, P, R, dx, dy, hr, hq⟩ := h
  cases x with
  | int i =>
    cases y with
    | int j => exact ho pins s σ H v w u1 u2 Q I r1 r2 ⟨i, j, dx.int, dy.int, Go.here hq R hr D.mkBl⟩
    | _ => exact hr.elim
  | _ => cases y <;> exact hr.elim
theorem od_lt : OpD X (compareOp .Lt) (rCmpI fun i j => decide (i < j)) := od_cmpI op_lt
theorem od_gt : OpD X (compareOp .Gt) (rCmpI fun i j => decide (j < i)) := od_cmpI op_gt
theorem bne_false' (k : Bool) : (k != false) = k := by cases k <;> rfl
theorem bne_true' (k : Bool) : (k != true) = !k := by cases k <;> rfl
theorem fin_bool {pins : List (Addr × Obj)} {σ : L2.St} {s : Shared} (I : Inv X pins σ H s) (g : Go X.K φ st H P Q) (R : Rep X.K φ st H) {k k' : Bool} (hp : P (.bl k) st) (e : k = k') : EP X pins σ Q (.bool k') s := by
  subst e
  exact ⟨.bl k, H, I, rfl, Go.here g R hp D.mkBl⟩
end
section
variable {X : Cx} {pins : List (Addr × Obj)} {σ : L2.St} {H : Hp} {s : Shared} {φ : Nat → Addr} {N : Nat}
theorem els_D (I : Inv X pins σ H s) {n : Nat} {A : Around} {a b : List Dt} {vs ws : List V} {its its2 : List Value} (hu : A.units + n + 1 < cLine) (hd : DL X.K φ N H a vs) (hd2 : DL X.K φ N H b ws) (rv : Vals vs its) (rv2 : Vals ws its2)
    (o1 : a.all (okD n) = true) (o2 : b.all (okD n) = true) {j : Nat} (h1 : j < its.toArray.size) (h2 : j < its2.toArray.size) : SeqAt.EqAt A.in1 s its.toArray[j] its2.toArray[j] (eqD n (a.getD j .non) (b.getD j .non)) := by
  have l1 : its.toArray.size = a.length := by rw [List.size_toArray, ← rv.length, hd.length]
  have l2 : its2.toArray.size = b.length := by rw [List.size_toArray, ← rv2.length, hd2.length]
  have hj1 : j < a.length := by rw [← l1]; exact h1
  have hj2 : j < b.length := by rw [← l2]; exact h2
  have ea : a[j]? = some a[j] := by simp [hj1]
  have eb : b[j]? = some b[j] := by simp [hj2]
  obtain ⟨x, ex, dx⟩ := hd.get ea
  obtain ⟨y, ey, dy⟩ := hd2.get eb
  obtain ⟨ux, eux, rx⟩ := rv.get ex
  obtain ⟨uy, euy, ry⟩ := rv2.get ey
  have gx : its.toArray[j] = ux := by
    have : its[j]? = some its[j] := by simp at h1; simp [h1]
    rw [eux] at this
    simpa using (Option.some.inj this).symm
  have gy : its2.toArray[j] = uy := by
    have : its2[j]? = some its2[j] := by simp at h2; simp [h2]
    rw [euy] at this
    simpa using (Option.some.inj this).symm
  rw [gx, gy, getD_of ea, getD_of eb]
  exact eqAt_D I n (by show A.units + 1 + n < cLine; omega) (List.all_eq_true.mp o1 _ (List.getElem_mem hj1)) (List.all_eq_true.mp o2 _ (List.getElem_mem hj2)) dx dy rx ry
theorem rcEq_D (I : Inv X pins σ H s) (n : Nat) {A : Around} : ∀ {d e : Dt} {v w : V} {u1 u2 : Value}, A.units + n + 1 < cLine → okD (n + 1) d = true → okD (n + 1) e = true → D X.K φ N H d v → D X.K φ N H e w → RelV v u1 → RelV w u2 → SeqAt.RcAt A s u1 u2 (eqD (n + 1) d e)
  | .non, .non, v, w, u1, u2, hu, _, _, h1, h2, r1, r2 => by cases h1.non; cases h2.non; cases r1; cases r2; exact SeqAt.RcAt.none_none
  | .non, .bl b, v, w, u1, u2, hu, _, _, h1, h2, r1, r2 => by cases h1.non; cases h2.bl; cases r1; cases r2; exact SeqAt.RcAt.none_bool b
  | .non, .int b, v, w, u1, u2, hu, _, _, h1, h2, r1, r2 => by cases h1.non; cases h2.int; cases r1; obtain ⟨t', rfl⟩ := r2; exact SeqAt.RcAt.none_int b t'
  | .non, .str b, v, w, u1, u2, hu, _, _, h1, h2, r1, r2 => by cases h1.non; cases h2.str; cases r1; obtain ⟨t', rfl⟩ := r2; exact SeqAt.RcAt.none_str b t'
  | .bl a, .non, v, w, u1, u2, hu, _, _, h1, h2, r1, r2 => by cases h1.bl; cases h2.non; cases r1; cases r2; exact SeqAt.RcAt.bool_none a
  | .bl a, .bl b, v, w, u1, u2, hu, _, _, h1, h2, r1, r2 => by cases h1.bl; cases h2.bl; cases r1; cases r2; exact SeqAt.RcAt.bool_bool a b
  | .bl a, .int b, v, w, u1, u2, hu, _, _, h1, h2, r1, r2 => by cases h1.bl; cases h2.int; cases r1; obtain ⟨t', rfl⟩ := r2; exact SeqAt.RcAt.bool_int a b t'
  | .bl a, .str b, v, w, u1, u2, hu, _, _, h1, h2, r1, r2 => by cases h1.bl; cases h2.str; cases r1; obtain ⟨t', rfl⟩ := r2; exact SeqAt.RcAt.bool_str a b t'
  | .int a, .non, v, w, u1, u2, hu, _, _, h1, h2, r1, r2 => by cases h1.int; cases h2.non; obtain ⟨t, rfl⟩ := r1; cases r2; exact SeqAt.RcAt.int_none a t
  | .int a, .bl b, v, w, u1, u2, hu, _, _, h1, h2, r1, r2 => by cases h1.int; cases h2.bl; obtain ⟨t, rfl⟩ := r1; cases r2; exact SeqAt.RcAt.int_bool a t b
  | .int a, .int b, v, w, u1, u2, hu, _, _, h1, h2, r1, r2 => by cases h1.int; cases h2.int; obtain ⟨t, rfl⟩ := r1; obtain ⟨t', rfl⟩ := r2; exact SeqAt.RcAt.int_int a t b t'
  | .int a, .str b, v, w, u1, u2, hu, _, _, h1, h2, r1, r2 => by cases h1.int; cases h2.str; obtain ⟨t, rfl⟩ := r1; obtain ⟨t', rfl⟩ := r2; exact SeqAt.RcAt.int_str a t b t'
  | .str a, .non, v, w, u1, u2, hu, _, _, h1, h2, r1, r2 => by cases h1.str; cases h2.non; obtain ⟨t, rfl⟩ := r1; cases r2; exact SeqAt.RcAt.str_none a t
  | .str a, .bl b, v, w, u1, u2, hu, _, _, h1, h2, r1, r2 => by cases h1.str; cases h2.bl; obtain ⟨t, rfl⟩ := r1; cases r2; exact SeqAt.RcAt.str_bool a t b
  | .str a, .int b, v, w, u1, u2, hu, _, _, h1, h2, r1, r2 => by cases h1.str; cases h2.int; obtain ⟨t, rfl⟩ := r1; obtain ⟨t', rfl⟩ := r2; exact SeqAt.RcAt.str_int a t b t'
  | .str a, .str b, v, w, u1, u2, hu, _, _, h1, h2, r1, r2 => by cases h1.str; cases h2.str; obtain ⟨t, rfl⟩ := r1; obtain ⟨t', rfl⟩ := r2; exact SeqAt.RcAt.str_str a t b t'
  | .tup a, .non, v, w, u1, u2, hu, _, _, h1, h2, r1, r2 => by
    obtain ⟨p, vs, rfl, hs, hd⟩ := h1.tup; cases h2.non; cases r1; cases r2; obtain ⟨its, _, ht, _⟩ := I.tuple hs; exact SeqAt.RcAt.tuple_none ht (by omega)
  | .non, .tup a, v, w, u1, u2, hu, _, _, h1, h2, r1, r2 => by
    obtain ⟨p, vs, rfl, hs, hd⟩ := h2.tup; cases h1.non; cases r2; cases r1; obtain ⟨its, _, ht, _⟩ := I.tuple hs; exact SeqAt.RcAt.none_tuple ht (by omega)
  | .tup a, .bl b, v, w, u1, u2, hu, _, _, h1, h2, r1, r2 => by
    obtain ⟨p, vs, rfl, hs, hd⟩ := h1.tup; cases h2.bl; cases r1; cases r2; obtain ⟨its, _, ht, _⟩ := I.tuple hs; exact SeqAt.RcAt.tuple_bool b ht (by omega)
  | .bl b, .tup a, v, w, u1, u2, hu, _, _, h1, h2, r1, r2 => by
    obtain ⟨p, vs, rfl, hs, hd⟩ := h2.tup; cases h1.bl; cases r2; cases r1; obtain ⟨its, _, ht, _⟩ := I.tuple hs; exact SeqAt.RcAt.bool_tuple b ht (by omega)
  | .tup a, .int b, v, w, u1, u2, hu, _, _, h1, h2, r1, r2 => by
    obtain ⟨p, vs, rfl, hs, hd⟩ := h1.tup; cases h2.int; cases r1; obtain ⟨t', rfl⟩ := r2; obtain ⟨its, _, ht, _⟩ := I.tuple hs; exact SeqAt.RcAt.tuple_int b t' ht (by omega)
  | .int b, .tup a, v, w, u1, u2, hu, _, _, h1, h2, r1, r2 => by
    obtain ⟨p, vs, rfl, hs, hd⟩ := h2.tup; cases h1.int; cases r2; obtain ⟨t', rfl⟩ := r1; obtain ⟨its, _, ht, _⟩ := I.tuple hs; exact SeqAt.RcAt.int_tuple b t' ht (by omega)
  | .tup a, .str b, v, w, u1, u2, hu, _, _, h1, h2, r1, r2 => by
    obtain ⟨p, vs, rfl, hs, hd⟩ := h1.tup; cases h2.str; cases r1; obtain ⟨t', rfl⟩ := r2; obtain ⟨its, _, ht, _⟩ := I.tuple hs; exact SeqAt.RcAt.tuple_str b t' ht (by omega)
  | .str b, .tup a, v, w, u1, u2, hu, _, _, h1, h2, r1, r2 => by
    obtain ⟨p, vs, rfl, hs, hd⟩ := h2.tup; cases h1.str; cases r2; obtain ⟨t', rfl⟩ := r1; obtain ⟨its, _, ht, _⟩ := I.tuple hs; exact SeqAt.RcAt.str_tuple b t' ht (by omega)
  | .tup a, .tup b, v, w, u1, u2, hu, o1, o2, h1, h2, r1, r2 => by
    simp only [okD] at o1 o2
    obtain ⟨p, vs, rfl, hs, hd⟩ := h1.tup
    obtain ⟨q, ws, rfl, hs2, hd2⟩ := h2.tup
    cases r1; cases r2
    obtain ⟨its, rv, ht, _⟩ := I.tuple hs
    obtain ⟨its2, rv2, ht2, _⟩ := I.tuple hs2
    have l1 : its.toArray.size = a.length := by rw [List.size_toArray, ← rv.length, hd.length]
    have l2 : its2.toArray.size = b.length := by rw [List.size_toArray, ← rv2.length, hd2.length]
    have := SeqAt.RcAt.tuples (A := A) (s := s) (e := fun j => eqD n (a.getD j .non) (b.getD j .non)) ht ht2 (by omega) (fun j h1 h2 => els_D I hu hd hd2 rv rv2 o1 o2 h1 h2)
    rw [l1, l2] at this
    simp only [eqD]
    rw [eqL_range]
    exact this
  | .lst _, _, v, w, u1, u2, hu, o1, _, h1, h2, r1, r2 => by simp [okD] at o1
  | .non, .lst _, v, w, u1, u2, hu, _, o1, h1, h2, r1, r2 => by simp [okD] at o1
  | .bl _, .lst _, v, w, u1, u2, hu, _, o1, h1, h2, r1, r2 => by simp [okD] at o1
  | .int _, .lst _, v, w, u1, u2, hu, _, o1, h1, h2, r1, r2 => by simp [okD] at o1
  | .str _, .lst _, v, w, u1, u2, hu, _, o1, h1, h2, r1, r2 => by simp [okD] at o1
  | .tup _, .lst _, v, w, u1, u2, hu, _, o1, h1, h2, r1, r2 => by simp [okD] at o1
  | .ty _, _, v, w, u1, u2, hu, o1, _, h1, h2, r1, r2 => by simp [okD] at o1
  | .dic _, _, v, w, u1, u2, hu, o1, _, h1, h2, r1, r2 => by simp [okD] at o1
  | .ins _, _, v, w, u1, u2, hu, o1, _, h1, h2, r1, r2 => by simp [okD] at o1
  | .non, .ty _, v, w, u1, u2, hu, _, o1, h1, h2, r1, r2 => by simp [okD] at o1
  | .non, .dic _, v, w, u1, u2, hu, _, o1, h1, h2, r1, r2 => by simp [okD] at o1
  | .non, .ins _, v, w, u1, u2, hu, _, o1, h1, h2, r1, r2 => by simp [okD] at o1
  | .bl _, .ty _, v, w, u1, u2, hu, _, o1, h1, h2, r1, r2 => by simp [okD] at o1
  | .bl _, .dic _, v, w, u1, u2, hu, _, o1, h1, h2, r1, r2 => by simp [okD] at o1
  | .bl _, .ins _, v, w, u1, u2, hu, _, o1, h1, h2, r1, r2 => by simp [okD] at o1
  | .int _, .ty _, v, w, u1, u2, hu, _, o1, h1, h2, r1, r2 => by simp [okD] at o1
  | .int _, .dic _, v, w, u1, u2, hu, _, o1, h1, h2, r1, r2 => by simp [okD] at o1
  | .int _, .ins _, v, w, u1, u2, hu, _, o1, h1, h2, r1, r2 => by simp [okD] at o1
  | .str _, .ty _, v, w, u1, u2, hu, _, o1, h1, h2, r1, r2 => by simp [okD] at o1
  | .str _, .dic _, v, w, u1, u2, hu, _, o1, h1, h2, r1, r2 => by simp [okD] at o1
  | .str _, .ins _, v, w, u1, u2, hu, _, o1, h1, h2, r1, r2 => by simp [okD] at o1
  | .tup _, .ty _, v, w, u1, u2, hu, _, o1, h1, h2, r1, r2 => by simp [okD] at o1
  | .tup _, .dic _, v, w, u1, u2, hu, _, o1, h1, h2, r1, r2 => by simp [okD] at o1
  | .tup _, .ins _, v, w, u1, u2, hu, _, o1, h1, h2, r1, r2 => by simp [okD] at o1
theorem rcNe_D (I : Inv X pins σ H s) (n : Nat) {A : Around} : ∀ {d e : Dt} {v w : V} {u1 u2 : Value}, A.units + n + 1 < cLine → okD (n + 1) d = true → okD (n + 1) e = true → D X.K φ N H d v → D X.K φ N H e w → RelV v u1 → RelV w u2 → SeqAt.RcNeAt A s u1 u2 (!(eqD (n + 1) d e))
  | .non, .non, v, w, u1, u2, hu, _, _, h1, h2, r1, r2 => by cases h1.non; cases h2.non; cases r1; cases r2; exact SeqAt.RcNeAt.none_none
  | .non, .bl b, v, w, u1, u2, hu, _, _, h1, h2, r1, r2 => by cases h1.non; cases h2.bl; cases r1; cases r2; exact SeqAt.RcNeAt.none_bool b
  | .non, .int b, v, w, u1, u2, hu, _, _, h1, h2, r1, r2 => by cases h1.non; cases h2.int; cases r1; obtain ⟨t', rfl⟩ := r2; exact SeqAt.RcNeAt.none_int b t'
  | .non, .str b, v, w, u1, u2, hu, _, _, h1, h2, r1, r2 => by cases h1.non; cases h2.str; cases r1; obtain ⟨t', rfl⟩ := r2; exact SeqAt.RcNeAt.none_str b t'
  | .bl a, .non, v, w, u1, u2, hu, _, _, h1, h2, r1, r2 => by cases h1.bl; cases h2.non; cases r1; cases r2; exact SeqAt.RcNeAt.bool_none a
  | .bl a, .bl b, v, w, u1, u2, hu, _, _, h1, h2, r1, r2 => by cases h1.bl; cases h2.bl; cases r1; cases r2; exact SeqAt.RcNeAt.bool_bool a b
  | .bl a, .int b, v, w, u1, u2, hu, _, _, h1, h2, r1, r2 => by cases h1.bl; cases h2.int; cases r1; obtain ⟨t', rfl⟩ := r2; exact SeqAt.RcNeAt.bool_int a b t'
  | .bl a, .str b, v, w, u1, u2, hu, _, _, h1, h2, r1, r2 => by cases h1.bl; cases h2.str; cases r1; obtain ⟨t', rfl⟩ := r2; exact SeqAt.RcNeAt.bool_str a b t'
  | .int a, .non, v, w, u1, u2, hu, _, _, h1, h2, r1, r2 => by cases h1.int; cases h2.non; obtain ⟨t, rfl⟩ := r1; cases r2; exact SeqAt.RcNeAt.int_none a t
  | .int a, .bl b, v, w, u1, u2, hu, _, _, h1, h2, r1, r2 => by cases h1.int; cases h2.bl; obtain ⟨t, rfl⟩ := r1; cases r2; exact SeqAt.RcNeAt.int_bool a t b
  | .int a, .int b, v, w, u1, u2, hu, _, _, h1, h2, r1, r2 => by cases h1.int; cases h2.int; obtain ⟨t, rfl⟩ := r1; obtain ⟨t', rfl⟩ := r2; exact SeqAt.RcNeAt.int_int a t b t'
  | .int a, .str b, v, w, u1, u2, hu, _, _, h1, h2, r1, r2 => by cases h1.int; cases h2.str; obtain ⟨t, rfl⟩ := r1; obtain ⟨t', rfl⟩ := r2; exact SeqAt.RcNeAt.int_str a t b t'
  | .str a, .non, v, w, u1, u2, hu, _, _, h1, h2, r1, r2 => by cases h1.str; cases h2.non; obtain ⟨t, rfl⟩ := r1; cases r2; exact SeqAt.RcNeAt.str_none a t
  | .str a, .bl b, v, w, u1, u2, hu, _, _, h1, h2, r1, r2 => by cases h1.str; cases h2.bl; obtain ⟨t, rfl⟩ := r1; cases r2; exact SeqAt.RcNeAt.str_bool a t b
  | .str a, .int b, v, w, u1, u2, hu, _, _, h1, h2, r1, r2 => by cases h1.str; cases h2.int; obtain ⟨t, rfl⟩ := r1; obtain ⟨t', rfl⟩ := r2; exact SeqAt.RcNeAt.str_int a t b t'
  | .str a, .str b, v, w, u1, u2, hu, _, _, h1, h2, r1, r2 => by cases h1.str; cases h2.str; obtain ⟨t, rfl⟩ := r1; obtain ⟨t', rfl⟩ := r2; exact SeqAt.RcNeAt.str_str a t b t'
  | .tup a, .non, v, w, u1, u2, hu, _, _, h1, h2, r1, r2 => by
    obtain ⟨p, vs, rfl, hs, hd⟩ := h1.tup; cases h2.non; cases r1; cases r2; obtain ⟨its, _, ht, _⟩ := I.tuple hs; exact SeqAt.RcNeAt.tuple_none ht (by omega)
  | .non, .tup a, v, w, u1, u2, hu, _, _, h1, h2, r1, r2 => by
    obtain ⟨p, vs, rfl, hs, hd⟩ := h2.tup; cases h1.non; cases r2; cases r1; obtain ⟨its, _, ht, _⟩ := I.tuple hs; exact SeqAt.RcNeAt.none_tuple ht (by omega)
  | .tup a, .bl b, v, w, u1, u2, hu, _, _, h1, h2, r1, r2 => by
    obtain ⟨p, vs, rfl, hs, hd⟩ := h1.tup; cases h2.bl; cases r1; cases r2; obtain ⟨its, _, ht, _⟩ := I.tuple hs; exact SeqAt.RcNeAt.tuple_bool b ht (by omega)
  | .bl b, .tup a, v, w, u1, u2, hu, _, _, h1, h2, r1, r2 => by
    obtain ⟨p, vs, rfl, hs, hd⟩ := h2.tup; cases h1.bl; cases r2; cases r1; obtain ⟨its, _, ht, _⟩ := I.tuple hs; exact SeqAt.RcNeAt.bool_tuple b ht (by omega)
  | .tup a, .int b, v, w, u1, u2, hu, _, _, h1, h2, r1, r2 => by
    obtain ⟨p, vs, rfl, hs, hd⟩ := h1.tup; cases h2.int; cases r1; obtain ⟨t', rfl⟩ := r2; obtain ⟨its, _, ht, _⟩ := I.tuple hs; exact SeqAt.RcNeAt.tuple_int b t' ht (by omega)
  | .int b, .tup a, v, w, u1, u2, hu, _, _, h1, h2, r1, r2 => by
    obtain ⟨p, vs, rfl, hs, hd⟩ := h2.tup; cases h1.int; cases r2; obtain ⟨t', rfl⟩ := r1; obtain ⟨its, _, ht, _⟩ := I.tuple hs; exact SeqAt.RcNeAt.int_tuple b t' ht (by omega)
  | .tup a, .str b, v, w, u1, u2, hu, _, _, h1, h2, r1, r2 => by
    obtain ⟨p, vs, rfl, hs, hd⟩ := h1.tup; cases h2.str; cases r1; obtain ⟨t', rfl⟩ := r2; obtain ⟨its, _, ht, _⟩ := I.tuple hs; exact SeqAt.RcNeAt.tuple_str b t' ht (by omega)
  | .str b, .tup a, v, w, u1, u2, hu, _, _, h1, h2, r1, r2 => by
    obtain ⟨p, vs, rfl, hs, hd⟩ := h2.tup; cases h1.str; cases r2; obtain ⟨t', rfl⟩ := r1; obtain ⟨its, _, ht, _⟩ := I.tuple hs; exact SeqAt.RcNeAt.str_tuple b t' ht (by omega)
  | .tup a, .tup b, v, w, u1, u2, hu, o1, o2, h1, h2, r1, r2 => by
    simp only [okD] at o1 o2
    obtain ⟨p, vs, rfl, hs, hd⟩ := h1.tup
    obtain ⟨q, ws, rfl, hs2, hd2⟩ := h2.tup
    cases r1; cases r2
    obtain ⟨its, rv, ht, _⟩ := I.tuple hs
    obtain ⟨its2, rv2, ht2, _⟩ := I.tuple hs2
    have l1 : its.toArray.size = a.length := by rw [List.size_toArray, ← rv.length, hd.length]
    have l2 : its2.toArray.size = b.length := by rw [List.size_toArray, ← rv2.length, hd2.length]
    have := SeqAt.RcNeAt.tuples (A := A) (s := s) (e := fun j => eqD n (a.getD j .non) (b.getD j .non)) ht ht2 (by omega) (fun j h1 h2 => els_D I hu hd hd2 rv rv2 o1 o2 h1 h2)
    rw [l1, l2] at this
    simp only [eqD]
    rw [eqL_range]
    exact this
  | .lst _, _, v, w, u1, u2, hu, o1, _, h1, h2, r1, r2 => by simp [okD] at o1
  | .non, .lst _, v, w, u1, u2, hu, _, o1, h1, h2, r1, r2 => by simp [okD] at o1
  | .bl _, .lst _, v, w, u1, u2, hu, _, o1, h1, h2, r1, r2 => by simp [okD] at o1
  | .int _, .lst _, v, w, u1, u2, hu, _, o1, h1, h2, r1, r2 => by simp [okD] at o1
  | .str _, .lst _, v, w, u1, u2, hu, _, o1, h1, h2, r1, r2 => by simp [okD] at o1
  | .tup _, .lst _, v, w, u1, u2, hu, _, o1, h1, h2, r1, r2 => by simp [okD] at o1
  | .ty _, _, v, w, u1, u2, hu, o1, _, h1, h2, r1, r2 => by simp [okD] at o1
  | .dic _, _, v, w, u1, u2, hu, o1, _, h1, h2, r1, r2 => by simp [okD] at o1
  | .ins _, _, v, w, u1, u2, hu, o1, _, h1, h2, r1, r2 => by simp [okD] at o1
  | .non, .ty _, v, w, u1, u2, hu, _, o1, h1, h2, r1, r2 => by simp [okD] at o1
  | .non, .dic _, v, w, u1, u2, hu, _, o1, h1, h2, r1, r2 => by simp [okD] at o1
  | .non, .ins _, v, w, u1, u2, hu, _, o1, h1, h2, r1, r2 => by simp [okD] at o1
  | .bl _, .ty _, v, w, u1, u2, hu, _, o1, h1, h2, r1, r2 => by simp [okD] at o1
  | .bl _, .dic _, v, w, u1, u2, hu, _, o1, h1, h2, r1, r2 => by simp [okD] at o1
  | .bl _, .ins _, v, w, u1, u2, hu, _, o1, h1, h2, r1, r2 => by simp [okD] at o1
  | .int _, .ty _, v, w, u1, u2, hu, _, o1, h1, h2, r1, r2 => by simp [okD] at o1
  | .int _, .dic _, v, w, u1, u2, hu, _, o1, h1, h2, r1, r2 => by simp [okD] at o1
  | .int _, .ins _, v, w, u1, u2, hu, _, o1, h1, h2, r1, r2 => by simp [okD] at o1
  | .str _, .ty _, v, w, u1, u2, hu, _, o1, h1, h2, r1, r2 => by simp [okD] at o1
  | .str _, .dic _, v, w, u1, u2, hu, _, o1, h1, h2, r1, r2 => by simp [okD] at o1
  | .str _, .ins _, v, w, u1, u2, hu, _, o1, h1, h2, r1, r2 => by simp [okD] at o1
  | .tup _, .ty _, v, w, u1, u2, hu, _, o1, h1, h2, r1, r2 => by simp [okD] at o1
  | .tup _, .dic _, v, w, u1, u2, hu, _, o1, h1, h2, r1, r2 => by simp [okD] at o1
  | .tup _, .ins _, v, w, u1, u2, hu, _, o1, h1, h2, r1, r2 => by simp [okD] at o1
end
theorem od_eq {X : Cx} (hu : X.A.units + 16 < cLine) : OpD X (compareOp .Eq) (rEqD false) := by
  intro pins s σ H v w u1 u2 Q I r1 r2 h
  obtain ⟨φ, st, x, y, P, R, dx, dy, hr, hq⟩ := h
  have gen : okD 8 x = true → okD 8 y = true → P (.bl (eqD 8 x y != false)) st → wpAny (model X.prog X.w) X.A (compareOp .Eq u1 u2) (EP X pins σ Q) X.xe s := fun o1 o2 hp => by
    rw [bne_false'] at hp
    exact rcEq_D I 7 (by omega) o1 o2 dx dy r1 r2 _ _ _ _ (fin_bool I hq R hp rfl)
  cases x with
  | lst n =>
    cases y with
    | lst m =>
      have hr' : match st[n]?, st[m]? with
        | some a, some b => a.items.all (okD 8) = true ∧ b.items.all (okD 8) = true ∧ P (.bl (eqL (eqD 8) a.items b.items != false)) st
        | _, _ => False := hr
      split at hr'
      · rename_i a b e1 e2
        obtain ⟨o1, o2, hp⟩ := hr'
        rw [bne_false'] at hp
        obtain ⟨vs, s1, d1⟩ := R.seq e1 dx.isL
        obtain ⟨ws, s2, d2⟩ := R.seq e2 dy.isL
        obtain ⟨its, rv, pl, _⟩ := I.list s1
        obtain ⟨its2, rv2, pl2, _⟩ := I.list s2
        have e1' := dx.lst.2
        have e2' := dy.lst.2
        subst e1'; subst e2'
        cases r1; cases r2
        have l1 : its.toArray.size = a.items.length := by rw [List.size_toArray, ← rv.length, d1.length]
        have l2 : its2.toArray.size = b.items.length := by rw [List.size_toArray, ← rv2.length, d2.length]
        rw [eqL_range] at hp
        by_cases hl : its.toArray.size = its2.toArray.size
        · have := SeqAt.RcAt.lists (A := X.A) (s := s) (e := fun j => eqD 8 (a.items.getD j .non) (b.items.getD j .non)) pl.isList pl2.isList hl (by omega) (fun j h1 h2 => els_D I (by omega) d1 d2 rv rv2 o1 o2 h1 h2)
          refine this _ _ _ _ (fin_bool I hq R hp ?_)
          rw [← l1, ← l2, ← hl, Nat.min_self]
          simp
        · have hl' : (its.toArray.size != its2.toArray.size) = true := by simpa using hl
          refine SeqAt.RcAt.lists_lengths (A := X.A) pl.isList pl2.isList hl' (by omega) _ _ _ _ (fin_bool I hq R hp ?_)
          rw [← l1, ← l2]
          have : (its.toArray.size == its2.toArray.size) = false := by simpa using hl
          rw [this, Bool.and_false]
      · exact hr'.elim
    | _ => exact absurd (show okD 8 (.lst n) = true from hr.1) (by simp [okD])
  | _ => cases y <;> exact gen hr.1 hr.2.1 hr.2.2
theorem od_ne {X : Cx} (hu : X.A.units + 16 < cLine) : OpD X (compareOp .NotEq) (rEqD true) := by
  intro pins s σ H v w u1 u2 Q I r1 r2 h
  obtain ⟨φ, st, x, y, P, R, dx, dy, hr, hq⟩ := h
  have gen : okD 8 x = true → okD 8 y = true → P (.bl (eqD 8 x y != true)) st → wpAny (model X.prog X.w) X.A (compareOp .NotEq u1 u2) (EP X pins σ Q) X.xe s := fun o1 o2 hp => by
    rw [bne_true'] at hp
    exact rcNe_D I 7 (by omega) o1 o2 dx dy r1 r2 _ _ _ _ (fin_bool I hq R hp rfl)
  cases x with
  | lst n =>
    cases y with
    | lst m =>
      have hr' : match st[n]?, st[m]? with
        | some a, some b => a.items.all (okD 8) = true ∧ b.items.all (okD 8) = true ∧ P (.bl (eqL (eqD 8) a.items b.items != true)) st
        | _, _ => False := hr
      split at hr'
      · rename_i a b e1 e2
        obtain ⟨o1, o2, hp⟩ := hr'
        rw [bne_true'] at hp
        obtain ⟨vs, s1, d1⟩ := R.seq e1 dx.isL
        obtain ⟨ws, s2, d2⟩ := R.seq e2 dy.isL
        obtain ⟨its, rv, pl, _⟩ := I.list s1
        obtain ⟨its2, rv2, pl2, _⟩ := I.list s2
        have e1' := dx.lst.2
        have e2' := dy.lst.2
        subst e1'; subst e2'
        cases r1; cases r2
        have l1 : its.toArray.size = a.items.length := by rw [List.size_toArray, ← rv.length, d1.length]
        have l2 : its2.toArray.size = b.items.length := by rw [List.size_toArray, ← rv2.length, d2.length]
        rw [eqL_range] at hp
        by_cases hl : its.toArray.size = its2.toArray.size
        · have := SeqAt.RcNeAt.lists (A := X.A) (s := s) (e := fun j => eqD 8 (a.items.getD j .non) (b.items.getD j .non)) pl.isList pl2.isList hl (by omega) (fun j h1 h2 => els_D I (by omega) d1 d2 rv rv2 o1 o2 h1 h2)
          refine this _ _ _ _ (fin_bool I hq R hp ?_)
          rw [← l1, ← l2, ← hl, Nat.min_self]
          simp
        · have hl' : (its.toArray.size != its2.toArray.size) = true := by simpa using hl
          refine SeqAt.RcNeAt.lists_lengths (A := X.A) pl.isList pl2.isList hl' (by omega) _ _ _ _ (fin_bool I hq R hp ?_)
          rw [← l1, ← l2]
          have : (its.toArray.size == its2.toArray.size) = false := by simpa using hl
          rw [this, Bool.and_false]
          rfl
      · exact hr'.elim
    | _ => exact absurd (show okD 8 (.lst n) = true from hr.1) (by simp [okD])
  | _ => cases y <;> exact gen hr.1 hr.2.1 hr.2.2
end L3
namespace L3
open PySem PySem.Spec PyProof.Rows L2
section
variable {X : Cx}
theorem od_is : OpD X (compareOp .Is) (rIsD false) := by
  intro pins s σ H v w u1 u2 Q I r1 r2 h
  obtain ⟨φ, st, x, y, P, R, dx, dy, hr, hq⟩ := h
  have nn : y = .non → v ≠ .non → P (.bl (false != false)) st → wpAny (model X.prog X.w) X.A (compareOp .Is u1 u2) (EP X pins σ Q) X.xe s := fun e hv hp => by
    subst e
    have := dy.non
    exact op_isN pins s σ H v w u1 u2 Q I r1 r2 ⟨this, by rw [decide_eq_false hv]; exact Go.here hq R hp D.mkBl⟩
  cases x with
  | bl a =>
    cases y with
    | bl b =>
      cases dx.bl; cases dy.bl; cases r1; cases r2
      exact is_bool (fin_bool I hq R hr (by rw [bne_false']))
    | non => exact nn rfl (by rw [dx.bl]; intro z; cases z) hr
    | _ => exact hr.elim
  | non =>
    cases y with
    | non => exact op_isN pins s σ H v w u1 u2 Q I r1 r2 ⟨dy.non, by rw [decide_eq_true dx.non]; exact Go.here hq R hr D.mkBl⟩
    | _ => exact hr.elim
  | int a =>
    cases y with
    | non => exact nn rfl (by rw [dx.int]; intro z; cases z) hr
    | _ => exact hr.elim
  | str a =>
    cases y with
    | non => exact nn rfl (by rw [dx.str]; intro z; cases z) hr
    | _ => exact hr.elim
  | tup a =>
    cases y with
    | non => exact nn rfl (by obtain ⟨_, _, e, _⟩ := dx.tup; rw [e]; intro z; cases z) hr
    | _ => exact hr.elim
  | lst a =>
    cases y with
    | non => exact nn rfl (by rw [dx.lst.2]; intro z; cases z) hr
    | _ => exact hr.elim
  | _ => cases y <;> exact hr.elim
end
end L3
namespace L3
open PySem PySem.Spec PyProof.Rows L2
section
variable {X : Cx}
theorem flat_of {K : PySem.W.Frag} {φ : Nat → Addr} {N : Nat} {H : Hp} {d : Dt} {v : V} (h : D K φ N H d v) (o : okD 0 d = true) : flatV v = true := by
  cases d with
  | non => cases h.non; rfl
  | bl _ => cases h.bl; rfl
  | int _ => cases h.int; rfl
  | str _ => cases h.str; rfl
  | _ => exact absurd o (by simp [okD])
theorem flats_of {K : PySem.W.Frag} {φ : Nat → Addr} {N : Nat} {H : Hp} : ∀ {ds : List Dt} {vs : List V}, DL K φ N H ds vs → ds.all (okD 0) = true → vs.all flatV = true
  | [], vs, h, _ => by simp only [DL] at h; rw [h]; rfl
  | d :: ds, vs, h, o => by
    simp only [DL] at h
    obtain ⟨v, r, rfl, h2, h3⟩ := h
    rw [List.all_cons, Bool.and_eq_true] at o ⊢
    exact ⟨flat_of h2 o.1, flats_of h3 o.2⟩
theorem eqV_of {K : PySem.W.Frag} {φ : Nat → Addr} {N : Nat} {H : Hp} {d e : Dt} {v w : V} (h : D K φ N H d v) (h' : D K φ N H e w) (o : okD 0 d = true) (o' : okD 0 e = true) : eqV v w = eqD 0 d e := by
  cases d <;> (try (exfalso; revert o; simp [okD]; done)) <;> cases e <;> (try (exfalso; revert o'; simp [okD]; done)) <;> (simp only [D] at h h'; subst h; subst h'; rfl)
theorem anyV_of {K : PySem.W.Frag} {φ : Nat → Addr} {N : Nat} {H : Hp} {d : Dt} {v : V} (h' : D K φ N H d v) (o' : okD 0 d = true) : ∀ {ds : List Dt} {vs : List V}, DL K φ N H ds vs → ds.all (okD 0) = true → inV v vs = ds.any (fun z => eqD 0 z d)
  | [], vs, h, _ => by simp only [DL] at h; rw [h]; rfl
  | e :: ds, vs, h, o => by
    simp only [DL] at h
    obtain ⟨w, r, rfl, h2, h3⟩ := h
    rw [List.all_cons, Bool.and_eq_true] at o
    have ih := anyV_of h' o' h3 o.2
    unfold inV at ih ⊢
    rw [List.any_cons, List.any_cons, ih, eqV_of h2 h' o.1 o']
theorem seq_of {K : PySem.W.Frag} {φ : Nat → Addr} {st : Sto} {H : Hp} {y : Dt} {w : V} {xs : List Dt} (R : Rep K φ st H) (dy : D K φ st.length H y w) (e : seqOf st y = some xs) :
    ∃ p vs, w = .ref p ∧ ((SqL K H p vs ∧ ∃ n, y = .lst n) ∨ (SqT K H p vs ∧ y = .tup xs)) ∧ DL K φ st.length H xs vs := by
  cases y with
  | tup zs =>
    have e' : zs = xs := Option.some.inj e
    subst e'
    obtain ⟨a, vs, e1, s1, d1⟩ := dy.tup
    exact ⟨a, vs, e1, .inr ⟨s1, rfl⟩, d1⟩
  | lst n =>
    have e' : (st[n]?).map SO.items = some xs := e
    cases q : st[n]? with
    | none => rw [q] at e'; cases e'
    | some o =>
      rw [q] at e'
      have e2 : o.items = xs := Option.some.inj e'
      obtain ⟨vs, h1, h2⟩ := R.seq q dy.isL
      rw [e2] at h2
      exact ⟨φ n, vs, dy.lst.2, .inl ⟨h1, n, rfl⟩, h2⟩
  | _ => cases e
theorem od_in : OpD X (compareOp .In) (rInD false) := by
  intro pins s σ H v w u1 u2 Q I r1 r2 h
  obtain ⟨φ, st, x, y, P, R, dx, dy, hr, hq⟩ := h
  have gen : (match seqOf st y with
    | some xs => okD 0 x = true ∧ xs.all (okD 0) = true ∧ P (.bl (xs.any (fun z => eqD 0 z x) != false)) st
    | none => False) → wpAny (model X.prog X.w) X.A (compareOp .In u1 u2) (EP X pins σ Q) X.xe s := fun hg => by
    split at hg
    · rename_i xs e
      obtain ⟨o1, o2, hp⟩ := hg
      obtain ⟨p, vs, e1, hs, hd⟩ := seq_of R dy e
      refine op_in_seq pins s σ H v w u1 u2 Q I r1 r2 ⟨p, vs, e1, hs.elim (fun z => .inl z.1) fun z => .inr z.1, flat_of dx o1, flats_of hd o2, ?_⟩
      rw [if_neg Bool.false_ne_true, anyV_of dx o1 hd o2]
      rw [bne_false'] at hp
      exact Go.here hq R hp D.mkBl
    · exact hg.elim
  cases x with
  | str i =>
    cases y with
    | str j =>
      have hr' : P (.bl ((!(Builtin.Str.occurrences j i 0 j.length 1).isEmpty) != false)) st := hr
      rw [bne_false'] at hr'
      exact op_in_str pins s σ H v w u1 u2 Q I r1 r2 ⟨i, j, dx.str, dy.str, Go.here hq R hr' D.mkBl⟩
    | _ => exact gen hr
  | _ => exact gen hr
end
end L3
namespace L3
open PySem PySem.Spec PyProof.Rows L2
section
variable {X : Cx}
noncomputable def rIxD : RD2 := fun x y st P => match y with
  | .int i => (match x with
    | .str z => z.length ≤ sizeLine ∧ (match atI z.cps.toList i with
      | some c => P (.str ⟨#[c]⟩) st
      | none => False)
    | x => match seqOf st x with
      | some xs => (match atI xs i with
        | some d => P d st
        | none => False)
      | none => False)
  | _ => False
theorem DL.atI {K : PySem.W.Frag} {φ : Nat → Addr} {N : Nat} {H : Hp} {ds : List Dt} {vs : List V} {i : Int} {d : Dt} (h : DL K φ N H ds vs) (e : L2.atI ds i = some d) : ∃ v, L2.atI vs i = some v ∧ D K φ N H d v := by
  unfold L2.atI at e ⊢
  rw [← h.length]
  cases q : ixN ds.length i with
  | none => rw [q] at e; cases e
  | some j =>
    rw [q] at e
    exact h.get e
theorem de_ix {a b : Expr} {ta tb : TD} {pos : Pos} (ha : DE X a ta) (hb : DE X b tb) (hs : PlainIx b := by exact fun _ _ => rfl) : DE X (.Subscript a b pos) (tbin rIxD ta tb) := by
  have key : IxR X (liftR X.K rIxD) := by
    intro value slice pins s σ H v w u1 u2 Q I r1 r2 h hsub
    obtain ⟨φ, st, x, y, P, R, dx, dy, hr, hq⟩ := h
    cases y with
    | int i =>
      have gen : (match seqOf st x with
        | some xs => (match atI xs i with
          | some d => P d st
          | none => False)
        | none => False) → wpAny (model X.prog X.w) X.A (subscriptTail value slice u1 u2) (EP X pins σ Q) X.xe s := fun hg => by
        split at hg
        · rename_i xs e
          split at hg
          · rename_i d ed
            obtain ⟨p, vs, e1, hs, hd⟩ := seq_of R dx e
            obtain ⟨z, ez, dz⟩ := hd.atI ed
            refine ix_seq value slice pins s σ H v w u1 u2 Q I r1 r2 ?_ hsub
            rcases hs with ⟨hs, _⟩ | ⟨hs, _⟩
            · exact .inl ⟨p, vs, i, z, e1, dy.int, hs, ez, Go.here hq R hg dz⟩
            · exact .inr (.inl ⟨p, vs, i, z, e1, dy.int, hs, ez, Go.here hq R hg dz⟩)
          · exact hg.elim
        · exact hg.elim
      cases x with
      | str z =>
        have hr' : z.length ≤ sizeLine ∧ (match atI z.cps.toList i with
          | some c => P (.str ⟨#[c]⟩) st
          | none => False) := hr
        obtain ⟨h1, h2⟩ := hr'
        split at h2
        · rename_i c ec
          exact ix_seq value slice pins s σ H v w u1 u2 Q I r1 r2 (.inr (.inr ⟨z, i, c, dx.str, dy.int, h1, ec, Go.here hq R h2 D.mkStr⟩)) hsub
        · exact h2.elim
      | _ => exact gen hr
    | _ => exact hr.elim
  exact (pe_ix key ha hb hs).imp fun _ _ _ => bin_lift
noncomputable abbrev TOD := Rho → Sto → (Option Int → Sto → Prop) → Prop
noncomputable def liftO (K : PySem.W.Frag) (t : TOD) : TO := fun σ H Q => ∃ φ st ρ P, Pre K φ st H ρ σ ∧ t ρ st P ∧ ∀ o st', P o st' → ∀ φ' H', Bhd K φ st H φ' st' H' → Q o H'
noncomputable def DO (X : Cx) (e : Option Expr) (t : TOD) : Prop := PO X e (liftO X.K t)
noncomputable def tonone : TOD := fun _ st P => P none st
noncomputable def tosome (t : TD) : TOD := fun ρ st P => t ρ st fun x st1 => match x with
  | .int i => P (some i) st1
  | _ => False
theorem do_none : DO X none tonone := fun pins s σ H Q I h => by
  obtain ⟨φ, st, ρ, P, pre, ht, hq⟩ := h
  exact po_none pins s σ H Q I (hq none st ht φ H (.refl pre.1))
theorem do_some {e : Expr} {t : TD} (he : DE X e t) : DO X (some e) (tosome t) := fun pins s σ H Q I h => by
  refine po_some he pins s σ H Q I ?_
  obtain ⟨φ, st, ρ, P, pre, ht, hq⟩ := h
  refine ⟨φ, st, ρ, _, pre, ht, fun d st1 h1 φ1 H1 v b1 dx => ?_⟩
  cases d with
  | int i => exact ⟨i, dx.int, hq _ st1 h1 φ1 H1 b1⟩
  | _ => exact h1.elim
noncomputable def cutD (xs : List Dt) (lo hi : Option Int) : List Dt := (xs.drop (HT.sIx xs.length 0 lo)).take (HT.sIx xs.length xs.length hi - HT.sIx xs.length 0 lo)
end
end L3
namespace L3
open PySem PySem.Spec PyProof.Rows L2
noncomputable def liftSp (K : PySem.W.Frag) (sp : RDL) : Sp := fun vs H Q _ => liftC K sp vs H Q
section
variable {X : Cx} {e : Expr} {es : List Expr} {t : TAD} {pos p : Pos} {x : Str}
theorem de_call {k : Nat} {f : Addr} {fd : FuncData} {ps : List Str} {sp : RDL} (F : FnOk X.prog X.w X.K X.mg X.base CX0 k f fd ps (liftSp X.K sp)) (hr : Room k X.A) (hm : X.mg x = some (.ref f)) (hk : PySem.W.keepIn X.K (.ref f) = true)
    (hb : Binds X.K fd ps []) (ha : DA X (e :: es) t) (hg : Gl X x := by rfl) (hdb : (x == ("__debug__" : Str)) = false := by decide) (he : starEach (e :: es) X.env = (false, eval e X.env) :: starEach es X.env := by rfl)
    (hpl : (backTo pos (starEach es X.env)).any (·.1) = false := by rfl) : DE X (.Call (.Name x p) (e :: es) [] pos) (tcall sp t) := by
  refine PE.imp (pe_call F hr hg hm hk hb .nil pass0 ha hdb he hpl) fun σ H Q h => ?_
  have := call_lift h
  obtain ⟨φ, st, ρ, P, pre, ht, hq⟩ := this
  refine ⟨φ, st, ρ, P, pre, ht, fun ds st' hp φ' H' vs b d => ?_⟩
  show liftSp X.K sp (vs ++ []) H' Q E0
  rw [List.append_nil]
  exact hq ds st' hp φ' H' vs b d
theorem de_callB {id : String} {r : RDL} (hc : CallD X (.builtin id) r) (hm : X.mg x = none) (hv : bootBuiltins x = some (.builtin id)) (ha : DA X (e :: es) t) (hg : Gl X x := by rfl) (hn : x ≠ "__name__" := by decide) (hdb : (x == ("__debug__" : Str)) = false := by decide)
    (he : starEach (e :: es) X.env = (false, eval e X.env) :: starEach es X.env := by rfl) (hpl : (backTo pos (starEach es X.env)).any (·.1) = false := by rfl) : DE X (.Call (.Name x p) (e :: es) [] pos) (tcall r t) :=
  PE.imp (pe_callB hc hg hm hv ha hn hdb he hpl) fun σ H Q h => call_lift h
theorem de_callTy {T : String} {r : RDL} (hc : CallD X (.type T) r) (hm : X.mg x = none) (hv : bootBuiltins x = some (.type T)) (ha : DA X (e :: es) t) (hg : Gl X x := by rfl) (hn : x ≠ "__name__" := by decide) (hdb : (x == ("__debug__" : Str)) = false := by decide)
    (he : starEach (e :: es) X.env = (false, eval e X.env) :: starEach es X.env := by rfl) (hpl : (backTo pos (starEach es X.env)).any (·.1) = false := by rfl) : DE X (.Call (.Name x p) (e :: es) [] pos) (tcall r t) :=
  PE.imp (pe_callTy hc hg hm hv ha hn hdb he hpl) fun σ H Q h => call_lift h
noncomputable def rLen : RDL := fun ds st P => match ds with
  | [.str z] => z.length ≤ sizeLine ∧ P (.int z.length) st
  | [x] => (match seqOf st x with
    | some xs => P (.int xs.length) st
    | none => False)
  | _ => False
theorem cd_len : CallD X (.builtin "len") rLen := by
  intro pins s σ H vs us Q I rv h
  obtain ⟨φ, st, ds, P, R, dl, hr, hq⟩ := h
  rcases ds with _ | ⟨x, _ | ⟨y, r⟩⟩
  · exact hr.elim
  rotate_left
  · cases x <;> exact hr.elim
  · obtain ⟨v, rfl, dx⟩ := dl.one
    have gen : (match seqOf st x with
      | some xs => P (.int xs.length) st
      | none => False) → wpAny (model X.prog X.w) X.A (call (.builtin "len") us) (EP X pins σ Q) X.xe s := fun hg => by
      split at hg
      · rename_i xs e
        obtain ⟨p, ws, e1, hs, hd⟩ := seq_of R dx e
        refine call_len_seq pins s σ H [v] us Q I rv ⟨p, ws, by rw [e1], hs.elim (fun z => .inl z.1) fun z => .inr z.1, ?_⟩
        rw [← hd.length]
        exact Go.here hq R hg D.mkInt
      · exact hg.elim
    cases x with
    | str z => exact call_len_str pins s σ H [v] us Q I rv ⟨z, by rw [dx.str], hr.1, Go.here hq R hr.2 D.mkInt⟩
    | _ => exact gen hr
noncomputable def rTuple : RDL := fun ds st P => match ds with
  | [x] => (match seqOf st x with
    | some xs => P (.tup xs) st
    | none => False)
  | _ => False
theorem cd_tuple : CallD X (.type "tuple") rTuple := by
  intro pins s σ H vs us Q I rv h
  obtain ⟨φ, st, ds, P, R, dl, hr, hq⟩ := h
  rcases ds with _ | ⟨x, _ | ⟨y, r⟩⟩
  · exact hr.elim
  rotate_left
  · cases x <;> exact hr.elim
  · obtain ⟨v, rfl, dx⟩ := dl.one
    have hr' : (match seqOf st x with
      | some xs => P (.tup xs) st
      | none => False) := hr
    split at hr'
    · rename_i xs e
      obtain ⟨p, ws, e1, hs, hd⟩ := seq_of R dx e
      refine call_tuple_of pins s σ H [v] us Q I rv ⟨p, ws, by rw [e1], ?_⟩
      rcases hs with ⟨hs, _⟩ | ⟨hs, ex⟩
      · exact .inl ⟨hs, fun l hl => hq _ st hr' φ _ _ (bhd_tup R hl) (.mkTup (SqT.of upd_same) (hd.evo (evo_new hl)))⟩
      · exact .inr ⟨hs, Go.here hq R hr' (.mkTup hs hd)⟩
    · exact hr'.elim
noncomputable def rList : RDL := fun ds st P => match ds with
  | [x] => (match seqOf st x with
    | some xs => P (.lst st.length) (st ++ [.rw xs])
    | none => False)
  | _ => False
theorem cd_list : CallD X (.type "list") rList := by
  intro pins s σ H vs us Q I rv h
  obtain ⟨φ, st, ds, P, R, dl, hr, hq⟩ := h
  rcases ds with _ | ⟨x, _ | ⟨y, r⟩⟩
  · exact hr.elim
  rotate_left
  · cases x <;> exact hr.elim
  · obtain ⟨v, rfl, dx⟩ := dl.one
    have hr' : (match seqOf st x with
      | some xs => P (.lst st.length) (st ++ [.rw xs])
      | none => False) := hr
    split at hr'
    · rename_i xs e
      obtain ⟨p, ws, e1, hs, hd⟩ := seq_of R dx e
      exact call_list_of pins s σ H [v] us Q I rv ⟨p, ws, by rw [e1], hs.elim (fun z => .inl z.1) fun z => .inr z.1, fun l hl => hq _ _ hr' _ _ _ (bhd_lst R hl hd) d_new⟩
    · exact hr'.elim
end
end L3
namespace L3
open PySem PySem.Spec PyProof.Rows L2
section
variable {X : Cx}
noncomputable def tyN : Dt → Option String
  | .non => some "NoneType"
  | .bl _ => some "bool"
  | .int _ => some "int"
  | .str _ => some "str"
  | .tup _ => some "tuple"
  | .lst _ => some "list"
  | .ty _ => none
  | .dic _ => none
  | .ins _ => none
noncomputable def isT (t c : String) : Bool := t == c || (t == "bool" && c == "int")
theorem kit_of (K : PySem.W.Frag) {t c : String} (ht : t = "NoneType" ∨ t = "bool" ∨ t = "int" ∨ t = "str" ∨ t = "tuple" ∨ t = "list") (hc : c = "bool" ∨ c = "int" ∨ c = "str" ∨ c = "tuple" ∨ c = "list") : PySem.W.kitOne K (.type t) (.type c) = some (isT t c) := by
  rcases ht with rfl | rfl | rfl | rfl | rfl | rfl <;> rcases hc with rfl | rfl | rfl | rfl | rfl <;> kernel_rfl
noncomputable def rIsInst : RDL := fun ds st P => match ds with
  | [x, .ty c] => (c = "bool" ∨ c = "int" ∨ c = "str" ∨ c = "tuple" ∨ c = "list") ∧ (match tyN x with
    | some t => P (.bl (isT t c)) st
    | none => False)
  | _ => False
theorem cd_isinst : CallD X (.builtin "isinstance") rIsInst := by
  intro pins s σ H vs us Q I rv h
  obtain ⟨φ, st, ds, P, R, dl, hr, hq⟩ := h
  rcases ds with _ | ⟨x, _ | ⟨y, _ | ⟨z, r⟩⟩⟩
  · exact hr.elim
  · exact hr.elim
  rotate_left
  · cases y <;> exact hr.elim
  · cases y <;> first
      | exact hr.elim
      | skip
    rename_i c
    obtain ⟨v, w, rfl, dx, dy⟩ := dl.two
    obtain ⟨u, u', rfl, ru, ru'⟩ := vals2 rv
    have := dy.ty
    subst this
    have := (show u' = Value.type c from ru')
    subst this
    obtain ⟨hc, hr⟩ := hr
    have fin : ∀ {t : String}, P (.bl (isT t c)) st → ∀ tk, EP X pins σ Q (.bool (isT t c)) { s with toks := tk } := fun {t} hp tk => ⟨.bl _, H, I.tok tk, rfl, Go.here hq R hp D.mkBl⟩
    cases x with
    | non => cases dx.non; cases ru; exact PySem.W.kia_one PySem.W.kitx_none I.kIn True.intro (kit_of _ (.inl rfl) hc) (fun z => nomatch z) (fin hr)
    | bl k => cases dx.bl; cases ru; exact PySem.W.kia_one PySem.W.kitx_bool I.kIn True.intro (kit_of _ (.inr (.inl rfl)) hc) (fun z => nomatch z) (fin hr)
    | int k => cases dx.int; obtain ⟨t, rfl⟩ := ru; exact PySem.W.kia_one PySem.W.kitx_int I.kIn True.intro (kit_of _ (.inr (.inr (.inl rfl))) hc) (fun z => nomatch z) (fin hr)
    | str k => cases dx.str; obtain ⟨t, rfl⟩ := ru; exact PySem.W.kia_one PySem.W.kitx_str I.kIn True.intro (kit_of _ (.inr (.inr (.inr (.inl rfl)))) hc) (fun z => nomatch z) (fin hr)
    | tup xs =>
      obtain ⟨a, ws, e1, s1, d1⟩ := dx.tup
      subst e1
      cases ru
      obtain ⟨its, _, ⟨o, h1, h2, _⟩, _⟩ := I.tuple s1
      exact PySem.W.kia_one PySem.W.kitx_tuple I.kIn ⟨o, h1, h2⟩ (kit_of _ (.inr (.inr (.inr (.inr (.inl rfl))))) hc) (fun z => nomatch z) (fin hr)
    | lst n =>
      obtain ⟨ws, s1⟩ := dx.isL
      obtain ⟨hn, e1⟩ := dx.lst
      subst e1
      cases ru
      obtain ⟨its, _, pl, _⟩ := I.list s1
      obtain ⟨ob, h1, h2, _⟩ := pl.isList
      exact PySem.W.kia_one PySem.W.kitx_list I.kIn ⟨ob, h1, h2⟩ (kit_of _ (.inr (.inr (.inr (.inr (.inr rfl))))) hc) (fun z => nomatch z) (fin hr)
    | ty _ => exact hr.elim
    | dic _ => exact hr.elim
    | ins _ => exact hr.elim
end
end L3
namespace L3
open PySem PySem.Spec PyProof.Rows L2
section
variable {X : Cx} {s : Stmt} {rest : List Stmt} {t u : TSD} {e : Expr} {te : TD} {pos : Pos}
noncomputable def tnext : TSD := fun E ρ st => E.nx ρ st
noncomputable def tseq (t u : TSD) : TSD := fun E ρ st => t { E with nx := u E } ρ st
theorem dss_nil : DSs X [] tnext := (pss_nil).imp fun E σ H h => by
  obtain ⟨φ, st, ρ, P, pre, ht, n, b, c, r⟩ := h
  exact n ρ st ht φ H σ (.refl pre.1) pre.2
theorem dss_cons (h1 : DS X s t) (h2 : DSs X rest u) : DSs X (s :: rest) (tseq t u) := (pss_cons h1 h2).imp fun E σ H h => by
  obtain ⟨φ, st, ρ, P, pre, ht, n, b, c, r⟩ := h
  refine ⟨φ, st, ρ, { P with nx := u P }, pre, ht, fun ρ' st' hu φ' H' σ' bh dr => ?_, b, c, r⟩
  exact ⟨φ', st', ρ', P, ⟨bh.1, dr⟩, hu, fun ρ2 st2 h2 φ2 H2 σ2 b2 d2 => n ρ2 st2 h2 φ2 H2 σ2 (bh.trans b2) d2, fun ρ2 st2 h2 φ2 H2 σ2 b2 d2 => b ρ2 st2 h2 φ2 H2 σ2 (bh.trans b2) d2,
    fun ρ2 st2 h2 φ2 H2 σ2 b2 d2 => c ρ2 st2 h2 φ2 H2 σ2 (bh.trans b2) d2, fun d st2 h2 φ2 H2 v b2 d2 => r d st2 h2 φ2 H2 v (bh.trans b2) d2⟩
noncomputable def tdrop (te : TD) : TSD := fun E ρ st => te ρ st fun _ st1 => E.nx ρ st1
theorem ds_expr (he : DE X e te) (hs : swapsWith e none pos.line X.env = pure false := by rfl) : DS X (.Expr e pos) (tdrop te) := (ps_expr he hs).imp fun E σ H h => by
  obtain ⟨φ, st, ρ, P, pre, ht, n, b, c, r⟩ := h
  exact ⟨φ, st, ρ, _, pre, ht, fun d st1 h1 φ1 H1 v b1 dx => n ρ st1 h1 φ1 H1 σ b1 (pre.on b1).2⟩
noncomputable def tret (te : TD) : TSD := fun E ρ st => te ρ st E.rt
theorem ds_ret (he : DE X e te) : DS X (.Return (some e) pos) (tret te) := (ps_ret he).imp fun E σ H h => by
  obtain ⟨φ, st, ρ, P, pre, ht, n, b, c, r⟩ := h
  exact ⟨φ, st, ρ, P.rt, pre, ht, r⟩
noncomputable def tifS (c : TBD) (t u : TSD) : TSD := fun E ρ st => c ρ st fun k st1 => if k = true then t E ρ st1 else u E ρ st1
theorem ds_if {c : Expr} {a b : List Stmt} {tc : TBD} (hc : DT X c tc) (ha : DSs X a t) (hb : DSs X b u) : DS X (.If c a b pos) (tifS tc t u) := (ps_if hc ha hb).imp fun E σ H h => by
  obtain ⟨φ, st, ρ, P, pre, ht, n, b, c, r⟩ := h
  refine ⟨φ, st, ρ, _, pre, ht, fun k st1 h1 φ1 H1 b1 => ?_⟩
  have on : ∀ {v : TSD}, v P ρ st1 → liftS X.K v E σ H1 := fun {v} hv => ⟨φ1, st1, ρ, P, pre.on b1, hv, fun ρ2 st2 h2 φ2 H2 σ2 b2 d2 => n ρ2 st2 h2 φ2 H2 σ2 (b1.trans b2) d2, fun ρ2 st2 h2 φ2 H2 σ2 b2 d2 => b ρ2 st2 h2 φ2 H2 σ2 (b1.trans b2) d2,
    fun ρ2 st2 h2 φ2 H2 σ2 b2 d2 => c ρ2 st2 h2 φ2 H2 σ2 (b1.trans b2) d2, fun d st2 h2 φ2 H2 v b2 d2 => r d st2 h2 φ2 H2 v (b1.trans b2) d2⟩
  cases k with
  | true => exact iteT (on (by rw [if_pos rfl] at h1; exact h1))
  | false => exact iteF (on (by rw [if_neg Bool.false_ne_true] at h1; exact h1))
noncomputable abbrev TGD := Dt → Rho → Sto → (Rho → Sto → Prop) → Prop
noncomputable abbrev TGsD := List Dt → Rho → Sto → (Rho → Sto → Prop) → Prop
noncomputable def liftG (K : PySem.W.Frag) (g : TGD) : TG := fun v σ H Q => ∃ φ st ρ d P, Pre K φ st H ρ σ ∧ D K φ st.length H d v ∧ g d ρ st P ∧ ∀ ρ' st', P ρ' st' → ∀ φ' H' σ', Bhd K φ st H φ' st' H' → DR K φ' st'.length H' ρ' σ' → Q σ' H'
noncomputable def liftGs (K : PySem.W.Frag) (g : TGsD) : TGs := fun vs σ H Q => ∃ φ st ρ ds P, Pre K φ st H ρ σ ∧ DL K φ st.length H ds vs ∧ g ds ρ st P ∧ ∀ ρ' st', P ρ' st' → ∀ φ' H' σ', Bhd K φ st H φ' st' H' → DR K φ' st'.length H' ρ' σ' → Q σ' H'
noncomputable def DG (X : Cx) (tg : Expr) (g : TGD) : Prop := PG X tg (liftG X.K g)
noncomputable def DGs (X : Cx) (tg : List Expr) (g : TGsD) : Prop := PGs X tg (liftGs X.K g)
theorem _root_.L2.PG.imp {X : Cx} {e : Expr} {t t' : TG} (h : PG X e t) (i : ∀ v σ H Q, t' v σ H Q → t v σ H Q) : PG X e t' := fun pins s σ H v u Q I r q => h pins s σ H v u Q I r (i v σ H Q q)
theorem _root_.L2.PGs.imp {X : Cx} {e : List Expr} {t t' : TGs} (h : PGs X e t) (i : ∀ v σ H Q, t' v σ H Q → t v σ H Q) : PGs X e t' := fun pins s σ H v u Q I r q => h pins s σ H v u Q I r (i v σ H Q q)
noncomputable def gname (i : Nat) : TGD := fun d ρ st P => P (ρ.set i (some d)) st
theorem dg_name (i : Nat) {x : Str} (hN : X.N.Nodup) (hi : X.N[i]? = some x := by rfl) (hx : Loc X.env.scope x := by first | exact Or.inl rfl | exact Or.inr rfl) (hf : X.fn x = true ∨ X.env.scope.names.lookup x = some .local := by first | exact .inl rfl | exact .inr rfl | assumption) : DG X (.Name x pos) (gname i) :=
  (pg_name hN hi hx hf).imp fun v σ H Q h => by
    obtain ⟨φ, st, ρ, d, P, pre, hd, hg, hq⟩ := h
    exact hq _ st hg φ H _ (.refl pre.1) (pre.2.set hd i)
noncomputable def gsnil : TGsD := fun ds ρ st P => match ds with
  | [] => P ρ st
  | _ => False
noncomputable def gscons (g : TGD) (gs : TGsD) : TGsD := fun ds ρ st P => match ds with
  | d :: r => g d ρ st fun ρ1 st1 => gs r ρ1 st1 P
  | _ => False
theorem dgs_nil : DGs X [] gsnil := (pgs_nil).imp fun v σ H Q h => by
  obtain ⟨φ, st, ρ, ds, P, pre, hd, hg, hq⟩ := h
  cases ds with
  | nil =>
    have : v = [] := by simpa [DL] using hd
    exact ⟨this, hq _ st hg φ H _ (.refl pre.1) pre.2⟩
  | cons _ _ => exact hg.elim
theorem dgs_cons {es : List Expr} {g : TGD} {gs : TGsD} (h1 : DG X e g) (h2 : DGs X es gs) (hs : (assignEach (e :: es) X.env).map (·.2) = assign e X.env :: (assignEach es X.env).map (·.2) := by rfl) : DGs X (e :: es) (gscons g gs) := (pgs_cons h1 h2 hs).imp fun v σ H Q h => by
  obtain ⟨φ, st, ρ, ds, P, pre, hd, hg, hq⟩ := h
  cases ds with
  | nil => exact hg.elim
  | cons d r =>
    simp only [DL] at hd
    obtain ⟨w, ws, rfl, dw, dws⟩ := hd
    refine ⟨w, ws, rfl, φ, st, ρ, d, _, pre, dw, hg, fun ρ1 st1 h1 φ1 H1 σ1 b1 dr1 => ?_⟩
    exact ⟨φ1, st1, ρ1, r, P, ⟨b1.1, dr1⟩, dws.evo b1.2, h1, fun ρ2 st2 h2 φ2 H2 σ2 b2 d2 => hq ρ2 st2 h2 φ2 H2 σ2 (b1.trans b2) d2⟩
noncomputable def gunpack (n : Nat) (gs : TGsD) : TGD := fun d ρ st P => match seqOf st d with
  | some xs => xs.length = n ∧ gs xs ρ st P
  | none => False
theorem draw_list {prog : Program} {w : World} {A : Around} {E : Value → Shared → Prop} {it l : Addr} {items : Array Value} (hne : l ≠ it) : ∀ (n i : Nat) (s : Shared) (Q : List Value → Shared → Prop), s.heap.IsListIter it l i → s.heap.IsList l items → i + n ≤ items.size →
    (∀ h', h'.IsListIter it l (i + n) → Heap.SameBut it s.heap h' → Q ((items.toList.drop i).take n) { s with heap := h' }) → wpAny (model prog w) A (draw (.ref it) n) Q E s
  | 0, i, s, Q, hit, hl, hn, h => by
    unfold draw
    have := h s.heap (by simpa using hit) (.refl ..)
    simpa using wpAny_pure this
  | n + 1, i, s, Q, hit, hl, hn, h => by
    unfold draw
    have hi : i < items.size := by omega
    refine wpAny_bind (wpAny_pyNext_list_item hit hl (x := items[i]) (by simp [hi]) fun h1 hit1 sb1 => ?_)
    dsimp only
    refine wpAny_bind (wpAny_holding ?_)
    refine draw_list hne n (i + 1) { s with heap := h1 } _ hit1 (hl.extBut sb1.extBut hne) (by omega) fun h2 hit2 sb2 => ?_
    refine wpAny_pure ?_
    have e : (items.toList.drop i).take (n + 1) = items[i] :: (items.toList.drop (i + 1)).take n := by
      rw [List.drop_eq_getElem_cons (by simpa using hi), List.take_succ_cons]
      simp
    have := h h2 (by rw [show i + (n + 1) = i + 1 + n by omega]; exact hit2) (sb1.trans sb2)
    rw [e] at this
    exact this
end
end L3
namespace L3
open PySem PySem.Spec PyProof.Rows L2
section
variable {prog : Program} {w : World} {A : Around} {E : Value → Shared → Prop} {s : Shared}
theorem unpackItems_list {l : Addr} {items : Array Value} {Q : List Value → Shared → Prop} (hh : A.handled = none) (hl : s.heap.IsList l items)
    (hQ : ∀ h', Heap.ExtBut s.heap.objs.size s.heap h' → Q items.toList { s with heap := h' }) : wpAny (model prog w) A (unpackItems (.ref l) items.size none) Q E s := by
  have hlt : l ≠ s.heap.objs.size := by obtain ⟨o, ho, _⟩ := hl; exact Nat.ne_of_lt (Heap.lt_size ho)
  unfold unpackItems
  refine wpAny_bind ?_
  unfold notIterableAtAll
  refine wpAny_bind (wpAny_specialOf hl.typeIs slot_list_iter.lookup ?_)
  refine wpAny_pure ?_
  simp only [Bool.false_eq_true, if_false]
  refine wpAny_bind (wpAny_holding (wpAny_pyIter_list hl ?_))
  refine wpAny_bind (wpAny_holding (draw_list hlt items.size 0 _ _ ⟨_, Heap.get?_push_size _ rfl, rfl, rfl⟩ (hl.push _) (by omega) fun h₁ hit₁ hs₁ => ?_))
  have hall : List.take items.size (List.drop 0 items.toList) = items.toList := by
    rw [List.drop_zero]; exact List.take_of_length_le (by simp)
  rw [hall]
  rw [if_neg (by simp)]
  have hl₁ : h₁.IsList l items := (hl.push _).extBut hs₁.extBut hlt
  refine wpAny_bind (wpAny_holding (wpAny_pyNext_list_end hh hit₁ hl₁ (by simp) fun h₂ he₂ => ?_))
  simp only [Option.isSome_none, Bool.false_eq_true, if_false]
  exact wpAny_pure (hQ h₂ fun b o hb e => he₂ b o hb (hs₁.extBut b o hb (Heap.get?_push_of_some _ e)))
theorem assign_Tuple_list {env : Env} {elts : List Expr} {x1} {pos : Pos} {t : Addr} {items : Array Value} {Q : Unit → Shared → Prop} (hh : A.handled = none) (ht : s.heap.IsList t items)
    (hn : (assignEach elts env).length = items.size) (hstar : (assignEach elts env).findIdx? (·.1) = none)
    (h : ∀ h', Heap.ExtBut s.heap.objs.size s.heap h' → wpAny (model prog w) A (assignInOrder ((assignEach elts env).map (·.2)) items.toList) Q E { s with heap := h' }) :
    wpAny (model prog w) A (assign (.Tuple elts x1 pos) env (.ref t)) Q E s := by
  rw [assign_Tuple]
  refine wpAny_bind (wpAny_standAt ?_)
  unfold unpack
  rw [hn, hstar]
  exact wpAny_bind (wpAny_holding (unpackItems_list hh ht h))
end
section
variable {X : Cx} {pos : Pos} {e : Expr} {te : TD}
theorem dg_unpack {es : List Expr} {k : Nat} {gs : TGsD} (n : Nat) (hc : X.calm = true) (h : DGs X es gs) (hn : (assignEach es X.env).length = n := by rfl) (hst : (assignEach es X.env).findIdx? (·.1) = none := by rfl) : DG X (.Tuple es k pos) (gunpack n gs) := by
  intro pins s σ H v u Q I r hw
  obtain ⟨φ, st, ρ, d, P, pre, hd, hg, hq⟩ := hw
  unfold gunpack at hg
  split at hg
  · rename_i xs ex
    obtain ⟨hl, hg⟩ := hg
    obtain ⟨p, vs, e1, hs, dl⟩ := seq_of pre.1 hd ex
    subst e1
    cases r
    have hlen := dl.length
    rcases hs with ⟨hs, _⟩ | ⟨hs, _⟩
    · obtain ⟨its, rv, pl, _⟩ := I.list hs
      have := rv.length
      refine assign_Tuple_list (I.ok.hd hc) pl.isList (by rw [hn, List.size_toArray]; omega) hst fun h' hx => ?_
      have I1 : Inv X pins σ H { s with heap := h' } := I.kept (t' := s.toks) fun b o e => hx b o (Nat.ne_of_lt (Heap.lt_size e)) e
      exact h pins _ σ H vs _ Q I1 (by simpa using rv) ⟨φ, st, ρ, xs, P, pre, dl, hg, hq⟩
    · obtain ⟨its, rv, ht, _⟩ := I.tuple hs
      have := rv.length
      refine assign_Tuple_tuple (I.ok.hd hc) ht (by rw [hn, List.size_toArray]; omega) hst fun h' hx => ?_
      have I1 : Inv X pins σ H { s with heap := h' } := I.kept (t' := s.toks) fun b o e => hx b o (Nat.ne_of_lt (Heap.lt_size e)) e
      exact h pins _ σ H vs _ Q I1 (by simpa using rv) ⟨φ, st, ρ, xs, P, pre, dl, hg, hq⟩
  · exact hg.elim
noncomputable def tasg (te : TD) (g : TGD) : TSD := fun E ρ st => te ρ st fun d st1 => g d ρ st1 E.nx
theorem asg_lift {K : PySem.W.Frag} {te : TD} {g : TGD} {E : Ends} {σ : L2.St} {H : Hp} (h : liftS K (tasg te g) E σ H) : tAsg (liftE K te) (liftG K g) E σ H := by
  obtain ⟨φ, st, ρ, P, pre, ht, n, b, c, r⟩ := h
  refine ⟨φ, st, ρ, _, pre, ht, fun d st1 h1 φ1 H1 v b1 dx => ?_⟩
  exact ⟨φ1, st1, ρ, d, P.nx, pre.on b1, dx, h1, fun ρ2 st2 h2 φ2 H2 σ2 b2 d2 => n ρ2 st2 h2 φ2 H2 σ2 (b1.trans b2) d2⟩
theorem ds_asg {tg : Expr} {g : TGD} (he : DE X e te) (hg : DG X tg g) (hs : swapsWithSole [tg] e pos.line X.env = pure false := by rfl) (hw : swappedStores [tg] e X.env = pure none := by rfl)
    (h1 : (assignEach [tg] X.env).map (·.2) = [assign tg X.env] := by rfl) : DS X (.Assign [tg] e pos) (tasg te g) := (ps_asg he hg hs hw h1).imp fun _ _ _ => asg_lift
theorem ds_set (i : Nat) {x : Str} {pos' : Pos} (hN : X.N.Nodup) (he : DE X e te) (hi : X.N[i]? = some x := by rfl) (hx : Loc X.env.scope x := by first | exact Or.inl rfl | exact Or.inr rfl) (hs : swapsWith e (some (.Name x pos')) pos.line X.env = pure false := by rfl)
    (hf : X.fn x = true ∨ X.env.scope.names.lookup x = some .local := by first | exact .inl rfl | exact .inr rfl | assumption) : DS X (.Assign [.Name x pos'] e pos) (tasg te (gname i)) := (ps_set hN hi hx he hs hf).imp fun E σ H h => by
  obtain ⟨φ, st, ρ, P, pre, ht, n, b, c, r⟩ := h
  exact ⟨φ, st, ρ, _, pre, ht, fun d st1 h1 φ1 H1 v b1 dx => n _ st1 h1 φ1 H1 _ b1 ((pre.on b1).2.set dx i)⟩
noncomputable def gsub (to ti : TD) : TGD := fun d ρ st P => to ρ st fun o st1 => ti ρ st1 fun i st2 => match o, i with
  | .lst n, .int k => (match st2[n]? with
    | some (.rw xs) => (match ixN xs.length k with
      | some j => P ρ (st2.set n (.rw (xs.set j d)))
      | none => False)
    | _ => False)
  | _, _ => False
theorem dg_sub {o i : Expr} {to ti : TD} (ho : DE X o to) (hi : DE X i ti)
    (ha : ∀ v, assign (.Subscript o i pos) X.env v = (do
      let ov ← holding [v] (eval o X.env)
      let iv ← holding [v, ov] (eval i X.env)
      standAt pos
      holding [v, ov, iv] (setItem ov iv v)
      release [v, ov, iv] []) := by intro _; rfl) : DG X (.Subscript o i pos) (gsub to ti) := (pg_sub ho hi set_list ha).imp fun v σ H Q h => by
  obtain ⟨φ, st, ρ, d, P, pre, hd, hg, hq⟩ := h
  refine ⟨φ, st, ρ, _, pre, hg, fun x st1 h1 φ1 H1 w b1 dx => ?_⟩
  refine ⟨φ1, st1, ρ, _, pre.on b1, h1, fun y st2 h2 φ2 H2 z b2 dy => ?_⟩
  cases x with
  | lst n =>
    cases y with
    | int k =>
      have h2' : (match st2[n]? with
        | some (.rw xs) => (match ixN xs.length k with
          | some j => P ρ (st2.set n (.rw (xs.set j d)))
          | none => False)
        | _ => False) := h2
      split at h2'
      · rename_i xs ex
        split at h2'
        · rename_i j ej
          obtain ⟨vs, hv, dl⟩ := b2.1.rw n xs ex
          have dx2 := dx.evo b2.2
          have hd2 := (hd.evo b1.2).evo b2.2
          refine ⟨φ2 n, vs, k, j, dx2.lst.2, dy.int, hv, by rw [← dl.length]; exact ej, ?_⟩
          have bb : Bhd X.K φ2 st2 H2 φ2 (st2.set n (.rw (xs.set j d))) (upd H2 (φ2 n) (.lst (vs.set j v))) := ⟨b2.1.setL ex (dl.set hd2 j), evo_set hv⟩
          exact hq _ _ h2' φ2 _ σ (b1.trans (b2.trans bb)) (((pre.on b1).on b2).on bb).2
        · exact h2'.elim
      · exact h2'.elim
    | _ => exact h2.elim
  | _ => cases y <;> exact h2.elim
noncomputable def tappend (to te : TD) : TD := fun ρ st P => to ρ st fun o st1 => match o with
  | .lst n => te ρ st1 fun d st2 => (match st2[n]? with
    | some (.rw xs) => xs.length < sizeLine ∧ P .non (st2.set n (.rw (xs ++ [d])))
    | _ => False)
  | _ => False
theorem de_append {o : Expr} {to : TD} {apos cpos : Pos} (ho : DE X o to) (he : DE X e te)
    (hbase : attributeBase o "append" X.env (eval o X.env) = eval o X.env := by rfl)
    (hfew : ((backTo cpos (starEach [e] X.env)).all (fun x => !x.1) && (backToKw cpos (keywordEach [] X.env)).all (fun x => x.1.isSome)
      && decide (([e] : List Expr).length + ([] : List Keyword).length + (if ([] : List Keyword).isEmpty then 0 else 1) < 30)) = true := by rfl)
    (hline : (apos.endLine == cpos.line) = true := by rfl) (hs : starEach [e] X.env = (false, eval e X.env) :: starEach [] X.env := by rfl) (hplain : (backTo cpos (starEach ([] : List Expr) X.env)).any (·.1) = false := by rfl) :
    DE X (.Call (.Attribute o "append" apos) [e] [] cpos) (tappend to te) := by
  refine PE.imp (pe_bm PySem.F.plainAttrs_list PySem.F.slot_list_append PySem.F.type_list_append mt_append ho (da_cons he da_nil hs) hbase hfew hline hs hplain) fun σ H Q h => ?_
  obtain ⟨φ, st, ρ, P, pre, ht, hq⟩ := h
  refine ⟨φ, st, ρ, _, pre, ht, fun x st1 h1 φ1 H1 v b1 dx => ?_⟩
  cases x with
  | lst n =>
    have hn := dx.lst.1
    obtain ⟨so, eo⟩ : ∃ so, st1[n]? = some so := ⟨st1[n], by simp [hn]⟩
    obtain ⟨ws, hws, _⟩ := b1.1.seq eo dx.isL
    refine ⟨?_, ?_⟩
    · rw [dx.lst.2]
      exact .inl ⟨rfl, ws, hws⟩
    refine ⟨φ1, st1, ρ, (fun ds st2 => match ds with
      | [d] => (match st2[n]? with
        | some (.rw xs) => xs.length < sizeLine ∧ P .non (st2.set n (.rw (xs ++ [d])))
        | _ => False)
      | _ => False), pre.on b1, h1, fun ds st2 h2 φ2 H2 zs b2 dz => ?_⟩
    rcases ds with _ | ⟨d, _ | ⟨d2, r⟩⟩
    · exact h2.elim
    rotate_left
    · exact h2.elim
    · have h2 : (match st2[n]? with
        | some (.rw xs) => xs.length < sizeLine ∧ P .non (st2.set n (.rw (xs ++ [d])))
        | _ => False) := h2
      split at h2
      · rename_i xs ex
        obtain ⟨y, rfl, dy⟩ := dz.one
        obtain ⟨vs, hv, dl⟩ := b2.1.rw n xs ex
        have dx2 := dx.evo b2.2
        have bb : Bhd X.K φ2 st2 H2 φ2 (st2.set n (.rw (xs ++ [d]))) (upd H2 (φ2 n) (.lst (vs ++ [y]))) := ⟨b2.1.setL ex (dl.append (.cons dy .nil)), evo_set hv⟩
        exact ⟨φ2 n, vs, y, dx2.lst.2, rfl, hv, by rw [← dl.length]; exact h2.1, hq _ _ h2.2 φ2 _ _ (b1.trans (b2.trans bb)) D.mkNon⟩
      · exact h2.elim
  | _ => exact h1.elim
end
end L3
namespace L3
open PySem PySem.Spec PyProof.Rows L2
noncomputable def forW (items : List Dt) (ok : Sto → Prop) (g : TGD) (tb : TSD) : TSD := fun E ρ st => ∃ Inv : Nat → Rho → Sto → Prop, Inv 0 ρ st ∧ (∀ i ρ' st', i ≤ items.length → Inv i ρ' st' → ok st') ∧
  (∀ (i : Nat) d ρ' st', items[i]? = some d → Inv i ρ' st' → g d ρ' st' fun ρ2 st2 => tb { E with nx := Inv (i + 1), ct := Inv (i + 1), bk := E.nx } ρ2 st2) ∧ ∀ ρ' st', Inv items.length ρ' st' → E.nx ρ' st'
noncomputable def Yields (K : PySem.W.Frag) (φ1 : Nat → Addr) (st1 : Sto) (H1 : Hp) (J : It) (items : List Dt) (ok : Sto → Prop) : Prop :=
  ∀ (i : Nat) φ' st' H', Bhd K φ1 st1 H1 φ' st' H' → ok st' → i ≤ items.length → (i = items.length → J.stop i H') ∧
    (∀ d, items[i]? = some d → J.go i H' ∧ ∀ y H2, J.yld i H' y H2 → Bhd K φ' st' H' φ' st' H2 ∧ D K φ' st'.length H2 d y)
section
variable {K : PySem.W.Frag} {φ1 : Nat → Addr} {st1 : Sto} {H1 : Hp} {ρ1 : Rho} {σ1 : L2.St} {J : It} {items : List Dt} {ok : Sto → Prop} {g : TGD} {tb : TSD}
theorem for_gen {E : EndsD} {E' : Ends} (pre : Pre K φ1 st1 H1 ρ1 σ1) (hJ : Yields K φ1 st1 H1 J items ok) (hf : forW items ok g tb E ρ1 st1)
    (n : ∀ ρ' st', E.nx ρ' st' → ∀ φ' H' σ', Bhd K φ1 st1 H1 φ' st' H' → DR K φ' st'.length H' ρ' σ' → E'.nx σ' H')
    (r : ∀ d st', E.rt d st' → ∀ φ' H' v, Bhd K φ1 st1 H1 φ' st' H' → D K φ' st'.length H' d v → E'.rt v H') :
    ∃ W : Nat → Nat → L2.St → Hp → Prop, (∃ m, W 0 m σ1 H1) ∧ ∀ i m σ H, W i m σ H →
      (J.stop i H ∧ E'.nx σ H) ∨ (J.go i H ∧ ∃ N : L2.St → Hp → Prop, (∀ σ' H', N σ' H' → ∃ m', m' < m ∧ W (i + 1) m' σ' H') ∧ ∀ x H', J.yld i H x H' → liftG K g x σ H' fun σ2 H2 => liftS K tb { E' with nx := N, ct := N, bk := E'.nx } σ2 H2) := by
  obtain ⟨Inv, h0, hok, step, fin⟩ := hf
  refine ⟨fun i m σ H => m = items.length - i ∧ i ≤ items.length ∧ ∃ φ' st' ρ', Pre K φ' st' H ρ' σ ∧ Bhd K φ1 st1 H1 φ' st' H ∧ Inv i ρ' st', ⟨items.length, by simp, Nat.zero_le _, φ1, st1, ρ1, pre, .refl pre.1, h0⟩, ?_⟩
  rintro i m σ H ⟨rfl, hi, φ', st', ρ', pre', bh, hI⟩
  obtain ⟨js, jg⟩ := hJ i φ' st' H bh (hok i ρ' st' hi hI) hi
  by_cases hlt : i < items.length
  · have ed : items[i]? = some items[i] := by simp [hlt]
    obtain ⟨go, yl⟩ := jg _ ed
    refine .inr ⟨go, fun σ3 H3 => ∃ φ3 st3 ρ3, Pre K φ3 st3 H3 ρ3 σ3 ∧ Bhd K φ1 st1 H1 φ3 st3 H3 ∧ Inv (i + 1) ρ3 st3, fun σ3 H3 h3 => ⟨items.length - (i + 1), by omega, rfl, hlt, h3⟩, fun y H2 hy => ?_⟩
    obtain ⟨b2, dy⟩ := yl y H2 hy
    refine ⟨φ', st', ρ', items[i], _, pre'.on b2, dy, step i _ ρ' st' ed hI, fun ρ3 st3 h3 φ3 H3 σ3 b3 d3 => ?_⟩
    have b13 := bh.trans (b2.trans b3)
    refine ⟨φ3, st3, ρ3, _, ⟨b3.1, d3⟩, h3, fun ρ4 st4 h4 φ4 H4 σ4 b4 d4 => ⟨φ4, st4, ρ4, ⟨b4.1, d4⟩, b13.trans b4, h4⟩, fun ρ4 st4 h4 φ4 H4 σ4 b4 d4 => n ρ4 st4 h4 φ4 H4 σ4 (b13.trans b4) d4,
      fun ρ4 st4 h4 φ4 H4 σ4 b4 d4 => ⟨φ4, st4, ρ4, ⟨b4.1, d4⟩, b13.trans b4, h4⟩, fun d st4 h4 φ4 H4 v b4 d4 => r d st4 h4 φ4 H4 v (b13.trans b4) d4⟩
  · have e : i = items.length := by omega
    subst e
    exact .inl ⟨js rfl, n ρ' st' (fin ρ' st' hI) φ' H σ bh pre'.2⟩
end
noncomputable abbrev TID := Rho → Sto → (List Dt → (Sto → Prop) → Sto → Prop) → Prop
noncomputable def liftI (K : PySem.W.Frag) (t : TID) : TI := fun σ H R => ∃ φ st ρ P, Pre K φ st H ρ σ ∧ t ρ st P ∧ ∀ items ok st', P items ok st' → ∀ φ' H' J, Bhd K φ st H φ' st' H' → Yields K φ' st' H' J items ok → R J H'
noncomputable def DI (X : Cx) (tg it : Expr) (t : TID) : Prop := PI X tg it (liftI X.K t)
noncomputable def tfor (ti : TID) (g : TGD) (tb : TSD) : TSD := fun E ρ st => ti ρ st fun items ok st1 => forW items ok g tb E ρ st1
section
variable {X : Cx} {tg iter : Expr} {body : List Stmt} {pos : Pos} {ti : TID} {g : TGD} {tb : TSD}
theorem ds_for (hp : PassesOwn (model X.prog X.w) X.A X.env X.xe) (hc : X.calm = true) (hi : DI X tg iter ti) (hg : DG X tg g) (hb : DSs X body tb) (hs : ∀ x, foldedSetIterable iter X.env x = pure x := by intro _; rfl) : DS X (.For tg iter body [] pos) (tfor ti g tb) :=
  (ps_for hp hc hi hg hb hs).imp fun E σ H h => by
    obtain ⟨φ, st, ρ, P, pre, ht, n, b, c, r⟩ := h
    refine ⟨φ, st, ρ, _, pre, ht, fun items ok st1 h1 φ1 H1 J b1 hJ => ?_⟩
    exact for_gen (pre.on b1) hJ h1 (fun ρ2 st2 h2 φ2 H2 σ2 b2 d2 => n ρ2 st2 h2 φ2 H2 σ2 (b1.trans b2) d2) fun d st2 h2 φ2 H2 v b2 d2 => r d st2 h2 φ2 H2 v (b1.trans b2) d2
noncomputable def iseq (te : TD) : TID := fun ρ st P => te ρ st fun x st1 => match seqOf st1 x with
  | some xs => P xs (fun st' => seqOf st' x = some xs) st1
  | none => False
theorem di_seq {te : TD} (he : DE X iter te) : DI X tg iter (iseq te) := by
  intro pins s σ H R I h
  obtain ⟨φ, st, ρ, P, pre, ht, hq⟩ := h
  refine thn (he pins s σ H _ I ⟨φ, st, ρ, _, pre, ht, fun x st1 h1 φ1 H1 v b1 dx => (show ∃ φ1 st1 x, Bhd X.K φ st H φ1 st1 H1 ∧ D X.K φ1 st1.length H1 x v ∧ (match seqOf st1 x with
    | some xs => P xs (fun st' => seqOf st' x = some xs) st1
    | none => False) from ⟨φ1, st1, x, b1, dx, h1⟩)⟩) fun u s1 ⟨v, H1, I1, ru, φ1, st1, x, b1, dx, h1⟩ => ?_
  split at h1
  · rename_i xs ex
    obtain ⟨a, vs, e1, hs, dl⟩ := seq_of b1.1 dx ex
    subst e1
    cases ru
    rcases hs with ⟨hs, n, exn⟩ | ⟨hs, _⟩
    · obtain ⟨its, rv, pl, hz⟩ := I1.list hs
      refine wpAny_pyIter_list pl.isList ?_
      refine ⟨s1.heap.objs.size, [s1.heap.objs.size], _, _, H1, rfl, I1.kept (t' := s1.toks) fun b o e => Heap.get?_push_of_some _ e, turn_list a _, ⟨_, Heap.get?_push_size _ rfl, rfl, rfl⟩, fun b hb => ?_, hq xs _ st1 h1 φ1 H1 _ b1 ?_⟩
      · have e : b = s1.heap.objs.size := by simpa using hb
        subst e
        exact I1.fpOk (Nat.le_refl _) (I1.hok.fresh (Nat.le_refl _))
      · intro i φ' st' H' bh hok hi
        obtain ⟨a', ws, e2, hs', dl'⟩ := seq_of bh.1 (dx.evo bh.2) hok
        cases e2
        have hsl : SqL X.K H' a ws := by
          rcases hs' with z | ⟨_, z⟩
          · exact z.1
          · rw [exn] at z; cases z
        have hlen := dl'.length
        refine ⟨fun e => ⟨ws, hsl, by omega⟩, fun d ed => ?_⟩
        obtain ⟨y, ey, dy⟩ := dl'.get ed
        refine ⟨⟨ws, y, hsl, ey⟩, fun y' H2 hy => ?_⟩
        obtain ⟨rfl, hy⟩ := hy
        have := hy ws hsl
        rw [ey] at this
        cases this
        exact ⟨.refl bh.1, dy⟩
    · obtain ⟨its, rv, pl, hz⟩ := I1.tuple hs
      refine wpAny_pyIter_tuple (show s1.heap.IsTuple a its.toArray from pl) ?_
      refine ⟨s1.heap.objs.size, [s1.heap.objs.size], _, _, H1, rfl, I1.kept (t' := s1.toks) fun b o e => Heap.get?_push_of_some _ e, turn_tuple a _, ⟨_, Heap.get?_push_size _ rfl, rfl, rfl⟩, fun b hb => ?_, hq xs _ st1 h1 φ1 H1 _ b1 ?_⟩
      · have e : b = s1.heap.objs.size := by simpa using hb
        subst e
        exact I1.fpOk (Nat.le_refl _) (I1.hok.fresh (Nat.le_refl _))
      · intro i φ' st' H' bh hok hi
        have hsl : SqT X.K H' a vs := bh.2.tup a vs hs
        have dl' := dl.evo bh.2
        have hlen := dl'.length
        refine ⟨fun e => ⟨vs, hsl, by omega⟩, fun d ed => ?_⟩
        obtain ⟨y, ey, dy⟩ := dl'.get ed
        refine ⟨⟨vs, y, hsl, ey⟩, fun y' H2 hy => ?_⟩
        obtain ⟨rfl, hy⟩ := hy
        have := hy vs hsl
        rw [ey] at this
        cases this
        exact ⟨.refl bh.1, dy⟩
  · exact h1.elim
noncomputable def rangeD (lo : Int) (n : Nat) : List Dt := (List.range n).map fun k => .int (lo + (k : Nat))
theorem range_get {lo : Int} {n i : Nat} {d : Dt} (h : (rangeD lo n)[i]? = some d) : i < n ∧ d = .int (lo + (i : Nat)) := by
  unfold rangeD at h
  rw [List.getElem?_map] at h
  cases q : (List.range n)[i]? with
  | none => rw [q] at h; cases h
  | some k =>
    rw [q] at h
    have := List.getElem?_eq_some_iff.mp q
    obtain ⟨h1, h2⟩ := this
    rw [List.getElem_range] at h2
    subst h2
    rw [List.length_range] at h1
    exact ⟨h1, (Option.some.inj h).symm⟩
theorem range_len {lo : Int} {n : Nat} : (rangeD lo n).length = n := by unfold rangeD; simp
theorem yields_range {K : PySem.W.Frag} {φ : Nat → Addr} {st : Sto} {H : Hp} {lo : Int} {n : Nat} : Yields K φ st H (Itr lo n) (rangeD lo n) (fun _ => True) := fun i φ' st' H' bh _ hi => by
  rw [range_len] at hi
  refine ⟨fun e => by rw [range_len] at e; exact Nat.le_of_eq e.symm, fun d ed => ?_⟩
  obtain ⟨h1, rfl⟩ := range_get ed
  refine ⟨h1, fun y H2 hy => ?_⟩
  obtain ⟨rfl, rfl⟩ := hy
  exact ⟨.refl bh.1, D.mkInt⟩
noncomputable def irng1 (ta : TD) : TID := fun ρ st P => ta ρ st fun x st1 => match x with
  | .int j => -(2 ^ 62) ≤ j ∧ j < 2 ^ 62 ∧ P (rangeD 0 j.toNat) (fun _ => True) st1
  | _ => False
theorem di_range1 {a : Expr} {ta : TD} {p : Pos} (hm : X.mg "range" = none) (ha : DE X a ta) (hg : Gl X "range" := by rfl) (hs : starEach [a] X.env = [(false, eval a X.env)] := by rfl) : DI X tg (.Call (.Name "range" p) [a] [] pos) (irng1 ta) := by
  intro pins s σ H R I h
  refine pi_range1 hg hm (da_cons ha da_nil hs) hs pins s σ H R I ?_
  obtain ⟨φ, st, ρ, P, pre, ht, hq⟩ := h
  refine ⟨φ, st, ρ, (fun ds st1 => match ds with
    | [x] => (match x with
      | .int j => -(2 ^ 62) ≤ j ∧ j < 2 ^ 62 ∧ P (rangeD 0 j.toNat) (fun _ => True) st1
      | _ => False)
    | _ => False), pre, ?_, fun ds st1 h1 φ1 H1 vs b1 dl => ?_⟩
  · exact ht
  · rcases ds with _ | ⟨d, _ | ⟨d2, r⟩⟩
    · exact h1.elim
    rotate_left
    · exact h1.elim
    · cases d <;> first
        | exact h1.elim
        | skip
      rename_i j
      obtain ⟨v, rfl, dv⟩ := dl.one
      obtain ⟨h2, h3, h4⟩ := h1
      exact ⟨j, by rw [dv.int], h2, h3, hq _ _ st1 h4 φ1 H1 _ b1 yields_range⟩
noncomputable def compD (items : List Dt) (ok : Sto → Prop) (tc : TBD) (te : TD) (cρ : Rho) (st : Sto) (Fin : List Dt → Sto → Prop) : Prop := ∃ Inv : Nat → List Dt → Sto → Prop, Inv 0 [] st ∧ (∀ i ys st', i ≤ items.length → Inv i ys st' → ok st') ∧
  (∀ (i : Nat) d ys st', items[i]? = some d → Inv i ys st' → ys.length < sizeLine ∧ tc (some d :: cρ) st' fun k st1 => if k = true then te (some d :: cρ) st1 fun y st2 => Inv (i + 1) (ys ++ [y]) st2 else Inv (i + 1) ys st1) ∧
  ∀ ys st', Inv items.length ys st' → Fin ys st'
noncomputable def capρ (caps : List (Nat × Str)) (ρ : Rho) : Rho := caps.map fun p => (ρ[p.1]?).join
theorem cap_DR {K : PySem.W.Frag} {φ : Nat → Addr} {N : Nat} {H : Hp} {ρ : Rho} {σ : L2.St} (h : DR K φ N H ρ σ) (caps : List (Nat × Str)) : DR K φ N H (capρ caps ρ) (capσ caps σ) := by
  refine ⟨by unfold capρ capσ; simp, fun i d e => ?_⟩
  unfold capρ at e
  rw [List.getElem?_map] at e
  unfold capσ
  rw [List.getElem?_map]
  cases q : caps[i]? with
  | none => rw [q] at e; cases e
  | some p =>
    rw [q] at e
    have e' : (ρ[p.1]?).join = some d := Option.some.inj e
    have e2 : ρ[p.1]? = some (some d) := by
      cases q : ρ[p.1]? with
      | none => rw [q] at e'; cases e'
      | some o => rw [q] at e'; exact congrArg some e'
    obtain ⟨v, ev, dv⟩ := h.2 p.1 d e2
    exact ⟨v, by show some ((σ[p.1]?).join) = _; rw [ev]; rfl, dv⟩
theorem dr_cons {K : PySem.W.Frag} {φ : Nat → Addr} {N : Nat} {H : Hp} {ρ : Rho} {σ : L2.St} {o : Option V} {d : Dt} {v : V} (h : DR K φ N H ρ σ) (hd : D K φ N H d v) : DR K φ N H (some d :: ρ) (some v :: σ) := by
  refine ⟨by rw [List.length_cons, List.length_cons, h.1], fun i e q => ?_⟩
  cases i with
  | zero => simp at q; subst q; exact ⟨v, rfl, hd⟩
  | succ i => exact h.2 i e (by simpa using q)
noncomputable def DIf (X : Cx) (ifs : List Expr) (t : TBD) : Prop := PIf X ifs (liftT X.K t)
theorem dif_nil : DIf X [] (fun _ st P => P true st) := fun pins s σ H Q I h => by
  obtain ⟨φ, st, ρ, P, pre, ht, hq⟩ := h
  exact pif_nil pins s σ H Q I (hq true st ht φ H (.refl pre.1))
theorem dif_one {c : Expr} {t : TBD} (h : DT X c t) : DIf X [c] t := pif_one h
theorem comp_gen {K : PySem.W.Frag} {φ1 : Nat → Addr} {st1 : Sto} {H1 : Hp} {cρ : Rho} {cσ : L2.St} {J : It} {items : List Dt} {ok : Sto → Prop} {tc : TBD} {te : TD} {Fin : List Dt → Sto → Prop} {Fin' : List V → Hp → Prop}
    (R : Rep K φ1 st1 H1) (dr : DR K φ1 st1.length H1 cρ cσ) (hJ : Yields K φ1 st1 H1 J items ok) (hc : compD items ok tc te cρ st1 Fin)
    (hF : ∀ ys st' φ' H' vs, Fin ys st' → Bhd K φ1 st1 H1 φ' st' H' → DL K φ' st'.length H' ys vs → Fin' vs H') :
    compW J (gName 0) (liftT K tc) (liftE K te) (List.replicate 1 none ++ cσ) H1 Fin' := by
  obtain ⟨Inv, h0, hok, step, fin⟩ := hc
  refine ⟨fun i m σ vs H => m = items.length - i ∧ i ≤ items.length ∧ ∃ φ' st' ys o, σ = o :: cσ ∧ Bhd K φ1 st1 H1 φ' st' H ∧ DL K φ' st'.length H ys vs ∧ Inv i ys st',
    ⟨items.length, by simp, Nat.zero_le _, φ1, st1, [], none, rfl, .refl R, .nil, h0⟩, ?_⟩
  rintro i m σ vs H ⟨rfl, hi, φ', st', ys, o, rfl, bh, dl, hI⟩
  obtain ⟨js, jg⟩ := hJ i φ' st' H bh (hok i ys st' hi hI) hi
  by_cases hlt : i < items.length
  · have ed : items[i]? = some items[i] := by simp [hlt]
    obtain ⟨go, yl⟩ := jg _ ed
    obtain ⟨hz, hstep⟩ := step i _ ys st' ed hI
    refine .inr ⟨go, by rw [← dl.length]; exact hz, fun y H2 hy => ?_⟩
    obtain ⟨b2, dy⟩ := yl y H2 hy
    have b12 := bh.trans b2
    have pre2 : Pre K φ' st' H2 (some items[i] :: cρ) (some y :: cσ) := ⟨b2.1, dr_cons (o := none) (dr.evo b12.2) dy⟩
    show liftT K tc (some y :: cσ) H2 _
    refine ⟨φ', st', _, _, pre2, hstep, fun k st3 h3 φ3 H3 b3 => ?_⟩
    cases k with
    | false =>
      rw [if_neg Bool.false_ne_true] at h3 ⊢
      exact ⟨items.length - (i + 1), by omega, rfl, hlt, φ3, st3, ys, some y, rfl, b12.trans b3, dl.evo (b2.2.trans b3.2), h3⟩
    | true =>
      rw [if_pos rfl] at h3 ⊢
      refine ⟨φ3, st3, _, _, pre2.on b3, h3, fun z st4 h4 φ4 H4 w b4 dz => ?_⟩
      exact ⟨items.length - (i + 1), by omega, rfl, hlt, φ4, st4, ys ++ [z], some y, rfl, b12.trans (b3.trans b4), (dl.evo (b2.2.trans (b3.2.trans b4.2))).append (.cons dz .nil), h4⟩
  · have e : i = items.length := by omega
    subst e
    exact .inl ⟨js rfl, hF ys st' φ' H vs (fin ys st' hI) bh dl⟩
noncomputable def tcomp (ti : TID) (tc : TBD) (te : TD) (caps : List (Nat × Str)) : TD := fun ρ st P => ti ρ st fun items ok st1 => compD items ok tc te (capρ caps ρ) st1 fun ys st2 => P (.lst st2.length) (st2 ++ [.rw ys])
theorem comp_lift {K : PySem.W.Frag} {tc : TBD} {te : TD} {caps : List (Nat × Str)} {σ : L2.St} {H : Hp} {Q : VK} (h : liftE K (tcomp ti tc te caps) σ H Q) : tComp (liftI K ti) (gName 0) (liftT K tc) (liftE K te) 1 caps σ H Q := by
  obtain ⟨φ, st, ρ, P, pre, ht, hq⟩ := h
  refine ⟨φ, st, ρ, _, pre, ht, fun items ok st1 h1 φ1 H1 J b1 hJ => ?_⟩
  refine comp_gen b1.1 (cap_DR (pre.on b1).2 caps) hJ h1 fun ys st2 φ2 H2 vs hF b2 dl p hp => ?_
  exact hq _ _ hF _ _ _ (b1.trans (b2.trans (bhd_lst b2.1 hp dl))) d_new
variable {elt : Expr} {ifs : List Expr} {sc : Scope} {x : Str} {px : Pos} {tc : TBD} {te : TD}
theorem de_comp (caps : List (Nat × Str)) (hc : X.calm = true) (S : CompScope X.env.scope X.N caps sc) (hx : sc.names.lookup x = some .local) (hnd : ([x] ++ caps.map (·.2)).Nodup) (hi : DI X (.Name x px) iter ti)
    (hif : ∀ C s H fp, DIf (cxComp X [x] caps sc C s H fp) ifs tc) (he : ∀ C s H fp, DE (cxComp X [x] caps sc C s H fp) elt te)
    (hs : ∀ x, foldedSetIterable iter X.env x = pure x := by intro _; rfl) : DE X (.ListComp elt [⟨.Name x px, iter, ifs, 0⟩] sc pos) (tcomp ti tc te caps) :=
  PE.imp (pe_comp (g := gName 0) (tc := liftT X.K tc) (te := liftE X.K te) [x] caps hc S hi (fun C s H fp => pg_name hnd rfl (.inl (lookup_relabel_local hx)) (.inr (lookup_relabel_local hx))) hif he hs) fun σ H Q h => comp_lift h
theorem ds_comp (i : Nat) {y : Str} {py spos : Pos} (caps : List (Nat × Str)) (hc : X.calm = true) (hN : X.N.Nodup) (S : CompScope X.env.scope X.N caps sc) (hx : sc.names.lookup x = some .local) (hnd : ([x] ++ caps.map (·.2)).Nodup) (hi : DI X (.Name x px) iter ti)
    (hif : ∀ C s H fp, DIf (cxComp X [x] caps sc C s H fp) ifs tc) (he : ∀ C s H fp, DE (cxComp X [x] caps sc C s H fp) elt te)
    (hy : X.N[i]? = some y := by rfl) (hyl : X.env.scope.names.lookup y = some .local := by rfl)
    (hsw : swapsWith (.ListComp elt [⟨.Name x px, iter, ifs, 0⟩] sc pos) (some (.Name y py)) spos.line X.env = pure true := by rfl)
    (hs : ∀ x, foldedSetIterable iter X.env x = pure x := by intro _; rfl) : DS X (.Assign [.Name y py] (.ListComp elt [⟨.Name x px, iter, ifs, 0⟩] sc pos) spos) (tasg (tcomp ti tc te caps) (gname i)) :=
  PS.imp (ps_comp (g := gName 0) (tc := liftT X.K tc) (te := liftE X.K te) [x] caps hc hN hy hyl S hi (fun C s H fp => pg_name hnd rfl (.inl (lookup_relabel_local hx)) (.inr (lookup_relabel_local hx))) hif he hsw hs) fun E σ H h => by
    obtain ⟨φ, st, ρ, P, pre, ht, n, b, c, r⟩ := h
    refine comp_lift (ti := ti) (tc := tc) (te := te) (caps := caps) ⟨φ, st, ρ, _, pre, ht, fun d st1 h1 φ1 H1 v b1 dx => ?_⟩
    exact n _ st1 h1 φ1 H1 _ b1 ((pre.on b1).2.set dx i)
noncomputable def startD (N : List Str) (ds : List Dt) : Rho := ds.map some ++ List.replicate (N.length - ds.length) none
theorem start_DR {K : PySem.W.Frag} {φ : Nat → Addr} {n : Nat} {H : Hp} {ds : List Dt} {vs : List V} (h : DL K φ n H ds vs) (N : List Str) : DR K φ n H (startD N ds) (L2.start N vs) := by
  refine ⟨by unfold startD L2.start; simp [h.length], fun i d e => ?_⟩
  unfold startD at e
  unfold L2.start
  by_cases hi : i < ds.length
  · rw [List.getElem?_append_left (by simpa using hi), List.getElem?_map] at e
    cases q : ds[i]? with
    | none => rw [q] at e; cases e
    | some d' =>
      rw [q] at e
      have : d' = d := by
        have e' : some (some d') = some (some d) := e
        injection e' with e1; injection e1
      subst this
      obtain ⟨v, ev, dv⟩ := h.get q
      refine ⟨v, ?_, dv⟩
      rw [List.getElem?_append_left (by simp; rw [← h.length]; exact hi), List.getElem?_map, ev]
      rfl
  · rw [List.getElem?_append_right (by simpa using Nat.not_lt.mp hi), List.getElem?_replicate] at e
    split at e <;> cases e
theorem fun_ok {P : Program} {w : World} {K : PySem.W.Frag} {mg : Str → Option Value} {base : Heap} {x qual : Str} {stt : Stmt} {f : Addr} {fd : FuncData} {N ps : List Str} {k : Nat} {sp : RDL} (F : Fun K x qual stt f fd) (S : FnScope N ps (defScope stt))
    (len : ∀ ds st Pd, sp ds st Pd → ds.length = ps.length)
    (hbody : ∀ (cdv : Value) (A : Around) (outer : List Env) (s : Shared) (H : Hp) (E : XK), Room k (A.deeper (envOfC qual (defScope stt) s.heap.objs.size f cdv)) →
      ∃ t, DSs (cxOf CX0 P w K mg base N qual (defScope stt) f cdv A outer s H E).nox (defBody stt) t ∧ ∀ ds st Pd, sp ds st Pd → t { nx := fun _ st' => Pd .non st', rt := Pd } (startD N ds) st) : FnOk P w K mg base CX0 (k + 1) f fd ps (liftSp K sp) := by
  refine F.ok S (fun vs H Q E h => ?_) fun cdv A outer s H vs Q E hr h => ?_
  · obtain ⟨φ, st, ds, Pd, R, dl, hs, hq⟩ := h
    rw [← dl.length]
    exact len ds st Pd hs
  · obtain ⟨t, ht, hb⟩ := hbody cdv A outer s H E hr
    obtain ⟨φ, st, ds, Pd, R, dl, hs, hq⟩ := h
    refine ⟨_, ht, φ, st, startD N ds, _, ⟨R, start_DR dl N⟩, hb ds st Pd hs, fun ρ' st' h' φ' H' σ' b' d' => hq _ st' h' φ' H' _ b' D.mkNon, fun ρ' st' h' => h'.elim, fun ρ' st' h' => h'.elim, fun d st' h' φ' H' v b' d' => hq d st' h' φ' H' v b' d'⟩
end
end L3
namespace L3
open PySem PySem.Spec PyProof.Rows L2
structure DefOk (P : Program) (w : World) (K : PySem.W.Frag) (mg : Str → Option Value) (base : Heap) (x : Str) (k : Nat) (sp : RDL) : Prop where
  ex : ∃ f fd ps, FnOk P w K mg base CX0 k f fd ps (liftSp K sp) ∧ mg x = some (.ref f) ∧ PySem.W.keepIn K (.ref f) = true ∧ Binds K fd ps []
section
variable {X : Cx} {e : Expr} {es : List Expr} {t : TAD} {pos p : Pos} {x : Str}
theorem de_callO {k : Nat} {sp : RDL} (F : DefOk X.prog X.w X.K X.mg X.base x k sp) (hr : Room k X.A) (ha : DA X (e :: es) t) (hg : Gl X x) (hdb : (x == ("__debug__" : Str)) = false) (he : starEach (e :: es) X.env = (false, eval e X.env) :: starEach es X.env)
    (hpl : (backTo pos (starEach es X.env)).any (·.1) = false) : DE X (.Call (.Name x p) (e :: es) [] pos) (tcall sp t) := by
  obtain ⟨f, fd, ps, h1, h2, h3, h4⟩ := F.ex
  exact de_call h1 hr h2 h3 h4 ha hg hdb he hpl
theorem hu16 {A : Around} {k : Nat} (hr : Room k A) : A.units + 16 < cLine := Nat.lt_of_le_of_lt (Nat.add_le_add_left (by decide : 16 ≤ 64) _) hr.units
structure Hint (caps : List (Nat × Str)) : Prop where
  ok : True
end
section
variable {X : Cx} {a b c : Expr} {ta tb tc : TD} {pos : Pos}
theorem dx_add (ha : DE X a ta) (hb : DE X b tb) : DE X (.BinOp a .Add b pos) (tbin L3.rAdd ta tb) := de_op od_add ha hb
theorem dx_sub (ha : DE X a ta) (hb : DE X b tb) : DE X (.BinOp a .Sub b pos) (tbin rSub ta tb) := de_op od_sub ha hb
theorem dx_mul (ha : DE X a ta) (hb : DE X b tb) : DE X (.BinOp a .Mult b pos) (tbin rMul ta tb) := de_op od_mul ha hb
theorem dx_div (ha : DE X a ta) (hb : DE X b tb) : DE X (.BinOp a .FloorDiv b pos) (tbin rDiv ta tb) := de_op od_div ha hb
theorem dx_mod (ha : DE X a ta) (hb : DE X b tb) : DE X (.BinOp a .Mod b pos) (tbin rMod ta tb) := de_op od_mod ha hb
theorem dx_and (ha : DE X a ta) (hb : DE X b tb) : DE X (.BinOp a .BitAnd b pos) (tbin rAndB ta tb) := de_op od_and ha hb
theorem dx_eq (hu : X.A.units + 16 < cLine) (ha : DE X a ta) (hb : DE X b tb) (hm : behindInMarks .Eq b = false) : DE X (.Compare a [.Eq] [b] pos) (tbin (rEqD false) ta tb) := de_cmp (od_eq hu) ha hb hm
theorem dtx_eq (hu : X.A.units + 16 < cLine) (ha : DE X a ta) (hb : DE X b tb) (hm : behindInMarks .Eq b = false) : DT X (.Compare a [.Eq] [b] pos) (tbool (tbin (rEqD false) ta tb)) := dt_cmp (od_eq hu) ha hb hm
theorem dtx_ne (hu : X.A.units + 16 < cLine) (ha : DE X a ta) (hb : DE X b tb) (hm : behindInMarks .NotEq b = false) : DT X (.Compare a [.NotEq] [b] pos) (tbool (tbin (rEqD true) ta tb)) := dt_cmp (od_ne hu) ha hb hm
theorem dtx_lt (ha : DE X a ta) (hb : DE X b tb) (hm : behindInMarks .Lt b = false) : DT X (.Compare a [.Lt] [b] pos) (tbool (tbin (rCmpI fun i j => decide (i < j)) ta tb)) := dt_cmp od_lt ha hb hm
theorem dtx_gt (ha : DE X a ta) (hb : DE X b tb) (hm : behindInMarks .Gt b = false) : DT X (.Compare a [.Gt] [b] pos) (tbool (tbin (rCmpI fun i j => decide (j < i)) ta tb)) := dt_cmp od_gt ha hb hm
theorem dtx_in (ha : DE X a ta) (hb : DE X b tb) (hm : behindInMarks .In b = false) : DT X (.Compare a [.In] [b] pos) (tbool (tbin (rInD false) ta tb)) := dt_cmp od_in ha hb hm
theorem dx_is (ha : DE X a ta) (hb : DE X b tb) (hm : behindInMarks .Is b = false) : DE X (.Compare a [.Is] [b] pos) (tbin (rIsD false) ta tb) := de_cmp od_is ha hb hm
theorem dtx_is (ha : DE X a ta) (hb : DE X b tb) (hm : behindInMarks .Is b = false) : DT X (.Compare a [.Is] [b] pos) (tbool (tbin (rIsD false) ta tb)) := dt_cmp od_is ha hb hm
theorem dx_len {e : Expr} {es : List Expr} {t : TAD} {p : Pos} (hm : X.mg "len" = none) (ha : DA X (e :: es) t) (hg : Gl X "len") (he : starEach (e :: es) X.env = (false, eval e X.env) :: starEach es X.env) (hpl : (backTo pos (starEach es X.env)).any (·.1) = false) : DE X (.Call (.Name "len" p) (e :: es) [] pos) (tcall rLen t) := de_callB cd_len hm PySem.boot_len ha hg (by decide) (by decide) he hpl
theorem dx_isinst {e : Expr} {es : List Expr} {t : TAD} {p : Pos} (hm : X.mg "isinstance" = none) (ha : DA X (e :: es) t) (hg : Gl X "isinstance") (he : starEach (e :: es) X.env = (false, eval e X.env) :: starEach es X.env) (hpl : (backTo pos (starEach es X.env)).any (·.1) = false) : DE X (.Call (.Name "isinstance" p) (e :: es) [] pos) (tcall rIsInst t) := de_callB cd_isinst hm boot_isinstance ha hg (by decide) (by decide) he hpl
theorem dx_tuple {e : Expr} {es : List Expr} {t : TAD} {p : Pos} (hm : X.mg "tuple" = none) (ha : DA X (e :: es) t) (hg : Gl X "tuple") (he : starEach (e :: es) X.env = (false, eval e X.env) :: starEach es X.env) (hpl : (backTo pos (starEach es X.env)).any (·.1) = false) : DE X (.Call (.Name "tuple" p) (e :: es) [] pos) (tcall rTuple t) := de_callTy cd_tuple hm PyProof.Rows.boot_tuple ha hg (by decide) (by decide) he hpl
theorem dx_list {e : Expr} {es : List Expr} {t : TAD} {p : Pos} (hm : X.mg "list" = none) (ha : DA X (e :: es) t) (hg : Gl X "list") (he : starEach (e :: es) X.env = (false, eval e X.env) :: starEach es X.env) (hpl : (backTo pos (starEach es X.env)).any (·.1) = false) : DE X (.Call (.Name "list" p) (e :: es) [] pos) (tcall rList t) := de_callTy cd_list hm PyProof.Rows.boot_list ha hg (by decide) (by decide) he hpl
theorem dx_tyInt (hm : X.mg "int" = none) (hg : Gl X "int") : DE X (.Name "int" pos) (tcon (.ty "int")) := de_ty hm PyProof.Rows.boot_int hg
theorem dx_tyBool (hm : X.mg "bool" = none) (hg : Gl X "bool") : DE X (.Name "bool" pos) (tcon (.ty "bool")) := de_ty hm PyProof.Rows.boot_bool hg
theorem dx_tyStr (hm : X.mg "str" = none) (hg : Gl X "str") : DE X (.Name "str" pos) (tcon (.ty "str")) := de_ty hm PyProof.Rows.boot_str hg
theorem dx_tyTuple (hm : X.mg "tuple" = none) (hg : Gl X "tuple") : DE X (.Name "tuple" pos) (tcon (.ty "tuple")) := de_ty hm PyProof.Rows.boot_tuple hg
end
noncomputable def scCheck (so : Scope) (N : List Str) (caps : List (Nat × Str)) (sc : Scope) : Bool :=
  decide (sc.kind = .function) && (sc.names.all fun y => decide (y.2 ≠ .cell)) && (sc.names.all fun y => decide (y.2 = .local → sc.names.lookup y.1 = some .local)) && (sc.names.all fun y => decide (y.2 = .free → so.names.lookup y.1 = some .cell)) &&
    (caps.all fun p => decide (N[p.1]? = some p.2 ∧ so.names.lookup p.2 = some .cell ∧ sc.names.lookup p.2 = some .free))
theorem sc_of {so : Scope} {N : List Str} {caps : List (Nat × Str)} {sc : Scope} (h : scCheck so N caps sc = true) : CompScope so N caps sc := by
  unfold scCheck at h
  simp only [Bool.and_eq_true] at h
  obtain ⟨⟨⟨⟨h1, h2⟩, h3⟩, h4⟩, h5⟩ := h
  exact ⟨of_decide_eq_true h1, fun y hy => of_decide_eq_true (List.all_eq_true.mp h2 y hy), fun y hy => of_decide_eq_true (List.all_eq_true.mp h3 y hy), fun y hy => of_decide_eq_true (List.all_eq_true.mp h4 y hy), fun y hy => of_decide_eq_true (List.all_eq_true.mp h5 y hy)⟩
theorem sc_hint {so : Scope} {N : List Str} {caps : List (Nat × Str)} {sc : Scope} (_ : Hint caps) (h : scCheck so N caps sc = true) : CompScope so N caps sc := sc_of h
noncomputable def spLaw : RDL := fun ds st P => ∃ ns : List Int, ds = [.lst 0] ∧ st = [.ro (ns.map .int)] ∧ ns.length ≤ 63 ∧ ∀ st', P (.bl true) st'
theorem DL.ints {K : PySem.W.Frag} {φ : Nat → Addr} {N : Nat} {H : Hp} : ∀ ns : List Int, DL K φ N H (ns.map .int) (ns.map V.int)
  | [] => .nil
  | n :: ns => .cons D.mkInt (DL.ints ns)
theorem law_walk {l : PySem.W.OpenLaw} {q : Program} {loose : List Str} {XP : (Str → Option Value) → Heap → Prop} {YP : World → Heap → Prop} {d : DefRec} {K : Params → PySem.W.Frag} (k : Nat) (hn : l.most = some 63) (hdf : d.params.defaults = []) (hr : Room k callerA)
    (hY : ∀ (w : World) (h : Heap), YP w h → (K w.params).In h)
    (F : ∀ (w : World) (mg : Str → Option Value) (fa : Addr) (h : Heap), (K w.params).In h → h.Ns mainGlobals mg → mg d.name = some (.ref fa) →
      ∃ fd : FuncData, (∀ (s : Shared) (u : Value), BindsTo s fd ⟨[u], []⟩ [("script", u)]) ∧ ∀ base : Heap, (K w.params).In base → base.Ns mainGlobals mg → FnOk l.prog w (K w.params) mg base CX0 k fa fd ["script"] (liftSp (K w.params) spLaw)) :
    PySem.W.WalkO q loose XP YP l.row.toRowW d [] (fun f vs => PySem.call f vs) := by
  refine L2.walk_of (n := 63) (k := k) (x := "script") (CX := fun _ => CX0) (sp := fun w => liftSp (K w.params) spLaw) hn (by decide) hdf hr hY F (fun w H a ns hl hO hS => ?_) fun _ _ _ _ _ z => z
  have hR : SqR (K w.params) H a (ns.map V.int) := by
    rcases hS with (h | h) | h
    · rcases hO a with z | ⟨o, xs, z⟩
      · rw [h] at z; cases z
      · rw [h] at z; cases z
    · exact .inl h
    · exact .inr h
  refine ⟨fun _ => a, [.ro (ns.map .int)], [.lst 0], fun d st' => d = .bl true, ⟨fun i j x y e _ hw => ?_, fun i x e => ?_⟩, .cons (D.mkLst (by show 0 < 1; decide) ⟨_, hR.sq⟩) .nil, ⟨ns, rfl, rfl, hl, fun _ => rfl⟩, fun d st' hd φ' H' u b du => by rw [hd] at du; exact du.bl⟩
  · cases i with
    | zero => simp at e; subst e; cases hw
    | succ i => simp at e
  · cases i with
    | zero =>
      simp at e
      subst e
      exact ⟨ns.map V.int, hR, DL.ints ns⟩
    | succ i => simp at e
end L3
namespace L3
open PySem PySem.Spec PyProof.Rows L2
noncomputable def enumD : Nat → List Dt → List Dt
  | _, [] => []
  | n, d :: ds => .tup [.int (n : Nat), d] :: enumD (n + 1) ds
theorem enum_get : ∀ {ds : List Dt} {n i : Nat} {x : Dt}, (enumD n ds)[i]? = some x → ∃ d, ds[i]? = some d ∧ x = .tup [.int ((n + i : Nat)), d]
  | [], _, _, _, h => by simp [enumD] at h
  | d :: ds, n, 0, x, h => by
    simp [enumD] at h
    exact ⟨d, rfl, by rw [← h]; rfl⟩
  | d :: ds, n, i + 1, x, h => by
    obtain ⟨e, h1, h2⟩ := enum_get (ds := ds) (n := n + 1) (i := i) (x := x) (by simpa [enumD] using h)
    exact ⟨e, by simpa using h1, by rw [h2, show n + 1 + i = n + (i + 1) by omega]⟩
theorem enum_len : ∀ {ds : List Dt} {n : Nat}, (enumD n ds).length = ds.length
  | [], _ => rfl
  | d :: ds, n => by simp [enumD, enum_len]
theorem DL.strs {K : PySem.W.Frag} {φ : Nat → Addr} {N : Nat} {H : Hp} : ∀ ss : List Str, DL K φ N H (ss.map .str) (ss.map V.str)
  | [] => .nil
  | n :: ns => .cons D.mkStr (DL.strs ns)
noncomputable def rIntB : RDL := fun ds st P => match ds with
  | [x] => (match x with
    | .bl k => P (.int (if k then 1 else 0)) st
    | .int i => P (.int i) st
    | _ => False)
  | _ => False
theorem cd_int {X : Cx} : CallD X (.type "int") rIntB := by
  intro pins s σ H vs us Q I rv h
  obtain ⟨φ, st, ds, P, R, dl, hr, hq⟩ := h
  rcases ds with _ | ⟨x, _ | ⟨y, r⟩⟩
  · exact hr.elim
  rotate_left
  · exact hr.elim
  · obtain ⟨v, rfl, dx⟩ := dl.one
    cases x with
    | bl k => exact call_int1 pins s σ H [v] us Q I rv (.inr ⟨k, by rw [dx.bl], Go.here hq R hr D.mkInt⟩)
    | int k => exact call_int1 pins s σ H [v] us Q I rv (.inl ⟨k, by rw [dx.int], Go.here hq R hr D.mkInt⟩)
    | _ => exact hr.elim
theorem dx_int {X : Cx} {pos : Pos} {e : Expr} {es : List Expr} {t : TAD} {p : Pos} (hm : X.mg "int" = none) (ha : DA X (e :: es) t) (hg : Gl X "int") (he : starEach (e :: es) X.env = (false, eval e X.env) :: starEach es X.env) (hpl : (backTo pos (starEach es X.env)).any (·.1) = false) : DE X (.Call (.Name "int" p) (e :: es) [] pos) (tcall rIntB t) := de_callTy cd_int hm PyProof.Rows.boot_int ha hg (by decide) (by decide) he hpl
structure Hint2 (caps : List (Nat × Str)) : Prop where
  ok : True
theorem sc_hint2 {so : Scope} {N : List Str} {caps : List (Nat × Str)} {sc : Scope} (_ : Hint2 caps) (h : scCheck so N caps sc = true) : CompScope so N caps sc := sc_of h
theorem get_app {st : Sto} {i : Nat} {o x : SO} (h : st[i]? = some o) : (st ++ [x])[i]? = some o := by
  rw [List.getElem?_append_left (lt_of_get h)]; exact h
theorem get_set_ne {st : Sto} {i j : Nat} {o x : SO} (h : st[i]? = some o) (hne : j ≠ i) : (st.set j x)[i]? = some o := by
  rw [List.getElem?_set_ne hne]; exact h
theorem get_set_self {st : Sto} {i : Nat} {o x : SO} (h : st[i]? = some o) : (st.set i x)[i]? = some x := by
  rw [List.getElem?_set_self (lt_of_get h)]
theorem get_new {st : Sto} {x : SO} : (st ++ [x])[st.length]? = some x := by simp
noncomputable def ExtS (st st' : Sto) : Prop := ∀ (i : Nat) o, st[i]? = some o → st'[i]? = some o
theorem ExtS.refl (st : Sto) : ExtS st st := fun _ _ h => h
theorem ExtS.trans {a b c : Sto} (h : ExtS a b) (h' : ExtS b c) : ExtS a c := fun i o q => h' i o (h i o q)
theorem ExtS.app (st : Sto) (x : SO) : ExtS st (st ++ [x]) := fun _ _ h => get_app h
noncomputable abbrev Ed (Pd : VD) : EndsD := { nx := fun _ st' => Pd .non st', rt := Pd }
theorem cmul_r {i j : Int} (h1 : 0 ≤ j) (h2 : j < 4294967296) : CMul i j := .inr ⟨by omega, by omega⟩
theorem cmul_l {i j : Int} (h1 : 0 ≤ i) (h2 : i < 4294967296) : CMul i j := .inl ⟨by omega, by omega⟩
theorem cdiv {i j : Int} (h1 : 0 < j) (h2 : j < 1073741824) : CDiv i j := ⟨h1, h2⟩
end L3
namespace L3
open PySem PySem.Spec PyProof.Rows L2
theorem hu1 {k : Nat} {A : Around} (r : Room k A) : A.units + 1 < cLine := by have := r.units; omega
end L3
namespace L3
open PySem PySem.Spec PyProof.Rows L2
end L3
namespace L3
open PySem PySem.Spec PyProof.Rows L2
section
variable {X : Cx} {a b c : Expr} {ta tb tc : TD} {pos : Pos}
noncomputable def tneg (ta : TD) : TD := fun ρ st P => ta ρ st fun d st1 => match d with
  | .int i => P (.int (-i)) st1
  | _ => False
theorem de_neg (ha : DE X a ta) : DE X (.UnaryOp .USub a pos) (tneg ta) := (pe_un un_neg ha).imp fun σ H Q h => by
  obtain ⟨φ, st, ρ, P, pre, ht, hq⟩ := h
  refine ⟨φ, st, ρ, _, pre, ht, fun d st1 h1 φ1 H1 v b1 dx => ?_⟩
  cases d with
  | int i => exact ⟨i, dx.int, hq _ st1 h1 φ1 H1 _ b1 D.mkInt⟩
  | _ => exact h1.elim
noncomputable def irng2 (ta tb : TD) : TID := fun ρ st P => ta ρ st fun x st1 => tb ρ st1 fun y st2 => match x, y with
  | .int i, .int j => (-(2 ^ 62) ≤ i ∧ i < 2 ^ 62 ∧ -(2 ^ 62) ≤ j ∧ j < 2 ^ 62) ∧ P (rangeD i (j - i).toNat) (fun _ => True) st2
  | _, _ => False
theorem di_range2 {tg : Expr} {p : Pos} (hm : X.mg "range" = none) (ha : DE X a ta) (hb : DE X b tb) (hg : Gl X "range") (hs : starEach [a, b] X.env = [(false, eval a X.env), (false, eval b X.env)]) (hs2 : starEach [b] X.env = [(false, eval b X.env)]) : DI X tg (.Call (.Name "range" p) [a, b] [] pos) (irng2 ta tb) := by
  intro pins s σ H R I h
  refine pi_range2 hg hm (da_cons ha (da_cons hb da_nil hs2) (by rw [hs, hs2])) hs hs2 pins s σ H R I ?_
  obtain ⟨φ, st, ρ, P, pre, ht, hq⟩ := h
  refine ⟨φ, st, ρ, (fun ds st1 => match ds with
    | [x, y] => (match x, y with
      | .int i, .int j => (-(2 ^ 62) ≤ i ∧ i < 2 ^ 62 ∧ -(2 ^ 62) ≤ j ∧ j < 2 ^ 62) ∧ P (rangeD i (j - i).toNat) (fun _ => True) st1
      | _, _ => False)
    | _ => False), pre, ?_, fun ds st1 h1 φ1 H1 vs b1 dl => ?_⟩
  · exact ht
  · rcases ds with _ | ⟨d, _ | ⟨d2, _ | ⟨d3, r⟩⟩⟩
    · exact h1.elim
    · exact h1.elim
    rotate_left
    · exact h1.elim
    · cases d with
      | int i =>
        cases d2 with
        | int j =>
          obtain ⟨v, w, rfl, dv, dw⟩ := dl.two
          obtain ⟨h2, h4⟩ := h1
          exact ⟨i, j, by rw [dv.int, dw.int], h2, hq _ _ st1 h4 φ1 H1 _ b1 yields_range⟩
        | _ => exact h1.elim
      | _ => cases d2 <;> exact h1.elim
end
structure DefOkD (P : Program) (w : World) (K : PySem.W.Frag) (mg : Str → Option Value) (base : Heap) (x : Str) (k n : Nat) (sp : RDL) (dd : Dt) : Prop where
  ex : ∃ f fd ps, FnOk P w K mg base CX0 k f fd ps (liftSp K sp) ∧ mg x = some (.ref f) ∧ PySem.W.keepIn K (.ref f) = true ∧ Binds K fd ps [] ∧ ∃ u v, Binds K fd ps [u] ∧ RelV v u ∧ ∀ φ N H, D K φ N H dd v
end L3
namespace L3
open PySem PySem.Spec PyProof.Rows L2
open AutoSeq1 (wpAny_loadPart')
end L3
namespace HT
open PySem PySem.Spec PyProof.Rows
section
variable {prog : Program} {w : World} {A : Around} {E : Value → Shared → Prop} {s : Shared}
theorem getItem_tuple_whole {t sl : Addr} {items : Array Value} {vl vu : Value} {lo hi : Option Int} {Q : Value → Shared → Prop} (ht : IsTup s.heap t items) (hs : s.heap.IsSliceOf sl vl vu .none) (pl : IsPart vl lo) (pu : IsPart vu hi)
    (hw : sIx items.size 0 lo = 0 ∧ sIx items.size items.size hi = items.size) (h : Q (.ref t) s) : wpAny (model prog w) A (getItem (.ref t) (.ref sl)) Q E s := by
  obtain ⟨os, hos, hcs, hds⟩ := id hs
  have hTs : s.TypeIs (.ref sl) "slice" := ⟨os, hos, hcs⟩
  unfold getItem
  try with_reducible refine wpAny_holding ?_
  first | refine wpAny_bind (wpAny_pure ?_) | skip
  refine wpAny_bind (wpAny_sequenceKey ht.typeIs (by decide) ?_)
  refine wpAny_bind (wpAny_callSpecial?_slot (name := Str.ofString "__getitem__") ht.typeIs PyProof.Rows.slot_tuple_getitem
    (wpAny_call_entry PyProof.Rows.slot_tuple_getitem ht.typeIs entry_tuple_getitem ?_ (args_tuple_getitem _ _)))
  show wpAny _ _ (Builtin.Tuple.tupleItemsOf (.ref t) >>= _) _ _ s
  refine wpAny_bind (tupleItemsOf_ ht ?_)
  refine wpAny_bind (wpAny_typeOf hTs ?_)
  rw [if_pos (by decide)]
  refine wpAny_bind (sliceApplied_gen hs pl pu ?_)
  have hyes : (((sIx items.size 0 lo : Nat) : Int) == 0 && (1 : Int) == 1 && (sIx items.size items.size hi - sIx items.size 0 lo) == items.size) = true := by
    rw [hw.1, hw.2]; simp
  show wpAny _ _ (if (((sIx items.size 0 lo : Nat) : Int) == 0 && (1 : Int) == 1 && (sIx items.size items.size hi - sIx items.size 0 lo) == items.size) = true then _ else _) _ _ s
  rw [if_pos hyes]
  unfold Builtin.Tuple.tupleIsExact
  refine wpAny_bind (wpAny_bind (wpAny_typeOf ht.typeIs (wpAny_pure ?_)))
  rw [if_pos (by decide)]
  first
    | exact wpAny_bind (wpAny_pure (wpAny_pure ⟨_, rfl, wpAny_pure h⟩))
    | exact wpAny_bind (wpAny_rule (wpAny_bind (wpAny_pure (wpAny_pure ⟨_, rfl, wpAny_pure h⟩))))
    | exact wpAny_bind (wpAny_rule (wpAny_bind (wpAny_pure ⟨_, rfl, wpAny_pure h⟩)))
    | exact wpAny_pure ⟨_, rfl, wpAny_pure h⟩
    | exact wpAny_bind (wpAny_pure ⟨_, rfl, wpAny_pure h⟩)
end
end HT
namespace L3
open PySem PySem.Spec PyProof.Rows L2
noncomputable def rSlW (K : PySem.W.Frag) : V → Option Int → Option Int → Hp → VK → Prop := fun x lo hi H Q => ∃ a xs, x = .ref a ∧ SqT K H a xs ∧ (HT.sIx xs.length 0 lo = 0 ∧ HT.sIx xs.length xs.length hi = xs.length) ∧ Q (.ref a) H
section
variable {X : Cx}
theorem sl_whole : SlR X (rSlW X.K) := by
  intro pins s σ H x v vl vu lo hi sl Q I rx hs pl pu h
  obtain ⟨a, xs, rfl, hx, hw, q⟩ := h
  cases rx
  obtain ⟨its, r, ht, hz⟩ := I.tuple hx
  have hlen : its.toArray.size = xs.length := by rw [List.size_toArray]; exact r.length.symm
  refine ⟨"tuple", _, PyProof.Rows.slot_tuple_getitem.lookup, ht.typeIs, ?_⟩
  exact HT.getItem_tuple_whole ht hs pl pu (by rw [hlen]; exact hw) ⟨.ref a, H, I, rfl, q⟩
noncomputable def tsliceA (te : TD) (tl th : TOD) : TD := fun ρ st P => te ρ st fun x st1 => tl ρ st1 fun lo st2 => th ρ st2 fun hi st3 => match x with
  | .tup xs => P (.tup (cutD xs lo hi)) st3
  | .lst n => (match st3[n]? with
    | some o => P (.lst st3.length) (st3 ++ [.rw (cutD o.items lo hi)])
    | none => False)
  | _ => False
theorem cut_whole {xs : List Dt} {lo hi : Option Int} (h : HT.sIx xs.length 0 lo = 0 ∧ HT.sIx xs.length xs.length hi = xs.length) : cutD xs lo hi = xs := by
  unfold cutD
  rw [h.1, h.2]
  simp
theorem de_sliceA {e : Expr} {lo hi : Option Expr} {te : TD} {tl th : TOD} {pos p2 : Pos} (he : DE X e te) (hl : DO X lo tl) (hu : DO X hi th) : DE X (.Subscript e (.Slice lo hi none p2) pos) (tsliceA te tl th) := by
  refine PE.imp (pe_slice ((sl_tup.or sl_list).or sl_whole) he hl hu) fun σ H Q h => ?_
  obtain ⟨φ, st, ρ, P, pre, ht, hq⟩ := h
  refine ⟨φ, st, ρ, _, pre, ht, fun x st1 h1 φ1 H1 v b1 dx => ?_⟩
  refine ⟨φ1, st1, ρ, _, pre.on b1, h1, fun l st2 h2 φ2 H2 b2 => ?_⟩
  refine ⟨φ2, st2, ρ, _, (pre.on b1).on b2, h2, fun u st3 h3 φ3 H3 b3 => ?_⟩
  have b := b1.trans (b2.trans b3)
  have dx3 := (dx.evo b2.2).evo b3.2
  cases x with
  | tup xs =>
    obtain ⟨a, vs, e1, s1, d1⟩ := dx3.tup
    have h3' : P (.tup (cutD xs l u)) st3 := h3
    by_cases hw : HT.sIx xs.length 0 l = 0 ∧ HT.sIx xs.length xs.length u = xs.length
    · rw [cut_whole hw] at h3'
      exact .inr ⟨a, vs, e1, s1, by rw [← d1.length]; exact hw, hq _ st3 h3' φ3 _ _ b (by rw [← e1]; exact dx3)⟩
    refine .inl (.inl ⟨a, vs, e1, s1, by rw [← d1.length]; exact hw, fun p hp => hq _ st3 h3' φ3 _ _ (b.trans (bhd_tup b3.1 hp)) (.mkTup (SqT.of upd_same) ?_)⟩)
    unfold cutD cutV
    rw [← d1.length]
    exact ((d1.drop _).take _).evo (evo_new hp)
  | lst n =>
    have h3' : (match st3[n]? with
      | some o => P (.lst st3.length) (st3 ++ [.rw (cutD o.items l u)])
      | none => False) := h3
    split at h3'
    · rename_i o eo
      obtain ⟨vs, s1, d1⟩ := b3.1.seq eo dx3.isL
      refine .inl (.inr ⟨φ3 n, vs, dx3.lst.2, s1, fun p hp => ?_⟩)
      have : DL X.K φ3 st3.length H3 (cutD o.items l u) (cutV vs l u) := by
        unfold cutD cutV
        rw [← d1.length]
        exact (d1.drop _).take _
      exact hq _ _ h3' _ _ _ (b.trans (bhd_lst b3.1 hp this)) d_new
    · exact h3'.elim
  | _ => exact h3.elim
end
structure FunD (K : PySem.W.Frag) (x qual : Str) (st : Stmt) (f : Addr) (fd : FuncData) (T : Addr) : Prop where
  ex : ∃ (oc : Value) (od : Option Addr) (kV doc pm : Value) (an : Option Addr) (cdv ct : Value) (osl : Array (Option Value)),
    fd = PySem.W.fnOf x qual (defArgs st) (defBody st) (defScope st) (.ref T) kV doc pm an cdv ct ∧ K.lookup f = some ⟨oc, od, .func fd, osl⟩ ∧ PySem.W.codeIn K cdv qual = true
  kp : PySem.W.keepIn K (.ref f) = true
theorem FunD.ok {P : Program} {w : World} {K : PySem.W.Frag} {mg : Str → Option Value} {base : Heap} {x qual : Str} {st : Stmt} {f T : Addr} {fd : FuncData} {N ps : List Str} {k : Nat} {sp : Sp} (F : FunD K x qual st f fd T) (S : FnScope N ps (defScope st)) (len : ∀ vs H Q E, sp vs H Q E → vs.length = ps.length)
    (hbody : ∀ (cdv : Value) (A : Around) (outer : List Env) (s : Shared) (H : Hp) (vs : List V) (Q : VK) (E : XK), Room k (A.deeper (envOfC qual (defScope st) s.heap.objs.size f cdv)) → sp vs H Q E →
      ∃ t, PSs (cxOf CX0 P w K mg base N qual (defScope st) f cdv A outer s H E).nox (defBody st) t ∧ t { nx := fun _ H' => Q .non H', rt := Q } (start N vs) H) : FnOk P w K mg base CX0 (k + 1) f fd ps sp := by
  obtain ⟨oc, od, kV, doc, pm, an, cdv, ct, osl, rfl, lk, hcd⟩ := F.ex
  refine fn_of lk hcd S len fun A outer s H vs Q E hr hsp => ?_
  obtain ⟨t, h, q⟩ := hbody cdv A outer s H vs Q E hr hsp
  exact ⟨t, h.nox, q⟩
end L3
namespace L3
open PySem PySem.Spec PyProof.Rows L2
end L3
namespace L3
open PySem PySem.Spec PyProof.Rows L2
theorem DefOkD.of {P : Program} {w : World} {K : PySem.W.Frag} {mg : Str → Option Value} {base : Heap} {x : Str} {k n : Nat} {sp : RDL} {i : Int} {f : Addr} {fd : FuncData} {ps : List Str} {t : Tok}
    (h : FnOk P w K mg base CX0 k f fd ps (liftSp K sp)) (hm : mg x = some (.ref f)) (hk : PySem.W.keepIn K (.ref f) = true) (b0 : Binds K fd ps []) (b1 : Binds K fd ps [.int i t]) : DefOkD P w K mg base x k n sp (.int i) :=
  ⟨⟨f, fd, ps, h, hm, hk, b0, .int i t, .int i, b1, ⟨t, rfl⟩, fun _ _ _ => D.mkInt⟩⟩
end L3
namespace L3
open PySem PySem.Spec PyProof.Rows L2
theorem liftSp_imp {K : PySem.W.Frag} {sp sp' : RDL} (h : ∀ ds st P, sp ds st P → sp' ds st P) {vs : List V} {H : Hp} {Q : VK} {E : XK} (q : liftSp K sp vs H Q E) : liftSp K sp' vs H Q E := by
  obtain ⟨φ, st, ds, P, R, dl, hs, hq⟩ := q
  exact ⟨φ, st, ds, P, R, dl, h _ _ _ hs, hq⟩
theorem DefOk.imp {P : Program} {w : World} {K : PySem.W.Frag} {mg : Str → Option Value} {base : Heap} {x : Str} {k : Nat} {sp sp' : RDL} (F : DefOk P w K mg base x k sp') (h : ∀ ds st P, sp ds st P → sp' ds st P) : DefOk P w K mg base x k sp := by
  obtain ⟨f, fd, ps, h1, h2, h3, h4⟩ := F.ex
  exact ⟨⟨f, fd, ps, ⟨fun vs H Q E q => h1.len vs H Q E (liftSp_imp h q), fun A outer s H args us vs Q E r e b v q => h1.run A outer s H args us vs Q E r e b v (liftSp_imp h q)⟩, h2, h3, h4⟩⟩
end L3
namespace HT
open PySem PySem.Spec PyProof.Rows
end HT
namespace L3
open PySem PySem.Spec PyProof.Rows L2
end L3
namespace L3
open PySem PySem.Spec PyProof.Rows L2
end L3
namespace L3
open PySem PySem.Spec PyProof.Rows L2
end L3
namespace L3
open PySem PySem.Spec PyProof.Rows L2
end L3
namespace L3
open PySem PySem.Spec PyProof.Rows L2
end L3
namespace L3
open PySem PySem.Spec PyProof.Rows L2
theorem vals_ints : ∀ {us : List Value} {ns : List Int}, IntsAre us ns → Vals (ns.map V.int) us
  | _, _, .nil => .nil
  | _, _, .cons n tk h => .cons ⟨tk, rfl⟩ (vals_ints h)
end L3
namespace L3
open PySem PySem.Spec PyProof.Rows L2
noncomputable def keyD : Dt → Option Key
  | .int i => some (.inl i)
  | .str x => some (.inr x)
  | _ => none
noncomputable def valD (kvs : List (Key × Dt)) (k : Key) : Option Dt := (kvs.find? fun kv => decide (kv.1 = k)).map (·.2)
noncomputable def putD (kvs : List (Key × Dt)) (k : Key) (d : Dt) : List (Key × Dt) :=
  if (kvs.any fun kv => decide (kv.1 = k)) = true then kvs.map (fun kv => if kv.1 = k then (kv.1, d) else kv) else kvs ++ [(k, d)]
noncomputable def KD (K : PySem.W.Frag) (φ : Nat → Addr) (N : Nat) (H : Hp) (kvs : List (Key × Dt)) (vs : List (Key × V)) : Prop := kvs.map (·.1) = vs.map (·.1) ∧ DL K φ N H (kvs.map (·.2)) (vs.map (·.2))
section
variable {K : PySem.W.Frag} {φ : Nat → Addr} {N : Nat} {H : Hp}
theorem key_of {y : Dt} {k : Key} {v : V} (e : keyD y = some k) (d : D K φ N H y v) : v = kV k := by
  cases y with
  | int i => cases e; exact d.int
  | str x => cases e; exact d.str
  | _ => cases e
theorem KD.uncons {k : Key} {d : Dt} {r : List (Key × Dt)} {vs : List (Key × V)} (h : KD K φ N H ((k, d) :: r) vs) : ∃ v r', vs = (k, v) :: r' ∧ D K φ N H d v ∧ KD K φ N H r r' := by
  obtain ⟨h1, h2⟩ := h
  cases vs with
  | nil => cases h1
  | cons p r' =>
    obtain ⟨k', v⟩ := p
    rw [List.map_cons, List.map_cons] at h1
    injection h1 with e1 e2
    have e1 : k = k' := e1
    subst e1
    obtain ⟨a, b⟩ := DL.uncons (d := d) (v := v) h2
    exact ⟨v, r', rfl, a, e2, b⟩
theorem KD.cons {k : Key} {d : Dt} {v : V} {r : List (Key × Dt)} {r' : List (Key × V)} (a : D K φ N H d v) (h : KD K φ N H r r') : KD K φ N H ((k, d) :: r) ((k, v) :: r') := ⟨by rw [List.map_cons, List.map_cons, h.1], .cons a h.2⟩
theorem KD.nil : KD K φ N H [] [] := ⟨rfl, .nil⟩
theorem KD.nilV {vs : List (Key × V)} (h : KD K φ N H [] vs) : vs = [] := by
  cases vs with
  | nil => rfl
  | cons p r => cases h.1
theorem KD.val : ∀ {kvs : List (Key × Dt)} {vs : List (Key × V)} (k : Key), KD K φ N H kvs vs → (valD kvs k = none ∧ valV vs k = none) ∨ ∃ d v, valD kvs k = some d ∧ valV vs k = some v ∧ D K φ N H d v
  | [], vs, k, h => by rw [h.nilV]; exact .inl ⟨rfl, rfl⟩
  | (k', d) :: r, vs, k, h => by
    obtain ⟨v, r', rfl, dv, h'⟩ := h.uncons
    by_cases e : k' = k
    · exact .inr ⟨d, v, by simp [valD, List.find?_cons, e], by simp [valV, List.find?_cons, e], dv⟩
    · have e1 : valD ((k', d) :: r) k = valD r k := by simp [valD, List.find?_cons, e]
      have e2 : valV ((k', v) :: r') k = valV r' k := by simp [valV, List.find?_cons, e]
      rw [e1, e2]
      exact h'.val k
theorem KD.any : ∀ {kvs : List (Key × Dt)} {vs : List (Key × V)} (k : Key), KD K φ N H kvs vs → (kvs.any fun kv => decide (kv.1 = k)) = (vs.any fun kv => decide (kv.1 = k))
  | [], vs, k, h => by rw [h.nilV]; rfl
  | (k', d) :: r, vs, k, h => by
    obtain ⟨v, r', rfl, _, h'⟩ := h.uncons
    rw [List.any_cons, List.any_cons, h'.any k]
theorem KD.app : ∀ {a b : List (Key × Dt)} {c e : List (Key × V)}, KD K φ N H a c → KD K φ N H b e → KD K φ N H (a ++ b) (c ++ e)
  | [], b, c, e, h, h' => by rw [h.nilV]; exact h'
  | (k, d) :: r, b, c, e, h, h' => by
    obtain ⟨v, r', rfl, dv, h2⟩ := h.uncons
    exact (h2.app h').cons dv
theorem KD.put {d : Dt} {v : V} (dv : D K φ N H d v) (k : Key) {kvs : List (Key × Dt)} {vs : List (Key × V)} (h : KD K φ N H kvs vs) : KD K φ N H (putD kvs k d) (putK vs k v) := by
  unfold putD putK
  rw [h.any k]
  split
  · have go : ∀ {kvs : List (Key × Dt)} {vs : List (Key × V)}, KD K φ N H kvs vs → KD K φ N H (kvs.map fun kv => if kv.1 = k then (kv.1, d) else kv) (vs.map fun kv => if kv.1 = k then (kv.1, v) else kv) := by
      intro kvs
      induction kvs with
      | nil => intro vs h; rw [h.nilV]; exact .nil
      | cons p r ih =>
        intro vs h
        obtain ⟨k', d'⟩ := p
        obtain ⟨v', r', rfl, dv', h'⟩ := h.uncons
        rw [List.map_cons, List.map_cons]
        by_cases e : k' = k
        · rw [if_pos e, if_pos e]; exact (ih h').cons dv
        · rw [if_neg e, if_neg e]; exact (ih h').cons dv'
    exact go h
  · exact h.app (KD.cons dv .nil)
theorem KD.length {kvs : List (Key × Dt)} {vs : List (Key × V)} (h : KD K φ N H kvs vs) : kvs.length = vs.length := by
  have := congrArg List.length h.1
  rwa [List.length_map, List.length_map] at this
theorem Rep.dc {st : Sto} (R : Rep K φ st H) {n : Nat} {kvs : List (Key × Dt)} (e : st[n]? = some (.dc kvs)) : ∃ vs, H (φ n) = some (.dK vs) ∧ K.lookup (φ n) = none ∧ KD K φ st.length H kvs vs := by
  obtain ⟨vs, h1, h2, h3, h4⟩ := R.all n _ e
  exact ⟨vs, h1, h2, h3, h4⟩
theorem bhd_dnew {st : Sto} {p : Addr} {kvs : List (Key × Dt)} {vs : List (Key × V)} (R : Rep K φ st H) (hp : H p = none) (hk : K.lookup p = none) (hd : KD K φ st.length H kvs vs) : Bhd K φ st H (phiNew φ st.length p) (st ++ [.dc kvs]) (upd H p (.dK vs)) :=
  ⟨R.add hp ⟨vs, upd_same, hk, hd.1, hd.2.evo (evo_add hp)⟩, evo_add hp⟩
theorem bhd_dset {st : Sto} {n : Nat} {kvs kvs' : List (Key × Dt)} {vs' : List (Key × V)} (R : Rep K φ st H) (e : st[n]? = some (.dc kvs)) (hd : KD K φ st.length H kvs' vs') : Bhd K φ st H φ (st.set n (.dc kvs')) (upd H (φ n) (.dK vs')) := by
  obtain ⟨vs, h1, h2, h3⟩ := R.dc e
  exact ⟨R.put e rfl rfl h1 trivial ⟨vs', upd_same, h2, hd.1, hd.2.evo (evo_setW (o := .dc kvs') (w := .dK vs') (lt_of_get e) h1 trivial)⟩, evo_setW (w := .dK vs') (lt_of_get e) h1 trivial⟩
end
section
variable {X : Cx} {o i : Expr} {to ti : TD} {pos : Pos}
noncomputable def tdget2 (to te tf : TD) : TD := fun ρ st P => to ρ st fun x st1 => match x with
  | .dic n => te ρ st1 fun y st2 => tf ρ st2 fun z st3 => (match st3[n]?, keyD y with
    | some (.dc kvs), some k => P ((valD kvs k).getD z) st3
    | _, _ => False)
  | _ => False
theorem de_dget2 {e f : Expr} {te tf : TD} {apos cpos : Pos} (hu : X.A.units + 1 < cLine) (ho : DE X o to) (he : DE X e te) (hf : DE X f tf) (m : M2 X o "get" apos e f cpos) : DE X (.Call (.Attribute o "get" apos) [e, f] [] cpos) (tdget2 to te tf) := (pe_dget2 hu ho he hf m).imp fun σ H Q h => by
  obtain ⟨φ, st, ρ, P, pre, ht, hq⟩ := h
  refine ⟨φ, st, ρ, _, pre, ht, fun x st1 h1 φ1 H1 v b1 dx => ?_⟩
  cases x with
  | dic n =>
    obtain ⟨kvs0, hk0⟩ := dx.isD
    refine ⟨φ1 n, dx.dic.2, .inl ⟨kvs0, .inl hk0⟩, φ1, st1, ρ, _, pre.on b1, h1, fun y st2 h2 φ2 H2 w b2 dy => ?_⟩
    refine ⟨φ2, st2, ρ, _, (pre.on b1).on b2, h2, fun z st3 h3 φ3 H3 u b3 dz => ?_⟩
    have h3 : (match st3[n]?, keyD y with
      | some (.dc kvs), some k => P ((valD kvs k).getD z) st3
      | _, _ => False) := h3
    split at h3
    · rename_i kvs k e1 e2
      obtain ⟨vs, hv, _, hk⟩ := b3.1.dc e1
      have ea : φ3 n = φ1 n := (b2.trans b3).2.ext n dx.dic.1
      have g : DGet H3 (φ1 n) w (valV vs k) := by rw [key_of e2 dy, ← ea]; exact DGet.k hv
      refine ⟨valV vs k, g, ?_⟩
      rcases hk.val k with ⟨z1, z2⟩ | ⟨d', v2, z1, z2, dv⟩
      · rw [z1] at h3; rw [z2]
        exact hq _ st3 h3 φ3 H3 _ ((b1.trans b2).trans b3) dz
      · rw [z1] at h3; rw [z2]
        exact hq _ st3 h3 φ3 H3 _ ((b1.trans b2).trans b3) dv
    · exact h3.elim
  | _ => exact h1.elim
noncomputable def tvK : List (Key × TD) → TAD
  | [] => fun _ st P => P [] st
  | (_, t) :: r => fun ρ st P => t ρ st fun x st1 => tvK r ρ st1 fun xs st2 => P (x :: xs) st2
noncomputable def tdict (kts : List (Key × TD)) : TD := fun ρ st P => tvK kts ρ (st ++ [.dc []]) fun ds st1 => st1[st.length]? = some (.dc []) ∧ P (.dic st.length) (st1.set st.length (.dc ((kts.map (·.1)).zip ds)))
noncomputable def DPK (X : Cx) (pos : Pos) (keys : List (Option Expr)) (values : List Expr) (kts : List (Key × TD)) : Prop := PPs X pos keys values (kts.map fun q => (tC (kV q.1), liftE X.K q.2))
theorem dpk_nil : DPK X pos [] [] [] := pps_nil
theorem dpk_str {k : Str} {j : Nat} {p : Pos} {v : Expr} {t : TD} {ks : List (Option Expr)} {vs : List Expr} {kts : List (Key × TD)} (hv : DE X v t) (hr : DPK X pos ks vs kts) : DPK X pos (some (.Constant (.str k) j p) :: ks) (v :: vs) ((.inr k, t) :: kts) := pps_cons pe_str hv hr
theorem pairsK {K : PySem.W.Frag} : ∀ {kts : List (Key × TD)} {σ : L2.St} {H : Hp} {φ : Nat → Addr} {st : Sto} {ρ : Rho} {P : List Dt → Sto → Prop} {Q : List (V × V) → Hp → Prop}, Pre K φ st H ρ σ → tvK kts ρ st P →
    (∀ ds st', P ds st' → ∀ φ' H' (vs : List V), Bhd K φ st H φ' st' H' → DL K φ' st'.length H' ds vs → ds.length = kts.length → Q (((kts.map (·.1)).zip vs).map fun kv => (kV kv.1, kv.2)) H') → tPairs (kts.map fun q => (tC (kV q.1), liftE K q.2)) σ H Q
  | [], σ, H, φ, st, ρ, P, Q, pre, ht, hq => hq [] st ht φ H [] (.refl pre.1) .nil rfl
  | (k, t) :: r, σ, H, φ, st, ρ, P, Q, pre, ht, hq => by
    refine ⟨φ, st, ρ, _, pre, ht, fun d st1 h1 φ1 H1 v b1 dx => ?_⟩
    refine pairsK (pre.on b1) h1 fun ds st2 h2 φ2 H2 vs b2 dl hl => ?_
    exact hq (d :: ds) st2 h2 φ2 H2 (v :: vs) (b1.trans b2) (.cons (dx.evo b2.2) dl) (by rw [List.length_cons, hl, List.length_cons])
theorem merge_zip : ∀ {more acc : List (Key × V)}, (∀ kv ∈ more, valV acc kv.1 = none) → (more.map (·.1)).Nodup → mergeK acc more = acc ++ more := by
  intro more
  induction more with
  | nil => intro acc _ _; show acc = _; rw [List.append_nil]
  | cons p r ih =>
    intro acc h nd
    rw [List.map_cons, List.nodup_cons] at nd
    have hp : putK acc p.1 p.2 = acc ++ [p] := by
      unfold putK
      have hn : ¬ (acc.any fun kv => decide (kv.1 = p.1)) = true := by
        intro ha
        obtain ⟨kv, hm, he⟩ := List.any_eq_true.mp ha
        have hv := h p (List.mem_cons_self ..)
        unfold valV at hv
        rw [Option.map_eq_none_iff, List.find?_eq_none] at hv
        exact hv kv hm he
      rw [if_neg hn]
    show mergeK (putK acc p.1 p.2) r = _
    rw [hp, ih (fun kv hk => ?_) nd.2, List.append_assoc]; rfl
    have h1 := h kv (List.mem_cons_of_mem _ hk)
    unfold valV at h1 ⊢
    rw [Option.map_eq_none_iff, List.find?_eq_none] at h1 ⊢
    intro q hq
    rcases List.mem_append.mp hq with z | z
    · exact h1 q z
    · rw [List.mem_singleton.mp z]
      have : p.1 ≠ kv.1 := fun e => nd.1 (by rw [e]; exact List.mem_map.mpr ⟨kv, hk, rfl⟩)
      simpa using this
theorem de_dict {keys : List (Option Expr)} {values : List Expr} {kts : List (Key × TD)} (h : DPK X pos keys values kts) (hall : keys.all (·.isSome) = true) (hl : keys.length = values.length) (h0 : keys ≠ []) (h15 : keys.length ≤ 15) (hk : kts.length ≤ 15) (nd : (kts.map (·.1)).Nodup) : DE X (.Dict keys values pos) (tdict kts) := by
  refine PE.imp (pe_disp h hall hl h0 h15) fun σ H Q q => ?_
  obtain ⟨φ, st, ρ, P, pre, ht, hq⟩ := q
  intro a hn kf
  have b0 := bhd_dnew (kvs := []) (vs := []) pre.1 hn kf .nil
  have ht : tvK kts ρ (st ++ [.dc []]) fun ds st1 => st1[st.length]? = some (.dc []) ∧ P (.dic st.length) (st1.set st.length (.dc ((kts.map (·.1)).zip ds))) := ht
  refine pairsK (pre.on b0) ht fun ds st1 h1 φ1 H1 vs b1 dl hlen => ?_
  have ep : φ1 st.length = a := by
    rw [b1.2.ext st.length (by simp), phi_at]
  obtain ⟨vs0, e0, _, k0⟩ := b1.1.dc h1.1
  rw [k0.nilV, ep] at e0
  have hvl : vs.length = kts.length := by rw [← dl.length]; exact hlen
  have kn : ((kts.map (·.1)).zip vs).map (·.1) = kts.map (·.1) := List.map_fst_zip (by rw [List.length_map]; omega)
  refine ⟨e0, (kts.map (·.1)).zip vs, rfl, by rw [List.length_zip, List.length_map]; omega, ?_⟩
  rw [merge_zip (fun kv _ => valV_nil) (by rw [kn]; exact nd), List.nil_append]
  have kd : KD X.K φ1 st1.length H1 ((kts.map (·.1)).zip ds) ((kts.map (·.1)).zip vs) := by
    refine ⟨?_, ?_⟩
    · rw [kn, List.map_fst_zip (by rw [List.length_map]; omega)]
    · rw [List.map_snd_zip (by rw [List.length_map]; omega), List.map_snd_zip (by rw [List.length_map]; omega)]; exact dl
  have bb := bhd_dset b1.1 h1.1 kd
  rw [ep] at bb
  refine hq _ _ h1.2 φ1 _ _ ((b0.trans b1).trans bb) ?_
  have := D.mkDic (K := X.K) (φ := φ1) (H := upd H1 a (.dK ((kts.map (·.1)).zip vs))) (n := st.length) (N := (st1.set st.length (.dc ((kts.map (·.1)).zip ds))).length) (by rw [List.length_set]; exact lt_of_get h1.1) (by rw [ep]; exact ⟨_, upd_same⟩)
  rw [ep] at this
  exact this
end
end L3
namespace L3
open PySem PySem.Spec PyProof.Rows L2
noncomputable def putO (f : Str) (d : Dt) : List (Str × Dt) → List (Str × Dt)
  | [] => [(f, d)]
  | (g, x) :: r => if g = f then (g, d) :: r else (g, x) :: putO f d r
noncomputable def OD (K : PySem.W.Frag) (φ : Nat → Addr) (N : Nat) (H : Hp) (fs : List (Str × Dt)) (vs : List (Str × V)) : Prop := fs.map (·.1) = vs.map (·.1) ∧ DL K φ N H (fs.map (·.2)) (vs.map (·.2))
section
variable {K : PySem.W.Frag} {φ : Nat → Addr} {N : Nat} {H : Hp}
theorem OD.uncons {k : Str} {d : Dt} {r : List (Str × Dt)} {vs : List (Str × V)} (h : OD K φ N H ((k, d) :: r) vs) : ∃ v r', vs = (k, v) :: r' ∧ D K φ N H d v ∧ OD K φ N H r r' := by
  obtain ⟨h1, h2⟩ := h
  cases vs with
  | nil => cases h1
  | cons p r' =>
    obtain ⟨k', v⟩ := p
    rw [List.map_cons, List.map_cons] at h1
    injection h1 with e1 e2
    have e1 : k = k' := e1
    subst e1
    obtain ⟨a, b⟩ := DL.uncons (d := d) (v := v) h2
    exact ⟨v, r', rfl, a, e2, b⟩
theorem OD.cons {k : Str} {d : Dt} {v : V} {r : List (Str × Dt)} {r' : List (Str × V)} (a : D K φ N H d v) (h : OD K φ N H r r') : OD K φ N H ((k, d) :: r) ((k, v) :: r') := ⟨by rw [List.map_cons, List.map_cons, h.1], .cons a h.2⟩
theorem OD.nil : OD K φ N H [] [] := ⟨rfl, .nil⟩
theorem OD.nilV {vs : List (Str × V)} (h : OD K φ N H [] vs) : vs = [] := by
  cases vs with
  | nil => rfl
  | cons p r => cases h.1
theorem OD.length {fs : List (Str × Dt)} {vs : List (Str × V)} (h : OD K φ N H fs vs) : fs.length = vs.length := by
  have := congrArg List.length h.1
  rwa [List.length_map, List.length_map] at this
theorem OD.put {d : Dt} {v : V} (dv : D K φ N H d v) (f : Str) : ∀ {fs : List (Str × Dt)} {vs : List (Str × V)}, OD K φ N H fs vs → OD K φ N H (putO f d fs) (putF f v vs)
  | [], vs, h => by rw [h.nilV]; exact OD.cons dv .nil
  | (k, d') :: r, vs, h => by
    obtain ⟨v', r', rfl, dv', h'⟩ := h.uncons
    unfold putO putF
    by_cases e : k = f
    · rw [if_pos e, if_pos e]; exact h'.cons dv
    · rw [if_neg e, if_neg e]; exact (OD.put dv f h').cons dv'
theorem Rep.ob {st : Sto} (R : Rep K φ st H) {n : Nat} {C : Str} {fs : List (Str × Dt)} (e : st[n]? = some (.ob C fs)) : ∃ (c dx : Addr) (vs : List (Str × V)), H (φ n) = some (.ins c dx vs) ∧ K.lookup (φ n) = none ∧ PySem.W.nsIn K mainGlobals C = some (some (.ref c)) ∧ OD K φ st.length H fs vs := by
  obtain ⟨c, dx, vs, h1, h2, h3, h4, h5⟩ := R.all n _ e
  exact ⟨c, dx, vs, h1, h2, h3, h4, h5⟩
end
end L3
namespace L3
open PySem PySem.Spec PyProof.Rows L2
end L3
namespace L3
open PySem PySem.Spec PyProof.Rows L2
noncomputable def EntsAre (P : Params) : List DictEntry → List (Str × Str) → Prop
  | [], [] => True
  | e :: r, kv :: q => (∃ t u, e.key = .str kv.1 t ∧ e.val = .str kv.2 u ∧ e.hash = PyData.keyHash P kv.1) ∧ EntsAre P r q
  | _, _ => False
theorem EntsAre.lit {P : Params} : ∀ {l : List DictEntry} {kvs : List (Str × Str)}, EntsAre P l kvs → PySem.W.KeysLit P l
  | [], [], _ => trivial
  | _ :: _, _ :: _, ⟨⟨t, _, h1, _, h3⟩, r⟩ => ⟨⟨_, t, h1, h3⟩, r.lit⟩
  | [], _ :: _, h => h.elim
  | _ :: _, [], h => h.elim
theorem EntsAre.find {P : Params} (y : Str) : ∀ {l : List DictEntry} {kvs : List (Str × Str)}, EntsAre P l kvs → (kvs.lookup y = none ∧ (l.find? fun e => Value.isStrOf y e.key).map (·.val) = none) ∨ ∃ z u, kvs.lookup y = some z ∧ (l.find? fun e => Value.isStrOf y e.key).map (·.val) = some (.str z u)
  | [], [], _ => .inl ⟨rfl, rfl⟩
  | e :: r, (k, v) :: q, ⟨⟨t, u, h1, h2, h3⟩, hr⟩ => by
    have ih := EntsAre.find y hr
    have hk : Value.isStrOf y e.key = (k == y) := by rw [h1]; rfl
    rw [List.find?_cons, hk, List.lookup_cons]
    have hs : (y == k) = (k == y) := by
      by_cases q : y = k
      · subst q; rfl
      · rw [beq_eq_false_iff_ne.mpr q, beq_eq_false_iff_ne.mpr (Ne.symm q)]
    rw [hs]
    cases k == y with
    | true => exact .inr ⟨v, u, rfl, by rw [Option.map_some, h2]⟩
    | false => exact ih
  | [], _ :: _, h => h.elim
  | _ :: _, [], h => h.elim
structure TopD (w : World) (K : PySem.W.Frag) (mg : Str → Option Value) (x : Str) (kvs : List (Str × Str)) : Prop where
  ex : ∃ a es n, mg x = some (.ref a) ∧ K.lookup a = some ⟨.type "dict", none, .dict es n, #[]⟩ ∧ (a == sysModules) = false ∧ EntsAre w.params es.toList kvs
noncomputable def ttopget (kvs : List (Str × Str)) (ti : TD) : TD := fun ρ st P => ti ρ st fun y st1 => match y with
  | .str z => (match kvs.lookup z with
    | some v => P (.str v) st1
    | none => False)
  | _ => False
section
variable {X : Cx} {i : Expr} {ti : TD} {pos p : Pos} {x : Str} {kvs : List (Str × Str)}
theorem de_topget (T : TopD X.w X.K X.mg x kvs) (hi : DE X i ti) (hg : Gl X x) (hd : (x == ("__debug__" : Str)) = false) (hs : NoSl i) : DE X (.Subscript (.Name x p) i pos) (ttopget kvs ti) := by
  obtain ⟨a, es, n, hm, hl, hy, he⟩ := T.ex
  intro pins s σ H Q I h
  obtain ⟨φ, st, ρ, P, pre, ht, hq⟩ := h
  refine subD_of PySem.F.slot_dict_getitem.lookup hs (ld_glob I hg hm ?_ hd)
  refine thn (hi pins s σ H (fun v H' => ∃ z u, v = .str z ∧ kvs.lookup z = some u ∧ Q (.str u) H') I ⟨φ, st, ρ, _, pre, ht, fun y st1 h1 φ1 H1 v b1 dy => ?_⟩) fun iv s2 ⟨y, H2, I2, ry, z, u, ey, hu, q2⟩ => ?_
  · cases y with
    | str z =>
      cases dy.str
      dsimp only at h1
      split at h1
      · rename_i v' e1
        exact ⟨z, v', rfl, e1, hq _ _ h1 _ _ _ b1 D.mkStr⟩
      · exact h1.elim
    | _ => exact h1.elim
  · subst ey
    obtain ⟨t, rfl⟩ := ry
    have hmap := PySem.W.mapOf_K (prog := X.prog) I2.kIn hl he.lit
    refine ⟨hmap.typeIs, ?_⟩
    rcases he.find z with ⟨e1, _⟩ | ⟨z', u', e1, e2⟩
    · rw [hu] at e1; cases e1
    · rw [hu] at e1
      cases e1
      refine wpAny_getItem_of (strKind_is X.prog X.w z t) hmap (v := .str u u') ?_ ⟨.str u, H2, I2.tok _, ⟨u', rfl⟩, q2⟩
      obtain ⟨l⟩ := es
      unfold findBy
      rw [List.find?_toArray]
      exact e2
end
end L3
namespace HT
open PySem PySem.Spec PyProof.Rows
section
variable {prog : Program} {w : World} {A : Around} {E : Value → Shared → Prop} {s : Shared}
theorem nextOf_tup_item {it t : Addr} {i : Nat} {items : Array Value} {x : Value} {Q : Value → Shared → Prop} (hit : IsTupIter s.heap it t i) (ht : IsTup s.heap t items) (hx : items[i]? = some x)
    (hQ : ∀ h', IsTupIter h' it t (i + 1) → Heap.SameBut it s.heap h' → Q x { s with heap := h' }) : wpAny (model prog w) A (Builtin.SmallTypes.nextOf (.ref it)) Q E s := by
  obtain ⟨o, ho, hc, hd⟩ := id hit; obtain ⟨ol, hol, _, nl, hdl⟩ := ht
  unfold Builtin.SmallTypes.nextOf; refine wpAny_bind (wpAny_callSpecial?_slot (name := Str.ofString "__next__") hit.typeIs slot_tupleiter_next (wpAny_call_entry slot_tupleiter_next hit.typeIs entry_tupleiter_next ?_ (args_tupleiter_next _)))
  show wpAny _ _ (field (.ref it) 0 >>= _) _ _ s; refine wpAny_bind (wpAny_field ho hd (x := .ref t) rfl ?_)
  show wpAny _ _ (if (Value.ref t == Value.none) = true then _ else _) _ _ s; rw [if_neg (show ¬ ((Value.ref t == Value.none) = true) from Bool.false_ne_true)]
  show wpAny _ _ (field (.ref it) 1 >>= _) _ _ s; refine wpAny_bind (wpAny_field ho hd (x := .int i 0) rfl ?_)
  show wpAny _ _ (seqItems? (.ref t) >>= _) _ _ s; refine wpAny_bind (wpAny_seqItems hol hdl ?_); simp only [Int.toNat_natCast, hx]
  refine wpAny_bind (wpAny_setField ho hd (by simp) (wpAny_pure ⟨x, rfl, wpAny_pure (hQ _ ⟨_, Heap.get?_update_self _ ho (Obj.isFreed_of_fields (Obj.data_mapFields hd _)), (Obj.cls_mapFields ..).trans hc, by rw [Obj.data_mapFields hd]; simp [rawInt]⟩ (Heap.SameBut.update ..))⟩))
theorem nextOf_tup_end {it t : Addr} {i : Nat} {items : Array Value} {Q : Value → Shared → Prop} (hh : A.handled = none) (hit : IsTupIter s.heap it t i) (ht : IsTup s.heap t items) (hx : items[i]? = none)
    (hE : ∀ h' e, Heap.ExtBut it s.heap h' → (∃ o, h'.get? e = some o ∧ o.cls = .type "StopIteration") → E (.ref e) { s with heap := h' }) : wpAny (model prog w) A (Builtin.SmallTypes.nextOf (.ref it)) Q E s := by
  obtain ⟨o, ho, hc, hd⟩ := id hit; obtain ⟨ol, hol, _, nl, hdl⟩ := ht
  unfold Builtin.SmallTypes.nextOf; refine wpAny_bind (wpAny_callSpecial?_slot (name := Str.ofString "__next__") hit.typeIs slot_tupleiter_next (wpAny_call_entry slot_tupleiter_next hit.typeIs entry_tupleiter_next ?_ (args_tupleiter_next _)))
  show wpAny _ _ (field (.ref it) 0 >>= _) _ _ s; refine wpAny_bind (wpAny_field ho hd (x := .ref t) rfl ?_)
  show wpAny _ _ (if (Value.ref t == Value.none) = true then _ else _) _ _ s; rw [if_neg (show ¬ ((Value.ref t == Value.none) = true) from Bool.false_ne_true)]
  show wpAny _ _ (field (.ref it) 1 >>= _) _ _ s; refine wpAny_bind (wpAny_field ho hd (x := .int i 0) rfl ?_)
  show wpAny _ _ (seqItems? (.ref t) >>= _) _ _ s; refine wpAny_bind (wpAny_seqItems hol hdl ?_); simp only [Int.toNat_natCast, hx]
  refine wpAny_bind (wpAny_rule (wpAny_bind (wpAny_setField ho hd (by simp) ?_))); show wpAny _ _ (newExc (.type "StopIteration") [] >>= _) _ _ _
  refine wpAny_bind ?_; simp only [newExc, newTuple]
  refine wpAny_bind (wpAny_newObj_type ?_ (by size_fits)); refine wpAny_bind (m := firstArgMember _ _) (wpAny_of_eq (a := Value.none) (by first | rfl | (simp only [firstArgMember]; rfl)) ?_)
  refine wpAny_newObj_type ?_ (by size_fits); simp only [raiseNew]; refine wpAny_bind (wpAny_handled ?_)
  first | rw [show A.in1.handled = none from hh] | rw [hh]
  refine wpAny_bind (wpAny_pure (wpAny_throw ?_)); exact hE _ _ (((Heap.SameBut.update ..).extBut.push _).push _) ⟨_, Heap.get?_push_size _ rfl, rfl⟩
theorem draws_tup (hh : A.handled = none) (it t : Addr) (hne : t ≠ it) (items : Array Value) : Draws prog w A it [it, t] items.size (fun i v => items[i]? = some v) (fun i h => IsTupIter h it t i ∧ IsTup h t items) where
  live := fun _ _ st => let ⟨o, ho, _⟩ := st.1; ⟨o, ho⟩
  frame := fun _ _ _ st hk => ⟨let ⟨o, ho, r⟩ := st.1; ⟨o, hk it (by simp) _ ho, r⟩, let ⟨o, ho, r⟩ := st.2; ⟨o, hk t (by simp) _ ho, r⟩⟩
  item := fun i s Q E hi st hQ => by
    refine nextOf_tup_item st.1 st.2 (x := items[i]) (by simp [hi]) fun h' hit' hs' => hQ _ h' s.toks (by simp [hi]) ⟨hit', ?_⟩ hs'
    obtain ⟨o, ho, r⟩ := st.2
    exact ⟨o, hs'.extBut t o hne ho, r⟩
  done := fun s Q E st hE => nextOf_tup_end hh st.1 st.2 (by simp) hE
end
theorem meets_enumT (l : Addr) (items : Array Value) (n : Nat) (dct : Option Addr) (sl : Array (Option Value)) :
    Meets (Builtin.«enumerate.__new__» ⟨[.type "enumerate", .ref l], []⟩) (fun _ R s => s.heap.get? l = some { cls := .type "tuple", dict := dct, data := .seq items n, slots := sl } ∧
      R (.ok (.ret (.ref (s.heap.push { cls := .type "tuple_iterator", data := .fields #[.ref l, .int 0 0] }).objs.size)))
        { s with heap := (s.heap.push { cls := .type "tuple_iterator", data := .fields #[.ref l, .int 0 0] }).push { cls := .type "enumerate", data := .fields #[.none, .bool false, .ref s.heap.objs.size, rawInt 0, .none, .none] } }) :=
  .of_wp fun prog w A R s h => by
    obtain ⟨hp, g, d, tk, os⟩ := s; obtain ⟨hl, h⟩ := h
    have hsub := sub_enumerate
    have hT : IsTup (Shared.heap ⟨hp, g, d, tk, os⟩) l items := ⟨_, hl, rfl, n, rfl⟩
    wp_walk using AutoSeq1.wpAny_loadPart' hl
    refine wpAny_stack_any fun st => wpAny_pure ?_
    split
    · rename_i c _ _ _ _ _
      cases (c == Value.type "enumerate")
      · wp_walk using AutoSeq1.wpAny_loadPart' hl, iter_tuple hT
        exact ⟨_, rfl, h⟩
      · wp_walk using AutoSeq1.wpAny_loadPart' hl, iter_tuple hT
        exact ⟨_, rfl, h⟩
    · wp_walk using AutoSeq1.wpAny_loadPart' hl, iter_tuple hT
      exact ⟨_, rfl, h⟩
section
variable {prog : Program} {w : World} {A : Around} {E : Value → Shared → Prop} {s : Shared}
theorem call_enumT {l : Addr} {items : Array Value} {Q : Value → Shared → Prop} (hT : IsTup s.heap l items)
    (h : ∀ h', IsEnum h' (s.heap.objs.size + 1) s.heap.objs.size 0 .none → IsTupIter h' s.heap.objs.size l 0 → h'.objs.size = s.heap.objs.size + 2 → (∀ b o, s.heap.get? b = some o → h'.get? b = some o) → Q (.ref (s.heap.objs.size + 1)) { s with heap := h' }) :
    wpAny (model prog w) A (call (.type "enumerate") [.ref l]) Q E s := by
  obtain ⟨⟨c, dct, dt, sl⟩, hl, hc, n, hd⟩ := hT
  replace hc : c = .type "tuple" := hc
  replace hd : dt = .seq items n := hd
  subst hc hd
  refine callType_new F.called_enumerate (by decide) (F.typeCall_enumerate_1 _) (F.newCall_enumerate_1 _) (fun obj => F.args_object_init_2 obj _) F.entry_enumerate_new (meets_enumT l items n dct sl) ⟨hl, ?_⟩
  have hz : (s.heap.push { cls := .type "tuple_iterator", data := .fields #[.ref l, .int 0 0] }).objs.size = s.heap.objs.size + 1 := Heap.size_push ..
  show _ ∧ _
  rw [hz]
  have he : IsEnum ((s.heap.push { cls := .type "tuple_iterator", data := .fields #[.ref l, .int 0 0] }).push { cls := .type "enumerate", data := .fields #[.none, .bool false, .ref s.heap.objs.size, rawInt 0, .none, .none] }) (s.heap.objs.size + 1) s.heap.objs.size 0 .none := by
    have q := Heap.get?_push_size (s.heap.push { cls := .type "tuple_iterator", data := .fields #[.ref l, .int 0 0] }) (o := { cls := .type "enumerate", data := .fields #[.none, .bool false, .ref s.heap.objs.size, rawInt 0, .none, .none] }) rfl
    rw [hz] at q; exact q
  exact ⟨⟨_, he, rfl⟩, h _ he ⟨_, Heap.get?_push_of_some _ (Heap.get?_push_size _ rfl), rfl, rfl⟩ (by rw [Heap.size_push, hz]) fun b o x => Heap.get?_push_of_some _ (Heap.get?_push_of_some _ x)⟩
end
end HT
namespace L3
open PySem PySem.Spec PyProof.Rows L2
theorem tupIter_at {h h' : Heap} {a t : Addr} {i : Nat} (x : IsTupIter h a t i) (e : ∀ o, h.get? a = some o → h'.get? a = some o) : IsTupIter h' a t i := let ⟨o, ho, r⟩ := x; ⟨o, e _ ho, r⟩
theorem enumT_end {prog : Program} {w : World} {A : Around} {E : Value → Shared → Prop} {s : Shared} {e it t : Addr} {i : Nat} {old : Value} {items : Array Value} {Q : Option Value → Shared → Prop} (hh : A.handled = none) (he : IsEnum s.heap e it (i : Nat) old) (hit : IsTupIter s.heap it t i) (ht : IsTup s.heap t items) (hne : t ≠ it) (hn : items.size ≤ i)
    (hQ : ∀ h', Heap.ExtBut it s.heap h' → Q none { s with heap := h' }) : wpAny (model prog w) A (pyNext (.ref e)) Q E s := by
  have hT : s.TypeIs (.ref e) "enumerate" := ⟨_, he, rfl⟩
  unfold pyNext
  refine wpAny_bind (wpAny_attempt (wpAny_callSpecial?_slot (name := Str.ofString "__next__") hT F.slot_enumerate_next (wpAny_call_entry F.slot_enumerate_next hT F.entry_enumerate_next ?_ (F.args_enumerate_next_1 _))))
  show wpAny _ _ (field (.ref e) 2 >>= _) _ _ _
  refine wpAny_bind (wpAny_field he rfl (x := .ref it) rfl (wpAny_bind (HT.nextOf_tup_end (A := A.in1) hh hit ht (by simp; omega) fun h' x he' hx' => ?_)))
  obtain ⟨o, ho, hc⟩ := hx'
  exact wpAny_bind (wpAny_isInstance (T := "StopIteration") (b := true) ⟨o, ho, hc⟩ isSubtype_stop (wpAny_pure (hQ _ he')))
noncomputable def IteT (K : PySem.W.Frag) (a : Addr) : It :=
  ⟨fun i H => ∃ xs x, SqT K H a xs ∧ xs[i]? = some x, fun i H x H' => ∃ p v, H p = none ∧ H' = upd H p (.tup [.int i, v]) ∧ x = .ref p ∧ ∀ xs, SqT K H a xs → xs[i]? = some v, fun i H => ∃ xs, SqT K H a xs ∧ xs.length ≤ i⟩
theorem turn_enumT {P : Program} {w : World} {K : PySem.W.Frag} {elts : List Expr} {x1} {pos : Pos} (a e it : Addr) (hei : e ≠ it) :
    Turn P w K (.Tuple elts x1 pos) (IteT K a) [e, it] e (fun i h => (∃ old, IsEnum h e it (i : Nat) old) ∧ IsTupIter h it a i) where
  mem := by simp
  obj := fun i h st b hb => by
    obtain ⟨⟨old, he⟩, o, ho, hc, hd⟩ := st
    rcases List.mem_cons.mp hb with rfl | hb
    · exact ⟨_, he, fun v z => by
        have z' : Data.fields _ = Data.cell v := z
        cases z'⟩
    · have : b = it := by simpa using hb
      subst this
      exact ⟨o, ho, fun v z => by rw [hd] at z; cases z⟩
  keep := fun i h h' st k => by
    obtain ⟨⟨old, he⟩, hit⟩ := st
    exact ⟨⟨old, k e (by simp) _ he⟩, tupIter_at hit fun o x => k it (by simp) o x⟩
  item := by
    intro X hP hw hK hc i pins s σ H E I hf st hg
    subst hP hw hK
    obtain ⟨⟨old, he⟩, hit⟩ := st
    obtain ⟨xs, x, hq, hx⟩ := hg
    obtain ⟨its, rv, p, hz⟩ := I.tuple hq
    obtain ⟨u, hu, ru⟩ := rv.get hx
    obtain ⟨e0, e1, e2, e3, e4, e5⟩ := hf e (by simp)
    obtain ⟨i0, i1, i2, i3, i4, i5⟩ := hf it (by simp)
    have hit0 := hit
    have hai : a ≠ it := fun z => by
      obtain ⟨o1, q1, q2, q3⟩ := hit
      obtain ⟨o2, q4, q5, q6⟩ := p
      rw [z, q1] at q4; cases q4; rw [q2] at q5; injection q5 with q7; exact absurd q7 (by decide)
    have hea : e ≠ a := fun z => by
      obtain ⟨o2, q4, q5, q6⟩ := p
      rw [← z, he] at q4; cases q4; injection q5 with q7; exact absurd q7 (by decide)
    refine wpAny_pyNext_enum_itemD (HT.draws_tup (A := X.A.in1) (I.ok.hd hc) it a hai its.toArray) he ⟨hit, p⟩ (by have := (Array.getElem?_eq_some_iff.mp (show its.toArray[i]? = some u by simpa using hu)); exact this.1) hei (by simp; exact ⟨hei, hea⟩) fun x0 h' tk hx0 ho hst' hT hsz hk => ?_
    have hxu : x0 = u := by
      have q : its.toArray[i]? = some u := by simpa using hu
      have hx0 : its.toArray[i]? = some x0 := hx0
      rw [q] at hx0; exact (Option.some.inj hx0).symm
    subst hxu
    obtain ⟨hit', hp'⟩ := hst'
    refine ⟨_, rfl, wpAny_letOwnedTupleGo_enum (s := { s with heap := h', toks := tk + 1 }) ho fun h2 he2 hs2 => ?_⟩
    have hT2 : h2.get? s.heap.objs.size = some { cls := .type "tuple", data := .seq #[.int i tk, x0] } := (hs2.2 _ (Ne.symm (ne_lt (Heap.lt_size he) (Nat.le_refl _)))).trans hT
    have hk2 : ∀ b o, b ≠ e → b ≠ it → s.heap.get? b = some o → h2.get? b = some o := fun b o hb hb2 q => (hs2.2 b hb).trans (hk b o hb hb2 q)
    have hp : H s.heap.objs.size = none := I.hok.fresh (Nat.le_refl _)
    have nt : ∀ b v, H b = some v → b ≠ e ∧ b ≠ it := fun b v q => ⟨fun z => (by rw [z, e0] at q; cases q), fun z => (by rw [z, i0] at q; cases q)⟩
    refine ⟨.ref s.heap.objs.size, upd H s.heap.objs.size (.tup [.int i, x]), ?_, rfl, ⟨_, x, hp, rfl, rfl, fun ys hy => by rw [I.tuple_inj hy hq]; exact hx⟩, ⟨⟨x0, by simpa using he2⟩, tupIter_at hit' fun o y => (hs2.2 it hei.symm).trans y⟩, fun b hb => ?_⟩
    · show Inv X pins σ _ { s with heap := h2, gens := s.gens, drawn := s.drawn, toks := tk + 1 }
      refine Inv.step (s := s) (h' := h2) (g' := s.gens) (d' := s.drawn) (t' := tk + 1) (ch := [e, it]) I (fun b hb => ?_) (fun b o _ _ hc q _ => hk2 b o (fun z => hc (by simp [z])) (fun z => hc (by simp [z])) q) (fun b o _ _ hc q _ => ⟨o.slots, hk2 b o (fun z => hc (by simp [z])) (fun z => hc (by simp [z])) q⟩)
        (fun b o _ q n => by rw [upd_ne (ne_lt (Heap.lt_size q) (Nat.le_refl _))]; exact n) (fun b o hc q => ⟨o, hk2 b o (fun z => hc (by simp [z])) (fun z => hc (by simp [z])) q⟩)
        (fun b ys q => by rw [upd_ne (ne_of_none q hp)]; exact q) (fun b o v q => by rw [upd_ne (ne_of_none q hp)]; exact q) (fun b ps q => ⟨#[], by rw [upd_ne (ne_of_none q hp), q]; simp⟩) (fun m hm => ?_) (fun b v q => ?_) I.bare
      · rcases List.mem_cons.mp hb with rfl | hb
        · exact ⟨e3, e1, e4, e5⟩
        · have : b = it := by simpa using hb
          subst this
          exact ⟨i3, i1, i4, i5⟩
      · obtain ⟨o, es, ep, ho, r⟩ := hm
        exact ⟨o, es, ep, hk2 _ o (Ne.symm e1) (Ne.symm i1) ho, r⟩
      · by_cases hb : b = s.heap.objs.size
        · subst hb
          rw [upd_same] at q
          cases q
          refine ⟨by show 2 ≤ sizeLine; decide, [.int i tk, x0], .cons ⟨_, rfl⟩ (.cons ru .nil), ⟨_, hT2, rfl, 0, rfl⟩⟩
        · rw [upd_ne hb] at q
          refine (I.hok b v q).stay (fun c o hc y => ?_) (fun c y => by rw [upd_ne (ne_of_none y hp)]; exact y) fun c ys y => by rw [upd_ne (ne_of_none y hp)]; exact y
          rcases hc with rfl | hc
          · exact hk2 c o (nt c v q).1 (nt c v q).2 y
          · exact hk2 c o (nt c _ hc).1 (nt c _ hc).2 y
    · have hlt : b < s.heap.objs.size := by
        rcases List.mem_cons.mp hb with rfl | hb
        · exact Heap.lt_size he
        · have : b = it := by simpa using hb
          subst this
          obtain ⟨o, ho, _⟩ := hit
          exact Heap.lt_size ho
      rw [upd_ne (ne_lt hlt (Nat.le_refl _))]
      exact (hf b hb).1
  done := by
    intro X hP hw hK hc i pins s σ H E I hf st hg
    subst hP hw hK
    obtain ⟨⟨old, he⟩, hit⟩ := st
    obtain ⟨xs, hq, hx⟩ := hg
    obtain ⟨its, rv, p, hz⟩ := I.tuple hq
    obtain ⟨i0, i1, i2, i3, i4, i5⟩ := hf it (by simp)
    have hl := rv.length
    have hai : a ≠ it := fun z => by
      obtain ⟨o1, q1, q2, q3⟩ := hit
      obtain ⟨o2, q4, q5, q6⟩ := p
      rw [z, q1] at q4; cases q4; rw [q2] at q5; injection q5 with q7; exact absurd q7 (by decide)
    exact enumT_end (I.ok.hd hc) he hit p hai (by simp; omega) fun h' eb => ⟨rfl, I.turned (t' := s.toks) (fun b o hb e => eb b o hb e) i0 i1 i3 i4 i5⟩
  self := fun _ _ _ _ _ st h => by
    obtain ⟨⟨old, he⟩, _⟩ := st
    exact wpAny_pyIter_enum he h
noncomputable def ienumT (te : TD) : TID := fun ρ st P => te ρ st fun x st1 => match x with
  | .tup xs => P (enumD 0 xs) (fun _ => True) st1
  | _ => False
section
variable {X : Cx} {a : Expr} {elts : List Expr} {x1 : Nat} {tpos pos p : Pos} {te : TD}
theorem di_enumT (hm : X.mg "enumerate" = none) (ha : DE X a te) (hg : Gl X "enumerate") (hs : starEach [a] X.env = [(false, eval a X.env)]) : DI X (.Tuple elts x1 tpos) (.Call (.Name "enumerate" p) [a] [] pos) (ienumT te) := by
  intro pins s σ H R I h
  obtain ⟨φ, st, ρ, P, pre, ht, hq⟩ := h
  refine Call_ (ld_blt I hg hm PyProof.Rows.boot_enumerate (PyProof.Rows.callWith_type1 (thn (da_cons ha da_nil hs pos pins s σ H _ I ⟨φ, st, ρ, (fun ds st1 => match ds with
    | [x] => (match x with
      | .tup xs => P (enumD 0 xs) (fun _ => True) st1
      | _ => False)
    | _ => False), pre, ht, fun ds st1 h1 φ1 H1 vs b1 dl => (show ∃ φ1 st1 ds, Bhd X.K φ st H φ1 st1 H1 ∧ DL X.K φ1 st1.length H1 ds vs ∧ (match ds with
    | [x] => (match x with
      | .tup xs => P (enumD 0 xs) (fun _ => True) st1
      | _ => False)
    | _ => False) from ⟨φ1, st1, ds, b1, dl, h1⟩)⟩) fun us s1 ⟨vs, H1, I1, rv, φ1, st1, ds, b1, dl, h1⟩ => ?_) hs rfl))
  rcases ds with _ | ⟨d, _ | ⟨d2, r⟩⟩
  · exact h1.elim
  rotate_left
  · exact h1.elim
  · obtain ⟨v, rfl, dv⟩ := dl.one
    obtain ⟨u, rfl, ru⟩ := vals1 rv
    cases d with
    | tup xs =>
      have h1 : P (enumD 0 xs) (fun _ => True) st1 := h1
      obtain ⟨a, ws, ev, hs1, dws⟩ := dv.tup
      subst ev
      cases ru
      obtain ⟨its, rvs, pl, hz⟩ := I1.tuple hs1
      refine HT.call_enumT pl fun h' he hit hsz hk => ?_
      refine wpAny_pyIter_enum (s := { s1 with heap := h' }) he ?_
      have I2 : Inv X pins σ H1 { s1 with heap := h' } := I1.kept (t' := s1.toks) hk
      have hei : s1.heap.objs.size + 1 ≠ s1.heap.objs.size := by omega
      refine ⟨s1.heap.objs.size + 1, [s1.heap.objs.size + 1, s1.heap.objs.size], _, _, H1, rfl, I2, turn_enumT a _ _ hei, ⟨⟨_, he⟩, hit⟩, fun b hb => ?_, hq _ _ st1 h1 φ1 H1 _ b1 ?_⟩
      · have hle : s1.heap.objs.size ≤ b := by
          rcases List.mem_cons.mp hb with e | hb
          · rw [e]; exact Nat.le_succ _
          · have e : b = s1.heap.objs.size := by simpa using hb
            rw [e]; exact Nat.le_refl _
        exact I1.fpOk hle (I1.hok.fresh hle)
      · intro i φ' st' H' bh hok hi
        obtain ⟨a', zs, e2, hs', dl'⟩ := (dv.evo bh.2).tup
        cases e2
        have hlen := dl'.length
        rw [enum_len] at hi
        refine ⟨fun e => ⟨zs, hs', by rw [enum_len] at e; omega⟩, fun d ed => ?_⟩
        obtain ⟨d', ed', rfl⟩ := enum_get ed
        obtain ⟨y, ey, dy⟩ := dl'.get ed'
        refine ⟨⟨zs, y, hs', ey⟩, fun y' H2 hy => ?_⟩
        obtain ⟨q, v, hq1, rfl, rfl, hv⟩ := hy
        have := hv zs hs'
        rw [ey] at this
        cases this
        refine ⟨bhd_tup bh.1 hq1, .mkTup (SqT.of upd_same) (.cons ?_ (.cons (dy.evo (evo_new hq1)) .nil))⟩
        rw [Nat.zero_add]
        exact D.mkInt
    | _ => exact h1.elim
end
end L3
namespace L3
open PySem PySem.Spec PyProof.Rows L2
end L3
namespace L3
open PySem PySem.Spec PyProof.Rows L2
section
variable {X : Cx}
noncomputable def tnever : TSD := fun _ _ _ => False
end
end L3
namespace L3
open PySem PySem.Spec PyProof.Rows L2
noncomputable def signsD (z : Str) : List Dt := z.cps.toList.map fun c => .str ⟨#[c]⟩
end L3
namespace HT
open PySem PySem.Spec PyProof.Rows
section
variable {prog : Program} {w : World} {A : Around} {E : Value → Shared → Prop} {s : Shared}
theorem object_init_kw {T newId : String} {self : Value} {rest : List Value} {kw : List (Str × Value)} (h1 : typeLookup (.type T) (Str.ofString "__init__") = pure (some (.builtin "object.__init__"))) (h2 : Bind.madeBy (.type T) = pure (some newId)) (h3 : (some newId != some "object.__new__") = true)
    {Q : Fin → Shared → Prop} (hT : s.TypeIs self T) (hQ : Q (.done (.ret .none)) s) : wpAny (model prog w) A (Builtin.«object.__init__» { pos := self :: rest, kw := kw }) Q E s := by
  unfold Builtin.«object.__init__»
  simp only []
  split
  · refine wpAny_bind (wpAny_typeOf hT ?_)
    refine wpAny_bind (wpAny_of_eq h1 ?_)
    refine wpAny_bind (wpAny_of_eq h2 ?_)
    rw [if_neg (by simp)]
    rw [if_neg (by rw [h3]; simp)]
    exact wpAny_pure hQ
  · exact wpAny_pure hQ
theorem callType_kw {T newId : String} {Bn : Builtin} {args : List Value} {kw : List (Str × Value)} {S : PySem.Spec} {Q : Value → Shared → Prop} (F : TypeCalled T newId "object.__init__") (hne : (some newId != some "object.__new__") = true)
    (h1 : checkTypeCall T { pos := args, kw := kw } = pure ()) (h2 : checkBuiltinCall newId { pos := .type T :: args, kw := kw } = pure ()) (h3 : ∀ obj, argsOk "object.__init__" { pos := obj :: args, kw := kw })
    (he : entryFor table newId = some Bn) (hm : Meets (Bn { pos := .type T :: args, kw := kw }) S) (h : S A.in1 (wants (fun obj s₁ => s₁.TypeIs obj T ∧ Q obj s₁) E) s) : wpAny (model prog w) A (call (.type T) args kw) Q E s := by
  refine wpAny_call (codeAny_of_tree ?_)
  show wpAny _ _ (callAny (.type T) { pos := args, kw := kw }) _ _ s
  refine wpAny_pure ⟨Code.quiet_builtin _ (by decide +kernel), ?_⟩
  refine codeAny_builtin PySem.F.entry_type_call ?_
  rw [Around.under_plain (weight_type_call_type T args kw) rfl]
  unfold Builtin.«type.__call__»
  simp only []
  rw [if_neg (by rw [F.notType]; exact Bool.false_ne_true)]
  rw [if_neg (by rw [F.canCreate]; exact Bool.false_ne_true)]
  refine wpAny_bind (wpAny_of_eq h1 ?_)
  obtain ⟨c, tl, hmro⟩ := F.mro
  refine wpAny_bind (wpAny_of_eq hmro ?_)
  rw [if_neg (by simp)]
  refine wpAny_bind (wpAny_of_eq F.made ?_)
  refine wpAny_bind (wpAny_pure ?_)
  refine wpAny_bind (wpAny_holding (wpAny_call (codeAny_mono (codeAny_call_builtin F.plain he (wpAny_of_eq h2 (hm prog w A.in1 _ s h))) fun r s1 hq => ?_)))
  cases r with
  | error e => exact hq
  | ok f =>
    cases f with
    | ret v =>
      obtain ⟨hT, hq⟩ := hq
      show wpAny _ _ _ _ _ s1
      refine wpAny_bind (wpAny_isInstance hT F.sub ?_)
      rw [if_neg (by simp)]
      refine wpAny_bind (wpAny_holding ?_)
      unfold callSpecial?
      refine wpAny_bind (wpAny_specialOf hT F.init.lookup ?_)
      simp only []
      refine wpAny_holding (wpAny_bind (wpAny_of_eq (F.init.bind v) ?_))
      refine wpAny_bind (wpAny_call (codeAny_call_builtin F.init.plain PySem.F.entry_object_init (F.init.check _ _ _ _ _ _ _ _ hT (h3 v) ?_)))
      refine object_init_kw F.init.lookup F.made hne hT ?_
      refine wpAny_pure ?_
      show wpAny _ _ (if (Value.none != Value.none) = true then _ else _) _ _ _
      rw [if_neg (by simp)]
      exact wpAny_pure hq
    | next => exact False.elim hq
    | brk => exact False.elim hq
    | cont => exact False.elim hq
noncomputable def sgEnum : Manifest.Signature := ⟨.hand, "enumerate.__new__", "__new__", .cls, []⟩
theorem sg_enum : Manifest.signature? "enumerate.__new__" = some sgEnum := rfl
theorem ck_enum1 (a : Value) (x : Str) (v : Value) : Bind.checkArgs "enumerate.__new__" sgEnum { pos := [.type "enumerate", a], kw := [(x, v)] } = pure () := by rfl
theorem ck_enum0 (a : Value) : Bind.checkArgs "enumerate.__new__" sgEnum { pos := [.type "enumerate", a], kw := [] } = pure () := by rfl
theorem new_enum1 (a : Value) (x : Str) (v : Value) : checkBuiltinCall "enumerate.__new__" { pos := [.type "enumerate", a], kw := [(x, v)] } = pure () := by
  have h := PySem.F.newCall_enumerate_1 a
  unfold checkBuiltinCall at h ⊢
  rw [sg_enum] at h ⊢
  simp only [ck_enum0 a] at h
  simp only [ck_enum1 a x v]
  exact h
end
theorem meets_enumT1 (l : Addr) (items : Array Value) (n : Nat) (dct : Option Addr) (sl : Array (Option Value)) (t : Tok) :
    Meets (Builtin.«enumerate.__new__» ⟨[.type "enumerate", .ref l], [(Str.ofString "start", .int 1 t)]⟩) (fun _ R s => s.heap.get? l = some { cls := .type "tuple", dict := dct, data := .seq items n, slots := sl } ∧
      R (.ok (.ret (.ref (s.heap.push { cls := .type "tuple_iterator", data := .fields #[.ref l, .int 0 0] }).objs.size)))
        { s with heap := (s.heap.push { cls := .type "tuple_iterator", data := .fields #[.ref l, .int 0 0] }).push { cls := .type "enumerate", data := .fields #[.none, .bool false, .ref s.heap.objs.size, rawInt 1, .none, .none] } }) :=
  .of_wp fun prog w A R s h => by
    obtain ⟨hp, g, d, tk, os⟩ := s; obtain ⟨hl, h⟩ := h
    have hsub := sub_enumerate
    have hT : IsTup (Shared.heap ⟨hp, g, d, tk, os⟩) l items := ⟨_, hl, rfl, n, rfl⟩
    wp_walk using AutoSeq1.wpAny_loadPart' hl
    refine wpAny_stack_any fun st => wpAny_pure ?_
    split
    · rename_i c _ _ _ _ _
      cases (c == Value.type "enumerate")
      · wp_walk using AutoSeq1.wpAny_loadPart' hl, iter_tuple hT
        exact ⟨_, rfl, h⟩
      · wp_walk using AutoSeq1.wpAny_loadPart' hl, iter_tuple hT
        exact ⟨_, rfl, h⟩
    · wp_walk using AutoSeq1.wpAny_loadPart' hl, iter_tuple hT
      exact ⟨_, rfl, h⟩
section
variable {prog : Program} {w : World} {A : Around} {E : Value → Shared → Prop} {s : Shared}
theorem call_enumT1 {l : Addr} {items : Array Value} {t : Tok} {Q : Value → Shared → Prop} (hT : IsTup s.heap l items)
    (h : ∀ h', IsEnum h' (s.heap.objs.size + 1) s.heap.objs.size 1 .none → IsTupIter h' s.heap.objs.size l 0 → h'.objs.size = s.heap.objs.size + 2 → (∀ b o, s.heap.get? b = some o → h'.get? b = some o) → Q (.ref (s.heap.objs.size + 1)) { s with heap := h' }) :
    wpAny (model prog w) A (call (.type "enumerate") [.ref l] [(Str.ofString "start", .int 1 t)]) Q E s := by
  obtain ⟨⟨c, dct, dt, sl⟩, hl, hc, n, hd⟩ := hT
  replace hc : c = .type "tuple" := hc
  replace hd : dt = .seq items n := hd
  subst hc hd
  refine callType_kw F.called_enumerate (by decide) (by rfl) (new_enum1 _ _ _) (fun obj => by rfl) F.entry_enumerate_new (meets_enumT1 l items n dct sl t) ⟨hl, ?_⟩
  have hz : (s.heap.push { cls := .type "tuple_iterator", data := .fields #[.ref l, .int 0 0] }).objs.size = s.heap.objs.size + 1 := Heap.size_push ..
  show _ ∧ _
  rw [hz]
  have he : IsEnum ((s.heap.push { cls := .type "tuple_iterator", data := .fields #[.ref l, .int 0 0] }).push { cls := .type "enumerate", data := .fields #[.none, .bool false, .ref s.heap.objs.size, rawInt 1, .none, .none] }) (s.heap.objs.size + 1) s.heap.objs.size 1 .none := by
    have q := Heap.get?_push_size (s.heap.push { cls := .type "tuple_iterator", data := .fields #[.ref l, .int 0 0] }) (o := { cls := .type "enumerate", data := .fields #[.none, .bool false, .ref s.heap.objs.size, rawInt 1, .none, .none] }) rfl
    rw [hz] at q; exact q
  exact ⟨⟨_, he, rfl⟩, h _ he ⟨_, Heap.get?_push_of_some _ (Heap.get?_push_size _ rfl), rfl, rfl⟩ (by rw [Heap.size_push, hz]) fun b o x => Heap.get?_push_of_some _ (Heap.get?_push_of_some _ x)⟩
end
theorem meets_enumL1 (l : Addr) (items : Array Value) (n : Nat) (dct : Option Addr) (sl : Array (Option Value)) (t : Tok) :
    Meets (Builtin.«enumerate.__new__» ⟨[.type "enumerate", .ref l], [(Str.ofString "start", .int 1 t)]⟩) (fun _ R s => s.heap.get? l = some { cls := .type "list", dict := dct, data := .seq items n, slots := sl } ∧
      R (.ok (.ret (.ref (s.heap.push { cls := .type "list_iterator", data := .fields #[.ref l, .int 0 0] }).objs.size)))
        { s with heap := (s.heap.push { cls := .type "list_iterator", data := .fields #[.ref l, .int 0 0] }).push { cls := .type "enumerate", data := .fields #[.none, .bool false, .ref s.heap.objs.size, rawInt 1, .none, .none] } }) :=
  .of_wp fun prog w A R s h => by
    obtain ⟨hp, g, d, tk, os⟩ := s; obtain ⟨hl, h⟩ := h
    have hsub := sub_enumerate
    have hT : Heap.IsList (Shared.heap ⟨hp, g, d, tk, os⟩) l items := ⟨_, hl, rfl, n, rfl⟩
    wp_walk using AutoSeq1.wpAny_loadPart' hl
    refine wpAny_stack_any fun st => wpAny_pure ?_
    split
    · rename_i c _ _ _ _ _
      cases (c == Value.type "enumerate")
      · wp_walk using AutoSeq1.wpAny_loadPart' hl, wpAny_pyIter_list hT
        exact ⟨_, rfl, h⟩
      · wp_walk using AutoSeq1.wpAny_loadPart' hl, wpAny_pyIter_list hT
        exact ⟨_, rfl, h⟩
    · wp_walk using AutoSeq1.wpAny_loadPart' hl, wpAny_pyIter_list hT
      exact ⟨_, rfl, h⟩
section
variable {prog : Program} {w : World} {A : Around} {E : Value → Shared → Prop} {s : Shared}
theorem call_enumL1 {l : Addr} {items : Array Value} {t : Tok} {Q : Value → Shared → Prop} (hT : Heap.IsList s.heap l items)
    (h : ∀ h', IsEnum h' (s.heap.objs.size + 1) s.heap.objs.size 1 .none → Heap.IsListIter h' s.heap.objs.size l 0 → h'.objs.size = s.heap.objs.size + 2 → (∀ b o, s.heap.get? b = some o → h'.get? b = some o) → Q (.ref (s.heap.objs.size + 1)) { s with heap := h' }) :
    wpAny (model prog w) A (call (.type "enumerate") [.ref l] [(Str.ofString "start", .int 1 t)]) Q E s := by
  obtain ⟨⟨c, dct, dt, sl⟩, hl, hc, n, hd⟩ := hT
  replace hc : c = .type "list" := hc
  replace hd : dt = .seq items n := hd
  subst hc hd
  refine callType_kw F.called_enumerate (by decide) (by rfl) (new_enum1 _ _ _) (fun obj => by rfl) F.entry_enumerate_new (meets_enumL1 l items n dct sl t) ⟨hl, ?_⟩
  have hz : (s.heap.push { cls := .type "list_iterator", data := .fields #[.ref l, .int 0 0] }).objs.size = s.heap.objs.size + 1 := Heap.size_push ..
  show _ ∧ _
  rw [hz]
  have he : IsEnum ((s.heap.push { cls := .type "list_iterator", data := .fields #[.ref l, .int 0 0] }).push { cls := .type "enumerate", data := .fields #[.none, .bool false, .ref s.heap.objs.size, rawInt 1, .none, .none] }) (s.heap.objs.size + 1) s.heap.objs.size 1 .none := by
    have q := Heap.get?_push_size (s.heap.push { cls := .type "list_iterator", data := .fields #[.ref l, .int 0 0] }) (o := { cls := .type "enumerate", data := .fields #[.none, .bool false, .ref s.heap.objs.size, rawInt 1, .none, .none] }) rfl
    rw [hz] at q; exact q
  exact ⟨⟨_, he, rfl⟩, h _ he ⟨_, Heap.get?_push_of_some _ (Heap.get?_push_size _ rfl), rfl, rfl⟩ (by rw [Heap.size_push, hz]) fun b o x => Heap.get?_push_of_some _ (Heap.get?_push_of_some _ x)⟩
end
end HT
namespace L3
open PySem PySem.Spec PyProof.Rows L2
theorem draws_shift {prog : Program} {w : World} {A : Around} {it : Addr} {fp : List Addr} {n : Nat} {P : Nat → Value → Prop} {St : Nat → Heap → Prop} (h : Draws prog w A it fp n P St) :
    Draws prog w A it fp (n + 1) (fun i v => ∃ j, i = j + 1 ∧ P j v) (fun i hp => ∃ j, i = j + 1 ∧ St j hp) where
  live := fun i hp ⟨j, _, st⟩ => h.live j hp st
  frame := fun i hp hp' ⟨j, e, st⟩ hk => ⟨j, e, h.frame j hp hp' st hk⟩
  item := fun i s Q E hi ⟨j, e, st⟩ hQ => h.item j s Q E (by omega) st fun x h' tk hp st' sb => hQ x h' tk ⟨j, e, hp⟩ ⟨j + 1, by omega, st'⟩ sb
  done := fun s Q E ⟨j, e, st⟩ hE => h.done s Q E (by have : n = j := by omega
                                                      subst this; exact st) hE
theorem enumT_endG {prog : Program} {w : World} {A : Around} {E : Value → Shared → Prop} {s : Shared} {e it t : Addr} {i : Nat} {old : Value} {items : Array Value} {Q : Option Value → Shared → Prop} (hh : A.handled = none) {z : Int} (he : IsEnum s.heap e it z old) (hit : IsTupIter s.heap it t i) (ht : IsTup s.heap t items) (hne : t ≠ it) (hn : items.size ≤ i)
    (hQ : ∀ h', Heap.ExtBut it s.heap h' → Q none { s with heap := h' }) : wpAny (model prog w) A (pyNext (.ref e)) Q E s := by
  have hT : s.TypeIs (.ref e) "enumerate" := ⟨_, he, rfl⟩
  unfold pyNext
  refine wpAny_bind (wpAny_attempt (wpAny_callSpecial?_slot (name := Str.ofString "__next__") hT F.slot_enumerate_next (wpAny_call_entry F.slot_enumerate_next hT F.entry_enumerate_next ?_ (F.args_enumerate_next_1 _))))
  show wpAny _ _ (field (.ref e) 2 >>= _) _ _ _
  refine wpAny_bind (wpAny_field he rfl (x := .ref it) rfl (wpAny_bind (HT.nextOf_tup_end (A := A.in1) hh hit ht (by simp; omega) fun h' x he' hx' => ?_)))
  obtain ⟨o, ho, hc⟩ := hx'
  exact wpAny_bind (wpAny_isInstance (T := "StopIteration") (b := true) ⟨o, ho, hc⟩ isSubtype_stop (wpAny_pure (hQ _ he')))
theorem enumL_endG {prog : Program} {w : World} {A : Around} {E : Value → Shared → Prop} {s : Shared} {e it t : Addr} {i : Nat} {old : Value} {items : Array Value} {Q : Option Value → Shared → Prop} (hh : A.handled = none) {z : Int} (he : IsEnum s.heap e it z old) (hit : s.heap.IsListIter it t i) (ht : s.heap.IsList t items) (hne : t ≠ it) (hn : items.size ≤ i)
    (hQ : ∀ h', Heap.ExtBut it s.heap h' → Q none { s with heap := h' }) : wpAny (model prog w) A (pyNext (.ref e)) Q E s := by
  have hT : s.TypeIs (.ref e) "enumerate" := ⟨_, he, rfl⟩
  unfold pyNext
  refine wpAny_bind (wpAny_attempt (wpAny_callSpecial?_slot (name := Str.ofString "__next__") hT F.slot_enumerate_next (wpAny_call_entry F.slot_enumerate_next hT F.entry_enumerate_next ?_ (F.args_enumerate_next_1 _))))
  show wpAny _ _ (field (.ref e) 2 >>= _) _ _ _
  refine wpAny_bind (wpAny_field he rfl (x := .ref it) rfl (wpAny_bind (wpAny_nextOf_list_end (A := A.in1) hh hit ht (by simp; omega) fun h' x he' hx' => ?_)))
  obtain ⟨o, ho, hc⟩ := hx'
  exact wpAny_bind (wpAny_isInstance (T := "StopIteration") (b := true) ⟨o, ho, hc⟩ isSubtype_stop (wpAny_pure (hQ _ he')))
noncomputable def IteT1 (K : PySem.W.Frag) (a : Addr) : It :=
  ⟨fun i H => ∃ xs x, SqT K H a xs ∧ xs[i]? = some x, fun i H x H' => ∃ p v, H p = none ∧ H' = upd H p (.tup [.int ((i + 1 : Nat) : Int), v]) ∧ x = .ref p ∧ ∀ xs, SqT K H a xs → xs[i]? = some v, fun i H => ∃ xs, SqT K H a xs ∧ xs.length ≤ i⟩
theorem turn_enumT1 {P : Program} {w : World} {K : PySem.W.Frag} {elts : List Expr} {x1} {pos : Pos} (a e it : Addr) (hei : e ≠ it) :
    Turn P w K (.Tuple elts x1 pos) (IteT1 K a) [e, it] e (fun i h => (∃ old, IsEnum h e it ((i + 1 : Nat) : Int) old) ∧ IsTupIter h it a i) where
  mem := by simp
  obj := fun i h st b hb => by
    obtain ⟨⟨old, he⟩, o, ho, hc, hd⟩ := st
    rcases List.mem_cons.mp hb with rfl | hb
    · exact ⟨_, he, fun v z => by
        have z' : Data.fields _ = Data.cell v := z
        cases z'⟩
    · have : b = it := by simpa using hb
      subst this
      exact ⟨o, ho, fun v z => by rw [hd] at z; cases z⟩
  keep := fun i h h' st k => by
    obtain ⟨⟨old, he⟩, hit⟩ := st
    exact ⟨⟨old, k e (by simp) _ he⟩, tupIter_at hit fun o x => k it (by simp) o x⟩
  item := by
    intro X hP hw hK hc i pins s σ H E I hf st hg
    subst hP hw hK
    obtain ⟨⟨old, he⟩, hit⟩ := st
    obtain ⟨xs, x, hq, hx⟩ := hg
    obtain ⟨its, rv, p, hz⟩ := I.tuple hq
    obtain ⟨u, hu, ru⟩ := rv.get hx
    obtain ⟨e0, e1, e2, e3, e4, e5⟩ := hf e (by simp)
    obtain ⟨i0, i1, i2, i3, i4, i5⟩ := hf it (by simp)
    have hit0 := hit
    have hai : a ≠ it := fun z => by
      obtain ⟨o1, q1, q2, q3⟩ := hit
      obtain ⟨o2, q4, q5, q6⟩ := p
      rw [z, q1] at q4; cases q4; rw [q2] at q5; injection q5 with q7; exact absurd q7 (by decide)
    have hea : e ≠ a := fun z => by
      obtain ⟨o2, q4, q5, q6⟩ := p
      rw [← z, he] at q4; cases q4; injection q5 with q7; exact absurd q7 (by decide)
    refine wpAny_pyNext_enum_itemD (i := i + 1) (draws_shift (HT.draws_tup (A := X.A.in1) (I.ok.hd hc) it a hai its.toArray)) he ⟨i, rfl, hit, p⟩ (by have := (Array.getElem?_eq_some_iff.mp (show its.toArray[i]? = some u by simpa using hu)); exact Nat.succ_lt_succ this.1) hei (by simp; exact ⟨hei, hea⟩) fun x0 h' tk hx0 ho hst' hT hsz hk => ?_
    have hxu : x0 = u := by
      have q : its.toArray[i]? = some u := by simpa using hu
      obtain ⟨j0, ej0, hx0⟩ := hx0
      have ej0 : i = j0 := by omega
      subst ej0
      have hx0 : its.toArray[i]? = some x0 := hx0
      rw [q] at hx0; exact (Option.some.inj hx0).symm
    subst hxu
    obtain ⟨j1, ej1, hit', hp'⟩ := hst'
    have ej1 : j1 = i + 1 := by omega
    subst ej1
    refine ⟨_, rfl, wpAny_letOwnedTupleGo_enum (s := { s with heap := h', toks := tk + 1 }) ho fun h2 he2 hs2 => ?_⟩
    have hT2 : h2.get? s.heap.objs.size = some { cls := .type "tuple", data := .seq #[.int ((i + 1 : Nat) : Int) tk, x0] } := (hs2.2 _ (Ne.symm (ne_lt (Heap.lt_size he) (Nat.le_refl _)))).trans hT
    have hk2 : ∀ b o, b ≠ e → b ≠ it → s.heap.get? b = some o → h2.get? b = some o := fun b o hb hb2 q => (hs2.2 b hb).trans (hk b o hb hb2 q)
    have hp : H s.heap.objs.size = none := I.hok.fresh (Nat.le_refl _)
    have nt : ∀ b v, H b = some v → b ≠ e ∧ b ≠ it := fun b v q => ⟨fun z => (by rw [z, e0] at q; cases q), fun z => (by rw [z, i0] at q; cases q)⟩
    refine ⟨.ref s.heap.objs.size, upd H s.heap.objs.size (.tup [.int ((i + 1 : Nat) : Int), x]), ?_, rfl, ⟨_, x, hp, rfl, rfl, fun ys hy => by rw [I.tuple_inj hy hq]; exact hx⟩, ⟨⟨x0, by simpa using he2⟩, tupIter_at hit' fun o y => (hs2.2 it hei.symm).trans y⟩, fun b hb => ?_⟩
    · show Inv X pins σ _ { s with heap := h2, gens := s.gens, drawn := s.drawn, toks := tk + 1 }
      refine Inv.step (s := s) (h' := h2) (g' := s.gens) (d' := s.drawn) (t' := tk + 1) (ch := [e, it]) I (fun b hb => ?_) (fun b o _ _ hc q _ => hk2 b o (fun z => hc (by simp [z])) (fun z => hc (by simp [z])) q) (fun b o _ _ hc q _ => ⟨o.slots, hk2 b o (fun z => hc (by simp [z])) (fun z => hc (by simp [z])) q⟩)
        (fun b o _ q n => by rw [upd_ne (ne_lt (Heap.lt_size q) (Nat.le_refl _))]; exact n) (fun b o hc q => ⟨o, hk2 b o (fun z => hc (by simp [z])) (fun z => hc (by simp [z])) q⟩)
        (fun b ys q => by rw [upd_ne (ne_of_none q hp)]; exact q) (fun b o v q => by rw [upd_ne (ne_of_none q hp)]; exact q) (fun b ps q => ⟨#[], by rw [upd_ne (ne_of_none q hp), q]; simp⟩) (fun m hm => ?_) (fun b v q => ?_) I.bare
      · rcases List.mem_cons.mp hb with rfl | hb
        · exact ⟨e3, e1, e4, e5⟩
        · have : b = it := by simpa using hb
          subst this
          exact ⟨i3, i1, i4, i5⟩
      · obtain ⟨o, es, ep, ho, r⟩ := hm
        exact ⟨o, es, ep, hk2 _ o (Ne.symm e1) (Ne.symm i1) ho, r⟩
      · by_cases hb : b = s.heap.objs.size
        · subst hb
          rw [upd_same] at q
          cases q
          refine ⟨by show 2 ≤ sizeLine; decide, [.int ((i + 1 : Nat) : Int) tk, x0], .cons ⟨_, rfl⟩ (.cons ru .nil), ⟨_, hT2, rfl, 0, rfl⟩⟩
        · rw [upd_ne hb] at q
          refine (I.hok b v q).stay (fun c o hc y => ?_) (fun c y => by rw [upd_ne (ne_of_none y hp)]; exact y) fun c ys y => by rw [upd_ne (ne_of_none y hp)]; exact y
          rcases hc with rfl | hc
          · exact hk2 c o (nt c v q).1 (nt c v q).2 y
          · exact hk2 c o (nt c _ hc).1 (nt c _ hc).2 y
    · have hlt : b < s.heap.objs.size := by
        rcases List.mem_cons.mp hb with rfl | hb
        · exact Heap.lt_size he
        · have : b = it := by simpa using hb
          subst this
          obtain ⟨o, ho, _⟩ := hit
          exact Heap.lt_size ho
      rw [upd_ne (ne_lt hlt (Nat.le_refl _))]
      exact (hf b hb).1
  done := by
    intro X hP hw hK hc i pins s σ H E I hf st hg
    subst hP hw hK
    obtain ⟨⟨old, he⟩, hit⟩ := st
    obtain ⟨xs, hq, hx⟩ := hg
    obtain ⟨its, rv, p, hz⟩ := I.tuple hq
    obtain ⟨i0, i1, i2, i3, i4, i5⟩ := hf it (by simp)
    have hl := rv.length
    have hai : a ≠ it := fun z => by
      obtain ⟨o1, q1, q2, q3⟩ := hit
      obtain ⟨o2, q4, q5, q6⟩ := p
      rw [z, q1] at q4; cases q4; rw [q2] at q5; injection q5 with q7; exact absurd q7 (by decide)
    exact enumT_endG (I.ok.hd hc) he hit p hai (by simp; omega) fun h' eb => ⟨rfl, I.turned (t' := s.toks) (fun b o hb e => eb b o hb e) i0 i1 i3 i4 i5⟩
  self := fun _ _ _ _ _ st h => by
    obtain ⟨⟨old, he⟩, _⟩ := st
    exact wpAny_pyIter_enum he h
noncomputable def IteL1 (K : PySem.W.Frag) (a : Addr) : It :=
  ⟨fun i H => ∃ xs x, SqL K H a xs ∧ xs[i]? = some x, fun i H x H' => ∃ p v, H p = none ∧ H' = upd H p (.tup [.int ((i + 1 : Nat) : Int), v]) ∧ x = .ref p ∧ ∀ xs, SqL K H a xs → xs[i]? = some v, fun i H => ∃ xs, SqL K H a xs ∧ xs.length ≤ i⟩
theorem turn_enumL1 {P : Program} {w : World} {K : PySem.W.Frag} {elts : List Expr} {x1} {pos : Pos} (a e it : Addr) (hei : e ≠ it) :
    Turn P w K (.Tuple elts x1 pos) (IteL1 K a) [e, it] e (fun i h => (∃ old, IsEnum h e it ((i + 1 : Nat) : Int) old) ∧ h.IsListIter it a i) where
  mem := by simp
  obj := fun i h st b hb => by
    obtain ⟨⟨old, he⟩, o, ho, hc, hd⟩ := st
    rcases List.mem_cons.mp hb with rfl | hb
    · exact ⟨_, he, fun v z => by
        have z' : Data.fields _ = Data.cell v := z
        cases z'⟩
    · have : b = it := by simpa using hb
      subst this
      exact ⟨o, ho, fun v z => by rw [hd] at z; cases z⟩
  keep := fun i h h' st k => by
    obtain ⟨⟨old, he⟩, hit⟩ := st
    exact ⟨⟨old, k e (by simp) _ he⟩, hit.at fun o x => k it (by simp) o x⟩
  item := by
    intro X hP hw hK hc i pins s σ H E I hf st hg
    subst hP hw hK
    obtain ⟨⟨old, he⟩, hit⟩ := st
    obtain ⟨xs, x, hq, hx⟩ := hg
    obtain ⟨its, rv, p, hz⟩ := I.list hq
    obtain ⟨u, hu, ru⟩ := rv.get hx
    obtain ⟨e0, e1, e2, e3, e4, e5⟩ := hf e (by simp)
    obtain ⟨i0, i1, i2, i3, i4, i5⟩ := hf it (by simp)
    have hit0 := hit
    have hai : a ≠ it := fun z => by
      obtain ⟨o1, q1, q2, q3⟩ := hit
      obtain ⟨o2, q4, q5, q6⟩ := p.isList
      rw [z, q1] at q4; cases q4; rw [q2] at q5; injection q5 with q7; exact absurd q7 (by decide)
    have hea : e ≠ a := fun z => by
      obtain ⟨o2, q4, q5, q6⟩ := p.isList
      rw [← z, he] at q4; cases q4; injection q5 with q7; exact absurd q7 (by decide)
    refine wpAny_pyNext_enum_itemD (i := i + 1) (draws_shift (Draws.list (A := X.A.in1) (I.ok.hd hc) it a hai its.toArray)) he ⟨i, rfl, hit, p.isList⟩ (by have := (Array.getElem?_eq_some_iff.mp (show its.toArray[i]? = some u by simpa using hu)); exact Nat.succ_lt_succ this.1) hei (by simp; exact ⟨hei, hea⟩) fun x0 h' tk hx0 ho hst' hT hsz hk => ?_
    have hxu : x0 = u := by
      have q : its.toArray[i]? = some u := by simpa using hu
      obtain ⟨j0, ej0, hx0⟩ := hx0
      have ej0 : i = j0 := by omega
      subst ej0
      have hx0 : its.toArray[i]? = some x0 := hx0
      rw [q] at hx0; exact (Option.some.inj hx0).symm
    subst hxu
    obtain ⟨j1, ej1, hit', hp'⟩ := hst'
    have ej1 : j1 = i + 1 := by omega
    subst ej1
    refine ⟨_, rfl, wpAny_letOwnedTupleGo_enum (s := { s with heap := h', toks := tk + 1 }) ho fun h2 he2 hs2 => ?_⟩
    have hT2 : h2.get? s.heap.objs.size = some { cls := .type "tuple", data := .seq #[.int ((i + 1 : Nat) : Int) tk, x0] } := (hs2.2 _ (Ne.symm (ne_lt (Heap.lt_size he) (Nat.le_refl _)))).trans hT
    have hk2 : ∀ b o, b ≠ e → b ≠ it → s.heap.get? b = some o → h2.get? b = some o := fun b o hb hb2 q => (hs2.2 b hb).trans (hk b o hb hb2 q)
    have hp : H s.heap.objs.size = none := I.hok.fresh (Nat.le_refl _)
    have nt : ∀ b v, H b = some v → b ≠ e ∧ b ≠ it := fun b v q => ⟨fun z => (by rw [z, e0] at q; cases q), fun z => (by rw [z, i0] at q; cases q)⟩
    refine ⟨.ref s.heap.objs.size, upd H s.heap.objs.size (.tup [.int ((i + 1 : Nat) : Int), x]), ?_, rfl, ⟨_, x, hp, rfl, rfl, fun ys hy => by rw [I.list_inj hy hq]; exact hx⟩, ⟨⟨x0, by simpa using he2⟩, hit'.at fun o y => (hs2.2 it hei.symm).trans y⟩, fun b hb => ?_⟩
    · show Inv X pins σ _ { s with heap := h2, gens := s.gens, drawn := s.drawn, toks := tk + 1 }
      refine Inv.step (s := s) (h' := h2) (g' := s.gens) (d' := s.drawn) (t' := tk + 1) (ch := [e, it]) I (fun b hb => ?_) (fun b o _ _ hc q _ => hk2 b o (fun z => hc (by simp [z])) (fun z => hc (by simp [z])) q) (fun b o _ _ hc q _ => ⟨o.slots, hk2 b o (fun z => hc (by simp [z])) (fun z => hc (by simp [z])) q⟩)
        (fun b o _ q n => by rw [upd_ne (ne_lt (Heap.lt_size q) (Nat.le_refl _))]; exact n) (fun b o hc q => ⟨o, hk2 b o (fun z => hc (by simp [z])) (fun z => hc (by simp [z])) q⟩)
        (fun b ys q => by rw [upd_ne (ne_of_none q hp)]; exact q) (fun b o v q => by rw [upd_ne (ne_of_none q hp)]; exact q) (fun b ps q => ⟨#[], by rw [upd_ne (ne_of_none q hp), q]; simp⟩) (fun m hm => ?_) (fun b v q => ?_) I.bare
      · rcases List.mem_cons.mp hb with rfl | hb
        · exact ⟨e3, e1, e4, e5⟩
        · have : b = it := by simpa using hb
          subst this
          exact ⟨i3, i1, i4, i5⟩
      · obtain ⟨o, es, ep, ho, r⟩ := hm
        exact ⟨o, es, ep, hk2 _ o (Ne.symm e1) (Ne.symm i1) ho, r⟩
      · by_cases hb : b = s.heap.objs.size
        · subst hb
          rw [upd_same] at q
          cases q
          refine ⟨by show 2 ≤ sizeLine; decide, [.int ((i + 1 : Nat) : Int) tk, x0], .cons ⟨_, rfl⟩ (.cons ru .nil), ⟨_, hT2, rfl, 0, rfl⟩⟩
        · rw [upd_ne hb] at q
          refine (I.hok b v q).stay (fun c o hc y => ?_) (fun c y => by rw [upd_ne (ne_of_none y hp)]; exact y) fun c ys y => by rw [upd_ne (ne_of_none y hp)]; exact y
          rcases hc with rfl | hc
          · exact hk2 c o (nt c v q).1 (nt c v q).2 y
          · exact hk2 c o (nt c _ hc).1 (nt c _ hc).2 y
    · have hlt : b < s.heap.objs.size := by
        rcases List.mem_cons.mp hb with rfl | hb
        · exact Heap.lt_size he
        · have : b = it := by simpa using hb
          subst this
          obtain ⟨o, ho, _⟩ := hit
          exact Heap.lt_size ho
      rw [upd_ne (ne_lt hlt (Nat.le_refl _))]
      exact (hf b hb).1
  done := by
    intro X hP hw hK hc i pins s σ H E I hf st hg
    subst hP hw hK
    obtain ⟨⟨old, he⟩, hit⟩ := st
    obtain ⟨xs, hq, hx⟩ := hg
    obtain ⟨its, rv, p, hz⟩ := I.list hq
    obtain ⟨i0, i1, i2, i3, i4, i5⟩ := hf it (by simp)
    have hl := rv.length
    have hai : a ≠ it := fun z => by
      obtain ⟨o1, q1, q2, q3⟩ := hit
      obtain ⟨o2, q4, q5, q6⟩ := p.isList
      rw [z, q1] at q4; cases q4; rw [q2] at q5; injection q5 with q7; exact absurd q7 (by decide)
    exact enumL_endG (I.ok.hd hc) he hit p.isList hai (by simp; omega) fun h' eb => ⟨rfl, I.turned (t' := s.toks) (fun b o hb e => eb b o hb e) i0 i1 i3 i4 i5⟩
  self := fun _ _ _ _ _ st h => by
    obtain ⟨⟨old, he⟩, _⟩ := st
    exact wpAny_pyIter_enum he h
theorem callWith_typeK {M : Model} {A : Around} {E : Value → Shared → Prop} {s : Shared} {pos : Pos} {T : String} {m : Sem Value} {kws : List (Option Str × Sem Value)} {Q : Value → Shared → Prop}
  (hall : kws.all (·.1.isSome) = true) (hno : kws.any (·.1.isNone) = false)
  (h : wpAny M A (spliced [(false, m)]) (fun vs s1 => wpAny M A (evalAll (kws.map (·.2))) (fun ks s2 => wpAny M A (call (.type T) vs ((kws.filterMap (·.1)).zip ks)) Q E s2) E s1) E s) :
  wpAny M A (callWith pos (.type T) [] [(false, m)] kws) Q E s := by
  unfold callWith
  refine wpAny_bind (wpAny_holding ?_)
  unfold evalArgs
  simp only []
  refine wpAny_bind (wpAny_mono h (fun vs s1 h1 => ?_) (fun e s' h => h))
  refine wpAny_bind (wpAny_pure ?_)
  refine wpAny_holding ?_
  rw [if_pos hall]
  refine wpAny_bind (wpAny_mono h1 (fun ks s2 h2 => ?_) (fun e s' h => h))
  refine wpAny_bind (wpAny_pure ?_)
  refine wpAny_pure ?_
  refine wpAny_bind (wpAny_standAt ?_)
  refine wpAny_bind ?_
  simp only [keeperOf]
  refine wpAny_pure ?_
  have e1 : ([(false, m)].any fun x => x.fst) = false := rfl
  simp only [e1, hno, Bool.or_false]
  exact wpAny_bind (wpAny_mono h2 (fun r s3 h3 => wpAny_bind (wpAny_holding (wpAny_point (wpAny_pure h3)))) (fun e s' h => h))
noncomputable def ienum1 (te : TD) : TID := fun ρ st P => te ρ st fun x st1 => match x with
  | .tup xs => P (enumD 1 xs) (fun _ => True) st1
  | .lst n => (match st1[n]? with
    | some o => P (enumD 1 o.items) (fun st' => (st'[n]?).map SO.items = some o.items) st1
    | none => False)
  | _ => False
section
variable {X : Cx} {a e2 : Expr} {elts : List Expr} {x1 : Nat} {tpos pos p kp : Pos} {te : TD}
theorem di_enum1 (hm : X.mg "enumerate" = none) (ha : DE X a te) (hb : DE X e2 (tcon (.int 1))) (hg : Gl X "enumerate") (hs : starEach [a] X.env = [(false, eval a X.env)])
    (hall : (backToKw pos (keywordEach [⟨some "start", e2, kp⟩] X.env)).all (·.1.isSome) = true) (hks : (backToKw pos (keywordEach [⟨some "start", e2, kp⟩] X.env)).filterMap (·.1) = [Str.ofString "start"])
    (hpl : (backToKw pos (keywordEach [⟨some "start", e2, kp⟩] X.env)).any (·.1.isNone) = false) (hbk : ∃ m, backTo pos [(false, eval a X.env)] = [(false, m)]) :
    DI X (.Tuple elts x1 tpos) (.Call (.Name "enumerate" p) [a] [⟨some "start", e2, kp⟩] pos) (ienum1 te) := by
  intro pins s σ H R I h
  obtain ⟨φ, st, ρ, P, pre, ht, hq⟩ := h
  refine wpAny_Call_Name_kw (ld_blt I hg hm PyProof.Rows.boot_enumerate ?_ (by decide) (by decide))
  have hA := da_cons ha da_nil hs pos pins s σ H _ I ⟨φ, st, ρ, (fun ds st1 => match ds with
    | [x] => (match x with
      | .tup xs => P (enumD 1 xs) (fun _ => True) st1
      | .lst n => (match st1[n]? with
        | some o => P (enumD 1 o.items) (fun st' => (st'[n]?).map SO.items = some o.items) st1
        | none => False)
      | _ => False)
    | _ => False), pre, ht, fun ds st1 h1 φ1 H1 vs b1 dl => (show ∃ φ1 st1 ds, Bhd X.K φ st H φ1 st1 H1 ∧ DL X.K φ1 st1.length H1 ds vs ∧ (match ds with
    | [x] => (match x with
      | .tup xs => P (enumD 1 xs) (fun _ => True) st1
      | .lst n => (match st1[n]? with
        | some o => P (enumD 1 o.items) (fun st' => (st'[n]?).map SO.items = some o.items) st1
        | none => False)
      | _ => False)
    | _ => False) from ⟨φ1, st1, ds, b1, dl, h1⟩)⟩
  obtain ⟨mv, hbk⟩ := hbk
  rw [hs, hbk] at hA ⊢
  refine callWith_typeK hall hpl (thn hA fun us s1 ⟨vs, H1, I1, rv, φ1, st1, ds, b1, dl, h1⟩ => ?_)
  refine thn (pk_cons hb pk_nil pos pins s1 σ H1 (fun zs H2 => ∃ φ2, Bhd X.K φ1 st1 H1 φ2 st1 H2 ∧ zs = [V.int 1]) I1 ⟨φ1, st1, ρ, (fun d st2 => st2 = st1 ∧ d = .int 1), pre.on b1, ⟨rfl, rfl⟩, fun d st2 h2 φ2 H2 v b2 dv => (by
    obtain ⟨rfl, rfl⟩ := h2
    exact ⟨φ2, b2, by rw [dv.int]⟩)⟩) fun ws s2 ⟨zs, H2, I2, rz, φ2, b2, ez⟩ => ?_
  subst ez
  obtain ⟨w1, rfl, t1, rfl⟩ := vals1 rz
  rw [hks]
  show wpAny _ _ (call (.type "enumerate") us [(Str.ofString "start", Value.int 1 t1)]) _ _ s2
  have b12 := b1.trans b2
  have dl2 := dl.evo b2.2
  rcases ds with _ | ⟨d, _ | ⟨d2, r⟩⟩
  · exact h1.elim
  rotate_left
  · exact h1.elim
  · obtain ⟨v, rfl, dv⟩ := dl2.one
    obtain ⟨u, rfl, ru⟩ := vals1 rv
    cases d with
    | tup xs =>
      have h1 : P (enumD 1 xs) (fun _ => True) st1 := h1
      obtain ⟨a, ws, ev, hs1, dws⟩ := dv.tup
      subst ev
      cases ru
      obtain ⟨its, rvs, pl, hz⟩ := I2.tuple hs1
      refine HT.call_enumT1 pl fun h' he hit hsz hk => ?_
      refine wpAny_pyIter_enum (s := { s2 with heap := h' }) he ?_
      have I3 : Inv X pins σ H2 { s2 with heap := h' } := I2.kept (t' := s2.toks) hk
      have hei : s2.heap.objs.size + 1 ≠ s2.heap.objs.size := by omega
      refine ⟨s2.heap.objs.size + 1, [s2.heap.objs.size + 1, s2.heap.objs.size], _, _, H2, rfl, I3, turn_enumT1 a _ _ hei, ⟨⟨_, he⟩, hit⟩, fun b hb => ?_, hq _ _ st1 h1 φ2 H2 _ b12 ?_⟩
      · have hle : s2.heap.objs.size ≤ b := by
          rcases List.mem_cons.mp hb with e | hb
          · rw [e]; exact Nat.le_succ _
          · have e : b = s2.heap.objs.size := by simpa using hb
            rw [e]; exact Nat.le_refl _
        exact I2.fpOk hle (I2.hok.fresh hle)
      · intro i φ' st' H' bh hok hi
        obtain ⟨a', zs, e2, hs', dl'⟩ := (dv.evo bh.2).tup
        cases e2
        have hlen := dl'.length
        rw [enum_len] at hi
        refine ⟨fun e => ⟨zs, hs', by rw [enum_len] at e; omega⟩, fun d ed => ?_⟩
        obtain ⟨d', ed', rfl⟩ := enum_get ed
        obtain ⟨y, ey, dy⟩ := dl'.get ed'
        refine ⟨⟨zs, y, hs', ey⟩, fun y' H2 hy => ?_⟩
        obtain ⟨q, v, hq1, rfl, rfl, hv⟩ := hy
        have := hv zs hs'
        rw [ey] at this
        cases this
        refine ⟨bhd_tup bh.1 hq1, .mkTup (SqT.of upd_same) (.cons ?_ (.cons (dy.evo (evo_new hq1)) .nil))⟩
        rw [Nat.add_comm 1 i]
        exact D.mkInt
    | lst n =>
      have h1 : (match st1[n]? with
        | some o => P (enumD 1 o.items) (fun st' => (st'[n]?).map SO.items = some o.items) st1
        | none => False) := h1
      split at h1
      · rename_i o eo
        obtain ⟨ws, hs1, dws⟩ := b12.1.seq eo dv.isL
        have ev := dv.lst.2
        subst ev
        cases ru
        obtain ⟨its, rvs, pl, hz⟩ := I2.list hs1
        refine HT.call_enumL1 pl.isList fun h' he hit hsz hk => ?_
        refine wpAny_pyIter_enum (s := { s2 with heap := h' }) he ?_
        have I3 : Inv X pins σ H2 { s2 with heap := h' } := I2.kept (t' := s2.toks) hk
        have hei : s2.heap.objs.size + 1 ≠ s2.heap.objs.size := by omega
        refine ⟨s2.heap.objs.size + 1, [s2.heap.objs.size + 1, s2.heap.objs.size], _, _, H2, rfl, I3, turn_enumL1 (φ2 n) _ _ hei, ⟨⟨_, he⟩, hit⟩, fun b hb => ?_, hq _ _ st1 h1 φ2 H2 _ b12 ?_⟩
        · have hle : s2.heap.objs.size ≤ b := by
            rcases List.mem_cons.mp hb with e | hb
            · rw [e]; exact Nat.le_succ _
            · have e : b = s2.heap.objs.size := by simpa using hb
              rw [e]; exact Nat.le_refl _
          exact I2.fpOk hle (I2.hok.fresh hle)
        · intro i φ' st' H' bh hok hi
          have hok' : (st'[n]?).map SO.items = some o.items := hok
          obtain ⟨a', zs, e2, hs', dl'⟩ := seq_of (y := .lst n) (xs := o.items) bh.1 (dv.evo bh.2) hok'
          cases e2
          have hsl : SqL X.K H' (φ2 n) zs := by
            rcases hs' with z | ⟨_, z⟩
            · exact z.1
            · cases z
          have hlen := dl'.length
          rw [enum_len] at hi
          refine ⟨fun e => ⟨zs, hsl, by rw [enum_len] at e; omega⟩, fun d ed => ?_⟩
          obtain ⟨d', ed', rfl⟩ := enum_get ed
          obtain ⟨y, ey, dy⟩ := dl'.get ed'
          refine ⟨⟨zs, y, hsl, ey⟩, fun y' H2 hy => ?_⟩
          obtain ⟨q, v, hq1, rfl, rfl, hv⟩ := hy
          have := hv zs hsl
          rw [ey] at this
          cases this
          refine ⟨bhd_tup bh.1 hq1, .mkTup (SqT.of upd_same) (.cons ?_ (.cons (dy.evo (evo_new hq1)) .nil))⟩
          rw [Nat.add_comm 1 i]
          exact D.mkInt
      · exact h1.elim
    | _ => exact h1.elim
end
end L3
namespace L3
open PySem PySem.Spec PyProof.Rows L2
noncomputable def compD2 (items : List Dt) (ok : Sto → Prop) (tc : TBD) (te : TD) (cρ : Rho) (st : Sto) (Fin : List Dt → Sto → Prop) : Prop := ∃ Inv : Nat → List Dt → Sto → Prop, Inv 0 [] st ∧ (∀ i ys st', i ≤ items.length → Inv i ys st' → ok st') ∧
  (∀ (i : Nat) d ys st', items[i]? = some d → Inv i ys st' → ys.length < sizeLine ∧ ∃ a b, d = .tup [a, b] ∧ tc (some a :: some b :: cρ) st' fun k st1 => if k = true then te (some a :: some b :: cρ) st1 fun y st2 => Inv (i + 1) (ys ++ [y]) st2 else Inv (i + 1) ys st1) ∧
  ∀ ys st', Inv items.length ys st' → Fin ys st'
noncomputable def g2 : TGD := gunpack 2 (gscons (gname 0) (gscons (gname 1) gsnil))
theorem dr_weak2 {K : PySem.W.Frag} {φ : Nat → Addr} {N : Nat} {H : Hp} {ρ : Rho} {σ : L2.St} {a b : Option Dt} (h : DR K φ N H (a :: b :: ρ) σ) : DR K φ N H (none :: none :: ρ) σ := by
  refine ⟨h.1, fun i d q => ?_⟩
  rcases i with _ | _ | i
  · cases q
  · cases q
  · exact h.2 (i + 2) d q
theorem comp_gen2 {K : PySem.W.Frag} {φ1 : Nat → Addr} {st1 : Sto} {H1 : Hp} {cρ : Rho} {σ0 : L2.St} {J : It} {items : List Dt} {ok : Sto → Prop} {tc : TBD} {te : TD} {Fin : List Dt → Sto → Prop} {Fin' : List V → Hp → Prop}
    (R : Rep K φ1 st1 H1) (dr : DR K φ1 st1.length H1 (none :: none :: cρ) σ0) (hJ : Yields K φ1 st1 H1 J items ok) (hc : compD2 items ok tc te cρ st1 Fin)
    (hF : ∀ ys st' φ' H' vs, Fin ys st' → Bhd K φ1 st1 H1 φ' st' H' → DL K φ' st'.length H' ys vs → Fin' vs H') :
    compW J (liftG K g2) (liftT K tc) (liftE K te) σ0 H1 Fin' := by
  obtain ⟨Inv, h0, hok, step, fin⟩ := hc
  refine ⟨fun i m σ vs H => m = items.length - i ∧ i ≤ items.length ∧ ∃ φ' st' ys, Bhd K φ1 st1 H1 φ' st' H ∧ DL K φ' st'.length H ys vs ∧ DR K φ' st'.length H (none :: none :: cρ) σ ∧ Inv i ys st',
    ⟨items.length, by simp, Nat.zero_le _, φ1, st1, [], .refl R, .nil, dr, h0⟩, ?_⟩
  rintro i m σ vs H ⟨rfl, hi, φ', st', ys, bh, dl, drs, hI⟩
  obtain ⟨js, jg⟩ := hJ i φ' st' H bh (hok i ys st' hi hI) hi
  by_cases hlt : i < items.length
  · have ed : items[i]? = some items[i] := by simp [hlt]
    obtain ⟨go, yl⟩ := jg _ ed
    obtain ⟨hz, a, b, ed2, hstep⟩ := step i _ ys st' ed hI
    refine .inr ⟨go, by rw [← dl.length]; exact hz, fun y H2 hy => ?_⟩
    obtain ⟨b2, dy⟩ := yl y H2 hy
    have b12 := bh.trans b2
    refine ⟨φ', st', none :: none :: cρ, _, (fun ρ2 st2 => ρ2 = some a :: some b :: cρ ∧ st2 = st'), ⟨b2.1, drs.evo b2.2⟩, dy, ?_, fun ρ2 st2 hp φ3 H3 σ2 b3 dr3 => ?_⟩
    · rw [ed2]; exact ⟨rfl, rfl, rfl⟩
    obtain ⟨rfl, rfl⟩ := hp
    refine ⟨φ3, st2, _, _, ⟨b3.1, dr3⟩, hstep, fun k st3 h3 φ4 H4 b4 => ?_⟩
    cases k with
    | false =>
      rw [if_neg Bool.false_ne_true] at h3 ⊢
      exact ⟨items.length - (i + 1), by omega, rfl, hlt, φ4, st3, ys, b12.trans (b3.trans b4), dl.evo (b2.2.trans (b3.2.trans b4.2)), (dr_weak2 dr3).evo b4.2, h3⟩
    | true =>
      rw [if_pos rfl] at h3 ⊢
      refine ⟨φ4, st3, _, _, ⟨b4.1, dr3.evo b4.2⟩, h3, fun z st4 h4 φ5 H5 w b5 dz => ?_⟩
      exact ⟨items.length - (i + 1), by omega, rfl, hlt, φ5, st4, ys ++ [z], b12.trans (b3.trans (b4.trans b5)), (dl.evo (b2.2.trans (b3.2.trans (b4.2.trans b5.2)))).append (.cons dz .nil), (dr_weak2 dr3).evo (b4.2.trans b5.2), h4⟩
  · have e : i = items.length := by omega
    subst e
    exact .inl ⟨js rfl, hF ys st' φ' H vs (fin ys st' hI) bh dl⟩
noncomputable def tcomp2 (ti : TID) (tc : TBD) (te : TD) (caps : List (Nat × Str)) : TD := fun ρ st P => ti ρ st fun items ok st1 => compD2 items ok tc te (capρ caps ρ) st1 fun ys st2 => P (.lst st2.length) (st2 ++ [.rw ys])
section
variable {X : Cx} {pos : Pos} {ti : TID} {iter : Expr}
theorem comp_lift2 {K : PySem.W.Frag} {tc : TBD} {te : TD} {caps : List (Nat × Str)} {σ : L2.St} {H : Hp} {Q : VK} (h : liftE K (tcomp2 ti tc te caps) σ H Q) : tComp (liftI K ti) (liftG K g2) (liftT K tc) (liftE K te) 2 caps σ H Q := by
  obtain ⟨φ, st, ρ, P, pre, ht, hq⟩ := h
  refine ⟨φ, st, ρ, _, pre, ht, fun items ok st1 h1 φ1 H1 J b1 hJ => ?_⟩
  refine comp_gen2 b1.1 ?_ hJ h1 fun ys st2 φ2 H2 vs hF b2 dl p hp => ?_
  · have hd := cap_DR (pre.on b1).2 caps
    refine ⟨by simp [hd.1, List.replicate], fun i d q => ?_⟩
    rcases i with _ | _ | i
    · cases q
    · cases q
    · exact hd.2 i d q
  · exact hq _ _ hF _ _ _ (b1.trans (b2.trans (bhd_lst b2.1 hp dl))) d_new
variable {elt : Expr} {ifs : List Expr} {sc : Scope} {x y : Str} {px py tp : Pos} {kt : Nat} {tc : TBD} {te : TD}
theorem de_comp2 (caps : List (Nat × Str)) (hc : X.calm = true) (S : CompScope X.env.scope X.N caps sc) (hx : sc.names.lookup x = some .local) (hy : sc.names.lookup y = some .local) (hnd : ([x, y] ++ caps.map (·.2)).Nodup) (hi : DI X (.Tuple [.Name x px, .Name y py] kt tp) iter ti)
    (hif : ∀ C s H fp, DIf (cxComp X [x, y] caps sc C s H fp) ifs tc) (he : ∀ C s H fp, DE (cxComp X [x, y] caps sc C s H fp) elt te)
    (hs : ∀ x, foldedSetIterable iter X.env x = pure x := by intro _; rfl) : DE X (.ListComp elt [⟨.Tuple [.Name x px, .Name y py] kt tp, iter, ifs, 0⟩] sc pos) (tcomp2 ti tc te caps) :=
  PE.imp (pe_comp (g := liftG X.K g2) (tc := liftT X.K tc) (te := liftE X.K te) [x, y] caps hc S hi (fun C s H fp => dg_unpack (X := cxComp X [x, y] caps sc C s H fp) 2 hc (dgs_cons (dg_name 0 hnd rfl (.inl (lookup_relabel_local hx)) (.inr (lookup_relabel_local hx))) (dgs_cons (dg_name 1 hnd rfl (.inl (lookup_relabel_local hy)) (.inr (lookup_relabel_local hy))) dgs_nil rfl) rfl) rfl) hif he hs) fun σ H Q h => comp_lift2 h
end
end L3
namespace HT
open PySem PySem.Spec PyProof.Rows
section
variable {prog : Program} {w : World} {A : Around} {E : Value → Shared → Prop} {s : Shared}
structure ZApart (z TI TO i1 i2 : Addr) (fp1 fp2 : List Addr) : Prop where
  TIz : TI ≠ z
  TOz : TO ≠ z
  i1z : i1 ≠ z
  i2z : i2 ≠ z
  TITO : TI ≠ TO
  TIi1 : TI ≠ i1
  TIi2 : TI ≠ i2
  TOi1 : TO ≠ i1
  TOi2 : TO ≠ i2
  i12 : i1 ≠ i2
  z1 : z ∉ fp1
  z2 : z ∉ fp2
  o1 : TO ∉ fp1
  o2 : TO ∉ fp2
  a2 : i1 ∉ fp2
  b1 : i2 ∉ fp1
theorem zip_nextD {z TI TO i1 i2 : Addr} {fp1 fp2 : List Addr} {n1 n2 k1 k2 : Nat} {P1 P2 : Nat → Value → Prop} {St1 St2 : Nat → Heap → Prop} {a b : Value} {Q : Fin → Shared → Prop}
    (ap : ZApart z TI TO i1 i2 fp1 fp2) (D1 : Draws prog w A i1 fp1 n1 P1 St1) (D2 : Draws prog w A i2 fp2 n2 P2 St2) (hz : IsZip s.heap z TI TO .none) (hI : IsPair s.heap TI (.ref i1) (.ref i2)) (hO : IsPair s.heap TO a b) (h1 : St1 k1 s.heap) (h2 : St2 k2 s.heap) (l1 : k1 < n1) (l2 : k2 < n2)
    (hQ : ∀ x y h' tk, P1 k1 x → P2 k2 y → IsZip h' z TI TO (rawInt s.heap.objs.size) → IsPair h' TI (.ref i1) (.ref i2) → IsPair h' TO x y → St1 (k1 + 1) h' → St2 (k2 + 1) h' → IsPair h' s.heap.objs.size x y → h'.objs.size = s.heap.objs.size + 1 → (∀ c o, c ≠ z → c ≠ TO → c ≠ i1 → c ≠ i2 → s.heap.get? c = some o → h'.get? c = some o) → Q (.done (.ret (.ref s.heap.objs.size))) { s with heap := h', toks := tk }) :
    wpAny (model prog w) A (Builtin.«zip.__next__» { pos := [.ref z] }) Q E s := by
  unfold Builtin.«zip.__next__»
  show wpAny _ _ (field (.ref z) 2 >>= _) _ _ s
  refine wpAny_bind (wpAny_field hz rfl (x := .bool false) rfl ?_)
  show wpAny _ _ (field (.ref z) 3 >>= _) _ _ s
  refine wpAny_bind (wpAny_field hz rfl (x := .ref TI) rfl ?_)
  refine wpAny_bind (wpAny_seqItems hI rfl ?_)
  show wpAny _ _ (Builtin.SmallTypes.ownedTupleIsFree (.ref z) >>= _) _ _ s
  unfold Builtin.SmallTypes.ownedTupleIsFree
  refine wpAny_bind (wpAny_bind (wpAny_field hz rfl (x := .none) rfl (wpAny_pure ?_)))
  refine wpAny_bind (wpAny_rule ?_)
  refine wpAny_bind (wpAny_field hz rfl (x := .ref TO) rfl ?_)
  refine wpAny_bind (wpAny_setField hz rfl (by simp) ?_)
  have hza := Heap.get?_update_self (h := s.heap) (Obj.mapFields fun x_1 => x_1.setIfInBounds 0 Value.ellipsis) hz (Obj.isFreed_of_fields (Obj.data_mapFields rfl _))
  have hua : ∀ c, c ≠ z → (s.heap.update z (Obj.mapFields fun x_1 => x_1.setIfInBounds 0 Value.ellipsis)).get? c = s.heap.get? c := fun c hc => Heap.get?_update_ne _ _ _ _ hc
  have hsa : (s.heap.update z (Obj.mapFields fun x_1 => x_1.setIfInBounds 0 Value.ellipsis)).objs.size = s.heap.objs.size := (Heap.SameBut.update ..).1
  generalize s.heap.update z (Obj.mapFields fun x_1 => x_1.setIfInBounds 0 Value.ellipsis) = ha at hza hua hsa
  have h1a : St1 k1 ha := D1.frame _ _ _ h1 fun c hc o q => (hua c (fun e => ap.z1 (e ▸ hc))).trans q
  have h2a : St2 k2 ha := D2.frame _ _ _ h2 fun c hc o q => (hua c (fun e => ap.z2 (e ▸ hc))).trans q
  have hIa : IsPair ha TI (.ref i1) (.ref i2) := (hua TI ap.TIz).trans hI
  have hOa : IsPair ha TO a b := (hua TO ap.TOz).trans hO
  show wpAny _ _ (forIn [(Value.ref i1, 0), (Value.ref i2, 1)] (none, ()) _ >>= _) _ _ _
  rw [List.forIn_cons]
  refine wpAny_bind (wpAny_bind ?_)
  refine wpAny_bind (wpAny_onRaise ?_)
  show wpAny _ _ (Builtin.SmallTypes.nextOf (.ref i1) >>= fun v => pure (some v)) _ _ _
  refine wpAny_bind (D1.item k1 _ _ _ l1 h1a fun x hb tk1 hx st1 sb1 => wpAny_pure ?_)
  have hOb : IsPair hb TO a b := (sb1.2 TO ap.TOi1).trans hOa
  refine wpAny_bind (wpAny_seqItems hOb rfl ?_)
  refine wpAny_bind (wpAny_updateSeq_pair hOb fun hc hOc sbc => ?_)
  refine wpAny_bind (wpAny_letGo ?_)
  refine wpAny_pure ?_
  have hOc : IsPair hc TO x b := hOc
  have h1c : St1 (k1 + 1) hc := D1.frame _ _ _ st1 fun c hcm o q => (sbc.2 c (fun e => ap.o1 (e ▸ hcm))).trans q
  have h2c : St2 k2 hc := D2.frame _ _ _ h2a fun c hcm o q => (sbc.2 c (fun e => ap.o2 (e ▸ hcm))).trans ((sb1.2 c (fun e => ap.a2 (e ▸ hcm))).trans q)
  show wpAny _ _ (forIn [(Value.ref i2, 1)] (none, ()) _) _ _ _
  rw [List.forIn_cons]
  refine wpAny_bind ?_
  refine wpAny_bind (wpAny_onRaise ?_)
  show wpAny _ _ (Builtin.SmallTypes.nextOf (.ref i2) >>= fun v => pure (some v)) _ _ _
  refine wpAny_bind (D2.item k2 _ _ _ l2 h2c fun y hd tk2 hy st2 sb2 => wpAny_pure ?_)
  have hOd : IsPair hd TO x b := (sb2.2 TO ap.TOi2).trans hOc
  refine wpAny_bind (wpAny_seqItems hOd rfl ?_)
  refine wpAny_bind (wpAny_updateSeq_pair hOd fun he hOe sbe => ?_)
  refine wpAny_bind (wpAny_letGo ?_)
  refine wpAny_pure ?_
  have hOe : IsPair he TO x y := hOe
  show wpAny _ _ (forIn ([] : List (Value × Nat)) (none, ()) _) _ _ _
  rw [List.forIn_nil]
  refine wpAny_pure ?_
  refine wpAny_bind (wpAny_seqItems hOe rfl ?_)
  refine wpAny_bind (wpAny_newTuple ?_ (by show 2 ≤ sizeLine; rw [sizeLine_eq]; decide))
  have all : ∀ c, c ≠ z → c ≠ TO → c ≠ i1 → c ≠ i2 → he.get? c = s.heap.get? c := fun c q1 q2 q3 q4 => (sbe.2 c q2).trans ((sb2.2 c q4).trans ((sbc.2 c q2).trans ((sb1.2 c q3).trans (hua c q1))))
  have hse : he.objs.size = s.heap.objs.size := by rw [sbe.1, sb2.1, sbc.1, sb1.1]; exact hsa
  have hze : he.get? z = some { cls := .type "zip", data := .fields #[.ellipsis, .bool false, .bool false, .ref TI, .ref TO] } := (sbe.2 z ap.TOz.symm).trans ((sb2.2 z ap.i2z.symm).trans ((sbc.2 z ap.TOz.symm).trans ((sb1.2 z ap.i1z.symm).trans hza)))
  have hIe : IsPair he TI (.ref i1) (.ref i2) := (sbe.2 TI ap.TITO).trans ((sb2.2 TI ap.TIi2).trans ((sbc.2 TI ap.TITO).trans ((sb1.2 TI ap.TIi1).trans hIa)))
  have h1e : St1 (k1 + 1) he := D1.frame _ _ _ h1c fun c hcm o q => (sbe.2 c (fun e => ap.o1 (e ▸ hcm))).trans ((sb2.2 c (fun e => ap.b1 (e ▸ hcm))).trans q)
  have h2e : St2 (k2 + 1) he := D2.frame _ _ _ st2 fun c hcm o q => (sbe.2 c (fun e => ap.o2 (e ▸ hcm))).trans q
  have hnew := Heap.get?_push_size he (o := { cls := .type "tuple", data := .seq #[x, y] }) rfl
  have hpush : ∀ c o, he.get? c = some o → (he.push { cls := .type "tuple", data := .seq #[x, y] }).get? c = some o := fun c o q => Heap.get?_push_of_some _ q
  have hsf : (he.push { cls := .type "tuple", data := .seq #[x, y] }).objs.size = s.heap.objs.size + 1 := by rw [Heap.size_push, hse]
  rw [hse] at hnew
  show wpAny _ _ (Builtin.SmallTypes.ownedTupleHandOut (.ref z) (.ref he.objs.size) >>= _) _ _ { s with heap := he.push { cls := .type "tuple", data := .seq #[x, y] }, toks := tk2 }
  rw [hse]
  generalize he.push { cls := .type "tuple", data := .seq #[x, y] } = hf at hnew hpush hsf
  have hzf := hpush _ _ hze
  have zlt : z ≠ s.heap.objs.size := Nat.ne_of_lt (Heap.lt_size hz)
  unfold Builtin.SmallTypes.ownedTupleHandOut
  refine wpAny_bind (wpAny_bind (wpAny_setField hzf rfl (by simp) ?_))
  have hzg := Heap.get?_update_self (h := hf) (Obj.mapFields fun x_1 => x_1.setIfInBounds 0 (rawInt (s.heap.objs.size : Int))) hzf (Obj.isFreed_of_fields (Obj.data_mapFields rfl _))
  have hug : ∀ c, c ≠ z → (hf.update z (Obj.mapFields fun x_1 => x_1.setIfInBounds 0 (rawInt (s.heap.objs.size : Int)))).get? c = hf.get? c := fun c hc => Heap.get?_update_ne _ _ _ _ hc
  have hsg : (hf.update z (Obj.mapFields fun x_1 => x_1.setIfInBounds 0 (rawInt (s.heap.objs.size : Int)))).objs.size = hf.objs.size := (Heap.SameBut.update ..).1
  generalize hf.update z (Obj.mapFields fun x_1 => x_1.setIfInBounds 0 (rawInt (s.heap.objs.size : Int))) = hg at hzg hug hsg
  refine wpAny_setField hzg rfl (by simp [Obj.mapFields]) ?_
  have hzh := Heap.get?_update_self (h := hg) (Obj.mapFields fun x_1 => x_1.setIfInBounds 1 (Value.bool false)) hzg (Obj.isFreed_of_fields (Obj.data_mapFields rfl _))
  have huh : ∀ c, c ≠ z → (hg.update z (Obj.mapFields fun x_1 => x_1.setIfInBounds 1 (Value.bool false))).get? c = hg.get? c := fun c hc => Heap.get?_update_ne _ _ _ _ hc
  have hsh : (hg.update z (Obj.mapFields fun x_1 => x_1.setIfInBounds 1 (Value.bool false))).objs.size = hg.objs.size := (Heap.SameBut.update ..).1
  generalize hg.update z (Obj.mapFields fun x_1 => x_1.setIfInBounds 1 (Value.bool false)) = hh at hzh huh hsh
  have fro : ∀ c o, c ≠ z → he.get? c = some o → hh.get? c = some o := fun c o q1 q => (huh c q1).trans ((hug c q1).trans (hpush c o q))
  refine wpAny_pure (hQ x y hh tk2 hx hy hzh (fro _ _ ap.TIz hIe) (fro _ _ ap.TOz hOe) (D1.frame _ _ _ h1e fun c hcm o q => fro c o (fun e => ap.z1 (e ▸ hcm)) q) (D2.frame _ _ _ h2e fun c hcm o q => fro c o (fun e => ap.z2 (e ▸ hcm)) q) ?_ ?_ fun c o q1 q2 q3 q4 q => fro c o q1 ((all c q1 q2 q3 q4).trans q))
  · exact (huh _ zlt.symm).trans ((hug _ zlt.symm).trans hnew)
  · rw [hsh, hsg, hsf]
theorem zip_endD {z TI TO i1 i2 : Addr} {fp1 fp2 : List Addr} {n1 n2 k1 k2 : Nat} {P1 P2 : Nat → Value → Prop} {St1 St2 : Nat → Heap → Prop} {a b : Value} {Q : Fin → Shared → Prop}
    (ap : ZApart z TI TO i1 i2 fp1 fp2) (D1 : Draws prog w A i1 fp1 n1 P1 St1) (D2 : Draws prog w A i2 fp2 n2 P2 St2) (hz : IsZip s.heap z TI TO .none) (hI : IsPair s.heap TI (.ref i1) (.ref i2)) (hO : IsPair s.heap TO a b) (h1 : St1 k1 s.heap) (h2 : St2 k2 s.heap) (hl : k1 = n1 ∨ k1 < n1 ∧ k2 = n2)
    (hE : ∀ h' tk e, (∃ o, h'.get? e = some o ∧ o.cls = .type "StopIteration") → (∀ c o, c ≠ z → c ≠ TO → c ≠ i1 → c ≠ i2 → s.heap.get? c = some o → h'.get? c = some o) → E (.ref e) { s with heap := h', toks := tk }) :
    wpAny (model prog w) A (Builtin.«zip.__next__» { pos := [.ref z] }) Q E s := by
  unfold Builtin.«zip.__next__»
  show wpAny _ _ (field (.ref z) 2 >>= _) _ _ s
  refine wpAny_bind (wpAny_field hz rfl (x := .bool false) rfl ?_)
  show wpAny _ _ (field (.ref z) 3 >>= _) _ _ s
  refine wpAny_bind (wpAny_field hz rfl (x := .ref TI) rfl ?_)
  refine wpAny_bind (wpAny_seqItems hI rfl ?_)
  show wpAny _ _ (Builtin.SmallTypes.ownedTupleIsFree (.ref z) >>= _) _ _ s
  unfold Builtin.SmallTypes.ownedTupleIsFree
  refine wpAny_bind (wpAny_bind (wpAny_field hz rfl (x := .none) rfl (wpAny_pure ?_)))
  refine wpAny_bind (wpAny_rule ?_)
  refine wpAny_bind (wpAny_field hz rfl (x := .ref TO) rfl ?_)
  refine wpAny_bind (wpAny_setField hz rfl (by simp) ?_)
  have hza := Heap.get?_update_self (h := s.heap) (Obj.mapFields fun x_1 => x_1.setIfInBounds 0 Value.ellipsis) hz (Obj.isFreed_of_fields (Obj.data_mapFields rfl _))
  have hua : ∀ c, c ≠ z → (s.heap.update z (Obj.mapFields fun x_1 => x_1.setIfInBounds 0 Value.ellipsis)).get? c = s.heap.get? c := fun c hc => Heap.get?_update_ne _ _ _ _ hc
  generalize s.heap.update z (Obj.mapFields fun x_1 => x_1.setIfInBounds 0 Value.ellipsis) = ha at hza hua
  have h1a : St1 k1 ha := D1.frame _ _ _ h1 fun c hc o q => (hua c (fun e => ap.z1 (e ▸ hc))).trans q
  have h2a : St2 k2 ha := D2.frame _ _ _ h2 fun c hc o q => (hua c (fun e => ap.z2 (e ▸ hc))).trans q
  have hOa : IsPair ha TO a b := (hua TO ap.TOz).trans hO
  show wpAny _ _ (forIn [(Value.ref i1, 0), (Value.ref i2, 1)] (none, ()) _ >>= _) _ _ _
  rw [List.forIn_cons]
  refine wpAny_bind (wpAny_bind ?_)
  refine wpAny_bind (wpAny_onRaise ?_)
  show wpAny _ _ (Builtin.SmallTypes.nextOf (.ref i1) >>= fun v => pure (some v)) _ _ _
  rcases hl with rfl | ⟨l1, rfl⟩
  · refine wpAny_bind (D1.done _ _ _ h1a fun hb e xb ⟨oe, he, ce⟩ => ?_)
    have hzb := xb z _ ap.i1z.symm hza
    refine wpAny_setField hzb rfl (by simp [Obj.mapFields]) ?_
    have huc : ∀ c, c ≠ z → (hb.update z (Obj.mapFields fun x_1 => x_1.setIfInBounds 0 Value.none)).get? c = hb.get? c := fun c hc => Heap.get?_update_ne _ _ _ _ hc
    have hez : e ≠ z := fun q => by
      subst q
      rw [hzb] at he; cases he; injection ce with q; exact absurd q (by decide)
    exact hE _ _ e ⟨oe, (huc e hez).trans he, ce⟩ fun c o q1 q2 q3 q4 q => (huc c q1).trans (xb c o q3 ((hua c q1).trans q))
  · refine wpAny_bind (D1.item k1 _ _ _ l1 h1a fun x hb tk1 hx st1 sb1 => wpAny_pure ?_)
    have hOb : IsPair hb TO a b := (sb1.2 TO ap.TOi1).trans hOa
    refine wpAny_bind (wpAny_seqItems hOb rfl ?_)
    refine wpAny_bind (wpAny_updateSeq_pair hOb fun hc hOc sbc => ?_)
    refine wpAny_bind (wpAny_letGo ?_)
    refine wpAny_pure ?_
    have h2c : St2 k2 hc := D2.frame _ _ _ h2a fun c hcm o q => (sbc.2 c (fun e => ap.o2 (e ▸ hcm))).trans ((sb1.2 c (fun e => ap.a2 (e ▸ hcm))).trans q)
    show wpAny _ _ (forIn [(Value.ref i2, 1)] (none, ()) _) _ _ _
    rw [List.forIn_cons]
    refine wpAny_bind ?_
    refine wpAny_bind (wpAny_onRaise ?_)
    show wpAny _ _ (Builtin.SmallTypes.nextOf (.ref i2) >>= fun v => pure (some v)) _ _ _
    refine wpAny_bind (D2.done _ _ _ h2c fun hd e xd ⟨oe, he, ce⟩ => ?_)
    have hzc := (sbc.2 z ap.TOz.symm).trans ((sb1.2 z ap.i1z.symm).trans hza)
    have hzd := xd z _ ap.i2z.symm hzc
    refine wpAny_setField hzd rfl (by simp [Obj.mapFields]) ?_
    have hue : ∀ c, c ≠ z → (hd.update z (Obj.mapFields fun x_1 => x_1.setIfInBounds 0 Value.none)).get? c = hd.get? c := fun c hc => Heap.get?_update_ne _ _ _ _ hc
    have hez : e ≠ z := fun q => by
      subst q
      rw [hzd] at he; cases he; injection ce with q; exact absurd q (by decide)
    exact hE _ _ e ⟨oe, (hue e hez).trans he, ce⟩ fun c o q1 q2 q3 q4 q => (hue c q1).trans (xd c o q4 ((sbc.2 c q2).trans ((sb1.2 c q3).trans ((hua c q1).trans q))))
theorem pyNext_zipD {z TI TO i1 i2 : Addr} {fp1 fp2 : List Addr} {n1 n2 k1 k2 : Nat} {P1 P2 : Nat → Value → Prop} {St1 St2 : Nat → Heap → Prop} {a b : Value} {Q : Option Value → Shared → Prop}
    (ap : ZApart z TI TO i1 i2 fp1 fp2) (D1 : Draws prog w A.in1 i1 fp1 n1 P1 St1) (D2 : Draws prog w A.in1 i2 fp2 n2 P2 St2) (hz : IsZip s.heap z TI TO .none) (hI : IsPair s.heap TI (.ref i1) (.ref i2)) (hO : IsPair s.heap TO a b) (h1 : St1 k1 s.heap) (h2 : St2 k2 s.heap) (l1 : k1 < n1) (l2 : k2 < n2)
    (hQ : ∀ x y h' tk, P1 k1 x → P2 k2 y → IsZip h' z TI TO (rawInt s.heap.objs.size) → IsPair h' TI (.ref i1) (.ref i2) → IsPair h' TO x y → St1 (k1 + 1) h' → St2 (k2 + 1) h' → IsPair h' s.heap.objs.size x y → h'.objs.size = s.heap.objs.size + 1 → (∀ c o, c ≠ z → c ≠ TO → c ≠ i1 → c ≠ i2 → s.heap.get? c = some o → h'.get? c = some o) → Q (some (.ref s.heap.objs.size)) { s with heap := h', toks := tk }) :
    wpAny (model prog w) A (pyNext (.ref z)) Q E s := by
  have hT : s.TypeIs (.ref z) "zip" := ⟨_, hz, rfl⟩
  unfold pyNext
  refine wpAny_bind (wpAny_attempt (wpAny_callSpecial?_slot (name := Str.ofString "__next__") hT F.slot_zip_next (wpAny_call_entry F.slot_zip_next hT F.entry_zip_next ?_ (F.args_zip_next_1 _))))
  refine zip_nextD ap D1 D2 hz hI hO h1 h2 l1 l2 fun x y h' tk q1 q2 q3 q4 q5 q6 q7 q8 q9 q10 => ?_
  exact ⟨_, rfl, wpAny_pure (hQ x y h' tk q1 q2 q3 q4 q5 q6 q7 q8 q9 q10)⟩
theorem pyNext_zip_endD {z TI TO i1 i2 : Addr} {fp1 fp2 : List Addr} {n1 n2 k1 k2 : Nat} {P1 P2 : Nat → Value → Prop} {St1 St2 : Nat → Heap → Prop} {a b : Value} {Q : Option Value → Shared → Prop}
    (ap : ZApart z TI TO i1 i2 fp1 fp2) (D1 : Draws prog w A.in1 i1 fp1 n1 P1 St1) (D2 : Draws prog w A.in1 i2 fp2 n2 P2 St2) (hz : IsZip s.heap z TI TO .none) (hI : IsPair s.heap TI (.ref i1) (.ref i2)) (hO : IsPair s.heap TO a b) (h1 : St1 k1 s.heap) (h2 : St2 k2 s.heap) (hl : k1 = n1 ∨ k1 < n1 ∧ k2 = n2)
    (hQ : ∀ h' tk, (∀ c o, c ≠ z → c ≠ TO → c ≠ i1 → c ≠ i2 → s.heap.get? c = some o → h'.get? c = some o) → Q none { s with heap := h', toks := tk }) :
    wpAny (model prog w) A (pyNext (.ref z)) Q E s := by
  have hT : s.TypeIs (.ref z) "zip" := ⟨_, hz, rfl⟩
  unfold pyNext
  refine wpAny_bind (wpAny_attempt (wpAny_callSpecial?_slot (name := Str.ofString "__next__") hT F.slot_zip_next (wpAny_call_entry F.slot_zip_next hT F.entry_zip_next ?_ (F.args_zip_next_1 _))))
  refine zip_endD ap D1 D2 hz hI hO h1 h2 hl fun h' tk e ⟨o, ho, hc⟩ hk => ?_
  exact wpAny_bind (wpAny_isInstance (T := "StopIteration") (b := true) ⟨o, ho, hc⟩ isSubtype_stop (wpAny_pure (hQ _ _ hk)))
end
end HT
namespace HT
open PySem PySem.Spec PyProof.Rows
noncomputable def IterTo (prog : Program) (w : World) (u : Value) (o : Obj) (ok : Heap → Prop) : Prop :=
  ∀ (A : Around) (s : Shared) (Q : Value → Shared → Prop) (E : Value → Shared → Prop), ok s.heap → Q (.ref s.heap.objs.size) { s with heap := s.heap.push o } → wpAny (model prog w) A (pyIter u) Q E s
theorem zip_newD {prog : Program} {w : World} {u1 u2 : Value} {o1 o2 : Obj} {ok1 ok2 : Heap → Prop} (h1 : IterTo prog w u1 o1 ok1) (h2 : IterTo prog w u2 o2 ok2) :
    MeetsIn prog w (Builtin.«zip.__new__» ⟨[.type "zip", u1, u2], []⟩) (fun _ R s => ok1 s.heap ∧ ok2 (s.heap.push o1) ∧
      R (.ok (.ret (.ref ((((s.heap.push o1).push o2).push { cls := .type "tuple", data := .seq #[.ref s.heap.objs.size, .ref (s.heap.push o1).objs.size] }).push { cls := .type "tuple", data := .seq #[.none, .none] }).objs.size)))
        { s with heap := ((((s.heap.push o1).push o2).push { cls := .type "tuple", data := .seq #[.ref s.heap.objs.size, .ref (s.heap.push o1).objs.size] }).push { cls := .type "tuple", data := .seq #[.none, .none] }).push { cls := .type "zip", data := .fields #[.none, .bool false, .bool false, .ref ((s.heap.push o1).push o2).objs.size, .ref (((s.heap.push o1).push o2).push { cls := .type "tuple", data := .seq #[.ref s.heap.objs.size, .ref (s.heap.push o1).objs.size] }).objs.size] } }) :=
  .of_wp fun A R s h => by
    obtain ⟨hp, g, d, tk, os⟩ := s; obtain ⟨k1, k2, h⟩ := h
    have hsub := sub_zip
    have r1 : ∀ {A : Around} {Q : Value → Shared → Prop} {E : Value → Shared → Prop}, Q (.ref hp.objs.size) ⟨hp.push o1, g, d, tk, os⟩ → wpAny (model prog w) A (pyIter u1) Q E ⟨hp, g, d, tk, os⟩ := fun q => h1 _ _ _ _ k1 q
    have r2 : ∀ {A : Around} {Q : Value → Shared → Prop} {E : Value → Shared → Prop}, Q (.ref (hp.push o1).objs.size) ⟨(hp.push o1).push o2, g, d, tk, os⟩ → wpAny (model prog w) A (pyIter u2) Q E ⟨hp.push o1, g, d, tk, os⟩ := fun q => h2 _ _ _ _ k2 q
    wp_walk using r1, r2
    exact ⟨_, rfl, h⟩
section
variable {prog : Program} {w : World} {A : Around} {E : Value → Shared → Prop} {s : Shared}
theorem call_zipD {u1 u2 : Value} {o1 o2 : Obj} {ok1 ok2 : Heap → Prop} {Q : Value → Shared → Prop} (h1 : IterTo prog w u1 o1 ok1) (h2 : IterTo prog w u2 o2 ok2) (f1 : o1.isFreed = false) (f2 : o2.isFreed = false) (k1 : ok1 s.heap) (k2 : ok2 (s.heap.push o1))
    (h : ∀ h', IsZip h' (s.heap.objs.size + 4) (s.heap.objs.size + 2) (s.heap.objs.size + 3) .none → IsPair h' (s.heap.objs.size + 2) (.ref s.heap.objs.size) (.ref (s.heap.objs.size + 1)) → IsPair h' (s.heap.objs.size + 3) .none .none →
      h'.get? s.heap.objs.size = some o1 → h'.get? (s.heap.objs.size + 1) = some o2 → h'.objs.size = s.heap.objs.size + 5 → (∀ c o, s.heap.get? c = some o → h'.get? c = some o) → Q (.ref (s.heap.objs.size + 4)) { s with heap := h' }) :
    wpAny (model prog w) A (call (.type "zip") [u1, u2]) Q E s := by
  refine callType_newIn F.called_zip (by decide) (F.typeCall_zip_2 _ _) (F.newCall_zip_2 _ _) (fun obj => F.args_object_init_3 obj _ _) F.entry_zip_new (zip_newD h1 h2) ⟨k1, k2, ?_⟩
  obtain ⟨n, hn⟩ : ∃ n, s.heap.objs.size = n := ⟨_, rfl⟩
  have g1 := Heap.get?_push_size s.heap f1
  have e1 : (s.heap.push o1).objs.size = n + 1 := by rw [Heap.size_push, hn]
  have p1 : ∀ c o, s.heap.get? c = some o → (s.heap.push o1).get? c = some o := fun c o q => Heap.get?_push_of_some _ q
  rw [hn] at g1 h ⊢
  rw [e1]
  generalize s.heap.push o1 = ha at g1 e1 p1
  have g2 := Heap.get?_push_size ha f2
  have e2 : (ha.push o2).objs.size = n + 2 := by rw [Heap.size_push, e1]
  have p2 : ∀ c o, ha.get? c = some o → (ha.push o2).get? c = some o := fun c o q => Heap.get?_push_of_some _ q
  rw [e1] at g2
  rw [e2]
  generalize ha.push o2 = hb at g2 e2 p2
  have g3 := Heap.get?_push_size hb (o := { cls := .type "tuple", data := .seq #[.ref n, .ref (n + 1)] }) rfl
  have e3 : (hb.push { cls := .type "tuple", data := .seq #[.ref n, .ref (n + 1)] }).objs.size = n + 3 := by rw [Heap.size_push, e2]
  have p3 : ∀ c o, hb.get? c = some o → (hb.push { cls := .type "tuple", data := .seq #[.ref n, .ref (n + 1)] }).get? c = some o := fun c o q => Heap.get?_push_of_some _ q
  rw [e2] at g3
  rw [e3]
  generalize hb.push { cls := .type "tuple", data := .seq #[.ref n, .ref (n + 1)] } = hc at g3 e3 p3
  have g4 := Heap.get?_push_size hc (o := { cls := .type "tuple", data := .seq #[.none, .none] }) rfl
  have e4 : (hc.push { cls := .type "tuple", data := .seq #[.none, .none] }).objs.size = n + 4 := by rw [Heap.size_push, e3]
  have p4 : ∀ c o, hc.get? c = some o → (hc.push { cls := .type "tuple", data := .seq #[.none, .none] }).get? c = some o := fun c o q => Heap.get?_push_of_some _ q
  rw [e3] at g4
  rw [e4]
  generalize hc.push { cls := .type "tuple", data := .seq #[.none, .none] } = hd at g4 e4 p4
  have g5 := Heap.get?_push_size hd (o := { cls := .type "zip", data := .fields #[.none, .bool false, .bool false, .ref (n + 2), .ref (n + 3)] }) rfl
  have e5 : (hd.push { cls := .type "zip", data := .fields #[.none, .bool false, .bool false, .ref (n + 2), .ref (n + 3)] }).objs.size = n + 5 := by rw [Heap.size_push, e4]
  have p5 : ∀ c o, hd.get? c = some o → (hd.push { cls := .type "zip", data := .fields #[.none, .bool false, .bool false, .ref (n + 2), .ref (n + 3)] }).get? c = some o := fun c o q => Heap.get?_push_of_some _ q
  rw [e4] at g5
  generalize hd.push { cls := .type "zip", data := .fields #[.none, .bool false, .bool false, .ref (n + 2), .ref (n + 3)] } = he at g5 e5 p5
  exact ⟨⟨_, g5, rfl⟩, h _ g5 (p5 _ _ (p4 _ _ g3)) (p5 _ _ g4) (p5 _ _ (p4 _ _ (p3 _ _ (p2 _ _ g1)))) (p5 _ _ (p4 _ _ (p3 _ _ g2))) e5 fun c o q => p5 _ _ (p4 _ _ (p3 _ _ (p2 _ _ (p1 _ _ q))))⟩
end
end HT
namespace L3
open PySem PySem.Spec PyProof.Rows L2
structure ZSt (h : Heap) (z TI TO i1 i2 : Addr) : Prop where
  z : IsZip h z TI TO .none
  I : IsPair h TI (.ref i1) (.ref i2)
  O : ∃ a b, IsPair h TO a b
noncomputable def ItzS (K : PySem.W.Frag) (a : Addr) (x : Str) : It :=
  ⟨fun i H => (∃ xs v, SqT K H a xs ∧ xs[i]? = some v) ∧ i < x.cps.size, fun i H v H' => ∃ p u c, H p = none ∧ H' = upd H p (.tup [u, .str ⟨#[c]⟩]) ∧ v = .ref p ∧ x.cps[i]? = some c ∧ ∀ xs, SqT K H a xs → xs[i]? = some u, fun i H => ∃ xs, SqT K H a xs ∧ (xs.length = i ∨ i < xs.length ∧ x.cps.size = i)⟩
noncomputable def ItzT (K : PySem.W.Frag) (a b : Addr) : It :=
  ⟨fun i H => (∃ xs v, SqT K H a xs ∧ xs[i]? = some v) ∧ ∃ ys v, SqT K H b ys ∧ ys[i]? = some v, fun i H v H' => ∃ p u w, H p = none ∧ H' = upd H p (.tup [u, w]) ∧ v = .ref p ∧ (∀ ys, SqT K H b ys → ys[i]? = some w) ∧ ∀ xs, SqT K H a xs → xs[i]? = some u, fun i H => ∃ xs ys, SqT K H a xs ∧ SqT K H b ys ∧ (xs.length = i ∨ i < xs.length ∧ ys.length = i)⟩
theorem turn_zipS {P : Program} {w : World} {K : PySem.W.Frag} {elts : List Expr} {x1} {pos : Pos} (a z TI TO i1 i2 : Addr) (tx : Str) (t : Tok) (ap : HT.ZApart z TI TO i1 i2 [i1, a] [i2]) (hai : a ≠ i1)  :
    Turn P w K (.Tuple elts x1 pos) (ItzS K a tx) [z, TI, TO, i1, i2] z (fun i h => ZSt h z TI TO i1 i2 ∧ IsTupIter h i1 a i ∧ h.IsStrIter i2 "str_ascii_iterator" tx t i) where
  mem := by simp
  obj := fun i h st b hb => by
    obtain ⟨⟨hz, hI, ta, tb, hO⟩, ⟨o1, q1, q2, q3⟩, ⟨o2, r1, r2, r3⟩⟩ := st
    simp only [List.mem_cons, List.not_mem_nil, or_false] at hb
    rcases hb with rfl | rfl | rfl | rfl | rfl
    · exact ⟨_, hz, fun v z => by have z' : Data.fields _ = Data.cell v := z; cases z'⟩
    · exact ⟨_, hI, fun v z => by have z' : Data.seq _ _ = Data.cell v := z; cases z'⟩
    · exact ⟨_, hO, fun v z => by have z' : Data.seq _ _ = Data.cell v := z; cases z'⟩
    · exact ⟨o1, q1, fun v z => by rw [q3] at z; cases z⟩
    · exact ⟨o2, r1, fun v z => by rw [r3] at z; cases z⟩
  keep := fun i h h' st k => by
    obtain ⟨⟨hz, hI, ta, tb, hO⟩, ⟨o1, q1, q⟩, ⟨o2, r1, r⟩⟩ := st
    exact ⟨⟨k z (by simp) _ hz, k TI (by simp) _ hI, ta, tb, k TO (by simp) _ hO⟩, ⟨o1, k i1 (by simp) _ q1, q⟩, ⟨o2, k i2 (by simp) _ r1, r⟩⟩
  item := by
    intro X hP hw hK hc i pins s σ H E I hf st hg
    subst hP hw hK
    obtain ⟨⟨hz, hI, ta, tb, hO⟩, h1, h2⟩ := st
    obtain ⟨⟨xs, x, hq, hx⟩, hlt2⟩ := hg
    obtain ⟨its, rv, p, hsz⟩ := I.tuple hq
    obtain ⟨u, hu, ru⟩ := rv.get hx
    obtain ⟨z0, z1, z2, z3, z4, z5⟩ := hf z (by simp)
    obtain ⟨n0, n1, n2, n3, n4, n5⟩ := hf TI (by simp)
    obtain ⟨o0, o1, o2, o3, o4, o5⟩ := hf TO (by simp)
    obtain ⟨e0, e1, e2, e3, e4, e5⟩ := hf i1 (by simp)
    obtain ⟨g0, g1, g2, g3, g4, g5⟩ := hf i2 (by simp)
    refine HT.pyNext_zipD ap (HT.draws_tup (A := X.A.in1) (I.ok.hd hc) i1 a hai its.toArray) (Draws.strAscii (A := X.A.in1) (I.ok.hd hc) i2 tx t) hz hI hO ⟨h1, p⟩ h2 (by have := (Array.getElem?_eq_some_iff.mp (show its.toArray[i]? = some u by simpa using hu)); exact this.1) hlt2 fun x0 y0 h' tk hx0 hy0 hz' hI' hO' st1' st2' hT hsz' hk => ?_
    have hxu : x0 = u := by
      have q : its.toArray[i]? = some u := by simpa using hu
      have hx0 : its.toArray[i]? = some x0 := hx0
      rw [q] at hx0; exact (Option.some.inj hx0).symm
    subst hxu
    obtain ⟨cy, ty, hcy, rfl⟩ := hy0
    obtain ⟨hit', hp'⟩ := st1'
    refine ⟨_, rfl, wpAny_letOwnedTupleGo_zip (s := { s with heap := h', toks := tk }) hz' fun h2' hz2 hs2 => ?_⟩
    have tz : s.heap.objs.size ≠ z := Ne.symm (ne_lt (Heap.lt_size hz) (Nat.le_refl _))
    have hT2 : IsPair h2' s.heap.objs.size x0 (.str ⟨#[cy]⟩ ty) := (hs2.2 _ tz).trans hT
    have hk2 : ∀ b o, b ≠ z → b ≠ TO → b ≠ i1 → b ≠ i2 → s.heap.get? b = some o → h2'.get? b = some o := fun b o q1 q2 q3 q4 q => (hs2.2 b q1).trans (hk b o q1 q2 q3 q4 q)
    have hp0 : H s.heap.objs.size = none := I.hok.fresh (Nat.le_refl _)
    have nt : ∀ b v, H b = some v → b ≠ z ∧ b ≠ TO ∧ b ≠ i1 ∧ b ≠ i2 := fun b v q => ⟨fun y => (by rw [y, z0] at q; cases q), fun y => (by rw [y, o0] at q; cases q), fun y => (by rw [y, e0] at q; cases q), fun y => (by rw [y, g0] at q; cases q)⟩
    have nch : ∀ b, b ∉ [z, TO, i1, i2] → b ≠ z ∧ b ≠ TO ∧ b ≠ i1 ∧ b ≠ i2 := fun b q => ⟨fun y => q (by simp [y]), fun y => q (by simp [y]), fun y => q (by simp [y]), fun y => q (by simp [y])⟩
    refine ⟨.ref s.heap.objs.size, upd H s.heap.objs.size (.tup [x, .str ⟨#[cy]⟩]), ?_, rfl, ⟨_, x, cy, hp0, rfl, rfl, hcy, fun ys hy => by rw [I.tuple_inj hy hq]; exact hx⟩, ⟨⟨hz2, (hs2.2 TI ap.TIz).trans hI', _, _, (hs2.2 TO ap.TOz).trans hO'⟩, tupIter_at hit' fun o y => (hs2.2 i1 ap.i1z).trans y, (show Heap.IsStrIter _ _ _ _ _ _ from let ⟨o, q, r⟩ := st2'; ⟨o, (hs2.2 i2 ap.i2z).trans q, r⟩)⟩, fun b hb => ?_⟩
    · show Inv X pins σ _ { s with heap := h2', gens := s.gens, drawn := s.drawn, toks := tk }
      refine Inv.step (s := s) (h' := h2') (g' := s.gens) (d' := s.drawn) (t' := tk) (ch := [z, TO, i1, i2]) I (fun b hb => ?_) (fun b o _ _ hc q _ => let ⟨w1, w2, w3, w4⟩ := nch b hc; hk2 b o w1 w2 w3 w4 q) (fun b o _ _ hc q _ => let ⟨w1, w2, w3, w4⟩ := nch b hc; ⟨o.slots, hk2 b o w1 w2 w3 w4 q⟩)
        (fun b o _ q n => by rw [upd_ne (ne_lt (Heap.lt_size q) (Nat.le_refl _))]; exact n) (fun b o hc q => let ⟨w1, w2, w3, w4⟩ := nch b hc; ⟨o, hk2 b o w1 w2 w3 w4 q⟩)
        (fun b ys q => by rw [upd_ne (ne_of_none q hp0)]; exact q) (fun b o v q => by rw [upd_ne (ne_of_none q hp0)]; exact q) (fun b ps q => ⟨#[], by rw [upd_ne (ne_of_none q hp0), q]; simp⟩) (fun m hm => ?_) (fun b v q => ?_) I.bare
      · simp only [List.mem_cons, List.not_mem_nil, or_false] at hb
        rcases hb with rfl | rfl | rfl | rfl
        · exact ⟨z3, z1, z4, z5⟩
        · exact ⟨o3, o1, o4, o5⟩
        · exact ⟨e3, e1, e4, e5⟩
        · exact ⟨g3, g1, g4, g5⟩
      · obtain ⟨o, es, ep, ho, r⟩ := hm
        exact ⟨o, es, ep, hk2 _ o (Ne.symm z1) (Ne.symm o1) (Ne.symm e1) (Ne.symm g1) ho, r⟩
      · by_cases hb : b = s.heap.objs.size
        · subst hb
          rw [upd_same] at q
          cases q
          refine ⟨by show 2 ≤ sizeLine; decide, [x0, (.str ⟨#[cy]⟩ ty)], .cons ru (.cons ⟨_, rfl⟩ .nil), ⟨_, hT2, rfl, 0, rfl⟩⟩
        · rw [upd_ne hb] at q
          refine (I.hok b v q).stay (fun c o hc y => ?_) (fun c y => by rw [upd_ne (ne_of_none y hp0)]; exact y) fun c ys y => by rw [upd_ne (ne_of_none y hp0)]; exact y
          rcases hc with rfl | hc
          · exact hk2 c o (nt c v q).1 (nt c v q).2.1 (nt c v q).2.2.1 (nt c v q).2.2.2 y
          · exact hk2 c o (nt c _ hc).1 (nt c _ hc).2.1 (nt c _ hc).2.2.1 (nt c _ hc).2.2.2 y
    · have hlt : b < s.heap.objs.size := by
        simp only [List.mem_cons, List.not_mem_nil, or_false] at hb
        rcases hb with rfl | rfl | rfl | rfl | rfl
        · exact Heap.lt_size hz
        · exact Heap.lt_size hI
        · exact Heap.lt_size hO
        · obtain ⟨o, ho, _⟩ := h1; exact Heap.lt_size ho
        · obtain ⟨o, ho, _⟩ := h2; exact Heap.lt_size ho
      rw [upd_ne (ne_lt hlt (Nat.le_refl _))]
      exact (hf b hb).1
  done := by
    intro X hP hw hK hc i pins s σ H E I hf st hg
    subst hP hw hK
    obtain ⟨⟨hz, hI, ta, tb, hO⟩, h1, h2⟩ := st
    obtain ⟨xs, hq, hstop⟩ := hg
    obtain ⟨its, rv, p, hsz⟩ := I.tuple hq
    have hl := rv.length
    obtain ⟨z0, z1, z2, z3, z4, z5⟩ := hf z (by simp)
    obtain ⟨o0, o1, o2, o3, o4, o5⟩ := hf TO (by simp)
    obtain ⟨e0, e1, e2, e3, e4, e5⟩ := hf i1 (by simp)
    obtain ⟨g0, g1, g2, g3, g4, g5⟩ := hf i2 (by simp)
    refine HT.pyNext_zip_endD ap (HT.draws_tup (A := X.A.in1) (I.ok.hd hc) i1 a hai its.toArray) (Draws.strAscii (A := X.A.in1) (I.ok.hd hc) i2 tx t) hz hI hO ⟨h1, p⟩ h2 (hstop.elim (fun q => .inl (by rw [List.size_toArray]; omega)) fun q => .inr ⟨by rw [List.size_toArray]; omega, q.2.symm⟩) fun h' tk hk => ⟨rfl, ?_⟩
    have nt : ∀ b v, H b = some v → b ≠ z ∧ b ≠ TO ∧ b ≠ i1 ∧ b ≠ i2 := fun b v q => ⟨fun y => (by rw [y, z0] at q; cases q), fun y => (by rw [y, o0] at q; cases q), fun y => (by rw [y, e0] at q; cases q), fun y => (by rw [y, g0] at q; cases q)⟩
    have nch : ∀ b, b ∉ [z, TO, i1, i2] → b ≠ z ∧ b ≠ TO ∧ b ≠ i1 ∧ b ≠ i2 := fun b q => ⟨fun y => q (by simp [y]), fun y => q (by simp [y]), fun y => q (by simp [y]), fun y => q (by simp [y])⟩
    refine Inv.step (s := s) (h' := h') (g' := s.gens) (d' := s.drawn) (t' := tk) (ch := [z, TO, i1, i2]) I (fun b hb => ?_) (fun b o _ _ hc q _ => let ⟨w1, w2, w3, w4⟩ := nch b hc; hk b o w1 w2 w3 w4 q) (fun b o _ _ hc q _ => let ⟨w1, w2, w3, w4⟩ := nch b hc; ⟨o.slots, hk b o w1 w2 w3 w4 q⟩)
      (fun b o _ q n => n) (fun b o hc q => let ⟨w1, w2, w3, w4⟩ := nch b hc; ⟨o, hk b o w1 w2 w3 w4 q⟩)
      (fun b ys q => q) (fun b o v q => q) (fun b ps q => ⟨#[], by rw [q]; simp⟩) (fun m hm => ?_) (fun b v q => ?_) I.bare
    · simp only [List.mem_cons, List.not_mem_nil, or_false] at hb
      rcases hb with rfl | rfl | rfl | rfl
      · exact ⟨z3, z1, z4, z5⟩
      · exact ⟨o3, o1, o4, o5⟩
      · exact ⟨e3, e1, e4, e5⟩
      · exact ⟨g3, g1, g4, g5⟩
    · obtain ⟨o, es, ep, ho, r⟩ := hm
      exact ⟨o, es, ep, hk _ o (Ne.symm z1) (Ne.symm o1) (Ne.symm e1) (Ne.symm g1) ho, r⟩
    · refine (I.hok b v q).stay (fun c o hc y => ?_) (fun c y => y) fun c ys y => y
      rcases hc with rfl | hc
      · exact hk c o (nt c v q).1 (nt c v q).2.1 (nt c v q).2.2.1 (nt c v q).2.2.2 y
      · exact hk c o (nt c _ hc).1 (nt c _ hc).2.1 (nt c _ hc).2.2.1 (nt c _ hc).2.2.2 y
  self := fun _ _ _ _ _ st h => by
    obtain ⟨⟨hz, _⟩, _⟩ := st
    exact wpAny_pyIter_zip hz h
theorem turn_zipT {P : Program} {w : World} {K : PySem.W.Frag} {elts : List Expr} {x1} {pos : Pos} (a z TI TO i1 i2 : Addr) (b : Addr) (ap : HT.ZApart z TI TO i1 i2 [i1, a] [i2, b]) (hai : a ≠ i1) (hbi : b ≠ i2) :
    Turn P w K (.Tuple elts x1 pos) (ItzT K a b) [z, TI, TO, i1, i2] z (fun i h => ZSt h z TI TO i1 i2 ∧ IsTupIter h i1 a i ∧ IsTupIter h i2 b i) where
  mem := by simp
  obj := fun i h st b hb => by
    obtain ⟨⟨hz, hI, ta, tb, hO⟩, ⟨o1, q1, q2, q3⟩, ⟨o2, r1, r2, r3⟩⟩ := st
    simp only [List.mem_cons, List.not_mem_nil, or_false] at hb
    rcases hb with rfl | rfl | rfl | rfl | rfl
    · exact ⟨_, hz, fun v z => by have z' : Data.fields _ = Data.cell v := z; cases z'⟩
    · exact ⟨_, hI, fun v z => by have z' : Data.seq _ _ = Data.cell v := z; cases z'⟩
    · exact ⟨_, hO, fun v z => by have z' : Data.seq _ _ = Data.cell v := z; cases z'⟩
    · exact ⟨o1, q1, fun v z => by rw [q3] at z; cases z⟩
    · exact ⟨o2, r1, fun v z => by rw [r3] at z; cases z⟩
  keep := fun i h h' st k => by
    obtain ⟨⟨hz, hI, ta, tb, hO⟩, ⟨o1, q1, q⟩, ⟨o2, r1, r⟩⟩ := st
    exact ⟨⟨k z (by simp) _ hz, k TI (by simp) _ hI, ta, tb, k TO (by simp) _ hO⟩, ⟨o1, k i1 (by simp) _ q1, q⟩, ⟨o2, k i2 (by simp) _ r1, r⟩⟩
  item := by
    intro X hP hw hK hc i pins s σ H E I hf st hg
    subst hP hw hK
    obtain ⟨⟨hz, hI, ta, tb, hO⟩, h1, h2⟩ := st
    obtain ⟨⟨xs, x, hq, hx⟩, ys, y, hqy, hy⟩ := hg
    obtain ⟨its2, rv2, p2, hsz2⟩ := I.tuple hqy
    obtain ⟨u2, hu2, ru2⟩ := rv2.get hy
    obtain ⟨its, rv, p, hsz⟩ := I.tuple hq
    obtain ⟨u, hu, ru⟩ := rv.get hx
    obtain ⟨z0, z1, z2, z3, z4, z5⟩ := hf z (by simp)
    obtain ⟨n0, n1, n2, n3, n4, n5⟩ := hf TI (by simp)
    obtain ⟨o0, o1, o2, o3, o4, o5⟩ := hf TO (by simp)
    obtain ⟨e0, e1, e2, e3, e4, e5⟩ := hf i1 (by simp)
    obtain ⟨g0, g1, g2, g3, g4, g5⟩ := hf i2 (by simp)
    refine HT.pyNext_zipD ap (HT.draws_tup (A := X.A.in1) (I.ok.hd hc) i1 a hai its.toArray) (HT.draws_tup (A := X.A.in1) (I.ok.hd hc) i2 b hbi its2.toArray) hz hI hO ⟨h1, p⟩ ⟨h2, p2⟩ (by have := (Array.getElem?_eq_some_iff.mp (show its.toArray[i]? = some u by simpa using hu)); exact this.1) (by have := (Array.getElem?_eq_some_iff.mp (show its2.toArray[i]? = some u2 by simpa using hu2)); exact this.1) fun x0 y0 h' tk hx0 hy0 hz' hI' hO' st1' st2' hT hsz' hk => ?_
    have hxu : x0 = u := by
      have q : its.toArray[i]? = some u := by simpa using hu
      have hx0 : its.toArray[i]? = some x0 := hx0
      rw [q] at hx0; exact (Option.some.inj hx0).symm
    subst hxu
    have hyu : y0 = u2 := by
      have q : its2.toArray[i]? = some u2 := by simpa using hu2
      have hy0 : its2.toArray[i]? = some y0 := hy0
      rw [q] at hy0; exact (Option.some.inj hy0).symm
    subst hyu
    obtain ⟨hit', hp'⟩ := st1'
    refine ⟨_, rfl, wpAny_letOwnedTupleGo_zip (s := { s with heap := h', toks := tk }) hz' fun h2' hz2 hs2 => ?_⟩
    have tz : s.heap.objs.size ≠ z := Ne.symm (ne_lt (Heap.lt_size hz) (Nat.le_refl _))
    have hT2 : IsPair h2' s.heap.objs.size x0 y0 := (hs2.2 _ tz).trans hT
    have hk2 : ∀ b o, b ≠ z → b ≠ TO → b ≠ i1 → b ≠ i2 → s.heap.get? b = some o → h2'.get? b = some o := fun b o q1 q2 q3 q4 q => (hs2.2 b q1).trans (hk b o q1 q2 q3 q4 q)
    have hp0 : H s.heap.objs.size = none := I.hok.fresh (Nat.le_refl _)
    have nt : ∀ b v, H b = some v → b ≠ z ∧ b ≠ TO ∧ b ≠ i1 ∧ b ≠ i2 := fun b v q => ⟨fun y => (by rw [y, z0] at q; cases q), fun y => (by rw [y, o0] at q; cases q), fun y => (by rw [y, e0] at q; cases q), fun y => (by rw [y, g0] at q; cases q)⟩
    have nch : ∀ b, b ∉ [z, TO, i1, i2] → b ≠ z ∧ b ≠ TO ∧ b ≠ i1 ∧ b ≠ i2 := fun b q => ⟨fun y => q (by simp [y]), fun y => q (by simp [y]), fun y => q (by simp [y]), fun y => q (by simp [y])⟩
    refine ⟨.ref s.heap.objs.size, upd H s.heap.objs.size (.tup [x, y]), ?_, rfl, ⟨_, x, y, hp0, rfl, rfl, fun zs hzs => by rw [I.tuple_inj hzs hqy]; exact hy, fun zs hzs => by rw [I.tuple_inj hzs hq]; exact hx⟩, ⟨⟨hz2, (hs2.2 TI ap.TIz).trans hI', _, _, (hs2.2 TO ap.TOz).trans hO'⟩, tupIter_at hit' fun o y => (hs2.2 i1 ap.i1z).trans y, (tupIter_at st2'.1 fun o y => (hs2.2 i2 ap.i2z).trans y)⟩, fun b hb => ?_⟩
    · show Inv X pins σ _ { s with heap := h2', gens := s.gens, drawn := s.drawn, toks := tk }
      refine Inv.step (s := s) (h' := h2') (g' := s.gens) (d' := s.drawn) (t' := tk) (ch := [z, TO, i1, i2]) I (fun b hb => ?_) (fun b o _ _ hc q _ => let ⟨w1, w2, w3, w4⟩ := nch b hc; hk2 b o w1 w2 w3 w4 q) (fun b o _ _ hc q _ => let ⟨w1, w2, w3, w4⟩ := nch b hc; ⟨o.slots, hk2 b o w1 w2 w3 w4 q⟩)
        (fun b o _ q n => by rw [upd_ne (ne_lt (Heap.lt_size q) (Nat.le_refl _))]; exact n) (fun b o hc q => let ⟨w1, w2, w3, w4⟩ := nch b hc; ⟨o, hk2 b o w1 w2 w3 w4 q⟩)
        (fun b ys q => by rw [upd_ne (ne_of_none q hp0)]; exact q) (fun b o v q => by rw [upd_ne (ne_of_none q hp0)]; exact q) (fun b ps q => ⟨#[], by rw [upd_ne (ne_of_none q hp0), q]; simp⟩) (fun m hm => ?_) (fun b v q => ?_) I.bare
      · simp only [List.mem_cons, List.not_mem_nil, or_false] at hb
        rcases hb with rfl | rfl | rfl | rfl
        · exact ⟨z3, z1, z4, z5⟩
        · exact ⟨o3, o1, o4, o5⟩
        · exact ⟨e3, e1, e4, e5⟩
        · exact ⟨g3, g1, g4, g5⟩
      · obtain ⟨o, es, ep, ho, r⟩ := hm
        exact ⟨o, es, ep, hk2 _ o (Ne.symm z1) (Ne.symm o1) (Ne.symm e1) (Ne.symm g1) ho, r⟩
      · by_cases hb : b = s.heap.objs.size
        · subst hb
          rw [upd_same] at q
          cases q
          refine ⟨by show 2 ≤ sizeLine; decide, [x0, y0], .cons ru (.cons ru2 .nil), ⟨_, hT2, rfl, 0, rfl⟩⟩
        · rw [upd_ne hb] at q
          refine (I.hok b v q).stay (fun c o hc y => ?_) (fun c y => by rw [upd_ne (ne_of_none y hp0)]; exact y) fun c ys y => by rw [upd_ne (ne_of_none y hp0)]; exact y
          rcases hc with rfl | hc
          · exact hk2 c o (nt c v q).1 (nt c v q).2.1 (nt c v q).2.2.1 (nt c v q).2.2.2 y
          · exact hk2 c o (nt c _ hc).1 (nt c _ hc).2.1 (nt c _ hc).2.2.1 (nt c _ hc).2.2.2 y
    · have hlt : b < s.heap.objs.size := by
        simp only [List.mem_cons, List.not_mem_nil, or_false] at hb
        rcases hb with rfl | rfl | rfl | rfl | rfl
        · exact Heap.lt_size hz
        · exact Heap.lt_size hI
        · exact Heap.lt_size hO
        · obtain ⟨o, ho, _⟩ := h1; exact Heap.lt_size ho
        · obtain ⟨o, ho, _⟩ := h2; exact Heap.lt_size ho
      rw [upd_ne (ne_lt hlt (Nat.le_refl _))]
      exact (hf b hb).1
  done := by
    intro X hP hw hK hc i pins s σ H E I hf st hg
    subst hP hw hK
    obtain ⟨⟨hz, hI, ta, tb, hO⟩, h1, h2⟩ := st
    obtain ⟨xs, ys, hq, hqy, hstop⟩ := hg
    obtain ⟨its2, rv2, p2, hsz2⟩ := I.tuple hqy
    have hl2 := rv2.length
    obtain ⟨its, rv, p, hsz⟩ := I.tuple hq
    have hl := rv.length
    obtain ⟨z0, z1, z2, z3, z4, z5⟩ := hf z (by simp)
    obtain ⟨o0, o1, o2, o3, o4, o5⟩ := hf TO (by simp)
    obtain ⟨e0, e1, e2, e3, e4, e5⟩ := hf i1 (by simp)
    obtain ⟨g0, g1, g2, g3, g4, g5⟩ := hf i2 (by simp)
    refine HT.pyNext_zip_endD ap (HT.draws_tup (A := X.A.in1) (I.ok.hd hc) i1 a hai its.toArray) (HT.draws_tup (A := X.A.in1) (I.ok.hd hc) i2 b hbi its2.toArray) hz hI hO ⟨h1, p⟩ ⟨h2, p2⟩ (hstop.elim (fun q => .inl (by rw [List.size_toArray]; omega)) fun q => .inr ⟨by rw [List.size_toArray]; omega, by rw [List.size_toArray]; omega⟩) fun h' tk hk => ⟨rfl, ?_⟩
    have nt : ∀ b v, H b = some v → b ≠ z ∧ b ≠ TO ∧ b ≠ i1 ∧ b ≠ i2 := fun b v q => ⟨fun y => (by rw [y, z0] at q; cases q), fun y => (by rw [y, o0] at q; cases q), fun y => (by rw [y, e0] at q; cases q), fun y => (by rw [y, g0] at q; cases q)⟩
    have nch : ∀ b, b ∉ [z, TO, i1, i2] → b ≠ z ∧ b ≠ TO ∧ b ≠ i1 ∧ b ≠ i2 := fun b q => ⟨fun y => q (by simp [y]), fun y => q (by simp [y]), fun y => q (by simp [y]), fun y => q (by simp [y])⟩
    refine Inv.step (s := s) (h' := h') (g' := s.gens) (d' := s.drawn) (t' := tk) (ch := [z, TO, i1, i2]) I (fun b hb => ?_) (fun b o _ _ hc q _ => let ⟨w1, w2, w3, w4⟩ := nch b hc; hk b o w1 w2 w3 w4 q) (fun b o _ _ hc q _ => let ⟨w1, w2, w3, w4⟩ := nch b hc; ⟨o.slots, hk b o w1 w2 w3 w4 q⟩)
      (fun b o _ q n => n) (fun b o hc q => let ⟨w1, w2, w3, w4⟩ := nch b hc; ⟨o, hk b o w1 w2 w3 w4 q⟩)
      (fun b ys q => q) (fun b o v q => q) (fun b ps q => ⟨#[], by rw [q]; simp⟩) (fun m hm => ?_) (fun b v q => ?_) I.bare
    · simp only [List.mem_cons, List.not_mem_nil, or_false] at hb
      rcases hb with rfl | rfl | rfl | rfl
      · exact ⟨z3, z1, z4, z5⟩
      · exact ⟨o3, o1, o4, o5⟩
      · exact ⟨e3, e1, e4, e5⟩
      · exact ⟨g3, g1, g4, g5⟩
    · obtain ⟨o, es, ep, ho, r⟩ := hm
      exact ⟨o, es, ep, hk _ o (Ne.symm z1) (Ne.symm o1) (Ne.symm e1) (Ne.symm g1) ho, r⟩
    · refine (I.hok b v q).stay (fun c o hc y => ?_) (fun c y => y) fun c ys y => y
      rcases hc with rfl | hc
      · exact hk c o (nt c v q).1 (nt c v q).2.1 (nt c v q).2.2.1 (nt c v q).2.2.2 y
      · exact hk c o (nt c _ hc).1 (nt c _ hc).2.1 (nt c _ hc).2.2.1 (nt c _ hc).2.2.2 y
  self := fun _ _ _ _ _ st h => by
    obtain ⟨⟨hz, _⟩, _⟩ := st
    exact wpAny_pyIter_zip hz h
noncomputable def zipD (xs ys : List Dt) : List Dt := (xs.zip ys).map fun p => .tup [p.1, p.2]
theorem zipD_get {xs ys : List Dt} {i : Nat} {d : Dt} (h : (zipD xs ys)[i]? = some d) : ∃ x y, xs[i]? = some x ∧ ys[i]? = some y ∧ d = .tup [x, y] := by
  unfold zipD at h
  rw [List.getElem?_map] at h
  cases e : (xs.zip ys)[i]? with
  | none => rw [e] at h; cases h
  | some p =>
    rw [e] at h
    obtain ⟨h1, h2⟩ := List.getElem?_zip_eq_some.mp e
    exact ⟨p.1, p.2, h1, h2, (Option.some.inj h).symm⟩
theorem zipD_len {xs ys : List Dt} : (zipD xs ys).length = min xs.length ys.length := by
  unfold zipD; simp
noncomputable def izip (ta tb : TD) : TID := fun ρ st P => ta ρ st fun x st1 => tb ρ st1 fun y st2 => match x, y with
  | .tup xs, .str z => (z.cps.all fun c => decide (c < 128)) = true ∧ P (zipD xs (signsD z)) (fun _ => True) st2
  | .tup xs, .tup ys => P (zipD xs ys) (fun _ => True) st2
  | _, _ => False
theorem iter_tup {prog : Program} {w : World} {t : Addr} {items : Array Value} : HT.IterTo prog w (.ref t) { cls := .type "tuple_iterator", data := .fields #[.ref t, .int 0 0] } (fun h => IsTup h t items) := fun A s Q E h q => iter_tuple h q
theorem iter_str {prog : Program} {w : World} {z : Str} {t : Tok} (ha : (z.cps.all fun c => decide (c < 128)) = true) : HT.IterTo prog w (.str z t) { cls := .type "str_ascii_iterator", data := .fields #[.str z t, .int 0 0] } (fun _ => True) := fun A s Q E _ q => wpAny_pyIter_ascii ha q
section
variable {X : Cx} {a b : Expr} {elts : List Expr} {x1 : Nat} {tpos pos p : Pos} {ta tb : TD}
theorem di_zip (hm : X.mg "zip" = none) (ha : DE X a ta) (hb : DE X b tb) (hg : Gl X "zip") (hs : starEach [a, b] X.env = (false, eval a X.env) :: starEach [b] X.env) (hs2 : starEach [b] X.env = (false, eval b X.env) :: starEach [] X.env) (hpl : (backTo pos (starEach [b] X.env)).any (·.1) = false) : DI X (.Tuple elts x1 tpos) (.Call (.Name "zip" p) [a, b] [] pos) (izip ta tb) := by
  intro pins s σ H R I h
  obtain ⟨φ, st, ρ, P, pre, ht, hq⟩ := h
  refine Call_ (ld_blt I hg hm PyProof.Rows.boot_zip (PyProof.Rows.callWith_type1 (thn (da_cons ha (da_cons hb da_nil hs2) hs pos pins s σ H _ I ⟨φ, st, ρ, (fun ds st1 => match ds with
    | [x, y] => (match x, y with
      | .tup xs, .str z => (z.cps.all fun c => decide (c < 128)) = true ∧ P (zipD xs (signsD z)) (fun _ => True) st1
      | .tup xs, .tup ys => P (zipD xs ys) (fun _ => True) st1
      | _, _ => False)
    | _ => False), pre, ht, fun ds st1 h1 φ1 H1 vs b1 dl => (show ∃ φ1 st1 ds, Bhd X.K φ st H φ1 st1 H1 ∧ DL X.K φ1 st1.length H1 ds vs ∧ (match ds with
    | [x, y] => (match x, y with
      | .tup xs, .str z => (z.cps.all fun c => decide (c < 128)) = true ∧ P (zipD xs (signsD z)) (fun _ => True) st1
      | .tup xs, .tup ys => P (zipD xs ys) (fun _ => True) st1
      | _, _ => False)
    | _ => False) from ⟨φ1, st1, ds, b1, dl, h1⟩)⟩) fun us s1 ⟨vs, H1, I1, rv, φ1, st1, ds, b1, dl, h1⟩ => ?_) hs hpl))
  rcases ds with _ | ⟨d, _ | ⟨e, _ | ⟨d3, r⟩⟩⟩
  · exact h1.elim
  · exact h1.elim
  rotate_left
  · exact h1.elim
  obtain ⟨v1, vr, rfl, dv1, dlr⟩ := dl
  obtain ⟨v2, rfl, dv2⟩ := DL.one dlr
  cases rv with
  | @cons _ u1 _ us1 ru1 rr =>
  cases rr with
  | @cons _ u2 _ us2 ru2 rr2 =>
  cases rr2
  cases d with
  | tup xs =>
    obtain ⟨a1, ws, ev, hs1, dws⟩ := dv1.tup
    subst ev
    cases ru1
    obtain ⟨its, rvs, pl, hz⟩ := I1.tuple hs1
    have alt : a1 < s1.heap.objs.size := by obtain ⟨_, e, _⟩ := pl; exact Heap.lt_size e
    have hlw := dws.length
    have hfp : ∀ c ∈ [s1.heap.objs.size + 4, s1.heap.objs.size + 2, s1.heap.objs.size + 3, s1.heap.objs.size, s1.heap.objs.size + 1], FpOk X pins H1 c := fun c hc => by
      have hle : s1.heap.objs.size ≤ c := by
        simp only [List.mem_cons, List.not_mem_nil, or_false] at hc
        omega
      exact I1.fpOk hle (I1.hok.fresh hle)
    cases e with
    | str z =>
      obtain ⟨hasc, h1⟩ := h1
      have ev := dv2.str
      subst ev
      obtain ⟨t, rfl⟩ := ru2
      refine HT.call_zipD iter_tup (iter_str hasc) rfl rfl pl trivial fun h' hz' hI' hO' g1 g2 hsz hk => ?_
      refine wpAny_pyIter_zip (s := { s1 with heap := h' }) hz' ?_
      have I2 : Inv X pins σ H1 { s1 with heap := h' } := I1.kept (t' := s1.toks) hk
      refine ⟨s1.heap.objs.size + 4, [s1.heap.objs.size + 4, s1.heap.objs.size + 2, s1.heap.objs.size + 3, s1.heap.objs.size, s1.heap.objs.size + 1], _, _, H1, rfl, I2, turn_zipS a1 (s1.heap.objs.size + 4) (s1.heap.objs.size + 2) (s1.heap.objs.size + 3) s1.heap.objs.size (s1.heap.objs.size + 1) z t ?_ (Nat.ne_of_lt alt), ⟨⟨hz', hI', _, _, hO'⟩, ⟨_, g1, rfl, rfl⟩, ⟨_, g2, rfl, rfl⟩⟩, hfp, hq _ _ st1 h1 φ1 H1 _ b1 ?_⟩
      · have alt' : (a1 : Nat) < s1.heap.objs.size := alt
        generalize s1.heap.objs.size = n at *
        refine ⟨?_, ?_, ?_, ?_, ?_, ?_, ?_, ?_, ?_, ?_, ?_, ?_, ?_, ?_, ?_, ?_⟩ <;> (intro q; try simp only [List.mem_cons, List.not_mem_nil, or_false] at q) <;> (revert q alt'; try revert alt2) <;> (unfold Addr at *; omega)
      · intro i φ' st' H' bh hok hi
        obtain ⟨a', zs, e2, hs', dl'⟩ := (dv1.evo bh.2).tup
        cases e2
        have hlen := dl'.length
        have hsl : (signsD z).length = z.cps.size := by simp [signsD]
        rw [zipD_len, hsl] at hi
        refine ⟨fun e => ⟨zs, hs', by rw [zipD_len, hsl] at e; omega⟩, fun d ed => ?_⟩
        obtain ⟨x, y, ex, ey, rfl⟩ := zipD_get ed
        obtain ⟨vx, evx, dx⟩ := dl'.get ex
        have hlt : i < (signsD z).length := (List.getElem?_eq_some_iff.mp ey).1
        rw [hsl] at hlt
        have ey2 : y = .str ⟨#[z.cps[i]]⟩ := by
          have q : (signsD z)[i]? = some (.str ⟨#[z.cps[i]]⟩) := by simp [signsD, hlt]
          rw [q] at ey; exact (Option.some.inj ey).symm
        subst ey2
        refine ⟨⟨⟨zs, vx, hs', evx⟩, hlt⟩, fun y' H2 hy => ?_⟩
        obtain ⟨q, v, c, hq1, rfl, rfl, hc, hv⟩ := hy
        have hvx := hv zs hs'
        rw [evx] at hvx
        cases hvx
        have : z.cps[i]? = some z.cps[i] := by simp [hlt]
        rw [this] at hc
        cases hc
        exact ⟨bhd_tup bh.1 hq1, .mkTup (SqT.of upd_same) (.cons (dx.evo (evo_new hq1)) (.cons D.mkStr .nil))⟩
    | tup ys =>
      have h1 : P (zipD xs ys) (fun _ => True) st1 := h1
      obtain ⟨a2, ws2, ev, hs2', dws2⟩ := dv2.tup
      subst ev
      cases ru2
      obtain ⟨its2, rvs2, pl2, hz2⟩ := I1.tuple hs2'
      have alt2 : a2 < s1.heap.objs.size := by obtain ⟨_, e, _⟩ := pl2; exact Heap.lt_size e
      refine HT.call_zipD iter_tup iter_tup rfl rfl pl (show IsTup _ a2 its2.toArray from let ⟨o, q, r⟩ := pl2; ⟨o, Heap.get?_push_of_some _ q, r⟩) fun h' hz' hI' hO' g1 g2 hsz hk => ?_
      refine wpAny_pyIter_zip (s := { s1 with heap := h' }) hz' ?_
      have I2 : Inv X pins σ H1 { s1 with heap := h' } := I1.kept (t' := s1.toks) hk
      refine ⟨s1.heap.objs.size + 4, [s1.heap.objs.size + 4, s1.heap.objs.size + 2, s1.heap.objs.size + 3, s1.heap.objs.size, s1.heap.objs.size + 1], _, _, H1, rfl, I2, turn_zipT a1 (s1.heap.objs.size + 4) (s1.heap.objs.size + 2) (s1.heap.objs.size + 3) s1.heap.objs.size (s1.heap.objs.size + 1) a2 ?_ (Nat.ne_of_lt alt) (Nat.ne_of_lt (Nat.lt_succ_of_lt alt2)), ⟨⟨hz', hI', _, _, hO'⟩, ⟨_, g1, rfl, rfl⟩, ⟨_, g2, rfl, rfl⟩⟩, hfp, hq _ _ st1 h1 φ1 H1 _ b1 ?_⟩
      · have alt' : (a1 : Nat) < s1.heap.objs.size := alt
        generalize s1.heap.objs.size = n at *
        refine ⟨?_, ?_, ?_, ?_, ?_, ?_, ?_, ?_, ?_, ?_, ?_, ?_, ?_, ?_, ?_, ?_⟩ <;> (intro q; try simp only [List.mem_cons, List.not_mem_nil, or_false] at q) <;> (revert q alt'; try revert alt2) <;> (unfold Addr at *; omega)
      · intro i φ' st' H' bh hok hi
        obtain ⟨a', zs, e2, hs', dl'⟩ := (dv1.evo bh.2).tup
        cases e2
        obtain ⟨b', zs2, e3, hsb, dlb⟩ := (dv2.evo bh.2).tup
        cases e3
        have hlen := dl'.length
        have hlenb := dlb.length
        rw [zipD_len] at hi
        refine ⟨fun e => ⟨zs, zs2, hs', hsb, by rw [zipD_len] at e; omega⟩, fun d ed => ?_⟩
        obtain ⟨x, y, ex, ey, rfl⟩ := zipD_get ed
        obtain ⟨vx, evx, dx⟩ := dl'.get ex
        obtain ⟨vy, evy, dy⟩ := dlb.get ey
        refine ⟨⟨⟨zs, vx, hs', evx⟩, ⟨zs2, vy, hsb, evy⟩⟩, fun y' H2 hy => ?_⟩
        obtain ⟨q, v, w2, hq1, rfl, rfl, hc, hv⟩ := hy
        have hvx := hv zs hs'
        rw [evx] at hvx
        cases hvx
        have hvy := hc zs2 hsb
        rw [evy] at hvy
        cases hvy
        exact ⟨bhd_tup bh.1 hq1, .mkTup (SqT.of upd_same) (.cons (dx.evo (evo_new hq1)) (.cons (dy.evo (evo_new hq1)) .nil))⟩
    | _ => exact h1.elim
  | _ => cases e <;> exact h1.elim
end
end L3
namespace L3
open PySem PySem.Spec PyProof.Rows L2
noncomputable def rShl : RD2 := fun x y st P => match x, y with
  | .int i, .int j => CPow i j ∧ P (.int (i * 2 ^ j.toNat)) st
  | _, _ => False
noncomputable def rShr : RD2 := fun x y st P => match x, y with
  | .int i, .int j => 0 ≤ j ∧ P (.int (i / 2 ^ j.toNat)) st
  | _, _ => False
section
variable {X : Cx} {a b : Expr} {ta tb : TD} {pos : Pos}
theorem od_shl : OpD X (binaryOp .LShift) rShl := by
  intro pins s σ H v w u1 u2 Q I r1 r2 h
  obtain ⟨φ, st, x, y, P, R, dx, dy, hr, hq⟩ := h
  cases x with
  | int i =>
    cases y with
    | int j => exact op_shl pins s σ H v w u1 u2 Q I r1 r2 ⟨i, j, dx.int, dy.int, hr.1, Go.here hq R hr.2 D.mkInt⟩
    | _ => exact hr.elim
  | _ => cases y <;> exact hr.elim
theorem od_shr : OpD X (binaryOp .RShift) rShr := by
  intro pins s σ H v w u1 u2 Q I r1 r2 h
  obtain ⟨φ, st, x, y, P, R, dx, dy, hr, hq⟩ := h
  cases x with
  | int i =>
    cases y with
    | int j => exact op_shr pins s σ H v w u1 u2 Q I r1 r2 ⟨i, j, dx.int, dy.int, hr.1, Go.here hq R hr.2 D.mkInt⟩
    | _ => exact hr.elim
  | _ => cases y <;> exact hr.elim
theorem dx_shl (ha : DE X a ta) (hb : DE X b tb) : DE X (.BinOp a .LShift b pos) (tbin rShl ta tb) := de_op od_shl ha hb
theorem dx_shr (ha : DE X a ta) (hb : DE X b tb) : DE X (.BinOp a .RShift b pos) (tbin rShr ta tb) := de_op od_shr ha hb
end
end L3
namespace K01
open PySem L2 L3
noncomputable def wordsS : List Str := ["halt", "put", "add", "sub", "mul", "bad", "div", "get", "set", "jump", "when", "go", "tell", "hear", "right", "back"]
end K01
set_option maxHeartbeats 1000000
namespace K02
open PySem L2 L3
noncomputable abbrev cs (z : Str) : List Nat := z.cps.toList
noncomputable abbrev one (c : Nat) : Str := ⟨#[c]⟩
theorem ext {a b : Str} (h : cs a = cs b) : a = b := PyProof.Rows.ext_toList h
noncomputable abbrev dval : List Nat → Nat := NumText.digitsVal
noncomputable def figs (n : Nat) : List Nat := (Nat.toDigits 10 n).map Char.toNat
noncomputable def isDig (c : Nat) : Bool := decide (48 ≤ c) && decide (c ≤ 57)
end K02
namespace K85
open PySem L2 L3 K02
noncomputable def formS : List (Str × Str) := [("num", "dn"), ("yes", "d"), ("no", "d"), ("box", "dn"), ("mark", "dn"), ("add", "dxx"), ("sub", "dxx"), ("mul", "dxx"), ("over", "dxx"), ("under", "dxx"), ("wide", "dxx"), ("rest", "dxx"), ("nought", "dx"), ("high", "dx"), ("keep", "sx"), ("load", "ds"), ("get", "dxxe"), ("set", "xxxee"), ("div", "dxxe"), ("tell", "x"), ("hear", "d"), ("right", "xxe"), ("out", "e"), ("when", "xee"), ("back", "ee")]
structure Rw where
  w : Str
  xs : List Int
noncomputable def rowD (r : Rw) : Dt := .tup (.str r.w :: r.xs.map .int)
noncomputable def form (w : Str) : Str := (formS.lookup w).getD ""
structure OkR (r : Rw) : Prop where
  know : formS.lookup r.w = some (form r.w)
  len : r.xs.length = (form r.w).length
noncomputable def partsOf (f : Str) (xs : List Int) (sign : Str) : List Int := ((xs.zip (cs f)).filter fun p => one p.2 == sign).map (·.1)
noncomputable def eOf (r : Rw) : List Int := partsOf (form r.w) r.xs "e"
noncomputable def rowsTo : Nat → List Rw → Int → List Int
  | _, [], _ => []
  | k, r :: rs, n => if (eOf r).contains n then (k : Int) :: rowsTo (k + 1) rs n else rowsTo (k + 1) rs n
theorem form_all : formS.all (fun p => (p.2.cps.all fun c => decide (c < 128)) && decide (p.2.length ≤ 5)) = true := by decide +kernel
theorem lookup_mem {α β : Type} [BEq α] [LawfulBEq α] : ∀ {l : List (α × β)} {a : α} {b : β}, l.lookup a = some b → (a, b) ∈ l
  | [], _, _, h => by cases h
  | (x, y) :: l, a, b, h => by
    rw [List.lookup_cons] at h
    cases e : (a == x) with
    | true =>
      rw [e] at h
      have : a = x := eq_of_beq e
      subst this
      cases h; exact List.mem_cons_self
    | false =>
      rw [e] at h
      exact List.mem_cons_of_mem _ (lookup_mem h)
theorem form_ok {w f : Str} (h : formS.lookup w = some f) : (f.cps.all fun c => decide (c < 128)) = true ∧ f.length ≤ 5 := by
  have := List.all_eq_true.mp form_all _ (lookup_mem h)
  simp only [Bool.and_eq_true, decide_eq_true_eq] at this
  exact this
theorem ok_of {w f : Str} {xs : List Int} (h : formS.lookup w = some f) (hl : xs.length = f.length) : OkR ⟨w, xs⟩ := by
  have e : form w = f := by unfold form; rw [h]; rfl
  exact ⟨by show formS.lookup w = some (form w); rw [e]; exact h, by show xs.length = (form w).length; rw [e]; exact hl⟩
noncomputable def spParts : RDL := fun ds st P => ∃ (r : Rw) (sign : Str), ds = [rowD r, .str sign] ∧ OkR r ∧ ∀ st', ExtS st st' → P (.tup ((partsOf (form r.w) r.xs sign).map .int)) st'
noncomputable def spRowsTo : RDL := fun ds st P => ∃ (rs : List Rw) (n : Int) (a b d : Dt), ds = [.tup [a, b, .tup (rs.map rowD), d], .int n] ∧ (∀ r ∈ rs, OkR r) ∧ rs.length ≤ 300 ∧ ∀ st', ExtS st st' → P (.tup ((rowsTo 1 rs n).map .int)) st'
noncomputable def spMix : RDL := fun ds st P => ∃ (c : Int) (k : Nat), ds = [.int c, .int (k : Int)] ∧ k < 100 ∧ ∀ x : Int, 0 ≤ x → P (.int x) st
noncomputable def spCellAt : RDL := fun ds st P => ∃ (sc k : Nat) (ns : List Int), ds = [.lst sc, .int (k : Int)] ∧ st[sc]? = some (.ro (ns.map .int)) ∧ ∀ x : Int, P (.int x) st
noncomputable def PIn (ps bs : List Int) : Prop := ps.length = bs.length ∧ ∀ (i : Nat) p b, ps[i]? = some p → bs[i]? = some b → 0 ≤ p ∧ p < b
noncomputable def spLParts : RDL := fun ds st P => ∃ (c way : Int) (b : Nat) (bs : List Int), ds = [.int c, .int way, .lst b] ∧ st[b]? = some (.rw (bs.map .int)) ∧ (∀ x ∈ bs, 0 < x ∧ x < 1000000) ∧ bs.length ≤ 20 ∧ ∀ (ps : List Int) st' n, ExtS st st' → st'[n]? = some (.rw (ps.map .int)) → PIn ps bs → P (.lst n) st'
noncomputable def RowsAt (st : Sto) (n : Nat) (rs : List Rw) (m : Nat) : Prop := st[n]? = some (.rw (rs.map rowD)) ∧ (∀ r ∈ rs, OkR r) ∧ rs.length ≤ m
noncomputable def spFirst : RDL := fun ds st P => ∃ (many numbers : Nat) (left : Int), ds = [.int (many : Int), .int (numbers : Int), .int left] ∧ 1 ≤ numbers ∧ numbers < many ∧ many ≤ 16 ∧ ∀ rs st' n, ExtS st st' → st.length ≤ n → RowsAt st' n rs 40 → P (.lst n) st'
noncomputable def rowB : List Int := [20, 16, 16, 16, 65536, 8, 4, 4]
noncomputable def spPlain : RDL := fun ds st P => ∃ (p many numbers : Nat) (ps : List Int), ds = [.lst p, .int (many : Int), .int (numbers : Int)] ∧ st[p]? = some (.rw (ps.map .int)) ∧ PIn ps rowB ∧ 1 ≤ numbers ∧ numbers < many ∧ many ≤ 16 ∧ ∀ r st', ExtS st st' → OkR r → P (rowD r) st'
noncomputable def spItems : RDL := fun ds st P => ∃ (p numbers exits : Nat) (ps : List Int), ds = [.lst p, .int (numbers : Int), .int (exits : Int)] ∧ st[p]? = some (.rw (ps.map .int)) ∧ PIn ps rowB ∧ 1 ≤ numbers ∧ 1 ≤ exits ∧ ∀ rs st' n, ExtS st st' → RowsAt st' n rs 2 → P (.lst n) st'
noncomputable def spSource : RDL := fun ds st P => ∃ (x : Int) (numbers many : Nat) (t : Bool), ds = [.int x, .int (numbers : Int), .int (many : Int), .bl t] ∧ 1 ≤ numbers ∧ numbers < many ∧ ∀ d st', ExtS st st' → P d st'
noncomputable def spExit : RDL := fun ds st P => ∃ (p numbers many : Nat) (ps : List Int), ds = [.lst p, .int (numbers : Int), .int (many : Int)] ∧ st[p]? = some (.rw (ps.map .int)) ∧ ps.length = 15 ∧ 1 ≤ numbers ∧ numbers < many ∧ ∀ a b c d e st', ExtS st st' → P (.tup [a, b, c, d, e]) st'
noncomputable def Five (d : Dt) : Prop := ∃ a b c e f, d = .tup [a, b, c, e, f]
noncomputable def spExits : RDL := fun ds st P => ∃ (sc numbers many : Nat) (way : Int) (ns : List Int), ds = [.lst sc, .int way, .int (numbers : Int), .int (many : Int)] ∧ st[sc]? = some (.ro (ns.map .int)) ∧ 0 ≤ way ∧ way < 2 ∧ 1 ≤ numbers ∧ numbers < many ∧ ∀ (es : List Dt) st', ExtS st st' → 1 ≤ es.length → es.length ≤ 4 → (∀ e ∈ es, Five e) → P (.tup es) st'
noncomputable def spLast : RDL := fun ds st P => ∃ (c way : Int) (numbers many exits : Nat), ds = [.int c, .int way, .int (numbers : Int), .int (many : Int), .int (exits : Int)] ∧ 1 ≤ numbers ∧ numbers < many ∧ 1 ≤ exits ∧ exits ≤ 4 ∧ ∀ r st', ExtS st st' → OkR r → P (rowD r) st'
noncomputable def spHost : RDL := fun ds st P => ∃ (sc : Nat) (way : Int) (t : Bool) (ns : List Int), ds = [.lst sc, .int way, .bl t] ∧ st[sc]? = some (.ro (ns.map .int)) ∧ ns.length ≤ 63 ∧ 0 ≤ way ∧ way < 2 ∧ ∀ (rs : List Rw) (es : List Dt) a b st', ExtS st st' → (∀ r ∈ rs, OkR r) → rs.length ≤ 300 → es.length ≤ 10 → P (.tup [a, b, .tup (rs.map rowD), .tup es]) st'
noncomputable def spIsNum : RDL := fun ds st P => ∃ i : Int, ds = [.int i] ∧ P (.bl true) st
noncomputable def okS : Nat → Dt → Bool
  | 0, _ => false
  | n + 1, .tup xs => xs.all (okS n)
  | _ + 1, .int _ => true
  | _, _ => false
noncomputable def spSame (N : Nat) : RDL := fun ds st P => ∃ d : Dt, ds = [d, d] ∧ okS N d = true ∧ ∀ st', P (.bl true) st'
noncomputable def spNamed : RDL := fun ds st P => ∃ r : Rw, ds = [rowD r] ∧ OkR r ∧ ∀ st' n, ExtS st st' → st'[n]? = some (.rw ((eOf r).map .int)) → P (.lst n) st'
end K85
namespace K02
open PySem L2 L3
noncomputable def Asc (z : Str) : Prop := (z.cps.all fun c => decide (c < 128)) = true
noncomputable def okFig (l : List Nat) : Bool := !l.isEmpty && l.all isDig && !(l.head? == some 48 && l != [48])
noncomputable def numIn (z : Str) (g : Nat) : Option Nat := if okFig (cs z) && decide ((cs z).length ≤ (figs g).length) && decide (dval (cs z) ≤ g) then some (dval (cs z)) else none
noncomputable def wordAt (z : Str) : Option Nat := K01.wordsS.findIdx? (· == z)
noncomputable def lineNum (z : Str) : Option Nat := match Txt.split z (one 32) with
  | [w, n] => if w == ("cell" : Str) then numIn n 65535 else none
  | [w, a, b, c] => (match wordAt w with
    | some k => (match numIn a 7, numIn b 7, numIn c 63 with
      | some a, some b, some c => some (k * 4096 + a * 512 + b * 64 + c)
      | _, _, _ => none)
    | none => none)
  | _ => none
noncomputable def optD : Option Nat → Dt
  | some n => .int (n : Int)
  | none => .non
noncomputable def spLine : RDL := fun ds st P => ∃ z : Str, ds = [.str z] ∧ Asc z ∧ z.length + 2 ≤ sizeLine ∧ ∀ st', ExtS st st' → P (optD (lineNum z)) st'
end K02
namespace KH
open PySem L2 L3
noncomputable def HandO (o : SO) : Prop := ∃ a b c : Int, o = .rw [.int a, .int b, .int c] ∧ 0 ≤ b ∧ b < 1000000007
noncomputable def HandAt (st : Sto) (h : Nat) : Prop := ∃ o, st[h]? = some o ∧ HandO o
noncomputable def Keep (h : Nat) (st st' : Sto) : Prop := (∀ i o, i ≠ h → st[i]? = some o → st'[i]? = some o) ∧ HandAt st' h
theorem Keep.refl {h : Nat} {st : Sto} (a : HandAt st h) : Keep h st st := ⟨fun _ _ _ q => q, a⟩
theorem Keep.trans {h : Nat} {a b c : Sto} (x : Keep h a b) (y : Keep h b c) : Keep h a c := ⟨fun i o n q => y.1 i o n (x.1 i o n q), y.2⟩
theorem HandAt.ext {h : Nat} {st st' : Sto} (a : HandAt st h) (e : ExtS st st') : HandAt st' h := by
  obtain ⟨o, q, r⟩ := a; exact ⟨o, e _ _ q, r⟩
theorem Keep.of {h : Nat} {st st' : Sto} (a : HandAt st h) (e : ExtS st st') : Keep h st st' := ⟨fun i o _ q => e i o q, a.ext e⟩
theorem Keep.app {h : Nat} {st st' : Sto} (k : Keep h st st') (x : SO) : Keep h st (st' ++ [x]) := k.trans (.of k.2 (.app _ _))
end KH
namespace K19
open PySem L2 L3 KH
end K19
namespace KH
open PySem PySem.Spec PyProof.Rows L2 L3
theorem at2 {x y z : Dt} : atI [x, y, z] 2 = some z := rfl
theorem ix0 {x y z : Dt} : ixN [x, y, z].length 0 = some 0 := rfl
end KH
namespace K02
open PySem PySem.Spec PyProof.Rows L2 L3
section
variable {E : EndsD} {ρ : Rho} {st st' : Sto} {A C : TSD}
theorem seqS (h : A { E with nx := C E } ρ st) : tseq A C E ρ st := h
theorem ifS {c : TBD} {b : Bool} (h1 : ∀ P : Bool → Sto → Prop, P b st' → c ρ st P) (qt : b = true → A E ρ st') (qf : b = false → C E ρ st') : tifS c A C E ρ st := by
  unfold tifS
  refine h1 _ ?_
  cases b
  · exact iteF (qf rfl)
  · exact iteT (qt rfl)
theorem seqIf {N : TSD} {c : TBD} {b : Bool} (h1 : ∀ P : Bool → Sto → Prop, P b st' → c ρ st P) (qt : b = true → A { E with nx := N E } ρ st') (qf : b = false → N E ρ st') : tseq (tifS c A tnext) N E ρ st := seqS (ifS h1 qt qf)
theorem orB {c1 c2 : TBD} {b1 b2 : Bool} (h1 : ∀ P : Bool → Sto → Prop, P b1 st → c1 ρ st P) (h2 : b1 = false → ∀ P : Bool → Sto → Prop, P b2 st → c2 ρ st P) : ∀ P : Bool → Sto → Prop, P (b1 || b2) st → torB c1 c2 ρ st P := by
  intro P hp
  unfold torB
  refine h1 _ ?_
  cases b1
  · exact iteF (h2 rfl _ (by simpa using hp))
  · exact iteT (by simpa using hp)
theorem andB {c1 c2 : TBD} {b1 b2 : Bool} (h1 : ∀ P : Bool → Sto → Prop, P b1 st → c1 ρ st P) (h2 : b1 = true → ∀ P : Bool → Sto → Prop, P b2 st → c2 ρ st P) : ∀ P : Bool → Sto → Prop, P (b1 && b2) st → tandB c1 c2 ρ st P := by
  intro P hp
  unfold tandB
  refine h1 _ ?_
  cases b1
  · exact iteF (by simpa using hp)
  · exact iteT (h2 rfl _ (by simpa using hp))
theorem eqI {x : TD} {a b : Int} (hx : ∀ P : VD, P (.int a) st → x ρ st P) : ∀ P : Bool → Sto → Prop, P (decide (a = b)) st → tbool (tbin (rEqD false) x (tcon (.int b))) ρ st P := by
  intro P hp
  simp only [tbool, tbin, tcon]
  refine hx _ ⟨rfl, rfl, ?_⟩
  show P ((a == b) != false) st
  have : ((a == b) != false) = decide (a = b) := by by_cases e : a = b <;> simp [e]
  rw [this]; exact hp
end
theorem str_eq {a b : Str} : (a == b) = decide (a = b) := by
  by_cases e : a = b
  · subst e; simp
  · rw [decide_eq_false e]
    cases h : (a == b) with
    | false => rfl
    | true => exact absurd (eq_of_beq h) e
end K02
namespace K02
open PySem PySem.Spec PyProof.Rows L2 L3
section
variable {E : EndsD} {ρ : Rho} {st st' : Sto} {A C : TSD}
theorem lenL {i n : Nat} {o : SO} (hv : ρ[i]? = some (some (.lst n))) (hn : st[n]? = some o) : ∀ P : VD, P (.int (o.items.length : Int)) st → tcall rLen (tacons (tvar i) tanil) ρ st P := by
  intro P hp
  simp only [tcall, tacons, tanil, tvar, hv]
  show (match seqOf st (.lst n) with
    | some xs => P (.int xs.length) st
    | none => False)
  have e : seqOf st (.lst n) = some o.items := by
    show (st[n]?).map SO.items = _
    rw [hn]; rfl
  rw [e]
  exact hp
theorem seqA {N : TSD} {te : TD} {i : Nat} (h : te ρ st fun d s1 => N E (ρ.set i (some d)) s1) : tseq (tasg te (gname i)) N E ρ st := h
end
end K02
namespace K85
open PySem PySem.Spec PyProof.Rows L2 L3 K02
noncomputable abbrev t_parts_of : TSD := (tseq (tret (tcall rTuple (tacons (tcomp2 (izip (tsliceA (tvar 0) (tosome (tcon (Dt.int 1))) tonone) (ttopget formS (tbin rIxD (tvar 0) (tcon (Dt.int 0))))) (tbool (tbin (rEqD false) (tvar 1) (tvar 2))) (tvar 0) [(1, "sign")]) tanil))) tnext)
noncomputable abbrev t_rows_to : TSD := (tseq (tret (tcall rTuple (tacons (tcomp2 (ienum1 (tbin rIxD (tvar 0) (tcon (Dt.int 2)))) (tbool (tbin (rInD false) (tvar 2) (tcall spParts (tacons (tvar 1) (tacons (tcon (Dt.str (Str.ofString "e"))) tanil))))) (tvar 0) [(1, "number")]) tanil))) tnext)
noncomputable abbrev t__law_mix : TSD := (tseq (tasg (tbin rMod (tbin L3.rAdd (tvar 0) (tbin rMul (tcon (Dt.int 15485863)) (tbin L3.rAdd (tvar 1) (tcon (Dt.int 1))))) (tcon (Dt.int 2147483647))) (gname 2)) (tseq (tasg (tbin rMod (tbin rMul (tvar 2) (tvar 2)) (tcon (Dt.int 2147483629))) (gname 2)) (tseq (tret (tbin rDiv (tbin rMod (tbin rMul (tvar 2) (tbin L3.rAdd (tbin L3.rAdd (tvar 2) (tbin rMul (tcon (Dt.int 7919)) (tvar 1))) (tcon (Dt.int 11)))) (tcon (Dt.int 2147483587))) (tcon (Dt.int 8)))) tnext)))
noncomputable abbrev t__law_cell_at : TSD := (tseq (tifS (tbool (tbin (rCmpI fun i j => decide (i < j)) (tvar 1) (tcall rLen (tacons (tvar 0) tanil)))) (tseq (tret (tbin rIxD (tvar 0) (tvar 1))) tnext) tnext) (tseq (tret (tcon (Dt.int 0))) tnext))
noncomputable abbrev t__law_is_number : TSD := (tseq (tret (tandV (tcall rIsInst (tacons (tvar 0) (tacons (tcon (Dt.ty "int")) tanil))) (tnotV (tcall rIsInst (tacons (tvar 0) (tacons (tcon (Dt.ty "bool")) tanil)))))) tnext)
theorem cut_one {d : Dt} {xs : List Dt} : L3.cutD (d :: xs) (some 1) none = xs := by
  unfold L3.cutD
  have e : HT.sIx (d :: xs).length 0 (some 1) = 1 := by
    have := HT.sIx_nat (d :: xs).length 0 1
    simp at this ⊢
    simpa using this
  rw [e, HT.sIx_none]
  simp
theorem zip_take {xs : List Int} {ys : List Nat} {i : Nat} {x : Int} {y : Nat} (h1 : xs[i]? = some x) (h2 : ys[i]? = some y) : (xs.zip ys).take (i + 1) = (xs.zip ys).take i ++ [(x, y)] := by
  rw [List.take_add_one]
  have : (xs.zip ys)[i]? = some (x, y) := List.getElem?_zip_eq_some.mpr ⟨h1, h2⟩
  rw [this]; rfl
theorem rd_parts_of {ds : List Dt} {st : Sto} {Pd : VD} (h : spParts ds st Pd) : t_parts_of (Ed Pd) (startD ["row", "sign"] ds) st := by
  obtain ⟨r, sign, rfl, ok, hP⟩ := h
  show t_parts_of (Ed Pd) [some (rowD r), some (.str sign)] st
  obtain ⟨hasc, hfl⟩ := form_ok ok.know
  simp only [t_parts_of, tseq, tret, tcall, tacons, tanil, tcomp2, izip, tsliceA, tvar, tosome, tonone, tcon, ttopget, tbin, List.getElem?_cons_zero, List.getElem?_cons_succ, rowD]
  have hat : atI (Dt.str r.w :: r.xs.map .int) 0 = some (.str r.w) := atI_nat (j := 0) rfl
  show (match atI (Dt.str r.w :: r.xs.map .int) 0 with
    | some d => _
    | none => False)
  rw [hat]
  simp only [ok.know, cut_one]
  refine ⟨hasc, ?_⟩
  have hzl : (zipD (r.xs.map Dt.int) (signsD (form r.w))).length = (r.xs.zip (cs (form r.w))).length := by
    rw [zipD_len]; simp [signsD, List.length_zip]
  refine ⟨fun i ys s' => ys = ((((r.xs.zip (cs (form r.w))).take i).filter fun p => one p.2 == sign).map (·.1)).map Dt.int ∧ s' = st, ⟨rfl, rfl⟩, fun _ _ _ _ _ => trivial, ?_, ?_⟩
  · rintro i d ys s' hd ⟨rfl, rfl⟩
    obtain ⟨x, y, ex, ey, rfl⟩ := zipD_get hd
    obtain ⟨n, hn, rfl⟩ : ∃ n, r.xs[i]? = some n ∧ x = .int n := by
      rw [List.getElem?_map] at ex
      cases e : r.xs[i]? with
      | none => rw [e] at ex; cases ex
      | some n => rw [e] at ex; exact ⟨n, rfl, (Option.some.inj ex).symm⟩
    obtain ⟨c, hc, rfl⟩ : ∃ c, (cs (form r.w))[i]? = some c ∧ y = .str (one c) := by
      unfold signsD at ey
      rw [List.getElem?_map] at ey
      cases e : (form r.w).cps.toList[i]? with
      | none => rw [e] at ey; cases ey
      | some c => rw [e] at ey; exact ⟨c, rfl, (Option.some.inj ey).symm⟩
    have hil := (List.getElem?_eq_some_iff.mp hn).1
    have hxl := ok.len
    refine ⟨?_, _, _, rfl, ?_⟩
    · rw [List.length_map, List.length_map]
      refine Nat.lt_of_le_of_lt (List.length_filter_le _ _) ?_
      rw [List.length_take, sizeLine_eq]; omega
    · show okD 8 _ = true ∧ okD 8 _ = true ∧ (if ((one c == sign) != false) = true then _ else _)
      refine ⟨rfl, rfl, ?_⟩
      cases e : (one c == sign) with
      | true =>
        refine iteT ⟨?_, rfl⟩
        rw [zip_take hn hc, List.filter_append, List.map_append, List.map_append]
        simp [e]
      | false =>
        refine iteF ⟨?_, rfl⟩
        rw [zip_take hn hc, List.filter_append, List.map_append, List.map_append]
        simp [e]
  · rintro ys s' ⟨rfl, rfl⟩
    rw [hzl, List.take_length]
    show (match ((s' ++ [SO.rw ((partsOf (form r.w) r.xs sign).map Dt.int)])[s'.length]?).map SO.items with
      | some xs => Pd (.tup xs) _
      | none => False)
    rw [get_new]
    exact hP _ (.app _ _)
theorem anyI {xs : List Int} {n : Int} : (xs.map Dt.int).any (fun z => eqD 0 z (.int n)) = xs.contains n := by
  rw [List.any_map]
  induction xs with
  | nil => rfl
  | cons x xs ih =>
    rw [List.any_cons, List.contains_cons, ih]
    congr 1
    show (x == n) = (n == x)
    exact Bool.beq_comm
theorem rowsTo_app : ∀ (rs : List Rw) (k : Nat) (n : Int) (r : Rw), rowsTo k (rs ++ [r]) n = rowsTo k rs n ++ (if (eOf r).contains n then [((k + rs.length : Nat) : Int)] else [])
  | [], k, n, r => by simp [rowsTo]
  | a :: rs, k, n, r => by
    show (if (eOf a).contains n then (k : Int) :: rowsTo (k + 1) (rs ++ [r]) n else rowsTo (k + 1) (rs ++ [r]) n) = _
    rw [rowsTo_app rs (k + 1) n r]
    show _ = (if (eOf a).contains n then (k : Int) :: rowsTo (k + 1) rs n else rowsTo (k + 1) rs n) ++ _
    have e : k + 1 + rs.length = k + (a :: rs).length := by simp; omega
    rw [e]
    split <;> simp
theorem rowsTo_len : ∀ (rs : List Rw) (k : Nat) (n : Int), (rowsTo k rs n).length ≤ rs.length
  | [], _, _ => Nat.le_refl _
  | a :: rs, k, n => by
    have := rowsTo_len rs (k + 1) n
    show (if (eOf a).contains n then (k : Int) :: rowsTo (k + 1) rs n else rowsTo (k + 1) rs n).length ≤ _
    split <;> simp <;> omega
theorem rd_rows_to {ds : List Dt} {st : Sto} {Pd : VD} (h : spRowsTo ds st Pd) : t_rows_to (Ed Pd) (startD ["host", "number"] ds) st := by
  obtain ⟨rs, n, a, b, d0, rfl, ok, hl, hP⟩ := h
  show t_rows_to (Ed Pd) [some (.tup [a, b, .tup (rs.map rowD), d0]), some (.int n)] st
  simp only [t_rows_to, tseq, tret, tcall, tacons, tanil, tcomp2, ienum1, tbin, tvar, tcon, List.getElem?_cons_zero, List.getElem?_cons_succ]
  show (match atI [a, b, .tup (rs.map rowD), d0] 2 with
    | some d => _
    | none => False)
  rw [show atI [a, b, Dt.tup (rs.map rowD), d0] 2 = some (.tup (rs.map rowD)) from atI_nat (j := 2) rfl]
  refine ⟨fun i ys s' => ys = (rowsTo 1 (rs.take i) n).map Dt.int ∧ ExtS st s', ⟨rfl, .refl _⟩, fun _ _ _ _ _ => trivial, ?_, ?_⟩
  · rintro i d ys s' hd ⟨rfl, hx⟩
    obtain ⟨w, hw, rfl⟩ := enum_get hd
    obtain ⟨r, hr, rfl⟩ : ∃ r, rs[i]? = some r ∧ w = rowD r := by
      rw [List.getElem?_map] at hw
      cases e : rs[i]? with
      | none => rw [e] at hw; cases hw
      | some r => rw [e] at hw; exact ⟨r, rfl, (Option.some.inj hw).symm⟩
    have hil := (List.getElem?_eq_some_iff.mp hr).1
    refine ⟨?_, _, _, rfl, ?_⟩
    · rw [List.length_map]
      have := rowsTo_len (rs.take i) 1 n
      rw [List.length_take] at this
      rw [sizeLine_eq]; omega
    · simp only [tbool, tbin, tvar, tcall, tacons, tanil, tcon, capρ, List.map_cons, List.map_nil, List.getElem?_cons_zero, List.getElem?_cons_succ, Option.join_some]
      refine ⟨r, _, rfl, ok r (List.mem_of_getElem? hr), fun s1 x1 => ?_⟩
      show okD 0 (.int n) = true ∧ ((partsOf (form r.w) r.xs "e").map Dt.int).all (okD 0) = true ∧ (if ((((partsOf (form r.w) r.xs "e").map Dt.int).any (fun z => eqD 0 z (.int n))) != false) = true then _ else _)
      refine ⟨rfl, by rw [List.all_map, List.all_eq_true]; intro x _; rfl, ?_⟩
      rw [anyI]
      have et : rs.take (i + 1) = rs.take i ++ [r] := by rw [List.take_add_one, hr]; rfl
      have hlt : (rs.take i).length = i := by rw [List.length_take]; omega
      cases e : (eOf r).contains n with
      | true =>
        have e' : (partsOf (form r.w) r.xs "e").contains n = true := e
        rw [e']
        refine iteT ⟨?_, hx.trans x1⟩
        rw [et, rowsTo_app, hlt, e, if_pos rfl, List.map_append]; rfl
      | false =>
        have e' : (partsOf (form r.w) r.xs "e").contains n = false := e
        rw [e']
        refine iteF ⟨?_, hx.trans x1⟩
        rw [et, rowsTo_app, hlt, e]
        simp
  · rintro ys s' ⟨rfl, hx⟩
    rw [enum_len, List.length_map, List.take_length]
    show (match ((s' ++ [SO.rw ((rowsTo 1 rs n).map Dt.int)])[s'.length]?).map SO.items with
      | some xs => Pd (.tup xs) _
      | none => False)
    rw [get_new]
    exact hP _ (hx.trans (.app _ _))
theorem rd__law_mix {ds : List Dt} {st : Sto} {Pd : VD} (h : spMix ds st Pd) : t__law_mix (Ed Pd) (startD ["cell", "k", "number"] ds) st := by
  obtain ⟨c, k, rfl, hk, hP⟩ := h
  show t__law_mix (Ed Pd) [some (.int c), some (.int (k : Int)), none] st
  refine seqA ?_
  simp only [tbin, tvar, tcon, L3.rAdd, rMul, rMod, List.getElem?_cons_zero, List.getElem?_cons_succ]
  refine ⟨cmul_l (by decide) (by decide), by decide, ?_⟩
  refine seqA ?_
  refine ⟨cmul_l (Int.emod_nonneg _ (by decide)) (Int.lt_trans (Int.emod_lt_of_pos _ (by decide)) (by decide)), by decide, ?_⟩
  refine seqS ?_
  refine ⟨cmul_l (by decide) (by decide), ?_⟩
  refine ⟨cmul_l (Int.emod_nonneg _ (by decide)) (Int.lt_trans (Int.emod_lt_of_pos _ (by decide)) (by decide)), by decide, cdiv (by decide) (by decide), ?_⟩
  exact hP _ (Int.ediv_nonneg (Int.emod_nonneg _ (by decide)) (by decide))
theorem rd__law_cell_at {ds : List Dt} {st : Sto} {Pd : VD} (h : spCellAt ds st Pd) : t__law_cell_at (Ed Pd) (startD ["script", "k"] ds) st := by
  obtain ⟨sc, k, ns, rfl, hs, hP⟩ := h
  show t__law_cell_at (Ed Pd) [some (.lst sc), some (.int (k : Int))] st
  refine seqIf (b := decide ((k : Int) < (ns.length : Int))) (st' := st) ?_ ?_ ?_
  · intro P hp
    simp only [tbool, tbin, tvar, List.getElem?_cons_zero, List.getElem?_cons_succ]
    refine lenL (ρ := [some (.lst sc), some (.int (k : Int))]) (i := 0) (n := sc) rfl hs _ ?_
    show P (decide ((k : Int) < (((ns.map Dt.int)).length : Int))) st
    rw [List.length_map]; exact hp
  · intro q
    have q : k < ns.length := by have := of_decide_eq_true q; omega
    refine seqS ?_
    simp only [tret, tbin, tvar, List.getElem?_cons_zero, List.getElem?_cons_succ]
    have hsq : seqOf st (.lst sc) = some (ns.map .int) := by
      show (st[sc]?).map SO.items = _
      rw [hs]; rfl
    show (match seqOf st (.lst sc) with
      | some xs => (match atI xs (k : Int) with
        | some d => Pd d st
        | none => False)
      | none => False)
    rw [hsq]
    show (match atI (ns.map Dt.int) (k : Int) with
        | some d => Pd d st
        | none => False)
    rw [atI_nat (v := .int ns[k]) (by simp [q])]
    exact hP _
  · intro q
    exact hP 0
theorem rd__law_is_number {ds : List Dt} {st : Sto} {Pd : VD} (h : spIsNum ds st Pd) : t__law_is_number (Ed Pd) (startD ["thing"] ds) st := by
  obtain ⟨i, rfl, hP⟩ := h
  show t__law_is_number (Ed Pd) [some (.int i)] st
  refine seqS ?_
  simp only [tret, tandV, tnotV, tcall, tacons, tanil, tvar, tcon, List.getElem?_cons_zero]
  refine ⟨.inr (.inl rfl), ?_⟩
  refine ⟨.inl rfl, ?_⟩
  exact hP
end K85
namespace K85
open PySem PySem.Spec PyProof.Rows L2 L3 K02
noncomputable def t1 (w : Str) : Bool := ([("get" : Str), "div"].map Dt.str).any (fun z => eqD 0 z (.str w))
noncomputable def t2 (w : Str) : Bool := w == ("set" : Str)
noncomputable def t3 (w : Str) : Bool := ([("right" : Str), "when", "back", "out"].map Dt.str).any (fun z => eqD 0 z (.str w))
noncomputable def kOf (w : Str) : Nat := if w == ("right" : Str) then 3 else if w == ("when" : Str) then 2 else 1
noncomputable def namedL (r : Rw) : List Int := if t1 r.w then [r.xs.getD 3 0] else if t2 r.w then [r.xs.getD 3 0, r.xs.getD 4 0] else if t3 r.w then r.xs.drop (kOf r.w - 1) else []
theorem sd : (one 100 == ("e" : Str)) = false := by decide +kernel
theorem sx : (one 120 == ("e" : Str)) = false := by decide +kernel
theorem sn : (one 110 == ("e" : Str)) = false := by decide +kernel
theorem ss : (one 115 == ("e" : Str)) = false := by decide +kernel
theorem se : (one 101 == ("e" : Str)) = true := by decide +kernel
theorem named_of {w f : Str} {l : List Nat} {b1 b2 b3 : Bool} {k : Nat} {xs : List Int} (hf : form w = f) (hl : cs f = l) (h1 : t1 w = b1) (h2 : t2 w = b2) (h3 : t3 w = b3) (hk : kOf w = k)
    (h : (if b1 then [xs.getD 3 0] else if b2 then [xs.getD 3 0, xs.getD 4 0] else if b3 then xs.drop (k - 1) else []) = ((xs.zip l).filter fun p => one p.2 == ("e" : Str)).map (·.1)) : namedL ⟨w, xs⟩ = eOf ⟨w, xs⟩ := by
  unfold namedL eOf partsOf
  simp only [h1, h2, h3, hk, hf, hl]
  exact h
theorem named_eq {r : Rw} (ok : OkR r) : namedL r = eOf r ∧ (t1 r.w = true → r.xs.length = 4) ∧ (t2 r.w = true → r.xs.length = 5) ∧ kOf r.w - 1 ≤ r.xs.length := by
  obtain ⟨w, xs⟩ := r
  have hm := lookup_mem ok.know
  have hl : xs.length = (form w).length := ok.len
  simp only [formS, List.mem_cons, List.not_mem_nil, or_false, Prod.mk.injEq] at hm
  rcases hm with ⟨rfl, hf⟩ | ⟨rfl, hf⟩ | ⟨rfl, hf⟩ | ⟨rfl, hf⟩ | ⟨rfl, hf⟩ | ⟨rfl, hf⟩ | ⟨rfl, hf⟩ | ⟨rfl, hf⟩ | ⟨rfl, hf⟩ | ⟨rfl, hf⟩ | ⟨rfl, hf⟩ | ⟨rfl, hf⟩ | ⟨rfl, hf⟩ | ⟨rfl, hf⟩ | ⟨rfl, hf⟩ | ⟨rfl, hf⟩ | ⟨rfl, hf⟩ | ⟨rfl, hf⟩ | ⟨rfl, hf⟩ | ⟨rfl, hf⟩ | ⟨rfl, hf⟩ | ⟨rfl, hf⟩ | ⟨rfl, hf⟩ | ⟨rfl, hf⟩ | ⟨rfl, hf⟩
  · rw [hf] at hl
    have hl : xs.length = 2 := hl.trans (by decide +kernel)
    rcases xs with _ | ⟨x0, _ | ⟨x1, _ | ⟨y, t⟩⟩⟩
    · simp at hl
    · simp at hl
    · refine ⟨named_of (l := [100, 110]) (b1 := false) (b2 := false) (b3 := false) (k := 1) hf (by decide +kernel) (by decide +kernel) (by decide +kernel) (by decide +kernel) (by decide +kernel) (by simp [sd, sx, sn, ss, se]), fun q => absurd (show t1 (Str.ofString "num") = true from q) (by decide +kernel), fun q => absurd (show t2 (Str.ofString "num") = true from q) (by decide +kernel), (show kOf (Str.ofString "num") - 1 ≤ 2 by decide +kernel)⟩
    · simp at hl
  · rw [hf] at hl
    have hl : xs.length = 1 := hl.trans (by decide +kernel)
    rcases xs with _ | ⟨x0, _ | ⟨y, t⟩⟩
    · simp at hl
    · refine ⟨named_of (l := [100]) (b1 := false) (b2 := false) (b3 := false) (k := 1) hf (by decide +kernel) (by decide +kernel) (by decide +kernel) (by decide +kernel) (by decide +kernel) (by simp [sd, sx, sn, ss, se]), fun q => absurd (show t1 (Str.ofString "yes") = true from q) (by decide +kernel), fun q => absurd (show t2 (Str.ofString "yes") = true from q) (by decide +kernel), (show kOf (Str.ofString "yes") - 1 ≤ 1 by decide +kernel)⟩
    · simp at hl
  · rw [hf] at hl
    have hl : xs.length = 1 := hl.trans (by decide +kernel)
    rcases xs with _ | ⟨x0, _ | ⟨y, t⟩⟩
    · simp at hl
    · refine ⟨named_of (l := [100]) (b1 := false) (b2 := false) (b3 := false) (k := 1) hf (by decide +kernel) (by decide +kernel) (by decide +kernel) (by decide +kernel) (by decide +kernel) (by simp [sd, sx, sn, ss, se]), fun q => absurd (show t1 (Str.ofString "no") = true from q) (by decide +kernel), fun q => absurd (show t2 (Str.ofString "no") = true from q) (by decide +kernel), (show kOf (Str.ofString "no") - 1 ≤ 1 by decide +kernel)⟩
    · simp at hl
  · rw [hf] at hl
    have hl : xs.length = 2 := hl.trans (by decide +kernel)
    rcases xs with _ | ⟨x0, _ | ⟨x1, _ | ⟨y, t⟩⟩⟩
    · simp at hl
    · simp at hl
    · refine ⟨named_of (l := [100, 110]) (b1 := false) (b2 := false) (b3 := false) (k := 1) hf (by decide +kernel) (by decide +kernel) (by decide +kernel) (by decide +kernel) (by decide +kernel) (by simp [sd, sx, sn, ss, se]), fun q => absurd (show t1 (Str.ofString "box") = true from q) (by decide +kernel), fun q => absurd (show t2 (Str.ofString "box") = true from q) (by decide +kernel), (show kOf (Str.ofString "box") - 1 ≤ 2 by decide +kernel)⟩
    · simp at hl
  · rw [hf] at hl
    have hl : xs.length = 2 := hl.trans (by decide +kernel)
    rcases xs with _ | ⟨x0, _ | ⟨x1, _ | ⟨y, t⟩⟩⟩
    · simp at hl
    · simp at hl
    · refine ⟨named_of (l := [100, 110]) (b1 := false) (b2 := false) (b3 := false) (k := 1) hf (by decide +kernel) (by decide +kernel) (by decide +kernel) (by decide +kernel) (by decide +kernel) (by simp [sd, sx, sn, ss, se]), fun q => absurd (show t1 (Str.ofString "mark") = true from q) (by decide +kernel), fun q => absurd (show t2 (Str.ofString "mark") = true from q) (by decide +kernel), (show kOf (Str.ofString "mark") - 1 ≤ 2 by decide +kernel)⟩
    · simp at hl
  · rw [hf] at hl
    have hl : xs.length = 3 := hl.trans (by decide +kernel)
    rcases xs with _ | ⟨x0, _ | ⟨x1, _ | ⟨x2, _ | ⟨y, t⟩⟩⟩⟩
    · simp at hl
    · simp at hl
    · simp at hl
    · refine ⟨named_of (l := [100, 120, 120]) (b1 := false) (b2 := false) (b3 := false) (k := 1) hf (by decide +kernel) (by decide +kernel) (by decide +kernel) (by decide +kernel) (by decide +kernel) (by simp [sd, sx, sn, ss, se]), fun q => absurd (show t1 (Str.ofString "add") = true from q) (by decide +kernel), fun q => absurd (show t2 (Str.ofString "add") = true from q) (by decide +kernel), (show kOf (Str.ofString "add") - 1 ≤ 3 by decide +kernel)⟩
    · simp at hl
  · rw [hf] at hl
    have hl : xs.length = 3 := hl.trans (by decide +kernel)
    rcases xs with _ | ⟨x0, _ | ⟨x1, _ | ⟨x2, _ | ⟨y, t⟩⟩⟩⟩
    · simp at hl
    · simp at hl
    · simp at hl
    · refine ⟨named_of (l := [100, 120, 120]) (b1 := false) (b2 := false) (b3 := false) (k := 1) hf (by decide +kernel) (by decide +kernel) (by decide +kernel) (by decide +kernel) (by decide +kernel) (by simp [sd, sx, sn, ss, se]), fun q => absurd (show t1 (Str.ofString "sub") = true from q) (by decide +kernel), fun q => absurd (show t2 (Str.ofString "sub") = true from q) (by decide +kernel), (show kOf (Str.ofString "sub") - 1 ≤ 3 by decide +kernel)⟩
    · simp at hl
  · rw [hf] at hl
    have hl : xs.length = 3 := hl.trans (by decide +kernel)
    rcases xs with _ | ⟨x0, _ | ⟨x1, _ | ⟨x2, _ | ⟨y, t⟩⟩⟩⟩
    · simp at hl
    · simp at hl
    · simp at hl
    · refine ⟨named_of (l := [100, 120, 120]) (b1 := false) (b2 := false) (b3 := false) (k := 1) hf (by decide +kernel) (by decide +kernel) (by decide +kernel) (by decide +kernel) (by decide +kernel) (by simp [sd, sx, sn, ss, se]), fun q => absurd (show t1 (Str.ofString "mul") = true from q) (by decide +kernel), fun q => absurd (show t2 (Str.ofString "mul") = true from q) (by decide +kernel), (show kOf (Str.ofString "mul") - 1 ≤ 3 by decide +kernel)⟩
    · simp at hl
  · rw [hf] at hl
    have hl : xs.length = 3 := hl.trans (by decide +kernel)
    rcases xs with _ | ⟨x0, _ | ⟨x1, _ | ⟨x2, _ | ⟨y, t⟩⟩⟩⟩
    · simp at hl
    · simp at hl
    · simp at hl
    · refine ⟨named_of (l := [100, 120, 120]) (b1 := false) (b2 := false) (b3 := false) (k := 1) hf (by decide +kernel) (by decide +kernel) (by decide +kernel) (by decide +kernel) (by decide +kernel) (by simp [sd, sx, sn, ss, se]), fun q => absurd (show t1 (Str.ofString "over") = true from q) (by decide +kernel), fun q => absurd (show t2 (Str.ofString "over") = true from q) (by decide +kernel), (show kOf (Str.ofString "over") - 1 ≤ 3 by decide +kernel)⟩
    · simp at hl
  · rw [hf] at hl
    have hl : xs.length = 3 := hl.trans (by decide +kernel)
    rcases xs with _ | ⟨x0, _ | ⟨x1, _ | ⟨x2, _ | ⟨y, t⟩⟩⟩⟩
    · simp at hl
    · simp at hl
    · simp at hl
    · refine ⟨named_of (l := [100, 120, 120]) (b1 := false) (b2 := false) (b3 := false) (k := 1) hf (by decide +kernel) (by decide +kernel) (by decide +kernel) (by decide +kernel) (by decide +kernel) (by simp [sd, sx, sn, ss, se]), fun q => absurd (show t1 (Str.ofString "under") = true from q) (by decide +kernel), fun q => absurd (show t2 (Str.ofString "under") = true from q) (by decide +kernel), (show kOf (Str.ofString "under") - 1 ≤ 3 by decide +kernel)⟩
    · simp at hl
  · rw [hf] at hl
    have hl : xs.length = 3 := hl.trans (by decide +kernel)
    rcases xs with _ | ⟨x0, _ | ⟨x1, _ | ⟨x2, _ | ⟨y, t⟩⟩⟩⟩
    · simp at hl
    · simp at hl
    · simp at hl
    · refine ⟨named_of (l := [100, 120, 120]) (b1 := false) (b2 := false) (b3 := false) (k := 1) hf (by decide +kernel) (by decide +kernel) (by decide +kernel) (by decide +kernel) (by decide +kernel) (by simp [sd, sx, sn, ss, se]), fun q => absurd (show t1 (Str.ofString "wide") = true from q) (by decide +kernel), fun q => absurd (show t2 (Str.ofString "wide") = true from q) (by decide +kernel), (show kOf (Str.ofString "wide") - 1 ≤ 3 by decide +kernel)⟩
    · simp at hl
  · rw [hf] at hl
    have hl : xs.length = 3 := hl.trans (by decide +kernel)
    rcases xs with _ | ⟨x0, _ | ⟨x1, _ | ⟨x2, _ | ⟨y, t⟩⟩⟩⟩
    · simp at hl
    · simp at hl
    · simp at hl
    · refine ⟨named_of (l := [100, 120, 120]) (b1 := false) (b2 := false) (b3 := false) (k := 1) hf (by decide +kernel) (by decide +kernel) (by decide +kernel) (by decide +kernel) (by decide +kernel) (by simp [sd, sx, sn, ss, se]), fun q => absurd (show t1 (Str.ofString "rest") = true from q) (by decide +kernel), fun q => absurd (show t2 (Str.ofString "rest") = true from q) (by decide +kernel), (show kOf (Str.ofString "rest") - 1 ≤ 3 by decide +kernel)⟩
    · simp at hl
  · rw [hf] at hl
    have hl : xs.length = 2 := hl.trans (by decide +kernel)
    rcases xs with _ | ⟨x0, _ | ⟨x1, _ | ⟨y, t⟩⟩⟩
    · simp at hl
    · simp at hl
    · refine ⟨named_of (l := [100, 120]) (b1 := false) (b2 := false) (b3 := false) (k := 1) hf (by decide +kernel) (by decide +kernel) (by decide +kernel) (by decide +kernel) (by decide +kernel) (by simp [sd, sx, sn, ss, se]), fun q => absurd (show t1 (Str.ofString "nought") = true from q) (by decide +kernel), fun q => absurd (show t2 (Str.ofString "nought") = true from q) (by decide +kernel), (show kOf (Str.ofString "nought") - 1 ≤ 2 by decide +kernel)⟩
    · simp at hl
  · rw [hf] at hl
    have hl : xs.length = 2 := hl.trans (by decide +kernel)
    rcases xs with _ | ⟨x0, _ | ⟨x1, _ | ⟨y, t⟩⟩⟩
    · simp at hl
    · simp at hl
    · refine ⟨named_of (l := [100, 120]) (b1 := false) (b2 := false) (b3 := false) (k := 1) hf (by decide +kernel) (by decide +kernel) (by decide +kernel) (by decide +kernel) (by decide +kernel) (by simp [sd, sx, sn, ss, se]), fun q => absurd (show t1 (Str.ofString "high") = true from q) (by decide +kernel), fun q => absurd (show t2 (Str.ofString "high") = true from q) (by decide +kernel), (show kOf (Str.ofString "high") - 1 ≤ 2 by decide +kernel)⟩
    · simp at hl
  · rw [hf] at hl
    have hl : xs.length = 2 := hl.trans (by decide +kernel)
    rcases xs with _ | ⟨x0, _ | ⟨x1, _ | ⟨y, t⟩⟩⟩
    · simp at hl
    · simp at hl
    · refine ⟨named_of (l := [115, 120]) (b1 := false) (b2 := false) (b3 := false) (k := 1) hf (by decide +kernel) (by decide +kernel) (by decide +kernel) (by decide +kernel) (by decide +kernel) (by simp [sd, sx, sn, ss, se]), fun q => absurd (show t1 (Str.ofString "keep") = true from q) (by decide +kernel), fun q => absurd (show t2 (Str.ofString "keep") = true from q) (by decide +kernel), (show kOf (Str.ofString "keep") - 1 ≤ 2 by decide +kernel)⟩
    · simp at hl
  · rw [hf] at hl
    have hl : xs.length = 2 := hl.trans (by decide +kernel)
    rcases xs with _ | ⟨x0, _ | ⟨x1, _ | ⟨y, t⟩⟩⟩
    · simp at hl
    · simp at hl
    · refine ⟨named_of (l := [100, 115]) (b1 := false) (b2 := false) (b3 := false) (k := 1) hf (by decide +kernel) (by decide +kernel) (by decide +kernel) (by decide +kernel) (by decide +kernel) (by simp [sd, sx, sn, ss, se]), fun q => absurd (show t1 (Str.ofString "load") = true from q) (by decide +kernel), fun q => absurd (show t2 (Str.ofString "load") = true from q) (by decide +kernel), (show kOf (Str.ofString "load") - 1 ≤ 2 by decide +kernel)⟩
    · simp at hl
  · rw [hf] at hl
    have hl : xs.length = 4 := hl.trans (by decide +kernel)
    rcases xs with _ | ⟨x0, _ | ⟨x1, _ | ⟨x2, _ | ⟨x3, _ | ⟨y, t⟩⟩⟩⟩⟩
    · simp at hl
    · simp at hl
    · simp at hl
    · simp at hl
    · refine ⟨named_of (l := [100, 120, 120, 101]) (b1 := true) (b2 := false) (b3 := false) (k := 1) hf (by decide +kernel) (by decide +kernel) (by decide +kernel) (by decide +kernel) (by decide +kernel) (by simp [sd, sx, sn, ss, se]), fun _ => rfl, fun q => absurd (show t2 (Str.ofString "get") = true from q) (by decide +kernel), (show kOf (Str.ofString "get") - 1 ≤ 4 by decide +kernel)⟩
    · simp at hl
  · rw [hf] at hl
    have hl : xs.length = 5 := hl.trans (by decide +kernel)
    rcases xs with _ | ⟨x0, _ | ⟨x1, _ | ⟨x2, _ | ⟨x3, _ | ⟨x4, _ | ⟨y, t⟩⟩⟩⟩⟩⟩
    · simp at hl
    · simp at hl
    · simp at hl
    · simp at hl
    · simp at hl
    · refine ⟨named_of (l := [120, 120, 120, 101, 101]) (b1 := false) (b2 := true) (b3 := false) (k := 1) hf (by decide +kernel) (by decide +kernel) (by decide +kernel) (by decide +kernel) (by decide +kernel) (by simp [sd, sx, sn, ss, se]), fun q => absurd (show t1 (Str.ofString "set") = true from q) (by decide +kernel), fun _ => rfl, (show kOf (Str.ofString "set") - 1 ≤ 5 by decide +kernel)⟩
    · simp at hl
  · rw [hf] at hl
    have hl : xs.length = 4 := hl.trans (by decide +kernel)
    rcases xs with _ | ⟨x0, _ | ⟨x1, _ | ⟨x2, _ | ⟨x3, _ | ⟨y, t⟩⟩⟩⟩⟩
    · simp at hl
    · simp at hl
    · simp at hl
    · simp at hl
    · refine ⟨named_of (l := [100, 120, 120, 101]) (b1 := true) (b2 := false) (b3 := false) (k := 1) hf (by decide +kernel) (by decide +kernel) (by decide +kernel) (by decide +kernel) (by decide +kernel) (by simp [sd, sx, sn, ss, se]), fun _ => rfl, fun q => absurd (show t2 (Str.ofString "div") = true from q) (by decide +kernel), (show kOf (Str.ofString "div") - 1 ≤ 4 by decide +kernel)⟩
    · simp at hl
  · rw [hf] at hl
    have hl : xs.length = 1 := hl.trans (by decide +kernel)
    rcases xs with _ | ⟨x0, _ | ⟨y, t⟩⟩
    · simp at hl
    · refine ⟨named_of (l := [120]) (b1 := false) (b2 := false) (b3 := false) (k := 1) hf (by decide +kernel) (by decide +kernel) (by decide +kernel) (by decide +kernel) (by decide +kernel) (by simp [sd, sx, sn, ss, se]), fun q => absurd (show t1 (Str.ofString "tell") = true from q) (by decide +kernel), fun q => absurd (show t2 (Str.ofString "tell") = true from q) (by decide +kernel), (show kOf (Str.ofString "tell") - 1 ≤ 1 by decide +kernel)⟩
    · simp at hl
  · rw [hf] at hl
    have hl : xs.length = 1 := hl.trans (by decide +kernel)
    rcases xs with _ | ⟨x0, _ | ⟨y, t⟩⟩
    · simp at hl
    · refine ⟨named_of (l := [100]) (b1 := false) (b2 := false) (b3 := false) (k := 1) hf (by decide +kernel) (by decide +kernel) (by decide +kernel) (by decide +kernel) (by decide +kernel) (by simp [sd, sx, sn, ss, se]), fun q => absurd (show t1 (Str.ofString "hear") = true from q) (by decide +kernel), fun q => absurd (show t2 (Str.ofString "hear") = true from q) (by decide +kernel), (show kOf (Str.ofString "hear") - 1 ≤ 1 by decide +kernel)⟩
    · simp at hl
  · rw [hf] at hl
    have hl : xs.length = 3 := hl.trans (by decide +kernel)
    rcases xs with _ | ⟨x0, _ | ⟨x1, _ | ⟨x2, _ | ⟨y, t⟩⟩⟩⟩
    · simp at hl
    · simp at hl
    · simp at hl
    · refine ⟨named_of (l := [120, 120, 101]) (b1 := false) (b2 := false) (b3 := true) (k := 3) hf (by decide +kernel) (by decide +kernel) (by decide +kernel) (by decide +kernel) (by decide +kernel) (by simp [sd, sx, sn, ss, se]), fun q => absurd (show t1 (Str.ofString "right") = true from q) (by decide +kernel), fun q => absurd (show t2 (Str.ofString "right") = true from q) (by decide +kernel), (show kOf (Str.ofString "right") - 1 ≤ 3 by decide +kernel)⟩
    · simp at hl
  · rw [hf] at hl
    have hl : xs.length = 1 := hl.trans (by decide +kernel)
    rcases xs with _ | ⟨x0, _ | ⟨y, t⟩⟩
    · simp at hl
    · refine ⟨named_of (l := [101]) (b1 := false) (b2 := false) (b3 := true) (k := 1) hf (by decide +kernel) (by decide +kernel) (by decide +kernel) (by decide +kernel) (by decide +kernel) (by simp [sd, sx, sn, ss, se]), fun q => absurd (show t1 (Str.ofString "out") = true from q) (by decide +kernel), fun q => absurd (show t2 (Str.ofString "out") = true from q) (by decide +kernel), (show kOf (Str.ofString "out") - 1 ≤ 1 by decide +kernel)⟩
    · simp at hl
  · rw [hf] at hl
    have hl : xs.length = 3 := hl.trans (by decide +kernel)
    rcases xs with _ | ⟨x0, _ | ⟨x1, _ | ⟨x2, _ | ⟨y, t⟩⟩⟩⟩
    · simp at hl
    · simp at hl
    · simp at hl
    · refine ⟨named_of (l := [120, 101, 101]) (b1 := false) (b2 := false) (b3 := true) (k := 2) hf (by decide +kernel) (by decide +kernel) (by decide +kernel) (by decide +kernel) (by decide +kernel) (by simp [sd, sx, sn, ss, se]), fun q => absurd (show t1 (Str.ofString "when") = true from q) (by decide +kernel), fun q => absurd (show t2 (Str.ofString "when") = true from q) (by decide +kernel), (show kOf (Str.ofString "when") - 1 ≤ 3 by decide +kernel)⟩
    · simp at hl
  · rw [hf] at hl
    have hl : xs.length = 2 := hl.trans (by decide +kernel)
    rcases xs with _ | ⟨x0, _ | ⟨x1, _ | ⟨y, t⟩⟩⟩
    · simp at hl
    · simp at hl
    · refine ⟨named_of (l := [101, 101]) (b1 := false) (b2 := false) (b3 := true) (k := 1) hf (by decide +kernel) (by decide +kernel) (by decide +kernel) (by decide +kernel) (by decide +kernel) (by simp [sd, sx, sn, ss, se]), fun q => absurd (show t1 (Str.ofString "back") = true from q) (by decide +kernel), fun q => absurd (show t2 (Str.ofString "back") = true from q) (by decide +kernel), (show kOf (Str.ofString "back") - 1 ≤ 2 by decide +kernel)⟩
    · simp at hl
theorem bneF (b : Bool) : (b != false) = b := by cases b <;> rfl
noncomputable abbrev t__law_named : TSD := (tseq (tifS (tbool (tbin (rInD false) (tbin rIxD (tvar 0) (tcon (Dt.int 0))) (ttup (tacons (tcon (Dt.str (Str.ofString "get"))) (tacons (tcon (Dt.str (Str.ofString "div"))) tanil))))) (tseq (tret (tlst (tacons (tbin rIxD (tvar 0) (tcon (Dt.int 4))) tanil))) tnext) tnext) (tseq (tifS (tbool (tbin (rEqD false) (tbin rIxD (tvar 0) (tcon (Dt.int 0))) (tcon (Dt.str (Str.ofString "set"))))) (tseq (tret (tlst (tacons (tbin rIxD (tvar 0) (tcon (Dt.int 4))) (tacons (tbin rIxD (tvar 0) (tcon (Dt.int 5))) tanil)))) tnext) tnext) (tseq (tifS (tbool (tbin (rInD false) (tbin rIxD (tvar 0) (tcon (Dt.int 0))) (ttup (tacons (tcon (Dt.str (Str.ofString "right"))) (tacons (tcon (Dt.str (Str.ofString "when"))) (tacons (tcon (Dt.str (Str.ofString "back"))) (tacons (tcon (Dt.str (Str.ofString "out"))) tanil))))))) (tseq (tret (tcall rList (tacons (tsliceA (tvar 0) (tosome (tdget2 (tdict [(Sum.inr (Str.ofString "right"), (tcon (Dt.int 3))), (Sum.inr (Str.ofString "when"), (tcon (Dt.int 2)))]) (tbin rIxD (tvar 0) (tcon (Dt.int 0))) (tcon (Dt.int 1)))) tonone) tanil))) tnext) tnext) (tseq (tret (tlst tanil)) tnext))))
theorem ix0 {r : Rw} {ρ : Rho} {st : Sto} {i : Nat} (hv : ρ[i]? = some (some (rowD r))) : ∀ P : VD, P (.str r.w) st → tbin rIxD (tvar i) (tcon (.int 0)) ρ st P := by
  intro P hp
  simp only [tbin, tvar, tcon, hv, rowD]
  show (match atI (Dt.str r.w :: r.xs.map .int) 0 with
    | some d => P d st
    | none => False)
  rw [show atI (Dt.str r.w :: r.xs.map Dt.int) 0 = some (.str r.w) from atI_nat (j := 0) rfl]
  exact hp
theorem ixK {r : Rw} {ρ : Rho} {st : Sto} {i j : Nat} (hv : ρ[i]? = some (some (rowD r))) (hj : j < r.xs.length) : ∀ P : VD, P (.int (r.xs.getD j 0)) st → tbin rIxD (tvar i) (tcon (.int ((j + 1 : Nat) : Int))) ρ st P := by
  intro P hp
  simp only [tbin, tvar, tcon, hv, rowD]
  show (match atI (Dt.str r.w :: r.xs.map .int) ((j + 1 : Nat) : Int) with
    | some d => P d st
    | none => False)
  rw [atI_nat (j := j + 1) (v := .int (r.xs.getD j 0)) (by rw [List.getElem?_cons_succ, List.getElem?_map, List.getD_eq_getElem?_getD, List.getElem?_eq_getElem hj]; rfl)]
  exact hp
theorem cut_from {d : Dt} {xs : List Dt} {k : Nat} (h : k ≤ xs.length) : L3.cutD (d :: xs) (some ((k + 1 : Nat) : Int)) none = xs.drop k := by
  unfold L3.cutD
  rw [HT.sIx_nat, HT.sIx_none, Nat.min_eq_left (by simp; omega)]
  show ((xs.drop k).take _) = _
  rw [List.take_of_length_le]
  rw [List.length_drop, List.length_cons]
  omega
theorem rd__law_named {ds : List Dt} {st : Sto} {Pd : VD} (h : spNamed ds st Pd) : t__law_named (Ed Pd) (startD ["row"] ds) st := by
  obtain ⟨r, rfl, ok, hP⟩ := h
  obtain ⟨en, e1, e2, e3⟩ := named_eq ok
  rw [← en] at hP
  show t__law_named (Ed Pd) [some (rowD r)] st
  refine seqIf (b := t1 r.w) (st' := st) ?_ ?_ ?_
  · intro P hp
    simp only [tbool]
    show tbin rIxD (tvar 0) (tcon (.int 0)) _ st _
    refine ix0 (r := r) (i := 0) rfl _ ?_
    refine ⟨by show 2 ≤ sizeLine; rw [sizeLine_eq]; decide, rfl, by decide +kernel, ?_⟩
    show P (t1 r.w != false) st
    rw [bneF]; exact hp
  · intro q
    have hl := e1 q
    refine seqS ?_
    simp only [tret, tlst, tacons, tanil]
    refine ixK (ρ := [some (rowD r)]) (i := 0) (j := 3) rfl (by omega) _ ?_
    refine ⟨by show 1 ≤ sizeLine; rw [sizeLine_eq]; decide, ?_⟩
    refine hP _ _ (.app _ _) ?_
    rw [get_new]
    unfold namedL; rw [q]; rfl
  · intro q
    refine seqIf (b := t2 r.w) (st' := st) ?_ ?_ ?_
    · intro P hp
      simp only [tbool]
      show tbin rIxD (tvar 0) (tcon (.int 0)) _ st _
      refine ix0 (r := r) (i := 0) rfl _ ?_
      refine ⟨rfl, rfl, ?_⟩
      show P (t2 r.w != false) st
      rw [bneF]; exact hp
    · intro q2
      have hl := e2 q2
      refine seqS ?_
      simp only [tret, tlst, tacons, tanil]
      refine ixK (ρ := [some (rowD r)]) (i := 0) (j := 3) rfl (by omega) _ ?_
      refine ixK (ρ := [some (rowD r)]) (i := 0) (j := 4) rfl (by omega) _ ?_
      refine ⟨by show 2 ≤ sizeLine; rw [sizeLine_eq]; decide, ?_⟩
      refine hP _ _ (.app _ _) ?_
      rw [get_new]
      unfold namedL; rw [q, q2]; rfl
    · intro q2
      refine seqIf (b := t3 r.w) (st' := st) ?_ ?_ ?_
      · intro P hp
        simp only [tbool]
        show tbin rIxD (tvar 0) (tcon (.int 0)) _ st _
        refine ix0 (r := r) (i := 0) rfl _ ?_
        refine ⟨by show 4 ≤ sizeLine; rw [sizeLine_eq]; decide, rfl, by decide +kernel, ?_⟩
        show P (t3 r.w != false) st
        rw [bneF]; exact hp
      · intro q3
        refine seqS ?_
        simp only [tret, tcall, tacons, tanil, tsliceA, tvar, tosome, tonone, tdget2, tdict, tvK, tcon, List.getElem?_cons_zero, rowD]
        refine ⟨get_new, ?_⟩
        obtain ⟨s2, es2⟩ : ∃ s2, List.set (st ++ [SO.dc []]) st.length (SO.dc [(Sum.inr (Str.ofString "right"), Dt.int 3), (Sum.inr (Str.ofString "when"), Dt.int 2)]) = s2 := ⟨_, rfl⟩
        have hs2 : s2[st.length]? = some (SO.dc [(Sum.inr (Str.ofString "right"), Dt.int 3), (Sum.inr (Str.ofString "when"), Dt.int 2)]) := by rw [← es2]; exact get_set_self get_new
        have x2 : ExtS st s2 := by
          rw [← es2]
          intro j o ho
          have hj := lt_of_get ho
          exact get_set_ne (get_app ho) (by omega)
        show tbin rIxD (tvar 0) (tcon (Dt.int 0)) [some (rowD r)] (List.set (st ++ [SO.dc []]) st.length (SO.dc [(Sum.inr (Str.ofString "right"), Dt.int 3), (Sum.inr (Str.ofString "when"), Dt.int 2)])) _
        rw [es2]
        refine ix0 (r := r) (i := 0) rfl _ ?_
        simp only [hs2, keyD]
        have hv : (valD [(Sum.inr (Str.ofString "right"), Dt.int 3), (Sum.inr (Str.ofString "when"), Dt.int 2)] (Sum.inr r.w)).getD (Dt.int 1) = .int (((kOf r.w - 1) + 1 : Nat) : Int) := by
          unfold valD kOf
          rw [str_eq, str_eq]
          by_cases h1 : Str.ofString "right" = r.w
          · have h1' : r.w = Str.ofString "right" := h1.symm
            simp [List.find?, h1']
          · have h1' : ¬ r.w = Str.ofString "right" := fun e => h1 e.symm
            by_cases h2 : Str.ofString "when" = r.w
            · have h2' : r.w = Str.ofString "when" := h2.symm
              have h12 : ¬ (Str.ofString "right" = Str.ofString "when") := by decide +kernel
              have h21 : ¬ (Str.ofString "when" = Str.ofString "right") := by decide +kernel
              simp [List.find?, h2', h12, h21]
            · have h2' : ¬ r.w = Str.ofString "when" := fun e => h2 e.symm
              simp [List.find?, h1, h2, h1', h2']
        rw [hv]
        simp only [cut_from (show kOf r.w - 1 ≤ (r.xs.map Dt.int).length by rw [List.length_map]; exact e3)]
        refine hP _ _ (x2.trans (.app _ _)) ?_
        rw [get_new]
        unfold namedL
        rw [q, q2, q3, ← List.map_drop]; rfl
      · intro q3
        refine seqS ?_
        refine ⟨Nat.zero_le _, ?_⟩
        refine hP _ _ (.app _ _) ?_
        rw [get_new]
        unfold namedL; rw [q, q2, q3]; rfl
section
variable (N : Nat)
noncomputable abbrev t__law_same : TSD := (tseq (tifS (tbool (tcall rIsInst (tacons (tvar 1) (tacons (tcon (Dt.ty "tuple")) tanil)))) (tseq (tifS (torB (tnotB (tbool (tcall rIsInst (tacons (tvar 0) (tacons (tcon (Dt.ty "tuple")) tanil))))) (tbool (tbin (rEqD true) (tcall rLen (tacons (tvar 0) tanil)) (tcall rLen (tacons (tvar 1) tanil))))) (tseq (tret (tcon (Dt.bl false))) tnext) tnext) (tseq (tfor (izip (tvar 0) (tvar 1)) (gunpack 2 (gscons (gname 2) (gscons (gname 3) gsnil))) (tseq (tifS (tnotB (tbool (tcall (spSame N) (tacons (tvar 2) (tacons (tvar 3) tanil))))) (tseq (tret (tcon (Dt.bl false))) tnext) tnext) tnext)) (tseq (tret (tcon (Dt.bl true))) tnext))) tnext) (tseq (tifS (tbool (tbin (rIsD false) (tvar 1) (tcon Dt.non))) (tseq (tret (tbin (rIsD false) (tvar 0) (tcon Dt.non))) tnext) tnext) (tseq (tifS (tbool (tcall rIsInst (tacons (tvar 1) (tacons (tcon (Dt.ty "bool")) tanil)))) (tseq (tret (tandV (tcall rIsInst (tacons (tvar 0) (tacons (tcon (Dt.ty "bool")) tanil))) (tbin (rEqD false) (tvar 0) (tvar 1)))) tnext) tnext) (tseq (tifS (tbool (tcall rIsInst (tacons (tvar 1) (tacons (tcon (Dt.ty "str")) tanil)))) (tseq (tret (tandV (tcall rIsInst (tacons (tvar 0) (tacons (tcon (Dt.ty "str")) tanil))) (tbin (rEqD false) (tvar 0) (tvar 1)))) tnext) tnext) (tseq (tret (tandV (tcall spIsNum (tacons (tvar 0) tanil)) (tbin (rEqD false) (tvar 0) (tvar 1)))) tnext)))))
end
theorem rd__law_same (N : Nat) {ds : List Dt} {st : Sto} {Pd : VD} (h : spSame (N + 1) ds st Pd) : t__law_same N (Ed Pd) (startD ["found", "due", "one", "other"] ds) st := by
  obtain ⟨d, rfl, hd, hP⟩ := h
  show t__law_same N (Ed Pd) [some d, some d, none, none] st
  unfold t__law_same
  cases d with
  | tup xs =>
    simp only [okS, List.all_eq_true] at hd
    refine seqIf (b := true) (st' := st) ?_ (fun _ => ?_) (fun q => by cases q)
    · intro P hp
      exact ⟨.inr (.inr (.inr (.inl rfl))), hp⟩
    refine seqIf (b := false) (st' := st) (orB (b1 := false) (b2 := false) ?_ fun _ => ?_) (fun q => by cases q) fun _ => ?_
    · intro P hp
      exact ⟨.inr (.inr (.inr (.inl rfl))), hp⟩
    · intro P hp
      refine ⟨rfl, rfl, ?_⟩
      show P (((xs.length : Int) == (xs.length : Int)) != true) st
      simpa using hp
    refine seqS ?_
    show forW (zipD xs xs) (fun _ => True) _ _ _ _ st
    refine ⟨fun i ρ s => ∃ a b, ρ = [some (.tup xs), some (.tup xs), a, b], ⟨_, _, rfl⟩, fun _ _ _ _ _ => trivial, ?_, ?_⟩
    · rintro i d ρ s hz ⟨a, b, rfl⟩
      obtain ⟨x, y, ex, ey, rfl⟩ := zipD_get hz
      rw [ex] at ey
      cases ey
      refine ⟨rfl, ?_⟩
      simp only [gscons, gname, gsnil]
      show tseq _ _ _ [some (.tup xs), some (.tup xs), some x, some x] s
      simp only [tseq, tifS, tnotB, tbool, tcall, tacons, tanil, tvar, List.getElem?_cons_zero, List.getElem?_cons_succ]
      refine ⟨x, rfl, hd x (List.mem_of_getElem? ex), fun s2 => iteF ?_⟩
      exact ⟨_, _, rfl⟩
    · rintro ρ s ⟨a, b, rfl⟩
      exact hP s
  | int n =>
    refine seqIf (b := false) (st' := st) ?_ (fun q => by cases q) fun _ => ?_
    · intro P hp
      exact ⟨.inr (.inr (.inr (.inl rfl))), hp⟩
    refine seqIf (b := false) (st' := st) ?_ (fun q => by cases q) fun _ => ?_
    · intro P hp
      exact hp
    refine seqIf (b := false) (st' := st) ?_ (fun q => by cases q) fun _ => ?_
    · intro P hp
      exact ⟨.inl rfl, hp⟩
    refine seqIf (b := false) (st' := st) ?_ (fun q => by cases q) fun _ => ?_
    · intro P hp
      exact ⟨.inr (.inr (.inl rfl)), hp⟩
    refine seqS ?_
    simp only [tret, tandV, tcall, tacons, tanil, tvar, tbin, List.getElem?_cons_zero, List.getElem?_cons_succ]
    refine ⟨n, rfl, ?_⟩
    refine iteT ?_
    refine ⟨rfl, rfl, ?_⟩
    have e : eqD 8 (.int n) (.int n) = true := by show (n == n) = true; simp
    rw [e]
    exact hP st
  | _ => simp [okS] at hd
end K85
namespace K02
open PySem L2 L3
end K02
namespace K02
open PySem PySem.Spec PyProof.Rows L2 L3
noncomputable def rb : TSD := (tseq (tasg (tcall spLine (tacons (tvar 3) tanil)) (gname 4)) (tseq (tifS (tbool (tbin (rIsD false) (tvar 4) (tcon Dt.non))) (tseq tnever tnext) tnext) (tseq (tdrop (tappend (tvar 1) (tvar 4))) tnext)))
noncomputable abbrev RR (z : Str) (c : Nat) (a b d : Option Dt) : Rho := [some (.str z), some (.lst c), a, b, d]
end K02
namespace K02
open PySem PySem.Spec PyProof.Rows L2 L3
section
variable {st : Sto}
theorem ixV {n j : Nat} {d : Dt} {xs : List Dt} {P : VD} (hn : st[n]? = some (.rw xs)) (hd : xs[j]? = some d) (hp : P d st) : rIxD (.lst n) (.int (j : Int)) st P := by
  show (match seqOf st (.lst n) with
      | some xs => (match atI xs (j : Int) with
        | some d => P d st
        | none => False)
      | none => False)
  have e : seqOf st (.lst n) = some xs := by
    show (st[n]?).map SO.items = _
    rw [hn]; rfl
  rw [e]
  show (match atI xs (j : Int) with
        | some d => P d st
        | none => False)
  rw [atI_nat hd]
  exact hp
end
end K02
namespace K85
open PySem PySem.Spec PyProof.Rows L2 L3 K02
noncomputable abbrev t__law_parts : TSD := (tseq (tasg (tlst tanil) (gname 3)) (tseq (tfor (irng1 (tcall rLen (tacons (tvar 2) tanil))) (gname 4) (tseq (tifS (tbool (tbin (rEqD false) (tvar 1) (tcon (Dt.int 0)))) (tseq (tdrop (tappend (tvar 3) (tbin rMod (tvar 0) (tbin rIxD (tvar 2) (tvar 4))))) (tseq (tasg (tbin rDiv (tvar 0) (tbin rIxD (tvar 2) (tvar 4))) (gname 0)) tnext)) (tseq (tdrop (tappend (tvar 3) (tbin rMod (tcall spMix (tacons (tvar 0) (tacons (tvar 4) tanil))) (tbin rIxD (tvar 2) (tvar 4))))) tnext)) tnext)) (tseq (tret (tvar 3)) tnext)))
noncomputable abbrev t__law_first_rows : TSD := (tseq (tasg (tcomp (irng1 (tvar 1)) (tbool (tbin (rEqD false) (tbin rAndB (tbin rShr (tvar 1) (tvar 0)) (tcon (Dt.int 1))) (tcon (Dt.int 0)))) (ttup (tacons (tcon (Dt.str (Str.ofString "num"))) (tacons (tvar 0) (tacons (tbin L3.rAdd (tbin rMul (tcon (Dt.int 3)) (tvar 0)) (tcon (Dt.int 1))) tanil)))) [(2, "left_out")]) (gname 3)) (tseq (tasg (tbin L3.rAdd (tvar 3) (tcomp (irng2 (tvar 1) (tvar 0)) (fun x st P => P true st) (ttup (tacons (tcon (Dt.str (Str.ofString "no"))) (tacons (tvar 0) tanil))) [])) (gname 3)) (tseq (tasg (tbin L3.rAdd (tvar 3) (tcomp (irng1 (tcon (Dt.int 4))) (tbool (tbin (rEqD false) (tbin rAndB (tbin rShr (tvar 1) (tbin L3.rAdd (tcon (Dt.int 16)) (tvar 0))) (tcon (Dt.int 1))) (tcon (Dt.int 0)))) (ttup (tacons (tcon (Dt.str (Str.ofString "keep"))) (tacons (tvar 0) (tacons (tbin rMod (tvar 0) (tvar 2)) tanil)))) [(2, "left_out"), (1, "numbers")])) (gname 3)) (tseq (tret (tbin L3.rAdd (tvar 3) (tcomp (irng1 (tcon (Dt.int 4))) (fun x st P => P true st) (ttup (tacons (tcon (Dt.str (Str.ofString "keep"))) (tacons (tbin L3.rAdd (tcon (Dt.int 996)) (tvar 0)) (tacons (tbin L3.rSub (tvar 1) (tcon (Dt.int 1))) tanil)))) [(0, "many")]))) tnext))))
theorem pin_snoc {ps bs : List Int} {i : Nat} {p b : Int} (h : PIn ps (bs.take i)) (hb : bs[i]? = some b) (h0 : 0 ≤ p) (h1 : p < b) : PIn (ps ++ [p]) (bs.take (i + 1)) := by
  have hil := (List.getElem?_eq_some_iff.mp hb).1
  have hl := h.1
  rw [List.length_take] at hl
  rw [List.take_add_one, hb]
  refine ⟨by simp [h.1], fun j q c hq hc => ?_⟩
  by_cases hj : j < ps.length
  · rw [List.getElem?_append_left hj] at hq
    rw [List.getElem?_append_left (by rw [List.length_take]; omega)] at hc
    exact h.2 j q c hq hc
  · have hj2 := (List.getElem?_eq_some_iff.mp hq).1
    simp at hj2
    have ej : j = ps.length := by omega
    subst ej
    have e1 : q = p := by simpa using hq.symm
    have e2 : c = b := by
      rw [List.getElem?_append_right (by rw [List.length_take]; omega)] at hc
      have : ps.length - (bs.take i).length = 0 := by rw [List.length_take]; omega
      rw [this] at hc
      simpa using hc.symm
    rw [e1, e2]; exact ⟨h0, h1⟩
theorem forR {te : TD} {g : TGD} {tb : TSD} {n : Nat} {E : EndsD} {ρ : Rho} {st : Sto} (h : ∀ P : VD, P (.int (n : Int)) st → te ρ st P) (hn : n < 1000000) (q : forW (rangeD 0 n) (fun _ => True) g tb E ρ st) : tfor (irng1 te) g tb E ρ st := by
  show te ρ st _
  refine h _ ⟨by omega, by omega, ?_⟩
  rw [Int.toNat_natCast]; exact q
noncomputable abbrev RP (c way : Int) (b f : Nat) (k : Option Dt) : Rho := [some (.int c), some (.int way), some (.lst b), some (.lst f), k]
theorem rd__law_parts {ds : List Dt} {st : Sto} {Pd : VD} (h : spLParts ds st Pd) : t__law_parts (Ed Pd) (startD ["cell", "way", "bounds", "found", "k"] ds) st := by
  obtain ⟨c, way, b, bs, rfl, hb, hbs, hbl, hP⟩ := h
  show t__law_parts (Ed Pd) [some (.int c), some (.int way), some (.lst b), none, none] st
  refine seqA ⟨Nat.zero_le _, ?_⟩
  show tseq _ _ (Ed Pd) (RP c way b st.length none) (st ++ [SO.rw []])
  have hf0 : (st ++ [SO.rw []])[st.length]? = some (.rw []) := get_new
  have hb0 : (st ++ [SO.rw []])[b]? = some (.rw (bs.map .int)) := get_app hb
  have hbn : b < st.length := lt_of_get hb
  have x0 : ExtS st (st ++ [SO.rw []]) := .app _ _
  generalize st ++ [SO.rw []] = s0 at hf0 hb0 x0
  refine seqS ?_
  refine forR (n := bs.length) ?_ (by omega) ?_
  · intro P hp
    refine lenL (ρ := RP c way b st.length none) (i := 2) (n := b) rfl hb0 _ ?_
    show P (.int ((bs.map Dt.int).length : Int)) _
    rw [List.length_map]; exact hp
  refine ⟨fun i ρ s => (∃ c' k, ρ = RP c' way b st.length k) ∧ ExtS st s ∧ s[b]? = some (.rw (bs.map .int)) ∧ ∃ ps : List Int, s[st.length]? = some (.rw (ps.map .int)) ∧ PIn ps (bs.take i), ⟨⟨_, _, rfl⟩, x0, hb0, [], hf0, rfl, fun j p b hp hb => by cases hp⟩, fun _ _ _ _ _ => trivial, ?_, ?_⟩
  · rintro i d ρ s hd ⟨⟨c', k, rfl⟩, hx, hbs', ps, hps, hpin⟩
    obtain ⟨hi, rfl⟩ := range_get hd
    rw [Int.zero_add]
    obtain ⟨bb, hbb⟩ : ∃ bb, bs[i]? = some bb := ⟨bs[i], by simp [hi]⟩
    obtain ⟨b0, b1⟩ := hbs bb (List.mem_of_getElem? hbb)
    have hil : (bs.map Dt.int)[i]? = some (.int bb) := by rw [List.getElem?_map, hbb]; rfl
    have hpl : ps.length = i := by rw [hpin.1, List.length_take]; omega
    have upd : ∀ (p c2 : Int) (k2 : Option Dt) (s1 : Sto), ExtS s s1 → 0 ≤ p → p < bb → (∃ c' k, RP c2 way b st.length k2 = RP c' way b st.length k) ∧ ExtS st (s1.set st.length (.rw (ps.map .int ++ [.int p]))) ∧ (s1.set st.length (.rw (ps.map .int ++ [.int p])))[b]? = some (.rw (bs.map .int)) ∧ ∃ ps' : List Int, (s1.set st.length (.rw (ps.map .int ++ [.int p])))[st.length]? = some (.rw (ps'.map .int)) ∧ PIn ps' (bs.take (i + 1)) := by
      intro p c2 k2 s1 x1 p0 p1
      refine ⟨⟨_, _, rfl⟩, fun j o ho => ?_, get_set_ne (x1 _ _ hbs') (by omega), ps ++ [p], ?_, pin_snoc hpin hbb p0 p1⟩
      · have hj : j < st.length := lt_of_get ho
        exact get_set_ne (x1 _ _ (hx _ _ ho)) (by omega)
      · rw [get_set_self (x1 _ _ hps), List.map_append]; rfl
    have hlz : (ps.map Dt.int).length < sizeLine := by rw [List.length_map, sizeLine_eq]; omega
    show tseq _ _ _ (RP c' way b st.length (some (.int (i : Int)))) s
    refine seqS (ifS (b := decide (way = 0)) (st' := s) (eqI fun P hp => hp) ?_ ?_)
    · intro q
      refine seqS ?_
      simp only [tdrop, tappend, tbin, tvar, List.getElem?_cons_zero, List.getElem?_cons_succ]
      refine ixV hbs' hil ?_
      refine ⟨b0, ?_⟩
      simp only [hps]
      refine ⟨hlz, ?_⟩
      have hn0 := Int.emod_nonneg c' (show bb ≠ 0 by omega)
      have hn1 := Int.emod_lt_of_pos c' b0
      have hu := upd (c' % bb) (c' / bb) (some (.int (i : Int))) s (.refl _) hn0 hn1
      refine seqA ?_
      simp only [tbin, tvar, List.getElem?_cons_zero, List.getElem?_cons_succ]
      refine ixV hu.2.2.1 hil ?_
      exact ⟨cdiv b0 (by omega), hu⟩
    · intro q
      refine seqS ?_
      simp only [tdrop, tappend, tbin, tvar, tcall, tacons, tanil, List.getElem?_cons_zero, List.getElem?_cons_succ]
      refine ⟨c', i, rfl, by omega, fun x x0' => ?_⟩
      refine ixV hbs' hil ?_
      refine ⟨b0, ?_⟩
      simp only [hps]
      exact ⟨hlz, upd (x % bb) c' (some (.int (i : Int))) s (.refl _) (Int.emod_nonneg x (show bb ≠ 0 by omega)) (Int.emod_lt_of_pos x b0)⟩
  · rintro ρ s ⟨⟨c', k, rfl⟩, hx, hbs', ps, hps, hpin⟩
    rw [range_len, List.take_length] at hpin
    exact hP ps s _ hx hps hpin
theorem rowsComp {items : List Dt} {tc : TBD} {te : TD} {cρ : Rho} {st : Sto} {Fin : List Dt → Sto → Prop} (hl : items.length ≤ 100)
    (hs : ∀ (i : Nat) d, items[i]? = some d → ∃ (b : Bool) (r : Rw), OkR r ∧ (∀ P : Bool → Sto → Prop, P b st → tc (some d :: cρ) st P) ∧ ∀ P : VD, P (rowD r) st → te (some d :: cρ) st P)
    (hF : ∀ rs : List Rw, (∀ r ∈ rs, OkR r) → rs.length ≤ items.length → Fin (rs.map rowD) st) : compD items (fun _ => True) tc te cρ st Fin := by
  refine ⟨fun i ys s => s = st ∧ ∃ rs : List Rw, ys = rs.map rowD ∧ (∀ r ∈ rs, OkR r) ∧ rs.length ≤ i, ⟨rfl, [], rfl, (by intro r hr; cases hr), Nat.le_refl _⟩, fun _ _ _ _ _ => trivial, ?_, ?_⟩
  · rintro i d ys s hd ⟨rfl, rs, rfl, ho, hle⟩
    have hil := (List.getElem?_eq_some_iff.mp hd).1
    obtain ⟨b, r, hr, h1, h2⟩ := hs i d hd
    refine ⟨by rw [List.length_map, sizeLine_eq]; omega, h1 _ ?_⟩
    cases b with
    | true =>
      refine iteT (h2 _ ⟨rfl, rs ++ [r], by rw [List.map_append]; rfl, ?_, by simp; omega⟩)
      intro q hq
      rcases List.mem_append.mp hq with hq | hq
      · exact ho q hq
      · have : q = r := by simpa using hq
        rw [this]; exact hr
    | false => exact iteF ⟨rfl, rs, rfl, ho, by omega⟩
  · rintro ys s ⟨rfl, rs, rfl, ho, hle⟩
    exact hF rs ho hle
theorem row2 {w f : Str} {a b : Int} (h : formS.lookup w = some f) (hl : f.length = 2) : OkR ⟨w, [a, b]⟩ := ok_of h hl.symm
theorem row1 {w f : Str} {a : Int} (h : formS.lookup w = some f) (hl : f.length = 1) : OkR ⟨w, [a]⟩ := ok_of h hl.symm
noncomputable abbrev RF (many numbers : Nat) (left : Int) (r : Option Dt) : Rho := [some (.int (many : Int)), some (.int (numbers : Int)), some (.int left), r]
theorem bitT {l x : Int} {ρ : Rho} {st : Sto} {tx : TD} {i : Nat} (hv : ρ[i]? = some (some (.int l))) (hx : ∀ P : VD, P (.int x) st → tx ρ st P) (h0 : 0 ≤ x) : ∃ b : Bool, ∀ P : Bool → Sto → Prop, P b st → tbool (tbin (rEqD false) (tbin rAndB (tbin rShr (tvar i) tx) (tcon (Dt.int 1))) (tcon (Dt.int 0))) ρ st P := by
  refine ⟨((Builtin.bitAnd (l / 2 ^ x.toNat) 1) == 0) != false, fun P hp => ?_⟩
  simp only [tbool, tbin, tvar, tcon, hv]
  refine hx _ ⟨h0, rfl, rfl, ?_⟩
  exact hp
theorem rd__law_first_rows {ds : List Dt} {st : Sto} {Pd : VD} (h : spFirst ds st Pd) : t__law_first_rows (Ed Pd) (startD ["many", "numbers", "left_out", "rows"] ds) st := by
  obtain ⟨many, numbers, left, rfl, h1, h2, h3, hP⟩ := h
  show t__law_first_rows (Ed Pd) [some (.int (many : Int)), some (.int (numbers : Int)), some (.int left), none] st
  refine seqA ?_
  show (-(2 ^ 62) ≤ (numbers : Int) ∧ (numbers : Int) < 2 ^ 62 ∧ compD (rangeD 0 (numbers : Int).toNat) (fun _ => True) _ _ _ st _)
  refine ⟨by omega, by omega, ?_⟩
  rw [Int.toNat_natCast]
  refine rowsComp (by rw [range_len]; omega) (fun i d hd => ?_) fun rs1 o1 l1 => ?_
  · obtain ⟨hi, rfl⟩ := range_get hd
    rw [Int.zero_add]
    obtain ⟨b, hb⟩ := bitT (l := left) (x := (i : Int)) (ρ := [some (.int (i : Int)), some (.int left)]) (st := st) (tx := tvar 0) (i := 1) rfl (fun P hp => hp) (by omega)
    refine ⟨b, ⟨"num", [(i : Int), 3 * (i : Int) + 1]⟩, row2 (f := "dn") (by decide +kernel) (by decide +kernel), hb, fun P hp => ?_⟩
    refine ⟨cmul_l (by decide) (by decide), by show 3 ≤ sizeLine; rw [sizeLine_eq]; decide, ?_⟩
    exact hp
  rw [range_len] at l1
  show tseq _ _ (Ed Pd) (RF many numbers left (some (.lst st.length))) (st ++ [SO.rw (rs1.map rowD)])
  have g1 : (st ++ [SO.rw (rs1.map rowD)])[st.length]? = some (.rw (rs1.map rowD)) := get_new
  have x1 : ExtS st (st ++ [SO.rw (rs1.map rowD)]) := .app _ _
  generalize st ++ [SO.rw (rs1.map rowD)] = s1 at g1 x1
  generalize st.length = n1 at g1
  have cat : ∀ {s : Sto} {n : Nat} {rs rs2 : List Rw} {P : VD}, s[n]? = some (.rw (rs.map rowD)) → rs.length + rs2.length ≤ 100 → (∀ s' n', ExtS s s' → s.length ≤ n' → s'[n']? = some (.rw ((rs ++ rs2).map rowD)) → P (.lst n') s') → L3.rAdd (.lst n) (.lst s.length) (s ++ [SO.rw (rs2.map rowD)]) P := by
    intro s n rs rs2 P hn hl hP
    show (match (s ++ [SO.rw (rs2.map rowD)])[n]?, (s ++ [SO.rw (rs2.map rowD)])[s.length]? with
      | some (.rw xs), some (.rw ys) => _
      | _, _ => False)
    rw [get_app hn, get_new]
    refine ⟨by rw [List.length_map, List.length_map, sizeLine_eq]; omega, hP _ _ ((ExtS.app _ _).trans (.app _ _)) (by simp) ?_⟩
    rw [get_new, List.map_append]
  refine seqA ?_
  have em : ((many : Int) - (numbers : Int)).toNat = many - numbers := by omega
  simp only [tbin, tvar, tcomp, irng2, List.getElem?_cons_zero, List.getElem?_cons_succ, capρ, List.map_nil, em]
  refine ⟨⟨by omega, by omega, by omega, by omega⟩, ?_⟩
  refine rowsComp (by rw [range_len]; omega) (fun i d hd => ?_) fun rs2 o2 l2 => ?_
  · obtain ⟨hi, rfl⟩ := range_get hd
    refine ⟨true, ⟨"no", [(numbers : Int) + (i : Int)]⟩, row1 (f := "d") (by decide +kernel) (by decide +kernel), fun P hp => hp, fun P hp => ?_⟩
    exact ⟨by show 2 ≤ sizeLine; rw [sizeLine_eq]; decide, hp⟩
  rw [range_len] at l2
  refine cat g1 (by omega) fun s2 n2 x2 f2 g2 => ?_
  have o12 : ∀ r ∈ rs1 ++ rs2, OkR r := fun r hr => (List.mem_append.mp hr).elim (o1 r) (o2 r)
  have l12 : (rs1 ++ rs2).length ≤ 32 := by rw [List.length_append]; omega
  generalize rs1 ++ rs2 = ra at g2 o12 l12
  show tseq _ _ (Ed Pd) (RF many numbers left (some (.lst n2))) s2
  refine seqA ?_
  simp only [tbin, tvar, tcomp, irng1, tcon, List.getElem?_cons_zero, List.getElem?_cons_succ, capρ, List.map_cons, List.map_nil, Option.join_some]
  refine ⟨by decide, by decide, ?_⟩
  refine rowsComp (by rw [range_len]; decide) (fun i d hd => ?_) fun rs3 o3 l3 => ?_
  · obtain ⟨hi, rfl⟩ := range_get hd
    have hi : i < 4 := hi
    rw [Int.zero_add]
    obtain ⟨b, hb⟩ := bitT (l := left) (x := 16 + (i : Int)) (ρ := [some (.int (i : Int)), some (.int left), some (.int (numbers : Int))]) (st := s2) (tx := tbin L3.rAdd (tcon (Dt.int 16)) (tvar 0)) (i := 1) rfl (fun P hp => hp) (by omega)
    refine ⟨b, ⟨"keep", [(i : Int), (i : Int) % (numbers : Int)]⟩, row2 (f := "sx") (by decide +kernel) (by decide +kernel), hb, fun P hp => ?_⟩
    exact ⟨by show (0 : Int) < (numbers : Int); omega, by show 3 ≤ sizeLine; rw [sizeLine_eq]; decide, hp⟩
  rw [range_len] at l3
  have l3 : rs3.length ≤ 4 := l3
  refine cat g2 (by omega) fun s3 n3 x3 f3 g3 => ?_
  have o13 : ∀ r ∈ ra ++ rs3, OkR r := fun r hr => (List.mem_append.mp hr).elim (o12 r) (o3 r)
  have l13 : (ra ++ rs3).length ≤ 36 := by rw [List.length_append]; omega
  generalize ra ++ rs3 = rb at g3 o13 l13
  show tseq _ _ (Ed Pd) (RF many numbers left (some (.lst n3))) s3
  refine seqS ?_
  simp only [tret, tbin, tvar, tcomp, irng1, tcon, List.getElem?_cons_zero, List.getElem?_cons_succ, capρ, List.map_cons, List.map_nil, Option.join_some]
  refine ⟨by decide, by decide, ?_⟩
  refine rowsComp (by rw [range_len]; decide) (fun i d hd => ?_) fun rs4 o4 l4 => ?_
  · obtain ⟨hi, rfl⟩ := range_get hd
    rw [Int.zero_add]
    refine ⟨true, ⟨"keep", [996 + (i : Int), (many : Int) - 1]⟩, row2 (f := "sx") (by decide +kernel) (by decide +kernel), fun P hp => hp, fun P hp => ?_⟩
    exact ⟨by show 3 ≤ sizeLine; rw [sizeLine_eq]; decide, hp⟩
  rw [range_len] at l4
  have l4 : rs4.length ≤ 4 := l4
  refine cat g3 (by omega) fun s4 n4 x4 f4 g4 => ?_
  have hle : ∀ {a b : Sto}, ExtS a b → a.length ≤ b.length := fun {a b} hx => by
    rcases Nat.lt_or_ge b.length a.length with q | q
    · have h5 := hx b.length a[b.length] (by simp [q])
      exact absurd (lt_of_get h5) (Nat.lt_irrefl _)
    · exact q
  exact hP _ _ _ (x1.trans (x2.trans (x3.trans x4))) (Nat.le_trans (hle (x1.trans (x2.trans x3))) f4) ⟨g4, fun r hr => (List.mem_append.mp hr).elim (o13 r) (o4 r), by rw [List.length_append]; omega⟩
end K85
namespace K85
open PySem PySem.Spec PyProof.Rows L2 L3 K02
theorem cut_takeI {xs : List Int} {k : Nat} : L3.cutD (xs.map Dt.int) none (some (k : Int)) = (xs.take k).map Dt.int := by
  unfold L3.cutD
  rw [HT.sIx_nat, HT.sIx_none]
  simp only [List.drop_zero, List.length_map, Nat.sub_zero]
  rw [← List.map_take]
  congr 1
  rcases Nat.le_total k xs.length with h | h
  · rw [Nat.min_eq_left h]
  · rw [Nat.min_eq_right h, List.take_of_length_le h, List.take_length]
theorem eight {ps : List Int} (h : PIn ps rowB) : ∃ p0 p1 p2 p3 p4 p5 p6 p7 : Int, ps = [p0, p1, p2, p3, p4, p5, p6, p7] ∧ (0 ≤ p0 ∧ p0 < 20) ∧ (0 ≤ p4 ∧ p4 < 65536) ∧ (0 ≤ p5 ∧ p5 < 8) := by
  obtain ⟨hl, hb⟩ := h
  have hl : ps.length = 8 := hl
  rcases ps with _ | ⟨p0, _ | ⟨p1, _ | ⟨p2, _ | ⟨p3, _ | ⟨p4, _ | ⟨p5, _ | ⟨p6, _ | ⟨p7, _ | ⟨p8, r⟩⟩⟩⟩⟩⟩⟩⟩⟩ <;> first
    | (simp at hl; done)
    | exact ⟨p0, p1, p2, p3, p4, p5, p6, p7, rfl, hb 0 p0 20 rfl rfl, hb 4 p4 65536 rfl rfl, hb 5 p5 8 rfl rfl⟩
    | (simp at hl; omega)
noncomputable abbrev t__law_plain_row : TSD := (tseq (tasg (tsliceA (tvar 0) tonone (tosome (tcon (Dt.int 6)))) (gunpack 6 (gscons (gname 3) (gscons (gname 4) (gscons (gname 5) (gscons (gname 6) (gscons (gname 7) (gscons (gname 8) gsnil)))))))) (tseq (tasg (tbin rMod (tvar 4) (tvar 2)) (gname 4)) (tseq (tasg (tbin rMod (tvar 5) (tvar 2)) (gname 5)) (tseq (tasg (tbin rMod (tvar 6) (tvar 2)) (gname 6)) (tseq (tasg (tbin L3.rAdd (tvar 2) (tbin rMod (tbin rIxD (tvar 0) (tcon (Dt.int 1))) (tbin L3.rSub (tvar 1) (tvar 2)))) (gname 9)) (tseq (tifS (tbool (tbin (rCmpI fun i j => decide (i < j)) (tvar 3) (tcon (Dt.int 3)))) (tseq (tret (ttup (tacons (tcon (Dt.str (Str.ofString "num"))) (tacons (tvar 4) (tacons (tbin rIxD (tlst (tacons (tvar 7) (tacons (tbin rMod (tvar 7) (tcon (Dt.int 140))) (tacons (tbin rMod (tvar 7) (tcon (Dt.int 8))) (tacons (tbin L3.rSub (tcon (Dt.int 65535)) (tbin rMod (tvar 7) (tcon (Dt.int 3)))) tanil))))) (tbin rMod (tvar 8) (tcon (Dt.int 4)))) tanil))))) tnext) tnext) (tseq (tifS (tbool (tbin (rEqD false) (tvar 3) (tcon (Dt.int 3)))) (tseq (tret (ttup (tacons (tcon (Dt.str (Str.ofString "box"))) (tacons (tvar 4) (tacons (tvar 8) tanil))))) tnext) tnext) (tseq (tifS (tbool (tbin (rCmpI fun i j => decide (i < j)) (tvar 3) (tcon (Dt.int 7)))) (tseq (tret (ttup (tacons (tbin rIxD (tlst (tacons (tcon (Dt.str (Str.ofString "add"))) (tacons (tcon (Dt.str (Str.ofString "sub"))) (tacons (tcon (Dt.str (Str.ofString "mul"))) tanil)))) (tbin L3.rSub (tvar 3) (tcon (Dt.int 4)))) (tacons (tvar 4) (tacons (tvar 5) (tacons (tvar 6) tanil)))))) tnext) tnext) (tseq (tifS (tbool (tbin (rEqD false) (tvar 3) (tcon (Dt.int 7)))) (tseq (tret (ttup (tacons (tcon (Dt.str (Str.ofString "load"))) (tacons (tvar 4) (tacons (tbin rMod (tvar 8) (tcon (Dt.int 4))) tanil))))) tnext) tnext) (tseq (tifS (tbool (tbin (rEqD false) (tvar 3) (tcon (Dt.int 8)))) (tseq (tret (ttup (tacons (tcon (Dt.str (Str.ofString "keep"))) (tacons (tbin rMod (tvar 8) (tcon (Dt.int 4))) (tacons (tvar 4) tanil))))) tnext) tnext) (tseq (tifS (tbool (tbin (rCmpI fun i j => decide (i < j)) (tvar 3) (tcon (Dt.int 13)))) (tseq (tret (ttup (tacons (tbin rIxD (tlst (tacons (tcon (Dt.str (Str.ofString "over"))) (tacons (tcon (Dt.str (Str.ofString "under"))) (tacons (tcon (Dt.str (Str.ofString "wide"))) (tacons (tcon (Dt.str (Str.ofString "rest"))) tanil))))) (tbin L3.rSub (tvar 3) (tcon (Dt.int 9)))) (tacons (tvar 9) (tacons (tvar 5) (tacons (tvar 6) tanil)))))) tnext) tnext) (tseq (tifS (tbool (tbin (rCmpI fun i j => decide (i < j)) (tvar 3) (tcon (Dt.int 15)))) (tseq (tret (ttup (tacons (tbin rIxD (tlst (tacons (tcon (Dt.str (Str.ofString "nought"))) (tacons (tcon (Dt.str (Str.ofString "high"))) tanil))) (tbin L3.rSub (tvar 3) (tcon (Dt.int 13)))) (tacons (tvar 9) (tacons (tvar 5) tanil))))) tnext) tnext) (tseq (tifS (tbool (tbin (rEqD false) (tvar 3) (tcon (Dt.int 15)))) (tseq (tret (ttup (tacons (tcon (Dt.str (Str.ofString "mark"))) (tacons (tvar 9) (tacons (tbin rMod (tvar 8) (tcon (Dt.int 3))) tanil))))) tnext) tnext) (tseq (tifS (tbool (tbin (rCmpI fun i j => decide (i < j)) (tvar 3) (tcon (Dt.int 18)))) (tseq (tret (ttup (tacons (tbin rIxD (tlst (tacons (tcon (Dt.str (Str.ofString "yes"))) (tacons (tcon (Dt.str (Str.ofString "no"))) tanil))) (tbin L3.rSub (tvar 3) (tcon (Dt.int 16)))) (tacons (tvar 9) tanil)))) tnext) tnext) (tseq (tifS (tbool (tbin (rEqD false) (tvar 3) (tcon (Dt.int 18)))) (tseq (tret (ttup (tacons (tcon (Dt.str (Str.ofString "load"))) (tacons (tvar 9) (tacons (tbin L3.rAdd (tcon (Dt.int 996)) (tbin rMod (tvar 8) (tcon (Dt.int 4)))) tanil))))) tnext) tnext) (tseq (tret (ttup (tacons (tcon (Dt.str (Str.ofString "keep"))) (tacons (tbin L3.rAdd (tcon (Dt.int 996)) (tbin rMod (tvar 8) (tcon (Dt.int 4)))) (tacons (tvar 9) tanil))))) tnext))))))))))))))))
noncomputable abbrev t__law_item_rows : TSD := (tseq (tasg (tsliceA (tvar 0) tonone (tosome (tcon (Dt.int 6)))) (gunpack 6 (gscons (gname 3) (gscons (gname 4) (gscons (gname 5) (gscons (gname 6) (gscons (gname 7) (gscons (gname 8) gsnil)))))))) (tseq (tasg (tbin rMod (tvar 4) (tvar 1)) (gname 4)) (tseq (tasg (tbin rMod (tvar 5) (tvar 1)) (gname 5)) (tseq (tasg (tbin rMod (tvar 6) (tvar 1)) (gname 6)) (tseq (tasg (tbin rMod (tbin rIxD (tvar 0) (tcon (Dt.int 6))) (tvar 2)) (gname 9)) (tseq (tasg (tbin rMod (tbin rIxD (tvar 0) (tcon (Dt.int 7))) (tvar 2)) (gname 10)) (tseq (tifS (tbool (tbin (rCmpI fun i j => decide (i < j)) (tvar 3) (tcon (Dt.int 4)))) (tseq (tret (tlst (tacons (ttup (tacons (tcon (Dt.str (Str.ofString "get"))) (tacons (tvar 4) (tacons (tvar 5) (tacons (tvar 6) (tacons (tvar 9) tanil)))))) tanil))) tnext) tnext) (tseq (tifS (tbool (tbin (rCmpI fun i j => decide (i < j)) (tvar 3) (tcon (Dt.int 8)))) (tseq (tret (tlst (tacons (ttup (tacons (tcon (Dt.str (Str.ofString "set"))) (tacons (tvar 4) (tacons (tvar 5) (tacons (tvar 6) (tacons (tvar 9) (tacons (tvar 10) tanil))))))) tanil))) tnext) tnext) (tseq (tifS (tbool (tbin (rCmpI fun i j => decide (i < j)) (tvar 3) (tcon (Dt.int 12)))) (tseq (tret (tlst (tacons (ttup (tacons (tcon (Dt.str (Str.ofString "div"))) (tacons (tvar 4) (tacons (tvar 5) (tacons (tvar 6) (tacons (tvar 9) tanil)))))) tanil))) tnext) tnext) (tseq (tifS (tbool (tbin (rCmpI fun i j => decide (i < j)) (tvar 3) (tcon (Dt.int 14)))) (tseq (tret (tlst (tacons (ttup (tacons (tcon (Dt.str (Str.ofString "tell"))) (tacons (tvar 4) tanil))) tanil))) tnext) tnext) (tseq (tifS (tbool (tbin (rCmpI fun i j => decide (i < j)) (tvar 3) (tcon (Dt.int 17)))) (tseq (tret (tlst (tacons (ttup (tacons (tcon (Dt.str (Str.ofString "hear"))) (tacons (tvar 4) tanil))) tanil))) tnext) tnext) (tseq (tret (tlst (tacons (ttup (tacons (tcon (Dt.str (Str.ofString "num"))) (tacons (tvar 5) (tacons (tvar 8) tanil)))) (tacons (ttup (tacons (tcon (Dt.str (Str.ofString "right"))) (tacons (tvar 4) (tacons (tvar 5) (tacons (tvar 9) tanil))))) tanil)))) tnext))))))))))))
noncomputable def prT : TSD := (tseq (tifS (tbool (tbin (rCmpI fun i j => decide (i < j)) (tvar 3) (tcon (Dt.int 3)))) (tseq (tret (ttup (tacons (tcon (Dt.str (Str.ofString "num"))) (tacons (tvar 4) (tacons (tbin rIxD (tlst (tacons (tvar 7) (tacons (tbin rMod (tvar 7) (tcon (Dt.int 140))) (tacons (tbin rMod (tvar 7) (tcon (Dt.int 8))) (tacons (tbin L3.rSub (tcon (Dt.int 65535)) (tbin rMod (tvar 7) (tcon (Dt.int 3)))) tanil))))) (tbin rMod (tvar 8) (tcon (Dt.int 4)))) tanil))))) tnext) tnext) (tseq (tifS (tbool (tbin (rEqD false) (tvar 3) (tcon (Dt.int 3)))) (tseq (tret (ttup (tacons (tcon (Dt.str (Str.ofString "box"))) (tacons (tvar 4) (tacons (tvar 8) tanil))))) tnext) tnext) (tseq (tifS (tbool (tbin (rCmpI fun i j => decide (i < j)) (tvar 3) (tcon (Dt.int 7)))) (tseq (tret (ttup (tacons (tbin rIxD (tlst (tacons (tcon (Dt.str (Str.ofString "add"))) (tacons (tcon (Dt.str (Str.ofString "sub"))) (tacons (tcon (Dt.str (Str.ofString "mul"))) tanil)))) (tbin L3.rSub (tvar 3) (tcon (Dt.int 4)))) (tacons (tvar 4) (tacons (tvar 5) (tacons (tvar 6) tanil)))))) tnext) tnext) (tseq (tifS (tbool (tbin (rEqD false) (tvar 3) (tcon (Dt.int 7)))) (tseq (tret (ttup (tacons (tcon (Dt.str (Str.ofString "load"))) (tacons (tvar 4) (tacons (tbin rMod (tvar 8) (tcon (Dt.int 4))) tanil))))) tnext) tnext) (tseq (tifS (tbool (tbin (rEqD false) (tvar 3) (tcon (Dt.int 8)))) (tseq (tret (ttup (tacons (tcon (Dt.str (Str.ofString "keep"))) (tacons (tbin rMod (tvar 8) (tcon (Dt.int 4))) (tacons (tvar 4) tanil))))) tnext) tnext) (tseq (tifS (tbool (tbin (rCmpI fun i j => decide (i < j)) (tvar 3) (tcon (Dt.int 13)))) (tseq (tret (ttup (tacons (tbin rIxD (tlst (tacons (tcon (Dt.str (Str.ofString "over"))) (tacons (tcon (Dt.str (Str.ofString "under"))) (tacons (tcon (Dt.str (Str.ofString "wide"))) (tacons (tcon (Dt.str (Str.ofString "rest"))) tanil))))) (tbin L3.rSub (tvar 3) (tcon (Dt.int 9)))) (tacons (tvar 9) (tacons (tvar 5) (tacons (tvar 6) tanil)))))) tnext) tnext) (tseq (tifS (tbool (tbin (rCmpI fun i j => decide (i < j)) (tvar 3) (tcon (Dt.int 15)))) (tseq (tret (ttup (tacons (tbin rIxD (tlst (tacons (tcon (Dt.str (Str.ofString "nought"))) (tacons (tcon (Dt.str (Str.ofString "high"))) tanil))) (tbin L3.rSub (tvar 3) (tcon (Dt.int 13)))) (tacons (tvar 9) (tacons (tvar 5) tanil))))) tnext) tnext) (tseq (tifS (tbool (tbin (rEqD false) (tvar 3) (tcon (Dt.int 15)))) (tseq (tret (ttup (tacons (tcon (Dt.str (Str.ofString "mark"))) (tacons (tvar 9) (tacons (tbin rMod (tvar 8) (tcon (Dt.int 3))) tanil))))) tnext) tnext) (tseq (tifS (tbool (tbin (rCmpI fun i j => decide (i < j)) (tvar 3) (tcon (Dt.int 18)))) (tseq (tret (ttup (tacons (tbin rIxD (tlst (tacons (tcon (Dt.str (Str.ofString "yes"))) (tacons (tcon (Dt.str (Str.ofString "no"))) tanil))) (tbin L3.rSub (tvar 3) (tcon (Dt.int 16)))) (tacons (tvar 9) tanil)))) tnext) tnext) (tseq (tifS (tbool (tbin (rEqD false) (tvar 3) (tcon (Dt.int 18)))) (tseq (tret (ttup (tacons (tcon (Dt.str (Str.ofString "load"))) (tacons (tvar 9) (tacons (tbin L3.rAdd (tcon (Dt.int 996)) (tbin rMod (tvar 8) (tcon (Dt.int 4)))) tanil))))) tnext) tnext) (tseq (tret (ttup (tacons (tcon (Dt.str (Str.ofString "keep"))) (tacons (tbin L3.rAdd (tcon (Dt.int 996)) (tbin rMod (tvar 8) (tcon (Dt.int 4)))) (tacons (tvar 9) tanil))))) tnext)))))))))))
noncomputable def irT : TSD := (tseq (tifS (tbool (tbin (rCmpI fun i j => decide (i < j)) (tvar 3) (tcon (Dt.int 4)))) (tseq (tret (tlst (tacons (ttup (tacons (tcon (Dt.str (Str.ofString "get"))) (tacons (tvar 4) (tacons (tvar 5) (tacons (tvar 6) (tacons (tvar 9) tanil)))))) tanil))) tnext) tnext) (tseq (tifS (tbool (tbin (rCmpI fun i j => decide (i < j)) (tvar 3) (tcon (Dt.int 8)))) (tseq (tret (tlst (tacons (ttup (tacons (tcon (Dt.str (Str.ofString "set"))) (tacons (tvar 4) (tacons (tvar 5) (tacons (tvar 6) (tacons (tvar 9) (tacons (tvar 10) tanil))))))) tanil))) tnext) tnext) (tseq (tifS (tbool (tbin (rCmpI fun i j => decide (i < j)) (tvar 3) (tcon (Dt.int 12)))) (tseq (tret (tlst (tacons (ttup (tacons (tcon (Dt.str (Str.ofString "div"))) (tacons (tvar 4) (tacons (tvar 5) (tacons (tvar 6) (tacons (tvar 9) tanil)))))) tanil))) tnext) tnext) (tseq (tifS (tbool (tbin (rCmpI fun i j => decide (i < j)) (tvar 3) (tcon (Dt.int 14)))) (tseq (tret (tlst (tacons (ttup (tacons (tcon (Dt.str (Str.ofString "tell"))) (tacons (tvar 4) tanil))) tanil))) tnext) tnext) (tseq (tifS (tbool (tbin (rCmpI fun i j => decide (i < j)) (tvar 3) (tcon (Dt.int 17)))) (tseq (tret (tlst (tacons (ttup (tacons (tcon (Dt.str (Str.ofString "hear"))) (tacons (tvar 4) tanil))) tanil))) tnext) tnext) (tseq (tret (tlst (tacons (ttup (tacons (tcon (Dt.str (Str.ofString "num"))) (tacons (tvar 5) (tacons (tvar 8) tanil)))) (tacons (ttup (tacons (tcon (Dt.str (Str.ofString "right"))) (tacons (tvar 4) (tacons (tvar 5) (tacons (tvar 9) tanil))))) tanil)))) tnext))))))
noncomputable abbrev RPl (p : Nat) (many numbers : Nat) (w a b c n k t : Int) : Rho := [some (.lst p), some (.int (many : Int)), some (.int (numbers : Int)), some (.int w), some (.int a), some (.int b), some (.int c), some (.int n), some (.int k), some (.int t)]
theorem row3 {w f : Str} {a b c : Int} (h : formS.lookup w = some f) (hl : f.length = 3) : OkR ⟨w, [a, b, c]⟩ := ok_of h hl.symm
theorem pick4 {a b c d : Dt} {s : Sto} {n : Nat} {x : Int} {P : VD} (hn : s[n]? = some (.rw [a, b, c, d])) (h : ∀ y ∈ [a, b, c, d], P y s) : rIxD (.lst n) (.int (x % 4)) s P := by
  obtain ⟨k, hk, h4⟩ : ∃ k : Nat, x % 4 = (k : Int) ∧ k < 4 := ⟨(x % 4).toNat, by omega, by omega⟩
  rw [hk]
  have hy : [a, b, c, d][k]? = some ([a, b, c, d][k]'h4) := by simp [h4]
  exact ixV hn hy (h _ (List.getElem_mem h4))
theorem rd_pr {Pd : VD} {st : Sto} {p many numbers : Nat} {w : Nat} {a b c n k t : Int} (hw : w < 20) (hP : ∀ r st', ExtS st st' → OkR r → Pd (rowD r) st') : prT (Ed Pd) (RPl p many numbers (w : Int) a b c n k t) st := by
  have z1 : ∀ m : Nat, m ≤ 10 → m ≤ sizeLine := fun m hm => by rw [sizeLine_eq]; omega
  unfold prT
  rcases w with _ | _ | _ | _ | _ | _ | _ | _ | _ | _ | _ | _ | _ | _ | _ | _ | _ | _ | _ | _ | w
  · show tseq _ _ (Ed Pd) _ st
    refine seqIf (b := true) (st' := st) (fun P hp => hp) (fun _ => ?_) (fun q => by cases q)
    refine seqS ?_
    refine ⟨by decide, by decide, by decide, z1 4 (by decide), by decide, ?_⟩
    refine pick4 get_new fun y hy => ?_
    obtain ⟨v, rfl⟩ : ∃ v, y = .int v := by simp only [List.mem_cons, List.not_mem_nil, or_false] at hy; rcases hy with rfl | rfl | rfl | rfl <;> exact ⟨_, rfl⟩
    exact ⟨z1 3 (by decide), hP ⟨"num", [a, v]⟩ _ (.app _ _) (row2 (w := Str.ofString "num") (f := "dn") (by decide +kernel) (by decide +kernel))⟩
  · show tseq _ _ (Ed Pd) _ st
    refine seqIf (b := true) (st' := st) (fun P hp => hp) (fun _ => ?_) (fun q => by cases q)
    refine seqS ?_
    refine ⟨by decide, by decide, by decide, z1 4 (by decide), by decide, ?_⟩
    refine pick4 get_new fun y hy => ?_
    obtain ⟨v, rfl⟩ : ∃ v, y = .int v := by simp only [List.mem_cons, List.not_mem_nil, or_false] at hy; rcases hy with rfl | rfl | rfl | rfl <;> exact ⟨_, rfl⟩
    exact ⟨z1 3 (by decide), hP ⟨"num", [a, v]⟩ _ (.app _ _) (row2 (w := Str.ofString "num") (f := "dn") (by decide +kernel) (by decide +kernel))⟩
  · show tseq _ _ (Ed Pd) _ st
    refine seqIf (b := true) (st' := st) (fun P hp => hp) (fun _ => ?_) (fun q => by cases q)
    refine seqS ?_
    refine ⟨by decide, by decide, by decide, z1 4 (by decide), by decide, ?_⟩
    refine pick4 get_new fun y hy => ?_
    obtain ⟨v, rfl⟩ : ∃ v, y = .int v := by simp only [List.mem_cons, List.not_mem_nil, or_false] at hy; rcases hy with rfl | rfl | rfl | rfl <;> exact ⟨_, rfl⟩
    exact ⟨z1 3 (by decide), hP ⟨"num", [a, v]⟩ _ (.app _ _) (row2 (w := Str.ofString "num") (f := "dn") (by decide +kernel) (by decide +kernel))⟩
  · show tseq _ _ (Ed Pd) _ st
    refine seqIf (b := false) (st' := st) (fun P hp => hp) (fun q => by cases q) fun _ => ?_
    refine seqIf (b := true) (st' := st) (fun P hp => ⟨rfl, rfl, hp⟩) (fun _ => ?_) (fun q => by cases q)
    refine seqS ?_
    exact ⟨z1 3 (by decide), hP ⟨"box", [a, k]⟩ _ (.refl _) (row2 (w := Str.ofString "box") (f := "dn") (by decide +kernel) (by decide +kernel))⟩
  · show tseq _ _ (Ed Pd) _ st
    refine seqIf (b := false) (st' := st) (fun P hp => hp) (fun q => by cases q) fun _ => ?_
    refine seqIf (b := false) (st' := st) (fun P hp => ⟨rfl, rfl, hp⟩) (fun q => by cases q) fun _ => ?_
    refine seqIf (b := true) (st' := st) (fun P hp => hp) (fun _ => ?_) (fun q => by cases q)
    refine seqS ?_
    refine ⟨z1 3 (by decide), ?_⟩
    simp only [tbin, tvar, tcon, L3.rSub, List.getElem?_cons_zero, List.getElem?_cons_succ]
    show rIxD (.lst st.length) (.int ((0 : Nat) : Int)) _ _
    refine ixV (j := 0) (xs := [Dt.str (Str.ofString "add"), Dt.str (Str.ofString "sub"), Dt.str (Str.ofString "mul")]) get_new rfl ?_
    exact ⟨z1 4 (by decide), hP ⟨"add", [a, b, c]⟩ _ (.app _ _) (row3 (w := Str.ofString "add") (f := "dxx") (by decide +kernel) (by decide +kernel))⟩
  · show tseq _ _ (Ed Pd) _ st
    refine seqIf (b := false) (st' := st) (fun P hp => hp) (fun q => by cases q) fun _ => ?_
    refine seqIf (b := false) (st' := st) (fun P hp => ⟨rfl, rfl, hp⟩) (fun q => by cases q) fun _ => ?_
    refine seqIf (b := true) (st' := st) (fun P hp => hp) (fun _ => ?_) (fun q => by cases q)
    refine seqS ?_
    refine ⟨z1 3 (by decide), ?_⟩
    simp only [tbin, tvar, tcon, L3.rSub, List.getElem?_cons_zero, List.getElem?_cons_succ]
    show rIxD (.lst st.length) (.int ((1 : Nat) : Int)) _ _
    refine ixV (j := 1) (xs := [Dt.str (Str.ofString "add"), Dt.str (Str.ofString "sub"), Dt.str (Str.ofString "mul")]) get_new rfl ?_
    exact ⟨z1 4 (by decide), hP ⟨"sub", [a, b, c]⟩ _ (.app _ _) (row3 (w := Str.ofString "sub") (f := "dxx") (by decide +kernel) (by decide +kernel))⟩
  · show tseq _ _ (Ed Pd) _ st
    refine seqIf (b := false) (st' := st) (fun P hp => hp) (fun q => by cases q) fun _ => ?_
    refine seqIf (b := false) (st' := st) (fun P hp => ⟨rfl, rfl, hp⟩) (fun q => by cases q) fun _ => ?_
    refine seqIf (b := true) (st' := st) (fun P hp => hp) (fun _ => ?_) (fun q => by cases q)
    refine seqS ?_
    refine ⟨z1 3 (by decide), ?_⟩
    simp only [tbin, tvar, tcon, L3.rSub, List.getElem?_cons_zero, List.getElem?_cons_succ]
    show rIxD (.lst st.length) (.int ((2 : Nat) : Int)) _ _
    refine ixV (j := 2) (xs := [Dt.str (Str.ofString "add"), Dt.str (Str.ofString "sub"), Dt.str (Str.ofString "mul")]) get_new rfl ?_
    exact ⟨z1 4 (by decide), hP ⟨"mul", [a, b, c]⟩ _ (.app _ _) (row3 (w := Str.ofString "mul") (f := "dxx") (by decide +kernel) (by decide +kernel))⟩
  · show tseq _ _ (Ed Pd) _ st
    refine seqIf (b := false) (st' := st) (fun P hp => hp) (fun q => by cases q) fun _ => ?_
    refine seqIf (b := false) (st' := st) (fun P hp => ⟨rfl, rfl, hp⟩) (fun q => by cases q) fun _ => ?_
    refine seqIf (b := false) (st' := st) (fun P hp => hp) (fun q => by cases q) fun _ => ?_
    refine seqIf (b := true) (st' := st) (fun P hp => ⟨rfl, rfl, hp⟩) (fun _ => ?_) (fun q => by cases q)
    refine seqS ?_
    exact ⟨by decide, z1 3 (by decide), hP ⟨"load", [a, k % 4]⟩ _ (.refl _) (row2 (w := Str.ofString "load") (f := "ds") (by decide +kernel) (by decide +kernel))⟩
  · show tseq _ _ (Ed Pd) _ st
    refine seqIf (b := false) (st' := st) (fun P hp => hp) (fun q => by cases q) fun _ => ?_
    refine seqIf (b := false) (st' := st) (fun P hp => ⟨rfl, rfl, hp⟩) (fun q => by cases q) fun _ => ?_
    refine seqIf (b := false) (st' := st) (fun P hp => hp) (fun q => by cases q) fun _ => ?_
    refine seqIf (b := false) (st' := st) (fun P hp => ⟨rfl, rfl, hp⟩) (fun q => by cases q) fun _ => ?_
    refine seqIf (b := true) (st' := st) (fun P hp => ⟨rfl, rfl, hp⟩) (fun _ => ?_) (fun q => by cases q)
    refine seqS ?_
    exact ⟨by decide, z1 3 (by decide), hP ⟨"keep", [k % 4, a]⟩ _ (.refl _) (row2 (w := Str.ofString "keep") (f := "sx") (by decide +kernel) (by decide +kernel))⟩
  · show tseq _ _ (Ed Pd) _ st
    refine seqIf (b := false) (st' := st) (fun P hp => hp) (fun q => by cases q) fun _ => ?_
    refine seqIf (b := false) (st' := st) (fun P hp => ⟨rfl, rfl, hp⟩) (fun q => by cases q) fun _ => ?_
    refine seqIf (b := false) (st' := st) (fun P hp => hp) (fun q => by cases q) fun _ => ?_
    refine seqIf (b := false) (st' := st) (fun P hp => ⟨rfl, rfl, hp⟩) (fun q => by cases q) fun _ => ?_
    refine seqIf (b := false) (st' := st) (fun P hp => ⟨rfl, rfl, hp⟩) (fun q => by cases q) fun _ => ?_
    refine seqIf (b := true) (st' := st) (fun P hp => hp) (fun _ => ?_) (fun q => by cases q)
    refine seqS ?_
    refine ⟨z1 4 (by decide), ?_⟩
    simp only [tbin, tvar, tcon, L3.rSub, List.getElem?_cons_zero, List.getElem?_cons_succ]
    show rIxD (.lst st.length) (.int ((0 : Nat) : Int)) _ _
    refine ixV (j := 0) (xs := [Dt.str (Str.ofString "over"), Dt.str (Str.ofString "under"), Dt.str (Str.ofString "wide"), Dt.str (Str.ofString "rest")]) get_new rfl ?_
    exact ⟨z1 4 (by decide), hP ⟨"over", [t, b, c]⟩ _ (.app _ _) (row3 (w := Str.ofString "over") (f := "dxx") (by decide +kernel) (by decide +kernel))⟩
  · show tseq _ _ (Ed Pd) _ st
    refine seqIf (b := false) (st' := st) (fun P hp => hp) (fun q => by cases q) fun _ => ?_
    refine seqIf (b := false) (st' := st) (fun P hp => ⟨rfl, rfl, hp⟩) (fun q => by cases q) fun _ => ?_
    refine seqIf (b := false) (st' := st) (fun P hp => hp) (fun q => by cases q) fun _ => ?_
    refine seqIf (b := false) (st' := st) (fun P hp => ⟨rfl, rfl, hp⟩) (fun q => by cases q) fun _ => ?_
    refine seqIf (b := false) (st' := st) (fun P hp => ⟨rfl, rfl, hp⟩) (fun q => by cases q) fun _ => ?_
    refine seqIf (b := true) (st' := st) (fun P hp => hp) (fun _ => ?_) (fun q => by cases q)
    refine seqS ?_
    refine ⟨z1 4 (by decide), ?_⟩
    simp only [tbin, tvar, tcon, L3.rSub, List.getElem?_cons_zero, List.getElem?_cons_succ]
    show rIxD (.lst st.length) (.int ((1 : Nat) : Int)) _ _
    refine ixV (j := 1) (xs := [Dt.str (Str.ofString "over"), Dt.str (Str.ofString "under"), Dt.str (Str.ofString "wide"), Dt.str (Str.ofString "rest")]) get_new rfl ?_
    exact ⟨z1 4 (by decide), hP ⟨"under", [t, b, c]⟩ _ (.app _ _) (row3 (w := Str.ofString "under") (f := "dxx") (by decide +kernel) (by decide +kernel))⟩
  · show tseq _ _ (Ed Pd) _ st
    refine seqIf (b := false) (st' := st) (fun P hp => hp) (fun q => by cases q) fun _ => ?_
    refine seqIf (b := false) (st' := st) (fun P hp => ⟨rfl, rfl, hp⟩) (fun q => by cases q) fun _ => ?_
    refine seqIf (b := false) (st' := st) (fun P hp => hp) (fun q => by cases q) fun _ => ?_
    refine seqIf (b := false) (st' := st) (fun P hp => ⟨rfl, rfl, hp⟩) (fun q => by cases q) fun _ => ?_
    refine seqIf (b := false) (st' := st) (fun P hp => ⟨rfl, rfl, hp⟩) (fun q => by cases q) fun _ => ?_
    refine seqIf (b := true) (st' := st) (fun P hp => hp) (fun _ => ?_) (fun q => by cases q)
    refine seqS ?_
    refine ⟨z1 4 (by decide), ?_⟩
    simp only [tbin, tvar, tcon, L3.rSub, List.getElem?_cons_zero, List.getElem?_cons_succ]
    show rIxD (.lst st.length) (.int ((2 : Nat) : Int)) _ _
    refine ixV (j := 2) (xs := [Dt.str (Str.ofString "over"), Dt.str (Str.ofString "under"), Dt.str (Str.ofString "wide"), Dt.str (Str.ofString "rest")]) get_new rfl ?_
    exact ⟨z1 4 (by decide), hP ⟨"wide", [t, b, c]⟩ _ (.app _ _) (row3 (w := Str.ofString "wide") (f := "dxx") (by decide +kernel) (by decide +kernel))⟩
  · show tseq _ _ (Ed Pd) _ st
    refine seqIf (b := false) (st' := st) (fun P hp => hp) (fun q => by cases q) fun _ => ?_
    refine seqIf (b := false) (st' := st) (fun P hp => ⟨rfl, rfl, hp⟩) (fun q => by cases q) fun _ => ?_
    refine seqIf (b := false) (st' := st) (fun P hp => hp) (fun q => by cases q) fun _ => ?_
    refine seqIf (b := false) (st' := st) (fun P hp => ⟨rfl, rfl, hp⟩) (fun q => by cases q) fun _ => ?_
    refine seqIf (b := false) (st' := st) (fun P hp => ⟨rfl, rfl, hp⟩) (fun q => by cases q) fun _ => ?_
    refine seqIf (b := true) (st' := st) (fun P hp => hp) (fun _ => ?_) (fun q => by cases q)
    refine seqS ?_
    refine ⟨z1 4 (by decide), ?_⟩
    simp only [tbin, tvar, tcon, L3.rSub, List.getElem?_cons_zero, List.getElem?_cons_succ]
    show rIxD (.lst st.length) (.int ((3 : Nat) : Int)) _ _
    refine ixV (j := 3) (xs := [Dt.str (Str.ofString "over"), Dt.str (Str.ofString "under"), Dt.str (Str.ofString "wide"), Dt.str (Str.ofString "rest")]) get_new rfl ?_
    exact ⟨z1 4 (by decide), hP ⟨"rest", [t, b, c]⟩ _ (.app _ _) (row3 (w := Str.ofString "rest") (f := "dxx") (by decide +kernel) (by decide +kernel))⟩
  · show tseq _ _ (Ed Pd) _ st
    refine seqIf (b := false) (st' := st) (fun P hp => hp) (fun q => by cases q) fun _ => ?_
    refine seqIf (b := false) (st' := st) (fun P hp => ⟨rfl, rfl, hp⟩) (fun q => by cases q) fun _ => ?_
    refine seqIf (b := false) (st' := st) (fun P hp => hp) (fun q => by cases q) fun _ => ?_
    refine seqIf (b := false) (st' := st) (fun P hp => ⟨rfl, rfl, hp⟩) (fun q => by cases q) fun _ => ?_
    refine seqIf (b := false) (st' := st) (fun P hp => ⟨rfl, rfl, hp⟩) (fun q => by cases q) fun _ => ?_
    refine seqIf (b := false) (st' := st) (fun P hp => hp) (fun q => by cases q) fun _ => ?_
    refine seqIf (b := true) (st' := st) (fun P hp => hp) (fun _ => ?_) (fun q => by cases q)
    refine seqS ?_
    refine ⟨z1 2 (by decide), ?_⟩
    simp only [tbin, tvar, tcon, L3.rSub, List.getElem?_cons_zero, List.getElem?_cons_succ]
    show rIxD (.lst st.length) (.int ((0 : Nat) : Int)) _ _
    refine ixV (j := 0) (xs := [Dt.str (Str.ofString "nought"), Dt.str (Str.ofString "high")]) get_new rfl ?_
    exact ⟨z1 3 (by decide), hP ⟨"nought", [t, b]⟩ _ (.app _ _) (row2 (w := Str.ofString "nought") (f := "dx") (by decide +kernel) (by decide +kernel))⟩
  · show tseq _ _ (Ed Pd) _ st
    refine seqIf (b := false) (st' := st) (fun P hp => hp) (fun q => by cases q) fun _ => ?_
    refine seqIf (b := false) (st' := st) (fun P hp => ⟨rfl, rfl, hp⟩) (fun q => by cases q) fun _ => ?_
    refine seqIf (b := false) (st' := st) (fun P hp => hp) (fun q => by cases q) fun _ => ?_
    refine seqIf (b := false) (st' := st) (fun P hp => ⟨rfl, rfl, hp⟩) (fun q => by cases q) fun _ => ?_
    refine seqIf (b := false) (st' := st) (fun P hp => ⟨rfl, rfl, hp⟩) (fun q => by cases q) fun _ => ?_
    refine seqIf (b := false) (st' := st) (fun P hp => hp) (fun q => by cases q) fun _ => ?_
    refine seqIf (b := true) (st' := st) (fun P hp => hp) (fun _ => ?_) (fun q => by cases q)
    refine seqS ?_
    refine ⟨z1 2 (by decide), ?_⟩
    simp only [tbin, tvar, tcon, L3.rSub, List.getElem?_cons_zero, List.getElem?_cons_succ]
    show rIxD (.lst st.length) (.int ((1 : Nat) : Int)) _ _
    refine ixV (j := 1) (xs := [Dt.str (Str.ofString "nought"), Dt.str (Str.ofString "high")]) get_new rfl ?_
    exact ⟨z1 3 (by decide), hP ⟨"high", [t, b]⟩ _ (.app _ _) (row2 (w := Str.ofString "high") (f := "dx") (by decide +kernel) (by decide +kernel))⟩
  · show tseq _ _ (Ed Pd) _ st
    refine seqIf (b := false) (st' := st) (fun P hp => hp) (fun q => by cases q) fun _ => ?_
    refine seqIf (b := false) (st' := st) (fun P hp => ⟨rfl, rfl, hp⟩) (fun q => by cases q) fun _ => ?_
    refine seqIf (b := false) (st' := st) (fun P hp => hp) (fun q => by cases q) fun _ => ?_
    refine seqIf (b := false) (st' := st) (fun P hp => ⟨rfl, rfl, hp⟩) (fun q => by cases q) fun _ => ?_
    refine seqIf (b := false) (st' := st) (fun P hp => ⟨rfl, rfl, hp⟩) (fun q => by cases q) fun _ => ?_
    refine seqIf (b := false) (st' := st) (fun P hp => hp) (fun q => by cases q) fun _ => ?_
    refine seqIf (b := false) (st' := st) (fun P hp => hp) (fun q => by cases q) fun _ => ?_
    refine seqIf (b := true) (st' := st) (fun P hp => ⟨rfl, rfl, hp⟩) (fun _ => ?_) (fun q => by cases q)
    refine seqS ?_
    exact ⟨by decide, z1 3 (by decide), hP ⟨"mark", [t, k % 3]⟩ _ (.refl _) (row2 (w := Str.ofString "mark") (f := "dn") (by decide +kernel) (by decide +kernel))⟩
  · show tseq _ _ (Ed Pd) _ st
    refine seqIf (b := false) (st' := st) (fun P hp => hp) (fun q => by cases q) fun _ => ?_
    refine seqIf (b := false) (st' := st) (fun P hp => ⟨rfl, rfl, hp⟩) (fun q => by cases q) fun _ => ?_
    refine seqIf (b := false) (st' := st) (fun P hp => hp) (fun q => by cases q) fun _ => ?_
    refine seqIf (b := false) (st' := st) (fun P hp => ⟨rfl, rfl, hp⟩) (fun q => by cases q) fun _ => ?_
    refine seqIf (b := false) (st' := st) (fun P hp => ⟨rfl, rfl, hp⟩) (fun q => by cases q) fun _ => ?_
    refine seqIf (b := false) (st' := st) (fun P hp => hp) (fun q => by cases q) fun _ => ?_
    refine seqIf (b := false) (st' := st) (fun P hp => hp) (fun q => by cases q) fun _ => ?_
    refine seqIf (b := false) (st' := st) (fun P hp => ⟨rfl, rfl, hp⟩) (fun q => by cases q) fun _ => ?_
    refine seqIf (b := true) (st' := st) (fun P hp => hp) (fun _ => ?_) (fun q => by cases q)
    refine seqS ?_
    refine ⟨z1 2 (by decide), ?_⟩
    simp only [tbin, tvar, tcon, L3.rSub, List.getElem?_cons_zero, List.getElem?_cons_succ]
    show rIxD (.lst st.length) (.int ((0 : Nat) : Int)) _ _
    refine ixV (j := 0) (xs := [Dt.str (Str.ofString "yes"), Dt.str (Str.ofString "no")]) get_new rfl ?_
    exact ⟨z1 2 (by decide), hP ⟨"yes", [t]⟩ _ (.app _ _) (row1 (w := Str.ofString "yes") (f := "d") (by decide +kernel) (by decide +kernel))⟩
  · show tseq _ _ (Ed Pd) _ st
    refine seqIf (b := false) (st' := st) (fun P hp => hp) (fun q => by cases q) fun _ => ?_
    refine seqIf (b := false) (st' := st) (fun P hp => ⟨rfl, rfl, hp⟩) (fun q => by cases q) fun _ => ?_
    refine seqIf (b := false) (st' := st) (fun P hp => hp) (fun q => by cases q) fun _ => ?_
    refine seqIf (b := false) (st' := st) (fun P hp => ⟨rfl, rfl, hp⟩) (fun q => by cases q) fun _ => ?_
    refine seqIf (b := false) (st' := st) (fun P hp => ⟨rfl, rfl, hp⟩) (fun q => by cases q) fun _ => ?_
    refine seqIf (b := false) (st' := st) (fun P hp => hp) (fun q => by cases q) fun _ => ?_
    refine seqIf (b := false) (st' := st) (fun P hp => hp) (fun q => by cases q) fun _ => ?_
    refine seqIf (b := false) (st' := st) (fun P hp => ⟨rfl, rfl, hp⟩) (fun q => by cases q) fun _ => ?_
    refine seqIf (b := true) (st' := st) (fun P hp => hp) (fun _ => ?_) (fun q => by cases q)
    refine seqS ?_
    refine ⟨z1 2 (by decide), ?_⟩
    simp only [tbin, tvar, tcon, L3.rSub, List.getElem?_cons_zero, List.getElem?_cons_succ]
    show rIxD (.lst st.length) (.int ((1 : Nat) : Int)) _ _
    refine ixV (j := 1) (xs := [Dt.str (Str.ofString "yes"), Dt.str (Str.ofString "no")]) get_new rfl ?_
    exact ⟨z1 2 (by decide), hP ⟨"no", [t]⟩ _ (.app _ _) (row1 (w := Str.ofString "no") (f := "d") (by decide +kernel) (by decide +kernel))⟩
  · show tseq _ _ (Ed Pd) _ st
    refine seqIf (b := false) (st' := st) (fun P hp => hp) (fun q => by cases q) fun _ => ?_
    refine seqIf (b := false) (st' := st) (fun P hp => ⟨rfl, rfl, hp⟩) (fun q => by cases q) fun _ => ?_
    refine seqIf (b := false) (st' := st) (fun P hp => hp) (fun q => by cases q) fun _ => ?_
    refine seqIf (b := false) (st' := st) (fun P hp => ⟨rfl, rfl, hp⟩) (fun q => by cases q) fun _ => ?_
    refine seqIf (b := false) (st' := st) (fun P hp => ⟨rfl, rfl, hp⟩) (fun q => by cases q) fun _ => ?_
    refine seqIf (b := false) (st' := st) (fun P hp => hp) (fun q => by cases q) fun _ => ?_
    refine seqIf (b := false) (st' := st) (fun P hp => hp) (fun q => by cases q) fun _ => ?_
    refine seqIf (b := false) (st' := st) (fun P hp => ⟨rfl, rfl, hp⟩) (fun q => by cases q) fun _ => ?_
    refine seqIf (b := false) (st' := st) (fun P hp => hp) (fun q => by cases q) fun _ => ?_
    refine seqIf (b := true) (st' := st) (fun P hp => ⟨rfl, rfl, hp⟩) (fun _ => ?_) (fun q => by cases q)
    refine seqS ?_
    exact ⟨by decide, z1 3 (by decide), hP ⟨"load", [t, 996 + k % 4]⟩ _ (.refl _) (row2 (w := Str.ofString "load") (f := "ds") (by decide +kernel) (by decide +kernel))⟩
  · show tseq _ _ (Ed Pd) _ st
    refine seqIf (b := false) (st' := st) (fun P hp => hp) (fun q => by cases q) fun _ => ?_
    refine seqIf (b := false) (st' := st) (fun P hp => ⟨rfl, rfl, hp⟩) (fun q => by cases q) fun _ => ?_
    refine seqIf (b := false) (st' := st) (fun P hp => hp) (fun q => by cases q) fun _ => ?_
    refine seqIf (b := false) (st' := st) (fun P hp => ⟨rfl, rfl, hp⟩) (fun q => by cases q) fun _ => ?_
    refine seqIf (b := false) (st' := st) (fun P hp => ⟨rfl, rfl, hp⟩) (fun q => by cases q) fun _ => ?_
    refine seqIf (b := false) (st' := st) (fun P hp => hp) (fun q => by cases q) fun _ => ?_
    refine seqIf (b := false) (st' := st) (fun P hp => hp) (fun q => by cases q) fun _ => ?_
    refine seqIf (b := false) (st' := st) (fun P hp => ⟨rfl, rfl, hp⟩) (fun q => by cases q) fun _ => ?_
    refine seqIf (b := false) (st' := st) (fun P hp => hp) (fun q => by cases q) fun _ => ?_
    refine seqIf (b := false) (st' := st) (fun P hp => ⟨rfl, rfl, hp⟩) (fun q => by cases q) fun _ => ?_
    refine seqS ?_
    exact ⟨by decide, z1 3 (by decide), hP ⟨"keep", [996 + k % 4, t]⟩ _ (.refl _) (row2 (w := Str.ofString "keep") (f := "sx") (by decide +kernel) (by decide +kernel))⟩
  · omega
end K85
namespace K85
open PySem PySem.Spec PyProof.Rows L2 L3 K02
noncomputable abbrev RI (p numbers exits : Nat) (w a b c n k f g : Int) : Rho := [some (.lst p), some (.int (numbers : Int)), some (.int (exits : Int)), some (.int w), some (.int a), some (.int b), some (.int c), some (.int n), some (.int k), some (.int f), some (.int g)]
theorem rd_ir {Pd : VD} {st : Sto} {p numbers exits : Nat} {w a b c n k f g : Int} (hP : ∀ rs st' n, ExtS st st' → RowsAt st' n rs 2 → Pd (.lst n) st') : irT (Ed Pd) (RI p numbers exits w a b c n k f g) st := by
  have z1 : ∀ m : Nat, m ≤ 10 → m ≤ sizeLine := fun m hm => by rw [sizeLine_eq]; omega
  have one : ∀ r : Rw, OkR r → RowsAt (st ++ [SO.rw [rowD r]]) st.length [r] 2 := fun r hr => ⟨get_new, fun q hq => by have : q = r := by simpa using hq
                                                                                                                       rw [this]; exact hr, by simp⟩
  unfold irT
  refine seqIf (b := decide (w < 4)) (st' := st) (fun P hp => hp) (fun _ => ?_) fun _ => ?_
  · refine seqS ?_
    exact ⟨z1 5 (by decide), z1 1 (by decide), hP [⟨"get", [a, b, c, f]⟩] _ _ (.app _ _) (one ⟨"get", [a, b, c, f]⟩ (ok_of (f := "dxxe") (by decide +kernel) (show (4 : Nat) = (Str.ofString "dxxe").length by decide +kernel)))⟩
  refine seqIf (b := decide (w < 8)) (st' := st) (fun P hp => hp) (fun _ => ?_) fun _ => ?_
  · refine seqS ?_
    exact ⟨z1 6 (by decide), z1 1 (by decide), hP [⟨"set", [a, b, c, f, g]⟩] _ _ (.app _ _) (one ⟨"set", [a, b, c, f, g]⟩ (ok_of (f := "xxxee") (by decide +kernel) (show (5 : Nat) = (Str.ofString "xxxee").length by decide +kernel)))⟩
  refine seqIf (b := decide (w < 12)) (st' := st) (fun P hp => hp) (fun _ => ?_) fun _ => ?_
  · refine seqS ?_
    exact ⟨z1 5 (by decide), z1 1 (by decide), hP [⟨"div", [a, b, c, f]⟩] _ _ (.app _ _) (one ⟨"div", [a, b, c, f]⟩ (ok_of (f := "dxxe") (by decide +kernel) (show (4 : Nat) = (Str.ofString "dxxe").length by decide +kernel)))⟩
  refine seqIf (b := decide (w < 14)) (st' := st) (fun P hp => hp) (fun _ => ?_) fun _ => ?_
  · refine seqS ?_
    exact ⟨z1 2 (by decide), z1 1 (by decide), hP [⟨"tell", [a]⟩] _ _ (.app _ _) (one ⟨"tell", [a]⟩ (ok_of (f := "x") (by decide +kernel) (show (1 : Nat) = (Str.ofString "x").length by decide +kernel)))⟩
  refine seqIf (b := decide (w < 17)) (st' := st) (fun P hp => hp) (fun _ => ?_) fun _ => ?_
  · refine seqS ?_
    exact ⟨z1 2 (by decide), z1 1 (by decide), hP [⟨"hear", [a]⟩] _ _ (.app _ _) (one ⟨"hear", [a]⟩ (ok_of (f := "d") (by decide +kernel) (show (1 : Nat) = (Str.ofString "d").length by decide +kernel)))⟩
  · refine seqS ?_
    refine ⟨z1 3 (by decide), z1 4 (by decide), z1 2 (by decide), hP [⟨"num", [b, k]⟩, ⟨"right", [a, b, f]⟩] _ _ (.app _ _) ⟨get_new, fun q hq => ?_, by simp⟩⟩
    simp only [List.mem_cons, List.not_mem_nil, or_false] at hq
    rcases hq with rfl | rfl
    · exact (ok_of (f := "dn") (by decide +kernel) (show (2 : Nat) = (Str.ofString "dn").length by decide +kernel))
    · exact (ok_of (f := "xxe") (by decide +kernel) (show (3 : Nat) = (Str.ofString "xxe").length by decide +kernel))
end K85
namespace K85
open PySem PySem.Spec PyProof.Rows L2 L3 K02
theorem gunP {x0 x1 x2 x9 : Option Dt} {d0 d1 d2 d3 d4 d5 : Dt} {st : Sto} {P : Rho → Sto → Prop} (h : P [x0, x1, x2, some d0, some d1, some d2, some d3, some d4, some d5, x9] st) :
    gscons (gname 3) (gscons (gname 4) (gscons (gname 5) (gscons (gname 6) (gscons (gname 7) (gscons (gname 8) gsnil))))) [d0, d1, d2, d3, d4, d5] [x0, x1, x2, none, none, none, none, none, none, x9] st P := h
theorem gunI {x0 x1 x2 x9 x10 : Option Dt} {d0 d1 d2 d3 d4 d5 : Dt} {st : Sto} {P : Rho → Sto → Prop} (h : P [x0, x1, x2, some d0, some d1, some d2, some d3, some d4, some d5, x9, x10] st) :
    gscons (gname 3) (gscons (gname 4) (gscons (gname 5) (gscons (gname 6) (gscons (gname 7) (gscons (gname 8) gsnil))))) [d0, d1, d2, d3, d4, d5] [x0, x1, x2, none, none, none, none, none, none, x9, x10] st P := h
theorem rd__law_plain_row {ds : List Dt} {st : Sto} {Pd : VD} (h : spPlain ds st Pd) : t__law_plain_row (Ed Pd) (startD ["parts", "many", "numbers", "word", "one", "two", "three", "number", "k", "truth"] ds) st := by
  obtain ⟨p, many, numbers, ps, rfl, hp, hpin, n1, n2, n3, hP⟩ := h
  obtain ⟨p0, p1, p2, p3, p4, p5, p6, p7, rfl, w20, b4, b5⟩ := eight hpin
  show t__law_plain_row (Ed Pd) [some (.lst p), some (.int (many : Int)), some (.int (numbers : Int)), none, none, none, none, none, none, none] st
  refine seqS ?_
  simp only [tasg, tsliceA, tvar, tonone, tosome, tcon, List.getElem?_cons_zero, hp]
  have hc : L3.cutD (SO.rw ([p0, p1, p2, p3, p4, p5, p6, p7].map Dt.int)).items none (some 6) = [p0, p1, p2, p3, p4, p5].map Dt.int := cut_takeI (xs := [p0, p1, p2, p3, p4, p5, p6, p7]) (k := 6)
  rw [hc]
  have x1 : ExtS st (st ++ [SO.rw ([p0, p1, p2, p3, p4, p5].map Dt.int)]) := .app _ _
  have hp1 := x1 _ _ hp
  have hsq : seqOf (st ++ [SO.rw ([p0, p1, p2, p3, p4, p5].map Dt.int)]) (.lst st.length) = some ([p0, p1, p2, p3, p4, p5].map Dt.int) := by
    show ((st ++ [SO.rw ([p0, p1, p2, p3, p4, p5].map Dt.int)])[st.length]?).map SO.items = _
    rw [get_new]; rfl
  unfold gunpack
  rw [hsq]
  generalize st ++ [SO.rw ([p0, p1, p2, p3, p4, p5].map Dt.int)] = s1 at x1 hp1 hsq
  refine ⟨rfl, ?_⟩
  refine gunP ?_
  show tseq _ _ (Ed Pd) [some (.lst p), some (.int (many : Int)), some (.int (numbers : Int)), some (.int p0), some (.int p1), some (.int p2), some (.int p3), some (.int p4), some (.int p5), none] s1
  refine seqA ⟨by show (0 : Int) < (numbers : Int); omega, ?_⟩
  refine seqA ⟨by show (0 : Int) < (numbers : Int); omega, ?_⟩
  refine seqA ⟨by show (0 : Int) < (numbers : Int); omega, ?_⟩
  refine seqA ?_
  simp only [tbin, tvar, tcon, L3.rAdd, L3.rSub, rMod, List.getElem?_cons_zero, List.getElem?_cons_succ, List.set_cons_succ, List.set_cons_zero]
  refine ixV (j := 1) (d := .int p1) hp1 rfl ?_
  refine ⟨by show (0 : Int) < (many : Int) - (numbers : Int); omega, ?_⟩
  obtain ⟨w, hw, w2⟩ : ∃ w : Nat, p0 = (w : Int) ∧ w < 20 := ⟨p0.toNat, by omega, by omega⟩
  subst hw
  exact rd_pr w2 fun r s' hx hr => hP r s' (x1.trans hx) hr
end K85
namespace K85
open PySem PySem.Spec PyProof.Rows L2 L3 K02
theorem rd__law_item_rows {ds : List Dt} {st : Sto} {Pd : VD} (h : spItems ds st Pd) : t__law_item_rows (Ed Pd) (startD ["parts", "numbers", "exits", "word", "one", "two", "three", "number", "k", "first", "then"] ds) st := by
  obtain ⟨p, numbers, exits, ps, rfl, hp, hpin, n1, n2, hP⟩ := h
  obtain ⟨p0, p1, p2, p3, p4, p5, p6, p7, rfl, w20, b4, b5⟩ := eight hpin
  show t__law_item_rows (Ed Pd) [some (.lst p), some (.int (numbers : Int)), some (.int (exits : Int)), none, none, none, none, none, none, none, none] st
  refine seqS ?_
  simp only [tasg, tsliceA, tvar, tonone, tosome, tcon, List.getElem?_cons_zero, hp]
  have hc : L3.cutD (SO.rw ([p0, p1, p2, p3, p4, p5, p6, p7].map Dt.int)).items none (some 6) = [p0, p1, p2, p3, p4, p5].map Dt.int := cut_takeI (xs := [p0, p1, p2, p3, p4, p5, p6, p7]) (k := 6)
  rw [hc]
  have x1 : ExtS st (st ++ [SO.rw ([p0, p1, p2, p3, p4, p5].map Dt.int)]) := .app _ _
  have hp1 := x1 _ _ hp
  have hsq : seqOf (st ++ [SO.rw ([p0, p1, p2, p3, p4, p5].map Dt.int)]) (.lst st.length) = some ([p0, p1, p2, p3, p4, p5].map Dt.int) := by
    show ((st ++ [SO.rw ([p0, p1, p2, p3, p4, p5].map Dt.int)])[st.length]?).map SO.items = _
    rw [get_new]; rfl
  unfold gunpack
  rw [hsq]
  generalize st ++ [SO.rw ([p0, p1, p2, p3, p4, p5].map Dt.int)] = s1 at x1 hp1 hsq
  refine ⟨rfl, ?_⟩
  refine gunI ?_
  show tseq _ _ (Ed Pd) [some (.lst p), some (.int (numbers : Int)), some (.int (exits : Int)), some (.int p0), some (.int p1), some (.int p2), some (.int p3), some (.int p4), some (.int p5), none, none] s1
  refine seqA ⟨by show (0 : Int) < (numbers : Int); omega, ?_⟩
  refine seqA ⟨by show (0 : Int) < (numbers : Int); omega, ?_⟩
  refine seqA ⟨by show (0 : Int) < (numbers : Int); omega, ?_⟩
  refine seqA ?_
  simp only [tbin, tvar, tcon, rMod, List.getElem?_cons_zero, List.getElem?_cons_succ, List.set_cons_succ, List.set_cons_zero]
  refine ixV (j := 6) (d := .int p6) hp1 rfl ?_
  refine ⟨by show (0 : Int) < (exits : Int); omega, ?_⟩
  refine seqA ?_
  simp only [tbin, tvar, tcon, rMod, List.getElem?_cons_zero, List.getElem?_cons_succ, List.set_cons_succ, List.set_cons_zero]
  refine ixV (j := 7) (d := .int p7) hp1 rfl ?_
  refine ⟨by show (0 : Int) < (exits : Int); omega, ?_⟩
  exact rd_ir fun rs s' n hx hr => hP rs s' n (x1.trans hx) hr
end K85
namespace K85
open PySem PySem.Spec PyProof.Rows L2 L3 K02
noncomputable abbrev t__law_source : TSD := (tseq (tasg (tbin rMod (tvar 0) (tcon (Dt.int 3))) (gname 4)) (tseq (tasg (tbin rDiv (tvar 0) (tcon (Dt.int 3))) (gname 0)) (tseq (tifS (tbool (tbin (rEqD false) (tvar 4) (tcon (Dt.int 0)))) (tseq (tret (ttup (tacons (tcon (Dt.str (Str.ofString "old"))) (tacons (tbin rMod (tvar 0) (tbin rIxD (tlst (tacons (tcon (Dt.int 8)) (tacons (tcon (Dt.int 3)) tanil))) (tcall rIntB (tacons (tvar 3) tanil)))) tanil)))) tnext) tnext) (tseq (tifS (tbool (tbin (rEqD false) (tvar 4) (tcon (Dt.int 1)))) (tseq (tret (ttup (tacons (tcon (Dt.str (Str.ofString "shelf"))) (tacons (tbin L3.rAdd (tbin rIxD (tlst (tacons (tcon (Dt.int 0)) (tacons (tcon (Dt.int 996)) tanil))) (tcall rIntB (tacons (tvar 3) tanil))) (tbin rMod (tvar 0) (tcon (Dt.int 4)))) tanil)))) tnext) tnext) (tseq (tret (ttup (tacons (tcon (Dt.str (Str.ofString "hand"))) (tacons (tbin rIxD (tlst (tacons (tbin rMod (tvar 0) (tvar 1)) (tacons (tbin L3.rAdd (tvar 1) (tbin rMod (tvar 0) (tbin L3.rSub (tvar 2) (tvar 1)))) tanil))) (tcall rIntB (tacons (tvar 3) tanil))) tanil)))) tnext)))))
noncomputable abbrev t__law_exit : TSD := (tseq (tasg (tbin rIxD (tlst (tacons (tcon (Dt.str (Str.ofString "on"))) (tacons (tcon (Dt.str (Str.ofString "halt"))) (tacons (tcon (Dt.str (Str.ofString "bad"))) (tacons (tcon (Dt.str (Str.ofString "closed"))) (tacons (tcon (Dt.str (Str.ofString "nought"))) (tacons (tcon (Dt.str (Str.ofString "shut"))) tanil))))))) (tbin rMod (tbin rIxD (tvar 0) (tcon (Dt.int 0))) (tcon (Dt.int 6)))) (gname 3)) (tseq (tasg (tbin rIxD (tvar 0) (tcon (Dt.int 1))) (gname 4)) (tseq (tifS (tbool (tbin (rEqD false) (tbin rMod (tbin rIxD (tvar 0) (tcon (Dt.int 2))) (tcon (Dt.int 2))) (tcon (Dt.int 1)))) (tseq (tasg (ttup (tacons (tcon (Dt.str (Str.ofString "hand"))) (tacons (tbin rMod (tbin rDiv (tbin rIxD (tvar 0) (tcon (Dt.int 2))) (tcon (Dt.int 2))) (tvar 1)) tanil))) (gname 4)) tnext) tnext) (tseq (tasg (tcall rTuple (tacons (tcomp (irng1 (tcon (Dt.int 8))) (fun x st P => P true st) (tcall spSource (tacons (tbin rIxD (tvar 3) (tbin L3.rAdd (tcon (Dt.int 3)) (tvar 0))) (tacons (tvar 2) (tacons (tvar 1) (tacons (tcon (Dt.bl false)) tanil))))) [(2, "many"), (1, "numbers"), (0, "parts")]) tanil)) (gname 5)) (tseq (tasg (tcall rTuple (tacons (tcomp (irng1 (tcon (Dt.int 3))) (fun x st P => P true st) (tcall spSource (tacons (tbin rIxD (tvar 3) (tbin L3.rAdd (tcon (Dt.int 11)) (tvar 0))) (tacons (tvar 2) (tacons (tvar 1) (tacons (tcon (Dt.bl true)) tanil))))) [(2, "many"), (1, "numbers"), (0, "parts")]) tanil)) (gname 6)) (tseq (tret (ttup (tacons (tvar 3) (tacons (tvar 4) (tacons (tvar 5) (tacons (tvar 6) (tacons (tbin rMod (tbin rIxD (tvar 0) (tcon (Dt.int 14))) (tcon (Dt.int 61))) tanil))))))) tnext))))))
noncomputable abbrev t__law_exit_list : TSD := (tseq (tasg (tlst tanil) (gname 4)) (tseq (tfor (irng1 (tbin L3.rAdd (tcon (Dt.int 1)) (tbin rMod (tcall spCellAt (tacons (tvar 0) (tacons (tcon (Dt.int 5)) tanil))) (tcon (Dt.int 4))))) (gname 5) (tseq (tasg (tbin L3.rAdd (tcall spCellAt (tacons (tvar 0) (tacons (tbin L3.rAdd (tcon (Dt.int 6)) (tvar 5)) tanil))) (tbin rMul (tbin L3.rAdd (tbin rMul (tvar 1) (tcon (Dt.int 31))) (tcon (Dt.int 1))) (tvar 5))) (gname 6)) (tseq (tasg (tcall spLParts (tacons (tvar 6) (tacons (tvar 1) (tacons (tbin L3.rAdd (tbin L3.rAdd (tlst (tacons (tcon (Dt.int 6)) (tacons (tcon (Dt.int 65536)) (tacons (tcon (Dt.int 32)) tanil)))) (tbin rMul (tlst (tacons (tcon (Dt.int 96)) tanil)) (tcon (Dt.int 11)))) (tlst (tacons (tcon (Dt.int 61)) tanil))) tanil)))) (gname 7)) (tseq (tdrop (tappend (tvar 4) (tcall spExit (tacons (tvar 7) (tacons (tvar 2) (tacons (tvar 3) tanil)))))) tnext)))) (tseq (tret (tcall rTuple (tacons (tvar 4) tanil))) tnext)))
noncomputable abbrev t__law_last_row : TSD := (tseq (tasg (tcall spLParts (tacons (tvar 0) (tacons (tvar 1) (tacons (tlst (tacons (tcon (Dt.int 4)) (tacons (tcon (Dt.int 16)) (tacons (tvar 4) (tacons (tvar 4) tanil))))) tanil)))) (gunpack 4 (gscons (gname 5) (gscons (gname 6) (gscons (gname 7) (gscons (gname 8) gsnil)))))) (tseq (tifS (tbool (tbin (rCmpI fun i j => decide (i < j)) (tvar 5) (tcon (Dt.int 2)))) (tseq (tret (ttup (tacons (tcon (Dt.str (Str.ofString "when"))) (tacons (tbin L3.rAdd (tvar 2) (tbin rMod (tvar 6) (tbin L3.rSub (tvar 3) (tvar 2)))) (tacons (tvar 7) (tacons (tvar 8) tanil)))))) tnext) tnext) (tseq (tret (tbin rIxD (tlst (tacons (ttup (tacons (tcon (Dt.str (Str.ofString "out"))) (tacons (tvar 7) tanil))) (tacons (ttup (tacons (tcon (Dt.str (Str.ofString "back"))) (tacons (tvar 7) (tacons (tvar 8) tanil)))) tanil))) (tbin L3.rSub (tvar 5) (tcon (Dt.int 2))))) tnext)))
theorem z10 : ∀ m : Nat, m ≤ 20 → m ≤ sizeLine := fun m hm => by rw [sizeLine_eq]; omega
theorem ixP {s : Sto} {p j : Nat} {ps : List Int} {P : VD} (hp : s[p]? = some (.rw (ps.map .int))) (hj : j < ps.length) (h : ∀ v : Int, P (.int v) s) : rIxD (.lst p) (.int (j : Int)) s P :=
  ixV (d := .int ps[j]) hp (by rw [List.getElem?_map, List.getElem?_eq_getElem hj]; rfl) (h _)
theorem two {s : Sto} {n : Nat} {a b : Dt} {t : Bool} {P : VD} (hn : s[n]? = some (.rw [a, b])) (h : ∀ y ∈ [a, b], P y s) : rIxD (.lst n) (.int (if t then 1 else 0)) s P := by
  cases t with
  | false => exact ixV (j := 0) hn rfl (h a (by simp))
  | true => exact ixV (j := 1) hn rfl (h b (by simp))
theorem rd__law_source {ds : List Dt} {st : Sto} {Pd : VD} (h : spSource ds st Pd) : t__law_source (Ed Pd) (startD ["part", "numbers", "many", "truth", "way"] ds) st := by
  obtain ⟨x, numbers, many, t, rfl, n1, n2, hP⟩ := h
  show t__law_source (Ed Pd) [some (.int x), some (.int (numbers : Int)), some (.int (many : Int)), some (.bl t), none] st
  refine seqA ⟨by decide, ?_⟩
  refine seqA ⟨cdiv (by decide) (by decide), ?_⟩
  show tseq _ _ (Ed Pd) [some (.int (x / 3)), some (.int (numbers : Int)), some (.int (many : Int)), some (.bl t), some (.int (x % 3))] st
  refine seqIf (b := decide (x % 3 = 0)) (st' := st) (eqI fun P hp => hp) (fun _ => ?_) fun _ => ?_
  · refine seqS ?_
    simp only [tret, ttup, tacons, tanil, tbin, tlst, tcall, tcon, tvar, List.getElem?_cons_zero, List.getElem?_cons_succ, rIntB]
    refine ⟨z10 2 (by decide), ?_⟩
    refine two get_new fun y hy => ?_
    obtain ⟨v, rfl, hv⟩ : ∃ v : Int, y = .int v ∧ 0 < v := by
      simp only [List.mem_cons, List.not_mem_nil, or_false] at hy
      rcases hy with rfl | rfl
      · exact ⟨8, rfl, by decide⟩
      · exact ⟨3, rfl, by decide⟩
    exact ⟨hv, z10 2 (by decide), hP _ _ (.app _ _)⟩
  refine seqIf (b := decide (x % 3 = 1)) (st' := st) (eqI fun P hp => hp) (fun _ => ?_) fun _ => ?_
  · refine seqS ?_
    simp only [tret, ttup, tacons, tanil, tbin, tlst, tcall, tcon, tvar, List.getElem?_cons_zero, List.getElem?_cons_succ, rIntB]
    refine ⟨z10 2 (by decide), ?_⟩
    refine two get_new fun y hy => ?_
    obtain ⟨v, rfl⟩ : ∃ v : Int, y = .int v := by
      simp only [List.mem_cons, List.not_mem_nil, or_false] at hy
      rcases hy with rfl | rfl
      · exact ⟨_, rfl⟩
      · exact ⟨_, rfl⟩
    exact ⟨by decide, z10 2 (by decide), hP _ _ (.app _ _)⟩
  · refine seqS ?_
    simp only [tret, ttup, tacons, tanil, tbin, tlst, tcall, tcon, tvar, List.getElem?_cons_zero, List.getElem?_cons_succ, rIntB]
    refine ⟨by show (0 : Int) < (numbers : Int); omega, ?_⟩
    refine ⟨by show (0 : Int) < (many : Int) - (numbers : Int); omega, z10 2 (by decide), ?_⟩
    refine two get_new fun y hy => ?_
    exact ⟨z10 2 (by decide), hP _ _ (.app _ _)⟩
theorem sources {s : Sto} {p numbers many n off : Nat} {t : Bool} {ps : List Int} {Fin : List Dt → Sto → Prop} (hp : s[p]? = some (.rw (ps.map .int))) (hn : off + n ≤ ps.length) (hn2 : n ≤ 20) (n1 : 1 ≤ numbers) (n2 : numbers < many)
    (hF : ∀ ys s', ExtS s s' → Fin ys s') : compD (rangeD 0 n) (fun _ => True) (fun x st P => P true st) (tcall spSource (tacons (tbin rIxD (tvar 3) (tbin L3.rAdd (tcon (Dt.int (off : Int))) (tvar 0))) (tacons (tvar 2) (tacons (tvar 1) (tacons (tcon (Dt.bl t)) tanil))))) [some (.int (many : Int)), some (.int (numbers : Int)), some (.lst p)] s Fin := by
  refine ⟨fun i ys s' => ExtS s s' ∧ ys.length = i, ⟨.refl _, rfl⟩, fun _ _ _ _ _ => trivial, ?_, ?_⟩
  · rintro i d ys s' hd ⟨hx, hl⟩
    obtain ⟨hi, rfl⟩ := range_get hd
    rw [Int.zero_add]
    refine ⟨by rw [hl, sizeLine_eq]; omega, iteT ?_⟩
    simp only [tcall, tacons, tanil, tbin, tvar, tcon, List.getElem?_cons_zero, List.getElem?_cons_succ, L3.rAdd]
    have e : (off : Int) + (i : Int) = ((off + i : Nat) : Int) := by omega
    rw [e]
    refine ixP (hx _ _ hp) (by omega) fun v => ?_
    exact ⟨v, numbers, many, t, rfl, n1, n2, fun d' s2 x2 => ⟨hx.trans x2, by simp [hl]⟩⟩
  · rintro ys s' ⟨hx, _⟩
    exact hF ys s' hx
theorem pick6 {a b c d e f : Dt} {s : Sto} {n : Nat} {x : Int} {P : VD} (hn : s[n]? = some (.rw [a, b, c, d, e, f])) (h : ∀ y, P y s) : rIxD (.lst n) (.int (x % 6)) s P := by
  obtain ⟨k, hk, h4⟩ : ∃ k : Nat, x % 6 = (k : Int) ∧ k < 6 := ⟨(x % 6).toNat, by omega, by omega⟩
  rw [hk]
  have hy : [a, b, c, d, e, f][k]? = some ([a, b, c, d, e, f][k]'h4) := by simp [h4]
  exact ixV hn hy (h _)
noncomputable def exT : TSD := (tseq (tasg (tcall rTuple (tacons (tcomp (irng1 (tcon (Dt.int 8))) (fun x st P => P true st) (tcall spSource (tacons (tbin rIxD (tvar 3) (tbin L3.rAdd (tcon (Dt.int 3)) (tvar 0))) (tacons (tvar 2) (tacons (tvar 1) (tacons (tcon (Dt.bl false)) tanil))))) [(2, "many"), (1, "numbers"), (0, "parts")]) tanil)) (gname 5)) (tseq (tasg (tcall rTuple (tacons (tcomp (irng1 (tcon (Dt.int 3))) (fun x st P => P true st) (tcall spSource (tacons (tbin rIxD (tvar 3) (tbin L3.rAdd (tcon (Dt.int 11)) (tvar 0))) (tacons (tvar 2) (tacons (tvar 1) (tacons (tcon (Dt.bl true)) tanil))))) [(2, "many"), (1, "numbers"), (0, "parts")]) tanil)) (gname 6)) (tseq (tret (ttup (tacons (tvar 3) (tacons (tvar 4) (tacons (tvar 5) (tacons (tvar 6) (tacons (tbin rMod (tbin rIxD (tvar 0) (tcon (Dt.int 14))) (tcon (Dt.int 61))) tanil))))))) tnext)))
noncomputable abbrev RX (p numbers many : Nat) (h pl b m : Option Dt) : Rho := [some (.lst p), some (.int (numbers : Int)), some (.int (many : Int)), h, pl, b, m]
theorem rd_exT {Pd : VD} {s : Sto} {p numbers many : Nat} {ps : List Int} {h pl : Dt} (hp : s[p]? = some (.rw (ps.map .int))) (hl : ps.length = 15) (n1 : 1 ≤ numbers) (n2 : numbers < many) (hP : ∀ a b c d e s', ExtS s s' → Pd (.tup [a, b, c, d, e]) s') : exT (Ed Pd) (RX p numbers many (some h) (some pl) none none) s := by
  show tseq _ _ (Ed Pd) _ s
  refine seqA ?_
  simp only [tcall, tacons, tanil, tcomp, irng1, tcon, capρ, List.map_cons, List.map_nil, List.getElem?_cons_zero, List.getElem?_cons_succ, Option.join_some]
  refine ⟨by decide, by decide, ?_⟩
  refine sources (off := 3) (n := 8) (t := false) hp (by omega) (by decide) n1 n2 fun ys s1 x1 => ?_
  show (match ((s1 ++ [SO.rw ys])[s1.length]?).map SO.items with
    | some xs => _
    | none => False)
  rw [get_new]
  have x1' : ExtS s (s1 ++ [SO.rw ys]) := x1.trans (.app _ _)
  generalize s1 ++ [SO.rw ys] = s2 at x1'
  show tseq _ _ (Ed Pd) (RX p numbers many (some h) (some pl) (some (.tup ys)) none) s2
  refine seqA ?_
  simp only [tcall, tacons, tanil, tcomp, irng1, tcon, capρ, List.map_cons, List.map_nil, List.getElem?_cons_zero, List.getElem?_cons_succ, Option.join_some]
  refine ⟨by decide, by decide, ?_⟩
  refine sources (off := 11) (n := 3) (t := true) (x1' _ _ hp) (by omega) (by decide) n1 n2 fun zs s3 x3 => ?_
  show (match ((s3 ++ [SO.rw zs])[s3.length]?).map SO.items with
    | some xs => _
    | none => False)
  rw [get_new]
  have x3' : ExtS s (s3 ++ [SO.rw zs]) := x1'.trans (x3.trans (.app _ _))
  generalize s3 ++ [SO.rw zs] = s4 at x3'
  show tseq _ _ (Ed Pd) (RX p numbers many (some h) (some pl) (some (.tup ys)) (some (.tup zs))) s4
  refine seqS ?_
  simp only [tret, ttup, tacons, tanil, tbin, tvar, tcon, List.getElem?_cons_zero, List.getElem?_cons_succ]
  refine ixP (j := 14) (x3' _ _ hp) (by omega) fun v => ?_
  exact ⟨by decide, z10 5 (by decide), hP _ _ _ _ _ _ x3'⟩
theorem rd__law_exit {ds : List Dt} {st : Sto} {Pd : VD} (h : spExit ds st Pd) : t__law_exit (Ed Pd) (startD ["parts", "numbers", "many", "how", "place", "boxes", "marks"] ds) st := by
  obtain ⟨p, numbers, many, ps, rfl, hp, hl, n1, n2, hP⟩ := h
  show t__law_exit (Ed Pd) (RX p numbers many none none none none) st
  refine seqA ?_
  simp only [tbin, tlst, tacons, tanil, tvar, tcon, List.getElem?_cons_zero, List.getElem?_cons_succ]
  refine ⟨z10 6 (by decide), ?_⟩
  have x1 : ExtS st (st ++ [SO.rw [Dt.str (Str.ofString "on"), Dt.str (Str.ofString "halt"), Dt.str (Str.ofString "bad"), Dt.str (Str.ofString "closed"), Dt.str (Str.ofString "nought"), Dt.str (Str.ofString "shut")]]) := .app _ _
  refine ixP (j := 0) (x1 _ _ hp) (by omega) fun v => ?_
  refine ⟨by decide, ?_⟩
  refine pick6 get_new fun h => ?_
  generalize st ++ [SO.rw [Dt.str (Str.ofString "on"), Dt.str (Str.ofString "halt"), Dt.str (Str.ofString "bad"), Dt.str (Str.ofString "closed"), Dt.str (Str.ofString "nought"), Dt.str (Str.ofString "shut")]] = s1 at x1
  show tseq _ _ (Ed Pd) (RX p numbers many (some h) none none none) s1
  refine seqA ?_
  simp only [tbin, tvar, tcon, List.getElem?_cons_zero, List.getElem?_cons_succ]
  refine ixP (j := 1) (x1 _ _ hp) (by omega) fun v1 => ?_
  show tseq _ _ (Ed Pd) (RX p numbers many (some h) (some (.int v1)) none none) s1
  have hp1 := x1 _ _ hp
  have hv2 : (ps.map Dt.int)[2]? = some (.int (ps[2]'(by omega))) := by rw [List.getElem?_map, List.getElem?_eq_getElem (by omega)]; rfl
  refine seqIf (b := decide ((ps[2]'(by omega)) % 2 = 1)) (st' := s1) (eqI fun P hp => ?_) (fun _ => ?_) fun _ => ?_
  · simp only [tbin, tvar, tcon, List.getElem?_cons_zero, List.getElem?_cons_succ]
    exact ixV (j := 2) hp1 hv2 ⟨by decide, hp⟩
  · refine seqA ?_
    simp only [ttup, tacons, tanil, tbin, tvar, tcon, List.getElem?_cons_zero, List.getElem?_cons_succ]
    refine ixP (j := 2) hp1 (by omega) fun v => ?_
    refine ⟨cdiv (by decide) (by decide), by show (0 : Int) < (numbers : Int); omega, z10 2 (by decide), ?_⟩
    exact rd_exT hp1 hl n1 n2 fun a b c d e s' hx => hP a b c d e s' (x1.trans hx)
  · exact rd_exT hp1 hl n1 n2 fun a b c d e s' hx => hP a b c d e s' (x1.trans hx)
end K85
namespace K85
open PySem PySem.Spec PyProof.Rows L2 L3 K02
noncomputable def xlB : TSD := (tseq (tasg (tbin L3.rAdd (tcall spCellAt (tacons (tvar 0) (tacons (tbin L3.rAdd (tcon (Dt.int 6)) (tvar 5)) tanil))) (tbin rMul (tbin L3.rAdd (tbin rMul (tvar 1) (tcon (Dt.int 31))) (tcon (Dt.int 1))) (tvar 5))) (gname 6)) (tseq (tasg (tcall spLParts (tacons (tvar 6) (tacons (tvar 1) (tacons (tbin L3.rAdd (tbin L3.rAdd (tlst (tacons (tcon (Dt.int 6)) (tacons (tcon (Dt.int 65536)) (tacons (tcon (Dt.int 32)) tanil)))) (tbin rMul (tlst (tacons (tcon (Dt.int 96)) tanil)) (tcon (Dt.int 11)))) (tlst (tacons (tcon (Dt.int 61)) tanil))) tanil)))) (gname 7)) (tseq (tdrop (tappend (tvar 4) (tcall spExit (tacons (tvar 7) (tacons (tvar 2) (tacons (tvar 3) tanil)))))) tnext)))
noncomputable def xB : List Int := [6, 65536, 32, 96, 96, 96, 96, 96, 96, 96, 96, 96, 96, 96, 61]
noncomputable abbrev RL (sc : Nat) (way : Int) (numbers many f : Nat) (k c p : Option Dt) : Rho := [some (.lst sc), some (.int way), some (.int (numbers : Int)), some (.int (many : Int)), some (.lst f), k, c, p]
theorem bounds {ρ : Rho} {s : Sto} {P : VD} (h : ∀ s' n, ExtS s s' → s'[n]? = some (.rw (xB.map .int)) → P (.lst n) s') : tbin L3.rAdd (tbin L3.rAdd (tlst (tacons (tcon (Dt.int 6)) (tacons (tcon (Dt.int 65536)) (tacons (tcon (Dt.int 32)) tanil)))) (tbin rMul (tlst (tacons (tcon (Dt.int 96)) tanil)) (tcon (Dt.int 11)))) (tlst (tacons (tcon (Dt.int 61)) tanil)) ρ s P := by
  simp only [tbin, tlst, tacons, tanil, tcon]
  refine ⟨z10 3 (by decide), z10 1 (by decide), ?_⟩
  have g1 : (s ++ [SO.rw [Dt.int 6, Dt.int 65536, Dt.int 32]])[s.length]? = some (.rw [Dt.int 6, Dt.int 65536, Dt.int 32]) := get_new
  have x1 : ExtS s (s ++ [SO.rw [Dt.int 6, Dt.int 65536, Dt.int 32]]) := .app _ _
  generalize s ++ [SO.rw [Dt.int 6, Dt.int 65536, Dt.int 32]] = s1 at g1 x1
  generalize s.length = n1 at g1
  show (match (s1 ++ [SO.rw [Dt.int 96]])[s1.length]? with
    | some (.rw xs) => _
    | _ => False)
  rw [get_new]
  refine ⟨by decide, by decide, z10 11 (by decide), ?_⟩
  have g2 := get_app (x := SO.rw [Dt.int 96]) g1
  have x2 := x1.trans (ExtS.app s1 (SO.rw [Dt.int 96]))
  generalize s1 ++ [SO.rw [Dt.int 96]] = s2 at g2 x2
  show (match (s2 ++ [SO.rw (List.replicate (11 : Int).toNat [Dt.int 96]).flatten])[n1]?, (s2 ++ [SO.rw (List.replicate (11 : Int).toNat [Dt.int 96]).flatten])[s2.length]? with
    | some (.rw xs), some (.rw ys) => _
    | _, _ => False)
  rw [get_app g2, get_new]
  refine ⟨z10 14 (by decide), ?_⟩
  have x3 := x2.trans ((ExtS.app s2 (SO.rw (List.replicate (11 : Int).toNat [Dt.int 96]).flatten)))
  generalize s2 ++ [SO.rw (List.replicate (11 : Int).toNat [Dt.int 96]).flatten] = s3 at x3
  refine ⟨z10 1 (by decide), ?_⟩
  generalize he : [Dt.int 6, Dt.int 65536, Dt.int 32] ++ (List.replicate (11 : Int).toNat [Dt.int 96]).flatten = ls
  have g4 : (s3 ++ [SO.rw ls])[s3.length]? = some (.rw ls) := get_new
  have x4 := x3.trans (ExtS.app s3 (SO.rw ls))
  generalize s3 ++ [SO.rw ls] = s4 at g4 x4
  generalize s3.length = n3 at g4
  show (match (s4 ++ [SO.rw [Dt.int 61]])[n3]?, (s4 ++ [SO.rw [Dt.int 61]])[s4.length]? with
    | some (.rw xs), some (.rw ys) => _
    | _, _ => False)
  rw [get_app g4, get_new]
  refine ⟨by rw [← he]; exact z10 15 (by decide), h _ _ (x4.trans ((ExtS.app _ _).trans (.app _ _))) ?_⟩
  rw [get_new, ← he]; rfl
theorem rd__law_exit_list {ds : List Dt} {st : Sto} {Pd : VD} (h : spExits ds st Pd) : t__law_exit_list (Ed Pd) (startD ["script", "way", "numbers", "many", "found", "k", "cell", "parts"] ds) st := by
  obtain ⟨sc, numbers, many, way, ns, rfl, hsc, w0, w1, n1, n2, hP⟩ := h
  show t__law_exit_list (Ed Pd) [some (.lst sc), some (.int way), some (.int (numbers : Int)), some (.int (many : Int)), none, none, none, none] st
  refine seqA ⟨Nat.zero_le _, ?_⟩
  have hf0 : (st ++ [SO.rw []])[st.length]? = some (.rw []) := get_new
  have x0 : ExtS st (st ++ [SO.rw []]) := .app _ _
  show tseq _ _ (Ed Pd) (RL sc way numbers many st.length none none none) (st ++ [SO.rw []])
  generalize st ++ [SO.rw []] = s0 at hf0 x0
  refine seqS ?_
  show tcall spCellAt _ (RL sc way numbers many st.length none none none) s0 _
  refine ⟨sc, 5, ns, rfl, x0 _ _ hsc, fun x => ?_⟩
  refine ⟨by decide, ?_⟩
  obtain ⟨m, hm, m1, m2⟩ : ∃ m : Nat, 1 + x % 4 = (m : Int) ∧ 1 ≤ m ∧ m ≤ 4 := ⟨(1 + x % 4).toNat, by omega, by omega, by omega⟩
  show (-(2 ^ 62) ≤ 1 + x % 4 ∧ 1 + x % 4 < 2 ^ 62 ∧ forW (rangeD 0 (1 + x % 4).toNat) (fun _ => True) (gname 5) xlB _ _ s0)
  rw [hm]
  refine ⟨by omega, by omega, ?_⟩
  rw [Int.toNat_natCast]
  refine ⟨fun i ρ s => (∃ k c p, ρ = RL sc way numbers many st.length k c p) ∧ ExtS st s ∧ ∃ es : List Dt, s[st.length]? = some (.rw es) ∧ es.length = i ∧ ∀ e ∈ es, Five e, ⟨⟨_, _, _, rfl⟩, x0, [], hf0, rfl, (by intro e he; cases he)⟩, fun _ _ _ _ _ => trivial, ?_, ?_⟩
  · rintro i d ρ s hd ⟨⟨k, c, p, rfl⟩, hx, es, hes, hel, hfive⟩
    obtain ⟨hi, rfl⟩ := range_get hd
    rw [Int.zero_add]
    show tseq _ _ _ (RL sc way numbers many st.length (some (.int (i : Int))) c p) s
    refine seqA ?_
    simp only [tbin, tcall, tacons, tanil, tvar, tcon, List.getElem?_cons_zero, List.getElem?_cons_succ, L3.rAdd, rMul]
    refine ⟨sc, 6 + i, ns, (by
      have e : (6 : Int) + (i : Int) = ((6 + i : Nat) : Int) := by omega
      rw [e]), hx _ _ hsc, fun y => ?_⟩
    refine ⟨cmul_r (by decide) (by decide), cmul_r (by omega) (by omega), ?_⟩
    show tseq _ _ _ (RL sc way numbers many st.length (some (.int (i : Int))) (some (.int (y + (way * 31 + 1) * (i : Int)))) p) s
    generalize y + (way * 31 + 1) * (i : Int) = cell
    refine seqA ?_
    simp only [tcall, tacons, tanil, tvar, List.getElem?_cons_zero, List.getElem?_cons_succ]
    refine bounds fun s1 nb x1 hnb => ?_
    refine ⟨cell, way, nb, xB, rfl, hnb, by decide, by decide, fun ps s2 np x2 hnp hpin => ?_⟩
    show tseq _ _ _ (RL sc way numbers many st.length (some (.int (i : Int))) (some (.int cell)) (some (.lst np))) s2
    refine seqS ?_
    simp only [tdrop, tappend, tcall, tacons, tanil, tvar, List.getElem?_cons_zero, List.getElem?_cons_succ]
    refine ⟨np, numbers, many, ps, rfl, hnp, hpin.1, n1, n2, fun a b c d e s3 x3 => ?_⟩
    have hes3 := x3 _ _ (x2 _ _ (x1 _ _ hes))
    simp only [hes3]
    refine ⟨by rw [hel, sizeLine_eq]; omega, ⟨_, _, _, rfl⟩, fun j o ho => ?_, es ++ [.tup [a, b, c, d, e]], get_set_self hes3, by simp [hel], fun q hq => ?_⟩
    · have hj : j < st.length := lt_of_get ho
      exact get_set_ne (x3 _ _ (x2 _ _ (x1 _ _ (hx _ _ ho)))) (by omega)
    · rcases List.mem_append.mp hq with hq | hq
      · exact hfive q hq
      · have : q = .tup [a, b, c, d, e] := by simpa using hq
        exact ⟨a, b, c, d, e, this⟩
  · rintro ρ s ⟨⟨k, c, p, rfl⟩, hx, es, hes, hel, hfive⟩
    rw [range_len] at hel
    show (match (s[st.length]?).map SO.items with
      | some xs => Pd (.tup xs) s
      | none => False)
    rw [hes]
    exact hP es s hx (by omega) (by omega) hfive
theorem gunL {x0 x1 x2 x3 x4 : Option Dt} {d0 d1 d2 d3 : Dt} {st : Sto} {P : Rho → Sto → Prop} (h : P [x0, x1, x2, x3, x4, some d0, some d1, some d2, some d3] st) :
    gscons (gname 5) (gscons (gname 6) (gscons (gname 7) (gscons (gname 8) gsnil))) [d0, d1, d2, d3] [x0, x1, x2, x3, x4, none, none, none, none] st P := h
theorem rd__law_last_row {ds : List Dt} {st : Sto} {Pd : VD} (h : spLast ds st Pd) : t__law_last_row (Ed Pd) (startD ["cell", "way", "numbers", "many", "exits", "word", "hand", "first", "then"] ds) st := by
  obtain ⟨c, way, numbers, many, exits, rfl, n1, n2, e1, e2, hP⟩ := h
  show t__law_last_row (Ed Pd) [some (.int c), some (.int way), some (.int (numbers : Int)), some (.int (many : Int)), some (.int (exits : Int)), none, none, none, none] st
  refine seqS ?_
  simp only [tasg, tcall, tlst, tacons, tanil, tvar, tcon, List.getElem?_cons_zero, List.getElem?_cons_succ]
  refine ⟨z10 4 (by decide), ?_⟩
  refine ⟨c, way, st.length, [4, 16, (exits : Int), (exits : Int)], rfl, get_new, ?_, by show 4 ≤ 20; decide, fun ps s1 n x1 hn hpin => ?_⟩
  · intro x hx
    simp only [List.mem_cons, List.not_mem_nil, or_false] at hx
    omega
  have x1' : ExtS st s1 := (ExtS.app _ _).trans x1
  have hl : ps.length = 4 := hpin.1
  obtain ⟨p0, p1, p2, p3, rfl⟩ : ∃ p0 p1 p2 p3, ps = [p0, p1, p2, p3] := by
    rcases ps with _ | ⟨p0, _ | ⟨p1, _ | ⟨p2, _ | ⟨p3, _ | ⟨p4, r⟩⟩⟩⟩⟩ <;> first
      | (simp at hl; done)
      | exact ⟨p0, p1, p2, p3, rfl⟩
      | (simp at hl; omega)
  obtain ⟨w0, w1⟩ := hpin.2 0 p0 4 rfl rfl
  have hsq : seqOf s1 (.lst n) = some ([p0, p1, p2, p3].map Dt.int) := by
    show (s1[n]?).map SO.items = _
    rw [hn]; rfl
  simp only [gunpack, hsq]
  refine ⟨rfl, ?_⟩
  refine gunL ?_
  show tseq _ _ (Ed Pd) [some (.int c), some (.int way), some (.int (numbers : Int)), some (.int (many : Int)), some (.int (exits : Int)), some (.int p0), some (.int p1), some (.int p2), some (.int p3)] s1
  refine seqIf (b := decide (p0 < 2)) (st' := s1) (fun P hp => hp) (fun _ => ?_) fun q => ?_
  · refine seqS ?_
    refine ⟨by show (0 : Int) < (many : Int) - (numbers : Int); omega, z10 4 (by decide), ?_⟩
    exact hP ⟨"when", [(numbers : Int) + p1 % ((many : Int) - (numbers : Int)), p2, p3]⟩ s1 x1' (ok_of (f := "xee") (by decide +kernel) (show (3 : Nat) = (Str.ofString "xee").length by decide +kernel))
  · have q := of_decide_eq_false q
    refine seqS ?_
    simp only [tret, tbin, tlst, ttup, tacons, tanil, tvar, tcon, L3.rSub, List.getElem?_cons_zero, List.getElem?_cons_succ]
    refine ⟨z10 2 (by decide), z10 3 (by decide), z10 2 (by decide), ?_⟩
    have o1 : OkR ⟨"out", [p2]⟩ := ok_of (f := "e") (by decide +kernel) (show (1 : Nat) = (Str.ofString "e").length by decide +kernel)
    have o2 : OkR ⟨"back", [p2, p3]⟩ := ok_of (f := "ee") (by decide +kernel) (show (2 : Nat) = (Str.ofString "ee").length by decide +kernel)
    have hc : p0 - 2 = ((0 : Nat) : Int) ∨ p0 - 2 = ((1 : Nat) : Int) := by omega
    rcases hc with hc | hc
    · rw [hc]
      exact ixV (j := 0) get_new rfl (hP ⟨"out", [p2]⟩ _ (x1'.trans (.app _ _)) o1)
    · rw [hc]
      exact ixV (j := 1) get_new rfl (hP ⟨"back", [p2, p3]⟩ _ (x1'.trans (.app _ _)) o2)
end K85
namespace K85
open PySem PySem.Spec PyProof.Rows L2 L3 K02
noncomputable abbrev t__law_host : TSD := (tseq (tasg (tbin rDiv (tcall spCellAt (tacons (tvar 0) (tacons (tcon (Dt.int 5)) tanil))) (tcon (Dt.int 4))) (gname 3)) (tseq (tasg (tbin L3.rAdd (tcon (Dt.int 3)) (tbin rMod (tvar 3) (tcon (Dt.int 14)))) (gname 4)) (tseq (tasg (tbin L3.rAdd (tcon (Dt.int 1)) (tbin rMod (tbin rDiv (tvar 3) (tcon (Dt.int 14))) (tbin L3.rSub (tvar 4) (tcon (Dt.int 1))))) (gname 5)) (tseq (tasg (tcall spExits (tacons (tvar 0) (tacons (tvar 1) (tacons (tvar 5) (tacons (tvar 4) tanil))))) (gname 6)) (tseq (tasg (tbin rMul (tbin rMod (tbin rDiv (tvar 3) (tcon (Dt.int 800))) (tbin rShl (tcon (Dt.int 1)) (tcon (Dt.int 20)))) (tcall rIntB (tacons (tbin (rEqD false) (tbin rMod (tbin rDiv (tvar 3) (tcon (Dt.int 200))) (tcon (Dt.int 4))) (tcon (Dt.int 1))) tanil))) (gname 7)) (tseq (tasg (tcall spFirst (tacons (tvar 4) (tacons (tvar 5) (tacons (tvar 7) tanil)))) (gname 8)) (tseq (tfor (iseq (tsliceA (tvar 0) (tosome (tcon (Dt.int 11))) (tosome (tcon (Dt.int 63))))) (gname 9) (tseq (tasg (tcall spLParts (tacons (tbin rDiv (tvar 9) (tcon (Dt.int 3))) (tacons (tvar 1) (tacons (tlst (tacons (tcon (Dt.int 20)) (tacons (tcon (Dt.int 16)) (tacons (tcon (Dt.int 16)) (tacons (tcon (Dt.int 16)) (tacons (tcon (Dt.int 65536)) (tacons (tcon (Dt.int 8)) (tacons (tcon (Dt.int 4)) (tacons (tcon (Dt.int 4)) tanil))))))))) tanil)))) (gname 10)) (tseq (tifS (tandB (tbool (tvar 2)) (tbool (tbin (rEqD false) (tbin rMod (tvar 9) (tcon (Dt.int 3))) (tcon (Dt.int 1))))) (tseq (tasg (tbin L3.rAdd (tvar 8) (tcall spItems (tacons (tvar 10) (tacons (tvar 5) (tacons (tcall rLen (tacons (tvar 6) tanil)) tanil))))) (gname 8)) tnext) (tseq (tdrop (tappend (tvar 8) (tcall spPlain (tacons (tvar 10) (tacons (tvar 4) (tacons (tvar 5) tanil)))))) tnext)) tnext))) (tseq (tdrop (tappend (tvar 8) (tcall spLast (tacons (tbin rDiv (tcall spCellAt (tacons (tvar 0) (tacons (tcon (Dt.int 10)) tanil))) (tcon (Dt.int 2))) (tacons (tvar 1) (tacons (tvar 5) (tacons (tvar 4) (tacons (tcall rLen (tacons (tvar 6) tanil)) tanil)))))))) (tseq (tifS (tandB (tbool (tbin (rEqD false) (tbin rIxD (tbin rIxD (tvar 8) (tneg (tcon (Dt.int 1)))) (tcon (Dt.int 0))) (tcon (Dt.str (Str.ofString "back"))))) (tbool (tbin (rEqD false) (tbin rMod (tcall spCellAt (tacons (tvar 0) (tacons (tcon (Dt.int 9)) tanil))) (tcon (Dt.int 2))) (tcon (Dt.int 1))))) (tseq (tasg (tbin L3.rAdd (tsliceA (tbin rIxD (tvar 8) (tneg (tcon (Dt.int 1)))) tonone (tosome (tcon (Dt.int 2)))) (ttup (tacons (tcall rLen (tacons (tvar 6) tanil)) tanil))) (gsub (tvar 8) (tneg (tcon (Dt.int 1))))) (tseq (tasg (ttup (tacons (ttup (tacons (tcon (Dt.str (Str.ofString "old"))) (tacons (tcon (Dt.int 7)) tanil))) (tacons (ttup (tacons (tcon (Dt.str (Str.ofString "hand"))) (tacons (tcon (Dt.int 0)) tanil))) (tacons (ttup (tacons (tcon (Dt.str (Str.ofString "shelf"))) (tacons (tcon (Dt.int 2)) tanil))) tanil)))) (gname 11)) (tseq (tasg (tbin L3.rAdd (tvar 6) (ttup (tacons (ttup (tacons (tcon (Dt.str (Str.ofString "on"))) (tacons (ttup (tacons (tcon (Dt.str (Str.ofString "hand"))) (tacons (tbin L3.rSub (tvar 4) (tcon (Dt.int 1))) tanil))) (tacons (tbin rIxD (tbin rIxD (tvar 6) (tcon (Dt.int 0))) (tcon (Dt.int 2))) (tacons (tvar 11) (tacons (tcon (Dt.int 7)) tanil)))))) tanil))) (gname 6)) tnext))) tnext) (tseq (tret (ttup (tacons (tbin rMod (tcall spCellAt (tacons (tvar 0) (tacons (tcon (Dt.int 10)) tanil))) (tcon (Dt.int 65536))) (tacons (tvar 4) (tacons (tcall rTuple (tacons (tvar 8) tanil)) (tacons (tvar 6) tanil)))))) tnext))))))))))
noncomputable def hoT : TSD := (tseq (tdrop (tappend (tvar 8) (tcall spLast (tacons (tbin rDiv (tcall spCellAt (tacons (tvar 0) (tacons (tcon (Dt.int 10)) tanil))) (tcon (Dt.int 2))) (tacons (tvar 1) (tacons (tvar 5) (tacons (tvar 4) (tacons (tcall rLen (tacons (tvar 6) tanil)) tanil)))))))) (tseq (tifS (tandB (tbool (tbin (rEqD false) (tbin rIxD (tbin rIxD (tvar 8) (tneg (tcon (Dt.int 1)))) (tcon (Dt.int 0))) (tcon (Dt.str (Str.ofString "back"))))) (tbool (tbin (rEqD false) (tbin rMod (tcall spCellAt (tacons (tvar 0) (tacons (tcon (Dt.int 9)) tanil))) (tcon (Dt.int 2))) (tcon (Dt.int 1))))) (tseq (tasg (tbin L3.rAdd (tsliceA (tbin rIxD (tvar 8) (tneg (tcon (Dt.int 1)))) tonone (tosome (tcon (Dt.int 2)))) (ttup (tacons (tcall rLen (tacons (tvar 6) tanil)) tanil))) (gsub (tvar 8) (tneg (tcon (Dt.int 1))))) (tseq (tasg (ttup (tacons (ttup (tacons (tcon (Dt.str (Str.ofString "old"))) (tacons (tcon (Dt.int 7)) tanil))) (tacons (ttup (tacons (tcon (Dt.str (Str.ofString "hand"))) (tacons (tcon (Dt.int 0)) tanil))) (tacons (ttup (tacons (tcon (Dt.str (Str.ofString "shelf"))) (tacons (tcon (Dt.int 2)) tanil))) tanil)))) (gname 11)) (tseq (tasg (tbin L3.rAdd (tvar 6) (ttup (tacons (ttup (tacons (tcon (Dt.str (Str.ofString "on"))) (tacons (ttup (tacons (tcon (Dt.str (Str.ofString "hand"))) (tacons (tbin L3.rSub (tvar 4) (tcon (Dt.int 1))) tanil))) (tacons (tbin rIxD (tbin rIxD (tvar 6) (tcon (Dt.int 0))) (tcon (Dt.int 2))) (tacons (tvar 11) (tacons (tcon (Dt.int 7)) tanil)))))) tanil))) (gname 6)) tnext))) tnext) (tseq (tret (ttup (tacons (tbin rMod (tcall spCellAt (tacons (tvar 0) (tacons (tcon (Dt.int 10)) tanil))) (tcon (Dt.int 65536))) (tacons (tvar 4) (tacons (tcall rTuple (tacons (tvar 8) tanil)) (tacons (tvar 6) tanil)))))) tnext)))
noncomputable def hoU : TSD := (tseq (tifS (tandB (tbool (tbin (rEqD false) (tbin rIxD (tbin rIxD (tvar 8) (tneg (tcon (Dt.int 1)))) (tcon (Dt.int 0))) (tcon (Dt.str (Str.ofString "back"))))) (tbool (tbin (rEqD false) (tbin rMod (tcall spCellAt (tacons (tvar 0) (tacons (tcon (Dt.int 9)) tanil))) (tcon (Dt.int 2))) (tcon (Dt.int 1))))) (tseq (tasg (tbin L3.rAdd (tsliceA (tbin rIxD (tvar 8) (tneg (tcon (Dt.int 1)))) tonone (tosome (tcon (Dt.int 2)))) (ttup (tacons (tcall rLen (tacons (tvar 6) tanil)) tanil))) (gsub (tvar 8) (tneg (tcon (Dt.int 1))))) (tseq (tasg (ttup (tacons (ttup (tacons (tcon (Dt.str (Str.ofString "old"))) (tacons (tcon (Dt.int 7)) tanil))) (tacons (ttup (tacons (tcon (Dt.str (Str.ofString "hand"))) (tacons (tcon (Dt.int 0)) tanil))) (tacons (ttup (tacons (tcon (Dt.str (Str.ofString "shelf"))) (tacons (tcon (Dt.int 2)) tanil))) tanil)))) (gname 11)) (tseq (tasg (tbin L3.rAdd (tvar 6) (ttup (tacons (ttup (tacons (tcon (Dt.str (Str.ofString "on"))) (tacons (ttup (tacons (tcon (Dt.str (Str.ofString "hand"))) (tacons (tbin L3.rSub (tvar 4) (tcon (Dt.int 1))) tanil))) (tacons (tbin rIxD (tbin rIxD (tvar 6) (tcon (Dt.int 0))) (tcon (Dt.int 2))) (tacons (tvar 11) (tacons (tcon (Dt.int 7)) tanil)))))) tanil))) (gname 6)) tnext))) tnext) (tseq (tret (ttup (tacons (tbin rMod (tcall spCellAt (tacons (tvar 0) (tacons (tcon (Dt.int 10)) tanil))) (tcon (Dt.int 65536))) (tacons (tvar 4) (tacons (tcall rTuple (tacons (tvar 8) tanil)) (tacons (tvar 6) tanil)))))) tnext))
noncomputable def hoB : TSD := (tseq (tasg (tcall spLParts (tacons (tbin rDiv (tvar 9) (tcon (Dt.int 3))) (tacons (tvar 1) (tacons (tlst (tacons (tcon (Dt.int 20)) (tacons (tcon (Dt.int 16)) (tacons (tcon (Dt.int 16)) (tacons (tcon (Dt.int 16)) (tacons (tcon (Dt.int 65536)) (tacons (tcon (Dt.int 8)) (tacons (tcon (Dt.int 4)) (tacons (tcon (Dt.int 4)) tanil))))))))) tanil)))) (gname 10)) (tseq (tifS (tandB (tbool (tvar 2)) (tbool (tbin (rEqD false) (tbin rMod (tvar 9) (tcon (Dt.int 3))) (tcon (Dt.int 1))))) (tseq (tasg (tbin L3.rAdd (tvar 8) (tcall spItems (tacons (tvar 10) (tacons (tvar 5) (tacons (tcall rLen (tacons (tvar 6) tanil)) tanil))))) (gname 8)) tnext) (tseq (tdrop (tappend (tvar 8) (tcall spPlain (tacons (tvar 10) (tacons (tvar 4) (tacons (tvar 5) tanil)))))) tnext)) tnext))
noncomputable abbrev RH (sc : Nat) (way : Int) (t : Bool) (z : Int) (many numbers : Nat) (es : List Dt) (left : Int) (rn : Nat) (c p o : Option Dt) : Rho := [some (.lst sc), some (.int way), some (.bl t), some (.int z), some (.int (many : Int)), some (.int (numbers : Int)), some (.tup es), some (.int left), some (.lst rn), c, p, o]
noncomputable def hoE : TSD := (tseq (tret (ttup (tacons (tbin rMod (tcall spCellAt (tacons (tvar 0) (tacons (tcon (Dt.int 10)) tanil))) (tcon (Dt.int 65536))) (tacons (tvar 4) (tacons (tcall rTuple (tacons (tvar 8) tanil)) (tacons (tvar 6) tanil)))))) tnext)
theorem rd_hoE {Pd : VD} {s : Sto} {sc : Nat} {way : Int} {t : Bool} {z : Int} {many numbers rn : Nat} {es : List Dt} {left : Int} {c p o : Option Dt} {rs : List Rw} {ns : List Int} (hsc : s[sc]? = some (.ro (ns.map .int))) (hr : RowsAt s rn rs 250) (hes : es.length ≤ 6)
    (hP : ∀ (rs : List Rw) (es : List Dt) a b st', ExtS s st' → (∀ r ∈ rs, OkR r) → rs.length ≤ 300 → es.length ≤ 10 → Pd (.tup [a, b, .tup (rs.map rowD), .tup es]) st') :
    hoE (Ed Pd) (RH sc way t z many numbers es left rn c p o) s := by
  show tseq _ _ (Ed Pd) _ s
  refine seqS ?_
  simp only [tret, ttup, tacons, tanil, tbin, tcall, tcon, tvar, List.getElem?_cons_zero, List.getElem?_cons_succ]
  refine ⟨sc, 10, ns, rfl, hsc, fun x => ?_⟩
  refine ⟨by decide, ?_⟩
  show (match (s[rn]?).map SO.items with
    | some xs => _
    | none => False)
  rw [hr.1]
  exact ⟨z10 4 (by decide), hP rs es _ _ s (.refl _) hr.2.1 (Nat.le_trans hr.2.2 (by decide)) (by omega)⟩
theorem extset {s0 s : Sto} {rn : Nat} {o : SO} (hx : ExtS s0 s) (hn : s0.length ≤ rn) : ExtS s0 (s.set rn o) := fun j o ho => by
  have hj := lt_of_get ho
  exact get_set_ne (hx _ _ ho) (by omega)
theorem ixN_last {n : Nat} : ixN (n + 1) (-1) = some n := by
  unfold ixN
  rw [if_neg (by omega), if_pos (by omega)]
  congr 1
  omega
theorem back_len : (form (Str.ofString "back")).length = 2 := by decide +kernel
theorem rd_hoU {Pd : VD} {s0 s : Sto} {sc : Nat} {way : Int} {t : Bool} {z : Int} {many numbers rn : Nat} {es : List Dt} {left : Int} {c p o : Option Dt} {rs : List Rw} {r : Rw} {ns : List Int} (x0 : ExtS s0 s) (hn0 : s0.length ≤ rn) (hsc : s0[sc]? = some (.ro (ns.map .int))) (hr : RowsAt s rn (rs ++ [r]) 250) (he1 : 1 ≤ es.length) (hes : es.length ≤ 4) (h5 : ∀ e ∈ es, Five e)
    (hP : ∀ (rs : List Rw) (es : List Dt) a b st', ExtS s0 st' → (∀ r ∈ rs, OkR r) → rs.length ≤ 300 → es.length ≤ 10 → Pd (.tup [a, b, .tup (rs.map rowD), .tup es]) st') :
    hoU (Ed Pd) (RH sc way t z many numbers es left rn c p o) s := by
  have hlast : atI ((rs ++ [r]).map rowD) (-1) = some (rowD r) := by rw [List.map_append]; exact atI_last _ _
  have hok : OkR r := hr.2.1 r (by simp)
  have ixLast : ∀ {s' : Sto} {P : VD}, s'[rn]? = some (.rw ((rs ++ [r]).map rowD)) → P (rowD r) s' → rIxD (.lst rn) (.int (-1)) s' P := fun {s' P} hs hp => by
    show (match (s'[rn]?).map SO.items with
      | some xs => (match atI xs (-1) with
        | some d => P d s'
        | none => False)
      | none => False)
    rw [hs]
    show (match atI ((rs ++ [r]).map rowD) (-1) with
        | some d => P d s'
        | none => False)
    rw [hlast]; exact hp
  have w0 : ∀ {s' : Sto} {P : VD}, P (.str r.w) s' → rIxD (rowD r) (.int 0) s' P := fun {s' P} hp => by
    show (match atI (Dt.str r.w :: r.xs.map .int) 0 with
      | some d => P d s'
      | none => False)
    rw [show atI (Dt.str r.w :: r.xs.map Dt.int) 0 = some (.str r.w) from atI_nat (j := 0) rfl]
    exact hp
  have fin : hoE (Ed Pd) (RH sc way t z many numbers es left rn c p o) s := rd_hoE (x0 _ _ hsc) hr (by omega) fun rs es a b st' hx h1 h2 h3 => hP rs es a b st' (x0.trans hx) h1 h2 h3
  show tseq _ _ (Ed Pd) _ s
  refine seqS ?_
  simp only [tifS, tandB, tbool, tbin, tvar, tcon, tneg, tcall, tacons, tanil, List.getElem?_cons_zero, List.getElem?_cons_succ]
  refine ixLast hr.1 (w0 ?_)
  refine ⟨rfl, rfl, ?_⟩
  have eb : eqD 8 (.str r.w) (.str (Str.ofString "back")) = (r.w == Str.ofString "back") := rfl
  rw [eb, bneF]
  cases hb : (r.w == Str.ofString "back") with
  | false => exact iteF (iteF fin)
  | true =>
    refine iteT ?_
    refine ⟨sc, 9, ns, rfl, x0 _ _ hsc, fun x => ?_⟩
    refine ⟨by decide, rfl, rfl, ?_⟩
    have ec : eqD 8 (.int (x % 2)) (.int 1) = decide (x % 2 = 1) := by show (x % 2 == 1) = _; by_cases q : x % 2 = 1 <;> simp [q]
    rw [ec, bneF]
    by_cases q : x % 2 = 1
    · rw [decide_eq_true q]
      refine iteT ?_
      obtain ⟨rw_, xs⟩ := r
      have hw : rw_ = Str.ofString "back" := eq_of_beq hb
      subst hw
      have hl : xs.length = 2 := hok.len.trans back_len
      obtain ⟨x1, x2, rfl⟩ : ∃ x1 x2, xs = [x1, x2] := by
        rcases xs with _ | ⟨x1, _ | ⟨x2, _ | ⟨x3, r⟩⟩⟩ <;> first
          | (simp at hl; done)
          | exact ⟨x1, x2, rfl⟩
          | (simp at hl; omega)
      refine seqS ?_
      simp only [tasg, tsliceA, tbin, tvar, tcon, tneg, tonone, tosome, ttup, tcall, tacons, tanil, gsub, List.getElem?_cons_zero, List.getElem?_cons_succ]
      refine ixLast hr.1 ?_
      have hcut : L3.cutD [Dt.str (Str.ofString "back"), Dt.int x1, Dt.int x2] none (some 2) = [Dt.str (Str.ofString "back"), Dt.int x1] := rfl
      show [Dt.int (es.length : Int)].length ≤ sizeLine ∧ L3.rAdd (.tup (L3.cutD [Dt.str (Str.ofString "back"), Dt.int x1, Dt.int x2] none (some 2))) (.tup [Dt.int (es.length : Int)]) s _
      rw [hcut]
      refine ⟨z10 1 (by decide), ?_⟩
      simp only [L3.rAdd]
      refine ⟨z10 3 (by decide), ?_⟩
      have hix : ixN ((rs ++ [(⟨Str.ofString "back", [x1, x2]⟩ : Rw)]).map rowD).length (-1) = some rs.length := by
        have e : ((rs ++ [(⟨Str.ofString "back", [x1, x2]⟩ : Rw)]).map rowD).length = rs.length + 1 := by simp
        rw [e]; exact ixN_last
      simp only [hr.1, hix]
      have hset : ((rs ++ [(⟨Str.ofString "back", [x1, x2]⟩ : Rw)]).map rowD).set rs.length (rowD ⟨Str.ofString "back", [x1, (es.length : Int)]⟩) = (rs ++ [(⟨Str.ofString "back", [x1, (es.length : Int)]⟩ : Rw)]).map rowD := by simp
      have hrow : Dt.tup ([Dt.str (Str.ofString "back"), Dt.int x1] ++ [Dt.int (es.length : Int)]) = rowD ⟨Str.ofString "back", [x1, (es.length : Int)]⟩ := rfl
      rw [hrow, hset]
      have hr' : RowsAt (s.set rn (.rw ((rs ++ [(⟨Str.ofString "back", [x1, (es.length : Int)]⟩ : Rw)]).map rowD))) rn (rs ++ [⟨Str.ofString "back", [x1, (es.length : Int)]⟩]) 250 := by
        refine ⟨get_set_self hr.1, fun r hrm => ?_, ?_⟩
        · rcases List.mem_append.mp hrm with h | h
          · exact hr.2.1 r (List.mem_append.mpr (.inl h))
          · have : r = ⟨Str.ofString "back", [x1, (es.length : Int)]⟩ := by simpa using h
            rw [this]
            exact ok_of (f := "ee") (by decide +kernel) (show (2 : Nat) = (Str.ofString "ee").length by decide +kernel)
        · have := hr.2.2
          rw [List.length_append] at this ⊢
          exact this
      have xs0 : ExtS s0 (s.set rn (.rw ((rs ++ [(⟨Str.ofString "back", [x1, (es.length : Int)]⟩ : Rw)]).map rowD))) := extset x0 hn0
      generalize s.set rn (.rw ((rs ++ [(⟨Str.ofString "back", [x1, (es.length : Int)]⟩ : Rw)]).map rowD)) = s1 at hr' xs0
      generalize rs ++ [(⟨Str.ofString "back", [x1, (es.length : Int)]⟩ : Rw)] = rs' at hr'
      refine seqA ?_
      refine ⟨z10 2 (by decide), z10 2 (by decide), z10 2 (by decide), z10 3 (by decide), ?_⟩
      refine seqA ?_
      simp only [tbin, ttup, tcon, tacons, tanil, tvar, List.getElem?_cons_zero, List.getElem?_cons_succ, List.set_cons_succ, List.set_cons_zero]
      obtain ⟨e0, er, hes0⟩ : ∃ e0 er, es = e0 :: er := by
        cases es with
        | nil => simp at he1
        | cons e0 er => exact ⟨e0, er, rfl⟩
      obtain ⟨a, b, c', d, e, he0⟩ := h5 e0 (by rw [hes0]; simp)
      refine ⟨z10 2 (by decide), ?_⟩
      show (match atI es 0 with
        | some d => _
        | none => False)
      rw [show atI es 0 = some (.tup [a, b, c', d, e]) from by rw [hes0, he0]; exact atI_nat (j := 0) rfl]
      show (match atI [a, b, c', d, e] 2 with
        | some d => _
        | none => False)
      rw [show atI [a, b, c', d, e] 2 = some c' from atI_nat (j := 2) rfl]
      refine ⟨z10 5 (by decide), z10 1 (by decide), ?_⟩
      refine ⟨by show es.length + 1 ≤ sizeLine; exact z10 _ (by omega), ?_⟩
      exact rd_hoE (xs0 _ _ hsc) hr' (by simp; omega) fun rs es a b st' hx h1 h2 h3 => hP rs es a b st' (xs0.trans hx) h1 h2 h3
    · rw [decide_eq_false q]
      exact iteF fin
end K85
namespace K85
open PySem PySem.Spec PyProof.Rows L2 L3 K02
theorem ext_le {a b : Sto} (hx : ExtS a b) : a.length ≤ b.length := by
  rcases Nat.lt_or_ge b.length a.length with q | q
  · have h5 := hx b.length a[b.length] (by simp [q])
    exact absurd (lt_of_get h5) (Nat.lt_irrefl _)
  · exact q
noncomputable def hoL : TSD := (tseq (tfor (iseq (tsliceA (tvar 0) (tosome (tcon (Dt.int 11))) (tosome (tcon (Dt.int 63))))) (gname 9) (tseq (tasg (tcall spLParts (tacons (tbin rDiv (tvar 9) (tcon (Dt.int 3))) (tacons (tvar 1) (tacons (tlst (tacons (tcon (Dt.int 20)) (tacons (tcon (Dt.int 16)) (tacons (tcon (Dt.int 16)) (tacons (tcon (Dt.int 16)) (tacons (tcon (Dt.int 65536)) (tacons (tcon (Dt.int 8)) (tacons (tcon (Dt.int 4)) (tacons (tcon (Dt.int 4)) tanil))))))))) tanil)))) (gname 10)) (tseq (tifS (tandB (tbool (tvar 2)) (tbool (tbin (rEqD false) (tbin rMod (tvar 9) (tcon (Dt.int 3))) (tcon (Dt.int 1))))) (tseq (tasg (tbin L3.rAdd (tvar 8) (tcall spItems (tacons (tvar 10) (tacons (tvar 5) (tacons (tcall rLen (tacons (tvar 6) tanil)) tanil))))) (gname 8)) tnext) (tseq (tdrop (tappend (tvar 8) (tcall spPlain (tacons (tvar 10) (tacons (tvar 4) (tacons (tvar 5) tanil)))))) tnext)) tnext))) (tseq (tdrop (tappend (tvar 8) (tcall spLast (tacons (tbin rDiv (tcall spCellAt (tacons (tvar 0) (tacons (tcon (Dt.int 10)) tanil))) (tcon (Dt.int 2))) (tacons (tvar 1) (tacons (tvar 5) (tacons (tvar 4) (tacons (tcall rLen (tacons (tvar 6) tanil)) tanil)))))))) (tseq (tifS (tandB (tbool (tbin (rEqD false) (tbin rIxD (tbin rIxD (tvar 8) (tneg (tcon (Dt.int 1)))) (tcon (Dt.int 0))) (tcon (Dt.str (Str.ofString "back"))))) (tbool (tbin (rEqD false) (tbin rMod (tcall spCellAt (tacons (tvar 0) (tacons (tcon (Dt.int 9)) tanil))) (tcon (Dt.int 2))) (tcon (Dt.int 1))))) (tseq (tasg (tbin L3.rAdd (tsliceA (tbin rIxD (tvar 8) (tneg (tcon (Dt.int 1)))) tonone (tosome (tcon (Dt.int 2)))) (ttup (tacons (tcall rLen (tacons (tvar 6) tanil)) tanil))) (gsub (tvar 8) (tneg (tcon (Dt.int 1))))) (tseq (tasg (ttup (tacons (ttup (tacons (tcon (Dt.str (Str.ofString "old"))) (tacons (tcon (Dt.int 7)) tanil))) (tacons (ttup (tacons (tcon (Dt.str (Str.ofString "hand"))) (tacons (tcon (Dt.int 0)) tanil))) (tacons (ttup (tacons (tcon (Dt.str (Str.ofString "shelf"))) (tacons (tcon (Dt.int 2)) tanil))) tanil)))) (gname 11)) (tseq (tasg (tbin L3.rAdd (tvar 6) (ttup (tacons (ttup (tacons (tcon (Dt.str (Str.ofString "on"))) (tacons (ttup (tacons (tcon (Dt.str (Str.ofString "hand"))) (tacons (tbin L3.rSub (tvar 4) (tcon (Dt.int 1))) tanil))) (tacons (tbin rIxD (tbin rIxD (tvar 6) (tcon (Dt.int 0))) (tcon (Dt.int 2))) (tacons (tvar 11) (tacons (tcon (Dt.int 7)) tanil)))))) tanil))) (gname 6)) tnext))) tnext) (tseq (tret (ttup (tacons (tbin rMod (tcall spCellAt (tacons (tvar 0) (tacons (tcon (Dt.int 10)) tanil))) (tcon (Dt.int 65536))) (tacons (tvar 4) (tacons (tcall rTuple (tacons (tvar 8) tanil)) (tacons (tvar 6) tanil)))))) tnext))))
theorem rd_hoT {Pd : VD} {s0 s : Sto} {sc : Nat} {way : Int} {t : Bool} {z : Int} {many numbers rn : Nat} {es : List Dt} {left : Int} {c p o : Option Dt} {rs : List Rw} {ns : List Int} (x0 : ExtS s0 s) (hn0 : s0.length ≤ rn) (hsc : s0[sc]? = some (.ro (ns.map .int))) (hr : RowsAt s rn rs 240) (he1 : 1 ≤ es.length) (hes : es.length ≤ 4) (h5 : ∀ e ∈ es, Five e) (n1 : 1 ≤ numbers) (n2 : numbers < many)
    (hP : ∀ (rs : List Rw) (es : List Dt) a b st', ExtS s0 st' → (∀ r ∈ rs, OkR r) → rs.length ≤ 300 → es.length ≤ 10 → Pd (.tup [a, b, .tup (rs.map rowD), .tup es]) st') :
    hoT (Ed Pd) (RH sc way t z many numbers es left rn c p o) s := by
  show tseq _ _ (Ed Pd) _ s
  refine seqS ?_
  simp only [tdrop, tappend, tcall, tacons, tanil, tbin, tvar, tcon, rLen, seqOf, List.getElem?_cons_zero, List.getElem?_cons_succ]
  refine ⟨sc, 10, ns, rfl, x0 _ _ hsc, fun x => ?_⟩
  refine ⟨cdiv (by decide) (by decide), ?_⟩
  show spLast [.int (x / 2), .int way, .int (numbers : Int), .int (many : Int), .int (es.length : Int)] s _
  refine ⟨x / 2, way, numbers, many, es.length, rfl, n1, n2, he1, hes, fun r s1 x1 ok => ?_⟩
  have h1 := x1 _ _ hr.1
  simp only [h1]
  have hl := hr.2.2
  refine ⟨by rw [List.length_map, sizeLine_eq]; omega, ?_⟩
  refine rd_hoU (s0 := s0) (rs := rs) (r := r) (extset (x0.trans x1) hn0) hn0 hsc ?_ he1 hes h5 hP
  refine ⟨by rw [get_set_self h1, List.map_append]; rfl, fun q hq => ?_, by simp; omega⟩
  rcases List.mem_append.mp hq with hq | hq
  · exact hr.2.1 q hq
  · have : q = r := by simpa using hq
    rw [this]; exact ok
theorem rd_hoL {Pd : VD} {s0 s : Sto} {sc : Nat} {way : Int} {t : Bool} {z : Int} {many numbers rn : Nat} {es : List Dt} {left : Int} {rs : List Rw} {ns : List Int} (x0 : ExtS s0 s) (hn0 : s0.length ≤ rn) (hsc : s0[sc]? = some (.ro (ns.map .int))) (hnl : ns.length ≤ 63) (hr : RowsAt s rn rs 40) (he1 : 1 ≤ es.length) (hes : es.length ≤ 4) (h5 : ∀ e ∈ es, Five e) (n1 : 1 ≤ numbers) (n2 : numbers < many) (n3 : many ≤ 16)
    (hP : ∀ (rs : List Rw) (es : List Dt) a b st', ExtS s0 st' → (∀ r ∈ rs, OkR r) → rs.length ≤ 300 → es.length ≤ 10 → Pd (.tup [a, b, .tup (rs.map rowD), .tup es]) st') :
    hoL (Ed Pd) (RH sc way t z many numbers es left rn none none none) s := by
  have hsc1 := x0 _ _ hsc
  obtain ⟨cut, hcut⟩ : ∃ cut : List Int, L3.cutD (SO.ro (ns.map Dt.int)).items (some 11) (some 63) = cut.map .int ∧ cut.length ≤ 63 := by
    refine ⟨(ns.drop (HT.sIx (ns.map Dt.int).length 0 (some 11))).take (HT.sIx (ns.map Dt.int).length (ns.map Dt.int).length (some 63) - HT.sIx (ns.map Dt.int).length 0 (some 11)), ?_, ?_⟩
    · show L3.cutD (ns.map Dt.int) (some 11) (some 63) = _
      unfold L3.cutD
      rw [List.map_take, List.map_drop]
    · rw [List.length_take, List.length_drop]; omega
  obtain ⟨hcut, hcl⟩ := hcut
  show tseq _ _ (Ed Pd) _ s
  refine seqS ?_
  simp only [tfor, iseq, tsliceA, tvar, tosome, tcon, List.getElem?_cons_zero, hsc1]
  rw [hcut]
  have g1 : (s ++ [SO.rw (cut.map .int)])[s.length]? = some (.rw (cut.map .int)) := get_new
  have x1 : ExtS s (s ++ [SO.rw (cut.map .int)]) := .app _ _
  have hrn : rn < s.length := lt_of_get hr.1
  generalize hsl : s.length = sl at g1 hrn
  generalize s ++ [SO.rw (cut.map .int)] = s1 at g1 x1
  have sq : ∀ {s' : Sto}, s'[sl]? = some (.rw (cut.map .int)) → seqOf s' (.lst sl) = some (cut.map .int) := fun {s'} h => by
    show (s'[sl]?).map SO.items = _
    rw [h]; rfl
  show (match seqOf s1 (.lst sl) with
    | some xs => forW xs (fun st' => seqOf st' (.lst sl) = some xs) (gname 9) hoB _ _ s1
    | none => False)
  rw [sq g1]
  refine ⟨fun i ρ s' => (∃ rn c p, ρ = RH sc way t z many numbers es left rn c p none ∧ s0.length ≤ rn ∧ rn ≠ sl ∧ ∃ rs, RowsAt s' rn rs (40 + 2 * i)) ∧ ExtS s0 s' ∧ s'[sl]? = some (.rw (cut.map .int)), ⟨⟨rn, _, _, rfl, hn0, by omega, rs, x1 _ _ hr.1, hr.2⟩, x0.trans x1, g1⟩, fun _ _ _ _ q => sq q.2.2, ?_, ?_⟩
  · rintro i d ρ s' hd ⟨⟨rn, c, p, rfl, hrn0, hrs, rs, hr'⟩, hx, hsl'⟩
    obtain ⟨v, hv, rfl⟩ : ∃ v, cut[i]? = some v ∧ d = .int v := by
      rw [List.getElem?_map] at hd
      cases e : cut[i]? with
      | none => rw [e] at hd; cases hd
      | some v => rw [e] at hd; exact ⟨v, rfl, (Option.some.inj hd).symm⟩
    have hil := (List.getElem?_eq_some_iff.mp hv).1
    have hlen := hr'.2.2
    show tseq _ _ _ (RH sc way t z many numbers es left rn (some (.int v)) p none) s'
    refine seqA ?_
    simp only [tcall, tacons, tanil, tbin, tlst, tvar, tcon, List.getElem?_cons_zero, List.getElem?_cons_succ]
    refine ⟨cdiv (by decide) (by decide), z10 8 (by decide), ?_⟩
    refine ⟨v / 3, way, s'.length, rowB, rfl, get_new, by decide, by decide, fun ps s2 np x2 hnp hpin => ?_⟩
    have x2' : ExtS s' s2 := (ExtS.app _ _).trans x2
    have hr2 := x2' _ _ hr'.1
    show tseq _ _ _ (RH sc way t z many numbers es left rn (some (.int v)) (some (.lst np)) none) s2
    refine seqS (ifS (b := t && decide (v % 3 = 1)) (st' := s2) (andB (fun P hp => hp) fun _ => eqI fun P hp => ⟨by decide, hp⟩) (fun _ => ?_) fun _ => ?_)
    · refine seqA ?_
      simp only [tbin, tcall, tacons, tanil, tvar, rLen, seqOf, List.getElem?_cons_zero, List.getElem?_cons_succ]
      show spItems [.lst np, .int (numbers : Int), .int (es.length : Int)] s2 _
      refine ⟨np, numbers, es.length, ps, rfl, hnp, hpin, n1, he1, fun rs2 s3 n3 x3 hrs2 => ?_⟩
      have hr3 := x3 _ _ hr2
      have hl2 := hrs2.2.2
      simp only [L3.rAdd, hr3, hrs2.1]
      refine ⟨by rw [List.length_map, List.length_map, sizeLine_eq]; omega, ?_⟩
      have hxx : ExtS s0 s3 := hx.trans (x2'.trans x3)
      have hsl3 := x3 _ _ (x2' _ _ hsl')
      refine ⟨⟨s3.length, _, _, rfl, ext_le hxx, (by have := lt_of_get hsl3; omega), rs ++ rs2, ?_, fun q hq => ?_, by rw [List.length_append]; omega⟩, hxx.trans (.app _ _), get_app hsl3⟩
      · rw [get_new, List.map_append]
      · exact (List.mem_append.mp hq).elim (hr'.2.1 q) (hrs2.2.1 q)
    · refine seqS ?_
      simp only [tdrop, tappend, tcall, tacons, tanil, tvar, List.getElem?_cons_zero, List.getElem?_cons_succ]
      show spPlain [.lst np, .int (many : Int), .int (numbers : Int)] s2 _
      refine ⟨np, many, numbers, ps, rfl, hnp, hpin, n1, n2, n3, fun r s3 x3 ok => ?_⟩
      have hr3 := x3 _ _ hr2
      simp only [hr3]
      have hxx : ExtS s0 s3 := hx.trans (x2'.trans x3)
      refine ⟨by rw [List.length_map, sizeLine_eq]; omega, ⟨rn, _, _, rfl, hrn0, hrs, rs ++ [r], ?_, fun q hq => ?_, by simp; omega⟩, extset hxx hrn0, get_set_ne (x3 _ _ (x2' _ _ hsl')) hrs⟩
      · rw [get_set_self hr3, List.map_append]; rfl
      · rcases List.mem_append.mp hq with hq | hq
        · exact hr'.2.1 q hq
        · have : q = r := by simpa using hq
          rw [this]; exact ok
  · rintro ρ s' ⟨⟨rn, c, p, rfl, hrn0, hrs, rs, hr'⟩, hx, hsl'⟩
    rw [List.length_map] at hr'
    exact rd_hoT hx hrn0 hsc ⟨hr'.1, hr'.2.1, by have := hr'.2.2; omega⟩ he1 hes h5 n1 n2 hP
theorem rd__law_host {ds : List Dt} {st : Sto} {Pd : VD} (h : spHost ds st Pd) : t__law_host (Ed Pd) (startD ["script", "way", "items", "sizes", "many", "numbers", "exits", "left_out", "rows", "cell", "parts", "odd"] ds) st := by
  obtain ⟨sc, way, t, ns, rfl, hsc, hnl, w0, w1, hP⟩ := h
  show t__law_host (Ed Pd) [some (.lst sc), some (.int way), some (.bl t), none, none, none, none, none, none, none, none, none] st
  refine seqA ?_
  simp only [tbin, tcall, tacons, tanil, tvar, tcon, List.getElem?_cons_zero, List.getElem?_cons_succ]
  refine ⟨sc, 5, ns, rfl, hsc, fun x => ⟨cdiv (by decide) (by decide), ?_⟩⟩
  show tseq _ _ (Ed Pd) [some (.lst sc), some (.int way), some (.bl t), some (.int (x / 4)), none, none, none, none, none, none, none, none] st
  generalize x / 4 = z
  refine seqA ⟨by decide, ?_⟩
  obtain ⟨many, hm, m1, m2⟩ : ∃ m : Nat, 3 + z % 14 = (m : Int) ∧ 3 ≤ m ∧ m ≤ 16 := ⟨(3 + z % 14).toNat, by omega, by omega, by omega⟩
  simp only [L3.rAdd, hm]
  show tseq _ _ (Ed Pd) [some (.lst sc), some (.int way), some (.bl t), some (.int z), some (.int (many : Int)), none, none, none, none, none, none, none] st
  refine seqA ?_
  simp only [tbin, tvar, tcon, rDiv, rMod, L3.rAdd, L3.rSub, List.getElem?_cons_zero, List.getElem?_cons_succ]
  refine ⟨cdiv (by decide) (by decide), by show (0 : Int) < (many : Int) - 1; omega, ?_⟩
  have hmod0 := Int.emod_nonneg (z / 14) (show (many : Int) - 1 ≠ 0 by omega)
  have hmod1 := Int.emod_lt_of_pos (z / 14) (show (0 : Int) < (many : Int) - 1 by omega)
  obtain ⟨numbers, hn, n1, n2⟩ : ∃ m : Nat, 1 + z / 14 % ((many : Int) - 1) = (m : Int) ∧ 1 ≤ m ∧ m < many := ⟨(1 + z / 14 % ((many : Int) - 1)).toNat, by omega, by omega, by omega⟩
  rw [hn]
  show tseq _ _ (Ed Pd) [some (.lst sc), some (.int way), some (.bl t), some (.int z), some (.int (many : Int)), some (.int (numbers : Int)), none, none, none, none, none, none] st
  refine seqA ?_
  simp only [tcall, tacons, tanil, tvar, List.getElem?_cons_zero, List.getElem?_cons_succ]
  refine ⟨sc, numbers, many, way, ns, rfl, hsc, w0, w1, n1, n2, fun es s1 x1 he1 hes h5 => ?_⟩
  show tseq _ _ (Ed Pd) [some (.lst sc), some (.int way), some (.bl t), some (.int z), some (.int (many : Int)), some (.int (numbers : Int)), some (.tup es), none, none, none, none, none] s1
  refine seqA ?_
  simp only [tbin, tcall, tacons, tanil, tvar, tcon, rDiv, rMod, rShl, List.getElem?_cons_zero, List.getElem?_cons_succ]
  refine ⟨cdiv (by decide) (by decide), ⟨by decide, by decide, by decide⟩, by decide, cdiv (by decide) (by decide), by decide, rfl, rfl, ?_⟩
  refine ⟨.inl ?_, ?_⟩
  · have h0 := Int.emod_nonneg (z / 800) (show (1 : Int) * 2 ^ (20 : Int).toNat ≠ 0 by decide)
    have h1 := Int.emod_lt_of_pos (z / 800) (show (0 : Int) < 1 * 2 ^ (20 : Int).toNat by decide)
    have h2 : (1 : Int) * 2 ^ (20 : Int).toNat = 1048576 := by decide
    rw [h2] at h0 h1 ⊢
    omega
  generalize (z / 800 % (1 * 2 ^ (20 : Int).toNat) * _ : Int) = left
  show tseq _ _ (Ed Pd) [some (.lst sc), some (.int way), some (.bl t), some (.int z), some (.int (many : Int)), some (.int (numbers : Int)), some (.tup es), some (.int left), none, none, none, none] s1
  refine seqA ?_
  simp only [tcall, tacons, tanil, tvar, List.getElem?_cons_zero, List.getElem?_cons_succ]
  refine ⟨many, numbers, left, rfl, n1, n2, m2, fun rs s2 rn x2 hle hr => ?_⟩
  exact rd_hoL (s0 := s1) x2 hle (x1 _ _ hsc) hnl hr he1 hes h5 n1 n2 m2 fun rs es a b st' hx h1 h2 h3 => hP rs es a b st' (x1.trans hx) h1 h2 h3
end K85
namespace K85
open PySem PySem.Spec PyProof.Rows L2 L3 K02
noncomputable abbrev t_law : TSD := (tseq (tasg (tbin rMod (tcall spCellAt (tacons (tvar 0) (tacons (tcon (Dt.int 10)) tanil))) (tcon (Dt.int 2))) (gname 1)) (tseq (tasg (tcall spHost (tacons (tvar 0) (tacons (tvar 1) (tacons (tcon (Dt.bl true)) tanil)))) (gname 2)) (tseq (tfor (irng1 (tbin L3.rAdd (tcall rLen (tacons (tbin rIxD (tvar 2) (tcon (Dt.int 3))) tanil)) (tcon (Dt.int 2)))) (gname 3) (tseq (tasg (tlst tanil) (gname 4)) (tseq (tfor (ienumT (tbin rIxD (tvar 2) (tcon (Dt.int 2)))) (gunpack 2 (gscons (gname 5) (gscons (gname 6) gsnil))) (tseq (tifS (tbool (tbin (rCmpI fun i j => decide (j < i)) (tcall rLen (tacons (tcomp (iseq (tcall spNamed (tacons (tvar 6) tanil))) (tbool (tbin (rEqD false) (tvar 0) (tvar 1))) (tvar 0) [(3, "number")]) tanil)) (tcon (Dt.int 0)))) (tseq (tdrop (tappend (tvar 4) (tbin L3.rAdd (tvar 5) (tcon (Dt.int 1))))) tnext) tnext) tnext)) (tseq (tifS (tnotB (tbool (tcall (spSame 4) (tacons (tcall spRowsTo (tacons (tvar 2) (tacons (tvar 3) tanil))) (tacons (tcall rTuple (tacons (tvar 4) tanil)) tanil))))) (tseq (tret (tcon (Dt.bl false))) tnext) tnext) tnext)))) (tseq (tret (tcon (Dt.bl true))) tnext))))
noncomputable def lawI : TSD := (tseq (tifS (tbool (tbin (rCmpI fun i j => decide (j < i)) (tcall rLen (tacons (tcomp (iseq (tcall spNamed (tacons (tvar 6) tanil))) (tbool (tbin (rEqD false) (tvar 0) (tvar 1))) (tvar 0) [(3, "number")]) tanil)) (tcon (Dt.int 0)))) (tseq (tdrop (tappend (tvar 4) (tbin L3.rAdd (tvar 5) (tcon (Dt.int 1))))) tnext) tnext) tnext)
noncomputable abbrev RK (way : Int) (h : Dt) (n d a r : Option Dt) : Rho := [some (.lst 0), some (.int way), some h, n, d, a, r]
theorem has {xs : List Int} {n : Int} : decide (((0 : Nat) : Int) < (((xs.filter fun x => x == n).length : Nat) : Int)) = xs.contains n := by
  induction xs with
  | nil => rfl
  | cons x xs ih =>
    rw [List.contains_cons]
    cases e : (x == n) with
    | true =>
      have e2 : (n == x) = true := by rw [Bool.beq_comm]; exact e
      rw [e2, List.filter_cons, if_pos e]
      simp <;> omega
    | false =>
      have e2 : (n == x) = false := by rw [Bool.beq_comm]; exact e
      rw [e2, List.filter_cons, if_neg (by rw [e]; exact Bool.false_ne_true), ih]; rfl
theorem okT {xs : List Int} : okS 4 (.tup (xs.map Dt.int)) = true := by
  show (xs.map Dt.int).all (okS 3) = true
  rw [List.all_map, List.all_eq_true]
  intro x _; rfl
theorem rd_law {ds : List Dt} {st : Sto} {Pd : VD} (h : spLaw ds st Pd) : t_law (Ed Pd) (startD ["script", "way", "host", "number", "due", "at", "row"] ds) st := by
  obtain ⟨ns, rfl, rfl, hl, hP⟩ := h
  show t_law (Ed Pd) [some (.lst 0), none, none, none, none, none, none] [SO.ro (ns.map .int)]
  refine seqA ?_
  simp only [tbin, tcall, tacons, tanil, tvar, tcon, List.getElem?_cons_zero, List.getElem?_cons_succ]
  refine ⟨0, 10, ns, rfl, rfl, fun x => ⟨by decide, ?_⟩⟩
  have hw0 := Int.emod_nonneg x (show (2 : Int) ≠ 0 by decide)
  have hw1 := Int.emod_lt_of_pos x (show (0 : Int) < 2 by decide)
  generalize x % 2 = way at hw0 hw1
  show tseq _ _ (Ed Pd) [some (.lst 0), some (.int way), none, none, none, none, none] _
  refine seqA ?_
  simp only [tcall, tacons, tanil, tvar, tcon, List.getElem?_cons_zero, List.getElem?_cons_succ]
  refine ⟨0, way, true, ns, rfl, rfl, hl, hw0, hw1, fun rs es a b s1 x1 ok hrl hel => ?_⟩
  generalize hh : Dt.tup [a, b, .tup (rs.map rowD), .tup es] = host
  show tseq _ _ (Ed Pd) (RK way host none none none none) s1
  have at3 : ∀ {s : Sto} {P : VD}, P (.tup es) s → rIxD host (.int 3) s P := fun {s P} hp => by
    rw [← hh]
    show (match atI [a, b, .tup (rs.map rowD), .tup es] 3 with
      | some d => P d s
      | none => False)
    rw [show atI [a, b, Dt.tup (rs.map rowD), .tup es] 3 = some (.tup es) from atI_nat (j := 3) rfl]
    exact hp
  have at2 : ∀ {s : Sto} {P : VD}, P (.tup (rs.map rowD)) s → rIxD host (.int 2) s P := fun {s P} hp => by
    rw [← hh]
    show (match atI [a, b, .tup (rs.map rowD), .tup es] 2 with
      | some d => P d s
      | none => False)
    rw [show atI [a, b, Dt.tup (rs.map rowD), .tup es] 2 = some (.tup (rs.map rowD)) from atI_nat (j := 2) rfl]
    exact hp
  refine seqS ?_
  refine forR (n := es.length + 2) ?_ (by omega) ?_
  · intro P hp
    simp only [tbin, tcall, tacons, tanil, tvar, tcon, List.getElem?_cons_zero, List.getElem?_cons_succ]
    refine at3 ?_
    show P (.int ((es.length : Int) + 2)) s1
    have e : (es.length : Int) + 2 = ((es.length + 2 : Nat) : Int) := by omega
    rw [e]; exact hp
  refine ⟨fun _ ρ s => ∃ n d a r, ρ = RK way host n d a r, ⟨_, _, _, _, rfl⟩, fun _ _ _ _ _ => trivial, ?_, ?_⟩
  · rintro i d ρ s hd ⟨n0, d0, a0, r0, rfl⟩
    obtain ⟨hi, rfl⟩ := range_get hd
    rw [Int.zero_add]
    show tseq _ _ _ (RK way host (some (.int (i : Int))) d0 a0 r0) s
    refine seqA ⟨Nat.zero_le _, ?_⟩
    show tseq _ _ _ (RK way host (some (.int (i : Int))) (some (.lst s.length)) a0 r0) (s ++ [SO.rw []])
    have g0 : (s ++ [SO.rw []])[s.length]? = some (.rw []) := get_new
    generalize s ++ [SO.rw []] = s2 at g0
    generalize s.length = du at g0
    refine seqS ?_
    simp only [tfor, ienumT, tbin, tvar, tcon, List.getElem?_cons_zero, List.getElem?_cons_succ]
    refine at2 ?_
    show forW (enumD 0 (rs.map rowD)) (fun _ => True) _ lawI _ _ s2
    refine ⟨fun j ρ s => (∃ a r, ρ = RK way host (some (.int (i : Int))) (some (.lst du)) a r) ∧ s[du]? = some (.rw ((rowsTo 1 (rs.take j) (i : Int)).map .int)), ⟨⟨_, _, rfl⟩, g0⟩, fun _ _ _ _ _ => trivial, ?_, ?_⟩
    · rintro j d ρ s3 hd3 ⟨⟨a1, r1, rfl⟩, hdu⟩
      obtain ⟨w, hw, rfl⟩ := enum_get hd3
      obtain ⟨r, hr, rfl⟩ : ∃ r, rs[j]? = some r ∧ w = rowD r := by
        rw [List.getElem?_map] at hw
        cases e : rs[j]? with
        | none => rw [e] at hw; cases hw
        | some r => rw [e] at hw; exact ⟨r, rfl, (Option.some.inj hw).symm⟩
      have hjl := (List.getElem?_eq_some_iff.mp hr).1
      have hok := ok r (List.mem_of_getElem? hr)
      refine ⟨rfl, ?_⟩
      simp only [gscons, gname, gsnil]
      show tseq _ _ _ (RK way host (some (.int (i : Int))) (some (.lst du)) (some (.int ((0 + j : Nat) : Int))) (some (rowD r))) s3
      have et : rs.take (j + 1) = rs.take j ++ [r] := by rw [List.take_add_one, hr]; rfl
      have hlt : (rs.take j).length = j := by rw [List.length_take]; omega
      refine seqS ?_
      simp only [tifS, tbool, tbin, tcall, tacons, tanil, tcomp, iseq, tvar, tcon, capρ, List.map_cons, List.map_nil, List.getElem?_cons_zero, List.getElem?_cons_succ, Option.join_some]
      refine ⟨r, rfl, hok, fun s4 n4 x4 h4 => ?_⟩
      have sq4 : ∀ {s' : Sto}, s'[n4]? = some (.rw ((eOf r).map .int)) → seqOf s' (.lst n4) = some ((eOf r).map .int) := fun {s'} h => by
        show (s'[n4]?).map SO.items = _
        rw [h]; rfl
      simp only [sq4 h4]
      refine ⟨fun k ys s' => ys = (((eOf r).take k).filter fun x => x == (i : Int)).map Dt.int ∧ s' = s4, ⟨rfl, rfl⟩, ?_, ?_, ?_⟩
      · rintro _ ys s' _ ⟨rfl, rfl⟩
        exact sq4 h4
      · rintro k d ys s' hd' ⟨rfl, rfl⟩
        obtain ⟨v, hv, rfl⟩ : ∃ v, (eOf r)[k]? = some v ∧ d = .int v := by
          rw [List.getElem?_map] at hd'
          cases e : (eOf r)[k]? with
          | none => rw [e] at hd'; cases hd'
          | some v => rw [e] at hd'; exact ⟨v, rfl, (Option.some.inj hd').symm⟩
        have hkl := (List.getElem?_eq_some_iff.mp hv).1
        have hel5 : (eOf r).length ≤ 5 := by
          unfold eOf partsOf
          rw [List.length_map]
          refine Nat.le_trans (List.length_filter_le _ _) ?_
          rw [List.length_zip]
          have := (form_ok hok.know).2
          have h2 : (cs (form r.w)).length = (form r.w).length := Array.length_toList
          omega
        refine ⟨?_, ?_⟩
        · rw [List.length_map]
          refine Nat.lt_of_le_of_lt (List.length_filter_le _ _) ?_
          rw [List.length_take, sizeLine_eq]; omega
        · show okD 8 _ = true ∧ okD 8 _ = true ∧ (if ((v == (i : Int)) != false) = true then _ else _)
          refine ⟨rfl, rfl, ?_⟩
          rw [bneF]
          cases e : (v == (i : Int)) with
          | true =>
            refine iteT ⟨?_, rfl⟩
            rw [List.take_add_one, hv, List.filter_append, List.map_append]
            simp [e]
          | false =>
            refine iteF ⟨?_, rfl⟩
            rw [List.take_add_one, hv, List.filter_append, List.map_append]
            simp [e]
      · rintro ys s' ⟨rfl, rfl⟩
        rw [List.length_map, List.take_length]
        have hlen : ∀ {P : VD}, P (.int (((((eOf r).filter fun x => x == (i : Int)).length : Nat) : Int))) (s' ++ [SO.rw (((eOf r).filter fun x => x == (i : Int)).map Dt.int)]) → rLen [.lst s'.length] (s' ++ [SO.rw (((eOf r).filter fun x => x == (i : Int)).map Dt.int)]) P := fun {P} hp => by
          show (match ((s' ++ [SO.rw (((eOf r).filter fun x => x == (i : Int)).map Dt.int)])[s'.length]?).map SO.items with
            | some xs => P (.int xs.length) _
            | none => False)
          rw [get_new]
          show P (.int ((((eOf r).filter fun x => x == (i : Int)).map Dt.int).length : Int)) _
          rw [List.length_map]; exact hp
        refine hlen ?_
        have x5 : ExtS s3 (s' ++ [SO.rw (((eOf r).filter fun x => x == (i : Int)).map Dt.int)]) := x4.trans (.app _ _)
        generalize s' ++ [SO.rw (((eOf r).filter fun x => x == (i : Int)).map Dt.int)] = s5 at x5
        show (if decide (((0 : Nat) : Int) < ((((eOf r).filter fun x => x == (i : Int)).length : Nat) : Int)) = true then _ else _)
        rw [has]
        have hdu5 := x5 _ _ hdu
        cases e : (eOf r).contains (i : Int) with
        | true =>
          refine iteT ?_
          refine seqS ?_
          simp only [tdrop, tappend, tbin, tvar, tcon, L3.rAdd, List.getElem?_cons_zero, List.getElem?_cons_succ, hdu5]
          have hrt := rowsTo_len (rs.take j) 1 (i : Int)
          refine ⟨by rw [List.length_map, sizeLine_eq]; omega, ⟨_, _, rfl⟩, ?_⟩
          rw [get_set_self hdu5, et, rowsTo_app, hlt, e, if_pos rfl, List.map_append]
          have e2 : ((0 + j : Nat) : Int) + 1 = ((1 + j : Nat) : Int) := by omega
          rw [e2]; rfl
        | false =>
          refine iteF ?_
          refine ⟨⟨_, _, rfl⟩, ?_⟩
          rw [hdu5, et, rowsTo_app, hlt, e]
          simp
    · rintro ρ s3 ⟨⟨a1, r1, rfl⟩, hdu⟩
      rw [enum_len, List.length_map, List.take_length] at hdu
      show tseq _ _ _ (RK way host (some (.int (i : Int))) (some (.lst du)) a1 r1) s3
      refine seqS ?_
      simp only [tifS, tnotB, tbool, tcall, tacons, tanil, tvar, List.getElem?_cons_zero, List.getElem?_cons_succ]
      refine ⟨rs, (i : Int), a, b, .tup es, by rw [hh], ok, hrl, fun s4 x4 => ?_⟩
      show (match (s4[du]?).map SO.items with
        | some xs => _
        | none => False)
      rw [x4 _ _ hdu]
      refine ⟨.tup ((rowsTo 1 rs (i : Int)).map .int), rfl, okT, fun s5 => iteF ?_⟩
      exact ⟨_, _, _, _, rfl⟩
  · rintro ρ s ⟨n0, d0, a0, r0, rfl⟩
    exact hP s
end K85
namespace K85
open PySem PySem.Spec PyProof.Rows L2 L3 K02
local macro_rules | `(tactic| k_dat $x:ident "e") => `(tactic| (case $x:ident => walk_at "d_e"))
local macro_rules | `(tactic| k_dat $x:ident "r") => `(tactic| (case $x:ident => rfl))
local macro_rules | `(tactic| k_dat $x:ident "m") => `(tactic| (case $x:ident => assumption))
local macro_rules | `(tactic| k_dat $x:ident "d") => `(tactic| (case $x:ident => decide))
local macro_rules | `(tactic| k_dat $x:ident "a") => `(tactic| (case $x:ident => walk_at "d_a"))
local macro_rules | `(tactic| k_dat $x:ident "t") => `(tactic| (case $x:ident => walk_at "d_t"))
local macro_rules | `(tactic| k_dat $x:ident "s") => `(tactic| (case $x:ident => walk_at "d_ss"))
local macro_rules | `(tactic| k_dat $x:ident "i") => `(tactic| (case $x:ident => walk_at "d_i"))
local macro_rules | `(tactic| k_dat $x:ident "n") => `(tactic| (case $x:ident => first | exact nomark _ | with_unfolding_all rfl))
local macro_rules | `(tactic| k_dat $n:num "zv0") => `(tactic| ((with_reducible refine' de_var $n ?n ?v ?d ?c); k_dat n "r"; (case v => first | exact Or.inl rfl | exact Or.inr (Or.inl rfl)); k_dat d "d"; k_dat c "d"))
local macro_rules | `(tactic| k_dat $n:num "zc0") => `(tactic| ((with_reducible refine' ds_comp $n _ ?hc ?N ?S ?hx ?nd ?i ?f ?e ?y ?yl ?sw ?hs); k_dat y "r"; k_dat hc "r"; k_dat N "m"; (case S => exact sc_hint (by assumption) (by rfl)); k_dat hx "r"; (case nd => decide +kernel); k_dat sw "r"; k_dat yl "r"; k_dat i "i"; (case f => (intro _ _ _ _; walk_at "d_if")); (case e => (intro _ _ _ _; walk_at "d_e")); (case hs => (intro _; rfl))))
local macro_rules | `(tactic| k_dat $n:num "zc1") => `(tactic| ((with_reducible refine' ds_comp $n _ ?hc ?N ?S ?hx ?nd ?i ?f ?e ?y ?yl ?sw ?hs); k_dat y "r"; k_dat hc "r"; k_dat N "m"; (case S => exact sc_hint2 (by assumption) (by rfl)); k_dat hx "r"; (case nd => decide +kernel); k_dat sw "r"; k_dat yl "r"; k_dat i "i"; (case f => (intro _ _ _ _; walk_at "d_if")); (case e => (intro _ _ _ _; walk_at "d_e")); (case hs => (intro _; rfl))))
local macro_rules | `(tactic| k_dat $n:num "zc2") => `(tactic| ((with_reducible refine' ds_comp $n [] ?hc ?N ?S ?hx ?nd ?i ?f ?e ?y ?yl ?sw ?hs); k_dat y "r"; k_dat hc "r"; k_dat N "m"; (case S => exact sc_of (by rfl)); k_dat hx "r"; (case nd => decide +kernel); k_dat sw "r"; k_dat yl "r"; k_dat i "i"; (case f => (intro _ _ _ _; walk_at "d_if")); (case e => (intro _ _ _ _; walk_at "d_e")); (case hs => (intro _; rfl))))
local macro_rules | `(tactic| k_dat $n:num "zs0") => `(tactic| ((with_reducible refine' ds_set $n ?N ?e ?i ?x ?s ?f); k_dat i "r"; k_dat s "r"; k_dat N "m"; (case x => first | exact Or.inl rfl | exact Or.inr rfl); (case f => first | exact .inl rfl | exact .inr rfl); k_dat e "e"))
local macro_rules | `(tactic| k_dat $n:num "zg0") => `(tactic| ((with_reducible refine' dg_name $n ?nd ?n ?x ?f); k_dat n "r"; k_dat nd "m"; (case x => first | exact Or.inl rfl | exact Or.inr rfl); (case f => first | exact .inl rfl | exact .inr rfl)))
local macro_rules | `(tactic| k_dat $n:num "zu0") => `(tactic| ((with_reducible refine' dg_unpack $n ?c ?g ?n ?s); k_dat n "r"; k_dat c "r"; (case g => walk_at "d_gs"); k_dat s "r"))
local macro_rules | `(tactic| k_dat $l:ident "s0") => `(tactic| ((with_reducible refine' $l ?v ?r); k_dat v "e"; (case r => walk_at "d_pk")))
local macro_rules | `(tactic| k_dat $l:ident "s1") => `(tactic| ((with_reducible refine' $l ?a ?b); k_dat a "e"; k_dat b "e"))
local macro_rules | `(tactic| k_dat $l:ident "s2") => `(tactic| ((with_reducible refine' $l ?a); k_dat a "e"))
local macro_rules | `(tactic| k_dat $l:ident "s3") => `(tactic| ((with_reducible refine' $l ?f ?n ?r ?a ?g ?db ?he ?hpl); k_dat f "m"; k_dat n "r"; (case r => walk_at "d_room"); k_dat a "a"; k_dat g "r"; k_dat db "d"; k_dat he "r"; k_dat hpl "r"))
local macro_rules | `(tactic| k_dat $l:ident "s4") => `(tactic| ((with_reducible refine' $l ?hu ?a ?b ?m); (case hu => walk_at "d_hu"); k_dat a "e"; k_dat b "e"; k_dat m "n"))
local macro_rules | `(tactic| k_dat $l:ident "s5") => `(tactic| ((with_reducible refine' $l ?a ?b ?m); k_dat a "e"; k_dat b "e"; k_dat m "n"))
local macro_rules | `(tactic| k_dat $l:ident "s6") => `(tactic| ((with_reducible refine' $l ?c ?m ?a ?g ?he ?hpl); k_dat c "r"; k_dat m "m"; k_dat a "a"; k_dat g "r"; k_dat he "r"; k_dat hpl "r"))
local macro_rules | `(tactic| k_dat $l:ident "s7") => `(tactic| ((with_reducible refine' $l ?a); k_dat a "a"))
local macro_rules | `(tactic| k_dat $l:ident "s8") => `(tactic| ((with_reducible refine' $l ?a ?l ?h); k_dat a "e"; (case l => walk_at "d_o"); (case h => walk_at "d_o")))
local macro_rules | `(tactic| k_dat $l:ident "s9") => `(tactic| ((with_reducible refine' $l ?m ?a ?g ?he ?hpl); k_dat m "m"; k_dat a "a"; k_dat g "r"; k_dat he "r"; k_dat hpl "r"))
local macro_rules | `(tactic| k_dat $l:ident "s10") => `(tactic| ((with_reducible refine' $l ?m ?g); k_dat m "m"; k_dat g "r"))
local macro_rules | `(tactic| k_dat $l:ident "s11") => `(tactic| ((with_reducible refine' $l ?a ?b ?c ?m); k_dat a "e"; k_dat b "e"; k_dat c "e"; (case m => with_unfolding_all rfl)))
local macro_rules | `(tactic| k_dat $l:ident "s12") => `(tactic| ((with_reducible refine' $l ?hu ?a ?b ?m); (case hu => exact hu1 (by assumption)); k_dat a "e"; k_dat b "e"; k_dat m "n"))
local macro_rules | `(tactic| k_dat $l:ident "s13") => `(tactic| ((with_reducible refine' $l ?a); k_dat a "t"))
local macro_rules | `(tactic| k_dat $l:ident "s14") => `(tactic| ((with_reducible refine' $l ?a ?b); k_dat a "t"; (case b => walk_at "d_w")))
local macro_rules | `(tactic| k_dat $l:ident "s15") => `(tactic| ((with_reducible refine' $l ?m ?a ?g ?s); k_dat m "m"; k_dat a "e"; k_dat g "r"; k_dat s "r"))
local macro_rules | `(tactic| walk_at "d_room") => `(tactic| first
  | exact Room.mono (by assumption) (by decide)
  | exact Room.mono (by assumption) (by omega))
local macro_rules | `(tactic| walk_at "d_hu") => `(tactic| first
  | exact hu16 (by assumption))
local macro_rules | `(tactic| walk_at "d_ps") => `(tactic| first
  | (with_reducible exact dps_nil)
  | ((with_reducible refine' dps_cons ?v ?r); k_dat v "e"; (case r => walk_at "d_ps")))
local macro_rules | `(tactic| walk_at "d_pk") => `(tactic| first
  | (with_reducible exact dpk_nil)
  | (k_dat dpk_str "s0"))
local macro_rules | `(tactic| walk_at "d_e") => `(tactic| first
  | (with_reducible exact de_int)
  | (with_reducible exact de_str)
  | (with_reducible exact de_bl)
  | (with_reducible exact de_non)
  | ((with_reducible show DE _ (.Name _ _) _); first
      | (k_dat 0 "zv0")
      | (k_dat 1 "zv0")
      | (k_dat 2 "zv0")
      | (k_dat 3 "zv0")
      | (k_dat 4 "zv0")
      | (k_dat 5 "zv0")
      | (k_dat 6 "zv0")
      | (k_dat 7 "zv0")
      | (k_dat 8 "zv0")
      | (k_dat 9 "zv0")
      | (k_dat 10 "zv0")
      | (k_dat 11 "zv0")
      | (k_dat 12 "zv0")
      | (k_dat 13 "zv0")
      | (k_dat 14 "zv0")
      | (k_dat 15 "zv0"))
  | (k_dat de_neg "s2")
  | (k_dat dx_add "s1")
  | (k_dat dx_sub "s1")
  | (k_dat dx_mul "s1")
  | (k_dat dx_div "s1")
  | (k_dat dx_mod "s1")
  | (k_dat dx_and "s1")
  | (k_dat dx_eq "s4")
  | (k_dat dx_is "s5")
  | (k_dat de_tup "s7")
  | (k_dat de_lst "s7")
  | (k_dat de_sliceA "s8")
  | ((with_reducible refine' de_ix ?a ?b ?s); k_dat a "e"; k_dat b "e"; (case s => exact fun _ _ => rfl))
  | ((with_reducible refine' de_callO ?f ?r ?a ?g ?db ?he ?hpl); k_dat f "m"; (case r => walk_at "d_room"); k_dat a "a"; k_dat g "r"; k_dat db "d"; k_dat he "r"; k_dat hpl "r")
  | (k_dat dx_len "s9")
  | (k_dat dx_isinst "s9")
  | (k_dat dx_tuple "s9")
  | (k_dat dx_list "s9")
  | (k_dat dx_int "s9")
  | (k_dat dx_tyInt "s10")
  | (k_dat dx_tyBool "s10")
  | (k_dat dx_tyStr "s10")
  | (k_dat dx_tyTuple "s10")
  | ((with_reducible refine' de_append ?a ?b ?h1 ?h2 ?h3 ?h4 ?h5); k_dat a "e"; k_dat b "e"; k_dat h1 "r"; k_dat h2 "r"; k_dat h3 "r"; k_dat h4 "r"; k_dat h5 "r")
  | (k_dat de_not "s2")
  | (k_dat de_and "s1")
  | (k_dat de_one "s2")
  | ((with_reducible refine' de_comp _ ?hc ?S ?hx ?nd ?i ?f ?e ?hs); k_dat hc "r"; (case S => exact sc_hint (by assumption) (by rfl)); k_dat hx "r"; (case nd => decide +kernel); k_dat i "i"; (case f => (intro _ _ _ _; walk_at "d_if")); (case e => (intro _ _ _ _; walk_at "d_e")); (case hs => (intro _; rfl)))
  | ((with_reducible refine' de_comp _ ?hc ?S ?hx ?nd ?i ?f ?e ?hs); k_dat hc "r"; (case S => exact sc_hint2 (by assumption) (by rfl)); k_dat hx "r"; (case nd => decide +kernel); k_dat i "i"; (case f => (intro _ _ _ _; walk_at "d_if")); (case e => (intro _ _ _ _; walk_at "d_e")); (case hs => (intro _; rfl)))
  | ((with_reducible refine' de_comp [] ?hc ?S ?hx ?nd ?i ?f ?e ?hs); k_dat hc "r"; (case S => exact sc_of (by rfl)); k_dat hx "r"; (case nd => decide +kernel); k_dat i "i"; (case f => (intro _ _ _ _; walk_at "d_if")); (case e => (intro _ _ _ _; walk_at "d_e")); (case hs => (intro _; rfl)))
  | ((with_reducible refine' de_dict ?h ?hall ?hl ?h0 ?h15 ?hk ?nd); (case h => walk_at "d_pk"); k_dat hall "r"; k_dat hl "r"; (case h0 => exact List.cons_ne_nil _ _); k_dat h15 "d"; k_dat hk "d"; k_dat nd "d")
  | ((with_reducible refine' de_dget2 ?hu ?a ?b ?c ?m); (case hu => exact hu1 (by assumption)); k_dat a "e"; k_dat b "e"; k_dat c "e"; (case m => exact ⟨rfl, rfl, rfl, rfl⟩))
  | ((with_reducible refine' de_topget ?T ?i ?g ?d ?s); k_dat T "m"; k_dat g "r"; k_dat d "d"; (case s => exact fun _ _ => rfl); k_dat i "e")
  | (k_dat dx_shl "s1")
  | (k_dat dx_shr "s1")
  | ((with_reducible refine' de_comp2 _ ?hc ?S ?hx ?hy ?nd ?i ?f ?e ?hs); k_dat hc "r"; (case S => exact sc_hint (by assumption) (by rfl)); k_dat hx "r"; k_dat hy "r"; (case nd => decide +kernel); k_dat i "i"; (case f => (intro _ _ _ _; walk_at "d_if")); (case e => (intro _ _ _ _; walk_at "d_e")); (case hs => (intro _; rfl)))
  | ((with_reducible refine' de_comp2 _ ?hc ?S ?hx ?hy ?nd ?i ?f ?e ?hs); k_dat hc "r"; (case S => exact sc_hint2 (by assumption) (by rfl)); k_dat hx "r"; k_dat hy "r"; (case nd => decide +kernel); k_dat i "i"; (case f => (intro _ _ _ _; walk_at "d_if")); (case e => (intro _ _ _ _; walk_at "d_e")); (case hs => (intro _; rfl)))
  | ((with_reducible refine' de_comp2 [] ?hc ?S ?hx ?hy ?nd ?i ?f ?e ?hs); k_dat hc "r"; (case S => exact sc_of (by rfl)); k_dat hx "r"; k_dat hy "r"; (case nd => decide +kernel); k_dat i "i"; (case f => (intro _ _ _ _; walk_at "d_if")); (case e => (intro _ _ _ _; walk_at "d_e")); (case hs => (intro _; rfl))))
local macro_rules | `(tactic| walk_at "d_a") => `(tactic| first
  | (with_reducible exact da_nil)
  | ((with_reducible refine' da_cons ?a ?b ?h); k_dat a "e"; k_dat b "a"; k_dat h "r"))
local macro_rules | `(tactic| walk_at "d_o") => `(tactic| first
  | (with_reducible exact do_none)
  | (k_dat do_some "s2"))
local macro_rules | `(tactic| walk_at "d_t") => `(tactic| first
  | (k_dat dt_not "s13")
  | ((with_reducible refine' dt_of (dw_and ?a ?b)); k_dat a "t"; (case b => walk_at "d_w"))
  | ((with_reducible refine' dt_of (dw_or ?a ?b)); k_dat a "t"; (case b => walk_at "d_w"))
  | (k_dat dtx_eq "s4")
  | (k_dat dtx_ne "s4")
  | (k_dat dtx_lt "s5")
  | (k_dat dtx_gt "s5")
  | (k_dat dtx_in "s5")
  | (k_dat dtx_is "s5")
  | ((with_reducible refine' dt_val ?a ?h); k_dat a "e"; (case h => (intro _; rfl))))
local macro_rules | `(tactic| walk_at "d_w") => `(tactic| first
  | (k_dat dw_and "s14")
  | (k_dat dw_or "s14")
  | (k_dat dw_and1 "s13")
  | (k_dat dw_or1 "s13"))
local macro_rules | `(tactic| walk_at "d_if") => `(tactic| first
  | (with_reducible exact dif_nil)
  | (k_dat dif_one "s13"))
local macro_rules | `(tactic| walk_at "d_i") => `(tactic| first
  | ((with_reducible refine' di_zip ?m ?a ?b ?g ?s ?s2 ?hpl); k_dat m "m"; k_dat a "e"; k_dat b "e"; k_dat g "r"; k_dat s "r"; k_dat s2 "r"; k_dat hpl "r")
  | ((with_reducible refine' di_enum1 ?m ?a ?b ?g ?s ?hall ?hks ?hpl ?hbk); k_dat m "m"; k_dat a "e"; k_dat b "e"; k_dat g "r"; k_dat s "r"; k_dat hall "r"; k_dat hks "r"; k_dat hpl "r"; (case hbk => exact ⟨_, rfl⟩))
  | (k_dat di_enumT "s15")
  | ((with_reducible refine' di_range2 ?m ?a ?b ?g ?s ?s2); k_dat m "m"; k_dat a "e"; k_dat b "e"; k_dat g "r"; k_dat s "r"; k_dat s2 "r")
  | (k_dat di_range1 "s15")
  | (k_dat di_seq "s2"))
local macro_rules | `(tactic| walk_at "d_g") => `(tactic| first
  | (k_dat 0 "zg0")
  | (k_dat 1 "zg0")
  | (k_dat 2 "zg0")
  | (k_dat 3 "zg0")
  | (k_dat 4 "zg0")
  | (k_dat 5 "zg0")
  | (k_dat 6 "zg0")
  | (k_dat 7 "zg0")
  | (k_dat 8 "zg0")
  | (k_dat 9 "zg0")
  | (k_dat 10 "zg0")
  | (k_dat 11 "zg0")
  | (k_dat 12 "zg0")
  | (k_dat 13 "zg0")
  | (k_dat 14 "zg0")
  | (k_dat 15 "zg0")
  | (k_dat 1 "zu0")
  | (k_dat 2 "zu0")
  | (k_dat 3 "zu0")
  | (k_dat 4 "zu0")
  | (k_dat 5 "zu0")
  | (k_dat 6 "zu0")
  | (k_dat 7 "zu0")
  | (k_dat 8 "zu0")
  | ((with_reducible refine' dg_sub ?a ?b ?h); k_dat a "e"; k_dat b "e"; (case h => (intro _; rfl))))
local macro_rules | `(tactic| walk_at "d_gs") => `(tactic| first
  | (with_reducible exact dgs_nil)
  | ((with_reducible refine' dgs_cons ?a ?b ?h); (case a => walk_at "d_g"); (case b => walk_at "d_gs"); k_dat h "r"))
local macro_rules | `(tactic| walk_at "d_s") => `(tactic| first
  | (k_dat ds_ret "s2")
  | ((with_reducible refine' ds_if ?c ?a ?b); k_dat c "t"; k_dat a "s"; k_dat b "s")
  | ((with_reducible refine' ds_expr ?a ?h); k_dat h "r"; k_dat a "e")
  | ((with_reducible refine' ds_for ?p ?c ?i ?g ?b ?h); (case p => exact PassesOwn.never); k_dat c "r"; k_dat i "i"; (case g => walk_at "d_g"); k_dat b "s"; (case h => (intro _; rfl)))
  | ((with_reducible show DS _ (.Assign [.Name _ _] (.ListComp _ _ _ _) _) _); first
      | (k_dat 0 "zc0")
      | (k_dat 0 "zc1")
      | (k_dat 0 "zc2")
      | (k_dat 1 "zc0")
      | (k_dat 1 "zc1")
      | (k_dat 1 "zc2")
      | (k_dat 2 "zc0")
      | (k_dat 2 "zc1")
      | (k_dat 2 "zc2")
      | (k_dat 3 "zc0")
      | (k_dat 3 "zc1")
      | (k_dat 3 "zc2")
      | (k_dat 4 "zc0")
      | (k_dat 4 "zc1")
      | (k_dat 4 "zc2")
      | (k_dat 5 "zc0")
      | (k_dat 5 "zc1")
      | (k_dat 5 "zc2")
      | (k_dat 6 "zc0")
      | (k_dat 6 "zc1")
      | (k_dat 6 "zc2")
      | (k_dat 7 "zc0")
      | (k_dat 7 "zc1")
      | (k_dat 7 "zc2")
      | (k_dat 8 "zc0")
      | (k_dat 8 "zc1")
      | (k_dat 8 "zc2")
      | (k_dat 9 "zc0")
      | (k_dat 9 "zc1")
      | (k_dat 9 "zc2")
      | (k_dat 10 "zc0")
      | (k_dat 10 "zc1")
      | (k_dat 10 "zc2")
      | (k_dat 11 "zc0")
      | (k_dat 11 "zc1")
      | (k_dat 11 "zc2")
      | (k_dat 12 "zc0")
      | (k_dat 12 "zc1")
      | (k_dat 12 "zc2")
      | (k_dat 13 "zc0")
      | (k_dat 13 "zc1")
      | (k_dat 13 "zc2")
      | (k_dat 14 "zc0")
      | (k_dat 14 "zc1")
      | (k_dat 14 "zc2")
      | (k_dat 15 "zc0")
      | (k_dat 15 "zc1")
      | (k_dat 15 "zc2"))
  | ((with_reducible show DS _ (.Assign [.Name _ _] _ _) _); first
      | (k_dat 0 "zs0")
      | (k_dat 1 "zs0")
      | (k_dat 2 "zs0")
      | (k_dat 3 "zs0")
      | (k_dat 4 "zs0")
      | (k_dat 5 "zs0")
      | (k_dat 6 "zs0")
      | (k_dat 7 "zs0")
      | (k_dat 8 "zs0")
      | (k_dat 9 "zs0")
      | (k_dat 10 "zs0")
      | (k_dat 11 "zs0")
      | (k_dat 12 "zs0")
      | (k_dat 13 "zs0")
      | (k_dat 14 "zs0")
      | (k_dat 15 "zs0"))
  | ((with_reducible refine' ds_asg ?e ?g ?s ?w ?h); k_dat s "r"; k_dat w "r"; k_dat h "r"; k_dat e "e"; (case g => walk_at "d_g")))
local macro_rules | `(tactic| walk_at "d_ss") => `(tactic| first
  | (with_reducible exact dss_nil)
  | ((with_reducible refine' dss_cons ?a ?b); (case a => walk_at "d_s"); k_dat b "s"))
noncomputable def top (i : Nat) : Stmt := PySem.Challenge.pw_asitruns_k85_rows_to.main.body.getD i (.Pass ⟨0, 0, 0, 0⟩)
noncomputable abbrev s_parts_of : Stmt := top 2
noncomputable abbrev s_rows_to : Stmt := top 4
noncomputable abbrev s__law_mix : Stmt := top 6
noncomputable abbrev s__law_parts : Stmt := top 7
noncomputable abbrev s__law_cell_at : Stmt := top 8
noncomputable abbrev s__law_first_rows : Stmt := top 9
noncomputable abbrev s__law_plain_row : Stmt := top 10
noncomputable abbrev s__law_item_rows : Stmt := top 11
noncomputable abbrev s__law_source : Stmt := top 12
noncomputable abbrev s__law_exit : Stmt := top 13
noncomputable abbrev s__law_exit_list : Stmt := top 14
noncomputable abbrev s__law_last_row : Stmt := top 15
noncomputable abbrev s__law_host : Stmt := top 16
noncomputable abbrev s__law_is_number : Stmt := top 17
noncomputable abbrev s__law_same : Stmt := top 18
noncomputable abbrev s__law_named : Stmt := top 19
noncomputable abbrev s_law : Stmt := top 20
section
variable {P : Program} {w : World} {K : PySem.W.Frag} {mg : Str → Option Value} {base : Heap} {f : Addr} {fd : FuncData}
theorem scparts_of : FnScope ["row", "sign"] ["row", "sign"] (defScope s_parts_of) := ⟨rfl, rfl, rfl, by decide +kernel, rfl, by decide +kernel, by decide +kernel⟩
theorem okparts_of (F : Fun K "parts_of" "parts_of" s_parts_of f fd) (m1 : mg "tuple" = none) (m13 : mg "zip" = none) (tD0 : TopD w K mg "FORMS" formS) : FnOk P w K mg base CX0 1 f fd ["row", "sign"] (liftSp K spParts) := by
  have nd := scparts_of.nd
  have hint0 : Hint [(1, "sign")] := ⟨trivial⟩
  refine fun_ok F scparts_of (fun ds st Pd h => by obtain ⟨_, _, rfl, _⟩ := h; rfl) fun cdv A outer s H E hr => ?_
  refine ⟨t_parts_of, ?t, fun ds st Pd h => rd_parts_of h⟩
  case t =>
    refine' dss_cons ?a ?b
    case a => walk_at "d_s"
    case b => walk_at "d_ss"
theorem scrows_to : FnScope ["host", "number"] ["host", "number"] (defScope s_rows_to) := ⟨rfl, rfl, rfl, by decide +kernel, rfl, by decide +kernel, by decide +kernel⟩
theorem okrows_to (F : Fun K "rows_to" "rows_to" s_rows_to f fd) (m1 : mg "tuple" = none) (m6 : mg "enumerate" = none) (dparts_of : DefOk P w K mg base "parts_of" 1 spParts) : FnOk P w K mg base CX0 2 f fd ["host", "number"] (liftSp K spRowsTo) := by
  have nd := scrows_to.nd
  have hint0 : Hint [(1, "number")] := ⟨trivial⟩
  refine fun_ok F scrows_to (fun ds st Pd h => by obtain ⟨_, _, _, _, _, rfl, _⟩ := h; rfl) fun cdv A outer s H E hr => ?_
  refine ⟨t_rows_to, ?t, fun ds st Pd h => rd_rows_to h⟩
  case t =>
    refine' dss_cons ?a ?b
    case a => walk_at "d_s"
    case b => walk_at "d_ss"
theorem sc_law_mix : FnScope ["cell", "k", "number"] ["cell", "k"] (defScope s__law_mix) := ⟨rfl, rfl, rfl, by decide +kernel, rfl, by decide +kernel, by decide +kernel⟩
theorem ok_law_mix (F : Fun K "_law_mix" "_law_mix" s__law_mix f fd)  : FnOk P w K mg base CX0 1 f fd ["cell", "k"] (liftSp K spMix) := by
  have nd := sc_law_mix.nd
  refine fun_ok F sc_law_mix (fun ds st Pd h => by obtain ⟨_, _, rfl, _⟩ := h; rfl) fun cdv A outer s H E hr => ?_
  refine ⟨t__law_mix, ?t, fun ds st Pd h => rd__law_mix h⟩
  case t =>
    refine' dss_cons ?a ?b
    case a => walk_at "d_s"
    case b => walk_at "d_ss"
theorem sc_law_parts : FnScope ["cell", "way", "bounds", "found", "k"] ["cell", "way", "bounds"] (defScope s__law_parts) := ⟨rfl, rfl, rfl, by decide +kernel, rfl, by decide +kernel, by decide +kernel⟩
theorem ok_law_parts (F : Fun K "_law_parts" "_law_parts" s__law_parts f fd) (m3 : mg "len" = none) (m7 : mg "range" = none) (d_law_mix : DefOk P w K mg base "_law_mix" 1 spMix) : FnOk P w K mg base CX0 2 f fd ["cell", "way", "bounds"] (liftSp K spLParts) := by
  have nd := sc_law_parts.nd
  refine fun_ok F sc_law_parts (fun ds st Pd h => by obtain ⟨_, _, _, _, rfl, _⟩ := h; rfl) fun cdv A outer s H E hr => ?_
  refine ⟨t__law_parts, ?t, fun ds st Pd h => rd__law_parts h⟩
  case t =>
    refine' dss_cons ?a ?b
    case a => walk_at "d_s"
    case b => walk_at "d_ss"
theorem sc_law_cell_at : FnScope ["script", "k"] ["script", "k"] (defScope s__law_cell_at) := ⟨rfl, rfl, rfl, by decide +kernel, rfl, by decide +kernel, by decide +kernel⟩
theorem ok_law_cell_at (F : Fun K "_law_cell_at" "_law_cell_at" s__law_cell_at f fd) (m3 : mg "len" = none) : FnOk P w K mg base CX0 1 f fd ["script", "k"] (liftSp K spCellAt) := by
  have nd := sc_law_cell_at.nd
  refine fun_ok F sc_law_cell_at (fun ds st Pd h => by obtain ⟨_, _, _, rfl, _⟩ := h; rfl) fun cdv A outer s H E hr => ?_
  refine ⟨t__law_cell_at, ?t, fun ds st Pd h => rd__law_cell_at h⟩
  case t =>
    refine' dss_cons ?a ?b
    case a => walk_at "d_s"
    case b => walk_at "d_ss"
theorem sc_law_first_rows : FnScope ["many", "numbers", "left_out", "rows"] ["many", "numbers", "left_out"] (defScope s__law_first_rows) := ⟨rfl, rfl, rfl, by decide +kernel, rfl, by decide +kernel, by decide +kernel⟩
theorem ok_law_first_rows (F : Fun K "_law_first_rows" "_law_first_rows" s__law_first_rows f fd) (m7 : mg "range" = none) : FnOk P w K mg base CX0 1 f fd ["many", "numbers", "left_out"] (liftSp K spFirst) := by
  have nd := sc_law_first_rows.nd
  have hint0 : Hint [(2, "left_out")] := ⟨trivial⟩
  have hint1 : Hint [(2, "left_out"), (1, "numbers")] := ⟨trivial⟩
  have hint2 : Hint [(0, "many")] := ⟨trivial⟩
  refine fun_ok F sc_law_first_rows (fun ds st Pd h => by obtain ⟨_, _, _, rfl, _⟩ := h; rfl) fun cdv A outer s H E hr => ?_
  refine ⟨t__law_first_rows, ?t, fun ds st Pd h => rd__law_first_rows h⟩
  case t =>
    refine' dss_cons ?a ?b
    case a => walk_at "d_s"
    case b => walk_at "d_ss"
theorem sc_law_plain_row : FnScope ["parts", "many", "numbers", "word", "one", "two", "three", "number", "k", "truth"] ["parts", "many", "numbers"] (defScope s__law_plain_row) := ⟨rfl, rfl, rfl, by decide +kernel, rfl, by decide +kernel, by decide +kernel⟩
theorem ok_law_plain_row (F : Fun K "_law_plain_row" "_law_plain_row" s__law_plain_row f fd)  : FnOk P w K mg base CX0 1 f fd ["parts", "many", "numbers"] (liftSp K spPlain) := by
  have nd := sc_law_plain_row.nd
  refine fun_ok F sc_law_plain_row (fun ds st Pd h => by obtain ⟨_, _, _, _, rfl, _⟩ := h; rfl) fun cdv A outer s H E hr => ?_
  refine ⟨t__law_plain_row, ?t, fun ds st Pd h => rd__law_plain_row h⟩
  case t =>
    refine' dss_cons ?a ?b
    case a => walk_at "d_s"
    case b => walk_at "d_ss"
theorem sc_law_item_rows : FnScope ["parts", "numbers", "exits", "word", "one", "two", "three", "number", "k", "first", "then"] ["parts", "numbers", "exits"] (defScope s__law_item_rows) := ⟨rfl, rfl, rfl, by decide +kernel, rfl, by decide +kernel, by decide +kernel⟩
theorem ok_law_item_rows (F : Fun K "_law_item_rows" "_law_item_rows" s__law_item_rows f fd)  : FnOk P w K mg base CX0 1 f fd ["parts", "numbers", "exits"] (liftSp K spItems) := by
  have nd := sc_law_item_rows.nd
  refine fun_ok F sc_law_item_rows (fun ds st Pd h => by obtain ⟨_, _, _, _, rfl, _⟩ := h; rfl) fun cdv A outer s H E hr => ?_
  refine ⟨t__law_item_rows, ?t, fun ds st Pd h => rd__law_item_rows h⟩
  case t =>
    refine' dss_cons ?a ?b
    case a => walk_at "d_s"
    case b => walk_at "d_ss"
theorem sc_law_source : FnScope ["part", "numbers", "many", "truth", "way"] ["part", "numbers", "many", "truth"] (defScope s__law_source) := ⟨rfl, rfl, rfl, by decide +kernel, rfl, by decide +kernel, by decide +kernel⟩
theorem ok_law_source (F : Fun K "_law_source" "_law_source" s__law_source f fd) (m4 : mg "int" = none) : FnOk P w K mg base CX0 1 f fd ["part", "numbers", "many", "truth"] (liftSp K spSource) := by
  have nd := sc_law_source.nd
  refine fun_ok F sc_law_source (fun ds st Pd h => by obtain ⟨_, _, _, _, rfl, _⟩ := h; rfl) fun cdv A outer s H E hr => ?_
  refine ⟨t__law_source, ?t, fun ds st Pd h => rd__law_source h⟩
  case t =>
    refine' dss_cons ?a ?b
    case a => walk_at "d_s"
    case b => walk_at "d_ss"
theorem sc_law_exit : FnScope ["parts", "numbers", "many", "how", "place", "boxes", "marks"] ["parts", "numbers", "many"] (defScope s__law_exit) := ⟨rfl, rfl, rfl, by decide +kernel, rfl, by decide +kernel, by decide +kernel⟩
theorem ok_law_exit (F : Fun K "_law_exit" "_law_exit" s__law_exit f fd) (m1 : mg "tuple" = none) (m7 : mg "range" = none) (d_law_source : DefOk P w K mg base "_law_source" 1 spSource) : FnOk P w K mg base CX0 2 f fd ["parts", "numbers", "many"] (liftSp K spExit) := by
  have nd := sc_law_exit.nd
  have hint0 : Hint [(2, "many"), (1, "numbers"), (0, "parts")] := ⟨trivial⟩
  refine fun_ok F sc_law_exit (fun ds st Pd h => by obtain ⟨_, _, _, _, rfl, _⟩ := h; rfl) fun cdv A outer s H E hr => ?_
  refine ⟨t__law_exit, ?t, fun ds st Pd h => rd__law_exit h⟩
  case t =>
    refine' dss_cons ?a ?b
    case a => walk_at "d_s"
    case b => walk_at "d_ss"
theorem sc_law_exit_list : FnScope ["script", "way", "numbers", "many", "found", "k", "cell", "parts"] ["script", "way", "numbers", "many"] (defScope s__law_exit_list) := ⟨rfl, rfl, rfl, by decide +kernel, rfl, by decide +kernel, by decide +kernel⟩
theorem ok_law_exit_list (F : Fun K "_law_exit_list" "_law_exit_list" s__law_exit_list f fd) (m1 : mg "tuple" = none) (m7 : mg "range" = none) (d_law_parts : DefOk P w K mg base "_law_parts" 2 spLParts) (d_law_cell_at : DefOk P w K mg base "_law_cell_at" 1 spCellAt) (d_law_exit : DefOk P w K mg base "_law_exit" 2 spExit) : FnOk P w K mg base CX0 3 f fd ["script", "way", "numbers", "many"] (liftSp K spExits) := by
  have nd := sc_law_exit_list.nd
  refine fun_ok F sc_law_exit_list (fun ds st Pd h => by obtain ⟨_, _, _, _, _, rfl, _⟩ := h; rfl) fun cdv A outer s H E hr => ?_
  refine ⟨t__law_exit_list, ?t, fun ds st Pd h => rd__law_exit_list h⟩
  case t =>
    refine' dss_cons ?a ?b
    case a => walk_at "d_s"
    case b => walk_at "d_ss"
theorem sc_law_last_row : FnScope ["cell", "way", "numbers", "many", "exits", "word", "hand", "first", "then"] ["cell", "way", "numbers", "many", "exits"] (defScope s__law_last_row) := ⟨rfl, rfl, rfl, by decide +kernel, rfl, by decide +kernel, by decide +kernel⟩
theorem ok_law_last_row (F : Fun K "_law_last_row" "_law_last_row" s__law_last_row f fd) (d_law_parts : DefOk P w K mg base "_law_parts" 2 spLParts) : FnOk P w K mg base CX0 3 f fd ["cell", "way", "numbers", "many", "exits"] (liftSp K spLast) := by
  have nd := sc_law_last_row.nd
  refine fun_ok F sc_law_last_row (fun ds st Pd h => by obtain ⟨_, _, _, _, _, rfl, _⟩ := h; rfl) fun cdv A outer s H E hr => ?_
  refine ⟨t__law_last_row, ?t, fun ds st Pd h => rd__law_last_row h⟩
  case t =>
    refine' dss_cons ?a ?b
    case a => walk_at "d_s"
    case b => walk_at "d_ss"
theorem sc_law_host : FnScope ["script", "way", "items", "sizes", "many", "numbers", "exits", "left_out", "rows", "cell", "parts", "odd"] ["script", "way", "items"] (defScope s__law_host) := ⟨rfl, rfl, rfl, by decide +kernel, rfl, by decide +kernel, by decide +kernel⟩
theorem ok_law_host (F : Fun K "_law_host" "_law_host" s__law_host f fd) (m1 : mg "tuple" = none) (m3 : mg "len" = none) (m4 : mg "int" = none) (d_law_parts : DefOk P w K mg base "_law_parts" 2 spLParts) (d_law_cell_at : DefOk P w K mg base "_law_cell_at" 1 spCellAt) (d_law_first_rows : DefOk P w K mg base "_law_first_rows" 1 spFirst) (d_law_plain_row : DefOk P w K mg base "_law_plain_row" 1 spPlain) (d_law_item_rows : DefOk P w K mg base "_law_item_rows" 1 spItems) (d_law_exit_list : DefOk P w K mg base "_law_exit_list" 3 spExits) (d_law_last_row : DefOk P w K mg base "_law_last_row" 3 spLast) : FnOk P w K mg base CX0 4 f fd ["script", "way", "items"] (liftSp K spHost) := by
  have nd := sc_law_host.nd
  refine fun_ok F sc_law_host (fun ds st Pd h => by obtain ⟨_, _, _, _, rfl, _⟩ := h; rfl) fun cdv A outer s H E hr => ?_
  refine ⟨t__law_host, ?t, fun ds st Pd h => rd__law_host h⟩
  case t =>
    refine' dss_cons ?a ?b
    case a => walk_at "d_s"
    case b => walk_at "d_ss"
theorem sc_law_is_number : FnScope ["thing"] ["thing"] (defScope s__law_is_number) := ⟨rfl, rfl, rfl, by decide +kernel, rfl, by decide +kernel, by decide +kernel⟩
theorem ok_law_is_number (F : Fun K "_law_is_number" "_law_is_number" s__law_is_number f fd) (m2 : mg "isinstance" = none) (m4 : mg "int" = none) (m5 : mg "bool" = none) : FnOk P w K mg base CX0 1 f fd ["thing"] (liftSp K spIsNum) := by
  have nd := sc_law_is_number.nd
  refine fun_ok F sc_law_is_number (fun ds st Pd h => by obtain ⟨_, rfl, _⟩ := h; rfl) fun cdv A outer s H E hr => ?_
  refine ⟨t__law_is_number, ?t, fun ds st Pd h => rd__law_is_number h⟩
  case t =>
    refine' dss_cons ?a ?b
    case a => walk_at "d_s"
    case b => walk_at "d_ss"
theorem sc_law_same : FnScope ["found", "due", "one", "other"] ["found", "due"] (defScope s__law_same) := ⟨rfl, rfl, rfl, by decide +kernel, rfl, by decide +kernel, by decide +kernel⟩
theorem z__law_same {K : PySem.W.Frag} {vs : List V} {H : Hp} {Q : VK} {E : XK} (h : liftSp K (spSame 0) vs H Q E) : False := by
  obtain ⟨φ, st, ds, Pd, R, dl, hs, hq⟩ := h
  obtain ⟨d, rfl, h, _⟩ := hs
  cases d <;> simp [okS] at h
theorem ok_law_same (N : Nat) (F : Fun K "_law_same" "_law_same" s__law_same f fd) (m1 : mg "tuple" = none) (m2 : mg "isinstance" = none) (m3 : mg "len" = none) (m5 : mg "bool" = none) (m11 : mg "str" = none) (m13 : mg "zip" = none) (d_law_is_number : DefOk P w K mg base "_law_is_number" 1 spIsNum) (d_law_same : DefOk P w K mg base "_law_same" (2 + N) (spSame N)) : FnOk P w K mg base CX0 (2 + N + 1) f fd ["found", "due"] (liftSp K (spSame (N + 1))) := by
  have nd := sc_law_same.nd
  refine fun_ok F sc_law_same (fun ds st Pd h => by obtain ⟨_, rfl, _⟩ := h; rfl) fun cdv A outer s H E hr => ?_
  refine ⟨t__law_same N, ?t, fun ds st Pd h => rd__law_same N h⟩
  case t =>
    refine' dss_cons ?a ?b
    case a => walk_at "d_s"
    case b => walk_at "d_ss"
theorem sc_law_named : FnScope ["row"] ["row"] (defScope s__law_named) := ⟨rfl, rfl, rfl, by decide +kernel, rfl, by decide +kernel, by decide +kernel⟩
theorem ok_law_named (F : Fun K "_law_named" "_law_named" s__law_named f fd) (m10 : mg "list" = none) : FnOk P w K mg base CX0 1 f fd ["row"] (liftSp K spNamed) := by
  have nd := sc_law_named.nd
  refine fun_ok F sc_law_named (fun ds st Pd h => by obtain ⟨_, rfl, _⟩ := h; rfl) fun cdv A outer s H E hr => ?_
  refine ⟨t__law_named, ?t, fun ds st Pd h => rd__law_named h⟩
  case t =>
    refine' dss_cons ?a ?b
    case a => walk_at "d_s"
    case b => walk_at "d_ss"
theorem sclaw : FnScope ["script", "way", "host", "number", "due", "at", "row"] ["script"] (defScope s_law) := ⟨rfl, rfl, rfl, by decide +kernel, rfl, by decide +kernel, by decide +kernel⟩
theorem oklaw (F : Fun K "law" "law" s_law f fd) (m1 : mg "tuple" = none) (m3 : mg "len" = none) (m6 : mg "enumerate" = none) (m7 : mg "range" = none) (drows_to : DefOk P w K mg base "rows_to" 2 spRowsTo) (d_law_cell_at : DefOk P w K mg base "_law_cell_at" 1 spCellAt) (d_law_host : DefOk P w K mg base "_law_host" 4 spHost) (d_law_same : DefOk P w K mg base "_law_same" 6 (spSame 4)) (d_law_named : DefOk P w K mg base "_law_named" 1 spNamed) : FnOk P w K mg base CX0 8 f fd ["script"] (liftSp K spLaw) := by
  have nd := sclaw.nd
  have hint0 : Hint [(3, "number")] := ⟨trivial⟩
  refine fun_ok F sclaw (fun ds st Pd h => by obtain ⟨c, rfl, _⟩ := h; rfl) fun cdv A outer s H E hr => ?_
  refine ⟨t_law, ?t, fun ds st Pd h => rd_law h⟩
  case t =>
    refine' dss_cons ?a ?b
    case a => walk_at "d_s"
    case b => walk_at "d_ss"
end
@[elab_as_elim] theorem len1 {C : List Value → Prop} (us : List Value) (hl : us.length = 1) (h : ∀ a0, C [a0]) : C us := by
  match us, hl with
  | [a0], _ => exact h _
@[elab_as_elim] theorem len2 {C : List Value → Prop} (us : List Value) (hl : us.length = 2) (h : ∀ a0 a1, C [a0, a1]) : C us := by
  match us, hl with
  | [a0, a1], _ => exact h _ _
@[elab_as_elim] theorem len3 {C : List Value → Prop} (us : List Value) (hl : us.length = 3) (h : ∀ a0 a1 a2, C [a0, a1, a2]) : C us := by
  match us, hl with
  | [a0, a1, a2], _ => exact h _ _ _
@[elab_as_elim] theorem len4 {C : List Value → Prop} (us : List Value) (hl : us.length = 4) (h : ∀ a0 a1 a2 a3, C [a0, a1, a2, a3]) : C us := by
  match us, hl with
  | [a0, a1, a2, a3], _ => exact h _ _ _ _
@[elab_as_elim] theorem len5 {C : List Value → Prop} (us : List Value) (hl : us.length = 5) (h : ∀ a0 a1 a2 a3 a4, C [a0, a1, a2, a3, a4]) : C us := by
  match us, hl with
  | [a0, a1, a2, a3, a4], _ => exact h _ _ _ _ _
@[elab_as_elim] theorem len6 {C : List Value → Prop} (us : List Value) (hl : us.length = 6) (h : ∀ a0 a1 a2 a3 a4 a5, C [a0, a1, a2, a3, a4, a5]) : C us := by
  match us, hl with
  | [a0, a1, a2, a3, a4, a5], _ => exact h _ _ _ _ _ _
@[elab_as_elim] theorem len7 {C : List Value → Prop} (us : List Value) (hl : us.length = 7) (h : ∀ a0 a1 a2 a3 a4 a5 a6, C [a0, a1, a2, a3, a4, a5, a6]) : C us := by
  match us, hl with
  | [a0, a1, a2, a3, a4, a5, a6], _ => exact h _ _ _ _ _ _ _
@[elab_as_elim] theorem len8 {C : List Value → Prop} (us : List Value) (hl : us.length = 8) (h : ∀ a0 a1 a2 a3 a4 a5 a6 a7, C [a0, a1, a2, a3, a4, a5, a6, a7]) : C us := by
  match us, hl with
  | [a0, a1, a2, a3, a4, a5, a6, a7], _ => exact h _ _ _ _ _ _ _ _
@[elab_as_elim] theorem len9 {C : List Value → Prop} (us : List Value) (hl : us.length = 9) (h : ∀ a0 a1 a2 a3 a4 a5 a6 a7 a8, C [a0, a1, a2, a3, a4, a5, a6, a7, a8]) : C us := by
  match us, hl with
  | [a0, a1, a2, a3, a4, a5, a6, a7, a8], _ => exact h _ _ _ _ _ _ _ _ _
theorem all_mk {l : PySem.W.OpenLaw} {w : World} {K : PySem.W.Frag} {h : Heap} {mg : Str → Option Value} {fa f0 f1 f2 f3 f4 f5 f6 f7 f8 f9 f10 f11 f12 f13 f14 f15 f16 : Addr} (X : K.In h) (G : h.Ns mainGlobals mg) (hfa : mg "law" = some (.ref fa))
    {od0 od1 od2 od3 od4 od5 od6 od7 od8 od9 od10 od11 od12 od13 od14 od15 od16 an0 an1 an2 an3 an4 an5 an6 an7 an8 an9 an10 an11 an12 an13 an14 an15 an16 : Option Addr} {sl0 sl1 sl2 sl3 sl4 sl5 sl6 sl7 sl8 sl9 sl10 sl11 sl12 sl13 sl14 sl15 sl16 : Array (Option Value)} {oc0 oc1 oc2 oc3 oc4 oc5 oc6 oc7 oc8 oc9 oc10 oc11 oc12 oc13 oc14 oc15 oc16 kV0 kV1 kV2 kV3 kV4 kV5 kV6 kV7 kV8 kV9 kV10 kV11 kV12 kV13 kV14 kV15 kV16 dc0 dc1 dc2 dc3 dc4 dc5 dc6 dc7 dc8 dc9 dc10 dc11 dc12 dc13 dc14 dc15 dc16 pm0 pm1 pm2 pm3 pm4 pm5 pm6 pm7 pm8 pm9 pm10 pm11 pm12 pm13 pm14 pm15 pm16 cd0 cd1 cd2 cd3 cd4 cd5 cd6 cd7 cd8 cd9 cd10 cd11 cd12 cd13 cd14 cd15 cd16 ct0 ct1 ct2 ct3 ct4 ct5 ct6 ct7 ct8 ct9 ct10 ct11 ct12 ct13 ct14 ct15 ct16 : Value}
    (a0 : PySem.W.nsIn K mainGlobals "parts_of" = some (some (.ref f0)))
    (l0 : K.lookup f0 = some ⟨oc0, od0, .func (PySem.W.fnOf "parts_of" "parts_of" (defArgs s_parts_of) (defBody s_parts_of) (defScope s_parts_of) .none kV0 dc0 pm0 an0 cd0 ct0), sl0⟩) (c0 : PySem.W.codeIn K cd0 "parts_of" = true) (k0 : PySem.W.keepIn K (.ref f0) = true)
    (a1 : PySem.W.nsIn K mainGlobals "rows_to" = some (some (.ref f1)))
    (l1 : K.lookup f1 = some ⟨oc1, od1, .func (PySem.W.fnOf "rows_to" "rows_to" (defArgs s_rows_to) (defBody s_rows_to) (defScope s_rows_to) .none kV1 dc1 pm1 an1 cd1 ct1), sl1⟩) (c1 : PySem.W.codeIn K cd1 "rows_to" = true) (k1 : PySem.W.keepIn K (.ref f1) = true)
    (a2 : PySem.W.nsIn K mainGlobals "_law_mix" = some (some (.ref f2)))
    (l2 : K.lookup f2 = some ⟨oc2, od2, .func (PySem.W.fnOf "_law_mix" "_law_mix" (defArgs s__law_mix) (defBody s__law_mix) (defScope s__law_mix) .none kV2 dc2 pm2 an2 cd2 ct2), sl2⟩) (c2 : PySem.W.codeIn K cd2 "_law_mix" = true) (k2 : PySem.W.keepIn K (.ref f2) = true)
    (a3 : PySem.W.nsIn K mainGlobals "_law_parts" = some (some (.ref f3)))
    (l3 : K.lookup f3 = some ⟨oc3, od3, .func (PySem.W.fnOf "_law_parts" "_law_parts" (defArgs s__law_parts) (defBody s__law_parts) (defScope s__law_parts) .none kV3 dc3 pm3 an3 cd3 ct3), sl3⟩) (c3 : PySem.W.codeIn K cd3 "_law_parts" = true) (k3 : PySem.W.keepIn K (.ref f3) = true)
    (a4 : PySem.W.nsIn K mainGlobals "_law_cell_at" = some (some (.ref f4)))
    (l4 : K.lookup f4 = some ⟨oc4, od4, .func (PySem.W.fnOf "_law_cell_at" "_law_cell_at" (defArgs s__law_cell_at) (defBody s__law_cell_at) (defScope s__law_cell_at) .none kV4 dc4 pm4 an4 cd4 ct4), sl4⟩) (c4 : PySem.W.codeIn K cd4 "_law_cell_at" = true) (k4 : PySem.W.keepIn K (.ref f4) = true)
    (a5 : PySem.W.nsIn K mainGlobals "_law_first_rows" = some (some (.ref f5)))
    (l5 : K.lookup f5 = some ⟨oc5, od5, .func (PySem.W.fnOf "_law_first_rows" "_law_first_rows" (defArgs s__law_first_rows) (defBody s__law_first_rows) (defScope s__law_first_rows) .none kV5 dc5 pm5 an5 cd5 ct5), sl5⟩) (c5 : PySem.W.codeIn K cd5 "_law_first_rows" = true) (k5 : PySem.W.keepIn K (.ref f5) = true)
    (a6 : PySem.W.nsIn K mainGlobals "_law_plain_row" = some (some (.ref f6)))
    (l6 : K.lookup f6 = some ⟨oc6, od6, .func (PySem.W.fnOf "_law_plain_row" "_law_plain_row" (defArgs s__law_plain_row) (defBody s__law_plain_row) (defScope s__law_plain_row) .none kV6 dc6 pm6 an6 cd6 ct6), sl6⟩) (c6 : PySem.W.codeIn K cd6 "_law_plain_row" = true) (k6 : PySem.W.keepIn K (.ref f6) = true)
    (a7 : PySem.W.nsIn K mainGlobals "_law_item_rows" = some (some (.ref f7)))
    (l7 : K.lookup f7 = some ⟨oc7, od7, .func (PySem.W.fnOf "_law_item_rows" "_law_item_rows" (defArgs s__law_item_rows) (defBody s__law_item_rows) (defScope s__law_item_rows) .none kV7 dc7 pm7 an7 cd7 ct7), sl7⟩) (c7 : PySem.W.codeIn K cd7 "_law_item_rows" = true) (k7 : PySem.W.keepIn K (.ref f7) = true)
    (a8 : PySem.W.nsIn K mainGlobals "_law_source" = some (some (.ref f8)))
    (l8 : K.lookup f8 = some ⟨oc8, od8, .func (PySem.W.fnOf "_law_source" "_law_source" (defArgs s__law_source) (defBody s__law_source) (defScope s__law_source) .none kV8 dc8 pm8 an8 cd8 ct8), sl8⟩) (c8 : PySem.W.codeIn K cd8 "_law_source" = true) (k8 : PySem.W.keepIn K (.ref f8) = true)
    (a9 : PySem.W.nsIn K mainGlobals "_law_exit" = some (some (.ref f9)))
    (l9 : K.lookup f9 = some ⟨oc9, od9, .func (PySem.W.fnOf "_law_exit" "_law_exit" (defArgs s__law_exit) (defBody s__law_exit) (defScope s__law_exit) .none kV9 dc9 pm9 an9 cd9 ct9), sl9⟩) (c9 : PySem.W.codeIn K cd9 "_law_exit" = true) (k9 : PySem.W.keepIn K (.ref f9) = true)
    (a10 : PySem.W.nsIn K mainGlobals "_law_exit_list" = some (some (.ref f10)))
    (l10 : K.lookup f10 = some ⟨oc10, od10, .func (PySem.W.fnOf "_law_exit_list" "_law_exit_list" (defArgs s__law_exit_list) (defBody s__law_exit_list) (defScope s__law_exit_list) .none kV10 dc10 pm10 an10 cd10 ct10), sl10⟩) (c10 : PySem.W.codeIn K cd10 "_law_exit_list" = true) (k10 : PySem.W.keepIn K (.ref f10) = true)
    (a11 : PySem.W.nsIn K mainGlobals "_law_last_row" = some (some (.ref f11)))
    (l11 : K.lookup f11 = some ⟨oc11, od11, .func (PySem.W.fnOf "_law_last_row" "_law_last_row" (defArgs s__law_last_row) (defBody s__law_last_row) (defScope s__law_last_row) .none kV11 dc11 pm11 an11 cd11 ct11), sl11⟩) (c11 : PySem.W.codeIn K cd11 "_law_last_row" = true) (k11 : PySem.W.keepIn K (.ref f11) = true)
    (a12 : PySem.W.nsIn K mainGlobals "_law_host" = some (some (.ref f12)))
    (l12 : K.lookup f12 = some ⟨oc12, od12, .func (PySem.W.fnOf "_law_host" "_law_host" (defArgs s__law_host) (defBody s__law_host) (defScope s__law_host) .none kV12 dc12 pm12 an12 cd12 ct12), sl12⟩) (c12 : PySem.W.codeIn K cd12 "_law_host" = true) (k12 : PySem.W.keepIn K (.ref f12) = true)
    (a13 : PySem.W.nsIn K mainGlobals "_law_is_number" = some (some (.ref f13)))
    (l13 : K.lookup f13 = some ⟨oc13, od13, .func (PySem.W.fnOf "_law_is_number" "_law_is_number" (defArgs s__law_is_number) (defBody s__law_is_number) (defScope s__law_is_number) .none kV13 dc13 pm13 an13 cd13 ct13), sl13⟩) (c13 : PySem.W.codeIn K cd13 "_law_is_number" = true) (k13 : PySem.W.keepIn K (.ref f13) = true)
    (a14 : PySem.W.nsIn K mainGlobals "_law_same" = some (some (.ref f14)))
    (l14 : K.lookup f14 = some ⟨oc14, od14, .func (PySem.W.fnOf "_law_same" "_law_same" (defArgs s__law_same) (defBody s__law_same) (defScope s__law_same) .none kV14 dc14 pm14 an14 cd14 ct14), sl14⟩) (c14 : PySem.W.codeIn K cd14 "_law_same" = true) (k14 : PySem.W.keepIn K (.ref f14) = true)
    (a15 : PySem.W.nsIn K mainGlobals "_law_named" = some (some (.ref f15)))
    (l15 : K.lookup f15 = some ⟨oc15, od15, .func (PySem.W.fnOf "_law_named" "_law_named" (defArgs s__law_named) (defBody s__law_named) (defScope s__law_named) .none kV15 dc15 pm15 an15 cd15 ct15), sl15⟩) (c15 : PySem.W.codeIn K cd15 "_law_named" = true) (k15 : PySem.W.keepIn K (.ref f15) = true)
    (a16 : PySem.W.nsIn K mainGlobals "law" = some (some (.ref f16)))
    (l16 : K.lookup f16 = some ⟨oc16, od16, .func (PySem.W.fnOf "law" "law" (defArgs s_law) (defBody s_law) (defScope s_law) .none kV16 dc16 pm16 an16 cd16 ct16), sl16⟩) (c16 : PySem.W.codeIn K cd16 "law" = true) (k16 : PySem.W.keepIn K (.ref f16) = true)
    {aD0 : Addr} {esD0 : Array DictEntry} {nD0 : Nat} (bD0 : PySem.W.nsIn K mainGlobals "FORMS" = some (some (.ref aD0))) (eD0 : K.lookup aD0 = some ⟨.type "dict", none, .dict esD0 nD0, #[]⟩) (yD0 : (aD0 == sysModules) = false) (uD0 : EntsAre w.params esD0.toList formS)
    (z0 : PySem.W.nsIn K mainGlobals "all" = some none)
    (z1 : PySem.W.nsIn K mainGlobals "tuple" = some none)
    (z2 : PySem.W.nsIn K mainGlobals "isinstance" = some none)
    (z3 : PySem.W.nsIn K mainGlobals "len" = some none)
    (z4 : PySem.W.nsIn K mainGlobals "int" = some none)
    (z5 : PySem.W.nsIn K mainGlobals "bool" = some none)
    (z6 : PySem.W.nsIn K mainGlobals "enumerate" = some none)
    (z7 : PySem.W.nsIn K mainGlobals "range" = some none)
    (z8 : PySem.W.nsIn K mainGlobals "min" = some none)
    (z9 : PySem.W.nsIn K mainGlobals "sum" = some none)
    (z10 : PySem.W.nsIn K mainGlobals "list" = some none)
    (z11 : PySem.W.nsIn K mainGlobals "str" = some none)
    (z12 : PySem.W.nsIn K mainGlobals "any" = some none)
    (z13 : PySem.W.nsIn K mainGlobals "zip" = some none)
    : ∃ fd : FuncData, (∀ (s : Shared) (v : Value), BindsTo s fd ⟨[v], []⟩ [("script", v)]) ∧ ∀ base : Heap, K.In base → base.Ns mainGlobals mg → FnOk l.prog w K mg base CX0 8 fa fd ["script"] (liftSp K spLaw) := by
  have e := hfa.symm.trans (PySem.W.mg_of X G a16)
  cases e
  have F0 := fun_mk (st := s_parts_of) l0 c0 k0
  have B0 := F0.binds (ps := ["row", "sign"]) fun _ _ _ _ _ _ us hl => len2 us hl fun _ _ => rfl
  have F1 := fun_mk (st := s_rows_to) l1 c1 k1
  have B1 := F1.binds (ps := ["host", "number"]) fun _ _ _ _ _ _ us hl => len2 us hl fun _ _ => rfl
  have F2 := fun_mk (st := s__law_mix) l2 c2 k2
  have B2 := F2.binds (ps := ["cell", "k"]) fun _ _ _ _ _ _ us hl => len2 us hl fun _ _ => rfl
  have F3 := fun_mk (st := s__law_parts) l3 c3 k3
  have B3 := F3.binds (ps := ["cell", "way", "bounds"]) fun _ _ _ _ _ _ us hl => len3 us hl fun _ _ _ => rfl
  have F4 := fun_mk (st := s__law_cell_at) l4 c4 k4
  have B4 := F4.binds (ps := ["script", "k"]) fun _ _ _ _ _ _ us hl => len2 us hl fun _ _ => rfl
  have F5 := fun_mk (st := s__law_first_rows) l5 c5 k5
  have B5 := F5.binds (ps := ["many", "numbers", "left_out"]) fun _ _ _ _ _ _ us hl => len3 us hl fun _ _ _ => rfl
  have F6 := fun_mk (st := s__law_plain_row) l6 c6 k6
  have B6 := F6.binds (ps := ["parts", "many", "numbers"]) fun _ _ _ _ _ _ us hl => len3 us hl fun _ _ _ => rfl
  have F7 := fun_mk (st := s__law_item_rows) l7 c7 k7
  have B7 := F7.binds (ps := ["parts", "numbers", "exits"]) fun _ _ _ _ _ _ us hl => len3 us hl fun _ _ _ => rfl
  have F8 := fun_mk (st := s__law_source) l8 c8 k8
  have B8 := F8.binds (ps := ["part", "numbers", "many", "truth"]) fun _ _ _ _ _ _ us hl => len4 us hl fun _ _ _ _ => rfl
  have F9 := fun_mk (st := s__law_exit) l9 c9 k9
  have B9 := F9.binds (ps := ["parts", "numbers", "many"]) fun _ _ _ _ _ _ us hl => len3 us hl fun _ _ _ => rfl
  have F10 := fun_mk (st := s__law_exit_list) l10 c10 k10
  have B10 := F10.binds (ps := ["script", "way", "numbers", "many"]) fun _ _ _ _ _ _ us hl => len4 us hl fun _ _ _ _ => rfl
  have F11 := fun_mk (st := s__law_last_row) l11 c11 k11
  have B11 := F11.binds (ps := ["cell", "way", "numbers", "many", "exits"]) fun _ _ _ _ _ _ us hl => len5 us hl fun _ _ _ _ _ => rfl
  have F12 := fun_mk (st := s__law_host) l12 c12 k12
  have B12 := F12.binds (ps := ["script", "way", "items"]) fun _ _ _ _ _ _ us hl => len3 us hl fun _ _ _ => rfl
  have F13 := fun_mk (st := s__law_is_number) l13 c13 k13
  have B13 := F13.binds (ps := ["thing"]) fun _ _ _ _ _ _ us hl => len1 us hl fun _ => rfl
  have F14 := fun_mk (st := s__law_same) l14 c14 k14
  have B14 := F14.binds (ps := ["found", "due"]) fun _ _ _ _ _ _ us hl => len2 us hl fun _ _ => rfl
  have F15 := fun_mk (st := s__law_named) l15 c15 k15
  have B15 := F15.binds (ps := ["row"]) fun _ _ _ _ _ _ us hl => len1 us hl fun _ => rfl
  have F16 := fun_mk (st := s_law) l16 c16 k16
  have m0 := PySem.W.mg_none_of X G z0
  have m1 := PySem.W.mg_none_of X G z1
  have m2 := PySem.W.mg_none_of X G z2
  have m3 := PySem.W.mg_none_of X G z3
  have m4 := PySem.W.mg_none_of X G z4
  have m5 := PySem.W.mg_none_of X G z5
  have m6 := PySem.W.mg_none_of X G z6
  have m7 := PySem.W.mg_none_of X G z7
  have m8 := PySem.W.mg_none_of X G z8
  have m9 := PySem.W.mg_none_of X G z9
  have m10 := PySem.W.mg_none_of X G z10
  have m11 := PySem.W.mg_none_of X G z11
  have m12 := PySem.W.mg_none_of X G z12
  have m13 := PySem.W.mg_none_of X G z13
  have tD0 : TopD w K mg "FORMS" formS := ⟨_, _, _, PySem.W.mg_of X G bD0, eD0, yD0, uD0⟩
  refine ⟨PySem.W.fnOf "law" "law" (defArgs s_law) (defBody s_law) (defScope s_law) .none kV16 dc16 pm16 an16 cd16 ct16, fun s v => .of_eq rfl, fun base _ _ => ?_⟩
  have Dparts_of : DefOk l.prog w K mg base "parts_of" 1 spParts := ⟨_, _, _, okparts_of F0 m1 m13 tD0, PySem.W.mg_of X G a0, k0, B0⟩
  have Drows_to : DefOk l.prog w K mg base "rows_to" 2 spRowsTo := ⟨_, _, _, okrows_to F1 m1 m6 Dparts_of, PySem.W.mg_of X G a1, k1, B1⟩
  have D_law_mix : DefOk l.prog w K mg base "_law_mix" 1 spMix := ⟨_, _, _, ok_law_mix F2 , PySem.W.mg_of X G a2, k2, B2⟩
  have D_law_parts : DefOk l.prog w K mg base "_law_parts" 2 spLParts := ⟨_, _, _, ok_law_parts F3 m3 m7 D_law_mix, PySem.W.mg_of X G a3, k3, B3⟩
  have D_law_cell_at : DefOk l.prog w K mg base "_law_cell_at" 1 spCellAt := ⟨_, _, _, ok_law_cell_at F4 m3, PySem.W.mg_of X G a4, k4, B4⟩
  have D_law_first_rows : DefOk l.prog w K mg base "_law_first_rows" 1 spFirst := ⟨_, _, _, ok_law_first_rows F5 m7, PySem.W.mg_of X G a5, k5, B5⟩
  have D_law_plain_row : DefOk l.prog w K mg base "_law_plain_row" 1 spPlain := ⟨_, _, _, ok_law_plain_row F6 , PySem.W.mg_of X G a6, k6, B6⟩
  have D_law_item_rows : DefOk l.prog w K mg base "_law_item_rows" 1 spItems := ⟨_, _, _, ok_law_item_rows F7 , PySem.W.mg_of X G a7, k7, B7⟩
  have D_law_source : DefOk l.prog w K mg base "_law_source" 1 spSource := ⟨_, _, _, ok_law_source F8 m4, PySem.W.mg_of X G a8, k8, B8⟩
  have D_law_exit : DefOk l.prog w K mg base "_law_exit" 2 spExit := ⟨_, _, _, ok_law_exit F9 m1 m7 D_law_source, PySem.W.mg_of X G a9, k9, B9⟩
  have D_law_exit_list : DefOk l.prog w K mg base "_law_exit_list" 3 spExits := ⟨_, _, _, ok_law_exit_list F10 m1 m7 D_law_parts D_law_cell_at D_law_exit, PySem.W.mg_of X G a10, k10, B10⟩
  have D_law_last_row : DefOk l.prog w K mg base "_law_last_row" 3 spLast := ⟨_, _, _, ok_law_last_row F11 D_law_parts, PySem.W.mg_of X G a11, k11, B11⟩
  have D_law_host : DefOk l.prog w K mg base "_law_host" 4 spHost := ⟨_, _, _, ok_law_host F12 m1 m3 m4 D_law_parts D_law_cell_at D_law_first_rows D_law_plain_row D_law_item_rows D_law_exit_list D_law_last_row, PySem.W.mg_of X G a12, k12, B12⟩
  have D_law_is_number : DefOk l.prog w K mg base "_law_is_number" 1 spIsNum := ⟨_, _, _, ok_law_is_number F13 m2 m4 m5, PySem.W.mg_of X G a13, k13, B13⟩
  have R_law_same : ∀ N, DefOk l.prog w K mg base "_law_same" (2 + N) (spSame N) := by
    intro N
    induction N with
    | zero =>
      have F0 : ∀ fd, FnOk l.prog w K mg base CX0 (2 + 0) f14 fd ["found", "due"] (liftSp K (spSame 0)) := fun fd => ⟨fun vs H Q E h => (z__law_same h).elim, fun A outer s H args us vs Q E hr he hb hv h => (z__law_same h).elim⟩
      exact ⟨_, _, _, F0 _, PySem.W.mg_of X G a14, k14, B14⟩
    | succ N ih => exact ⟨_, _, _, ok_law_same N F14 m1 m2 m3 m5 m11 m13 D_law_is_number ih, PySem.W.mg_of X G a14, k14, B14⟩
  have D_law_same : DefOk l.prog w K mg base "_law_same" 6 (spSame 4) := R_law_same 4
  have D_law_named : DefOk l.prog w K mg base "_law_named" 1 spNamed := ⟨_, _, _, ok_law_named F15 m10, PySem.W.mg_of X G a15, k15, B15⟩
  exact oklaw F16 m1 m3 m6 m7 Drows_to D_law_cell_at D_law_host D_law_same D_law_named
end K85
open PySem PySem.W PyProof.Rows
set_option maxRecDepth 100000 in
set_option maxHeartbeats 0 in
theorem PySem.Challenge.cw_asitruns_k85_rows_to_holds : PySem.Challenge.rw_asitruns_k85_rows_to.Holds := by
  w_on; o_law; k_head; (case hw => w_witness2)
  k_fill
  refine L3.law_walk (l := PySem.Challenge.rw_asitruns_k85_rows_to) 8 rfl rfl ⟨rfl, by decide, by decide⟩ (fun w h Y => PySem.W.kIn_of Y) ?F
  case F =>
    intro w mg fa h KX G hmg
    refine' K85.all_mk KX G hmg ?a0 ?l0 ?c0 ?k0 ?a1 ?l1 ?c1 ?k1 ?a2 ?l2 ?c2 ?k2 ?a3 ?l3 ?c3 ?k3 ?a4 ?l4 ?c4 ?k4 ?a5 ?l5 ?c5 ?k5 ?a6 ?l6 ?c6 ?k6 ?a7 ?l7 ?c7 ?k7 ?a8 ?l8 ?c8 ?k8 ?a9 ?l9 ?c9 ?k9 ?a10 ?l10 ?c10 ?k10 ?a11 ?l11 ?c11 ?k11 ?a12 ?l12 ?c12 ?k12 ?a13 ?l13 ?c13 ?k13 ?a14 ?l14 ?c14 ?k14 ?a15 ?l15 ?c15 ?k15 ?a16 ?l16 ?c16 ?k16 ?bD0 ?eD0 ?yD0 ?uD0 ?z0 ?z1 ?z2 ?z3 ?z4 ?z5 ?z6 ?z7 ?z8 ?z9 ?z10 ?z11 ?z12 ?z13
    (case a0 => k_is)
    (case l0 => k_is)
    (case c0 => k_is)
    (case k0 => k_is)
    (case a1 => k_is)
    (case l1 => k_is)
    (case c1 => k_is)
    (case k1 => k_is)
    (case a2 => k_is)
    (case l2 => k_is)
    (case c2 => k_is)
    (case k2 => k_is)
    (case a3 => k_is)
    (case l3 => k_is)
    (case c3 => k_is)
    (case k3 => k_is)
    (case a4 => k_is)
    (case l4 => k_is)
    (case c4 => k_is)
    (case k4 => k_is)
    (case a5 => k_is)
    (case l5 => k_is)
    (case c5 => k_is)
    (case k5 => k_is)
    (case a6 => k_is)
    (case l6 => k_is)
    (case c6 => k_is)
    (case k6 => k_is)
    (case a7 => k_is)
    (case l7 => k_is)
    (case c7 => k_is)
    (case k7 => k_is)
    (case a8 => k_is)
    (case l8 => k_is)
    (case c8 => k_is)
    (case k8 => k_is)
    (case a9 => k_is)
    (case l9 => k_is)
    (case c9 => k_is)
    (case k9 => k_is)
    (case a10 => k_is)
    (case l10 => k_is)
    (case c10 => k_is)
    (case k10 => k_is)
    (case a11 => k_is)
    (case l11 => k_is)
    (case c11 => k_is)
    (case k11 => k_is)
    (case a12 => k_is)
    (case l12 => k_is)
    (case c12 => k_is)
    (case k12 => k_is)
    (case a13 => k_is)
    (case l13 => k_is)
    (case c13 => k_is)
    (case k13 => k_is)
    (case a14 => k_is)
    (case l14 => k_is)
    (case c14 => k_is)
    (case k14 => k_is)
    (case a15 => k_is)
    (case l15 => k_is)
    (case c15 => k_is)
    (case k15 => k_is)
    (case a16 => k_is)
    (case l16 => k_is)
    (case c16 => k_is)
    (case k16 => k_is)
    (case bD0 => k_is)
    (case eD0 => k_is)
    (case yD0 => decide)
    (case uD0 => exact ⟨⟨_, _, rfl, rfl, rfl⟩, ⟨_, _, rfl, rfl, rfl⟩, ⟨_, _, rfl, rfl, rfl⟩, ⟨_, _, rfl, rfl, rfl⟩, ⟨_, _, rfl, rfl, rfl⟩, ⟨_, _, rfl, rfl, rfl⟩, ⟨_, _, rfl, rfl, rfl⟩, ⟨_, _, rfl, rfl, rfl⟩, ⟨_, _, rfl, rfl, rfl⟩, ⟨_, _, rfl, rfl, rfl⟩, ⟨_, _, rfl, rfl, rfl⟩, ⟨_, _, rfl, rfl, rfl⟩, ⟨_, _, rfl, rfl, rfl⟩, ⟨_, _, rfl, rfl, rfl⟩, ⟨_, _, rfl, rfl, rfl⟩, ⟨_, _, rfl, rfl, rfl⟩, ⟨_, _, rfl, rfl, rfl⟩, ⟨_, _, rfl, rfl, rfl⟩, ⟨_, _, rfl, rfl, rfl⟩, ⟨_, _, rfl, rfl, rfl⟩, ⟨_, _, rfl, rfl, rfl⟩, ⟨_, _, rfl, rfl, rfl⟩, ⟨_, _, rfl, rfl, rfl⟩, ⟨_, _, rfl, rfl, rfl⟩, ⟨_, _, rfl, rfl, rfl⟩, trivial⟩)
    (case z0 => k_is)
    (case z1 => k_is)
    (case z2 => k_is)
    (case z3 => k_is)
    (case z4 => k_is)
    (case z5 => k_is)
    (case z6 => k_is)
    (case z7 => k_is)
    (case z8 => k_is)
    (case z9 => k_is)
    (case z10 => k_is)
    (case z11 => k_is)
    (case z12 => k_is)
    (case z13 => k_is)

