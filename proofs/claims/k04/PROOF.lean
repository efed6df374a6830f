import PyProof.Rows.All
import Wide.All
import OpenK.AllK
import Wide.FinOn
import Lean
import PyProof.EqAt
import PyProof.EqKinds
import PyProof.TupleCall
import PyProof.NeKinds
import KE.LcSums
import KE.KRevSl
import OpenK.KTop
import PyProof.Draws
import PyProof.EnumMake
import KE.KIntText
import KE.KxText
import PyProof.StrLawsTight
import PyProof.StrLawsChain
import PyProof.StrLawsIn
import PyProof.StrLawsJoin
import PyProof.CallStr
import PyProof.MeetsStr
import PyProof.MeetsStr2
import PyProof.StrCalls2
import PyProof.StrLoop
import PyProof.ConsumeWalk
import PySem.Challenge.RW_asitruns_k04_whole_shown_and_read
set_option Elab.async false
set_option linter.all false
set_option maxRecDepth 100000
namespace L2
open PySem PySem.Spec PyProof.Rows
noncomputable abbrev Key := Sum Int Str
noncomputable def keyIs : Key → Value → Bool
  | .inl k, v => Value.isInt k v
  | .inr x, v => Value.isStrOf x v
noncomputable def keyH (w : World) : Key → Int
  | .inl k => hashInt k
  | .inr x => hashStr w x
theorem keyIs_shape : ∀ {k : Key} {v : Value}, keyIs k v = true → (∃ i t, k = Sum.inl i ∧ v = Value.int i t) ∨ (∃ x t, k = Sum.inr x ∧ v = Value.str x t)
  | .inl i, v, h => by
    obtain ⟨t, e⟩ := Value.isInt_shape (k := i) (v := v) h
    exact .inl ⟨i, t, rfl, e⟩
  | .inr x, v, h => by
    obtain ⟨t, e⟩ := Value.isStrOf_shape (x := x) (v := v) h
    exact .inr ⟨x, t, rfl, e⟩
theorem keyIs_int (i : Int) (t : Tok) : keyIs (.inl i) (.int i t) = true := by simp [keyIs, Value.isInt]
theorem keyIs_str (x : Str) (t : Tok) : keyIs (.inr x) (.str x t) = true := by simp [keyIs, Value.isStrOf]
theorem key_ll (a b : Int) : decide ((Sum.inl a : Key) = Sum.inl b) = (a == b) := by
  by_cases e : a = b
  · subst e; simp
  · have h : ¬ (Sum.inl a : Key) = Sum.inl b := fun q => e (Sum.inl.inj q)
    rw [decide_eq_false h]
    exact (beq_eq_false_iff_ne.mpr e).symm
theorem key_rr (a b : Str) : decide ((Sum.inr a : Key) = Sum.inr b) = decide (a = b) := by
  by_cases e : a = b
  · subst e; simp
  · have h : ¬ (Sum.inr a : Key) = Sum.inr b := fun q => e (Sum.inr.inj q)
    rw [decide_eq_false h, decide_eq_false e]
theorem key_lr (a : Int) (b : Str) : decide ((Sum.inl a : Key) = Sum.inr b) = false := decide_eq_false (fun q => nomatch q)
theorem key_rl (a : Str) (b : Int) : decide ((Sum.inr a : Key) = Sum.inl b) = false := decide_eq_false (fun q => nomatch q)
noncomputable def mixKind (prog : Program) (w : World) : PySem.KeyKind prog w Key where
  is := keyIs
  hash := keyH w
  inj := fun v a b ha hb => by
    rcases keyIs_shape ha with ⟨i, t, rfl, rfl⟩ | ⟨x, t, rfl, rfl⟩
    · rcases keyIs_shape hb with ⟨j, u, rfl, e⟩ | ⟨y, u, rfl, e⟩
      · injection e with e1 _; rw [e1]
      · exact nomatch e
    · rcases keyIs_shape hb with ⟨j, u, rfl, e⟩ | ⟨y, u, rfl, e⟩
      · exact nomatch e
      · injection e with e1 _; rw [e1]
  byValue := fun k v h => by
    rcases keyIs_shape h with ⟨i, t, rfl, rfl⟩ | ⟨x, t, rfl, rfl⟩ <;> rfl
  pyHash := fun hv h => by
    rcases keyIs_shape hv with ⟨i, t, rfl, rfl⟩ | ⟨x, t, rfl, rfl⟩
    · exact wpAny_pyHash_int h
    · exact wpAny_pyHash_str h
  eqBool := fun hu hv h => by
    rcases keyIs_shape hu with ⟨i, t, rfl, rfl⟩ | ⟨x, t, rfl, rfl⟩
    · rcases keyIs_shape hv with ⟨j, u, rfl, rfl⟩ | ⟨y, u, rfl, rfl⟩
      · rw [key_ll] at h; exact wpAny_eqBool_int h
      · rw [key_lr] at h; exact SeqAt.EqAt.int_str i t y u _ _ _ _ h
    · rcases keyIs_shape hv with ⟨j, u, rfl, rfl⟩ | ⟨y, u, rfl, rfl⟩
      · rw [key_rl] at h; exact SeqAt.EqAt.str_int x t j u _ _ _ _ h
      · rw [key_rr] at h; exact wpAny_eqBool_str h
  «strs» := fun k x t v h => by
    rcases keyIs_shape h with ⟨i, u, rfl, e⟩ | ⟨y, u, rfl, e⟩
    · exact nomatch e
    · injection e with e1 _
      subst e1
      cases v <;> rfl
theorem mixKind_int (prog : Program) (w : World) (i : Int) (t : Tok) : (mixKind prog w).is (.inl i) (.int i t) = true := keyIs_int i t
theorem mixKind_str (prog : Program) (w : World) (x : Str) (t : Tok) : (mixKind prog w).is (.inr x) (.str x t) = true := keyIs_str x t
end L2
namespace L2
open PySem PySem.Spec PyProof.Rows
inductive V where
  | non | bl (b : Bool) | int (i : Int) | str (x : Str) | byt (b : Array UInt8) | flt (b : UInt64) | ref (a : Addr) | ty (n : String)
  deriving DecidableEq
noncomputable def RelV : V → Value → Prop
  | .non, u => u = Value.none
  | .bl b, u => u = Value.bool b
  | .int i, u => ∃ t, u = Value.int i t
  | .str x, u => ∃ t, u = Value.str x t
  | .byt b, u => ∃ t, u = Value.bytes b t
  | .flt b, u => ∃ t, u = Value.float b t
  | .ref a, u => u = Value.ref a
  | .ty n, u => u = Value.type n
noncomputable abbrev Vals : List V → List Value → Prop := Paired RelV
theorem Vals.length {xs : List V} {us : List Value} (r : Vals xs us) : xs.length = us.length := Paired.length r
theorem Vals.get : ∀ {xs : List V} {us : List Value} {i : Nat} {x : V}, Vals xs us → xs[i]? = some x → ∃ u, us[i]? = some u ∧ RelV x u
  | _, _, _, _, .nil, e => by simp at e
  | _, _, 0, _, .cons r _, e => by simp at e; subst e; exact ⟨_, rfl, r⟩
  | _, _, i + 1, x, .cons _ t, e => by
    obtain ⟨u, h1, h2⟩ := Vals.get (i := i) (x := x) t (by simpa using e)
    exact ⟨u, by simpa using h1, h2⟩
theorem Vals.set {x : V} {u : Value} (r : RelV x u) : ∀ {xs : List V} {us : List Value} (i : Nat), Vals xs us → Vals (xs.set i x) (us.set i u)
  | _, _, _, .nil => .nil
  | _, _, 0, .cons _ t => .cons r t
  | _, _, i + 1, .cons q t => .cons q (Vals.set r i t)
theorem Vals.append : ∀ {xs ys : List V} {us ws : List Value}, Vals xs us → Vals ys ws → Vals (xs ++ ys) (us ++ ws)
  | _, _, _, _, .nil, s => s
  | _, _, _, _, .cons r t, s => .cons r (Vals.append t s)
theorem Vals.take : ∀ {xs : List V} {us : List Value} (n : Nat), Vals xs us → Vals (xs.take n) (us.take n)
  | _, _, 0, _ => .nil
  | _, _, _ + 1, .nil => .nil
  | _, _, n + 1, .cons r t => .cons r (Vals.take n t)
theorem Vals.drop : ∀ {xs : List V} {us : List Value} (n : Nat), Vals xs us → Vals (xs.drop n) (us.drop n)
  | _, _, 0, r => r
  | _, _, _ + 1, .nil => .nil
  | _, _, n + 1, .cons _ t => Vals.drop n t
noncomputable def RelO : Option V → Option Value → Prop
  | some v, some u => RelV v u
  | none, none => True
  | _, _ => False
noncomputable def KV {κ : Type} : List (κ × V) → List (κ × Value) → Prop := Paired fun (p : κ × V) (q : κ × Value) => p.1 = q.1 ∧ RelV p.2 q.2
noncomputable def kV : Key → V
  | .inl i => .int i
  | .inr x => .str x
inductive HO where
  /-- a list -/
  | lst (xs : List V)
  /-- a tuple (never changes) -/
  | tup (xs : List V)
  /-- a dict whose keys are ints and texts; one whose keys are tuples of ints and texts (the empty one is both) -/
  | dK (kvs : List (Key × V)) | dT (kvs : List (List Key × V))
  /-- a set of ints: its members, its size -/
  | set (S : Int → Bool) (n : Nat)
  /-- an instance of the class at C, its dict at dx, its attributes -/
  | ins (C dx : Addr) (fs : List (Str × V))
  /-- the dict of the instance at x -/
  | own (x : Addr)
  /-- the dict of an exception -/
  | xd (fs : List (Str × V))
  /-- a bound method, f of x -/
  | met (f x : Addr)
  /-- a range object lo, lo + 1, .. below hi -/
  | rng (lo hi : Int)
  /-- a thing that is known to the object (the script; a dict while a loop walks it): read, never written while it is so -/
  | frz (o : Obj) (u : HO)
  /-- a code object's table -/
  | tbl (ps : Array Value)
  /-- any other thing, by what is true of its one object (a def of one's own: SetO a S n := HO.ext fun h => ..) -/
  | ext (φ : Heap → Prop)
noncomputable abbrev Hp := Addr → Option HO
noncomputable def upd (H : Hp) (a : Addr) (o : HO) : Hp := fun b => if b = a then some o else H b
theorem upd_same {H : Hp} {a : Addr} {o : HO} : upd H a o a = some o := by unfold upd; rw [if_pos rfl]
theorem upd_ne {H : Hp} {a b : Addr} {o : HO} (h : b ≠ a) : upd H a o b = H b := by unfold upd; rw [if_neg h]
theorem ne_of {H : Hp} {a b : Addr} {o u : HO} (h : H a = some o) (h' : H b = some u) (d : o ≠ u) : a ≠ b := by
  intro e; subst e; rw [h] at h'; exact d (Option.some.inj h')
theorem ne_of_none {H : Hp} {a b : Addr} {o : HO} (h : H a = some o) (h' : H b = none) : a ≠ b := by
  intro e; subst e; rw [h] at h'; cases h'
section
variable (P : Program) (w : World)
noncomputable def ObjOk (H : Hp) (h : Heap) (a : Addr) : HO → Prop
  | .lst xs => xs.length ≤ sizeLine ∧ ∃ (its : List Value) (n : Nat), Vals xs its ∧ h.get? a = some { cls := .type "list", data := .seq its.toArray n }
  | .tup xs => xs.length ≤ sizeLine ∧ ∃ its : List Value, Vals xs its ∧ IsTup h a its.toArray
  | .dK kvs => kvs.length ≤ sizeLine ∧ (a == sysModules) = false ∧ ∃ vs, KV kvs vs ∧ h.DictOf (mixKind P w) a vs
  | .dT kvs => kvs.length ≤ sizeLine ∧ (a == sysModules) = false ∧ ∃ xs : List (List Key × Addr × Value),
      Paired (fun (p : List Key × V) (q : List Key × Addr × Value) => p.1 = q.1 ∧ H q.2.1 = some (.tup (p.1.map kV)) ∧ RelV p.2 q.2.2) kvs xs ∧
      ∃ o es ep, h.get? a = some o ∧ o.ExactDict ∧ o.data = .dict es ep ∧ es.toList = xs.map (entryOfKey (tupleKind (mixKind P w))) ∧ (xs.map (·.1)).Nodup
  | .set S n => h.SetOf (intKind P w) a S n
  | .ins C dx fs => H dx = some (.own a) ∧ fs.length ≤ 1000 ∧ dx ≠ a ∧ h.get? a = some (PySem.W.instObj C dx) ∧
      ∃ mA, h.Ns1 dx mA ∧ (∀ f, RelO (fs.lookup f) (mA f)) ∧ PySem.Within mA (fs.map (·.1))
  | .own _ => ∃ o, h.get? a = some o
  | .xd fs => ∃ mA, h.Ns1 a mA ∧ ∀ f, RelO (fs.lookup f) (mA f)
  | .rng lo hi => ∃ t u v, h.get? a = some { cls := .type "range", data := .fields #[.int lo t, .int hi u, .int 1 v] }
  | .frz o u => h.get? a = some o ∧ ObjOk H h a u
  | .tbl ps => h.get? a = some { cls := .none, data := .fields ps }
  | .met f x => h.get? a = some (PySem.W.methodObj (.ref f) (.ref x))
  | .ext φ => φ h ∧ (∃ o, h.get? a = some o) ∧ ∀ h1 h2 : Heap, φ h1 → (∀ o, h1.get? a = some o → h2.get? a = some o) → φ h2
noncomputable def HOk (H : Hp) (h : Heap) : Prop := ∀ a o, H a = some o → ObjOk P w H h a o
end
section
variable {P : Program} {w : World} {H H' : Hp} {h h' : Heap} {a : Addr} {o : HO}
theorem ObjOk.lt (x : ObjOk P w H h a o) : a < h.objs.size := by
  cases o with
  | lst xs => obtain ⟨_, _, _, _, e⟩ := x; exact Heap.lt_size e
  | tup xs => obtain ⟨_, _, _, p⟩ := x; exact p.lt
  | dK kvs => obtain ⟨_, _, _, _, o, _, _, e, _⟩ := x; exact Heap.lt_size e
  | dT kvs => obtain ⟨_, _, _, _, o, _, _, e, _⟩ := x; exact Heap.lt_size e
  | set S n => obtain ⟨o, _, _, _, e, _⟩ := x; exact Heap.lt_size e
  | ins C dx fs => obtain ⟨_, _, _, e, _⟩ := x; exact Heap.lt_size e
  | own y => obtain ⟨_, e⟩ := x; exact Heap.lt_size e
  | xd fs => obtain ⟨_, ⟨_, _, _, e, _⟩, _⟩ := x; exact Heap.lt_size e
  | rng lo hi => obtain ⟨_, _, _, e⟩ := x; exact Heap.lt_size e
  | frz ob u => obtain ⟨e, _⟩ := x; exact Heap.lt_size e
  | tbl ps => exact Heap.lt_size (show h.get? a = some _ from x)
  | met f y => exact Heap.lt_size (show h.get? a = some _ from x)
  | ext φ => obtain ⟨_, ⟨_, e⟩, _⟩ := x; exact Heap.lt_size e
theorem Paired.mapP {α β : Type} {F G : α → β → Prop} : ∀ {l₁ : List α} {l₂ : List β}, Paired F l₁ l₂ → (∀ a b, F a b → G a b) → Paired G l₁ l₂
  | _, _, .nil, _ => .nil
  | _, _, .cons r t, f => .cons (f _ _ r) (Paired.mapP t f)
theorem ObjOk.stay (x : ObjOk P w H h a o) (k : ∀ b u, (b = a ∨ H b = some (.own a)) → h.get? b = some u → h'.get? b = some u)
    (ho : ∀ b, H b = some (.own a) → H' b = some (.own a)) (ht : ∀ b xs, H b = some (.tup xs) → H' b = some (.tup xs)) : ObjOk P w H' h' a o := by
  induction o with
  | lst xs => obtain ⟨z, its, n, r, e⟩ := x; exact ⟨z, its, n, r, k _ _ (.inl rfl) e⟩
  | tup xs => obtain ⟨z, its, r, ob, e, c⟩ := x; exact ⟨z, its, r, ob, k _ _ (.inl rfl) e, c⟩
  | dK kvs => obtain ⟨z, y, vs, r, ob, es, ep, e, c⟩ := x; exact ⟨z, y, vs, r, ob, es, ep, k _ _ (.inl rfl) e, c⟩
  | dT kvs =>
    obtain ⟨z, y, xs, r, ob, es, ep, e, c⟩ := x
    exact ⟨z, y, xs, Paired.mapP r fun p q z => ⟨z.1, ht _ _ z.2.1, z.2.2⟩, ob, es, ep, k _ _ (.inl rfl) e, c⟩
  | set S n => obtain ⟨ob, es, ep, t, e, c⟩ := x; exact ⟨ob, es, ep, t, k _ _ (.inl rfl) e, c⟩
  | ins C dx fs =>
    obtain ⟨d, z, ne, e, mA, ⟨od, es, ep, e2, c⟩, r⟩ := x
    exact ⟨ho _ d, z, ne, k _ _ (.inl rfl) e, mA, ⟨od, es, ep, k _ _ (.inr d) e2, c⟩, r⟩
  | own y => obtain ⟨ob, e⟩ := x; exact ⟨ob, k _ _ (.inl rfl) e⟩
  | xd fs => obtain ⟨mA, ⟨od, es, ep, e, c⟩, r⟩ := x; exact ⟨mA, ⟨od, es, ep, k _ _ (.inl rfl) e, c⟩, r⟩
  | rng lo hi => obtain ⟨t, u, v, e⟩ := x; exact ⟨t, u, v, k _ _ (.inl rfl) e⟩
  | frz ob u ih => obtain ⟨e, q⟩ := x; exact ⟨k _ _ (.inl rfl) e, ih q⟩
  | tbl ps =>
    have e : h.get? a = some { cls := .none, data := .fields ps } := x
    show h'.get? a = some { cls := .none, data := .fields ps }
    exact k a _ (.inl rfl) e
  | met f y =>
    have e : h.get? a = some (PySem.W.methodObj (.ref f) (.ref y)) := x
    show h'.get? a = some (PySem.W.methodObj (.ref f) (.ref y))
    exact k a _ (.inl rfl) e
  | ext φ => obtain ⟨p, ⟨o, e⟩, st⟩ := x; exact ⟨st _ _ p fun o q => k _ _ (.inl rfl) q, ⟨o, k _ _ (.inl rfl) e⟩, st⟩
theorem HOk.lt (x : HOk P w H h) (e : H a = some o) : a < h.objs.size := (x a o e).lt
theorem HOk.fresh (x : HOk P w H h) (e : h.objs.size ≤ a) : H a = none := by
  cases q : H a with
  | none => rfl
  | some u => exact absurd (Nat.lt_of_lt_of_le (x.lt q) e) (Nat.lt_irrefl _)
theorem HOk.kept (x : HOk P w H h) (k : ∀ b u, h.get? b = some u → h'.get? b = some u) : HOk P w H h' := fun a o e =>
  (x a o e).stay (fun b u _ q => k b u q) (fun _ q => q) fun _ _ q => q
theorem HOk.laid (x : HOk P w H h) (k : ∀ b u, h.get? b = some u → h'.get? b = some u) (hp : h.objs.size ≤ a) (new : ObjOk P w (upd H a o) h' a o) : HOk P w (upd H a o) h' := fun b u e => by
  have hn := x.fresh hp
  by_cases hb : b = a
  · subst hb; rw [upd_same] at e; cases e; exact new
  · rw [upd_ne hb] at e
    exact (x b u e).stay (fun c v _ q => k c v q) (fun c q => by rw [upd_ne (ne_of_none q hn)]; exact q) fun c xs q => by rw [upd_ne (ne_of_none q hn)]; exact q
end
noncomputable def Rd (H : Hp) (a : Addr) (u : HO) : Prop := H a = some u ∨ ∃ o, H a = some (.frz o u)
theorem Rd.of {H : Hp} {a : Addr} {u : HO} (h : H a = some u) : Rd H a u := .inl h
theorem Rd.ok {P : Program} {w : World} {H : Hp} {h : Heap} {a : Addr} {u : HO} (r : Rd H a u) (x : HOk P w H h) : ObjOk P w H h a u := by
  rcases r with r | ⟨o, r⟩
  · exact x a u r
  · obtain ⟨_, q⟩ := x a _ r
    exact q
noncomputable def Mut : Option HO → Prop
  | some (.lst _) => True
  | some (.dK _) => True
  | some (.dT _) => True
  | some (.set _ _) => True
  | some (.ins _ _ _) => True
  | some (.ext _) => True
  | _ => False
section
variable {P : Program} {w : World} {H : Hp} {h h' : Heap} {x e : Addr} {o' : HO}
theorem HOk.write (ok : HOk P w H h) (mu : Mut (H x)) (he : e = x ∨ H e = some (.own x)) (k : ∀ b u, b ≠ e → h.get? b = some u → h'.get? b = some u) (heo : ∃ u, h'.get? e = some u)
    (new : ObjOk P w (upd H x o') h' x o') : HOk P w (upd H x o') h' := fun b u q => by
  have nown : ∀ c y, H c = some (.own y) → c ≠ x := fun c y r z => by subst z; rw [r] at mu; exact mu
  have ntup : ∀ c xs, H c = some (.tup xs) → c ≠ x := fun c xs r z => by subst z; rw [r] at mu; exact mu
  by_cases hb : b = x
  · subst hb; rw [upd_same] at q; cases q; exact new
  · rw [upd_ne hb] at q
    by_cases hbe : b = e
    · have q' : H b = some (.own x) := by
        rcases he with z | z
        · exact absurd (hbe.trans z) hb
        · rw [hbe]; exact z
      rw [q] at q'; cases q'
      obtain ⟨v, hv⟩ := heo
      exact ⟨v, by rw [hbe]; exact hv⟩
    · refine (ok b u q).stay (fun c v hc r => k c v ?_ r) (fun c r => by rw [upd_ne (nown c b r)]; exact r) fun c xs r => by rw [upd_ne (ntup c xs r)]; exact r
      rcases hc with rfl | hc
      · exact hbe
      · rintro rfl
        rcases he with z | z
        · exact nown c b hc z
        · rw [hc] at z; cases z; exact hb rfl
end
structure Un (fs ex : List Addr) (H H' : Hp) (h h' : Heap) : Prop where
  keep : ∀ b o, h.get? b = some o → H b = none → b ∉ fs → b ∉ ex → h'.get? b = some o
  slot : ∀ b o, h.get? b = some o → H b = none → b ∈ fs → b ∉ ex → ∃ sl, h'.get? b = some { o with slots := sl }
  free : ∀ b o, h.get? b = some o → H b = none → b ∉ ex → H' b = none
  there : ∀ b o, h.get? b = some o → b ∉ ex → ∃ o', h'.get? b = some o'
  tups : ∀ b xs, H b = some (.tup xs) → H' b = some (.tup xs)
  frzs : ∀ b o u, H b = some (.frz o u) → H' b = some (.frz o u)
  tbls : ∀ b ps, H b = some (.tbl ps) → ∃ more, H' b = some (.tbl (ps ++ more))
section
variable {fs fs' ex ex' : List Addr} {H H1 H2 : Hp} {h h1 h2 h' : Heap} {a x e : Addr} {o : HO}
theorem Un.any (u : Un fs ex H H1 h h1) {b : Addr} {ob : Obj} (q : h.get? b = some ob) (n : H b = none) (hx : b ∉ ex) : ∃ sl, h1.get? b = some { ob with slots := sl } := by
  by_cases hb : b ∈ fs
  · exact u.slot b ob q n hb hx
  · exact ⟨ob.slots, u.keep b ob q n hb hx⟩
theorem Un.trans (a : Un fs ex H H1 h h1) (b : Un fs ex H1 H2 h1 h2) : Un fs ex H H2 h h2 where
  keep := fun c ob q n hc hx => b.keep c ob (a.keep c ob q n hc hx) (a.free c ob q n hx) hc hx
  slot := fun c ob q n hc hx => by
    obtain ⟨sl, e1⟩ := a.slot c ob q n hc hx
    obtain ⟨sl', e2⟩ := b.slot c _ e1 (a.free c ob q n hx) hc hx
    exact ⟨sl', e2⟩
  free := fun c ob q n hx => by
    obtain ⟨o', e1⟩ := a.there c ob q hx
    exact b.free c o' e1 (a.free c ob q n hx) hx
  there := fun c ob q hx => by
    obtain ⟨o', e1⟩ := a.there c ob q hx
    exact b.there c o' e1 hx
  tups := fun c xs q => b.tups c xs (a.tups c xs q)
  frzs := fun c ob xs q => b.frzs c ob xs (a.frzs c ob xs q)
  tbls := fun c ps q => by
    obtain ⟨m1, e1⟩ := a.tbls c ps q
    obtain ⟨m2, e2⟩ := b.tbls c _ e1
    exact ⟨m1 ++ m2, by rw [e2, Array.append_assoc]⟩
theorem Un.kept (k : ∀ b u, h.get? b = some u → h'.get? b = some u) : Un fs ex H H h h' :=
  ⟨fun b ob q _ _ _ => k b ob q, fun b ob q _ _ _ => ⟨ob.slots, k b ob q⟩, fun _ _ _ n _ => n, fun b ob q _ => ⟨ob, k b ob q⟩, fun _ _ q => q, fun _ _ _ q => q, fun _ ps q => ⟨#[], by rw [q]; simp⟩⟩
theorem Un.refl : Un fs ex H H h h := Un.kept fun _ _ q => q
theorem Un.laid (k : ∀ b u, h.get? b = some u → h'.get? b = some u) (hp : h.objs.size ≤ a) (hn : H a = none) : Un fs ex H (upd H a o) h h' where
  keep := fun b u q _ _ _ => k b u q
  slot := fun b u q _ _ _ => ⟨u.slots, k b u q⟩
  free := fun b u q n _ => by rw [upd_ne (Nat.ne_of_lt (Nat.lt_of_lt_of_le (Heap.lt_size q) hp))]; exact n
  there := fun b u q _ => ⟨u, k b u q⟩
  tups := fun b xs q => by rw [upd_ne (ne_of_none q hn)]; exact q
  frzs := fun b u xs q => by rw [upd_ne (ne_of_none q hn)]; exact q
  tbls := fun b ps q => ⟨#[], by rw [upd_ne (ne_of_none q hn), q]; simp⟩
theorem Un.write (mu : Mut (H x)) (he : e = x ∨ H e = some (.own x)) (k : ∀ b u, b ≠ e → h.get? b = some u → h'.get? b = some u) (heo : ∃ u, h'.get? e = some u) : Un fs ex H (upd H x o) h h' := by
  have hx : ∀ b, H b = none → b ≠ x := fun b n z => by subst z; rw [n] at mu; exact mu
  have hb : ∀ b, H b = none → b ≠ e := fun b n z => by
    subst z
    rcases he with r | r
    · exact hx b n r
    · rw [n] at r; cases r
  have hm : ∀ b u, H b = some u → ¬ Mut (some u) → b ≠ x := fun b u q nm z => by subst z; rw [q] at mu; exact nm mu
  refine ⟨fun b u q n _ _ => k b u (hb b n) q, fun b u q n _ _ => ⟨u.slots, k b u (hb b n) q⟩, fun b u q n _ => by rw [upd_ne (hx b n)]; exact n, fun b u q _ => ?_,
    fun b xs q => by rw [upd_ne (hm b _ q fun z => z)]; exact q, fun b u xs q => by rw [upd_ne (hm b _ q fun z => z)]; exact q, fun b ps q => ⟨#[], by rw [upd_ne (hm b _ q fun z => z), q]; simp⟩⟩
  by_cases hbe : b = e
  · subst hbe; exact heo
  · exact ⟨u, k b u hbe q⟩
theorem Un.mono (u : Un fs ex H H1 h h1) (hs : ∀ b ∈ fs, b ∈ fs') (hx : ∀ b ∈ ex, b ∈ ex') : Un fs' ex' H H1 h h1 :=
  ⟨fun b ob q n hb he => u.keep b ob q n (fun z => hb (hs b z)) fun z => he (hx b z), fun _ _ q n _ he => u.any q n fun z => he (hx _ z), fun b ob q n he => u.free b ob q n fun z => he (hx b z), fun b ob q he => u.there b ob q fun z => he (hx b z), u.tups, u.frzs, u.tbls⟩
end
noncomputable def trk (h : Heap) (H : Hp) : List Addr := (List.range h.objs.size).filter fun a => (H a).isSome
noncomputable def hidT (h : Heap) (H : Hp) : Heap := PySem.W.hideAll h (trk h H)
theorem hidT_size (h : Heap) (H : Hp) : (hidT h H).objs.size = h.objs.size := PySem.W.hideAll_size _ _
theorem hidT_get {h : Heap} {H : Hp} {b : Addr} {o : Obj} (e : h.get? b = some o) (n : H b = none) : (hidT h H).get? b = some o :=
  PySem.W.hideAll_get _ e fun hm => by
    have q : (H b).isSome = true := (List.mem_filter.mp hm).2
    rw [n] at q; simp at q
theorem of_hidT {h : Heap} {H : Hp} {b : Addr} {o : Obj} (e : (hidT h H).get? b = some o) : h.get? b = some o ∧ H b = none := by
  have e' : h.get? b = some o := PySem.W.of_hideAll (trk h H) e
  refine ⟨e', ?_⟩
  cases q : H b with
  | none => rfl
  | some x =>
    have hm : b ∈ trk h H := List.mem_filter.mpr ⟨List.mem_range.mpr (Heap.lt_size e'), by simp [q]⟩
    have z : (hidT h H).get? b = none := PySem.W.hideAll_none (trk h H) hm
    rw [z] at e; cases e
noncomputable def allNews (g h : Heap) (L : Addr) : List (Addr × Obj) := (List.range h.objs.size).filterMap fun a => if a = L ∨ (g.get? a).isSome = true then none else (h.get? a).map fun o => (a, o)
noncomputable def rest (g h : Heap) (L d : Addr) : List (Addr × Obj) := (allNews g h L).filter fun p => decide (p.1 ≠ d)
end L2
namespace L2
open PySem PySem.Spec PyProof.Rows
structure Mod (K : PySem.W.Frag) (mg : Str → Option Value) (base : Heap) : Prop where
  kin : K.In base
  glob : base.Ns mainGlobals mg
  blt : ∃ mb, base.Ns builtinsNs mb ∧ ∀ x : Str, x ≠ "__name__" → mb x = bootBuiltins x
  nolimit : base.NoLimit
structure Cx where
  prog : Program
  w : World
  K : PySem.W.Frag
  mg : Str → Option Value
  base : Heap
  A : Around
  N : List Str
  s₀ : Shared
  H₀ : Hp
  env : Env
  outer : List Env
  stack : List Env
  ex : List Addr
  fn : Str → Bool
  calm : Bool
  pn : List (Addr × Obj)
  xe : Value → Shared → Prop
noncomputable def frs (l : List Env) : List Addr := l.filterMap (·.frame)
noncomputable abbrev Cx.fs (X : Cx) : List Addr := frs X.outer
noncomputable def Vis (sc : Scope) (x : Str) : Prop := sc.names.lookup x = some .local ∨ sc.names.lookup x = some .cell ∨ sc.names.lookup x = some .free
noncomputable def Loc (sc : Scope) (x : Str) : Prop := sc.names.lookup x = some .local ∨ sc.names.lookup x = some .cell
noncomputable def Look (env : Env) (h : Heap) (m : Str → Option Value) (x : Str) (u : Value) : Prop :=
  (env.kindOf x = some .local ∧ m x = some u) ∨ ((env.kindOf x = some .cell ∨ env.kindOf x = some .free) ∧ ∃ c, env.cells.lookup x = some c ∧ h.IsCell c (some u))
structure Cx.Ok (X : Cx) : Prop where
  mod : Mod X.K X.mg X.base
  kind : X.env.scope.kind = .function
  glob : X.env.globals = mainGlobals
  blt : X.env.builtins = builtinsNs
  above : X.s₀.heap.objs.size ≤ X.env.locals
  inj : ∀ x y c, X.env.cells.lookup x = some c → X.env.cells.lookup y = some c → x = y
  has : ∀ x, (X.env.kindOf x = some .cell ∨ X.env.kindOf x = some .free) → ∃ c, X.env.cells.lookup x = some c
  cab : ∀ x c, X.fn x = true → X.env.cells.lookup x = some c → X.s₀.heap.objs.size ≤ c
  hd : X.calm = true → X.A.handled = none
  frames : X.A.frames = some X.stack
  stk : X.stack = X.outer ∨ (X.stack = X.env :: X.outer ∧ X.env.frame = some X.env.locals)
  exf : ∀ b ∈ X.ex, b ≠ X.env.locals ∧ ∀ x c, X.env.cells.lookup x = some c → c ≠ b
  bs : ∀ b o, X.base.get? b = some o → X.s₀.heap.get? b = some o ∧ X.H₀ b = none
  bsz : X.base.objs.size ≤ X.s₀.heap.objs.size
  noex : ∀ b o, X.base.get? b = some o → b ∉ X.ex
  exfs : ∀ b ∈ X.ex, b ∉ X.fs
  funs : X.s₀.heap.FunFrames X.base X.outer
  frf : ∀ b ∈ X.fs, X.H₀ b = none
structure Inv (X : Cx) (pins : List (Addr × Obj)) (σ : List (Option V)) (H : Hp) (s : Shared) : Prop where
  ok : X.Ok
  os : s.os = X.s₀.os
  bare : AllBare s.gens
  base : Un X.fs X.ex X.H₀ H X.s₀.heap s.heap
  loc : ∃ m, s.heap.Ns X.env.locals m ∧ ∀ (i : Nat) (x : Str) (v : V), X.N[i]? = some x → σ[i]? = some (some v) → Vis X.env.scope x → ∃ u, RelV v u ∧ Look X.env s.heap m x u
  cell : ∀ x c, X.env.cells.lookup x = some c → ∃ v, s.heap.IsCell c v
  free : H X.env.locals = none
  freeC : ∀ x c, X.env.cells.lookup x = some c → H c = none
  pin : ∀ p ∈ X.pn ++ pins, s.heap.get? p.1 = some p.2 ∧ H p.1 = none ∧ p.1 ≠ X.env.locals ∧ p.1 ∉ X.fs ∧ ∀ v, p.2.data ≠ .cell v
  hok : HOk X.prog X.w H s.heap
  len : σ.length = X.N.length
section
variable {X : Cx} {pins : List (Addr × Obj)} {σ : List (Option V)} {H H' : Hp} {s : Shared} {h' : Heap}
theorem Cx.Ok.nofr (ok : X.Ok) {b : Addr} {o : Obj} (e : X.base.get? b = some o) : b ∉ X.fs := fun hb => by
  have := (ok.funs.mem hb).1
  rw [e] at this; cases this
theorem Inv.bs (I : Inv X pins σ H s) : ∀ b o, X.base.get? b = some o → s.heap.get? b = some o ∧ H b = none := fun b o e =>
  ⟨I.base.keep b o (I.ok.bs b o e).1 (I.ok.bs b o e).2 (I.ok.nofr e) (I.ok.noex b o e), I.base.free b o (I.ok.bs b o e).1 (I.ok.bs b o e).2 (I.ok.noex b o e)⟩
theorem Inv.bk (I : Inv X pins σ H s) : ∀ b o, X.base.get? b = some o → s.heap.get? b = some o := fun b o e => (I.bs b o e).1
theorem Inv.mod (I : Inv X pins σ H s) : Mod X.K X.mg X.base := I.ok.mod
theorem Inv.kIn (I : Inv X pins σ H s) : X.K.In s.heap := I.ok.mod.kin.keeps I.bk
theorem Inv.nolimit (I : Inv X pins σ H s) : s.heap.NoLimit := I.ok.mod.nolimit.keeps I.bk
theorem Inv.fr (I : Inv X pins σ H s) : ∃ m, Fr X.base X.env.locals s.heap m :=
  let ⟨m, hn, _⟩ := I.loc
  ⟨m, hn, I.bk, Nat.le_trans I.ok.bsz I.ok.above⟩
theorem Inv.lt (I : Inv X pins σ H s) : X.env.locals < s.heap.objs.size := let ⟨_, hn, _⟩ := I.loc; hn.lt
theorem Inv.sz (I : Inv X pins σ H s) : X.s₀.heap.objs.size ≤ s.heap.objs.size := Nat.le_trans I.ok.above (Nat.le_of_lt I.lt)
theorem Inv.nofs (I : Inv X pins σ H s) {a : Addr} (h : s.heap.objs.size ≤ a) : a ∉ X.fs := fun hb => by
  obtain ⟨_, o, ho, _⟩ := I.ok.funs.mem hb
  exact absurd (Nat.lt_of_lt_of_le (Heap.lt_size ho) (Nat.le_trans I.sz h)) (Nat.lt_irrefl _)
theorem Inv.cne (I : Inv X pins σ H s) : ∀ x c, X.env.cells.lookup x = some c → c ≠ X.env.locals := fun x c e z => by
  obtain ⟨v, o, ho, hd⟩ := I.cell x c e
  obtain ⟨m, ⟨o', es, ep, ho', hd', _⟩, _⟩ := I.loc
  rw [z, ho'] at ho; cases ho; rw [hd'] at hd; cases hd
theorem Inv.funs (I : Inv X pins σ H s) : s.heap.FunFrames X.base X.outer := by
  have all : ∀ (l : List Env), (∀ b ∈ frs l, b ∈ X.fs) → X.s₀.heap.FunFrames X.base l → s.heap.FunFrames X.base l := by
    intro l
    induction l with
    | nil => intro _ _; trivial
    | cons env r ih =>
      intro hs hl
      obtain ⟨hk, ⟨L, o, hf, hn, ho, hd⟩, hr⟩ := hl
      have hL : L ∈ X.fs := hs L (by unfold frs; rw [List.filterMap_cons, hf]; exact List.mem_cons_self)
      obtain ⟨sl, e⟩ := I.base.slot L o ho (I.ok.frf L hL) hL fun z => I.ok.exfs L z hL
      exact ⟨hk, ⟨L, _, hf, hn, e, hd⟩, ih (fun b hb => hs b (by unfold frs; rw [List.filterMap_cons, hf]; exact List.mem_cons_of_mem _ hb)) hr⟩
  exact all X.outer (fun _ hb => hb) I.ok.funs
theorem Inv.stack (I : Inv X pins σ H s) : s.heap.FunFrames X.base X.stack := by
  rcases I.ok.stk with e | ⟨e, hf⟩
  · rw [e]; exact I.funs
  · rw [e]
    obtain ⟨m, hn, _⟩ := I.loc
    refine .cons (by rw [I.ok.kind]; decide) hf hn ?_ I.funs
    exact Heap.get?_none_of_le (Nat.le_trans I.ok.bsz I.ok.above)
theorem Inv.stkSub (I : Inv X pins σ H s) : ∀ b ∈ frs X.stack, b ∈ X.env.locals :: X.fs := fun b hb => by
  rcases I.ok.stk with e | ⟨e, hf⟩
  · rw [e] at hb; exact List.mem_cons_of_mem _ hb
  · rw [e] at hb
    unfold frs at hb
    rw [List.filterMap_cons, hf] at hb
    exact hb
theorem Inv.stkFree (I : Inv X pins σ H s) : ∀ b ∈ frs X.stack, H b = none := fun b hb => by
  rcases List.mem_cons.mp (I.stkSub b hb) with e | hb
  · rw [e]; exact I.free
  · obtain ⟨_, o, ho, _⟩ := I.ok.funs.mem hb
    exact I.base.free b o ho (I.ok.frf b hb) fun z => I.ok.exfs b z hb
theorem Inv.step {g' : Array GenState} {t' : Nat} {d' : Drawn} {ch : List Addr} (I : Inv X pins σ H s)
    (hch : ∀ b ∈ ch, (b ∈ X.ex ∨ X.s₀.heap.objs.size ≤ b) ∧ b ≠ X.env.locals ∧ (∀ x c, X.env.cells.lookup x = some c → c ≠ b) ∧ ∀ p ∈ X.pn ++ pins, p.1 ≠ b)
    (keep : ∀ b o, b ≠ X.env.locals → b ∉ X.fs → b ∉ ch → s.heap.get? b = some o → H b = none → h'.get? b = some o)
    (slot : ∀ b o, b ≠ X.env.locals → b ∈ X.fs → b ∉ ch → s.heap.get? b = some o → H b = none → ∃ sl, h'.get? b = some { o with slots := sl }) (free : ∀ b o, b ∉ ch → s.heap.get? b = some o → H b = none → H' b = none)
    (there : ∀ b o, b ∉ ch → s.heap.get? b = some o → ∃ o', h'.get? b = some o')
    (tups : ∀ b xs, H b = some (.tup xs) → H' b = some (.tup xs)) (frzs : ∀ b o u, H b = some (.frz o u) → H' b = some (.frz o u)) (tbls : ∀ b ps, H b = some (.tbl ps) → ∃ more, H' b = some (.tbl (ps ++ more)))
    (ns : ∀ m, s.heap.Ns X.env.locals m → h'.Ns X.env.locals m) (hok : HOk X.prog X.w H' h') (hg : AllBare g') :
    Inv X pins σ H' { s with heap := h', gens := g', drawn := d', toks := t' } := by
  have neL : ∀ b o, X.s₀.heap.get? b = some o → b ≠ X.env.locals := fun b o e => Nat.ne_of_lt (Nat.lt_of_lt_of_le (Heap.lt_size e) I.ok.above)
  have neC : ∀ b o, X.s₀.heap.get? b = some o → b ∉ X.ex → b ∉ ch := fun b o e hx hb => by
    rcases (hch b hb).1 with z | z
    · exact hx z
    · exact absurd (Nat.lt_of_lt_of_le (Heap.lt_size e) z) (Nat.lt_irrefl _)
  have cellK : ∀ x c, X.env.cells.lookup x = some c → ∀ v, s.heap.IsCell c v → h'.IsCell c v := fun x c e v ⟨o, ho, hd⟩ => by
    have nch : c ∉ ch := fun z => (hch c z).2.2.1 x c e rfl
    by_cases hc : c ∈ X.fs
    · obtain ⟨sl, q⟩ := slot c o (I.cne x c e) hc nch ho (I.freeC x c e)
      exact ⟨_, q, hd⟩
    · exact ⟨o, keep c o (I.cne x c e) hc nch ho (I.freeC x c e), hd⟩
  refine ⟨I.ok, I.os, hg, ⟨fun b o e n hb hx => ?_, fun b o e n hb hx => ?_, fun b o e n hx => ?_, fun b o e hx => ?_, fun b xs e => tups b xs (I.base.tups b xs e), fun b o xs e => frzs b o xs (I.base.frzs b o xs e), fun b ps e => ?_⟩, ?_, fun x c e => ?_, ?_, fun x c e => ?_, fun p hp => ?_, hok, I.len⟩
  · exact keep b o (neL b o e) hb (neC b o e hx) (I.base.keep b o e n hb hx) (I.base.free b o e n hx)
  · obtain ⟨sl, e1⟩ := I.base.slot b o e n hb hx
    obtain ⟨sl', e2⟩ := slot b _ (neL b o e) hb (neC b o e hx) e1 (I.base.free b o e n hx)
    exact ⟨sl', e2⟩
  · obtain ⟨o', e1⟩ := I.base.there b o e hx
    exact free b o' (neC b o e hx) e1 (I.base.free b o e n hx)
  · obtain ⟨o', e1⟩ := I.base.there b o e hx
    exact there b o' (neC b o e hx) e1
  · obtain ⟨m1, e1⟩ := I.base.tbls b ps e
    obtain ⟨m2, e2⟩ := tbls b _ e1
    exact ⟨m1 ++ m2, by rw [e2, Array.append_assoc]⟩
  · obtain ⟨m, hn, hl⟩ := I.loc
    refine ⟨m, ns m hn, fun i x v e1 e2 e3 => ?_⟩
    obtain ⟨u, r, l⟩ := hl i x v e1 e2 e3
    refine ⟨u, r, ?_⟩
    rcases l with l | ⟨k, c, e, z⟩
    · exact .inl l
    · exact .inr ⟨k, c, e, cellK x c e _ z⟩
  · obtain ⟨v, z⟩ := I.cell x c e
    exact ⟨v, cellK x c e v z⟩
  · obtain ⟨m, ⟨o, _, _, ho, _⟩, _⟩ := I.loc
    exact free _ o (fun z => (hch _ z).2.1 rfl) ho I.free
  · obtain ⟨v, o, ho, hd⟩ := I.cell x c e
    exact free c o (fun z => (hch c z).2.2.1 x c e rfl) ho (I.freeC x c e)
  · obtain ⟨e, n, ne, nf, d⟩ := I.pin p hp
    have nch : p.1 ∉ ch := fun z => (hch p.1 z).2.2.2 p hp rfl
    exact ⟨keep p.1 p.2 ne nf nch e n, free p.1 p.2 nch e n, ne, nf, d⟩
theorem Inv.un {t' : Nat} (I : Inv X pins σ H s) (u : Un X.fs [] H H' s.heap h') (hok : HOk X.prog X.w H' h') : Inv X pins σ H' { s with heap := h', toks := t' } := by
  obtain ⟨m, ⟨o, es, ep, ho, r⟩, _⟩ := id I.loc
  obtain ⟨sl, hL⟩ := u.any ho I.free (by simp)
  exact I.step (g' := s.gens) (d' := s.drawn) (ch := []) (fun _ z => nomatch z) (fun b o _ hb _ e n => u.keep b o e n hb (by simp)) (fun b o _ hb _ e n => u.slot b o e n hb (by simp)) (fun b o _ e n => u.free b o e n (by simp)) (fun b o _ e => u.there b o e (by simp)) u.tups u.frzs u.tbls (fun m' hm => by
    obtain ⟨o', es', ep', ho', r'⟩ := hm
    rw [ho] at ho'; cases ho'
    exact ⟨_, es', ep', hL, r'⟩) hok I.bare
theorem Inv.call {g' : Array GenState} {t' : Nat} {d' : Drawn} {ch : List Addr} (I : Inv X pins σ H s) (u : Un (frs X.stack) ch H H' s.heap h') (hok : HOk X.prog X.w H' h') (hg : AllBare g')
    (hch : ∀ b ∈ ch, (b ∈ X.ex ∨ X.s₀.heap.objs.size ≤ b) ∧ b ≠ X.env.locals ∧ (∀ x c, X.env.cells.lookup x = some c → c ≠ b) ∧ ∀ p ∈ X.pn ++ pins, p.1 ≠ b) :
    Inv X pins σ H' { s with heap := h', gens := g', drawn := d', toks := t' } := by
  obtain ⟨m, ⟨o, es, ep, ho, r⟩, _⟩ := id I.loc
  obtain ⟨sl, hL⟩ := u.any ho I.free fun z => (hch _ z).2.1 rfl
  exact I.step (ch := ch) hch (fun b o hL hb hc e n => u.keep b o e n (fun z => (List.mem_cons.mp (I.stkSub b z)).elim hL hb) hc) (fun b o _ _ hc e n => u.any e n hc) (fun b o hc e n => u.free b o e n hc) (fun b o hc e => u.there b o e hc) u.tups u.frzs u.tbls (fun m' hm => by
    obtain ⟨o', es', ep', ho', r'⟩ := hm
    rw [ho] at ho'; cases ho'
    exact ⟨_, es', ep', hL, r'⟩) hok hg
theorem Inv.turned {t' : Nat} {it : Addr} (I : Inv X pins σ H s) (k : ∀ b o, b ≠ it → s.heap.get? b = some o → h'.get? b = some o) (hn : H it = none) (hL : it ≠ X.env.locals)
    (h1 : it ∈ X.ex ∨ X.s₀.heap.objs.size ≤ it) (h2 : ∀ x c, X.env.cells.lookup x = some c → c ≠ it) (h3 : ∀ p ∈ X.pn ++ pins, p.1 ≠ it) : Inv X pins σ H { s with heap := h', toks := t' } := by
  have nit : ∀ b u, H b = some u → b ≠ it := fun b u e z => by rw [z, hn] at e; cases e
  refine I.step (g' := s.gens) (d' := s.drawn) (ch := [it]) (fun b hb => ?_) (fun b o _ _ hc e _ => k b o (fun z => hc (by simp [z])) e) (fun b o _ _ hc e _ => ⟨o.slots, k b o (fun z => hc (by simp [z])) e⟩) (fun _ _ _ _ n => n)
    (fun b o hc e => ⟨o, k b o (fun z => hc (by simp [z])) e⟩) (fun _ _ e => e) (fun _ _ _ e => e) (fun b ps e => ⟨#[], by rw [e]; simp⟩) (fun m hm => ?_) (fun b u e => ?_) I.bare
  · have e : b = it := by simpa using hb
    subst e
    exact ⟨h1, hL, h2, h3⟩
  · obtain ⟨o, es, ep, ho, r⟩ := hm
    exact ⟨o, es, ep, k _ o (Ne.symm hL) ho, r⟩
  · refine (I.hok b u e).stay (fun c v hc q => k c v ?_ q) (fun _ q => q) fun _ _ q => q
    rcases hc with z | z
    · rw [z]; exact nit b u e
    · exact nit c _ z
theorem Inv.tok (I : Inv X pins σ H s) (t : Nat) : Inv X pins σ H { s with toks := t } := I.un (h' := s.heap) (t' := t) Un.refl I.hok
theorem Inv.kept {t' : Nat} (I : Inv X pins σ H s) (k : ∀ b u, s.heap.get? b = some u → h'.get? b = some u) : Inv X pins σ H { s with heap := h', toks := t' } := I.un (Un.kept k) (I.hok.kept k)
theorem Inv.laid {a : Addr} {o : HO} {t' : Nat} (I : Inv X pins σ H s) (k : ∀ b u, s.heap.get? b = some u → h'.get? b = some u) (hp : s.heap.objs.size ≤ a) (new : ObjOk X.prog X.w (upd H a o) h' a o) :
    Inv X pins σ (upd H a o) { s with heap := h', toks := t' } := I.un (Un.laid k hp (I.hok.fresh hp)) (I.hok.laid k hp new)
theorem Inv.write {x e : Addr} {o : HO} {t' : Nat} (I : Inv X pins σ H s) (mu : Mut (H x)) (he : e = x ∨ H e = some (.own x)) (k : ∀ b u, b ≠ e → s.heap.get? b = some u → h'.get? b = some u) (heo : ∃ u, h'.get? e = some u)
    (new : ObjOk X.prog X.w (upd H x o) h' x o) : Inv X pins σ (upd H x o) { s with heap := h', toks := t' } := I.un (Un.write mu he k heo) (I.hok.write mu he k heo new)
theorem Inv.pins_of {pins' : List (Addr × Obj)} (I : Inv X pins σ H s) (h : ∀ p ∈ pins', s.heap.get? p.1 = some p.2 ∧ H p.1 = none ∧ p.1 ≠ X.env.locals ∧ p.1 ∉ X.fs ∧ ∀ v, p.2.data ≠ .cell v) : Inv X pins' σ H s :=
  ⟨I.ok, I.os, I.bare, I.base, I.loc, I.cell, I.free, I.freeC, fun p hp => (List.mem_append.mp hp).elim (fun z => I.pin p (List.mem_append_left _ z)) (h p), I.hok, I.len⟩
theorem nodup_ix {N : List Str} (hN : N.Nodup) {i j : Nat} {x : Str} (a : N[i]? = some x) (b : N[j]? = some x) : i = j := by
  obtain ⟨h1, e1⟩ := List.getElem?_eq_some_iff.mp a
  obtain ⟨h2, e2⟩ := List.getElem?_eq_some_iff.mp b
  exact (List.getElem_inj hN).mp (e1.trans e2.symm)
theorem store_ok2 {M : Model} {A : Around} {E : Value → Shared → Prop} {i : Nat} {x : Str} {v : V} {u : Value} {Q : Unit → Shared → Prop} (I : Inv X pins σ H s) (hN : X.N.Nodup) (hi : X.N[i]? = some x) (hx : Loc X.env.scope x) (r : RelV v u)
    (h : ∀ s', Inv X pins (σ.set i (some v)) H s' → (∃ a, Heap.SameBut a s.heap s'.heap ∧ (a = X.env.locals ∨ X.env.cells.lookup x = some a)) → Q () s') (hf : X.fn x = true ∨ X.env.scope.names.lookup x = some .local := by first | exact .inl rfl | exact .inr rfl | assumption) : wpAny M A (storeName X.env x u) Q E s := by
  obtain ⟨m, hn, hl⟩ := id I.loc
  have hcls : (X.env.scope.kind == .class || (X.env.scope.kind == .module && X.env.locals != X.env.globals)) = false := by rw [I.ok.kind]; rfl
  have hiσ : i < σ.length := by rw [I.len]; exact (List.getElem?_eq_some_iff.mp hi).1
  have cne := I.cne
  have tracked : ∀ {a : Addr} {h' : Heap}, (∃ o, s.heap.get? a = some o ∧ H a = none) → Heap.SameBut a s.heap h' → HOk X.prog X.w H h' := fun {a h'} ha hs b ob e => by
    obtain ⟨_, _, hfree⟩ := ha
    refine (I.hok b ob e).stay (fun c w' hc q => (hs.2 c ?_).trans q) (fun _ q => q) fun _ _ q => q
    rintro rfl
    rcases hc with rfl | hc
    · rw [hfree] at e; cases e
    · rw [hfree] at hc; cases hc
  rcases hx with hk | hk
  · refine wpAny_storeName_local hk hn (fun h' hn' hs => ?_) hcls
    obtain ⟨oL, _, _, hoL, _⟩ := id hn
    refine h _ ⟨I.ok, I.os, I.bare, ⟨fun b o e n hb hx => ?_, fun b o e n hb hx => ?_, I.base.free, fun b o e hx => ?_, I.base.tups, I.base.frzs, I.base.tbls⟩, ⟨_, hn', fun j y v' e1 e2 e3 => ?_⟩, fun y c e => ?_, I.free, I.freeC, fun p hp => ?_, tracked ⟨oL, hoL, I.free⟩ hs, by simpa using I.len⟩ ⟨_, hs, .inl rfl⟩
    · exact (hs.2 b (Nat.ne_of_lt (Nat.lt_of_lt_of_le (Heap.lt_size e) I.ok.above))).trans (I.base.keep b o e n hb hx)
    · obtain ⟨sl, e1⟩ := I.base.slot b o e n hb hx
      exact ⟨sl, (hs.2 b (Nat.ne_of_lt (Nat.lt_of_lt_of_le (Heap.lt_size e) I.ok.above))).trans e1⟩
    · obtain ⟨o', e1⟩ := I.base.there b o e hx
      exact ⟨o', (hs.2 b (Nat.ne_of_lt (Nat.lt_of_lt_of_le (Heap.lt_size e) I.ok.above))).trans e1⟩
    · by_cases hj : j = i
      · subst hj
        rw [hi] at e1; cases e1
        rw [List.getElem?_set_self hiσ] at e2
        cases e2
        exact ⟨u, r, .inl ⟨hk, by simp⟩⟩
      · rw [List.getElem?_set_ne (Ne.symm hj)] at e2
        obtain ⟨u', r', q⟩ := hl j y v' e1 e2 e3
        refine ⟨u', r', ?_⟩
        rcases q with ⟨k, e⟩ | ⟨k, c, e, z⟩
        · refine .inl ⟨k, ?_⟩
          have : y ≠ x := fun e => hj (nodup_ix hN e1 (e ▸ hi))
          simp [this, e]
        · exact .inr ⟨k, c, e, z.sameBut hs (cne y c e)⟩
    · obtain ⟨w', z⟩ := I.cell y c e
      exact ⟨w', z.sameBut hs (cne y c e)⟩
    · obtain ⟨e, n, ne, nf, d⟩ := I.pin p hp
      exact ⟨(hs.2 p.1 ne).trans e, n, ne, nf, d⟩
  · have hfn : X.fn x = true := by
      rcases hf with z | z
      · exact z
      · rw [z] at hk; cases hk
    obtain ⟨c, hc⟩ := I.ok.has x (.inl hk)
    obtain ⟨w', z⟩ := I.cell x c hc
    refine wpAny_storeName_cell I.ok.kind hk hc z (fun h' hc' hs => ?_)
    obtain ⟨oc, hoc, hocd⟩ := id z
    refine h { s with heap := h' } ⟨I.ok, I.os, I.bare, ⟨fun b o e n hb hx => ?_, fun b o e n hb hx => ?_, I.base.free, fun b o e hx => ?_, I.base.tups, I.base.frzs, I.base.tbls⟩, ⟨m, hn.sameBut hs (Ne.symm (cne x c hc)), fun j y v' e1 e2 e3 => ?_⟩, fun y c' e => ?_, I.free, I.freeC, fun p hp => ?_, tracked ⟨oc, hoc, I.freeC x c hc⟩ hs, by simpa using I.len⟩ ⟨c, hs, .inr hc⟩
    · exact (hs.2 b (Nat.ne_of_lt (Nat.lt_of_lt_of_le (Heap.lt_size e) (I.ok.cab x c hfn hc)))).trans (I.base.keep b o e n hb hx)
    · obtain ⟨sl, e1⟩ := I.base.slot b o e n hb hx
      exact ⟨sl, (hs.2 b (Nat.ne_of_lt (Nat.lt_of_lt_of_le (Heap.lt_size e) (I.ok.cab x c hfn hc)))).trans e1⟩
    · obtain ⟨o', e1⟩ := I.base.there b o e hx
      exact ⟨o', (hs.2 b (Nat.ne_of_lt (Nat.lt_of_lt_of_le (Heap.lt_size e) (I.ok.cab x c hfn hc)))).trans e1⟩
    · by_cases hj : j = i
      · subst hj
        rw [hi] at e1; cases e1
        rw [List.getElem?_set_self hiσ] at e2
        cases e2
        exact ⟨u, r, .inr ⟨.inl hk, c, hc, hc'⟩⟩
      · rw [List.getElem?_set_ne (Ne.symm hj)] at e2
        obtain ⟨u', r', q⟩ := hl j y v' e1 e2 e3
        refine ⟨u', r', ?_⟩
        rcases q with q | ⟨k, c', e, z'⟩
        · exact .inl q
        · refine .inr ⟨k, c', e, z'.sameBut hs ?_⟩
          rintro rfl
          exact hj (nodup_ix hN e1 (I.ok.inj _ _ _ e hc ▸ hi))
    · by_cases hcc : c' = c
      · subst hcc; exact ⟨_, hc'⟩
      · obtain ⟨w2, z2⟩ := I.cell y c' e
        exact ⟨w2, z2.sameBut hs hcc⟩
    · obtain ⟨e, n, ne, nf, d⟩ := I.pin p hp
      refine ⟨(hs.2 p.1 ?_).trans e, n, ne, nf, d⟩
      intro q
      rw [q, hoc] at e
      have q' : oc = p.2 := Option.some.inj e
      exact d w' (by rw [← q']; exact hocd)
theorem store_ok {M : Model} {A : Around} {E : Value → Shared → Prop} {i : Nat} {x : Str} {v : V} {u : Value} {Q : Unit → Shared → Prop} (I : Inv X pins σ H s) (hN : X.N.Nodup) (hi : X.N[i]? = some x) (hx : Loc X.env.scope x) (r : RelV v u)
    (h : ∀ s', Inv X pins (σ.set i (some v)) H s' → Q () s') (hf : X.fn x = true ∨ X.env.scope.names.lookup x = some .local := by first | exact .inl rfl | exact .inr rfl | assumption) : wpAny M A (storeName X.env x u) Q E s :=
  store_ok2 I hN hi hx r (fun s' I' _ => h s' I') hf
theorem Inv.call' {s' : Shared} {ch : List Addr} (I : Inv X pins σ H s) (ho : s'.os = s.os) (u : Un (frs X.stack) ch H H' s.heap s'.heap) (hok : HOk X.prog X.w H' s'.heap) (hg : AllBare s'.gens)
    (hch : ∀ b ∈ ch, (b ∈ X.ex ∨ X.s₀.heap.objs.size ≤ b) ∧ b ≠ X.env.locals ∧ (∀ x c, X.env.cells.lookup x = some c → c ≠ b) ∧ ∀ p ∈ X.pn ++ pins, p.1 ≠ b) : Inv X pins σ H' s' := by
  obtain ⟨h', g', d', t', o'⟩ := s'
  have e : o' = s.os := ho
  subst e
  exact I.call (g' := g') (t' := t') (d' := d') u hok hg hch
end
noncomputable abbrev XK := Value → Option Addr → Hp → Prop
noncomputable abbrev St := List (Option V)
noncomputable abbrev VK := V → Hp → Prop
noncomputable abbrev TE := St → Hp → VK → Prop
noncomputable abbrev TT := St → Hp → (Bool → Hp → Prop) → Prop
noncomputable abbrev TA := St → Hp → (List V → Hp → Prop) → Prop
structure Ends where
  nx : St → Hp → Prop
  rt : VK
  bk : St → Hp → Prop := fun _ _ => False
  ct : St → Hp → Prop := fun _ _ => False
noncomputable abbrev TS := Ends → St → Hp → Prop
noncomputable def EP (X : Cx) (pins : List (Addr × Obj)) (σ : St) (Q : VK) (u : Value) (s' : Shared) : Prop := ∃ v H', Inv X pins σ H' s' ∧ RelV v u ∧ Q v H'
noncomputable def TP (X : Cx) (pins : List (Addr × Obj)) (σ : St) (Q : Bool → Hp → Prop) (b : Bool) (s' : Shared) : Prop := ∃ H', Inv X pins σ H' s' ∧ Q b H'
noncomputable def AP (X : Cx) (pins : List (Addr × Obj)) (σ : St) (Q : List V → Hp → Prop) (us : List Value) (s' : Shared) : Prop := ∃ vs H', Inv X pins σ H' s' ∧ Vals vs us ∧ Q vs H'
noncomputable def SP (X : Cx) (pins : List (Addr × Obj)) (D : Ends) (f : Flow) (s' : Shared) : Prop :=
  match f with
  | .next => ∃ σ' H', Inv X pins σ' H' s' ∧ D.nx σ' H'
  | .brk => ∃ σ' H', Inv X pins σ' H' s' ∧ D.bk σ' H'
  | .cont => ∃ σ' H', Inv X pins σ' H' s' ∧ D.ct σ' H'
  | .ret u => ∃ v σ' H', Inv X pins σ' H' s' ∧ RelV v u ∧ D.rt v H'
noncomputable def PE (X : Cx) (e : Expr) (t : TE) : Prop :=
  ∀ (pins : List (Addr × Obj)) (s : Shared) (σ : St) (H : Hp) (Q : VK), Inv X pins σ H s → t σ H Q → wpAny (model X.prog X.w) X.A (eval e X.env) (EP X pins σ Q) X.xe s
noncomputable def PT (X : Cx) (e : Expr) (t : TT) : Prop :=
  ∀ (pins : List (Addr × Obj)) (s : Shared) (σ : St) (H : Hp) (Q : Bool → Hp → Prop), Inv X pins σ H s → t σ H Q → wpAny (model X.prog X.w) X.A (isTrue e X.env (eval e X.env)) (TP X pins σ Q) X.xe s
noncomputable def PW (X : Cx) (e : Expr) (t : TT) : Prop :=
  ∀ (whole : Sem Value) (pins : List (Addr × Obj)) (s : Shared) (σ : St) (H : Hp) (Q : Bool → Hp → Prop), Inv X pins σ H s → t σ H Q → wpAny (model X.prog X.w) X.A (isTrue e X.env whole) (TP X pins σ Q) X.xe s
noncomputable def PA (X : Cx) (es : List Expr) (t : TA) : Prop :=
  ∀ (pos : Pos) (pins : List (Addr × Obj)) (s : Shared) (σ : St) (H : Hp) (Q : List V → Hp → Prop), Inv X pins σ H s → t σ H Q → wpAny (model X.prog X.w) X.A (spliced (backTo pos (starEach es X.env))) (AP X pins σ Q) X.xe s
noncomputable def PS (X : Cx) (st : Stmt) (t : TS) : Prop :=
  ∀ (pins : List (Addr × Obj)) (s : Shared) (σ : St) (H : Hp) (D : Ends), Inv X pins σ H s → t D σ H → wpAny (model X.prog X.w) X.A (exec st X.env) (SP X pins D) X.xe s
noncomputable def PSs (X : Cx) (st : List Stmt) (t : TS) : Prop :=
  ∀ (pins : List (Addr × Obj)) (s : Shared) (σ : St) (H : Hp) (D : Ends), Inv X pins σ H s → t D σ H → wpAny (model X.prog X.w) X.A (execs st X.env) (SP X pins D) X.xe s
theorem thn {α : Type} {t : Sem α} {Q Q' : α → Shared → Prop} {M : Model} {A : Around} {E : Value → Shared → Prop} {s : Shared} (h : wpAny M A t Q E s) (hQ : ∀ a s, Q a s → Q' a s) : wpAny M A t Q' E s := wpAny_mono h hQ fun _ _ x => x
end L2
namespace L2
open PySem PySem.Spec PyProof.Rows
section
variable {X : Cx}
noncomputable def tVar (i : Nat) : TE := fun σ H Q => ∃ v, σ[i]? = some (some v) ∧ Q v H
noncomputable def tC (v : V) : TE := fun _ H Q => Q v H
theorem pe_var {i : Nat} {x : Str} {pos : Pos} (hN : X.N[i]? = some x) (hv : Vis X.env.scope x) (hd : (x == ("__debug__" : Str)) = false := by decide) (hcd : (x == ("__classdict__" : Str)) = false := by decide) : PE X (.Name x pos) (tVar i) := by
  intro pins s σ H Q I h
  obtain ⟨v, e, h⟩ := h
  obtain ⟨m, hn, hl⟩ := I.loc
  obtain ⟨u, r, l⟩ := hl i x v hN e hv
  have fin : EP X pins σ Q u s := ⟨v, H, I, r, h⟩
  rcases l with ⟨hk, hm⟩ | ⟨hk, c, hc, hcell⟩
  · exact wpAny_Name (wpAny_loadName_local I.ok.kind hk hn hm fin) hd
  · rcases hk with hk | hk
    · exact wpAny_Name (wpAny_loadName_cell I.ok.kind hk hc hcell fin) hd
    · exact wpAny_Name (wpAny_loadName_free I.ok.kind hk hc hcell fin hcd) hd
theorem pe_int {i j pos} : PE X (.Constant (.int i) j pos) (tC (.int i)) := fun _ _ _ H _ I h => wpAny_Constant_int ⟨.int i, H, I.tok _, ⟨_, rfl⟩, h⟩
theorem pe_bl {b j pos} : PE X (.Constant (.bool b) j pos) (tC (.bl b)) := fun _ _ _ H _ I h => Constant_bool ⟨.bl b, H, I, rfl, h⟩
theorem pe_non {j pos} : PE X (.Constant .none j pos) (tC .non) := fun _ _ _ H _ I h => Constant_none ⟨.non, H, I, rfl, h⟩
theorem pe_str {x j pos} : PE X (.Constant (.str x) j pos) (tC (.str x)) := fun _ _ _ H _ I h => Calls.Constant_str ⟨.str x, H, I.tok _, ⟨_, rfl⟩, h⟩
noncomputable def Gl (X : Cx) (x : Str) : Prop := X.env.kindOf x = some .globalImplicit
theorem ld_glob {E : Value → Shared → Prop} {pins : List (Addr × Obj)} {s : Shared} {σ : St} {H : Hp} {x : Str} {u : Value} {pos : Pos} {Q : Value → Shared → Prop} (I : Inv X pins σ H s) (hg : Gl X x) (hm : X.mg x = some u) (h : Q u s)
    (hd : (x == ("__debug__" : Str)) = false := by decide) : wpAny (model X.prog X.w) X.A (eval (.Name x pos) X.env) Q E s :=
  Calls.Name_function_global I.ok.kind hg (Calls.loadGlobal_global (by rw [I.ok.glob]; exact I.mod.glob.keeps I.bk) hm h) hd
theorem ld_blt {E : Value → Shared → Prop} {pins : List (Addr × Obj)} {s : Shared} {σ : St} {H : Hp} {x : Str} {u : Value} {pos : Pos} {Q : Value → Shared → Prop} (I : Inv X pins σ H s) (hg : Gl X x) (hm : X.mg x = none) (hv : bootBuiltins x = some u) (h : Q u s)
    (hn : x ≠ "__name__" := by decide) (hd : (x == ("__debug__" : Str)) = false := by decide) : wpAny (model X.prog X.w) X.A (eval (.Name x pos) X.env) Q E s := by
  obtain ⟨mb, h1, h2⟩ := I.mod.blt
  exact Calls.Name_function_global I.ok.kind hg (Calls.loadGlobal_builtin (by rw [I.ok.glob]; exact I.mod.glob.keeps I.bk) hm (by rw [I.ok.blt]; exact h1.keeps I.bk) ((h2 x hn).trans hv) h) hd
theorem pe_glob {x : Str} {v : V} {u : Value} {pos : Pos} (hg : Gl X x) (hm : X.mg x = some u) (r : RelV v u) (hd : (x == ("__debug__" : Str)) = false := by decide) : PE X (.Name x pos) (tC v) :=
  fun _ _ _ H _ I h => ld_glob I hg hm ⟨v, H, I, r, h⟩ hd
theorem pe_bltn {x : Str} {v : V} {u : Value} {pos : Pos} (hg : Gl X x) (hm : X.mg x = none) (hv : bootBuiltins x = some u) (r : RelV v u) (hn : x ≠ "__name__" := by decide) (hd : (x == ("__debug__" : Str)) = false := by decide) : PE X (.Name x pos) (tC v) :=
  fun _ _ _ H _ I h => ld_blt I hg hm hv ⟨v, H, I, r, h⟩ hn hd
variable {a b : Expr} {ta tb : TE} {pos : Pos}
noncomputable def tB (t : TE) : TT := fun σ H Q => t σ H fun x H1 => ∃ c, x = .bl c ∧ Q c H1
theorem pt_val {e : Expr} {t : TE} (h : PE X e t) (he : ∀ whole, isTrue e X.env whole = (do let v ← whole; standAt e.pos; holding [v] (truthy v)) := by intro _; rfl) : PT X e (tB t) := by
  intro pins s σ H Q I hw
  refine isTrue_plain (thn (h pins s σ H _ I hw) fun v s1 ⟨x, H1, I1, r1, q1⟩ => ?_) (he _)
  obtain ⟨d, rfl, q⟩ := q1
  cases r1
  exact wpAny_truthy_bool ⟨H1, I1, q⟩
variable {tA tB' : TT} {rest : List Expr}
noncomputable def tAnd (t u : TT) : TT := fun σ H Q => t σ H fun c H1 => if c = true then u σ H1 Q else Q false H1
noncomputable def tOr (t u : TT) : TT := fun σ H Q => t σ H fun c H1 => if c = true then Q true H1 else u σ H1 Q
noncomputable def tNot (t : TT) : TT := fun σ H Q => t σ H fun c H1 => Q (!c) H1
theorem pw_and1 (ha : PT X a tA) : PW X (.BoolOp .And [a] pos) tA := by
  intro wh pins s σ H Q I h
  refine isTrue_and (thn (ha pins s σ H Q I h) fun c s1 e => ?_)
  cases c with
  | true => exact isTrue_and_nil e
  | false => exact e
theorem pw_or1 (ha : PT X a tA) : PW X (.BoolOp .Or [a] pos) tA := by
  intro wh pins s σ H Q I h
  refine isTrue_or (thn (ha pins s σ H Q I h) fun c s1 e => ?_)
  cases c with
  | false => exact isTrue_or_nil e
  | true => exact e
theorem pw_and (ha : PT X a tA) (hb : PW X (.BoolOp .And (b :: rest) pos) tB') : PW X (.BoolOp .And (a :: b :: rest) pos) (tAnd tA tB') := by
  intro wh pins s σ H Q I h
  refine isTrue_and (thn (ha pins s σ H _ I h) fun c s1 ⟨H1, I1, q1⟩ => ?_)
  cases c with
  | true => exact hb wh pins s1 σ H1 Q I1 q1
  | false => exact ⟨H1, I1, q1⟩
theorem pw_or (ha : PT X a tA) (hb : PW X (.BoolOp .Or (b :: rest) pos) tB') : PW X (.BoolOp .Or (a :: b :: rest) pos) (tOr tA tB') := by
  intro wh pins s σ H Q I h
  refine isTrue_or (thn (ha pins s σ H _ I h) fun c s1 ⟨H1, I1, q1⟩ => ?_)
  cases c with
  | true => exact ⟨H1, I1, q1⟩
  | false => exact hb wh pins s1 σ H1 Q I1 q1
theorem pt_not (ha : PT X a tA) : PT X (.UnaryOp .Not a pos) (tNot tA) := by
  intro pins s σ H Q I h
  exact isTrue_not (ha pins s σ H (fun c H1 => Q (!c) H1) I h)
noncomputable def tIf (t : TT) (ta tb : TE) : TE := fun σ H Q => t σ H fun c H1 => if c = true then ta σ H1 Q else tb σ H1 Q
theorem pe_ifExp {c : Expr} (hc : PT X c tA) (ha : PE X a ta) (hb : PE X b tb) : PE X (.IfExp c a b pos) (tIf tA ta tb) := by
  intro pins s σ H Q I h
  refine wpAny_IfExp (thn (hc pins s σ H _ I h) fun d s1 ⟨H1, I1, q1⟩ => ?_)
  cases d with
  | true => exact ha pins s1 σ H1 Q I1 q1
  | false => exact hb pins s1 σ H1 Q I1 q1
end
end L2
namespace L2
open PySem PySem.Spec PyProof.Rows
noncomputable def SqL (K : PySem.W.Frag) (H : Hp) (a : Addr) (xs : List V) : Prop :=
  Rd H a (.lst xs) ∨
    ∃ (o : Obj) (its : Array Value) (n : Nat), K.lookup a = some o ∧ o.cls = .type "list" ∧ o.dict = none ∧ o.data = .seq its n ∧ its.size ≤ sizeLine ∧ Vals xs its.toList
noncomputable def SqT (K : PySem.W.Frag) (H : Hp) (a : Addr) (xs : List V) : Prop :=
  Rd H a (.tup xs) ∨
    ∃ (o : Obj) (its : Array Value) (n : Nat), K.lookup a = some o ∧ o.cls = .type "tuple" ∧ o.data = .seq its n ∧ its.size ≤ sizeLine ∧ Vals xs its.toList
noncomputable def absV : Value → Option V
  | .none => some .non
  | .bool b => some (.bl b)
  | .int i _ => some (.int i)
  | .str x _ => some (.str x)
  | .bytes b _ => some (.byt b)
  | .float b _ => some (.flt b)
  | .ref a => some (.ref a)
  | .type n => some (.ty n)
  | _ => none
theorem RelV.abs {x : V} {u : Value} (r : RelV x u) : absV u = some x := by
  cases x with
  | non => cases r; rfl
  | bl _ => cases r; rfl
  | int _ => obtain ⟨t, rfl⟩ := r; rfl
  | str _ => obtain ⟨t, rfl⟩ := r; rfl
  | byt _ => obtain ⟨t, rfl⟩ := r; rfl
  | flt _ => obtain ⟨t, rfl⟩ := r; rfl
  | ref _ => cases r; rfl
  | ty _ => cases r; rfl
theorem RelV.inj {x y : V} {u : Value} (r : RelV x u) (q : RelV y u) : x = y := Option.some.inj (r.abs.symm.trans q.abs)
theorem Vals.inj : ∀ {xs ys : List V} {us : List Value}, Vals xs us → Vals ys us → xs = ys
  | _, _, _, .nil, .nil => rfl
  | _, _, _, .cons r t, .cons r' t' => by rw [r.inj r', Vals.inj t t']
section
variable {X : Cx} {pins : List (Addr × Obj)} {σ : St} {H : Hp} {s : Shared} {a : Addr} {xs ys : List V}
theorem SqL.of {K : PySem.W.Frag} (h : H a = some (.lst xs)) : SqL K H a xs := .inl (.inl h)
theorem SqT.of {K : PySem.W.Frag} (h : H a = some (.tup xs)) : SqT K H a xs := .inl (.inl h)
theorem Inv.list (I : Inv X pins σ H s) (h : SqL X.K H a xs) : ∃ its : List Value, Vals xs its ∧ PlainL s.heap a its.toArray ∧ xs.length ≤ sizeLine := by
  rcases h with h | ⟨o, its, n, hk, hc, hd, hs, hz, r⟩
  · obtain ⟨z, its, n, r, e⟩ := h.ok I.hok
    exact ⟨its, r, ⟨_, n, e, rfl, rfl, rfl⟩, z⟩
  · refine ⟨its.toList, r, ⟨o, n, I.kIn a o hk, hc, hd, by simpa using hs⟩, ?_⟩
    have e := r.length
    simp only [Array.length_toList] at e
    omega
theorem Inv.tuple (I : Inv X pins σ H s) (h : SqT X.K H a xs) : ∃ its : List Value, Vals xs its ∧ IsTup s.heap a its.toArray ∧ xs.length ≤ sizeLine := by
  rcases h with h | ⟨o, its, n, hk, hc, hs, hz, r⟩
  · obtain ⟨z, its, r, p⟩ := h.ok I.hok
    exact ⟨its, r, p, z⟩
  · refine ⟨its.toList, r, ⟨o, I.kIn a o hk, hc, n, by simpa using hs⟩, ?_⟩
    have e := r.length
    simp only [Array.length_toList] at e
    omega
theorem Inv.list_inj (I : Inv X pins σ H s) (h : SqL X.K H a xs) (h' : SqL X.K H a ys) : xs = ys := by
  obtain ⟨its, r, ⟨o, n, e, _, _, d⟩, _⟩ := I.list h
  obtain ⟨its', r', ⟨o', n', e', _, _, d'⟩, _⟩ := I.list h'
  rw [e] at e'; cases e'
  rw [d] at d'
  injection d' with d1 _
  have : its = its' := by simpa using congrArg Array.toList d1
  subst this
  exact r.inj r'
theorem Inv.tuple_inj (I : Inv X pins σ H s) (h : SqT X.K H a xs) (h' : SqT X.K H a ys) : xs = ys := by
  obtain ⟨its, r, ⟨o, e, _, n, d⟩, _⟩ := I.tuple h
  obtain ⟨its', r', ⟨o', e', _, n', d'⟩, _⟩ := I.tuple h'
  rw [e] at e'; cases e'
  rw [d] at d'
  injection d' with d1 _
  have : its = its' := by simpa using congrArg Array.toList d1
  subst this
  exact r.inj r'
end
noncomputable abbrev Cx.wish (X : Cx) (E : Value → Shared → Prop) : Cx := { X with xe := E }
noncomputable abbrev Cx.nox (X : Cx) : Cx := X.wish fun _ _ => False
theorem Cx.Ok.wish {X : Cx} (ok : X.Ok) (E : Value → Shared → Prop) : (X.wish E).Ok :=
  ⟨ok.mod, ok.kind, ok.glob, ok.blt, ok.above, ok.inj, ok.has, ok.cab, ok.hd, ok.frames, ok.stk, ok.exf, ok.bs, ok.bsz, ok.noex, ok.exfs, ok.funs, ok.frf⟩
theorem Cx.Ok.unwish {X : Cx} {E : Value → Shared → Prop} (ok : (X.wish E).Ok) : X.Ok :=
  ⟨ok.mod, ok.kind, ok.glob, ok.blt, ok.above, ok.inj, ok.has, ok.cab, ok.hd, ok.frames, ok.stk, ok.exf, ok.bs, ok.bsz, ok.noex, ok.exfs, ok.funs, ok.frf⟩
section
variable {X : Cx} {pins : List (Addr × Obj)} {σ : St} {H : Hp} {s : Shared} {E : Value → Shared → Prop}
theorem Inv.wish (I : Inv X pins σ H s) (E : Value → Shared → Prop) : Inv (X.wish E) pins σ H s := ⟨I.ok.wish E, I.os, I.bare, I.base, I.loc, I.cell, I.free, I.freeC, I.pin, I.hok, I.len⟩
theorem Inv.unwish (I : Inv (X.wish E) pins σ H s) : Inv X pins σ H s := ⟨I.ok.unwish, I.os, I.bare, I.base, I.loc, I.cell, I.free, I.freeC, I.pin, I.hok, I.len⟩
theorem SP.unwish {D : Ends} {f : Flow} {s' : Shared} (h : SP (X.wish E) pins D f s') : SP X pins D f s' := by
  cases f with
  | next => obtain ⟨σ', H', I, q⟩ := h; exact ⟨σ', H', I.unwish, q⟩
  | brk => obtain ⟨σ', H', I, q⟩ := h; exact ⟨σ', H', I.unwish, q⟩
  | cont => obtain ⟨σ', H', I, q⟩ := h; exact ⟨σ', H', I.unwish, q⟩
  | ret u => obtain ⟨v, σ', H', I, r, q⟩ := h; exact ⟨v, σ', H', I.unwish, r, q⟩
theorem PE.nox {e : Expr} {t : TE} (h : PE X.nox e t) : PE X e t := fun pins s σ H Q I hw =>
  wpAny_mono (h pins s σ H Q (I.wish _) hw) (fun _ _ ⟨v, H', I', r, q⟩ => ⟨v, H', I'.unwish, r, q⟩) fun _ _ z => False.elim z
theorem PT.nox {e : Expr} {t : TT} (h : PT X.nox e t) : PT X e t := fun pins s σ H Q I hw =>
  wpAny_mono (h pins s σ H Q (I.wish _) hw) (fun _ _ ⟨H', I', q⟩ => ⟨H', I'.unwish, q⟩) fun _ _ z => False.elim z
theorem PSs.nox {st : List Stmt} {t : TS} (h : PSs X.nox st t) : PSs X st t := fun pins s σ H D I hw =>
  wpAny_mono (h pins s σ H D (I.wish _) hw) (fun _ _ q => q.unwish) fun _ _ z => False.elim z
end
section
variable {X : Cx} {st : Stmt} {rest : List Stmt} {t u : TS} {e : Expr} {te : TE} {pos : Pos}
noncomputable def tNext : TS := fun D σ H => D.nx σ H
noncomputable def tSeq (t u : TS) : TS := fun D σ H => t { D with nx := u D } σ H
theorem pss_nil : PSs X [] tNext := fun _ _ σ H _ I h => wpAny_execs_nil ⟨σ, H, I, h⟩
theorem pss_cons (h1 : PS X st t) (h2 : PSs X rest u) : PSs X (st :: rest) (tSeq t u) := by
  intro pins s σ H D I h
  refine wpAny_execs_cons (thn (h1 pins s σ H { D with nx := u D } I h) fun f s1 q => ?_)
  cases f with
  | next =>
    obtain ⟨σ', H', I', q⟩ := q
    exact h2 pins s1 σ' H' D I' q
  | ret v => exact q
  | brk => exact q
  | cont => exact q
theorem Inv.quiet {pins : List (Addr × Obj)} {σ : St} {H : Hp} {s : Shared} (I : Inv X pins σ H s) : interactive X.env = false := by simp [interactive, I.ok.kind]
noncomputable def tDrop (te : TE) : TS := fun D σ H => te σ H fun _ H1 => D.nx σ H1
theorem ps_expr (he : PE X e te) (hs : swapsWith e none pos.line X.env = pure false := by rfl) : PS X (.Expr e pos) (tDrop te) := by
  intro pins s σ H D I h
  exact wpAny_Expr_any (thn (he pins s σ H _ I h) fun v s1 ⟨x, H1, I1, r1, q1⟩ => ⟨σ, H1, I1, q1⟩) I.quiet hs
noncomputable def tRet (te : TE) : TS := fun D σ H => te σ H D.rt
theorem ps_ret (he : PE X e te) : PS X (.Return (some e) pos) (tRet te) := by
  intro pins s σ H D I h
  exact wpAny_Return_some (thn (he pins s σ H _ I h) fun v s1 ⟨x, H1, I1, r1, q1⟩ => ⟨x, σ, H1, I1, r1, q1⟩)
noncomputable def tIfS (c : TT) (t u : TS) : TS := fun D σ H => c σ H fun b H1 => if b = true then t D σ H1 else u D σ H1
theorem ps_if {c : Expr} {a b : List Stmt} {tc : TT} (hc : PT X c tc) (ha : PSs X a t) (hb : PSs X b u) : PS X (.If c a b pos) (tIfS tc t u) := by
  intro pins s σ H D I h
  refine wpAny_If (thn (hc pins s σ H _ I h) fun d s1 ⟨H1, I1, q1⟩ => ?_)
  cases d with
  | true => exact ha pins s1 σ H1 D I1 q1
  | false => exact hb pins s1 σ H1 D I1 q1
end
noncomputable abbrev TG := V → St → Hp → (St → Hp → Prop) → Prop
noncomputable abbrev TGs := List V → St → Hp → (St → Hp → Prop) → Prop
noncomputable def PG (X : Cx) (target : Expr) (t : TG) : Prop :=
  ∀ (pins : List (Addr × Obj)) (s : Shared) (σ : St) (H : Hp) (v : V) (u : Value) (Q : St → Hp → Prop), Inv X pins σ H s → RelV v u → t v σ H Q →
    wpAny (model X.prog X.w) X.A (assign target X.env u) (fun _ s' => ∃ σ' H', Inv X pins σ' H' s' ∧ Q σ' H') X.xe s
noncomputable def PGs (X : Cx) (ts : List Expr) (t : TGs) : Prop :=
  ∀ (pins : List (Addr × Obj)) (s : Shared) (σ : St) (H : Hp) (vs : List V) (us : List Value) (Q : St → Hp → Prop), Inv X pins σ H s → Vals vs us → t vs σ H Q →
    wpAny (model X.prog X.w) X.A (assignInOrder ((assignEach ts X.env).map (·.2)) us) (fun _ s' => ∃ σ' H', Inv X pins σ' H' s' ∧ Q σ' H') X.xe s
section
variable {X : Cx} {pos : Pos}
noncomputable def gName (i : Nat) : TG := fun v σ H Q => Q (σ.set i (some v)) H
theorem pg_name {i : Nat} {x : Str} (hN : X.N.Nodup) (hi : X.N[i]? = some x) (hx : Loc X.env.scope x) (hf : X.fn x = true ∨ X.env.scope.names.lookup x = some .local := by first | exact .inl rfl | exact .inr rfl | assumption) : PG X (.Name x pos) (gName i) := by
  intro pins s σ H v u Q I r h
  exact wpAny_assign_Name (store_ok I hN hi hx r (fun s' I' => ⟨_, H, I', h⟩) hf)
noncomputable def gNil : TGs := fun vs σ H Q => vs = [] ∧ Q σ H
noncomputable def gCons (t : TG) (u : TGs) : TGs := fun vs σ H Q => ∃ v r, vs = v :: r ∧ t v σ H fun σ' H' => u r σ' H' Q
theorem pgs_nil : PGs X [] gNil := by
  intro pins s σ H vs us Q I r h
  obtain ⟨e, h⟩ := h
  subst e
  cases r
  exact assignInOrder_nil ⟨σ, H, I, h⟩
theorem pgs_cons {e : Expr} {es : List Expr} {t : TG} {u : TGs} (h1 : PG X e t) (h2 : PGs X es u)
    (hs : (assignEach (e :: es) X.env).map (·.2) = assign e X.env :: (assignEach es X.env).map (·.2) := by rfl) : PGs X (e :: es) (gCons t u) := by
  intro pins s σ H vs us Q I r h
  obtain ⟨v, vr, e1, h⟩ := h
  subst e1
  cases r with
  | cons r rr =>
    rw [hs]
    refine assignInOrder_cons (thn (h1 pins s σ H _ _ _ I r h) fun _ s1 ⟨σ1, H1, I1, q1⟩ => ?_)
    exact h2 pins s1 σ1 H1 _ _ Q I1 rr q1
noncomputable def tAsg (te : TE) (g : TG) : TS := fun D σ H => te σ H fun x H1 => g x σ H1 D.nx
theorem ps_set {i : Nat} {x : Str} {e : Expr} {te : TE} {pos' : Pos} (hN : X.N.Nodup) (hi : X.N[i]? = some x) (hx : Loc X.env.scope x) (he : PE X e te) (hs : swapsWith e (some (.Name x pos')) pos.line X.env = pure false := by rfl) (hf : X.fn x = true ∨ X.env.scope.names.lookup x = some .local := by first | exact .inl rfl | exact .inr rfl | assumption) :
    PS X (.Assign [.Name x pos'] e pos) (tAsg te (gName i)) := by
  intro pins s σ H D I h
  refine wpAny_Assign_Name (thn (he pins s σ H _ I h) fun v s1 ⟨y, H1, I1, r1, q1⟩ => ?_) hs
  exact store_ok I1 hN hi hx r1 (fun s2 I2 => ⟨_, H1, I2, q1⟩) hf
end
structure It where
  go : Nat → Hp → Prop
  yld : Nat → Hp → V → Hp → Prop
  stop : Nat → Hp → Prop
noncomputable def FpOk (X : Cx) (pins : List (Addr × Obj)) (H : Hp) (b : Addr) : Prop :=
  H b = none ∧ b ≠ X.env.locals ∧ b ∉ X.fs ∧ (b ∈ X.ex ∨ X.s₀.heap.objs.size ≤ b) ∧ (∀ x c, X.env.cells.lookup x = some c → c ≠ b) ∧ ∀ p ∈ X.pn ++ pins, p.1 ≠ b
theorem Inv.fpOk {X : Cx} {pins : List (Addr × Obj)} {σ : St} {H H' : Hp} {s : Shared} {b : Addr} (I : Inv X pins σ H s) (hb : s.heap.objs.size ≤ b) (hn : H' b = none) : FpOk X pins H' b := by
  refine ⟨hn, Nat.ne_of_gt (Nat.lt_of_lt_of_le I.lt hb), I.nofs hb, .inr (Nat.le_trans I.sz hb), fun x c e z => ?_, fun p hp z => ?_⟩
  · obtain ⟨v, q⟩ := I.cell x c e
    exact absurd (Nat.lt_of_lt_of_le q.lt (by rw [z]; exact hb)) (Nat.lt_irrefl _)
  · exact absurd (Nat.lt_of_lt_of_le (Heap.lt_size (I.pin p hp).1) (by rw [z]; exact hb)) (Nat.lt_irrefl _)
structure Turn (P : Program) (w : World) (K : PySem.W.Frag) (tg : Expr) (J : It) (fp : List Addr) (it : Addr) (tn : Nat → Heap → Prop) : Prop where
  mem : it ∈ fp
  obj : ∀ i h, tn i h → ∀ b ∈ fp, ∃ o, h.get? b = some o ∧ ∀ v, o.data ≠ .cell v
  keep : ∀ i h h', tn i h → (∀ b ∈ fp, ∀ o, h.get? b = some o → h'.get? b = some o) → tn i h'
  item : ∀ (X : Cx), X.prog = P → X.w = w → X.K = K → X.calm = true → ∀ (i : Nat) (pins : List (Addr × Obj)) (s : Shared) (σ : St) (H : Hp) (E : Value → Shared → Prop), Inv X pins σ H s → (∀ b ∈ fp, FpOk X pins H b) → tn i s.heap → J.go i H →
    wpAny (model P w) X.A (pyNext (.ref it)) (fun r s1 => ∃ u, r = some u ∧
      wpAny (model P w) X.A (letOwnedTupleGo tg (.ref it) u) (fun _ s2 => ∃ x H', Inv X pins σ H' s2 ∧ RelV x u ∧ J.yld i H x H' ∧ tn (i + 1) s2.heap ∧ ∀ b ∈ fp, H' b = none) E s1) E s
  done : ∀ (X : Cx), X.prog = P → X.w = w → X.K = K → X.calm = true → ∀ (i : Nat) (pins : List (Addr × Obj)) (s : Shared) (σ : St) (H : Hp) (E : Value → Shared → Prop), Inv X pins σ H s → (∀ b ∈ fp, FpOk X pins H b) → tn i s.heap → J.stop i H →
    wpAny (model P w) X.A (pyNext (.ref it)) (fun r s1 => r = none ∧ Inv X pins σ H s1) E s
  self : ∀ (A : Around) (i : Nat) (s : Shared) (Q : Value → Shared → Prop) (E : Value → Shared → Prop), tn i s.heap → Q (.ref it) s → wpAny (model P w) A (pyIter (.ref it)) Q E s
noncomputable abbrev TI := St → Hp → (It → Hp → Prop) → Prop
noncomputable def PIE (X : Cx) (pins : List (Addr × Obj)) (σ : St) (tg : Expr) (R : It → Hp → Prop) (itv : Value) (s2 : Shared) : Prop :=
  ∃ (it : Addr) (fp : List Addr) (tn : Nat → Heap → Prop) (J : It) (H' : Hp), itv = .ref it ∧ Inv X pins σ H' s2 ∧ Turn X.prog X.w X.K tg J fp it tn ∧ tn 0 s2.heap ∧ (∀ b ∈ fp, FpOk X pins H' b) ∧ R J H'
noncomputable def PI (X : Cx) (tg iter : Expr) (wi : TI) : Prop :=
  ∀ (pins : List (Addr × Obj)) (s : Shared) (σ : St) (H : Hp) (R : It → Hp → Prop), Inv X pins σ H s → wi σ H R →
    wpAny (model X.prog X.w) X.A (eval iter X.env) (fun v s1 => wpAny (model X.prog X.w) X.A (pyIter v) (PIE X pins σ tg R) X.xe s1) X.xe s
theorem go_of {M : Model} {A : Around} {E : Value → Shared → Prop} {s : Shared} {tg : Expr} {it : Addr} {u : Value} {o : Obj} {n : String} {vs : Array Value} {Q : Unit → Shared → Prop} (ho : s.heap.get? it = some o) (hc : o.cls = .type n) (hd : o.data = .fields vs)
    (hn : ["enumerate", "zip", "dict_itemiterator", "dict_reverseitemiterator", "odict_iterator", "itertools.zip_longest", "itertools.pairwise"].contains n = false) (hQ : Q () s) : wpAny M A (letOwnedTupleGo tg (.ref it) u) Q E s := by
  unfold letOwnedTupleGo
  cases tg <;> first
    | exact wpAny_pure hQ
    | (cases u <;> first
        | exact wpAny_pure hQ
        | (refine wpAny_bind (wpAny_load ho ?_)
           rw [hc, hd]
           show wpAny M A (if (["enumerate", "zip", "dict_itemiterator", "dict_reverseitemiterator", "odict_iterator", "itertools.zip_longest", "itertools.pairwise"].contains n && vs[0]? == some (rawInt _)) = true then _ else _) Q E s
           rw [if_neg (by intro h; rw [hn, Bool.false_and] at h; cases h)]
           exact wpAny_pure hQ))
noncomputable def Itl (K : PySem.W.Frag) (a : Addr) : It :=
  ⟨fun i H => ∃ xs x, SqL K H a xs ∧ xs[i]? = some x, fun i H x H' => H' = H ∧ ∀ xs, SqL K H a xs → xs[i]? = some x, fun i H => ∃ xs, SqL K H a xs ∧ xs.length ≤ i⟩
noncomputable def Itt (K : PySem.W.Frag) (a : Addr) : It :=
  ⟨fun i H => ∃ xs x, SqT K H a xs ∧ xs[i]? = some x, fun i H x H' => H' = H ∧ ∀ xs, SqT K H a xs → xs[i]? = some x, fun i H => ∃ xs, SqT K H a xs ∧ xs.length ≤ i⟩
noncomputable def Itr (lo : Int) (n : Nat) : It := ⟨fun i _ => i < n, fun i H x H' => H' = H ∧ x = .int (lo + i), fun i _ => n ≤ i⟩
theorem turn_list {P : Program} {w : World} {K : PySem.W.Frag} {tg : Expr} (a it : Addr) : Turn P w K tg (Itl K a) [it] it (fun i h => h.IsListIter it a i) where
  mem := by simp
  obj := fun i h st b hb => by
    have e : b = it := by simpa using hb
    subst e
    obtain ⟨o, e, c, d⟩ := st
    exact ⟨o, e, fun v z => by rw [d] at z; cases z⟩
  keep := fun i h h' st k => st.at fun o e => k it (by simp) o e
  item := by
    intro X hP hw hK hc i pins s σ H E I hf st hg
    subst hP hw hK
    obtain ⟨xs, x, hq, hx⟩ := hg
    obtain ⟨its, rv, p, hz⟩ := I.list hq
    obtain ⟨u, hu, ru⟩ := rv.get hx
    obtain ⟨f0, f1, f2, f3, f4, f5⟩ := hf it (by simp)
    refine wpAny_pyNext_list_item st p.isList (x := u) (by simpa using hu) fun h' st' sb => ?_
    have I1 : Inv X pins σ H { s with heap := h' } := I.turned (t' := s.toks) (fun b o hb e => (sb.2 b hb).trans e) f0 f1 f3 f4 f5
    obtain ⟨o, e, c, d⟩ := id st'
    exact ⟨u, rfl, go_of (s := { s with heap := h' }) e c d (by decide) ⟨x, H, I1, ru, ⟨rfl, fun ys hy => by rw [I.list_inj hy hq]; exact hx⟩, st', fun b hb => (hf b hb).1⟩⟩
  done := by
    intro X hP hw hK hc i pins s σ H E I hf st hg
    subst hP hw hK
    obtain ⟨xs, hq, hx⟩ := hg
    obtain ⟨its, rv, p, hz⟩ := I.list hq
    obtain ⟨f0, f1, f2, f3, f4, f5⟩ := hf it (by simp)
    have hl := rv.length
    exact wpAny_pyNext_list_end (I.ok.hd hc) st p.isList (by simp; omega) fun h' eb => ⟨rfl, I.turned (t' := s.toks) (fun b o hb e => eb b o hb e) f0 f1 f3 f4 f5⟩
  self := fun _ _ _ _ _ st h => wpAny_pyIter_listiter st h
theorem turn_tuple {P : Program} {w : World} {K : PySem.W.Frag} {tg : Expr} (a it : Addr) : Turn P w K tg (Itt K a) [it] it (fun i h => h.IsTupleIter it a i) where
  mem := by simp
  obj := fun i h st b hb => by
    have e : b = it := by simpa using hb
    subst e
    obtain ⟨o, e, c, d⟩ := st
    exact ⟨o, e, fun v z => by rw [d] at z; cases z⟩
  keep := fun i h h' st k => st.at fun o e => k it (by simp) o e
  item := by
    intro X hP hw hK hc i pins s σ H E I hf st hg
    subst hP hw hK
    obtain ⟨xs, x, hq, hx⟩ := hg
    obtain ⟨its, rv, p, hz⟩ := I.tuple hq
    obtain ⟨u, hu, ru⟩ := rv.get hx
    obtain ⟨f0, f1, f2, f3, f4, f5⟩ := hf it (by simp)
    refine wpAny_pyNext_tuple_item st (show s.heap.IsTuple a its.toArray from p) (x := u) (by simpa using hu) fun h' st' sb => ?_
    have I1 : Inv X pins σ H { s with heap := h' } := I.turned (t' := s.toks) (fun b o hb e => (sb.2 b hb).trans e) f0 f1 f3 f4 f5
    obtain ⟨o, e, c, d⟩ := id st'
    exact ⟨u, rfl, go_of (s := { s with heap := h' }) e c d (by decide) ⟨x, H, I1, ru, ⟨rfl, fun ys hy => by rw [I.tuple_inj hy hq]; exact hx⟩, st', fun b hb => (hf b hb).1⟩⟩
  done := by
    intro X hP hw hK hc i pins s σ H E I hf st hg
    subst hP hw hK
    obtain ⟨xs, hq, hx⟩ := hg
    obtain ⟨its, rv, p, hz⟩ := I.tuple hq
    obtain ⟨f0, f1, f2, f3, f4, f5⟩ := hf it (by simp)
    have hl := rv.length
    exact wpAny_pyNext_tuple_end (I.ok.hd hc) st (show s.heap.IsTuple a its.toArray from p) (by simp; omega) fun h' eb => ⟨rfl, I.turned (t' := s.toks) (fun b o hb e => eb b o hb e) f0 f1 f3 f4 f5⟩
  self := fun _ _ _ _ _ st h => wpAny_pyIter_tupleiter st h
theorem turn_range {P : Program} {w : World} {K : PySem.W.Frag} {tg : Expr} (it : Addr) (lo : Int) (n : Nat) : Turn P w K tg (Itr lo n) [it] it (fun i h => IsRangeIter h it (lo + (i : Nat) * 1) ((n : Int) - (i : Nat)) 1) where
  mem := by simp
  obj := fun i h st b hb => by
    have e : b = it := by simpa using hb
    subst e
    exact ⟨_, st, fun v z => by
      have z' : Data.fields _ = Data.cell v := z
      cases z'⟩
  keep := fun i h h' st k => k it (by simp) _ st
  item := by
    intro X hP hw hK hc i pins s σ H E I hf st hg
    subst hP hw hK
    obtain ⟨f0, f1, f2, f3, f4, f5⟩ := hf it (by simp)
    have W := Walks.range (prog := X.prog) (w := X.w) (I.ok.hd hc) it lo 1 n
    refine W.item i s _ _ hg st fun v h' tk hv st' kk => ?_
    obtain ⟨t, rfl⟩ := hv
    have I1 : Inv X pins σ H { s with heap := h', toks := tk } := I.turned (fun b o hb e => kk b o (by simpa using hb) e) f0 f1 f3 f4 f5
    refine ⟨_, rfl, go_of (s := { s with heap := h', toks := tk }) (n := "range_iterator") st' rfl rfl (by decide) ⟨.int (lo + i), H, I1, ⟨t, ?_⟩, ⟨rfl, rfl⟩, st', fun b hb => (hf b hb).1⟩⟩
    rw [Int.mul_one]
  done := by
    intro X hP hw hK hc i pins s σ H E I hf st hg
    subst hP hw hK
    obtain ⟨f0, f1, f2, f3, f4, f5⟩ := hf it (by simp)
    exact wpAny_pyNext_range_end (I.ok.hd hc) st (by have : n ≤ i := hg; omega) fun h' eb => ⟨rfl, I.turned (t' := s.toks) (fun b o hb e => eb b o hb e) f0 f1 f3 f4 f5⟩
  self := fun _ _ _ _ _ st h => wpAny_pyIter_rangeiter st h
end L2
namespace L2
open PySem PySem.Spec PyProof.Rows
section
variable {X : Cx} {tg : Expr}
theorem range_it {pins : List (Addr × Obj)} {σ : St} {H : Hp} {s : Shared} {R : It → Hp → Prop} {E : Value → Shared → Prop} {lo hi : Int} {t u v : Tok} {tk : Nat} (I : Inv X pins σ H s) (h1 : -(2 ^ 62) ≤ lo) (h2 : lo < 2 ^ 62) (h3 : -(2 ^ 62) ≤ hi) (h4 : hi < 2 ^ 62)
    (q : R (Itr lo (hi - lo).toNat) H) : wpAny (model X.prog X.w) X.A (pyIter (.ref s.heap.objs.size)) (PIE X pins σ tg R) E { s with heap := s.heap.push { cls := .type "range", data := .fields #[.int lo t, .int hi u, .int 1 v] }, toks := tk } := by
  refine wpAny_pyIter_range (IsRange.new ..) (small_one h1 h2 h3 h4) ?_
  have I1 : Inv X pins σ H { s with heap := s.heap.push { cls := .type "range", data := .fields #[.int lo t, .int hi u, .int 1 v] }, toks := tk } := I.kept fun b o e => Heap.get?_push_of_some _ e
  refine ⟨(s.heap.push { cls := .type "range", data := .fields #[.int lo t, .int hi u, .int 1 v] }).objs.size, [(s.heap.push { cls := .type "range", data := .fields #[.int lo t, .int hi u, .int 1 v] }).objs.size], _, _, H, rfl,
    I1.kept (t' := tk) fun b o e => Heap.get?_push_of_some _ e, turn_range _ lo (hi - lo).toNat, ?_, fun b hb => ?_, q⟩
  · have e1 : lo + ((0 : Nat) : Int) * 1 = lo := by simp
    have e2 : (((hi - lo).toNat : Nat) : Int) - ((0 : Nat) : Int) = Builtin.Range.rangeSize lo hi 1 := by rw [rangeSize_one]; split <;> omega
    show IsRangeIter _ _ (lo + ((0 : Nat) : Int) * 1) ((((hi - lo).toNat : Nat) : Int) - ((0 : Nat) : Int)) 1
    rw [e1, e2]
    exact Heap.get?_push_size _ rfl
  · have e : b = (s.heap.push { cls := .type "range", data := .fields #[.int lo t, .int hi u, .int 1 v] }).objs.size := by simpa using hb
    subst e
    exact I1.fpOk (Nat.le_refl _) (I1.hok.fresh (Nat.le_refl _))
noncomputable def iRng1 (ta : TA) : TI := fun σ H R => ta σ H fun vs H1 => ∃ j : Int, vs = [.int j] ∧ -(2 ^ 62) ≤ j ∧ j < 2 ^ 62 ∧ R (Itr 0 j.toNat) H1
theorem pi_range1 {a : Expr} {ta : TA} {p pos : Pos} (hg : Gl X "range") (hm : X.mg "range" = none) (ha : PA X [a] ta) (hs : starEach [a] X.env = [(false, eval a X.env)] := by rfl) : PI X tg (.Call (.Name "range" p) [a] [] pos) (iRng1 ta) := by
  intro pins s σ H R I h
  refine Call_ (ld_blt I hg hm boot_range (PyProof.Rows.callWith_type1 (thn (ha pos pins s σ H _ I h) fun us s1 ⟨vs, H1, I1, r1, q1⟩ => ?_) hs rfl))
  obtain ⟨j, e, q1, q2, q⟩ := q1
  subst e
  cases r1 with
  | cons r rr =>
    cases rr
    obtain ⟨t, rfl⟩ := r
    exact call_range_1 (range_it I1 (by omega) (by omega) q1 q2 (by simpa using q))
noncomputable def tFor (wi : TI) (g : TG) (tb : TS) : TS := fun D σ H => wi σ H fun J H1 => ∃ W : Nat → Nat → St → Hp → Prop, (∃ m, W 0 m σ H1) ∧ ∀ i m σ H, W i m σ H →
  (J.stop i H ∧ D.nx σ H) ∨ (J.go i H ∧ ∃ N : St → Hp → Prop, (∀ σ' H', N σ' H' → ∃ m', m' < m ∧ W (i + 1) m' σ' H') ∧ ∀ x H', J.yld i H x H' → g x σ H' fun σ2 H2 => tb { D with nx := N, ct := N, bk := D.nx } σ2 H2)
noncomputable def pinsAt (fp : List Addr) (h : Heap) : List (Addr × Obj) := fp.filterMap fun b => (h.get? b).map fun o => (b, o)
theorem mem_pinsAt {fp : List Addr} {h : Heap} {b : Addr} {o : Obj} (hb : b ∈ fp) (e : h.get? b = some o) : (b, o) ∈ pinsAt fp h := List.mem_filterMap.mpr ⟨b, hb, by rw [e]; rfl⟩
theorem of_pinsAt {fp : List Addr} {h : Heap} {p : Addr × Obj} (hp : p ∈ pinsAt fp h) : p.1 ∈ fp ∧ h.get? p.1 = some p.2 := by
  obtain ⟨b, hb, e⟩ := List.mem_filterMap.mp hp
  cases q : h.get? b with
  | none => rw [q] at e; cases e
  | some o =>
    rw [q] at e
    have e' : (b, o) = p := Option.some.inj e
    subst e'
    exact ⟨hb, q⟩
theorem Inv.pinned {pins : List (Addr × Obj)} {σ : St} {H : Hp} {s : Shared} {fp : List Addr} (I : Inv X pins σ H s) (hf : ∀ b ∈ fp, FpOk X pins H b) (ho : ∀ b ∈ fp, ∃ o, s.heap.get? b = some o ∧ ∀ v, o.data ≠ .cell v) : Inv X (pins ++ pinsAt fp s.heap) σ H s :=
  I.pins_of fun p hp => (List.mem_append.mp hp).elim (fun z => I.pin p (List.mem_append_right _ z)) fun z => by
    obtain ⟨hb, e⟩ := of_pinsAt z
    obtain ⟨f0, f1, f2, _⟩ := hf p.1 hb
    obtain ⟨o, e', d⟩ := ho p.1 hb
    rw [e] at e'; cases e'
    exact ⟨e, f0, f1, f2, d⟩
theorem Inv.unpinned {pins pl : List (Addr × Obj)} {σ : St} {H : Hp} {s : Shared} (I : Inv X (pins ++ pl) σ H s) : Inv X pins σ H s := I.pins_of fun p hp => I.pin p (List.mem_append_right _ (List.mem_append_left _ hp))
theorem ps_for {iter : Expr} {body : List Stmt} {wi : TI} {g : TG} {tb : TS} {pos : Pos} (hp : PassesOwn (model X.prog X.w) X.A X.env X.xe) (hc : X.calm = true) (hi : PI X tg iter wi) (hg : PG X tg g) (hb : PSs X body tb)
    (hs : ∀ x, foldedSetIterable iter X.env x = pure x := by intro _; rfl) : PS X (.For tg iter body [] pos) (tFor wi g tb) := by
  intro pins s σ H D I h
  refine wpAny_For (thn (hi pins s σ H _ I h) fun v s1 h1 => thn h1 fun itv s2 h2 => ?_) hs
  obtain ⟨it, fp, tn, J, H2, e, I2, T, st2, f2, W, ⟨m0, w0⟩, turn⟩ := h2
  subst e
  -- what stays true of the iterator's objects through the loop
  have stat : ∀ {H' : Hp}, (∀ b ∈ fp, H' b = none) → ∀ b ∈ fp, FpOk X pins H' b := fun hn b hb => ⟨hn b hb, (f2 b hb).2⟩
  refine codeAny_forLoop_any (fun n s' => ∃ i σ' H', Inv X pins σ' H' s' ∧ tn i s'.heap ∧ (∀ b ∈ fp, H' b = none) ∧ W i n σ' H') ?_ m0 ⟨0, σ, H2, I2, st2, fun b hb => (f2 b hb).1, w0⟩
  rintro n s3 ⟨i, σ3, H3, I3, st3, fr3, w3⟩
  rcases turn i n σ3 H3 w3 with ⟨stop, qn⟩ | ⟨go, N, hN, step⟩
  · refine wpAny_passesOwn hp (thn (T.done X rfl rfl rfl hc i pins s3 σ3 H3 X.xe I3 (stat fr3) st3 stop) fun r s4 ⟨hr, I4⟩ => ?_)
    subst hr
    exact wpAny_execs_nil ⟨σ3, H3, I4, qn⟩
  · refine wpAny_passesOwn hp (thn (T.item X rfl rfl rfl hc i pins s3 σ3 H3 X.xe I3 (stat fr3) st3 go) fun r s4 ⟨u, hr, h4⟩ => ?_)
    subst hr
    refine wpAny_passesOwn hp (thn h4 fun _ s5 ⟨x, H5, I5, r5, y5, st5, fr5⟩ => ?_)
    have I5' := I5.pinned (stat fr5) (T.obj _ _ st5)
    refine wpAny_passesOwn hp (thn (hg _ s5 σ3 H5 x u _ I5' r5 (step x H5 y5)) fun _ s6 ⟨σ6, H6, I6, q6⟩ => ?_)
    refine wpAny_passesOwn hp (thn (hb _ s6 σ6 H6 _ I6 q6) fun f s7 q7 => ?_)
    have again : ∀ {σ7 : St} {H7 : Hp}, Inv X (pins ++ pinsAt fp s5.heap) σ7 H7 s7 → N σ7 H7 → ∃ m, m < n ∧ ∃ i σ' H', Inv X pins σ' H' s7 ∧ tn i s7.heap ∧ (∀ b ∈ fp, H' b = none) ∧ W i m σ' H' := fun {σ7 H7} I7 n7 => by
      obtain ⟨m', hm, w7⟩ := hN σ7 H7 n7
      refine ⟨m', hm, i + 1, σ7, H7, I7.unpinned, T.keep _ _ _ st5 fun b hb o e => (I7.pin (b, o) (List.mem_append_right _ (List.mem_append_right _ (mem_pinsAt hb e)))).1, fun b hb => ?_, w7⟩
      obtain ⟨o, e, d⟩ := T.obj _ _ st5 b hb
      exact (I7.pin (b, o) (List.mem_append_right _ (List.mem_append_right _ (mem_pinsAt hb e)))).2.1
    cases f with
    | next => obtain ⟨σ7, H7, I7, n7⟩ := q7; exact again I7 n7
    | cont => obtain ⟨σ7, H7, I7, n7⟩ := q7; exact again I7 n7
    | brk => obtain ⟨σ7, H7, I7, q7⟩ := q7; exact ⟨σ7, H7, I7.unpinned, q7⟩
    | ret v => obtain ⟨x7, σ7, H7, I7, r7, q7⟩ := q7; exact ⟨x7, σ7, H7, I7.unpinned, r7, q7⟩
end
end L2
namespace L2
open PySem PySem.Spec PyProof.Rows
noncomputable abbrev R2 := V → V → Hp → VK → Prop
noncomputable def OpR (X : Cx) (f : Value → Value → Sem Value) (r : R2) : Prop :=
  ∀ (pins : List (Addr × Obj)) (s : Shared) (σ : St) (H : Hp) (x y : V) (v u : Value) (Q : VK), Inv X pins σ H s → RelV x v → RelV y u → r x y H Q →
    wpAny (model X.prog X.w) X.A (f v u) (EP X pins σ Q) X.xe s
noncomputable def UnR (X : Cx) (f : Value → Sem Value) (r : V → Hp → VK → Prop) : Prop :=
  ∀ (pins : List (Addr × Obj)) (s : Shared) (σ : St) (H : Hp) (x : V) (v : Value) (Q : VK), Inv X pins σ H s → RelV x v → r x H Q →
    wpAny (model X.prog X.w) X.A (f v) (EP X pins σ Q) X.xe s
noncomputable def CallR (X : Cx) (f : Value) (r : List V → Hp → VK → Prop) : Prop :=
  ∀ (pins : List (Addr × Obj)) (s : Shared) (σ : St) (H : Hp) (xs : List V) (us : List Value) (Q : VK), Inv X pins σ H s → Vals xs us → r xs H Q →
    wpAny (model X.prog X.w) X.A (call f us) (EP X pins σ Q) X.xe s
noncomputable def tOp (r : R2) (ta tb : TE) : TE := fun σ H Q => ta σ H fun x H1 => tb σ H1 fun y H2 => r x y H2 Q
noncomputable def tUn (r : V → Hp → VK → Prop) (ta : TE) : TE := fun σ H Q => ta σ H fun x H1 => r x H1 Q
noncomputable def rI (C : Int → Int → Prop) (g : Int → Int → V) : R2 := fun x y H Q => ∃ i j, x = .int i ∧ y = .int j ∧ C i j ∧ Q (g i j) H
noncomputable def rI0 (g : Int → Int → V) : R2 := fun x y H Q => ∃ i j, x = .int i ∧ y = .int j ∧ Q (g i j) H
noncomputable def rU (g : Int → V) : V → Hp → VK → Prop := fun x H Q => ∃ i, x = .int i ∧ Q (g i) H
section
variable {X : Cx} {a b c : Expr} {ta tb tc : TE} {pos : Pos}
theorem binT (ha : PE X a ta) (hb : PE X b tb) {pins : List (Addr × Obj)} {s : Shared} {σ : St} {H : Hp} {R : V → V → Hp → Prop} (I : Inv X pins σ H s)
    (h : ta σ H fun x H1 => tb σ H1 fun y H2 => R x y H2) {Q : Value → Shared → Prop} {f : Value → Value → Sem Value}
    (hf : ∀ v u s2 x y H2, Inv X pins σ H2 s2 → RelV x v → RelV y u → R x y H2 → wpAny (model X.prog X.w) X.A (f v u) Q X.xe s2) :
    wpAny (model X.prog X.w) X.A (eval a X.env) (fun v s₁ => wpAny (model X.prog X.w) X.A (eval b X.env) (fun u s₂ => wpAny (model X.prog X.w) X.A (f v u) Q X.xe s₂) X.xe s₁) X.xe s := by
  refine thn (ha pins s σ H _ I h) fun v s1 ⟨x, H1, I1, r1, q1⟩ => ?_
  refine thn (hb pins s1 σ H1 _ I1 q1) fun u s2 ⟨y, H2, I2, r2, q2⟩ => ?_
  exact hf v u s2 x y H2 I2 r1 r2 q2
theorem pe_op {op : Operator} {r : R2} (ho : OpR X (binaryOp op) r) (ha : PE X a ta) (hb : PE X b tb) : PE X (.BinOp a op b pos) (tOp r ta tb) := by
  intro pins s σ H Q I h
  exact wpAny_BinOp (binT ha hb I h fun v u s2 x y H2 I2 rx ry q => ho pins s2 σ H2 x y v u Q I2 rx ry q)
theorem pe_un {op : UnaryOp} {r : V → Hp → VK → Prop} (ho : UnR X (unaryOp op) r) (ha : PE X a ta) : PE X (.UnaryOp op a pos) (tUn r ta) := by
  intro pins s σ H Q I h
  exact UnaryOp_ (thn (ha pins s σ H _ I h) fun v s1 ⟨x, H1, I1, r1, q1⟩ => ho pins s1 σ H1 x v Q I1 r1 q1)
theorem opI {f : Value → Value → Sem Value} {C : Int → Int → Prop} {g : Int → Int → Int}
    (rule : ∀ (i j : Int) (t u : Tok) (s : Shared) (Q : Value → Shared → Prop) (E : Value → Shared → Prop), C i j → Q (.int (g i j) s.toks) { s with toks := s.toks + 1 } → wpAny (model X.prog X.w) X.A (f (.int i t) (.int j u)) Q E s) :
    OpR X f (rI C fun i j => .int (g i j)) := by
  intro pins s σ H x y v u Q I rx ry h
  obtain ⟨i, j, rfl, rfl, hc, q⟩ := h
  obtain ⟨t, rfl⟩ := rx
  obtain ⟨t', rfl⟩ := ry
  exact rule i j t t' s _ _ hc ⟨.int (g i j), H, I.tok _, ⟨_, rfl⟩, q⟩
theorem opI0 {f : Value → Value → Sem Value} {g : Int → Int → Int}
    (rule : ∀ (i j : Int) (t u : Tok) (s : Shared) (Q : Value → Shared → Prop) (E : Value → Shared → Prop), Q (.int (g i j) s.toks) { s with toks := s.toks + 1 } → wpAny (model X.prog X.w) X.A (f (.int i t) (.int j u)) Q E s) :
    OpR X f (rI0 fun i j => .int (g i j)) := by
  intro pins s σ H x y v u Q I rx ry h
  obtain ⟨i, j, rfl, rfl, q⟩ := h
  obtain ⟨t, rfl⟩ := rx
  obtain ⟨t', rfl⟩ := ry
  exact rule i j t t' s _ _ ⟨.int (g i j), H, I.tok _, ⟨_, rfl⟩, q⟩
theorem opB0 {f : Value → Value → Sem Value} {g : Int → Int → Bool}
    (rule : ∀ (i j : Int) (t u : Tok) (s : Shared) (Q : Value → Shared → Prop) (E : Value → Shared → Prop), Q (.bool (g i j)) s → wpAny (model X.prog X.w) X.A (f (.int i t) (.int j u)) Q E s) :
    OpR X f (rI0 fun i j => .bl (g i j)) := by
  intro pins s σ H x y v u Q I rx ry h
  obtain ⟨i, j, rfl, rfl, q⟩ := h
  obtain ⟨t, rfl⟩ := rx
  obtain ⟨t', rfl⟩ := ry
  exact rule i j t t' s _ _ ⟨.bl (g i j), H, I, rfl, q⟩
noncomputable def CDiv (i j : Int) : Prop := 0 < j ∧ j < 1073741824
noncomputable def CMul (i j : Int) : Prop := (-(2 ^ 64) < i ∧ i < 2 ^ 64) ∨ (-(2 ^ 64) < j ∧ j < 2 ^ 64)
theorem CMul.ok {i j : Int} (h : CMul i j) : IntMulOk i j := by
  rcases h with ⟨h1, h2⟩ | ⟨h1, h2⟩
  · exact .of_left (intBits_le_64 h1 h2)
  · exact .of_right (intBits_le_64 h1 h2)
theorem op_add : OpR X (binaryOp .Add) (rI0 fun i j => .int (i + j)) := opI0 fun _ _ _ _ _ _ _ q => add_int q
theorem op_mul : OpR X (binaryOp .Mult) (rI CMul fun i j => .int (i * j)) := opI fun _ _ _ _ _ _ _ hc q => mul_int q hc.ok
theorem op_fdiv : OpR X (binaryOp .FloorDiv) (rI CDiv fun i j => .int (i / j)) := opI fun i j _ _ _ _ _ hc q => by
  have h1 : (0 : Int) < j := hc.1
  have h2 : j < 1073741824 := hc.2
  exact floordiv_int (by omega) (by rw [Int.fdiv_eq_ediv_of_nonneg i (by omega)]; exact q) (.inl (PyProof.noPylong_small (by omega)))
theorem op_mod : OpR X (binaryOp .Mod) (rI (fun _ j => 0 < j) fun i j => .int (i % j)) := opI fun i j _ _ _ _ _ hc q => by
  have h1 : (0 : Int) < j := hc
  exact mod_int' (by omega) (by rw [Int.fmod_eq_emod_of_nonneg i (by omega)]; exact q)
theorem unI {f : Value → Sem Value} {g : Int → Int}
    (rule : ∀ (i : Int) (t : Tok) (s : Shared) (Q : Value → Shared → Prop) (E : Value → Shared → Prop), Q (.int (g i) s.toks) { s with toks := s.toks + 1 } → wpAny (model X.prog X.w) X.A (f (.int i t)) Q E s) :
    UnR X f (rU fun i => .int (g i)) := by
  intro pins s σ H x v Q I rx h
  obtain ⟨i, rfl, q⟩ := h
  obtain ⟨t, rfl⟩ := rx
  exact rule i t s _ _ ⟨.int (g i), H, I.tok _, ⟨_, rfl⟩, q⟩
theorem un_neg : UnR X (unaryOp .USub) (rU fun i => .int (-i)) := unI fun _ _ _ _ _ q => neg_int q
end
section
variable {X : Cx} {a b c : Expr} {ta tb tc : TE} {pos : Pos}
theorem fin_bl {pins : List (Addr × Obj)} {σ : St} {H : Hp} {s : Shared} {Q : VK} {k k' : Bool} (I : Inv X pins σ H s) (q : Q (.bl k) H) (e : k = k') : EP X pins σ Q (.bool k') s := by
  subst e
  exact ⟨.bl k, H, I, rfl, q⟩
theorem op_le : OpR X (compareOp .LtE) (rI0 fun i j => .bl (decide (i ≤ j))) := opB0 fun _ _ _ _ _ _ _ q => le_int q
theorem op_gt : OpR X (compareOp .Gt) (rI0 fun i j => .bl (decide (j < i))) := opB0 fun _ _ _ _ _ _ _ q => gt_int q
theorem op_isN : OpR X (compareOp .Is) (fun x y H Q => y = .non ∧ Q (.bl (decide (x = .non))) H) := by
  intro pins s σ H x y v u Q I rx ry h
  obtain ⟨rfl, q⟩ := h
  cases ry
  refine is_none_gen (fin_bl I q ?_)
  cases x <;> first
    | (cases rx; rfl)
    | (obtain ⟨t, rfl⟩ := rx; rfl)
theorem OpR.or {f : Value → Value → Sem Value} {r r' : R2} (h : OpR X f r) (h' : OpR X f r') : OpR X f (fun x y H Q => r x y H Q ∨ r' x y H Q) := by
  intro pins s σ H x y v u Q I rx ry q
  rcases q with q | q
  · exact h pins s σ H x y v u Q I rx ry q
  · exact h' pins s σ H x y v u Q I rx ry q
theorem nomark (b : Expr) {op : CmpOp} (h : op ≠ .In := by decide) (h2 : op ≠ .NotIn := by decide) : behindInMarks op b = false := by
  have e1 : (op == CmpOp.In) = false := by cases op <;> first | rfl | exact absurd rfl h
  have e2 : (op == CmpOp.NotIn) = false := by cases op <;> first | rfl | exact absurd rfl h2
  cases b <;> simp [behindInMarks, e1, e2]
theorem pe_cmpR {op : CmpOp} {r : R2} (ho : OpR X (compareOp op) r) (ha : PE X a ta) (hb : PE X b tb) (hm : behindInMarks op b = false) : PE X (.Compare a [op] [b] pos) (tOp r ta tb) := by
  intro pins s σ H Q I h
  exact wpAny_Compare1 (binT ha hb I h fun v u s2 x y H2 I2 rx ry q => ho pins s2 σ H2 x y v u Q I2 rx ry q) hm
noncomputable def tTest (t : TE) : TT := fun σ H Q => t σ H fun x H' => ∃ k, x = .bl k ∧ Q k H'
theorem pt_cmpR {op : CmpOp} {r : R2} (ho : OpR X (compareOp op) r) (ha : PE X a ta) (hb : PE X b tb) (hm : behindInMarks op b = false) : PT X (.Compare a [op] [b] pos) (tTest (tOp r ta tb)) := by
  intro pins s σ H Q I h
  refine wpAny_isTrue_Compare1 (thn (ha pins s σ H _ I h) fun v s1 ⟨x, H1, I1, r1, q1⟩ => thn (hb pins s1 σ H1 _ I1 q1) fun u s2 ⟨y, H2, I2, r2, q2⟩ =>
    thn (ho pins s2 σ H2 x y v u _ I2 r1 r2 q2) fun c s3 ⟨z, H3, I3, r3, k, e, q3⟩ => ?_) hm
  subst e
  cases r3
  exact wpAny_truthy_bool ⟨H3, I3, q3⟩
theorem line63 : (sizeLine : Nat) < 2 ^ 63 := by rw [sizeLine_eq]; decide
theorem op_add_str : OpR X (binaryOp .Add) (fun x y H Q => ∃ i j, x = .str i ∧ y = .str j ∧ i.length + j.length ≤ sizeLine ∧ Q (.str (i ++ j)) H) := by
  intro pins s σ H x y v u Q I rx ry h
  obtain ⟨i, j, rfl, rfl, hz, q⟩ := h
  obtain ⟨t, rfl⟩ := rx
  obtain ⟨t', rfl⟩ := ry
  exact add_str (fun t' tk => ⟨.str (i ++ j), H, I.tok _, ⟨_, rfl⟩, q⟩) hz
theorem vals1 {x : V} {us : List Value} (r : Vals [x] us) : ∃ u, us = [u] ∧ RelV x u := by
  cases r with
  | cons r1 r2 => cases r2; exact ⟨_, rfl, r1⟩
theorem vals2 {x y : V} {us : List Value} (r : Vals [x, y] us) : ∃ u w', us = [u, w'] ∧ RelV x u ∧ RelV y w' := by
  cases r with
  | cons r1 r2 =>
    cases r2 with
    | cons r3 r4 => cases r4; exact ⟨_, _, rfl, r1, r3⟩
end
end L2
namespace L2
open PySem PySem.Spec PyProof.Rows
noncomputable def putF (f : Str) (v : V) : List (Str × V) → List (Str × V)
  | [] => [(f, v)]
  | (g, x) :: r => if g = f then (g, v) :: r else (g, x) :: putF f v r
structure Cls (K : PySem.W.Frag) (C : Addr) : Prop where
  pg : PySem.W.plainGet K C Str.empty = true
  hd : PySem.W.hasDictIn K C = true
  po : PySem.W.plainOver K C = true
  sa : PySem.W.findIn K (.ref C) "__setattr__" = some (some (.builtin "object.__setattr__"))
theorem Cls.get {K : PySem.W.Frag} {C : Addr} (c : Cls K C) (f : Str) : PySem.W.plainGet K C f = true := c.pg
section
variable {X : Cx} {pins : List (Addr × Obj)} {σ : St} {H : Hp} {s : Shared} {a C dx : Addr} {fs : List (Str × V)} {f : Str} {v : V} {A : Around} {E : Value → Shared → Prop}
theorem Inv.made (I : Inv X pins σ H s) : Inv X pins σ (upd (upd H s.heap.objs.size (.own (s.heap.objs.size + 1))) (s.heap.objs.size + 1) (.ins C s.heap.objs.size []))
    { s with heap := (s.heap.push PySem.W.emptyDict).push (PySem.W.instObj C s.heap.objs.size) } := by
  have e1 : (s.heap.push PySem.W.emptyDict).get? s.heap.objs.size = some PySem.W.emptyDict := Heap.get?_push_size s.heap rfl
  have e2 : ((s.heap.push PySem.W.emptyDict).push (PySem.W.instObj C s.heap.objs.size)).get? (s.heap.objs.size + 1) = some (PySem.W.instObj C s.heap.objs.size) := by
    have := Heap.get?_push_size (s.heap.push PySem.W.emptyDict) (o := PySem.W.instObj C s.heap.objs.size) rfl
    rwa [Heap.size_push] at this
  have e3 : (s.heap.push PySem.W.emptyDict).Ns s.heap.objs.size (fun _ => none) := ⟨PySem.W.emptyDict, #[], _, e1, rfl, (fun e he => absurd he (by simp)), fun _ => rfl⟩
  have I1 := I.laid (a := s.heap.objs.size) (o := .own (s.heap.objs.size + 1)) (h' := s.heap.push PySem.W.emptyDict) (t' := s.toks) (fun b u q => Heap.get?_push_of_some _ q) (Nat.le_refl _) ⟨_, e1⟩
  refine I1.laid (a := s.heap.objs.size + 1) (o := .ins C s.heap.objs.size []) (t' := s.toks) (fun b u q => Heap.get?_push_of_some _ q) (Nat.le_of_eq (Heap.size_push _ _)) ?_
  have ne : s.heap.objs.size ≠ s.heap.objs.size + 1 := Nat.ne_of_lt (Nat.lt_succ_self _)
  refine ⟨by rw [upd_ne ne, upd_same], Nat.zero_le _, ne, e2, fun _ => none, (Heap.Ns1.of_empty e3).at fun o q => Heap.get?_push_of_some _ q, fun _ => True.intro, fun y hy => absurd rfl hy⟩
end
section
variable {X : Cx} {o e value : Expr} {f : Str} {pos pos' tpos : Pos} {ta tv : TE}
noncomputable def rAdd : V → V → Hp → VK → Prop := fun x y H Q => ∃ i j, x = .int i ∧ y = .int j ∧ Q (.int (i + j)) H
end
end L2
namespace L2
open PySem PySem.Spec PyProof.Rows
structure Room (k : Nat) (A : Around) : Prop where
  hd : A.handled = none
  dp : A.depth + 3 * k + 5 < recursionLimit
  un : A.units + 16 * k + 200 < cLine
theorem Room.mono {j k : Nat} {A : Around} (r : Room k A) (h : j ≤ k) : Room j A := ⟨r.hd, by have := r.dp; omega, by have := r.un; omega⟩
theorem Room.deeper {k : Nat} {A : Around} (r : Room (k + 1) A) (env : Env) : Room k (A.deeper env) :=
  ⟨r.hd, by have := r.dp; show A.depth + 1 + 3 * k + 5 < _; omega, by have := r.un; show A.units + 3 + 16 * k + 200 < _; omega⟩
theorem Room.in1 {k : Nat} {A : Around} (r : Room (k + 1) A) : Room k A.in1 :=
  ⟨r.hd, by have := r.dp; show A.depth + 3 * k + 5 < _; omega, by have := r.un; show A.units + 1 + 16 * k + 200 < _; omega⟩
theorem Room.depth {k : Nat} {A : Around} (r : Room k A) : A.depth < recursionLimit := by have := r.dp; omega
theorem Room.units {k : Nat} {A : Around} (r : Room k A) : A.units + 64 < cLine := by have := r.un; omega
noncomputable def tNil : TA := fun _ H Q => Q [] H
noncomputable def tCons (ta : TE) (tr : TA) : TA := fun σ H Q => ta σ H fun x H1 => tr σ H1 fun xs H2 => Q (x :: xs) H2
section
variable {X : Cx} {e : Expr} {es : List Expr} {te : TE} {t : TA} {pos : Pos}
theorem pa_nil : PA X [] tNil := fun _ _ _ _ H Q I h => Calls.spliced_nil ⟨[], H, I, .nil, h⟩
theorem pa_cons (ha : PE X e te) (hr : PA X es t) (hs : starEach (e :: es) X.env = (false, eval e X.env) :: starEach es X.env := by rfl) : PA X (e :: es) (tCons te t) := by
  intro pos pins s σ H Q I h
  rw [hs]
  show wpAny _ _ (spliced ((false, eval e X.env) :: backTo pos (starEach es X.env))) _ _ s
  refine Calls.spliced_cons (thn (ha pins s σ H _ I h) fun u s1 ⟨x, H1, I1, r1, q1⟩ => ?_)
  exact thn (hr pos pins s1 σ H1 _ I1 q1) fun us s2 ⟨xs, H2, I2, r2, q2⟩ => ⟨x :: xs, H2, I2, .cons r1 r2, q2⟩
noncomputable def tTup (t : TA) : TE := fun σ H Q => t σ H fun xs H1 => xs.length ≤ sizeLine ∧ ∀ p, H1 p = none → Q (.ref p) (upd H1 p (.tup xs))
noncomputable def tLst (t : TA) : TE := fun σ H Q => t σ H fun xs H1 => xs.length ≤ sizeLine ∧ ∀ p, H1 p = none → Q (.ref p) (upd H1 p (.lst xs))
theorem pe_tup {x1} (h : PA X es t) : PE X (.Tuple es x1 pos) (tTup t) := by
  intro pins s σ H Q I hq
  refine wpAny_Tuple_spliced (thn (h pos pins s σ H _ I hq) fun us s1 ⟨xs, H1, I1, r, z, q⟩ => ⟨by rw [← r.length]; exact z, ?_⟩)
  have hf : H1 s1.heap.objs.size = none := I1.hok.fresh (Nat.le_refl _)
  refine ⟨.ref s1.heap.objs.size, upd H1 s1.heap.objs.size (.tup xs), I1.laid (t' := s1.toks) (fun b u e => Heap.get?_push_of_some _ e) (Nat.le_refl _) ?_, rfl, q _ hf⟩
  exact ⟨z, us, r, ⟨_, Heap.get?_push_size _ rfl, rfl, _, rfl⟩⟩
theorem pe_lst (h : PA X es t) : PE X (.List es pos) (tLst t) := by
  intro pins s σ H Q I hq
  refine wpAny_List_spliced (thn (h pos pins s σ H _ I hq) fun us s1 ⟨xs, H1, I1, r, z, q⟩ => ⟨by rw [← r.length]; exact z, ?_⟩)
  have hf : H1 s1.heap.objs.size = none := I1.hok.fresh (Nat.le_refl _)
  refine ⟨.ref s1.heap.objs.size, upd H1 s1.heap.objs.size (.lst xs), I1.laid (t' := s1.toks) (fun b u e => Heap.get?_push_of_some _ e) (Nat.le_refl _) ?_, rfl, q _ hf⟩
  exact ⟨z, us, 0, r, Heap.get?_push_size _ rfl⟩
end
noncomputable abbrev Sp := List V → Hp → VK → XK → Prop
noncomputable abbrev CXT := List Env → Hp → Shared → XK → Value → Shared → Prop
structure Env0 (P : Program) (w : World) (K : PySem.W.Frag) (mg : Str → Option Value) (base : Heap) (A : Around) (outer : List Env) (s : Shared) (H : Hp) : Prop where
  frames : A.frames = some outer
  mod : Mod K mg base
  bs : ∀ b o, base.get? b = some o → s.heap.get? b = some o ∧ H b = none
  bsz : base.objs.size ≤ s.heap.objs.size
  funs : s.heap.FunFrames base outer
  frf : ∀ b ∈ frs outer, H b = none
  hok : HOk P w H s.heap
  bare : AllBare s.gens
noncomputable def CE (outer : List Env) (P : Program) (w : World) (H : Hp) (s : Shared) (Q : VK) (u : Value) (s' : Shared) : Prop :=
  ∃ v H', s'.os = s.os ∧ AllBare s'.gens ∧ Un (frs outer) [] H H' s.heap s'.heap ∧ HOk P w H' s'.heap ∧ RelV v u ∧ Q v H'
noncomputable def CR (CX : CXT) (outer : List Env) (P : Program) (w : World) (H : Hp) (s : Shared) (Q : VK) (E : XK) (r : Result) (s' : Shared) : Prop :=
  match r with
  | .ok (.ret u) => CE outer P w H s Q u s'
  | .ok _ => False
  | .error e => CX outer H s E e s'
structure FnOk (P : Program) (w : World) (K : PySem.W.Frag) (mg : Str → Option Value) (base : Heap) (CX : CXT) (k : Nat) (f : Addr) (fd : FuncData) (ps : List Str) (sp : Sp) : Prop where
  len : ∀ vs H Q E, sp vs H Q E → vs.length = ps.length
  run : ∀ (A : Around) (outer : List Env) (s : Shared) (H : Hp) (args : Args) (us : List Value) (vs : List V) (Q : VK) (E : XK), Room k A → Env0 P w K mg base A outer s H → BindsTo s fd args (ps.zip us) → Vals vs us → sp vs H Q E →
    codeAny (model P w) A (.call (.ref f) args) (CR CX outer P w H s Q E) s
theorem FnOk.mono {P : Program} {w : World} {K : PySem.W.Frag} {mg : Str → Option Value} {base : Heap} {CX : CXT} {j k : Nat} {f : Addr} {fd : FuncData} {ps : List Str} {sp : Sp} (F : FnOk P w K mg base CX j f fd ps sp) (h : j ≤ k) :
    FnOk P w K mg base CX k f fd ps sp := ⟨F.len, fun A outer s H args us vs Q E hr => F.run A outer s H args us vs Q E (hr.mono h)⟩
theorem FnOk.imp {P : Program} {w : World} {K : PySem.W.Frag} {mg : Str → Option Value} {base : Heap} {CX : CXT} {k : Nat} {f : Addr} {fd : FuncData} {ps : List Str} {sp sp' : Sp} (F : FnOk P w K mg base CX k f fd ps sp)
    (h : ∀ vs H Q E, sp' vs H Q E → sp vs H Q E) : FnOk P w K mg base CX k f fd ps sp' :=
  ⟨fun vs H Q E q => F.len vs H Q E (h _ _ _ _ q), fun A outer s H args us vs Q E hr he hb hv hs => F.run A outer s H args us vs Q E hr he hb hv (h _ _ _ _ hs)⟩
theorem Env0.in1 {P : Program} {w : World} {K : PySem.W.Frag} {mg : Str → Option Value} {base : Heap} {A : Around} {outer : List Env} {s : Shared} {H : Hp} (e : Env0 P w K mg base A outer s H) :
    Env0 P w K mg base A.in1 outer s H := ⟨e.frames, e.mod, e.bs, e.bsz, e.funs, e.frf, e.hok, e.bare⟩
section
variable {X : Cx} {pins : List (Addr × Obj)} {σ : St} {H : Hp} {s s' : Shared}
theorem Inv.env0 (I : Inv X pins σ H s) : Env0 X.prog X.w X.K X.mg X.base X.A X.stack s H :=
  ⟨I.ok.frames, I.ok.mod, I.bs, Nat.le_trans I.ok.bsz I.sz, I.stack, I.stkFree, I.hok, I.bare⟩
theorem Inv.after {Q : VK} {u : Value} (I : Inv X pins σ H s) (h : CE X.stack X.prog X.w H s Q u s') : EP X pins σ Q u s' := by
  obtain ⟨v, H', os, bare, un, hok, r, q⟩ := h
  obtain ⟨hh, g, d, t, os'⟩ := s'
  obtain rfl : os' = s.os := os
  exact ⟨v, H', I.call (h' := hh) (g' := g) (d' := d) (t' := t) (ch := []) un hok bare (fun b z => absurd z (by simp)), r, q⟩
end
noncomputable def tCall (sp : Sp) (dvs : List V) (E : XK) (t : TA) : TE := fun σ H Q => t σ H fun vs H1 => sp (vs ++ dvs) H1 Q E
noncomputable def Binds (K : PySem.W.Frag) (fd : FuncData) (ps : List Str) (ds : List Value) : Prop :=
  ∀ (s : Shared) (us : List Value), K.In s.heap → (us ++ ds).length = ps.length → BindsTo s fd ⟨us, []⟩ (ps.zip (us ++ ds))
theorem Binds.all {K : PySem.W.Frag} {fd : FuncData} {ps : List Str} (h : ∀ us : List Value, us.length = ps.length → bindArgs fd ⟨us, []⟩ = pure (ps.zip us)) : Binds K fd ps [] := fun s us _ hl => by
  rw [List.append_nil] at hl ⊢
  exact .of_eq (h us hl)
noncomputable def Passes (CX : CXT) (X : Cx) (E : XK) : Prop := ∀ (pins : List (Addr × Obj)) (σ : St) (H : Hp) (s : Shared) (e : Value) (s' : Shared), Inv X pins σ H s → CX X.stack H s E e s' → X.xe e s'
section
variable {X : Cx} {CX : CXT} {k : Nat} {f C : Addr} {fd : FuncData} {ps : List Str} {sp : Sp} {dvs : List V} {ds : List Value} {E : XK} {x m : Str} {p pos apos : Pos} {e o : Expr} {es : List Expr} {ta : TE} {t : TA}
theorem run_fn {pins : List (Addr × Obj)} {σ : St} {H : Hp} {s : Shared} {Q : VK} {us : List Value} {vs : List V} (F : FnOk X.prog X.w X.K X.mg X.base CX k f fd ps sp) (hr : Room k X.A) (hb : Binds X.K fd ps ds) (hd : Vals dvs ds) (hx : Passes CX X E)
    (I : Inv X pins σ H s) (r : Vals vs us) (h : sp (vs ++ dvs) H Q E) : wpAny (model X.prog X.w) X.A (call (.ref f) us) (EP X pins σ Q) X.xe s := by
  have r2 : Vals (vs ++ dvs) (us ++ ds) := r.append hd
  have hl : (us ++ ds).length = ps.length := by rw [← r2.length]; exact F.len _ _ _ _ h
  refine wpAny_call (codeAny_mono (F.run X.A X.stack s H ⟨us, []⟩ (us ++ ds) (vs ++ dvs) Q E hr I.env0 (hb s us I.kIn hl) r2 h) fun r s' hq => ?_)
  cases r with
  | error e => exact hx pins σ H s e s' I hq
  | ok fl =>
    cases fl with
    | ret u => exact I.after hq
    | next => exact False.elim hq
    | brk => exact False.elim hq
    | cont => exact False.elim hq
theorem pe_call (F : FnOk X.prog X.w X.K X.mg X.base CX k f fd ps sp) (hr : Room k X.A) (hg : Gl X x) (hm : X.mg x = some (.ref f)) (hk : PySem.W.keepIn X.K (.ref f) = true) (hb : Binds X.K fd ps ds) (hd : Vals dvs ds) (hx : Passes CX X E)
    (ha : PA X (e :: es) t) (hdb : (x == ("__debug__" : Str)) = false := by decide) (he : starEach (e :: es) X.env = (false, eval e X.env) :: starEach es X.env := by rfl) (hpl : (backTo pos (starEach es X.env)).any (·.1) = false := by rfl) :
    PE X (.Call (.Name x p) (e :: es) [] pos) (tCall sp dvs E t) := by
  intro pins s σ H Q I h
  refine wpAny_Call_Name_kw (ld_glob I hg hm ?_ hdb)
  refine PySem.W.callWith_K (h₀ := X.base) I.ok.mod.kin hk (thn (ha pos pins s σ H _ I h) fun us s1 ⟨vs, H1, I1, r, q⟩ => ⟨I1.kIn, ?_⟩) he hpl
  exact run_fn F hr hb hd hx I1 r q
theorem pe_call0 (F : FnOk X.prog X.w X.K X.mg X.base CX k f fd ps sp) (hr : Room k X.A) (hg : Gl X x) (hm : X.mg x = some (.ref f)) (hk : PySem.W.keepIn X.K (.ref f) = true) (hb : Binds X.K fd ps ds) (hd : Vals dvs ds) (hx : Passes CX X E)
    (hdb : (x == ("__debug__" : Str)) = false := by decide) : PE X (.Call (.Name x p) [] [] pos) (tCall sp dvs E tNil) := by
  intro pins s σ H Q I h
  refine wpAny_Call_Name_kw (ld_glob I hg hm ?_ hdb)
  exact PySem.W.callWith_K0 I.kIn hk (run_fn (us := []) F hr hb hd hx I .nil h)
end
noncomputable def PK (X : Cx) (kws : List Keyword) (t : TA) : Prop :=
  ∀ (pos : Pos) (pins : List (Addr × Obj)) (s : Shared) (σ : St) (H : Hp) (Q : List V → Hp → Prop), Inv X pins σ H s → t σ H Q → wpAny (model X.prog X.w) X.A (evalAll ((backToKw pos (keywordEach kws X.env)).map (·.2))) (AP X pins σ Q) X.xe s
section
variable {X : Cx} {CX : CXT} {k : Nat} {f C : Addr} {fd : FuncData} {ps ks : List Str} {sp : Sp} {E : XK} {x m : Str} {p pos apos kpos : Pos} {e o : Expr} {es : List Expr} {kws : List Keyword} {te ta : TE} {t tk : TA} {nm : Option Str}
theorem pk_nil : PK X [] tNil := fun _ _ _ _ H Q I h => wpAny_evalAll_nil ⟨[], H, I, .nil, h⟩
theorem pk_cons (ha : PE X e te) (hr : PK X kws t) : PK X (⟨nm, e, kpos⟩ :: kws) (tCons te t) := by
  intro pos pins s σ H Q I h
  show wpAny _ _ (evalAll ((do let v ← eval e X.env; standAt pos; pure v) :: (backToKw pos (keywordEach kws X.env)).map (·.2))) _ _ s
  refine wpAny_evalAll_cons (wpAny_bind (thn (ha pins s σ H _ I h) fun u s1 ⟨x, H1, I1, r1, q1⟩ => wpAny_bind (wpAny_standAt (wpAny_pure ?_))))
  exact thn (hr pos pins s1 σ H1 _ I1 q1) fun us s2 ⟨xs, H2, I2, r2, q2⟩ => ⟨x :: xs, H2, I2, .cons r1 r2, q2⟩
variable {g : List Value → List Value → List Value} {gV : List V → List V → List V}
end
structure FnScope (N P : List Str) (sc : Scope) : Prop where
  kind : sc.kind = .function
  co : sc.isCoroutine = false
  gen : sc.isGenerator = false
  nd : N.Nodup
  pre : N.take P.length = P
  par : ∀ x ∈ P, sc.names.lookup x = some .local ∨ sc.names.lookup x = some .cell
  nofree : ∀ y ∈ sc.names, y.2 ≠ .free
theorem bindL_out {kindOf : Str → Option NameKind} {x : Str} : ∀ {binds : List (Str × Value)} {m : Str → Option Value}, (∀ v, (x, v) ∉ binds) → bindL kindOf binds m x = m x
  | [], _, _ => rfl
  | (n, v) :: r, m, h => by
    unfold bindL
    rw [bindL_out fun w hw => h w (List.mem_cons_of_mem _ hw)]
    split
    · have : x ≠ n := by rintro rfl; exact h v List.mem_cons_self
      simp [this]
    · rfl
theorem bindC_out {kindOf : Str → Option NameKind} {x : Str} : ∀ {binds : List (Str × Value)} {m : Str → Option Value}, (∀ v, (x, v) ∉ binds) → bindC kindOf binds m x = m x
  | [], _, _ => rfl
  | (n, v) :: r, m, h => by
    unfold bindC
    rw [bindC_out fun w hw => h w (List.mem_cons_of_mem _ hw)]
    split
    · rfl
    · have : x ≠ n := by rintro rfl; exact h v List.mem_cons_self
      simp [this]
theorem bindL_get {kindOf : Str → Option NameKind} {x : Str} {v : Value} : ∀ {P : List Str} {vs : List Value} {i : Nat} {m : Str → Option Value}, P.Nodup → P[i]? = some x → vs[i]? = some v → kindOf x = some .local →
    bindL kindOf (P.zip vs) m x = some v
  | [], _, _, _, _, h, _, _ => by simp at h
  | _ :: _, [], _, _, _, _, h, _ => by simp at h
  | p :: P, w :: vs, 0, m, nd, h1, h2, hk => by
    simp at h1 h2; subst h1; subst h2
    show bindL kindOf ((p, w) :: P.zip vs) m p = _
    unfold bindL
    rw [bindL_out fun v hv => (List.nodup_cons.mp nd).1 (List.of_mem_zip hv).1, if_pos hk]
    simp
  | p :: P, w :: vs, i + 1, m, nd, h1, h2, hk => by
    show bindL kindOf ((p, w) :: P.zip vs) m x = _
    unfold bindL
    exact bindL_get (i := i) (List.nodup_cons.mp nd).2 (by simpa using h1) (by simpa using h2) hk
theorem bindC_get {kindOf : Str → Option NameKind} {x : Str} {v : Value} : ∀ {P : List Str} {vs : List Value} {i : Nat} {m : Str → Option Value}, P.Nodup → P[i]? = some x → vs[i]? = some v → kindOf x ≠ some .local →
    bindC kindOf (P.zip vs) m x = some v
  | [], _, _, _, _, h, _, _ => by simp at h
  | _ :: _, [], _, _, _, _, h, _ => by simp at h
  | p :: P, w :: vs, 0, m, nd, h1, h2, hk => by
    simp at h1 h2; subst h1; subst h2
    show bindC kindOf ((p, w) :: P.zip vs) m p = _
    unfold bindC
    rw [bindC_out fun v hv => (List.nodup_cons.mp nd).1 (List.of_mem_zip hv).1, if_neg hk]
    simp
  | p :: P, w :: vs, i + 1, m, nd, h1, h2, hk => by
    show bindC kindOf ((p, w) :: P.zip vs) m x = _
    unfold bindC
    exact bindC_get (i := i) (List.nodup_cons.mp nd).2 (by simpa using h1) (by simpa using h2) hk
noncomputable def start (N : List Str) (vs : List V) : St := vs.map some ++ List.replicate (N.length - vs.length) none
noncomputable def cxOf (CX : CXT) (P : Program) (w : World) (K : PySem.W.Frag) (mg : Str → Option Value) (base : Heap) (N : List Str) (qual : Str) (scope : Scope) (f : Addr) (cd : Value) (A : Around) (outer : List Env) (s : Shared) (H : Hp) (E : XK) : Cx where
  prog := P
  w := w
  K := K
  mg := mg
  base := base
  A := A.deeper (envOfC qual scope s.heap.objs.size f cd)
  N := N
  s₀ := s
  H₀ := H
  env := envOfC qual scope s.heap.objs.size f cd
  outer := outer
  stack := envOfC qual scope s.heap.objs.size f cd :: outer
  ex := []
  calm := true
  fn := fun _ => true
  pn := []
  xe := fun e s' => wpAny (model P w) (A.deeper (envOfC qual scope s.heap.objs.size f cd)) (leaving (envOfC qual scope s.heap.objs.size f cd) e) (fun _ s'' => CX outer H s E e s'') (fun e' s'' => CX outer H s E e' s'') s'
theorem cell_has {sc : Scope} {n : Nat} {x : Str} (h : sc.names.lookup x = some .cell) : ∃ c, (cellsFrom n sc.names []).lookup x = some c := by
  have q := PySem.W.cellsFrom_some sc.names n [] (.inl h)
  exact Option.isSome_iff_exists.mp q
theorem inv_start {CX : CXT} {P : Program} {w : World} {K : PySem.W.Frag} {mg : Str → Option Value} {base : Heap} {N ps : List Str} {qual : Str} {scope : Scope} {f : Addr} {cd : Value} {A : Around} {outer : List Env} {s s1 : Shared} {H : Hp} {E : XK} {us : List Value} {vs : List V}
    (S : FnScope N ps scope) (hd : A.handled = none) (e0 : Env0 P w K mg base A outer s H) (hl : vs.length = ps.length) (r : Vals vs us)
    (x : InCallC s s.heap.objs.size (bindL (envOfC qual scope s.heap.objs.size f cd).kindOf (ps.zip us) fun _ => none) (cellsFrom (s.heap.objs.size + 1) scope.names []) (bindC (envOfC qual scope s.heap.objs.size f cd).kindOf (ps.zip us) fun _ => none) s1) :
    Inv (cxOf CX P w K mg base N qual scope f cd A outer s H E) [] (start N vs) H s1 := by
  have hpl : ps.length ≤ N.length := by have := congrArg List.length S.pre; rw [List.length_take] at this; omega
  obtain ⟨h1, tk, rfl, hk⟩ := x.done
  have noA : ∀ b : Addr, b ∉ (cxOf CX P w K mg base N qual scope f cd A outer s H E).ex := fun b z => absurd (show b ∈ ([] : List Addr) from z) (by simp)
  refine ⟨⟨e0.mod, S.kind, rfl, rfl, Nat.le_refl _, fun y z c h1 h2 => ?_, fun y hy => ?_, fun y c _ h => ?_, fun _ => hd, Around.frames_deeper e0.frames, .inr ⟨rfl, rfl⟩, fun b z => absurd z (noA b), e0.bs, e0.bsz, fun b _ _ => noA b, fun b z => absurd z (noA b), e0.funs, e0.frf⟩,
    rfl, e0.bare, Un.kept hk, ⟨_, x.toInCall.ns, fun i y v h1 h2 h3 => ?_⟩, fun y c h => ⟨_, x.cell y c h⟩, e0.hok.fresh (Nat.le_refl _), fun y c h => ?_, fun p hp => absurd (show p ∈ ([] : List (Addr × Obj)) from hp) (by simp), e0.hok.kept hk, ?_⟩
  · exact name_of_addr x.apart (PySem.mem_of_lookup h1) (PySem.mem_of_lookup h2)
  · have hy : scope.names.lookup y = some .cell ∨ scope.names.lookup y = some .free := hy
    rcases hy with hy | hy
    · exact cell_has hy
    · exact absurd rfl (S.nofree _ (PySem.mem_of_lookup hy))
  · exact Nat.le_of_lt (x.above y c (PySem.mem_of_lookup h))
  · have hi : i < vs.length := by
      unfold start at h2
      by_cases hi : i < vs.length
      · exact hi
      · rw [List.getElem?_append_right (by simpa using hi)] at h2
        rw [List.getElem?_replicate] at h2
        split at h2 <;> cases h2
    have ha : vs[i]? = some v := by
      unfold start at h2
      rw [List.getElem?_append_left (by simpa using hi), List.getElem?_map] at h2
      cases e : vs[i]? with
      | none => rw [e] at h2; cases h2
      | some a => rw [e] at h2; cases h2; rfl
    obtain ⟨u, hu, rv⟩ := r.get ha
    have hp : ps[i]? = some y := by
      rw [← S.pre, List.getElem?_take_of_lt (by omega)]; exact h1
    have ndP : ps.Nodup := by rw [← S.pre]; exact S.nd.sublist (List.take_sublist _ _)
    refine ⟨u, rv, ?_⟩
    rcases S.par y (List.mem_of_getElem? hp) with k | k
    · exact .inl ⟨k, bindL_get ndP hp hu k⟩
    · obtain ⟨c, e⟩ := cell_has (n := s.heap.objs.size + 1) k
      refine .inr ⟨.inl k, c, e, ?_⟩
      have q := x.cell y c e
      rw [bindC_get ndP hp hu (by show scope.names.lookup y ≠ _; rw [k]; decide)] at q
      exact q
  · exact e0.hok.fresh (Nat.le_of_lt (x.above y c (PySem.mem_of_lookup h)))
  · unfold start
    show _ = N.length
    rw [List.length_append, List.length_map, List.length_replicate]
    omega
theorem fn_of {CX : CXT} {P : Program} {w : World} {K : PySem.W.Frag} {mg : Str → Option Value} {base : Heap} {k : Nat} {f : Addr} {name qual : Str} {params : Arguments} {body : List Stmt} {scope : Scope} {dV kV doc pm cdv ct oc : Value} {an od : Option Addr}
    {osl : Array (Option Value)} {N ps : List Str} {sp : Sp} (lk : K.lookup f = some ⟨oc, od, .func (PySem.W.fnOf name qual params body scope dV kV doc pm an cdv ct), osl⟩) (hcd : PySem.W.codeIn K cdv qual = true) (S : FnScope N ps scope)
    (len : ∀ vs H Q E, sp vs H Q E → vs.length = ps.length)
    (hbody : ∀ (A : Around) (outer : List Env) (s : Shared) (H : Hp) (vs : List V) (Q : VK) (E : XK), Room k (A.deeper (envOfC qual scope s.heap.objs.size f cdv)) → sp vs H Q E →
      ∃ t, PSs (cxOf CX P w K mg base N qual scope f cdv A outer s H E) body t ∧ t { nx := fun _ H' => Q .non H', rt := Q } (start N vs) H) :
    FnOk P w K mg base CX (k + 1) f (PySem.W.fnOf name qual params body scope dV kV doc pm an cdv ct) ps sp := by
  refine ⟨len, fun A outer s H args us vs Q E hr e0 hb r hsp => ?_⟩
  have hl := len _ _ _ _ hsp
  have KX : K.In s.heap := e0.mod.kin.keeps fun b o e => (e0.bs b o e).1
  have lim : s.heap.NoLimit := e0.mod.nolimit.keeps fun b o e => (e0.bs b o e).1
  have hkind : ∀ y ∈ ps.zip us, scope.names.lookup y.1 = some .local ∨ (scope.names.lookup y.1 = some .cell ∧ ((cellsFrom (s.heap.objs.size + 1) scope.names []).lookup y.1).isSome = true) := fun ⟨n, v⟩ hy => by
    rcases S.par n (List.of_mem_zip hy).1 with q | q
    · exact .inl q
    · exact .inr ⟨q, PySem.W.cellsFrom_some _ _ _ (.inl q)⟩
  refine codeAny_call_function hr.depth (KX _ _ lk) rfl S.co S.gen rfl (PySem.W.codeRec_of KX hcd) (hb _ _ _ _ ?_)
  refine wpAny_newFunctionEnv_cells S.kind hkind fun env he s1 x => ?_
  subst he
  refine ⟨lim.keeps x.toInCall.keep, codeAny_func ?_⟩
  obtain ⟨t, ht, hq⟩ := hbody A outer s H vs Q E (hr.deeper _) hsp
  have I : Inv (cxOf CX P w K mg base N qual scope f cdv A outer s H E) [] (start N vs) H s1 := inv_start S hr.hd e0 hl r x
  refine wpAny_mono (ht [] s1 (start N vs) H _ I hq) (fun fl s' hs => ?_) fun e s' hs => hs
  have fin : ∀ {σ' : St} {H' : Hp} {v : V} {u : Value}, Inv (cxOf CX P w K mg base N qual scope f cdv A outer s H E) [] σ' H' s' → RelV v u → Q v H' → CE outer P w H s Q u s' :=
    fun {σ' H' v u} J rv q => ⟨v, H', J.os, J.bare, J.base, J.hok, rv, q⟩
  cases fl with
  | ret u =>
    obtain ⟨v, σ', H', J, rv, q⟩ := hs
    exact fin J rv q
  | next =>
    obtain ⟨σ', H', J, q⟩ := hs
    exact fin (v := V.non) (u := Value.none) J rfl q
  | brk =>
    obtain ⟨_, _, _, q⟩ := hs
    exact False.elim q
  | cont =>
    obtain ⟨_, _, _, q⟩ := hs
    exact False.elim q
end L2
namespace L2
open PySem PySem.Spec PyProof.Rows
section
variable {X : Cx} {x : Str} {p pos : Pos} {e : Expr} {es : List Expr} {t : TA} {id T : String} {r : List V → Hp → VK → Prop}
noncomputable def tCB (r : List V → Hp → VK → Prop) (t : TA) : TE := fun σ H Q => t σ H fun vs H1 => r vs H1 Q
theorem pe_callB (hc : CallR X (.builtin id) r) (hg : Gl X x) (hm : X.mg x = none) (hv : bootBuiltins x = some (.builtin id)) (ha : PA X (e :: es) t) (hn : x ≠ "__name__" := by decide) (hdb : (x == ("__debug__" : Str)) = false := by decide)
    (he : starEach (e :: es) X.env = (false, eval e X.env) :: starEach es X.env := by rfl) (hpl : (backTo pos (starEach es X.env)).any (·.1) = false := by rfl) : PE X (.Call (.Name x p) (e :: es) [] pos) (tCB r t) := by
  intro pins s σ H Q I h
  refine wpAny_Call_Name_kw (ld_blt I hg hm hv ?_ hn hdb)
  exact PyProof.Rows.callWith_builtin1 (thn (ha pos pins s σ H _ I h) fun us s1 ⟨vs, H1, I1, r1, q1⟩ => hc pins s1 σ H1 vs us Q I1 r1 q1) he hpl
theorem pe_callTy (hc : CallR X (.type T) r) (hg : Gl X x) (hm : X.mg x = none) (hv : bootBuiltins x = some (.type T)) (ha : PA X (e :: es) t) (hn : x ≠ "__name__" := by decide) (hdb : (x == ("__debug__" : Str)) = false := by decide)
    (he : starEach (e :: es) X.env = (false, eval e X.env) :: starEach es X.env := by rfl) (hpl : (backTo pos (starEach es X.env)).any (·.1) = false := by rfl) : PE X (.Call (.Name x p) (e :: es) [] pos) (tCB r t) := by
  intro pins s σ H Q I h
  refine wpAny_Call_Name_kw (ld_blt I hg hm hv ?_ hn hdb)
  exact PyProof.Rows.callWith_type1 (thn (ha pos pins s σ H _ I h) fun us s1 ⟨vs, H1, I1, r1, q1⟩ => hc pins s1 σ H1 vs us Q I1 r1 q1) he hpl
end
end L2
namespace HT
open PySem PyProof.Rows
section
variable {prog : Program} {w : World} {A : Around} {E : Value → Shared → Prop} {s : Shared}
theorem cat_tup {t b : Addr} {vs ws : List Value} {Q : Value → Shared → Prop} (ht : IsTup s.heap t vs.toArray) (hb : IsTup s.heap b ws.toArray) (hv : vs ≠ [])
    (h1 : ws = [] → Q (.ref t) s) (h2 : ws ≠ [] → Q (.ref s.heap.objs.size) { s with heap := s.heap.push { cls := .type "tuple", data := .seq (vs ++ ws).toArray } })
    (hsz : vs.length + ws.length ≤ sizeLine) : wpAny (model prog w) A (binaryOp .Add (.ref t) (.ref b)) Q E s := by
  obtain ⟨⟨cls, dd, data, sl⟩, ho, hc, n, hd⟩ := id ht
  obtain ⟨⟨cls2, dd2, data2, sl2⟩, ho2, hc2, n2, hd2⟩ := id hb
  simp only at hc hd hc2 hd2
  subst hc hd hc2 hd2
  have e : vs.toArray ++ ws.toArray = (vs ++ ws).toArray := by simp
  by_cases hw : ws = []
  · exact concat_meets ⟨_, ho, rfl⟩ ⟨_, ho2, rfl⟩ noFill_tuple_add seq_tuple_add PySem.F.slot_tuple_add PySem.F.entry_tuple_add (PySem.F.args_tuple_add_2 _ _)
      (tuple_addW1 t b vs.toArray ws.toArray n n2 dd dd2 sl sl2 (by simpa using hv) (by simp [hw])) ⟨ho, ho2, h1 hw⟩
  · refine concat_meets ⟨_, ho, rfl⟩ ⟨_, ho2, rfl⟩ noFill_tuple_add seq_tuple_add PySem.F.slot_tuple_add PySem.F.entry_tuple_add (PySem.F.args_tuple_add_2 _ _)
      (tuple_addW2 t b vs.toArray ws.toArray n n2 dd dd2 sl sl2 (by simpa using hv) (by simpa using hw) (by rw [List.size_toArray, List.size_toArray]; exact hsz)) ⟨ho, ho2, ?_⟩
    rw [e]
    exact h2 hw
noncomputable def sIx (n d : Nat) : Option Int → Nat
  | none => d
  | some v => if v < 0 then (v + (n : Int)).toNat else min v.toNat n
theorem sIx_none (n d : Nat) : sIx n d none = d := rfl
theorem sIx_nat (n d k : Nat) : sIx n d (some (k : Int)) = min k n := by
  show (if (k : Int) < 0 then ((k : Int) + (n : Int)).toNat else min (k : Int).toNat n) = min k n
  rw [if_neg (by omega), Int.toNat_natCast]
theorem sIx_le (n d : Nat) (hd : d ≤ n) (o : Option Int) : sIx n d o ≤ n := by
  cases o with
  | none => exact hd
  | some v =>
    show (if v < 0 then (v + (n : Int)).toNat else min v.toNat n) ≤ n
    by_cases hv : v < 0
    · rw [if_pos hv]; omega
    · rw [if_neg hv]; exact Nat.min_le_right _ _
theorem clip_eq (v : Int) (n d : Nat) : (if v < 0 then max (v + (n : Int)) 0 else min v (n : Int)) = ((sIx n d (some v) : Nat) : Int) := by
  show (if v < 0 then max (v + (n : Int)) 0 else min v (n : Int)) = (((if v < 0 then (v + (n : Int)).toNat else min v.toNat n) : Nat) : Int)
  by_cases hv : v < 0
  · simp only [if_pos hv]; omega
  · simp only [if_neg hv]; omega
theorem adjust_gen (lo hi : Option Int) (n : Nat) : Builtin.Slice.sliceAdjust lo hi 1 (n : Int) = (((sIx n 0 lo : Nat) : Int), ((sIx n n hi : Nat) : Int)) := by
  have h1 : ¬ ((1 : Int) < 0) := by omega
  unfold Builtin.Slice.sliceAdjust
  simp only [h1, if_false]
  refine Prod.ext ?_ ?_
  · cases lo with
    | none => rfl
    | some v => exact clip_eq v n 0
  · cases hi with
    | none => rfl
    | some v => exact clip_eq v n n
theorem places_gen (i j : Nat) : Builtin.Slice.slicePlaces (i : Int) (j : Int) 1 = j - i := by
  unfold Builtin.Slice.slicePlaces
  have h1 : (1 : Int) > 0 := by omega
  simp only [h1, if_true, Int.ediv_one]
  split <;> omega
theorem slicePart_ {v : Value} {o : Option Int} {Q : Option Int → Shared → Prop} (p : IsPart v o) (h : Q o s) : wpAny (model prog w) A (Builtin.Slice.slicePartIndex v) Q E s := by
  cases p with
  | none => exact slicePart_none h
  | int i t => exact slicePart_int h
theorem sliceApplied_gen {sl : Addr} {vl vu : Value} {lo hi : Option Int} {n : Nat} {Q : Int × Int × Nat → Shared → Prop} (hs : s.heap.IsSliceOf sl vl vu .none) (pl : IsPart vl lo) (pu : IsPart vu hi)
    (h : Q (((sIx n 0 lo : Nat) : Int), 1, sIx n n hi - sIx n 0 lo) s) : wpAny (model prog w) A (Builtin.Slice.sliceApplied (.ref sl) (pure (n : Int))) Q E s := by
  obtain ⟨os, hos, hcs, hds⟩ := id hs
  unfold Builtin.Slice.sliceApplied Builtin.Slice.sliceFields
  refine wpAny_bind (wpAny_bind (wpAny_field hos hds (x := vl) rfl (wpAny_bind (wpAny_field hos hds (x := vu) rfl (wpAny_bind (wpAny_field hos hds (x := .none) rfl (wpAny_pure ?_)))))))
  refine wpAny_bind (slicePart_none ?_)
  show wpAny _ _ (if ((1 : Int) == 0) = true then _ else _) _ _ s
  rw [if_neg (by decide)]
  refine wpAny_bind (slicePart_ pl (wpAny_bind (slicePart_ pu (wpAny_bind (wpAny_pure ?_)))))
  show wpAny _ _ (match Builtin.Slice.sliceAdjust lo hi 1 (n : Int) with | (lo, hi) => pure (lo, (1 : Int), Builtin.Slice.slicePlaces lo hi 1)) _ _ s
  rw [adjust_gen lo hi n]
  show wpAny _ _ (pure (((sIx n 0 lo : Nat) : Int), (1 : Int), Builtin.Slice.slicePlaces ((sIx n 0 lo : Nat) : Int) ((sIx n n hi : Nat) : Int) 1)) _ _ s
  rw [places_gen]
  exact wpAny_pure h
theorem pick_gen (xs : Array Value) (i k : Nat) : ((List.range k).filterMap fun (m : Nat) => xs[((i : Int) + (m : Int) * 1).toNat]?).toArray = ((xs.toList.drop i).take k).toArray := by
  have e : (fun (m : Nat) => xs[((i : Int) + (m : Int) * 1).toNat]?) = fun m => xs[i + m]? := by
    funext m
    have : ((i : Int) + (m : Int) * 1).toNat = i + m := by omega
    rw [this]
  rw [e]
  have := pick_run xs i k
  rw [List.filterMap_map] at this
  have e2 : ((fun x => xs[x]?) ∘ fun x => i + x) = fun m => xs[i + m]? := rfl
  rw [e2] at this
  rw [this]
theorem getItem_tuple_cut {t sl : Addr} {items : Array Value} {vl vu : Value} {lo hi : Option Int} {Q : Value → Shared → Prop} (ht : IsTup s.heap t items) (hs : s.heap.IsSliceOf sl vl vu .none) (pl : IsPart vl lo) (pu : IsPart vu hi)
    (hw : ¬ (sIx items.size 0 lo = 0 ∧ sIx items.size items.size hi = items.size))
    (h : Q (.ref s.heap.objs.size) { s with heap := s.heap.push { cls := .type "tuple", data := .seq ((items.toList.drop (sIx items.size 0 lo)).take (sIx items.size items.size hi - sIx items.size 0 lo)).toArray } })
    (hsz : items.size ≤ sizeLine) : wpAny (model prog w) A (getItem (.ref t) (.ref sl)) Q E s := by
  have htake : sizeOk (.seq ((items.toList.drop (sIx items.size 0 lo)).take (sIx items.size items.size hi - sIx items.size 0 lo)).toArray) := by
    show ((items.toList.drop (sIx items.size 0 lo)).take (sIx items.size items.size hi - sIx items.size 0 lo)).toArray.size ≤ sizeLine
    rw [List.size_toArray, List.length_take, List.length_drop, Array.length_toList]
    omega
  have hj : sIx items.size items.size hi ≤ items.size := sIx_le _ _ (Nat.le_refl _) hi
  obtain ⟨os, hos, hcs, hds⟩ := id hs
  have hTs : s.TypeIs (.ref sl) "slice" := ⟨os, hos, hcs⟩
  unfold getItem
  try with_reducible refine wpAny_holding ?_
  first | refine wpAny_bind (wpAny_pure ?_) | skip
  refine wpAny_bind (wpAny_sequenceKey ht.typeIs (by decide) ?_)
  refine wpAny_bind (wpAny_callSpecial?_slot (name := Str.ofString "__getitem__") ht.typeIs PyProof.Rows.slot_tuple_getitem
    (wpAny_call_entry PyProof.Rows.slot_tuple_getitem ht.typeIs entry_tuple_getitem ?_ (args_tuple_getitem _ _)))
  show wpAny _ _ (Builtin.Tuple.tupleItemsOf (.ref t) >>= _) _ _ s
  refine wpAny_bind (tupleItemsOf_ ht ?_)
  refine wpAny_bind (wpAny_typeOf hTs ?_)
  rw [if_pos (by decide)]
  refine wpAny_bind (sliceApplied_gen hs pl pu ?_)
  have hno : ¬ ((((sIx items.size 0 lo : Nat) : Int) == 0 && (1 : Int) == 1 && (sIx items.size items.size hi - sIx items.size 0 lo) == items.size) = true) := by
    intro q
    rw [Bool.and_eq_true, Bool.and_eq_true] at q
    have q1 : ((sIx items.size 0 lo : Nat) : Int) = 0 := eq_of_beq q.1.1
    have q2 : sIx items.size items.size hi - sIx items.size 0 lo = items.size := eq_of_beq q.2
    exact hw ⟨by omega, by omega⟩
  show wpAny _ _ (if (((sIx items.size 0 lo : Nat) : Int) == 0 && (1 : Int) == 1 && (sIx items.size items.size hi - sIx items.size 0 lo) == items.size) = true then _ else _) _ _ s
  rw [if_neg hno, pick_gen]
  first
    | exact wpAny_bind (m := Builtin.Tuple.tupleExact _) (wpAny_newObj_type (wpAny_pure ⟨_, rfl, wpAny_pure h⟩) htake)
    | exact wpAny_bind (m := Builtin.Tuple.tupleExact _) (wpAny_newObj_type (wpAny_bind (wpAny_pure (wpAny_pure ⟨_, rfl, wpAny_pure h⟩))) htake)
    | exact wpAny_bind (wpAny_bind (m := Builtin.Tuple.tupleExact _) (wpAny_newObj_type (wpAny_pure (wpAny_pure ⟨_, rfl, wpAny_pure h⟩)) htake))
    | exact wpAny_bind (wpAny_bind (m := Builtin.Tuple.tupleExact _) (wpAny_newObj_type (wpAny_pure ⟨_, rfl, wpAny_pure h⟩) htake))
end
end HT
namespace L2
open PySem PySem.Spec PyProof.Rows
noncomputable abbrev TO := St → Hp → (Option Int → Hp → Prop) → Prop
noncomputable def PO (X : Cx) (e : Option Expr) (t : TO) : Prop :=
  ∀ (pins : List (Addr × Obj)) (s : Shared) (σ : St) (H : Hp) (Q : Option Int → Hp → Prop), Inv X pins σ H s → t σ H Q →
    wpAny (model X.prog X.w) X.A (evalPart e X.env) (fun u s' => ∃ o H', Inv X pins σ H' s' ∧ IsPart u o ∧ Q o H') X.xe s
noncomputable def tNoPart : TO := fun _ H Q => Q none H
noncomputable def tPart (t : TE) : TO := fun σ H Q => t σ H fun x H1 => ∃ i, x = .int i ∧ Q (some i) H1
section
variable {X : Cx} {e : Expr} {te : TE} {lo hi : Option Expr} {tl th : TO} {pos p2 : Pos}
theorem po_none : PO X none tNoPart := by
  intro pins s σ H Q I h
  rw [evalPart_none]
  exact wpAny_pure ⟨none, H, I, .none, h⟩
theorem po_some (h : PE X e te) : PO X (some e) (tPart te) := by
  intro pins s σ H Q I hw
  rw [evalPart_some]
  refine thn (h pins s σ H _ I hw) fun u s1 ⟨x, H1, I1, r1, q1⟩ => ?_
  obtain ⟨i, rfl, q⟩ := q1
  obtain ⟨t, rfl⟩ := r1
  exact ⟨some i, H1, I1, .int i t, q⟩
noncomputable def SlR (X : Cx) (r : V → Option Int → Option Int → Hp → VK → Prop) : Prop :=
  ∀ (pins : List (Addr × Obj)) (s : Shared) (σ : St) (H : Hp) (x : V) (v vl vu : Value) (lo hi : Option Int) (sl : Addr) (Q : VK), Inv X pins σ H s → RelV x v → s.heap.IsSliceOf sl vl vu .none → IsPart vl lo → IsPart vu hi → r x lo hi H Q →
    ∃ T id, typeLookup (.type T) "__getitem__" = pure (some (.builtin id)) ∧ s.TypeIs v T ∧ wpAny (model X.prog X.w) X.A (getItem v (.ref sl)) (EP X pins σ Q) X.xe s
theorem SlR.or {r r' : V → Option Int → Option Int → Hp → VK → Prop} (h : SlR X r) (h' : SlR X r') : SlR X (fun x lo hi H Q => r x lo hi H Q ∨ r' x lo hi H Q) := by
  intro pins s σ H x v vl vu lo hi sl Q I rx hs pl pu q
  rcases q with q | q
  · exact h pins s σ H x v vl vu lo hi sl Q I rx hs pl pu q
  · exact h' pins s σ H x v vl vu lo hi sl Q I rx hs pl pu q
noncomputable def tSl (r : V → Option Int → Option Int → Hp → VK → Prop) (te : TE) (tl th : TO) : TE := fun σ H Q => te σ H fun x H1 => tl σ H1 fun l H2 => th σ H2 fun u H3 => r x l u H3 Q
theorem pe_slice {r : V → Option Int → Option Int → Hp → VK → Prop} (hr : SlR X r) (he : PE X e te) (hl : PO X lo tl) (hu : PO X hi th) : PE X (.Subscript e (.Slice lo hi none p2) pos) (tSl r te tl th) := by
  intro pins s σ H Q I h
  refine Subscript_ (thn (he pins s σ H _ I h) fun v s1 ⟨x, H1, I1, r1, q1⟩ => ?_)
  refine wpAny_Slice (thn (hl pins s1 σ H1 _ I1 q1) fun vl s2 ⟨l, H2, I2, pl, q2⟩ => thn (hu pins s2 σ H2 _ I2 q2) fun vu s3 ⟨u, H3, I3, pu, q3⟩ => ?_)
  rw [evalPart_none]
  refine wpAny_pure ?_
  have I4 : Inv X pins σ H3 { s3 with heap := s3.heap.push { cls := .type "slice", data := .fields #[vl, vu, .none] } } := I3.kept (t' := s3.toks) fun b ob q => Heap.get?_push_of_some _ q
  obtain ⟨T, id, hT, ht, hg⟩ := hr pins { s3 with heap := s3.heap.push { cls := .type "slice", data := .fields #[vl, vu, .none] } } σ H3 x v vl vu l u s3.heap.objs.size Q I4 r1 (Heap.IsSliceOf.new ..) pl pu q3
  show wpAny (model X.prog X.w) X.A (subscriptTail e (.Slice lo hi none p2) v (.ref s3.heap.objs.size)) (EP X pins σ Q) X.xe { s3 with heap := s3.heap.push { cls := .type "slice", data := .fields #[vl, vu, .none] } }
  exact tail_any (ops := [.ref s3.heap.objs.size, v]) ht hT hg (by with_unfolding_all rfl)
noncomputable def cutV (xs : List V) (lo hi : Option Int) : List V := (xs.drop (HT.sIx xs.length 0 lo)).take (HT.sIx xs.length xs.length hi - HT.sIx xs.length 0 lo)
theorem cutV_length (xs : List V) (lo hi : Option Int) : (cutV xs lo hi).length ≤ xs.length := by
  unfold cutV
  rw [List.length_take, List.length_drop]
  omega
noncomputable def rSlT (K : PySem.W.Frag) : V → Option Int → Option Int → Hp → VK → Prop := fun x lo hi H Q => ∃ a xs, x = .ref a ∧ SqT K H a xs ∧
  ¬ (HT.sIx xs.length 0 lo = 0 ∧ HT.sIx xs.length xs.length hi = xs.length) ∧ ∀ p, H p = none → Q (.ref p) (upd H p (.tup (cutV xs lo hi)))
theorem sl_tup : SlR X (rSlT X.K) := by
  intro pins s σ H x v vl vu lo hi sl Q I rx hs pl pu h
  obtain ⟨a, xs, rfl, hx, hw, q⟩ := h
  cases rx
  obtain ⟨its, r, ht, hz⟩ := I.tuple hx
  have hlen : its.toArray.size = xs.length := by rw [List.size_toArray]; exact r.length.symm
  refine ⟨"tuple", _, PyProof.Rows.slot_tuple_getitem.lookup, ht.typeIs, ?_⟩
  refine HT.getItem_tuple_cut ht hs pl pu (by rw [hlen]; exact hw) ?_ (by rw [hlen]; exact hz)
  rw [hlen]
  refine ⟨.ref s.heap.objs.size, _, I.laid (t' := s.toks) (o := .tup (cutV xs lo hi)) (fun b ob q => Heap.get?_push_of_some _ q) (Nat.le_refl _) ?_, rfl, q _ (I.hok.fresh (Nat.le_refl _))⟩
  exact ⟨Nat.le_trans (cutV_length xs lo hi) hz, _, (r.drop (HT.sIx xs.length 0 lo)).take (HT.sIx xs.length xs.length hi - HT.sIx xs.length 0 lo), IsTup.new _ _⟩
theorem Vals.nil_iff {xs : List V} {us : List Value} (r : Vals xs us) : us = [] ↔ xs = [] := by
  cases r with
  | nil => simp
  | cons _ _ => simp
end
end L2
namespace L2
open PySem PySem.Spec PyProof.Rows
noncomputable def ixN (n : Nat) (i : Int) : Option Nat := if 0 ≤ i then (if i < n then some i.toNat else none) else if -(n : Int) ≤ i then some (i + n).toNat else none
noncomputable def atI {α : Type} (xs : List α) (i : Int) : Option α := (ixN xs.length i).bind fun j => xs[j]?
theorem ixN_seq {n : Nat} {i : Int} {j : Nat} (h : ixN n i = some j) : seqIndex? i n = some j ∧ j < n ∧ -(n : Int) ≤ i ∧ i < n := by
  unfold ixN at h
  by_cases h0 : 0 ≤ i
  · rw [if_pos h0] at h
    by_cases h1 : i < n
    · rw [if_pos h1] at h
      have e : i.toNat = j := Option.some.inj h
      exact ⟨by rw [seqIndex_of h0 h1, e], by omega, by omega, h1⟩
    · rw [if_neg h1] at h; cases h
  · rw [if_neg h0] at h
    by_cases h1 : -(n : Int) ≤ i
    · rw [if_pos h1] at h
      have e : (i + n).toNat = j := Option.some.inj h
      exact ⟨by rw [seqIndex_neg (by omega) h1, e], by omega, h1, by omega⟩
    · rw [if_neg h1] at h; cases h
theorem atI_get {α : Type} {xs : List α} {i : Int} {v : α} (h : atI xs i = some v) : ∃ j, seqIndex? i xs.length = some j ∧ xs[j]? = some v ∧ j < xs.length ∧ -(xs.length : Int) ≤ i ∧ i < xs.length := by
  unfold atI at h
  cases e : ixN xs.length i with
  | none => rw [e] at h; cases h
  | some j =>
    rw [e] at h
    obtain ⟨h1, h2, h3, h4⟩ := ixN_seq e
    exact ⟨j, h1, h, h2, h3, h4⟩
theorem atI_nat {α : Type} {xs : List α} {j : Nat} {v : α} (h : xs[j]? = some v) : atI xs (j : Int) = some v := by
  have hj : j < xs.length := (List.getElem?_eq_some_iff.mp h).1
  have e : ixN xs.length (j : Int) = some j := by
    unfold ixN
    rw [if_pos (by omega), if_pos (by omega)]; simp
  unfold atI; rw [e]; exact h
theorem atI_last {α : Type} (xs : List α) (v : α) : atI (xs ++ [v]) (-1) = some v := by
  have hl : (xs ++ [v]).length = xs.length + 1 := by simp
  have e : ixN (xs ++ [v]).length (-1) = some xs.length := by
    unfold ixN
    rw [hl, if_neg (by decide), if_pos (by omega)]
    congr 1
    omega
  unfold atI
  rw [e]
  show (xs ++ [v])[xs.length]? = some v
  simp
noncomputable def PlainIx (b : Expr) : Prop := ∀ o i, subscripted b false o i = operate [o, i] (getItem o i)
noncomputable def IxR (X : Cx) (r : R2) : Prop :=
  ∀ (value slice : Expr) (pins : List (Addr × Obj)) (s : Shared) (σ : St) (H : Hp) (x y : V) (v u : Value) (Q : VK), Inv X pins σ H s → RelV x v → RelV y u → r x y H Q →
    subscripted slice false v u = operate [v, u] (getItem v u) → wpAny (model X.prog X.w) X.A (subscriptTail value slice v u) (EP X pins σ Q) X.xe s
noncomputable def MtR (X : Cx) (id : String) (r : V → List V → Hp → VK → Prop) : Prop :=
  ∀ (pins : List (Addr × Obj)) (s : Shared) (σ : St) (H : Hp) (x : V) (xs : List V) (v : Value) (us : List Value) (Q : VK), Inv X pins σ H s → RelV x v → Vals xs us → r x xs H Q →
    wpAny (model X.prog X.w) X.A (call (.builtin id) (v :: us)) (EP X pins σ Q) X.xe s
section
variable {X : Cx} {a b : Expr} {ta tb : TE} {pos : Pos}
theorem IxR.or {r r' : R2} (h : IxR X r) (h' : IxR X r') : IxR X (fun x y H Q => r x y H Q ∨ r' x y H Q) := by
  intro value slice pins s σ H x y v u Q I rx ry q hs
  rcases q with q | q
  · exact h value slice pins s σ H x y v u Q I rx ry q hs
  · exact h' value slice pins s σ H x y v u Q I rx ry q hs
theorem MtR.or {id : String} {r r' : V → List V → Hp → VK → Prop} (h : MtR X id r) (h' : MtR X id r') : MtR X id (fun x xs H Q => r x xs H Q ∨ r' x xs H Q) := by
  intro pins s σ H x xs v us Q I rx rs q
  rcases q with q | q
  · exact h pins s σ H x xs v us Q I rx rs q
  · exact h' pins s σ H x xs v us Q I rx rs q
theorem pe_ix {r : R2} (hr : IxR X r) (ha : PE X a ta) (hb : PE X b tb) (hs : PlainIx b) : PE X (.Subscript a b pos) (tOp r ta tb) := by
  intro pins s σ H Q I h
  exact Subscript_ (binT ha hb I h fun v u s2 x y H2 I2 rx ry q => hr a b pins s2 σ H2 x y v u Q I2 rx ry q (hs _ _))
noncomputable def rIxL (K : PySem.W.Frag) : R2 := fun x y H Q => ∃ p xs i v, x = .ref p ∧ y = .int i ∧ SqL K H p xs ∧ atI xs i = some v ∧ Q v H
noncomputable def rIxT (K : PySem.W.Frag) : R2 := fun x y H Q => ∃ p xs i v, x = .ref p ∧ y = .int i ∧ SqT K H p xs ∧ atI xs i = some v ∧ Q v H
noncomputable def rIxS : R2 := fun x y H Q => ∃ z i c, x = .str z ∧ y = .int i ∧ z.length ≤ sizeLine ∧ atI z.cps.toList i = some c ∧ Q (.str ⟨#[c]⟩) H
theorem ix_list : IxR X (rIxL X.K) := by
  intro value slice pins s σ H x y v u Q I rx ry h hs
  obtain ⟨p, xs, i, z, rfl, rfl, hq, he, q⟩ := h
  cases rx
  obtain ⟨t, rfl⟩ := ry
  obtain ⟨its, r, pl, hz⟩ := I.list hq
  obtain ⟨j, h1, h2, h3, h4, h5⟩ := atI_get he
  obtain ⟨w, ew, rw'⟩ := r.get h2
  have hl := r.length
  have hn := line63
  have fin : EP X pins σ Q w s := ⟨z, H, I, rw', q⟩
  by_cases h0 : 0 ≤ i
  · have hj : i.toNat = j := by
      rw [seqIndex_of h0 h5] at h1
      exact Option.some.inj h1
    exact item_listR pl.isList h0 (by omega) (by rw [hj]; simpa using ew) fin hs
  · have hj : (i + (its.toArray.size : Int)).toNat = j := by
      rw [seqIndex_neg (by omega) h4] at h1
      rw [List.size_toArray, ← hl]
      exact Option.some.inj h1
    exact subscriptTail_builtinR (x := w) pl.isList.typeIs slot_list_getitem.lookup
      (wpAny_getItem_list_neg (Q := fun r s' => r = w ∧ EP X pins σ Q r s') pl.isList (by omega) (by rw [List.size_toArray] <;> omega) (by omega) (by rw [hj]; simpa using ew) ⟨rfl, fin⟩) hs
theorem ix_tup : IxR X (rIxT X.K) := by
  intro value slice pins s σ H x y v u Q I rx ry h hs
  obtain ⟨p, xs, i, z, rfl, rfl, hq, he, q⟩ := h
  cases rx
  obtain ⟨t, rfl⟩ := ry
  obtain ⟨its, r, pl, hz⟩ := I.tuple hq
  obtain ⟨j, h1, h2, h3, h4, h5⟩ := atI_get he
  obtain ⟨w, ew, rw'⟩ := r.get h2
  have hl := r.length
  have hn := line63
  have fin : EP X pins σ Q w s := ⟨z, H, I, rw', q⟩
  exact subscriptTail_builtinR (x := w) pl.typeIs slot_tuple_getitem.lookup
    (getItem_tuple (j := j) (Q := fun r s' => r = w ∧ EP X pins σ Q r s') pl (by omega) (by omega) (by rw [List.size_toArray, ← hl]; exact h1) (by simpa using ew) ⟨rfl, fin⟩) hs
theorem ix_str : IxR X rIxS := by
  intro value slice pins s σ H x y v u Q I rx ry h hs
  obtain ⟨z, i, c, rfl, rfl, hz, he, q⟩ := h
  obtain ⟨t, rfl⟩ := rx
  obtain ⟨t', rfl⟩ := ry
  obtain ⟨j, h1, h2, h3, h4, h5⟩ := atI_get he
  have hl : z.cps.toList.length = z.length := by simp [Str.length]
  rw [hl] at h1 h4 h5
  have hn := line63
  exact tail_any (typeIs_str s z t) slot_str_getitem.lookup (getItem_str (c := c) (by
    have e1 : decide (i < -(2 ^ 63 : Int)) = false := decide_eq_false (by omega)
    have e2 : decide (i ≥ 2 ^ 63) = false := decide_eq_false (by omega)
    rw [e1, e2, Bool.or_false]) (by rw [h1]; simpa using h2) ⟨.str ⟨#[c]⟩, H, I.tok _, ⟨_, rfl⟩, q⟩) hs
noncomputable def rIx (K : PySem.W.Frag) : R2 := fun x y H Q => rIxL K x y H Q ∨ rIxT K x y H Q ∨ rIxS x y H Q
theorem ix_seq : IxR X (rIx X.K) := ix_list.or (ix_tup.or ix_str)
theorem Inv.lst {pins : List (Addr × Obj)} {σ : St} {H : Hp} {s : Shared} {p : Addr} {xs : List V} (I : Inv X pins σ H s) (h : H p = some (.lst xs)) :
    ∃ (its : List Value) (n : Nat), Vals xs its ∧ s.heap.get? p = some { cls := .type "list", data := .seq its.toArray n } ∧ xs.length ≤ sizeLine := by
  obtain ⟨z, its, n, r, e⟩ := I.hok p _ h
  exact ⟨its, n, r, e, z⟩
theorem slice_bounds (lo hi : Option Int) (n : Nat) : (sliceBounds lo hi none n).1 = ((HT.sIx n 0 lo : Nat) : Int) ∧ (sliceBounds lo hi none n).2.1 = ((HT.sIx n n hi : Nat) : Int) ∧ (sliceBounds lo hi none n).2.2 = 1 := by
  refine ⟨?_, ?_, rfl⟩
  · cases lo with
    | none => simp [sliceBounds, HT.sIx]
    | some i =>
      simp only [sliceBounds, HT.sIx, Option.getD_none, show (1 : Int) > 0 by decide, if_true]
      by_cases h : i < 0
      · simp only [h, if_true] <;> omega
      · simp only [h, if_false] <;> omega
  · cases hi with
    | none => simp [sliceBounds, HT.sIx]
    | some i =>
      simp only [sliceBounds, HT.sIx, Option.getD_none, show (1 : Int) > 0 by decide, if_true]
      by_cases h : i < 0
      · simp only [h, if_true] <;> omega
      · simp only [h, if_false] <;> omega
theorem slicePick_cut (its : List Value) (lo hi : Option Int) : slicePick its.toArray lo hi none = ((its.drop (HT.sIx its.length 0 lo)).take (HT.sIx its.length its.length hi - HT.sIx its.length 0 lo)).toArray := by
  obtain ⟨h1, h2, h3⟩ := slice_bounds lo hi its.toArray.size
  unfold slicePick
  rw [h1, h2, h3]
  simp only [sliceRange_one, pick_run, List.size_toArray] <;> rfl
noncomputable def rSlL (K : PySem.W.Frag) : V → Option Int → Option Int → Hp → VK → Prop := fun x lo hi H Q => ∃ a xs, x = .ref a ∧ SqL K H a xs ∧ ∀ p, H p = none → Q (.ref p) (upd H p (.lst (cutV xs lo hi)))
theorem sl_list : SlR X (rSlL X.K) := by
  intro pins s σ H x v vl vu lo hi sl Q I rx hs pl pu h
  obtain ⟨a, xs, rfl, hx, q⟩ := h
  cases rx
  obtain ⟨its, r, ht, hz⟩ := I.list hx
  have hlen := r.length
  refine ⟨"list", _, slot_list_getitem.lookup, ht.isList.typeIs, ?_⟩
  refine wpAny_getItem_list_slice ht.isList hs pl pu .none (by simp) ?_ (by rw [List.size_toArray] <;> omega)
  rw [slicePick_cut, ← hlen]
  refine ⟨.ref s.heap.objs.size, _, I.laid (t' := s.toks) (o := .lst (cutV xs lo hi)) (fun b ob q => Heap.get?_push_of_some _ q) (Nat.le_refl _) ?_, rfl, q _ (I.hok.fresh (Nat.le_refl _))⟩
  exact ⟨Nat.le_trans (cutV_length xs lo hi) hz, _, 0, (r.drop (HT.sIx xs.length 0 lo)).take (HT.sIx xs.length xs.length hi - HT.sIx xs.length 0 lo), Heap.get?_push_size _ rfl⟩
noncomputable def flatV : V → Bool
  | .non => true
  | .bl _ => true
  | .int _ => true
  | .str _ => true
  | _ => false
noncomputable def eqV : V → V → Bool
  | .non, .non => true
  | .bl a, .bl b => a == b
  | .bl a, .int b => (if a then 1 else 0) == b
  | .int a, .bl b => a == (if b then 1 else 0)
  | .int a, .int b => a == b
  | .str a, .str b => a == b
  | _, _ => false
theorem eqAt_V {A : Around} {s : Shared} {y x : V} {u v : Value} (ry : RelV y u) (rx : RelV x v) (fy : flatV y = true) (fx : flatV x = true) : SeqAt.EqAt A s u v (eqV y x) := by
  cases y with
  | non =>
    cases ry
    cases x with
    | non => cases rx; exact SeqAt.EqAt.same _
    | bl b => cases rx; exact SeqAt.EqAt.none_bool b
    | int b => obtain ⟨t, rfl⟩ := rx; exact SeqAt.EqAt.none_int b t
    | str b => obtain ⟨t, rfl⟩ := rx; exact SeqAt.EqAt.none_str b t
    | _ => exact absurd (show false = true from fx) Bool.false_ne_true
  | bl a =>
    cases ry
    cases x with
    | non => cases rx; exact SeqAt.EqAt.bool_none a
    | bl b => cases rx; exact SeqAt.EqAt.bool_bool a b
    | int b => obtain ⟨t, rfl⟩ := rx; exact SeqAt.EqAt.bool_int a b t
    | str b => obtain ⟨t, rfl⟩ := rx; exact SeqAt.EqAt.bool_str a b t
    | _ => exact absurd (show false = true from fx) Bool.false_ne_true
  | int a =>
    obtain ⟨t', rfl⟩ := ry
    cases x with
    | non => cases rx; exact SeqAt.EqAt.int_none a t'
    | bl b => cases rx; exact SeqAt.EqAt.int_bool a t' b
    | int b => obtain ⟨t, rfl⟩ := rx; exact SeqAt.EqAt.int_int a t' b t
    | str b => obtain ⟨t, rfl⟩ := rx; exact SeqAt.EqAt.int_str a t' b t
    | _ => exact absurd (show false = true from fx) Bool.false_ne_true
  | str a =>
    obtain ⟨t', rfl⟩ := ry
    cases x with
    | non => cases rx; exact SeqAt.EqAt.str_none a t'
    | bl b => cases rx; exact SeqAt.EqAt.str_bool a t' b
    | int b => obtain ⟨t, rfl⟩ := rx; exact SeqAt.EqAt.str_int a t' b t
    | str b => obtain ⟨t, rfl⟩ := rx; exact SeqAt.EqAt.str_str a t' b t
    | _ => exact absurd (show false = true from fx) Bool.false_ne_true
  | _ => exact absurd (show false = true from fy) Bool.false_ne_true
noncomputable def eqU (x : V) (u : Value) : Bool := match u with
  | .none => eqV .non x
  | .bool b => eqV (.bl b) x
  | .int i _ => eqV (.int i) x
  | .str z _ => eqV (.str z) x
  | _ => false
theorem eqU_of {x y : V} {u : Value} (r : RelV y u) (f : flatV y = true) : eqU x u = eqV y x := by
  cases y with
  | non => cases r; rfl
  | bl b => cases r; rfl
  | int i => obtain ⟨t, rfl⟩ := r; rfl
  | str z => obtain ⟨t, rfl⟩ := r; rfl
  | _ => exact absurd (show false = true from f) Bool.false_ne_true
theorem any_eqU {x : V} : ∀ {xs : List V} {us : List Value}, Vals xs us → xs.all flatV = true → us.any (eqU x) = xs.any fun y => eqV y x
  | _, _, .nil, _ => rfl
  | y :: xs, u :: us, .cons r t, f => by
    rw [List.all_cons, Bool.and_eq_true] at f
    rw [List.any_cons, List.any_cons, eqU_of r f.1, any_eqU t f.2]
theorem mem_eqAt {A : Around} {s : Shared} {x : V} {v : Value} (rx : RelV x v) (fx : flatV x = true) : ∀ {xs : List V} {us : List Value}, Vals xs us → xs.all flatV = true → ∀ u ∈ us, SeqAt.EqAt A s u v (eqU x u)
  | _, _, .nil, _ => fun u hu => by cases hu
  | y :: xs, u :: us, .cons r t, f => fun u' hu => by
    rw [List.all_cons, Bool.and_eq_true] at f
    rcases List.mem_cons.mp hu with rfl | hu
    · rw [eqU_of r f.1]; exact eqAt_V r rx f.1 fx
    · exact mem_eqAt rx fx t f.2 u' hu
noncomputable def inV (x : V) (xs : List V) : Bool := xs.any fun y => eqV y x
noncomputable def rIn (K : PySem.W.Frag) (neg : Bool) : R2 := fun x y H Q => ∃ p xs, y = .ref p ∧ (SqL K H p xs ∨ SqT K H p xs) ∧ flatV x = true ∧ xs.all flatV = true ∧ Q (.bl (if neg then !inV x xs else inV x xs)) H
theorem op_notIn_seq : OpR X (compareOp .NotIn) (rIn X.K true) := by
  intro pins s σ H x y v u Q I rx ry h
  obtain ⟨p, xs, rfl, hq, fx, fs, q⟩ := h
  cases ry
  rcases hq with hq | hq
  · obtain ⟨its, r, pl, hz⟩ := I.list hq
    refine SeqAt.notIn_listAt (eqU x) pl.isList (fun w hw => mem_eqAt rx fx r fs w (by simpa using hw)) ⟨.bl _, H, I, rfl, ?_⟩
    rw [show its.toArray.any (eqU x) = its.any (eqU x) by simp, any_eqU r fs]
    exact q
  · obtain ⟨its, r, pl, hz⟩ := I.tuple hq
    refine SeqAt.notIn_tupleAt (eqU x) pl (fun w hw => mem_eqAt rx fx r fs w (by simpa using hw)) ⟨.bl _, H, I, rfl, ?_⟩
    rw [show its.toArray.any (eqU x) = its.any (eqU x) by simp, any_eqU r fs]
    exact q
theorem op_notIn_str : OpR X (compareOp .NotIn) (fun x y H Q => ∃ i j, x = .str i ∧ y = .str j ∧ Q (.bl (!(!(Builtin.Str.occurrences j i 0 j.length 1).isEmpty))) H) := by
  intro pins s σ H x y v u Q I rx ry h
  obtain ⟨i, j, rfl, rfl, q⟩ := h
  obtain ⟨t, rfl⟩ := rx
  obtain ⟨t', rfl⟩ := ry
  exact notIn_str ⟨.bl _, H, I, rfl, q⟩
theorem call_len_seq : CallR X (.builtin "len") (fun xs H Q => ∃ p ys, xs = [.ref p] ∧ (SqL X.K H p ys ∨ SqT X.K H p ys) ∧ Q (.int ys.length) H) := by
  intro pins s σ H xs us Q I r h
  obtain ⟨p, ys, rfl, hq, q⟩ := h
  obtain ⟨u, rfl, rx⟩ := vals1 r
  cases rx
  have hn := line63
  rcases hq with hq | hq
  · obtain ⟨its, r', pl, hz⟩ := I.list hq
    have hlen := r'.length
    exact Calls.call_len_list pl.isList (by simp only [List.size_toArray] <;> omega) ⟨.int ys.length, H, I.tok _, ⟨s.toks + 1, by rw [List.size_toArray, hlen]⟩, q⟩
  · obtain ⟨its, r', pl, hz⟩ := I.tuple hq
    have hlen := r'.length
    exact len_tuple pl (by simp only [List.size_toArray] <;> omega) ⟨.int ys.length, H, I.tok _, ⟨s.toks + 1, by rw [List.size_toArray, hlen]⟩, q⟩
theorem call_len_str : CallR X (.builtin "len") (fun xs H Q => ∃ z, xs = [.str z] ∧ z.length ≤ sizeLine ∧ Q (.int z.length) H) := by
  intro pins s σ H xs us Q I r h
  obtain ⟨z, rfl, hz, q⟩ := h
  obtain ⟨u, rfl, t, rfl⟩ := vals1 r
  have hn := line63
  exact len_str (by omega) ⟨.int z.length, H, I.tok _, ⟨_, rfl⟩, q⟩
theorem CallR.or {f : Value} {r r' : List V → Hp → VK → Prop} (h : CallR X f r) (h' : CallR X f r') : CallR X f (fun xs H Q => r xs H Q ∨ r' xs H Q) := by
  intro pins s σ H xs us Q I rs q
  rcases q with q | q
  · exact h pins s σ H xs us Q I rs q
  · exact h' pins s σ H xs us Q I rs q
theorem call_list_of : CallR X (.type "list") (fun xs H Q => ∃ p ys, xs = [.ref p] ∧ (SqL X.K H p ys ∨ SqT X.K H p ys) ∧ ∀ l, H l = none → Q (.ref l) (upd H l (.lst ys))) := by
  intro pins s σ H xs us Q I r h
  obtain ⟨p, ys, rfl, hq, q⟩ := h
  obtain ⟨u, rfl, rx⟩ := vals1 r
  cases rx
  have fin : ∀ (its : List Value), Vals ys its → ys.length ≤ sizeLine → ∀ (h' : Heap) (c' : Nat), (∀ b o', s.heap.get? b = some o' → h'.get? b = some o') →
      h'.get? s.heap.objs.size = some { cls := .type "list", dict := none, data := .seq its.toArray c', slots := #[] } → EP X pins σ Q (.ref s.heap.objs.size) { s with heap := h' } := fun its r' hz h' c' kp e =>
    ⟨.ref s.heap.objs.size, _, I.laid (t' := s.toks) kp (Nat.le_refl _) (show ObjOk X.prog X.w _ h' _ (.lst ys) from ⟨hz, its, c', r', e⟩), rfl, q _ (I.hok.fresh (Nat.le_refl _))⟩
  rcases hq with hq | hq
  · obtain ⟨its, r', pl, hz⟩ := I.list hq
    have hlen := r'.length
    obtain ⟨o, ho, hc, n, hd⟩ := pl.isList
    exact call_list_seq p (.inl rfl) ho hc hd (fun h' c' kp e => fin its r' hz h' c' kp e) (by simp only [List.size_toArray] <;> omega)
  · obtain ⟨its, r', pl, hz⟩ := I.tuple hq
    have hlen := r'.length
    obtain ⟨o, ho, hc, n, hd⟩ := pl
    exact call_list_seq p (.inr rfl) ho hc hd (fun h' c' kp e => fin its r' hz h' c' kp e) (by simp only [List.size_toArray] <;> omega)
theorem call_tuple_of : CallR X (.type "tuple") (fun xs H Q => ∃ p ys, xs = [.ref p] ∧ ((SqL X.K H p ys ∧ ∀ l, H l = none → Q (.ref l) (upd H l (.tup ys))) ∨ (SqT X.K H p ys ∧ Q (.ref p) H))) := by
  intro pins s σ H xs us Q I r h
  obtain ⟨p, ys, rfl, h⟩ := h
  obtain ⟨u, rfl, rx⟩ := vals1 r
  cases rx
  rcases h with ⟨hq, q⟩ | ⟨hq, q⟩
  · obtain ⟨its, r', pl, hz⟩ := I.list hq
    have hlen := r'.length
    refine call_tuple_list pl.isList (fun h' kp => ?_) (by simp only [List.size_toArray] <;> omega)
    have I1 : Inv X pins σ H { s with heap := h' } := I.kept (t' := s.toks) kp
    have I2 : Inv X pins σ (upd H h'.objs.size (.tup ys)) { s with heap := h'.push { cls := .type "tuple", data := .seq its.toArray } } :=
      I1.laid (t' := s.toks) (fun b o e => Heap.get?_push_of_some _ e) (Nat.le_refl _) (show ObjOk X.prog X.w _ _ _ (.tup ys) from ⟨hz, its, r', IsTup.new _ _⟩)
    exact ⟨.ref h'.objs.size, _, I2, rfl, q _ (I1.hok.fresh (Nat.le_refl _))⟩
  · obtain ⟨its, r', pl, hz⟩ := I.tuple hq
    exact call_tuple_same pl ⟨.ref p, H, I, rfl, q⟩
noncomputable def tyV (K : PySem.W.Frag) (T : String) (x : V) (H : Hp) : Prop := match x with
  | .str _ => T = "str"
  | .int _ => T = "int"
  | .ref p => (T = "list" ∧ ∃ xs, SqL K H p xs) ∨ (T = "tuple" ∧ ∃ o, K.lookup p = some o ∧ o.cls = .type "tuple" ∧ o.dict = none) ∨
      (T = "dict" ∧ ((∃ kvs, H p = some (.dK kvs)) ∨ ∃ kvs, H p = some (.dT kvs))) ∨ (T = "set" ∧ ∃ S n, H p = some (.set S n))
  | _ => False
theorem tyV_is {pins : List (Addr × Obj)} {σ : St} {H : Hp} {s : Shared} {T : String} {x : V} {v : Value} (I : Inv X pins σ H s) (r : RelV x v) (ty : tyV X.K T x H) :
    s.TypeIs v T ∧ ∀ a, v = .ref a → ∃ ob, s.heap.get? a = some ob ∧ ob.dict = none := by
  cases x with
  | str z =>
    obtain ⟨t, rfl⟩ := r
    cases (show T = "str" from ty)
    exact ⟨typeIs_str s z t, fun _ e => nomatch e⟩
  | int i =>
    obtain ⟨t, rfl⟩ := r
    cases (show T = "int" from ty)
    exact ⟨typeIs_int s i t, fun _ e => nomatch e⟩
  | ref p =>
    cases r
    rcases ty with ⟨rfl, xs, hq⟩ | ⟨rfl, o, hk, hc, hd⟩ | ⟨rfl, hk⟩ | ⟨rfl, S, n, hk⟩
    · obtain ⟨its, _, pl, _⟩ := I.list hq
      refine ⟨pl.isList.typeIs, fun a e => ?_⟩
      cases e
      obtain ⟨o, n, e, c, hd, _⟩ := pl
      exact ⟨o, e, hd⟩
    · refine ⟨⟨o, I.kIn p o hk, hc⟩, fun a e => ?_⟩
      cases e
      exact ⟨o, I.kIn _ o hk, hd⟩
    · have z : ∃ o, s.heap.get? p = some o ∧ o.ExactDict := by
        rcases hk with ⟨kvs, hk⟩ | ⟨kvs, hk⟩
        · obtain ⟨_, _, _, _, o, _, _, e, ex, _⟩ := I.hok p _ hk
          exact ⟨o, e, ex⟩
        · obtain ⟨_, _, _, _, o, _, _, e, ex, _⟩ := I.hok p _ hk
          exact ⟨o, e, ex⟩
      obtain ⟨o, e, ex⟩ := z
      refine ⟨⟨o, e, ex.1⟩, fun a e2 => ?_⟩
      cases e2
      exact ⟨o, e, ex.2.1⟩
    · obtain ⟨o, _, _, _, e, ex, _⟩ := I.hok p _ hk
      refine ⟨⟨o, e, ex.1⟩, fun a e2 => ?_⟩
      cases e2
      exact ⟨o, e, ex.2.1⟩
  | _ => exact False.elim ty
noncomputable def tBM (K : PySem.W.Frag) (T : String) (r : V → List V → Hp → VK → Prop) (to : TE) (t : TA) : TE := fun σ H Q => to σ H fun x H1 => tyV K T x H1 ∧ t σ H1 fun xs H2 => r x xs H2 Q
variable {o e : Expr} {es : List Expr} {to : TE} {t : TA} {name : Str} {apos cpos : Pos} {T id : String} {r : V → List V → Hp → VK → Prop}
theorem pe_bm (pa : PlainAttrs T) (slot : Slot T name id) (hty : typeOf (.builtin id) = pure (.type "method_descriptor")) (hm : MtR X id r) (ho : PE X o to) (ha : PA X (e :: es) t)
    (hbase : attributeBase o name X.env (eval o X.env) = eval o X.env := by rfl)
    (hfew : ((backTo cpos (starEach (e :: es) X.env)).all (fun x => !x.1) && (backToKw cpos (keywordEach [] X.env)).all (fun x => x.1.isSome)
      && decide ((e :: es).length + ([] : List Keyword).length + (if ([] : List Keyword).isEmpty then 0 else 1) < 30)) = true := by rfl)
    (hline : (apos.endLine == cpos.line) = true := by rfl) (hs : starEach (e :: es) X.env = (false, eval e X.env) :: starEach es X.env := by rfl) (hplain : (backTo cpos (starEach es X.env)).any (·.1) = false := by rfl) :
    PE X (.Call (.Attribute o name apos) (e :: es) [] cpos) (tBM X.K T r to t) := by
  intro pins s σ H Q I h
  refine wpAny_Call_method_late hbase hfew hline rfl (thn (ho pins s σ H _ I h) fun v s1 ⟨x, H1, I1, r1, ty, q1⟩ => ?_)
  obtain ⟨h1, h2⟩ := tyV_is I1 r1 ty
  refine ⟨T, id, pa, slot, hty, h1, h2, ?_⟩
  have hA := ha cpos pins s1 σ H1 _ I1 q1
  rw [hs] at hA ⊢
  refine Calls.callWith_builtin (by show (false || (backTo cpos (starEach es X.env)).any (·.1)) = false; rw [hplain] <;> rfl) (Calls.evalArgs_plain ?_)
  exact thn hA fun us s2 ⟨vs, H2, I2, r2, q2⟩ => hm pins s2 σ H2 x vs v us Q I2 r1 r2 q2
end
end L2
namespace L2
open PySem PySem.Spec PyProof.Rows
noncomputable def MtM (X : Cx) (id : String) (r : V → List V → Hp → VK → Prop) : Prop :=
  ∀ (pins : List (Addr × Obj)) (s : Shared) (σ : St) (H : Hp) (x : V) (xs : List V) (v : Value) (us : List Value) (Q : VK), Inv X pins σ H s → RelV x v → Vals xs us → r x xs H Q →
    wpAny (model X.prog X.w) X.A (call (.builtin id) (v :: us)) (EP X pins σ Q) X.xe s
theorem Vals.one : ∀ {x : V} {us : List Value}, Vals [x] us → ∃ u, us = [u] ∧ RelV x u
  | _, _, .cons r .nil => ⟨_, rfl, r⟩
theorem Vals.two : ∀ {x y : V} {us : List Value}, Vals [x, y] us → ∃ u v, us = [u, v] ∧ RelV x u ∧ RelV y v
  | _, _, _, .cons r (.cons q .nil) => ⟨_, _, rfl, r, q⟩
theorem Vals.zero : ∀ {us : List Value}, Vals [] us → us = []
  | _, .nil => rfl
theorem Vals.rep {xs : List V} {us : List Value} (h : Vals xs us) : ∀ k : Nat, Vals (List.replicate k xs).flatten (List.replicate k us).flatten
  | 0 => .nil
  | k + 1 => by
    rw [List.replicate_succ, List.replicate_succ, List.flatten_cons, List.flatten_cons]
    exact Vals.append h (Vals.rep h k)
theorem foldl_rep (its : List Value) : ∀ (k : Nat) (acc : List Value),
    List.foldl (fun x1 x2 => x1 ++ x2) acc.toArray (List.replicate k its.toArray) = (acc ++ (List.replicate k its).flatten).toArray
  | 0, acc => by simp
  | k + 1, acc => by
    have e : acc.toArray ++ its.toArray = (acc ++ its).toArray := by simp
    have e2 : (acc ++ its) ++ (List.replicate k its).flatten = acc ++ (List.replicate (k + 1) its).flatten := by
      rw [List.replicate_succ, List.flatten_cons, List.append_assoc]
    rw [← e2, ← foldl_rep its k (acc ++ its), ← e, List.replicate_succ, List.foldl_cons]
section
variable {X : Cx} {pins : List (Addr × Obj)} {σ : St} {H : Hp} {s : Shared} {l b : Addr} {xs ys zs : List V}
theorem Inv.lset {its its' : List Value} {n : Nat} {f : Array Value → Array Value} {t' : Nat} (I : Inv X pins σ H s) (hH : H l = some (.lst xs))
    (e : s.heap.get? l = some { cls := .type "list", data := .seq its.toArray n }) (hf : f its.toArray = its'.toArray) (hv : Vals ys its') (hz : ys.length ≤ sizeLine) :
    Inv X pins σ (upd H l (.lst ys)) { s with heap := s.heap.update l (Obj.mapSeq f), toks := t' } := by
  have q := PySem.IsL.update e f
  rw [hf] at q
  refine I.write (x := l) (e := l) (by rw [hH]; exact trivial) (.inl rfl) (fun b' u hb hu => (Heap.get?_update_other s.heap (Obj.mapSeq f) (Ne.symm hb)).trans hu) ⟨_, q⟩ ?_
  exact ⟨hz, its', _, hv, q⟩
theorem Inv.lnew {its : List Value} {t' : Nat} (I : Inv X pins σ H s) (hv : Vals ys its) (hz : ys.length ≤ sizeLine) :
    Inv X pins σ (upd H s.heap.objs.size (.lst ys)) { s with heap := s.heap.push { cls := .type "list", data := .seq its.toArray }, toks := t' } :=
  I.laid (fun _ _ q => Heap.get?_push_of_some _ q) (Nat.le_refl _) ⟨hz, its, 0, hv, Heap.get?_push_size _ rfl⟩
theorem Inv.fresh (I : Inv X pins σ H s) : H s.heap.objs.size = none := I.hok.fresh (Nat.le_refl _)
theorem Inv.lstM (I : Inv X pins σ H s) (hH : H l = some (.lst xs)) : xs.length ≤ sizeLine ∧ ∃ (its : List Value) (n : Nat), Vals xs its ∧ xs.length = its.length ∧ s.heap.get? l = some { cls := .type "list", data := .seq its.toArray n } := by
  obtain ⟨z, its, n, r, e⟩ := I.hok l _ hH
  exact ⟨z, its, n, r, r.length, e⟩
theorem notLongL {n : Nat} (h : n ≤ sizeLine) : Builtin.List.listTooLong n = false := by
  unfold Builtin.List.listTooLong
  exact decide_eq_false (by omega)
end
section
variable {X : Cx}
noncomputable def rAppend : V → List V → Hp → VK → Prop := fun x vs H Q => ∃ l xs y, x = .ref l ∧ vs = [y] ∧ H l = some (.lst xs) ∧ xs.length < sizeLine ∧ Q .non (upd H l (.lst (xs ++ [y])))
theorem mt_append : MtM X "list.append" rAppend := by
  intro pins s σ H x vs v us Q I rx rv h
  obtain ⟨l, xs, y, rfl, rfl, hH, hz, q⟩ := h
  cases rx
  obtain ⟨u, rfl, ru⟩ := rv.one
  obtain ⟨z, its, n, r, hl, e⟩ := I.lstM hH
  refine call_meets F.slot_list_append ⟨_, e, rfl⟩ F.entry_list_append (F.args_list_append_2 _ _) (PySem.list_append l its.toArray n u (by rw [List.size_toArray]; omega)) ⟨e, ?_⟩
  refine ⟨.non, _, I.lset (its' := its ++ [u]) hH e (by simp) (r.append (.cons ru .nil)) ?_, rfl, q⟩
  rw [List.length_append, List.length_singleton]
  omega
noncomputable def rCat : R2 := fun x y H Q => ∃ l b xs zs, x = .ref l ∧ y = .ref b ∧ H l = some (.lst xs) ∧ H b = some (.lst zs) ∧ xs.length + zs.length ≤ sizeLine ∧ ∀ p, H p = none → Q (.ref p) (upd H p (.lst (xs ++ zs)))
theorem op_cat : OpR X (binaryOp .Add) rCat := by
  intro pins s σ H x y v u Q I rx ry h
  obtain ⟨l, b, xs, zs, rfl, rfl, hH, hB, hz, q⟩ := h
  cases rx
  cases ry
  obtain ⟨z, its, n, r, hl, e⟩ := I.lstM hH
  obtain ⟨z2, its2, n2, r2, hl2, e2⟩ := I.lstM hB
  refine PySem.P.add_list e e2 ?_ (by rw [List.size_toArray, List.size_toArray]; omega)
  have ea : its.toArray ++ its2.toArray = (its ++ its2).toArray := by simp
  rw [ea]
  exact ⟨.ref _, _, I.lnew (t' := s.toks) (r.append r2) (by rw [List.length_append]; omega), rfl, q _ I.fresh⟩
noncomputable def rRep : R2 := fun x y H Q => ∃ l k xs, x = .ref l ∧ y = .int k ∧ H l = some (.lst xs) ∧ -(2 ^ 63) ≤ k ∧ k < 2 ^ 63 ∧ xs.length * k.toNat ≤ sizeLine ∧
  ∀ p, H p = none → Q (.ref p) (upd H p (.lst (List.replicate k.toNat xs).flatten))
theorem len_rep {α : Type} (xs : List α) (k : Nat) : (List.replicate k xs).flatten.length = k * xs.length := by
  induction k with
  | zero => simp
  | succ k ih => rw [List.replicate_succ, List.flatten_cons, List.length_append, ih, Nat.succ_mul, Nat.add_comm]
theorem op_rep : OpR X (binaryOp .Mult) rRep := by
  intro pins s σ H x y v u Q I rx ry h
  obtain ⟨l, k, xs, rfl, rfl, hH, h1, h2, hz, q⟩ := h
  cases rx
  obtain ⟨t, rfl⟩ := ry
  obtain ⟨z, its, n, r, hl, e⟩ := I.lstM hH
  have hlen : its.toArray.size * k.toNat ≤ sizeLine := by rw [List.size_toArray, ← hl]; exact hz
  have hcap : ¬ its.toArray.size * k.toNat > (2 ^ 63 - 1) / 8 := by
    have : (sizeLine : Nat) ≤ (2 ^ 63 - 1) / 8 := by decide
    omega
  have hfit : ¬ (!Builtin.List.listFitsIndex k) = true := by
    rw [fitsIndex_both h1 h2]
    exact Bool.false_ne_true
  have hlong : ¬ Builtin.List.listTooLong (its.toArray.size * k.toNat) = true := by
    rw [notLongL hlen]
    exact Bool.false_ne_true
  have hnew : List.foldl (fun x1 x2 => x1 ++ x2) #[] (List.replicate (if its.toArray.isEmpty = true then 0 else k.toNat) its.toArray) = (List.replicate k.toNat its).flatten.toArray := by
    have f0 : ∀ m : Nat, List.foldl (fun x1 x2 => x1 ++ x2) #[] (List.replicate m its.toArray) = (List.replicate m its).flatten.toArray := fun m => by
      have := foldl_rep its m []
      rw [List.nil_append] at this
      exact this
    rw [f0]
    cases its with
    | nil => simp
    | cons a r' => rw [if_neg (by simp)]
  refine wpAny_binaryOp_repeat_ref (T := "list") (U := "int") (by decide) ⟨_, e, rfl⟩ (fun s' => typeIs_int s' k t) noFill_list_mul F.fills_int_mul F.slot_int_rmul repeat_list F.slot_int_index.lookup
    (call_meets F.slot_int_rmul (typeIs_int s k t) F.entry_int_rmul (F.args_int_rmul_2 _ _) (int___rmul___int_list k t l its.toArray n)
      ⟨e, rfl, ⟨_, e, rfl⟩, call_meets F.slot_list_mul ⟨_, e, rfl⟩ F.entry_list_mul (F.args_list_mul_2 _ _) (AutoListH.list___mul___list_int_3 l its.toArray n k t hfit hcap hlong) ⟨e, ?_⟩⟩)
  rw [hnew]
  exact ⟨.ref _, _, I.lnew (t' := s.toks) (r.rep k.toNat) (by rw [len_rep, Nat.mul_comm]; exact hz), rfl, q _ I.fresh⟩
end
end L2
namespace Att
open PySem PySem.W PySem.Calls PyProof.Rows
theorem ints_of_wellAll {P : Params} {h : Heap} : ∀ (ns : List Int) (vs : List Value), WellAll P h vs (ns.map WData.int) → IntsAre vs ns := by
  intro ns
  induction ns with
  | nil =>
    intro vs w
    rw [List.map_nil] at w
    cases w
    exact .nil
  | cons n ns ih =>
    intro vs w
    rw [List.map_cons] at w
    cases w with
    | cons a b =>
      cases a
      exact .cons _ _ (ih _ b)
theorem script_of {l : OpenLaw} {n : Nat} (hn : l.most = some n) {P : Params} {h : Heap} {args : List WData} {vals : List Value}
    (hpre : l.row.toRowW.claim.pre args = true) (hwl : WellAll P h vals args) :
    ∃ a vs ns, vals = [Value.ref a] ∧ args = [WData.list (ns.map WData.int)] ∧ h.get? a = some { cls := .type "list", data := .seq vs.toArray } ∧ IntsAre vs ns ∧ ns.length ≤ n := by
  have hsh : WShape.hasAll [] args [.list .int] = true := (pre_splitW hpre).1
  have hc : l.pre.holds [] { args := args } = true := (pre_splitW hpre).2
  obtain ⟨d, r, rfl, h1, h2⟩ := hasAllW_cons hsh
  obtain rfl := hasAllW_nil h2
  obtain ⟨xs, rfl, h3⟩ := hasW_list h1
  obtain ⟨ns, rfl⟩ := items_int h3
  have hlen : ns.length ≤ n := by
    unfold OpenLaw.pre at hc
    have h4 : (WTm.not (.lt (.lit (.int (n : Int))) (.len (.arg 0)))).holds [] { args := [.list (ns.map .int)] } = true := by
      have h4 := (holds_andW hc).1
      rw [hn] at h4
      exact h4
    have h5 := condW_of h4 (w_not (w_lt w_lit (w_len_list (w_arg rfl))))
    rw [List.length_map] at h5
    refine Nat.le_of_not_lt fun q => ?_
    have q' : (n : Int) < ((ns.length : Nat) : Int) := by omega
    first
      | (rw [decide_eq_true q'] at h5; exact absurd h5 (by decide))
      | (simp at h5; omega)
  cases hwl with
  | cons w1 w2 =>
    cases w2
    cases w1 with
    | list ho hall => exact ⟨_, _, ns, rfl, rfl, ho, ints_of_wellAll ns _ hall, hlen⟩
theorem post_true (l : OpenLaw) (args : List WData) : l.row.toRowW.claim.post args (.bool true) args = true :=
  postW_of (r := l.row.toRowW) (X := (true == true))
    (show WShape.has [] (.bool true) .bool = true by first | rfl | decide | simp [WShape.has, WShape.arms, WShape.armsAll])
    (show (WTm.eq .res (.lit (.bool true))).value [] { args := args, res := some (.bool true), after := args } = some (.bool (true == true)) from w_eq_bool (w_res rfl) w_lit) rfl
theorem attach_call {l : OpenLaw} {n : Nat} {q : Program} {loose : List Str} {XP : (Str → Option Value) → Heap → Prop} {YP : World → Heap → Prop} {d : DefRec}
    (hn : l.most = some n) (hdf : d.params.defaults = [])
    (call : ∀ (w : World) (s₀ s₁ : Shared) (mg mb : Str → Option Value) (fa : Addr) (o : Obj) (pm cd doc : Value) (a : Addr) (vs : List Value) (ns : List Int),
      Ground q loose [] XP w s₀ mg mb s₁.heap → YP w s₁.heap →
      s₁.heap.get? fa = some o → o.data = .func (docDef d.name d.params d.body d.scope pm cd doc) → s₁.heap.CodeRec cd d.name → mg d.name = some (.ref fa) →
      s₁.heap.get? a = some { cls := .type "list", data := .seq vs.toArray } → IntsAre vs ns → ns.length ≤ n → s₁.gens = #[] →
      codeAny (model l.prog w) callerA (.call (.ref fa) ⟨[.ref a], []⟩) (fun r s' => r = .ok (.ret (.bool true)) ∧ OldK s₁.heap s'.heap ∧ s'.os = s₁.os ∧ AllBare s'.gens) s₁) :
    WalkO q loose XP YP l.row.toRowW d [] (fun f vs => PySem.call f vs) := by
  intro w s₀ s₁ mg mb G Y fa o pm cd doc dV kV ho hd hcd hD hmg hg args vals as hpre hlay hrd hwl hlo
  obtain rfl : dV = .none := Dflts.none hD hdf
  obtain rfl : kV = .none := Dflts.noKw hD
  obtain ⟨a, vs, ns, rfl, rfl, hobj, hints, hlen⟩ := script_of hn hpre hwl
  refine enter_call (codeAny_mono (call w s₀ s₁ mg mb fa o pm cd doc a vs ns G Y ho (fd_plain hd) hcd hmg hobj hints hlen hg) fun r s' hq => ?_)
  obtain ⟨rfl, h2, h3, h4⟩ := hq
  exact ⟨.inl ⟨.bool true, .bool true, [], rfl, fun _ => rfl, .bool true, post_true l _, fun _ => ⟨List.Pairwise.nil, fun _ hm => (nomatch hm)⟩⟩, h2, h3, h4⟩
end Att
namespace L2
open PySem PySem.Spec PyProof.Rows
theorem vals_ints : ∀ {vs : List Value} {ns : List Int}, IntsAre vs ns → Vals (ns.map V.int) vs
  | _, _, .nil => .nil
  | _, _, .cons n t h => .cons ⟨t, rfl⟩ (vals_ints h)
noncomputable def Only (H : Hp) : Prop := ∀ b, H b = none ∨ ∃ o xs, H b = some (.frz o (.lst xs))
theorem law_call {P : Program} {w : World} {K : PySem.W.Frag} {mg mb : Str → Option Value} {CX : CXT} {k : Nat} {fa a : Addr} {fd : FuncData} {x : Str} {sp : Sp} {s₁ : Shared} {vs : List Value} {ns : List Int}
    (KX : K.In s₁.heap) (hns : s₁.heap.Ns mainGlobals mg) (hb : s₁.heap.Ns builtinsNs mb) (hbb : ∀ x : Str, x ≠ "__name__" → mb x = bootBuiltins x) (hlim : s₁.heap.NoLimit) (hg : s₁.gens = #[])
    (ha : s₁.heap.get? a = some { cls := .type "list", data := .seq vs.toArray }) (hi : IntsAre vs ns) (hl : ns.length ≤ sizeLine) (hr : Room k callerA)
    (F : ∀ base : Heap, K.In base → base.Ns mainGlobals mg → FnOk P w K mg base CX k fa fd [x] sp) (hbind : ∀ (s : Shared) (u : Value), BindsTo s fd ⟨[u], []⟩ [(x, u)])
    (hsp : ∀ H : Hp, Only H → SqL K H a (ns.map V.int) → sp [.ref a] H (fun v _ => v = .bl true) fun _ _ _ => False)
    (hCX : ∀ H e s', CX [] H s₁ (fun _ _ _ => False) e s' → False) :
    codeAny (model P w) callerA (.call (.ref fa) ⟨[.ref a], []⟩) (fun r s' => r = .ok (.ret (.bool true)) ∧ OldK s₁.heap s'.heap ∧ s'.os = s₁.os ∧ AllBare s'.gens) s₁ := by
  have rv := vals_ints hi
  have lenV := hi.length
  -- from an abstract heap in which nothing but the script may be tracked
  have core : ∀ H : Hp, Only H → SqL K H a (ns.map V.int) → HOk P w H s₁.heap → (∀ b, H b ≠ none → b = a) → (H a ≠ none → K.lookup a = none) →
      codeAny (model P w) callerA (.call (.ref fa) ⟨[.ref a], []⟩) (fun r s' => r = .ok (.ret (.bool true)) ∧ OldK s₁.heap s'.heap ∧ s'.os = s₁.os ∧ AllBare s'.gens) s₁ := by
    intro H hO hS hok hA hK
    have base_of : ∀ {b : Addr} {o : Obj}, s₁.heap.get? b = some o → H b = none → (hidT s₁.heap H).get? b = some o := fun e n => hidT_get e n
    have noA : ∀ {b : Addr} {o : Obj} {es : Array DictEntry} {ep : Nat}, s₁.heap.get? b = some o → o.data = .dict es ep → H b = none := fun {b o es ep} e d => by
      cases q : H b with
      | none => rfl
      | some u =>
        have e' : b = a := hA b (by rw [q]; simp)
        subst e'
        rw [ha] at e; cases e
        have d' : Data.seq vs.toArray _ = Data.dict es ep := d
        cases d'
    have nsK : ∀ {b : Addr} {m : Str → Option Value}, s₁.heap.Ns b m → (hidT s₁.heap H).Ns b m := fun {b m} ⟨o, es, ep, e, d, r⟩ => ⟨o, es, ep, base_of e (noA e d), d, r⟩
    have hKb : K.In (hidT s₁.heap H) := fun b o e => base_of (KX b o e) (by
      cases q : H b with
      | none => rfl
      | some u =>
        have e' : b = a := hA b (by rw [q]; simp)
        subst e'
        rw [hK (by rw [q]; simp)] at e; cases e)
    have hM : Mod K mg (hidT s₁.heap H) := ⟨hKb, nsK hns, ⟨mb, nsK hb, hbb⟩, let ⟨mc, h1, h2⟩ := hlim; ⟨mc, nsK h1, h2⟩⟩
    have e0 : Env0 P w K mg (hidT s₁.heap H) callerA [] s₁ H := ⟨rfl, hM, fun b o e => of_hidT e, Nat.le_of_eq (hidT_size _ _), trivial, fun b hb => absurd (show b ∈ ([] : List Addr) from hb) (by simp), hok, .of_eq hg⟩
    refine codeAny_mono ((F _ hKb (nsK hns)).run callerA [] s₁ H ⟨[.ref a], []⟩ [.ref a] [.ref a] _ _ hr e0 (hbind s₁ (.ref a)) (.cons rfl .nil) (hsp H hO hS)) fun r s' h => ?_
    cases r with
    | error e => exact (hCX H e s' h).elim
    | ok fl =>
      cases fl with
      | next => exact False.elim h
      | brk => exact False.elim h
      | cont => exact False.elim h
      | ret u =>
        obtain ⟨v, H', os, bare, un, hok', r', q⟩ := h
        have q' : v = .bl true := q
        subst q'
        obtain rfl : u = Value.bool true := r'
        refine ⟨rfl, OldK.of_keep fun b o e => ?_, os, bare⟩
        cases q : H b with
        | none => exact un.keep b o e q (by intro z; exact absurd (show b ∈ ([] : List Addr) from z) (by simp)) (by simp)
        | some u =>
          rcases hO b with z | ⟨ob, xs, z⟩
          · rw [q] at z; cases z
          · have z2 := un.frzs b ob _ z
            obtain ⟨e1, _⟩ := hok b _ z
            obtain ⟨e2, _⟩ := hok' b _ z2
            rw [e] at e1; cases e1
            exact e2
  cases hk : K.lookup a with
  | some o =>
    -- the script is one of the module's own objects
    have e := KX a o hk
    rw [ha] at e
    cases e
    refine core (fun _ => none) (fun _ => .inl rfl) (.inr ⟨_, vs.toArray, _, hk, rfl, rfl, rfl, by rw [List.size_toArray, lenV]; exact hl, by simpa using rv⟩) (fun b u z => by have z' : (none : Option HO) = some u := z; cases z') (fun b z => absurd rfl z) fun z => absurd rfl z
  | none =>
    refine core (fun b => if b = a then some (.frz { cls := .type "list", data := .seq vs.toArray } (.lst (ns.map V.int))) else none) (fun b => ?_) (.inl (.inr ⟨{ cls := .type "list", data := .seq vs.toArray }, if_pos rfl⟩)) (fun b u z => ?_) (fun b z => ?_) fun _ => hk
    · by_cases hb : b = a
      · exact .inr ⟨_, _, if_pos hb⟩
      · exact .inl (if_neg hb)
    · by_cases hb : b = a
      · have z' := (if_pos hb).symm.trans z
        cases z'
        subst hb
        exact ⟨ha, by rw [List.length_map]; exact hl, vs, _, rv, ha⟩
      · have z' := (if_neg hb).symm.trans z
        cases z'
    · by_cases hb : b = a
      · exact hb
      · exact absurd (if_neg hb) z
end L2
namespace L2
open PySem PySem.Spec PyProof.Rows
theorem walk_of {l : PySem.W.OpenLaw} {n k : Nat} {q : Program} {loose : List Str} {XP : (Str → Option Value) → Heap → Prop} {YP : World → Heap → Prop} {d : DefRec} {K : Params → PySem.W.Frag} {CX : World → CXT} {sp : World → Sp} {x : Str}
    (hn : l.most = some n) (hn2 : n ≤ sizeLine) (hdf : d.params.defaults = []) (hr : Room k callerA)
    (hY : ∀ (w : World) (h : Heap), YP w h → (K w.params).In h)
    (F : ∀ (w : World) (mg : Str → Option Value) (fa : Addr) (h : Heap), (K w.params).In h → h.Ns mainGlobals mg → mg d.name = some (.ref fa) →
      ∃ fd : FuncData, (∀ (s : Shared) (u : Value), BindsTo s fd ⟨[u], []⟩ [(x, u)]) ∧
        ∀ base : Heap, (K w.params).In base → base.Ns mainGlobals mg → FnOk l.prog w (K w.params) mg base (CX w) k fa fd [x] (sp w))
    (hsp : ∀ (w : World) (H : Hp) (a : Addr) (ns : List Int), ns.length ≤ n → Only H → SqL (K w.params) H a (ns.map V.int) → sp w [.ref a] H (fun v _ => v = .bl true) fun _ _ _ => False)
    (hCX : ∀ (w : World) (H : Hp) (s : Shared) (e : Value) (s' : Shared), CX w [] H s (fun _ _ _ => False) e s' → False) :
    PySem.W.WalkO q loose XP YP l.row.toRowW d [] (fun f vs => PySem.call f vs) := by
  refine Att.attach_call hn hdf fun w s₀ s₁ mg mb fa o pm cd doc a vs ns G Y ho hd hcd hmg hobj hints hlen hg => ?_
  have KX := hY w _ Y
  obtain ⟨fd, hb, hF⟩ := F w mg fa _ KX G.T.g hmg
  exact law_call KX G.T.g G.T.b G.T.builtins G.T.nolimit hg hobj hints (Nat.le_trans hlen hn2) hr hF hb (fun H hO hS => hsp w H a ns hlen hO hS) fun H e s' => hCX w H s₁ e s'
end L2
namespace L2
open PySem PySem.Spec PyProof.Rows
noncomputable def defArgs (s : Stmt) : Arguments := match s with
  | .FunctionDef _ a _ _ _ _ _ _ _ _ => a
  | _ => { posonlyargs := [], args := [], vararg := none, kwonlyargs := [], kw_defaults := [], kwarg := none, defaults := [] }
noncomputable def defBody (s : Stmt) : List Stmt := match s with
  | .FunctionDef _ _ b _ _ _ _ _ _ _ => b
  | _ => []
noncomputable def defScope (s : Stmt) : Scope := match s with
  | .FunctionDef _ _ _ _ _ _ sc _ _ _ => sc
  | _ => { kind := .function, names := [], isGenerator := false, isCoroutine := false }
noncomputable abbrev CX0 : CXT := fun _ _ _ _ _ _ => False
noncomputable abbrev E0 : XK := fun _ _ _ => False
theorem pass0 {X : Cx} : Passes CX0 X E0 := fun _ _ _ _ _ _ _ h => h.elim
structure Fun (K : PySem.W.Frag) (x qual : Str) (st : Stmt) (f : Addr) (fd : FuncData) : Prop where
  ex : ∃ (oc : Value) (od : Option Addr) (kV doc pm : Value) (an : Option Addr) (cdv ct : Value) (osl : Array (Option Value)),
    fd = PySem.W.fnOf x qual (defArgs st) (defBody st) (defScope st) .none kV doc pm an cdv ct ∧ K.lookup f = some ⟨oc, od, .func fd, osl⟩ ∧ PySem.W.codeIn K cdv qual = true
  kp : PySem.W.keepIn K (.ref f) = true
section
variable {P : Program} {w : World} {K : PySem.W.Frag} {mg : Str → Option Value} {base : Heap}
theorem Fun.ok {x qual : Str} {st : Stmt} {f : Addr} {fd : FuncData} {N ps : List Str} {k : Nat} {sp : Sp} (F : Fun K x qual st f fd) (S : FnScope N ps (defScope st)) (len : ∀ vs H Q E, sp vs H Q E → vs.length = ps.length)
    (hbody : ∀ (cdv : Value) (A : Around) (outer : List Env) (s : Shared) (H : Hp) (vs : List V) (Q : VK) (E : XK), Room k (A.deeper (envOfC qual (defScope st) s.heap.objs.size f cdv)) → sp vs H Q E →
      ∃ t, PSs (cxOf CX0 P w K mg base N qual (defScope st) f cdv A outer s H E).nox (defBody st) t ∧ t { nx := fun _ H' => Q .non H', rt := Q } (start N vs) H) : FnOk P w K mg base CX0 (k + 1) f fd ps sp := by
  obtain ⟨oc, od, kV, doc, pm, an, cdv, ct, osl, rfl, lk, hcd⟩ := F.ex
  refine fn_of lk hcd S len fun A outer s H vs Q E hr hsp => ?_
  obtain ⟨t, h, q⟩ := hbody cdv A outer s H vs Q E hr hsp
  exact ⟨t, h.nox, q⟩
theorem Fun.binds {x qual : Str} {st : Stmt} {f : Addr} {fd : FuncData} {ps : List Str} (F : Fun K x qual st f fd)
    (h : ∀ (kV doc pm : Value) (an : Option Addr) (cdv ct : Value) (us : List Value), us.length = ps.length → bindArgs (PySem.W.fnOf x qual (defArgs st) (defBody st) (defScope st) .none kV doc pm an cdv ct) ⟨us, []⟩ = pure (ps.zip us)) : Binds K fd ps [] := by
  obtain ⟨oc, od, kV, doc, pm, an, cdv, ct, osl, rfl, lk, hcd⟩ := F.ex
  exact .all (h kV doc pm an cdv ct)
theorem fun_mk {x qual : Str} {st : Stmt} {f : Addr} {oc : Value} {od an : Option Addr} {osl : Array (Option Value)} {kV doc pm cdv ct : Value} (l : K.lookup f = some ⟨oc, od, .func (PySem.W.fnOf x qual (defArgs st) (defBody st) (defScope st) .none kV doc pm an cdv ct), osl⟩)
    (c : PySem.W.codeIn K cdv qual = true) (k : PySem.W.keepIn K (.ref f) = true) : Fun K x qual st f (PySem.W.fnOf x qual (defArgs st) (defBody st) (defScope st) .none kV doc pm an cdv ct) := ⟨⟨oc, od, kV, doc, pm, an, cdv, ct, osl, rfl, l, c⟩, k⟩
end
theorem iteF {A B : Prop} (h : B) : if false = true then A else B := by
  rw [if_neg Bool.false_ne_true]
  exact h
theorem iteT {A B : Prop} (h : A) : if true = true then A else B := by
  rw [if_pos rfl]
  exact h
noncomputable def Same (H H' : Hp) : Prop := ∀ b o, H b = some o → H' b = some o
theorem Same.refl (H : Hp) : Same H H := fun _ _ h => h
theorem Same.trans {H H1 H2 : Hp} (a : Same H H1) (b : Same H1 H2) : Same H H2 := fun c o h => b c o (a c o h)
theorem Same.free {H H' : Hp} (e : Same H H') {l : Addr} (h : H' l = Option.none) : H l = Option.none := by
  cases q : H l with
  | none => rfl
  | some o =>
    rw [e l o q] at h
    cases h
theorem Same.seq {K : PySem.W.Frag} {H H' : Hp} {a : Addr} {xs : List V} (e : Same H H') (h : SqL K H a xs) : SqL K H' a xs := by
  rcases h with (h | ⟨o, h⟩) | h
  · exact .inl (.inl (e _ _ h))
  · exact .inl (.inr ⟨o, e _ _ h⟩)
  · exact .inr h
end L2
namespace L2
open PySem PySem.Spec PyProof.Rows
section
variable {κ : Type} [DecidableEq κ]
noncomputable def valV (kvs : List (κ × V)) (k : κ) : Option V := (kvs.find? fun kv => decide (kv.1 = k)).map (·.2)
noncomputable def putK (kvs : List (κ × V)) (k : κ) (v : V) : List (κ × V) :=
  if (kvs.any fun kv => decide (kv.1 = k)) = true then kvs.map (fun kv => if kv.1 = k then (kv.1, v) else kv) else kvs ++ [(k, v)]
noncomputable def dropK (kvs : List (κ × V)) (k : κ) : List (κ × V) := kvs.filter fun kv => decide (kv.1 ≠ k)
theorem valV_pos {p : κ × V} {r : List (κ × V)} {k : κ} (e : p.1 = k) : valV (p :: r) k = some p.2 := by simp [valV, List.find?_cons, e]
theorem valV_neg {p : κ × V} {r : List (κ × V)} {k : κ} (e : ¬ p.1 = k) : valV (p :: r) k = valV r k := by simp [valV, List.find?_cons, e]
theorem valV_any (k : κ) : ∀ kvs : List (κ × V), (kvs.any fun kv => decide (kv.1 = k)) = (valV kvs k).isSome
  | [] => rfl
  | p :: r => by
    rw [List.any_cons]
    by_cases e : p.1 = k
    · simp only [valV_pos e, decide_eq_true e, Bool.true_or, Option.isSome_some]
    · rw [valV_neg e, decide_eq_false e, Bool.false_or]; exact valV_any k r
theorem RelO.isSome_eq {o : Option V} {u : Option Value} (r : RelO o u) : o.isSome = u.isSome := by
  cases o with
  | none => cases u with
    | none => rfl
    | some _ => exact (show False from r).elim
  | some _ => cases u with
    | none => exact (show False from r).elim
    | some _ => rfl
theorem RelO.getD {o : Option V} {u : Option Value} {d : V} {d' : Value} (r : RelO o u) (rd : RelV d d') : RelV (o.getD d) (u.getD d') := by
  cases o with
  | none => cases u with
    | none => exact rd
    | some _ => exact (show False from r).elim
  | some _ => cases u with
    | none => exact (show False from r).elim
    | some _ => exact r
theorem KV.val {kvs : List (κ × V)} {vs : List (κ × Value)} (r : KV kvs vs) (k : κ) : RelO (valV kvs k) (valueAt vs k) := by
  unfold KV at r
  induction r with
  | nil => exact True.intro
  | @cons p q ps qs h t ih =>
    obtain ⟨h1, h2⟩ := h
    by_cases e : p.1 = k
    · have e' : q.1 = k := h1.symm.trans e
      have b : valueAt (q :: qs) k = some q.2 := by simp [valueAt, List.find?_cons, e']
      rw [valV_pos e, b]; exact h2
    · have e' : ¬ q.1 = k := fun z => e (h1.trans z)
      have b : valueAt (q :: qs) k = valueAt qs k := by simp [valueAt, List.find?_cons, e']
      rw [valV_neg e, b]; exact ih
theorem KV.any {kvs : List (κ × V)} {vs : List (κ × Value)} (r : KV kvs vs) (k : κ) : (kvs.any fun kv => decide (kv.1 = k)) = vs.any fun kv => decide (kv.1 = k) := by
  unfold KV at r
  induction r with
  | nil => rfl
  | cons h t ih => rw [List.any_cons, List.any_cons, ih, h.1]
theorem KV.repl {kvs : List (κ × V)} {vs : List (κ × Value)} (r : KV kvs vs) (k : κ) {y : V} {u : Value} (ry : RelV y u) :
    KV (kvs.map fun kv => if kv.1 = k then (kv.1, y) else kv) (vs.map fun kv => if kv.1 = k then (kv.1, u) else kv) := by
  unfold KV at r ⊢
  induction r with
  | nil => exact .nil
  | @cons p q ps qs h t ih =>
    rw [List.map_cons, List.map_cons]
    refine .cons ?_ ih
    obtain ⟨h1, h2⟩ := h
    by_cases e : p.1 = k
    · rw [if_pos e, if_pos (h1.symm.trans e)]; exact ⟨h1, ry⟩
    · rw [if_neg e, if_neg (fun z => e (h1.trans z))]; exact ⟨h1, h2⟩
theorem KV.put {kvs : List (κ × V)} {vs : List (κ × Value)} (r : KV kvs vs) (k : κ) {y : V} {u : Value} (ry : RelV y u) : KV (putK kvs k y) (stored vs k u) := by
  unfold putK stored
  rw [r.any k]
  by_cases e : (vs.any fun kv => decide (kv.1 = k)) = true
  · rw [if_pos e, if_pos e]; exact r.repl k ry
  · rw [if_neg e, if_neg e]; exact Paired.snoc r ⟨rfl, ry⟩
theorem KV.drop {kvs : List (κ × V)} {vs : List (κ × Value)} (r : KV kvs vs) (k : κ) : KV (dropK kvs k) (without vs k) := by
  unfold KV at r ⊢
  unfold dropK without
  induction r with
  | nil => exact .nil
  | @cons p q ps qs h t ih =>
    obtain ⟨h1, h2⟩ := h
    rw [List.filter_cons, List.filter_cons]
    by_cases e : p.1 = k
    · have a : ¬ decide (p.1 ≠ k) = true := by simp [e]
      have b : ¬ decide (q.1 ≠ k) = true := by simp [h1.symm.trans e]
      rw [if_neg a, if_neg b]; exact ih
    · have e' : ¬ q.1 = k := fun z => e (h1.trans z)
      have a : decide (p.1 ≠ k) = true := by simp [e]
      have b : decide (q.1 ≠ k) = true := by simp [e']
      rw [if_pos a, if_pos b]; exact .cons ⟨h1, h2⟩ ih
theorem KV.length {kvs : List (κ × V)} {vs : List (κ × Value)} (r : KV kvs vs) : kvs.length = vs.length := Paired.length r
end
theorem kV_is {P : Program} {w : World} {k : Key} {u : Value} (r : RelV (kV k) u) : (mixKind P w).is k u = true := by
  cases k with
  | inl i => obtain ⟨t, e⟩ := (show ∃ t, u = Value.int i t from r); subst e; exact mixKind_int P w i t
  | inr x => obtain ⟨t, e⟩ := (show ∃ t, u = Value.str x t from r); subst e; exact mixKind_str P w x t
theorem items_are {P : Program} {w : World} : ∀ {ks : List Key} {us : List Value}, Vals (ks.map kV) us → ItemsAre (mixKind P w) ks us
  | [], _, r => by rw [List.map_nil] at r; cases r; exact .nil
  | k :: ks, _, r => by
    rw [List.map_cons] at r
    cases r with
    | cons h t => exact .cons (kV_is h) (items_are t)
noncomputable abbrev KT (H : Hp) : List (List Key × V) → List (List Key × Addr × Value) → Prop := Paired fun p q => p.1 = q.1 ∧ H q.2.1 = some (.tup (p.1.map kV)) ∧ RelV p.2 q.2.2
theorem KT.val {H : Hp} {kvs : List (List Key × V)} {xs : List (List Key × Addr × Value)} (r : KT H kvs xs) (k : List Key) : RelO (valV kvs k) ((atKey xs k).map (·.2)) := by
  induction r with
  | nil => exact True.intro
  | @cons p q ps qs h t ih =>
    obtain ⟨h1, _, h2⟩ := h
    by_cases e : p.1 = k
    · have e' : q.1 = k := h1.symm.trans e
      have b : atKey (q :: qs) k = some q.2 := by simp [atKey, List.find?_cons, e']
      rw [valV_pos e, b]; exact h2
    · have e' : ¬ q.1 = k := fun z => e (h1.trans z)
      have b : atKey (q :: qs) k = atKey qs k := by simp [atKey, List.find?_cons, e']
      rw [valV_neg e, b]; exact ih
theorem KT.repl {H : Hp} {kvs : List (List Key × V)} {xs : List (List Key × Addr × Value)} (r : KT H kvs xs) (k : List Key) {y : V} {u : Value} (ry : RelV y u) :
    KT H (kvs.map fun kv => if kv.1 = k then (kv.1, y) else kv) (xs.map (putAt k u)) := by
  induction r with
  | nil => exact .nil
  | @cons p q ps qs h t ih =>
    rw [List.map_cons, List.map_cons]
    refine .cons ?_ ih
    obtain ⟨h1, h2, h3⟩ := h
    unfold putAt
    by_cases e : p.1 = k
    · rw [if_pos e, if_pos (h1.symm.trans e)]; exact ⟨h1, h2, ry⟩
    · rw [if_neg e, if_neg (fun z => e (h1.trans z))]; exact ⟨h1, h2, h3⟩
theorem KT.put {H : Hp} {kvs : List (List Key × V)} {xs : List (List Key × Addr × Value)} (r : KT H kvs xs) (k : List Key) {b : Addr} {y : V} {u : Value} (hb : H b = some (.tup (k.map kV))) (ry : RelV y u) :
    KT H (putK kvs k y) (storedH xs k b u) := by
  have e : (kvs.any fun kv => decide (kv.1 = k)) = (atKey xs k).isSome := by
    rw [valV_any, (r.val k).isSome_eq, Option.isSome_map]
  unfold putK storedH
  rw [e]
  by_cases q : (atKey xs k).isSome = true
  · rw [if_pos q, if_pos q]; exact r.repl k ry
  · rw [if_neg q, if_neg q]; exact Paired.snoc r ⟨rfl, hb, ry⟩
theorem KT.keeps {H H' : Hp} {kvs : List (List Key × V)} {xs : List (List Key × Addr × Value)} (r : KT H kvs xs) (ht : ∀ b ys, H b = some (.tup ys) → H' b = some (.tup ys)) : KT H' kvs xs :=
  Paired.mapP r fun _ _ z => ⟨z.1, ht _ _ z.2.1, z.2.2⟩
section
variable {P : Program} {w : World} {H : Hp} {h : Heap} {a : Addr}
theorem rd_of {u : HO} (ok : HOk P w H h) (e : Rd H a u) : ObjOk P w H h a u := e.ok ok
theorem key_of {ks : List Key} (ok : HOk P w H h) (e : H a = some (.tup (ks.map kV))) : (tupleKind (mixKind P w)).is h ks a := by
  obtain ⟨_, its, r, o, h1, h2, n, h3⟩ := (show ObjOk P w H h a (.tup (ks.map kV)) from ok a _ e)
  exact ⟨o, its.toArray, n, h1, h2, h3, by simpa using items_are r⟩
theorem dt_rd {kvs : List (List Key × V)} (ok : HOk P w H h) (e : Rd H a (.dT kvs)) : kvs.length ≤ sizeLine ∧ (a == sysModules) = false ∧
    ∃ xs, KT H kvs xs ∧ h.DictOfH (tupleKind (mixKind P w)) a xs := by
  obtain ⟨z, y, xs, r, o, es, ep, h1, h2, h3, h4, h5⟩ := (show ObjOk P w H h a (.dT kvs) from rd_of ok e)
  refine ⟨z, y, xs, r, o, es, ep, h1, h2, h3, h4, fun x hx => ?_, h5⟩
  have all : ∀ {l : List (List Key × V)} {m : List (List Key × Addr × Value)}, KT H l m → ∀ x ∈ m, (tupleKind (mixKind P w)).is h x.1 x.2.1 := by
    intro l m q
    induction q with
    | nil => intro x hx; exact nomatch hx
    | @cons p q ps qs hq t ih =>
      intro x hx
      rcases List.mem_cons.mp hx with e | hx
      · subst e
        exact key_of ok (by rw [← hq.1]; exact hq.2.1)
      · exact ih x hx
  exact all r x hx
theorem dt_of {kvs : List (List Key × V)} (ok : HOk P w H h) (e : H a = some (.dT kvs)) : kvs.length ≤ sizeLine ∧ (a == sysModules) = false ∧
    ∃ xs, KT H kvs xs ∧ h.DictOfH (tupleKind (mixKind P w)) a xs := dt_rd ok (.inl e)
end
noncomputable def DGet (H : Hp) (a : Addr) (y : V) (r : Option V) : Prop :=
  (∃ kvs k, Rd H a (.dK kvs) ∧ y = kV k ∧ r = valV kvs k) ∨ ∃ kvs k b, Rd H a (.dT kvs) ∧ y = .ref b ∧ H b = some (.tup (k.map kV)) ∧ r = valV kvs k
noncomputable def DPut (H : Hp) (a : Addr) (y v : V) (H' : Hp) : Prop :=
  (∃ kvs k, H a = some (.dK kvs) ∧ y = kV k ∧ kvs.length < sizeLine ∧ H' = upd H a (.dK (putK kvs k v))) ∨
  ∃ kvs k b, H a = some (.dT kvs) ∧ y = .ref b ∧ H b = some (.tup (k.map kV)) ∧ kvs.length < sizeLine ∧ H' = upd H a (.dT (putK kvs k v))
theorem DGet.k {H : Hp} {a : Addr} {kvs : List (Key × V)} {k : Key} (e : H a = some (.dK kvs)) : DGet H a (kV k) (valV kvs k) := .inl ⟨kvs, k, .inl e, rfl, rfl⟩
theorem DGet.t {H : Hp} {a b : Addr} {kvs : List (List Key × V)} {k : List Key} (e : H a = some (.dT kvs)) (eb : H b = some (.tup (k.map kV))) : DGet H a (.ref b) (valV kvs k) := .inr ⟨kvs, k, b, .inl e, rfl, eb, rfl⟩
theorem DPut.k {H : Hp} {a : Addr} {kvs : List (Key × V)} {k : Key} {v : V} (e : H a = some (.dK kvs)) (hl : kvs.length < sizeLine) : DPut H a (kV k) v (upd H a (.dK (putK kvs k v))) := .inl ⟨kvs, k, e, rfl, hl, rfl⟩
theorem DPut.t {H : Hp} {a b : Addr} {kvs : List (List Key × V)} {k : List Key} {v : V} (e : H a = some (.dT kvs)) (eb : H b = some (.tup (k.map kV))) (hl : kvs.length < sizeLine) :
    DPut H a (.ref b) v (upd H a (.dT (putK kvs k v))) := .inr ⟨kvs, k, b, e, rfl, eb, hl, rfl⟩
noncomputable def IsD (H : Hp) (a : Addr) : Prop := (∃ kvs, Rd H a (.dK kvs)) ∨ ∃ kvs, Rd H a (.dT kvs)
end L2
set_option maxHeartbeats 4000000
namespace L2
open PySem PySem.Spec PyProof.Rows
noncomputable def clGo (cells : List (Str × Addr)) : List (Str × NameKind) → List (Str × Addr) → List (Str × Addr)
  | [], acc => acc
  | (n, k) :: r, acc => clGo cells r (if k = .free then (n, (cells.lookup n).getD 0) :: acc else acc)
theorem forIn_cl {env : Env} {f : (Str × NameKind) → List (Str × Addr) → Sem (ForInStep (List (Str × Addr)))}
    (h1 : ∀ n k acc, k ≠ .free → f (n, k) acc = pure (.yield acc)) (h2 : ∀ n acc c, env.cells.lookup n = some c → f (n, .free) acc = pure (.yield ((n, c) :: acc))) :
    ∀ (names : List (Str × NameKind)) (acc : List (Str × Addr)), (∀ x ∈ names, x.2 = .free → ∃ c, env.cells.lookup x.1 = some c) → forIn names acc f = (pure (clGo env.cells names acc) : Sem (List (Str × Addr)))
  | [], acc, _ => by simp [clGo]
  | (n, k) :: r, acc, h => by
    rw [List.forIn_cons]
    by_cases hk : k = .free
    · subst hk
      obtain ⟨c, hc⟩ := h (n, .free) List.mem_cons_self rfl
      rw [h2 n acc c hc, pure_bind]
      show forIn r ((n, c) :: acc) f = _
      rw [forIn_cl h1 h2 r ((n, c) :: acc) fun x hx => h x (List.mem_cons_of_mem _ hx)]
      show _ = pure (clGo env.cells r (if NameKind.free = .free then (n, (env.cells.lookup n).getD 0) :: acc else acc))
      rw [if_pos rfl, hc]
      rfl
    · rw [h1 n k acc hk, pure_bind]
      show forIn r acc f = _
      rw [forIn_cl h1 h2 r acc fun x hx => h x (List.mem_cons_of_mem _ hx)]
      show _ = pure (clGo env.cells r (if k = .free then (n, (env.cells.lookup n).getD 0) :: acc else acc))
      rw [if_neg hk]
theorem clos_eq {env : Env} {sc : Scope} (h : ∀ x ∈ sc.names, x.2 = .free → ∃ c, env.cells.lookup x.1 = some c) : closureFor sc env = pure (clGo env.cells sc.names []) := by
  simp only [closureFor]
  rw [forIn_cl (env := env) ?h1 ?h2 sc.names [] h, pure_bind]
  case h1 =>
    intro n k acc hk
    have : (k == NameKind.free) = false := by simpa using hk
    simp only [this, Bool.false_eq_true, if_false]
  case h2 =>
    intro n acc c hc
    simp only [beq_self_eq_true, if_true, cellOf, hc]
    rfl
theorem clGo_sub {cells : List (Str × Addr)} {x : Str} {c : Addr} : ∀ (names : List (Str × NameKind)) (acc : List (Str × Addr)), (∀ y ∈ names, y.2 = .free → ∃ c, cells.lookup y.1 = some c) → (clGo cells names acc).lookup x = some c → acc.lookup x = some c ∨ cells.lookup x = some c
  | [], acc, _, h => .inl h
  | (n, k) :: r, acc, hf, h => by
    rcases clGo_sub r _ (fun y hy => hf y (List.mem_cons_of_mem _ hy)) h with h | h
    · by_cases hk : k = .free
      · rw [if_pos hk] at h
        obtain ⟨c', hc'⟩ := hf (n, k) List.mem_cons_self hk
        have hc2 : cells.lookup n = some c' := hc'
        rw [hc2] at h
        by_cases e : x = n
        · subst e
          simp at h
          subst h
          exact .inr hc2
        · have : (x == n) = false := by simpa using e
          rw [List.lookup_cons, this] at h
          exact .inl h
      · rw [if_neg hk] at h
        exact .inl h
    · exact .inr h
theorem clGo_some {cells : List (Str × Addr)} {x : Str} : ∀ (names : List (Str × NameKind)) (acc : List (Str × Addr)), ((∃ c, acc.lookup x = some c) ∨ (x, NameKind.free) ∈ names) → ∃ c, (clGo cells names acc).lookup x = some c
  | [], acc, h => by
    rcases h with h | h
    · exact h
    · cases h
  | (n, k) :: r, acc, h => by
    refine clGo_some r _ ?_
    rcases h with ⟨c, h⟩ | h
    · refine .inl ?_
      by_cases hk : k = .free
      · rw [if_pos hk, List.lookup_cons]
        by_cases e : (x == n) = true
        · rw [e]; exact ⟨_, rfl⟩
        · have e' : (x == n) = false := by simpa using e
          rw [e']; exact ⟨c, h⟩
      · rw [if_neg hk]; exact ⟨c, h⟩
    · rcases List.mem_cons.mp h with e | h
      · injection e with e1 e2
        subst e1; subst e2
        refine .inl ?_
        rw [if_pos rfl, List.lookup_cons]
        simp
      · exact .inr h
theorem mem_of_look {α : Type} : ∀ {l : List (Str × α)} {x : Str} {k : α}, l.lookup x = some k → (x, k) ∈ l
  | [], _, _, h => by simp at h
  | (n, a) :: r, x, k, h => by
    rw [List.lookup_cons] at h
    by_cases e : x = n
    · subst e
      simp at h
      subst h
      exact List.mem_cons_self
    · have : (x == n) = false := by simpa using e
      rw [this] at h
      exact List.mem_cons_of_mem _ (mem_of_look h)
theorem relabel_look {env : Env} : ∀ {names : List (Str × NameKind)} {x : Str} {k : NameKind},
    (names.map fun (n, k) => if (k == NameKind.free && env.scope.kind == .function && env.kindOf n == some .cell) then (n, NameKind.cell) else (n, k)).lookup x = some k →
    ∃ k0, names.lookup x = some k0 ∧ (k = k0 ∨ k0 = .free)
  | [], _, _, h => by simp at h
  | (n, k0) :: r, x, k, h => by
    rw [List.map_cons] at h
    by_cases e : x = n
    · subst e
      refine ⟨k0, by simp, ?_⟩
      by_cases hc : (k0 == NameKind.free && env.scope.kind == .function && env.kindOf x == some .cell) = true
      · right
        simp at hc
        exact hc.1.1
      · left
        dsimp only at h
        rw [if_neg hc] at h
        simp at h
        exact h.symm
    · have e' : (x == n) = false := by simpa using e
      rw [List.lookup_cons, e']
      dsimp only at h
      split at h
      · rw [List.lookup_cons, e'] at h
        exact relabel_look h
      · rw [List.lookup_cons, e'] at h
        exact relabel_look h
theorem relabel_cell {env : Env} (hk : env.scope.kind = .function) : ∀ {names : List (Str × NameKind)} {x : Str}, names.lookup x = some .free → env.kindOf x = some .cell →
    (names.map fun (n, k) => if (k == NameKind.free && env.scope.kind == .function && env.kindOf n == some .cell) then (n, NameKind.cell) else (n, k)).lookup x = some .cell
  | [], _, h, _ => by simp at h
  | (n, k0) :: r, x, h, hx => by
    rw [List.map_cons]
    by_cases e : x = n
    · subst e
      simp at h
      subst h
      have hc : (NameKind.free == NameKind.free && env.scope.kind == .function && env.kindOf x == some .cell) = true := by simp [hk, hx]
      dsimp only
      rw [if_pos hc]
      simp
    · have e' : (x == n) = false := by simpa using e
      rw [List.lookup_cons, e'] at h
      dsimp only
      split
      · rw [List.lookup_cons, e']; exact relabel_cell hk h hx
      · rw [List.lookup_cons, e']; exact relabel_cell hk h hx
structure CompScope (so : Scope) (N : List Str) (caps : List (Nat × Str)) (sc : Scope) : Prop where
  kind : sc.kind = .function
  nocell : ∀ y ∈ sc.names, y.2 ≠ .cell
  names : ∀ y ∈ sc.names, y.2 = .local → sc.names.lookup y.1 = some .local
  free : ∀ y ∈ sc.names, y.2 = .free → so.names.lookup y.1 = some .cell
  caps : ∀ p ∈ caps, N[p.1]? = some p.2 ∧ so.names.lookup p.2 = some .cell ∧ sc.names.lookup p.2 = some .free
noncomputable def capσ (caps : List (Nat × Str)) (σ : St) : St := caps.map fun p => (σ[p.1]?).join
noncomputable abbrev cxComp (X : Cx) (L : List Str) (caps : List (Nat × Str)) (sc : Scope) (C : Addr) (s : Shared) (H : Hp) (fp : List Addr) : Cx :=
  { X with N := L ++ caps.map (·.2), s₀ := s, H₀ := H, env := compEnvC sc (clGo X.env.cells sc.names []) C X.env, outer := X.stack, stack := X.stack, ex := fp, fn := fun _ => false, pn := [], xe := fun _ _ => False }
theorem ne_lt {a b : Addr} {n : Nat} (h : a < n) (h2 : n ≤ b) : a ≠ b := Nat.ne_of_lt (Nat.lt_of_lt_of_le h h2)
section
variable {X : Cx} {pins : List (Addr × Obj)} {σ : St} {H : Hp} {s : Shared} {L : List Str} {caps : List (Nat × Str)} {sc : Scope} {C D : Addr} {fp : List Addr}
theorem Inv.clFree (I : Inv X pins σ H s) (S : CompScope X.env.scope X.N caps sc) : ∀ x ∈ sc.names, x.2 = .free → ∃ c, X.env.cells.lookup x.1 = some c := fun x hx hf =>
  I.ok.has x.1 (.inl (S.free x hx hf))
theorem Inv.clSub (I : Inv X pins σ H s) (S : CompScope X.env.scope X.N caps sc) {x : Str} {c : Addr} (h : (clGo X.env.cells sc.names []).lookup x = some c) : X.env.cells.lookup x = some c := by
  rcases clGo_sub sc.names [] (I.clFree S) h with h | h
  · simp at h
  · exact h
theorem comp_start {h₁ : Heap} {tk : Nat} {m : Str → Option Value} {oD : Obj} (I : Inv X pins σ H s) (S : CompScope X.env.scope X.N caps sc) (hfp : ∀ b ∈ fp, FpOk X pins H b) (hfo : ∀ b ∈ fp, ∃ o, s.heap.get? b = some o)
    (hC : s.heap.objs.size ≤ C) (hn : h₁.Ns C m) (old : ∀ b o, s.heap.get? b = some o → h₁.get? b = some o) (hD : s.heap.objs.size ≤ D) (hDC : D ≠ C) (eD : h₁.get? D = some oD) (dD : ∀ v, oD.data ≠ .cell v) :
    Inv (cxComp X L caps sc C s H fp) [(D, oD)] (List.replicate L.length none ++ capσ caps σ) H { s with heap := h₁, toks := tk } := by
  have hcells : ∀ x c, (clGo X.env.cells sc.names []).lookup x = some c → ∃ v, s.heap.IsCell c v := fun x c e => I.cell x c (I.clSub S e)
  refine ⟨⟨I.ok.mod, S.kind, I.ok.glob, I.ok.blt, hC, fun x y c h1 h2 => I.ok.inj x y c (I.clSub S h1) (I.clSub S h2), fun x hx => ?_, fun _ _ h => (Bool.false_ne_true h).elim, I.ok.hd, I.ok.frames, .inl rfl, fun b hb => ⟨?_, fun x c e => (hfp b hb).2.2.2.2.1 x c (I.clSub S e)⟩, I.bs, Nat.le_trans I.ok.bsz I.sz, fun b o e hb => ?_, fun b hb hz => ?_, I.stack, I.stkFree⟩,
    rfl, I.bare, Un.kept old, ⟨m, hn, fun i x v e1 e2 e3 => ?_⟩, fun x c e => ?_, I.hok.fresh hC, fun x c e => I.freeC x c (I.clSub S e), fun p hp => ?_, I.hok.kept old, ?_⟩
  · -- has
    have key : ∀ k, (relabel sc X.env).names.lookup x = some k → (k = .cell ∨ k = .free) → (x, NameKind.free) ∈ sc.names := fun k e hk => by
      obtain ⟨k0, e0, h0⟩ := relabel_look e
      have hm := mem_of_look e0
      rcases h0 with h0 | h0
      · subst h0
        rcases hk with hk | hk
        · exact absurd hk (S.nocell _ hm)
        · rw [hk] at hm; exact hm
      · rw [h0] at hm; exact hm
    have hm : (x, NameKind.free) ∈ sc.names := by
      rcases hx with hx | hx
      · exact key _ hx (.inl rfl)
      · exact key _ hx (.inr rfl)
    exact clGo_some sc.names [] (.inr hm)
  · obtain ⟨o, e⟩ := hfo b hb
    exact Nat.ne_of_lt (Nat.lt_of_lt_of_le (Heap.lt_size e) hC)
  · rcases (hfp b hb).2.2.2.1 with z | z
    · exact I.ok.noex b o e z
    · exact absurd (Nat.lt_of_lt_of_le (Heap.lt_size e) (Nat.le_trans I.ok.bsz z)) (Nat.lt_irrefl _)
  · rcases List.mem_cons.mp (I.stkSub b hz) with z | z
    · exact (hfp b hb).2.1 z
    · exact (hfp b hb).2.2.1 z
  · -- loc
    have e1' : (L ++ caps.map (·.2))[i]? = some x := e1
    by_cases hi : i < L.length
    · rw [List.getElem?_append_left (by simpa using hi), List.getElem?_replicate] at e2
      split at e2 <;> cases e2
    · rw [List.getElem?_append_right (by simpa using Nat.not_lt.mp hi), List.length_replicate] at e2
      rw [List.getElem?_append_right (Nat.not_lt.mp hi)] at e1'
      unfold capσ at e2
      rw [List.getElem?_map] at e1' e2
      cases hp : caps[i - L.length]? with
      | none => rw [hp] at e1'; cases e1'
      | some p =>
        rw [hp] at e1' e2
        have ex : p.2 = x := Option.some.inj e1'
        have ev : (σ[p.1]?).join = some v := Option.some.inj e2
        have ev' : σ[p.1]? = some (some v) := by
          cases q : σ[p.1]? with
          | none => rw [q] at ev; cases ev
          | some o => rw [q] at ev; exact congrArg some ev
        obtain ⟨c1, c2, c3⟩ := S.caps p (List.mem_of_getElem? hp)
        obtain ⟨m0, hn0, hl⟩ := I.loc
        rw [ex] at c1 c2 c3
        obtain ⟨u, r, l⟩ := hl p.1 x v c1 ev' (.inr (.inl c2))
        refine ⟨u, r, .inr ⟨.inl (relabel_cell I.ok.kind c3 c2), ?_⟩⟩
        rcases l with ⟨hk, _⟩ | ⟨_, c, hc, hcell⟩
        · have : X.env.scope.names.lookup x = some .local := hk
          rw [c2] at this; cases this
        · obtain ⟨c', hc'⟩ := clGo_some (cells := X.env.cells) sc.names [] (.inr (mem_of_look c3))
          have := I.clSub S hc'
          rw [hc] at this
          cases this
          obtain ⟨o, ho, hd⟩ := hcell
          exact ⟨c, hc', o, old _ _ ho, hd⟩
  · obtain ⟨v, o, ho, hd⟩ := hcells x c e
    exact ⟨v, o, old _ _ ho, hd⟩
  · have : p ∈ [(D, oD)] := hp
    have ep : p = (D, oD) := by simpa using this
    subst ep
    refine ⟨eD, I.hok.fresh hD, hDC, fun z => ?_, dD⟩
    have zz : H D = none := I.hok.fresh hD
    obtain ⟨_, o, ho, _⟩ := (I.stack).mem z
    exact absurd (Nat.lt_of_lt_of_le (Heap.lt_size ho) hD) (Nat.lt_irrefl _)
  · show (List.replicate L.length none ++ capσ caps σ).length = (L ++ caps.map (·.2)).length
    unfold capσ
    simp
noncomputable def PIf (X : Cx) (ifs : List Expr) (t : TT) : Prop :=
  ∀ (pins : List (Addr × Obj)) (s : Shared) (σ : St) (H : Hp) (Q : Bool → Hp → Prop), Inv X pins σ H s → t σ H Q →
    wpAny (model X.prog X.w) X.A (forIn ifs true fun c r => if r = true then do let ok ← isTrue c X.env (eval c X.env); pure (ForInStep.yield ok) else pure (ForInStep.yield r)) (TP X pins σ Q) X.xe s
theorem pif_nil : PIf X [] (fun _ H Q => Q true H) := fun pins s σ H Q I h => wpAny_tests_nil ⟨H, I, h⟩
theorem compLoop_any {prog : Program} {w : World} {A : Around} {R : Result → Shared → Prop} {s : Shared} {elt target iter : Expr} {ifs : List Expr} {scope : Scope} {pos : Pos} {it acc : Value} {env : Env} (I : Nat → Shared → Prop)
    (turn : ∀ n s, I n s → wpAny (model prog w) A (pyNext it) (fun r s₁ => match r with
      | none => R (.ok .next) s₁
      | some v => wpAny (model prog w) A (letOwnedTupleGo target it v) (fun _ s1' => wpAny (model prog w) A (assign target env v) (fun _ s₂ =>
          wpAny (model prog w) A (forIn ifs true fun c r => if r = true then do let ok ← isTrue c env (eval c env); pure (ForInStep.yield ok) else pure (ForInStep.yield r)) (fun ok s₃ =>
            if ok = true then wpAny (model prog w) A (eval elt env) (fun x s₄ =>
              wpAny (model prog w) A (call (.builtin "list.append") [acc, x]) (fun _ s₅ => ∃ m, m < n ∧ I m s₅) (fun _ _ => False) s₄) (fun _ _ => False) s₃
            else ∃ m, m < n ∧ I m s₃) (fun _ _ => False) s₂) (fun _ _ => False) s1') (fun _ _ => False) s₁) (fun _ _ => False) s)
    (n : Nat) (h : I n s) : codeAny (model prog w) A (.compLoop (.ListComp elt [⟨target, iter, ifs, 0⟩] scope pos) 0 it acc env) R s := by
  refine codeAny_loop rfl I (fun n s hI => ?_) n h
  show wpAny _ A ((compTurn (.ListComp elt [⟨target, iter, ifs, 0⟩] scope pos) 0 it acc env).onRaise (fun x => do noteFrame x env; theTreesLotGoes x)) _ _ s
  refine wpAny_noted ?_
  rw [compTurn_list]
  refine wpAny_bind (wpAny_standAt (wpAny_bind (wpAny_mono (turn n s hI) (fun r s₁ h₁ => ?_) fun _ _ h' => h'.elim)))
  cases r with
  | none => exact wpAny_pure h₁
  | some v =>
    refine wpAny_bind (wpAny_mono h₁ (fun _ s1' h1' => ?_) fun _ _ h' => h'.elim)
    refine wpAny_bind (wpAny_mono h1' (fun _ s₂ h₂ => wpAny_bind (wpAny_mono h₂ (fun ok s₃ h₃ => ?_) fun _ _ h' => h'.elim)) fun _ _ h' => h'.elim)
    cases ok with
    | false => exact wpAny_pure ⟨rfl, h₃⟩
    | true =>
      exact wpAny_bind (wpAny_bind (wpAny_mono h₃ (fun x s₄ h₄ => wpAny_bind (wpAny_mono h₄ (fun _ s₅ h₅ => wpAny_pure (wpAny_pure ⟨rfl, h₅⟩)) fun _ _ h' => h'.elim)) fun _ _ h' => h'.elim))
noncomputable def compW (J : It) (g : TG) (tc : TT) (te : TE) (σ0 : St) (H1 : Hp) (Fin : List V → Hp → Prop) : Prop :=
  ∃ W : Nat → Nat → St → List V → Hp → Prop, (∃ m, W 0 m σ0 [] H1) ∧ ∀ i m σ ys H, W i m σ ys H →
    (J.stop i H ∧ Fin ys H) ∨ (J.go i H ∧ ys.length < sizeLine ∧ ∀ x H', J.yld i H x H' → g x σ H' fun σ2 H2 => tc σ2 H2 fun b H3 =>
      if b = true then te σ2 H3 fun y H4 => ∃ m', m' < m ∧ W (i + 1) m' σ2 (ys ++ [y]) H4 else ∃ m', m' < m ∧ W (i + 1) m' σ2 ys H3)
theorem comp_block {elt iter tg : Expr} {ifs : List Expr} {pos : Pos} {g : TG} {tc : TT} {te : TE} {J : It} {it : Addr} {tn : Nat → Heap → Prop} {Fin : List V → Hp → Prop} {RR : Value → Addr → Result → Shared → Prop} {E : Value → Shared → Prop} {s₂ : Shared}
    (hc : X.calm = true) (S : CompScope X.env.scope X.N caps sc) (I : Inv X pins σ H s₂) (T : Turn X.prog X.w X.K tg J fp it tn) (st : tn 0 s₂.heap) (hfp : ∀ b ∈ fp, FpOk X pins H b)
    (hg : ∀ C, PG (cxComp X L caps sc C s₂ H fp) tg g) (hif : ∀ C, PIf (cxComp X L caps sc C s₂ H fp) ifs tc) (he : ∀ C, PE (cxComp X L caps sc C s₂ H fp) elt te)
    (hW : compW J g tc te (List.replicate L.length none ++ capσ caps σ) H Fin)
    (hRR : ∀ C D s' m ys H', Inv X pins σ (upd H' D (.lst ys)) s' → s'.heap.Ns C m → FpOk X pins (upd H' D (.lst ys)) C → H' D = none → Fin ys H' → RR (.ref D) C (.ok .next) s') :
    wpAny (model X.prog X.w) X.A (newList []) (fun acc s₃ => wpAny (model X.prog X.w) X.A (newFunctionEnv sc X.env.globals (clGo X.env.cells sc.names []) [] X.env.qual none .none (some X.env)) (fun cenv s₄ =>
      codeAny (model X.prog X.w) X.A (.compStart (.ListComp elt [⟨tg, iter, ifs, 0⟩] sc pos) 0 (.ref it) acc { cenv with scope := relabel sc X.env }) (RR acc cenv.locals) s₄) E s₃) E s₂ := by
  refine wpAny_newObj_type (wpAny_newFunctionEnv S.nocell (by intro y hy; simp at hy) (fun h₁ hns₁ hsb₁ => ?_) S.kind)
  dsimp only at hns₁ hsb₁ ⊢
  generalize hH2 : s₂.heap.push { cls := .type "list", dict := none, data := .seq ([] : List Value).toArray } = H2 at hns₁ hsb₁ ⊢
  have hCs : H2.objs.size = s₂.heap.objs.size + 1 := by rw [← hH2, Heap.size_push]
  have hDC : s₂.heap.objs.size ≠ H2.objs.size := by rw [hCs]; exact Nat.ne_of_lt (Nat.lt_succ_self _)
  have hCle : s₂.heap.objs.size ≤ H2.objs.size := by rw [hCs]; exact Nat.le_succ _
  have below : ∀ b, b < s₂.heap.objs.size → b ≠ H2.objs.size ∧ b ≠ s₂.heap.objs.size := fun b hb => ⟨by rw [hCs]; exact Nat.ne_of_lt (Nat.lt_succ_of_lt hb), Nat.ne_of_lt hb⟩
  have old : ∀ b o, s₂.heap.get? b = some o → h₁.get? b = some o := fun b o e => hsb₁.extBut b o (below b (Heap.lt_size e)).1 (Heap.get?_push_of_some _ (hH2 ▸ Heap.get?_push_of_some _ e))
  have hacc : h₁.get? s₂.heap.objs.size = some { cls := .type "list", data := .seq ([] : List Value).toArray } := hsb₁.extBut _ _ hDC (Heap.get?_push_of_some _ (hH2 ▸ Heap.get?_push_size _ rfl))
  generalize hCn : H2.objs.size = C at hns₁ hsb₁ hDC hCle below ⊢
  generalize hDn : s₂.heap.objs.size = D at hacc hDC ⊢
  have hDle : s₂.heap.objs.size ≤ D := Nat.le_of_eq hDn
  have fo : ∀ b ∈ fp, ∃ o, s₂.heap.get? b = some o := fun b hb => let ⟨o, e, _⟩ := T.obj 0 _ st b hb; ⟨o, e⟩
  have bD : ∀ b ∈ fp, D ≠ b := fun b hb z => by
    obtain ⟨o, e⟩ := fo b hb
    exact ne_lt (Heap.lt_size e) hDle z.symm
  have cD : ∀ x c, X.env.cells.lookup x = some c → c ≠ D := fun x c e => by
    obtain ⟨v, o, ho, _⟩ := I.cell x c e
    exact ne_lt (Heap.lt_size ho) hDle
  have cC : ∀ x c, X.env.cells.lookup x = some c → c ≠ C := fun x c e => by
    obtain ⟨v, o, ho, _⟩ := I.cell x c e
    exact ne_lt (Heap.lt_size ho) hCle
  have start := fun tk => comp_start (L := L) (fp := fp) (tk := tk) I S hfp fo hCle hns₁ old hDle hDC hacc (fun v z => by
    have z' : Data.seq _ _ = Data.cell v := z
    cases z')
  obtain ⟨W, ⟨m0, w0⟩, turn⟩ := hW
  -- the static facts of the iterator's records in the block
  have stat : ∀ {pl : List (Addr × Obj)} {H' : Hp}, (∀ b ∈ fp, H' b = none) → (∀ p ∈ pl, p.1 = D) → ∀ b ∈ fp, FpOk (cxComp X L caps sc C s₂ H fp) pl H' b := fun {pl H'} hn hpl b hb => by
    obtain ⟨f0, f1, f2, f3, f4, f5⟩ := hfp b hb
    obtain ⟨o, e⟩ := fo b hb
    refine ⟨hn b hb, (below b (Heap.lt_size e)).1, fun z => ?_, .inl hb, fun x c e' => f4 x c (I.clSub S e'), fun p hp z => ?_⟩
    · rcases List.mem_cons.mp (I.stkSub b z) with z | z
      · exact f1 z
      · exact f2 z
    · have hp' : p ∈ pl := hp
      exact bD b hb ((hpl p hp').symm.trans z)
  have fin : ∀ (s' : Shared) (σ' : St) (H' : Hp) (ys : List V) (its : List Value) (n : Nat), Inv (cxComp X L caps sc C s₂ H fp) [(D, { cls := .type "list", data := .seq its.toArray n })] σ' H' s' → Vals ys its → ys.length ≤ sizeLine → Fin ys H' → RR (.ref D) C (.ok .next) s' := fun s' σ' H' ys its n I' rv hz hF => by
    obtain ⟨m, hm, _⟩ := I'.loc
    obtain ⟨eD, hDn', _, _, _⟩ := I'.pin (D, { cls := .type "list", data := .seq its.toArray n }) (by simp)
    have eD' : s'.heap.get? D = some { cls := .type "list", data := .seq its.toArray n } := eD
    have hDnone : H' D = none := hDn'
    have hCnone : H' C = none := I'.free
    have neD : ∀ b o, s₂.heap.get? b = some o → b ≠ D := fun b o e => ne_lt (Heap.lt_size e) hDle
    have neH : ∀ b u, H b = some u → b ≠ D := fun b u e => ne_lt (I.hok.lt e) hDle
    have ub := I'.base
    have hok : HOk X.prog X.w (upd H' D (.lst ys)) s'.heap := fun b u e => by
      by_cases hb : b = D
      · subst hb
        rw [upd_same] at e
        cases e
        exact ⟨hz, its, n, rv, eD'⟩
      · rw [upd_ne hb] at e
        exact (I'.hok b u e).stay (fun c v _ q => q) (fun c q => by rw [upd_ne (ne_of_none q hDnone)]; exact q) fun c xs q => by rw [upd_ne (ne_of_none q hDnone)]; exact q
    have un : Un (frs X.stack) fp H (upd H' D (.lst ys)) s₂.heap s'.heap := ⟨ub.keep, ub.slot, fun b o e n hx => by rw [upd_ne (neD b o e)]; exact ub.free b o e n hx, ub.there, fun b xs e => by rw [upd_ne (neH b _ e)]; exact ub.tups b xs e,
      fun b o u e => by rw [upd_ne (neH b _ e)]; exact ub.frzs b o u e, fun b ps e => by rw [upd_ne (neH b _ e)]; exact ub.tbls b ps e⟩
    have IX : Inv X pins σ (upd H' D (.lst ys)) s' := I.call' (ch := fp) I'.os un hok I'.bare fun b hb => by
      obtain ⟨f0, f1, f2, f3, f4, f5⟩ := hfp b hb
      exact ⟨f3, f1, f4, f5⟩
    refine hRR C D s' m ys H' IX hm ⟨by rw [upd_ne (Ne.symm hDC)]; exact hCnone, ?_, ?_, .inr (Nat.le_trans I.sz hCle), cC, fun p hp => ?_⟩ hDnone hF
    · exact Ne.symm (ne_lt I.lt hCle)
    · exact I.nofs hCle
    · exact ne_lt (Heap.lt_size (I.pin p hp).1) hCle
  have loop : ∀ s₃ : Shared, s₃ = { s₂ with heap := h₁, toks := s₂.toks + ([] : List (Str × Value)).length } →
      codeAny (model X.prog X.w) X.A (.compLoop (.ListComp elt [⟨tg, iter, ifs, 0⟩] sc pos) 0 (.ref it) (.ref D) (compEnvC sc (clGo X.env.cells sc.names []) C X.env)) (RR (.ref D) C) s₃ := by
    rintro s₃ rfl
    refine compLoop_any (fun k s' => ∃ i σ' H' ys its n, Inv (cxComp X L caps sc C s₂ H fp) [(D, { cls := .type "list", data := .seq its.toArray n })] σ' H' s' ∧ tn i s'.heap ∧ (∀ b ∈ fp, H' b = none) ∧ Vals ys its ∧ ys.length ≤ sizeLine ∧ W i k σ' ys H') ?_ m0
      ⟨0, _, H, [], [], 0, start _, T.keep 0 _ _ st (fun b hb o e => old b o e), fun b hb => (hfp b hb).1, .nil, Nat.zero_le _, w0⟩
    rintro k s' ⟨i, σ', H', ys, its, n, I', st', fr', rv, hz, w'⟩
    have hpl : ∀ p ∈ [(D, ({ cls := .type "list", data := .seq its.toArray n } : Obj))], p.1 = D := fun p hp => by
      rcases List.mem_cons.mp hp with e | e
      · rw [e]
      · cases e
    rcases turn i k σ' ys H' w' with ⟨stop, hF⟩ | ⟨go, hlen, step⟩
    · refine thn (T.done (cxComp X L caps sc C s₂ H fp) rfl rfl rfl hc i _ s' σ' H' _ I' (stat fr' hpl) st' stop) fun r s4 ⟨hr, I4⟩ => ?_
      subst hr
      exact fin s4 σ' H' ys its n I4 rv hz hF
    · refine thn (T.item (cxComp X L caps sc C s₂ H fp) rfl rfl rfl hc i _ s' σ' H' _ I' (stat fr' hpl) st' go) fun r s4 ⟨u, hr, h4⟩ => ?_
      subst hr
      refine thn h4 fun _ s5 ⟨x, H5, I5, r5, y5, st5, fr5⟩ => ?_
      have I5' := I5.pinned (stat fr5 hpl) (T.obj _ _ st5)
      refine thn (hg C _ s5 σ' H5 x u _ I5' r5 (step x H5 y5)) fun _ s6 ⟨σ6, H6, I6, q6⟩ => ?_
      refine thn (hif C _ s6 σ6 H6 _ I6 q6) fun ok s7 ⟨H7, I7, q7⟩ => ?_
      have back : ∀ {σ8 : St} {H8 : Hp} {s8 : Shared}, Inv (cxComp X L caps sc C s₂ H fp) ([(D, { cls := .type "list", data := .seq its.toArray n })] ++ pinsAt fp s5.heap) σ8 H8 s8 →
          tn (i + 1) s8.heap ∧ ∀ b ∈ fp, H8 b = none := fun {σ8 H8 s8} I8 => by
        refine ⟨T.keep _ _ _ st5 fun b hb o e => (I8.pin (b, o) (List.mem_append_right _ (List.mem_append_right _ (mem_pinsAt hb e)))).1, fun b hb => ?_⟩
        obtain ⟨o, e, d⟩ := T.obj _ _ st5 b hb
        exact (I8.pin (b, o) (List.mem_append_right _ (List.mem_append_right _ (mem_pinsAt hb e)))).2.1
      cases ok with
      | false =>
        rw [if_neg Bool.false_ne_true] at q7
        rw [if_neg Bool.false_ne_true]
        obtain ⟨m', hm', w7⟩ := q7
        obtain ⟨b1, b2⟩ := back I7
        exact ⟨m', hm', i + 1, σ6, H7, ys, its, n, I7.unpinned, b1, b2, rv, hz, w7⟩
      | true =>
        rw [if_pos rfl] at q7
        rw [if_pos rfl]
        refine thn (he C _ s7 σ6 H7 _ I7 q7) fun yv s8 ⟨y, H8, I8, r8, m', hm', w8⟩ => ?_
        obtain ⟨b1, b2⟩ := back I8
        obtain ⟨eD, hDn8, neL8, nf8, _⟩ := I8.pin (D, { cls := .type "list", data := .seq its.toArray n }) (by simp)
        have hl := rv.length
        refine append_at (s := s8) eD (fun h9 sb e9 => ?_) (by simp only [List.size_toArray]; omega)
        have I8' : Inv (cxComp X L caps sc C s₂ H fp) [] σ6 H8 s8 := I8.pins_of fun p hp => nomatch hp
        have I9 : Inv (cxComp X L caps sc C s₂ H fp) [] σ6 H8 { s8 with heap := h9 } := I8'.turned (t' := s8.toks) (it := D) (fun b o hb e => (sb.2 b hb).trans e) hDn8 neL8 (.inr hDle) (fun x c e => cD x c (I.clSub S e)) fun p hp => nomatch (show p ∈ ([] : List (Addr × Obj)) from hp)
        have ep : its.toArray.push yv = (its ++ [yv]).toArray := by simp
        rw [ep] at e9
        refine ⟨m', hm', i + 1, σ6, H8, ys ++ [y], its ++ [yv], n + 1, I9.pins_of fun p hp => ?_, T.keep _ _ _ b1 fun b hb o e => (sb.2 b (Ne.symm (bD b hb))).trans e, b2, Vals.append rv (.cons r8 .nil), by rw [List.length_append]; exact hlen, w8⟩
        obtain rfl : p = (D, ({ cls := .type "list", data := .seq (its ++ [yv]).toArray (n + 1) } : Obj)) := by
          rcases List.mem_cons.mp hp with e | e
          · exact e
          · cases e
        exact ⟨e9, hDn8, neL8, nf8, fun v z => by
          have z' : Data.seq _ _ = Data.cell v := z
          cases z'⟩
  exact codeAny_compStart_list (loop _ rfl) (T.self X.A 0 _ _ _ (T.keep 0 _ _ st fun b hb o e => old b o e) (loop _ rfl))
noncomputable def tComp (wi : TI) (g : TG) (tc : TT) (te : TE) (nL : Nat) (caps : List (Nat × Str)) : TE := fun σ H Q => wi σ H fun J H1 =>
  compW J g tc te (List.replicate nL none ++ capσ caps σ) H1 fun ys H2 => ∀ p, H2 p = none → Q (.ref p) (upd H2 p (.lst ys))
theorem pe_comp {elt iter tg : Expr} {ifs : List Expr} {pos : Pos} {wi : TI} {g : TG} {tc : TT} {te : TE} (L : List Str) (caps : List (Nat × Str)) (hc : X.calm = true) (S : CompScope X.env.scope X.N caps sc) (hi : PI X tg iter wi)
    (hg : ∀ C s H fp, PG (cxComp X L caps sc C s H fp) tg g) (hif : ∀ C s H fp, PIf (cxComp X L caps sc C s H fp) ifs tc) (he : ∀ C s H fp, PE (cxComp X L caps sc C s H fp) elt te)
    (hs : ∀ x, foldedSetIterable iter X.env x = pure x := by intro _; rfl) : PE X (.ListComp elt [⟨tg, iter, ifs, 0⟩] sc pos) (tComp wi g tc te L.length caps) := by
  intro pins s σ H Q I h
  rw [eval_ListComp]
  refine wpAny_comprehension_free (use := none) rfl hs (clos_eq (I.clFree S)) S.kind S.names (thn (hi pins s σ H _ I h) fun v s1 h1 => thn h1 fun itv s2 h2 => ?_)
  obtain ⟨it, fp, tn, J, H2, e, I2, T, st2, f2, hW⟩ := h2
  subst e
  refine comp_block (L := L) (RR := fun acc C => compPost (model X.prog X.w) X.A X.xe none (EP X pins σ Q) acc C) hc S I2 T st2 f2 (fun C => hg C _ _ _) (fun C => hif C _ _ _) (fun C => he C _ _ _) hW ?_
  intro C D s' m ys H' I' hn hC hDn hF
  refine ⟨m, hn, fun h' sb => ?_⟩
  obtain ⟨f0, f1, f2, f3, f4, f5⟩ := hC
  exact ⟨.ref D, _, I'.turned (t' := s'.toks) (it := C) (fun b o hb e => (sb.2 b hb).trans e) f0 f1 f3 f4 f5, rfl, hF D hDn⟩
end
end L2
namespace L3
open PySem PySem.Spec PyProof.Rows L2
inductive Dt where
  | non | bl (b : Bool) | int (i : Int) | str (x : Str) | tup (xs : List Dt) | lst (n : Nat) | ty (n : String) | dic (n : Nat) | ins (n : Nat)
inductive SO where
  | ro (xs : List Dt) | rw (xs : List Dt) | dc (kvs : List (Key × Dt)) | ob (C : Str) (fs : List (Str × Dt))
noncomputable def SO.items : SO → List Dt
  | .ro xs => xs
  | .rw xs => xs
  | .dc _ => []
  | .ob _ _ => []
noncomputable def IsL (K : PySem.W.Frag) (H : Hp) (a : Addr) : Prop := ∃ vs, SqL K H a vs
noncomputable def IsD (H : Hp) (a : Addr) : Prop := ∃ kvs, H a = some (.dK kvs)
noncomputable def IsO (H : Hp) (a : Addr) : Prop := ∃ C dx fs, H a = some (.ins C dx fs)
noncomputable abbrev Sto := List SO
noncomputable abbrev Rho := List (Option Dt)
mutual
noncomputable def D (K : PySem.W.Frag) (φ : Nat → Addr) (N : Nat) (H : Hp) : Dt → V → Prop
  | .non, v => v = .non
  | .bl b, v => v = .bl b
  | .int i, v => v = .int i
  | .str x, v => v = .str x
  | .ty n, v => v = .ty n
  | .tup ds, v => ∃ a vs, v = .ref a ∧ SqT K H a vs ∧ DL K φ N H ds vs
  | .lst n, v => n < N ∧ v = .ref (φ n) ∧ IsL K H (φ n)
  | .dic n, v => n < N ∧ v = .ref (φ n) ∧ IsD H (φ n)
  | .ins n, v => n < N ∧ v = .ref (φ n) ∧ IsO H (φ n)
noncomputable def DL (K : PySem.W.Frag) (φ : Nat → Addr) (N : Nat) (H : Hp) : List Dt → List V → Prop
  | [], vs => vs = []
  | d :: ds, vs => ∃ v r, vs = v :: r ∧ D K φ N H d v ∧ DL K φ N H ds r
end
structure Evo (K : PySem.W.Frag) (φ : Nat → Addr) (N : Nat) (H : Hp) (φ' : Nat → Addr) (N' : Nat) (H' : Hp) : Prop where
  le : N ≤ N'
  ext : ∀ i, i < N → φ' i = φ i
  tup : ∀ a vs, SqT K H a vs → SqT K H' a vs
  lst : ∀ i, i < N → IsL K H (φ i) → IsL K H' (φ i)
  dic : ∀ i, i < N → IsD H (φ i) → IsD H' (φ i)
  ins : ∀ i, i < N → IsO H (φ i) → IsO H' (φ i)
section
variable {K : PySem.W.Frag} {φ φ' φ1 φ2 : Nat → Addr} {N N' N1 N2 : Nat} {H H' H1 H2 : Hp}
theorem Evo.refl : Evo K φ N H φ N H := ⟨Nat.le_refl _, fun _ _ => rfl, fun _ _ h => h, fun _ _ h => h, fun _ _ h => h, fun _ _ h => h⟩
theorem Evo.trans (a : Evo K φ N H φ1 N1 H1) (b : Evo K φ1 N1 H1 φ2 N2 H2) : Evo K φ N H φ2 N2 H2 :=
  ⟨Nat.le_trans a.le b.le, fun i hi => (b.ext i (Nat.lt_of_lt_of_le hi a.le)).trans (a.ext i hi), fun x vs h => b.tup x vs (a.tup x vs h), 
    fun i hi h => (fun q : IsL K H1 (φ1 i) → IsL K H2 (φ1 i) => a.ext i hi ▸ q (a.ext i hi ▸ a.lst i hi h)) (b.lst i (Nat.lt_of_lt_of_le hi a.le)),
    fun i hi h => (fun q : IsD H1 (φ1 i) → IsD H2 (φ1 i) => a.ext i hi ▸ q (a.ext i hi ▸ a.dic i hi h)) (b.dic i (Nat.lt_of_lt_of_le hi a.le)),
    fun i hi h => (fun q : IsO H1 (φ1 i) → IsO H2 (φ1 i) => a.ext i hi ▸ q (a.ext i hi ▸ a.ins i hi h)) (b.ins i (Nat.lt_of_lt_of_le hi a.le))⟩
mutual
theorem D.evo (e : Evo K φ N H φ' N' H') : ∀ {d : Dt} {v : V}, D K φ N H d v → D K φ' N' H' d v
  | .non, _, h => by simpa [D] using h
  | .bl _, _, h => by simpa [D] using h
  | .int _, _, h => by simpa [D] using h
  | .str _, _, h => by simpa [D] using h
  | .ty _, _, h => by simpa [D] using h
  | .tup ds, v, h => by
    simp only [D] at h ⊢
    obtain ⟨a, vs, h1, h2, h3⟩ := h
    exact ⟨a, vs, h1, e.tup a vs h2, DL.evo e h3⟩
  | .lst n, v, h => by
    simp only [D] at h ⊢
    obtain ⟨h1, h2, h3⟩ := h
    exact ⟨Nat.lt_of_lt_of_le h1 e.le, by rw [e.ext n h1]; exact h2, by rw [e.ext n h1]; exact e.lst n h1 h3⟩
  | .dic n, v, h => by
    simp only [D] at h ⊢
    obtain ⟨h1, h2, h3⟩ := h
    exact ⟨Nat.lt_of_lt_of_le h1 e.le, by rw [e.ext n h1]; exact h2, by rw [e.ext n h1]; exact e.dic n h1 h3⟩
  | .ins n, v, h => by
    simp only [D] at h ⊢
    obtain ⟨h1, h2, h3⟩ := h
    exact ⟨Nat.lt_of_lt_of_le h1 e.le, by rw [e.ext n h1]; exact h2, by rw [e.ext n h1]; exact e.ins n h1 h3⟩
theorem DL.evo (e : Evo K φ N H φ' N' H') : ∀ {ds : List Dt} {vs : List V}, DL K φ N H ds vs → DL K φ' N' H' ds vs
  | [], vs, h => by simpa [DL] using h
  | d :: ds, vs, h => by
    simp only [DL] at h ⊢
    obtain ⟨v, r, h1, h2, h3⟩ := h
    exact ⟨v, r, h1, D.evo e h2, DL.evo e h3⟩
end
theorem DL.length : ∀ {ds : List Dt} {vs : List V}, DL K φ N H ds vs → ds.length = vs.length
  | [], vs, h => by simp only [DL] at h; rw [h]; rfl
  | d :: ds, vs, h => by
    simp only [DL] at h
    obtain ⟨v, r, h1, _, h3⟩ := h
    rw [h1, List.length_cons, List.length_cons, DL.length h3]
theorem DL.get : ∀ {ds : List Dt} {vs : List V} {i : Nat} {d : Dt}, DL K φ N H ds vs → ds[i]? = some d → ∃ v, vs[i]? = some v ∧ D K φ N H d v
  | [], _, _, _, _, e => by simp at e
  | d :: ds, vs, 0, d', h, e => by
    simp only [DL] at h
    obtain ⟨v, r, h1, h2, _⟩ := h
    simp at e
    subst e; subst h1
    exact ⟨v, rfl, h2⟩
  | d :: ds, vs, i + 1, d', h, e => by
    simp only [DL] at h
    obtain ⟨v, r, h1, _, h3⟩ := h
    subst h1
    obtain ⟨w, e1, e2⟩ := DL.get (i := i) h3 (by simpa using e)
    exact ⟨w, by simpa using e1, e2⟩
theorem DL.nil : DL K φ N H [] [] := by simp [DL]
theorem DL.cons {d : Dt} {v : V} {ds : List Dt} {vs : List V} (h : D K φ N H d v) (t : DL K φ N H ds vs) : DL K φ N H (d :: ds) (v :: vs) := by
  simp only [DL]; exact ⟨v, vs, rfl, h, t⟩
theorem DL.uncons {d : Dt} {v : V} {ds : List Dt} {vs : List V} (h : DL K φ N H (d :: ds) (v :: vs)) : D K φ N H d v ∧ DL K φ N H ds vs := by
  simp only [DL] at h
  obtain ⟨v', r, h1, h2, h3⟩ := h
  cases h1
  exact ⟨h2, h3⟩
theorem DL.append : ∀ {ds es : List Dt} {vs ws : List V}, DL K φ N H ds vs → DL K φ N H es ws → DL K φ N H (ds ++ es) (vs ++ ws)
  | [], _, vs, _, h, h' => by simp only [DL] at h; rw [h]; exact h'
  | d :: ds, es, vs, ws, h, h' => by
    simp only [DL] at h
    obtain ⟨v, r, h1, h2, h3⟩ := h
    subst h1
    exact DL.cons h2 (DL.append h3 h')
theorem DL.drop : ∀ {ds : List Dt} {vs : List V} (n : Nat), DL K φ N H ds vs → DL K φ N H (ds.drop n) (vs.drop n)
  | ds, vs, 0, h => h
  | [], vs, n + 1, h => by simp only [DL] at h; rw [h]; simpa using DL.nil
  | d :: ds, vs, n + 1, h => by
    simp only [DL] at h
    obtain ⟨v, r, h1, h2, h3⟩ := h
    subst h1
    exact DL.drop n h3
theorem DL.take : ∀ {ds : List Dt} {vs : List V} (n : Nat), DL K φ N H ds vs → DL K φ N H (ds.take n) (vs.take n)
  | ds, vs, 0, h => by simpa using DL.nil
  | [], vs, n + 1, h => by simp only [DL] at h; rw [h]; simpa using DL.nil
  | d :: ds, vs, n + 1, h => by
    simp only [DL] at h
    obtain ⟨v, r, h1, h2, h3⟩ := h
    subst h1
    exact DL.cons h2 (DL.take n h3)
theorem DL.set {d : Dt} {v : V} (hd : D K φ N H d v) : ∀ {ds : List Dt} {vs : List V} (n : Nat), DL K φ N H ds vs → DL K φ N H (ds.set n d) (vs.set n v)
  | [], vs, n, h => by simp only [DL] at h; rw [h]; simpa using DL.nil
  | e :: ds, vs, 0, h => by
    simp only [DL] at h
    obtain ⟨w, r, h1, h2, h3⟩ := h
    subst h1
    exact DL.cons hd h3
  | e :: ds, vs, n + 1, h => by
    simp only [DL] at h
    obtain ⟨w, r, h1, h2, h3⟩ := h
    subst h1
    exact DL.cons h2 (DL.set hd n h3)
theorem DL.one {d : Dt} {vs : List V} (h : DL K φ N H [d] vs) : ∃ v, vs = [v] ∧ D K φ N H d v := by
  simp only [DL] at h
  obtain ⟨v, r, h1, h2, h3⟩ := h
  subst h3
  exact ⟨v, h1, h2⟩
theorem DL.two {d e : Dt} {vs : List V} (h : DL K φ N H [d, e] vs) : ∃ v w, vs = [v, w] ∧ D K φ N H d v ∧ D K φ N H e w := by
  simp only [DL] at h
  obtain ⟨v, r, h1, h2, w, r', h3, h4, h5⟩ := h
  subst h5; subst h3
  exact ⟨v, w, h1, h2, h4⟩
theorem D.int {i : Int} {v : V} (h : D K φ N H (.int i) v) : v = .int i := by simpa [D] using h
theorem D.bl {i : Bool} {v : V} (h : D K φ N H (.bl i) v) : v = .bl i := by simpa [D] using h
theorem D.str {i : Str} {v : V} (h : D K φ N H (.str i) v) : v = .str i := by simpa [D] using h
theorem D.non {v : V} (h : D K φ N H .non v) : v = .non := by simpa [D] using h
theorem D.ty {n : String} {v : V} (h : D K φ N H (.ty n) v) : v = .ty n := by simpa [D] using h
theorem D.tup {ds : List Dt} {v : V} (h : D K φ N H (.tup ds) v) : ∃ a vs, v = .ref a ∧ SqT K H a vs ∧ DL K φ N H ds vs := by simpa [D] using h
theorem D.lst {n : Nat} {v : V} (h : D K φ N H (.lst n) v) : n < N ∧ v = .ref (φ n) := by simp only [D] at h; exact ⟨h.1, h.2.1⟩
theorem D.isL {n : Nat} {v : V} (h : D K φ N H (.lst n) v) : IsL K H (φ n) := by simp only [D] at h; exact h.2.2
theorem D.dic {n : Nat} {v : V} (h : D K φ N H (.dic n) v) : n < N ∧ v = .ref (φ n) := by simp only [D] at h; exact ⟨h.1, h.2.1⟩
theorem D.ins {n : Nat} {v : V} (h : D K φ N H (.ins n) v) : n < N ∧ v = .ref (φ n) := by simp only [D] at h; exact ⟨h.1, h.2.1⟩
theorem D.mkInt {i : Int} : D K φ N H (.int i) (.int i) := by simp [D]
theorem D.mkBl {i : Bool} : D K φ N H (.bl i) (.bl i) := by simp [D]
theorem D.mkStr {i : Str} : D K φ N H (.str i) (.str i) := by simp [D]
theorem D.mkNon : D K φ N H .non .non := by simp [D]
theorem D.mkTy {n : String} : D K φ N H (.ty n) (.ty n) := by simp [D]
theorem D.mkTup {ds : List Dt} {a : Addr} {vs : List V} (h : SqT K H a vs) (t : DL K φ N H ds vs) : D K φ N H (.tup ds) (.ref a) := by simp only [D]; exact ⟨a, vs, rfl, h, t⟩
theorem D.mkLst {n : Nat} (h : n < N) (hl : IsL K H (φ n)) : D K φ N H (.lst n) (.ref (φ n)) := by simp only [D]; exact ⟨h, trivial, hl⟩
end
noncomputable def SqR (K : PySem.W.Frag) (H : Hp) (a : Addr) (xs : List V) : Prop :=
  (∃ o, H a = some (.frz o (.lst xs))) ∨
    ∃ (o : Obj) (its : Array Value) (n : Nat), K.lookup a = some o ∧ o.cls = .type "list" ∧ o.dict = none ∧ o.data = .seq its n ∧ its.size ≤ sizeLine ∧ Vals xs its.toList
theorem SqR.sq {K : PySem.W.Frag} {H : Hp} {a : Addr} {xs : List V} (h : SqR K H a xs) : SqL K H a xs := by
  rcases h with h | h
  · exact .inl (.inr h)
  · exact .inr h
noncomputable def Holds (K : PySem.W.Frag) (φ : Nat → Addr) (N : Nat) (H : Hp) : SO → Addr → Prop
  | .ro xs, a => ∃ vs, SqR K H a vs ∧ DL K φ N H xs vs
  | .rw xs, a => ∃ vs, H a = some (.lst vs) ∧ DL K φ N H xs vs
  | .dc kvs, a => ∃ vs : List (Key × V), H a = some (.dK vs) ∧ K.lookup a = none ∧ kvs.map (·.1) = vs.map (·.1) ∧ DL K φ N H (kvs.map (·.2)) (vs.map (·.2))
  | .ob C fs, a => ∃ (c dx : Addr) (vs : List (Str × V)), H a = some (.ins c dx vs) ∧ K.lookup a = none ∧ PySem.W.nsIn K mainGlobals C = some (some (.ref c)) ∧ fs.map (·.1) = vs.map (·.1) ∧ DL K φ N H (fs.map (·.2)) (vs.map (·.2))
noncomputable def SO.wr : SO → Bool
  | .ro _ => false
  | _ => true
structure Rep (K : PySem.W.Frag) (φ : Nat → Addr) (st : Sto) (H : Hp) : Prop where
  injA : ∀ (i j : Nat) a b, st[i]? = some a → st[j]? = some b → a.wr = true → b.wr = true → φ i = φ j → i = j
  all : ∀ (i : Nat) o, st[i]? = some o → Holds K φ st.length H o (φ i)
section
variable {K : PySem.W.Frag} {φ φ' : Nat → Addr} {N N' : Nat} {st : Sto} {H H' : Hp} {p : Addr}
theorem Rep.inj (R : Rep K φ st H) : ∀ (i j : Nat) xs ys, st[i]? = some (.rw xs) → st[j]? = some (.rw ys) → φ i = φ j → i = j := fun i j _ _ e1 e2 h => R.injA i j _ _ e1 e2 rfl rfl h
theorem Rep.ro (R : Rep K φ st H) : ∀ (i : Nat) xs, st[i]? = some (.ro xs) → ∃ vs, SqR K H (φ i) vs ∧ DL K φ st.length H xs vs := fun i _ e => R.all i _ e
theorem Rep.rw (R : Rep K φ st H) : ∀ (i : Nat) xs, st[i]? = some (.rw xs) → ∃ vs, H (φ i) = some (.lst vs) ∧ DL K φ st.length H xs vs := fun i _ e => R.all i _ e
theorem Rep.seq (R : Rep K φ st H) {i : Nat} {o : SO} (e : st[i]? = some o) (hl : IsL K H (φ i)) : ∃ vs, SqL K H (φ i) vs ∧ DL K φ st.length H o.items vs := by
  have no : ∀ {u : HO}, H (φ i) = some u → K.lookup (φ i) = none → (∀ vs, u ≠ .lst vs) → (∀ ob vs, u ≠ .frz ob vs) → False := by
    intro u h hk h1 h2
    obtain ⟨vs, (h3 | ⟨ob, h3⟩) | ⟨ob, _, _, h3, _⟩⟩ := hl
    · rw [h] at h3; exact h1 _ (Option.some.inj h3)
    · rw [h] at h3; exact h2 _ _ (Option.some.inj h3)
    · rw [hk] at h3; cases h3
  cases o with
  | ro xs =>
    obtain ⟨vs, h1, h2⟩ := R.ro i xs e
    exact ⟨vs, h1.sq, h2⟩
  | rw xs =>
    obtain ⟨vs, h1, h2⟩ := R.rw i xs e
    exact ⟨vs, SqL.of h1, h2⟩
  | dc kvs =>
    obtain ⟨vs, h1, h2, _⟩ := R.all i _ e
    exact (no h1 h2 (fun _ z => by cases z) (fun _ _ z => by cases z)).elim
  | ob C fs =>
    obtain ⟨c, dx, vs, h1, h2, _⟩ := R.all i _ e
    exact (no h1 h2 (fun _ z => by cases z) (fun _ _ z => by cases z)).elim
theorem sqT_upd {a : Addr} {vs : List V} {o : HO} (h : SqT K H a vs) (hp : H p = none) : SqT K (upd H p o) a vs := by
  rcases h with (h | ⟨ob, h⟩) | h
  · exact .inl (.inl (by rw [upd_ne (ne_of_none h hp)]; exact h))
  · exact .inl (.inr ⟨ob, by rw [upd_ne (ne_of_none h hp)]; exact h⟩)
  · exact .inr h
theorem sqR_upd {a : Addr} {vs : List V} {o : HO} (h : SqR K H a vs) (hp : H p = none) : SqR K (upd H p o) a vs := by
  rcases h with ⟨ob, h⟩ | h
  · exact .inl ⟨ob, by rw [upd_ne (ne_of_none h hp)]; exact h⟩
  · exact .inr h
theorem sqT_updL {a : Addr} {vs ws : List V} {o : HO} (h : SqT K H a vs) (hp : H p = some (.lst ws)) : SqT K (upd H p o) a vs := by
  rcases h with (h | ⟨ob, h⟩) | h
  · exact .inl (.inl (by rw [upd_ne (ne_of h hp (by intro z; cases z))]; exact h))
  · exact .inl (.inr ⟨ob, by rw [upd_ne (ne_of h hp (by intro z; cases z))]; exact h⟩)
  · exact .inr h
theorem sqL_upd {a : Addr} {vs : List V} {o : HO} (h : SqL K H a vs) (hp : H p = none) : SqL K (upd H p o) a vs := by
  rcases h with (h | ⟨ob, h⟩) | h
  · exact .inl (.inl (by rw [upd_ne (ne_of_none h hp)]; exact h))
  · exact .inl (.inr ⟨ob, by rw [upd_ne (ne_of_none h hp)]; exact h⟩)
  · exact .inr h
theorem isL_upd {a : Addr} {o : HO} (h : IsL K H a) (hp : H p = none) : IsL K (upd H p o) a := let ⟨vs, h⟩ := h; ⟨vs, sqL_upd h hp⟩
theorem isD_upd {a : Addr} {o : HO} (h : IsD H a) (hp : H p = none) : IsD (upd H p o) a := let ⟨vs, h⟩ := h; ⟨vs, by rw [upd_ne (ne_of_none h hp)]; exact h⟩
theorem isO_upd {a : Addr} {o : HO} (h : IsO H a) (hp : H p = none) : IsO (upd H p o) a := let ⟨c, d, f, h⟩ := h; ⟨c, d, f, by rw [upd_ne (ne_of_none h hp)]; exact h⟩
theorem evo_new {o : HO} (hp : H p = none) : Evo K φ N H φ N (upd H p o) := ⟨Nat.le_refl _, fun _ _ => rfl, fun _ _ h => sqT_upd h hp, fun _ _ h => isL_upd h hp, fun _ _ h => isD_upd h hp, fun _ _ h => isO_upd h hp⟩
theorem Holds.stay {o : SO} {a : Addr} (h : Holds K φ N H o a) (e : Evo K φ N H φ' N' H') (hr : ∀ vs, SqR K H a vs → SqR K H' a vs) (hw : o.wr = true → H' a = H a) : Holds K φ' N' H' o a := by
  cases o with
  | ro xs => obtain ⟨vs, h1, h2⟩ := h; exact ⟨vs, hr vs h1, h2.evo e⟩
  | rw xs => obtain ⟨vs, h1, h2⟩ := h; exact ⟨vs, by rw [hw rfl]; exact h1, h2.evo e⟩
  | dc kvs => obtain ⟨vs, h1, h2, h3, h4⟩ := h; exact ⟨vs, by rw [hw rfl]; exact h1, h2, h3, h4.evo e⟩
  | ob C fs => obtain ⟨c, dx, vs, h1, h2, h3, h4, h5⟩ := h; exact ⟨c, dx, vs, by rw [hw rfl]; exact h1, h2, h3, h4, h5.evo e⟩
theorem Holds.some_ {o : SO} {a : Addr} (h : Holds K φ N H o a) (hw : o.wr = true) : ∃ u, H a = some u := by
  cases o with
  | ro xs => cases hw
  | rw xs => obtain ⟨vs, h1, _⟩ := h; exact ⟨_, h1⟩
  | dc kvs => obtain ⟨vs, h1, _⟩ := h; exact ⟨_, h1⟩
  | ob C fs => obtain ⟨c, dx, vs, h1, _⟩ := h; exact ⟨_, h1⟩
theorem Rep.laid {o : HO} (R : Rep K φ st H) (hp : H p = none) : Rep K φ st (upd H p o) :=
  ⟨R.injA, fun i x e => (R.all i x e).stay (evo_new hp) (fun _ h => sqR_upd h hp) fun w => by
    obtain ⟨u, h⟩ := (R.all i x e).some_ w
    exact upd_ne (ne_of_none h hp)⟩
noncomputable def phiNew (φ : Nat → Addr) (n : Nat) (p : Addr) : Nat → Addr := fun i => if i = n then p else φ i
theorem phi_at {n : Nat} : phiNew φ n p n = p := by unfold phiNew; rw [if_pos rfl]
theorem phi_lt {n i : Nat} (h : i < n) : phiNew φ n p i = φ i := by unfold phiNew; rw [if_neg (Nat.ne_of_lt h)]
theorem evo_add {o : SO} {u : HO} (hp : H p = none) : Evo K φ st.length H (phiNew φ st.length p) (st ++ [o]).length (upd H p u) :=
  ⟨by rw [List.length_append]; exact Nat.le_add_right _ _, fun i hi => phi_lt hi, fun _ _ h => sqT_upd h hp, fun _ _ h => isL_upd h hp, fun _ _ h => isD_upd h hp, fun _ _ h => isO_upd h hp⟩
theorem evo_lst {vs : List V} {xs : List Dt} (hp : H p = none) : Evo K φ st.length H (phiNew φ st.length p) (st ++ [SO.rw xs]).length (upd H p (.lst vs)) := evo_add hp
theorem get_snoc {α : Type} {l : List α} {x y : α} {i : Nat} (e : (l ++ [x])[i]? = some y) : (i < l.length ∧ l[i]? = some y) ∨ (i = l.length ∧ y = x) := by
  by_cases h : i < l.length
  · left
    rw [List.getElem?_append_left h] at e
    exact ⟨h, e⟩
  · right
    rw [List.getElem?_append_right (Nat.not_lt.mp h)] at e
    have h0 : i - l.length = 0 := by
      cases q : i - l.length with
      | zero => rfl
      | succ n => rw [q] at e; simp at e
    rw [h0] at e
    have : x = y := by simpa using e
    exact ⟨by omega, this.symm⟩
theorem lt_of_get {α : Type} {l : List α} {y : α} {i : Nat} (e : l[i]? = some y) : i < l.length := (List.getElem?_eq_some_iff.mp e).1
theorem Rep.add {o : SO} {u : HO} (R : Rep K φ st H) (hp : H p = none) (hd : Holds K (phiNew φ st.length p) (st ++ [o]).length (upd H p u) o p) : Rep K (phiNew φ st.length p) (st ++ [o]) (upd H p u) := by
  have ev : Evo K φ st.length H (phiNew φ st.length p) (st ++ [o]).length (upd H p u) := evo_add hp
  have notp : ∀ (i : Nat) x, st[i]? = some x → x.wr = true → φ i ≠ p := fun i x e w z => by
    obtain ⟨v, h⟩ := (R.all i x e).some_ w
    rw [z, hp] at h; cases h
  refine ⟨fun i j a b e1 e2 w1 w2 h => ?_, fun i x e => ?_⟩
  · rcases get_snoc e1 with ⟨l1, e1⟩ | ⟨l1, e1⟩
    · rcases get_snoc e2 with ⟨l2, e2⟩ | ⟨l2, e2⟩
      · rw [phi_lt l1, phi_lt l2] at h
        exact R.injA i j _ _ e1 e2 w1 w2 h
      · rw [phi_lt l1, l2, phi_at] at h
        exact absurd h (notp i _ e1 w1)
    · rcases get_snoc e2 with ⟨l2, e2⟩ | ⟨l2, e2⟩
      · rw [phi_lt l2, l1, phi_at] at h
        exact absurd h.symm (notp j _ e2 w2)
      · rw [l1, l2]
  · rcases get_snoc e with ⟨l1, e1⟩ | ⟨l1, e1⟩
    · rw [phi_lt l1]
      exact (R.all i x e1).stay ev (fun _ h => sqR_upd h hp) fun w => upd_ne (notp i x e1 w)
    · rw [l1, phi_at, e1]; exact hd
theorem Rep.newL {vs : List V} {xs : List Dt} (R : Rep K φ st H) (hp : H p = none) (hd : DL K φ st.length H xs vs) : Rep K (phiNew φ st.length p) (st ++ [.rw xs]) (upd H p (.lst vs)) :=
  R.add hp ⟨vs, upd_same, hd.evo (evo_add hp)⟩
theorem sqT_updW {a : Addr} {vs : List V} {u w : HO} (h : SqT K H a vs) (hp : H p = some u) (h1 : ∀ xs, u ≠ .tup xs) (h2 : ∀ o x, u ≠ .frz o x) : SqT K (upd H p w) a vs := by
  rcases h with (h | ⟨ob, h⟩) | h
  · exact .inl (.inl (by rw [upd_ne (ne_of h hp (fun z => h1 _ z.symm))]; exact h))
  · exact .inl (.inr ⟨ob, by rw [upd_ne (ne_of h hp (fun z => h2 _ _ z.symm))]; exact h⟩)
  · exact .inr h
theorem sqR_updW {a : Addr} {vs : List V} {u w : HO} (h : SqR K H a vs) (hp : H p = some u) (h2 : ∀ o x, u ≠ .frz o x) : SqR K (upd H p w) a vs := by
  rcases h with ⟨ob, h⟩ | h
  · exact .inl ⟨ob, by rw [upd_ne (ne_of h hp (fun z => h2 _ _ z.symm))]; exact h⟩
  · exact .inr h
noncomputable def sameK : HO → HO → Prop
  | .lst _, .lst _ => True
  | .dK _, .dK _ => True
  | .ins _ _ _, .ins _ _ _ => True
  | _, _ => False
theorem isL_updW {a : Addr} {u w : HO} (h : IsL K H a) (hp : H p = some u) (hk : sameK u w) : IsL K (upd H p w) a := by
  by_cases e : a = p
  · subst e
    cases u <;> cases w <;> first | exact hk.elim | skip
    · exact ⟨_, SqL.of upd_same⟩
    · obtain ⟨vs, (h | ⟨ob, h⟩) | h⟩ := h
      · rw [hp] at h; cases h
      · rw [hp] at h; cases h
      · exact ⟨vs, .inr h⟩
    · obtain ⟨vs, (h | ⟨ob, h⟩) | h⟩ := h
      · rw [hp] at h; cases h
      · rw [hp] at h; cases h
      · exact ⟨vs, .inr h⟩
  · obtain ⟨vs, (h | ⟨ob, h⟩) | h⟩ := h
    · exact ⟨vs, .inl (.inl (by rw [upd_ne e]; exact h))⟩
    · exact ⟨vs, .inl (.inr ⟨ob, by rw [upd_ne e]; exact h⟩)⟩
    · exact ⟨vs, .inr h⟩
theorem isD_updW {a : Addr} {u w : HO} (h : IsD H a) (hp : H p = some u) (hk : sameK u w) : IsD (upd H p w) a := by
  by_cases e : a = p
  · subst e
    obtain ⟨vs, h⟩ := h
    rw [hp] at h
    cases h
    cases w <;> first | exact hk.elim | exact ⟨_, upd_same⟩
  · obtain ⟨vs, h⟩ := h
    exact ⟨vs, by rw [upd_ne e]; exact h⟩
theorem isO_updW {a : Addr} {u w : HO} (h : IsO H a) (hp : H p = some u) (hk : sameK u w) : IsO (upd H p w) a := by
  by_cases e : a = p
  · subst e
    obtain ⟨c, d, f, h⟩ := h
    rw [hp] at h
    cases h
    cases w <;> first | exact hk.elim | exact ⟨_, _, _, upd_same⟩
  · obtain ⟨c, d, f, h⟩ := h
    exact ⟨c, d, f, by rw [upd_ne e]; exact h⟩
theorem sameK_ne {u w : HO} (hk : sameK u w) : (∀ xs, u ≠ .tup xs) ∧ ∀ o x, u ≠ .frz o x := by
  cases u <;> first | exact hk.elim | exact ⟨(fun _ z => nomatch z), (fun _ _ z => nomatch z)⟩
theorem evo_setW {n : Nat} {u w : HO} {o : SO} (hn : n < st.length) (h : H (φ n) = some u) (hk : sameK u w) : Evo K φ st.length H φ (st.set n o).length (upd H (φ n) w) :=
  ⟨by rw [List.length_set]; exact Nat.le_refl _, fun _ _ => rfl, fun _ _ hh => sqT_updW hh h (sameK_ne hk).1 (sameK_ne hk).2, fun _ _ hh => isL_updW hh h hk, fun _ _ hh => isD_updW hh h hk, fun _ _ hh => isO_updW hh h hk⟩
theorem evo_set {n : Nat} {vs ws : List V} {o : SO} (h : H (φ n) = some (.lst ws)) : Evo K φ st.length H φ (st.set n o).length (upd H (φ n) (.lst vs)) :=
  ⟨by rw [List.length_set]; exact Nat.le_refl _, fun _ _ => rfl, fun _ _ hh => sqT_updL hh h, fun _ _ hh => isL_updW hh h trivial, fun _ _ hh => isD_updW hh h trivial, fun _ _ hh => isO_updW hh h trivial⟩
theorem Rep.put {n : Nat} {u w : HO} {o q : SO} (R : Rep K φ st H) (hn : st[n]? = some q) (hq : q.wr = true) (ho : o.wr = true) (h : H (φ n) = some u) (hk : sameK u w) (hd : Holds K φ (st.set n o).length (upd H (φ n) w) o (φ n)) : Rep K φ (st.set n o) (upd H (φ n) w) := by
  have hlt := lt_of_get hn
  have ev : Evo K φ st.length H φ (st.set n o).length (upd H (φ n) w) := evo_setW hlt h hk
  have get : ∀ {i : Nat} {x : SO}, (st.set n o)[i]? = some x → (i = n ∧ x = o) ∨ (i ≠ n ∧ st[i]? = some x) := fun {i x} e => by
    by_cases h : i = n
    · left
      subst h
      rw [List.getElem?_set_self hlt] at e
      exact ⟨rfl, (Option.some.inj e).symm⟩
    · right
      rw [List.getElem?_set_ne (Ne.symm h)] at e
      exact ⟨h, e⟩
  refine ⟨fun i j a b e1 e2 w1 w2 hh => ?_, fun i x e => ?_⟩
  · have g : ∀ {i : Nat} {a : SO}, (st.set n o)[i]? = some a → a.wr = true → ∃ a', st[i]? = some a' ∧ a'.wr = true := fun {i a} e w => by
      rcases get e with ⟨h, _⟩ | ⟨_, h⟩
      · rw [h]; exact ⟨q, hn, hq⟩
      · exact ⟨a, h, w⟩
    obtain ⟨z1, g1, y1⟩ := g e1 w1
    obtain ⟨z2, g2, y2⟩ := g e2 w2
    exact R.injA i j z1 z2 g1 g2 y1 y2 hh
  · rcases get e with ⟨h1, h2⟩ | ⟨h1, h2⟩
    · rw [h1, h2]; exact hd
    · exact (R.all i x h2).stay ev (fun _ hh => sqR_updW hh h (sameK_ne hk).2) fun w => upd_ne fun z => h1 (R.injA i n x q h2 hn w hq z)
theorem Rep.setL {n : Nat} {vs : List V} {xs ys : List Dt} (R : Rep K φ st H) (hn : st[n]? = some (.rw ys)) (hd : DL K φ st.length H xs vs) : Rep K φ (st.set n (.rw xs)) (upd H (φ n) (.lst vs)) := by
  obtain ⟨ws, hw, _⟩ := R.rw n ys hn
  exact R.put hn rfl rfl hw trivial ⟨vs, upd_same, hd.evo (evo_set hw)⟩
end
noncomputable abbrev VD := Dt → Sto → Prop
noncomputable abbrev TD := Rho → Sto → VD → Prop
noncomputable abbrev TBD := Rho → Sto → (Bool → Sto → Prop) → Prop
noncomputable abbrev TAD := Rho → Sto → (List Dt → Sto → Prop) → Prop
structure EndsD where
  nx : Rho → Sto → Prop
  rt : VD
  bk : Rho → Sto → Prop := fun _ _ => False
  ct : Rho → Sto → Prop := fun _ _ => False
noncomputable abbrev TSD := EndsD → Rho → Sto → Prop
noncomputable def DR (K : PySem.W.Frag) (φ : Nat → Addr) (N : Nat) (H : Hp) (ρ : Rho) (σ : L2.St) : Prop :=
  ρ.length = σ.length ∧ ∀ (i : Nat) d, ρ[i]? = some (some d) → ∃ v, σ[i]? = some (some v) ∧ D K φ N H d v
section
variable {K : PySem.W.Frag} {φ φ' : Nat → Addr} {N N' : Nat} {H H' : Hp} {ρ : Rho} {σ : L2.St}
theorem DR.evo (h : DR K φ N H ρ σ) (e : Evo K φ N H φ' N' H') : DR K φ' N' H' ρ σ :=
  ⟨h.1, fun i d q => let ⟨v, h1, h2⟩ := h.2 i d q; ⟨v, h1, h2.evo e⟩⟩
theorem DR.set {d : Dt} {v : V} (h : DR K φ N H ρ σ) (hd : D K φ N H d v) (i : Nat) : DR K φ N H (ρ.set i (some d)) (σ.set i (some v)) := by
  refine ⟨by rw [List.length_set, List.length_set]; exact h.1, fun j e q => ?_⟩
  by_cases hj : j = i
  · subst hj
    have hl : j < ρ.length := by
      have := lt_of_get q
      rwa [List.length_set] at this
    rw [List.getElem?_set_self hl] at q
    cases q
    exact ⟨v, by rw [List.getElem?_set_self (by rw [← h.1]; exact hl)], hd⟩
  · rw [List.getElem?_set_ne (Ne.symm hj)] at q
    rw [List.getElem?_set_ne (Ne.symm hj)]
    exact h.2 j e q
end
noncomputable def Pre (K : PySem.W.Frag) (φ : Nat → Addr) (st : Sto) (H : Hp) (ρ : Rho) (σ : L2.St) : Prop := Rep K φ st H ∧ DR K φ st.length H ρ σ
noncomputable def Bhd (K : PySem.W.Frag) (φ : Nat → Addr) (st : Sto) (H : Hp) (φ' : Nat → Addr) (st' : Sto) (H' : Hp) : Prop := Rep K φ' st' H' ∧ Evo K φ st.length H φ' st'.length H'
noncomputable def liftE (K : PySem.W.Frag) (t : TD) : TE := fun σ H Q => ∃ φ st ρ P, Pre K φ st H ρ σ ∧ t ρ st P ∧
  ∀ d st', P d st' → ∀ φ' H' v, Bhd K φ st H φ' st' H' → D K φ' st'.length H' d v → Q v H'
noncomputable def liftT (K : PySem.W.Frag) (t : TBD) : TT := fun σ H Q => ∃ φ st ρ P, Pre K φ st H ρ σ ∧ t ρ st P ∧
  ∀ b st', P b st' → ∀ φ' H', Bhd K φ st H φ' st' H' → Q b H'
noncomputable def liftA (K : PySem.W.Frag) (t : TAD) : TA := fun σ H Q => ∃ φ st ρ P, Pre K φ st H ρ σ ∧ t ρ st P ∧
  ∀ ds st', P ds st' → ∀ φ' H' vs, Bhd K φ st H φ' st' H' → DL K φ' st'.length H' ds vs → Q vs H'
noncomputable def liftS (K : PySem.W.Frag) (t : TSD) : TS := fun E σ H => ∃ φ st ρ P, Pre K φ st H ρ σ ∧ t P ρ st ∧
  (∀ ρ' st', P.nx ρ' st' → ∀ φ' H' σ', Bhd K φ st H φ' st' H' → DR K φ' st'.length H' ρ' σ' → E.nx σ' H') ∧
  (∀ ρ' st', P.bk ρ' st' → ∀ φ' H' σ', Bhd K φ st H φ' st' H' → DR K φ' st'.length H' ρ' σ' → E.bk σ' H') ∧
  (∀ ρ' st', P.ct ρ' st' → ∀ φ' H' σ', Bhd K φ st H φ' st' H' → DR K φ' st'.length H' ρ' σ' → E.ct σ' H') ∧
  (∀ d st', P.rt d st' → ∀ φ' H' v, Bhd K φ st H φ' st' H' → D K φ' st'.length H' d v → E.rt v H')
noncomputable def DE (X : Cx) (e : Expr) (t : TD) : Prop := PE X e (liftE X.K t)
noncomputable def DT (X : Cx) (e : Expr) (t : TBD) : Prop := PT X e (liftT X.K t)
noncomputable def DA (X : Cx) (es : List Expr) (t : TAD) : Prop := PA X es (liftA X.K t)
noncomputable def DS (X : Cx) (s : Stmt) (t : TSD) : Prop := PS X s (liftS X.K t)
noncomputable def DSs (X : Cx) (s : List Stmt) (t : TSD) : Prop := PSs X s (liftS X.K t)
section
variable {K : PySem.W.Frag} {φ φ1 φ2 : Nat → Addr} {st st1 st2 : Sto} {H H1 H2 : Hp} {ρ : Rho} {σ : L2.St}
theorem Bhd.refl (h : Rep K φ st H) : Bhd K φ st H φ st H := ⟨h, .refl⟩
theorem Bhd.trans (a : Bhd K φ st H φ1 st1 H1) (b : Bhd K φ1 st1 H1 φ2 st2 H2) : Bhd K φ st H φ2 st2 H2 := ⟨b.1, a.2.trans b.2⟩
theorem Pre.on (p : Pre K φ st H ρ σ) (b : Bhd K φ st H φ1 st1 H1) : Pre K φ1 st1 H1 ρ σ := ⟨b.1, p.2.evo b.2⟩
end
theorem _root_.L2.PE.imp {X : Cx} {e : Expr} {t t' : TE} (h : PE X e t) (i : ∀ σ H Q, t' σ H Q → t σ H Q) : PE X e t' := fun pins s σ H Q I q => h pins s σ H Q I (i σ H Q q)
theorem _root_.L2.PT.imp {X : Cx} {e : Expr} {t t' : TT} (h : PT X e t) (i : ∀ σ H Q, t' σ H Q → t σ H Q) : PT X e t' := fun pins s σ H Q I q => h pins s σ H Q I (i σ H Q q)
theorem _root_.L2.PA.imp {X : Cx} {es : List Expr} {t t' : TA} (h : PA X es t) (i : ∀ σ H Q, t' σ H Q → t σ H Q) : PA X es t' := fun pos pins s σ H Q I q => h pos pins s σ H Q I (i σ H Q q)
theorem _root_.L2.PS.imp {X : Cx} {e : Stmt} {t t' : TS} (h : PS X e t) (i : ∀ D σ H, t' D σ H → t D σ H) : PS X e t' := fun pins s σ H Dn I q => h pins s σ H Dn I (i Dn σ H q)
theorem _root_.L2.PSs.imp {X : Cx} {e : List Stmt} {t t' : TS} (h : PSs X e t) (i : ∀ D σ H, t' D σ H → t D σ H) : PSs X e t' := fun pins s σ H Dn I q => h pins s σ H Dn I (i Dn σ H q)
end L3
namespace L3
open PySem PySem.Spec PyProof.Rows L2
open AutoSeq1 (wpAny_loadPart')
section
variable {prog : Program} {w : World} {A : Around} {E : Value → Shared → Prop} {s : Shared}
theorem cat_tupA {t b : Addr} {vs ws : List Value} {Q : Value → Shared → Prop} (ht : IsTup s.heap t vs.toArray) (hb : IsTup s.heap b ws.toArray)
    (h0 : vs = [] → Q (.ref b) s) (h1 : vs ≠ [] → ws = [] → Q (.ref t) s) (h2 : vs ≠ [] → ws ≠ [] → Q (.ref s.heap.objs.size) { s with heap := s.heap.push { cls := .type "tuple", data := .seq (vs ++ ws).toArray } })
    (hsz : vs.length + ws.length ≤ sizeLine) : wpAny (model prog w) A (binaryOp .Add (.ref t) (.ref b)) Q E s := by
  by_cases hv : vs = []
  · obtain ⟨⟨cls, dd, data, sl⟩, ho, hc, n, hd⟩ := id ht
    obtain ⟨⟨cls2, dd2, data2, sl2⟩, ho2, hc2, n2, hd2⟩ := id hb
    simp only at hc hd hc2 hd2
    subst hc hd hc2 hd2
    exact concat_meets ⟨_, ho, rfl⟩ ⟨_, ho2, rfl⟩ noFill_tuple_add seq_tuple_add PySem.F.slot_tuple_add PySem.F.entry_tuple_add (PySem.F.args_tuple_add_2 _ _)
      (tuple_addW0 t b vs.toArray ws.toArray n n2 dd dd2 sl sl2 (by simp [hv])) ⟨ho, ho2, h0 hv⟩
  · exact HT.cat_tup ht hb hv (h1 hv) (h2 hv) hsz
end
theorem noFill_tuple_mul : fillsNumberSlot (.type "tuple") "mul" = pure false :=
  PySem.fillsNumberSlot_seq (id := "tuple.__mul__") (r := some (.builtin "tuple.__rmul__")) F.slot_tuple_mul.lookup (by decide +kernel) F.slot_tuple_rmul.lookup (by decide +kernel)
theorem repeat_tuple : seqRepeat? (.type "tuple") = pure (some (.builtin "tuple.__mul__")) := by
  unfold seqRepeat?
  rw [PySem.seqSlot_of (T := "tuple") (name := "__mul__") (id := "tuple.__mul__") F.slot_tuple_mul.lookup (by decide +kernel), PySem.seqSlot_of (T := "tuple") (name := "__rmul__") (id := "tuple.__rmul__") F.slot_tuple_rmul.lookup (by decide +kernel)]
  rfl
theorem int_rmul_tuple (a : Int) (t : Tok) (l : Addr) (items : Array Value) (n : Nat) (d : Option Addr) (sl : Array (Option Value)) :
    Meets (Builtin.«int.__rmul__» ⟨[.int a t, .ref l], []⟩) (fun _ R s => s.heap.get? l = some { cls := .type "tuple", dict := d, data := .seq items n, slots := sl } ∧ R (.ok (.ret Value.notImplemented)) s) :=
  .of_wp fun prog w A R s h => by obtain ⟨hp, g, d, tk, os⟩ := s; obtain ⟨hl, h⟩ := h; wp_walk; exact ⟨_, rfl, h⟩
theorem tuple_mulW (l : Addr) (items : Array Value) (n : Nat) (d : Option Addr) (sl : Array (Option Value)) (x : Int) (u : Tok) (h0 : items.isEmpty = false) (h1 : 2 ≤ x) (h2 : x < 2 ^ 20) (h3 : items.size * x.toNat ≤ sizeLine) :
    Meets (Builtin.«tuple.__mul__» ⟨[.ref l, .int x u], []⟩) (fun _ R s => s.heap.get? l = some { cls := .type "tuple", dict := d, data := .seq items n, slots := sl } ∧
      R (.ok (.ret (Value.ref s.heap.objs.size))) { s with heap := s.heap.push { cls := Value.type "tuple", data := Data.seq (List.foldl (fun x1 x2 => x1 ++ x2) #[] (List.replicate x.toNat items)) }, toks := s.toks }) :=
  .of_wp fun prog w A R s h => by
    obtain ⟨hp, g, d, tk, os⟩ := s; obtain ⟨hl, h⟩ := h
    have f1 := AutoSeq1.idx_int
    have e1 : (decide (x < -(2 ^ 63)) || decide (x ≥ 2 ^ 63)) = false := by
      rw [decide_eq_false (by omega), decide_eq_false (by omega)]; rfl
    have e2 : (items.isEmpty || x == 1) = false := by
      rw [h0, Bool.false_or]; exact beq_eq_false_iff_ne.mpr (by omega)
    have e3 : (decide (x ≤ 0) || items.isEmpty) = false := by
      rw [h0, Bool.or_false]; exact decide_eq_false (by omega)
    have e4 : ¬ ((items.size : Int) * x > (2 ^ 63 - 1) / 8) := by
      have hb : items.size * x.toNat ≤ 16777216 := by rw [← sizeLine_eq]; exact h3
      have : (items.size : Int) * x = ((items.size * x.toNat : Nat) : Int) := by
        rw [Int.natCast_mul, Int.toNat_of_nonneg (by omega)]
      rw [this]
      omega
    wp_walk using wpAny_loadPart' hl
    rw [if_neg (fun q => Bool.false_ne_true (e1.symm.trans q))]
    wp_walk using wpAny_loadPart' hl
    rw [if_neg (fun q => Bool.false_ne_true (e2.symm.trans q))]
    wp_walk using wpAny_loadPart' hl
    rw [if_neg (fun q => Bool.false_ne_true (e3.symm.trans q))]
    wp_walk using wpAny_loadPart' hl
    rw [if_neg e4]
    wp_walk using wpAny_loadPart' hl
    have hx : (items.size : Int) * x = ((items.size * x.toNat : Nat) : Int) := by
      rw [Int.natCast_mul, Int.toNat_of_nonneg (by omega)]
    have e5 : Builtin.Tuple.tupleTooMany ((items.size : Int) * x) = false := by
      unfold Builtin.Tuple.tupleTooMany
      rw [hx]
      exact decide_eq_false (by omega)
    rw [if_neg (fun q => Bool.false_ne_true (e5.symm.trans q))]
    have f0 : List.foldl (fun x1 x2 => x1 ++ x2) #[] (List.replicate x.toNat items) = (List.replicate x.toNat items.toList).flatten.toArray := by
      have := foldl_rep items.toList x.toNat []
      rw [List.nil_append, Array.toArray_toList] at this
      exact this
    have hsz : sizeOk (.seq (List.foldl (fun x1 x2 => x1 ++ x2) #[] (List.replicate x.toNat items))) := by
      show (List.foldl (fun x1 x2 => x1 ++ x2) #[] (List.replicate x.toNat items)).size ≤ sizeLine
      rw [f0, List.size_toArray, len_rep, Array.length_toList, Nat.mul_comm]
      exact h3
    unfold Builtin.Tuple.tupleExact
    exact wpAny_bind (wpAny_newObj_type (wpAny_pure ⟨_, rfl, h⟩) hsz)
section
variable {X : Cx}
theorem op_catA : OpR X (binaryOp .Add) (fun x y H Q => ∃ a b xs ys, x = .ref a ∧ y = .ref b ∧ SqT X.K H a xs ∧ SqT X.K H b ys ∧ xs.length + ys.length ≤ sizeLine ∧
    (xs = [] → Q (.ref b) H) ∧ (xs ≠ [] → ys = [] → Q (.ref a) H) ∧ (xs ≠ [] → ys ≠ [] → ∀ p, H p = none → Q (.ref p) (upd H p (.tup (xs ++ ys))))) := by
  intro pins s σ H x y v u Q I rx ry h
  obtain ⟨a, b, xs, ys, rfl, rfl, ha, hb, hz, q0, q1, q2⟩ := h
  cases rx
  cases ry
  obtain ⟨its, r1, p1, _⟩ := I.tuple ha
  obtain ⟨its2, r2, p2, _⟩ := I.tuple hb
  refine cat_tupA p1 p2 (fun z => ⟨.ref b, H, I, rfl, q0 (r1.nil_iff.mp z)⟩) (fun z1 z => ⟨.ref a, H, I, rfl, q1 (fun w => z1 (r1.nil_iff.mpr w)) (r2.nil_iff.mp z)⟩) (fun z1 z => ?_) (by rw [← r1.length, ← r2.length]; exact hz)
  refine ⟨.ref s.heap.objs.size, _, I.laid (t' := s.toks) (o := .tup (xs ++ ys)) (fun b ob q => Heap.get?_push_of_some _ q) (Nat.le_refl _) ?_, rfl, q2 (fun w => z1 (r1.nil_iff.mpr w)) (fun w => z (r2.nil_iff.mpr w)) _ (I.hok.fresh (Nat.le_refl _))⟩
  exact ⟨by rw [List.length_append]; exact hz, _, r1.append r2, IsTup.new _ _⟩
theorem op_repT : OpR X (binaryOp .Mult) (fun x y H Q => ∃ a k xs, x = .ref a ∧ y = .int k ∧ SqT X.K H a xs ∧ xs ≠ [] ∧ 2 ≤ k ∧ k < 2 ^ 20 ∧ xs.length * k.toNat ≤ sizeLine ∧
    ∀ p, H p = none → Q (.ref p) (upd H p (.tup (List.replicate k.toNat xs).flatten))) := by
  intro pins s σ H x y v u Q I rx ry h
  obtain ⟨a, k, xs, rfl, rfl, ha, hne, h2, h3, hz, q⟩ := h
  cases rx
  obtain ⟨t, rfl⟩ := ry
  obtain ⟨its, r1, p1, _⟩ := I.tuple ha
  have hl := r1.length
  obtain ⟨⟨cls, dd, data, sl⟩, ho, hc, n, hd⟩ := id p1
  simp only at hc hd
  subst hc hd
  have f0 : List.foldl (fun x1 x2 => x1 ++ x2) #[] (List.replicate k.toNat its.toArray) = (List.replicate k.toNat its).flatten.toArray := by
    have := foldl_rep its k.toNat []
    rw [List.nil_append] at this
    exact this
  have hz' : its.toArray.size * k.toNat ≤ sizeLine := by rw [List.size_toArray, ← hl]; exact hz
  have he : its.toArray.isEmpty = false := by
    cases its with
    | nil => exact absurd (List.length_eq_zero_iff.mp hl) hne
    | cons _ _ => rfl
  refine wpAny_binaryOp_repeat_ref (T := "tuple") (U := "int") (by decide) ⟨_, ho, rfl⟩ (fun s' => typeIs_int s' k t) noFill_tuple_mul F.fills_int_mul F.slot_int_rmul repeat_tuple F.slot_int_index.lookup
    (call_meets F.slot_int_rmul (typeIs_int s k t) F.entry_int_rmul (F.args_int_rmul_2 _ _) (int_rmul_tuple k t a its.toArray n dd sl)
      ⟨ho, rfl, ⟨_, ho, rfl⟩, call_meets F.slot_tuple_mul ⟨_, ho, rfl⟩ F.entry_tuple_mul (F.args_tuple_mul_2 _ _) (tuple_mulW a its.toArray n dd sl k t he h2 h3 hz') ⟨ho, ?_⟩⟩)
  rw [f0]
  refine ⟨.ref s.heap.objs.size, _, I.laid (t' := s.toks) (o := .tup (List.replicate k.toNat xs).flatten) (fun b ob q => Heap.get?_push_of_some _ q) (Nat.le_refl _) ?_, rfl, q _ (I.hok.fresh (Nat.le_refl _))⟩
  exact ⟨by rw [len_rep, Nat.mul_comm]; exact hz, _, Vals.rep r1 _, IsTup.new _ _⟩
end
theorem tuple_indexAt (l : Addr) (items : Array Value) (n : Nat) (dd : Option Addr) (sl : Array (Option Value)) (x : Value) (e : Value → Bool) (j : Nat) (hj : j < items.size) (hit : e items[j] = true) (hno : ∀ m (hm : m < items.size), m < j → e items[m] = false) :
    Meets (Builtin.«tuple.index» ⟨[.ref l, x], []⟩)
      (fun A R s => s.heap.get? l = some { cls := .type "tuple", dict := dd, data := .seq items n, slots := sl } ∧ (∀ y, y ∈ items → SeqAt.EqAt A.in1 s y x (e y)) ∧ R (.ok (.ret (.int j s.toks))) { s with toks := s.toks + 1 }) :=
  .of_wp fun prog w A R s h => by
    obtain ⟨hp, g, d, tk, os⟩ := s; obtain ⟨hl, he, h⟩ := h
    unfold Builtin.«tuple.index»
    simp only [Std.Legacy.Range.forIn_eq_forIn_range']
    wp_walk using wpAny_loadPart' hl, wpAny_forIn_list _ (fun rest b s' => b.1 = none ∧ s' = ⟨hp, g, d, tk, os⟩ ∧ ∃ i, rest = List.range' i (items.size - i) 1 ∧ i ≤ j) _
    case turn =>
      rintro k rest b s' ⟨hb', rfl, i, hz, hij⟩
      obtain ⟨q, hq⟩ : ∃ q, items.size - i = q + 1 := ⟨items.size - i - 1, by omega⟩
      rw [hq, List.range'_succ] at hz
      injection hz with hk hr
      subst hk
      have hlt : k < items.size := by omega
      have hget : items[k]? = some items[k] := by simp [hlt]
      rw [hget]
      refine wpAny_bind (he _ (Array.getElem_mem hlt) prog w _ _ ?_)
      by_cases hji : k = j
      · subst hji
        rw [hit]
        wp_walk
        exact ⟨_, rfl, h⟩
      · rw [hno k hlt (by omega)]
        wp_walk
        exact ⟨rfl, rfl, k + 1, by rw [hr]; congr 1; omega, by omega⟩
    case fin =>
      rintro b s' ⟨hb', rfl, i, hz, hij⟩
      obtain ⟨q, hq⟩ : ∃ q, items.size - i = q + 1 := ⟨items.size - i - 1, by omega⟩
      rw [hq, List.range'_succ] at hz
      cases hz
    case h =>
      exact ⟨rfl, rfl, 0, by simp [Std.Legacy.Range.size], Nat.zero_le _⟩
end L3
namespace L3
open PySem PySem.Spec PyProof.Rows L2
noncomputable def okD : Nat → Dt → Bool
  | 0, .tup _ => false
  | n + 1, .tup xs => xs.all (okD n)
  | _, .lst _ => false
  | _, .ty _ => false
  | _, .dic _ => false
  | _, .ins _ => false
  | _, _ => true
noncomputable def eqL (f : Dt → Dt → Bool) : List Dt → List Dt → Bool
  | [], [] => true
  | x :: xs, y :: ys => f x y && eqL f xs ys
  | _, _ => false
noncomputable def eqD : Nat → Dt → Dt → Bool
  | _, .non, .non => true
  | _, .bl a, .bl b => a == b
  | _, .bl a, .int b => (if a then 1 else 0) == b
  | _, .int a, .bl b => a == (if b then 1 else 0)
  | _, .int a, .int b => a == b
  | _, .str a, .str b => a == b
  | n + 1, .tup a, .tup b => eqL (eqD n) a b
  | _, _, _ => false
theorem eqL_self {f : Dt → Dt → Bool} : ∀ {xs : List Dt}, (∀ x ∈ xs, f x x = true) → eqL f xs xs = true
  | [], _ => rfl
  | x :: xs, h => by
    unfold eqL
    rw [h x List.mem_cons_self, eqL_self fun y hy => h y (List.mem_cons_of_mem _ hy)]
    rfl
theorem eqD_self : ∀ {n : Nat} {d : Dt}, okD n d = true → eqD n d d = true
  | 0, .tup _, h => by simp [okD] at h
  | n + 1, .tup xs, h => by
    simp only [okD] at h
    simp only [eqD]
    exact eqL_self fun x hx => eqD_self (List.all_eq_true.mp h x hx)
  | n, .non, _ => by cases n <;> rfl
  | n, .bl b, _ => by cases n <;> simp [eqD]
  | n, .int b, _ => by cases n <;> simp [eqD]
  | n, .str b, _ => by cases n <;> simp [eqD]
  | n, .lst _, h => by cases n <;> simp [okD] at h
  | n, .ty _, h => by cases n <;> simp [okD] at h
  | n, .dic _, h => by cases n <;> simp [okD] at h
  | n, .ins _, h => by cases n <;> simp [okD] at h
theorem eqL_range {f : Dt → Dt → Bool} : ∀ (xs ys : List Dt), eqL f xs ys = ((List.range (min xs.length ys.length)).all (fun j => f (xs.getD j .non) (ys.getD j .non)) && xs.length == ys.length)
  | [], [] => rfl
  | [], _ :: _ => by simp [eqL]
  | _ :: _, [] => by simp [eqL]
  | x :: xs, y :: ys => by
    unfold eqL
    rw [eqL_range xs ys]
    have e : min (x :: xs).length (y :: ys).length = min xs.length ys.length + 1 := by simp [Nat.succ_min_succ]
    rw [e, List.range_succ_eq_map, List.all_cons, List.all_map]
    simp only [List.getD_cons_zero, List.length_cons]
    have e2 : ((xs.length + 1 == ys.length + 1) : Bool) = (xs.length == ys.length) := by
      rw [Bool.eq_iff_iff]; simp
    rw [e2, Bool.and_assoc]
    rfl
section
variable {X : Cx} {pins : List (Addr × Obj)} {σ : L2.St} {H : Hp} {s : Shared} {φ : Nat → Addr} {N : Nat}
theorem getD_of {xs : List Dt} {j : Nat} {d : Dt} (h : xs[j]? = some d) : xs.getD j .non = d := by simp [List.getD, h]
theorem DL_inj0 {f : Dt → Bool} (hf : ∀ {d e : Dt} {v : V}, f d = true → f e = true → D X.K φ N H d v → D X.K φ N H e v → d = e) : ∀ {a b : List Dt} {vs : List V}, DL X.K φ N H a vs → DL X.K φ N H b vs → a.all f = true → b.all f = true → a = b
  | [], [], _, _, _, _, _ => rfl
  | [], y :: b, vs, h1, h2, _, _ => by
    have := h1.length; have := h2.length; simp at *; omega
  | x :: a, [], vs, h1, h2, _, _ => by
    have := h1.length; have := h2.length; simp at *; omega
  | x :: a, y :: b, vs, h1, h2, o1, o2 => by
    rw [List.all_cons, Bool.and_eq_true] at o1 o2
    simp only [DL] at h1 h2
    obtain ⟨v, r, rfl, p1, p2⟩ := h1
    obtain ⟨v', r', e, q1, q2⟩ := h2
    cases e
    rw [hf o1.1 o2.1 p1 q1, DL_inj0 hf p2 q2 o1.2 o2.2]
theorem D_inj (I : Inv X pins σ H s) : ∀ (n : Nat) {d e : Dt} {v : V}, okD n d = true → okD n e = true → D X.K φ N H d v → D X.K φ N H e v → d = e := by
  intro n
  induction n with
  | zero =>
    intro d e v o1 o2 h1 h2
    cases d <;> cases e <;> first
      | (exfalso; revert o1; simp [okD]; done)
      | (exfalso; revert o2; simp [okD]; done)
      | (simp only [D] at h1 h2; subst h1; first | (cases h2; rfl) | (cases h2))
  | succ n ih =>
    intro d e v o1 o2 h1 h2
    cases d <;> cases e <;> first
      | (exfalso; revert o1; simp [okD]; done)
      | (exfalso; revert o2; simp [okD]; done)
      | (simp only [D] at h1 h2; subst h1; first | (cases h2; rfl) | (cases h2; done) | (obtain ⟨_, _, z, _⟩ := h2; cases z))
      | (simp only [D] at h1 h2; subst h2; obtain ⟨_, _, z, _⟩ := h1; cases z)
      | (simp only [okD] at o1 o2
         obtain ⟨p, vs, e1, hs, hd⟩ := h1.tup
         obtain ⟨q, ws, e2, hs2, hd2⟩ := h2.tup
         rw [e1] at e2
         cases e2
         have := I.tuple_inj hs hs2
         subst this
         rw [DL_inj0 (f := okD n) (fun a b c d => ih a b c d) hd hd2 o1 o2])
theorem DL_inj (I : Inv X pins σ H s) {n : Nat} {a b : List Dt} {vs : List V} (h1 : DL X.K φ N H a vs) (h2 : DL X.K φ N H b vs) (o1 : a.all (okD n) = true) (o2 : b.all (okD n) = true) : a = b :=
  DL_inj0 (fun a b c d => D_inj I n a b c d) h1 h2 o1 o2
theorem eqAt_D (I : Inv X pins σ H s) : ∀ (n : Nat) {A : Around} {d e : Dt} {v w : V} {u1 u2 : Value}, A.units + n < cLine → okD n d = true → okD n e = true → D X.K φ N H d v → D X.K φ N H e w → RelV v u1 → RelV w u2 → SeqAt.EqAt A s u1 u2 (eqD n d e)
  | n, A, .non, .non, v, w, u1, u2, hu, _, _, h1, h2, r1, r2 => by cases h1.non; cases h2.non; cases r1; cases r2; cases n <;> exact SeqAt.EqAt.same _
  | n, A, .non, .bl b, v, w, u1, u2, hu, _, _, h1, h2, r1, r2 => by cases h1.non; cases h2.bl; cases r1; cases r2; cases n <;> exact SeqAt.EqAt.none_bool b
  | n, A, .non, .int b, v, w, u1, u2, hu, _, _, h1, h2, r1, r2 => by cases h1.non; cases h2.int; cases r1; obtain ⟨t, rfl⟩ := r2; cases n <;> exact SeqAt.EqAt.none_int b t
  | n, A, .non, .str b, v, w, u1, u2, hu, _, _, h1, h2, r1, r2 => by cases h1.non; cases h2.str; cases r1; obtain ⟨t, rfl⟩ := r2; cases n <;> exact SeqAt.EqAt.none_str b t
  | n, A, .bl a, .non, v, w, u1, u2, hu, _, _, h1, h2, r1, r2 => by cases h1.bl; cases h2.non; cases r1; cases r2; cases n <;> exact SeqAt.EqAt.bool_none a
  | n, A, .bl a, .bl b, v, w, u1, u2, hu, _, _, h1, h2, r1, r2 => by cases h1.bl; cases h2.bl; cases r1; cases r2; cases n <;> exact SeqAt.EqAt.bool_bool a b
  | n, A, .bl a, .int b, v, w, u1, u2, hu, _, _, h1, h2, r1, r2 => by cases h1.bl; cases h2.int; cases r1; obtain ⟨t, rfl⟩ := r2; cases n <;> exact SeqAt.EqAt.bool_int a b t
  | n, A, .bl a, .str b, v, w, u1, u2, hu, _, _, h1, h2, r1, r2 => by cases h1.bl; cases h2.str; cases r1; obtain ⟨t, rfl⟩ := r2; cases n <;> exact SeqAt.EqAt.bool_str a b t
  | n, A, .int a, .non, v, w, u1, u2, hu, _, _, h1, h2, r1, r2 => by cases h1.int; cases h2.non; obtain ⟨t, rfl⟩ := r1; cases r2; cases n <;> exact SeqAt.EqAt.int_none a t
  | n, A, .int a, .bl b, v, w, u1, u2, hu, _, _, h1, h2, r1, r2 => by cases h1.int; cases h2.bl; obtain ⟨t, rfl⟩ := r1; cases r2; cases n <;> exact SeqAt.EqAt.int_bool a t b
  | n, A, .int a, .int b, v, w, u1, u2, hu, _, _, h1, h2, r1, r2 => by cases h1.int; cases h2.int; obtain ⟨t, rfl⟩ := r1; obtain ⟨t', rfl⟩ := r2; cases n <;> exact SeqAt.EqAt.int_int a t b t'
  | n, A, .int a, .str b, v, w, u1, u2, hu, _, _, h1, h2, r1, r2 => by cases h1.int; cases h2.str; obtain ⟨t, rfl⟩ := r1; obtain ⟨t', rfl⟩ := r2; cases n <;> exact SeqAt.EqAt.int_str a t b t'
  | n, A, .str a, .non, v, w, u1, u2, hu, _, _, h1, h2, r1, r2 => by cases h1.str; cases h2.non; obtain ⟨t, rfl⟩ := r1; cases r2; cases n <;> exact SeqAt.EqAt.str_none a t
  | n, A, .str a, .bl b, v, w, u1, u2, hu, _, _, h1, h2, r1, r2 => by cases h1.str; cases h2.bl; obtain ⟨t, rfl⟩ := r1; cases r2; cases n <;> exact SeqAt.EqAt.str_bool a t b
  | n, A, .str a, .int b, v, w, u1, u2, hu, _, _, h1, h2, r1, r2 => by cases h1.str; cases h2.int; obtain ⟨t, rfl⟩ := r1; obtain ⟨t', rfl⟩ := r2; cases n <;> exact SeqAt.EqAt.str_int a t b t'
  | n, A, .str a, .str b, v, w, u1, u2, hu, _, _, h1, h2, r1, r2 => by cases h1.str; cases h2.str; obtain ⟨t, rfl⟩ := r1; obtain ⟨t', rfl⟩ := r2; cases n <;> exact SeqAt.EqAt.str_str a t b t'
  | n, A, .tup a, .non, v, w, u1, u2, hu, _, _, h1, h2, r1, r2 => by
    obtain ⟨p, vs, rfl, hs, hd⟩ := h1.tup; cases h2.non; cases r1; cases r2; obtain ⟨its, _, ht, _⟩ := I.tuple hs; cases n <;> exact SeqAt.EqAt.tuple_none ht (by omega)
  | n, A, .tup a, .bl b, v, w, u1, u2, hu, _, _, h1, h2, r1, r2 => by
    obtain ⟨p, vs, rfl, hs, hd⟩ := h1.tup; cases h2.bl; cases r1; cases r2; obtain ⟨its, _, ht, _⟩ := I.tuple hs; cases n <;> exact SeqAt.EqAt.tuple_bool b ht (by omega)
  | n, A, .tup a, .int b, v, w, u1, u2, hu, _, _, h1, h2, r1, r2 => by
    obtain ⟨p, vs, rfl, hs, hd⟩ := h1.tup; cases h2.int; cases r1; obtain ⟨t', rfl⟩ := r2; obtain ⟨its, _, ht, _⟩ := I.tuple hs; cases n <;> exact SeqAt.EqAt.tuple_int b t' ht (by omega)
  | n, A, .tup a, .str b, v, w, u1, u2, hu, _, _, h1, h2, r1, r2 => by
    obtain ⟨p, vs, rfl, hs, hd⟩ := h1.tup; cases h2.str; cases r1; obtain ⟨t', rfl⟩ := r2; obtain ⟨its, _, ht, _⟩ := I.tuple hs; cases n <;> exact SeqAt.EqAt.tuple_str b t' ht (by omega)
  | n, A, .non, .tup b, v, w, u1, u2, hu, _, _, h1, h2, r1, r2 => by
    obtain ⟨p, vs, rfl, hs, hd⟩ := h2.tup; cases h1.non; cases r1; cases r2; obtain ⟨its, _, ht, _⟩ := I.tuple hs; cases n <;> exact SeqAt.EqAt.none_tuple ht (by omega)
  | n, A, .bl a, .tup b, v, w, u1, u2, hu, _, _, h1, h2, r1, r2 => by
    obtain ⟨p, vs, rfl, hs, hd⟩ := h2.tup; cases h1.bl; cases r1; cases r2; obtain ⟨its, _, ht, _⟩ := I.tuple hs; cases n <;> exact SeqAt.EqAt.bool_tuple a ht (by omega)
  | n, A, .int a, .tup b, v, w, u1, u2, hu, _, _, h1, h2, r1, r2 => by
    obtain ⟨p, vs, rfl, hs, hd⟩ := h2.tup; cases h1.int; obtain ⟨t', rfl⟩ := r1; cases r2; obtain ⟨its, _, ht, _⟩ := I.tuple hs; cases n <;> exact SeqAt.EqAt.int_tuple a t' ht (by omega)
  | n, A, .str a, .tup b, v, w, u1, u2, hu, _, _, h1, h2, r1, r2 => by
    obtain ⟨p, vs, rfl, hs, hd⟩ := h2.tup; cases h1.str; obtain ⟨t', rfl⟩ := r1; cases r2; obtain ⟨its, _, ht, _⟩ := I.tuple hs; cases n <;> exact SeqAt.EqAt.str_tuple a t' ht (by omega)
  | 0, A, .tup a, .tup b, v, w, u1, u2, hu, o1, _, h1, h2, r1, r2 => by simp [okD] at o1
  | n + 1, A, .tup a, .tup b, v, w, u1, u2, hu, o1, o2, h1, h2, r1, r2 => by
    simp only [okD] at o1 o2
    obtain ⟨p, vs, rfl, hs, hd⟩ := h1.tup
    obtain ⟨q, ws, rfl, hs2, hd2⟩ := h2.tup
    cases r1; cases r2
    obtain ⟨its, rv, ht, _⟩ := I.tuple hs
    obtain ⟨its2, rv2, ht2, _⟩ := I.tuple hs2
    have l1 : its.toArray.size = a.length := by rw [List.size_toArray, ← rv.length, hd.length]
    have l2 : its2.toArray.size = b.length := by rw [List.size_toArray, ← rv2.length, hd2.length]
    have hu' : A.in1.units + n < cLine := by show A.units + 1 + n < cLine; omega
    have rc : SeqAt.RcAt A s (.ref p) (.ref q) (eqD (n + 1) (.tup a) (.tup b)) := by
      have := SeqAt.RcAt.tuples (A := A) (s := s) (e := fun j => eqD n (a.getD j .non) (b.getD j .non)) ht ht2 (by omega) (fun j h1 h2 => by
        have hj1 : j < a.length := by rw [← l1]; exact h1
        have hj2 : j < b.length := by rw [← l2]; exact h2
        have ea : a[j]? = some a[j] := by simp [hj1]
        have eb : b[j]? = some b[j] := by simp [hj2]
        obtain ⟨x, ex, dx⟩ := hd.get ea
        obtain ⟨y, ey, dy⟩ := hd2.get eb
        obtain ⟨ux, eux, rx⟩ := rv.get ex
        obtain ⟨uy, euy, ry⟩ := rv2.get ey
        have gx : its.toArray[j] = ux := by
          have : its[j]? = some its[j] := by simp at h1; simp [h1]
          rw [eux] at this
          simpa using (Option.some.inj this).symm
        have gy : its2.toArray[j] = uy := by
          have : its2[j]? = some its2[j] := by simp at h2; simp [h2]
          rw [euy] at this
          simpa using (Option.some.inj this).symm
        rw [gx, gy, getD_of ea, getD_of eb]
        exact eqAt_D I n hu' (List.all_eq_true.mp o1 _ (List.getElem_mem hj1)) (List.all_eq_true.mp o2 _ (List.getElem_mem hj2)) dx dy rx ry)
      rw [l1, l2] at this
      simp only [eqD]
      rw [eqL_range]
      exact this
    by_cases hpq : p = q
    · subst hpq
      have : eqD (n + 1) (.tup a) (.tup b) = true ∨ eqD (n + 1) (.tup a) (.tup b) = false := by cases eqD (n + 1) (.tup a) (.tup b) <;> simp
      have e1 : its = its2 := by
        obtain ⟨o, e, _, m, d⟩ := ht
        obtain ⟨o', e', _, m', d'⟩ := ht2
        rw [e] at e'; cases e'
        rw [d] at d'
        injection d' with d1 _
        simpa using congrArg Array.toList d1
      have ev : vs = ws := by subst e1; exact rv.inj rv2
      have eab : a = b := by
        subst ev
        exact DL_inj I hd hd2 o1 o2
      subst eab
      rw [eqD_self (by simp only [okD]; exact o1)]
      exact SeqAt.EqAt.same _
    · exact SeqAt.EqAt.of_refs hpq rc
  | n, A, .lst _, _, v, w, u1, u2, hu, o1, _, h1, h2, r1, r2 => by cases n <;> simp [okD] at o1
  | n, A, .ty _, _, v, w, u1, u2, hu, o1, _, h1, h2, r1, r2 => by cases n <;> simp [okD] at o1
  | n, A, .dic _, _, v, w, u1, u2, hu, o1, _, h1, h2, r1, r2 => by cases n <;> simp [okD] at o1
  | n, A, .ins _, _, v, w, u1, u2, hu, o1, _, h1, h2, r1, r2 => by cases n <;> simp [okD] at o1
  | n, A, .non, .lst _, v, w, u1, u2, hu, _, o1, h1, h2, r1, r2 => by cases n <;> simp [okD] at o1
  | n, A, .non, .ty _, v, w, u1, u2, hu, _, o1, h1, h2, r1, r2 => by cases n <;> simp [okD] at o1
  | n, A, .non, .dic _, v, w, u1, u2, hu, _, o1, h1, h2, r1, r2 => by cases n <;> simp [okD] at o1
  | n, A, .non, .ins _, v, w, u1, u2, hu, _, o1, h1, h2, r1, r2 => by cases n <;> simp [okD] at o1
  | n, A, .bl _, .lst _, v, w, u1, u2, hu, _, o1, h1, h2, r1, r2 => by cases n <;> simp [okD] at o1
  | n, A, .bl _, .ty _, v, w, u1, u2, hu, _, o1, h1, h2, r1, r2 => by cases n <;> simp [okD] at o1
  | n, A, .bl _, .dic _, v, w, u1, u2, hu, _, o1, h1, h2, r1, r2 => by cases n <;> simp [okD] at o1
  | n, A, .bl _, .ins _, v, w, u1, u2, hu, _, o1, h1, h2, r1, r2 => by cases n <;> simp [okD] at o1
  | n, A, .int _, .lst _, v, w, u1, u2, hu, _, o1, h1, h2, r1, r2 => by cases n <;> simp [okD] at o1
  | n, A, .int _, .ty _, v, w, u1, u2, hu, _, o1, h1, h2, r1, r2 => by cases n <;> simp [okD] at o1
  | n, A, .int _, .dic _, v, w, u1, u2, hu, _, o1, h1, h2, r1, r2 => by cases n <;> simp [okD] at o1
  | n, A, .int _, .ins _, v, w, u1, u2, hu, _, o1, h1, h2, r1, r2 => by cases n <;> simp [okD] at o1
  | n, A, .str _, .lst _, v, w, u1, u2, hu, _, o1, h1, h2, r1, r2 => by cases n <;> simp [okD] at o1
  | n, A, .str _, .ty _, v, w, u1, u2, hu, _, o1, h1, h2, r1, r2 => by cases n <;> simp [okD] at o1
  | n, A, .str _, .dic _, v, w, u1, u2, hu, _, o1, h1, h2, r1, r2 => by cases n <;> simp [okD] at o1
  | n, A, .str _, .ins _, v, w, u1, u2, hu, _, o1, h1, h2, r1, r2 => by cases n <;> simp [okD] at o1
  | n, A, .tup _, .lst _, v, w, u1, u2, hu, _, o1, h1, h2, r1, r2 => by cases n <;> simp [okD] at o1
  | n, A, .tup _, .ty _, v, w, u1, u2, hu, _, o1, h1, h2, r1, r2 => by cases n <;> simp [okD] at o1
  | n, A, .tup _, .dic _, v, w, u1, u2, hu, _, o1, h1, h2, r1, r2 => by cases n <;> simp [okD] at o1
  | n, A, .tup _, .ins _, v, w, u1, u2, hu, _, o1, h1, h2, r1, r2 => by cases n <;> simp [okD] at o1
end
end L3
namespace L3
open PySem PySem.Spec PyProof.Rows L2
noncomputable abbrev RD2 := Dt → Dt → Sto → VD → Prop
noncomputable abbrev RDL := List Dt → Sto → VD → Prop
noncomputable def liftR (K : PySem.W.Frag) (r : RD2) : R2 := fun v w H Q => ∃ φ st x y P, Rep K φ st H ∧ D K φ st.length H x v ∧ D K φ st.length H y w ∧ r x y st P ∧
  ∀ d st', P d st' → ∀ φ' H' u, Bhd K φ st H φ' st' H' → D K φ' st'.length H' d u → Q u H'
noncomputable def liftC (K : PySem.W.Frag) (r : RDL) : List V → Hp → VK → Prop := fun vs H Q => ∃ φ st ds P, Rep K φ st H ∧ DL K φ st.length H ds vs ∧ r ds st P ∧
  ∀ d st', P d st' → ∀ φ' H' u, Bhd K φ st H φ' st' H' → D K φ' st'.length H' d u → Q u H'
noncomputable def OpD (X : Cx) (f : Value → Value → Sem Value) (r : RD2) : Prop := OpR X f (liftR X.K r)
noncomputable def CallD (X : Cx) (f : Value) (r : RDL) : Prop := CallR X f (liftC X.K r)
noncomputable def tvar (i : Nat) : TD := fun ρ st P => match ρ[i]? with
  | some (some d) => P d st
  | _ => False
noncomputable def tcon (d : Dt) : TD := fun _ st P => P d st
noncomputable def tbin (r : RD2) (ta tb : TD) : TD := fun ρ st P => ta ρ st fun x st1 => tb ρ st1 fun y st2 => r x y st2 P
noncomputable def tcall (r : RDL) (t : TAD) : TD := fun ρ st P => t ρ st fun ds st1 => r ds st1 P
section
variable {K : PySem.W.Frag} {r : RD2} {ta tb : TD} {σ : L2.St} {H : Hp} {Q : VK} {R : RDL} {t : TAD}
theorem bin_lift (h : liftE K (tbin r ta tb) σ H Q) : tOp (liftR K r) (liftE K ta) (liftE K tb) σ H Q := by
  obtain ⟨φ, st, ρ, P, pre, ht, hq⟩ := h
  refine ⟨φ, st, ρ, _, pre, ht, fun x st1 h1 φ1 H1 v b1 dx => ?_⟩
  refine ⟨φ1, st1, ρ, _, pre.on b1, h1, fun y st2 h2 φ2 H2 w b2 dy => ?_⟩
  exact ⟨φ2, st2, x, y, P, b2.1, dx.evo b2.2, dy, h2, fun d st' hp φ' H' u b3 du => hq d st' hp φ' H' u (b1.trans (b2.trans b3)) du⟩
theorem call_lift (h : liftE K (tcall R t) σ H Q) : tCB (liftC K R) (liftA K t) σ H Q := by
  obtain ⟨φ, st, ρ, P, pre, ht, hq⟩ := h
  refine ⟨φ, st, ρ, _, pre, ht, fun ds st1 h1 φ1 H1 vs b1 dx => ?_⟩
  exact ⟨φ1, st1, ds, P, b1.1, dx, h1, fun d st' hp φ' H' u b3 du => hq d st' hp φ' H' u (b1.trans b3) du⟩
end
section
variable {X : Cx} {a b c e : Expr} {es : List Expr} {ta tb tc t : TD} {tas : TAD} {pos : Pos}
theorem de_var (i : Nat) {x : Str} (hN : X.N[i]? = some x := by rfl) (hv : Vis X.env.scope x := by first | exact Or.inl rfl | exact Or.inr (Or.inl rfl) | exact Or.inr (Or.inr rfl)) (hd : (x == ("__debug__" : Str)) = false := by decide)
    (hcd : (x == ("__classdict__" : Str)) = false := by decide) : DE X (.Name x pos) (tvar i) := (pe_var hN hv hd hcd).imp fun σ H Q h => by
  obtain ⟨φ, st, ρ, P, pre, ht, hq⟩ := h
  unfold tvar at ht
  split at ht
  · rename_i d e
    obtain ⟨v, e1, e2⟩ := pre.2.2 i d e
    exact ⟨v, e1, hq d st ht φ H v (.refl pre.1) e2⟩
  · exact ht.elim
theorem con_lift {d : Dt} {v : V} {K : PySem.W.Frag} (h : ∀ φ N H, D K φ N H d v) : ∀ (σ : L2.St) H Q, liftE K (tcon d) σ H Q → tC v σ H Q := fun σ H Q h' => by
  obtain ⟨φ, st, ρ, P, pre, ht, hq⟩ := h'
  exact hq d st ht φ H v (.refl pre.1) (h _ _ _)
theorem de_int {i j pos} : DE X (.Constant (.int i) j pos) (tcon (.int i)) := (pe_int).imp (con_lift fun _ _ _ => D.mkInt)
theorem de_bl {i j pos} : DE X (.Constant (.bool i) j pos) (tcon (.bl i)) := (pe_bl).imp (con_lift fun _ _ _ => D.mkBl)
theorem de_non {j pos} : DE X (.Constant .none j pos) (tcon .non) := (pe_non).imp (con_lift fun _ _ _ => D.mkNon)
theorem de_str {i j pos} : DE X (.Constant (.str i) j pos) (tcon (.str i)) := (pe_str).imp (con_lift fun _ _ _ => D.mkStr)
theorem de_ty {x : Str} {T : String} (hm : X.mg x = none) (hv : bootBuiltins x = some (.type T)) (hg : Gl X x := by rfl) (hn : x ≠ "__name__" := by decide) (hd : (x == ("__debug__" : Str)) = false := by decide) : DE X (.Name x pos) (tcon (.ty T)) :=
  (pe_bltn (v := .ty T) hg hm hv rfl hn hd).imp (con_lift fun _ _ _ => D.mkTy)
theorem de_glob {x : Str} {d : Dt} {v : V} {u : Value} (hm : X.mg x = some u) (r : RelV v u) (hD : ∀ φ N H, D X.K φ N H d v) (hg : Gl X x := by rfl) (hd : (x == ("__debug__" : Str)) = false := by decide) : DE X (.Name x pos) (tcon d) :=
  (pe_glob hg hm r hd).imp (con_lift hD)
theorem de_op {op : Operator} {r : RD2} (ho : OpD X (binaryOp op) r) (ha : DE X a ta) (hb : DE X b tb) : DE X (.BinOp a op b pos) (tbin r ta tb) := (pe_op ho ha hb).imp fun _ _ _ => bin_lift
theorem de_cmp {op : CmpOp} {r : RD2} (ho : OpD X (compareOp op) r) (ha : DE X a ta) (hb : DE X b tb) (hm : behindInMarks op b = false := by first | exact nomark _ | with_unfolding_all rfl) : DE X (.Compare a [op] [b] pos) (tbin r ta tb) := (pe_cmpR ho ha hb hm).imp fun _ _ _ => bin_lift
noncomputable def tbool (t : TD) : TBD := fun ρ st P => t ρ st fun x st1 => match x with
  | .bl k => P k st1
  | _ => False
theorem bool_lift {K : PySem.W.Frag} {t : TD} {σ : L2.St} {H : Hp} {Q : Bool → Hp → Prop} (h : liftT K (tbool t) σ H Q) : liftE K t σ H fun x H' => ∃ k, x = .bl k ∧ Q k H' := by
  obtain ⟨φ, st, ρ, P, pre, ht, hq⟩ := h
  refine ⟨φ, st, ρ, _, pre, ht, fun d st1 h1 φ1 H1 v b1 dx => ?_⟩
  cases d with
  | bl k => exact ⟨k, dx.bl, hq k st1 h1 φ1 H1 b1⟩
  | _ => exact h1.elim
theorem dt_cmp {op : CmpOp} {r : RD2} (ho : OpD X (compareOp op) r) (ha : DE X a ta) (hb : DE X b tb) (hm : behindInMarks op b = false := by first | exact nomark _ | with_unfolding_all rfl) : DT X (.Compare a [op] [b] pos) (tbool (tbin r ta tb)) :=
  (pt_cmpR ho ha hb hm).imp fun σ H Q h => bin_lift (bool_lift h)
theorem dt_val (h : DE X e t) (he : ∀ whole, isTrue e X.env whole = (do let v ← whole; standAt e.pos; holding [v] (truthy v)) := by intro _; rfl) : DT X e (tbool t) := (pt_val h he).imp fun σ H Q h => bool_lift h
noncomputable def tnotB (t : TBD) : TBD := fun ρ st P => t ρ st fun k st1 => P (!k) st1
theorem dt_not {t : TBD} (h : DT X a t) : DT X (.UnaryOp .Not a pos) (tnotB t) := (pt_not h).imp fun σ H Q h => by
  obtain ⟨φ, st, ρ, P, pre, ht, hq⟩ := h
  exact ⟨φ, st, ρ, _, pre, ht, fun k st1 h1 φ1 H1 b1 => hq _ st1 h1 φ1 H1 b1⟩
noncomputable def DW (X : Cx) (e : Expr) (t : TBD) : Prop := PW X e (liftT X.K t)
theorem PW.imp {X : Cx} {e : Expr} {t t' : TT} (h : PW X e t) (i : ∀ σ H Q, t' σ H Q → t σ H Q) : PW X e t' := fun wh pins s σ H Q I q => h wh pins s σ H Q I (i σ H Q q)
noncomputable def tandB (t u : TBD) : TBD := fun ρ st P => t ρ st fun k st1 => if k = true then u ρ st1 P else P false st1
noncomputable def torB (t u : TBD) : TBD := fun ρ st P => t ρ st fun k st1 => if k = true then P true st1 else u ρ st1 P
variable {tA tB' : TBD} {rest : List Expr}
theorem dw_and1 (h : DT X a tA) : DW X (.BoolOp .And [a] pos) tA := pw_and1 h
theorem dw_or1 (h : DT X a tA) : DW X (.BoolOp .Or [a] pos) tA := pw_or1 h
theorem dw_and (ha : DT X a tA) (hb : DW X (.BoolOp .And (b :: rest) pos) tB') : DW X (.BoolOp .And (a :: b :: rest) pos) (tandB tA tB') := PW.imp (pw_and ha hb) fun σ H Q h => by
  obtain ⟨φ, st, ρ, P, pre, ht, hq⟩ := h
  refine ⟨φ, st, ρ, _, pre, ht, fun k st1 h1 φ1 H1 b1 => ?_⟩
  cases k with
  | true =>
    rw [if_pos rfl] at h1 ⊢
    exact ⟨φ1, st1, ρ, P, pre.on b1, h1, fun k st2 h2 φ2 H2 b2 => hq k st2 h2 φ2 H2 (b1.trans b2)⟩
  | false =>
    rw [if_neg Bool.false_ne_true] at h1 ⊢
    exact hq false st1 h1 φ1 H1 b1
theorem dw_or (ha : DT X a tA) (hb : DW X (.BoolOp .Or (b :: rest) pos) tB') : DW X (.BoolOp .Or (a :: b :: rest) pos) (torB tA tB') := PW.imp (pw_or ha hb) fun σ H Q h => by
  obtain ⟨φ, st, ρ, P, pre, ht, hq⟩ := h
  refine ⟨φ, st, ρ, _, pre, ht, fun k st1 h1 φ1 H1 b1 => ?_⟩
  cases k with
  | false =>
    rw [if_neg Bool.false_ne_true] at h1 ⊢
    exact ⟨φ1, st1, ρ, P, pre.on b1, h1, fun k st2 h2 φ2 H2 b2 => hq k st2 h2 φ2 H2 (b1.trans b2)⟩
  | true =>
    rw [if_pos rfl] at h1 ⊢
    exact hq true st1 h1 φ1 H1 b1
theorem dt_of {tA : TBD} (h : DW X e tA) : DT X e tA := h _
noncomputable def tandV (t u : TD) : TD := fun ρ st P => t ρ st fun x st1 => match x with
  | .bl k => if k = true then u ρ st1 P else P (.bl false) st1
  | _ => False
noncomputable def torV (t u : TD) : TD := fun ρ st P => t ρ st fun x st1 => match x with
  | .bl k => if k = true then P (.bl true) st1 else u ρ st1 P
  | _ => False
noncomputable def tnotV (t : TD) : TD := fun ρ st P => t ρ st fun x st1 => match x with
  | .bl k => P (.bl (!k)) st1
  | _ => False
noncomputable def tifE (c : TBD) (t u : TD) : TD := fun ρ st P => c ρ st fun k st1 => if k = true then t ρ st1 P else u ρ st1 P
theorem de_if {tC : TBD} (hc : DT X c tC) (ha : DE X a ta) (hb : DE X b tb) : DE X (.IfExp c a b pos) (tifE tC ta tb) := (pe_ifExp hc ha hb).imp fun σ H Q h => by
  obtain ⟨φ, st, ρ, P, pre, ht, hq⟩ := h
  refine ⟨φ, st, ρ, _, pre, ht, fun k st1 h1 φ1 H1 b1 => ?_⟩
  cases k with
  | true => exact iteT ⟨φ1, st1, ρ, P, pre.on b1, (by rw [if_pos rfl] at h1; exact h1), fun k st2 h2 φ2 H2 v2 b2 => hq k st2 h2 φ2 H2 v2 (b1.trans b2)⟩
  | false => exact iteF ⟨φ1, st1, ρ, P, pre.on b1, (by rw [if_neg Bool.false_ne_true] at h1; exact h1), fun k st2 h2 φ2 H2 v2 b2 => hq k st2 h2 φ2 H2 v2 (b1.trans b2)⟩
noncomputable def tanil : TAD := fun _ st P => P [] st
noncomputable def tacons (t : TD) (u : TAD) : TAD := fun ρ st P => t ρ st fun x st1 => u ρ st1 fun xs st2 => P (x :: xs) st2
theorem da_nil : DA X [] tanil := (pa_nil).imp fun σ H Q h => by
  obtain ⟨φ, st, ρ, P, pre, ht, hq⟩ := h
  exact hq [] st ht φ H [] (.refl pre.1) .nil
theorem da_cons (ha : DE X e t) (hr : DA X es tas) (hs : starEach (e :: es) X.env = (false, eval e X.env) :: starEach es X.env := by rfl) : DA X (e :: es) (tacons t tas) := (pa_cons ha hr hs).imp fun σ H Q h => by
  obtain ⟨φ, st, ρ, P, pre, ht, hq⟩ := h
  refine ⟨φ, st, ρ, _, pre, ht, fun x st1 h1 φ1 H1 v b1 dx => ?_⟩
  refine ⟨φ1, st1, ρ, _, pre.on b1, h1, fun xs st2 h2 φ2 H2 vs b2 dxs => ?_⟩
  exact hq _ st2 h2 φ2 H2 _ (b1.trans b2) (.cons (dx.evo b2.2) dxs)
noncomputable def ttup (t : TAD) : TD := fun ρ st P => t ρ st fun ds st1 => ds.length ≤ sizeLine ∧ P (.tup ds) st1
noncomputable def tlst (t : TAD) : TD := fun ρ st P => t ρ st fun ds st1 => ds.length ≤ sizeLine ∧ P (.lst st1.length) (st1 ++ [.rw ds])
theorem bhd_tup {K : PySem.W.Frag} {φ : Nat → Addr} {st : Sto} {H : Hp} {p : Addr} {o : HO} (R : Rep K φ st H) (hp : H p = none) : Bhd K φ st H φ st (upd H p o) := ⟨R.laid hp, evo_new hp⟩
theorem bhd_lst {K : PySem.W.Frag} {φ : Nat → Addr} {st : Sto} {H : Hp} {p : Addr} {ds : List Dt} {vs : List V} (R : Rep K φ st H) (hp : H p = none) (hd : DL K φ st.length H ds vs) :
    Bhd K φ st H (phiNew φ st.length p) (st ++ [.rw ds]) (upd H p (.lst vs)) := ⟨R.newL hp hd, evo_lst hp⟩
theorem d_new {K : PySem.W.Frag} {φ : Nat → Addr} {st : Sto} {H : Hp} {p : Addr} {ds : List Dt} {vs : List V} : D K (phiNew φ st.length p) (st ++ [SO.rw ds]).length (upd H p (.lst vs)) (.lst st.length) (.ref p) := by
  have := D.mkLst (K := K) (φ := phiNew φ st.length p) (H := upd H p (.lst vs)) (n := st.length) (N := (st ++ [SO.rw ds]).length) (by simp) (by rw [phi_at]; exact ⟨vs, SqL.of upd_same⟩)
  rw [phi_at] at this
  exact this
theorem de_tup {x1} (h : DA X es tas) : DE X (.Tuple es x1 pos) (ttup tas) := (pe_tup h).imp fun σ H Q h => by
  obtain ⟨φ, st, ρ, P, pre, ht, hq⟩ := h
  refine ⟨φ, st, ρ, _, pre, ht, fun ds st1 h1 φ1 H1 vs b1 dx => ⟨by rw [← dx.length]; exact h1.1, fun p hp => ?_⟩⟩
  exact hq _ st1 h1.2 φ1 _ _ (b1.trans (bhd_tup b1.1 hp)) (.mkTup (SqT.of upd_same) (dx.evo (evo_new hp)))
theorem de_lst (h : DA X es tas) : DE X (.List es pos) (tlst tas) := (pe_lst h).imp fun σ H Q h => by
  obtain ⟨φ, st, ρ, P, pre, ht, hq⟩ := h
  refine ⟨φ, st, ρ, _, pre, ht, fun ds st1 h1 φ1 H1 vs b1 dx => ⟨by rw [← dx.length]; exact h1.1, fun p hp => ?_⟩⟩
  exact hq _ _ h1.2 _ _ _ (b1.trans (bhd_lst b1.1 hp dx)) d_new
end
end L3
namespace L3
open PySem PySem.Spec PyProof.Rows L2
noncomputable def rAdd : RD2 := fun x y st P => match x, y with
  | .int i, .int j => P (.int (i + j)) st
  | .str i, .str j => i.length + j.length ≤ sizeLine ∧ P (.str (i ++ j)) st
  | .tup i, .tup j => i.length + j.length ≤ sizeLine ∧ P (.tup (i ++ j)) st
  | .lst n, .lst m => match st[n]?, st[m]? with
    | some (.rw xs), some (.rw ys) => xs.length + ys.length ≤ sizeLine ∧ P (.lst st.length) (st ++ [.rw (xs ++ ys)])
    | _, _ => False
  | _, _ => False
noncomputable def rMul : RD2 := fun x y st P => match x, y with
  | .int i, .int j => CMul i j ∧ P (.int (i * j)) st
  | .tup xs, .int k => xs ≠ [] ∧ 2 ≤ k ∧ k < 2 ^ 20 ∧ xs.length * k.toNat ≤ sizeLine ∧ P (.tup (List.replicate k.toNat xs).flatten) st
  | .lst n, .int k => match st[n]? with
    | some (.rw xs) => 0 ≤ k ∧ k < 2 ^ 20 ∧ xs.length * k.toNat ≤ sizeLine ∧ P (.lst st.length) (st ++ [.rw (List.replicate k.toNat xs).flatten])
    | _ => False
  | _, _ => False
noncomputable def rDiv : RD2 := fun x y st P => match x, y with
  | .int i, .int j => CDiv i j ∧ P (.int (i / j)) st
  | _, _ => False
noncomputable def rMod : RD2 := fun x y st P => match x, y with
  | .int i, .int j => 0 < j ∧ P (.int (i % j)) st
  | _, _ => False
noncomputable def rCmpI (p : Int → Int → Bool) : RD2 := fun x y st P => match x, y with
  | .int i, .int j => P (.bl (p i j)) st
  | _, _ => False
noncomputable def rEqD (neg : Bool) : RD2 := fun x y st P => match x, y with
  | .lst n, .lst m => match st[n]?, st[m]? with
    | some a, some b => a.items.all (okD 8) = true ∧ b.items.all (okD 8) = true ∧ P (.bl (eqL (eqD 8) a.items b.items != neg)) st
    | _, _ => False
  | x, y => okD 8 x = true ∧ okD 8 y = true ∧ P (.bl (eqD 8 x y != neg)) st
noncomputable def rIsD (neg : Bool) : RD2 := fun x y st P => match x, y with
  | .bl a, .bl b => P (.bl ((a == b) != neg)) st
  | .non, .non => P (.bl (true != neg)) st
  | .bl _, .non => P (.bl (false != neg)) st
  | .int _, .non => P (.bl (false != neg)) st
  | .str _, .non => P (.bl (false != neg)) st
  | .tup _, .non => P (.bl (false != neg)) st
  | .lst _, .non => P (.bl (false != neg)) st
  | _, _ => False
noncomputable def seqOf (st : Sto) : Dt → Option (List Dt)
  | .tup xs => some xs
  | .lst n => (st[n]?).map SO.items
  | _ => none
noncomputable def rInD (neg : Bool) : RD2 := fun x y st P => match x, y with
  | .str i, .str j => P (.bl ((!(Builtin.Str.occurrences j i 0 j.length 1).isEmpty) != neg)) st
  | x, y => match seqOf st y with
    | some xs => okD 0 x = true ∧ xs.all (okD 0) = true ∧ P (.bl (xs.any (fun z => eqD 0 z x) != neg)) st
    | none => False
section
variable {X : Cx} {K : PySem.W.Frag} {φ : Nat → Addr} {st : Sto} {H : Hp} {P : VD} {Q : VK} {d : Dt} {v : V}
noncomputable abbrev Go (K : PySem.W.Frag) (φ : Nat → Addr) (st : Sto) (H : Hp) (P : VD) (Q : VK) : Prop := ∀ d st', P d st' → ∀ φ' H' u, Bhd K φ st H φ' st' H' → D K φ' st'.length H' d u → Q u H'
theorem Go.here (g : Go K φ st H P Q) (R : Rep K φ st H) (hp : P d st) (hd : D K φ st.length H d v) : Q v H := g d st hp φ H v (.refl R) hd
theorem od_add : OpD X (binaryOp .Add) rAdd := by
  intro pins s σ H v w u1 u2 Q I r1 r2 h
  obtain ⟨φ, st, x, y, P, R, dx, dy, hr, hq⟩ := h
  cases x with
  | int i =>
    cases y with
    | int j => exact op_add pins s σ H v w u1 u2 Q I r1 r2 ⟨i, j, dx.int, dy.int, Go.here hq R hr D.mkInt⟩
    | _ => exact hr.elim
  | str i =>
    cases y with
    | str j => exact op_add_str pins s σ H v w u1 u2 Q I r1 r2 ⟨i, j, dx.str, dy.str, hr.1, Go.here hq R hr.2 D.mkStr⟩
    | _ => exact hr.elim
  | tup i =>
    cases y with
    | tup j =>
      obtain ⟨a, vs, e1, s1, d1⟩ := dx.tup
      obtain ⟨b, ws, e2, s2, d2⟩ := dy.tup
      have l1 := d1.length
      have l2 := d2.length
      have hr1 : i.length + j.length ≤ sizeLine := hr.1
      have hr2 : P (.tup (i ++ j)) st := hr.2
      refine op_catA pins s σ H v w u1 u2 Q I r1 r2 ⟨a, b, vs, ws, e1, e2, s1, s2, by omega, fun z => ?_, fun z1 z2 => ?_, fun z1 z2 p hp => ?_⟩
      · rw [z] at l1
        have : i = [] := List.length_eq_zero_iff.mp l1
        rw [this, List.nil_append] at hr2
        exact Go.here hq R hr2 (.mkTup s2 d2)
      · rw [z2] at l2
        have : j = [] := List.length_eq_zero_iff.mp l2
        rw [this, List.append_nil] at hr2
        exact Go.here hq R hr2 (.mkTup s1 d1)
      · exact hq _ st hr2 φ _ _ (bhd_tup R hp) (.mkTup (SqT.of upd_same) ((d1.append d2).evo (evo_new hp)))
    | _ => exact hr.elim
  | lst n =>
    cases y with
    | lst m =>
      have hr' : match st[n]?, st[m]? with
        | some (.rw xs), some (.rw ys) => xs.length + ys.length ≤ sizeLine ∧ P (.lst st.length) (st ++ [.rw (xs ++ ys)])
        | _, _ => False := hr
      split at hr'
      · rename_i xs ys e1 e2
        obtain ⟨vs, h1, d1⟩ := R.rw n xs e1
        obtain ⟨ws, h2, d2⟩ := R.rw m ys e2
        have l1 := d1.length
        have l2 := d2.length
        have z := hr'.1
        exact op_cat pins s σ H v w u1 u2 Q I r1 r2 ⟨φ n, φ m, vs, ws, dx.lst.2, dy.lst.2, h1, h2, by omega, fun p hp => hq _ _ hr'.2 _ _ _ (bhd_lst R hp (d1.append d2)) d_new⟩
      · exact hr'.elim
    | _ => exact hr.elim
  | _ => cases y <;> exact hr.elim
theorem od_mul : OpD X (binaryOp .Mult) rMul := by
  intro pins s σ H v w u1 u2 Q I r1 r2 h
  obtain ⟨φ, st, x, y, P, R, dx, dy, hr, hq⟩ := h
  cases x with
  | int i =>
    cases y with
    | int j => exact op_mul pins s σ H v w u1 u2 Q I r1 r2 ⟨i, j, dx.int, dy.int, hr.1, Go.here hq R hr.2 D.mkInt⟩
    | _ => exact hr.elim
  | tup xs =>
    cases y with
    | int k =>
      obtain ⟨a, vs, e1, s1, d1⟩ := dx.tup
      obtain ⟨h1, h2, h3, h4, h5⟩ : xs ≠ [] ∧ 2 ≤ k ∧ k < 2 ^ 20 ∧ xs.length * k.toNat ≤ sizeLine ∧ P (.tup (List.replicate k.toNat xs).flatten) st := hr
      have rep : ∀ m : Nat, DL X.K φ st.length H (List.replicate m xs).flatten (List.replicate m vs).flatten := fun m => by
        induction m with
        | zero => exact .nil
        | succ m ih => rw [List.replicate_succ, List.replicate_succ, List.flatten_cons, List.flatten_cons]; exact d1.append ih
      refine op_repT pins s σ H v w u1 u2 Q I r1 r2 ⟨a, k, vs, e1, dy.int, s1, fun z => ?_, h2, h3, by rw [← d1.length]; exact h4, fun p hp => ?_⟩
      · have := d1.length
        rw [z] at this
        exact h1 (List.length_eq_zero_iff.mp this)
      · exact hq _ st h5 φ _ _ (bhd_tup R hp) (.mkTup (SqT.of upd_same) ((rep _).evo (evo_new hp)))
    | _ => exact hr.elim
  | lst n =>
    cases y with
    | int k =>
      have hr' : match st[n]? with
        | some (.rw xs) => 0 ≤ k ∧ k < 2 ^ 20 ∧ xs.length * k.toNat ≤ sizeLine ∧ P (.lst st.length) (st ++ [.rw (List.replicate k.toNat xs).flatten])
        | _ => False := hr
      split at hr'
      · rename_i xs e1
        obtain ⟨vs, h1, d1⟩ := R.rw n xs e1
        obtain ⟨g1, g2, g3, g4⟩ := hr'
        have rep : ∀ m : Nat, DL X.K φ st.length H (List.replicate m xs).flatten (List.replicate m vs).flatten := fun m => by
          induction m with
          | zero => exact .nil
          | succ m ih => rw [List.replicate_succ, List.replicate_succ, List.flatten_cons, List.flatten_cons]; exact d1.append ih
        exact op_rep pins s σ H v w u1 u2 Q I r1 r2 ⟨φ n, k, vs, dx.lst.2, dy.int, h1, by omega, by omega, by rw [← d1.length]; exact g3, fun p hp => hq _ _ g4 _ _ _ (bhd_lst R hp (rep _)) d_new⟩
      · exact hr'.elim
    | _ => exact hr.elim
  | _ => cases y <;> exact hr.elim
theorem od_div : OpD X (binaryOp .FloorDiv) rDiv := by
  intro pins s σ H v w u1 u2 Q I r1 r2 h
  obtain ⟨φ, st, x, y, P, R, dx, dy, hr, hq⟩ := h
  cases x with
  | int i =>
    cases y with
    | int j => exact op_fdiv pins s σ H v w u1 u2 Q I r1 r2 ⟨i, j, dx.int, dy.int, hr.1, Go.here hq R hr.2 D.mkInt⟩
    | _ => exact hr.elim
  | _ => cases y <;> exact hr.elim
theorem od_mod : OpD X (binaryOp .Mod) rMod := by
  intro pins s σ H v w u1 u2 Q I r1 r2 h
  obtain ⟨φ, st, x, y, P, R, dx, dy, hr, hq⟩ := h
  cases x with
  | int i =>
    cases y with
    | int j => exact op_mod pins s σ H v w u1 u2 Q I r1 r2 ⟨i, j, dx.int, dy.int, hr.1, Go.here hq R hr.2 D.mkInt⟩
    | _ => exact hr.elim
  | _ => cases y <;> exact hr.elim
theorem od_cmpI {op : CmpOp} {p : Int → Int → Bool} (ho : OpR X (compareOp op) (rI0 fun i j => .bl (p i j))) : OpD X (compareOp op) (rCmpI p) := by
  intro pins s σ H v w u1 u2 Q I r1 r2 h
  obtain ⟨φ, st, x, y, P, R, dx, dy, hr, hq⟩ := h
  cases x with
  | int i =>
    cases y with
    | int j => exact ho pins s σ H v w u1 u2 Q I r1 r2 ⟨i, j, dx.int, dy.int, Go.here hq R hr D.mkBl⟩
    | _ => exact hr.elim
  | _ => cases y <;> exact hr.elim
theorem od_le : OpD X (compareOp .LtE) (rCmpI fun i j => decide (i ≤ j)) := od_cmpI op_le
theorem od_gt : OpD X (compareOp .Gt) (rCmpI fun i j => decide (j < i)) := od_cmpI op_gt
theorem bne_false' (k : Bool) : (k != false) = k := by cases k <;> rfl
theorem bne_true' (k : Bool) : (k != true) = !k := by cases k <;> rfl
theorem fin_bool {pins : List (Addr × Obj)} {σ : L2.St} {s : Shared} (I : Inv X pins σ H s) (g : Go X.K φ st H P Q) (R : Rep X.K φ st H) {k k' : Bool} (hp : P (.bl k) st) (e : k = k') : EP X pins σ Q (.bool k') s := by
  subst e
  exact ⟨.bl k, H, I, rfl, Go.here g R hp D.mkBl⟩
end
section
variable {X : Cx} {pins : List (Addr × Obj)} {σ : L2.St} {H : Hp} {s : Shared} {φ : Nat → Addr} {N : Nat}
theorem els_D (I : Inv X pins σ H s) {n : Nat} {A : Around} {a b : List Dt} {vs ws : List V} {its its2 : List Value} (hu : A.units + n + 1 < cLine) (hd : DL X.K φ N H a vs) (hd2 : DL X.K φ N H b ws) (rv : Vals vs its) (rv2 : Vals ws its2)
    (o1 : a.all (okD n) = true) (o2 : b.all (okD n) = true) {j : Nat} (h1 : j < its.toArray.size) (h2 : j < its2.toArray.size) : SeqAt.EqAt A.in1 s its.toArray[j] its2.toArray[j] (eqD n (a.getD j .non) (b.getD j .non)) := by
  have l1 : its.toArray.size = a.length := by rw [List.size_toArray, ← rv.length, hd.length]
  have l2 : its2.toArray.size = b.length := by rw [List.size_toArray, ← rv2.length, hd2.length]
  have hj1 : j < a.length := by rw [← l1]; exact h1
  have hj2 : j < b.length := by rw [← l2]; exact h2
  have ea : a[j]? = some a[j] := by simp [hj1]
  have eb : b[j]? = some b[j] := by simp [hj2]
  obtain ⟨x, ex, dx⟩ := hd.get ea
  obtain ⟨y, ey, dy⟩ := hd2.get eb
  obtain ⟨ux, eux, rx⟩ := rv.get ex
  obtain ⟨uy, euy, ry⟩ := rv2.get ey
  have gx : its.toArray[j] = ux := by
    have : its[j]? = some its[j] := by simp at h1; simp [h1]
    rw [eux] at this
    simpa using (Option.some.inj this).symm
  have gy : its2.toArray[j] = uy := by
    have : its2[j]? = some its2[j] := by simp at h2; simp [h2]
    rw [euy] at this
    simpa using (Option.some.inj this).symm
  rw [gx, gy, getD_of ea, getD_of eb]
  exact eqAt_D I n (by show A.units + 1 + n < cLine; omega) (List.all_eq_true.mp o1 _ (List.getElem_mem hj1)) (List.all_eq_true.mp o2 _ (List.getElem_mem hj2)) dx dy rx ry
theorem rcEq_D (I : Inv X pins σ H s) (n : Nat) {A : Around} : ∀ {d e : Dt} {v w : V} {u1 u2 : Value}, A.units + n + 1 < cLine → okD (n + 1) d = true → okD (n + 1) e = true → D X.K φ N H d v → D X.K φ N H e w → RelV v u1 → RelV w u2 → SeqAt.RcAt A s u1 u2 (eqD (n + 1) d e)
  | .non, .non, v, w, u1, u2, hu, _, _, h1, h2, r1, r2 => by cases h1.non; cases h2.non; cases r1; cases r2; exact SeqAt.RcAt.none_none
  | .non, .bl b, v, w, u1, u2, hu, _, _, h1, h2, r1, r2 => by cases h1.non; cases h2.bl; cases r1; cases r2; exact SeqAt.RcAt.none_bool b
  | .non, .int b, v, w, u1, u2, hu, _, _, h1, h2, r1, r2 => by cases h1.non; cases h2.int; cases r1; obtain ⟨t', rfl⟩ := r2; exact SeqAt.RcAt.none_int b t'
  | .non, .str b, v, w, u1, u2, hu, _, _, h1, h2, r1, r2 => by cases h1.non; cases h2.str; cases r1; obtain ⟨t', rfl⟩ := r2; exact SeqAt.RcAt.none_str b t'
  | .bl a, .non, v, w, u1, u2, hu, _, _, h1, h2, r1, r2 => by cases h1.bl; cases h2.non; cases r1; cases r2; exact SeqAt.RcAt.bool_none a
  | .bl a, .bl b, v, w, u1, u2, hu, _, _, h1, h2, r1, r2 => by cases h1.bl; cases h2.bl; cases r1; cases r2; exact SeqAt.RcAt.bool_bool a b
  | .bl a, .int b, v, w, u1, u2, hu, _, _, h1, h2, r1, r2 => by cases h1.bl; cases h2.int; cases r1; obtain ⟨t', rfl⟩ := r2; exact SeqAt.RcAt.bool_int a b t'
  | .bl a, .str b, v, w, u1, u2, hu, _, _, h1, h2, r1, r2 => by cases h1.bl; cases h2.str; cases r1; obtain ⟨t', rfl⟩ := r2; exact SeqAt.RcAt.bool_str a b t'
  | .int a, .non, v, w, u1, u2, hu, _, _, h1, h2, r1, r2 => by cases h1.int; cases h2.non; obtain ⟨t, rfl⟩ := r1; cases r2; exact SeqAt.RcAt.int_none a t
  | .int a, .bl b, v, w, u1, u2, hu, _, _, h1, h2, r1, r2 => by cases h1.int; cases h2.bl; obtain ⟨t, rfl⟩ := r1; cases r2; exact SeqAt.RcAt.int_bool a t b
  | .int a, .int b, v, w, u1, u2, hu, _, _, h1, h2, r1, r2 => by cases h1.int; cases h2.int; obtain ⟨t, rfl⟩ := r1; obtain ⟨t', rfl⟩ := r2; exact SeqAt.RcAt.int_int a t b t'
  | .int a, .str b, v, w, u1, u2, hu, _, _, h1, h2, r1, r2 => by cases h1.int; cases h2.str; obtain ⟨t, rfl⟩ := r1; obtain ⟨t', rfl⟩ := r2; exact SeqAt.RcAt.int_str a t b t'
  | .str a, .non, v, w, u1, u2, hu, _, _, h1, h2, r1, r2 => by cases h1.str; cases h2.non; obtain ⟨t, rfl⟩ := r1; cases r2; exact SeqAt.RcAt.str_none a t
  | .str a, .bl b, v, w, u1, u2, hu, _, _, h1, h2, r1, r2 => by cases h1.str; cases h2.bl; obtain ⟨t, rfl⟩ := r1; cases r2; exact SeqAt.RcAt.str_bool a t b
  | .str a, .int b, v, w, u1, u2, hu, _, _, h1, h2, r1, r2 => by cases h1.str; cases h2.int; obtain ⟨t, rfl⟩ := r1; obtain ⟨t', rfl⟩ := r2; exact SeqAt.RcAt.str_int a t b t'
  | .str a, .str b, v, w, u1, u2, hu, _, _, h1, h2, r1, r2 => by cases h1.str; cases h2.str; obtain ⟨t, rfl⟩ := r1; obtain ⟨t', rfl⟩ := r2; exact SeqAt.RcAt.str_str a t b t'
  | .tup a, .non, v, w, u1, u2, hu, _, _, h1, h2, r1, r2 => by
    obtain ⟨p, vs, rfl, hs, hd⟩ := h1.tup; cases h2.non; cases r1; cases r2; obtain ⟨its, _, ht, _⟩ := I.tuple hs; exact SeqAt.RcAt.tuple_none ht (by omega)
  | .non, .tup a, v, w, u1, u2, hu, _, _, h1, h2, r1, r2 => by
    obtain ⟨p, vs, rfl, hs, hd⟩ := h2.tup; cases h1.non; cases r2; cases r1; obtain ⟨its, _, ht, _⟩ := I.tuple hs; exact SeqAt.RcAt.none_tuple ht (by omega)
  | .tup a, .bl b, v, w, u1, u2, hu, _, _, h1, h2, r1, r2 => by
    obtain ⟨p, vs, rfl, hs, hd⟩ := h1.tup; cases h2.bl; cases r1; cases r2; obtain ⟨its, _, ht, _⟩ := I.tuple hs; exact SeqAt.RcAt.tuple_bool b ht (by omega)
  | .bl b, .tup a, v, w, u1, u2, hu, _, _, h1, h2, r1, r2 => by
    obtain ⟨p, vs, rfl, hs, hd⟩ := h2.tup; cases h1.bl; cases r2; cases r1; obtain ⟨its, _, ht, _⟩ := I.tuple hs; exact SeqAt.RcAt.bool_tuple b ht (by omega)
  | .tup a, .int b, v, w, u1, u2, hu, _, _, h1, h2, r1, r2 => by
    obtain ⟨p, vs, rfl, hs, hd⟩ := h1.tup; cases h2.int; cases r1; obtain ⟨t', rfl⟩ := r2; obtain ⟨its, _, ht, _⟩ := I.tuple hs; exact SeqAt.RcAt.tuple_int b t' ht (by omega)
  | .int b, .tup a, v, w, u1, u2, hu, _, _, h1, h2, r1, r2 => by
    obtain ⟨p, vs, rfl, hs, hd⟩ := h2.tup; cases h1.int; cases r2; obtain ⟨t', rfl⟩ := r1; obtain ⟨its, _, ht, _⟩ := I.tuple hs; exact SeqAt.RcAt.int_tuple b t' ht (by omega)
  | .tup a, .str b, v, w, u1, u2, hu, _, _, h1, h2, r1, r2 => by
    obtain ⟨p, vs, rfl, hs, hd⟩ := h1.tup; cases h2.str; cases r1; obtain ⟨t', rfl⟩ := r2; obtain ⟨its, _, ht, _⟩ := I.tuple hs; exact SeqAt.RcAt.tuple_str b t' ht (by omega)
  | .str b, .tup a, v, w, u1, u2, hu, _, _, h1, h2, r1, r2 => by
    obtain ⟨p, vs, rfl, hs, hd⟩ := h2.tup; cases h1.str; cases r2; obtain ⟨t', rfl⟩ := r1; obtain ⟨its, _, ht, _⟩ := I.tuple hs; exact SeqAt.RcAt.str_tuple b t' ht (by omega)
  | .tup a, .tup b, v, w, u1, u2, hu, o1, o2, h1, h2, r1, r2 => by
    simp only [okD] at o1 o2
    obtain ⟨p, vs, rfl, hs, hd⟩ := h1.tup
    obtain ⟨q, ws, rfl, hs2, hd2⟩ := h2.tup
    cases r1; cases r2
    obtain ⟨its, rv, ht, _⟩ := I.tuple hs
    obtain ⟨its2, rv2, ht2, _⟩ := I.tuple hs2
    have l1 : its.toArray.size = a.length := by rw [List.size_toArray, ← rv.length, hd.length]
    have l2 : its2.toArray.size = b.length := by rw [List.size_toArray, ← rv2.length, hd2.length]
    have := SeqAt.RcAt.tuples (A := A) (s := s) (e := fun j => eqD n (a.getD j .non) (b.getD j .non)) ht ht2 (by omega) (fun j h1 h2 => els_D I hu hd hd2 rv rv2 o1 o2 h1 h2)
    rw [l1, l2] at this
    simp only [eqD]
    rw [eqL_range]
    exact this
  | .lst _, _, v, w, u1, u2, hu, o1, _, h1, h2, r1, r2 => by simp [okD] at o1
  | .non, .lst _, v, w, u1, u2, hu, _, o1, h1, h2, r1, r2 => by simp [okD] at o1
  | .bl _, .lst _, v, w, u1, u2, hu, _, o1, h1, h2, r1, r2 => by simp [okD] at o1
  | .int _, .lst _, v, w, u1, u2, hu, _, o1, h1, h2, r1, r2 => by simp [okD] at o1
  | .str _, .lst _, v, w, u1, u2, hu, _, o1, h1, h2, r1, r2 => by simp [okD] at o1
  | .tup _, .lst _, v, w, u1, u2, hu, _, o1, h1, h2, r1, r2 => by simp [okD] at o1
  | .ty _, _, v, w, u1, u2, hu, o1, _, h1, h2, r1, r2 => by simp [okD] at o1
  | .dic _, _, v, w, u1, u2, hu, o1, _, h1, h2, r1, r2 => by simp [okD] at o1
  | .ins _, _, v, w, u1, u2, hu, o1, _, h1, h2, r1, r2 => by simp [okD] at o1
  | .non, .ty _, v, w, u1, u2, hu, _, o1, h1, h2, r1, r2 => by simp [okD] at o1
  | .non, .dic _, v, w, u1, u2, hu, _, o1, h1, h2, r1, r2 => by simp [okD] at o1
  | .non, .ins _, v, w, u1, u2, hu, _, o1, h1, h2, r1, r2 => by simp [okD] at o1
  | .bl _, .ty _, v, w, u1, u2, hu, _, o1, h1, h2, r1, r2 => by simp [okD] at o1
  | .bl _, .dic _, v, w, u1, u2, hu, _, o1, h1, h2, r1, r2 => by simp [okD] at o1
  | .bl _, .ins _, v, w, u1, u2, hu, _, o1, h1, h2, r1, r2 => by simp [okD] at o1
  | .int _, .ty _, v, w, u1, u2, hu, _, o1, h1, h2, r1, r2 => by simp [okD] at o1
  | .int _, .dic _, v, w, u1, u2, hu, _, o1, h1, h2, r1, r2 => by simp [okD] at o1
  | .int _, .ins _, v, w, u1, u2, hu, _, o1, h1, h2, r1, r2 => by simp [okD] at o1
  | .str _, .ty _, v, w, u1, u2, hu, _, o1, h1, h2, r1, r2 => by simp [okD] at o1
  | .str _, .dic _, v, w, u1, u2, hu, _, o1, h1, h2, r1, r2 => by simp [okD] at o1
  | .str _, .ins _, v, w, u1, u2, hu, _, o1, h1, h2, r1, r2 => by simp [okD] at o1
  | .tup _, .ty _, v, w, u1, u2, hu, _, o1, h1, h2, r1, r2 => by simp [okD] at o1
  | .tup _, .dic _, v, w, u1, u2, hu, _, o1, h1, h2, r1, r2 => by simp [okD] at o1
  | .tup _, .ins _, v, w, u1, u2, hu, _, o1, h1, h2, r1, r2 => by simp [okD] at o1
theorem rcNe_D (I : Inv X pins σ H s) (n : Nat) {A : Around} : ∀ {d e : Dt} {v w : V} {u1 u2 : Value}, A.units + n + 1 < cLine → okD (n + 1) d = true → okD (n + 1) e = true → D X.K φ N H d v → D X.K φ N H e w → RelV v u1 → RelV w u2 → SeqAt.RcNeAt A s u1 u2 (!(eqD (n + 1) d e))
  | .non, .non, v, w, u1, u2, hu, _, _, h1, h2, r1, r2 => by cases h1.non; cases h2.non; cases r1; cases r2; exact SeqAt.RcNeAt.none_none
  | .non, .bl b, v, w, u1, u2, hu, _, _, h1, h2, r1, r2 => by cases h1.non; cases h2.bl; cases r1; cases r2; exact SeqAt.RcNeAt.none_bool b
  | .non, .int b, v, w, u1, u2, hu, _, _, h1, h2, r1, r2 => by cases h1.non; cases h2.int; cases r1; obtain ⟨t', rfl⟩ := r2; exact SeqAt.RcNeAt.none_int b t'
  | .non, .str b, v, w, u1, u2, hu, _, _, h1, h2, r1, r2 => by cases h1.non; cases h2.str; cases r1; obtain ⟨t', rfl⟩ := r2; exact SeqAt.RcNeAt.none_str b t'
  | .bl a, .non, v, w, u1, u2, hu, _, _, h1, h2, r1, r2 => by cases h1.bl; cases h2.non; cases r1; cases r2; exact SeqAt.RcNeAt.bool_none a
  | .bl a, .bl b, v, w, u1, u2, hu, _, _, h1, h2, r1, r2 => by cases h1.bl; cases h2.bl; cases r1; cases r2; exact SeqAt.RcNeAt.bool_bool a b
  | .bl a, .int b, v, w, u1, u2, hu, _, _, h1, h2, r1, r2 => by cases h1.bl; cases h2.int; cases r1; obtain ⟨t', rfl⟩ := r2; exact SeqAt.RcNeAt.bool_int a b t'
  | .bl a, .str b, v, w, u1, u2, hu, _, _, h1, h2, r1, r2 => by cases h1.bl; cases h2.str; cases r1; obtain ⟨t', rfl⟩ := r2; exact SeqAt.RcNeAt.bool_str a b t'
  | .int a, .non, v, w, u1, u2, hu, _, _, h1, h2, r1, r2 => by cases h1.int; cases h2.non; obtain ⟨t, rfl⟩ := r1; cases r2; exact SeqAt.RcNeAt.int_none a t
  | .int a, .bl b, v, w, u1, u2, hu, _, _, h1, h2, r1, r2 => by cases h1.int; cases h2.bl; obtain ⟨t, rfl⟩ := r1; cases r2; exact SeqAt.RcNeAt.int_bool a t b
  | .int a, .int b, v, w, u1, u2, hu, _, _, h1, h2, r1, r2 => by cases h1.int; cases h2.int; obtain ⟨t, rfl⟩ := r1; obtain ⟨t', rfl⟩ := r2; exact SeqAt.RcNeAt.int_int a t b t'
  | .int a, .str b, v, w, u1, u2, hu, _, _, h1, h2, r1, r2 => by cases h1.int; cases h2.str; obtain ⟨t, rfl⟩ := r1; obtain ⟨t', rfl⟩ := r2; exact SeqAt.RcNeAt.int_str a t b t'
  | .str a, .non, v, w, u1, u2, hu, _, _, h1, h2, r1, r2 => by cases h1.str; cases h2.non; obtain ⟨t, rfl⟩ := r1; cases r2; exact SeqAt.RcNeAt.str_none a t
  | .str a, .bl b, v, w, u1, u2, hu, _, _, h1, h2, r1, r2 => by cases h1.str; cases h2.bl; obtain ⟨t, rfl⟩ := r1; cases r2; exact SeqAt.RcNeAt.str_bool a t b
  | .str a, .int b, v, w, u1, u2, hu, _, _, h1, h2, r1, r2 => by cases h1.str; cases h2.int; obtain ⟨t, rfl⟩ := r1; obtain ⟨t', rfl⟩ := r2; exact SeqAt.RcNeAt.str_int a t b t'
  | .str a, .str b, v, w, u1, u2, hu, _, _, h1, h2, r1, r2 => by cases h1.str; cases h2.str; obtain ⟨t, rfl⟩ := r1; obtain ⟨t', rfl⟩ := r2; exact SeqAt.RcNeAt.str_str a t b t'
  | .tup a, .non, v, w, u1, u2, hu, _, _, h1, h2, r1, r2 => by
    obtain ⟨p, vs, rfl, hs, hd⟩ := h1.tup; cases h2.non; cases r1; cases r2; obtain ⟨its, _, ht, _⟩ := I.tuple hs; exact SeqAt.RcNeAt.tuple_none ht (by omega)
  | .non, .tup a, v, w, u1, u2, hu, _, _, h1, h2, r1, r2 => by
    obtain ⟨p, vs, rfl, hs, hd⟩ := h2.tup; cases h1.non; cases r2; cases r1; obtain ⟨its, _, ht, _⟩ := I.tuple hs; exact SeqAt.RcNeAt.none_tuple ht (by omega)
  | .tup a, .bl b, v, w, u1, u2, hu, _, _, h1, h2, r1, r2 => by
    obtain ⟨p, vs, rfl, hs, hd⟩ := h1.tup; cases h2.bl; cases r1; cases r2; obtain ⟨its, _, ht, _⟩ := I.tuple hs; exact SeqAt.RcNeAt.tuple_bool b ht (by omega)
  | .bl b, .tup a, v, w, u1, u2, hu, _, _, h1, h2, r1, r2 => by
    obtain ⟨p, vs, rfl, hs, hd⟩ := h2.tup; cases h1.bl; cases r2; cases r1; obtain ⟨its, _, ht, _⟩ := I.tuple hs; exact SeqAt.RcNeAt.bool_tuple b ht (by omega)
  | .tup a, .int b, v, w, u1, u2, hu, _, _, h1, h2, r1, r2 => by
    obtain ⟨p, vs, rfl, hs, hd⟩ := h1.tup; cases h2.int; cases r1; obtain ⟨t', rfl⟩ := r2; obtain ⟨its, _, ht, _⟩ := I.tuple hs; exact SeqAt.RcNeAt.tuple_int b t' ht (by omega)
  | .int b, .tup a, v, w, u1, u2, hu, _, _, h1, h2, r1, r2 => by
    obtain ⟨p, vs, rfl, hs, hd⟩ := h2.tup; cases h1.int; cases r2; obtain ⟨t', rfl⟩ := r1; obtain ⟨its, _, ht, _⟩ := I.tuple hs; exact SeqAt.RcNeAt.int_tuple b t' ht (by omega)
  | .tup a, .str b, v, w, u1, u2, hu, _, _, h1, h2, r1, r2 => by
    obtain ⟨p, vs, rfl, hs, hd⟩ := h1.tup; cases h2.str; cases r1; obtain ⟨t', rfl⟩ := r2; obtain ⟨its, _, ht, _⟩ := I.tuple hs; exact SeqAt.RcNeAt.tuple_str b t' ht (by omega)
  | .str b, .tup a, v, w, u1, u2, hu, _, _, h1, h2, r1, r2 => by
    obtain ⟨p, vs, rfl, hs, hd⟩ := h2.tup; cases h1.str; cases r2; obtain ⟨t', rfl⟩ := r1; obtain ⟨its, _, ht, _⟩ := I.tuple hs; exact SeqAt.RcNeAt.str_tuple b t' ht (by omega)
  | .tup a, .tup b, v, w, u1, u2, hu, o1, o2, h1, h2, r1, r2 => by
    simp only [okD] at o1 o2
    obtain ⟨p, vs, rfl, hs, hd⟩ := h1.tup
    obtain ⟨q, ws, rfl, hs2, hd2⟩ := h2.tup
    cases r1; cases r2
    obtain ⟨its, rv, ht, _⟩ := I.tuple hs
    obtain ⟨its2, rv2, ht2, _⟩ := I.tuple hs2
    have l1 : its.toArray.size = a.length := by rw [List.size_toArray, ← rv.length, hd.length]
    have l2 : its2.toArray.size = b.length := by rw [List.size_toArray, ← rv2.length, hd2.length]
    have := SeqAt.RcNeAt.tuples (A := A) (s := s) (e := fun j => eqD n (a.getD j .non) (b.getD j .non)) ht ht2 (by omega) (fun j h1 h2 => els_D I hu hd hd2 rv rv2 o1 o2 h1 h2)
    rw [l1, l2] at this
    simp only [eqD]
    rw [eqL_range]
    exact this
  | .lst _, _, v, w, u1, u2, hu, o1, _, h1, h2, r1, r2 => by simp [okD] at o1
  | .non, .lst _, v, w, u1, u2, hu, _, o1, h1, h2, r1, r2 => by simp [okD] at o1
  | .bl _, .lst _, v, w, u1, u2, hu, _, o1, h1, h2, r1, r2 => by simp [okD] at o1
  | .int _, .lst _, v, w, u1, u2, hu, _, o1, h1, h2, r1, r2 => by simp [okD] at o1
  | .str _, .lst _, v, w, u1, u2, hu, _, o1, h1, h2, r1, r2 => by simp [okD] at o1
  | .tup _, .lst _, v, w, u1, u2, hu, _, o1, h1, h2, r1, r2 => by simp [okD] at o1
  | .ty _, _, v, w, u1, u2, hu, o1, _, h1, h2, r1, r2 => by simp [okD] at o1
  | .dic _, _, v, w, u1, u2, hu, o1, _, h1, h2, r1, r2 => by simp [okD] at o1
  | .ins _, _, v, w, u1, u2, hu, o1, _, h1, h2, r1, r2 => by simp [okD] at o1
  | .non, .ty _, v, w, u1, u2, hu, _, o1, h1, h2, r1, r2 => by simp [okD] at o1
  | .non, .dic _, v, w, u1, u2, hu, _, o1, h1, h2, r1, r2 => by simp [okD] at o1
  | .non, .ins _, v, w, u1, u2, hu, _, o1, h1, h2, r1, r2 => by simp [okD] at o1
  | .bl _, .ty _, v, w, u1, u2, hu, _, o1, h1, h2, r1, r2 => by simp [okD] at o1
  | .bl _, .dic _, v, w, u1, u2, hu, _, o1, h1, h2, r1, r2 => by simp [okD] at o1
  | .bl _, .ins _, v, w, u1, u2, hu, _, o1, h1, h2, r1, r2 => by simp [okD] at o1
  | .int _, .ty _, v, w, u1, u2, hu, _, o1, h1, h2, r1, r2 => by simp [okD] at o1
  | .int _, .dic _, v, w, u1, u2, hu, _, o1, h1, h2, r1, r2 => by simp [okD] at o1
  | .int _, .ins _, v, w, u1, u2, hu, _, o1, h1, h2, r1, r2 => by simp [okD] at o1
  | .str _, .ty _, v, w, u1, u2, hu, _, o1, h1, h2, r1, r2 => by simp [okD] at o1
  | .str _, .dic _, v, w, u1, u2, hu, _, o1, h1, h2, r1, r2 => by simp [okD] at o1
  | .str _, .ins _, v, w, u1, u2, hu, _, o1, h1, h2, r1, r2 => by simp [okD] at o1
  | .tup _, .ty _, v, w, u1, u2, hu, _, o1, h1, h2, r1, r2 => by simp [okD] at o1
  | .tup _, .dic _, v, w, u1, u2, hu, _, o1, h1, h2, r1, r2 => by simp [okD] at o1
  | .tup _, .ins _, v, w, u1, u2, hu, _, o1, h1, h2, r1, r2 => by simp [okD] at o1
end
theorem od_eq {X : Cx} (hu : X.A.units + 16 < cLine) : OpD X (compareOp .Eq) (rEqD false) := by
  intro pins s σ H v w u1 u2 Q I r1 r2 h
  obtain ⟨φ, st, x, y, P, R, dx, dy, hr, hq⟩ := h
  have gen : okD 8 x = true → okD 8 y = true → P (.bl (eqD 8 x y != false)) st → wpAny (model X.prog X.w) X.A (compareOp .Eq u1 u2) (EP X pins σ Q) X.xe s := fun o1 o2 hp => by
    rw [bne_false'] at hp
    exact rcEq_D I 7 (by omega) o1 o2 dx dy r1 r2 _ _ _ _ (fin_bool I hq R hp rfl)
  cases x with
  | lst n =>
    cases y with
    | lst m =>
      have hr' : match st[n]?, st[m]? with
        | some a, some b => a.items.all (okD 8) = true ∧ b.items.all (okD 8) = true ∧ P (.bl (eqL (eqD 8) a.items b.items != false)) st
        | _, _ => False := hr
      split at hr'
      · rename_i a b e1 e2
        obtain ⟨o1, o2, hp⟩ := hr'
        rw [bne_false'] at hp
        obtain ⟨vs, s1, d1⟩ := R.seq e1 dx.isL
        obtain ⟨ws, s2, d2⟩ := R.seq e2 dy.isL
        obtain ⟨its, rv, pl, _⟩ := I.list s1
        obtain ⟨its2, rv2, pl2, _⟩ := I.list s2
        have e1' := dx.lst.2
        have e2' := dy.lst.2
        subst e1'; subst e2'
        cases r1; cases r2
        have l1 : its.toArray.size = a.items.length := by rw [List.size_toArray, ← rv.length, d1.length]
        have l2 : its2.toArray.size = b.items.length := by rw [List.size_toArray, ← rv2.length, d2.length]
        rw [eqL_range] at hp
        by_cases hl : its.toArray.size = its2.toArray.size
        · have := SeqAt.RcAt.lists (A := X.A) (s := s) (e := fun j => eqD 8 (a.items.getD j .non) (b.items.getD j .non)) pl.isList pl2.isList hl (by omega) (fun j h1 h2 => els_D I (by omega) d1 d2 rv rv2 o1 o2 h1 h2)
          refine this _ _ _ _ (fin_bool I hq R hp ?_)
          rw [← l1, ← l2, ← hl, Nat.min_self]
          simp
        · have hl' : (its.toArray.size != its2.toArray.size) = true := by simpa using hl
          refine SeqAt.RcAt.lists_lengths (A := X.A) pl.isList pl2.isList hl' (by omega) _ _ _ _ (fin_bool I hq R hp ?_)
          rw [← l1, ← l2]
          have : (its.toArray.size == its2.toArray.size) = false := by simpa using hl
          rw [this, Bool.and_false]
      · exact hr'.elim
    | _ => exact absurd (show okD 8 (.lst n) = true from hr.1) (by simp [okD])
  | _ => cases y <;> exact gen hr.1 hr.2.1 hr.2.2
theorem od_ne {X : Cx} (hu : X.A.units + 16 < cLine) : OpD X (compareOp .NotEq) (rEqD true) := by
  intro pins s σ H v w u1 u2 Q I r1 r2 h
  obtain ⟨φ, st, x, y, P, R, dx, dy, hr, hq⟩ := h
  have gen : okD 8 x = true → okD 8 y = true → P (.bl (eqD 8 x y != true)) st → wpAny (model X.prog X.w) X.A (compareOp .NotEq u1 u2) (EP X pins σ Q) X.xe s := fun o1 o2 hp => by
    rw [bne_true'] at hp
    exact rcNe_D I 7 (by omega) o1 o2 dx dy r1 r2 _ _ _ _ (fin_bool I hq R hp rfl)
  cases x with
  | lst n =>
    cases y with
    | lst m =>
      have hr' : match st[n]?, st[m]? with
        | some a, some b => a.items.all (okD 8) = true ∧ b.items.all (okD 8) = true ∧ P (.bl (eqL (eqD 8) a.items b.items != true)) st
        | _, _ => False := hr
      split at hr'
      · rename_i a b e1 e2
        obtain ⟨o1, o2, hp⟩ := hr'
        rw [bne_true'] at hp
        obtain ⟨vs, s1, d1⟩ := R.seq e1 dx.isL
        obtain ⟨ws, s2, d2⟩ := R.seq e2 dy.isL
        obtain ⟨its, rv, pl, _⟩ := I.list s1
        obtain ⟨its2, rv2, pl2, _⟩ := I.list s2
        have e1' := dx.lst.2
        have e2' := dy.lst.2
        subst e1'; subst e2'
        cases r1; cases r2
        have l1 : its.toArray.size = a.items.length := by rw [List.size_toArray, ← rv.length, d1.length]
        have l2 : its2.toArray.size = b.items.length := by rw [List.size_toArray, ← rv2.length, d2.length]
        rw [eqL_range] at hp
        by_cases hl : its.toArray.size = its2.toArray.size
        · have := SeqAt.RcNeAt.lists (A := X.A) (s := s) (e := fun j => eqD 8 (a.items.getD j .non) (b.items.getD j .non)) pl.isList pl2.isList hl (by omega) (fun j h1 h2 => els_D I (by omega) d1 d2 rv rv2 o1 o2 h1 h2)
          refine this _ _ _ _ (fin_bool I hq R hp ?_)
          rw [← l1, ← l2, ← hl, Nat.min_self]
          simp
        · have hl' : (its.toArray.size != its2.toArray.size) = true := by simpa using hl
          refine SeqAt.RcNeAt.lists_lengths (A := X.A) pl.isList pl2.isList hl' (by omega) _ _ _ _ (fin_bool I hq R hp ?_)
          rw [← l1, ← l2]
          have : (its.toArray.size == its2.toArray.size) = false := by simpa using hl
          rw [this, Bool.and_false]
          rfl
      · exact hr'.elim
    | _ => exact absurd (show okD 8 (.lst n) = true from hr.1) (by simp [okD])
  | _ => cases y <;> exact gen hr.1 hr.2.1 hr.2.2
end L3
namespace L3
open PySem PySem.Spec PyProof.Rows L2
section
variable {X : Cx}
theorem od_is : OpD X (compareOp .Is) (rIsD false) := by
  intro pins s σ H v w u1 u2 Q I r1 r2 h
  obtain ⟨φ, st, x, y, P, R, dx, dy, hr, hq⟩ := h
  have nn : y = .non → v ≠ .non → P (.bl (false != false)) st → wpAny (model X.prog X.w) X.A (compareOp .Is u1 u2) (EP X pins σ Q) X.xe s := fun e hv hp => by
    subst e
    have := dy.non
    exact op_isN pins s σ H v w u1 u2 Q I r1 r2 ⟨this, by rw [decide_eq_false hv]; exact Go.here hq R hp D.mkBl⟩
  cases x with
  | bl a =>
    cases y with
    | bl b =>
      cases dx.bl; cases dy.bl; cases r1; cases r2
      exact is_bool (fin_bool I hq R hr (by rw [bne_false']))
    | non => exact nn rfl (by rw [dx.bl]; intro z; cases z) hr
    | _ => exact hr.elim
  | non =>
    cases y with
    | non => exact op_isN pins s σ H v w u1 u2 Q I r1 r2 ⟨dy.non, by rw [decide_eq_true dx.non]; exact Go.here hq R hr D.mkBl⟩
    | _ => exact hr.elim
  | int a =>
    cases y with
    | non => exact nn rfl (by rw [dx.int]; intro z; cases z) hr
    | _ => exact hr.elim
  | str a =>
    cases y with
    | non => exact nn rfl (by rw [dx.str]; intro z; cases z) hr
    | _ => exact hr.elim
  | tup a =>
    cases y with
    | non => exact nn rfl (by obtain ⟨_, _, e, _⟩ := dx.tup; rw [e]; intro z; cases z) hr
    | _ => exact hr.elim
  | lst a =>
    cases y with
    | non => exact nn rfl (by rw [dx.lst.2]; intro z; cases z) hr
    | _ => exact hr.elim
  | _ => cases y <;> exact hr.elim
end
end L3
namespace L3
open PySem PySem.Spec PyProof.Rows L2
section
variable {X : Cx}
theorem flat_of {K : PySem.W.Frag} {φ : Nat → Addr} {N : Nat} {H : Hp} {d : Dt} {v : V} (h : D K φ N H d v) (o : okD 0 d = true) : flatV v = true := by
  cases d with
  | non => cases h.non; rfl
  | bl _ => cases h.bl; rfl
  | int _ => cases h.int; rfl
  | str _ => cases h.str; rfl
  | _ => exact absurd o (by simp [okD])
theorem flats_of {K : PySem.W.Frag} {φ : Nat → Addr} {N : Nat} {H : Hp} : ∀ {ds : List Dt} {vs : List V}, DL K φ N H ds vs → ds.all (okD 0) = true → vs.all flatV = true
  | [], vs, h, _ => by simp only [DL] at h; rw [h]; rfl
  | d :: ds, vs, h, o => by
    simp only [DL] at h
    obtain ⟨v, r, rfl, h2, h3⟩ := h
    rw [List.all_cons, Bool.and_eq_true] at o ⊢
    exact ⟨flat_of h2 o.1, flats_of h3 o.2⟩
theorem eqV_of {K : PySem.W.Frag} {φ : Nat → Addr} {N : Nat} {H : Hp} {d e : Dt} {v w : V} (h : D K φ N H d v) (h' : D K φ N H e w) (o : okD 0 d = true) (o' : okD 0 e = true) : eqV v w = eqD 0 d e := by
  cases d <;> (try (exfalso; revert o; simp [okD]; done)) <;> cases e <;> (try (exfalso; revert o'; simp [okD]; done)) <;> (simp only [D] at h h'; subst h; subst h'; rfl)
theorem anyV_of {K : PySem.W.Frag} {φ : Nat → Addr} {N : Nat} {H : Hp} {d : Dt} {v : V} (h' : D K φ N H d v) (o' : okD 0 d = true) : ∀ {ds : List Dt} {vs : List V}, DL K φ N H ds vs → ds.all (okD 0) = true → inV v vs = ds.any (fun z => eqD 0 z d)
  | [], vs, h, _ => by simp only [DL] at h; rw [h]; rfl
  | e :: ds, vs, h, o => by
    simp only [DL] at h
    obtain ⟨w, r, rfl, h2, h3⟩ := h
    rw [List.all_cons, Bool.and_eq_true] at o
    have ih := anyV_of h' o' h3 o.2
    unfold inV at ih ⊢
    rw [List.any_cons, List.any_cons, ih, eqV_of h2 h' o.1 o']
theorem seq_of {K : PySem.W.Frag} {φ : Nat → Addr} {st : Sto} {H : Hp} {y : Dt} {w : V} {xs : List Dt} (R : Rep K φ st H) (dy : D K φ st.length H y w) (e : seqOf st y = some xs) :
    ∃ p vs, w = .ref p ∧ ((SqL K H p vs ∧ ∃ n, y = .lst n) ∨ (SqT K H p vs ∧ y = .tup xs)) ∧ DL K φ st.length H xs vs := by
  cases y with
  | tup zs =>
    have e' : zs = xs := Option.some.inj e
    subst e'
    obtain ⟨a, vs, e1, s1, d1⟩ := dy.tup
    exact ⟨a, vs, e1, .inr ⟨s1, rfl⟩, d1⟩
  | lst n =>
    have e' : (st[n]?).map SO.items = some xs := e
    cases q : st[n]? with
    | none => rw [q] at e'; cases e'
    | some o =>
      rw [q] at e'
      have e2 : o.items = xs := Option.some.inj e'
      obtain ⟨vs, h1, h2⟩ := R.seq q dy.isL
      rw [e2] at h2
      exact ⟨φ n, vs, dy.lst.2, .inl ⟨h1, n, rfl⟩, h2⟩
  | _ => cases e
theorem od_notin : OpD X (compareOp .NotIn) (rInD true) := by
  intro pins s σ H v w u1 u2 Q I r1 r2 h
  obtain ⟨φ, st, x, y, P, R, dx, dy, hr, hq⟩ := h
  have gen : (match seqOf st y with
    | some xs => okD 0 x = true ∧ xs.all (okD 0) = true ∧ P (.bl (xs.any (fun z => eqD 0 z x) != true)) st
    | none => False) → wpAny (model X.prog X.w) X.A (compareOp .NotIn u1 u2) (EP X pins σ Q) X.xe s := fun hg => by
    split at hg
    · rename_i xs e
      obtain ⟨o1, o2, hp⟩ := hg
      obtain ⟨p, vs, e1, hs, hd⟩ := seq_of R dy e
      refine op_notIn_seq pins s σ H v w u1 u2 Q I r1 r2 ⟨p, vs, e1, hs.elim (fun z => .inl z.1) fun z => .inr z.1, flat_of dx o1, flats_of hd o2, ?_⟩
      rw [if_pos rfl, anyV_of dx o1 hd o2]
      rw [bne_true'] at hp
      exact Go.here hq R hp D.mkBl
    · exact hg.elim
  cases x with
  | str i =>
    cases y with
    | str j =>
      have hr' : P (.bl ((!(Builtin.Str.occurrences j i 0 j.length 1).isEmpty) != true)) st := hr
      rw [bne_true'] at hr'
      exact op_notIn_str pins s σ H v w u1 u2 Q I r1 r2 ⟨i, j, dx.str, dy.str, Go.here hq R hr' D.mkBl⟩
    | _ => exact gen hr
  | _ => exact gen hr
end
end L3
namespace L3
open PySem PySem.Spec PyProof.Rows L2
section
variable {X : Cx}
noncomputable def rIxD : RD2 := fun x y st P => match y with
  | .int i => (match x with
    | .str z => z.length ≤ sizeLine ∧ (match atI z.cps.toList i with
      | some c => P (.str ⟨#[c]⟩) st
      | none => False)
    | x => match seqOf st x with
      | some xs => (match atI xs i with
        | some d => P d st
        | none => False)
      | none => False)
  | _ => False
theorem DL.atI {K : PySem.W.Frag} {φ : Nat → Addr} {N : Nat} {H : Hp} {ds : List Dt} {vs : List V} {i : Int} {d : Dt} (h : DL K φ N H ds vs) (e : L2.atI ds i = some d) : ∃ v, L2.atI vs i = some v ∧ D K φ N H d v := by
  unfold L2.atI at e ⊢
  rw [← h.length]
  cases q : ixN ds.length i with
  | none => rw [q] at e; cases e
  | some j =>
    rw [q] at e
    exact h.get e
theorem de_ix {a b : Expr} {ta tb : TD} {pos : Pos} (ha : DE X a ta) (hb : DE X b tb) (hs : PlainIx b := by exact fun _ _ => rfl) : DE X (.Subscript a b pos) (tbin rIxD ta tb) := by
  have key : IxR X (liftR X.K rIxD) := by
    intro value slice pins s σ H v w u1 u2 Q I r1 r2 h hsub
    obtain ⟨φ, st, x, y, P, R, dx, dy, hr, hq⟩ := h
    cases y with
    | int i =>
      have gen : (match seqOf st x with
        | some xs => (match atI xs i with
          | some d => P d st
          | none => False)
        | none => False) → wpAny (model X.prog X.w) X.A (subscriptTail value slice u1 u2) (EP X pins σ Q) X.xe s := fun hg => by
        split at hg
        · rename_i xs e
          split at hg
          · rename_i d ed
            obtain ⟨p, vs, e1, hs, hd⟩ := seq_of R dx e
            obtain ⟨z, ez, dz⟩ := hd.atI ed
            refine ix_seq value slice pins s σ H v w u1 u2 Q I r1 r2 ?_ hsub
            rcases hs with ⟨hs, _⟩ | ⟨hs, _⟩
            · exact .inl ⟨p, vs, i, z, e1, dy.int, hs, ez, Go.here hq R hg dz⟩
            · exact .inr (.inl ⟨p, vs, i, z, e1, dy.int, hs, ez, Go.here hq R hg dz⟩)
          · exact hg.elim
        · exact hg.elim
      cases x with
      | str z =>
        have hr' : z.length ≤ sizeLine ∧ (match atI z.cps.toList i with
          | some c => P (.str ⟨#[c]⟩) st
          | none => False) := hr
        obtain ⟨h1, h2⟩ := hr'
        split at h2
        · rename_i c ec
          exact ix_seq value slice pins s σ H v w u1 u2 Q I r1 r2 (.inr (.inr ⟨z, i, c, dx.str, dy.int, h1, ec, Go.here hq R h2 D.mkStr⟩)) hsub
        · exact h2.elim
      | _ => exact gen hr
    | _ => exact hr.elim
  exact (pe_ix key ha hb hs).imp fun _ _ _ => bin_lift
noncomputable abbrev TOD := Rho → Sto → (Option Int → Sto → Prop) → Prop
noncomputable def liftO (K : PySem.W.Frag) (t : TOD) : TO := fun σ H Q => ∃ φ st ρ P, Pre K φ st H ρ σ ∧ t ρ st P ∧ ∀ o st', P o st' → ∀ φ' H', Bhd K φ st H φ' st' H' → Q o H'
noncomputable def DO (X : Cx) (e : Option Expr) (t : TOD) : Prop := PO X e (liftO X.K t)
noncomputable def tonone : TOD := fun _ st P => P none st
noncomputable def tosome (t : TD) : TOD := fun ρ st P => t ρ st fun x st1 => match x with
  | .int i => P (some i) st1
  | _ => False
theorem do_none : DO X none tonone := fun pins s σ H Q I h => by
  obtain ⟨φ, st, ρ, P, pre, ht, hq⟩ := h
  exact po_none pins s σ H Q I (hq none st ht φ H (.refl pre.1))
theorem do_some {e : Expr} {t : TD} (he : DE X e t) : DO X (some e) (tosome t) := fun pins s σ H Q I h => by
  refine po_some he pins s σ H Q I ?_
  obtain ⟨φ, st, ρ, P, pre, ht, hq⟩ := h
  refine ⟨φ, st, ρ, _, pre, ht, fun d st1 h1 φ1 H1 v b1 dx => ?_⟩
  cases d with
  | int i => exact ⟨i, dx.int, hq _ st1 h1 φ1 H1 b1⟩
  | _ => exact h1.elim
noncomputable def cutD (xs : List Dt) (lo hi : Option Int) : List Dt := (xs.drop (HT.sIx xs.length 0 lo)).take (HT.sIx xs.length xs.length hi - HT.sIx xs.length 0 lo)
noncomputable def tslice (te : TD) (tl th : TOD) : TD := fun ρ st P => te ρ st fun x st1 => tl ρ st1 fun lo st2 => th ρ st2 fun hi st3 => match x with
  | .tup xs => ¬ (HT.sIx xs.length 0 lo = 0 ∧ HT.sIx xs.length xs.length hi = xs.length) ∧ P (.tup (cutD xs lo hi)) st3
  | .lst n => (match st3[n]? with
    | some o => P (.lst st3.length) (st3 ++ [.rw (cutD o.items lo hi)])
    | none => False)
  | _ => False
end
end L3
namespace L3
open PySem PySem.Spec PyProof.Rows L2
noncomputable def liftSp (K : PySem.W.Frag) (sp : RDL) : Sp := fun vs H Q _ => liftC K sp vs H Q
section
variable {X : Cx} {e : Expr} {es : List Expr} {t : TAD} {pos p : Pos} {x : Str}
theorem de_call {k : Nat} {f : Addr} {fd : FuncData} {ps : List Str} {sp : RDL} (F : FnOk X.prog X.w X.K X.mg X.base CX0 k f fd ps (liftSp X.K sp)) (hr : Room k X.A) (hm : X.mg x = some (.ref f)) (hk : PySem.W.keepIn X.K (.ref f) = true)
    (hb : Binds X.K fd ps []) (ha : DA X (e :: es) t) (hg : Gl X x := by rfl) (hdb : (x == ("__debug__" : Str)) = false := by decide) (he : starEach (e :: es) X.env = (false, eval e X.env) :: starEach es X.env := by rfl)
    (hpl : (backTo pos (starEach es X.env)).any (·.1) = false := by rfl) : DE X (.Call (.Name x p) (e :: es) [] pos) (tcall sp t) := by
  refine PE.imp (pe_call F hr hg hm hk hb .nil pass0 ha hdb he hpl) fun σ H Q h => ?_
  have := call_lift h
  obtain ⟨φ, st, ρ, P, pre, ht, hq⟩ := this
  refine ⟨φ, st, ρ, P, pre, ht, fun ds st' hp φ' H' vs b d => ?_⟩
  show liftSp X.K sp (vs ++ []) H' Q E0
  rw [List.append_nil]
  exact hq ds st' hp φ' H' vs b d
theorem de_call0 {k : Nat} {f : Addr} {fd : FuncData} {ps : List Str} {sp : RDL} (F : FnOk X.prog X.w X.K X.mg X.base CX0 k f fd ps (liftSp X.K sp)) (hr : Room k X.A) (hm : X.mg x = some (.ref f)) (hk : PySem.W.keepIn X.K (.ref f) = true)
    (hb : Binds X.K fd ps []) (hg : Gl X x := by rfl) (hdb : (x == ("__debug__" : Str)) = false := by decide) : DE X (.Call (.Name x p) [] [] pos) (tcall sp tanil) := by
  refine PE.imp (pe_call0 F hr hg hm hk hb .nil pass0 hdb) fun σ H Q h => ?_
  have := call_lift h
  obtain ⟨φ, st, ρ, P, pre, ht, hq⟩ := this
  exact hq [] st ht φ H [] (.refl pre.1) .nil
theorem de_callB {id : String} {r : RDL} (hc : CallD X (.builtin id) r) (hm : X.mg x = none) (hv : bootBuiltins x = some (.builtin id)) (ha : DA X (e :: es) t) (hg : Gl X x := by rfl) (hn : x ≠ "__name__" := by decide) (hdb : (x == ("__debug__" : Str)) = false := by decide)
    (he : starEach (e :: es) X.env = (false, eval e X.env) :: starEach es X.env := by rfl) (hpl : (backTo pos (starEach es X.env)).any (·.1) = false := by rfl) : DE X (.Call (.Name x p) (e :: es) [] pos) (tcall r t) :=
  PE.imp (pe_callB hc hg hm hv ha hn hdb he hpl) fun σ H Q h => call_lift h
theorem de_callTy {T : String} {r : RDL} (hc : CallD X (.type T) r) (hm : X.mg x = none) (hv : bootBuiltins x = some (.type T)) (ha : DA X (e :: es) t) (hg : Gl X x := by rfl) (hn : x ≠ "__name__" := by decide) (hdb : (x == ("__debug__" : Str)) = false := by decide)
    (he : starEach (e :: es) X.env = (false, eval e X.env) :: starEach es X.env := by rfl) (hpl : (backTo pos (starEach es X.env)).any (·.1) = false := by rfl) : DE X (.Call (.Name x p) (e :: es) [] pos) (tcall r t) :=
  PE.imp (pe_callTy hc hg hm hv ha hn hdb he hpl) fun σ H Q h => call_lift h
noncomputable def rLen : RDL := fun ds st P => match ds with
  | [.str z] => z.length ≤ sizeLine ∧ P (.int z.length) st
  | [x] => (match seqOf st x with
    | some xs => P (.int xs.length) st
    | none => False)
  | _ => False
theorem cd_len : CallD X (.builtin "len") rLen := by
  intro pins s σ H vs us Q I rv h
  obtain ⟨φ, st, ds, P, R, dl, hr, hq⟩ := h
  rcases ds with _ | ⟨x, _ | ⟨y, r⟩⟩
  · exact hr.elim
  rotate_left
  · cases x <;> exact hr.elim
  · obtain ⟨v, rfl, dx⟩ := dl.one
    have gen : (match seqOf st x with
      | some xs => P (.int xs.length) st
      | none => False) → wpAny (model X.prog X.w) X.A (call (.builtin "len") us) (EP X pins σ Q) X.xe s := fun hg => by
      split at hg
      · rename_i xs e
        obtain ⟨p, ws, e1, hs, hd⟩ := seq_of R dx e
        refine call_len_seq pins s σ H [v] us Q I rv ⟨p, ws, by rw [e1], hs.elim (fun z => .inl z.1) fun z => .inr z.1, ?_⟩
        rw [← hd.length]
        exact Go.here hq R hg D.mkInt
      · exact hg.elim
    cases x with
    | str z => exact call_len_str pins s σ H [v] us Q I rv ⟨z, by rw [dx.str], hr.1, Go.here hq R hr.2 D.mkInt⟩
    | _ => exact gen hr
noncomputable def rTuple : RDL := fun ds st P => match ds with
  | [x] => (match seqOf st x with
    | some xs => P (.tup xs) st
    | none => False)
  | _ => False
theorem cd_tuple : CallD X (.type "tuple") rTuple := by
  intro pins s σ H vs us Q I rv h
  obtain ⟨φ, st, ds, P, R, dl, hr, hq⟩ := h
  rcases ds with _ | ⟨x, _ | ⟨y, r⟩⟩
  · exact hr.elim
  rotate_left
  · cases x <;> exact hr.elim
  · obtain ⟨v, rfl, dx⟩ := dl.one
    have hr' : (match seqOf st x with
      | some xs => P (.tup xs) st
      | none => False) := hr
    split at hr'
    · rename_i xs e
      obtain ⟨p, ws, e1, hs, hd⟩ := seq_of R dx e
      refine call_tuple_of pins s σ H [v] us Q I rv ⟨p, ws, by rw [e1], ?_⟩
      rcases hs with ⟨hs, _⟩ | ⟨hs, ex⟩
      · exact .inl ⟨hs, fun l hl => hq _ st hr' φ _ _ (bhd_tup R hl) (.mkTup (SqT.of upd_same) (hd.evo (evo_new hl)))⟩
      · exact .inr ⟨hs, Go.here hq R hr' (.mkTup hs hd)⟩
    · exact hr'.elim
noncomputable def rList : RDL := fun ds st P => match ds with
  | [x] => (match seqOf st x with
    | some xs => P (.lst st.length) (st ++ [.rw xs])
    | none => False)
  | _ => False
theorem cd_list : CallD X (.type "list") rList := by
  intro pins s σ H vs us Q I rv h
  obtain ⟨φ, st, ds, P, R, dl, hr, hq⟩ := h
  rcases ds with _ | ⟨x, _ | ⟨y, r⟩⟩
  · exact hr.elim
  rotate_left
  · cases x <;> exact hr.elim
  · obtain ⟨v, rfl, dx⟩ := dl.one
    have hr' : (match seqOf st x with
      | some xs => P (.lst st.length) (st ++ [.rw xs])
      | none => False) := hr
    split at hr'
    · rename_i xs e
      obtain ⟨p, ws, e1, hs, hd⟩ := seq_of R dx e
      exact call_list_of pins s σ H [v] us Q I rv ⟨p, ws, by rw [e1], hs.elim (fun z => .inl z.1) fun z => .inr z.1, fun l hl => hq _ _ hr' _ _ _ (bhd_lst R hl hd) d_new⟩
    · exact hr'.elim
end
end L3
namespace L3
open PySem PySem.Spec PyProof.Rows L2
section
variable {X : Cx}
noncomputable def tyN : Dt → Option String
  | .non => some "NoneType"
  | .bl _ => some "bool"
  | .int _ => some "int"
  | .str _ => some "str"
  | .tup _ => some "tuple"
  | .lst _ => some "list"
  | .ty _ => none
  | .dic _ => none
  | .ins _ => none
noncomputable def isT (t c : String) : Bool := t == c || (t == "bool" && c == "int")
theorem kit_of (K : PySem.W.Frag) {t c : String} (ht : t = "NoneType" ∨ t = "bool" ∨ t = "int" ∨ t = "str" ∨ t = "tuple" ∨ t = "list") (hc : c = "bool" ∨ c = "int" ∨ c = "str" ∨ c = "tuple" ∨ c = "list") : PySem.W.kitOne K (.type t) (.type c) = some (isT t c) := by
  rcases ht with rfl | rfl | rfl | rfl | rfl | rfl <;> rcases hc with rfl | rfl | rfl | rfl | rfl <;> kernel_rfl
noncomputable def rIsInst : RDL := fun ds st P => match ds with
  | [x, .ty c] => (c = "bool" ∨ c = "int" ∨ c = "str" ∨ c = "tuple" ∨ c = "list") ∧ (match tyN x with
    | some t => P (.bl (isT t c)) st
    | none => False)
  | _ => False
theorem cd_isinst : CallD X (.builtin "isinstance") rIsInst := by
  intro pins s σ H vs us Q I rv h
  obtain ⟨φ, st, ds, P, R, dl, hr, hq⟩ := h
  rcases ds with _ | ⟨x, _ | ⟨y, _ | ⟨z, r⟩⟩⟩
  · exact hr.elim
  · exact hr.elim
  rotate_left
  · cases y <;> exact hr.elim
  · cases y <;> first
      | exact hr.elim
      | skip
    rename_i c
    obtain ⟨v, w, rfl, dx, dy⟩ := dl.two
    obtain ⟨u, u', rfl, ru, ru'⟩ := vals2 rv
    have := dy.ty
    subst this
    have := (show u' = Value.type c from ru')
    subst this
    obtain ⟨hc, hr⟩ := hr
    have fin : ∀ {t : String}, P (.bl (isT t c)) st → ∀ tk, EP X pins σ Q (.bool (isT t c)) { s with toks := tk } := fun {t} hp tk => ⟨.bl _, H, I.tok tk, rfl, Go.here hq R hp D.mkBl⟩
    cases x with
    | non => cases dx.non; cases ru; exact PySem.W.kia_one PySem.W.kitx_none I.kIn True.intro (kit_of _ (.inl rfl) hc) (fun z => nomatch z) (fin hr)
    | bl k => cases dx.bl; cases ru; exact PySem.W.kia_one PySem.W.kitx_bool I.kIn True.intro (kit_of _ (.inr (.inl rfl)) hc) (fun z => nomatch z) (fin hr)
    | int k => cases dx.int; obtain ⟨t, rfl⟩ := ru; exact PySem.W.kia_one PySem.W.kitx_int I.kIn True.intro (kit_of _ (.inr (.inr (.inl rfl))) hc) (fun z => nomatch z) (fin hr)
    | str k => cases dx.str; obtain ⟨t, rfl⟩ := ru; exact PySem.W.kia_one PySem.W.kitx_str I.kIn True.intro (kit_of _ (.inr (.inr (.inr (.inl rfl)))) hc) (fun z => nomatch z) (fin hr)
    | tup xs =>
      obtain ⟨a, ws, e1, s1, d1⟩ := dx.tup
      subst e1
      cases ru
      obtain ⟨its, _, ⟨o, h1, h2, _⟩, _⟩ := I.tuple s1
      exact PySem.W.kia_one PySem.W.kitx_tuple I.kIn ⟨o, h1, h2⟩ (kit_of _ (.inr (.inr (.inr (.inr (.inl rfl))))) hc) (fun z => nomatch z) (fin hr)
    | lst n =>
      obtain ⟨ws, s1⟩ := dx.isL
      obtain ⟨hn, e1⟩ := dx.lst
      subst e1
      cases ru
      obtain ⟨its, _, pl, _⟩ := I.list s1
      obtain ⟨ob, h1, h2, _⟩ := pl.isList
      exact PySem.W.kia_one PySem.W.kitx_list I.kIn ⟨ob, h1, h2⟩ (kit_of _ (.inr (.inr (.inr (.inr (.inr rfl))))) hc) (fun z => nomatch z) (fin hr)
    | ty _ => exact hr.elim
    | dic _ => exact hr.elim
    | ins _ => exact hr.elim
end
end L3
namespace L3
open PySem PySem.Spec PyProof.Rows L2
section
variable {X : Cx} {s : Stmt} {rest : List Stmt} {t u : TSD} {e : Expr} {te : TD} {pos : Pos}
noncomputable def tnext : TSD := fun E ρ st => E.nx ρ st
noncomputable def tseq (t u : TSD) : TSD := fun E ρ st => t { E with nx := u E } ρ st
theorem dss_nil : DSs X [] tnext := (pss_nil).imp fun E σ H h => by
  obtain ⟨φ, st, ρ, P, pre, ht, n, b, c, r⟩ := h
  exact n ρ st ht φ H σ (.refl pre.1) pre.2
theorem dss_cons (h1 : DS X s t) (h2 : DSs X rest u) : DSs X (s :: rest) (tseq t u) := (pss_cons h1 h2).imp fun E σ H h => by
  obtain ⟨φ, st, ρ, P, pre, ht, n, b, c, r⟩ := h
  refine ⟨φ, st, ρ, { P with nx := u P }, pre, ht, fun ρ' st' hu φ' H' σ' bh dr => ?_, b, c, r⟩
  exact ⟨φ', st', ρ', P, ⟨bh.1, dr⟩, hu, fun ρ2 st2 h2 φ2 H2 σ2 b2 d2 => n ρ2 st2 h2 φ2 H2 σ2 (bh.trans b2) d2, fun ρ2 st2 h2 φ2 H2 σ2 b2 d2 => b ρ2 st2 h2 φ2 H2 σ2 (bh.trans b2) d2,
    fun ρ2 st2 h2 φ2 H2 σ2 b2 d2 => c ρ2 st2 h2 φ2 H2 σ2 (bh.trans b2) d2, fun d st2 h2 φ2 H2 v b2 d2 => r d st2 h2 φ2 H2 v (bh.trans b2) d2⟩
noncomputable def tdrop (te : TD) : TSD := fun E ρ st => te ρ st fun _ st1 => E.nx ρ st1
theorem ds_expr (he : DE X e te) (hs : swapsWith e none pos.line X.env = pure false := by rfl) : DS X (.Expr e pos) (tdrop te) := (ps_expr he hs).imp fun E σ H h => by
  obtain ⟨φ, st, ρ, P, pre, ht, n, b, c, r⟩ := h
  exact ⟨φ, st, ρ, _, pre, ht, fun d st1 h1 φ1 H1 v b1 dx => n ρ st1 h1 φ1 H1 σ b1 (pre.on b1).2⟩
noncomputable def tret (te : TD) : TSD := fun E ρ st => te ρ st E.rt
theorem ds_ret (he : DE X e te) : DS X (.Return (some e) pos) (tret te) := (ps_ret he).imp fun E σ H h => by
  obtain ⟨φ, st, ρ, P, pre, ht, n, b, c, r⟩ := h
  exact ⟨φ, st, ρ, P.rt, pre, ht, r⟩
noncomputable def tifS (c : TBD) (t u : TSD) : TSD := fun E ρ st => c ρ st fun k st1 => if k = true then t E ρ st1 else u E ρ st1
theorem ds_if {c : Expr} {a b : List Stmt} {tc : TBD} (hc : DT X c tc) (ha : DSs X a t) (hb : DSs X b u) : DS X (.If c a b pos) (tifS tc t u) := (ps_if hc ha hb).imp fun E σ H h => by
  obtain ⟨φ, st, ρ, P, pre, ht, n, b, c, r⟩ := h
  refine ⟨φ, st, ρ, _, pre, ht, fun k st1 h1 φ1 H1 b1 => ?_⟩
  have on : ∀ {v : TSD}, v P ρ st1 → liftS X.K v E σ H1 := fun {v} hv => ⟨φ1, st1, ρ, P, pre.on b1, hv, fun ρ2 st2 h2 φ2 H2 σ2 b2 d2 => n ρ2 st2 h2 φ2 H2 σ2 (b1.trans b2) d2, fun ρ2 st2 h2 φ2 H2 σ2 b2 d2 => b ρ2 st2 h2 φ2 H2 σ2 (b1.trans b2) d2,
    fun ρ2 st2 h2 φ2 H2 σ2 b2 d2 => c ρ2 st2 h2 φ2 H2 σ2 (b1.trans b2) d2, fun d st2 h2 φ2 H2 v b2 d2 => r d st2 h2 φ2 H2 v (b1.trans b2) d2⟩
  cases k with
  | true => exact iteT (on (by rw [if_pos rfl] at h1; exact h1))
  | false => exact iteF (on (by rw [if_neg Bool.false_ne_true] at h1; exact h1))
noncomputable abbrev TGD := Dt → Rho → Sto → (Rho → Sto → Prop) → Prop
noncomputable abbrev TGsD := List Dt → Rho → Sto → (Rho → Sto → Prop) → Prop
noncomputable def liftG (K : PySem.W.Frag) (g : TGD) : TG := fun v σ H Q => ∃ φ st ρ d P, Pre K φ st H ρ σ ∧ D K φ st.length H d v ∧ g d ρ st P ∧ ∀ ρ' st', P ρ' st' → ∀ φ' H' σ', Bhd K φ st H φ' st' H' → DR K φ' st'.length H' ρ' σ' → Q σ' H'
noncomputable def liftGs (K : PySem.W.Frag) (g : TGsD) : TGs := fun vs σ H Q => ∃ φ st ρ ds P, Pre K φ st H ρ σ ∧ DL K φ st.length H ds vs ∧ g ds ρ st P ∧ ∀ ρ' st', P ρ' st' → ∀ φ' H' σ', Bhd K φ st H φ' st' H' → DR K φ' st'.length H' ρ' σ' → Q σ' H'
noncomputable def DG (X : Cx) (tg : Expr) (g : TGD) : Prop := PG X tg (liftG X.K g)
noncomputable def DGs (X : Cx) (tg : List Expr) (g : TGsD) : Prop := PGs X tg (liftGs X.K g)
theorem _root_.L2.PG.imp {X : Cx} {e : Expr} {t t' : TG} (h : PG X e t) (i : ∀ v σ H Q, t' v σ H Q → t v σ H Q) : PG X e t' := fun pins s σ H v u Q I r q => h pins s σ H v u Q I r (i v σ H Q q)
theorem _root_.L2.PGs.imp {X : Cx} {e : List Expr} {t t' : TGs} (h : PGs X e t) (i : ∀ v σ H Q, t' v σ H Q → t v σ H Q) : PGs X e t' := fun pins s σ H v u Q I r q => h pins s σ H v u Q I r (i v σ H Q q)
noncomputable def gname (i : Nat) : TGD := fun d ρ st P => P (ρ.set i (some d)) st
theorem dg_name (i : Nat) {x : Str} (hN : X.N.Nodup) (hi : X.N[i]? = some x := by rfl) (hx : Loc X.env.scope x := by first | exact Or.inl rfl | exact Or.inr rfl) (hf : X.fn x = true ∨ X.env.scope.names.lookup x = some .local := by first | exact .inl rfl | exact .inr rfl | assumption) : DG X (.Name x pos) (gname i) :=
  (pg_name hN hi hx hf).imp fun v σ H Q h => by
    obtain ⟨φ, st, ρ, d, P, pre, hd, hg, hq⟩ := h
    exact hq _ st hg φ H _ (.refl pre.1) (pre.2.set hd i)
noncomputable def gsnil : TGsD := fun ds ρ st P => match ds with
  | [] => P ρ st
  | _ => False
noncomputable def gscons (g : TGD) (gs : TGsD) : TGsD := fun ds ρ st P => match ds with
  | d :: r => g d ρ st fun ρ1 st1 => gs r ρ1 st1 P
  | _ => False
theorem dgs_nil : DGs X [] gsnil := (pgs_nil).imp fun v σ H Q h => by
  obtain ⟨φ, st, ρ, ds, P, pre, hd, hg, hq⟩ := h
  cases ds with
  | nil =>
    have : v = [] := by simpa [DL] using hd
    exact ⟨this, hq _ st hg φ H _ (.refl pre.1) pre.2⟩
  | cons _ _ => exact hg.elim
theorem dgs_cons {es : List Expr} {g : TGD} {gs : TGsD} (h1 : DG X e g) (h2 : DGs X es gs) (hs : (assignEach (e :: es) X.env).map (·.2) = assign e X.env :: (assignEach es X.env).map (·.2) := by rfl) : DGs X (e :: es) (gscons g gs) := (pgs_cons h1 h2 hs).imp fun v σ H Q h => by
  obtain ⟨φ, st, ρ, ds, P, pre, hd, hg, hq⟩ := h
  cases ds with
  | nil => exact hg.elim
  | cons d r =>
    simp only [DL] at hd
    obtain ⟨w, ws, rfl, dw, dws⟩ := hd
    refine ⟨w, ws, rfl, φ, st, ρ, d, _, pre, dw, hg, fun ρ1 st1 h1 φ1 H1 σ1 b1 dr1 => ?_⟩
    exact ⟨φ1, st1, ρ1, r, P, ⟨b1.1, dr1⟩, dws.evo b1.2, h1, fun ρ2 st2 h2 φ2 H2 σ2 b2 d2 => hq ρ2 st2 h2 φ2 H2 σ2 (b1.trans b2) d2⟩
noncomputable def gunpack (n : Nat) (gs : TGsD) : TGD := fun d ρ st P => match seqOf st d with
  | some xs => xs.length = n ∧ gs xs ρ st P
  | none => False
theorem draw_list {prog : Program} {w : World} {A : Around} {E : Value → Shared → Prop} {it l : Addr} {items : Array Value} (hne : l ≠ it) : ∀ (n i : Nat) (s : Shared) (Q : List Value → Shared → Prop), s.heap.IsListIter it l i → s.heap.IsList l items → i + n ≤ items.size →
    (∀ h', h'.IsListIter it l (i + n) → Heap.SameBut it s.heap h' → Q ((items.toList.drop i).take n) { s with heap := h' }) → wpAny (model prog w) A (draw (.ref it) n) Q E s
  | 0, i, s, Q, hit, hl, hn, h => by
    unfold draw
    have := h s.heap (by simpa using hit) (.refl ..)
    simpa using wpAny_pure this
  | n + 1, i, s, Q, hit, hl, hn, h => by
    unfold draw
    have hi : i < items.size := by omega
    refine wpAny_bind (wpAny_pyNext_list_item hit hl (x := items[i]) (by simp [hi]) fun h1 hit1 sb1 => ?_)
    dsimp only
    refine wpAny_bind (wpAny_holding ?_)
    refine draw_list hne n (i + 1) { s with heap := h1 } _ hit1 (hl.extBut sb1.extBut hne) (by omega) fun h2 hit2 sb2 => ?_
    refine wpAny_pure ?_
    have e : (items.toList.drop i).take (n + 1) = items[i] :: (items.toList.drop (i + 1)).take n := by
      rw [List.drop_eq_getElem_cons (by simpa using hi), List.take_succ_cons]
      simp
    have := h h2 (by rw [show i + (n + 1) = i + 1 + n by omega]; exact hit2) (sb1.trans sb2)
    rw [e] at this
    exact this
end
end L3
namespace L3
open PySem PySem.Spec PyProof.Rows L2
section
variable {prog : Program} {w : World} {A : Around} {E : Value → Shared → Prop} {s : Shared}
theorem unpackItems_list {l : Addr} {items : Array Value} {Q : List Value → Shared → Prop} (hh : A.handled = none) (hl : s.heap.IsList l items)
    (hQ : ∀ h', Heap.ExtBut s.heap.objs.size s.heap h' → Q items.toList { s with heap := h' }) : wpAny (model prog w) A (unpackItems (.ref l) items.size none) Q E s := by
  have hlt : l ≠ s.heap.objs.size := by obtain ⟨o, ho, _⟩ := hl; exact Nat.ne_of_lt (Heap.lt_size ho)
  unfold unpackItems
  refine wpAny_bind ?_
  unfold notIterableAtAll
  refine wpAny_bind (wpAny_specialOf hl.typeIs slot_list_iter.lookup ?_)
  refine wpAny_pure ?_
  simp only [Bool.false_eq_true, if_false]
  refine wpAny_bind (wpAny_holding (wpAny_pyIter_list hl ?_))
  refine wpAny_bind (wpAny_holding (draw_list hlt items.size 0 _ _ ⟨_, Heap.get?_push_size _ rfl, rfl, rfl⟩ (hl.push _) (by omega) fun h₁ hit₁ hs₁ => ?_))
  have hall : List.take items.size (List.drop 0 items.toList) = items.toList := by
    rw [List.drop_zero]; exact List.take_of_length_le (by simp)
  rw [hall]
  rw [if_neg (by simp)]
  have hl₁ : h₁.IsList l items := (hl.push _).extBut hs₁.extBut hlt
  refine wpAny_bind (wpAny_holding (wpAny_pyNext_list_end hh hit₁ hl₁ (by simp) fun h₂ he₂ => ?_))
  simp only [Option.isSome_none, Bool.false_eq_true, if_false]
  exact wpAny_pure (hQ h₂ fun b o hb e => he₂ b o hb (hs₁.extBut b o hb (Heap.get?_push_of_some _ e)))
theorem assign_Tuple_list {env : Env} {elts : List Expr} {x1} {pos : Pos} {t : Addr} {items : Array Value} {Q : Unit → Shared → Prop} (hh : A.handled = none) (ht : s.heap.IsList t items)
    (hn : (assignEach elts env).length = items.size) (hstar : (assignEach elts env).findIdx? (·.1) = none)
    (h : ∀ h', Heap.ExtBut s.heap.objs.size s.heap h' → wpAny (model prog w) A (assignInOrder ((assignEach elts env).map (·.2)) items.toList) Q E { s with heap := h' }) :
    wpAny (model prog w) A (assign (.Tuple elts x1 pos) env (.ref t)) Q E s := by
  rw [assign_Tuple]
  refine wpAny_bind (wpAny_standAt ?_)
  unfold unpack
  rw [hn, hstar]
  exact wpAny_bind (wpAny_holding (unpackItems_list hh ht h))
end
section
variable {X : Cx} {pos : Pos} {e : Expr} {te : TD}
theorem dg_unpack {es : List Expr} {k : Nat} {gs : TGsD} (n : Nat) (hc : X.calm = true) (h : DGs X es gs) (hn : (assignEach es X.env).length = n := by rfl) (hst : (assignEach es X.env).findIdx? (·.1) = none := by rfl) : DG X (.Tuple es k pos) (gunpack n gs) := by
  intro pins s σ H v u Q I r hw
  obtain ⟨φ, st, ρ, d, P, pre, hd, hg, hq⟩ := hw
  unfold gunpack at hg
  split at hg
  · rename_i xs ex
    obtain ⟨hl, hg⟩ := hg
    obtain ⟨p, vs, e1, hs, dl⟩ := seq_of pre.1 hd ex
    subst e1
    cases r
    have hlen := dl.length
    rcases hs with ⟨hs, _⟩ | ⟨hs, _⟩
    · obtain ⟨its, rv, pl, _⟩ := I.list hs
      have := rv.length
      refine assign_Tuple_list (I.ok.hd hc) pl.isList (by rw [hn, List.size_toArray]; omega) hst fun h' hx => ?_
      have I1 : Inv X pins σ H { s with heap := h' } := I.kept (t' := s.toks) fun b o e => hx b o (Nat.ne_of_lt (Heap.lt_size e)) e
      exact h pins _ σ H vs _ Q I1 (by simpa using rv) ⟨φ, st, ρ, xs, P, pre, dl, hg, hq⟩
    · obtain ⟨its, rv, ht, _⟩ := I.tuple hs
      have := rv.length
      refine assign_Tuple_tuple (I.ok.hd hc) ht (by rw [hn, List.size_toArray]; omega) hst fun h' hx => ?_
      have I1 : Inv X pins σ H { s with heap := h' } := I.kept (t' := s.toks) fun b o e => hx b o (Nat.ne_of_lt (Heap.lt_size e)) e
      exact h pins _ σ H vs _ Q I1 (by simpa using rv) ⟨φ, st, ρ, xs, P, pre, dl, hg, hq⟩
  · exact hg.elim
noncomputable def tasg (te : TD) (g : TGD) : TSD := fun E ρ st => te ρ st fun d st1 => g d ρ st1 E.nx
theorem ds_set (i : Nat) {x : Str} {pos' : Pos} (hN : X.N.Nodup) (he : DE X e te) (hi : X.N[i]? = some x := by rfl) (hx : Loc X.env.scope x := by first | exact Or.inl rfl | exact Or.inr rfl) (hs : swapsWith e (some (.Name x pos')) pos.line X.env = pure false := by rfl)
    (hf : X.fn x = true ∨ X.env.scope.names.lookup x = some .local := by first | exact .inl rfl | exact .inr rfl | assumption) : DS X (.Assign [.Name x pos'] e pos) (tasg te (gname i)) := (ps_set hN hi hx he hs hf).imp fun E σ H h => by
  obtain ⟨φ, st, ρ, P, pre, ht, n, b, c, r⟩ := h
  exact ⟨φ, st, ρ, _, pre, ht, fun d st1 h1 φ1 H1 v b1 dx => n _ st1 h1 φ1 H1 _ b1 ((pre.on b1).2.set dx i)⟩
noncomputable def tappend (to te : TD) : TD := fun ρ st P => to ρ st fun o st1 => match o with
  | .lst n => te ρ st1 fun d st2 => (match st2[n]? with
    | some (.rw xs) => xs.length < sizeLine ∧ P .non (st2.set n (.rw (xs ++ [d])))
    | _ => False)
  | _ => False
theorem de_append {o : Expr} {to : TD} {apos cpos : Pos} (ho : DE X o to) (he : DE X e te)
    (hbase : attributeBase o "append" X.env (eval o X.env) = eval o X.env := by rfl)
    (hfew : ((backTo cpos (starEach [e] X.env)).all (fun x => !x.1) && (backToKw cpos (keywordEach [] X.env)).all (fun x => x.1.isSome)
      && decide (([e] : List Expr).length + ([] : List Keyword).length + (if ([] : List Keyword).isEmpty then 0 else 1) < 30)) = true := by rfl)
    (hline : (apos.endLine == cpos.line) = true := by rfl) (hs : starEach [e] X.env = (false, eval e X.env) :: starEach [] X.env := by rfl) (hplain : (backTo cpos (starEach ([] : List Expr) X.env)).any (·.1) = false := by rfl) :
    DE X (.Call (.Attribute o "append" apos) [e] [] cpos) (tappend to te) := by
  refine PE.imp (pe_bm PySem.F.plainAttrs_list PySem.F.slot_list_append PySem.F.type_list_append mt_append ho (da_cons he da_nil hs) hbase hfew hline hs hplain) fun σ H Q h => ?_
  obtain ⟨φ, st, ρ, P, pre, ht, hq⟩ := h
  refine ⟨φ, st, ρ, _, pre, ht, fun x st1 h1 φ1 H1 v b1 dx => ?_⟩
  cases x with
  | lst n =>
    have hn := dx.lst.1
    obtain ⟨so, eo⟩ : ∃ so, st1[n]? = some so := ⟨st1[n], by simp [hn]⟩
    obtain ⟨ws, hws, _⟩ := b1.1.seq eo dx.isL
    refine ⟨?_, ?_⟩
    · rw [dx.lst.2]
      exact .inl ⟨rfl, ws, hws⟩
    refine ⟨φ1, st1, ρ, (fun ds st2 => match ds with
      | [d] => (match st2[n]? with
        | some (.rw xs) => xs.length < sizeLine ∧ P .non (st2.set n (.rw (xs ++ [d])))
        | _ => False)
      | _ => False), pre.on b1, h1, fun ds st2 h2 φ2 H2 zs b2 dz => ?_⟩
    rcases ds with _ | ⟨d, _ | ⟨d2, r⟩⟩
    · exact h2.elim
    rotate_left
    · exact h2.elim
    · have h2 : (match st2[n]? with
        | some (.rw xs) => xs.length < sizeLine ∧ P .non (st2.set n (.rw (xs ++ [d])))
        | _ => False) := h2
      split at h2
      · rename_i xs ex
        obtain ⟨y, rfl, dy⟩ := dz.one
        obtain ⟨vs, hv, dl⟩ := b2.1.rw n xs ex
        have dx2 := dx.evo b2.2
        have bb : Bhd X.K φ2 st2 H2 φ2 (st2.set n (.rw (xs ++ [d]))) (upd H2 (φ2 n) (.lst (vs ++ [y]))) := ⟨b2.1.setL ex (dl.append (.cons dy .nil)), evo_set hv⟩
        exact ⟨φ2 n, vs, y, dx2.lst.2, rfl, hv, by rw [← dl.length]; exact h2.1, hq _ _ h2.2 φ2 _ _ (b1.trans (b2.trans bb)) D.mkNon⟩
      · exact h2.elim
  | _ => exact h1.elim
end
end L3
namespace L3
open PySem PySem.Spec PyProof.Rows L2
noncomputable def forW (items : List Dt) (ok : Sto → Prop) (g : TGD) (tb : TSD) : TSD := fun E ρ st => ∃ Inv : Nat → Rho → Sto → Prop, Inv 0 ρ st ∧ (∀ i ρ' st', i ≤ items.length → Inv i ρ' st' → ok st') ∧
  (∀ (i : Nat) d ρ' st', items[i]? = some d → Inv i ρ' st' → g d ρ' st' fun ρ2 st2 => tb { E with nx := Inv (i + 1), ct := Inv (i + 1), bk := E.nx } ρ2 st2) ∧ ∀ ρ' st', Inv items.length ρ' st' → E.nx ρ' st'
noncomputable def Yields (K : PySem.W.Frag) (φ1 : Nat → Addr) (st1 : Sto) (H1 : Hp) (J : It) (items : List Dt) (ok : Sto → Prop) : Prop :=
  ∀ (i : Nat) φ' st' H', Bhd K φ1 st1 H1 φ' st' H' → ok st' → i ≤ items.length → (i = items.length → J.stop i H') ∧
    (∀ d, items[i]? = some d → J.go i H' ∧ ∀ y H2, J.yld i H' y H2 → Bhd K φ' st' H' φ' st' H2 ∧ D K φ' st'.length H2 d y)
section
variable {K : PySem.W.Frag} {φ1 : Nat → Addr} {st1 : Sto} {H1 : Hp} {ρ1 : Rho} {σ1 : L2.St} {J : It} {items : List Dt} {ok : Sto → Prop} {g : TGD} {tb : TSD}
theorem for_gen {E : EndsD} {E' : Ends} (pre : Pre K φ1 st1 H1 ρ1 σ1) (hJ : Yields K φ1 st1 H1 J items ok) (hf : forW items ok g tb E ρ1 st1)
    (n : ∀ ρ' st', E.nx ρ' st' → ∀ φ' H' σ', Bhd K φ1 st1 H1 φ' st' H' → DR K φ' st'.length H' ρ' σ' → E'.nx σ' H')
    (r : ∀ d st', E.rt d st' → ∀ φ' H' v, Bhd K φ1 st1 H1 φ' st' H' → D K φ' st'.length H' d v → E'.rt v H') :
    ∃ W : Nat → Nat → L2.St → Hp → Prop, (∃ m, W 0 m σ1 H1) ∧ ∀ i m σ H, W i m σ H →
      (J.stop i H ∧ E'.nx σ H) ∨ (J.go i H ∧ ∃ N : L2.St → Hp → Prop, (∀ σ' H', N σ' H' → ∃ m', m' < m ∧ W (i + 1) m' σ' H') ∧ ∀ x H', J.yld i H x H' → liftG K g x σ H' fun σ2 H2 => liftS K tb { E' with nx := N, ct := N, bk := E'.nx } σ2 H2) := by
  obtain ⟨Inv, h0, hok, step, fin⟩ := hf
  refine ⟨fun i m σ H => m = items.length - i ∧ i ≤ items.length ∧ ∃ φ' st' ρ', Pre K φ' st' H ρ' σ ∧ Bhd K φ1 st1 H1 φ' st' H ∧ Inv i ρ' st', ⟨items.length, by simp, Nat.zero_le _, φ1, st1, ρ1, pre, .refl pre.1, h0⟩, ?_⟩
  rintro i m σ H ⟨rfl, hi, φ', st', ρ', pre', bh, hI⟩
  obtain ⟨js, jg⟩ := hJ i φ' st' H bh (hok i ρ' st' hi hI) hi
  by_cases hlt : i < items.length
  · have ed : items[i]? = some items[i] := by simp [hlt]
    obtain ⟨go, yl⟩ := jg _ ed
    refine .inr ⟨go, fun σ3 H3 => ∃ φ3 st3 ρ3, Pre K φ3 st3 H3 ρ3 σ3 ∧ Bhd K φ1 st1 H1 φ3 st3 H3 ∧ Inv (i + 1) ρ3 st3, fun σ3 H3 h3 => ⟨items.length - (i + 1), by omega, rfl, hlt, h3⟩, fun y H2 hy => ?_⟩
    obtain ⟨b2, dy⟩ := yl y H2 hy
    refine ⟨φ', st', ρ', items[i], _, pre'.on b2, dy, step i _ ρ' st' ed hI, fun ρ3 st3 h3 φ3 H3 σ3 b3 d3 => ?_⟩
    have b13 := bh.trans (b2.trans b3)
    refine ⟨φ3, st3, ρ3, _, ⟨b3.1, d3⟩, h3, fun ρ4 st4 h4 φ4 H4 σ4 b4 d4 => ⟨φ4, st4, ρ4, ⟨b4.1, d4⟩, b13.trans b4, h4⟩, fun ρ4 st4 h4 φ4 H4 σ4 b4 d4 => n ρ4 st4 h4 φ4 H4 σ4 (b13.trans b4) d4,
      fun ρ4 st4 h4 φ4 H4 σ4 b4 d4 => ⟨φ4, st4, ρ4, ⟨b4.1, d4⟩, b13.trans b4, h4⟩, fun d st4 h4 φ4 H4 v b4 d4 => r d st4 h4 φ4 H4 v (b13.trans b4) d4⟩
  · have e : i = items.length := by omega
    subst e
    exact .inl ⟨js rfl, n ρ' st' (fin ρ' st' hI) φ' H σ bh pre'.2⟩
end
noncomputable abbrev TID := Rho → Sto → (List Dt → (Sto → Prop) → Sto → Prop) → Prop
noncomputable def liftI (K : PySem.W.Frag) (t : TID) : TI := fun σ H R => ∃ φ st ρ P, Pre K φ st H ρ σ ∧ t ρ st P ∧ ∀ items ok st', P items ok st' → ∀ φ' H' J, Bhd K φ st H φ' st' H' → Yields K φ' st' H' J items ok → R J H'
noncomputable def DI (X : Cx) (tg it : Expr) (t : TID) : Prop := PI X tg it (liftI X.K t)
noncomputable def tfor (ti : TID) (g : TGD) (tb : TSD) : TSD := fun E ρ st => ti ρ st fun items ok st1 => forW items ok g tb E ρ st1
section
variable {X : Cx} {tg iter : Expr} {body : List Stmt} {pos : Pos} {ti : TID} {g : TGD} {tb : TSD}
theorem ds_for (hp : PassesOwn (model X.prog X.w) X.A X.env X.xe) (hc : X.calm = true) (hi : DI X tg iter ti) (hg : DG X tg g) (hb : DSs X body tb) (hs : ∀ x, foldedSetIterable iter X.env x = pure x := by intro _; rfl) : DS X (.For tg iter body [] pos) (tfor ti g tb) :=
  (ps_for hp hc hi hg hb hs).imp fun E σ H h => by
    obtain ⟨φ, st, ρ, P, pre, ht, n, b, c, r⟩ := h
    refine ⟨φ, st, ρ, _, pre, ht, fun items ok st1 h1 φ1 H1 J b1 hJ => ?_⟩
    exact for_gen (pre.on b1) hJ h1 (fun ρ2 st2 h2 φ2 H2 σ2 b2 d2 => n ρ2 st2 h2 φ2 H2 σ2 (b1.trans b2) d2) fun d st2 h2 φ2 H2 v b2 d2 => r d st2 h2 φ2 H2 v (b1.trans b2) d2
noncomputable def iseq (te : TD) : TID := fun ρ st P => te ρ st fun x st1 => match seqOf st1 x with
  | some xs => P xs (fun st' => seqOf st' x = some xs) st1
  | none => False
theorem di_seq {te : TD} (he : DE X iter te) : DI X tg iter (iseq te) := by
  intro pins s σ H R I h
  obtain ⟨φ, st, ρ, P, pre, ht, hq⟩ := h
  refine thn (he pins s σ H _ I ⟨φ, st, ρ, _, pre, ht, fun x st1 h1 φ1 H1 v b1 dx => (show ∃ φ1 st1 x, Bhd X.K φ st H φ1 st1 H1 ∧ D X.K φ1 st1.length H1 x v ∧ (match seqOf st1 x with
    | some xs => P xs (fun st' => seqOf st' x = some xs) st1
    | none => False) from ⟨φ1, st1, x, b1, dx, h1⟩)⟩) fun u s1 ⟨v, H1, I1, ru, φ1, st1, x, b1, dx, h1⟩ => ?_
  split at h1
  · rename_i xs ex
    obtain ⟨a, vs, e1, hs, dl⟩ := seq_of b1.1 dx ex
    subst e1
    cases ru
    rcases hs with ⟨hs, n, exn⟩ | ⟨hs, _⟩
    · obtain ⟨its, rv, pl, hz⟩ := I1.list hs
      refine wpAny_pyIter_list pl.isList ?_
      refine ⟨s1.heap.objs.size, [s1.heap.objs.size], _, _, H1, rfl, I1.kept (t' := s1.toks) fun b o e => Heap.get?_push_of_some _ e, turn_list a _, ⟨_, Heap.get?_push_size _ rfl, rfl, rfl⟩, fun b hb => ?_, hq xs _ st1 h1 φ1 H1 _ b1 ?_⟩
      · have e : b = s1.heap.objs.size := by simpa using hb
        subst e
        exact I1.fpOk (Nat.le_refl _) (I1.hok.fresh (Nat.le_refl _))
      · intro i φ' st' H' bh hok hi
        obtain ⟨a', ws, e2, hs', dl'⟩ := seq_of bh.1 (dx.evo bh.2) hok
        cases e2
        have hsl : SqL X.K H' a ws := by
          rcases hs' with z | ⟨_, z⟩
          · exact z.1
          · rw [exn] at z; cases z
        have hlen := dl'.length
        refine ⟨fun e => ⟨ws, hsl, by omega⟩, fun d ed => ?_⟩
        obtain ⟨y, ey, dy⟩ := dl'.get ed
        refine ⟨⟨ws, y, hsl, ey⟩, fun y' H2 hy => ?_⟩
        obtain ⟨rfl, hy⟩ := hy
        have := hy ws hsl
        rw [ey] at this
        cases this
        exact ⟨.refl bh.1, dy⟩
    · obtain ⟨its, rv, pl, hz⟩ := I1.tuple hs
      refine wpAny_pyIter_tuple (show s1.heap.IsTuple a its.toArray from pl) ?_
      refine ⟨s1.heap.objs.size, [s1.heap.objs.size], _, _, H1, rfl, I1.kept (t' := s1.toks) fun b o e => Heap.get?_push_of_some _ e, turn_tuple a _, ⟨_, Heap.get?_push_size _ rfl, rfl, rfl⟩, fun b hb => ?_, hq xs _ st1 h1 φ1 H1 _ b1 ?_⟩
      · have e : b = s1.heap.objs.size := by simpa using hb
        subst e
        exact I1.fpOk (Nat.le_refl _) (I1.hok.fresh (Nat.le_refl _))
      · intro i φ' st' H' bh hok hi
        have hsl : SqT X.K H' a vs := bh.2.tup a vs hs
        have dl' := dl.evo bh.2
        have hlen := dl'.length
        refine ⟨fun e => ⟨vs, hsl, by omega⟩, fun d ed => ?_⟩
        obtain ⟨y, ey, dy⟩ := dl'.get ed
        refine ⟨⟨vs, y, hsl, ey⟩, fun y' H2 hy => ?_⟩
        obtain ⟨rfl, hy⟩ := hy
        have := hy vs hsl
        rw [ey] at this
        cases this
        exact ⟨.refl bh.1, dy⟩
  · exact h1.elim
noncomputable def rangeD (lo : Int) (n : Nat) : List Dt := (List.range n).map fun k => .int (lo + (k : Nat))
theorem range_get {lo : Int} {n i : Nat} {d : Dt} (h : (rangeD lo n)[i]? = some d) : i < n ∧ d = .int (lo + (i : Nat)) := by
  unfold rangeD at h
  rw [List.getElem?_map] at h
  cases q : (List.range n)[i]? with
  | none => rw [q] at h; cases h
  | some k =>
    rw [q] at h
    have := List.getElem?_eq_some_iff.mp q
    obtain ⟨h1, h2⟩ := this
    rw [List.getElem_range] at h2
    subst h2
    rw [List.length_range] at h1
    exact ⟨h1, (Option.some.inj h).symm⟩
theorem range_len {lo : Int} {n : Nat} : (rangeD lo n).length = n := by unfold rangeD; simp
theorem yields_range {K : PySem.W.Frag} {φ : Nat → Addr} {st : Sto} {H : Hp} {lo : Int} {n : Nat} : Yields K φ st H (Itr lo n) (rangeD lo n) (fun _ => True) := fun i φ' st' H' bh _ hi => by
  rw [range_len] at hi
  refine ⟨fun e => by rw [range_len] at e; exact Nat.le_of_eq e.symm, fun d ed => ?_⟩
  obtain ⟨h1, rfl⟩ := range_get ed
  refine ⟨h1, fun y H2 hy => ?_⟩
  obtain ⟨rfl, rfl⟩ := hy
  exact ⟨.refl bh.1, D.mkInt⟩
noncomputable def irng1 (ta : TD) : TID := fun ρ st P => ta ρ st fun x st1 => match x with
  | .int j => -(2 ^ 62) ≤ j ∧ j < 2 ^ 62 ∧ P (rangeD 0 j.toNat) (fun _ => True) st1
  | _ => False
theorem di_range1 {a : Expr} {ta : TD} {p : Pos} (hm : X.mg "range" = none) (ha : DE X a ta) (hg : Gl X "range" := by rfl) (hs : starEach [a] X.env = [(false, eval a X.env)] := by rfl) : DI X tg (.Call (.Name "range" p) [a] [] pos) (irng1 ta) := by
  intro pins s σ H R I h
  refine pi_range1 hg hm (da_cons ha da_nil hs) hs pins s σ H R I ?_
  obtain ⟨φ, st, ρ, P, pre, ht, hq⟩ := h
  refine ⟨φ, st, ρ, (fun ds st1 => match ds with
    | [x] => (match x with
      | .int j => -(2 ^ 62) ≤ j ∧ j < 2 ^ 62 ∧ P (rangeD 0 j.toNat) (fun _ => True) st1
      | _ => False)
    | _ => False), pre, ?_, fun ds st1 h1 φ1 H1 vs b1 dl => ?_⟩
  · exact ht
  · rcases ds with _ | ⟨d, _ | ⟨d2, r⟩⟩
    · exact h1.elim
    rotate_left
    · exact h1.elim
    · cases d <;> first
        | exact h1.elim
        | skip
      rename_i j
      obtain ⟨v, rfl, dv⟩ := dl.one
      obtain ⟨h2, h3, h4⟩ := h1
      exact ⟨j, by rw [dv.int], h2, h3, hq _ _ st1 h4 φ1 H1 _ b1 yields_range⟩
noncomputable def compD (items : List Dt) (ok : Sto → Prop) (tc : TBD) (te : TD) (cρ : Rho) (st : Sto) (Fin : List Dt → Sto → Prop) : Prop := ∃ Inv : Nat → List Dt → Sto → Prop, Inv 0 [] st ∧ (∀ i ys st', i ≤ items.length → Inv i ys st' → ok st') ∧
  (∀ (i : Nat) d ys st', items[i]? = some d → Inv i ys st' → ys.length < sizeLine ∧ tc (some d :: cρ) st' fun k st1 => if k = true then te (some d :: cρ) st1 fun y st2 => Inv (i + 1) (ys ++ [y]) st2 else Inv (i + 1) ys st1) ∧
  ∀ ys st', Inv items.length ys st' → Fin ys st'
noncomputable def capρ (caps : List (Nat × Str)) (ρ : Rho) : Rho := caps.map fun p => (ρ[p.1]?).join
theorem cap_DR {K : PySem.W.Frag} {φ : Nat → Addr} {N : Nat} {H : Hp} {ρ : Rho} {σ : L2.St} (h : DR K φ N H ρ σ) (caps : List (Nat × Str)) : DR K φ N H (capρ caps ρ) (capσ caps σ) := by
  refine ⟨by unfold capρ capσ; simp, fun i d e => ?_⟩
  unfold capρ at e
  rw [List.getElem?_map] at e
  unfold capσ
  rw [List.getElem?_map]
  cases q : caps[i]? with
  | none => rw [q] at e; cases e
  | some p =>
    rw [q] at e
    have e' : (ρ[p.1]?).join = some d := Option.some.inj e
    have e2 : ρ[p.1]? = some (some d) := by
      cases q : ρ[p.1]? with
      | none => rw [q] at e'; cases e'
      | some o => rw [q] at e'; exact congrArg some e'
    obtain ⟨v, ev, dv⟩ := h.2 p.1 d e2
    exact ⟨v, by show some ((σ[p.1]?).join) = _; rw [ev]; rfl, dv⟩
theorem dr_cons {K : PySem.W.Frag} {φ : Nat → Addr} {N : Nat} {H : Hp} {ρ : Rho} {σ : L2.St} {o : Option V} {d : Dt} {v : V} (h : DR K φ N H ρ σ) (hd : D K φ N H d v) : DR K φ N H (some d :: ρ) (some v :: σ) := by
  refine ⟨by rw [List.length_cons, List.length_cons, h.1], fun i e q => ?_⟩
  cases i with
  | zero => simp at q; subst q; exact ⟨v, rfl, hd⟩
  | succ i => exact h.2 i e (by simpa using q)
noncomputable def DIf (X : Cx) (ifs : List Expr) (t : TBD) : Prop := PIf X ifs (liftT X.K t)
theorem dif_nil : DIf X [] (fun _ st P => P true st) := fun pins s σ H Q I h => by
  obtain ⟨φ, st, ρ, P, pre, ht, hq⟩ := h
  exact pif_nil pins s σ H Q I (hq true st ht φ H (.refl pre.1))
theorem comp_gen {K : PySem.W.Frag} {φ1 : Nat → Addr} {st1 : Sto} {H1 : Hp} {cρ : Rho} {cσ : L2.St} {J : It} {items : List Dt} {ok : Sto → Prop} {tc : TBD} {te : TD} {Fin : List Dt → Sto → Prop} {Fin' : List V → Hp → Prop}
    (R : Rep K φ1 st1 H1) (dr : DR K φ1 st1.length H1 cρ cσ) (hJ : Yields K φ1 st1 H1 J items ok) (hc : compD items ok tc te cρ st1 Fin)
    (hF : ∀ ys st' φ' H' vs, Fin ys st' → Bhd K φ1 st1 H1 φ' st' H' → DL K φ' st'.length H' ys vs → Fin' vs H') :
    compW J (gName 0) (liftT K tc) (liftE K te) (List.replicate 1 none ++ cσ) H1 Fin' := by
  obtain ⟨Inv, h0, hok, step, fin⟩ := hc
  refine ⟨fun i m σ vs H => m = items.length - i ∧ i ≤ items.length ∧ ∃ φ' st' ys o, σ = o :: cσ ∧ Bhd K φ1 st1 H1 φ' st' H ∧ DL K φ' st'.length H ys vs ∧ Inv i ys st',
    ⟨items.length, by simp, Nat.zero_le _, φ1, st1, [], none, rfl, .refl R, .nil, h0⟩, ?_⟩
  rintro i m σ vs H ⟨rfl, hi, φ', st', ys, o, rfl, bh, dl, hI⟩
  obtain ⟨js, jg⟩ := hJ i φ' st' H bh (hok i ys st' hi hI) hi
  by_cases hlt : i < items.length
  · have ed : items[i]? = some items[i] := by simp [hlt]
    obtain ⟨go, yl⟩ := jg _ ed
    obtain ⟨hz, hstep⟩ := step i _ ys st' ed hI
    refine .inr ⟨go, by rw [← dl.length]; exact hz, fun y H2 hy => ?_⟩
    obtain ⟨b2, dy⟩ := yl y H2 hy
    have b12 := bh.trans b2
    have pre2 : Pre K φ' st' H2 (some items[i] :: cρ) (some y :: cσ) := ⟨b2.1, dr_cons (o := none) (dr.evo b12.2) dy⟩
    show liftT K tc (some y :: cσ) H2 _
    refine ⟨φ', st', _, _, pre2, hstep, fun k st3 h3 φ3 H3 b3 => ?_⟩
    cases k with
    | false =>
      rw [if_neg Bool.false_ne_true] at h3 ⊢
      exact ⟨items.length - (i + 1), by omega, rfl, hlt, φ3, st3, ys, some y, rfl, b12.trans b3, dl.evo (b2.2.trans b3.2), h3⟩
    | true =>
      rw [if_pos rfl] at h3 ⊢
      refine ⟨φ3, st3, _, _, pre2.on b3, h3, fun z st4 h4 φ4 H4 w b4 dz => ?_⟩
      exact ⟨items.length - (i + 1), by omega, rfl, hlt, φ4, st4, ys ++ [z], some y, rfl, b12.trans (b3.trans b4), (dl.evo (b2.2.trans (b3.2.trans b4.2))).append (.cons dz .nil), h4⟩
  · have e : i = items.length := by omega
    subst e
    exact .inl ⟨js rfl, hF ys st' φ' H vs (fin ys st' hI) bh dl⟩
noncomputable def tcomp (ti : TID) (tc : TBD) (te : TD) (caps : List (Nat × Str)) : TD := fun ρ st P => ti ρ st fun items ok st1 => compD items ok tc te (capρ caps ρ) st1 fun ys st2 => P (.lst st2.length) (st2 ++ [.rw ys])
theorem comp_lift {K : PySem.W.Frag} {tc : TBD} {te : TD} {caps : List (Nat × Str)} {σ : L2.St} {H : Hp} {Q : VK} (h : liftE K (tcomp ti tc te caps) σ H Q) : tComp (liftI K ti) (gName 0) (liftT K tc) (liftE K te) 1 caps σ H Q := by
  obtain ⟨φ, st, ρ, P, pre, ht, hq⟩ := h
  refine ⟨φ, st, ρ, _, pre, ht, fun items ok st1 h1 φ1 H1 J b1 hJ => ?_⟩
  refine comp_gen b1.1 (cap_DR (pre.on b1).2 caps) hJ h1 fun ys st2 φ2 H2 vs hF b2 dl p hp => ?_
  exact hq _ _ hF _ _ _ (b1.trans (b2.trans (bhd_lst b2.1 hp dl))) d_new
variable {elt : Expr} {ifs : List Expr} {sc : Scope} {x : Str} {px : Pos} {tc : TBD} {te : TD}
theorem de_comp (caps : List (Nat × Str)) (hc : X.calm = true) (S : CompScope X.env.scope X.N caps sc) (hx : sc.names.lookup x = some .local) (hnd : ([x] ++ caps.map (·.2)).Nodup) (hi : DI X (.Name x px) iter ti)
    (hif : ∀ C s H fp, DIf (cxComp X [x] caps sc C s H fp) ifs tc) (he : ∀ C s H fp, DE (cxComp X [x] caps sc C s H fp) elt te)
    (hs : ∀ x, foldedSetIterable iter X.env x = pure x := by intro _; rfl) : DE X (.ListComp elt [⟨.Name x px, iter, ifs, 0⟩] sc pos) (tcomp ti tc te caps) :=
  PE.imp (pe_comp (g := gName 0) (tc := liftT X.K tc) (te := liftE X.K te) [x] caps hc S hi (fun C s H fp => pg_name hnd rfl (.inl (lookup_relabel_local hx)) (.inr (lookup_relabel_local hx))) hif he hs) fun σ H Q h => comp_lift h
noncomputable def startD (N : List Str) (ds : List Dt) : Rho := ds.map some ++ List.replicate (N.length - ds.length) none
theorem start_DR {K : PySem.W.Frag} {φ : Nat → Addr} {n : Nat} {H : Hp} {ds : List Dt} {vs : List V} (h : DL K φ n H ds vs) (N : List Str) : DR K φ n H (startD N ds) (L2.start N vs) := by
  refine ⟨by unfold startD L2.start; simp [h.length], fun i d e => ?_⟩
  unfold startD at e
  unfold L2.start
  by_cases hi : i < ds.length
  · rw [List.getElem?_append_left (by simpa using hi), List.getElem?_map] at e
    cases q : ds[i]? with
    | none => rw [q] at e; cases e
    | some d' =>
      rw [q] at e
      have : d' = d := by
        have e' : some (some d') = some (some d) := e
        injection e' with e1; injection e1
      subst this
      obtain ⟨v, ev, dv⟩ := h.get q
      refine ⟨v, ?_, dv⟩
      rw [List.getElem?_append_left (by simp; rw [← h.length]; exact hi), List.getElem?_map, ev]
      rfl
  · rw [List.getElem?_append_right (by simpa using Nat.not_lt.mp hi), List.getElem?_replicate] at e
    split at e <;> cases e
theorem fun_ok {P : Program} {w : World} {K : PySem.W.Frag} {mg : Str → Option Value} {base : Heap} {x qual : Str} {stt : Stmt} {f : Addr} {fd : FuncData} {N ps : List Str} {k : Nat} {sp : RDL} (F : Fun K x qual stt f fd) (S : FnScope N ps (defScope stt))
    (len : ∀ ds st Pd, sp ds st Pd → ds.length = ps.length)
    (hbody : ∀ (cdv : Value) (A : Around) (outer : List Env) (s : Shared) (H : Hp) (E : XK), Room k (A.deeper (envOfC qual (defScope stt) s.heap.objs.size f cdv)) →
      ∃ t, DSs (cxOf CX0 P w K mg base N qual (defScope stt) f cdv A outer s H E).nox (defBody stt) t ∧ ∀ ds st Pd, sp ds st Pd → t { nx := fun _ st' => Pd .non st', rt := Pd } (startD N ds) st) : FnOk P w K mg base CX0 (k + 1) f fd ps (liftSp K sp) := by
  refine F.ok S (fun vs H Q E h => ?_) fun cdv A outer s H vs Q E hr h => ?_
  · obtain ⟨φ, st, ds, Pd, R, dl, hs, hq⟩ := h
    rw [← dl.length]
    exact len ds st Pd hs
  · obtain ⟨t, ht, hb⟩ := hbody cdv A outer s H E hr
    obtain ⟨φ, st, ds, Pd, R, dl, hs, hq⟩ := h
    refine ⟨_, ht, φ, st, startD N ds, _, ⟨R, start_DR dl N⟩, hb ds st Pd hs, fun ρ' st' h' φ' H' σ' b' d' => hq _ st' h' φ' H' _ b' D.mkNon, fun ρ' st' h' => h'.elim, fun ρ' st' h' => h'.elim, fun d st' h' φ' H' v b' d' => hq d st' h' φ' H' v b' d'⟩
end
end L3
namespace L3
open PySem PySem.Spec PyProof.Rows L2
structure DefOk (P : Program) (w : World) (K : PySem.W.Frag) (mg : Str → Option Value) (base : Heap) (x : Str) (k : Nat) (sp : RDL) : Prop where
  ex : ∃ f fd ps, FnOk P w K mg base CX0 k f fd ps (liftSp K sp) ∧ mg x = some (.ref f) ∧ PySem.W.keepIn K (.ref f) = true ∧ Binds K fd ps []
section
variable {X : Cx} {e : Expr} {es : List Expr} {t : TAD} {pos p : Pos} {x : Str}
theorem de_callO {k : Nat} {sp : RDL} (F : DefOk X.prog X.w X.K X.mg X.base x k sp) (hr : Room k X.A) (ha : DA X (e :: es) t) (hg : Gl X x) (hdb : (x == ("__debug__" : Str)) = false) (he : starEach (e :: es) X.env = (false, eval e X.env) :: starEach es X.env)
    (hpl : (backTo pos (starEach es X.env)).any (·.1) = false) : DE X (.Call (.Name x p) (e :: es) [] pos) (tcall sp t) := by
  obtain ⟨f, fd, ps, h1, h2, h3, h4⟩ := F.ex
  exact de_call h1 hr h2 h3 h4 ha hg hdb he hpl
theorem de_callO0 {k : Nat} {sp : RDL} (F : DefOk X.prog X.w X.K X.mg X.base x k sp) (hr : Room k X.A) (hg : Gl X x) (hdb : (x == ("__debug__" : Str)) = false) : DE X (.Call (.Name x p) [] [] pos) (tcall sp tanil) := by
  obtain ⟨f, fd, ps, h1, h2, h3, h4⟩ := F.ex
  exact de_call0 h1 hr h2 h3 h4 hg hdb
theorem hu16 {A : Around} {k : Nat} (hr : Room k A) : A.units + 16 < cLine := Nat.lt_of_le_of_lt (Nat.add_le_add_left (by decide : 16 ≤ 64) _) hr.units
structure ConOk (K : PySem.W.Frag) (mg : Str → Option Value) (x : Str) (d : Dt) : Prop where
  ex : ∃ v u, mg x = some u ∧ RelV v u ∧ ∀ φ N H, D K φ N H d v
theorem de_con {d : Dt} (h : ConOk X.K X.mg x d) (hg : Gl X x) (hd : (x == ("__debug__" : Str)) = false) : DE X (.Name x pos) (tcon d) := by
  obtain ⟨v, u, h1, h2, h3⟩ := h.ex
  exact de_glob h1 h2 h3 hg hd
structure Hint (caps : List (Nat × Str)) : Prop where
  ok : True
end
section
variable {X : Cx} {a b c : Expr} {ta tb tc : TD} {pos : Pos}
theorem dx_add (ha : DE X a ta) (hb : DE X b tb) : DE X (.BinOp a .Add b pos) (tbin L3.rAdd ta tb) := de_op od_add ha hb
theorem dx_mul (ha : DE X a ta) (hb : DE X b tb) : DE X (.BinOp a .Mult b pos) (tbin rMul ta tb) := de_op od_mul ha hb
theorem dx_div (ha : DE X a ta) (hb : DE X b tb) : DE X (.BinOp a .FloorDiv b pos) (tbin rDiv ta tb) := de_op od_div ha hb
theorem dx_mod (ha : DE X a ta) (hb : DE X b tb) : DE X (.BinOp a .Mod b pos) (tbin rMod ta tb) := de_op od_mod ha hb
theorem dx_eq (hu : X.A.units + 16 < cLine) (ha : DE X a ta) (hb : DE X b tb) (hm : behindInMarks .Eq b = false) : DE X (.Compare a [.Eq] [b] pos) (tbin (rEqD false) ta tb) := de_cmp (od_eq hu) ha hb hm
theorem dtx_eq (hu : X.A.units + 16 < cLine) (ha : DE X a ta) (hb : DE X b tb) (hm : behindInMarks .Eq b = false) : DT X (.Compare a [.Eq] [b] pos) (tbool (tbin (rEqD false) ta tb)) := dt_cmp (od_eq hu) ha hb hm
theorem dtx_ne (hu : X.A.units + 16 < cLine) (ha : DE X a ta) (hb : DE X b tb) (hm : behindInMarks .NotEq b = false) : DT X (.Compare a [.NotEq] [b] pos) (tbool (tbin (rEqD true) ta tb)) := dt_cmp (od_ne hu) ha hb hm
theorem dtx_le (ha : DE X a ta) (hb : DE X b tb) (hm : behindInMarks .LtE b = false) : DT X (.Compare a [.LtE] [b] pos) (tbool (tbin (rCmpI fun i j => decide (i ≤ j)) ta tb)) := dt_cmp od_le ha hb hm
theorem dtx_gt (ha : DE X a ta) (hb : DE X b tb) (hm : behindInMarks .Gt b = false) : DT X (.Compare a [.Gt] [b] pos) (tbool (tbin (rCmpI fun i j => decide (j < i)) ta tb)) := dt_cmp od_gt ha hb hm
theorem dx_notin (ha : DE X a ta) (hb : DE X b tb) (hm : behindInMarks .NotIn b = false) : DE X (.Compare a [.NotIn] [b] pos) (tbin (rInD true) ta tb) := de_cmp od_notin ha hb hm
theorem dtx_notin (ha : DE X a ta) (hb : DE X b tb) (hm : behindInMarks .NotIn b = false) : DT X (.Compare a [.NotIn] [b] pos) (tbool (tbin (rInD true) ta tb)) := dt_cmp od_notin ha hb hm
theorem dtx_is (ha : DE X a ta) (hb : DE X b tb) (hm : behindInMarks .Is b = false) : DT X (.Compare a [.Is] [b] pos) (tbool (tbin (rIsD false) ta tb)) := dt_cmp od_is ha hb hm
theorem dx_len {e : Expr} {es : List Expr} {t : TAD} {p : Pos} (hm : X.mg "len" = none) (ha : DA X (e :: es) t) (hg : Gl X "len") (he : starEach (e :: es) X.env = (false, eval e X.env) :: starEach es X.env) (hpl : (backTo pos (starEach es X.env)).any (·.1) = false) : DE X (.Call (.Name "len" p) (e :: es) [] pos) (tcall rLen t) := de_callB cd_len hm PySem.boot_len ha hg (by decide) (by decide) he hpl
theorem dx_isinst {e : Expr} {es : List Expr} {t : TAD} {p : Pos} (hm : X.mg "isinstance" = none) (ha : DA X (e :: es) t) (hg : Gl X "isinstance") (he : starEach (e :: es) X.env = (false, eval e X.env) :: starEach es X.env) (hpl : (backTo pos (starEach es X.env)).any (·.1) = false) : DE X (.Call (.Name "isinstance" p) (e :: es) [] pos) (tcall rIsInst t) := de_callB cd_isinst hm boot_isinstance ha hg (by decide) (by decide) he hpl
theorem dx_tuple {e : Expr} {es : List Expr} {t : TAD} {p : Pos} (hm : X.mg "tuple" = none) (ha : DA X (e :: es) t) (hg : Gl X "tuple") (he : starEach (e :: es) X.env = (false, eval e X.env) :: starEach es X.env) (hpl : (backTo pos (starEach es X.env)).any (·.1) = false) : DE X (.Call (.Name "tuple" p) (e :: es) [] pos) (tcall rTuple t) := de_callTy cd_tuple hm PyProof.Rows.boot_tuple ha hg (by decide) (by decide) he hpl
theorem dx_list {e : Expr} {es : List Expr} {t : TAD} {p : Pos} (hm : X.mg "list" = none) (ha : DA X (e :: es) t) (hg : Gl X "list") (he : starEach (e :: es) X.env = (false, eval e X.env) :: starEach es X.env) (hpl : (backTo pos (starEach es X.env)).any (·.1) = false) : DE X (.Call (.Name "list" p) (e :: es) [] pos) (tcall rList t) := de_callTy cd_list hm PyProof.Rows.boot_list ha hg (by decide) (by decide) he hpl
theorem dx_tyStr (hm : X.mg "str" = none) (hg : Gl X "str") : DE X (.Name "str" pos) (tcon (.ty "str")) := de_ty hm PyProof.Rows.boot_str hg
end
noncomputable def scCheck (so : Scope) (N : List Str) (caps : List (Nat × Str)) (sc : Scope) : Bool :=
  decide (sc.kind = .function) && (sc.names.all fun y => decide (y.2 ≠ .cell)) && (sc.names.all fun y => decide (y.2 = .local → sc.names.lookup y.1 = some .local)) && (sc.names.all fun y => decide (y.2 = .free → so.names.lookup y.1 = some .cell)) &&
    (caps.all fun p => decide (N[p.1]? = some p.2 ∧ so.names.lookup p.2 = some .cell ∧ sc.names.lookup p.2 = some .free))
theorem sc_of {so : Scope} {N : List Str} {caps : List (Nat × Str)} {sc : Scope} (h : scCheck so N caps sc = true) : CompScope so N caps sc := by
  unfold scCheck at h
  simp only [Bool.and_eq_true] at h
  obtain ⟨⟨⟨⟨h1, h2⟩, h3⟩, h4⟩, h5⟩ := h
  exact ⟨of_decide_eq_true h1, fun y hy => of_decide_eq_true (List.all_eq_true.mp h2 y hy), fun y hy => of_decide_eq_true (List.all_eq_true.mp h3 y hy), fun y hy => of_decide_eq_true (List.all_eq_true.mp h4 y hy), fun y hy => of_decide_eq_true (List.all_eq_true.mp h5 y hy)⟩
theorem sc_hint {so : Scope} {N : List Str} {caps : List (Nat × Str)} {sc : Scope} (_ : Hint caps) (h : scCheck so N caps sc = true) : CompScope so N caps sc := sc_of h
noncomputable def spLaw : RDL := fun ds st P => ∃ ns : List Int, ds = [.lst 0] ∧ st = [.ro (ns.map .int)] ∧ ns.length ≤ 63 ∧ ∀ st', P (.bl true) st'
theorem DL.ints {K : PySem.W.Frag} {φ : Nat → Addr} {N : Nat} {H : Hp} : ∀ ns : List Int, DL K φ N H (ns.map .int) (ns.map V.int)
  | [] => .nil
  | n :: ns => .cons D.mkInt (DL.ints ns)
theorem law_walk {l : PySem.W.OpenLaw} {q : Program} {loose : List Str} {XP : (Str → Option Value) → Heap → Prop} {YP : World → Heap → Prop} {d : DefRec} {K : Params → PySem.W.Frag} (k : Nat) (hn : l.most = some 63) (hdf : d.params.defaults = []) (hr : Room k callerA)
    (hY : ∀ (w : World) (h : Heap), YP w h → (K w.params).In h)
    (F : ∀ (w : World) (mg : Str → Option Value) (fa : Addr) (h : Heap), (K w.params).In h → h.Ns mainGlobals mg → mg d.name = some (.ref fa) →
      ∃ fd : FuncData, (∀ (s : Shared) (u : Value), BindsTo s fd ⟨[u], []⟩ [("script", u)]) ∧ ∀ base : Heap, (K w.params).In base → base.Ns mainGlobals mg → FnOk l.prog w (K w.params) mg base CX0 k fa fd ["script"] (liftSp (K w.params) spLaw)) :
    PySem.W.WalkO q loose XP YP l.row.toRowW d [] (fun f vs => PySem.call f vs) := by
  refine L2.walk_of (n := 63) (k := k) (x := "script") (CX := fun _ => CX0) (sp := fun w => liftSp (K w.params) spLaw) hn (by decide) hdf hr hY F (fun w H a ns hl hO hS => ?_) fun _ _ _ _ _ z => z
  have hR : SqR (K w.params) H a (ns.map V.int) := by
    rcases hS with (h | h) | h
    · rcases hO a with z | ⟨o, xs, z⟩
      · rw [h] at z; cases z
      · rw [h] at z; cases z
    · exact .inl h
    · exact .inr h
  refine ⟨fun _ => a, [.ro (ns.map .int)], [.lst 0], fun d st' => d = .bl true, ⟨fun i j x y e _ hw => ?_, fun i x e => ?_⟩, .cons (D.mkLst (by show 0 < 1; decide) ⟨_, hR.sq⟩) .nil, ⟨ns, rfl, rfl, hl, fun _ => rfl⟩, fun d st' hd φ' H' u b du => by rw [hd] at du; exact du.bl⟩
  · cases i with
    | zero => simp at e; subst e; cases hw
    | succ i => simp at e
  · cases i with
    | zero =>
      simp at e
      subst e
      exact ⟨ns.map V.int, hR, DL.ints ns⟩
    | succ i => simp at e
end L3
namespace L3
open PySem PySem.Spec PyProof.Rows L2
noncomputable def enumD : Nat → List Dt → List Dt
  | _, [] => []
  | n, d :: ds => .tup [.int (n : Nat), d] :: enumD (n + 1) ds
theorem enum_get : ∀ {ds : List Dt} {n i : Nat} {x : Dt}, (enumD n ds)[i]? = some x → ∃ d, ds[i]? = some d ∧ x = .tup [.int ((n + i : Nat)), d]
  | [], _, _, _, h => by simp [enumD] at h
  | d :: ds, n, 0, x, h => by
    simp [enumD] at h
    exact ⟨d, rfl, by rw [← h]; rfl⟩
  | d :: ds, n, i + 1, x, h => by
    obtain ⟨e, h1, h2⟩ := enum_get (ds := ds) (n := n + 1) (i := i) (x := x) (by simpa [enumD] using h)
    exact ⟨e, by simpa using h1, by rw [h2, show n + 1 + i = n + (i + 1) by omega]⟩
theorem enum_len : ∀ {ds : List Dt} {n : Nat}, (enumD n ds).length = ds.length
  | [], _ => rfl
  | d :: ds, n => by simp [enumD, enum_len]
noncomputable def ienum (te : TD) : TID := fun ρ st P => te ρ st fun x st1 => match x with
  | .lst n => (match st1[n]? with
    | some o => P (enumD 0 o.items) (fun st' => (st'[n]?).map SO.items = some o.items) st1
    | none => False)
  | _ => False
section
variable {X : Cx} {a : Expr} {elts : List Expr} {x1 : Nat} {tpos pos p : Pos} {te : TD}
structure ConT (K : PySem.W.Frag) (mg : Str → Option Value) (x : Str) (ds : List Dt) : Prop where
  ex : ∃ a o vs its n, mg x = some (.ref a) ∧ K.lookup a = some o ∧ o.cls = .type "tuple" ∧ o.dict = none ∧ o.data = .seq its n ∧ its.size ≤ sizeLine ∧ Vals vs its.toList ∧ ∀ φ N H, DL K φ N H ds vs
theorem ConT.con {K : PySem.W.Frag} {mg : Str → Option Value} {x : Str} {ds : List Dt} (h : ConT K mg x ds) : ConOk K mg x (.tup ds) := by
  obtain ⟨a, o, vs, its, n, h1, h2, h3, h4, h5, h6, h7, h8⟩ := h.ex
  exact ⟨.ref a, _, h1, rfl, fun φ N H => .mkTup (.inr ⟨o, its, n, h2, h3, h5, h6, h7⟩) (h8 φ N H)⟩
noncomputable def tindex (ds : List Dt) (te : TD) : TD := fun ρ st P => te ρ st fun y st1 => okD 0 y = true ∧ ds.all (okD 0) = true ∧ (match ds.findIdx? (fun z => eqD 0 z y) with
  | some j => P (.int (j : Nat)) st1
  | none => False)
theorem find_spec {α : Type} {p : α → Bool} : ∀ {xs : List α} {j : Nat}, xs.findIdx? p = some j → ∃ h : j < xs.length, p xs[j] = true ∧ ∀ m (hm : m < xs.length), m < j → p xs[m] = false := fun {xs j} h => by
  obtain ⟨h1, h2, h3⟩ := List.findIdx?_eq_some_iff_getElem.mp h
  exact ⟨h1, h2, fun m hm hmj => by simpa using h3 m hmj⟩
theorem de_index {x : Str} {ds : List Dt} {apos cpos npos : Pos} {e : Expr} (hG : ConT X.K X.mg x ds) (he : DE X e te) (hg : Gl X x) (hdb : (x == ("__debug__" : Str)) = false)
    (hbase : attributeBase (.Name x npos) "index" X.env (eval (.Name x npos) X.env) = eval (.Name x npos) X.env)
    (hfew : ((backTo cpos (starEach [e] X.env)).all (fun x => !x.1) && (backToKw cpos (keywordEach [] X.env)).all (fun x => x.1.isSome)
      && decide (([e] : List Expr).length + ([] : List Keyword).length + (if ([] : List Keyword).isEmpty then 0 else 1) < 30)) = true)
    (hline : (apos.endLine == cpos.line) = true) (hs : starEach [e] X.env = (false, eval e X.env) :: starEach [] X.env) (hplain : (backTo cpos (starEach ([] : List Expr) X.env)).any (·.1) = false) :
    DE X (.Call (.Attribute (.Name x npos) "index" apos) [e] [] cpos) (tindex ds te) := by
  obtain ⟨a, o, ws, its, n, h1, h2, h3, h4, h5, h6, h7, h8⟩ := hG.ex
  have mt : MtR X "tuple.index" (fun v xs H Q => ∃ y j, v = .ref a ∧ xs = [y] ∧ flatV y = true ∧ ws.all flatV = true ∧ (∃ hj : j < ws.length, eqV ws[j] y = true ∧ ∀ m (hm : m < ws.length), m < j → eqV ws[m] y = false) ∧ Q (.int (j : Nat)) H) := by
    intro pins s σ H v xs u us Q I r rv h
    obtain ⟨y, j, rfl, rfl, fy, fw, ⟨hj, hit, hno⟩, q⟩ := h
    cases r
    obtain ⟨uy, rfl, ry⟩ := rv.one
    have ho := I.kIn a o h2
    obtain ⟨cls, dd, data, sl⟩ := o
    simp only at h3 h4 h5
    subst h3 h4 h5
    have hlen := h7.length
    have ev : ∀ m (hm : m < its.size) (hm' : m < ws.length), eqU y its[m] = eqV ws[m] y := fun m hm hm' => by
      obtain ⟨u, eu, ru⟩ := h7.get (show ws[m]? = some ws[m] by simp [hm'])
      have : its[m] = u := by
        have : its.toList[m]? = some its[m] := by simp [hm]
        rw [eu] at this
        exact (Option.some.inj this).symm
      rw [this]
      exact eqU_of ru (List.all_eq_true.mp fw _ (List.getElem_mem hm'))
    have hsz : its.size = ws.length := by rw [hlen]; simp
    refine call_meets F.slot_tuple_index ⟨_, ho, rfl⟩ F.entry_tuple_index (F.args_tuple_index_2 _ _) (tuple_indexAt a its n none sl uy (eqU y) j (by omega) (by rw [ev j (by omega) hj]; exact hit) (fun m hm hmj => by rw [ev m hm (by omega)]; exact hno m (by omega) hmj))
      ⟨ho, fun z hz => mem_eqAt ry fy h7 fw z (by simpa using hz), ⟨.int (j : Nat), H, I.tok _, ⟨_, rfl⟩, q⟩⟩
  refine PE.imp (pe_bm PySem.F.plainAttrs_tuple PySem.F.slot_tuple_index PySem.F.type_tuple_index mt (pe_glob (v := .ref a) hg h1 rfl hdb) (da_cons he da_nil hs) hbase hfew hline hs hplain) fun σ H Q h => ?_
  obtain ⟨φ, st, ρ, P, pre, ht, hq⟩ := h
  refine ⟨.inr (.inl ⟨rfl, o, h2, h3, h4⟩), ?_⟩
  refine ⟨φ, st, ρ, (fun zs st1 => match zs with
    | [y] => okD 0 y = true ∧ ds.all (okD 0) = true ∧ (match ds.findIdx? (fun z => eqD 0 z y) with
      | some j => P (.int (j : Nat)) st1
      | none => False)
    | _ => False), pre, ht, fun zs st1 h1 φ1 H1 vs b1 dl => ?_⟩
  rcases zs with _ | ⟨d, _ | ⟨d2, r⟩⟩
  · exact h1.elim
  rotate_left
  · exact h1.elim
  · obtain ⟨o1, o2, h1⟩ := h1
    obtain ⟨v, rfl, dv⟩ := dl.one
    split at h1
    · rename_i j ej
      obtain ⟨hj, hit, hno⟩ := find_spec ej
      have dw := h8 φ1 st1.length H1
      have hl := dw.length
      have ev : ∀ m (hm : m < ds.length) (hm' : m < ws.length), eqV ws[m] v = eqD 0 ds[m] d := fun m hm hm' => by
        obtain ⟨z, ez, dz⟩ := dw.get (show ds[m]? = some ds[m] by simp [hm])
        have : ws[m] = z := by
          have : ws[m]? = some ws[m] := by simp [hm']
          rw [ez] at this
          exact (Option.some.inj this).symm
        rw [this]
        exact eqV_of dz dv (List.all_eq_true.mp o2 _ (List.getElem_mem hm)) o1
      exact ⟨v, j, rfl, rfl, flat_of dv o1, flats_of dw o2, ⟨by omega, by rw [ev j hj (by omega)]; exact hit, fun m hm hmj => by rw [ev m (by omega) hm]; exact hno m (by omega) hmj⟩, hq _ st1 h1 φ1 H1 _ b1 D.mkInt⟩
    · exact h1.elim
end
noncomputable def strsAre : List Value → List Str → Bool
  | [], [] => true
  | .str x _ :: us, s :: ss => x == s && strsAre us ss
  | _, _ => false
theorem vals_strs : ∀ {us : List Value} {ss : List Str}, strsAre us ss = true → Vals (ss.map V.str) us
  | [], [], _ => .nil
  | [], _ :: _, h => by simp [strsAre] at h
  | u :: us, [], h => by cases u <;> simp [strsAre] at h
  | u :: us, s :: ss, h => by
    cases u with
    | str x t =>
      rw [strsAre, Bool.and_eq_true] at h
      have e : x = s := eq_of_beq h.1
      subst e
      exact .cons ⟨t, rfl⟩ (vals_strs h.2)
    | _ => simp [strsAre] at h
theorem DL.strs {K : PySem.W.Frag} {φ : Nat → Addr} {N : Nat} {H : Hp} : ∀ ss : List Str, DL K φ N H (ss.map .str) (ss.map V.str)
  | [] => .nil
  | n :: ns => .cons D.mkStr (DL.strs ns)
theorem conT_strs {K : PySem.W.Frag} {mg : Str → Option Value} {x : Str} {a : Addr} {its : Array Value} {n : Nat} {sl : Array (Option Value)} {ss : List Str} (hm : mg x = some (.ref a)) (l : K.lookup a = some ⟨.type "tuple", none, .seq its n, sl⟩) (v : strsAre its.toList ss = true) (sz : its.size ≤ sizeLine) :
    ConT K mg x (ss.map .str) := ⟨a, _, ss.map V.str, its, n, hm, l, rfl, rfl, rfl, sz, vals_strs v, fun _ _ _ => DL.strs ss⟩
structure Hint2 (caps : List (Nat × Str)) : Prop where
  ok : True
theorem sc_hint2 {so : Scope} {N : List Str} {caps : List (Nat × Str)} {sc : Scope} (_ : Hint2 caps) (h : scCheck so N caps sc = true) : CompScope so N caps sc := sc_of h
theorem get_app {st : Sto} {i : Nat} {o x : SO} (h : st[i]? = some o) : (st ++ [x])[i]? = some o := by
  rw [List.getElem?_append_left (lt_of_get h)]; exact h
theorem get_set_ne {st : Sto} {i j : Nat} {o x : SO} (h : st[i]? = some o) (hne : j ≠ i) : (st.set j x)[i]? = some o := by
  rw [List.getElem?_set_ne hne]; exact h
theorem get_set_self {st : Sto} {i : Nat} {o x : SO} (h : st[i]? = some o) : (st.set i x)[i]? = some x := by
  rw [List.getElem?_set_self (lt_of_get h)]
theorem get_new {st : Sto} {x : SO} : (st ++ [x])[st.length]? = some x := by simp
noncomputable def ExtS (st st' : Sto) : Prop := ∀ (i : Nat) o, st[i]? = some o → st'[i]? = some o
theorem ExtS.refl (st : Sto) : ExtS st st := fun _ _ h => h
theorem ExtS.trans {a b c : Sto} (h : ExtS a b) (h' : ExtS b c) : ExtS a c := fun i o q => h' i o (h i o q)
theorem ExtS.app (st : Sto) (x : SO) : ExtS st (st ++ [x]) := fun _ _ h => get_app h
noncomputable abbrev Ed (Pd : VD) : EndsD := { nx := fun _ st' => Pd .non st', rt := Pd }
theorem cmul_r {i j : Int} (h1 : 0 ≤ j) (h2 : j < 4294967296) : CMul i j := .inr ⟨by omega, by omega⟩
theorem cmul_l {i j : Int} (h1 : 0 ≤ i) (h2 : i < 4294967296) : CMul i j := .inl ⟨by omega, by omega⟩
theorem cdiv {i j : Int} (h1 : 0 < j) (h2 : j < 1073741824) : CDiv i j := ⟨h1, h2⟩
theorem cut_len (ns : List Int) (k : Int) : (L3.cutD (ns.map Dt.int) none (some k)).length ≤ ns.length := by
  unfold L3.cutD
  rw [List.length_take, List.length_drop, List.length_map]
  omega
end L3
namespace K01
open PySem L2 L3
noncomputable def wordsS : List Str := ["halt", "put", "add", "sub", "mul", "bad", "div", "get", "set", "jump", "when", "go", "tell", "hear", "right", "back"]
noncomputable def wordsD : List Dt := wordsS.map .str
noncomputable def wordOf (i : Int) : Str := wordsS.getD i.toNat ""
noncomputable def outD (n : Int) : Dt := .tup [.str (wordOf (n / 4096 % 16)), .int (n / 512 % 8), .int (n / 64 % 8), .int (n % 64)]
noncomputable def spSetOut : RDL := fun ds st P => ∃ n : Int, ds = [.int n] ∧ P (outD n) st
noncomputable def spNumberOf : RDL := fun ds st P => ∃ (k : Nat) (a b c : Int), k < 16 ∧ ds = [.tup [.str (wordOf k), .int a, .int b, .int c]] ∧ P (.int ((k : Int) * 4096 + a * 512 + b * 64 + c)) st
noncomputable def wholeD (t : String) : Bool := isT t "int" && !isT t "bool"
noncomputable def spWhole : RDL := fun ds st P => ∃ x t, ds = [x] ∧ tyN x = some t ∧ P (.bl (wholeD t)) st
noncomputable def spWords : RDL := fun ds st P => ds = [] ∧ ∀ st' n, ExtS st st' → st'[n]? = some (.rw wordsD) → P (.lst n) st'
noncomputable def spRight : RDL := fun ds st P => ∃ n : Int, ds = [.int n] ∧ 0 ≤ n ∧ n < 65536 ∧ ∀ st', ExtS st st' → P (.bl true) st'
end K01
namespace K01
open PySem PySem.Spec PyProof.Rows L2 L3
noncomputable abbrev t_set_out : TSD := (tseq (tret (ttup (tacons (tbin rIxD (tcon (Dt.tup wordsD)) (tbin rMod (tbin rDiv (tvar 0) (tcon (Dt.int 4096))) (tcon (Dt.int 16)))) (tacons (tbin rMod (tbin rDiv (tvar 0) (tcon (Dt.int 512))) (tcon (Dt.int 8))) (tacons (tbin rMod (tbin rDiv (tvar 0) (tcon (Dt.int 64))) (tcon (Dt.int 8))) (tacons (tbin rMod (tvar 0) (tcon (Dt.int 64))) tanil)))))) tnext)
noncomputable abbrev t_number_of : TSD := (tseq (tret (tbin L3.rAdd (tbin L3.rAdd (tbin L3.rAdd (tbin rMul (tindex wordsD (tbin rIxD (tvar 0) (tcon (Dt.int 0)))) (tcon (Dt.int 4096))) (tbin rMul (tbin rIxD (tvar 0) (tcon (Dt.int 1))) (tcon (Dt.int 512)))) (tbin rMul (tbin rIxD (tvar 0) (tcon (Dt.int 2))) (tcon (Dt.int 64)))) (tbin rIxD (tvar 0) (tcon (Dt.int 3))))) tnext)
noncomputable abbrev t__law_words : TSD := (tseq (tasg (tlst (tacons (tcon (Dt.str (Str.ofString "halt"))) (tacons (tcon (Dt.str (Str.ofString "put"))) (tacons (tcon (Dt.str (Str.ofString "add"))) (tacons (tcon (Dt.str (Str.ofString "sub"))) (tacons (tcon (Dt.str (Str.ofString "mul"))) (tacons (tcon (Dt.str (Str.ofString "bad"))) (tacons (tcon (Dt.str (Str.ofString "div"))) (tacons (tcon (Dt.str (Str.ofString "get"))) tanil))))))))) (gname 0)) (tseq (tret (tbin L3.rAdd (tvar 0) (tlst (tacons (tcon (Dt.str (Str.ofString "set"))) (tacons (tcon (Dt.str (Str.ofString "jump"))) (tacons (tcon (Dt.str (Str.ofString "when"))) (tacons (tcon (Dt.str (Str.ofString "go"))) (tacons (tcon (Dt.str (Str.ofString "tell"))) (tacons (tcon (Dt.str (Str.ofString "hear"))) (tacons (tcon (Dt.str (Str.ofString "right"))) (tacons (tcon (Dt.str (Str.ofString "back"))) tanil))))))))))) tnext))
noncomputable abbrev t_law : TSD := (tseq (tfor (iseq (tbin L3.rAdd (tslice (tvar 0) tonone (tosome (tcon (Dt.int 63)))) (tlst (tacons (tcall rLen (tacons (tvar 0) tanil)) (tacons (tcon (Dt.int 65535)) (tacons (tcon (Dt.int 4095)) (tacons (tcon (Dt.int 4096)) tanil))))))) (gname 1) (tseq (tifS (tnotB (tbool (tcall spRight (tacons (tbin rMod (tvar 1) (tcon (Dt.int 65536))) tanil)))) (tseq (tret (tcon (Dt.bl false))) tnext) tnext) (tseq (tfor (ienum (tcall spWords tanil)) (gunpack 2 (gscons (gname 2) (gscons (gname 3) gsnil))) (tseq (tasg (ttup (tacons (tvar 3) (tacons (tbin rMod (tbin rDiv (tvar 1) (tcon (Dt.int 2))) (tcon (Dt.int 8))) (tacons (tbin rMod (tbin rDiv (tvar 1) (tcon (Dt.int 16))) (tcon (Dt.int 8))) (tacons (tbin rMod (tbin rDiv (tvar 1) (tcon (Dt.int 128))) (tcon (Dt.int 64))) tanil))))) (gname 4)) (tseq (tasg (tcall spNumberOf (tacons (tvar 4) tanil)) (gname 5)) (tseq (tifS (torB (tnotB (tbool (tcall spWhole (tacons (tvar 5) tanil)))) (tbool (tbin (rEqD true) (tvar 5) (tbin L3.rAdd (tbin rMul (tcon (Dt.int 64)) (tbin L3.rAdd (tbin L3.rAdd (tbin rMul (tcon (Dt.int 64)) (tvar 2)) (tbin rMul (tcon (Dt.int 8)) (tbin rIxD (tvar 4) (tcon (Dt.int 1))))) (tbin rIxD (tvar 4) (tcon (Dt.int 2))))) (tbin rIxD (tvar 4) (tcon (Dt.int 3))))))) (tseq (tret (tcon (Dt.bl false))) tnext) tnext) (tseq (tifS (tbool (tbin (rEqD true) (tcall spSetOut (tacons (tvar 5) tanil)) (tvar 4))) (tseq (tret (tcon (Dt.bl false))) tnext) tnext) tnext))))) tnext))) (tseq (tret (tcon (Dt.bl true))) tnext))
theorem word_at {i : Int} (h0 : 0 ≤ i) (h1 : i < 16) : atI wordsD i = some (.str (wordOf i)) := by
  obtain ⟨n, rfl⟩ : ∃ n : Nat, i = n := ⟨i.toNat, by omega⟩
  have hn : n < 16 := by omega
  have key : ∀ n : Nat, n < 16 → wordsS[n]? = some (wordsS.getD n "") := by decide +kernel
  refine atI_nat ?_
  show (wordsS.map Dt.str)[n]? = _
  rw [List.getElem?_map, key n hn]
  rfl
theorem word_ix {k : Nat} (h : k < 16) : wordsD.findIdx? (fun z => eqD 0 z (.str (wordOf k))) = some k := by
  have key : ∀ k : Nat, k < 16 → wordsS.findIdx? (fun z => z == wordOf (k : Int)) = some k := by decide +kernel
  have e : wordsD.findIdx? (fun z => eqD 0 z (.str (wordOf k))) = wordsS.findIdx? (fun z => z == wordOf (k : Int)) := by
    unfold wordsD
    rw [List.findIdx?_map]
    rfl
  rw [e, key k h]
theorem words_ok : wordsD.all (okD 0) = true := by decide +kernel
theorem read_set_out {ds : List Dt} {st : Sto} {Pd : VD} (h : spSetOut ds st Pd) : t_set_out (Ed Pd) (startD ["number"] ds) st := by
  obtain ⟨n, rfl, h⟩ := h
  simp only [tseq, tasg, tret, tbin, tvar, tcon, gname, tcall, tacons, tanil, ttup, tlst, tandV, torV, tnotV, tnotB, tandB, torB, tbool, tifS, tifE, tnext, tdrop, tfor, iseq, irng1, tslice, tonone, tosome, tappend, rLen, rTuple, seqOf, rIsInst, rIxD, rMod, rMul, L3.rAdd, rDiv, rEqD, rIsD, rCmpI, startD, tindex, gunpack, gscons, gsnil, ienum, List.map_cons, List.map_nil, List.length_cons, List.length_nil, List.cons_append, List.nil_append, List.replicate, List.set, List.getElem?_cons_zero, List.getElem?_cons_succ, Option.map_some, SO.items]
  refine ⟨cdiv (by decide) (by decide), by decide, ?_⟩
  rw [word_at (by omega) (by omega)]
  exact ⟨cdiv (by decide) (by decide), by decide, cdiv (by decide) (by decide), by decide, by decide, by show 4 ≤ sizeLine; decide, h⟩
theorem read_number_of {ds : List Dt} {st : Sto} {Pd : VD} (h : spNumberOf ds st Pd) : t_number_of (Ed Pd) (startD ["row"] ds) st := by
  obtain ⟨k, a, b, c, hk, rfl, h⟩ := h
  simp only [tseq, tasg, tret, tbin, tvar, tcon, gname, tcall, tacons, tanil, ttup, tlst, tandV, torV, tnotV, tnotB, tandB, torB, tbool, tifS, tifE, tnext, tdrop, tfor, iseq, irng1, tslice, tonone, tosome, tappend, rLen, rTuple, seqOf, rIsInst, rIxD, rMod, rMul, L3.rAdd, rDiv, rEqD, rIsD, rCmpI, startD, tindex, gunpack, gscons, gsnil, ienum, List.map_cons, List.map_nil, List.length_cons, List.length_nil, List.cons_append, List.nil_append, List.replicate, List.set, List.getElem?_cons_zero, List.getElem?_cons_succ, Option.map_some, SO.items]
  simp only [show atI [Dt.str (wordOf k), .int a, .int b, .int c] 0 = some (.str (wordOf k)) from rfl, show atI [Dt.str (wordOf k), .int a, .int b, .int c] 1 = some (.int a) from rfl, show atI [Dt.str (wordOf k), .int a, .int b, .int c] 2 = some (.int b) from rfl,
    show atI [Dt.str (wordOf k), .int a, .int b, .int c] 3 = some (.int c) from rfl]
  rw [word_ix hk]
  exact ⟨rfl, words_ok, cmul_r (by decide) (by decide), cmul_r (by decide) (by decide), cmul_r (by decide) (by decide), h⟩
theorem read_words {ds : List Dt} {st : Sto} {Pd : VD} (h : spWords ds st Pd) : t__law_words (Ed Pd) (startD ["some"] ds) st := by
  obtain ⟨rfl, h⟩ := h
  refine ⟨by show 8 ≤ sizeLine; decide, by show 8 ≤ sizeLine; decide, ?_⟩
  simp only [tseq, tasg, tret, tbin, tvar, tcon, gname, tcall, tacons, tanil, ttup, tlst, tandV, torV, tnotV, tnotB, tandB, torB, tbool, tifS, tifE, tnext, tdrop, tfor, iseq, irng1, tslice, tonone, tosome, tappend, rLen, rTuple, seqOf, rIsInst, rIxD, rMod, rMul, L3.rAdd, rDiv, rEqD, rIsD, rCmpI, startD, tindex, gunpack, gscons, gsnil, ienum, List.map_cons, List.map_nil, List.length_cons, List.length_nil, List.cons_append, List.nil_append, List.replicate, List.set, List.getElem?_cons_zero, List.getElem?_cons_succ, Option.map_some, SO.items]
  rw [get_app (get_new (st := st)), get_new]
  refine ⟨by show 16 ≤ sizeLine; decide, h _ _ (((ExtS.app st _).trans (ExtS.app _ _)).trans (ExtS.app _ _)) get_new⟩
end K01
namespace L3
open PySem PySem.Spec PyProof.Rows L2
theorem hu1 {k : Nat} {A : Around} (r : Room k A) : A.units + 1 < cLine := by have := r.units; omega
end L3
namespace L3
open PySem PySem.Spec PyProof.Rows L2
theorem bools_are {K : PySem.W.Frag} {φ : Nat → Addr} {N : Nat} {H : Hp} : ∀ {bs : List Bool} {ws : List V} {us : List Value}, DL K φ N H (bs.map .bl) ws → Vals ws us → LSm.BoolsAre us bs
  | [], ws, us, dl, rv => by
    have e : ws = [] := by simpa [DL] using dl
    subst e
    cases rv
    exact .nil
  | b :: bs, ws, us, dl, rv => by
    obtain ⟨v, r, rfl, h1, h2⟩ := dl
    cases rv with
    | @cons a u as us' h t =>
      have e : v = .bl b := h1.bl
      subst e
      have e2 : u = Value.bool b := h
      subst e2
      exact .cons b (bools_are h2 t)
end L3
namespace L3
open PySem PySem.Spec PyProof.Rows L2
section
variable {X : Cx} {a b c : Expr} {ta tb tc : TD} {pos : Pos}
noncomputable def tneg (ta : TD) : TD := fun ρ st P => ta ρ st fun d st1 => match d with
  | .int i => P (.int (-i)) st1
  | _ => False
theorem de_neg (ha : DE X a ta) : DE X (.UnaryOp .USub a pos) (tneg ta) := (pe_un un_neg ha).imp fun σ H Q h => by
  obtain ⟨φ, st, ρ, P, pre, ht, hq⟩ := h
  refine ⟨φ, st, ρ, _, pre, ht, fun d st1 h1 φ1 H1 v b1 dx => ?_⟩
  cases d with
  | int i => exact ⟨i, dx.int, hq _ st1 h1 φ1 H1 _ b1 D.mkInt⟩
  | _ => exact h1.elim
end
structure DefOkD (P : Program) (w : World) (K : PySem.W.Frag) (mg : Str → Option Value) (base : Heap) (x : Str) (k n : Nat) (sp : RDL) (dd : Dt) : Prop where
  ex : ∃ f fd ps, FnOk P w K mg base CX0 k f fd ps (liftSp K sp) ∧ mg x = some (.ref f) ∧ PySem.W.keepIn K (.ref f) = true ∧ Binds K fd ps [] ∧ ∃ u v, Binds K fd ps [u] ∧ RelV v u ∧ ∀ φ N H, D K φ N H dd v
end L3
namespace L3
open PySem PySem.Spec PyProof.Rows L2
open AutoSeq1 (wpAny_loadPart')
end L3
namespace HT
open PySem PySem.Spec PyProof.Rows
section
variable {prog : Program} {w : World} {A : Around} {E : Value → Shared → Prop} {s : Shared}
theorem getItem_tuple_whole {t sl : Addr} {items : Array Value} {vl vu : Value} {lo hi : Option Int} {Q : Value → Shared → Prop} (ht : IsTup s.heap t items) (hs : s.heap.IsSliceOf sl vl vu .none) (pl : IsPart vl lo) (pu : IsPart vu hi)
    (hw : sIx items.size 0 lo = 0 ∧ sIx items.size items.size hi = items.size) (h : Q (.ref t) s) : wpAny (model prog w) A (getItem (.ref t) (.ref sl)) Q E s := by
  obtain ⟨os, hos, hcs, hds⟩ := id hs
  have hTs : s.TypeIs (.ref sl) "slice" := ⟨os, hos, hcs⟩
  unfold getItem
  try with_reducible refine wpAny_holding ?_
  first | refine wpAny_bind (wpAny_pure ?_) | skip
  refine wpAny_bind (wpAny_sequenceKey ht.typeIs (by decide) ?_)
  refine wpAny_bind (wpAny_callSpecial?_slot (name := Str.ofString "__getitem__") ht.typeIs PyProof.Rows.slot_tuple_getitem
    (wpAny_call_entry PyProof.Rows.slot_tuple_getitem ht.typeIs entry_tuple_getitem ?_ (args_tuple_getitem _ _)))
  show wpAny _ _ (Builtin.Tuple.tupleItemsOf (.ref t) >>= _) _ _ s
  refine wpAny_bind (tupleItemsOf_ ht ?_)
  refine wpAny_bind (wpAny_typeOf hTs ?_)
  rw [if_pos (by decide)]
  refine wpAny_bind (sliceApplied_gen hs pl pu ?_)
  have hyes : (((sIx items.size 0 lo : Nat) : Int) == 0 && (1 : Int) == 1 && (sIx items.size items.size hi - sIx items.size 0 lo) == items.size) = true := by
    rw [hw.1, hw.2]; simp
  show wpAny _ _ (if (((sIx items.size 0 lo : Nat) : Int) == 0 && (1 : Int) == 1 && (sIx items.size items.size hi - sIx items.size 0 lo) == items.size) = true then _ else _) _ _ s
  rw [if_pos hyes]
  unfold Builtin.Tuple.tupleIsExact
  refine wpAny_bind (wpAny_bind (wpAny_typeOf ht.typeIs (wpAny_pure ?_)))
  rw [if_pos (by decide)]
  first
    | exact wpAny_bind (wpAny_pure (wpAny_pure ⟨_, rfl, wpAny_pure h⟩))
    | exact wpAny_bind (wpAny_rule (wpAny_bind (wpAny_pure (wpAny_pure ⟨_, rfl, wpAny_pure h⟩))))
    | exact wpAny_bind (wpAny_rule (wpAny_bind (wpAny_pure ⟨_, rfl, wpAny_pure h⟩)))
    | exact wpAny_pure ⟨_, rfl, wpAny_pure h⟩
    | exact wpAny_bind (wpAny_pure ⟨_, rfl, wpAny_pure h⟩)
end
end HT
namespace L3
open PySem PySem.Spec PyProof.Rows L2
noncomputable def rSlW (K : PySem.W.Frag) : V → Option Int → Option Int → Hp → VK → Prop := fun x lo hi H Q => ∃ a xs, x = .ref a ∧ SqT K H a xs ∧ (HT.sIx xs.length 0 lo = 0 ∧ HT.sIx xs.length xs.length hi = xs.length) ∧ Q (.ref a) H
section
variable {X : Cx}
theorem sl_whole : SlR X (rSlW X.K) := by
  intro pins s σ H x v vl vu lo hi sl Q I rx hs pl pu h
  obtain ⟨a, xs, rfl, hx, hw, q⟩ := h
  cases rx
  obtain ⟨its, r, ht, hz⟩ := I.tuple hx
  have hlen : its.toArray.size = xs.length := by rw [List.size_toArray]; exact r.length.symm
  refine ⟨"tuple", _, PyProof.Rows.slot_tuple_getitem.lookup, ht.typeIs, ?_⟩
  exact HT.getItem_tuple_whole ht hs pl pu (by rw [hlen]; exact hw) ⟨.ref a, H, I, rfl, q⟩
noncomputable def tsliceA (te : TD) (tl th : TOD) : TD := fun ρ st P => te ρ st fun x st1 => tl ρ st1 fun lo st2 => th ρ st2 fun hi st3 => match x with
  | .tup xs => P (.tup (cutD xs lo hi)) st3
  | .lst n => (match st3[n]? with
    | some o => P (.lst st3.length) (st3 ++ [.rw (cutD o.items lo hi)])
    | none => False)
  | _ => False
theorem cut_whole {xs : List Dt} {lo hi : Option Int} (h : HT.sIx xs.length 0 lo = 0 ∧ HT.sIx xs.length xs.length hi = xs.length) : cutD xs lo hi = xs := by
  unfold cutD
  rw [h.1, h.2]
  simp
theorem de_sliceA {e : Expr} {lo hi : Option Expr} {te : TD} {tl th : TOD} {pos p2 : Pos} (he : DE X e te) (hl : DO X lo tl) (hu : DO X hi th) : DE X (.Subscript e (.Slice lo hi none p2) pos) (tsliceA te tl th) := by
  refine PE.imp (pe_slice ((sl_tup.or sl_list).or sl_whole) he hl hu) fun σ H Q h => ?_
  obtain ⟨φ, st, ρ, P, pre, ht, hq⟩ := h
  refine ⟨φ, st, ρ, _, pre, ht, fun x st1 h1 φ1 H1 v b1 dx => ?_⟩
  refine ⟨φ1, st1, ρ, _, pre.on b1, h1, fun l st2 h2 φ2 H2 b2 => ?_⟩
  refine ⟨φ2, st2, ρ, _, (pre.on b1).on b2, h2, fun u st3 h3 φ3 H3 b3 => ?_⟩
  have b := b1.trans (b2.trans b3)
  have dx3 := (dx.evo b2.2).evo b3.2
  cases x with
  | tup xs =>
    obtain ⟨a, vs, e1, s1, d1⟩ := dx3.tup
    have h3' : P (.tup (cutD xs l u)) st3 := h3
    by_cases hw : HT.sIx xs.length 0 l = 0 ∧ HT.sIx xs.length xs.length u = xs.length
    · rw [cut_whole hw] at h3'
      exact .inr ⟨a, vs, e1, s1, by rw [← d1.length]; exact hw, hq _ st3 h3' φ3 _ _ b (by rw [← e1]; exact dx3)⟩
    refine .inl (.inl ⟨a, vs, e1, s1, by rw [← d1.length]; exact hw, fun p hp => hq _ st3 h3' φ3 _ _ (b.trans (bhd_tup b3.1 hp)) (.mkTup (SqT.of upd_same) ?_)⟩)
    unfold cutD cutV
    rw [← d1.length]
    exact ((d1.drop _).take _).evo (evo_new hp)
  | lst n =>
    have h3' : (match st3[n]? with
      | some o => P (.lst st3.length) (st3 ++ [.rw (cutD o.items l u)])
      | none => False) := h3
    split at h3'
    · rename_i o eo
      obtain ⟨vs, s1, d1⟩ := b3.1.seq eo dx3.isL
      refine .inl (.inr ⟨φ3 n, vs, dx3.lst.2, s1, fun p hp => ?_⟩)
      have : DL X.K φ3 st3.length H3 (cutD o.items l u) (cutV vs l u) := by
        unfold cutD cutV
        rw [← d1.length]
        exact (d1.drop _).take _
      exact hq _ _ h3' _ _ _ (b.trans (bhd_lst b3.1 hp this)) d_new
    · exact h3'.elim
  | _ => exact h3.elim
end
structure FunD (K : PySem.W.Frag) (x qual : Str) (st : Stmt) (f : Addr) (fd : FuncData) (T : Addr) : Prop where
  ex : ∃ (oc : Value) (od : Option Addr) (kV doc pm : Value) (an : Option Addr) (cdv ct : Value) (osl : Array (Option Value)),
    fd = PySem.W.fnOf x qual (defArgs st) (defBody st) (defScope st) (.ref T) kV doc pm an cdv ct ∧ K.lookup f = some ⟨oc, od, .func fd, osl⟩ ∧ PySem.W.codeIn K cdv qual = true
  kp : PySem.W.keepIn K (.ref f) = true
theorem FunD.ok {P : Program} {w : World} {K : PySem.W.Frag} {mg : Str → Option Value} {base : Heap} {x qual : Str} {st : Stmt} {f T : Addr} {fd : FuncData} {N ps : List Str} {k : Nat} {sp : Sp} (F : FunD K x qual st f fd T) (S : FnScope N ps (defScope st)) (len : ∀ vs H Q E, sp vs H Q E → vs.length = ps.length)
    (hbody : ∀ (cdv : Value) (A : Around) (outer : List Env) (s : Shared) (H : Hp) (vs : List V) (Q : VK) (E : XK), Room k (A.deeper (envOfC qual (defScope st) s.heap.objs.size f cdv)) → sp vs H Q E →
      ∃ t, PSs (cxOf CX0 P w K mg base N qual (defScope st) f cdv A outer s H E).nox (defBody st) t ∧ t { nx := fun _ H' => Q .non H', rt := Q } (start N vs) H) : FnOk P w K mg base CX0 (k + 1) f fd ps sp := by
  obtain ⟨oc, od, kV, doc, pm, an, cdv, ct, osl, rfl, lk, hcd⟩ := F.ex
  refine fn_of lk hcd S len fun A outer s H vs Q E hr hsp => ?_
  obtain ⟨t, h, q⟩ := hbody cdv A outer s H vs Q E hr hsp
  exact ⟨t, h.nox, q⟩
end L3
namespace L3
open PySem PySem.Spec PyProof.Rows L2
end L3
namespace L3
open PySem PySem.Spec PyProof.Rows L2
theorem DefOkD.of {P : Program} {w : World} {K : PySem.W.Frag} {mg : Str → Option Value} {base : Heap} {x : Str} {k n : Nat} {sp : RDL} {i : Int} {f : Addr} {fd : FuncData} {ps : List Str} {t : Tok}
    (h : FnOk P w K mg base CX0 k f fd ps (liftSp K sp)) (hm : mg x = some (.ref f)) (hk : PySem.W.keepIn K (.ref f) = true) (b0 : Binds K fd ps []) (b1 : Binds K fd ps [.int i t]) : DefOkD P w K mg base x k n sp (.int i) :=
  ⟨⟨f, fd, ps, h, hm, hk, b0, .int i t, .int i, b1, ⟨t, rfl⟩, fun _ _ _ => D.mkInt⟩⟩
end L3
namespace L3
open PySem PySem.Spec PyProof.Rows L2
theorem liftSp_imp {K : PySem.W.Frag} {sp sp' : RDL} (h : ∀ ds st P, sp ds st P → sp' ds st P) {vs : List V} {H : Hp} {Q : VK} {E : XK} (q : liftSp K sp vs H Q E) : liftSp K sp' vs H Q E := by
  obtain ⟨φ, st, ds, P, R, dl, hs, hq⟩ := q
  exact ⟨φ, st, ds, P, R, dl, h _ _ _ hs, hq⟩
theorem DefOk.imp {P : Program} {w : World} {K : PySem.W.Frag} {mg : Str → Option Value} {base : Heap} {x : Str} {k : Nat} {sp sp' : RDL} (F : DefOk P w K mg base x k sp') (h : ∀ ds st P, sp ds st P → sp' ds st P) : DefOk P w K mg base x k sp := by
  obtain ⟨f, fd, ps, h1, h2, h3, h4⟩ := F.ex
  exact ⟨⟨f, fd, ps, ⟨fun vs H Q E q => h1.len vs H Q E (liftSp_imp h q), fun A outer s H args us vs Q E r e b v q => h1.run A outer s H args us vs Q E r e b v (liftSp_imp h q)⟩, h2, h3, h4⟩⟩
end L3
namespace HT
open PySem PySem.Spec PyProof.Rows
end HT
namespace L3
open PySem PySem.Spec PyProof.Rows L2
end L3
namespace L3
open PySem PySem.Spec PyProof.Rows L2
end L3
namespace L3
open PySem PySem.Spec PyProof.Rows L2
end L3
namespace L3
open PySem PySem.Spec PyProof.Rows L2
end L3
namespace L3
open PySem PySem.Spec PyProof.Rows L2
end L3
namespace L3
open PySem PySem.Spec PyProof.Rows L2
theorem vals_ints : ∀ {us : List Value} {ns : List Int}, IntsAre us ns → Vals (ns.map V.int) us
  | _, _, .nil => .nil
  | _, _, .cons n tk h => .cons ⟨tk, rfl⟩ (vals_ints h)
end L3
namespace L3
open PySem PySem.Spec PyProof.Rows L2
noncomputable def keyD : Dt → Option Key
  | .int i => some (.inl i)
  | .str x => some (.inr x)
  | _ => none
noncomputable def valD (kvs : List (Key × Dt)) (k : Key) : Option Dt := (kvs.find? fun kv => decide (kv.1 = k)).map (·.2)
noncomputable def putD (kvs : List (Key × Dt)) (k : Key) (d : Dt) : List (Key × Dt) :=
  if (kvs.any fun kv => decide (kv.1 = k)) = true then kvs.map (fun kv => if kv.1 = k then (kv.1, d) else kv) else kvs ++ [(k, d)]
noncomputable def KD (K : PySem.W.Frag) (φ : Nat → Addr) (N : Nat) (H : Hp) (kvs : List (Key × Dt)) (vs : List (Key × V)) : Prop := kvs.map (·.1) = vs.map (·.1) ∧ DL K φ N H (kvs.map (·.2)) (vs.map (·.2))
section
variable {K : PySem.W.Frag} {φ : Nat → Addr} {N : Nat} {H : Hp}
theorem key_of {y : Dt} {k : Key} {v : V} (e : keyD y = some k) (d : D K φ N H y v) : v = kV k := by
  cases y with
  | int i => cases e; exact d.int
  | str x => cases e; exact d.str
  | _ => cases e
theorem KD.uncons {k : Key} {d : Dt} {r : List (Key × Dt)} {vs : List (Key × V)} (h : KD K φ N H ((k, d) :: r) vs) : ∃ v r', vs = (k, v) :: r' ∧ D K φ N H d v ∧ KD K φ N H r r' := by
  obtain ⟨h1, h2⟩ := h
  cases vs with
  | nil => cases h1
  | cons p r' =>
    obtain ⟨k', v⟩ := p
    rw [List.map_cons, List.map_cons] at h1
    injection h1 with e1 e2
    have e1 : k = k' := e1
    subst e1
    obtain ⟨a, b⟩ := DL.uncons (d := d) (v := v) h2
    exact ⟨v, r', rfl, a, e2, b⟩
theorem KD.cons {k : Key} {d : Dt} {v : V} {r : List (Key × Dt)} {r' : List (Key × V)} (a : D K φ N H d v) (h : KD K φ N H r r') : KD K φ N H ((k, d) :: r) ((k, v) :: r') := ⟨by rw [List.map_cons, List.map_cons, h.1], .cons a h.2⟩
theorem KD.nil : KD K φ N H [] [] := ⟨rfl, .nil⟩
theorem KD.nilV {vs : List (Key × V)} (h : KD K φ N H [] vs) : vs = [] := by
  cases vs with
  | nil => rfl
  | cons p r => cases h.1
theorem KD.val : ∀ {kvs : List (Key × Dt)} {vs : List (Key × V)} (k : Key), KD K φ N H kvs vs → (valD kvs k = none ∧ valV vs k = none) ∨ ∃ d v, valD kvs k = some d ∧ valV vs k = some v ∧ D K φ N H d v
  | [], vs, k, h => by rw [h.nilV]; exact .inl ⟨rfl, rfl⟩
  | (k', d) :: r, vs, k, h => by
    obtain ⟨v, r', rfl, dv, h'⟩ := h.uncons
    by_cases e : k' = k
    · exact .inr ⟨d, v, by simp [valD, List.find?_cons, e], by simp [valV, List.find?_cons, e], dv⟩
    · have e1 : valD ((k', d) :: r) k = valD r k := by simp [valD, List.find?_cons, e]
      have e2 : valV ((k', v) :: r') k = valV r' k := by simp [valV, List.find?_cons, e]
      rw [e1, e2]
      exact h'.val k
theorem KD.any : ∀ {kvs : List (Key × Dt)} {vs : List (Key × V)} (k : Key), KD K φ N H kvs vs → (kvs.any fun kv => decide (kv.1 = k)) = (vs.any fun kv => decide (kv.1 = k))
  | [], vs, k, h => by rw [h.nilV]; rfl
  | (k', d) :: r, vs, k, h => by
    obtain ⟨v, r', rfl, _, h'⟩ := h.uncons
    rw [List.any_cons, List.any_cons, h'.any k]
theorem KD.app : ∀ {a b : List (Key × Dt)} {c e : List (Key × V)}, KD K φ N H a c → KD K φ N H b e → KD K φ N H (a ++ b) (c ++ e)
  | [], b, c, e, h, h' => by rw [h.nilV]; exact h'
  | (k, d) :: r, b, c, e, h, h' => by
    obtain ⟨v, r', rfl, dv, h2⟩ := h.uncons
    exact (h2.app h').cons dv
theorem KD.put {d : Dt} {v : V} (dv : D K φ N H d v) (k : Key) {kvs : List (Key × Dt)} {vs : List (Key × V)} (h : KD K φ N H kvs vs) : KD K φ N H (putD kvs k d) (putK vs k v) := by
  unfold putD putK
  rw [h.any k]
  split
  · have go : ∀ {kvs : List (Key × Dt)} {vs : List (Key × V)}, KD K φ N H kvs vs → KD K φ N H (kvs.map fun kv => if kv.1 = k then (kv.1, d) else kv) (vs.map fun kv => if kv.1 = k then (kv.1, v) else kv) := by
      intro kvs
      induction kvs with
      | nil => intro vs h; rw [h.nilV]; exact .nil
      | cons p r ih =>
        intro vs h
        obtain ⟨k', d'⟩ := p
        obtain ⟨v', r', rfl, dv', h'⟩ := h.uncons
        rw [List.map_cons, List.map_cons]
        by_cases e : k' = k
        · rw [if_pos e, if_pos e]; exact (ih h').cons dv
        · rw [if_neg e, if_neg e]; exact (ih h').cons dv'
    exact go h
  · exact h.app (KD.cons dv .nil)
theorem KD.length {kvs : List (Key × Dt)} {vs : List (Key × V)} (h : KD K φ N H kvs vs) : kvs.length = vs.length := by
  have := congrArg List.length h.1
  rwa [List.length_map, List.length_map] at this
theorem Rep.dc {st : Sto} (R : Rep K φ st H) {n : Nat} {kvs : List (Key × Dt)} (e : st[n]? = some (.dc kvs)) : ∃ vs, H (φ n) = some (.dK vs) ∧ K.lookup (φ n) = none ∧ KD K φ st.length H kvs vs := by
  obtain ⟨vs, h1, h2, h3, h4⟩ := R.all n _ e
  exact ⟨vs, h1, h2, h3, h4⟩
end
end L3
namespace L3
open PySem PySem.Spec PyProof.Rows L2
noncomputable def putO (f : Str) (d : Dt) : List (Str × Dt) → List (Str × Dt)
  | [] => [(f, d)]
  | (g, x) :: r => if g = f then (g, d) :: r else (g, x) :: putO f d r
noncomputable def OD (K : PySem.W.Frag) (φ : Nat → Addr) (N : Nat) (H : Hp) (fs : List (Str × Dt)) (vs : List (Str × V)) : Prop := fs.map (·.1) = vs.map (·.1) ∧ DL K φ N H (fs.map (·.2)) (vs.map (·.2))
section
variable {K : PySem.W.Frag} {φ : Nat → Addr} {N : Nat} {H : Hp}
theorem OD.uncons {k : Str} {d : Dt} {r : List (Str × Dt)} {vs : List (Str × V)} (h : OD K φ N H ((k, d) :: r) vs) : ∃ v r', vs = (k, v) :: r' ∧ D K φ N H d v ∧ OD K φ N H r r' := by
  obtain ⟨h1, h2⟩ := h
  cases vs with
  | nil => cases h1
  | cons p r' =>
    obtain ⟨k', v⟩ := p
    rw [List.map_cons, List.map_cons] at h1
    injection h1 with e1 e2
    have e1 : k = k' := e1
    subst e1
    obtain ⟨a, b⟩ := DL.uncons (d := d) (v := v) h2
    exact ⟨v, r', rfl, a, e2, b⟩
theorem OD.cons {k : Str} {d : Dt} {v : V} {r : List (Str × Dt)} {r' : List (Str × V)} (a : D K φ N H d v) (h : OD K φ N H r r') : OD K φ N H ((k, d) :: r) ((k, v) :: r') := ⟨by rw [List.map_cons, List.map_cons, h.1], .cons a h.2⟩
theorem OD.nil : OD K φ N H [] [] := ⟨rfl, .nil⟩
theorem OD.nilV {vs : List (Str × V)} (h : OD K φ N H [] vs) : vs = [] := by
  cases vs with
  | nil => rfl
  | cons p r => cases h.1
theorem OD.length {fs : List (Str × Dt)} {vs : List (Str × V)} (h : OD K φ N H fs vs) : fs.length = vs.length := by
  have := congrArg List.length h.1
  rwa [List.length_map, List.length_map] at this
theorem OD.put {d : Dt} {v : V} (dv : D K φ N H d v) (f : Str) : ∀ {fs : List (Str × Dt)} {vs : List (Str × V)}, OD K φ N H fs vs → OD K φ N H (putO f d fs) (putF f v vs)
  | [], vs, h => by rw [h.nilV]; exact OD.cons dv .nil
  | (k, d') :: r, vs, h => by
    obtain ⟨v', r', rfl, dv', h'⟩ := h.uncons
    unfold putO putF
    by_cases e : k = f
    · rw [if_pos e, if_pos e]; exact h'.cons dv
    · rw [if_neg e, if_neg e]; exact (OD.put dv f h').cons dv'
theorem Rep.ob {st : Sto} (R : Rep K φ st H) {n : Nat} {C : Str} {fs : List (Str × Dt)} (e : st[n]? = some (.ob C fs)) : ∃ (c dx : Addr) (vs : List (Str × V)), H (φ n) = some (.ins c dx vs) ∧ K.lookup (φ n) = none ∧ PySem.W.nsIn K mainGlobals C = some (some (.ref c)) ∧ OD K φ st.length H fs vs := by
  obtain ⟨c, dx, vs, h1, h2, h3, h4, h5⟩ := R.all n _ e
  exact ⟨c, dx, vs, h1, h2, h3, h4, h5⟩
end
end L3
namespace L3
open PySem PySem.Spec PyProof.Rows L2
end L3
namespace L3
open PySem PySem.Spec PyProof.Rows L2
noncomputable def EntsAre (P : Params) : List DictEntry → List (Str × Str) → Prop
  | [], [] => True
  | e :: r, kv :: q => (∃ t u, e.key = .str kv.1 t ∧ e.val = .str kv.2 u ∧ e.hash = PyData.keyHash P kv.1) ∧ EntsAre P r q
  | _, _ => False
theorem EntsAre.lit {P : Params} : ∀ {l : List DictEntry} {kvs : List (Str × Str)}, EntsAre P l kvs → PySem.W.KeysLit P l
  | [], [], _ => trivial
  | _ :: _, _ :: _, ⟨⟨t, _, h1, _, h3⟩, r⟩ => ⟨⟨_, t, h1, h3⟩, r.lit⟩
  | [], _ :: _, h => h.elim
  | _ :: _, [], h => h.elim
end L3
namespace HT
open PySem PySem.Spec PyProof.Rows
section
variable {prog : Program} {w : World} {A : Around} {E : Value → Shared → Prop} {s : Shared}
theorem nextOf_tup_item {it t : Addr} {i : Nat} {items : Array Value} {x : Value} {Q : Value → Shared → Prop} (hit : IsTupIter s.heap it t i) (ht : IsTup s.heap t items) (hx : items[i]? = some x)
    (hQ : ∀ h', IsTupIter h' it t (i + 1) → Heap.SameBut it s.heap h' → Q x { s with heap := h' }) : wpAny (model prog w) A (Builtin.SmallTypes.nextOf (.ref it)) Q E s := by
  obtain ⟨o, ho, hc, hd⟩ := id hit; obtain ⟨ol, hol, _, nl, hdl⟩ := ht
  unfold Builtin.SmallTypes.nextOf; refine wpAny_bind (wpAny_callSpecial?_slot (name := Str.ofString "__next__") hit.typeIs slot_tupleiter_next (wpAny_call_entry slot_tupleiter_next hit.typeIs entry_tupleiter_next ?_ (args_tupleiter_next _)))
  show wpAny _ _ (field (.ref it) 0 >>= _) _ _ s; refine wpAny_bind (wpAny_field ho hd (x := .ref t) rfl ?_)
  show wpAny _ _ (if (Value.ref t == Value.none) = true then _ else _) _ _ s; rw [if_neg (show ¬ ((Value.ref t == Value.none) = true) from Bool.false_ne_true)]
  show wpAny _ _ (field (.ref it) 1 >>= _) _ _ s; refine wpAny_bind (wpAny_field ho hd (x := .int i 0) rfl ?_)
  show wpAny _ _ (seqItems? (.ref t) >>= _) _ _ s; refine wpAny_bind (wpAny_seqItems hol hdl ?_); simp only [Int.toNat_natCast, hx]
  refine wpAny_bind (wpAny_setField ho hd (by simp) (wpAny_pure ⟨x, rfl, wpAny_pure (hQ _ ⟨_, Heap.get?_update_self _ ho (Obj.isFreed_of_fields (Obj.data_mapFields hd _)), (Obj.cls_mapFields ..).trans hc, by rw [Obj.data_mapFields hd]; simp [rawInt]⟩ (Heap.SameBut.update ..))⟩))
theorem nextOf_tup_end {it t : Addr} {i : Nat} {items : Array Value} {Q : Value → Shared → Prop} (hh : A.handled = none) (hit : IsTupIter s.heap it t i) (ht : IsTup s.heap t items) (hx : items[i]? = none)
    (hE : ∀ h' e, Heap.ExtBut it s.heap h' → (∃ o, h'.get? e = some o ∧ o.cls = .type "StopIteration") → E (.ref e) { s with heap := h' }) : wpAny (model prog w) A (Builtin.SmallTypes.nextOf (.ref it)) Q E s := by
  obtain ⟨o, ho, hc, hd⟩ := id hit; obtain ⟨ol, hol, _, nl, hdl⟩ := ht
  unfold Builtin.SmallTypes.nextOf; refine wpAny_bind (wpAny_callSpecial?_slot (name := Str.ofString "__next__") hit.typeIs slot_tupleiter_next (wpAny_call_entry slot_tupleiter_next hit.typeIs entry_tupleiter_next ?_ (args_tupleiter_next _)))
  show wpAny _ _ (field (.ref it) 0 >>= _) _ _ s; refine wpAny_bind (wpAny_field ho hd (x := .ref t) rfl ?_)
  show wpAny _ _ (if (Value.ref t == Value.none) = true then _ else _) _ _ s; rw [if_neg (show ¬ ((Value.ref t == Value.none) = true) from Bool.false_ne_true)]
  show wpAny _ _ (field (.ref it) 1 >>= _) _ _ s; refine wpAny_bind (wpAny_field ho hd (x := .int i 0) rfl ?_)
  show wpAny _ _ (seqItems? (.ref t) >>= _) _ _ s; refine wpAny_bind (wpAny_seqItems hol hdl ?_); simp only [Int.toNat_natCast, hx]
  refine wpAny_bind (wpAny_rule (wpAny_bind (wpAny_setField ho hd (by simp) ?_))); show wpAny _ _ (newExc (.type "StopIteration") [] >>= _) _ _ _
  refine wpAny_bind ?_; simp only [newExc, newTuple]
  refine wpAny_bind (wpAny_newObj_type ?_ (by size_fits)); refine wpAny_bind (m := firstArgMember _ _) (wpAny_of_eq (a := Value.none) (by first | rfl | (simp only [firstArgMember]; rfl)) ?_)
  refine wpAny_newObj_type ?_ (by size_fits); simp only [raiseNew]; refine wpAny_bind (wpAny_handled ?_)
  first | rw [show A.in1.handled = none from hh] | rw [hh]
  refine wpAny_bind (wpAny_pure (wpAny_throw ?_)); exact hE _ _ (((Heap.SameBut.update ..).extBut.push _).push _) ⟨_, Heap.get?_push_size _ rfl, rfl⟩
theorem draws_tup (hh : A.handled = none) (it t : Addr) (hne : t ≠ it) (items : Array Value) : Draws prog w A it [it, t] items.size (fun i v => items[i]? = some v) (fun i h => IsTupIter h it t i ∧ IsTup h t items) where
  live := fun _ _ st => let ⟨o, ho, _⟩ := st.1; ⟨o, ho⟩
  frame := fun _ _ _ st hk => ⟨let ⟨o, ho, r⟩ := st.1; ⟨o, hk it (by simp) _ ho, r⟩, let ⟨o, ho, r⟩ := st.2; ⟨o, hk t (by simp) _ ho, r⟩⟩
  item := fun i s Q E hi st hQ => by
    refine nextOf_tup_item st.1 st.2 (x := items[i]) (by simp [hi]) fun h' hit' hs' => hQ _ h' s.toks (by simp [hi]) ⟨hit', ?_⟩ hs'
    obtain ⟨o, ho, r⟩ := st.2
    exact ⟨o, hs'.extBut t o hne ho, r⟩
  done := fun s Q E st hE => nextOf_tup_end hh st.1 st.2 (by simp) hE
end
theorem meets_enumT (l : Addr) (items : Array Value) (n : Nat) (dct : Option Addr) (sl : Array (Option Value)) :
    Meets (Builtin.«enumerate.__new__» ⟨[.type "enumerate", .ref l], []⟩) (fun _ R s => s.heap.get? l = some { cls := .type "tuple", dict := dct, data := .seq items n, slots := sl } ∧
      R (.ok (.ret (.ref (s.heap.push { cls := .type "tuple_iterator", data := .fields #[.ref l, .int 0 0] }).objs.size)))
        { s with heap := (s.heap.push { cls := .type "tuple_iterator", data := .fields #[.ref l, .int 0 0] }).push { cls := .type "enumerate", data := .fields #[.none, .bool false, .ref s.heap.objs.size, rawInt 0, .none, .none] } }) :=
  .of_wp fun prog w A R s h => by
    obtain ⟨hp, g, d, tk, os⟩ := s; obtain ⟨hl, h⟩ := h
    have hsub := sub_enumerate
    have hT : IsTup (Shared.heap ⟨hp, g, d, tk, os⟩) l items := ⟨_, hl, rfl, n, rfl⟩
    wp_walk using AutoSeq1.wpAny_loadPart' hl
    refine wpAny_stack_any fun st => wpAny_pure ?_
    split
    · rename_i c _ _ _ _ _
      cases (c == Value.type "enumerate")
      · wp_walk using AutoSeq1.wpAny_loadPart' hl, iter_tuple hT
        exact ⟨_, rfl, h⟩
      · wp_walk using AutoSeq1.wpAny_loadPart' hl, iter_tuple hT
        exact ⟨_, rfl, h⟩
    · wp_walk using AutoSeq1.wpAny_loadPart' hl, iter_tuple hT
      exact ⟨_, rfl, h⟩
section
variable {prog : Program} {w : World} {A : Around} {E : Value → Shared → Prop} {s : Shared}
theorem call_enumT {l : Addr} {items : Array Value} {Q : Value → Shared → Prop} (hT : IsTup s.heap l items)
    (h : ∀ h', IsEnum h' (s.heap.objs.size + 1) s.heap.objs.size 0 .none → IsTupIter h' s.heap.objs.size l 0 → h'.objs.size = s.heap.objs.size + 2 → (∀ b o, s.heap.get? b = some o → h'.get? b = some o) → Q (.ref (s.heap.objs.size + 1)) { s with heap := h' }) :
    wpAny (model prog w) A (call (.type "enumerate") [.ref l]) Q E s := by
  obtain ⟨⟨c, dct, dt, sl⟩, hl, hc, n, hd⟩ := hT
  replace hc : c = .type "tuple" := hc
  replace hd : dt = .seq items n := hd
  subst hc hd
  refine callType_new F.called_enumerate (by decide) (F.typeCall_enumerate_1 _) (F.newCall_enumerate_1 _) (fun obj => F.args_object_init_2 obj _) F.entry_enumerate_new (meets_enumT l items n dct sl) ⟨hl, ?_⟩
  have hz : (s.heap.push { cls := .type "tuple_iterator", data := .fields #[.ref l, .int 0 0] }).objs.size = s.heap.objs.size + 1 := Heap.size_push ..
  show _ ∧ _
  rw [hz]
  have he : IsEnum ((s.heap.push { cls := .type "tuple_iterator", data := .fields #[.ref l, .int 0 0] }).push { cls := .type "enumerate", data := .fields #[.none, .bool false, .ref s.heap.objs.size, rawInt 0, .none, .none] }) (s.heap.objs.size + 1) s.heap.objs.size 0 .none := by
    have q := Heap.get?_push_size (s.heap.push { cls := .type "tuple_iterator", data := .fields #[.ref l, .int 0 0] }) (o := { cls := .type "enumerate", data := .fields #[.none, .bool false, .ref s.heap.objs.size, rawInt 0, .none, .none] }) rfl
    rw [hz] at q; exact q
  exact ⟨⟨_, he, rfl⟩, h _ he ⟨_, Heap.get?_push_of_some _ (Heap.get?_push_size _ rfl), rfl, rfl⟩ (by rw [Heap.size_push, hz]) fun b o x => Heap.get?_push_of_some _ (Heap.get?_push_of_some _ x)⟩
end
end HT
namespace L3
open PySem PySem.Spec PyProof.Rows L2
theorem tupIter_at {h h' : Heap} {a t : Addr} {i : Nat} (x : IsTupIter h a t i) (e : ∀ o, h.get? a = some o → h'.get? a = some o) : IsTupIter h' a t i := let ⟨o, ho, r⟩ := x; ⟨o, e _ ho, r⟩
theorem enumT_end {prog : Program} {w : World} {A : Around} {E : Value → Shared → Prop} {s : Shared} {e it t : Addr} {i : Nat} {old : Value} {items : Array Value} {Q : Option Value → Shared → Prop} (hh : A.handled = none) (he : IsEnum s.heap e it (i : Nat) old) (hit : IsTupIter s.heap it t i) (ht : IsTup s.heap t items) (hne : t ≠ it) (hn : items.size ≤ i)
    (hQ : ∀ h', Heap.ExtBut it s.heap h' → Q none { s with heap := h' }) : wpAny (model prog w) A (pyNext (.ref e)) Q E s := by
  have hT : s.TypeIs (.ref e) "enumerate" := ⟨_, he, rfl⟩
  unfold pyNext
  refine wpAny_bind (wpAny_attempt (wpAny_callSpecial?_slot (name := Str.ofString "__next__") hT F.slot_enumerate_next (wpAny_call_entry F.slot_enumerate_next hT F.entry_enumerate_next ?_ (F.args_enumerate_next_1 _))))
  show wpAny _ _ (field (.ref e) 2 >>= _) _ _ _
  refine wpAny_bind (wpAny_field he rfl (x := .ref it) rfl (wpAny_bind (HT.nextOf_tup_end (A := A.in1) hh hit ht (by simp; omega) fun h' x he' hx' => ?_)))
  obtain ⟨o, ho, hc⟩ := hx'
  exact wpAny_bind (wpAny_isInstance (T := "StopIteration") (b := true) ⟨o, ho, hc⟩ isSubtype_stop (wpAny_pure (hQ _ he')))
noncomputable def IteT (K : PySem.W.Frag) (a : Addr) : It :=
  ⟨fun i H => ∃ xs x, SqT K H a xs ∧ xs[i]? = some x, fun i H x H' => ∃ p v, H p = none ∧ H' = upd H p (.tup [.int i, v]) ∧ x = .ref p ∧ ∀ xs, SqT K H a xs → xs[i]? = some v, fun i H => ∃ xs, SqT K H a xs ∧ xs.length ≤ i⟩
theorem turn_enumT {P : Program} {w : World} {K : PySem.W.Frag} {elts : List Expr} {x1} {pos : Pos} (a e it : Addr) (hei : e ≠ it) :
    Turn P w K (.Tuple elts x1 pos) (IteT K a) [e, it] e (fun i h => (∃ old, IsEnum h e it (i : Nat) old) ∧ IsTupIter h it a i) where
  mem := by simp
  obj := fun i h st b hb => by
    obtain ⟨⟨old, he⟩, o, ho, hc, hd⟩ := st
    rcases List.mem_cons.mp hb with rfl | hb
    · exact ⟨_, he, fun v z => by
        have z' : Data.fields _ = Data.cell v := z
        cases z'⟩
    · have : b = it := by simpa using hb
      subst this
      exact ⟨o, ho, fun v z => by rw [hd] at z; cases z⟩
  keep := fun i h h' st k => by
    obtain ⟨⟨old, he⟩, hit⟩ := st
    exact ⟨⟨old, k e (by simp) _ he⟩, tupIter_at hit fun o x => k it (by simp) o x⟩
  item := by
    intro X hP hw hK hc i pins s σ H E I hf st hg
    subst hP hw hK
    obtain ⟨⟨old, he⟩, hit⟩ := st
    obtain ⟨xs, x, hq, hx⟩ := hg
    obtain ⟨its, rv, p, hz⟩ := I.tuple hq
    obtain ⟨u, hu, ru⟩ := rv.get hx
    obtain ⟨e0, e1, e2, e3, e4, e5⟩ := hf e (by simp)
    obtain ⟨i0, i1, i2, i3, i4, i5⟩ := hf it (by simp)
    have hit0 := hit
    have hai : a ≠ it := fun z => by
      obtain ⟨o1, q1, q2, q3⟩ := hit
      obtain ⟨o2, q4, q5, q6⟩ := p
      rw [z, q1] at q4; cases q4; rw [q2] at q5; injection q5 with q7; exact absurd q7 (by decide)
    have hea : e ≠ a := fun z => by
      obtain ⟨o2, q4, q5, q6⟩ := p
      rw [← z, he] at q4; cases q4; injection q5 with q7; exact absurd q7 (by decide)
    refine wpAny_pyNext_enum_itemD (HT.draws_tup (A := X.A.in1) (I.ok.hd hc) it a hai its.toArray) he ⟨hit, p⟩ (by have := (Array.getElem?_eq_some_iff.mp (show its.toArray[i]? = some u by simpa using hu)); exact this.1) hei (by simp; exact ⟨hei, hea⟩) fun x0 h' tk hx0 ho hst' hT hsz hk => ?_
    have hxu : x0 = u := by
      have q : its.toArray[i]? = some u := by simpa using hu
      have hx0 : its.toArray[i]? = some x0 := hx0
      rw [q] at hx0; exact (Option.some.inj hx0).symm
    subst hxu
    obtain ⟨hit', hp'⟩ := hst'
    refine ⟨_, rfl, wpAny_letOwnedTupleGo_enum (s := { s with heap := h', toks := tk + 1 }) ho fun h2 he2 hs2 => ?_⟩
    have hT2 : h2.get? s.heap.objs.size = some { cls := .type "tuple", data := .seq #[.int i tk, x0] } := (hs2.2 _ (Ne.symm (ne_lt (Heap.lt_size he) (Nat.le_refl _)))).trans hT
    have hk2 : ∀ b o, b ≠ e → b ≠ it → s.heap.get? b = some o → h2.get? b = some o := fun b o hb hb2 q => (hs2.2 b hb).trans (hk b o hb hb2 q)
    have hp : H s.heap.objs.size = none := I.hok.fresh (Nat.le_refl _)
    have nt : ∀ b v, H b = some v → b ≠ e ∧ b ≠ it := fun b v q => ⟨fun z => (by rw [z, e0] at q; cases q), fun z => (by rw [z, i0] at q; cases q)⟩
    refine ⟨.ref s.heap.objs.size, upd H s.heap.objs.size (.tup [.int i, x]), ?_, rfl, ⟨_, x, hp, rfl, rfl, fun ys hy => by rw [I.tuple_inj hy hq]; exact hx⟩, ⟨⟨x0, by simpa using he2⟩, tupIter_at hit' fun o y => (hs2.2 it hei.symm).trans y⟩, fun b hb => ?_⟩
    · show Inv X pins σ _ { s with heap := h2, gens := s.gens, drawn := s.drawn, toks := tk + 1 }
      refine Inv.step (s := s) (h' := h2) (g' := s.gens) (d' := s.drawn) (t' := tk + 1) (ch := [e, it]) I (fun b hb => ?_) (fun b o _ _ hc q _ => hk2 b o (fun z => hc (by simp [z])) (fun z => hc (by simp [z])) q) (fun b o _ _ hc q _ => ⟨o.slots, hk2 b o (fun z => hc (by simp [z])) (fun z => hc (by simp [z])) q⟩)
        (fun b o _ q n => by rw [upd_ne (ne_lt (Heap.lt_size q) (Nat.le_refl _))]; exact n) (fun b o hc q => ⟨o, hk2 b o (fun z => hc (by simp [z])) (fun z => hc (by simp [z])) q⟩)
        (fun b ys q => by rw [upd_ne (ne_of_none q hp)]; exact q) (fun b o v q => by rw [upd_ne (ne_of_none q hp)]; exact q) (fun b ps q => ⟨#[], by rw [upd_ne (ne_of_none q hp), q]; simp⟩) (fun m hm => ?_) (fun b v q => ?_) I.bare
      · rcases List.mem_cons.mp hb with rfl | hb
        · exact ⟨e3, e1, e4, e5⟩
        · have : b = it := by simpa using hb
          subst this
          exact ⟨i3, i1, i4, i5⟩
      · obtain ⟨o, es, ep, ho, r⟩ := hm
        exact ⟨o, es, ep, hk2 _ o (Ne.symm e1) (Ne.symm i1) ho, r⟩
      · by_cases hb : b = s.heap.objs.size
        · subst hb
          rw [upd_same] at q
          cases q
          refine ⟨by show 2 ≤ sizeLine; decide, [.int i tk, x0], .cons ⟨_, rfl⟩ (.cons ru .nil), ⟨_, hT2, rfl, 0, rfl⟩⟩
        · rw [upd_ne hb] at q
          refine (I.hok b v q).stay (fun c o hc y => ?_) (fun c y => by rw [upd_ne (ne_of_none y hp)]; exact y) fun c ys y => by rw [upd_ne (ne_of_none y hp)]; exact y
          rcases hc with rfl | hc
          · exact hk2 c o (nt c v q).1 (nt c v q).2 y
          · exact hk2 c o (nt c _ hc).1 (nt c _ hc).2 y
    · have hlt : b < s.heap.objs.size := by
        rcases List.mem_cons.mp hb with rfl | hb
        · exact Heap.lt_size he
        · have : b = it := by simpa using hb
          subst this
          obtain ⟨o, ho, _⟩ := hit
          exact Heap.lt_size ho
      rw [upd_ne (ne_lt hlt (Nat.le_refl _))]
      exact (hf b hb).1
  done := by
    intro X hP hw hK hc i pins s σ H E I hf st hg
    subst hP hw hK
    obtain ⟨⟨old, he⟩, hit⟩ := st
    obtain ⟨xs, hq, hx⟩ := hg
    obtain ⟨its, rv, p, hz⟩ := I.tuple hq
    obtain ⟨i0, i1, i2, i3, i4, i5⟩ := hf it (by simp)
    have hl := rv.length
    have hai : a ≠ it := fun z => by
      obtain ⟨o1, q1, q2, q3⟩ := hit
      obtain ⟨o2, q4, q5, q6⟩ := p
      rw [z, q1] at q4; cases q4; rw [q2] at q5; injection q5 with q7; exact absurd q7 (by decide)
    exact enumT_end (I.ok.hd hc) he hit p hai (by simp; omega) fun h' eb => ⟨rfl, I.turned (t' := s.toks) (fun b o hb e => eb b o hb e) i0 i1 i3 i4 i5⟩
  self := fun _ _ _ _ _ st h => by
    obtain ⟨⟨old, he⟩, _⟩ := st
    exact wpAny_pyIter_enum he h
noncomputable def ienumT (te : TD) : TID := fun ρ st P => te ρ st fun x st1 => match x with
  | .tup xs => P (enumD 0 xs) (fun _ => True) st1
  | _ => False
section
variable {X : Cx} {a : Expr} {elts : List Expr} {x1 : Nat} {tpos pos p : Pos} {te : TD}
theorem di_enumT (hm : X.mg "enumerate" = none) (ha : DE X a te) (hg : Gl X "enumerate") (hs : starEach [a] X.env = [(false, eval a X.env)]) : DI X (.Tuple elts x1 tpos) (.Call (.Name "enumerate" p) [a] [] pos) (ienumT te) := by
  intro pins s σ H R I h
  obtain ⟨φ, st, ρ, P, pre, ht, hq⟩ := h
  refine Call_ (ld_blt I hg hm PyProof.Rows.boot_enumerate (PyProof.Rows.callWith_type1 (thn (da_cons ha da_nil hs pos pins s σ H _ I ⟨φ, st, ρ, (fun ds st1 => match ds with
    | [x] => (match x with
      | .tup xs => P (enumD 0 xs) (fun _ => True) st1
      | _ => False)
    | _ => False), pre, ht, fun ds st1 h1 φ1 H1 vs b1 dl => (show ∃ φ1 st1 ds, Bhd X.K φ st H φ1 st1 H1 ∧ DL X.K φ1 st1.length H1 ds vs ∧ (match ds with
    | [x] => (match x with
      | .tup xs => P (enumD 0 xs) (fun _ => True) st1
      | _ => False)
    | _ => False) from ⟨φ1, st1, ds, b1, dl, h1⟩)⟩) fun us s1 ⟨vs, H1, I1, rv, φ1, st1, ds, b1, dl, h1⟩ => ?_) hs rfl))
  rcases ds with _ | ⟨d, _ | ⟨d2, r⟩⟩
  · exact h1.elim
  rotate_left
  · exact h1.elim
  · obtain ⟨v, rfl, dv⟩ := dl.one
    obtain ⟨u, rfl, ru⟩ := vals1 rv
    cases d with
    | tup xs =>
      have h1 : P (enumD 0 xs) (fun _ => True) st1 := h1
      obtain ⟨a, ws, ev, hs1, dws⟩ := dv.tup
      subst ev
      cases ru
      obtain ⟨its, rvs, pl, hz⟩ := I1.tuple hs1
      refine HT.call_enumT pl fun h' he hit hsz hk => ?_
      refine wpAny_pyIter_enum (s := { s1 with heap := h' }) he ?_
      have I2 : Inv X pins σ H1 { s1 with heap := h' } := I1.kept (t' := s1.toks) hk
      have hei : s1.heap.objs.size + 1 ≠ s1.heap.objs.size := by omega
      refine ⟨s1.heap.objs.size + 1, [s1.heap.objs.size + 1, s1.heap.objs.size], _, _, H1, rfl, I2, turn_enumT a _ _ hei, ⟨⟨_, he⟩, hit⟩, fun b hb => ?_, hq _ _ st1 h1 φ1 H1 _ b1 ?_⟩
      · have hle : s1.heap.objs.size ≤ b := by
          rcases List.mem_cons.mp hb with e | hb
          · rw [e]; exact Nat.le_succ _
          · have e : b = s1.heap.objs.size := by simpa using hb
            rw [e]; exact Nat.le_refl _
        exact I1.fpOk hle (I1.hok.fresh hle)
      · intro i φ' st' H' bh hok hi
        obtain ⟨a', zs, e2, hs', dl'⟩ := (dv.evo bh.2).tup
        cases e2
        have hlen := dl'.length
        rw [enum_len] at hi
        refine ⟨fun e => ⟨zs, hs', by rw [enum_len] at e; omega⟩, fun d ed => ?_⟩
        obtain ⟨d', ed', rfl⟩ := enum_get ed
        obtain ⟨y, ey, dy⟩ := dl'.get ed'
        refine ⟨⟨zs, y, hs', ey⟩, fun y' H2 hy => ?_⟩
        obtain ⟨q, v, hq1, rfl, rfl, hv⟩ := hy
        have := hv zs hs'
        rw [ey] at this
        cases this
        refine ⟨bhd_tup bh.1 hq1, .mkTup (SqT.of upd_same) (.cons ?_ (.cons (dy.evo (evo_new hq1)) .nil))⟩
        rw [Nat.zero_add]
        exact D.mkInt
    | _ => exact h1.elim
end
end L3
namespace L3
open PySem PySem.Spec PyProof.Rows L2
end L3
namespace L3
open PySem PySem.Spec PyProof.Rows L2
noncomputable def rAnyB : RDL := fun ds st P => match ds with
  | [.lst n] => (match st[n]? with
    | some o => ∃ bs : List Bool, o.items = bs.map .bl ∧ P (.bl (bs.any id)) st
    | none => False)
  | _ => False
section
variable {X : Cx}
theorem cd_any (hc : X.calm = true) : CallD X (.builtin "any") rAnyB := by
  intro pins s σ H vs us Q I rv h
  obtain ⟨φ, st, ds, P, R, dl, hr, hq⟩ := h
  rcases ds with _ | ⟨x, _ | ⟨y, r⟩⟩
  · exact hr.elim
  rotate_left
  · cases x <;> exact hr.elim
  · obtain ⟨v, rfl, dx⟩ := dl.one
    obtain ⟨u, rfl, ru⟩ := vals1 rv
    cases x with
    | lst n =>
      have hr : (match st[n]? with
        | some o => ∃ bs : List Bool, o.items = bs.map .bl ∧ P (.bl (bs.any id)) st
        | none => False) := hr
      split at hr
      · rename_i o eo
        obtain ⟨bs, eb, hp⟩ := hr
        obtain ⟨ws, hs1, dws⟩ := R.seq eo dx.isL
        rw [eb] at dws
        have ev := dx.lst.2
        subst ev
        cases ru
        obtain ⟨its, rvs, pl, hz⟩ := I.list hs1
        have hb : LSm.BoolsAre its bs := bools_are dws rvs
        have hl : s.heap.IsList (φ n) its.toArray := pl.isList
        have hlt : φ n < s.heap.objs.size := by obtain ⟨_, e, _⟩ := hl; exact Heap.lt_size e
        refine call_any_walk (wpAny_pyIter_list hl ?_)
        refine ⟨s.heap.objs.size, [s.heap.objs.size, φ n], [s.heap.objs.size], its.toArray.size, _, _, fun i => (bs[i]?).getD false, rfl, Walks.list (A := X.A.in1) (I.ok.hd hc) _ (φ n) (Nat.ne_of_lt hlt) its.toArray,
          ⟨⟨_, Heap.get?_push_size _ rfl, rfl, rfl⟩, hl.push _⟩, fun i v s' Q' E' hP hQ => ?_, fun h' tk hk => ?_⟩
        · obtain ⟨b, e, rfl⟩ := hb.get i v (by simpa using hP)
          simp only [e, Option.getD_some] at hQ
          exact wpAny_truthy_bool hQ
        · have e : ((List.range its.toArray.size).any fun i => (bs[i]?).getD false) = bs.any id := by
            rw [List.size_toArray, hb.length]; exact LSm.range_any bs
          rw [e]
          exact ⟨.bl (bs.any id), H, I.kept (t' := tk) (LSm.kept_iter hk), rfl, Go.here hq R hp D.mkBl⟩
      · exact hr.elim
    | _ => exact hr.elim
theorem dx_any {pos : Pos} {e : Expr} {es : List Expr} {t : TAD} {p : Pos} (hc : X.calm = true) (hm : X.mg "any" = none) (ha : DA X (e :: es) t) (hg : Gl X "any") (he : starEach (e :: es) X.env = (false, eval e X.env) :: starEach es X.env) (hpl : (backTo pos (starEach es X.env)).any (·.1) = false) : DE X (.Call (.Name "any" p) (e :: es) [] pos) (tcall rAnyB t) := de_callB (cd_any hc) hm PyProof.Rows.boot_any ha hg (by decide) (by decide) he hpl
noncomputable def rStr : RDL := fun ds st P => match ds with
  | [x] => (match x with
    | .int i => i.natAbs.log2 < 1920 ∧ P (.str (Str.ofString (toString i))) st
    | .str z => P (.str z) st
    | _ => False)
  | _ => False
theorem cd_str : CallD X (.type "str") rStr := by
  intro pins s σ H vs us Q I rv h
  obtain ⟨φ, st, ds, P, R, dl, hr, hq⟩ := h
  rcases ds with _ | ⟨x, _ | ⟨y, r⟩⟩
  · exact hr.elim
  rotate_left
  · exact hr.elim
  · obtain ⟨v, rfl, dx⟩ := dl.one
    obtain ⟨u, rfl, ru⟩ := vals1 rv
    cases x with
    | int i =>
      have ev := dx.int
      subst ev
      obtain ⟨t, rfl⟩ := ru
      exact PySem.P.str_of_int hr.1 ⟨.str _, H, I.tok _, ⟨_, rfl⟩, Go.here hq R hr.2 D.mkStr⟩
    | str z =>
      have ev := dx.str
      subst ev
      obtain ⟨t, rfl⟩ := ru
      exact PySem.P.str_of_str ⟨.str _, H, I, ⟨_, rfl⟩, Go.here hq R hr D.mkStr⟩
    | _ => exact hr.elim
theorem dx_str {pos : Pos} {e : Expr} {es : List Expr} {t : TAD} {p : Pos} (hm : X.mg "str" = none) (ha : DA X (e :: es) t) (hg : Gl X "str") (he : starEach (e :: es) X.env = (false, eval e X.env) :: starEach es X.env) (hpl : (backTo pos (starEach es X.env)).any (·.1) = false) : DE X (.Call (.Name "str" p) (e :: es) [] pos) (tcall rStr t) := de_callTy cd_str hm PyProof.Rows.boot_str ha hg (by decide) (by decide) he hpl
noncomputable def rIntT : RDL := fun ds st P => match ds with
  | [x] => (match x with
    | .str z => ∃ n : Int, 0 ≤ n ∧ n < 10 ^ 10 ∧ z = Str.ofString (toString n) ∧ P (.int n) st
    | _ => False)
  | _ => False
theorem cd_intT : CallD X (.type "int") rIntT := by
  intro pins s σ H vs us Q I rv h
  obtain ⟨φ, st, ds, P, R, dl, hr, hq⟩ := h
  rcases ds with _ | ⟨x, _ | ⟨y, r⟩⟩
  · exact hr.elim
  rotate_left
  · exact hr.elim
  · obtain ⟨v, rfl, dx⟩ := dl.one
    obtain ⟨u, rfl, ru⟩ := vals1 rv
    cases x with
    | str z =>
      obtain ⟨n, h0, h1, rfl, hp⟩ := hr
      have ev := dx.str
      subst ev
      obtain ⟨t, rfl⟩ := ru
      exact PySem.W.KIN.call_num h0 h1 ⟨.int _, H, I.tok _, ⟨_, rfl⟩, Go.here hq R hp D.mkInt⟩
    | _ => exact hr.elim
theorem dx_intT {pos : Pos} {e : Expr} {es : List Expr} {t : TAD} {p : Pos} (hm : X.mg "int" = none) (ha : DA X (e :: es) t) (hg : Gl X "int") (he : starEach (e :: es) X.env = (false, eval e X.env) :: starEach es X.env) (hpl : (backTo pos (starEach es X.env)).any (·.1) = false) : DE X (.Call (.Name "int" p) (e :: es) [] pos) (tcall rIntT t) := de_callTy cd_intT hm PyProof.Rows.boot_int ha hg (by decide) (by decide) he hpl
noncomputable def tnever : TSD := fun _ _ _ => False
theorem ds_raise {e : Option Expr} {c : Option Expr} {pos : Pos} : DS X (.Raise e c pos) tnever := fun pins s σ H E I h => by
  obtain ⟨φ, st, ρ, P, pre, ht, hq⟩ := h
  exact ht.elim
end
end L3
namespace L3
open PySem PySem.Spec PyProof.Rows L2
noncomputable def ItS (x : Str) : It := ⟨fun i _ => i < x.cps.size, fun i H v H' => H' = H ∧ ∃ c, x.cps[i]? = some c ∧ v = .str ⟨#[c]⟩, fun i _ => x.cps.size ≤ i⟩
theorem turn_str {P : Program} {w : World} {K : PySem.W.Frag} {tg : Expr} (x : Str) (t : Tok) (it : Addr) : Turn P w K tg (ItS x) [it] it (fun i h => h.IsStrIter it "str_ascii_iterator" x t i) where
  mem := by simp
  obj := fun i h st b hb => by
    have e : b = it := by simpa using hb
    subst e
    obtain ⟨o, e, c, d⟩ := st
    exact ⟨o, e, fun v z => by rw [d] at z; cases z⟩
  keep := fun i h h' st k => by
    obtain ⟨o, e, r⟩ := st
    exact ⟨o, k it (by simp) o e, r⟩
  item := by
    intro X hP hw hK hc i pins s σ H E I hf st hg
    subst hP hw hK
    obtain ⟨f0, f1, f2, f3, f4, f5⟩ := hf it (by simp)
    have hg : i < x.cps.size := hg
    have hx : x.cps[i]? = some x.cps[i] := by simp [hg]
    refine wpAny_pyNext_ascii_item st hx fun h' st' sb => ?_
    have I1 : Inv X pins σ H { s with heap := h', toks := s.toks + 1 } := I.turned (t' := s.toks + 1) (fun b o hb e => (sb.2 b hb).trans e) f0 f1 f3 f4 f5
    obtain ⟨o, e, c, d⟩ := id st'
    exact ⟨_, rfl, go_of (s := { s with heap := h', toks := s.toks + 1 }) e c d (by decide) ⟨.str ⟨#[x.cps[i]]⟩, H, I1, ⟨_, rfl⟩, ⟨rfl, _, hx, rfl⟩, st', fun b hb => (hf b hb).1⟩⟩
  done := by
    intro X hP hw hK hc i pins s σ H E I hf st hg
    subst hP hw hK
    obtain ⟨f0, f1, f2, f3, f4, f5⟩ := hf it (by simp)
    have hg : x.cps.size ≤ i := hg
    exact wpAny_pyNext_ascii_end (I.ok.hd hc) st (by simp [hg]) fun h' eb => ⟨rfl, I.turned (t' := s.toks) (fun b o hb e => eb b o hb e) f0 f1 f3 f4 f5⟩
  self := fun _ _ _ _ _ st h => wpAny_pyIter_striter_ascii st h
noncomputable def signsD (z : Str) : List Dt := z.cps.toList.map fun c => .str ⟨#[c]⟩
noncomputable def istr (te : TD) : TID := fun ρ st P => te ρ st fun x st1 => match x with
  | .str z => (z.cps.all fun c => decide (c < 128)) = true ∧ P (signsD z) (fun _ => True) st1
  | _ => False
section
variable {X : Cx} {tg iter : Expr}
theorem di_str {te : TD} (he : DE X iter te) : DI X tg iter (istr te) := by
  intro pins s σ H R I h
  obtain ⟨φ, st, ρ, P, pre, ht, hq⟩ := h
  refine thn (he pins s σ H _ I ⟨φ, st, ρ, _, pre, ht, fun x st1 h1 φ1 H1 v b1 dx => (show ∃ φ1 st1 x, Bhd X.K φ st H φ1 st1 H1 ∧ D X.K φ1 st1.length H1 x v ∧ (match x with
    | .str z => (z.cps.all fun c => decide (c < 128)) = true ∧ P (signsD z) (fun _ => True) st1
    | _ => False) from ⟨φ1, st1, x, b1, dx, h1⟩)⟩) fun u s1 ⟨v, H1, I1, ru, φ1, st1, x, b1, dx, h1⟩ => ?_
  cases x with
  | str z =>
    obtain ⟨ha, hp⟩ := h1
    have ev := dx.str
    subst ev
    obtain ⟨t, rfl⟩ := ru
    refine wpAny_pyIter_ascii ha ?_
    refine ⟨s1.heap.objs.size, [s1.heap.objs.size], _, _, H1, rfl, I1.kept (t' := s1.toks) fun b o e => Heap.get?_push_of_some _ e, turn_str z t _, ⟨_, Heap.get?_push_size _ rfl, rfl, rfl⟩, fun b hb => ?_, hq _ _ st1 hp φ1 H1 _ b1 ?_⟩
    · have e : b = s1.heap.objs.size := by simpa using hb
      subst e
      exact I1.fpOk (Nat.le_refl _) (I1.hok.fresh (Nat.le_refl _))
    · intro i φ' st' H' bh hok hi
      have hl : (signsD z).length = z.cps.size := by simp [signsD]
      rw [hl] at hi
      refine ⟨fun e => by rw [hl] at e; exact Nat.le_of_eq e.symm, fun d ed => ?_⟩
      have e0 : i < (signsD z).length := (List.getElem?_eq_some_iff.mp ed).1
      rw [hl] at e0
      have ed' : d = .str ⟨#[z.cps[i]]⟩ := by
        have q : (signsD z)[i]? = some (.str ⟨#[z.cps[i]]⟩) := by simp [signsD, e0]
        rw [q] at ed; exact (Option.some.inj ed).symm
      subst ed'
      refine ⟨e0, fun y H2 hy => ?_⟩
      obtain ⟨rfl, c, hc, rfl⟩ := hy
      have : z.cps[i]? = some z.cps[i] := by simp [e0]
      rw [this] at hc
      cases hc
      exact ⟨.refl bh.1, D.mkStr⟩
  | _ => exact h1.elim
end
theorem strs_are {K : PySem.W.Frag} {φ : Nat → Addr} {N : Nat} {H : Hp} : ∀ {zs : List Str} {ws : List V} {us : List Value}, DL K φ N H (zs.map .str) ws → Vals ws us → ∃ l : List (Str × Tok), us = strValues l ∧ l.map (·.1) = zs
  | [], ws, us, dl, rv => by
    have e : ws = [] := by simpa [DL] using dl
    subst e
    cases rv
    exact ⟨[], rfl, rfl⟩
  | z :: zs, ws, us, dl, rv => by
    obtain ⟨v, r, rfl, h1, h2⟩ := dl
    cases rv with
    | @cons a u as us' h t =>
      have e : v = .str z := h1.str
      subst e
      obtain ⟨tk, e2⟩ := (show ∃ t, u = Value.str z t from h)
      subst e2
      obtain ⟨l, rfl, rfl⟩ := strs_are h2 t
      exact ⟨(z, tk) :: l, rfl, rfl⟩
noncomputable def tjoin (to te : TD) : TD := fun ρ st P => to ρ st fun o st1 => match o with
  | .str z => te ρ st1 fun d st2 => (match d with
    | .lst n => (match st2[n]? with
      | some so => ∃ zs : List Str, so.items = zs.map .str ∧ JoinOk z zs = true ∧ P (.str (Txt.join z zs)) st2
      | none => False)
    | _ => False)
  | _ => False
noncomputable def rJoinV (K : PySem.W.Frag) : V → List V → Hp → VK → Prop := fun x vs H Q => ∃ z a xs zs φ st, x = .str z ∧ vs = [.ref a] ∧ SqL K H a xs ∧ DL K φ st H (zs.map Dt.str) xs ∧ JoinOk z zs = true ∧ Q (.str (Txt.join z zs)) H
section
variable {X : Cx}
theorem mt_join : MtR X "str.join" (rJoinV X.K) := by
  intro pins s σ H x vs v us Q I rx rv h
  obtain ⟨z, a, xs, zs, φ, st, rfl, rfl, hs, dl, hj, q⟩ := h
  obtain ⟨t, rfl⟩ := rx
  obtain ⟨u, rfl, ru⟩ := rv.one
  cases ru
  obtain ⟨its, rvs, pl, hz⟩ := I.list hs
  obtain ⟨l, rfl, el⟩ := strs_are dl rvs
  exact SC.join pl.isList el hj fun t' k => ⟨.str _, H, I.tok _, ⟨_, rfl⟩, q⟩
theorem de_join {o e : Expr} {to te : TD} {apos cpos : Pos} (ho : DE X o to) (he : DE X e te)
    (hbase : attributeBase o "join" X.env (eval o X.env) = eval o X.env := by rfl)
    (hfew : ((backTo cpos (starEach [e] X.env)).all (fun x => !x.1) && (backToKw cpos (keywordEach [] X.env)).all (fun x => x.1.isSome)
      && decide (([e] : List Expr).length + ([] : List Keyword).length + (if ([] : List Keyword).isEmpty then 0 else 1) < 30)) = true := by rfl)
    (hline : (apos.endLine == cpos.line) = true := by rfl) (hs : starEach [e] X.env = (false, eval e X.env) :: starEach [] X.env := by rfl) (hplain : (backTo cpos (starEach ([] : List Expr) X.env)).any (·.1) = false := by rfl) :
    DE X (.Call (.Attribute o "join" apos) [e] [] cpos) (tjoin to te) := by
  refine PE.imp (pe_bm PySem.F.plainAttrs_str PySem.F.slot_str_join PySem.F.type_str_join mt_join ho (da_cons he da_nil hs) hbase hfew hline hs hplain) fun σ H Q h => ?_
  obtain ⟨φ, st, ρ, P, pre, ht, hq⟩ := h
  refine ⟨φ, st, ρ, _, pre, ht, fun x st1 h1 φ1 H1 v b1 dx => ?_⟩
  cases x with
  | str z =>
    have ev := dx.str
    subst ev
    refine ⟨rfl, ?_⟩
    refine ⟨φ1, st1, ρ, (fun ds st2 => match ds with
      | [d] => (match d with
        | .lst n => (match st2[n]? with
          | some so => ∃ zs : List Str, so.items = zs.map .str ∧ JoinOk z zs = true ∧ P (.str (Txt.join z zs)) st2
          | none => False)
        | _ => False)
      | _ => False), pre.on b1, h1, fun ds st2 h2 φ2 H2 zs b2 dz => ?_⟩
    rcases ds with _ | ⟨d, _ | ⟨d2, r⟩⟩
    · exact h2.elim
    rotate_left
    · exact h2.elim
    · cases d with
      | lst n =>
        have h2 : (match st2[n]? with
          | some so => ∃ zs : List Str, so.items = zs.map .str ∧ JoinOk z zs = true ∧ P (.str (Txt.join z zs)) st2
          | none => False) := h2
        split at h2
        · rename_i so eo
          obtain ⟨ys, ey, hj, hp⟩ := h2
          obtain ⟨y, rfl, dy⟩ := dz.one
          obtain ⟨ws, hs1, dws⟩ := b2.1.seq eo dy.isL
          rw [ey] at dws
          exact ⟨z, φ2 n, ws, ys, φ2, _, rfl, by rw [dy.lst.2], hs1, dws, hj, hq _ _ hp φ2 _ _ (b1.trans b2) D.mkStr⟩
        · exact h2.elim
      | _ => exact h2.elim
  | _ => exact h1.elim
noncomputable def tsplit (to te : TD) : TD := fun ρ st P => to ρ st fun o st1 => match o with
  | .str z => te ρ st1 fun d st2 => (match d with
    | .str y => (y.length == 0) = false ∧ z.length ≤ sizeLine ∧ (Txt.split z y).length ≤ sizeLine ∧ (Builtin.Str.partsBetween z (Builtin.Str.occurrences z y 0 z.length (z.length + 1)) y.length).length ≤ sizeLine ∧ P (.lst st2.length) (st2 ++ [.rw ((Txt.split z y).map .str)])
    | _ => False)
  | _ => False
noncomputable def rSplitV : V → List V → Hp → VK → Prop := fun x vs H Q => ∃ z y, x = .str z ∧ vs = [.str y] ∧ (y.length == 0) = false ∧ z.length ≤ sizeLine ∧ (Txt.split z y).length ≤ sizeLine ∧ (Builtin.Str.partsBetween z (Builtin.Str.occurrences z y 0 z.length (z.length + 1)) y.length).length ≤ sizeLine ∧ ∀ p, H p = none → Q (.ref p) (upd H p (.lst ((Txt.split z y).map .str)))
theorem vals_from : ∀ (zs : List Str) (k : Nat), Vals (zs.map .str) (strsFrom k zs)
  | [], _ => .nil
  | z :: zs, k => .cons ⟨_, rfl⟩ (vals_from zs (k + 1))
theorem mt_split : MtR X "str.split" rSplitV := by
  intro pins s σ H x vs v us Q I rx rv h
  obtain ⟨z, y, rfl, rfl, h1, h2, h3, h4, q⟩ := h
  obtain ⟨t, rfl⟩ := rx
  obtain ⟨u, rfl, t2, rfl⟩ := rv.one
  have q0 := q _ I.fresh
  have hty : s.TypeIs (.str z t) "str" := rfl
  cases c1 : (decide (z.length < y.length) || decide (Builtin.Str.strKind z < Builtin.Str.strKind y)) with
  | true =>
    have e : Txt.split z y = [z] := by unfold Txt.split; rw [if_pos c1]
    rw [e] at q0 h3
    exact call_meets PySem.F.slot_str_split hty PySem.F.entry_str_split (PySem.F.args_str_split_2 _ _) (meets_str_split_cannot_occur z y t t2 c1) ⟨.ref _, _, I.lnew (t' := s.toks) (show Vals [V.str z] [Value.str z t] from .cons ⟨t, rfl⟩ .nil) (by simpa using h3), rfl, q0⟩
  | false =>
    cases c2 : (Builtin.Str.occurrences z y 0 z.length (z.length + 1)).isEmpty with
    | true =>
      have e : Txt.split z y = [z] := by unfold Txt.split; rw [if_neg (by rw [c1]; decide), if_pos c2]
      rw [e] at q0 h3
      exact call_meets PySem.F.slot_str_split hty PySem.F.entry_str_split (PySem.F.args_str_split_2 _ _) (meets_str_split_not_found z y t t2 c1 h1 c2) ⟨.ref _, _, I.lnew (t' := s.toks) (show Vals [V.str z] [Value.str z t] from .cons ⟨t, rfl⟩ .nil) (by simpa using h3), rfl, q0⟩
    | false =>
      have e : Txt.split z y = Builtin.Str.partsBetween z (Builtin.Str.occurrences z y 0 z.length (z.length + 1)) y.length := by unfold Txt.split; rw [if_neg (by rw [c1]; decide), if_neg (by rw [c2]; decide)]
      rw [e] at q0 h3
      exact call_meets PySem.F.slot_str_split hty PySem.F.entry_str_split (PySem.F.args_str_split_2 _ _) (meets_str_split_sep z y t t2 c1 h1 c2 h2 h4) ⟨.ref _, _, I.lnew (vals_from _ _) (by rw [List.length_map]; exact h3), rfl, q0⟩
theorem strs_dl {K : PySem.W.Frag} {φ : Nat → Addr} {N : Nat} {H : Hp} : ∀ {zs : List Str}, DL K φ N H (zs.map .str) (zs.map .str)
  | [] => by simp [DL]
  | z :: zs => .cons D.mkStr strs_dl
theorem de_split {o e : Expr} {to te : TD} {apos cpos : Pos} (ho : DE X o to) (he : DE X e te)
    (hbase : attributeBase o "split" X.env (eval o X.env) = eval o X.env := by rfl)
    (hfew : ((backTo cpos (starEach [e] X.env)).all (fun x => !x.1) && (backToKw cpos (keywordEach [] X.env)).all (fun x => x.1.isSome)
      && decide (([e] : List Expr).length + ([] : List Keyword).length + (if ([] : List Keyword).isEmpty then 0 else 1) < 30)) = true := by rfl)
    (hline : (apos.endLine == cpos.line) = true := by rfl) (hs : starEach [e] X.env = (false, eval e X.env) :: starEach [] X.env := by rfl) (hplain : (backTo cpos (starEach ([] : List Expr) X.env)).any (·.1) = false := by rfl) :
    DE X (.Call (.Attribute o "split" apos) [e] [] cpos) (tsplit to te) := by
  refine PE.imp (pe_bm PySem.F.plainAttrs_str PySem.F.slot_str_split PySem.F.type_str_split mt_split ho (da_cons he da_nil hs) hbase hfew hline hs hplain) fun σ H Q h => ?_
  obtain ⟨φ, st, ρ, P, pre, ht, hq⟩ := h
  refine ⟨φ, st, ρ, _, pre, ht, fun x st1 h1 φ1 H1 v b1 dx => ?_⟩
  cases x with
  | str z =>
    have ev := dx.str
    subst ev
    refine ⟨rfl, ?_⟩
    refine ⟨φ1, st1, ρ, (fun ds st2 => match ds with
      | [d] => (match d with
        | .str y => (y.length == 0) = false ∧ z.length ≤ sizeLine ∧ (Txt.split z y).length ≤ sizeLine ∧ (Builtin.Str.partsBetween z (Builtin.Str.occurrences z y 0 z.length (z.length + 1)) y.length).length ≤ sizeLine ∧ P (.lst st2.length) (st2 ++ [.rw ((Txt.split z y).map .str)])
        | _ => False)
      | _ => False), pre.on b1, h1, fun ds st2 h2 φ2 H2 zs b2 dz => ?_⟩
    rcases ds with _ | ⟨d, _ | ⟨d2, r⟩⟩
    · exact h2.elim
    rotate_left
    · exact h2.elim
    · cases d with
      | str y =>
        obtain ⟨g1, g2, g3, g4, hp⟩ := h2
        obtain ⟨y', rfl, dy⟩ := dz.one
        exact ⟨z, y, rfl, by rw [dy.str], g1, g2, g3, g4, fun p hp' => hq _ _ hp _ _ _ (b1.trans (b2.trans (bhd_lst b2.1 hp' strs_dl))) d_new⟩
      | _ => exact h2.elim
  | _ => exact h1.elim
end
end L3
namespace HT
open PySem PySem.Spec PyProof.Rows
section
variable {prog : Program} {w : World} {A : Around} {E : Value → Shared → Prop} {s : Shared}
theorem object_init_kw {T newId : String} {self : Value} {rest : List Value} {kw : List (Str × Value)} (h1 : typeLookup (.type T) (Str.ofString "__init__") = pure (some (.builtin "object.__init__"))) (h2 : Bind.madeBy (.type T) = pure (some newId)) (h3 : (some newId != some "object.__new__") = true)
    {Q : Fin → Shared → Prop} (hT : s.TypeIs self T) (hQ : Q (.done (.ret .none)) s) : wpAny (model prog w) A (Builtin.«object.__init__» { pos := self :: rest, kw := kw }) Q E s := by
  unfold Builtin.«object.__init__»
  simp only []
  split
  · refine wpAny_bind (wpAny_typeOf hT ?_)
    refine wpAny_bind (wpAny_of_eq h1 ?_)
    refine wpAny_bind (wpAny_of_eq h2 ?_)
    rw [if_neg (by simp)]
    rw [if_neg (by rw [h3]; simp)]
    exact wpAny_pure hQ
  · exact wpAny_pure hQ
theorem callType_kw {T newId : String} {Bn : Builtin} {args : List Value} {kw : List (Str × Value)} {S : PySem.Spec} {Q : Value → Shared → Prop} (F : TypeCalled T newId "object.__init__") (hne : (some newId != some "object.__new__") = true)
    (h1 : checkTypeCall T { pos := args, kw := kw } = pure ()) (h2 : checkBuiltinCall newId { pos := .type T :: args, kw := kw } = pure ()) (h3 : ∀ obj, argsOk "object.__init__" { pos := obj :: args, kw := kw })
    (he : entryFor table newId = some Bn) (hm : Meets (Bn { pos := .type T :: args, kw := kw }) S) (h : S A.in1 (wants (fun obj s₁ => s₁.TypeIs obj T ∧ Q obj s₁) E) s) : wpAny (model prog w) A (call (.type T) args kw) Q E s := by
  refine wpAny_call (codeAny_of_tree ?_)
  show wpAny _ _ (callAny (.type T) { pos := args, kw := kw }) _ _ s
  refine wpAny_pure ⟨Code.quiet_builtin _ (by decide +kernel), ?_⟩
  refine codeAny_builtin PySem.F.entry_type_call ?_
  rw [Around.under_plain (weight_type_call_type T args kw) rfl]
  unfold Builtin.«type.__call__»
  simp only []
  rw [if_neg (by rw [F.notType]; exact Bool.false_ne_true)]
  rw [if_neg (by rw [F.canCreate]; exact Bool.false_ne_true)]
  refine wpAny_bind (wpAny_of_eq h1 ?_)
  obtain ⟨c, tl, hmro⟩ := F.mro
  refine wpAny_bind (wpAny_of_eq hmro ?_)
  rw [if_neg (by simp)]
  refine wpAny_bind (wpAny_of_eq F.made ?_)
  refine wpAny_bind (wpAny_pure ?_)
  refine wpAny_bind (wpAny_holding (wpAny_call (codeAny_mono (codeAny_call_builtin F.plain he (wpAny_of_eq h2 (hm prog w A.in1 _ s h))) fun r s1 hq => ?_)))
  cases r with
  | error e => exact hq
  | ok f =>
    cases f with
    | ret v =>
      obtain ⟨hT, hq⟩ := hq
      show wpAny _ _ _ _ _ s1
      refine wpAny_bind (wpAny_isInstance hT F.sub ?_)
      rw [if_neg (by simp)]
      refine wpAny_bind (wpAny_holding ?_)
      unfold callSpecial?
      refine wpAny_bind (wpAny_specialOf hT F.init.lookup ?_)
      simp only []
      refine wpAny_holding (wpAny_bind (wpAny_of_eq (F.init.bind v) ?_))
      refine wpAny_bind (wpAny_call (codeAny_call_builtin F.init.plain PySem.F.entry_object_init (F.init.check _ _ _ _ _ _ _ _ hT (h3 v) ?_)))
      refine object_init_kw F.init.lookup F.made hne hT ?_
      refine wpAny_pure ?_
      show wpAny _ _ (if (Value.none != Value.none) = true then _ else _) _ _ _
      rw [if_neg (by simp)]
      exact wpAny_pure hq
    | next => exact False.elim hq
    | brk => exact False.elim hq
    | cont => exact False.elim hq
noncomputable def sgEnum : Manifest.Signature := ⟨.hand, "enumerate.__new__", "__new__", .cls, []⟩
theorem sg_enum : Manifest.signature? "enumerate.__new__" = some sgEnum := rfl
theorem ck_enum1 (a : Value) (x : Str) (v : Value) : Bind.checkArgs "enumerate.__new__" sgEnum { pos := [.type "enumerate", a], kw := [(x, v)] } = pure () := by rfl
theorem ck_enum0 (a : Value) : Bind.checkArgs "enumerate.__new__" sgEnum { pos := [.type "enumerate", a], kw := [] } = pure () := by rfl
theorem new_enum1 (a : Value) (x : Str) (v : Value) : checkBuiltinCall "enumerate.__new__" { pos := [.type "enumerate", a], kw := [(x, v)] } = pure () := by
  have h := PySem.F.newCall_enumerate_1 a
  unfold checkBuiltinCall at h ⊢
  rw [sg_enum] at h ⊢
  simp only [ck_enum0 a] at h
  simp only [ck_enum1 a x v]
  exact h
end
theorem meets_enumT1 (l : Addr) (items : Array Value) (n : Nat) (dct : Option Addr) (sl : Array (Option Value)) (t : Tok) :
    Meets (Builtin.«enumerate.__new__» ⟨[.type "enumerate", .ref l], [(Str.ofString "start", .int 1 t)]⟩) (fun _ R s => s.heap.get? l = some { cls := .type "tuple", dict := dct, data := .seq items n, slots := sl } ∧
      R (.ok (.ret (.ref (s.heap.push { cls := .type "tuple_iterator", data := .fields #[.ref l, .int 0 0] }).objs.size)))
        { s with heap := (s.heap.push { cls := .type "tuple_iterator", data := .fields #[.ref l, .int 0 0] }).push { cls := .type "enumerate", data := .fields #[.none, .bool false, .ref s.heap.objs.size, rawInt 1, .none, .none] } }) :=
  .of_wp fun prog w A R s h => by
    obtain ⟨hp, g, d, tk, os⟩ := s; obtain ⟨hl, h⟩ := h
    have hsub := sub_enumerate
    have hT : IsTup (Shared.heap ⟨hp, g, d, tk, os⟩) l items := ⟨_, hl, rfl, n, rfl⟩
    wp_walk using AutoSeq1.wpAny_loadPart' hl
    refine wpAny_stack_any fun st => wpAny_pure ?_
    split
    · rename_i c _ _ _ _ _
      cases (c == Value.type "enumerate")
      · wp_walk using AutoSeq1.wpAny_loadPart' hl, iter_tuple hT
        exact ⟨_, rfl, h⟩
      · wp_walk using AutoSeq1.wpAny_loadPart' hl, iter_tuple hT
        exact ⟨_, rfl, h⟩
    · wp_walk using AutoSeq1.wpAny_loadPart' hl, iter_tuple hT
      exact ⟨_, rfl, h⟩
section
variable {prog : Program} {w : World} {A : Around} {E : Value → Shared → Prop} {s : Shared}
theorem call_enumT1 {l : Addr} {items : Array Value} {t : Tok} {Q : Value → Shared → Prop} (hT : IsTup s.heap l items)
    (h : ∀ h', IsEnum h' (s.heap.objs.size + 1) s.heap.objs.size 1 .none → IsTupIter h' s.heap.objs.size l 0 → h'.objs.size = s.heap.objs.size + 2 → (∀ b o, s.heap.get? b = some o → h'.get? b = some o) → Q (.ref (s.heap.objs.size + 1)) { s with heap := h' }) :
    wpAny (model prog w) A (call (.type "enumerate") [.ref l] [(Str.ofString "start", .int 1 t)]) Q E s := by
  obtain ⟨⟨c, dct, dt, sl⟩, hl, hc, n, hd⟩ := hT
  replace hc : c = .type "tuple" := hc
  replace hd : dt = .seq items n := hd
  subst hc hd
  refine callType_kw F.called_enumerate (by decide) (by rfl) (new_enum1 _ _ _) (fun obj => by rfl) F.entry_enumerate_new (meets_enumT1 l items n dct sl t) ⟨hl, ?_⟩
  have hz : (s.heap.push { cls := .type "tuple_iterator", data := .fields #[.ref l, .int 0 0] }).objs.size = s.heap.objs.size + 1 := Heap.size_push ..
  show _ ∧ _
  rw [hz]
  have he : IsEnum ((s.heap.push { cls := .type "tuple_iterator", data := .fields #[.ref l, .int 0 0] }).push { cls := .type "enumerate", data := .fields #[.none, .bool false, .ref s.heap.objs.size, rawInt 1, .none, .none] }) (s.heap.objs.size + 1) s.heap.objs.size 1 .none := by
    have q := Heap.get?_push_size (s.heap.push { cls := .type "tuple_iterator", data := .fields #[.ref l, .int 0 0] }) (o := { cls := .type "enumerate", data := .fields #[.none, .bool false, .ref s.heap.objs.size, rawInt 1, .none, .none] }) rfl
    rw [hz] at q; exact q
  exact ⟨⟨_, he, rfl⟩, h _ he ⟨_, Heap.get?_push_of_some _ (Heap.get?_push_size _ rfl), rfl, rfl⟩ (by rw [Heap.size_push, hz]) fun b o x => Heap.get?_push_of_some _ (Heap.get?_push_of_some _ x)⟩
end
theorem meets_enumL1 (l : Addr) (items : Array Value) (n : Nat) (dct : Option Addr) (sl : Array (Option Value)) (t : Tok) :
    Meets (Builtin.«enumerate.__new__» ⟨[.type "enumerate", .ref l], [(Str.ofString "start", .int 1 t)]⟩) (fun _ R s => s.heap.get? l = some { cls := .type "list", dict := dct, data := .seq items n, slots := sl } ∧
      R (.ok (.ret (.ref (s.heap.push { cls := .type "list_iterator", data := .fields #[.ref l, .int 0 0] }).objs.size)))
        { s with heap := (s.heap.push { cls := .type "list_iterator", data := .fields #[.ref l, .int 0 0] }).push { cls := .type "enumerate", data := .fields #[.none, .bool false, .ref s.heap.objs.size, rawInt 1, .none, .none] } }) :=
  .of_wp fun prog w A R s h => by
    obtain ⟨hp, g, d, tk, os⟩ := s; obtain ⟨hl, h⟩ := h
    have hsub := sub_enumerate
    have hT : Heap.IsList (Shared.heap ⟨hp, g, d, tk, os⟩) l items := ⟨_, hl, rfl, n, rfl⟩
    wp_walk using AutoSeq1.wpAny_loadPart' hl
    refine wpAny_stack_any fun st => wpAny_pure ?_
    split
    · rename_i c _ _ _ _ _
      cases (c == Value.type "enumerate")
      · wp_walk using AutoSeq1.wpAny_loadPart' hl, wpAny_pyIter_list hT
        exact ⟨_, rfl, h⟩
      · wp_walk using AutoSeq1.wpAny_loadPart' hl, wpAny_pyIter_list hT
        exact ⟨_, rfl, h⟩
    · wp_walk using AutoSeq1.wpAny_loadPart' hl, wpAny_pyIter_list hT
      exact ⟨_, rfl, h⟩
section
variable {prog : Program} {w : World} {A : Around} {E : Value → Shared → Prop} {s : Shared}
theorem call_enumL1 {l : Addr} {items : Array Value} {t : Tok} {Q : Value → Shared → Prop} (hT : Heap.IsList s.heap l items)
    (h : ∀ h', IsEnum h' (s.heap.objs.size + 1) s.heap.objs.size 1 .none → Heap.IsListIter h' s.heap.objs.size l 0 → h'.objs.size = s.heap.objs.size + 2 → (∀ b o, s.heap.get? b = some o → h'.get? b = some o) → Q (.ref (s.heap.objs.size + 1)) { s with heap := h' }) :
    wpAny (model prog w) A (call (.type "enumerate") [.ref l] [(Str.ofString "start", .int 1 t)]) Q E s := by
  obtain ⟨⟨c, dct, dt, sl⟩, hl, hc, n, hd⟩ := hT
  replace hc : c = .type "list" := hc
  replace hd : dt = .seq items n := hd
  subst hc hd
  refine callType_kw F.called_enumerate (by decide) (by rfl) (new_enum1 _ _ _) (fun obj => by rfl) F.entry_enumerate_new (meets_enumL1 l items n dct sl t) ⟨hl, ?_⟩
  have hz : (s.heap.push { cls := .type "list_iterator", data := .fields #[.ref l, .int 0 0] }).objs.size = s.heap.objs.size + 1 := Heap.size_push ..
  show _ ∧ _
  rw [hz]
  have he : IsEnum ((s.heap.push { cls := .type "list_iterator", data := .fields #[.ref l, .int 0 0] }).push { cls := .type "enumerate", data := .fields #[.none, .bool false, .ref s.heap.objs.size, rawInt 1, .none, .none] }) (s.heap.objs.size + 1) s.heap.objs.size 1 .none := by
    have q := Heap.get?_push_size (s.heap.push { cls := .type "list_iterator", data := .fields #[.ref l, .int 0 0] }) (o := { cls := .type "enumerate", data := .fields #[.none, .bool false, .ref s.heap.objs.size, rawInt 1, .none, .none] }) rfl
    rw [hz] at q; exact q
  exact ⟨⟨_, he, rfl⟩, h _ he ⟨_, Heap.get?_push_of_some _ (Heap.get?_push_size _ rfl), rfl, rfl⟩ (by rw [Heap.size_push, hz]) fun b o x => Heap.get?_push_of_some _ (Heap.get?_push_of_some _ x)⟩
end
end HT
namespace L3
open PySem PySem.Spec PyProof.Rows L2
theorem draws_shift {prog : Program} {w : World} {A : Around} {it : Addr} {fp : List Addr} {n : Nat} {P : Nat → Value → Prop} {St : Nat → Heap → Prop} (h : Draws prog w A it fp n P St) :
    Draws prog w A it fp (n + 1) (fun i v => ∃ j, i = j + 1 ∧ P j v) (fun i hp => ∃ j, i = j + 1 ∧ St j hp) where
  live := fun i hp ⟨j, _, st⟩ => h.live j hp st
  frame := fun i hp hp' ⟨j, e, st⟩ hk => ⟨j, e, h.frame j hp hp' st hk⟩
  item := fun i s Q E hi ⟨j, e, st⟩ hQ => h.item j s Q E (by omega) st fun x h' tk hp st' sb => hQ x h' tk ⟨j, e, hp⟩ ⟨j + 1, by omega, st'⟩ sb
  done := fun s Q E ⟨j, e, st⟩ hE => h.done s Q E (by have : n = j := by omega
                                                      subst this; exact st) hE
theorem enumT_endG {prog : Program} {w : World} {A : Around} {E : Value → Shared → Prop} {s : Shared} {e it t : Addr} {i : Nat} {old : Value} {items : Array Value} {Q : Option Value → Shared → Prop} (hh : A.handled = none) {z : Int} (he : IsEnum s.heap e it z old) (hit : IsTupIter s.heap it t i) (ht : IsTup s.heap t items) (hne : t ≠ it) (hn : items.size ≤ i)
    (hQ : ∀ h', Heap.ExtBut it s.heap h' → Q none { s with heap := h' }) : wpAny (model prog w) A (pyNext (.ref e)) Q E s := by
  have hT : s.TypeIs (.ref e) "enumerate" := ⟨_, he, rfl⟩
  unfold pyNext
  refine wpAny_bind (wpAny_attempt (wpAny_callSpecial?_slot (name := Str.ofString "__next__") hT F.slot_enumerate_next (wpAny_call_entry F.slot_enumerate_next hT F.entry_enumerate_next ?_ (F.args_enumerate_next_1 _))))
  show wpAny _ _ (field (.ref e) 2 >>= _) _ _ _
  refine wpAny_bind (wpAny_field he rfl (x := .ref it) rfl (wpAny_bind (HT.nextOf_tup_end (A := A.in1) hh hit ht (by simp; omega) fun h' x he' hx' => ?_)))
  obtain ⟨o, ho, hc⟩ := hx'
  exact wpAny_bind (wpAny_isInstance (T := "StopIteration") (b := true) ⟨o, ho, hc⟩ isSubtype_stop (wpAny_pure (hQ _ he')))
theorem enumL_endG {prog : Program} {w : World} {A : Around} {E : Value → Shared → Prop} {s : Shared} {e it t : Addr} {i : Nat} {old : Value} {items : Array Value} {Q : Option Value → Shared → Prop} (hh : A.handled = none) {z : Int} (he : IsEnum s.heap e it z old) (hit : s.heap.IsListIter it t i) (ht : s.heap.IsList t items) (hne : t ≠ it) (hn : items.size ≤ i)
    (hQ : ∀ h', Heap.ExtBut it s.heap h' → Q none { s with heap := h' }) : wpAny (model prog w) A (pyNext (.ref e)) Q E s := by
  have hT : s.TypeIs (.ref e) "enumerate" := ⟨_, he, rfl⟩
  unfold pyNext
  refine wpAny_bind (wpAny_attempt (wpAny_callSpecial?_slot (name := Str.ofString "__next__") hT F.slot_enumerate_next (wpAny_call_entry F.slot_enumerate_next hT F.entry_enumerate_next ?_ (F.args_enumerate_next_1 _))))
  show wpAny _ _ (field (.ref e) 2 >>= _) _ _ _
  refine wpAny_bind (wpAny_field he rfl (x := .ref it) rfl (wpAny_bind (wpAny_nextOf_list_end (A := A.in1) hh hit ht (by simp; omega) fun h' x he' hx' => ?_)))
  obtain ⟨o, ho, hc⟩ := hx'
  exact wpAny_bind (wpAny_isInstance (T := "StopIteration") (b := true) ⟨o, ho, hc⟩ isSubtype_stop (wpAny_pure (hQ _ he')))
noncomputable def IteT1 (K : PySem.W.Frag) (a : Addr) : It :=
  ⟨fun i H => ∃ xs x, SqT K H a xs ∧ xs[i]? = some x, fun i H x H' => ∃ p v, H p = none ∧ H' = upd H p (.tup [.int ((i + 1 : Nat) : Int), v]) ∧ x = .ref p ∧ ∀ xs, SqT K H a xs → xs[i]? = some v, fun i H => ∃ xs, SqT K H a xs ∧ xs.length ≤ i⟩
theorem turn_enumT1 {P : Program} {w : World} {K : PySem.W.Frag} {elts : List Expr} {x1} {pos : Pos} (a e it : Addr) (hei : e ≠ it) :
    Turn P w K (.Tuple elts x1 pos) (IteT1 K a) [e, it] e (fun i h => (∃ old, IsEnum h e it ((i + 1 : Nat) : Int) old) ∧ IsTupIter h it a i) where
  mem := by simp
  obj := fun i h st b hb => by
    obtain ⟨⟨old, he⟩, o, ho, hc, hd⟩ := st
    rcases List.mem_cons.mp hb with rfl | hb
    · exact ⟨_, he, fun v z => by
        have z' : Data.fields _ = Data.cell v := z
        cases z'⟩
    · have : b = it := by simpa using hb
      subst this
      exact ⟨o, ho, fun v z => by rw [hd] at z; cases z⟩
  keep := fun i h h' st k => by
    obtain ⟨⟨old, he⟩, hit⟩ := st
    exact ⟨⟨old, k e (by simp) _ he⟩, tupIter_at hit fun o x => k it (by simp) o x⟩
  item := by
    intro X hP hw hK hc i pins s σ H E I hf st hg
    subst hP hw hK
    obtain ⟨⟨old, he⟩, hit⟩ := st
    obtain ⟨xs, x, hq, hx⟩ := hg
    obtain ⟨its, rv, p, hz⟩ := I.tuple hq
    obtain ⟨u, hu, ru⟩ := rv.get hx
    obtain ⟨e0, e1, e2, e3, e4, e5⟩ := hf e (by simp)
    obtain ⟨i0, i1, i2, i3, i4, i5⟩ := hf it (by simp)
    have hit0 := hit
    have hai : a ≠ it := fun z => by
      obtain ⟨o1, q1, q2, q3⟩ := hit
      obtain ⟨o2, q4, q5, q6⟩ := p
      rw [z, q1] at q4; cases q4; rw [q2] at q5; injection q5 with q7; exact absurd q7 (by decide)
    have hea : e ≠ a := fun z => by
      obtain ⟨o2, q4, q5, q6⟩ := p
      rw [← z, he] at q4; cases q4; injection q5 with q7; exact absurd q7 (by decide)
    refine wpAny_pyNext_enum_itemD (i := i + 1) (draws_shift (HT.draws_tup (A := X.A.in1) (I.ok.hd hc) it a hai its.toArray)) he ⟨i, rfl, hit, p⟩ (by have := (Array.getElem?_eq_some_iff.mp (show its.toArray[i]? = some u by simpa using hu)); exact Nat.succ_lt_succ this.1) hei (by simp; exact ⟨hei, hea⟩) fun x0 h' tk hx0 ho hst' hT hsz hk => ?_
    have hxu : x0 = u := by
      have q : its.toArray[i]? = some u := by simpa using hu
      obtain ⟨j0, ej0, hx0⟩ := hx0
      have ej0 : i = j0 := by omega
      subst ej0
      have hx0 : its.toArray[i]? = some x0 := hx0
      rw [q] at hx0; exact (Option.some.inj hx0).symm
    subst hxu
    obtain ⟨j1, ej1, hit', hp'⟩ := hst'
    have ej1 : j1 = i + 1 := by omega
    subst ej1
    refine ⟨_, rfl, wpAny_letOwnedTupleGo_enum (s := { s with heap := h', toks := tk + 1 }) ho fun h2 he2 hs2 => ?_⟩
    have hT2 : h2.get? s.heap.objs.size = some { cls := .type "tuple", data := .seq #[.int ((i + 1 : Nat) : Int) tk, x0] } := (hs2.2 _ (Ne.symm (ne_lt (Heap.lt_size he) (Nat.le_refl _)))).trans hT
    have hk2 : ∀ b o, b ≠ e → b ≠ it → s.heap.get? b = some o → h2.get? b = some o := fun b o hb hb2 q => (hs2.2 b hb).trans (hk b o hb hb2 q)
    have hp : H s.heap.objs.size = none := I.hok.fresh (Nat.le_refl _)
    have nt : ∀ b v, H b = some v → b ≠ e ∧ b ≠ it := fun b v q => ⟨fun z => (by rw [z, e0] at q; cases q), fun z => (by rw [z, i0] at q; cases q)⟩
    refine ⟨.ref s.heap.objs.size, upd H s.heap.objs.size (.tup [.int ((i + 1 : Nat) : Int), x]), ?_, rfl, ⟨_, x, hp, rfl, rfl, fun ys hy => by rw [I.tuple_inj hy hq]; exact hx⟩, ⟨⟨x0, by simpa using he2⟩, tupIter_at hit' fun o y => (hs2.2 it hei.symm).trans y⟩, fun b hb => ?_⟩
    · show Inv X pins σ _ { s with heap := h2, gens := s.gens, drawn := s.drawn, toks := tk + 1 }
      refine Inv.step (s := s) (h' := h2) (g' := s.gens) (d' := s.drawn) (t' := tk + 1) (ch := [e, it]) I (fun b hb => ?_) (fun b o _ _ hc q _ => hk2 b o (fun z => hc (by simp [z])) (fun z => hc (by simp [z])) q) (fun b o _ _ hc q _ => ⟨o.slots, hk2 b o (fun z => hc (by simp [z])) (fun z => hc (by simp [z])) q⟩)
        (fun b o _ q n => by rw [upd_ne (ne_lt (Heap.lt_size q) (Nat.le_refl _))]; exact n) (fun b o hc q => ⟨o, hk2 b o (fun z => hc (by simp [z])) (fun z => hc (by simp [z])) q⟩)
        (fun b ys q => by rw [upd_ne (ne_of_none q hp)]; exact q) (fun b o v q => by rw [upd_ne (ne_of_none q hp)]; exact q) (fun b ps q => ⟨#[], by rw [upd_ne (ne_of_none q hp), q]; simp⟩) (fun m hm => ?_) (fun b v q => ?_) I.bare
      · rcases List.mem_cons.mp hb with rfl | hb
        · exact ⟨e3, e1, e4, e5⟩
        · have : b = it := by simpa using hb
          subst this
          exact ⟨i3, i1, i4, i5⟩
      · obtain ⟨o, es, ep, ho, r⟩ := hm
        exact ⟨o, es, ep, hk2 _ o (Ne.symm e1) (Ne.symm i1) ho, r⟩
      · by_cases hb : b = s.heap.objs.size
        · subst hb
          rw [upd_same] at q
          cases q
          refine ⟨by show 2 ≤ sizeLine; decide, [.int ((i + 1 : Nat) : Int) tk, x0], .cons ⟨_, rfl⟩ (.cons ru .nil), ⟨_, hT2, rfl, 0, rfl⟩⟩
        · rw [upd_ne hb] at q
          refine (I.hok b v q).stay (fun c o hc y => ?_) (fun c y => by rw [upd_ne (ne_of_none y hp)]; exact y) fun c ys y => by rw [upd_ne (ne_of_none y hp)]; exact y
          rcases hc with rfl | hc
          · exact hk2 c o (nt c v q).1 (nt c v q).2 y
          · exact hk2 c o (nt c _ hc).1 (nt c _ hc).2 y
    · have hlt : b < s.heap.objs.size := by
        rcases List.mem_cons.mp hb with rfl | hb
        · exact Heap.lt_size he
        · have : b = it := by simpa using hb
          subst this
          obtain ⟨o, ho, _⟩ := hit
          exact Heap.lt_size ho
      rw [upd_ne (ne_lt hlt (Nat.le_refl _))]
      exact (hf b hb).1
  done := by
    intro X hP hw hK hc i pins s σ H E I hf st hg
    subst hP hw hK
    obtain ⟨⟨old, he⟩, hit⟩ := st
    obtain ⟨xs, hq, hx⟩ := hg
    obtain ⟨its, rv, p, hz⟩ := I.tuple hq
    obtain ⟨i0, i1, i2, i3, i4, i5⟩ := hf it (by simp)
    have hl := rv.length
    have hai : a ≠ it := fun z => by
      obtain ⟨o1, q1, q2, q3⟩ := hit
      obtain ⟨o2, q4, q5, q6⟩ := p
      rw [z, q1] at q4; cases q4; rw [q2] at q5; injection q5 with q7; exact absurd q7 (by decide)
    exact enumT_endG (I.ok.hd hc) he hit p hai (by simp; omega) fun h' eb => ⟨rfl, I.turned (t' := s.toks) (fun b o hb e => eb b o hb e) i0 i1 i3 i4 i5⟩
  self := fun _ _ _ _ _ st h => by
    obtain ⟨⟨old, he⟩, _⟩ := st
    exact wpAny_pyIter_enum he h
noncomputable def IteL1 (K : PySem.W.Frag) (a : Addr) : It :=
  ⟨fun i H => ∃ xs x, SqL K H a xs ∧ xs[i]? = some x, fun i H x H' => ∃ p v, H p = none ∧ H' = upd H p (.tup [.int ((i + 1 : Nat) : Int), v]) ∧ x = .ref p ∧ ∀ xs, SqL K H a xs → xs[i]? = some v, fun i H => ∃ xs, SqL K H a xs ∧ xs.length ≤ i⟩
theorem turn_enumL1 {P : Program} {w : World} {K : PySem.W.Frag} {elts : List Expr} {x1} {pos : Pos} (a e it : Addr) (hei : e ≠ it) :
    Turn P w K (.Tuple elts x1 pos) (IteL1 K a) [e, it] e (fun i h => (∃ old, IsEnum h e it ((i + 1 : Nat) : Int) old) ∧ h.IsListIter it a i) where
  mem := by simp
  obj := fun i h st b hb => by
    obtain ⟨⟨old, he⟩, o, ho, hc, hd⟩ := st
    rcases List.mem_cons.mp hb with rfl | hb
    · exact ⟨_, he, fun v z => by
        have z' : Data.fields _ = Data.cell v := z
        cases z'⟩
    · have : b = it := by simpa using hb
      subst this
      exact ⟨o, ho, fun v z => by rw [hd] at z; cases z⟩
  keep := fun i h h' st k => by
    obtain ⟨⟨old, he⟩, hit⟩ := st
    exact ⟨⟨old, k e (by simp) _ he⟩, hit.at fun o x => k it (by simp) o x⟩
  item := by
    intro X hP hw hK hc i pins s σ H E I hf st hg
    subst hP hw hK
    obtain ⟨⟨old, he⟩, hit⟩ := st
    obtain ⟨xs, x, hq, hx⟩ := hg
    obtain ⟨its, rv, p, hz⟩ := I.list hq
    obtain ⟨u, hu, ru⟩ := rv.get hx
    obtain ⟨e0, e1, e2, e3, e4, e5⟩ := hf e (by simp)
    obtain ⟨i0, i1, i2, i3, i4, i5⟩ := hf it (by simp)
    have hit0 := hit
    have hai : a ≠ it := fun z => by
      obtain ⟨o1, q1, q2, q3⟩ := hit
      obtain ⟨o2, q4, q5, q6⟩ := p.isList
      rw [z, q1] at q4; cases q4; rw [q2] at q5; injection q5 with q7; exact absurd q7 (by decide)
    have hea : e ≠ a := fun z => by
      obtain ⟨o2, q4, q5, q6⟩ := p.isList
      rw [← z, he] at q4; cases q4; injection q5 with q7; exact absurd q7 (by decide)
    refine wpAny_pyNext_enum_itemD (i := i + 1) (draws_shift (Draws.list (A := X.A.in1) (I.ok.hd hc) it a hai its.toArray)) he ⟨i, rfl, hit, p.isList⟩ (by have := (Array.getElem?_eq_some_iff.mp (show its.toArray[i]? = some u by simpa using hu)); exact Nat.succ_lt_succ this.1) hei (by simp; exact ⟨hei, hea⟩) fun x0 h' tk hx0 ho hst' hT hsz hk => ?_
    have hxu : x0 = u := by
      have q : its.toArray[i]? = some u := by simpa using hu
      obtain ⟨j0, ej0, hx0⟩ := hx0
      have ej0 : i = j0 := by omega
      subst ej0
      have hx0 : its.toArray[i]? = some x0 := hx0
      rw [q] at hx0; exact (Option.some.inj hx0).symm
    subst hxu
    obtain ⟨j1, ej1, hit', hp'⟩ := hst'
    have ej1 : j1 = i + 1 := by omega
    subst ej1
    refine ⟨_, rfl, wpAny_letOwnedTupleGo_enum (s := { s with heap := h', toks := tk + 1 }) ho fun h2 he2 hs2 => ?_⟩
    have hT2 : h2.get? s.heap.objs.size = some { cls := .type "tuple", data := .seq #[.int ((i + 1 : Nat) : Int) tk, x0] } := (hs2.2 _ (Ne.symm (ne_lt (Heap.lt_size he) (Nat.le_refl _)))).trans hT
    have hk2 : ∀ b o, b ≠ e → b ≠ it → s.heap.get? b = some o → h2.get? b = some o := fun b o hb hb2 q => (hs2.2 b hb).trans (hk b o hb hb2 q)
    have hp : H s.heap.objs.size = none := I.hok.fresh (Nat.le_refl _)
    have nt : ∀ b v, H b = some v → b ≠ e ∧ b ≠ it := fun b v q => ⟨fun z => (by rw [z, e0] at q; cases q), fun z => (by rw [z, i0] at q; cases q)⟩
    refine ⟨.ref s.heap.objs.size, upd H s.heap.objs.size (.tup [.int ((i + 1 : Nat) : Int), x]), ?_, rfl, ⟨_, x, hp, rfl, rfl, fun ys hy => by rw [I.list_inj hy hq]; exact hx⟩, ⟨⟨x0, by simpa using he2⟩, hit'.at fun o y => (hs2.2 it hei.symm).trans y⟩, fun b hb => ?_⟩
    · show Inv X pins σ _ { s with heap := h2, gens := s.gens, drawn := s.drawn, toks := tk + 1 }
      refine Inv.step (s := s) (h' := h2) (g' := s.gens) (d' := s.drawn) (t' := tk + 1) (ch := [e, it]) I (fun b hb => ?_) (fun b o _ _ hc q _ => hk2 b o (fun z => hc (by simp [z])) (fun z => hc (by simp [z])) q) (fun b o _ _ hc q _ => ⟨o.slots, hk2 b o (fun z => hc (by simp [z])) (fun z => hc (by simp [z])) q⟩)
        (fun b o _ q n => by rw [upd_ne (ne_lt (Heap.lt_size q) (Nat.le_refl _))]; exact n) (fun b o hc q => ⟨o, hk2 b o (fun z => hc (by simp [z])) (fun z => hc (by simp [z])) q⟩)
        (fun b ys q => by rw [upd_ne (ne_of_none q hp)]; exact q) (fun b o v q => by rw [upd_ne (ne_of_none q hp)]; exact q) (fun b ps q => ⟨#[], by rw [upd_ne (ne_of_none q hp), q]; simp⟩) (fun m hm => ?_) (fun b v q => ?_) I.bare
      · rcases List.mem_cons.mp hb with rfl | hb
        · exact ⟨e3, e1, e4, e5⟩
        · have : b = it := by simpa using hb
          subst this
          exact ⟨i3, i1, i4, i5⟩
      · obtain ⟨o, es, ep, ho, r⟩ := hm
        exact ⟨o, es, ep, hk2 _ o (Ne.symm e1) (Ne.symm i1) ho, r⟩
      · by_cases hb : b = s.heap.objs.size
        · subst hb
          rw [upd_same] at q
          cases q
          refine ⟨by show 2 ≤ sizeLine; decide, [.int ((i + 1 : Nat) : Int) tk, x0], .cons ⟨_, rfl⟩ (.cons ru .nil), ⟨_, hT2, rfl, 0, rfl⟩⟩
        · rw [upd_ne hb] at q
          refine (I.hok b v q).stay (fun c o hc y => ?_) (fun c y => by rw [upd_ne (ne_of_none y hp)]; exact y) fun c ys y => by rw [upd_ne (ne_of_none y hp)]; exact y
          rcases hc with rfl | hc
          · exact hk2 c o (nt c v q).1 (nt c v q).2 y
          · exact hk2 c o (nt c _ hc).1 (nt c _ hc).2 y
    · have hlt : b < s.heap.objs.size := by
        rcases List.mem_cons.mp hb with rfl | hb
        · exact Heap.lt_size he
        · have : b = it := by simpa using hb
          subst this
          obtain ⟨o, ho, _⟩ := hit
          exact Heap.lt_size ho
      rw [upd_ne (ne_lt hlt (Nat.le_refl _))]
      exact (hf b hb).1
  done := by
    intro X hP hw hK hc i pins s σ H E I hf st hg
    subst hP hw hK
    obtain ⟨⟨old, he⟩, hit⟩ := st
    obtain ⟨xs, hq, hx⟩ := hg
    obtain ⟨its, rv, p, hz⟩ := I.list hq
    obtain ⟨i0, i1, i2, i3, i4, i5⟩ := hf it (by simp)
    have hl := rv.length
    have hai : a ≠ it := fun z => by
      obtain ⟨o1, q1, q2, q3⟩ := hit
      obtain ⟨o2, q4, q5, q6⟩ := p.isList
      rw [z, q1] at q4; cases q4; rw [q2] at q5; injection q5 with q7; exact absurd q7 (by decide)
    exact enumL_endG (I.ok.hd hc) he hit p.isList hai (by simp; omega) fun h' eb => ⟨rfl, I.turned (t' := s.toks) (fun b o hb e => eb b o hb e) i0 i1 i3 i4 i5⟩
  self := fun _ _ _ _ _ st h => by
    obtain ⟨⟨old, he⟩, _⟩ := st
    exact wpAny_pyIter_enum he h
theorem callWith_typeK {M : Model} {A : Around} {E : Value → Shared → Prop} {s : Shared} {pos : Pos} {T : String} {m : Sem Value} {kws : List (Option Str × Sem Value)} {Q : Value → Shared → Prop}
  (hall : kws.all (·.1.isSome) = true) (hno : kws.any (·.1.isNone) = false)
  (h : wpAny M A (spliced [(false, m)]) (fun vs s1 => wpAny M A (evalAll (kws.map (·.2))) (fun ks s2 => wpAny M A (call (.type T) vs ((kws.filterMap (·.1)).zip ks)) Q E s2) E s1) E s) :
  wpAny M A (callWith pos (.type T) [] [(false, m)] kws) Q E s := by
  unfold callWith
  refine wpAny_bind (wpAny_holding ?_)
  unfold evalArgs
  simp only []
  refine wpAny_bind (wpAny_mono h (fun vs s1 h1 => ?_) (fun e s' h => h))
  refine wpAny_bind (wpAny_pure ?_)
  refine wpAny_holding ?_
  rw [if_pos hall]
  refine wpAny_bind (wpAny_mono h1 (fun ks s2 h2 => ?_) (fun e s' h => h))
  refine wpAny_bind (wpAny_pure ?_)
  refine wpAny_pure ?_
  refine wpAny_bind (wpAny_standAt ?_)
  refine wpAny_bind ?_
  simp only [keeperOf]
  refine wpAny_pure ?_
  have e1 : ([(false, m)].any fun x => x.fst) = false := rfl
  simp only [e1, hno, Bool.or_false]
  exact wpAny_bind (wpAny_mono h2 (fun r s3 h3 => wpAny_bind (wpAny_holding (wpAny_point (wpAny_pure h3)))) (fun e s' h => h))
noncomputable def ienum1 (te : TD) : TID := fun ρ st P => te ρ st fun x st1 => match x with
  | .tup xs => P (enumD 1 xs) (fun _ => True) st1
  | .lst n => (match st1[n]? with
    | some o => P (enumD 1 o.items) (fun st' => (st'[n]?).map SO.items = some o.items) st1
    | none => False)
  | _ => False
section
variable {X : Cx} {a e2 : Expr} {elts : List Expr} {x1 : Nat} {tpos pos p kp : Pos} {te : TD}
theorem di_enum1 (hm : X.mg "enumerate" = none) (ha : DE X a te) (hb : DE X e2 (tcon (.int 1))) (hg : Gl X "enumerate") (hs : starEach [a] X.env = [(false, eval a X.env)])
    (hall : (backToKw pos (keywordEach [⟨some "start", e2, kp⟩] X.env)).all (·.1.isSome) = true) (hks : (backToKw pos (keywordEach [⟨some "start", e2, kp⟩] X.env)).filterMap (·.1) = [Str.ofString "start"])
    (hpl : (backToKw pos (keywordEach [⟨some "start", e2, kp⟩] X.env)).any (·.1.isNone) = false) (hbk : ∃ m, backTo pos [(false, eval a X.env)] = [(false, m)]) :
    DI X (.Tuple elts x1 tpos) (.Call (.Name "enumerate" p) [a] [⟨some "start", e2, kp⟩] pos) (ienum1 te) := by
  intro pins s σ H R I h
  obtain ⟨φ, st, ρ, P, pre, ht, hq⟩ := h
  refine wpAny_Call_Name_kw (ld_blt I hg hm PyProof.Rows.boot_enumerate ?_ (by decide) (by decide))
  have hA := da_cons ha da_nil hs pos pins s σ H _ I ⟨φ, st, ρ, (fun ds st1 => match ds with
    | [x] => (match x with
      | .tup xs => P (enumD 1 xs) (fun _ => True) st1
      | .lst n => (match st1[n]? with
        | some o => P (enumD 1 o.items) (fun st' => (st'[n]?).map SO.items = some o.items) st1
        | none => False)
      | _ => False)
    | _ => False), pre, ht, fun ds st1 h1 φ1 H1 vs b1 dl => (show ∃ φ1 st1 ds, Bhd X.K φ st H φ1 st1 H1 ∧ DL X.K φ1 st1.length H1 ds vs ∧ (match ds with
    | [x] => (match x with
      | .tup xs => P (enumD 1 xs) (fun _ => True) st1
      | .lst n => (match st1[n]? with
        | some o => P (enumD 1 o.items) (fun st' => (st'[n]?).map SO.items = some o.items) st1
        | none => False)
      | _ => False)
    | _ => False) from ⟨φ1, st1, ds, b1, dl, h1⟩)⟩
  obtain ⟨mv, hbk⟩ := hbk
  rw [hs, hbk] at hA ⊢
  refine callWith_typeK hall hpl (thn hA fun us s1 ⟨vs, H1, I1, rv, φ1, st1, ds, b1, dl, h1⟩ => ?_)
  refine thn (pk_cons hb pk_nil pos pins s1 σ H1 (fun zs H2 => ∃ φ2, Bhd X.K φ1 st1 H1 φ2 st1 H2 ∧ zs = [V.int 1]) I1 ⟨φ1, st1, ρ, (fun d st2 => st2 = st1 ∧ d = .int 1), pre.on b1, ⟨rfl, rfl⟩, fun d st2 h2 φ2 H2 v b2 dv => (by
    obtain ⟨rfl, rfl⟩ := h2
    exact ⟨φ2, b2, by rw [dv.int]⟩)⟩) fun ws s2 ⟨zs, H2, I2, rz, φ2, b2, ez⟩ => ?_
  subst ez
  obtain ⟨w1, rfl, t1, rfl⟩ := vals1 rz
  rw [hks]
  show wpAny _ _ (call (.type "enumerate") us [(Str.ofString "start", Value.int 1 t1)]) _ _ s2
  have b12 := b1.trans b2
  have dl2 := dl.evo b2.2
  rcases ds with _ | ⟨d, _ | ⟨d2, r⟩⟩
  · exact h1.elim
  rotate_left
  · exact h1.elim
  · obtain ⟨v, rfl, dv⟩ := dl2.one
    obtain ⟨u, rfl, ru⟩ := vals1 rv
    cases d with
    | tup xs =>
      have h1 : P (enumD 1 xs) (fun _ => True) st1 := h1
      obtain ⟨a, ws, ev, hs1, dws⟩ := dv.tup
      subst ev
      cases ru
      obtain ⟨its, rvs, pl, hz⟩ := I2.tuple hs1
      refine HT.call_enumT1 pl fun h' he hit hsz hk => ?_
      refine wpAny_pyIter_enum (s := { s2 with heap := h' }) he ?_
      have I3 : Inv X pins σ H2 { s2 with heap := h' } := I2.kept (t' := s2.toks) hk
      have hei : s2.heap.objs.size + 1 ≠ s2.heap.objs.size := by omega
      refine ⟨s2.heap.objs.size + 1, [s2.heap.objs.size + 1, s2.heap.objs.size], _, _, H2, rfl, I3, turn_enumT1 a _ _ hei, ⟨⟨_, he⟩, hit⟩, fun b hb => ?_, hq _ _ st1 h1 φ2 H2 _ b12 ?_⟩
      · have hle : s2.heap.objs.size ≤ b := by
          rcases List.mem_cons.mp hb with e | hb
          · rw [e]; exact Nat.le_succ _
          · have e : b = s2.heap.objs.size := by simpa using hb
            rw [e]; exact Nat.le_refl _
        exact I2.fpOk hle (I2.hok.fresh hle)
      · intro i φ' st' H' bh hok hi
        obtain ⟨a', zs, e2, hs', dl'⟩ := (dv.evo bh.2).tup
        cases e2
        have hlen := dl'.length
        rw [enum_len] at hi
        refine ⟨fun e => ⟨zs, hs', by rw [enum_len] at e; omega⟩, fun d ed => ?_⟩
        obtain ⟨d', ed', rfl⟩ := enum_get ed
        obtain ⟨y, ey, dy⟩ := dl'.get ed'
        refine ⟨⟨zs, y, hs', ey⟩, fun y' H2 hy => ?_⟩
        obtain ⟨q, v, hq1, rfl, rfl, hv⟩ := hy
        have := hv zs hs'
        rw [ey] at this
        cases this
        refine ⟨bhd_tup bh.1 hq1, .mkTup (SqT.of upd_same) (.cons ?_ (.cons (dy.evo (evo_new hq1)) .nil))⟩
        rw [Nat.add_comm 1 i]
        exact D.mkInt
    | lst n =>
      have h1 : (match st1[n]? with
        | some o => P (enumD 1 o.items) (fun st' => (st'[n]?).map SO.items = some o.items) st1
        | none => False) := h1
      split at h1
      · rename_i o eo
        obtain ⟨ws, hs1, dws⟩ := b12.1.seq eo dv.isL
        have ev := dv.lst.2
        subst ev
        cases ru
        obtain ⟨its, rvs, pl, hz⟩ := I2.list hs1
        refine HT.call_enumL1 pl.isList fun h' he hit hsz hk => ?_
        refine wpAny_pyIter_enum (s := { s2 with heap := h' }) he ?_
        have I3 : Inv X pins σ H2 { s2 with heap := h' } := I2.kept (t' := s2.toks) hk
        have hei : s2.heap.objs.size + 1 ≠ s2.heap.objs.size := by omega
        refine ⟨s2.heap.objs.size + 1, [s2.heap.objs.size + 1, s2.heap.objs.size], _, _, H2, rfl, I3, turn_enumL1 (φ2 n) _ _ hei, ⟨⟨_, he⟩, hit⟩, fun b hb => ?_, hq _ _ st1 h1 φ2 H2 _ b12 ?_⟩
        · have hle : s2.heap.objs.size ≤ b := by
            rcases List.mem_cons.mp hb with e | hb
            · rw [e]; exact Nat.le_succ _
            · have e : b = s2.heap.objs.size := by simpa using hb
              rw [e]; exact Nat.le_refl _
          exact I2.fpOk hle (I2.hok.fresh hle)
        · intro i φ' st' H' bh hok hi
          have hok' : (st'[n]?).map SO.items = some o.items := hok
          obtain ⟨a', zs, e2, hs', dl'⟩ := seq_of (y := .lst n) (xs := o.items) bh.1 (dv.evo bh.2) hok'
          cases e2
          have hsl : SqL X.K H' (φ2 n) zs := by
            rcases hs' with z | ⟨_, z⟩
            · exact z.1
            · cases z
          have hlen := dl'.length
          rw [enum_len] at hi
          refine ⟨fun e => ⟨zs, hsl, by rw [enum_len] at e; omega⟩, fun d ed => ?_⟩
          obtain ⟨d', ed', rfl⟩ := enum_get ed
          obtain ⟨y, ey, dy⟩ := dl'.get ed'
          refine ⟨⟨zs, y, hsl, ey⟩, fun y' H2 hy => ?_⟩
          obtain ⟨q, v, hq1, rfl, rfl, hv⟩ := hy
          have := hv zs hsl
          rw [ey] at this
          cases this
          refine ⟨bhd_tup bh.1 hq1, .mkTup (SqT.of upd_same) (.cons ?_ (.cons (dy.evo (evo_new hq1)) .nil))⟩
          rw [Nat.add_comm 1 i]
          exact D.mkInt
      · exact h1.elim
    | _ => exact h1.elim
end
end L3
set_option maxHeartbeats 1000000
namespace K02
open PySem L2 L3
noncomputable abbrev cs (z : Str) : List Nat := z.cps.toList
noncomputable abbrev one (c : Nat) : Str := ⟨#[c]⟩
theorem ext {a b : Str} (h : cs a = cs b) : a = b := PyProof.Rows.ext_toList h
theorem cs_app (a b : Str) : cs (a ++ b) = cs a ++ cs b := PySem.W.KT.app_list a b
theorem cut_inj {c : Nat} : ∀ {p q r s : List Nat}, c ∉ p → c ∉ q → p ++ c :: r = q ++ c :: s → p = q ∧ r = s
  | [], [], r, s, _, _, h => by simpa using h
  | [], y :: q, r, s, _, hq, h => by
    simp at h
    exact absurd (h.1 ▸ List.mem_cons_self) hq
  | x :: p, [], r, s, hp, _, h => by
    simp at h
    exact absurd (h.1 ▸ List.mem_cons_self) hp
  | x :: p, y :: q, r, s, hp, hq, h => by
    simp at h
    obtain ⟨e, h⟩ := h
    obtain ⟨e1, e2⟩ := cut_inj (fun z => hp (List.mem_cons_of_mem _ z)) (fun z => hq (List.mem_cons_of_mem _ z)) h
    exact ⟨by rw [e, e1], e2⟩
theorem join_cons2 (sep x y : Str) (r : List Str) : sep.join (x :: y :: r) = x ++ sep ++ sep.join (y :: r) := by
  rw [Str.join.eq_def]
theorem join_one (sep x : Str) : sep.join [x] = x := by rw [Str.join.eq_def]
theorem cs_join {c : Nat} {x y : Str} {r : List Str} : cs ((one c).join (x :: y :: r)) = cs x ++ c :: cs ((one c).join (y :: r)) := by
  rw [join_cons2, cs_app, cs_app, List.append_assoc]
  rfl
theorem join_free {c : Nat} {x : Str} {y : Str} {r : List Str} : c ∈ cs ((one c).join (x :: y :: r)) := by
  rw [cs_join]; simp
theorem join_inj {c : Nat} : ∀ {ps qs : List Str}, ps ≠ [] → qs ≠ [] → (∀ p ∈ ps, c ∉ cs p) → (∀ p ∈ qs, c ∉ cs p) → (one c).join ps = (one c).join qs → ps = qs
  | [], _, h, _, _, _, _ => absurd rfl h
  | _, [], _, h, _, _, _ => absurd rfl h
  | [x], [y], _, _, _, _, h => by rw [join_one, join_one] at h; rw [h]
  | [x], y :: z :: r, _, _, hp, _, h => by
    rw [join_one] at h
    have := join_free (c := c) (x := y) (y := z) (r := r)
    rw [← h] at this
    exact absurd this (hp x (by simp))
  | x :: z :: r, [y], _, _, _, hq, h => by
    rw [join_one] at h
    have := join_free (c := c) (x := x) (y := z) (r := r)
    rw [h] at this
    exact absurd this (hq y (by simp))
  | x :: x2 :: r, y :: y2 :: s, _, _, hp, hq, h => by
    have e := congrArg cs h
    rw [cs_join, cs_join] at e
    obtain ⟨e1, e2⟩ := cut_inj (hp x (by simp)) (hq y (by simp)) e
    have h2 := join_inj (ps := x2 :: r) (qs := y2 :: s) (by simp) (by simp) (fun p hp' => hp p (List.mem_cons_of_mem _ hp')) (fun p hp' => hq p (List.mem_cons_of_mem _ hp')) (ext e2)
    rw [ext e1, h2]
theorem split_ne (x y : Str) : Txt.split x y ≠ [] := by
  unfold Txt.split
  split
  · simp
  · split
    · simp
    · rw [StrLaws.partsBetween_eq]
      obtain ⟨p, r, e⟩ := StrLaws.partsFrom_ne x y.length 0 (Builtin.Str.occurrences x y 0 x.length (x.length + 1))
      rw [e]; simp
theorem split_join {c : Nat} {ps : List Str} (hn : ps ≠ []) (hf : ∀ p ∈ ps, c ∉ cs p) : Txt.split ((one c).join ps) (one c) = ps :=
  join_inj (split_ne _ _) hn (fun p hp => StrLaws.split_free _ c p hp) hf (StrLaws.join_split _ _)
theorem parts_len (x : Str) (w : Nat) : ∀ (cuts : List Nat) (a : Nat), (StrLaws.partsFrom x w a cuts).length = cuts.length + 1
  | [], a => by rw [StrLaws.partsFrom]; rfl
  | c :: r, a => by rw [StrLaws.partsFrom]; simp [parts_len x w r]
theorem between_len (x y : Str) : (Builtin.Str.partsBetween x (Builtin.Str.occurrences x y 0 x.length (x.length + 1)) y.length).length ≤ x.length + 2 := by
  rw [StrLaws.partsBetween_eq, parts_len]
  have := StrLaws.occ_length_le x y 0 x.length (x.length + 1)
  omega
theorem split_len (x y : Str) : (Txt.split x y).length ≤ x.length + 2 := by
  unfold Txt.split
  split
  · simp
  · split
    · simp
    · exact between_len x y
noncomputable abbrev dval : List Nat → Nat := NumText.digitsVal
noncomputable def figs (n : Nat) : List Nat := (Nat.toDigits 10 n).map Char.toNat
noncomputable def fig (n : Int) : Str := Str.ofString (toString n)
theorem cs_fig (n : Nat) : cs (fig (n : Int)) = figs n := PySem.W.KIN.signs_num n
theorem val_figs (n : Nat) : dval (figs n) = n := PySem.W.KIN.val_back n
noncomputable def isDig (c : Nat) : Bool := decide (48 ≤ c) && decide (c ≤ 57)
theorem dig_char (c : Char) (h : c.isDigit = true) : isDig c.toNat = true := by
  unfold Char.isDigit at h
  unfold isDig
  simp only [Bool.and_eq_true, decide_eq_true_eq] at h ⊢
  obtain ⟨h1, h2⟩ := h
  exact ⟨h1, h2⟩
theorem figs_dig (n : Nat) : ∀ c ∈ figs n, isDig c = true := by
  intro c hc
  unfold figs at hc
  obtain ⟨d, hd, rfl⟩ := List.mem_map.mp hc
  exact dig_char d (Nat.isDigit_of_mem_toDigits (b := 10) (by decide) (by decide) hd)
theorem figs_ne (n : Nat) : figs n ≠ [] := by
  unfold figs
  intro h
  exact Nat.toDigits_ne_nil (List.map_eq_nil_iff.mp h)
theorem figs_len {n k : Nat} (h0 : 0 < k) (h : n < 10 ^ k) : (figs n).length ≤ k := by
  unfold figs
  rw [List.length_map]
  exact (Nat.length_toDigits_le_iff (by decide) h0).mpr h
theorem figs_head : ∀ (n : Nat) (r : List Nat), figs n = 48 :: r → r = [] := by
  intro n
  induction n using Nat.strongRecOn with
  | ind n ih =>
    intro r h
    unfold figs at h
    rw [Nat.toDigits_eq_if (by decide)] at h
    split at h
    · simp at h; exact h.2
    · rename_i hn
      rw [List.map_append] at h
      have hq : figs (n / 10) ++ [((n % 10).digitChar).toNat] = 48 :: r := h
      have h0 : 0 < n / 10 := by omega
      cases e : figs (n / 10) with
      | nil => exact absurd e (figs_ne _)
      | cons c s =>
        rw [e] at hq
        simp at hq
        obtain ⟨rfl, _⟩ := hq
        have := ih (n / 10) (by omega) s e
        subst this
        have hv := val_figs (n / 10)
        rw [e] at hv
        have : dval [48] = 0 := by decide
        omega
end K02
namespace K02
open PySem L2 L3
theorem join_in {c : Nat} : ∀ {ps : List Str} {p : Str}, p ∈ ps → ∃ a b, cs ((one c).join ps) = a ++ cs p ++ b
  | [x], p, h => by
    have : p = x := by simpa using h
    subst this
    exact ⟨[], [], by rw [join_one]; simp⟩
  | x :: y :: r, p, h => by
    rw [cs_join]
    rcases List.mem_cons.mp h with rfl | h
    · exact ⟨[], c :: cs ((one c).join (y :: r)), by simp⟩
    · obtain ⟨a, b, e⟩ := join_in (c := c) h
      exact ⟨cs x ++ c :: a, b, by rw [e]; simp⟩
noncomputable def Asc (z : Str) : Prop := (z.cps.all fun c => decide (c < 128)) = true
theorem asc_iff {z : Str} : Asc z ↔ ∀ c ∈ cs z, c < 128 := by
  unfold Asc
  rw [← Array.all_toList, List.all_eq_true]
  exact ⟨fun h c hc => by simpa using h c hc, fun h c hc => by simpa using h c hc⟩
theorem len_cs (z : Str) : (cs z).length = z.length := Array.length_toList
theorem part_asc {z p : Str} {c : Nat} (hz : Asc z) (h : p ∈ Txt.split z (one c)) : Asc p ∧ p.length ≤ z.length := by
  obtain ⟨a, b, e⟩ := join_in (c := c) h
  rw [StrLaws.join_split] at e
  refine ⟨asc_iff.mpr fun d hd => asc_iff.mp hz d (by rw [e]; simp [hd]), ?_⟩
  rw [← len_cs, ← len_cs, e]
  simp
  omega
theorem join_asc {c : Nat} (hc : c < 128) : ∀ {ps : List Str}, (∀ p ∈ ps, Asc p) → Asc ((one c).join ps)
  | [], _ => by rw [Str.join.eq_def]; exact asc_iff.mpr fun c hc => by simp [Str.empty] at hc
  | [x], h => by rw [join_one]; exact h x (by simp)
  | x :: y :: r, h => by
    refine asc_iff.mpr fun d hd => ?_
    rw [cs_join] at hd
    rcases List.mem_append.mp hd with hd | hd
    · exact asc_iff.mp (h x (by simp)) d hd
    · rcases List.mem_cons.mp hd with rfl | hd
      · exact hc
      · exact asc_iff.mp (join_asc hc (fun p hp => h p (List.mem_cons_of_mem _ hp))) d hd
theorem join_len {c B : Nat} : ∀ {ps : List Str}, (∀ p ∈ ps, p.length ≤ B) → ((one c).join ps).length ≤ ps.length * (B + 1)
  | [], _ => by rw [Str.join.eq_def]; exact Nat.zero_le _
  | [x], h => by rw [join_one]; have := h x (by simp); simp; omega
  | x :: y :: r, h => by
    have h1 := h x (by simp)
    have h2 := join_len (c := c) (fun p hp => h p (List.mem_cons_of_mem _ hp))
    rw [← len_cs] at h1 h2 ⊢
    rw [cs_join]
    simp only [List.length_append, List.length_cons] at h2 ⊢
    have e : (r.length + 1 + 1) * (B + 1) = (r.length + 1) * (B + 1) + (B + 1) := Nat.succ_mul _ _
    rw [e]
    omega
noncomputable def okFig (l : List Nat) : Bool := !l.isEmpty && l.all isDig && !(l.head? == some 48 && l != [48])
noncomputable def numIn (z : Str) (g : Nat) : Option Nat := if okFig (cs z) && decide ((cs z).length ≤ (figs g).length) && decide (dval (cs z) ≤ g) then some (dval (cs z)) else none
theorem dig_back : ∀ {l : List Nat}, (∀ c ∈ l, 48 ≤ c ∧ c ≤ 57) → (l.map Char.ofNat).map Char.toNat = l
  | [], _ => rfl
  | c :: r, h => by
    simp only [List.map_cons]
    rw [dig_back fun d hd => h d (List.mem_cons_of_mem _ hd)]
    have hc := h c (by simp)
    obtain ⟨k, rfl⟩ : ∃ k : Nat, c = 48 + k := ⟨c - 48, by omega⟩
    have hk : k ≤ 9 := by omega
    have : (Char.ofNat (48 + k)).toNat = 48 + k := by
      rcases k with _ | _ | _ | _ | _ | _ | _ | _ | _ | _ | k <;> first | rfl | omega
    rw [this]
theorem figs_back {l : List Nat} (h : okFig l = true) : figs (dval l) = l := by
  unfold okFig at h
  simp only [Bool.and_eq_true, Bool.not_eq_true', List.all_eq_true] at h
  obtain ⟨⟨h0, h1⟩, h2⟩ := h
  have hd : ∀ c ∈ l, 48 ≤ c ∧ c ≤ 57 := fun c hc => by
    have := h1 c hc
    unfold isDig at this
    simpa using this
  cases l with
  | nil => simp at h0
  | cons c r =>
    unfold figs
    rw [NumText.toDigits_digitsVal r.length (c :: r) rfl hd ?_, dig_back hd]
    cases r with
    | nil => exact .inl rfl
    | cons d s =>
      refine .inr ⟨c, d :: s, rfl, ?_⟩
      have := (hd c (by simp)).1
      rcases Nat.lt_or_ge 48 c with q | q
      · exact q
      · have : c = 48 := by omega
        subst this
        simp at h2
theorem figs_ok (n : Nat) : okFig (figs n) = true := by
  unfold okFig
  simp only [Bool.and_eq_true, Bool.not_eq_true', List.all_eq_true]
  refine ⟨⟨?_, fun c hc => figs_dig n c hc⟩, ?_⟩
  · cases e : figs n with
    | nil => exact absurd e (figs_ne n)
    | cons => rfl
  · cases e : figs n with
    | nil => exact absurd e (figs_ne n)
    | cons c r =>
      cases h : (c == 48) with
      | false => simp; intro q; rw [q] at h; simp at h
      | true =>
        have : c = 48 := by simpa using h
        subst this
        have := figs_head n r e
        subst this
        simp
theorem figs_mono {n g : Nat} (h : n ≤ g) : (figs n).length ≤ (figs g).length := by
  have h0 : 0 < (figs g).length := List.length_pos_iff.mpr (figs_ne g)
  refine figs_len h0 (Nat.lt_of_le_of_lt h ?_)
  have := (Nat.length_toDigits_le_iff (b := 10) (n := g) (k := (figs g).length) (by decide) h0).mp (by unfold figs; rw [List.length_map]; exact Nat.le_refl _)
  exact this
theorem numIn_fig {n g : Nat} (h : n ≤ g) : numIn (fig (n : Int)) g = some n := by
  unfold numIn
  rw [cs_fig, figs_ok, val_figs]
  simp [figs_mono h, h]
theorem fig_free {c n : Nat} (h : isDig c = false) : c ∉ cs (fig (n : Int)) := by
  rw [cs_fig]
  intro q
  rw [figs_dig n c q] at h
  cases h
theorem fig_asc (n : Nat) : Asc (fig (n : Int)) := asc_iff.mpr fun c hc => by
  rw [cs_fig] at hc
  have := figs_dig n c hc
  unfold isDig at this
  simp at this
  omega
theorem fig_len {n k : Nat} (h0 : 0 < k) (h : n < 10 ^ k) : (fig (n : Int)).length ≤ k := by
  rw [← len_cs, cs_fig]; exact figs_len h0 h
noncomputable def wordAt (z : Str) : Option Nat := K01.wordsS.findIdx? (· == z)
noncomputable def lineNum (z : Str) : Option Nat := match Txt.split z (one 32) with
  | [w, n] => if w == ("cell" : Str) then numIn n 65535 else none
  | [w, a, b, c] => (match wordAt w with
    | some k => (match numIn a 7, numIn b 7, numIn c 63 with
      | some a, some b, some c => some (k * 4096 + a * 512 + b * 64 + c)
      | _, _, _ => none)
    | none => none)
  | _ => none
noncomputable def optD : Option Nat → Dt
  | some n => .int (n : Int)
  | none => .non
noncomputable def spNumIn : RDL := fun ds st P => ∃ (z : Str) (g : Nat), ds = [.str z, .int (g : Int)] ∧ Asc z ∧ z.length ≤ sizeLine ∧ (g = 7 ∨ g = 63 ∨ g = 65535) ∧ ∀ st', ExtS st st' → P (optD (numIn z g)) st'
noncomputable def spLine : RDL := fun ds st P => ∃ z : Str, ds = [.str z] ∧ Asc z ∧ z.length + 2 ≤ sizeLine ∧ ∀ st', ExtS st st' → P (optD (lineNum z)) st'
noncomputable def spRead : RDL := fun ds st P => ∃ (z : Str) (ns : List Nat), ds = [.str z] ∧ Asc z ∧ z.length + 2 ≤ sizeLine ∧ (Txt.split z (one 10)).map lineNum = ns.map some ∧ ∀ st', ExtS st st' → P (.tup (ns.map fun n : Nat => .int (n : Int))) st'
end K02
namespace KH
open PySem L2 L3
noncomputable def HandO (o : SO) : Prop := ∃ a b c : Int, o = .rw [.int a, .int b, .int c] ∧ 0 ≤ b ∧ b < 1000000007
noncomputable def HandAt (st : Sto) (h : Nat) : Prop := ∃ o, st[h]? = some o ∧ HandO o
noncomputable def Keep (h : Nat) (st st' : Sto) : Prop := (∀ i o, i ≠ h → st[i]? = some o → st'[i]? = some o) ∧ HandAt st' h
theorem Keep.refl {h : Nat} {st : Sto} (a : HandAt st h) : Keep h st st := ⟨fun _ _ _ q => q, a⟩
theorem Keep.trans {h : Nat} {a b c : Sto} (x : Keep h a b) (y : Keep h b c) : Keep h a c := ⟨fun i o n q => y.1 i o n (x.1 i o n q), y.2⟩
theorem HandAt.ext {h : Nat} {st st' : Sto} (a : HandAt st h) (e : ExtS st st') : HandAt st' h := by
  obtain ⟨o, q, r⟩ := a; exact ⟨o, e _ _ q, r⟩
theorem Keep.of {h : Nat} {st st' : Sto} (a : HandAt st h) (e : ExtS st st') : Keep h st st' := ⟨fun i o _ q => e i o q, a.ext e⟩
theorem Keep.app {h : Nat} {st st' : Sto} (k : Keep h st st') (x : SO) : Keep h st (st' ++ [x]) := k.trans (.of k.2 (.app _ _))
end KH
namespace K19
open PySem L2 L3 KH
noncomputable def namS : List Str := ["add", "sub", "mul", "nought", "high", "over", "under", "wide", "rest"]
noncomputable def underD (w : Str) (ns : List Dt) : List Dt := if namS.contains w = true then ns else []
noncomputable def spRight : RDL := fun ds st P => ∃ (w : Str) (ns due : List Int), ds = [.tup (.str w :: ns.map .int), .tup (due.map .int)] ∧ ns.length < 100 ∧ due.map Dt.int = underD w (ns.map .int) ∧ ∀ st', ExtS st st' → P (.bl true) st'
end K19
namespace KH
open PySem PySem.Spec PyProof.Rows L2 L3
theorem ix0 {x y z : Dt} : ixN [x, y, z].length 0 = some 0 := rfl
end KH
namespace K02
open PySem PySem.Spec PyProof.Rows L2 L3
section
variable {E : EndsD} {ρ : Rho} {st st' : Sto} {A C : TSD}
theorem seqS (h : A { E with nx := C E } ρ st) : tseq A C E ρ st := h
theorem ifS {c : TBD} {b : Bool} (h1 : ∀ P : Bool → Sto → Prop, P b st' → c ρ st P) (qt : b = true → A E ρ st') (qf : b = false → C E ρ st') : tifS c A C E ρ st := by
  unfold tifS
  refine h1 _ ?_
  cases b
  · exact iteF (qf rfl)
  · exact iteT (qt rfl)
theorem seqIf {N : TSD} {c : TBD} {b : Bool} (h1 : ∀ P : Bool → Sto → Prop, P b st' → c ρ st P) (qt : b = true → A { E with nx := N E } ρ st') (qf : b = false → N E ρ st') : tseq (tifS c A tnext) N E ρ st := seqS (ifS h1 qt qf)
theorem orB {c1 c2 : TBD} {b1 b2 : Bool} (h1 : ∀ P : Bool → Sto → Prop, P b1 st → c1 ρ st P) (h2 : b1 = false → ∀ P : Bool → Sto → Prop, P b2 st → c2 ρ st P) : ∀ P : Bool → Sto → Prop, P (b1 || b2) st → torB c1 c2 ρ st P := by
  intro P hp
  unfold torB
  refine h1 _ ?_
  cases b1
  · exact iteF (h2 rfl _ (by simpa using hp))
  · exact iteT (by simpa using hp)
theorem andB {c1 c2 : TBD} {b1 b2 : Bool} (h1 : ∀ P : Bool → Sto → Prop, P b1 st → c1 ρ st P) (h2 : b1 = true → ∀ P : Bool → Sto → Prop, P b2 st → c2 ρ st P) : ∀ P : Bool → Sto → Prop, P (b1 && b2) st → tandB c1 c2 ρ st P := by
  intro P hp
  unfold tandB
  refine h1 _ ?_
  cases b1
  · exact iteF (by simpa using hp)
  · exact iteT (h2 rfl _ (by simpa using hp))
theorem eqS {x : TD} {a b : Str} (hx : ∀ P : VD, P (.str a) st → x ρ st P) : ∀ P : Bool → Sto → Prop, P (a == b) st → tbool (tbin (rEqD false) x (tcon (.str b))) ρ st P := by
  intro P hp
  simp only [tbool, tbin, tcon]
  refine hx _ ⟨rfl, rfl, ?_⟩
  show P ((a == b) != false) st
  simpa using hp
theorem neS {x : TD} {a b : Str} (hx : ∀ P : VD, P (.str a) st → x ρ st P) : ∀ P : Bool → Sto → Prop, P (a != b) st → tbool (tbin (rEqD true) x (tcon (.str b))) ρ st P := by
  intro P hp
  simp only [tbool, tbin, tcon]
  refine hx _ ⟨rfl, rfl, ?_⟩
  show P ((a == b) != true) st
  have : ((a == b) != true) = (a != b) := by unfold bne; cases (a == b) <;> rfl
  rw [this]; exact hp
theorem eqI {x : TD} {a b : Int} (hx : ∀ P : VD, P (.int a) st → x ρ st P) : ∀ P : Bool → Sto → Prop, P (decide (a = b)) st → tbool (tbin (rEqD false) x (tcon (.int b))) ρ st P := by
  intro P hp
  simp only [tbool, tbin, tcon]
  refine hx _ ⟨rfl, rfl, ?_⟩
  show P ((a == b) != false) st
  have : ((a == b) != false) = decide (a = b) := by by_cases e : a = b <;> simp [e]
  rw [this]; exact hp
theorem neI {x : TD} {a b : Int} (hx : ∀ P : VD, P (.int a) st → x ρ st P) : ∀ P : Bool → Sto → Prop, P (!decide (a = b)) st → tbool (tbin (rEqD true) x (tcon (.int b))) ρ st P := by
  intro P hp
  simp only [tbool, tbin, tcon]
  refine hx _ ⟨rfl, rfl, ?_⟩
  show P ((a == b) != true) st
  have : ((a == b) != true) = !decide (a = b) := by by_cases e : a = b <;> simp [e]
  rw [this]; exact hp
end
theorem str_eq {a b : Str} : (a == b) = decide (a = b) := by
  by_cases e : a = b
  · subst e; simp
  · rw [decide_eq_false e]
    cases h : (a == b) with
    | false => rfl
    | true => exact absurd (eq_of_beq h) e
theorem eq_empty {z : Str} : (z == ("" : Str)) = (cs z).isEmpty := by
  rw [str_eq]
  cases h : (cs z).isEmpty with
  | true =>
    have : cs z = [] := by simpa using h
    exact decide_eq_true (ext this)
  | false => exact decide_eq_false fun q => by subst q; simp [cs] at h; exact h rfl
theorem head_zero {z : Str} {c : Nat} {r : List Nat} (e : cs z = c :: r) : ((⟨#[c]⟩ : Str) == ("0" : Str)) = (c == 48) := by
  rw [str_eq]
  by_cases h : c = 48
  · subst h; exact decide_eq_true rfl
  · rw [decide_eq_false (fun q => h (by have h2 : [c] = [48] := congrArg cs q; simpa using h2))]
    simp [h]
theorem ne_zero {z : Str} : (z != ("0" : Str)) = (cs z != [48]) := by
  unfold bne
  rw [str_eq]
  congr 1
  by_cases h : cs z = [48]
  · rw [h]; exact decide_eq_true (ext h)
  · rw [decide_eq_false (fun q => h (by rw [q]; rfl))]
    simp [h]
theorem sign_in (c : Nat) : ((!(Builtin.Str.occurrences ("0123456789" : Str) ⟨#[c]⟩ 0 ("0123456789" : Str).length 1).isEmpty) != true) = !isDig c := by
  rw [StrLaws.found_one]
  have : (("0123456789" : Str)).cps.toList = [48, 49, 50, 51, 52, 53, 54, 55, 56, 57] := by decide +kernel
  rw [this]
  unfold isDig
  by_cases h : 48 ≤ c ∧ c ≤ 57
  · have h1 : c ∈ [48, 49, 50, 51, 52, 53, 54, 55, 56, 57] := by simp; omega
    simp [h1, h.1, h.2]
  · have h1 : c ∉ [48, 49, 50, 51, 52, 53, 54, 55, 56, 57] := by simp; omega
    simp only [h1, decide_false]
    have : (decide (48 ≤ c) && decide (c ≤ 57)) = false := by simp; omega
    rw [this]; rfl
theorem log_small {g : Nat} (h : g ≤ 65535) : ((g : Int).natAbs).log2 < 1920 := by
  have : (g : Int).natAbs = g := rfl
  rw [this]
  rcases Nat.eq_zero_or_pos g with h0 | h0
  · subst h0; decide
  · exact Nat.lt_of_le_of_lt (show g.log2 ≤ 16 from by
      have := (Nat.log2_lt (by omega)).mpr (show g < 2 ^ 17 by omega); omega) (by decide)
noncomputable abbrev t_number_in : TSD := (tseq (tifS (torB (tbool (tbin (rEqD false) (tvar 0) (tcon (Dt.str (Str.ofString ""))))) (tbool (tbin (rCmpI fun i j => decide (j < i)) (tcall rLen (tacons (tvar 0) tanil)) (tcall rLen (tacons (tcall rStr (tacons (tvar 1) tanil)) tanil))))) (tseq (tret (tcon Dt.non)) tnext) tnext) (tseq (tifS (tbool (tcall rAnyB (tacons (tcomp (istr (tvar 0)) (fun x st P => P true st) (tbin (rInD true) (tvar 0) (tcon (Dt.str (Str.ofString "0123456789")))) []) tanil))) (tseq (tret (tcon Dt.non)) tnext) tnext) (tseq (tifS (tandB (tbool (tbin (rEqD false) (tbin rIxD (tvar 0) (tcon (Dt.int 0))) (tcon (Dt.str (Str.ofString "0"))))) (tbool (tbin (rEqD true) (tvar 0) (tcon (Dt.str (Str.ofString "0")))))) (tseq (tret (tcon Dt.non)) tnext) tnext) (tseq (tasg (tcall rIntT (tacons (tvar 0) tanil)) (gname 2)) (tseq (tret (tifE (tbool (tbin (rCmpI fun i j => decide (i ≤ j)) (tvar 2) (tvar 1))) (tvar 2) (tcon Dt.non))) tnext)))))
theorem rd_number_in {ds : List Dt} {st : Sto} {Pd : VD} (h : spNumIn ds st Pd) : t_number_in (Ed Pd) (startD ["figures", "greatest", "number"] ds) st := by
  obtain ⟨z, g, rfl, ha, hl, hg, hP⟩ := h
  have hg' : g ≤ 65535 := by omega
  show t_number_in (Ed Pd) [some (.str z), some (.int (g : Int)), none] st
  refine seqIf (orB (b2 := decide ((figs g).length < (cs z).length)) (eqS fun P hp => hp) fun _ => ?_) ?_ ?_
  · intro P hp
    show z.length ≤ sizeLine ∧ ((g : Int).natAbs.log2 < 1920 ∧ ((fig (g : Int)).length ≤ sizeLine ∧ P (decide (((fig (g : Int)).length : Int) < (z.length : Int))) st))
    have hf : (fig (g : Int)).length ≤ 5 := fig_len (by decide) (by omega)
    refine ⟨hl, log_small hg', by rw [sizeLine_eq]; omega, ?_⟩
    rw [← len_cs, ← len_cs, cs_fig]
    have : decide (((figs g).length : Int) < ((cs z).length : Int)) = decide ((figs g).length < (cs z).length) := by
      by_cases e : (figs g).length < (cs z).length
      · rw [decide_eq_true e, decide_eq_true (by omega)]
      · rw [decide_eq_false e, decide_eq_false (by omega)]
    rw [this]; exact hp
  · intro q
    have hn : numIn z g = none := by
      unfold numIn
      rw [eq_empty] at q
      rcases (Bool.or_eq_true _ _).mp q with q | q
      · have : okFig (cs z) = false := by unfold okFig; rw [q]; rfl
        rw [this]; rfl
      · have : ¬ (cs z).length ≤ (figs g).length := by have := of_decide_eq_true q; omega
        rw [decide_eq_false this]; simp
    show Pd .non st
    have := hP st (.refl _)
    rw [hn] at this; exact this
  · intro q
    rw [eq_empty] at q
    obtain ⟨q1, q2⟩ := (Bool.or_eq_false_iff).mp q
    have q2 : (cs z).length ≤ (figs g).length := by have := of_decide_eq_false q2; omega
    refine seqIf (b := ((cs z).map fun c => !isDig c).any id) (st' := st ++ [.rw (((cs z).map fun c => !isDig c).map .bl)]) ?_ ?_ ?_
    · intro P hp
      show (z.cps.all fun c => decide (c < 128)) = true ∧ _
      refine ⟨ha, ?_⟩
      refine ⟨fun i ys s' => ys = (((cs z).take i).map fun c => !isDig c).map Dt.bl ∧ s' = st, ⟨rfl, rfl⟩, fun _ _ _ _ _ => trivial, ?_, ?_⟩
      · rintro i d ys s' hd ⟨rfl, rfl⟩
        obtain ⟨c, hc, rfl⟩ : ∃ c, (cs z)[i]? = some c ∧ d = .str ⟨#[c]⟩ := by
          unfold signsD at hd
          rw [List.getElem?_map] at hd
          cases e : z.cps.toList[i]? with
          | none => rw [e] at hd; cases hd
          | some c => rw [e] at hd; exact ⟨c, rfl, (Option.some.inj hd).symm⟩
        have hi : i < (cs z).length := (List.getElem?_eq_some_iff.mp hc).1
        refine ⟨?_, iteT ?_⟩
        · simp only [List.length_map, List.length_take]
          have : z.length ≤ sizeLine := hl
          rw [← len_cs] at this
          omega
        · show (_ ∧ _)
          refine ⟨?_, rfl⟩
          rw [sign_in, List.take_add_one, hc]
          simp
      · rintro ys s' ⟨rfl, rfl⟩
        have e : (signsD z).length = (cs z).length := by simp [signsD]
        rw [e, List.take_length]
        show (match (s' ++ [SO.rw (((cs z).map fun c => !isDig c).map Dt.bl)])[s'.length]? with
          | some o => ∃ bs : List Bool, o.items = bs.map .bl ∧ P (bs.any id) (s' ++ [SO.rw (((cs z).map fun c => !isDig c).map Dt.bl)])
          | none => False)
        rw [get_new]
        exact ⟨_, rfl, hp⟩
    · intro q3
      have hn : numIn z g = none := by
        unfold numIn
        have : okFig (cs z) = false := by
          unfold okFig
          have : (cs z).all isDig = false := by
            rw [List.any_map] at q3
            rw [List.any_eq_true] at q3
            obtain ⟨c, hc, h⟩ := q3
            rw [List.all_eq_false]
            exact ⟨c, hc, by simpa using h⟩
          rw [this]; simp
        rw [this]; rfl
      show Pd .non _
      have := hP _ (.app st (.rw (((cs z).map fun c => !isDig c).map .bl)))
      rw [hn] at this; exact this
    · intro q3
      have hall : (cs z).all isDig = true := by
        rw [List.any_map, List.any_eq_false] at q3
        rw [List.all_eq_true]
        intro c hc
        have := q3 c hc
        simpa using this
      obtain ⟨c, r, ez⟩ : ∃ c r, cs z = c :: r := by
        cases e : cs z with
        | nil => rw [e] at q1; simp at q1
        | cons c r => exact ⟨c, r, rfl⟩
      refine seqIf (andB (eqS (a := ⟨#[c]⟩) fun P hp => ?_) fun _ => neS fun P hp => hp) ?_ ?_
      · show z.length ≤ sizeLine ∧ _
        refine ⟨hl, ?_⟩
        have : atI z.cps.toList 0 = some c := by
          have e2 : z.cps.toList = c :: r := ez
          rw [e2]; exact atI_nat (j := 0) rfl
        rw [this]; exact hp
      · intro q4
        rw [head_zero ez, ne_zero] at q4
        have hn : numIn z g = none := by
          unfold numIn
          have : okFig (cs z) = false := by
            unfold okFig
            have e : ((cs z).head? == some 48) = (c == 48) := by rw [ez]; rfl
            rw [e, q4]; simp
          rw [this]; rfl
        show Pd .non _
        have := hP _ (.app st (.rw (((cs z).map fun c => !isDig c).map .bl)))
        rw [hn] at this; exact this
      · intro q4
        rw [head_zero ez, ne_zero] at q4
        have hok : okFig (cs z) = true := by
          unfold okFig
          have e : ((cs z).head? == some 48) = (c == 48) := by rw [ez]; rfl
          rw [e, q4, q1, hall]; rfl
        have hb := figs_back hok
        have hzf : z = fig ((dval (cs z) : Nat) : Int) := ext (by rw [cs_fig, hb])
        have hsm : dval (cs z) < 10 ^ 5 := by
          refine (Nat.length_toDigits_le_iff (b := 10) (by decide) (by decide)).mp ?_
          have h1 : (figs (dval (cs z))).length ≤ 5 := by
            rw [hb]; exact Nat.le_trans q2 (figs_len (by decide) (by omega))
          unfold figs at h1
          rw [List.length_map] at h1
          exact h1
        refine seqS ?_
        show ∃ n : Int, 0 ≤ n ∧ n < 10 ^ 10 ∧ z = Str.ofString (toString n) ∧ _
        refine ⟨((dval (cs z) : Nat) : Int), by omega, by omega, hzf, ?_⟩
        show (if decide (((dval (cs z) : Nat) : Int) ≤ (g : Int)) = true then Pd (.int ((dval (cs z) : Nat) : Int)) _ else Pd .non _)
        have hh := hP _ (.app st (.rw (((cs z).map fun c => !isDig c).map .bl)))
        unfold numIn at hh
        rw [hok, decide_eq_true q2] at hh
        by_cases hle : dval (cs z) ≤ g
        · rw [if_pos (decide_eq_true (by omega))]
          rw [decide_eq_true hle] at hh
          exact hh
        · rw [if_neg (by rw [decide_eq_false (by omega)]; exact Bool.false_ne_true)]
          rw [decide_eq_false hle] at hh
          exact hh
end K02
namespace K02
open PySem PySem.Spec PyProof.Rows L2 L3
section
variable {E : EndsD} {ρ : Rho} {st st' : Sto} {A C : TSD}
theorem ixL {i j n : Nat} {d : Dt} {o : SO} (hv : ρ[i]? = some (some (.lst n))) (hn : st[n]? = some o) (hd : o.items[j]? = some d) : ∀ P : VD, P d st → tbin rIxD (tvar i) (tcon (.int (j : Int))) ρ st P := by
  intro P hp
  simp only [tbin, tvar, tcon, hv]
  show (match seqOf st (.lst n) with
      | some xs => (match atI xs (j : Int) with
        | some d => P d st
        | none => False)
      | none => False)
  have e : seqOf st (.lst n) = some o.items := by
    show (st[n]?).map SO.items = _
    rw [hn]; rfl
  rw [e]
  show (match atI o.items (j : Int) with
        | some d => P d st
        | none => False)
  rw [atI_nat hd]
  exact hp
theorem lenL {i n : Nat} {o : SO} (hv : ρ[i]? = some (some (.lst n))) (hn : st[n]? = some o) : ∀ P : VD, P (.int (o.items.length : Int)) st → tcall rLen (tacons (tvar i) tanil) ρ st P := by
  intro P hp
  simp only [tcall, tacons, tanil, tvar, hv]
  show (match seqOf st (.lst n) with
    | some xs => P (.int xs.length) st
    | none => False)
  have e : seqOf st (.lst n) = some o.items := by
    show (st[n]?).map SO.items = _
    rw [hn]; rfl
  rw [e]
  exact hp
theorem isN {i : Nat} {o : Option Nat} (hv : ρ[i]? = some (some (optD o))) : ∀ P : Bool → Sto → Prop, P o.isNone st → tbool (tbin (rIsD false) (tvar i) (tcon .non)) ρ st P := by
  intro P hp
  simp only [tbool, tbin, tvar, tcon, hv]
  cases o with
  | none => exact hp
  | some n => exact hp
theorem seqA {N : TSD} {te : TD} {i : Nat} (h : te ρ st fun d s1 => N E (ρ.set i (some d)) s1) : tseq (tasg te (gname i)) N E ρ st := h
theorem numC {j n i : Nat} {g : Nat} {p : Str} {o : SO} {P : VD} (hv : ρ[i]? = some (some (.lst n))) (hn : st[n]? = some o) (hd : o.items[j]? = some (.str p)) (ha : Asc p) (hl : p.length ≤ sizeLine) (hg : g = 7 ∨ g = 63 ∨ g = 65535)
    (h : ∀ st', ExtS st st' → P (optD (numIn p g)) st') : tcall spNumIn (tacons (tbin rIxD (tvar i) (tcon (.int (j : Int)))) (tacons (tcon (.int (g : Int))) tanil)) ρ st P := by
  simp only [tcall, tacons, tanil]
  exact ixL hv hn hd _ ⟨p, g, rfl, ha, hl, hg, h⟩
end
noncomputable def headIs (ps : List Str) (f : Str → Bool) : Bool := match ps with
  | w :: _ => f w
  | [] => false
noncomputable abbrev R5 (z : Str) (n : Nat) (a b c : Option Dt) : Rho := [some (.str z), some (.lst n), a, b, c]
theorem word_in {w : Str} : K01.wordsD.any (fun z => eqD 0 z (.str w)) = (wordAt w).isSome := by
  unfold wordAt K01.wordsD
  rw [List.any_map]
  show K01.wordsS.any (fun z => z == w) = _
  cases h : K01.wordsS.findIdx? (· == w) with
  | none =>
    rw [List.findIdx?_eq_none_iff] at h
    rw [List.any_eq_false.mpr fun x hx => by rw [h x hx]; exact Bool.false_ne_true]; rfl
  | some k =>
    obtain ⟨hk, h1, _⟩ := List.findIdx?_eq_some_iff_getElem.mp h
    rw [List.any_eq_true.mpr ⟨_, List.getElem_mem hk, h1⟩]; rfl
theorem word_at {w : Str} {k : Nat} (h : wordAt w = some k) : k < 16 ∧ K01.wordOf (k : Int) = w := by
  unfold wordAt at h
  obtain ⟨hk, h1, _⟩ := List.findIdx?_eq_some_iff_getElem.mp h
  refine ⟨hk, ?_⟩
  unfold K01.wordOf
  rw [Int.toNat_natCast]
  have e : K01.wordsS[k] = w := eq_of_beq h1
  rw [List.getD_eq_getElem?_getD, List.getElem?_eq_getElem hk, Option.getD_some]
  exact e
noncomputable abbrev t_number_of_line : TSD := (tseq (tasg (tsplit (tvar 0) (tcon (Dt.str (Str.ofString " ")))) (gname 1)) (tseq (tifS (tandB (tbool (tbin (rEqD false) (tcall rLen (tacons (tvar 1) tanil)) (tcon (Dt.int 2)))) (tbool (tbin (rEqD false) (tbin rIxD (tvar 1) (tcon (Dt.int 0))) (tcon (Dt.str (Str.ofString "cell")))))) (tseq (tret (tcall spNumIn (tacons (tbin rIxD (tvar 1) (tcon (Dt.int 1))) (tacons (tcon (Dt.int 65535)) tanil)))) tnext) tnext) (tseq (tifS (torB (tbool (tbin (rEqD true) (tcall rLen (tacons (tvar 1) tanil)) (tcon (Dt.int 4)))) (tbool (tbin (rInD true) (tbin rIxD (tvar 1) (tcon (Dt.int 0))) (tcon (Dt.tup K01.wordsD))))) (tseq (tret (tcon Dt.non)) tnext) tnext) (tseq (tasg (tcall spNumIn (tacons (tbin rIxD (tvar 1) (tcon (Dt.int 1))) (tacons (tcon (Dt.int 7)) tanil))) (gname 2)) (tseq (tasg (tcall spNumIn (tacons (tbin rIxD (tvar 1) (tcon (Dt.int 2))) (tacons (tcon (Dt.int 7)) tanil))) (gname 3)) (tseq (tasg (tcall spNumIn (tacons (tbin rIxD (tvar 1) (tcon (Dt.int 3))) (tacons (tcon (Dt.int 63)) tanil))) (gname 4)) (tseq (tifS (torB (tbool (tbin (rIsD false) (tvar 2) (tcon Dt.non))) (torB (tbool (tbin (rIsD false) (tvar 3) (tcon Dt.non))) (tbool (tbin (rIsD false) (tvar 4) (tcon Dt.non))))) (tseq (tret (tcon Dt.non)) tnext) tnext) (tseq (tret (tcall K01.spNumberOf (tacons (ttup (tacons (tbin rIxD (tvar 1) (tcon (Dt.int 0))) (tacons (tvar 2) (tacons (tvar 3) (tacons (tvar 4) tanil))))) tanil))) tnext))))))))
theorem sep_one : (Str.ofString " ") = one 32 := by decide +kernel
theorem nl_one : (Str.ofString "\n") = one 10 := by decide +kernel
theorem rd_number_of_line {ds : List Dt} {st : Sto} {Pd : VD} (h : spLine ds st Pd) : t_number_of_line (Ed Pd) (startD ["line", "parts", "a", "b", "c"] ds) st := by
  obtain ⟨z, rfl, ha, hl, hP⟩ := h
  obtain ⟨ps, eps⟩ : ∃ ps, Txt.split z (one 32) = ps := ⟨_, rfl⟩
  have hA : ∀ p ∈ ps, Asc p ∧ p.length ≤ sizeLine := fun p hp => by
    rw [← eps] at hp
    obtain ⟨h1, h2⟩ := part_asc ha hp
    exact ⟨h1, by omega⟩
  have hpl : ps.length ≤ z.length + 2 := by rw [← eps]; exact split_len _ _
  show t_number_of_line (Ed Pd) [some (.str z), none, none, none, none] st
  refine seqS ?_
  show ((Str.ofString " ").length == 0) = false ∧ z.length ≤ sizeLine ∧ (Txt.split z (Str.ofString " ")).length ≤ sizeLine ∧ _ ∧ _
  rw [sep_one, eps]
  refine ⟨rfl, by omega, by omega, Nat.le_trans (between_len _ _) hl, ?_⟩
  show tseq _ _ (Ed Pd) (R5 z st.length none none none) (st ++ [SO.rw (ps.map .str)])
  have hn : (st ++ [SO.rw (ps.map .str)])[st.length]? = some (.rw (ps.map .str)) := get_new
  have hx : ExtS st (st ++ [SO.rw (ps.map .str)]) := .app _ _
  have hN : (∀ n, lineNum z ≠ some n) → ∀ st', ExtS st st' → Pd .non st' := fun hno st' hs => by
    have := hP st' hs
    cases e : lineNum z with
    | none => rw [e] at this; exact this
    | some n => exact absurd e (hno n)
  have hlen : ∀ P : VD, P (.int (ps.length : Int)) (st ++ [SO.rw (ps.map .str)]) → tcall rLen (tacons (tvar 1) tanil) (R5 z st.length none none none) (st ++ [SO.rw (ps.map .str)]) P := fun P hp => by
    refine lenL (i := 1) (n := st.length) rfl hn P ?_
    show P (.int ((ps.map Dt.str).length : Int)) _
    rw [List.length_map]; exact hp
  refine seqIf (andB (b2 := headIs ps fun w => w == ("cell" : Str)) (eqI hlen) fun h2 => ?_) ?_ ?_
  · rcases ps with _ | ⟨w, r⟩
    · simp at h2
    · exact eqS (a := w) (ixL (ρ := R5 z st.length none none none) (i := 1) (n := st.length) (j := 0) rfl hn rfl)
  · intro q
    obtain ⟨q1, q2⟩ := (Bool.and_eq_true _ _).mp q
    have q1 := of_decide_eq_true q1
    rcases ps with _ | ⟨w, _ | ⟨n, _ | ⟨x, r⟩⟩⟩
    · simp at q1
    · simp at q1
    rotate_left
    · simp at q1; omega
    · have q2 : (w == ("cell" : Str)) = true := q2
      have hw := hA n (by simp)
      refine numC (ρ := R5 z st.length none none none) (i := 1) (n := st.length) (j := 1) (g := 65535) rfl hn rfl hw.1 hw.2 (by simp) fun st' hs => ?_
      have := hP st' (hx.trans hs)
      unfold lineNum at this
      rw [eps] at this
      simp only [q2, if_true] at this
      exact this
  · intro q
    refine seqIf (orB (b2 := headIs ps fun w => !(wordAt w).isSome) (neI hlen) fun h2 => ?_) ?_ ?_
    · rcases ps with _ | ⟨w, r⟩
      · simp at h2
      · intro P hp
        simp only [tbool, tbin]
        refine ixL (ρ := R5 z st.length none none none) (i := 1) (n := st.length) (j := 0) rfl hn rfl _ ?_
        show okD 0 (.str w) = true ∧ K01.wordsD.all (okD 0) = true ∧ P (K01.wordsD.any (fun z => eqD 0 z (.str w)) != true) _
        refine ⟨rfl, by decide, ?_⟩
        rw [word_in]
        have e : ((wordAt w).isSome != true) = !(wordAt w).isSome := by cases (wordAt w).isSome <;> rfl
        rw [e]; exact hp
    · intro q3
      show Pd .non _
      refine hN (fun n hn => ?_) _ hx
      unfold lineNum at hn
      rw [eps] at hn
      rcases ps with _ | ⟨w, _ | ⟨a, _ | ⟨b, _ | ⟨c, _ | ⟨d, r⟩⟩⟩⟩⟩
      · cases hn
      · cases hn
      · have q : (decide (((2 : Nat) : Int) = 2) && (w == ("cell" : Str))) = false := q
        simp only [] at hn
        have q : (w == ("cell" : Str)) = false := by
          cases e : (w == ("cell" : Str)) with
          | false => rfl
          | true => rw [e] at q; exact absurd q (by decide)
        rw [q] at hn
        cases hn
      · cases hn
      · have q3 : (!decide (((4 : Nat) : Int) = 4) || !(wordAt w).isSome) = true := q3
        simp only [] at hn
        cases e : wordAt w with
        | none => rw [e] at hn; cases hn
        | some k => rw [e] at q3; simp at q3
      · cases hn
    · intro q3
      rcases ps with _ | ⟨w, _ | ⟨a, _ | ⟨b, _ | ⟨c, _ | ⟨d, r⟩⟩⟩⟩⟩
      · simp at q3
      · simp at q3
      · simp at q3
      · simp at q3
      rotate_left
      · simp at q3; omega
      have q3 : (!decide (((4 : Nat) : Int) = 4) || !(wordAt w).isSome) = false := q3
      obtain ⟨k, ek⟩ : ∃ k, wordAt w = some k := by
        cases e : wordAt w with
        | none => rw [e] at q3; simp at q3
        | some k => exact ⟨k, rfl⟩
      obtain ⟨hk, ew⟩ := word_at ek
      have hwa := hA a (by simp)
      have hwb := hA b (by simp)
      have hwc := hA c (by simp)
      have hL : lineNum z = (match numIn a 7, numIn b 7, numIn c 63 with
        | some a, some b, some c => some (k * 4096 + a * 512 + b * 64 + c)
        | _, _, _ => none) := by
        unfold lineNum
        rw [eps]
        simp only [ek] <;> rfl
      refine seqA (numC (ρ := R5 z st.length none none none) (i := 1) (n := st.length) (j := 1) (g := 7) rfl hn rfl hwa.1 hwa.2 (by simp) fun s1 x1 => ?_)
      show tseq _ _ (Ed Pd) (R5 z st.length (some (optD (numIn a 7))) none none) s1
      refine seqA (numC (ρ := R5 z st.length (some (optD (numIn a 7))) none none) (i := 1) (n := st.length) (j := 2) (g := 7) rfl (x1 _ _ hn) rfl hwb.1 hwb.2 (by simp) fun s2 x2 => ?_)
      show tseq _ _ (Ed Pd) (R5 z st.length (some (optD (numIn a 7))) (some (optD (numIn b 7))) none) s2
      refine seqA (numC (ρ := R5 z st.length (some (optD (numIn a 7))) (some (optD (numIn b 7))) none) (i := 1) (n := st.length) (j := 3) (g := 63) rfl (x2 _ _ (x1 _ _ hn)) rfl hwc.1 hwc.2 (by simp) fun s3 x3 => ?_)
      show tseq _ _ (Ed Pd) (R5 z st.length (some (optD (numIn a 7))) (some (optD (numIn b 7))) (some (optD (numIn c 63)))) s3
      have hx3 : ExtS st s3 := hx.trans (x1.trans (x2.trans x3))
      have hn3 := x3 _ _ (x2 _ _ (x1 _ _ hn))
      refine seqIf (orB (b1 := (numIn a 7).isNone) (b2 := (numIn b 7).isNone || (numIn c 63).isNone) ?_ fun _ => orB (b1 := (numIn b 7).isNone) (b2 := (numIn c 63).isNone) ?_ fun _ => ?_) ?_ ?_
      · exact isN (ρ := R5 z st.length (some (optD (numIn a 7))) (some (optD (numIn b 7))) (some (optD (numIn c 63)))) (i := 2) rfl
      · exact isN (ρ := R5 z st.length (some (optD (numIn a 7))) (some (optD (numIn b 7))) (some (optD (numIn c 63)))) (i := 3) rfl
      · exact isN (ρ := R5 z st.length (some (optD (numIn a 7))) (some (optD (numIn b 7))) (some (optD (numIn c 63)))) (i := 4) rfl
      · intro q4
        show Pd .non s3
        refine hN (fun n hn => ?_) _ hx3
        rw [hL] at hn
        cases e1 : numIn a 7 with
        | none => rw [e1] at hn; cases hn
        | some x =>
          cases e2 : numIn b 7 with
          | none => rw [e1, e2] at hn; cases hn
          | some y =>
            cases e3 : numIn c 63 with
            | none => rw [e1, e2, e3] at hn; cases hn
            | some v => rw [e1, e2, e3] at q4; cases q4
      · intro q4
        cases e1 : numIn a 7 with
        | none => rw [e1] at q4; simp at q4
        | some x =>
          cases e2 : numIn b 7 with
          | none => rw [e1, e2] at q4; simp at q4
          | some y =>
            cases e3 : numIn c 63 with
            | none => rw [e1, e2, e3] at q4; simp at q4
            | some v =>
              rw [e1, e2, e3] at hL
              have hh := hP s3 hx3
              rw [hL] at hh
              refine seqS ?_
              simp only [tret, tcall, ttup, tacons, tanil]
              refine ixL (ρ := R5 z st.length (some (optD (numIn a 7))) (some (optD (numIn b 7))) (some (optD (numIn c 63)))) (i := 1) (n := st.length) (j := 0) rfl hn3 rfl _ ?_
              refine ⟨by show 4 ≤ sizeLine; rw [sizeLine_eq]; decide, ?_⟩
              refine ⟨k, x, y, v, hk, by rw [ew]; rfl, ?_⟩
              have e : ((k * 4096 + x * 512 + y * 64 + v : Nat) : Int) = (k : Int) * 4096 + (x : Int) * 512 + (y : Int) * 64 + (v : Int) := by push_cast; rfl
              have hh : Pd (.int ((k * 4096 + x * 512 + y * 64 + v : Nat) : Int)) s3 := hh
              rw [e] at hh
              exact hh
end K02
namespace K02
open PySem L2 L3
structure PartOk (p : Str) : Prop where
  asc : Asc p
  len : p.length ≤ 5
  sp : 32 ∉ cs p
  nl : 10 ∉ cs p
theorem fig_part {n : Int} (h0 : 0 ≤ n) (h1 : n ≤ 65535) : PartOk (fig n) := by
  obtain ⟨k, rfl⟩ := Int.eq_ofNat_of_zero_le h0
  have hk : k ≤ 65535 := by omega
  exact ⟨fig_asc k, fig_len (by decide) (by omega), fig_free (by decide), fig_free (by decide)⟩
theorem word_all : K01.wordsS.all (fun p => (p.cps.all fun c => decide (c < 128)) && decide (p.length ≤ 5) && !((cs p).contains 32) && !((cs p).contains 10)) = true := by decide +kernel
theorem word_lt (k : Nat) (h : k < 16) : K01.wordOf (k : Int) ∈ K01.wordsS ∧ wordAt (K01.wordOf (k : Int)) = some k := by
  rcases k with _ | _ | _ | _ | _ | _ | _ | _ | _ | _ | _ | _ | _ | _ | _ | _ | k <;> first
    | omega
    | exact ⟨by unfold K01.wordOf; rw [Int.toNat_natCast]; decide +kernel, by unfold K01.wordOf; rw [Int.toNat_natCast]; decide +kernel⟩
theorem word_part (k : Nat) (h : k < 16) : PartOk (K01.wordOf (k : Int)) := by
  have := List.all_eq_true.mp word_all _ (word_lt k h).1
  simp only [Bool.and_eq_true, decide_eq_true_eq, Bool.not_eq_true', List.contains_eq_mem, decide_eq_false_iff_not] at this
  exact ⟨this.1.1.1, this.1.1.2, this.1.2, this.2⟩
theorem cell_part : PartOk "cell" := ⟨by unfold Asc; decide +kernel, by decide +kernel, by decide +kernel, by decide +kernel⟩
theorem join_has {c d : Nat} : ∀ {ps : List Str}, d ≠ c → (∀ p ∈ ps, d ∉ cs p) → d ∉ cs ((one c).join ps)
  | [], _, _ => by rw [Str.join.eq_def]; simp [Str.empty, cs]
  | [x], _, h => by rw [join_one]; exact h x (by simp)
  | x :: y :: r, hd, h => by
    rw [cs_join]
    intro q
    rcases List.mem_append.mp q with q | q
    · exact h x (by simp) q
    · rcases List.mem_cons.mp q with q | q
      · exact hd q
      · exact join_has hd (fun p hp => h p (List.mem_cons_of_mem _ hp)) q
end K02
namespace K02
open PySem PySem.Spec PyProof.Rows L2 L3
noncomputable abbrev t_read : TSD := (tseq (tasg (tlst tanil) (gname 1)) (tseq (tfor (ienum1 (tsplit (tvar 0) (tcon (Dt.str (Str.ofString "\n"))))) (gunpack 2 (gscons (gname 2) (gscons (gname 3) gsnil))) (tseq (tasg (tcall spLine (tacons (tvar 3) tanil)) (gname 4)) (tseq (tifS (tbool (tbin (rIsD false) (tvar 4) (tcon Dt.non))) (tseq tnever tnext) tnext) (tseq (tdrop (tappend (tvar 1) (tvar 4))) tnext)))) (tseq (tret (tcall rTuple (tacons (tvar 1) tanil))) tnext)))
noncomputable abbrev RR (z : Str) (c : Nat) (a b d : Option Dt) : Rho := [some (.str z), some (.lst c), a, b, d]
theorem rd_read {ds : List Dt} {st : Sto} {Pd : VD} (h : spRead ds st Pd) : t_read (Ed Pd) (startD ["text", "cells", "row", "line", "number"] ds) st := by
  obtain ⟨z, ns, rfl, ha, hl, hns, hP⟩ := h
  obtain ⟨ls, els⟩ : ∃ ls, Txt.split z (one 10) = ls := ⟨_, rfl⟩
  rw [els] at hns
  have hA : ∀ p ∈ ls, Asc p ∧ p.length + 2 ≤ sizeLine := fun p hp => by
    rw [← els] at hp
    obtain ⟨h1, h2⟩ := part_asc ha hp
    exact ⟨h1, by omega⟩
  have hll : ls.length ≤ z.length + 2 := by rw [← els]; exact split_len _ _
  have hnl : ns.length = ls.length := by
    have := congrArg List.length hns
    simpa using this.symm
  show t_read (Ed Pd) [some (.str z), none, none, none, none] st
  refine seqA ?_
  refine ⟨Nat.zero_le _, ?_⟩
  show tseq _ _ (Ed Pd) (RR z st.length none none none) (st ++ [SO.rw []])
  refine seqS ?_
  show ((Str.ofString "\n").length == 0) = false ∧ z.length ≤ sizeLine ∧ (Txt.split z (Str.ofString "\n")).length ≤ sizeLine ∧ _ ∧ _
  rw [nl_one, els]
  refine ⟨rfl, by omega, by omega, Nat.le_trans (between_len _ _) hl, ?_⟩
  have hn : ((st ++ [SO.rw []]) ++ [SO.rw (ls.map .str)])[(st ++ [SO.rw []]).length]? = some (.rw (ls.map .str)) := get_new
  show (match ((st ++ [SO.rw []]) ++ [SO.rw (ls.map .str)])[(st ++ [SO.rw []]).length]? with
    | some o => forW (enumD 1 o.items) (fun st' => (st'[(st ++ [SO.rw []]).length]?).map SO.items = some o.items) _ _ _ _ _
    | none => False)
  rw [hn]
  refine ⟨fun i ρ s => (∃ a b d, ρ = RR z st.length a b d) ∧ ExtS st s ∧ s[st.length]? = some (.rw ((ns.take i).map fun n : Nat => .int (n : Int))) ∧ s[(st ++ [SO.rw []]).length]? = some (.rw (ls.map .str)), ?_, ?_, ?_, ?_⟩
  · exact ⟨⟨none, none, none, rfl⟩, (ExtS.app _ _).trans (.app _ _), get_app get_new, hn⟩
  · rintro i ρ s hi ⟨_, _, _, h⟩
    rw [h]; rfl
  · rintro i d ρ s hd ⟨⟨a, b, e, rfl⟩, hx, hc, hlx⟩
    obtain ⟨d', ed, rfl⟩ := enum_get hd
    obtain ⟨p, hp, rfl⟩ : ∃ p, ls[i]? = some p ∧ d' = .str p := by
      have ed : (ls.map Dt.str)[i]? = some d' := ed
      rw [List.getElem?_map] at ed
      cases q : ls[i]? with
      | none => rw [q] at ed; cases ed
      | some p => rw [q] at ed; exact ⟨p, rfl, (Option.some.inj ed).symm⟩
    have hi : i < ls.length := (List.getElem?_eq_some_iff.mp hp).1
    obtain ⟨n, hn2⟩ : ∃ n, ns[i]? = some n := ⟨ns[i], by simp [hnl, hi]⟩
    have hln : lineNum p = some n := by
      have h1 : (ls.map lineNum)[i]? = some (lineNum p) := by rw [List.getElem?_map, hp]; rfl
      rw [hns, List.getElem?_map, hn2] at h1
      exact (Option.some.inj h1).symm
    have hpA := hA p (List.mem_of_getElem? hp)
    refine ⟨rfl, ?_⟩
    simp only [gscons, gname, gsnil]
    show tseq _ _ _ (RR z st.length (some (.int ((1 + i : Nat) : Int))) (some (.str p)) e) s
    refine seqA ?_
    refine ⟨p, rfl, hpA.1, hpA.2, fun s1 x1 => ?_⟩
    rw [hln]
    show tseq _ _ _ (RR z st.length (some (.int ((1 + i : Nat) : Int))) (some (.str p)) (some (optD (some n)))) s1
    refine seqIf (b := false) (isN (ρ := RR z st.length (some (.int ((1 + i : Nat) : Int))) (some (.str p)) (some (optD (some n)))) (i := 4) (o := some n) rfl) (fun q => by cases q) fun _ => ?_
    refine seqS ?_
    show (match s1[st.length]? with
      | some (.rw xs) => xs.length < sizeLine ∧ _
      | _ => False)
    rw [x1 _ _ hc]
    refine ⟨?_, ?_⟩
    · rw [List.length_map, List.length_take]; omega
    · refine ⟨⟨_, _, _, rfl⟩, fun j o ho => ?_, ?_, ?_⟩
      · have hj : j < st.length := lt_of_get ho
        exact get_set_ne (x1 _ _ (hx _ _ ho)) (by omega)
      · rw [get_set_self (x1 _ _ hc), List.take_add_one, hn2]
        simp
        rfl
      · exact get_set_ne (x1 _ _ hlx) (by simp)
  · rintro ρ s ⟨⟨a, b, e, rfl⟩, hx, hc, hlx⟩
    rw [enum_len] at hc
    have e1 : SO.items (.rw (ls.map .str)) = ls.map .str := rfl
    rw [e1, List.length_map, ← hnl, List.take_length] at hc
    show tseq _ _ (Ed Pd) _ s
    refine seqS ?_
    show (match (s[st.length]?).map SO.items with
      | some xs => Pd (.tup xs) s
      | none => False)
    rw [hc]
    exact hP s hx
end K02
namespace K04
open PySem L2 L3 K02
noncomputable abbrev nD (n : Nat) : Dt := .int (n : Int)
noncomputable def wParts (n : Nat) : List Str := [K01.wordOf ((n / 4096 : Nat) : Int), fig ((n / 512 % 8 : Nat) : Int), fig ((n / 64 % 8 : Nat) : Int), fig ((n % 64 : Nat) : Int)]
noncomputable def wrow (n : Nat) : Str := (one 32).join (wParts n)
theorem wp_ok {n : Nat} (h : n < 65536) : ∀ p ∈ wParts n, PartOk p := by
  intro p hp
  unfold wParts at hp
  simp only [List.mem_cons, List.not_mem_nil, or_false] at hp
  rcases hp with rfl | rfl | rfl | rfl
  · exact word_part _ (by omega)
  · exact fig_part (by omega) (by omega)
  · exact fig_part (by omega) (by omega)
  · exact fig_part (by omega) (by omega)
noncomputable def cParts (n : Nat) : List Str := ["cell", fig (n : Int)]
noncomputable def crow (n : Nat) : Str := (one 32).join (cParts n)
theorem cp_ok {n : Nat} (h : n < 65536) : ∀ p ∈ cParts n, PartOk p := by
  intro p hp
  unfold cParts at hp
  simp only [List.mem_cons, List.not_mem_nil, or_false] at hp
  rcases hp with rfl | rfl
  · exact cell_part
  · exact fig_part (by omega) (by omega)
structure TextOf (z : Str) (n : Nat) : Prop where
  asc : Asc z
  len : z.length ≤ 24
  nl : 10 ∉ cs z
  num : lineNum z = some n
theorem of_parts {ps : List Str} (h : ∀ p ∈ ps, PartOk p) (hl : ps.length ≤ 4) : Asc ((one 32).join ps) ∧ ((one 32).join ps).length ≤ 24 ∧ 10 ∉ cs ((one 32).join ps) := by
  refine ⟨join_asc (by decide) fun p hp => (h p hp).asc, ?_, join_has (by decide) fun p hp => (h p hp).nl⟩
  have := join_len (c := 32) (B := 5) (ps := ps) fun p hp => (h p hp).len
  omega
theorem w_text {n : Nat} (h : n < 65536) : TextOf (wrow n) n := by
  obtain ⟨h1, h2, h3⟩ := of_parts (wp_ok h) (by simp [wParts])
  refine ⟨h1, h2, h3, ?_⟩
  unfold lineNum wrow
  rw [split_join (by simp [wParts]) fun p hp => (wp_ok h p hp).sp]
  unfold wParts
  have hk : n / 4096 < 16 := by omega
  simp only [(word_lt (n / 4096) hk).2, numIn_fig (show n / 512 % 8 ≤ 7 by omega), numIn_fig (show n / 64 % 8 ≤ 7 by omega), numIn_fig (show n % 64 ≤ 63 by omega)]
  congr 1
  omega
theorem c_text {n : Nat} (h : n < 65536) : TextOf (crow n) n := by
  obtain ⟨h1, h2, h3⟩ := of_parts (cp_ok h) (by simp [cParts])
  refine ⟨h1, h2, h3, ?_⟩
  unfold lineNum crow
  rw [split_join (by simp [cParts]) fun p hp => (cp_ok h p hp).sp]
  unfold cParts
  show (if (("cell" : Str) == ("cell" : Str)) = true then numIn (fig (n : Int)) 65535 else none) = _
  rw [if_pos (by decide +kernel)]
  exact numIn_fig (by omega)
inductive Texts : List Str → List Nat → Prop
  | nil : Texts [] []
  | cons {z n zs ns} : TextOf z n → Texts zs ns → Texts (z :: zs) (n :: ns)
theorem Texts.length {zs : List Str} {ns : List Nat} (h : Texts zs ns) : zs.length = ns.length := by
  induction h with
  | nil => rfl
  | cons _ _ ih => simp [ih]
theorem Texts.take {zs : List Str} {ns : List Nat} (h : Texts zs ns) : ∀ k, Texts (zs.take k) (ns.take k) := by
  induction h with
  | nil => intro k; simp; exact .nil
  | cons a _ ih =>
    intro k
    cases k with
    | zero => exact .nil
    | succ k => exact .cons a (ih k)
theorem Texts.snoc {zs : List Str} {ns : List Nat} {z : Str} {n : Nat} (h : Texts zs ns) (a : TextOf z n) : Texts (zs ++ [z]) (ns ++ [n]) := by
  induction h with
  | nil => exact .cons a .nil
  | cons b _ ih => exact .cons b ih
theorem Texts.all {zs : List Str} {ns : List Nat} (h : Texts zs ns) : ∀ z ∈ zs, ∃ n, TextOf z n := by
  induction h with
  | nil => intro z hz; cases hz
  | cons a _ ih =>
    intro z hz
    rcases List.mem_cons.mp hz with rfl | hz
    · exact ⟨_, a⟩
    · exact ih z hz
theorem Texts.nums {zs : List Str} {ns : List Nat} (h : Texts zs ns) : zs.map lineNum = ns.map some := by
  induction h with
  | nil => rfl
  | cons a _ ih => simp [a.num, ih]
theorem Texts.rows {ns : List Nat} (h : ∀ n ∈ ns, n < 65536) : Texts (ns.map wrow) ns := by
  induction ns with
  | nil => exact .nil
  | cons n ns ih => exact .cons (w_text (h n (by simp))) (ih fun m hm => h m (List.mem_cons_of_mem _ hm))
theorem read_of {zs : List Str} {ns : List Nat} (h : Texts zs ns) (h1 : 1 ≤ ns.length) (h2 : ns.length ≤ 128) :
    Asc ((one 10).join zs) ∧ ((one 10).join zs).length + 2 ≤ sizeLine ∧ (Txt.split ((one 10).join zs) (one 10)).map lineNum = ns.map some := by
  have hl := h.length
  refine ⟨join_asc (by decide) fun p hp => let ⟨_, t⟩ := h.all p hp; t.asc, ?_, ?_⟩
  · have := join_len (c := 10) (B := 24) (ps := zs) fun p hp => let ⟨_, t⟩ := h.all p hp; t.len
    rw [sizeLine_eq]; omega
  · rw [split_join (by intro q; rw [q] at hl; simp at hl; omega) fun p hp => let ⟨_, t⟩ := h.all p hp; t.nl]
    exact h.nums
theorem join_ok {c : Nat} {zs : List Str} {ns : List Nat} (h : Texts zs ns) (h2 : ns.length ≤ 128) : JoinOk (one c) zs = true := by
  unfold JoinOk
  have hl := h.length
  rw [StrLaws.joinFits (B := 24)]
  · rfl
  · exact fun p hp => let ⟨_, t⟩ := h.all p hp; t.len
  · have : (one c).length = 1 := rfl
    rw [this, hl]; omega
noncomputable def spLineOf : RDL := fun ds st P => ∃ n : Nat, ds = [nD n] ∧ n < 65536 ∧ ∀ st', ExtS st st' → P (.str (wrow n)) st'
noncomputable def spShown : RDL := fun ds st P => ∃ ns : List Nat, ds = [.tup (ns.map nD)] ∧ (∀ n ∈ ns, n < 65536) ∧ ns.length ≤ 128 ∧ ∀ st', ExtS st st' → P (.str ((one 10).join (ns.map wrow))) st'
noncomputable def spText : RDL := spLineOf
noncomputable def spCells : RDL := fun ds st P => ∃ (sc : Nat) (ns : List Int), ds = [.lst sc] ∧ st[sc]? = some (.ro (ns.map .int)) ∧ ns.length ≤ 63 ∧ ∀ (cl : List Nat) st', ExtS st st' → 1 ≤ cl.length → cl.length ≤ 128 → (∀ n ∈ cl, n < 65536) → P (.tup (cl.map nD)) st'
end K04
namespace K02
open PySem PySem.Spec PyProof.Rows L2 L3
section
variable {st : Sto}
theorem ixV {n j : Nat} {d : Dt} {xs : List Dt} {P : VD} (hn : st[n]? = some (.rw xs)) (hd : xs[j]? = some d) (hp : P d st) : rIxD (.lst n) (.int (j : Int)) st P := by
  show (match seqOf st (.lst n) with
      | some xs => (match atI xs (j : Int) with
        | some d => P d st
        | none => False)
      | none => False)
  have e : seqOf st (.lst n) = some xs := by
    show (st[n]?).map SO.items = _
    rw [hn]; rfl
  rw [e]
  show (match atI xs (j : Int) with
        | some d => P d st
        | none => False)
  rw [atI_nat hd]
  exact hp
end
end K02
namespace K04
open PySem PySem.Spec PyProof.Rows L2 L3 K02
theorem out_nat {n : Nat} (h : n < 65536) : K01.outD (n : Int) = .tup [.str (K01.wordOf ((n / 4096 : Nat) : Int)), nD (n / 512 % 8), nD (n / 64 % 8), nD (n % 64)] := by
  unfold K01.outD
  have e1 : (n : Int) / 4096 % 16 = ((n / 4096 : Nat) : Int) := by omega
  have e2 : (n : Int) / 512 % 8 = ((n / 512 % 8 : Nat) : Int) := by omega
  have e3 : (n : Int) / 64 % 8 = ((n / 64 % 8 : Nat) : Int) := by omega
  have e4 : (n : Int) % 64 = ((n % 64 : Nat) : Int) := by omega
  rw [e1, e2, e3, e4]
theorem lg {n : Nat} (h : n < 65536) : ((n : Int)).natAbs.log2 < 1920 := log_small (by omega)
noncomputable abbrev t_line_of : TSD := (tseq (tret (tjoin (tcon (Dt.str (Str.ofString " "))) (tcomp (iseq (tcall K01.spSetOut (tacons (tvar 0) tanil))) (fun x st P => P true st) (tcall rStr (tacons (tvar 0) tanil)) []))) tnext)
noncomputable abbrev t_shown : TSD := (tseq (tret (tjoin (tcon (Dt.str (Str.ofString "\n"))) (tcomp (iseq (tvar 0)) (fun x st P => P true st) (tcall spLineOf (tacons (tvar 0) tanil)) []))) tnext)
noncomputable abbrev t__law_text : TSD := (tseq (tret (tjoin (tcon (Dt.str (Str.ofString " "))) (tlst (tacons (tbin rIxD (tcall K01.spWords tanil) (tbin rDiv (tvar 0) (tcon (Dt.int 4096)))) (tacons (tcall rStr (tacons (tbin rMod (tbin rDiv (tvar 0) (tcon (Dt.int 512))) (tcon (Dt.int 8))) tanil)) (tacons (tcall rStr (tacons (tbin rMod (tbin rDiv (tvar 0) (tcon (Dt.int 64))) (tcon (Dt.int 8))) tanil)) (tacons (tcall rStr (tacons (tbin rMod (tvar 0) (tcon (Dt.int 64))) tanil)) tanil))))))) tnext)
noncomputable abbrev t__law_cells : TSD := (tseq (tasg (tbin L3.rAdd (tsliceA (tvar 0) tonone (tosome (tcon (Dt.int 63)))) (tlst (tacons (tcall rLen (tacons (tvar 0) tanil)) tanil))) (gname 1)) (tseq (tasg (tlst tanil) (gname 2)) (tseq (tfor (irng1 (tbin rMul (tcon (Dt.int 8)) (tbin L3.rAdd (tcon (Dt.int 1)) (tbin rMod (tbin rDiv (tbin rIxD (tvar 1) (tcon (Dt.int 0))) (tcon (Dt.int 5))) (tcon (Dt.int 16)))))) (gname 3) (tseq (tasg (tbin rDiv (tbin rIxD (tvar 1) (tbin rMod (tvar 3) (tcall rLen (tacons (tvar 1) tanil)))) (tbin L3.rAdd (tcon (Dt.int 1)) (tbin rDiv (tvar 3) (tcall rLen (tacons (tvar 1) tanil))))) (gname 4)) (tseq (tifS (tbool (tbin (rEqD false) (tbin rMod (tbin rIxD (tvar 1) (tcon (Dt.int 0))) (tcon (Dt.int 5))) (tcon (Dt.int 1)))) (tseq (tasg (tbin rMod (tbin rMul (tbin L3.rAdd (tbin rMod (tvar 4) (tcon (Dt.int 2147483587))) (tvar 3)) (tcon (Dt.int 48271))) (tcon (Dt.int 2147483563))) (gname 4)) (tseq (tasg (tbin rDiv (tbin rMod (tbin rMul (tvar 4) (tvar 4)) (tcon (Dt.int 2147483543))) (tcon (Dt.int 7))) (gname 4)) tnext)) tnext) (tseq (tdrop (tappend (tvar 2) (tbin rMod (tvar 4) (tcon (Dt.int 65536))))) tnext)))) (tseq (tret (tcall rTuple (tacons (tvar 2) tanil))) tnext))))
theorem rd_line_of {ds : List Dt} {st : Sto} {Pd : VD} (h : spLineOf ds st Pd) : t_line_of (Ed Pd) (startD ["number"] ds) st := by
  obtain ⟨n, rfl, hn, hP⟩ := h
  show t_line_of (Ed Pd) [some (nD n)] st
  simp only [t_line_of, tseq, tret, tjoin, tcon, tcomp, iseq, tcall, tacons, tanil, tvar, List.getElem?_cons_zero, capρ, List.map_nil]
  refine ⟨(n : Int), rfl, ?_⟩
  rw [out_nat hn]
  refine ⟨fun i ys s' => ys = ((wParts n).take i).map Dt.str ∧ s' = st, ⟨rfl, rfl⟩, ?_, ?_, ?_⟩
  · rintro _ ys s' _ ⟨rfl, rfl⟩; rfl
  · rintro i d ys s' hd ⟨rfl, rfl⟩
    have hz : (4 : Nat) < sizeLine := by rw [sizeLine_eq]; decide
    rcases i with _ | _ | _ | _ | i
    · cases hd; exact ⟨by show 0 < sizeLine; omega, iteT ⟨rfl, rfl⟩⟩
    · cases hd; exact ⟨by show 1 < sizeLine; omega, iteT ⟨lg (by omega), rfl, rfl⟩⟩
    · cases hd; exact ⟨by show 2 < sizeLine; omega, iteT ⟨lg (by omega), rfl, rfl⟩⟩
    · cases hd; exact ⟨by show 3 < sizeLine; omega, iteT ⟨lg (by omega), rfl, rfl⟩⟩
    · cases hd
  · rintro ys s' ⟨rfl, rfl⟩
    rw [get_new]
    refine ⟨wParts n, rfl, ?_, ?_⟩
    · unfold JoinOk
      rw [StrLaws.joinFits (B := 5)]
      · rfl
      · exact fun p hp => (wp_ok hn p hp).len
      · rw [sep_one]; show 4 * 5 + 4 * 1 ≤ 16777216; decide
    · have eJ : Txt.join (Str.ofString " ") (wParts n) = wrow n := by
        unfold Txt.join wrow
        rw [StrLaws.glued_eq_join, sep_one]
      rw [eJ]
      exact hP _ (.app _ _)
theorem rd_shown {ds : List Dt} {st : Sto} {Pd : VD} (h : spShown ds st Pd) : t_shown (Ed Pd) (startD ["cells"] ds) st := by
  obtain ⟨ns, rfl, hn, hl, hP⟩ := h
  show t_shown (Ed Pd) [some (.tup (ns.map nD))] st
  simp only [t_shown, tseq, tret, tjoin, tcon, tcomp, iseq, tcall, tacons, tanil, tvar, List.getElem?_cons_zero, capρ, List.map_nil]
  refine ⟨fun i ys s' => ys = ((ns.take i).map wrow).map Dt.str ∧ ExtS st s', ⟨rfl, .refl _⟩, ?_, ?_, ?_⟩
  · rintro _ ys s' _ ⟨rfl, _⟩; rfl
  · rintro i d ys s' hd ⟨rfl, hx⟩
    obtain ⟨n, hi, rfl⟩ : ∃ n, ns[i]? = some n ∧ d = nD n := by
      rw [List.getElem?_map] at hd
      cases e : ns[i]? with
      | none => rw [e] at hd; cases hd
      | some n => rw [e] at hd; exact ⟨n, rfl, (Option.some.inj hd).symm⟩
    have hil := (List.getElem?_eq_some_iff.mp hi).1
    refine ⟨by simp only [List.length_map, List.length_take]; rw [sizeLine_eq]; omega, iteT ?_⟩
    refine ⟨n, rfl, hn n (List.mem_of_getElem? hi), fun s1 x1 => ⟨?_, hx.trans x1⟩⟩
    rw [List.take_add_one, hi]; simp
  · rintro ys s' ⟨rfl, hx⟩
    rw [List.length_map, List.take_length, get_new]
    refine ⟨ns.map wrow, rfl, by rw [nl_one]; exact join_ok (Texts.rows hn) hl, ?_⟩
    have eJ : Txt.join (Str.ofString "\n") (ns.map wrow) = (one 10).join (ns.map wrow) := by
      unfold Txt.join
      rw [StrLaws.glued_eq_join, nl_one]
    rw [eJ]
    exact hP _ (hx.trans (.app _ _))
theorem rd__law_text {ds : List Dt} {st : Sto} {Pd : VD} (h : spText ds st Pd) : t__law_text (Ed Pd) (startD ["number"] ds) st := by
  obtain ⟨n, rfl, hn, hP⟩ := h
  show t__law_text (Ed Pd) [some (nD n)] st
  simp only [t__law_text, tseq, tret, tjoin, tcon, tbin, tlst, tcall, tacons, tanil, tvar, List.getElem?_cons_zero, rStr, rMod, rDiv]
  refine ⟨rfl, fun st1 n1 x1 hw => ⟨cdiv (by decide) (by decide), ?_⟩⟩
  have e1 : (n : Int) / 4096 = ((n / 4096 : Nat) : Int) := by omega
  have e2 : (n : Int) / 512 % 8 = ((n / 512 % 8 : Nat) : Int) := by omega
  have e3 : (n : Int) / 64 % 8 = ((n / 64 % 8 : Nat) : Int) := by omega
  have e4 : (n : Int) % 64 = ((n % 64 : Nat) : Int) := by omega
  have hwk : K01.wordsD[n / 4096]? = some (.str (K01.wordOf ((n / 4096 : Nat) : Int))) := by
    unfold K01.wordsD K01.wordOf
    rw [List.getElem?_map, Int.toNat_natCast, List.getD_eq_getElem?_getD]
    have hk' : n / 4096 < K01.wordsS.length := by show n / 4096 < 16; omega
    rw [List.getElem?_eq_getElem hk']; rfl
  rw [e1, e2, e3, e4]
  refine ixV hw hwk ?_
  refine ⟨cdiv (by decide) (by decide), by decide, lg (by omega), cdiv (by decide) (by decide), by decide, lg (by omega), by decide, lg (by omega), by show 4 ≤ sizeLine; rw [sizeLine_eq]; decide, ?_⟩
  rw [get_new]
  refine ⟨wParts n, rfl, ?_, ?_⟩
  · unfold JoinOk
    rw [StrLaws.joinFits (B := 5)]
    · rfl
    · exact fun p hp => (wp_ok hn p hp).len
    · rw [sep_one]; show 4 * 5 + 4 * 1 ≤ 16777216; decide
  · have eJ : Txt.join (Str.ofString " ") (wParts n) = wrow n := by
      unfold Txt.join wrow
      rw [StrLaws.glued_eq_join, sep_one]
    rw [eJ]
    exact hP _ (x1.trans (.app _ _))
end K04
namespace K04
open PySem PySem.Spec PyProof.Rows L2 L3 K02
noncomputable def cb2 : TSD := (tseq (tdrop (tappend (tvar 2) (tbin rMod (tvar 4) (tcon (Dt.int 65536))))) tnext)
section
variable {ρ : Rho} {st : Sto} {P : VD} {r : RD2} {ta tb : TD} {x y : Dt}
theorem tbinL (h : tb ρ st fun y s2 => r x y s2 P) : tbin r (tcon x) tb ρ st P := h
theorem tbinR (h : ta ρ st fun x s2 => r x y s2 P) : tbin r ta (tcon y) ρ st P := h
end
noncomputable abbrev RC (sc a b : Nat) (k e : Option Dt) : Rho := [some (.lst sc), some (.lst a), some (.lst b), k, e]
theorem natD (x : Int) : Dt.int (x % 65536) = nD (x % 65536).toNat ∧ (x % 65536).toNat < 65536 := by
  refine ⟨?_, by omega⟩
  show Dt.int (x % 65536) = Dt.int (((x % 65536).toNat : Nat) : Int)
  rw [Int.toNat_of_nonneg (by omega)]
theorem rd__law_cells {ds : List Dt} {st : Sto} {Pd : VD} (h : spCells ds st Pd) : t__law_cells (Ed Pd) (startD ["script", "some", "found", "k", "cell"] ds) st := by
  obtain ⟨sc, ns, rfl, hsc, hl, hP⟩ := h
  show t__law_cells (Ed Pd) [some (.lst sc), none, none, none, none] st
  obtain ⟨cut, hcut⟩ : ∃ cut : List Int, L3.cutD (ns.map Dt.int) none (some 63) = cut.map .int := by
    refine ⟨(ns.drop (HT.sIx (ns.map Dt.int).length 0 none)).take (HT.sIx (ns.map Dt.int).length (ns.map Dt.int).length (some 63) - HT.sIx (ns.map Dt.int).length 0 none), ?_⟩
    unfold L3.cutD
    rw [List.map_take, List.map_drop]
  have hcl : cut.length ≤ 63 := by
    have := cut_len ns 63
    rw [hcut, List.length_map] at this
    omega
  refine seqA ?_
  simp only [tbin, tsliceA, tvar, tonone, tosome, tcon, tlst, tacons, tanil, tcall, List.getElem?_cons_zero, hsc]
  have hi : (SO.ro (ns.map Dt.int)).items = ns.map .int := rfl
  rw [hi, hcut]
  have hs1 : seqOf (st ++ [SO.rw (cut.map .int)]) (.lst sc) = some (ns.map .int) := by
    show ((st ++ [SO.rw (cut.map .int)])[sc]?).map SO.items = _
    rw [get_app hsc]; rfl
  show (match seqOf (st ++ [SO.rw (cut.map .int)]) (.lst sc) with | some xs => _ | none => _)
  rw [hs1]
  refine ⟨by show 1 ≤ sizeLine; rw [sizeLine_eq]; decide, ?_⟩
  simp only [L3.rAdd]
  have g1 : ((st ++ [SO.rw (cut.map .int)]) ++ [SO.rw [Dt.int ((ns.map Dt.int).length : Int)]])[st.length]? = some (.rw (cut.map .int)) := get_app get_new
  have g2 : ((st ++ [SO.rw (cut.map .int)]) ++ [SO.rw [Dt.int ((ns.map Dt.int).length : Int)]])[(st ++ [SO.rw (cut.map .int)]).length]? = some (.rw [Dt.int ((ns.map Dt.int).length : Int)]) := get_new
  rw [g1, g2]
  refine ⟨by rw [List.length_map, sizeLine_eq]; simp; omega, ?_⟩
  have e3 : cut.map Dt.int ++ [Dt.int ((ns.map Dt.int).length : Int)] = (cut ++ [((ns.length : Nat) : Int)]).map Dt.int := by simp
  rw [e3]
  obtain ⟨cl, ecl⟩ : ∃ cl, cut ++ [((ns.length : Nat) : Int)] = cl := ⟨_, rfl⟩
  have hne : cl ≠ [] := by rw [← ecl]; simp
  have hlc : cl.length ≤ 100 := by rw [← ecl]; simp; omega
  rw [ecl]
  have x2 : ExtS st ((st ++ [SO.rw (cut.map .int)]) ++ [SO.rw [Dt.int ((ns.map Dt.int).length : Int)]]) := (ExtS.app _ _).trans (.app _ _)
  generalize (st ++ [SO.rw (cut.map .int)]) ++ [SO.rw [Dt.int ((ns.map Dt.int).length : Int)]] = s2 at x2
  have h0 : 0 < cl.length := List.length_pos_iff.mpr hne
  obtain ⟨f, fr, hfr⟩ : ∃ f fr, cl = f :: fr := by
    cases cl with
    | nil => exact absurd rfl hne
    | cons f fr => exact ⟨f, fr, rfl⟩
  show tseq _ _ (Ed Pd) [some (.lst sc), some (.lst s2.length), none, none, none] (s2 ++ [SO.rw (cl.map Dt.int)])
  refine seqA ⟨Nat.zero_le _, ?_⟩
  obtain ⟨s3, es3⟩ : ∃ s3, s2 ++ [SO.rw (cl.map Dt.int)] = s3 := ⟨_, rfl⟩
  have hA : s3[s2.length]? = some (.rw (cl.map Dt.int)) := by rw [← es3]; exact get_new
  have x3 : ExtS st s3 := by rw [← es3]; exact x2.trans (.app _ _)
  have hlt : s2.length < s3.length := by rw [← es3]; simp
  rw [es3]
  show tseq _ _ (Ed Pd) (RC sc s2.length s3.length none none) (s3 ++ [SO.rw []])
  have x4 : ExtS st (s3 ++ [SO.rw []]) := x3.trans (.app _ _)
  have hA4 : (s3 ++ [SO.rw []])[s2.length]? = some (.rw (cl.map Dt.int)) := get_app hA
  have hB4 : (s3 ++ [SO.rw []])[s3.length]? = some (.rw []) := get_new
  generalize hs4 : s3 ++ [SO.rw []] = s4 at x4 hA4 hB4
  generalize ha : s2.length = a at *
  generalize hb : s3.length = b at *
  have hst : st.length ≤ b := by
    rcases Nat.lt_or_ge b st.length with q | q
    · have h5 := x3 b st[b] (by simp [q])
      have := (List.getElem?_eq_some_iff.mp h5).1
      omega
    · exact q
  have ix0 : ∀ (s : Sto) (ρ : Rho) (P : VD), s[a]? = some (.rw (cl.map Dt.int)) → ρ[1]? = some (some (.lst a)) → P (.int f) s → tbin rIxD (tvar 1) (tcon (Dt.int 0)) ρ s P := fun s ρ P h1 h2 hp =>
    ixL (ρ := ρ) (i := 1) (n := a) (j := 0) (d := .int f) h2 h1 (by rw [hfr]; rfl) P hp
  obtain ⟨m, hm, hm1, hm2⟩ : ∃ m : Nat, 8 * (1 + f / 5 % 16) = (m : Int) ∧ 8 ≤ m ∧ m ≤ 128 := ⟨(8 * (1 + f / 5 % 16)).toNat, by omega, by omega, by omega⟩
  refine seqS ?_
  show tbin rMul (tcon (Dt.int 8)) (tbin L3.rAdd (tcon (Dt.int 1)) (tbin rMod (tbin rDiv (tbin rIxD (tvar 1) (tcon (Dt.int 0))) (tcon (Dt.int 5))) (tcon (Dt.int 16)))) (RC sc a b none none) s4 _
  refine tbinL (tbinL (tbinR (tbinR (ix0 s4 (RC sc a b none none) _ hA4 rfl ?_))))
  refine ⟨cdiv (by decide) (by decide), by decide, ?_⟩
  simp only [L3.rAdd]
  refine ⟨cmul_l (by decide) (by decide), ?_⟩
  rw [hm]
  refine ⟨by omega, by omega, ?_⟩
  rw [Int.toNat_natCast]
  refine ⟨fun k ρ s => (∃ k' e, ρ = RC sc a b k' e) ∧ ExtS st s ∧ s[a]? = some (.rw (cl.map Dt.int)) ∧ ∃ vs : List Nat, vs.length = k ∧ (∀ n ∈ vs, n < 65536) ∧ s[b]? = some (.rw (vs.map nD)), ⟨⟨_, _, rfl⟩, x4, hA4, [], rfl, (by intro n hn; cases hn), hB4⟩, fun _ _ _ _ _ => trivial, ?_, ?_⟩
  · rintro k d ρ s hd ⟨⟨k', e, rfl⟩, hx, hA', vs, hvl, hvs, hB'⟩
    obtain ⟨hk, rfl⟩ := range_get hd
    rw [Int.zero_add]
    show tseq _ _ _ (RC sc a b (some (nD k)) e) s
    have hsq : seqOf s (.lst a) = some (cl.map .int) := by
      show (s[a]?).map SO.items = _
      rw [hA']; rfl
    have hkm : k % cl.length < cl.length := Nat.mod_lt _ h0
    refine seqA ?_
    simp only [tcall, tacons, tanil, tbin, tvar, tcon, List.getElem?_cons_zero, List.getElem?_cons_succ, rLen, hsq, List.length_map, rMod, rDiv]
    refine ⟨by omega, ?_⟩
    have e1 : ((k : Int) % (cl.length : Int)) = ((k % cl.length : Nat) : Int) := (Int.natCast_emod k cl.length).symm
    rw [e1]
    refine ixV (d := .int (cl.getD (k % cl.length) 0)) hA' ?_ ?_
    · rw [List.getElem?_map, List.getD_eq_getElem?_getD, List.getElem?_eq_getElem hkm]; rfl
    simp only [hsq, List.length_map, L3.rAdd]
    have e2 : ((k : Int) / (cl.length : Int)) = ((k / cl.length : Nat) : Int) := (Int.natCast_ediv k cl.length).symm
    have hkd : k / cl.length ≤ k := Nat.div_le_self _ _
    rw [e2]
    generalize k / cl.length = kq at hkd
    refine ⟨cdiv (by omega) (by omega), cdiv (by omega) (by omega), ?_⟩
    generalize cl.getD (k % cl.length) 0 / (1 + (kq : Int)) = v
    show tseq _ _ _ (RC sc a b (some (nD k)) (some (.int v))) s
    have fin : ∀ (v : Int) (E : EndsD), (∀ ρ s, ((∃ k' e, ρ = RC sc a b k' e) ∧ ExtS st s ∧ s[a]? = some (.rw (cl.map Dt.int)) ∧ ∃ vs : List Nat, vs.length = k + 1 ∧ (∀ n ∈ vs, n < 65536) ∧ s[b]? = some (.rw (vs.map nD))) → E.nx ρ s) → cb2 E (RC sc a b (some (nD k)) (some (.int v))) s := fun v E hE => by
      simp only [cb2, tseq, tdrop, tappend, tvar, tbin, tcon, rMod, List.getElem?_cons_zero, List.getElem?_cons_succ, tnext]
      refine ⟨by decide, ?_⟩
      rw [hB']
      refine ⟨by rw [List.length_map, sizeLine_eq]; omega, hE _ _ ⟨⟨_, _, rfl⟩, fun j o ho => ?_, get_set_ne hA' (by omega), vs ++ [(v % 65536).toNat], by simp [hvl], ?_, ?_⟩⟩
      · have hj : j < st.length := lt_of_get ho
        exact get_set_ne (hx _ _ ho) (by omega)
      · intro n hn
        rcases List.mem_append.mp hn with hn | hn
        · exact hvs n hn
        · have : n = (v % 65536).toNat := by simpa using hn
          rw [this]; exact (natD v).2
      · rw [get_set_self hB', List.map_append, (natD v).1]; rfl
    refine seqIf (eqI (a := f % 5) (b := 1) ?_) ?_ ?_
    · intro P hp
      exact ix0 s _ _ hA' rfl ⟨by decide, hp⟩
    · intro q
      refine seqA ?_
      show 0 < (2147483587 : Int) ∧ _
      refine ⟨by decide, ?_⟩
      refine ⟨cmul_r (by decide) (by decide), by decide, ?_⟩
      refine seqA ?_
      refine ⟨cmul_l (Int.emod_nonneg _ (by decide)) (Int.lt_trans (Int.emod_lt_of_pos _ (by decide)) (by decide)), by decide, cdiv (by decide) (by decide), ?_⟩
      exact fin _ _ fun _ _ h => h
    · intro q
      exact fin v _ fun _ _ h => h
  · rintro ρ s ⟨⟨k', e, rfl⟩, hx, hA', vs, hvl, hvs, hB'⟩
    rw [range_len] at hvl
    show (match (s[b]?).map SO.items with
      | some xs => Pd (.tup xs) s
      | none => False)
    rw [hB']
    exact hP vs s hx (by omega) (by omega) hvs
end K04
namespace K04
open PySem PySem.Spec PyProof.Rows L2 L3 K02
noncomputable def Gv (t : TD) (ρ : Rho) (st : Sto) (x : Dt) : Prop := ∀ Q : VD, (∀ s, ExtS st s → Q x s) → t ρ st Q
noncomputable def Fa (c : TBD) (ρ : Rho) (st : Sto) : Prop := ∀ P : Bool → Sto → Prop, (∀ s, ExtS st s → P false s) → c ρ st P
section
variable {ρ : Rho} {st : Sto} {x : Dt} {ta tb te : TD} {c c1 c2 : TBD} {E : EndsD} {A N : TSD}
theorem gv_var {i : Nat} (h : ρ[i]? = some (some x)) : Gv (tvar i) ρ st x := fun Q hq => by
  simp only [tvar, h]; exact hq st (.refl _)
theorem fa_ne (ha : Gv ta ρ st x) (hb : ∀ s, ExtS st s → Gv tb ρ s x) (ok : okD 8 x = true) (hx : ∀ n, x ≠ .lst n) : Fa (tbool (tbin (rEqD true) ta tb)) ρ st := fun P hp => by
  simp only [tbool, tbin]
  refine ha _ fun s1 x1 => hb s1 x1 _ fun s2 x2 => ?_
  have : rEqD true x x s2 = fun P => okD 8 x = true ∧ okD 8 x = true ∧ P (.bl (eqD 8 x x != true)) s2 := by
    funext P
    cases x <;> first | rfl | exact absurd rfl (hx _)
  rw [this]
  refine ⟨ok, ok, ?_⟩
  rw [eqD_self ok]
  exact hp s2 (x1.trans x2)
theorem fa_or (h1 : Fa c1 ρ st) (h2 : ∀ s, ExtS st s → Fa c2 ρ s) : Fa (torB c1 c2) ρ st := fun P hp => by
  unfold torB
  exact h1 _ fun s1 x1 => iteF (h2 s1 x1 _ fun s2 x2 => hp s2 (x1.trans x2))
theorem fa_str {z : Str} {i : Nat} (h : ρ[i]? = some (some (.str z))) : Fa (tnotB (tbool (tcall rIsInst (tacons (tvar i) (tacons (tcon (Dt.ty "str")) tanil))))) ρ st := fun P hp => by
  simp only [tnotB, tbool, tcall, tacons, tanil, tvar, tcon, h]
  exact ⟨.inr (.inr (.inl rfl)), hp st (.refl _)⟩
theorem seqFa (h : Fa c ρ st) (q : ∀ s, ExtS st s → N E ρ s) : tseq (tifS c A tnext) N E ρ st := h _ fun s1 x1 => iteF (q s1 x1)
theorem gv_read {zs : List Str} {ns : List Nat} (h : Gv te ρ st (.str ((one 10).join zs))) (hT : Texts zs ns) (h1 : 1 ≤ ns.length) (h2 : ns.length ≤ 128) : Gv (tcall K02.spRead (tacons te tanil)) ρ st (.tup (ns.map nD)) := fun Q hq => by
  simp only [tcall, tacons, tanil]
  obtain ⟨r1, r2, r3⟩ := read_of hT h1 h2
  exact h _ fun s1 x1 => ⟨_, ns, rfl, r1, r2, r3, fun s2 x2 => hq s2 (x1.trans x2)⟩
theorem gv_shown {ns : List Nat} (h : Gv te ρ st (.tup (ns.map nD))) (hn : ∀ n ∈ ns, n < 65536) (h2 : ns.length ≤ 128) : Gv (tcall spShown (tacons te tanil)) ρ st (.str ((one 10).join (ns.map wrow))) := fun Q hq => by
  simp only [tcall, tacons, tanil]
  exact h _ fun s1 x1 => ⟨ns, rfl, hn, h2, fun s2 x2 => hq s2 (x1.trans x2)⟩
theorem nl_join {zs : List Str} {ns : List Nat} {n : Nat} {s : Sto} {Q : VD} (hn : s[n]? = some (.rw (zs.map .str))) (hT : Texts zs ns) (h2 : ns.length ≤ 128) (hq : Q (.str ((one 10).join zs)) s) :
    (match s[n]? with
      | some so => ∃ zs : List Str, so.items = zs.map .str ∧ JoinOk (Str.ofString "\n") zs = true ∧ Q (.str (Txt.join (Str.ofString "\n") zs)) s
      | none => False) := by
  rw [hn]
  refine ⟨zs, rfl, by rw [nl_one]; exact join_ok hT h2, ?_⟩
  have eJ : Txt.join (Str.ofString "\n") zs = (one 10).join zs := by
    unfold Txt.join
    rw [StrLaws.glued_eq_join, nl_one]
  rw [eJ]; exact hq
theorem gv_joinV {zs : List Str} {ns : List Nat} {n i : Nat} (hv : ρ[i]? = some (some (.lst n))) (hn : st[n]? = some (.rw (zs.map .str))) (hT : Texts zs ns) (h2 : ns.length ≤ 128) : Gv (tjoin (tcon (.str (Str.ofString "\n"))) (tvar i)) ρ st (.str ((one 10).join zs)) := fun Q hq => by
  simp only [tjoin, tcon, tvar, hv]
  exact nl_join hn hT h2 (hq st (.refl _))
end
theorem cut_takeS {xs : List Str} {k : Nat} : L3.cutD (xs.map Dt.str) none (some (k : Int)) = (xs.take k).map Dt.str := by
  unfold L3.cutD
  rw [HT.sIx_nat, HT.sIx_none]
  simp only [List.drop_zero, List.length_map, Nat.sub_zero]
  rw [← List.map_take]
  congr 1
  rcases Nat.le_total k xs.length with h | h
  · rw [Nat.min_eq_left h]
  · rw [Nat.min_eq_right h, List.take_of_length_le h, List.take_length]
theorem cut_takeN {xs : List Nat} {k : Nat} : L3.cutD (xs.map nD) none (some (k : Int)) = (xs.take k).map nD := by
  unfold L3.cutD
  rw [HT.sIx_nat, HT.sIx_none]
  simp only [List.drop_zero, List.length_map, Nat.sub_zero]
  rw [← List.map_take]
  congr 1
  rcases Nat.le_total k xs.length with h | h
  · rw [Nat.min_eq_left h]
  · rw [Nat.min_eq_right h, List.take_of_length_le h, List.take_length]
theorem okN (ns : List Nat) : okD 8 (.tup (ns.map nD)) = true := by
  show (ns.map nD).all (okD 7) = true
  rw [List.all_map, List.all_eq_true]
  intro n _; rfl
noncomputable abbrev t_law : TSD := (tseq (tasg (tcall spCells (tacons (tvar 0) tanil)) (gname 1)) (tseq (tasg (tjoin (tcon (Dt.str (Str.ofString "\n"))) (tcomp (iseq (tvar 1)) (fun x st P => P true st) (tcall spText (tacons (tvar 0) tanil)) [])) (gname 2)) (tseq (tasg (tcall rTuple (tacons (tcall rList (tacons (tvar 1) tanil)) tanil)) (gname 3)) (tseq (tasg (tcall spShown (tacons (tvar 3) tanil)) (gname 4)) (tseq (tifS (torB (tnotB (tbool (tcall rIsInst (tacons (tvar 4) (tacons (tcon (Dt.ty "str")) tanil))))) (torB (tbool (tbin (rEqD true) (tvar 4) (tvar 2))) (tbool (tbin (rEqD true) (tvar 3) (tvar 1))))) (tseq (tret (tcon (Dt.bl false))) tnext) tnext) (tseq (tifS (tbool (tbin (rEqD true) (tcall K02.spRead (tacons (tvar 4) tanil)) (tvar 1))) (tseq (tret (tcon (Dt.bl false))) tnext) tnext) (tseq (tasg (tlst tanil) (gname 5)) (tseq (tfor (ienumT (tvar 1)) (gunpack 2 (gscons (gname 6) (gscons (gname 7) gsnil))) (tseq (tdrop (tappend (tvar 5) (tbin rIxD (tlst (tacons (tcall spText (tacons (tvar 7) tanil)) (tacons (tbin L3.rAdd (tcon (Dt.str (Str.ofString "cell "))) (tcall rStr (tacons (tvar 7) tanil))) tanil))) (tbin rMod (tbin L3.rAdd (tvar 7) (tbin rMul (tvar 6) (tbin rIxD (tvar 1) (tcon (Dt.int 0))))) (tcon (Dt.int 2)))))) tnext)) (tseq (tasg (tbin L3.rAdd (tcon (Dt.int 1)) (tbin rMod (tbin rIxD (tvar 1) (tneg (tcon (Dt.int 1)))) (tcall rLen (tacons (tvar 1) tanil)))) (gname 8)) (tseq (tifS (torB (tbool (tbin (rEqD true) (tcall spShown (tacons (tcall K02.spRead (tacons (tjoin (tcon (Dt.str (Str.ofString "\n"))) (tvar 5)) tanil)) tanil)) (tvar 2))) (tbool (tbin (rEqD true) (tcall K02.spRead (tacons (tjoin (tcon (Dt.str (Str.ofString "\n"))) (tsliceA (tvar 5) tonone (tosome (tvar 8)))) tanil)) (tsliceA (tvar 1) tonone (tosome (tvar 8)))))) (tseq (tret (tcon (Dt.bl false))) tnext) tnext) (tseq (tret (tbin (rEqD false) (tcall rTuple (tacons (tcomp (iseq (tvar 1)) (fun x st P => P true st) (tcall K01.spNumberOf (tacons (tcall K01.spSetOut (tacons (tvar 0) tanil)) tanil)) []) tanil)) (tvar 1))) tnext)))))))))))
noncomputable def lawMix : TSD := (tseq (tasg (tlst tanil) (gname 5)) (tseq (tfor (ienumT (tvar 1)) (gunpack 2 (gscons (gname 6) (gscons (gname 7) gsnil))) (tseq (tdrop (tappend (tvar 5) (tbin rIxD (tlst (tacons (tcall spText (tacons (tvar 7) tanil)) (tacons (tbin L3.rAdd (tcon (Dt.str (Str.ofString "cell "))) (tcall rStr (tacons (tvar 7) tanil))) tanil))) (tbin rMod (tbin L3.rAdd (tvar 7) (tbin rMul (tvar 6) (tbin rIxD (tvar 1) (tcon (Dt.int 0))))) (tcon (Dt.int 2)))))) tnext)) (tseq (tasg (tbin L3.rAdd (tcon (Dt.int 1)) (tbin rMod (tbin rIxD (tvar 1) (tneg (tcon (Dt.int 1)))) (tcall rLen (tacons (tvar 1) tanil)))) (gname 8)) (tseq (tifS (torB (tbool (tbin (rEqD true) (tcall spShown (tacons (tcall K02.spRead (tacons (tjoin (tcon (Dt.str (Str.ofString "\n"))) (tvar 5)) tanil)) tanil)) (tvar 2))) (tbool (tbin (rEqD true) (tcall K02.spRead (tacons (tjoin (tcon (Dt.str (Str.ofString "\n"))) (tsliceA (tvar 5) tonone (tosome (tvar 8)))) tanil)) (tsliceA (tvar 1) tonone (tosome (tvar 8)))))) (tseq (tret (tcon (Dt.bl false))) tnext) tnext) (tseq (tret (tbin (rEqD false) (tcall rTuple (tacons (tcomp (iseq (tvar 1)) (fun x st P => P true st) (tcall K01.spNumberOf (tacons (tcall K01.spSetOut (tacons (tvar 0) tanil)) tanil)) []) tanil)) (tvar 1))) tnext)))))
noncomputable def lawMB : TSD := (tseq (tdrop (tappend (tvar 5) (tbin rIxD (tlst (tacons (tcall spText (tacons (tvar 7) tanil)) (tacons (tbin L3.rAdd (tcon (Dt.str (Str.ofString "cell "))) (tcall rStr (tacons (tvar 7) tanil))) tanil))) (tbin rMod (tbin L3.rAdd (tvar 7) (tbin rMul (tvar 6) (tbin rIxD (tvar 1) (tcon (Dt.int 0))))) (tcon (Dt.int 2)))))) tnext)
noncomputable def lawEnd : TSD := (tseq (tasg (tbin L3.rAdd (tcon (Dt.int 1)) (tbin rMod (tbin rIxD (tvar 1) (tneg (tcon (Dt.int 1)))) (tcall rLen (tacons (tvar 1) tanil)))) (gname 8)) (tseq (tifS (torB (tbool (tbin (rEqD true) (tcall spShown (tacons (tcall K02.spRead (tacons (tjoin (tcon (Dt.str (Str.ofString "\n"))) (tvar 5)) tanil)) tanil)) (tvar 2))) (tbool (tbin (rEqD true) (tcall K02.spRead (tacons (tjoin (tcon (Dt.str (Str.ofString "\n"))) (tsliceA (tvar 5) tonone (tosome (tvar 8)))) tanil)) (tsliceA (tvar 1) tonone (tosome (tvar 8)))))) (tseq (tret (tcon (Dt.bl false))) tnext) tnext) (tseq (tret (tbin (rEqD false) (tcall rTuple (tacons (tcomp (iseq (tvar 1)) (fun x st P => P true st) (tcall K01.spNumberOf (tacons (tcall K01.spSetOut (tacons (tvar 0) tanil)) tanil)) []) tanil)) (tvar 1))) tnext)))
noncomputable abbrev RL (a b c d e f g h : Option Dt) : Rho := [some (.lst 0), a, b, c, d, e, f, g, h]
theorem rd_end {Pd : VD} {s : Sto} {cl : List Nat} {zs : List Str} {m : Nat} {c d f g h : Option Dt} (hc : ∀ n ∈ cl, n < 65536) (h1 : 1 ≤ cl.length) (h2 : cl.length ≤ 128) (hm : s[m]? = some (.rw (zs.map .str))) (hT : Texts zs cl) (hP : ∀ st', Pd (.bl true) st') :
    lawEnd (Ed Pd) (RL (some (.tup (cl.map nD))) (some (.str ((one 10).join (cl.map wrow)))) c d (some (.lst m)) f g h) s := by
  show tseq _ _ (Ed Pd) _ s
  refine seqA ?_
  obtain ⟨l, hl⟩ : ∃ l, cl.getLast? = some l := ⟨cl.getLast (by intro q; rw [q] at h1; simp at h1), List.getLast?_eq_some_getLast _⟩
  obtain ⟨init, hin⟩ : ∃ init, cl = init ++ [l] := by
    have := List.getLast?_eq_some_iff.mp hl
    exact this
  have hat : atI (cl.map nD) (-1) = some (nD l) := by
    rw [hin, List.map_append]; exact atI_last _ _
  have hmod := Nat.mod_lt l (show cl.length > 0 by omega)
  simp only [tbin, tcon, tvar, tneg, tcall, tacons, tanil, List.getElem?_cons_zero, List.getElem?_cons_succ]
  show (match atI (cl.map nD) (-1) with
    | some d => rLen _ _ _
    | none => False)
  rw [hat]
  show 0 < ((cl.map nD).length : Int) ∧ _
  rw [List.length_map]
  refine ⟨by omega, ?_⟩
  have e1 : (l : Int) % (cl.length : Int) = ((l % cl.length : Nat) : Int) := (Int.natCast_emod l cl.length).symm
  simp only [L3.rAdd]
  rw [e1]
  generalize l % cl.length = q at hmod
  have e2 : (1 : Int) + (q : Int) = ((q + 1 : Nat) : Int) := by omega
  rw [e2]
  show tseq _ _ (Ed Pd) (RL (some (.tup (cl.map nD))) (some (.str ((one 10).join (cl.map wrow)))) c d (some (.lst m)) f g (some (.int ((q + 1 : Nat) : Int)))) s
  refine seqFa (fa_or (fa_ne (x := .str ((one 10).join (cl.map wrow))) ?_ (fun s1 x1 => gv_var rfl) rfl (by intro n h; cases h)) fun s1 x1 => fa_ne (x := .tup ((cl.take (q + 1)).map nD)) ?_ (fun s2 x2 => ?_) (okN _) (by intro n h; cases h)) fun s1 x1 => ?_
  · exact gv_shown (gv_read (gv_joinV (i := 5) (ρ := RL (some (.tup (cl.map nD))) (some (.str ((one 10).join (cl.map wrow)))) c d (some (.lst m)) f g (some (.int ((q + 1 : Nat) : Int)))) rfl hm hT h2) hT h1 h2) hc h2
  · have hTt := hT.take (q + 1)
    have hl2 : (cl.take (q + 1)).length = q + 1 := by rw [List.length_take]; omega
    refine gv_read (zs := zs.take (q + 1)) ?_ hTt (by omega) (by omega)
    intro Q hq
    simp only [tjoin, tcon, tsliceA, tvar, tonone, tosome, List.getElem?_cons_zero, List.getElem?_cons_succ, x1 _ _ hm]
    have hit : (SO.rw (zs.map Dt.str)).items = zs.map Dt.str := rfl
    simp only [hit]
    rw [cut_takeS]
    exact nl_join get_new hTt (by omega) (hq _ (.app _ _))
  · intro Q hq
    simp only [tsliceA, tvar, tonone, tosome, List.getElem?_cons_zero, List.getElem?_cons_succ]
    rw [cut_takeN]
    exact hq _ (.refl _)
  · refine seqS ?_
    simp only [tret, tbin, tcall, tacons, tanil, tcomp, iseq, tvar, List.getElem?_cons_zero, List.getElem?_cons_succ, seqOf, capρ, List.map_nil]
    refine ⟨fun i ys s' => ys = (cl.take i).map nD ∧ s' = s1, ⟨rfl, rfl⟩, ?_, ?_, ?_⟩
    · rintro _ ys s' _ ⟨rfl, rfl⟩; trivial
    · rintro i d ys s' hd ⟨rfl, rfl⟩
      obtain ⟨n, hi, rfl⟩ : ∃ n, cl[i]? = some n ∧ d = nD n := by
        rw [List.getElem?_map] at hd
        cases e : cl[i]? with
        | none => rw [e] at hd; cases hd
        | some n => rw [e] at hd; exact ⟨n, rfl, (Option.some.inj hd).symm⟩
      have hn := hc n (List.mem_of_getElem? hi)
      have hil := (List.getElem?_eq_some_iff.mp hi).1
      refine ⟨by simp only [List.length_map, List.length_take]; rw [sizeLine_eq]; omega, iteT ?_⟩
      refine ⟨(n : Int), rfl, ?_⟩
      rw [out_nat hn]
      refine ⟨n / 4096, ((n / 512 % 8 : Nat) : Int), ((n / 64 % 8 : Nat) : Int), ((n % 64 : Nat) : Int), by omega, rfl, ?_, rfl⟩
      rw [List.take_add_one, hi]
      have e : ((n / 4096 : Nat) : Int) * 4096 + ((n / 512 % 8 : Nat) : Int) * 512 + ((n / 64 % 8 : Nat) : Int) * 64 + ((n % 64 : Nat) : Int) = (n : Int) := by omega
      rw [e]
      simp
    · rintro ys s' ⟨rfl, rfl⟩
      rw [List.length_map, List.take_length]
      show (match ((s' ++ [SO.rw (cl.map nD)])[s'.length]?).map SO.items with
        | some xs => _
        | none => False)
      rw [get_new]
      refine ⟨okN _, okN _, ?_⟩
      have e : eqD 8 (.tup (cl.map nD)) (.tup (cl.map nD)) = true := eqD_self (okN _)
      show Pd (.bl (eqD 8 (.tup (cl.map nD)) (.tup (cl.map nD)) != false)) _
      rw [e]
      exact hP _
theorem pick2 {a b : Dt} {s : Sto} {n : Nat} {x : Int} {P : VD} (hn : s[n]? = some (.rw [a, b])) (ha : P a s) (hb : P b s) : rIxD (.lst n) (.int (x % 2)) s P := by
  rcases Int.emod_two_eq x with h | h
  · rw [h]; exact ixV (j := 0) hn rfl ha
  · rw [h]; exact ixV (j := 1) hn rfl hb
theorem rd_mix {Pd : VD} {s : Sto} {cl : List Nat} {c d e f g h : Option Dt} (hc : ∀ n ∈ cl, n < 65536) (h1 : 1 ≤ cl.length) (h2 : cl.length ≤ 128) (hP : ∀ st', Pd (.bl true) st') :
    lawMix (Ed Pd) (RL (some (.tup (cl.map nD))) (some (.str ((one 10).join (cl.map wrow)))) c d e f g h) s := by
  show tseq _ _ (Ed Pd) _ s
  refine seqA ⟨Nat.zero_le _, ?_⟩
  show tseq _ _ (Ed Pd) (RL (some (.tup (cl.map nD))) (some (.str ((one 10).join (cl.map wrow)))) c d (some (.lst s.length)) f g h) (s ++ [SO.rw []])
  have hm0 : (s ++ [SO.rw []])[s.length]? = some (.rw []) := get_new
  generalize s ++ [SO.rw []] = s0 at hm0
  generalize s.length = m at hm0
  obtain ⟨f0, fr, hfr⟩ : ∃ f0 fr, cl = f0 :: fr := by
    cases cl with
    | nil => simp at h1
    | cons f fr => exact ⟨f, fr, rfl⟩
  refine seqS ?_
  show forW (enumD 0 (cl.map nD)) (fun _ => True) (gunpack 2 (gscons (gname 6) (gscons (gname 7) gsnil))) lawMB _ _ s0
  refine ⟨fun i ρ s' => (∃ f g, ρ = RL (some (.tup (cl.map nD))) (some (.str ((one 10).join (cl.map wrow)))) c d (some (.lst m)) f g h) ∧ ∃ zs, s'[m]? = some (.rw (zs.map .str)) ∧ Texts zs (cl.take i), ⟨⟨_, _, rfl⟩, [], hm0, by simp; exact .nil⟩, fun _ _ _ _ _ => trivial, ?_, ?_⟩
  · rintro i dd ρ s' hd ⟨⟨f, g, rfl⟩, zs, hm, hT⟩
    obtain ⟨w, hw, rfl⟩ := enum_get hd
    obtain ⟨n, hi, rfl⟩ : ∃ n, cl[i]? = some n ∧ w = nD n := by
      rw [List.getElem?_map] at hw
      cases e : cl[i]? with
      | none => rw [e] at hw; cases hw
      | some n => rw [e] at hw; exact ⟨n, rfl, (Option.some.inj hw).symm⟩
    have hn := hc n (List.mem_of_getElem? hi)
    have hil := (List.getElem?_eq_some_iff.mp hi).1
    have hzl : zs.length = i := by rw [hT.length, List.length_take]; omega
    refine ⟨rfl, ?_⟩
    simp only [gscons, gname, gsnil]
    show tseq _ _ _ (RL (some (.tup (cl.map nD))) (some (.str ((one 10).join (cl.map wrow)))) c d (some (.lst m)) (some (.int ((0 + i : Nat) : Int))) (some (nD n)) h) s'
    refine seqS ?_
    simp only [tdrop, tappend, tbin, tlst, tcall, tacons, tanil, tvar, tcon, List.getElem?_cons_zero, List.getElem?_cons_succ]
    refine ⟨n, rfl, hn, fun s1 x1 => ?_⟩
    refine ⟨lg hn, ?_⟩
    simp only [L3.rAdd]
    have hfp := fig_part (n := (n : Int)) (by omega) (by omega)
    refine ⟨?_, ?_⟩
    · have h1 : (Str.ofString "cell ").length = 5 := by decide +kernel
      have h3 : (Str.ofString (toString (n : Int))).length ≤ 5 := hfp.len
      rw [h1, sizeLine_eq]; omega
    have eT : Str.ofString "cell " ++ Str.ofString (toString (n : Int)) = crow n := by
      unfold crow cParts
      rw [join_cons2, K02.join_one]
      refine ext ?_
      rw [cs_app, cs_app, cs_app]
      have e : cs (Str.ofString "cell ") = cs (Str.ofString "cell") ++ cs (one 32) := by decide +kernel
      rw [e]; rfl
    rw [eT]
    refine ⟨by show 2 ≤ sizeLine; rw [sizeLine_eq]; decide, ?_⟩
    have x2 : ExtS s' (s1 ++ [SO.rw [.str (wrow n), .str (crow n)]]) := x1.trans (.app _ _)
    have hp : (s1 ++ [SO.rw [Dt.str (wrow n), Dt.str (crow n)]])[s1.length]? = some (.rw [.str (wrow n), .str (crow n)]) := get_new
    generalize s1 ++ [SO.rw [Dt.str (wrow n), Dt.str (crow n)]] = s2 at x2 hp
    generalize s1.length = p at hp
    have hat : atI (cl.map nD) 0 = some (nD f0) := by rw [hfr]; exact atI_nat (j := 0) rfl
    show (match atI (cl.map nD) 0 with
      | some d => _
      | none => False)
    rw [hat]
    have fin : ∀ z, TextOf z n → (match s2[m]? with
        | some (.rw xs) => xs.length < sizeLine ∧ ((∃ f g, RL (some (.tup (cl.map nD))) (some (.str ((one 10).join (cl.map wrow)))) c d (some (.lst m)) (some (.int ((0 + i : Nat) : Int))) (some (nD n)) h = RL (some (.tup (cl.map nD))) (some (.str ((one 10).join (cl.map wrow)))) c d (some (.lst m)) f g h) ∧ ∃ zs, (s2.set m (.rw (xs ++ [.str z])))[m]? = some (.rw (zs.map .str)) ∧ Texts zs (cl.take (i + 1)))
        | _ => False) := fun z tz => by
      rw [x2 _ _ hm]
      refine ⟨by rw [List.length_map, sizeLine_eq]; omega, ⟨_, _, rfl⟩, zs ++ [z], ?_, ?_⟩
      · rw [get_set_self (x2 _ _ hm), List.map_append]; rfl
      · rw [List.take_add_one, hi]
        exact hT.snoc tz
    refine ⟨cmul_l (by omega) (by omega), ?_⟩
    refine ⟨by decide, ?_⟩
    refine pick2 hp ?_ ?_
    · exact fin _ (w_text hn)
    · exact fin _ (c_text hn)
  · rintro ρ s' ⟨⟨f, g, rfl⟩, zs, hm, hT⟩
    rw [enum_len, List.length_map, List.take_length] at hT
    exact rd_end hc h1 h2 hm hT hP
theorem rd_law {ds : List Dt} {st : Sto} {Pd : VD} (h : spLaw ds st Pd) : t_law (Ed Pd) (startD ["script", "cells", "text", "handed", "found", "mixed", "k", "number", "few"] ds) st := by
  obtain ⟨ns, rfl, rfl, hl, hP⟩ := h
  show t_law (Ed Pd) [some (.lst 0), none, none, none, none, none, none, none, none] [SO.ro (ns.map .int)]
  refine seqA ?_
  refine ⟨0, ns, rfl, rfl, hl, fun cl st1 x1 h1 h2 hc => ?_⟩
  show tseq _ _ (Ed Pd) (RL (some (.tup (cl.map nD))) none none none none none none none) st1
  refine seqA ?_
  simp only [tjoin, tcon, tcomp, iseq, tcall, tacons, tanil, tvar, List.getElem?_cons_zero, List.getElem?_cons_succ, capρ, List.map_nil, seqOf]
  refine ⟨fun i ys s' => ys = ((cl.take i).map wrow).map Dt.str ∧ ExtS st1 s', ⟨rfl, .refl _⟩, ?_, ?_, ?_⟩
  · rintro _ ys s' _ ⟨rfl, _⟩; trivial
  · rintro i d ys s' hd ⟨rfl, hx⟩
    obtain ⟨n, hi, rfl⟩ : ∃ n, cl[i]? = some n ∧ d = nD n := by
      rw [List.getElem?_map] at hd
      cases e : cl[i]? with
      | none => rw [e] at hd; cases hd
      | some n => rw [e] at hd; exact ⟨n, rfl, (Option.some.inj hd).symm⟩
    have hil := (List.getElem?_eq_some_iff.mp hi).1
    refine ⟨by simp only [List.length_map, List.length_take]; rw [sizeLine_eq]; omega, iteT ?_⟩
    refine ⟨n, rfl, hc n (List.mem_of_getElem? hi), fun s1 x1 => ⟨?_, hx.trans x1⟩⟩
    rw [List.take_add_one, hi]; simp
  · rintro ys s' ⟨rfl, hx⟩
    rw [List.length_map, List.take_length]
    rw [get_new]
    refine ⟨cl.map wrow, rfl, by rw [nl_one]; exact join_ok (Texts.rows hc) h2, ?_⟩
    have eJ : Txt.join (Str.ofString "\n") (cl.map wrow) = (one 10).join (cl.map wrow) := by
      unfold Txt.join
      rw [StrLaws.glued_eq_join, nl_one]
    rw [eJ]
    generalize s' ++ [SO.rw ((cl.map wrow).map Dt.str)] = s2
    show tseq _ _ (Ed Pd) (RL (some (.tup (cl.map nD))) (some (.str ((one 10).join (cl.map wrow)))) none none none none none none) s2
    refine seqA ?_
    simp only [tcall, tacons, tanil, tvar, List.getElem?_cons_zero, List.getElem?_cons_succ]
    show (match ((s2 ++ [SO.rw (cl.map nD)])[s2.length]?).map SO.items with
      | some xs => _
      | none => False)
    rw [get_new]
    show tseq _ _ (Ed Pd) (RL (some (.tup (cl.map nD))) (some (.str ((one 10).join (cl.map wrow)))) (some (.tup (cl.map nD))) none none none none none) _
    generalize s2 ++ [SO.rw (cl.map nD)] = s3
    refine seqA (gv_shown (te := tvar 3) (gv_var rfl) hc h2 _ fun s4 x4 => ?_)
    show tseq _ _ (Ed Pd) (RL (some (.tup (cl.map nD))) (some (.str ((one 10).join (cl.map wrow)))) (some (.tup (cl.map nD))) (some (.str ((one 10).join (cl.map wrow)))) none none none none) s4
    refine seqFa (fa_or (fa_str (z := (one 10).join (cl.map wrow)) rfl) fun s5 _ => fa_or (fa_ne (x := .str ((one 10).join (cl.map wrow))) (gv_var rfl) (fun s6 _ => gv_var rfl) rfl (by intro n h; cases h)) fun s6 _ => fa_ne (x := .tup (cl.map nD)) (gv_var rfl) (fun s7 _ => gv_var rfl) (okN _) (by intro n h; cases h)) fun s5 _ => ?_
    refine seqFa (fa_ne (x := .tup (cl.map nD)) (gv_read (zs := cl.map wrow) (gv_var rfl) (Texts.rows hc) h1 h2) (fun s6 _ => gv_var rfl) (okN _) (by intro n h; cases h)) fun s6 _ => ?_
    exact rd_mix hc h1 h2 hP
end K04
namespace K04
open PySem PySem.Spec PyProof.Rows L2 L3 K01 K02
local macro_rules | `(tactic| k_dat $x:ident "e") => `(tactic| (case $x:ident => walk_at "d_e"))
local macro_rules | `(tactic| k_dat $x:ident "r") => `(tactic| (case $x:ident => rfl))
local macro_rules | `(tactic| k_dat $x:ident "m") => `(tactic| (case $x:ident => assumption))
local macro_rules | `(tactic| k_dat $x:ident "d") => `(tactic| (case $x:ident => decide))
local macro_rules | `(tactic| k_dat $x:ident "a") => `(tactic| (case $x:ident => walk_at "d_a"))
local macro_rules | `(tactic| k_dat $x:ident "t") => `(tactic| (case $x:ident => walk_at "d_t"))
local macro_rules | `(tactic| k_dat $x:ident "s") => `(tactic| (case $x:ident => walk_at "d_ss"))
local macro_rules | `(tactic| k_dat $x:ident "i") => `(tactic| (case $x:ident => walk_at "d_i"))
local macro_rules | `(tactic| k_dat $x:ident "n") => `(tactic| (case $x:ident => first | exact nomark _ | with_unfolding_all rfl))
local macro_rules | `(tactic| k_dat $n:num "zv0") => `(tactic| ((with_reducible refine' de_var $n ?n ?v ?d ?c); k_dat n "r"; (case v => first | exact Or.inl rfl | exact Or.inr (Or.inl rfl)); k_dat d "d"; k_dat c "d"))
local macro_rules | `(tactic| k_dat $n:num "zi0") => `(tactic| ((with_reducible refine' de_dispI (i := $n) ?h ?hu ?hall ?hl ?h0 ?h15 ?hk ?nd ?hN ?hv ?hd ?hcd ?hs); k_dat hN "r"; (case hv => first | exact Or.inl rfl | exact Or.inr (Or.inl rfl)); (case h => walk_at "d_ps"); (case hu => exact hu1 (by assumption)); k_dat hall "r"; k_dat hl "r"; (case h0 => exact List.cons_ne_nil _ _); k_dat h15 "d"; (case hk => exact by simp); k_dat nd "d"; k_dat hd "d"; k_dat hcd "d"; (case hs => exact fun _ _ => rfl)))
local macro_rules | `(tactic| k_dat $n:num "zs0") => `(tactic| ((with_reducible refine' ds_set $n ?N ?e ?i ?x ?s ?f); k_dat i "r"; k_dat s "r"; k_dat N "m"; (case x => first | exact Or.inl rfl | exact Or.inr rfl); (case f => first | exact .inl rfl | exact .inr rfl); k_dat e "e"))
local macro_rules | `(tactic| k_dat $n:num "zg0") => `(tactic| ((with_reducible refine' dg_name $n ?nd ?n ?x ?f); k_dat n "r"; k_dat nd "m"; (case x => first | exact Or.inl rfl | exact Or.inr rfl); (case f => first | exact .inl rfl | exact .inr rfl)))
local macro_rules | `(tactic| k_dat $n:num "zu0") => `(tactic| ((with_reducible refine' dg_unpack $n ?c ?g ?n ?s); k_dat n "r"; k_dat c "r"; (case g => walk_at "d_gs"); k_dat s "r"))
local macro_rules | `(tactic| k_dat $l:ident "s0") => `(tactic| ((with_reducible refine' $l ?a ?b); k_dat a "e"; k_dat b "e"))
local macro_rules | `(tactic| k_dat $l:ident "s1") => `(tactic| ((with_reducible refine' $l ?a); k_dat a "e"))
local macro_rules | `(tactic| k_dat $l:ident "s2") => `(tactic| ((with_reducible refine' $l ?f ?n ?r ?a ?g ?db ?he ?hpl); k_dat f "m"; k_dat n "r"; (case r => walk_at "d_room"); k_dat a "a"; k_dat g "r"; k_dat db "d"; k_dat he "r"; k_dat hpl "r"))
local macro_rules | `(tactic| k_dat $l:ident "s3") => `(tactic| ((with_reducible refine' $l ?hu ?a ?b ?m); (case hu => walk_at "d_hu"); k_dat a "e"; k_dat b "e"; k_dat m "n"))
local macro_rules | `(tactic| k_dat $l:ident "s4") => `(tactic| ((with_reducible refine' $l ?a ?b ?m); k_dat a "e"; k_dat b "e"; k_dat m "n"))
local macro_rules | `(tactic| k_dat $l:ident "s5") => `(tactic| ((with_reducible refine' $l ?c ?m ?a ?g ?he ?hpl); k_dat c "r"; k_dat m "m"; k_dat a "a"; k_dat g "r"; k_dat he "r"; k_dat hpl "r"))
local macro_rules | `(tactic| k_dat $l:ident "s6") => `(tactic| ((with_reducible refine' $l ?a); k_dat a "a"))
local macro_rules | `(tactic| k_dat $l:ident "s7") => `(tactic| ((with_reducible refine' $l ?a ?l ?h); k_dat a "e"; (case l => walk_at "d_o"); (case h => walk_at "d_o")))
local macro_rules | `(tactic| k_dat $l:ident "s8") => `(tactic| ((with_reducible refine' $l ?m ?a ?g ?he ?hpl); k_dat m "m"; k_dat a "a"; k_dat g "r"; k_dat he "r"; k_dat hpl "r"))
local macro_rules | `(tactic| k_dat $l:ident "s9") => `(tactic| ((with_reducible refine' $l ?m ?g); k_dat m "m"; k_dat g "r"))
local macro_rules | `(tactic| k_dat $l:ident "s10") => `(tactic| ((with_reducible refine' $l ?a ?b ?h1 ?h2 ?h3 ?h4 ?h5); k_dat a "e"; k_dat b "e"; k_dat h1 "r"; k_dat h2 "r"; k_dat h3 "r"; k_dat h4 "r"; k_dat h5 "r"))
local macro_rules | `(tactic| k_dat $l:ident "s11") => `(tactic| ((with_reducible refine' $l ?a ?b ?c ?m); k_dat a "e"; k_dat b "e"; k_dat c "e"; (case m => with_unfolding_all rfl)))
local macro_rules | `(tactic| k_dat $l:ident "s12") => `(tactic| ((with_reducible refine' $l ?a); k_dat a "t"))
local macro_rules | `(tactic| k_dat $l:ident "s13") => `(tactic| ((with_reducible refine' $l ?a ?b); k_dat a "t"; (case b => walk_at "d_w")))
local macro_rules | `(tactic| k_dat $l:ident "s14") => `(tactic| ((with_reducible refine' $l ?m ?a ?g ?s); k_dat m "m"; k_dat a "e"; k_dat g "r"; k_dat s "r"))
local macro_rules | `(tactic| walk_at "d_room") => `(tactic| first
  | exact Room.mono (by assumption) (by decide))
local macro_rules | `(tactic| walk_at "d_hu") => `(tactic| first
  | exact hu16 (by assumption))
local macro_rules | `(tactic| walk_at "d_ps") => `(tactic| first
  | (with_reducible exact dps_nil)
  | ((with_reducible refine' dps_cons ?v ?r); k_dat v "e"; (case r => walk_at "d_ps")))
local macro_rules | `(tactic| walk_at "d_e") => `(tactic| first
  | (with_reducible exact de_int)
  | (with_reducible exact de_str)
  | (with_reducible exact de_bl)
  | (with_reducible exact de_non)
  | ((with_reducible show DE _ (.Name _ _) _); first
      | (k_dat 0 "zv0")
      | (k_dat 1 "zv0")
      | (k_dat 2 "zv0")
      | (k_dat 3 "zv0")
      | (k_dat 4 "zv0")
      | (k_dat 5 "zv0")
      | (k_dat 6 "zv0")
      | (k_dat 7 "zv0")
      | (k_dat 8 "zv0")
      | (k_dat 9 "zv0")
      | (k_dat 10 "zv0")
      | (k_dat 11 "zv0")
      | (k_dat 12 "zv0")
      | (k_dat 13 "zv0")
      | (k_dat 14 "zv0")
      | (k_dat 15 "zv0"))
  | (k_dat de_neg "s1")
  | (k_dat dx_add "s0")
  | (k_dat dx_mul "s0")
  | (k_dat dx_div "s0")
  | (k_dat dx_mod "s0")
  | (k_dat dx_eq "s3")
  | (k_dat dx_notin "s4")
  | ((with_reducible show DE _ (.Subscript (.Dict _ _ _) (.Name _ _) _) _); first
      | (k_dat 0 "zi0")
      | (k_dat 1 "zi0")
      | (k_dat 2 "zi0")
      | (k_dat 3 "zi0")
      | (k_dat 4 "zi0")
      | (k_dat 5 "zi0")
      | (k_dat 6 "zi0")
      | (k_dat 7 "zi0")
      | (k_dat 8 "zi0")
      | (k_dat 9 "zi0")
      | (k_dat 10 "zi0")
      | (k_dat 11 "zi0")
      | (k_dat 12 "zi0")
      | (k_dat 13 "zi0")
      | (k_dat 14 "zi0")
      | (k_dat 15 "zi0"))
  | (k_dat de_tup "s6")
  | (k_dat de_lst "s6")
  | (k_dat de_sliceA "s7")
  | ((with_reducible refine' de_ix ?a ?b ?s); k_dat a "e"; k_dat b "e"; (case s => exact fun _ _ => rfl))
  | ((with_reducible refine' de_callO ?f ?r ?a ?g ?db ?he ?hpl); k_dat f "m"; (case r => walk_at "d_room"); k_dat a "a"; k_dat g "r"; k_dat db "d"; k_dat he "r"; k_dat hpl "r")
  | ((with_reducible refine' de_callO0 ?f ?r ?g ?db); k_dat f "m"; (case r => walk_at "d_room"); k_dat g "r"; k_dat db "d")
  | (k_dat dx_len "s8")
  | (k_dat dx_isinst "s8")
  | (k_dat dx_tuple "s8")
  | (k_dat dx_list "s8")
  | (k_dat dx_tyStr "s9")
  | ((with_reducible refine' de_con ?f ?g ?db); (case f => first | assumption | exact ConT.con (by assumption)); k_dat g "r"; k_dat db "d")
  | (k_dat de_append "s10")
  | ((with_reducible refine' de_index ?G ?e ?g ?db ?h1 ?h2 ?h3 ?h4 ?h5); k_dat G "m"; k_dat e "e"; k_dat g "r"; k_dat db "d"; k_dat h1 "r"; k_dat h2 "r"; k_dat h3 "r"; k_dat h4 "r"; k_dat h5 "r")
  | ((with_reducible refine' de_if ?c ?a ?b); k_dat c "t"; k_dat a "e"; k_dat b "e")
  | ((with_reducible refine' de_comp _ ?hc ?S ?hx ?nd ?i ?f ?e ?hs); k_dat hc "r"; (case S => exact sc_hint (by assumption) (by rfl)); k_dat hx "r"; (case nd => decide +kernel); k_dat i "i"; (case f => (intro _ _ _ _; walk_at "d_if")); (case e => (intro _ _ _ _; walk_at "d_e")); (case hs => (intro _; rfl)))
  | ((with_reducible refine' de_comp _ ?hc ?S ?hx ?nd ?i ?f ?e ?hs); k_dat hc "r"; (case S => exact sc_hint2 (by assumption) (by rfl)); k_dat hx "r"; (case nd => decide +kernel); k_dat i "i"; (case f => (intro _ _ _ _; walk_at "d_if")); (case e => (intro _ _ _ _; walk_at "d_e")); (case hs => (intro _; rfl)))
  | ((with_reducible refine' de_comp [] ?hc ?S ?hx ?nd ?i ?f ?e ?hs); k_dat hc "r"; (case S => exact sc_of (by rfl)); k_dat hx "r"; (case nd => decide +kernel); k_dat i "i"; (case f => (intro _ _ _ _; walk_at "d_if")); (case e => (intro _ _ _ _; walk_at "d_e")); (case hs => (intro _; rfl)))
  | (k_dat dx_any "s5")
  | (k_dat dx_str "s8")
  | (k_dat dx_intT "s8")
  | (k_dat de_join "s10")
  | (k_dat de_split "s10"))
local macro_rules | `(tactic| walk_at "d_a") => `(tactic| first
  | (with_reducible exact da_nil)
  | ((with_reducible refine' da_cons ?a ?b ?h); k_dat a "e"; k_dat b "a"; k_dat h "r"))
local macro_rules | `(tactic| walk_at "d_o") => `(tactic| first
  | (with_reducible exact do_none)
  | (k_dat do_some "s1"))
local macro_rules | `(tactic| walk_at "d_t") => `(tactic| first
  | (k_dat dt_not "s12")
  | ((with_reducible refine' dt_of (dw_and ?a ?b)); k_dat a "t"; (case b => walk_at "d_w"))
  | ((with_reducible refine' dt_of (dw_or ?a ?b)); k_dat a "t"; (case b => walk_at "d_w"))
  | (k_dat dtx_eq "s3")
  | (k_dat dtx_ne "s3")
  | (k_dat dtx_le "s4")
  | (k_dat dtx_gt "s4")
  | (k_dat dtx_notin "s4")
  | (k_dat dtx_is "s4")
  | ((with_reducible refine' dt_val ?a ?h); k_dat a "e"; (case h => (intro _; rfl))))
local macro_rules | `(tactic| walk_at "d_w") => `(tactic| first
  | (k_dat dw_and "s13")
  | (k_dat dw_or "s13")
  | (k_dat dw_and1 "s12")
  | (k_dat dw_or1 "s12"))
local macro_rules | `(tactic| walk_at "d_if") => `(tactic| first
  | (with_reducible exact dif_nil))
local macro_rules | `(tactic| walk_at "d_i") => `(tactic| first
  | (k_dat di_str "s1")
  | ((with_reducible refine' di_enum1 ?m ?a ?b ?g ?s ?hall ?hks ?hpl ?hbk); k_dat m "m"; k_dat a "e"; k_dat b "e"; k_dat g "r"; k_dat s "r"; k_dat hall "r"; k_dat hks "r"; k_dat hpl "r"; (case hbk => exact ⟨_, rfl⟩))
  | (k_dat di_enumT "s14")
  | (k_dat di_range1 "s14")
  | (k_dat di_seq "s1"))
local macro_rules | `(tactic| walk_at "d_g") => `(tactic| first
  | (k_dat 0 "zg0")
  | (k_dat 1 "zg0")
  | (k_dat 2 "zg0")
  | (k_dat 3 "zg0")
  | (k_dat 4 "zg0")
  | (k_dat 5 "zg0")
  | (k_dat 6 "zg0")
  | (k_dat 7 "zg0")
  | (k_dat 8 "zg0")
  | (k_dat 9 "zg0")
  | (k_dat 10 "zg0")
  | (k_dat 11 "zg0")
  | (k_dat 12 "zg0")
  | (k_dat 13 "zg0")
  | (k_dat 14 "zg0")
  | (k_dat 15 "zg0")
  | (k_dat 1 "zu0")
  | (k_dat 2 "zu0")
  | (k_dat 3 "zu0")
  | (k_dat 4 "zu0")
  | (k_dat 5 "zu0")
  | (k_dat 6 "zu0")
  | (k_dat 7 "zu0")
  | (k_dat 8 "zu0"))
local macro_rules | `(tactic| walk_at "d_gs") => `(tactic| first
  | (with_reducible exact dgs_nil)
  | ((with_reducible refine' dgs_cons ?a ?b ?h); (case a => walk_at "d_g"); (case b => walk_at "d_gs"); k_dat h "r"))
local macro_rules | `(tactic| walk_at "d_s") => `(tactic| first
  | (k_dat ds_ret "s1")
  | ((with_reducible refine' ds_if ?c ?a ?b); k_dat c "t"; k_dat a "s"; k_dat b "s")
  | ((with_reducible refine' ds_expr ?a ?h); k_dat h "r"; k_dat a "e")
  | ((with_reducible refine' ds_for ?p ?c ?i ?g ?b ?h); (case p => exact PassesOwn.never); k_dat c "r"; k_dat i "i"; (case g => walk_at "d_g"); k_dat b "s"; (case h => (intro _; rfl)))
  | ((with_reducible show DS _ (.Assign [.Name _ _] (.ListComp _ _ _ _) _) _); first
      | (k_dat 15 "zc2"))
  | ((with_reducible show DS _ (.Assign [.Name _ _] _ _) _); first
      | (k_dat 0 "zs0")
      | (k_dat 1 "zs0")
      | (k_dat 2 "zs0")
      | (k_dat 3 "zs0")
      | (k_dat 4 "zs0")
      | (k_dat 5 "zs0")
      | (k_dat 6 "zs0")
      | (k_dat 7 "zs0")
      | (k_dat 8 "zs0")
      | (k_dat 9 "zs0")
      | (k_dat 10 "zs0")
      | (k_dat 11 "zs0")
      | (k_dat 12 "zs0")
      | (k_dat 13 "zs0")
      | (k_dat 14 "zs0")
      | (k_dat 15 "zs0"))
  | (with_reducible exact ds_raise))
local macro_rules | `(tactic| walk_at "d_ss") => `(tactic| first
  | (with_reducible exact dss_nil)
  | ((with_reducible refine' dss_cons ?a ?b); (case a => walk_at "d_s"); k_dat b "s"))
noncomputable def top (i : Nat) : Stmt := PySem.Challenge.pw_asitruns_k04_whole_shown_and_read.main.body.getD i (.Pass ⟨0, 0, 0, 0⟩)
noncomputable abbrev s_set_out : Stmt := top 5
noncomputable abbrev s_number_of : Stmt := top 6
noncomputable abbrev s_number_in : Stmt := top 7
noncomputable abbrev s_number_of_line : Stmt := top 8
noncomputable abbrev s_read : Stmt := top 9
noncomputable abbrev s_line_of : Stmt := top 10
noncomputable abbrev s_shown : Stmt := top 11
noncomputable abbrev s__law_words : Stmt := top 13
noncomputable abbrev s__law_text : Stmt := top 14
noncomputable abbrev s__law_cells : Stmt := top 15
noncomputable abbrev s_law : Stmt := top 16
section
variable {P : Program} {w : World} {K : PySem.W.Frag} {mg : Str → Option Value} {base : Heap} {f : Addr} {fd : FuncData}
theorem scset_out : FnScope ["number"] ["number"] (defScope s_set_out) := ⟨rfl, rfl, rfl, by decide +kernel, rfl, by decide +kernel, by decide +kernel⟩
theorem okset_out (F : Fun K "set_out" "set_out" s_set_out f fd) (gT0 : ConT K mg "WORDS" K01.wordsD) : FnOk P w K mg base CX0 1 f fd ["number"] (liftSp K K01.spSetOut) := by
  have nd := scset_out.nd
  refine fun_ok F scset_out (fun ds st Pd h => by obtain ⟨_, rfl, _⟩ := h; rfl) fun cdv A outer s H E hr => ?_
  refine ⟨t_set_out, ?t, fun ds st Pd h => K01.read_set_out h⟩
  case t =>
    refine' dss_cons ?a ?b
    case a => walk_at "d_s"
    case b => walk_at "d_ss"
theorem scnumber_of : FnScope ["row"] ["row"] (defScope s_number_of) := ⟨rfl, rfl, rfl, by decide +kernel, rfl, by decide +kernel, by decide +kernel⟩
theorem oknumber_of (F : Fun K "number_of" "number_of" s_number_of f fd) (gT0 : ConT K mg "WORDS" K01.wordsD) : FnOk P w K mg base CX0 1 f fd ["row"] (liftSp K K01.spNumberOf) := by
  have nd := scnumber_of.nd
  refine fun_ok F scnumber_of (fun ds st Pd h => by obtain ⟨_, _, _, _, _, rfl, _⟩ := h; rfl) fun cdv A outer s H E hr => ?_
  refine ⟨t_number_of, ?t, fun ds st Pd h => K01.read_number_of h⟩
  case t =>
    refine' dss_cons ?a ?b
    case a => walk_at "d_s"
    case b => walk_at "d_ss"
theorem scnumber_in : FnScope ["figures", "greatest", "number"] ["figures", "greatest"] (defScope s_number_in) := ⟨rfl, rfl, rfl, by decide +kernel, rfl, by decide +kernel, by decide +kernel⟩
theorem oknumber_in (F : Fun K "number_in" "number_in" s_number_in f fd) (m3 : mg "len" = none) (m4 : mg "int" = none) (m11 : mg "str" = none) (m12 : mg "any" = none) : FnOk P w K mg base CX0 1 f fd ["figures", "greatest"] (liftSp K K02.spNumIn) := by
  have nd := scnumber_in.nd
  refine fun_ok F scnumber_in (fun ds st Pd h => by obtain ⟨_, _, rfl, _⟩ := h; rfl) fun cdv A outer s H E hr => ?_
  refine ⟨t_number_in, ?t, fun ds st Pd h => K02.rd_number_in h⟩
  case t =>
    refine' dss_cons ?a ?b
    case a => walk_at "d_s"
    case b => walk_at "d_ss"
theorem scnumber_of_line : FnScope ["line", "parts", "a", "b", "c"] ["line"] (defScope s_number_of_line) := ⟨rfl, rfl, rfl, by decide +kernel, rfl, by decide +kernel, by decide +kernel⟩
theorem oknumber_of_line (F : Fun K "number_of_line" "number_of_line" s_number_of_line f fd) (gT0 : ConT K mg "WORDS" K01.wordsD) (m3 : mg "len" = none) (dnumber_of : DefOk P w K mg base "number_of" 1 K01.spNumberOf) (dnumber_in : DefOk P w K mg base "number_in" 1 K02.spNumIn) : FnOk P w K mg base CX0 2 f fd ["line"] (liftSp K K02.spLine) := by
  have nd := scnumber_of_line.nd
  refine fun_ok F scnumber_of_line (fun ds st Pd h => by obtain ⟨_, rfl, _⟩ := h; rfl) fun cdv A outer s H E hr => ?_
  refine ⟨t_number_of_line, ?t, fun ds st Pd h => K02.rd_number_of_line h⟩
  case t =>
    refine' dss_cons ?a ?b
    case a => walk_at "d_s"
    case b => walk_at "d_ss"
theorem scread : FnScope ["text", "cells", "row", "line", "number"] ["text"] (defScope s_read) := ⟨rfl, rfl, rfl, by decide +kernel, rfl, by decide +kernel, by decide +kernel⟩
theorem okread (F : Fun K "read" "read" s_read f fd) (m1 : mg "tuple" = none) (m6 : mg "enumerate" = none) (dnumber_of_line : DefOk P w K mg base "number_of_line" 2 K02.spLine) : FnOk P w K mg base CX0 3 f fd ["text"] (liftSp K K02.spRead) := by
  have nd := scread.nd
  refine fun_ok F scread (fun ds st Pd h => by obtain ⟨_, _, rfl, _⟩ := h; rfl) fun cdv A outer s H E hr => ?_
  refine ⟨t_read, ?t, fun ds st Pd h => K02.rd_read h⟩
  case t =>
    refine' dss_cons ?a ?b
    case a => walk_at "d_s"
    case b => walk_at "d_ss"
theorem scline_of : FnScope ["number"] ["number"] (defScope s_line_of) := ⟨rfl, rfl, rfl, by decide +kernel, rfl, by decide +kernel, by decide +kernel⟩
theorem okline_of (F : Fun K "line_of" "line_of" s_line_of f fd) (m11 : mg "str" = none) (dset_out : DefOk P w K mg base "set_out" 1 K01.spSetOut) : FnOk P w K mg base CX0 2 f fd ["number"] (liftSp K spLineOf) := by
  have nd := scline_of.nd
  refine fun_ok F scline_of (fun ds st Pd h => by obtain ⟨_, rfl, _⟩ := h; rfl) fun cdv A outer s H E hr => ?_
  refine ⟨t_line_of, ?t, fun ds st Pd h => rd_line_of h⟩
  case t =>
    refine' dss_cons ?a ?b
    case a => walk_at "d_s"
    case b => walk_at "d_ss"
theorem scshown : FnScope ["cells"] ["cells"] (defScope s_shown) := ⟨rfl, rfl, rfl, by decide +kernel, rfl, by decide +kernel, by decide +kernel⟩
theorem okshown (F : Fun K "shown" "shown" s_shown f fd) (dline_of : DefOk P w K mg base "line_of" 2 spLineOf) : FnOk P w K mg base CX0 3 f fd ["cells"] (liftSp K spShown) := by
  have nd := scshown.nd
  refine fun_ok F scshown (fun ds st Pd h => by obtain ⟨_, rfl, _⟩ := h; rfl) fun cdv A outer s H E hr => ?_
  refine ⟨t_shown, ?t, fun ds st Pd h => rd_shown h⟩
  case t =>
    refine' dss_cons ?a ?b
    case a => walk_at "d_s"
    case b => walk_at "d_ss"
theorem sc_law_words : FnScope ["some"] [] (defScope s__law_words) := ⟨rfl, rfl, rfl, by decide +kernel, rfl, by decide +kernel, by decide +kernel⟩
theorem ok_law_words (F : Fun K "_law_words" "_law_words" s__law_words f fd)  : FnOk P w K mg base CX0 1 f fd [] (liftSp K K01.spWords) := by
  have nd := sc_law_words.nd
  refine fun_ok F sc_law_words (fun ds st Pd h => by obtain ⟨rfl, _⟩ := h; rfl) fun cdv A outer s H E hr => ?_
  refine ⟨t__law_words, ?t, fun ds st Pd h => K01.read_words h⟩
  case t =>
    refine' dss_cons ?a ?b
    case a => walk_at "d_s"
    case b => walk_at "d_ss"
theorem sc_law_text : FnScope ["number"] ["number"] (defScope s__law_text) := ⟨rfl, rfl, rfl, by decide +kernel, rfl, by decide +kernel, by decide +kernel⟩
theorem ok_law_text (F : Fun K "_law_text" "_law_text" s__law_text f fd) (m11 : mg "str" = none) (d_law_words : DefOk P w K mg base "_law_words" 1 K01.spWords) : FnOk P w K mg base CX0 2 f fd ["number"] (liftSp K spText) := by
  have nd := sc_law_text.nd
  refine fun_ok F sc_law_text (fun ds st Pd h => by obtain ⟨_, rfl, _⟩ := h; rfl) fun cdv A outer s H E hr => ?_
  refine ⟨t__law_text, ?t, fun ds st Pd h => rd__law_text h⟩
  case t =>
    refine' dss_cons ?a ?b
    case a => walk_at "d_s"
    case b => walk_at "d_ss"
theorem sc_law_cells : FnScope ["script", "some", "found", "k", "cell"] ["script"] (defScope s__law_cells) := ⟨rfl, rfl, rfl, by decide +kernel, rfl, by decide +kernel, by decide +kernel⟩
theorem ok_law_cells (F : Fun K "_law_cells" "_law_cells" s__law_cells f fd) (m1 : mg "tuple" = none) (m3 : mg "len" = none) (m7 : mg "range" = none) : FnOk P w K mg base CX0 1 f fd ["script"] (liftSp K spCells) := by
  have nd := sc_law_cells.nd
  refine fun_ok F sc_law_cells (fun ds st Pd h => by obtain ⟨_, _, rfl, _⟩ := h; rfl) fun cdv A outer s H E hr => ?_
  refine ⟨t__law_cells, ?t, fun ds st Pd h => rd__law_cells h⟩
  case t =>
    refine' dss_cons ?a ?b
    case a => walk_at "d_s"
    case b => walk_at "d_ss"
theorem sclaw : FnScope ["script", "cells", "text", "handed", "found", "mixed", "k", "number", "few"] ["script"] (defScope s_law) := ⟨rfl, rfl, rfl, by decide +kernel, rfl, by decide +kernel, by decide +kernel⟩
theorem oklaw (F : Fun K "law" "law" s_law f fd) (m1 : mg "tuple" = none) (m2 : mg "isinstance" = none) (m3 : mg "len" = none) (m6 : mg "enumerate" = none) (m10 : mg "list" = none) (m11 : mg "str" = none) (dset_out : DefOk P w K mg base "set_out" 1 K01.spSetOut) (dnumber_of : DefOk P w K mg base "number_of" 1 K01.spNumberOf) (dread : DefOk P w K mg base "read" 3 K02.spRead) (dshown : DefOk P w K mg base "shown" 3 spShown) (d_law_text : DefOk P w K mg base "_law_text" 2 spText) (d_law_cells : DefOk P w K mg base "_law_cells" 1 spCells) : FnOk P w K mg base CX0 4 f fd ["script"] (liftSp K spLaw) := by
  have nd := sclaw.nd
  refine fun_ok F sclaw (fun ds st Pd h => by obtain ⟨c, rfl, _⟩ := h; rfl) fun cdv A outer s H E hr => ?_
  refine ⟨t_law, ?t, fun ds st Pd h => rd_law h⟩
  case t =>
    refine' dss_cons ?a ?b
    case a => walk_at "d_s"
    case b => walk_at "d_ss"
end
@[elab_as_elim] theorem len1 {C : List Value → Prop} (us : List Value) (hl : us.length = 1) (h : ∀ a0, C [a0]) : C us := by
  match us, hl with
  | [a0], _ => exact h _
@[elab_as_elim] theorem len2 {C : List Value → Prop} (us : List Value) (hl : us.length = 2) (h : ∀ a0 a1, C [a0, a1]) : C us := by
  match us, hl with
  | [a0, a1], _ => exact h _ _
@[elab_as_elim] theorem len3 {C : List Value → Prop} (us : List Value) (hl : us.length = 3) (h : ∀ a0 a1 a2, C [a0, a1, a2]) : C us := by
  match us, hl with
  | [a0, a1, a2], _ => exact h _ _ _
@[elab_as_elim] theorem len4 {C : List Value → Prop} (us : List Value) (hl : us.length = 4) (h : ∀ a0 a1 a2 a3, C [a0, a1, a2, a3]) : C us := by
  match us, hl with
  | [a0, a1, a2, a3], _ => exact h _ _ _ _
@[elab_as_elim] theorem len5 {C : List Value → Prop} (us : List Value) (hl : us.length = 5) (h : ∀ a0 a1 a2 a3 a4, C [a0, a1, a2, a3, a4]) : C us := by
  match us, hl with
  | [a0, a1, a2, a3, a4], _ => exact h _ _ _ _ _
@[elab_as_elim] theorem len6 {C : List Value → Prop} (us : List Value) (hl : us.length = 6) (h : ∀ a0 a1 a2 a3 a4 a5, C [a0, a1, a2, a3, a4, a5]) : C us := by
  match us, hl with
  | [a0, a1, a2, a3, a4, a5], _ => exact h _ _ _ _ _ _
@[elab_as_elim] theorem len7 {C : List Value → Prop} (us : List Value) (hl : us.length = 7) (h : ∀ a0 a1 a2 a3 a4 a5 a6, C [a0, a1, a2, a3, a4, a5, a6]) : C us := by
  match us, hl with
  | [a0, a1, a2, a3, a4, a5, a6], _ => exact h _ _ _ _ _ _ _
@[elab_as_elim] theorem len8 {C : List Value → Prop} (us : List Value) (hl : us.length = 8) (h : ∀ a0 a1 a2 a3 a4 a5 a6 a7, C [a0, a1, a2, a3, a4, a5, a6, a7]) : C us := by
  match us, hl with
  | [a0, a1, a2, a3, a4, a5, a6, a7], _ => exact h _ _ _ _ _ _ _ _
@[elab_as_elim] theorem len9 {C : List Value → Prop} (us : List Value) (hl : us.length = 9) (h : ∀ a0 a1 a2 a3 a4 a5 a6 a7 a8, C [a0, a1, a2, a3, a4, a5, a6, a7, a8]) : C us := by
  match us, hl with
  | [a0, a1, a2, a3, a4, a5, a6, a7, a8], _ => exact h _ _ _ _ _ _ _ _ _
theorem all_mk {l : PySem.W.OpenLaw} {w : World} {K : PySem.W.Frag} {h : Heap} {mg : Str → Option Value} {fa f0 f1 f2 f3 f4 f5 f6 f7 f8 f9 f10 : Addr} (X : K.In h) (G : h.Ns mainGlobals mg) (hfa : mg "law" = some (.ref fa))
    {od0 od1 od2 od3 od4 od5 od6 od7 od8 od9 od10 an0 an1 an2 an3 an4 an5 an6 an7 an8 an9 an10 : Option Addr} {sl0 sl1 sl2 sl3 sl4 sl5 sl6 sl7 sl8 sl9 sl10 : Array (Option Value)} {oc0 oc1 oc2 oc3 oc4 oc5 oc6 oc7 oc8 oc9 oc10 kV0 kV1 kV2 kV3 kV4 kV5 kV6 kV7 kV8 kV9 kV10 dc0 dc1 dc2 dc3 dc4 dc5 dc6 dc7 dc8 dc9 dc10 pm0 pm1 pm2 pm3 pm4 pm5 pm6 pm7 pm8 pm9 pm10 cd0 cd1 cd2 cd3 cd4 cd5 cd6 cd7 cd8 cd9 cd10 ct0 ct1 ct2 ct3 ct4 ct5 ct6 ct7 ct8 ct9 ct10 : Value}
    (a0 : PySem.W.nsIn K mainGlobals "set_out" = some (some (.ref f0))) (l0 : K.lookup f0 = some ⟨oc0, od0, .func (PySem.W.fnOf "set_out" "set_out" (defArgs s_set_out) (defBody s_set_out) (defScope s_set_out) .none kV0 dc0 pm0 an0 cd0 ct0), sl0⟩) (c0 : PySem.W.codeIn K cd0 "set_out" = true) (k0 : PySem.W.keepIn K (.ref f0) = true)
    (a1 : PySem.W.nsIn K mainGlobals "number_of" = some (some (.ref f1))) (l1 : K.lookup f1 = some ⟨oc1, od1, .func (PySem.W.fnOf "number_of" "number_of" (defArgs s_number_of) (defBody s_number_of) (defScope s_number_of) .none kV1 dc1 pm1 an1 cd1 ct1), sl1⟩) (c1 : PySem.W.codeIn K cd1 "number_of" = true) (k1 : PySem.W.keepIn K (.ref f1) = true)
    (a2 : PySem.W.nsIn K mainGlobals "number_in" = some (some (.ref f2))) (l2 : K.lookup f2 = some ⟨oc2, od2, .func (PySem.W.fnOf "number_in" "number_in" (defArgs s_number_in) (defBody s_number_in) (defScope s_number_in) .none kV2 dc2 pm2 an2 cd2 ct2), sl2⟩) (c2 : PySem.W.codeIn K cd2 "number_in" = true) (k2 : PySem.W.keepIn K (.ref f2) = true)
    (a3 : PySem.W.nsIn K mainGlobals "number_of_line" = some (some (.ref f3))) (l3 : K.lookup f3 = some ⟨oc3, od3, .func (PySem.W.fnOf "number_of_line" "number_of_line" (defArgs s_number_of_line) (defBody s_number_of_line) (defScope s_number_of_line) .none kV3 dc3 pm3 an3 cd3 ct3), sl3⟩) (c3 : PySem.W.codeIn K cd3 "number_of_line" = true) (k3 : PySem.W.keepIn K (.ref f3) = true)
    (a4 : PySem.W.nsIn K mainGlobals "read" = some (some (.ref f4))) (l4 : K.lookup f4 = some ⟨oc4, od4, .func (PySem.W.fnOf "read" "read" (defArgs s_read) (defBody s_read) (defScope s_read) .none kV4 dc4 pm4 an4 cd4 ct4), sl4⟩) (c4 : PySem.W.codeIn K cd4 "read" = true) (k4 : PySem.W.keepIn K (.ref f4) = true)
    (a5 : PySem.W.nsIn K mainGlobals "line_of" = some (some (.ref f5))) (l5 : K.lookup f5 = some ⟨oc5, od5, .func (PySem.W.fnOf "line_of" "line_of" (defArgs s_line_of) (defBody s_line_of) (defScope s_line_of) .none kV5 dc5 pm5 an5 cd5 ct5), sl5⟩) (c5 : PySem.W.codeIn K cd5 "line_of" = true) (k5 : PySem.W.keepIn K (.ref f5) = true)
    (a6 : PySem.W.nsIn K mainGlobals "shown" = some (some (.ref f6))) (l6 : K.lookup f6 = some ⟨oc6, od6, .func (PySem.W.fnOf "shown" "shown" (defArgs s_shown) (defBody s_shown) (defScope s_shown) .none kV6 dc6 pm6 an6 cd6 ct6), sl6⟩) (c6 : PySem.W.codeIn K cd6 "shown" = true) (k6 : PySem.W.keepIn K (.ref f6) = true)
    (a7 : PySem.W.nsIn K mainGlobals "_law_words" = some (some (.ref f7))) (l7 : K.lookup f7 = some ⟨oc7, od7, .func (PySem.W.fnOf "_law_words" "_law_words" (defArgs s__law_words) (defBody s__law_words) (defScope s__law_words) .none kV7 dc7 pm7 an7 cd7 ct7), sl7⟩) (c7 : PySem.W.codeIn K cd7 "_law_words" = true) (k7 : PySem.W.keepIn K (.ref f7) = true)
    (a8 : PySem.W.nsIn K mainGlobals "_law_text" = some (some (.ref f8))) (l8 : K.lookup f8 = some ⟨oc8, od8, .func (PySem.W.fnOf "_law_text" "_law_text" (defArgs s__law_text) (defBody s__law_text) (defScope s__law_text) .none kV8 dc8 pm8 an8 cd8 ct8), sl8⟩) (c8 : PySem.W.codeIn K cd8 "_law_text" = true) (k8 : PySem.W.keepIn K (.ref f8) = true)
    (a9 : PySem.W.nsIn K mainGlobals "_law_cells" = some (some (.ref f9))) (l9 : K.lookup f9 = some ⟨oc9, od9, .func (PySem.W.fnOf "_law_cells" "_law_cells" (defArgs s__law_cells) (defBody s__law_cells) (defScope s__law_cells) .none kV9 dc9 pm9 an9 cd9 ct9), sl9⟩) (c9 : PySem.W.codeIn K cd9 "_law_cells" = true) (k9 : PySem.W.keepIn K (.ref f9) = true)
    (a10 : PySem.W.nsIn K mainGlobals "law" = some (some (.ref f10))) (l10 : K.lookup f10 = some ⟨oc10, od10, .func (PySem.W.fnOf "law" "law" (defArgs s_law) (defBody s_law) (defScope s_law) .none kV10 dc10 pm10 an10 cd10 ct10), sl10⟩) (c10 : PySem.W.codeIn K cd10 "law" = true) (k10 : PySem.W.keepIn K (.ref f10) = true)
    {aT0 : Addr} {iT0 : Array Value} {nT0 : Nat} {sT0 : Array (Option Value)} (b0 : PySem.W.nsIn K mainGlobals "WORDS" = some (some (.ref aT0))) (e0 : K.lookup aT0 = some ⟨.type "tuple", none, .seq iT0 nT0, sT0⟩) (v0 : strsAre iT0.toList K01.wordsS = true) (w0 : iT0.size ≤ sizeLine)
    (z0 : PySem.W.nsIn K mainGlobals "all" = some none)
    (z1 : PySem.W.nsIn K mainGlobals "tuple" = some none)
    (z2 : PySem.W.nsIn K mainGlobals "isinstance" = some none)
    (z3 : PySem.W.nsIn K mainGlobals "len" = some none)
    (z4 : PySem.W.nsIn K mainGlobals "int" = some none)
    (z5 : PySem.W.nsIn K mainGlobals "bool" = some none)
    (z6 : PySem.W.nsIn K mainGlobals "enumerate" = some none)
    (z7 : PySem.W.nsIn K mainGlobals "range" = some none)
    (z8 : PySem.W.nsIn K mainGlobals "min" = some none)
    (z9 : PySem.W.nsIn K mainGlobals "sum" = some none)
    (z10 : PySem.W.nsIn K mainGlobals "list" = some none)
    (z11 : PySem.W.nsIn K mainGlobals "str" = some none)
    (z12 : PySem.W.nsIn K mainGlobals "any" = some none)
    : ∃ fd : FuncData, (∀ (s : Shared) (v : Value), BindsTo s fd ⟨[v], []⟩ [("script", v)]) ∧ ∀ base : Heap, K.In base → base.Ns mainGlobals mg → FnOk l.prog w K mg base CX0 4 fa fd ["script"] (liftSp K spLaw) := by
  have e := hfa.symm.trans (PySem.W.mg_of X G a10)
  cases e
  have F0 := fun_mk (st := s_set_out) l0 c0 k0
  have B0 := F0.binds (ps := ["number"]) fun _ _ _ _ _ _ us hl => len1 us hl fun _ => rfl
  have F1 := fun_mk (st := s_number_of) l1 c1 k1
  have B1 := F1.binds (ps := ["row"]) fun _ _ _ _ _ _ us hl => len1 us hl fun _ => rfl
  have F2 := fun_mk (st := s_number_in) l2 c2 k2
  have B2 := F2.binds (ps := ["figures", "greatest"]) fun _ _ _ _ _ _ us hl => len2 us hl fun _ _ => rfl
  have F3 := fun_mk (st := s_number_of_line) l3 c3 k3
  have B3 := F3.binds (ps := ["line"]) fun _ _ _ _ _ _ us hl => len1 us hl fun _ => rfl
  have F4 := fun_mk (st := s_read) l4 c4 k4
  have B4 := F4.binds (ps := ["text"]) fun _ _ _ _ _ _ us hl => len1 us hl fun _ => rfl
  have F5 := fun_mk (st := s_line_of) l5 c5 k5
  have B5 := F5.binds (ps := ["number"]) fun _ _ _ _ _ _ us hl => len1 us hl fun _ => rfl
  have F6 := fun_mk (st := s_shown) l6 c6 k6
  have B6 := F6.binds (ps := ["cells"]) fun _ _ _ _ _ _ us hl => len1 us hl fun _ => rfl
  have F7 := fun_mk (st := s__law_words) l7 c7 k7
  have B7 := F7.binds (ps := []) fun _ _ _ _ _ _ us hl => match us, hl with | [], _ => rfl
  have F8 := fun_mk (st := s__law_text) l8 c8 k8
  have B8 := F8.binds (ps := ["number"]) fun _ _ _ _ _ _ us hl => len1 us hl fun _ => rfl
  have F9 := fun_mk (st := s__law_cells) l9 c9 k9
  have B9 := F9.binds (ps := ["script"]) fun _ _ _ _ _ _ us hl => len1 us hl fun _ => rfl
  have F10 := fun_mk (st := s_law) l10 c10 k10
  have gT0 := conT_strs (mg := mg) (x := "WORDS") (PySem.W.mg_of X G b0) e0 v0 w0
  have m0 := PySem.W.mg_none_of X G z0
  have m1 := PySem.W.mg_none_of X G z1
  have m2 := PySem.W.mg_none_of X G z2
  have m3 := PySem.W.mg_none_of X G z3
  have m4 := PySem.W.mg_none_of X G z4
  have m5 := PySem.W.mg_none_of X G z5
  have m6 := PySem.W.mg_none_of X G z6
  have m7 := PySem.W.mg_none_of X G z7
  have m8 := PySem.W.mg_none_of X G z8
  have m9 := PySem.W.mg_none_of X G z9
  have m10 := PySem.W.mg_none_of X G z10
  have m11 := PySem.W.mg_none_of X G z11
  have m12 := PySem.W.mg_none_of X G z12
  refine ⟨PySem.W.fnOf "law" "law" (defArgs s_law) (defBody s_law) (defScope s_law) .none kV10 dc10 pm10 an10 cd10 ct10, fun s v => .of_eq rfl, fun base _ _ => ?_⟩
  have Dset_out : DefOk l.prog w K mg base "set_out" 1 K01.spSetOut := ⟨_, _, _, okset_out F0 gT0, PySem.W.mg_of X G a0, k0, B0⟩
  have Dnumber_of : DefOk l.prog w K mg base "number_of" 1 K01.spNumberOf := ⟨_, _, _, oknumber_of F1 gT0, PySem.W.mg_of X G a1, k1, B1⟩
  have Dnumber_in : DefOk l.prog w K mg base "number_in" 1 K02.spNumIn := ⟨_, _, _, oknumber_in F2 m3 m4 m11 m12, PySem.W.mg_of X G a2, k2, B2⟩
  have Dnumber_of_line : DefOk l.prog w K mg base "number_of_line" 2 K02.spLine := ⟨_, _, _, oknumber_of_line F3 gT0 m3 Dnumber_of Dnumber_in, PySem.W.mg_of X G a3, k3, B3⟩
  have Dread : DefOk l.prog w K mg base "read" 3 K02.spRead := ⟨_, _, _, okread F4 m1 m6 Dnumber_of_line, PySem.W.mg_of X G a4, k4, B4⟩
  have Dline_of : DefOk l.prog w K mg base "line_of" 2 spLineOf := ⟨_, _, _, okline_of F5 m11 Dset_out, PySem.W.mg_of X G a5, k5, B5⟩
  have Dshown : DefOk l.prog w K mg base "shown" 3 spShown := ⟨_, _, _, okshown F6 Dline_of, PySem.W.mg_of X G a6, k6, B6⟩
  have D_law_words : DefOk l.prog w K mg base "_law_words" 1 K01.spWords := ⟨_, _, _, ok_law_words F7 , PySem.W.mg_of X G a7, k7, B7⟩
  have D_law_text : DefOk l.prog w K mg base "_law_text" 2 spText := ⟨_, _, _, ok_law_text F8 m11 D_law_words, PySem.W.mg_of X G a8, k8, B8⟩
  have D_law_cells : DefOk l.prog w K mg base "_law_cells" 1 spCells := ⟨_, _, _, ok_law_cells F9 m1 m3 m7, PySem.W.mg_of X G a9, k9, B9⟩
  exact oklaw F10 m1 m2 m3 m6 m10 m11 Dset_out Dnumber_of Dread Dshown D_law_text D_law_cells
end K04
open PySem PySem.W PyProof.Rows
set_option maxRecDepth 100000 in
set_option maxHeartbeats 0 in
theorem PySem.Challenge.cw_asitruns_k04_whole_shown_and_read_holds : PySem.Challenge.rw_asitruns_k04_whole_shown_and_read.Holds := by
  w_on; o_law; k_head; (case hw => w_witness2)
  k_fill
  refine L3.law_walk (l := PySem.Challenge.rw_asitruns_k04_whole_shown_and_read) 4 rfl rfl ⟨rfl, by decide, by decide⟩ (fun w h Y => PySem.W.kIn_of Y) ?F
  case F =>
    intro w mg fa h KX G hmg
    refine' K04.all_mk KX G hmg ?a0 ?l0 ?c0 ?k0 ?a1 ?l1 ?c1 ?k1 ?a2 ?l2 ?c2 ?k2 ?a3 ?l3 ?c3 ?k3 ?a4 ?l4 ?c4 ?k4 ?a5 ?l5 ?c5 ?k5 ?a6 ?l6 ?c6 ?k6 ?a7 ?l7 ?c7 ?k7 ?a8 ?l8 ?c8 ?k8 ?a9 ?l9 ?c9 ?k9 ?a10 ?l10 ?c10 ?k10 ?b0 ?e0 ?v0 ?w0 ?z0 ?z1 ?z2 ?z3 ?z4 ?z5 ?z6 ?z7 ?z8 ?z9 ?z10 ?z11 ?z12
    (case a0 => k_is)
    (case l0 => k_is)
    (case c0 => k_is)
    (case k0 => k_is)
    (case a1 => k_is)
    (case l1 => k_is)
    (case c1 => k_is)
    (case k1 => k_is)
    (case a2 => k_is)
    (case l2 => k_is)
    (case c2 => k_is)
    (case k2 => k_is)
    (case a3 => k_is)
    (case l3 => k_is)
    (case c3 => k_is)
    (case k3 => k_is)
    (case a4 => k_is)
    (case l4 => k_is)
    (case c4 => k_is)
    (case k4 => k_is)
    (case a5 => k_is)
    (case l5 => k_is)
    (case c5 => k_is)
    (case k5 => k_is)
    (case a6 => k_is)
    (case l6 => k_is)
    (case c6 => k_is)
    (case k6 => k_is)
    (case a7 => k_is)
    (case l7 => k_is)
    (case c7 => k_is)
    (case k7 => k_is)
    (case a8 => k_is)
    (case l8 => k_is)
    (case c8 => k_is)
    (case k8 => k_is)
    (case a9 => k_is)
    (case l9 => k_is)
    (case c9 => k_is)
    (case k9 => k_is)
    (case a10 => k_is)
    (case l10 => k_is)
    (case c10 => k_is)
    (case k10 => k_is)
    (case b0 => k_is)
    (case e0 => k_is)
    (case v0 => rfl)
    (case w0 => decide)
    (case z0 => k_is)
    (case z1 => k_is)
    (case z2 => k_is)
    (case z3 => k_is)
    (case z4 => k_is)
    (case z5 => k_is)
    (case z6 => k_is)
    (case z7 => k_is)
    (case z8 => k_is)
    (case z9 => k_is)
    (case z10 => k_is)
    (case z11 => k_is)
    (case z12 => k_is)

