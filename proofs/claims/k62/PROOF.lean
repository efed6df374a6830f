import PyProof.Rows.All
import Wide.All
import OpenK.AllK
import Wide.FinOn
import Lean
import PyProof.EqAt
import PyProof.EqKinds
import PyProof.TupleCall
import PyProof.NeKinds
import KE.LcSums
import KE.KRevSl
import OpenK.KTop
import PyProof.Draws
import PyProof.EnumMake
import KE.KIntText
import KE.KxText
import PyProof.StrLawsTight
import PyProof.StrLawsChain
import PyProof.StrLawsIn
import PyProof.StrLawsJoin
import PyProof.CallStr
import PyProof.MeetsStr
import PyProof.MeetsStr2
import PyProof.StrCalls2
import PyProof.StrLoop
import PyProof.ConsumeWalk
import PySem.Challenge.RW_asitruns_k62_left_at_an_exit
set_option Elab.async false
set_option linter.all false
set_option maxRecDepth 100000
namespace L2
open PySem PySem.Spec PyProof.Rows
noncomputable abbrev Key:=Sum Int Str
noncomputable def keyIs:Key→Value→Bool
  | .inl k,v=>Value.isInt k v
  | .inr x,v=>Value.isStrOf x v
noncomputable def keyH (w:World):Key→Int
  | .inl k=>hashInt k
  | .inr x=>hashStr w x
theorem keyIs_shape:∀ {k:Key} {v:Value},keyIs k v=true→(∃ i t,k=Sum.inl i∧v=Value.int i t)∨(∃ x t,k=Sum.inr x∧v=Value.str x t)
  | .inl i,v,h=>by
    obtain ⟨t,e⟩:=Value.isInt_shape (k:=i) (v:=v) h
    exact .inl ⟨i,t,rfl,e⟩
  | .inr x,v,h=>by
    obtain ⟨t,e⟩:=Value.isStrOf_shape (x:=x) (v:=v) h
    exact .inr ⟨x,t,rfl,e⟩
theorem keyIs_int (i:Int) (t:Tok):keyIs (.inl i) (.int i t)=true:=by simp [keyIs,Value.isInt]
theorem keyIs_str (x:Str) (t:Tok):keyIs (.inr x) (.str x t)=true:=by simp [keyIs,Value.isStrOf]
theorem key_ll (a b:Int):decide ((Sum.inl a:Key)=Sum.inl b)=(a == b):=by
  by_cases e:a=b
  · subst e;simp
  · have h:¬ (Sum.inl a:Key)=Sum.inl b:=fun q=>e (Sum.inl.inj q)
    rw [decide_eq_false h]
    exact (beq_eq_false_iff_ne.mpr e).symm
theorem key_rr (a b:Str):decide ((Sum.inr a:Key)=Sum.inr b)=decide (a=b):=by
  by_cases e:a=b
  · subst e;simp
  · have h:¬ (Sum.inr a:Key)=Sum.inr b:=fun q=>e (Sum.inr.inj q)
    rw [decide_eq_false h,decide_eq_false e]
theorem key_lr (a:Int) (b:Str):decide ((Sum.inl a:Key)=Sum.inr b)=false:=decide_eq_false (fun q=>nomatch q)
theorem key_rl (a:Str) (b:Int):decide ((Sum.inr a:Key)=Sum.inl b)=false:=decide_eq_false (fun q=>nomatch q)
noncomputable def mixKind (prog:Program) (w:World):PySem.KeyKind prog w Key where
  is:=keyIs
  hash:=keyH w
  inj :=fun v a b ha hb=>by
    rcases keyIs_shape ha with ⟨i,t,rfl,rfl⟩ | ⟨x,t,rfl,rfl⟩
    · rcases keyIs_shape hb with ⟨j,u,rfl,e⟩ | ⟨y,u,rfl,e⟩
      · injection e with e1 _;rw [e1]
      · exact nomatch e
    · rcases keyIs_shape hb with ⟨j,u,rfl,e⟩ | ⟨y,u,rfl,e⟩
      · exact nomatch e
      · injection e with e1 _;rw [e1]
  byValue:=fun k v h=>by
    rcases keyIs_shape h with ⟨i,t,rfl,rfl⟩ | ⟨x,t,rfl,rfl⟩ <;> rfl
  pyHash:=fun hv h=>by
    rcases keyIs_shape hv with ⟨i,t,rfl,rfl⟩ | ⟨x,t,rfl,rfl⟩
    · exact wpAny_pyHash_int h
    · exact wpAny_pyHash_str h
  eqBool:=fun hu hv h=>by
    rcases keyIs_shape hu with ⟨i,t,rfl,rfl⟩ | ⟨x,t,rfl,rfl⟩
    · rcases keyIs_shape hv with ⟨j,u,rfl,rfl⟩ | ⟨y,u,rfl,rfl⟩
      · rw [key_ll] at h;exact wpAny_eqBool_int h
      · rw [key_lr] at h;exact SeqAt.EqAt.int_str i t y u _ _ _ _ h
    · rcases keyIs_shape hv with ⟨j,u,rfl,rfl⟩ | ⟨y,u,rfl,rfl⟩
      · rw [key_rl] at h;exact SeqAt.EqAt.str_int x t j u _ _ _ _ h
      · rw [key_rr] at h;exact wpAny_eqBool_str h
  «strs»:=fun k x t v h=>by
    rcases keyIs_shape h with ⟨i,u,rfl,e⟩ | ⟨y,u,rfl,e⟩
    · exact nomatch e
    · injection e with e1 _
      subst e1
      cases v <;> rfl
theorem mixKind_int (prog:Program) (w:World) (i:Int) (t:Tok):(mixKind prog w).is (.inl i) (.int i t)=true:=keyIs_int i t
theorem mixKind_str (prog:Program) (w:World) (x:Str) (t:Tok):(mixKind prog w).is (.inr x) (.str x t)=true:=keyIs_str x t
end L2
namespace L2
open PySem PySem.Spec PyProof.Rows
inductive V where
  | non | bl (b:Bool) | int (i:Int) | str (x:Str) | byt (b:Array UInt8) | flt (b:UInt64) | ref (a:Addr) | ty (n:String)
  deriving DecidableEq
noncomputable def RelV:V→Value→Prop
  | .non,u=>u=Value.none
  | .bl b,u=>u=Value.bool b
  | .int i,u=>∃ t,u=Value.int i t
  | .str x,u=>∃ t,u=Value.str x t
  | .byt b,u=>∃ t,u=Value.bytes b t
  | .flt b,u=>∃ t,u=Value.float b t
  | .ref a,u=>u=Value.ref a
  | .ty n,u=>u=Value.type n
noncomputable abbrev Vals:List V→List Value→Prop:=Paired RelV
theorem Vals.length {xs:List V} {us:List Value} (r:Vals xs us):xs.length=us.length:=Paired.length r
theorem Vals.get:∀ {xs:List V} {us:List Value} {i:Nat} {x:V},Vals xs us→xs[i]? = some x→∃ u,us[i]? = some u∧RelV x u
  | _,_,_,_,.nil,e=>by simp at e
  | _,_,0,_,.cons r _,e=>by simp at e;subst e;exact ⟨_,rfl,r⟩
  | _,_,i + 1,x,.cons _ t,e=>by
    obtain ⟨u,h1,h2⟩:=Vals.get (i:=i) (x:=x) t (by simpa using e)
    exact ⟨u,by simpa using h1,h2⟩
theorem Vals.set {x:V} {u:Value} (r:RelV x u):∀ {xs:List V} {us:List Value} (i:Nat),Vals xs us→Vals (xs.set i x) (us.set i u)
  | _,_,_,.nil=>.nil
  | _,_,0,.cons _ t=>.cons r t
  | _,_,i + 1,.cons q t=>.cons q (Vals.set r i t)
theorem Vals.append:∀ {xs ys:List V} {us ws:List Value},Vals xs us→Vals ys ws→Vals (xs ++ ys) (us ++ ws)
  | _,_,_,_,.nil,s=>s
  | _,_,_,_,.cons r t,s=>.cons r (Vals.append t s)
theorem Vals.take:∀ {xs:List V} {us:List Value} (n:Nat),Vals xs us→Vals (xs.take n) (us.take n)
  | _,_,0,_=>.nil
  | _,_,_ + 1,.nil=>.nil
  | _,_,n + 1,.cons r t=>.cons r (Vals.take n t)
theorem Vals.drop:∀ {xs:List V} {us:List Value} (n:Nat),Vals xs us→Vals (xs.drop n) (us.drop n)
  | _,_,0,r=>r
  | _,_,_ + 1,.nil=>.nil
  | _,_,n + 1,.cons _ t=>Vals.drop n t
noncomputable def RelO:Option V→Option Value→Prop
  | some v,some u=>RelV v u
  | none,none=>True
  | _,_=>False
noncomputable def KV {κ:Type}:List (κ×V)→List (κ×Value)→Prop:=Paired fun (p:κ×V) (q:κ×Value)=>p.1=q.1∧RelV p.2 q.2
noncomputable def kV:Key→V
  | .inl i=>.int i
  | .inr x=>.str x
inductive HO where
  /-- a list -/
  | lst (xs:List V)
  /-- a tuple (never changes) -/
  | tup (xs:List V)
  /-- a dict whose keys are ints and texts;one whose keys are tuples of ints and texts (the empty one is both) -/
  | dK (kvs:List (Key×V)) | dT (kvs:List (List Key×V))
  /-- a set of ints: its members,its size -/
  | set (S:Int→Bool) (n:Nat)
  /-- an instance of the class at C,its dict at dx,its attributes -/
  | ins (C dx:Addr) (fs:List (Str×V))
  /-- the dict of the instance at x -/
  | own (x:Addr)
  /-- the dict of an exception -/
  | xd (fs:List (Str×V))
  /-- a bound method,f of x -/
  | met (f x:Addr)
  /-- a range object lo,lo + 1,.. below hi -/
  | rng (lo hi:Int)
  /-- a thing that is known to the object (the script;a dict while a loop walks it): read,never written while it is so -/
  | frz (o:Obj) (u:HO)
  /-- a code object's table -/
  | tbl (ps:Array Value)
  /-- any other thing,by what is true of its one object (a def of one's own: SetO a S n:=HO.ext fun h=>..) -/
  | ext (φ:Heap→Prop)
noncomputable abbrev Hp:=Addr→Option HO
noncomputable def upd (H:Hp) (a:Addr) (o:HO):Hp:=fun b=>if b=a then some o else H b
theorem upd_same {H:Hp} {a:Addr} {o:HO}:upd H a o a=some o:=by unfold upd;rw [if_pos rfl]
theorem upd_ne {H:Hp} {a b:Addr} {o:HO} (h:b≠a):upd H a o b=H b:=by unfold upd;rw [if_neg h]
theorem ne_of {H:Hp} {a b:Addr} {o u:HO} (h:H a=some o) (h':H b=some u) (d:o≠u):a≠b:=by
  intro e;subst e;rw [h] at h';exact d (Option.some.inj h')
theorem ne_of_none {H:Hp} {a b:Addr} {o:HO} (h:H a=some o) (h':H b=none):a≠b:=by
  intro e;subst e;rw [h] at h';cases h'
section
variable (P:Program) (w:World)
noncomputable def ObjOk (H:Hp) (h:Heap) (a:Addr):HO→Prop
  | .lst xs=>xs.length≤sizeLine∧∃ (its:List Value) (n:Nat),Vals xs its∧h.get? a=some { cls:=.type "list",data:=.seq its.toArray n }
  | .tup xs=>xs.length≤sizeLine∧∃ its:List Value,Vals xs its∧IsTup h a its.toArray
  | .dK kvs=>kvs.length≤sizeLine∧(a == sysModules)=false∧∃ vs,KV kvs vs∧h.DictOf (mixKind P w) a vs
  | .dT kvs=>kvs.length≤sizeLine∧(a == sysModules)=false∧∃ xs:List (List Key×Addr×Value),
      Paired (fun (p:List Key×V) (q:List Key×Addr×Value)=>p.1=q.1∧H q.2.1=some (.tup (p.1.map kV))∧RelV p.2 q.2.2) kvs xs ∧
      ∃ o es ep,h.get? a=some o∧o.ExactDict∧o.data = .dict es ep∧es.toList=xs.map (entryOfKey (tupleKind (mixKind P w)))∧(xs.map (·.1)).Nodup
  | .set S n=>h.SetOf (intKind P w) a S n
  | .ins C dx fs=>H dx=some (.own a)∧fs.length≤1000∧dx≠a∧h.get? a=some (PySem.W.instObj C dx) ∧
      ∃ mA,h.Ns1 dx mA∧(∀ f,RelO (fs.lookup f) (mA f))∧PySem.Within mA (fs.map (·.1))
  | .own _=>∃ o,h.get? a=some o
  | .xd fs=>∃ mA,h.Ns1 a mA∧∀ f,RelO (fs.lookup f) (mA f)
  | .rng lo hi=>∃ t u v,h.get? a=some { cls:=.type "range",data:=.fields #[.int lo t,.int hi u,.int 1 v] }
  | .frz o u=>h.get? a=some o∧ObjOk H h a u
  | .tbl ps=>h.get? a=some { cls:=.none,data:=.fields ps }
  | .met f x=>h.get? a=some (PySem.W.methodObj (.ref f) (.ref x))
  | .ext φ=>φ h∧(∃ o,h.get? a=some o)∧∀ h1 h2:Heap,φ h1→(∀ o,h1.get? a=some o→h2.get? a=some o)→φ h2
noncomputable def HOk (H:Hp) (h:Heap):Prop:=∀ a o,H a=some o→ObjOk P w H h a o
end
section
variable {P:Program} {w:World} {H H':Hp} {h h':Heap} {a:Addr} {o:HO}
theorem ObjOk.lt (x:ObjOk P w H h a o):a < h.objs.size:=by
  cases o with
  | lst xs=>obtain ⟨_,_,_,_,e⟩:=x;exact Heap.lt_size e
  | tup xs=>obtain ⟨_,_,_,p⟩:=x;exact p.lt
  | dK kvs=>obtain ⟨_,_,_,_,o,_,_,e,_⟩:=x;exact Heap.lt_size e
  | dT kvs=>obtain ⟨_,_,_,_,o,_,_,e,_⟩:=x;exact Heap.lt_size e
  | set S n=>obtain ⟨o,_,_,_,e,_⟩:=x;exact Heap.lt_size e
  | ins C dx fs=>obtain ⟨_,_,_,e,_⟩:=x;exact Heap.lt_size e
  | own y=>obtain ⟨_,e⟩:=x;exact Heap.lt_size e
  | xd fs=>obtain ⟨_,⟨_,_,_,e,_⟩,_⟩:=x;exact Heap.lt_size e
  | rng lo hi=>obtain ⟨_,_,_,e⟩:=x;exact Heap.lt_size e
  | frz ob u=>obtain ⟨e,_⟩:=x;exact Heap.lt_size e
  | tbl ps=>exact Heap.lt_size (show h.get? a=some _ from x)
  | met f y=>exact Heap.lt_size (show h.get? a=some _ from x)
  | ext φ=>obtain ⟨_,⟨_,e⟩,_⟩:=x;exact Heap.lt_size e
theorem Paired.mapP {α β:Type} {F G:α→β→Prop}:∀ {l₁:List α} {l₂:List β},Paired F l₁ l₂→(∀ a b,F a b→G a b)→Paired G l₁ l₂
  | _,_,.nil,_=>.nil
  | _,_,.cons r t,f=>.cons (f _ _ r) (Paired.mapP t f)
theorem ObjOk.stay (x:ObjOk P w H h a o) (k:∀ b u,(b=a∨H b=some (.own a))→h.get? b=some u→h'.get? b=some u)
    (ho:∀ b,H b=some (.own a)→H' b=some (.own a)) (ht:∀ b xs,H b=some (.tup xs)→H' b=some (.tup xs)):ObjOk P w H' h' a o:=by
  induction o with
  | lst xs=>obtain ⟨z,its,n,r,e⟩:=x;exact ⟨z,its,n,r,k _ _ (.inl rfl) e⟩
  | tup xs=>obtain ⟨z,its,r,ob,e,c⟩:=x;exact ⟨z,its,r,ob,k _ _ (.inl rfl) e,c⟩
  | dK kvs=>obtain ⟨z,y,vs,r,ob,es,ep,e,c⟩:=x;exact ⟨z,y,vs,r,ob,es,ep,k _ _ (.inl rfl) e,c⟩
  | dT kvs =>
    obtain ⟨z,y,xs,r,ob,es,ep,e,c⟩:=x
    exact ⟨z,y,xs,Paired.mapP r fun p q z=>⟨z.1,ht _ _ z.2.1,z.2.2⟩,ob,es,ep,k _ _ (.inl rfl) e,c⟩
  | set S n=>obtain ⟨ob,es,ep,t,e,c⟩:=x;exact ⟨ob,es,ep,t,k _ _ (.inl rfl) e,c⟩
  | ins C dx fs =>
    obtain ⟨d,z,ne,e,mA,⟨od,es,ep,e2,c⟩,r⟩:=x
    exact ⟨ho _ d,z,ne,k _ _ (.inl rfl) e,mA,⟨od,es,ep,k _ _ (.inr d) e2,c⟩,r⟩
  | own y=>obtain ⟨ob,e⟩:=x;exact ⟨ob,k _ _ (.inl rfl) e⟩
  | xd fs=>obtain ⟨mA,⟨od,es,ep,e,c⟩,r⟩:=x;exact ⟨mA,⟨od,es,ep,k _ _ (.inl rfl) e,c⟩,r⟩
  | rng lo hi=>obtain ⟨t,u,v,e⟩:=x;exact ⟨t,u,v,k _ _ (.inl rfl) e⟩
  | frz ob u ih=>obtain ⟨e,q⟩:=x;exact ⟨k _ _ (.inl rfl) e,ih q⟩
  | tbl ps =>
    have e:h.get? a=some { cls:=.none,data:=.fields ps }:=x
    show h'.get? a=some { cls:=.none,data:=.fields ps }
    exact k a _ (.inl rfl) e
  | met f y =>
    have e:h.get? a=some (PySem.W.methodObj (.ref f) (.ref y)):=x
    show h'.get? a=some (PySem.W.methodObj (.ref f) (.ref y))
    exact k a _ (.inl rfl) e
  | ext φ=>obtain ⟨p,⟨o,e⟩,st⟩:=x;exact ⟨st _ _ p fun o q=>k _ _ (.inl rfl) q,⟨o,k _ _ (.inl rfl) e⟩,st⟩
theorem HOk.lt (x:HOk P w H h) (e:H a=some o):a < h.objs.size:=(x a o e).lt
theorem HOk.fresh (x:HOk P w H h) (e:h.objs.size≤a):H a=none:=by
  cases q:H a with
  | none=>rfl
  | some u=>exact absurd (Nat.lt_of_lt_of_le (x.lt q) e) (Nat.lt_irrefl _)
theorem HOk.kept (x:HOk P w H h) (k:∀ b u,h.get? b=some u→h'.get? b=some u):HOk P w H h':=fun a o e =>
  (x a o e).stay (fun b u _ q=>k b u q) (fun _ q=>q) fun _ _ q=>q
theorem HOk.laid (x:HOk P w H h) (k:∀ b u,h.get? b=some u→h'.get? b=some u) (hp:h.objs.size≤a) (new:ObjOk P w (upd H a o) h' a o):HOk P w (upd H a o) h':=fun b u e=>by
  have hn:=x.fresh hp
  by_cases hb:b=a
  · subst hb;rw [upd_same] at e;cases e;exact new
  · rw [upd_ne hb] at e
    exact (x b u e).stay (fun c v _ q=>k c v q) (fun c q=>by rw [upd_ne (ne_of_none q hn)];exact q) fun c xs q=>by rw [upd_ne (ne_of_none q hn)];exact q
end
noncomputable def Rd (H:Hp) (a:Addr) (u:HO):Prop:=H a=some u∨∃ o,H a=some (.frz o u)
theorem Rd.ok {P:Program} {w:World} {H:Hp} {h:Heap} {a:Addr} {u:HO} (r:Rd H a u) (x:HOk P w H h):ObjOk P w H h a u:=by
  rcases r with r | ⟨o,r⟩
  · exact x a u r
  · obtain ⟨_,q⟩:=x a _ r
    exact q
noncomputable def Mut:Option HO→Prop
  | some (.lst _)=>True
  | some (.dK _)=>True
  | some (.dT _)=>True
  | some (.set _ _)=>True
  | some (.ins _ _ _)=>True
  | some (.ext _)=>True
  | _=>False
section
variable {P:Program} {w:World} {H:Hp} {h h':Heap} {x e:Addr} {o':HO}
theorem HOk.write (ok:HOk P w H h) (mu:Mut (H x)) (he:e=x∨H e=some (.own x)) (k:∀ b u,b≠e→h.get? b=some u→h'.get? b=some u) (heo:∃ u,h'.get? e=some u)
    (new:ObjOk P w (upd H x o') h' x o'):HOk P w (upd H x o') h':=fun b u q=>by
  have nown:∀ c y,H c=some (.own y)→c≠x:=fun c y r z=>by subst z;rw [r] at mu;exact mu
  have ntup:∀ c xs,H c=some (.tup xs)→c≠x:=fun c xs r z=>by subst z;rw [r] at mu;exact mu
  by_cases hb:b=x
  · subst hb;rw [upd_same] at q;cases q;exact new
  · rw [upd_ne hb] at q
    by_cases hbe:b=e
    · have q':H b=some (.own x):=by
        rcases he with z | z
        · exact absurd (hbe.trans z) hb
        · rw [hbe];exact z
      rw [q] at q';cases q'
      obtain ⟨v,hv⟩:=heo
      exact ⟨v,by rw [hbe];exact hv⟩
    · refine (ok b u q).stay (fun c v hc r=>k c v ?_ r) (fun c r=>by rw [upd_ne (nown c b r)];exact r) fun c xs r=>by rw [upd_ne (ntup c xs r)];exact r
      rcases hc with rfl | hc
      · exact hbe
      · rintro rfl
        rcases he with z | z
        · exact nown c b hc z
        · rw [hc] at z;cases z;exact hb rfl
end
structure Un (fs ex:List Addr) (H H':Hp) (h h':Heap):Prop where
  keep:∀ b o,h.get? b=some o→H b=none→b ∉ fs→b ∉ ex→h'.get? b=some o
  slot:∀ b o,h.get? b=some o→H b=none→b ∈ fs→b ∉ ex→∃ sl,h'.get? b=some { o with slots:=sl }
  free:∀ b o,h.get? b=some o→H b=none→b ∉ ex→H' b=none
  there:∀ b o,h.get? b=some o→b ∉ ex→∃ o',h'.get? b=some o'
  tups:∀ b xs,H b=some (.tup xs)→H' b=some (.tup xs)
  frzs:∀ b o u,H b=some (.frz o u)→H' b=some (.frz o u)
  tbls:∀ b ps,H b=some (.tbl ps)→∃ more,H' b=some (.tbl (ps ++ more))
section
variable {fs fs' ex ex':List Addr} {H H1 H2:Hp} {h h1 h2 h':Heap} {a x e:Addr} {o:HO}
theorem Un.any (u:Un fs ex H H1 h h1) {b:Addr} {ob:Obj} (q:h.get? b=some ob) (n:H b=none) (hx:b ∉ ex):∃ sl,h1.get? b=some { ob with slots:=sl }:=by
  by_cases hb:b ∈ fs
  · exact u.slot b ob q n hb hx
  · exact ⟨ob.slots,u.keep b ob q n hb hx⟩
theorem Un.kept (k:∀ b u,h.get? b=some u→h'.get? b=some u):Un fs ex H H h h' :=
  ⟨fun b ob q _ _ _=>k b ob q,fun b ob q _ _ _=>⟨ob.slots,k b ob q⟩,fun _ _ _ n _=>n,fun b ob q _=>⟨ob,k b ob q⟩,fun _ _ q=>q,fun _ _ _ q=>q,fun _ ps q=>⟨#[],by rw [q];simp⟩⟩
theorem Un.refl:Un fs ex H H h h:=Un.kept fun _ _ q=>q
theorem Un.laid (k:∀ b u,h.get? b=some u→h'.get? b=some u) (hp:h.objs.size≤a) (hn:H a=none):Un fs ex H (upd H a o) h h' where
  keep:=fun b u q _ _ _=>k b u q
  slot:=fun b u q _ _ _=>⟨u.slots,k b u q⟩
  free:=fun b u q n _=>by rw [upd_ne (Nat.ne_of_lt (Nat.lt_of_lt_of_le (Heap.lt_size q) hp))];exact n
  there:=fun b u q _=>⟨u,k b u q⟩
  tups:=fun b xs q=>by rw [upd_ne (ne_of_none q hn)];exact q
  frzs:=fun b u xs q=>by rw [upd_ne (ne_of_none q hn)];exact q
  tbls:=fun b ps q=>⟨#[],by rw [upd_ne (ne_of_none q hn),q];simp⟩
theorem Un.write (mu:Mut (H x)) (he:e=x∨H e=some (.own x)) (k:∀ b u,b≠e→h.get? b=some u→h'.get? b=some u) (heo:∃ u,h'.get? e=some u):Un fs ex H (upd H x o) h h':=by
  have hx:∀ b,H b=none→b≠x:=fun b n z=>by subst z;rw [n] at mu;exact mu
  have hb:∀ b,H b=none→b≠e:=fun b n z=>by
    subst z
    rcases he with r | r
    · exact hx b n r
    · rw [n] at r;cases r
  have hm:∀ b u,H b=some u→¬ Mut (some u)→b≠x:=fun b u q nm z=>by subst z;rw [q] at mu;exact nm mu
  refine ⟨fun b u q n _ _=>k b u (hb b n) q,fun b u q n _ _=>⟨u.slots,k b u (hb b n) q⟩,fun b u q n _=>by rw [upd_ne (hx b n)];exact n,fun b u q _=>?_,
    fun b xs q=>by rw [upd_ne (hm b _ q fun z=>z)];exact q,fun b u xs q=>by rw [upd_ne (hm b _ q fun z=>z)];exact q,fun b ps q=>⟨#[],by rw [upd_ne (hm b _ q fun z=>z),q];simp⟩⟩
  by_cases hbe:b=e
  · subst hbe;exact heo
  · exact ⟨u,k b u hbe q⟩
end
noncomputable def trk (h:Heap) (H:Hp):List Addr:=(List.range h.objs.size).filter fun a=>(H a).isSome
noncomputable def hidT (h:Heap) (H:Hp):Heap:=PySem.W.hideAll h (trk h H)
theorem hidT_size (h:Heap) (H:Hp):(hidT h H).objs.size=h.objs.size:=PySem.W.hideAll_size _ _
theorem hidT_get {h:Heap} {H:Hp} {b:Addr} {o:Obj} (e:h.get? b=some o) (n:H b=none):(hidT h H).get? b=some o :=
  PySem.W.hideAll_get _ e fun hm=>by
    have q:(H b).isSome=true:=(List.mem_filter.mp hm).2
    rw [n] at q;simp at q
theorem of_hidT {h:Heap} {H:Hp} {b:Addr} {o:Obj} (e:(hidT h H).get? b=some o):h.get? b=some o∧H b=none:=by
  have e':h.get? b=some o:=PySem.W.of_hideAll (trk h H) e
  refine ⟨e',?_⟩
  cases q:H b with
  | none=>rfl
  | some x =>
    have hm:b ∈ trk h H:=List.mem_filter.mpr ⟨List.mem_range.mpr (Heap.lt_size e'),by simp [q]⟩
    have z:(hidT h H).get? b=none:=PySem.W.hideAll_none (trk h H) hm
    rw [z] at e;cases e
noncomputable def allNews (g h:Heap) (L:Addr):List (Addr×Obj):=(List.range h.objs.size).filterMap fun a=>if a=L∨(g.get? a).isSome=true then none else (h.get? a).map fun o=>(a,o)
noncomputable def rest (g h:Heap) (L d:Addr):List (Addr×Obj):=(allNews g h L).filter fun p=>decide (p.1≠d)
end L2
namespace L2
open PySem PySem.Spec PyProof.Rows
structure Mod (K:PySem.W.Frag) (mg:Str→Option Value) (base:Heap):Prop where
  kin:K.In base
  glob:base.Ns mainGlobals mg
  blt:∃ mb,base.Ns builtinsNs mb∧∀ x:Str,x ≠ "__name__" → mb x=bootBuiltins x
  nolimit:base.NoLimit
structure Cx where
  prog:Program
  w:World
  K:PySem.W.Frag
  mg:Str→Option Value
  base:Heap
  A:Around
  N:List Str
  s₀:Shared
  H₀:Hp
  env:Env
  outer:List Env
  stack:List Env
  ex:List Addr
  fn:Str→Bool
  calm:Bool
  pn:List (Addr×Obj)
  xe:Value→Shared→Prop
noncomputable def frs (l:List Env):List Addr:=l.filterMap (·.frame)
noncomputable abbrev Cx.fs (X:Cx):List Addr:=frs X.outer
noncomputable def Vis (sc:Scope) (x:Str):Prop:=sc.names.lookup x=some .local∨sc.names.lookup x=some .cell∨sc.names.lookup x=some .free
noncomputable def Loc (sc:Scope) (x:Str):Prop:=sc.names.lookup x=some .local∨sc.names.lookup x=some .cell
noncomputable def Look (env:Env) (h:Heap) (m:Str→Option Value) (x:Str) (u:Value):Prop :=
  (env.kindOf x=some .local∧m x=some u)∨((env.kindOf x=some .cell∨env.kindOf x=some .free)∧∃ c,env.cells.lookup x=some c∧h.IsCell c (some u))
structure Cx.Ok (X:Cx):Prop where
  mod:Mod X.K X.mg X.base
  kind:X.env.scope.kind = .function
  glob:X.env.globals=mainGlobals
  blt:X.env.builtins=builtinsNs
  above:X.s₀.heap.objs.size≤X.env.locals
  inj:∀ x y c,X.env.cells.lookup x=some c→X.env.cells.lookup y=some c→x=y
  has:∀ x,(X.env.kindOf x=some .cell∨X.env.kindOf x=some .free)→∃ c,X.env.cells.lookup x=some c
  cab:∀ x c,X.fn x=true→X.env.cells.lookup x=some c→X.s₀.heap.objs.size≤c
  hd:X.calm=true→X.A.handled=none
  frames:X.A.frames=some X.stack
  stk:X.stack=X.outer∨(X.stack=X.env :: X.outer∧X.env.frame=some X.env.locals)
  exf:∀ b ∈ X.ex,b≠X.env.locals∧∀ x c,X.env.cells.lookup x=some c→c≠b
  bs:∀ b o,X.base.get? b=some o→X.s₀.heap.get? b=some o∧X.H₀ b=none
  bsz:X.base.objs.size≤X.s₀.heap.objs.size
  noex:∀ b o,X.base.get? b=some o→b ∉ X.ex
  exfs:∀ b ∈ X.ex,b ∉ X.fs
  funs:X.s₀.heap.FunFrames X.base X.outer
  frf:∀ b ∈ X.fs,X.H₀ b=none
structure Inv (X:Cx) (pins:List (Addr×Obj)) (σ:List (Option V)) (H:Hp) (s:Shared):Prop where
  ok:X.Ok
  os:s.os=X.s₀.os
  bare:AllBare s.gens
  base:Un X.fs X.ex X.H₀ H X.s₀.heap s.heap
  loc:∃ m,s.heap.Ns X.env.locals m∧∀ (i:Nat) (x:Str) (v:V),X.N[i]? = some x→σ[i]? = some (some v)→Vis X.env.scope x→∃ u,RelV v u∧Look X.env s.heap m x u
  cell:∀ x c,X.env.cells.lookup x=some c→∃ v,s.heap.IsCell c v
  free:H X.env.locals=none
  freeC:∀ x c,X.env.cells.lookup x=some c→H c=none
  pin:∀ p ∈ X.pn ++ pins,s.heap.get? p.1=some p.2∧H p.1=none∧p.1≠X.env.locals∧p.1 ∉ X.fs∧∀ v,p.2.data≠.cell v
  hok:HOk X.prog X.w H s.heap
  len:σ.length=X.N.length
section
variable {X:Cx} {pins:List (Addr×Obj)} {σ:List (Option V)} {H H':Hp} {s:Shared} {h':Heap}
theorem Cx.Ok.nofr (ok:X.Ok) {b:Addr} {o:Obj} (e:X.base.get? b=some o):b ∉ X.fs:=fun hb=>by
  have:=(ok.funs.mem hb).1
  rw [e] at this;cases this
theorem Inv.bs (I:Inv X pins σ H s):∀ b o,X.base.get? b=some o→s.heap.get? b=some o∧H b=none:=fun b o e =>
  ⟨I.base.keep b o (I.ok.bs b o e).1 (I.ok.bs b o e).2 (I.ok.nofr e) (I.ok.noex b o e),I.base.free b o (I.ok.bs b o e).1 (I.ok.bs b o e).2 (I.ok.noex b o e)⟩
theorem Inv.bk (I:Inv X pins σ H s):∀ b o,X.base.get? b=some o→s.heap.get? b=some o:=fun b o e=>(I.bs b o e).1
theorem Inv.mod (I:Inv X pins σ H s):Mod X.K X.mg X.base:=I.ok.mod
theorem Inv.kIn (I:Inv X pins σ H s):X.K.In s.heap:=I.ok.mod.kin.keeps I.bk
theorem Inv.nolimit (I:Inv X pins σ H s):s.heap.NoLimit:=I.ok.mod.nolimit.keeps I.bk
theorem Inv.lt (I:Inv X pins σ H s):X.env.locals < s.heap.objs.size:=let ⟨_,hn,_⟩:=I.loc;hn.lt
theorem Inv.sz (I:Inv X pins σ H s):X.s₀.heap.objs.size≤s.heap.objs.size:=Nat.le_trans I.ok.above (Nat.le_of_lt I.lt)
theorem Inv.nofs (I:Inv X pins σ H s) {a:Addr} (h:s.heap.objs.size≤a):a ∉ X.fs:=fun hb=>by
  obtain ⟨_,o,ho,_⟩:=I.ok.funs.mem hb
  exact absurd (Nat.lt_of_lt_of_le (Heap.lt_size ho) (Nat.le_trans I.sz h)) (Nat.lt_irrefl _)
theorem Inv.cne (I:Inv X pins σ H s):∀ x c,X.env.cells.lookup x=some c→c≠X.env.locals:=fun x c e z=>by
  obtain ⟨v,o,ho,hd⟩:=I.cell x c e
  obtain ⟨m,⟨o',es,ep,ho',hd',_⟩,_⟩:=I.loc
  rw [z,ho'] at ho;cases ho;rw [hd'] at hd;cases hd
theorem Inv.funs (I:Inv X pins σ H s):s.heap.FunFrames X.base X.outer:=by
  have all:∀ (l:List Env),(∀ b ∈ frs l,b ∈ X.fs)→X.s₀.heap.FunFrames X.base l→s.heap.FunFrames X.base l:=by
    intro l
    induction l with
    | nil=>intro _ _;trivial
    | cons env r ih =>
      intro hs hl
      obtain ⟨hk,⟨L,o,hf,hn,ho,hd⟩,hr⟩:=hl
      have hL:L ∈ X.fs:=hs L (by unfold frs;rw [List.filterMap_cons,hf];exact List.mem_cons_self)
      obtain ⟨sl,e⟩:=I.base.slot L o ho (I.ok.frf L hL) hL fun z=>I.ok.exfs L z hL
      exact ⟨hk,⟨L,_,hf,hn,e,hd⟩,ih (fun b hb=>hs b (by unfold frs;rw [List.filterMap_cons,hf];exact List.mem_cons_of_mem _ hb)) hr⟩
  exact all X.outer (fun _ hb=>hb) I.ok.funs
theorem Inv.stack (I:Inv X pins σ H s):s.heap.FunFrames X.base X.stack:=by
  rcases I.ok.stk with e | ⟨e,hf⟩
  · rw [e];exact I.funs
  · rw [e]
    obtain ⟨m,hn,_⟩:=I.loc
    refine .cons (by rw [I.ok.kind];decide) hf hn ?_ I.funs
    exact Heap.get?_none_of_le (Nat.le_trans I.ok.bsz I.ok.above)
theorem Inv.stkSub (I:Inv X pins σ H s):∀ b ∈ frs X.stack,b ∈ X.env.locals :: X.fs:=fun b hb=>by
  rcases I.ok.stk with e | ⟨e,hf⟩
  · rw [e] at hb;exact List.mem_cons_of_mem _ hb
  · rw [e] at hb
    unfold frs at hb
    rw [List.filterMap_cons,hf] at hb
    exact hb
theorem Inv.stkFree (I:Inv X pins σ H s):∀ b ∈ frs X.stack,H b=none:=fun b hb=>by
  rcases List.mem_cons.mp (I.stkSub b hb) with e | hb
  · rw [e];exact I.free
  · obtain ⟨_,o,ho,_⟩:=I.ok.funs.mem hb
    exact I.base.free b o ho (I.ok.frf b hb) fun z=>I.ok.exfs b z hb
theorem Inv.step {g':Array GenState} {t':Nat} {d':Drawn} {ch:List Addr} (I:Inv X pins σ H s)
    (hch:∀ b ∈ ch,(b ∈ X.ex∨X.s₀.heap.objs.size≤b)∧b≠X.env.locals∧(∀ x c,X.env.cells.lookup x=some c→c≠b)∧∀ p ∈ X.pn ++ pins,p.1≠b)
    (keep:∀ b o,b≠X.env.locals→b ∉ X.fs→b ∉ ch→s.heap.get? b=some o→H b=none→h'.get? b=some o)
    (slot:∀ b o,b≠X.env.locals→b ∈ X.fs→b ∉ ch→s.heap.get? b=some o→H b=none→∃ sl,h'.get? b=some { o with slots:=sl }) (free:∀ b o,b ∉ ch→s.heap.get? b=some o→H b=none→H' b=none)
    (there:∀ b o,b ∉ ch→s.heap.get? b=some o→∃ o',h'.get? b=some o')
    (tups:∀ b xs,H b=some (.tup xs)→H' b=some (.tup xs)) (frzs:∀ b o u,H b=some (.frz o u)→H' b=some (.frz o u)) (tbls:∀ b ps,H b=some (.tbl ps)→∃ more,H' b=some (.tbl (ps ++ more)))
    (ns:∀ m,s.heap.Ns X.env.locals m→h'.Ns X.env.locals m) (hok:HOk X.prog X.w H' h') (hg:AllBare g') :
    Inv X pins σ H' { s with heap:=h',gens:=g',drawn:=d',toks:=t' }:=by
  have neL:∀ b o,X.s₀.heap.get? b=some o→b≠X.env.locals:=fun b o e=>Nat.ne_of_lt (Nat.lt_of_lt_of_le (Heap.lt_size e) I.ok.above)
  have neC:∀ b o,X.s₀.heap.get? b=some o→b ∉ X.ex→b ∉ ch:=fun b o e hx hb=>by
    rcases (hch b hb).1 with z | z
    · exact hx z
    · exact absurd (Nat.lt_of_lt_of_le (Heap.lt_size e) z) (Nat.lt_irrefl _)
  have cellK:∀ x c,X.env.cells.lookup x=some c→∀ v,s.heap.IsCell c v→h'.IsCell c v:=fun x c e v ⟨o,ho,hd⟩=>by
    have nch:c ∉ ch:=fun z=>(hch c z).2.2.1 x c e rfl
    by_cases hc:c ∈ X.fs
    · obtain ⟨sl,q⟩:=slot c o (I.cne x c e) hc nch ho (I.freeC x c e)
      exact ⟨_,q,hd⟩
    · exact ⟨o,keep c o (I.cne x c e) hc nch ho (I.freeC x c e),hd⟩
  refine ⟨I.ok,I.os,hg,⟨fun b o e n hb hx=>?_,fun b o e n hb hx=>?_,fun b o e n hx=>?_,fun b o e hx=>?_,fun b xs e=>tups b xs (I.base.tups b xs e),fun b o xs e=>frzs b o xs (I.base.frzs b o xs e),fun b ps e=>?_⟩,?_,fun x c e=>?_,?_,fun x c e=>?_,fun p hp=>?_,hok,I.len⟩
  · exact keep b o (neL b o e) hb (neC b o e hx) (I.base.keep b o e n hb hx) (I.base.free b o e n hx)
  · obtain ⟨sl,e1⟩:=I.base.slot b o e n hb hx
    obtain ⟨sl',e2⟩:=slot b _ (neL b o e) hb (neC b o e hx) e1 (I.base.free b o e n hx)
    exact ⟨sl',e2⟩
  · obtain ⟨o',e1⟩:=I.base.there b o e hx
    exact free b o' (neC b o e hx) e1 (I.base.free b o e n hx)
  · obtain ⟨o',e1⟩:=I.base.there b o e hx
    exact there b o' (neC b o e hx) e1
  · obtain ⟨m1,e1⟩:=I.base.tbls b ps e
    obtain ⟨m2,e2⟩:=tbls b _ e1
    exact ⟨m1 ++ m2,by rw [e2,Array.append_assoc]⟩
  · obtain ⟨m,hn,hl⟩:=I.loc
    refine ⟨m,ns m hn,fun i x v e1 e2 e3=>?_⟩
    obtain ⟨u,r,l⟩:=hl i x v e1 e2 e3
    refine ⟨u,r,?_⟩
    rcases l with l | ⟨k,c,e,z⟩
    · exact .inl l
    · exact .inr ⟨k,c,e,cellK x c e _ z⟩
  · obtain ⟨v,z⟩:=I.cell x c e
    exact ⟨v,cellK x c e v z⟩
  · obtain ⟨m,⟨o,_,_,ho,_⟩,_⟩:=I.loc
    exact free _ o (fun z=>(hch _ z).2.1 rfl) ho I.free
  · obtain ⟨v,o,ho,hd⟩:=I.cell x c e
    exact free c o (fun z=>(hch c z).2.2.1 x c e rfl) ho (I.freeC x c e)
  · obtain ⟨e,n,ne,nf,d⟩:=I.pin p hp
    have nch:p.1 ∉ ch:=fun z=>(hch p.1 z).2.2.2 p hp rfl
    exact ⟨keep p.1 p.2 ne nf nch e n,free p.1 p.2 nch e n,ne,nf,d⟩
theorem Inv.un {t':Nat} (I:Inv X pins σ H s) (u:Un X.fs [] H H' s.heap h') (hok:HOk X.prog X.w H' h'):Inv X pins σ H' { s with heap:=h',toks:=t' }:=by
  obtain ⟨m,⟨o,es,ep,ho,r⟩,_⟩:=id I.loc
  obtain ⟨sl,hL⟩:=u.any ho I.free (by simp)
  exact I.step (g':=s.gens) (d':=s.drawn) (ch:=[]) (fun _ z=>nomatch z) (fun b o _ hb _ e n=>u.keep b o e n hb (by simp)) (fun b o _ hb _ e n=>u.slot b o e n hb (by simp)) (fun b o _ e n=>u.free b o e n (by simp)) (fun b o _ e=>u.there b o e (by simp)) u.tups u.frzs u.tbls (fun m' hm=>by
    obtain ⟨o',es',ep',ho',r'⟩:=hm
    rw [ho] at ho';cases ho'
    exact ⟨_,es',ep',hL,r'⟩) hok I.bare
theorem Inv.call {g':Array GenState} {t':Nat} {d':Drawn} {ch:List Addr} (I:Inv X pins σ H s) (u:Un (frs X.stack) ch H H' s.heap h') (hok:HOk X.prog X.w H' h') (hg:AllBare g')
    (hch:∀ b ∈ ch,(b ∈ X.ex∨X.s₀.heap.objs.size≤b)∧b≠X.env.locals∧(∀ x c,X.env.cells.lookup x=some c→c≠b)∧∀ p ∈ X.pn ++ pins,p.1≠b) :
    Inv X pins σ H' { s with heap:=h',gens:=g',drawn:=d',toks:=t' }:=by
  obtain ⟨m,⟨o,es,ep,ho,r⟩,_⟩:=id I.loc
  obtain ⟨sl,hL⟩:=u.any ho I.free fun z=>(hch _ z).2.1 rfl
  exact I.step (ch:=ch) hch (fun b o hL hb hc e n=>u.keep b o e n (fun z=>(List.mem_cons.mp (I.stkSub b z)).elim hL hb) hc) (fun b o _ _ hc e n=>u.any e n hc) (fun b o hc e n=>u.free b o e n hc) (fun b o hc e=>u.there b o e hc) u.tups u.frzs u.tbls (fun m' hm=>by
    obtain ⟨o',es',ep',ho',r'⟩:=hm
    rw [ho] at ho';cases ho'
    exact ⟨_,es',ep',hL,r'⟩) hok hg
theorem Inv.turned {t':Nat} {it:Addr} (I:Inv X pins σ H s) (k:∀ b o,b≠it→s.heap.get? b=some o→h'.get? b=some o) (hn:H it=none) (hL:it≠X.env.locals)
    (h1:it ∈ X.ex∨X.s₀.heap.objs.size≤it) (h2:∀ x c,X.env.cells.lookup x=some c→c≠it) (h3:∀ p ∈ X.pn ++ pins,p.1≠it):Inv X pins σ H { s with heap:=h',toks:=t' }:=by
  have nit:∀ b u,H b=some u→b≠it:=fun b u e z=>by rw [z,hn] at e;cases e
  refine I.step (g':=s.gens) (d':=s.drawn) (ch:=[it]) (fun b hb=>?_) (fun b o _ _ hc e _=>k b o (fun z=>hc (by simp [z])) e) (fun b o _ _ hc e _=>⟨o.slots,k b o (fun z=>hc (by simp [z])) e⟩) (fun _ _ _ _ n=>n)
    (fun b o hc e=>⟨o,k b o (fun z=>hc (by simp [z])) e⟩) (fun _ _ e=>e) (fun _ _ _ e=>e) (fun b ps e=>⟨#[],by rw [e];simp⟩) (fun m hm=>?_) (fun b u e=>?_) I.bare
  · have e:b=it:=by simpa using hb
    subst e
    exact ⟨h1,hL,h2,h3⟩
  · obtain ⟨o,es,ep,ho,r⟩:=hm
    exact ⟨o,es,ep,k _ o (Ne.symm hL) ho,r⟩
  · refine (I.hok b u e).stay (fun c v hc q=>k c v ?_ q) (fun _ q=>q) fun _ _ q=>q
    rcases hc with z | z
    · rw [z];exact nit b u e
    · exact nit c _ z
theorem Inv.tok (I:Inv X pins σ H s) (t:Nat):Inv X pins σ H { s with toks:=t }:=I.un (h':=s.heap) (t':=t) Un.refl I.hok
theorem Inv.kept {t':Nat} (I:Inv X pins σ H s) (k:∀ b u,s.heap.get? b=some u→h'.get? b=some u):Inv X pins σ H { s with heap:=h',toks:=t' }:=I.un (Un.kept k) (I.hok.kept k)
theorem Inv.laid {a:Addr} {o:HO} {t':Nat} (I:Inv X pins σ H s) (k:∀ b u,s.heap.get? b=some u→h'.get? b=some u) (hp:s.heap.objs.size≤a) (new:ObjOk X.prog X.w (upd H a o) h' a o) :
    Inv X pins σ (upd H a o) { s with heap:=h',toks:=t' }:=I.un (Un.laid k hp (I.hok.fresh hp)) (I.hok.laid k hp new)
theorem Inv.write {x e:Addr} {o:HO} {t':Nat} (I:Inv X pins σ H s) (mu:Mut (H x)) (he:e=x∨H e=some (.own x)) (k:∀ b u,b≠e→s.heap.get? b=some u→h'.get? b=some u) (heo:∃ u,h'.get? e=some u)
    (new:ObjOk X.prog X.w (upd H x o) h' x o):Inv X pins σ (upd H x o) { s with heap:=h',toks:=t' }:=I.un (Un.write mu he k heo) (I.hok.write mu he k heo new)
theorem Inv.pins_of {pins':List (Addr×Obj)} (I:Inv X pins σ H s) (h:∀ p ∈ pins',s.heap.get? p.1=some p.2∧H p.1=none∧p.1≠X.env.locals∧p.1 ∉ X.fs∧∀ v,p.2.data≠.cell v):Inv X pins' σ H s :=
  ⟨I.ok,I.os,I.bare,I.base,I.loc,I.cell,I.free,I.freeC,fun p hp=>(List.mem_append.mp hp).elim (fun z=>I.pin p (List.mem_append_left _ z)) (h p),I.hok,I.len⟩
theorem nodup_ix {N:List Str} (hN:N.Nodup) {i j:Nat} {x:Str} (a:N[i]? = some x) (b:N[j]? = some x):i=j:=by
  obtain ⟨h1,e1⟩:=List.getElem?_eq_some_iff.mp a
  obtain ⟨h2,e2⟩:=List.getElem?_eq_some_iff.mp b
  exact (List.getElem_inj hN).mp (e1.trans e2.symm)
theorem store_ok2 {M:Model} {A:Around} {E:Value→Shared→Prop} {i:Nat} {x:Str} {v:V} {u:Value} {Q:Unit→Shared→Prop} (I:Inv X pins σ H s) (hN:X.N.Nodup) (hi:X.N[i]? = some x) (hx:Loc X.env.scope x) (r:RelV v u)
    (h:∀ s',Inv X pins (σ.set i (some v)) H s'→(∃ a,Heap.SameBut a s.heap s'.heap∧(a=X.env.locals∨X.env.cells.lookup x=some a))→Q () s') (hf:X.fn x=true∨X.env.scope.names.lookup x=some .local:=by first | exact .inl rfl | exact .inr rfl | assumption):wpAny M A (storeName X.env x u) Q E s:=by
  obtain ⟨m,hn,hl⟩:=id I.loc
  have hcls:(X.env.scope.kind == .class || (X.env.scope.kind == .module && X.env.locals != X.env.globals))=false:=by rw [I.ok.kind];rfl
  have hiσ:i < σ.length:=by rw [I.len];exact (List.getElem?_eq_some_iff.mp hi).1
  have cne:=I.cne
  have tracked:∀ {a:Addr} {h':Heap},(∃ o,s.heap.get? a=some o∧H a=none)→Heap.SameBut a s.heap h'→HOk X.prog X.w H h':=fun {a h'} ha hs b ob e=>by
    obtain ⟨_,_,hfree⟩:=ha
    refine (I.hok b ob e).stay (fun c w' hc q=>(hs.2 c ?_).trans q) (fun _ q=>q) fun _ _ q=>q
    rintro rfl
    rcases hc with rfl | hc
    · rw [hfree] at e;cases e
    · rw [hfree] at hc;cases hc
  rcases hx with hk | hk
  · refine wpAny_storeName_local hk hn (fun h' hn' hs=>?_) hcls
    obtain ⟨oL,_,_,hoL,_⟩:=id hn
    refine h _ ⟨I.ok,I.os,I.bare,⟨fun b o e n hb hx=>?_,fun b o e n hb hx=>?_,I.base.free,fun b o e hx=>?_,I.base.tups,I.base.frzs,I.base.tbls⟩,⟨_,hn',fun j y v' e1 e2 e3=>?_⟩,fun y c e=>?_,I.free,I.freeC,fun p hp=>?_,tracked ⟨oL,hoL,I.free⟩ hs,by simpa using I.len⟩ ⟨_,hs,.inl rfl⟩
    · exact (hs.2 b (Nat.ne_of_lt (Nat.lt_of_lt_of_le (Heap.lt_size e) I.ok.above))).trans (I.base.keep b o e n hb hx)
    · obtain ⟨sl,e1⟩:=I.base.slot b o e n hb hx
      exact ⟨sl,(hs.2 b (Nat.ne_of_lt (Nat.lt_of_lt_of_le (Heap.lt_size e) I.ok.above))).trans e1⟩
    · obtain ⟨o',e1⟩:=I.base.there b o e hx
      exact ⟨o',(hs.2 b (Nat.ne_of_lt (Nat.lt_of_lt_of_le (Heap.lt_size e) I.ok.above))).trans e1⟩
    · by_cases hj:j=i
      · subst hj
        rw [hi] at e1;cases e1
        rw [List.getElem?_set_self hiσ] at e2
        cases e2
        exact ⟨u,r,.inl ⟨hk,by simp⟩⟩
      · rw [List.getElem?_set_ne (Ne.symm hj)] at e2
        obtain ⟨u',r',q⟩:=hl j y v' e1 e2 e3
        refine ⟨u',r',?_⟩
        rcases q with ⟨k,e⟩ | ⟨k,c,e,z⟩
        · refine .inl ⟨k,?_⟩
          have:y≠x:=fun e=>hj (nodup_ix hN e1 (e ▸ hi))
          simp [this,e]
        · exact .inr ⟨k,c,e,z.sameBut hs (cne y c e)⟩
    · obtain ⟨w',z⟩:=I.cell y c e
      exact ⟨w',z.sameBut hs (cne y c e)⟩
    · obtain ⟨e,n,ne,nf,d⟩:=I.pin p hp
      exact ⟨(hs.2 p.1 ne).trans e,n,ne,nf,d⟩
  · have hfn:X.fn x=true:=by
      rcases hf with z | z
      · exact z
      · rw [z] at hk;cases hk
    obtain ⟨c,hc⟩:=I.ok.has x (.inl hk)
    obtain ⟨w',z⟩:=I.cell x c hc
    refine wpAny_storeName_cell I.ok.kind hk hc z (fun h' hc' hs=>?_)
    obtain ⟨oc,hoc,hocd⟩:=id z
    refine h { s with heap:=h' } ⟨I.ok,I.os,I.bare,⟨fun b o e n hb hx=>?_,fun b o e n hb hx=>?_,I.base.free,fun b o e hx=>?_,I.base.tups,I.base.frzs,I.base.tbls⟩,⟨m,hn.sameBut hs (Ne.symm (cne x c hc)),fun j y v' e1 e2 e3=>?_⟩,fun y c' e=>?_,I.free,I.freeC,fun p hp=>?_,tracked ⟨oc,hoc,I.freeC x c hc⟩ hs,by simpa using I.len⟩ ⟨c,hs,.inr hc⟩
    · exact (hs.2 b (Nat.ne_of_lt (Nat.lt_of_lt_of_le (Heap.lt_size e) (I.ok.cab x c hfn hc)))).trans (I.base.keep b o e n hb hx)
    · obtain ⟨sl,e1⟩:=I.base.slot b o e n hb hx
      exact ⟨sl,(hs.2 b (Nat.ne_of_lt (Nat.lt_of_lt_of_le (Heap.lt_size e) (I.ok.cab x c hfn hc)))).trans e1⟩
    · obtain ⟨o',e1⟩:=I.base.there b o e hx
      exact ⟨o',(hs.2 b (Nat.ne_of_lt (Nat.lt_of_lt_of_le (Heap.lt_size e) (I.ok.cab x c hfn hc)))).trans e1⟩
    · by_cases hj:j=i
      · subst hj
        rw [hi] at e1;cases e1
        rw [List.getElem?_set_self hiσ] at e2
        cases e2
        exact ⟨u,r,.inr ⟨.inl hk,c,hc,hc'⟩⟩
      · rw [List.getElem?_set_ne (Ne.symm hj)] at e2
        obtain ⟨u',r',q⟩:=hl j y v' e1 e2 e3
        refine ⟨u',r',?_⟩
        rcases q with q | ⟨k,c',e,z'⟩
        · exact .inl q
        · refine .inr ⟨k,c',e,z'.sameBut hs ?_⟩
          rintro rfl
          exact hj (nodup_ix hN e1 (I.ok.inj _ _ _ e hc ▸ hi))
    · by_cases hcc:c'=c
      · subst hcc;exact ⟨_,hc'⟩
      · obtain ⟨w2,z2⟩:=I.cell y c' e
        exact ⟨w2,z2.sameBut hs hcc⟩
    · obtain ⟨e,n,ne,nf,d⟩:=I.pin p hp
      refine ⟨(hs.2 p.1 ?_).trans e,n,ne,nf,d⟩
      intro q
      rw [q,hoc] at e
      have q':oc=p.2:=Option.some.inj e
      exact d w' (by rw [← q'];exact hocd)
theorem store_ok {M:Model} {A:Around} {E:Value→Shared→Prop} {i:Nat} {x:Str} {v:V} {u:Value} {Q:Unit→Shared→Prop} (I:Inv X pins σ H s) (hN:X.N.Nodup) (hi:X.N[i]? = some x) (hx:Loc X.env.scope x) (r:RelV v u)
    (h:∀ s',Inv X pins (σ.set i (some v)) H s'→Q () s') (hf:X.fn x=true∨X.env.scope.names.lookup x=some .local:=by first | exact .inl rfl | exact .inr rfl | assumption):wpAny M A (storeName X.env x u) Q E s :=
  store_ok2 I hN hi hx r (fun s' I' _=>h s' I') hf
theorem Inv.call' {s':Shared} {ch:List Addr} (I:Inv X pins σ H s) (ho:s'.os=s.os) (u:Un (frs X.stack) ch H H' s.heap s'.heap) (hok:HOk X.prog X.w H' s'.heap) (hg:AllBare s'.gens)
    (hch:∀ b ∈ ch,(b ∈ X.ex∨X.s₀.heap.objs.size≤b)∧b≠X.env.locals∧(∀ x c,X.env.cells.lookup x=some c→c≠b)∧∀ p ∈ X.pn ++ pins,p.1≠b):Inv X pins σ H' s':=by
  obtain ⟨h',g',d',t',o'⟩:=s'
  have e:o'=s.os:=ho
  subst e
  exact I.call (g':=g') (t':=t') (d':=d') u hok hg hch
end
noncomputable abbrev XK:=Value→Option Addr→Hp→Prop
noncomputable abbrev St:=List (Option V)
noncomputable abbrev VK:=V→Hp→Prop
noncomputable abbrev TE:=St→Hp→VK→Prop
noncomputable abbrev TT:=St→Hp→(Bool→Hp→Prop)→Prop
noncomputable abbrev TA:=St→Hp→(List V→Hp→Prop)→Prop
structure Ends where
  nx:St→Hp→Prop
  rt:VK
  bk:St→Hp→Prop:=fun _ _=>False
  ct:St→Hp→Prop:=fun _ _=>False
noncomputable abbrev TS:=Ends→St→Hp→Prop
noncomputable def EP (X:Cx) (pins:List (Addr×Obj)) (σ:St) (Q:VK) (u:Value) (s':Shared):Prop:=∃ v H',Inv X pins σ H' s'∧RelV v u∧Q v H'
noncomputable def TP (X:Cx) (pins:List (Addr×Obj)) (σ:St) (Q:Bool→Hp→Prop) (b:Bool) (s':Shared):Prop:=∃ H',Inv X pins σ H' s'∧Q b H'
noncomputable def AP (X:Cx) (pins:List (Addr×Obj)) (σ:St) (Q:List V→Hp→Prop) (us:List Value) (s':Shared):Prop:=∃ vs H',Inv X pins σ H' s'∧Vals vs us∧Q vs H'
noncomputable def SP (X:Cx) (pins:List (Addr×Obj)) (D:Ends) (f:Flow) (s':Shared):Prop :=
  match f with
  | .next=>∃ σ' H',Inv X pins σ' H' s'∧D.nx σ' H'
  | .brk=>∃ σ' H',Inv X pins σ' H' s'∧D.bk σ' H'
  | .cont=>∃ σ' H',Inv X pins σ' H' s'∧D.ct σ' H'
  | .ret u=>∃ v σ' H',Inv X pins σ' H' s'∧RelV v u∧D.rt v H'
noncomputable def PE (X:Cx) (e:Expr) (t:TE):Prop :=
  ∀ (pins:List (Addr×Obj)) (s:Shared) (σ:St) (H:Hp) (Q:VK),Inv X pins σ H s→t σ H Q→wpAny (model X.prog X.w) X.A (eval e X.env) (EP X pins σ Q) X.xe s
noncomputable def PT (X:Cx) (e:Expr) (t:TT):Prop :=
  ∀ (pins:List (Addr×Obj)) (s:Shared) (σ:St) (H:Hp) (Q:Bool→Hp→Prop),Inv X pins σ H s→t σ H Q→wpAny (model X.prog X.w) X.A (isTrue e X.env (eval e X.env)) (TP X pins σ Q) X.xe s
noncomputable def PW (X:Cx) (e:Expr) (t:TT):Prop :=
  ∀ (whole:Sem Value) (pins:List (Addr×Obj)) (s:Shared) (σ:St) (H:Hp) (Q:Bool→Hp→Prop),Inv X pins σ H s→t σ H Q→wpAny (model X.prog X.w) X.A (isTrue e X.env whole) (TP X pins σ Q) X.xe s
noncomputable def PA (X:Cx) (es:List Expr) (t:TA):Prop :=
  ∀ (pos:Pos) (pins:List (Addr×Obj)) (s:Shared) (σ:St) (H:Hp) (Q:List V→Hp→Prop),Inv X pins σ H s→t σ H Q→wpAny (model X.prog X.w) X.A (spliced (backTo pos (starEach es X.env))) (AP X pins σ Q) X.xe s
noncomputable def PS (X:Cx) (st:Stmt) (t:TS):Prop :=
  ∀ (pins:List (Addr×Obj)) (s:Shared) (σ:St) (H:Hp) (D:Ends),Inv X pins σ H s→t D σ H→wpAny (model X.prog X.w) X.A (exec st X.env) (SP X pins D) X.xe s
noncomputable def PSs (X:Cx) (st:List Stmt) (t:TS):Prop :=
  ∀ (pins:List (Addr×Obj)) (s:Shared) (σ:St) (H:Hp) (D:Ends),Inv X pins σ H s→t D σ H→wpAny (model X.prog X.w) X.A (execs st X.env) (SP X pins D) X.xe s
theorem thn {α:Type} {t:Sem α} {Q Q':α→Shared→Prop} {M:Model} {A:Around} {E:Value→Shared→Prop} {s:Shared} (h:wpAny M A t Q E s) (hQ:∀ a s,Q a s→Q' a s):wpAny M A t Q' E s:=wpAny_mono h hQ fun _ _ x=>x
end L2
namespace L2
open PySem PySem.Spec PyProof.Rows
section
variable {X:Cx}
noncomputable def tVar (i:Nat):TE:=fun σ H Q=>∃ v,σ[i]? = some (some v)∧Q v H
noncomputable def tC (v:V):TE:=fun _ H Q=>Q v H
theorem pe_var {i:Nat} {x:Str} {pos:Pos} (hN:X.N[i]? = some x) (hv:Vis X.env.scope x) (hd:(x == ("__debug__" : Str))=false:=by decide) (hcd:(x == ("__classdict__" : Str))=false:=by decide):PE X (.Name x pos) (tVar i):=by
  intro pins s σ H Q I h
  obtain ⟨v,e,h⟩:=h
  obtain ⟨m,hn,hl⟩:=I.loc
  obtain ⟨u,r,l⟩:=hl i x v hN e hv
  have fin:EP X pins σ Q u s:=⟨v,H,I,r,h⟩
  rcases l with ⟨hk,hm⟩ | ⟨hk,c,hc,hcell⟩
  · exact wpAny_Name (wpAny_loadName_local I.ok.kind hk hn hm fin) hd
  · rcases hk with hk | hk
    · exact wpAny_Name (wpAny_loadName_cell I.ok.kind hk hc hcell fin) hd
    · exact wpAny_Name (wpAny_loadName_free I.ok.kind hk hc hcell fin hcd) hd
theorem pe_int {i j pos}:PE X (.Constant (.int i) j pos) (tC (.int i)):=fun _ _ _ H _ I h=>wpAny_Constant_int ⟨.int i,H,I.tok _,⟨_,rfl⟩,h⟩
theorem pe_bl {b j pos}:PE X (.Constant (.bool b) j pos) (tC (.bl b)):=fun _ _ _ H _ I h=>Constant_bool ⟨.bl b,H,I,rfl,h⟩
theorem pe_non {j pos}:PE X (.Constant .none j pos) (tC .non):=fun _ _ _ H _ I h=>Constant_none ⟨.non,H,I,rfl,h⟩
theorem pe_str {x j pos}:PE X (.Constant (.str x) j pos) (tC (.str x)):=fun _ _ _ H _ I h=>Calls.Constant_str ⟨.str x,H,I.tok _,⟨_,rfl⟩,h⟩
noncomputable def Gl (X:Cx) (x:Str):Prop:=X.env.kindOf x=some .globalImplicit
theorem ld_glob {E:Value→Shared→Prop} {pins:List (Addr×Obj)} {s:Shared} {σ:St} {H:Hp} {x:Str} {u:Value} {pos:Pos} {Q:Value→Shared→Prop} (I:Inv X pins σ H s) (hg:Gl X x) (hm:X.mg x=some u) (h:Q u s)
    (hd:(x == ("__debug__" : Str))=false:=by decide):wpAny (model X.prog X.w) X.A (eval (.Name x pos) X.env) Q E s :=
  Calls.Name_function_global I.ok.kind hg (Calls.loadGlobal_global (by rw [I.ok.glob];exact I.mod.glob.keeps I.bk) hm h) hd
theorem ld_blt {E:Value→Shared→Prop} {pins:List (Addr×Obj)} {s:Shared} {σ:St} {H:Hp} {x:Str} {u:Value} {pos:Pos} {Q:Value→Shared→Prop} (I:Inv X pins σ H s) (hg:Gl X x) (hm:X.mg x=none) (hv:bootBuiltins x=some u) (h:Q u s)
    (hn:x ≠ "__name__":=by decide) (hd:(x == ("__debug__" : Str))=false:=by decide):wpAny (model X.prog X.w) X.A (eval (.Name x pos) X.env) Q E s:=by
  obtain ⟨mb,h1,h2⟩:=I.mod.blt
  exact Calls.Name_function_global I.ok.kind hg (Calls.loadGlobal_builtin (by rw [I.ok.glob];exact I.mod.glob.keeps I.bk) hm (by rw [I.ok.blt];exact h1.keeps I.bk) ((h2 x hn).trans hv) h) hd
theorem pe_glob {x:Str} {v:V} {u:Value} {pos:Pos} (hg:Gl X x) (hm:X.mg x=some u) (r:RelV v u) (hd:(x == ("__debug__" : Str))=false:=by decide):PE X (.Name x pos) (tC v) :=
  fun _ _ _ H _ I h=>ld_glob I hg hm ⟨v,H,I,r,h⟩ hd
theorem pe_bltn {x:Str} {v:V} {u:Value} {pos:Pos} (hg:Gl X x) (hm:X.mg x=none) (hv:bootBuiltins x=some u) (r:RelV v u) (hn:x ≠ "__name__":=by decide) (hd:(x == ("__debug__" : Str))=false:=by decide):PE X (.Name x pos) (tC v) :=
  fun _ _ _ H _ I h=>ld_blt I hg hm hv ⟨v,H,I,r,h⟩ hn hd
variable {a b:Expr} {ta tb:TE} {pos:Pos}
noncomputable def PC (X:Cx) (op:CmpOp) (a b:Expr) (t:TE):Prop :=
  ∀ (pins:List (Addr×Obj)) (s:Shared) (σ:St) (H:Hp) (Q:VK),Inv X pins σ H s→t σ H Q →
    wpAny (model X.prog X.w) X.A (eval a X.env) (fun v s₁=>wpAny (model X.prog X.w) X.A (eval b X.env) (fun u s₂=>wpAny (model X.prog X.w) X.A (compareOp op v u) (EP X pins σ Q) X.xe s₂) X.xe s₁) X.xe s
theorem nobehind (b:Expr) {op:CmpOp} (h:op≠.In) (h2:op≠.NotIn):behindInMarks op b=false:=by
  have e1:(op == CmpOp.In)=false:=by cases op <;> first | rfl | exact absurd rfl h
  have e2:(op == CmpOp.NotIn)=false:=by cases op <;> first | rfl | exact absurd rfl h2
  cases b <;> simp [behindInMarks,e1,e2]
noncomputable def tB (t:TE):TT:=fun σ H Q=>t σ H fun x H1=>∃ c,x = .bl c∧Q c H1
theorem pt_cmp {op:CmpOp} {t:TE} (h:PC X op a b t) (h1:behindInMarks op b=false:=by first | exact nobehind _ (by decide) (by decide) | rfl):PT X (.Compare a [op] [b] pos) (tB t):=by
  intro pins s σ H Q I hw
  refine wpAny_isTrue_Compare1 (thn (h pins s σ H _ I hw) fun v s1 h1=>thn h1 fun u s2 h2=>thn h2 fun c s3 ⟨x,H1,I1,r1,q1⟩=>?_) h1
  obtain ⟨d,rfl,q⟩:=q1
  cases r1
  exact wpAny_truthy_bool ⟨H1,I1,q⟩
theorem pt_val {e:Expr} {t:TE} (h:PE X e t) (he:∀ whole,isTrue e X.env whole=(do let v ← whole;standAt e.pos;holding [v] (truthy v)):=by intro _;rfl):PT X e (tB t):=by
  intro pins s σ H Q I hw
  refine isTrue_plain (thn (h pins s σ H _ I hw) fun v s1 ⟨x,H1,I1,r1,q1⟩=>?_) (he _)
  obtain ⟨d,rfl,q⟩:=q1
  cases r1
  exact wpAny_truthy_bool ⟨H1,I1,q⟩
variable {tA tB':TT} {rest:List Expr}
noncomputable def tAnd (t u:TT):TT:=fun σ H Q=>t σ H fun c H1=>if c=true then u σ H1 Q else Q false H1
noncomputable def tOr (t u:TT):TT:=fun σ H Q=>t σ H fun c H1=>if c=true then Q true H1 else u σ H1 Q
noncomputable def tNot (t:TT):TT:=fun σ H Q=>t σ H fun c H1=>Q (!c) H1
theorem pw_and1 (ha:PT X a tA):PW X (.BoolOp .And [a] pos) tA:=by
  intro wh pins s σ H Q I h
  refine isTrue_and (thn (ha pins s σ H Q I h) fun c s1 e=>?_)
  cases c with
  | true=>exact isTrue_and_nil e
  | false=>exact e
theorem pw_or1 (ha:PT X a tA):PW X (.BoolOp .Or [a] pos) tA:=by
  intro wh pins s σ H Q I h
  refine isTrue_or (thn (ha pins s σ H Q I h) fun c s1 e=>?_)
  cases c with
  | false=>exact isTrue_or_nil e
  | true=>exact e
theorem pw_and (ha:PT X a tA) (hb:PW X (.BoolOp .And (b :: rest) pos) tB'):PW X (.BoolOp .And (a :: b :: rest) pos) (tAnd tA tB'):=by
  intro wh pins s σ H Q I h
  refine isTrue_and (thn (ha pins s σ H _ I h) fun c s1 ⟨H1,I1,q1⟩=>?_)
  cases c with
  | true=>exact hb wh pins s1 σ H1 Q I1 q1
  | false=>exact ⟨H1,I1,q1⟩
theorem pw_or (ha:PT X a tA) (hb:PW X (.BoolOp .Or (b :: rest) pos) tB'):PW X (.BoolOp .Or (a :: b :: rest) pos) (tOr tA tB'):=by
  intro wh pins s σ H Q I h
  refine isTrue_or (thn (ha pins s σ H _ I h) fun c s1 ⟨H1,I1,q1⟩=>?_)
  cases c with
  | true=>exact ⟨H1,I1,q1⟩
  | false=>exact hb wh pins s1 σ H1 Q I1 q1
theorem pt_not (ha:PT X a tA):PT X (.UnaryOp .Not a pos) (tNot tA):=by
  intro pins s σ H Q I h
  exact isTrue_not (ha pins s σ H (fun c H1=>Q (!c) H1) I h)
noncomputable def tAndV (ta tb:TE):TE:=fun σ H Q=>ta σ H fun x H1=>∃ c,x = .bl c∧if c=true then tb σ H1 Q else Q (.bl false) H1
noncomputable def tNotV (ta:TE):TE:=fun σ H Q=>ta σ H fun x H1=>∃ c,x = .bl c∧Q (.bl (!c)) H1
theorem pe_one {op} {t:TE} (h:PE X a t):PE X (.BoolOp op [a] pos) t:=fun pins s σ H Q I hw=>BoolOp_one (h pins s σ H Q I hw)
theorem pe_and (ha:PE X a ta) (hb:PE X (.BoolOp .And (b :: rest) pos) tb):PE X (.BoolOp .And (a :: b :: rest) pos) (tAndV ta tb):=by
  intro pins s σ H Q I h
  refine BoolOp_and (thn (ha pins s σ H _ I h) fun v s1 ⟨x,H1,I1,r1,q1⟩=>?_)
  obtain ⟨c,rfl,q1⟩:=q1
  cases r1
  refine wpAny_truthy_bool ?_
  cases c with
  | true=>exact hb pins s1 σ H1 Q I1 q1
  | false=>exact ⟨.bl false,H1,I1,rfl,q1⟩
theorem pe_not (ha:PE X a ta):PE X (.UnaryOp .Not a pos) (tNotV ta):=by
  intro pins s σ H Q I h
  refine UnaryOp_ (thn (ha pins s σ H _ I h) fun v s1 ⟨x,H1,I1,r1,q1⟩=>?_)
  obtain ⟨c,rfl,q1⟩:=q1
  cases r1
  exact not_of (wpAny_truthy_bool ⟨.bl (!c),H1,I1,rfl,q1⟩)
noncomputable def tIf (t:TT) (ta tb:TE):TE:=fun σ H Q=>t σ H fun c H1=>if c=true then ta σ H1 Q else tb σ H1 Q
theorem pe_ifExp {c:Expr} (hc:PT X c tA) (ha:PE X a ta) (hb:PE X b tb):PE X (.IfExp c a b pos) (tIf tA ta tb):=by
  intro pins s σ H Q I h
  refine wpAny_IfExp (thn (hc pins s σ H _ I h) fun d s1 ⟨H1,I1,q1⟩=>?_)
  cases d with
  | true=>exact ha pins s1 σ H1 Q I1 q1
  | false=>exact hb pins s1 σ H1 Q I1 q1
end
end L2
namespace L2
open PySem PySem.Spec PyProof.Rows
noncomputable def SqL (K:PySem.W.Frag) (H:Hp) (a:Addr) (xs:List V):Prop :=
  Rd H a (.lst xs) ∨
    ∃ (o:Obj) (its:Array Value) (n:Nat),K.lookup a=some o∧o.cls = .type "list" ∧ o.dict=none∧o.data = .seq its n∧its.size≤sizeLine∧Vals xs its.toList
noncomputable def SqT (K:PySem.W.Frag) (H:Hp) (a:Addr) (xs:List V):Prop :=
  Rd H a (.tup xs) ∨
    ∃ (o:Obj) (its:Array Value) (n:Nat),K.lookup a=some o∧o.cls = .type "tuple" ∧ o.data = .seq its n∧its.size≤sizeLine∧Vals xs its.toList
noncomputable def absV:Value→Option V
  | .none=>some .non
  | .bool b=>some (.bl b)
  | .int i _=>some (.int i)
  | .str x _=>some (.str x)
  | .bytes b _=>some (.byt b)
  | .float b _=>some (.flt b)
  | .ref a=>some (.ref a)
  | .type n=>some (.ty n)
  | _=>none
theorem RelV.abs {x:V} {u:Value} (r:RelV x u):absV u=some x:=by
  cases x with
  | non=>cases r;rfl
  | bl _=>cases r;rfl
  | int _=>obtain ⟨t,rfl⟩:=r;rfl
  | str _=>obtain ⟨t,rfl⟩:=r;rfl
  | byt _=>obtain ⟨t,rfl⟩:=r;rfl
  | flt _=>obtain ⟨t,rfl⟩:=r;rfl
  | ref _=>cases r;rfl
  | ty _=>cases r;rfl
theorem RelV.inj {x y:V} {u:Value} (r:RelV x u) (q:RelV y u):x=y:=Option.some.inj (r.abs.symm.trans q.abs)
theorem Vals.inj:∀ {xs ys:List V} {us:List Value},Vals xs us→Vals ys us→xs=ys
  | _,_,_,.nil,.nil=>rfl
  | _,_,_,.cons r t,.cons r' t'=>by rw [r.inj r',Vals.inj t t']
section
variable {X:Cx} {pins:List (Addr×Obj)} {σ:St} {H:Hp} {s:Shared} {a:Addr} {xs ys:List V}
theorem SqL.of {K:PySem.W.Frag} (h:H a=some (.lst xs)):SqL K H a xs:=.inl (.inl h)
theorem SqT.of {K:PySem.W.Frag} (h:H a=some (.tup xs)):SqT K H a xs:=.inl (.inl h)
theorem Inv.list (I:Inv X pins σ H s) (h:SqL X.K H a xs):∃ its:List Value,Vals xs its∧PlainL s.heap a its.toArray∧xs.length≤sizeLine:=by
  rcases h with h | ⟨o,its,n,hk,hc,hd,hs,hz,r⟩
  · obtain ⟨z,its,n,r,e⟩:=h.ok I.hok
    exact ⟨its,r,⟨_,n,e,rfl,rfl,rfl⟩,z⟩
  · refine ⟨its.toList,r,⟨o,n,I.kIn a o hk,hc,hd,by simpa using hs⟩,?_⟩
    have e:=r.length
    simp only [Array.length_toList] at e
    omega
theorem Inv.tuple (I:Inv X pins σ H s) (h:SqT X.K H a xs):∃ its:List Value,Vals xs its∧IsTup s.heap a its.toArray∧xs.length≤sizeLine:=by
  rcases h with h | ⟨o,its,n,hk,hc,hs,hz,r⟩
  · obtain ⟨z,its,r,p⟩:=h.ok I.hok
    exact ⟨its,r,p,z⟩
  · refine ⟨its.toList,r,⟨o,I.kIn a o hk,hc,n,by simpa using hs⟩,?_⟩
    have e:=r.length
    simp only [Array.length_toList] at e
    omega
theorem Inv.list_inj (I:Inv X pins σ H s) (h:SqL X.K H a xs) (h':SqL X.K H a ys):xs=ys:=by
  obtain ⟨its,r,⟨o,n,e,_,_,d⟩,_⟩:=I.list h
  obtain ⟨its',r',⟨o',n',e',_,_,d'⟩,_⟩:=I.list h'
  rw [e] at e';cases e'
  rw [d] at d'
  injection d' with d1 _
  have:its=its':=by simpa using congrArg Array.toList d1
  subst this
  exact r.inj r'
theorem Inv.tuple_inj (I:Inv X pins σ H s) (h:SqT X.K H a xs) (h':SqT X.K H a ys):xs=ys:=by
  obtain ⟨its,r,⟨o,e,_,n,d⟩,_⟩:=I.tuple h
  obtain ⟨its',r',⟨o',e',_,n',d'⟩,_⟩:=I.tuple h'
  rw [e] at e';cases e'
  rw [d] at d'
  injection d' with d1 _
  have:its=its':=by simpa using congrArg Array.toList d1
  subst this
  exact r.inj r'
end
noncomputable abbrev Cx.wish (X:Cx) (E:Value→Shared→Prop):Cx:={ X with xe:=E }
noncomputable abbrev Cx.nox (X:Cx):Cx:=X.wish fun _ _=>False
theorem Cx.Ok.wish {X:Cx} (ok:X.Ok) (E:Value→Shared→Prop):(X.wish E).Ok :=
  ⟨ok.mod,ok.kind,ok.glob,ok.blt,ok.above,ok.inj,ok.has,ok.cab,ok.hd,ok.frames,ok.stk,ok.exf,ok.bs,ok.bsz,ok.noex,ok.exfs,ok.funs,ok.frf⟩
theorem Cx.Ok.unwish {X:Cx} {E:Value→Shared→Prop} (ok:(X.wish E).Ok):X.Ok :=
  ⟨ok.mod,ok.kind,ok.glob,ok.blt,ok.above,ok.inj,ok.has,ok.cab,ok.hd,ok.frames,ok.stk,ok.exf,ok.bs,ok.bsz,ok.noex,ok.exfs,ok.funs,ok.frf⟩
section
variable {X:Cx} {pins:List (Addr×Obj)} {σ:St} {H:Hp} {s:Shared} {E:Value→Shared→Prop}
theorem Inv.wish (I:Inv X pins σ H s) (E:Value→Shared→Prop):Inv (X.wish E) pins σ H s:=⟨I.ok.wish E,I.os,I.bare,I.base,I.loc,I.cell,I.free,I.freeC,I.pin,I.hok,I.len⟩
theorem Inv.unwish (I:Inv (X.wish E) pins σ H s):Inv X pins σ H s:=⟨I.ok.unwish,I.os,I.bare,I.base,I.loc,I.cell,I.free,I.freeC,I.pin,I.hok,I.len⟩
theorem SP.unwish {D:Ends} {f:Flow} {s':Shared} (h:SP (X.wish E) pins D f s'):SP X pins D f s':=by
  cases f with
  | next=>obtain ⟨σ',H',I,q⟩:=h;exact ⟨σ',H',I.unwish,q⟩
  | brk=>obtain ⟨σ',H',I,q⟩:=h;exact ⟨σ',H',I.unwish,q⟩
  | cont=>obtain ⟨σ',H',I,q⟩:=h;exact ⟨σ',H',I.unwish,q⟩
  | ret u=>obtain ⟨v,σ',H',I,r,q⟩:=h;exact ⟨v,σ',H',I.unwish,r,q⟩
theorem PSs.nox {st:List Stmt} {t:TS} (h:PSs X.nox st t):PSs X st t:=fun pins s σ H D I hw =>
  wpAny_mono (h pins s σ H D (I.wish _) hw) (fun _ _ q=>q.unwish) fun _ _ z=>False.elim z
end
section
variable {X:Cx} {st:Stmt} {rest:List Stmt} {t u:TS} {e:Expr} {te:TE} {pos:Pos}
noncomputable def tNext:TS:=fun D σ H=>D.nx σ H
noncomputable def tSeq (t u:TS):TS:=fun D σ H=>t { D with nx:=u D } σ H
theorem pss_nil:PSs X [] tNext:=fun _ _ σ H _ I h=>wpAny_execs_nil ⟨σ,H,I,h⟩
theorem pss_cons (h1:PS X st t) (h2:PSs X rest u):PSs X (st :: rest) (tSeq t u):=by
  intro pins s σ H D I h
  refine wpAny_execs_cons (thn (h1 pins s σ H { D with nx:=u D } I h) fun f s1 q=>?_)
  cases f with
  | next =>
    obtain ⟨σ',H',I',q⟩:=q
    exact h2 pins s1 σ' H' D I' q
  | ret v=>exact q
  | brk=>exact q
  | cont=>exact q
theorem Inv.quiet {pins:List (Addr×Obj)} {σ:St} {H:Hp} {s:Shared} (I:Inv X pins σ H s):interactive X.env=false:=by simp [interactive,I.ok.kind]
noncomputable def tDrop (te:TE):TS:=fun D σ H=>te σ H fun _ H1=>D.nx σ H1
theorem ps_expr (he:PE X e te) (hs:swapsWith e none pos.line X.env=pure false:=by rfl):PS X (.Expr e pos) (tDrop te):=by
  intro pins s σ H D I h
  exact wpAny_Expr_any (thn (he pins s σ H _ I h) fun v s1 ⟨x,H1,I1,r1,q1⟩=>⟨σ,H1,I1,q1⟩) I.quiet hs
noncomputable def tRet (te:TE):TS:=fun D σ H=>te σ H D.rt
theorem ps_ret (he:PE X e te):PS X (.Return (some e) pos) (tRet te):=by
  intro pins s σ H D I h
  exact wpAny_Return_some (thn (he pins s σ H _ I h) fun v s1 ⟨x,H1,I1,r1,q1⟩=>⟨x,σ,H1,I1,r1,q1⟩)
noncomputable def tIfS (c:TT) (t u:TS):TS:=fun D σ H=>c σ H fun b H1=>if b=true then t D σ H1 else u D σ H1
theorem ps_if {c:Expr} {a b:List Stmt} {tc:TT} (hc:PT X c tc) (ha:PSs X a t) (hb:PSs X b u):PS X (.If c a b pos) (tIfS tc t u):=by
  intro pins s σ H D I h
  refine wpAny_If (thn (hc pins s σ H _ I h) fun d s1 ⟨H1,I1,q1⟩=>?_)
  cases d with
  | true=>exact ha pins s1 σ H1 D I1 q1
  | false=>exact hb pins s1 σ H1 D I1 q1
end
noncomputable abbrev TG:=V→St→Hp→(St→Hp→Prop)→Prop
noncomputable abbrev TGs:=List V→St→Hp→(St→Hp→Prop)→Prop
noncomputable def PG (X:Cx) (target:Expr) (t:TG):Prop :=
  ∀ (pins:List (Addr×Obj)) (s:Shared) (σ:St) (H:Hp) (v:V) (u:Value) (Q:St→Hp→Prop),Inv X pins σ H s→RelV v u→t v σ H Q →
    wpAny (model X.prog X.w) X.A (assign target X.env u) (fun _ s'=>∃ σ' H',Inv X pins σ' H' s'∧Q σ' H') X.xe s
noncomputable def PGs (X:Cx) (ts:List Expr) (t:TGs):Prop :=
  ∀ (pins:List (Addr×Obj)) (s:Shared) (σ:St) (H:Hp) (vs:List V) (us:List Value) (Q:St→Hp→Prop),Inv X pins σ H s→Vals vs us→t vs σ H Q →
    wpAny (model X.prog X.w) X.A (assignInOrder ((assignEach ts X.env).map (·.2)) us) (fun _ s'=>∃ σ' H',Inv X pins σ' H' s'∧Q σ' H') X.xe s
noncomputable abbrev TSet:=V→V→V→Hp→(Hp→Prop)→Prop
noncomputable def PSet (X:Cx) (t:TSet):Prop :=
  ∀ (pins:List (Addr×Obj)) (s:Shared) (σ:St) (H:Hp) (o i v:V) (ov iv u:Value) (Q:Hp→Prop),Inv X pins σ H s→RelV o ov→RelV i iv→RelV v u→t o i v H Q →
    wpAny (model X.prog X.w) X.A (setItem ov iv u) (fun _ s'=>∃ H',Inv X pins σ H' s'∧Q H') X.xe s
noncomputable abbrev TIp:=V→V→Hp→VK→Prop
noncomputable def PIp (X:Cx) (op:Operator) (t:TIp):Prop :=
  ∀ (pins:List (Addr×Obj)) (s:Shared) (σ:St) (H:Hp) (x y:V) (v u:Value) (Q:VK),Inv X pins σ H s→RelV x v→RelV y u→t x y H Q →
    wpAny (model X.prog X.w) X.A (inplaceOp op v u) (EP X pins σ Q) X.xe s
section
variable {X:Cx} {pos:Pos}
noncomputable def gName (i:Nat):TG:=fun v σ H Q=>Q (σ.set i (some v)) H
theorem pg_name {i:Nat} {x:Str} (hN:X.N.Nodup) (hi:X.N[i]? = some x) (hx:Loc X.env.scope x) (hf:X.fn x=true∨X.env.scope.names.lookup x=some .local:=by first | exact .inl rfl | exact .inr rfl | assumption):PG X (.Name x pos) (gName i):=by
  intro pins s σ H v u Q I r h
  exact wpAny_assign_Name (store_ok I hN hi hx r (fun s' I'=>⟨_,H,I',h⟩) hf)
noncomputable def gNil:TGs:=fun vs σ H Q=>vs=[]∧Q σ H
noncomputable def gCons (t:TG) (u:TGs):TGs:=fun vs σ H Q=>∃ v r,vs=v :: r∧t v σ H fun σ' H'=>u r σ' H' Q
theorem pgs_nil:PGs X [] gNil:=by
  intro pins s σ H vs us Q I r h
  obtain ⟨e,h⟩:=h
  subst e
  cases r
  exact assignInOrder_nil ⟨σ,H,I,h⟩
theorem pgs_cons {e:Expr} {es:List Expr} {t:TG} {u:TGs} (h1:PG X e t) (h2:PGs X es u)
    (hs:(assignEach (e :: es) X.env).map (·.2)=assign e X.env :: (assignEach es X.env).map (·.2):=by rfl):PGs X (e :: es) (gCons t u):=by
  intro pins s σ H vs us Q I r h
  obtain ⟨v,vr,e1,h⟩:=h
  subst e1
  cases r with
  | cons r rr =>
    rw [hs]
    refine assignInOrder_cons (thn (h1 pins s σ H _ _ _ I r h) fun _ s1 ⟨σ1,H1,I1,q1⟩=>?_)
    exact h2 pins s1 σ1 H1 _ _ Q I1 rr q1
noncomputable def gSub (to ti:TE) (t:TSet):TG:=fun v σ H Q=>to σ H fun o H1=>ti σ H1 fun i H2=>t o i v H2 fun H3=>Q σ H3
theorem pg_sub {o i:Expr} {to ti:TE} {t:TSet} (ho:PE X o to) (hi:PE X i ti) (hs:PSet X t)
    (ha:∀ v,assign (.Subscript o i pos) X.env v=(do
      let ov ← holding [v] (eval o X.env)
      let iv ← holding [v,ov] (eval i X.env)
      standAt pos
      holding [v,ov,iv] (setItem ov iv v)
      release [v,ov,iv] []):=by intro _;rfl):PG X (.Subscript o i pos) (gSub to ti t):=by
  intro pins s σ H v u Q I r h
  rw [ha]
  refine wpAny_bind (wpAny_holding (thn (ho pins s σ H _ I h) fun ov s1 ⟨x,H1,I1,r1,q1⟩=>?_))
  refine wpAny_bind (wpAny_holding (thn (hi pins s1 σ H1 _ I1 q1) fun iv s2 ⟨y,H2,I2,r2,q2⟩=>?_))
  refine wpAny_bind (wpAny_standAt (wpAny_bind (wpAny_holding (thn (hs pins s2 σ H2 x y v ov iv u _ I2 r1 r2 r q2) fun _ s3 ⟨H3,I3,q3⟩=>?_))))
  exact wpAny_release ⟨σ,H3,I3,q3⟩
noncomputable def tAsg (te:TE) (g:TG):TS:=fun D σ H=>te σ H fun x H1=>g x σ H1 D.nx
theorem ps_asg {tg e:Expr} {te:TE} {g:TG} (he:PE X e te) (hg:PG X tg g) (hs:swapsWithSole [tg] e pos.line X.env=pure false:=by rfl) (hw:swappedStores [tg] e X.env=pure none:=by rfl)
    (h1:(assignEach [tg] X.env).map (·.2)=[assign tg X.env]:=by rfl):PS X (.Assign [tg] e pos) (tAsg te g):=by
  intro pins s σ H D I h
  refine wpAny_Assign_stores (thn (he pins s σ H _ I h) fun v s1 ⟨x,H1,I1,r1,q1⟩=>?_) hs hw
  rw [h1]
  exact thn (hg pins s1 σ H1 x v _ I1 r1 q1) fun _ s2 q=>q
theorem ps_set {i:Nat} {x:Str} {e:Expr} {te:TE} {pos':Pos} (hN:X.N.Nodup) (hi:X.N[i]? = some x) (hx:Loc X.env.scope x) (he:PE X e te) (hs:swapsWith e (some (.Name x pos')) pos.line X.env=pure false:=by rfl) (hf:X.fn x=true∨X.env.scope.names.lookup x=some .local:=by first | exact .inl rfl | exact .inr rfl | assumption) :
    PS X (.Assign [.Name x pos'] e pos) (tAsg te (gName i)):=by
  intro pins s σ H D I h
  refine wpAny_Assign_Name (thn (he pins s σ H _ I h) fun v s1 ⟨y,H1,I1,r1,q1⟩=>?_) hs
  exact store_ok I1 hN hi hx r1 (fun s2 I2=>⟨_,H1,I2,q1⟩) hf
noncomputable def tAug (i:Nat) (te:TE) (ti:TIp):TS:=fun D σ H=>∃ x,σ[i]? = some (some x)∧te σ H fun y H1=>ti x y H1 fun z H2=>D.nx (σ.set i (some z)) H2
theorem ps_aug {i:Nat} {x:Str} {e:Expr} {te:TE} {op:Operator} {ti:TIp} {pos':Pos} (hN:X.N.Nodup) (hi:X.N[i]? = some x) (hx:Loc X.env.scope x) (he:PE X e te) (ho:PIp X op ti) (hf:X.fn x=true∨X.env.scope.names.lookup x=some .local:=by first | exact .inl rfl | exact .inr rfl | assumption) :
    PS X (.AugAssign (.Name x pos') op e pos) (tAug i te ti):=by
  intro pins s σ H D I h
  obtain ⟨v,e1,h⟩:=h
  obtain ⟨m,hn,hl⟩:=I.loc
  have vis:Vis X.env.scope x:=by rcases hx with k | k;exact .inl k;exact .inr (.inl k)
  obtain ⟨u,r,l⟩:=hl i x v hi e1 vis
  refine wpAny_AugAssign_Name ?_
  have go:wpAny (model X.prog X.w) X.A (eval e X.env) (fun w s₂=>wpAny (model X.prog X.w) X.A (inplaceOp op u w) (fun r s₃=>wpAny (model X.prog X.w) X.A (storeName X.env x r) (fun _=>SP X pins D .next) X.xe s₃) X.xe s₂) X.xe s:=by
    refine thn (he pins s σ H _ I h) fun w s1 ⟨y,H1,I1,r1,q1⟩=>?_
    refine thn (ho pins s1 σ H1 v y u w _ I1 r r1 q1) fun z s2 ⟨zv,H2,I2,r2,q2⟩=>?_
    exact store_ok I2 hN hi hx r2 (fun s3 I3=>⟨_,H2,I3,q2⟩) hf
  rcases l with ⟨hk,hm⟩ | ⟨hk,c,hc,hcell⟩
  · exact wpAny_loadName_local I.ok.kind hk hn hm go
  · rcases hk with hk | hk
    · exact wpAny_loadName_cell I.ok.kind hk hc hcell go
    · rcases hx with k | k
      · have:X.env.scope.names.lookup x=some .free:=hk
        rw [k] at this;cases this
      · have:X.env.scope.names.lookup x=some .free:=hk
        rw [k] at this;cases this
end
structure It where
  go:Nat→Hp→Prop
  yld:Nat→Hp→V→Hp→Prop
  stop:Nat→Hp→Prop
noncomputable def FpOk (X:Cx) (pins:List (Addr×Obj)) (H:Hp) (b:Addr):Prop :=
  H b=none∧b≠X.env.locals∧b ∉ X.fs∧(b ∈ X.ex∨X.s₀.heap.objs.size≤b)∧(∀ x c,X.env.cells.lookup x=some c→c≠b)∧∀ p ∈ X.pn ++ pins,p.1≠b
theorem Inv.fpOk {X:Cx} {pins:List (Addr×Obj)} {σ:St} {H H':Hp} {s:Shared} {b:Addr} (I:Inv X pins σ H s) (hb:s.heap.objs.size≤b) (hn:H' b=none):FpOk X pins H' b:=by
  refine ⟨hn,Nat.ne_of_gt (Nat.lt_of_lt_of_le I.lt hb),I.nofs hb,.inr (Nat.le_trans I.sz hb),fun x c e z=>?_,fun p hp z=>?_⟩
  · obtain ⟨v,q⟩:=I.cell x c e
    exact absurd (Nat.lt_of_lt_of_le q.lt (by rw [z];exact hb)) (Nat.lt_irrefl _)
  · exact absurd (Nat.lt_of_lt_of_le (Heap.lt_size (I.pin p hp).1) (by rw [z];exact hb)) (Nat.lt_irrefl _)
structure Turn (P:Program) (w:World) (K:PySem.W.Frag) (tg:Expr) (J:It) (fp:List Addr) (it:Addr) (tn:Nat→Heap→Prop):Prop where
  mem:it ∈ fp
  obj:∀ i h,tn i h→∀ b ∈ fp,∃ o,h.get? b=some o∧∀ v,o.data≠.cell v
  keep:∀ i h h',tn i h→(∀ b ∈ fp,∀ o,h.get? b=some o→h'.get? b=some o)→tn i h'
  item:∀ (X:Cx),X.prog=P→X.w=w→X.K=K→X.calm=true→∀ (i:Nat) (pins:List (Addr×Obj)) (s:Shared) (σ:St) (H:Hp) (E:Value→Shared→Prop),Inv X pins σ H s→(∀ b ∈ fp,FpOk X pins H b)→tn i s.heap→J.go i H →
    wpAny (model P w) X.A (pyNext (.ref it)) (fun r s1=>∃ u,r=some u ∧
      wpAny (model P w) X.A (letOwnedTupleGo tg (.ref it) u) (fun _ s2=>∃ x H',Inv X pins σ H' s2∧RelV x u∧J.yld i H x H'∧tn (i + 1) s2.heap∧∀ b ∈ fp,H' b=none) E s1) E s
  done:∀ (X:Cx),X.prog=P→X.w=w→X.K=K→X.calm=true→∀ (i:Nat) (pins:List (Addr×Obj)) (s:Shared) (σ:St) (H:Hp) (E:Value→Shared→Prop),Inv X pins σ H s→(∀ b ∈ fp,FpOk X pins H b)→tn i s.heap→J.stop i H →
    wpAny (model P w) X.A (pyNext (.ref it)) (fun r s1=>r=none∧Inv X pins σ H s1) E s
  self:∀ (A:Around) (i:Nat) (s:Shared) (Q:Value→Shared→Prop) (E:Value→Shared→Prop),tn i s.heap→Q (.ref it) s→wpAny (model P w) A (pyIter (.ref it)) Q E s
noncomputable abbrev TI:=St→Hp→(It→Hp→Prop)→Prop
noncomputable def PIE (X:Cx) (pins:List (Addr×Obj)) (σ:St) (tg:Expr) (R:It→Hp→Prop) (itv:Value) (s2:Shared):Prop :=
  ∃ (it:Addr) (fp:List Addr) (tn:Nat→Heap→Prop) (J:It) (H':Hp),itv = .ref it∧Inv X pins σ H' s2∧Turn X.prog X.w X.K tg J fp it tn∧tn 0 s2.heap∧(∀ b ∈ fp,FpOk X pins H' b)∧R J H'
noncomputable def PI (X:Cx) (tg iter:Expr) (wi:TI):Prop :=
  ∀ (pins:List (Addr×Obj)) (s:Shared) (σ:St) (H:Hp) (R:It→Hp→Prop),Inv X pins σ H s→wi σ H R →
    wpAny (model X.prog X.w) X.A (eval iter X.env) (fun v s1=>wpAny (model X.prog X.w) X.A (pyIter v) (PIE X pins σ tg R) X.xe s1) X.xe s
theorem go_of {M:Model} {A:Around} {E:Value→Shared→Prop} {s:Shared} {tg:Expr} {it:Addr} {u:Value} {o:Obj} {n:String} {vs:Array Value} {Q:Unit→Shared→Prop} (ho:s.heap.get? it=some o) (hc:o.cls = .type n) (hd:o.data = .fields vs)
    (hn:["enumerate", "zip", "dict_itemiterator", "dict_reverseitemiterator", "odict_iterator", "itertools.zip_longest", "itertools.pairwise"].contains n=false) (hQ:Q () s):wpAny M A (letOwnedTupleGo tg (.ref it) u) Q E s:=by
  unfold letOwnedTupleGo
  cases tg <;> first
    | exact wpAny_pure hQ
    | (cases u <;> first
        | exact wpAny_pure hQ
        | (refine wpAny_bind (wpAny_load ho ?_)
           rw [hc,hd]
           show wpAny M A (if (["enumerate", "zip", "dict_itemiterator", "dict_reverseitemiterator", "odict_iterator", "itertools.zip_longest", "itertools.pairwise"].contains n && vs[0]? == some (rawInt _))=true then _ else _) Q E s
           rw [if_neg (by intro h;rw [hn,Bool.false_and] at h;cases h)]
           exact wpAny_pure hQ))
noncomputable def Itl (K:PySem.W.Frag) (a:Addr):It :=
  ⟨fun i H=>∃ xs x,SqL K H a xs∧xs[i]? = some x,fun i H x H'=>H'=H∧∀ xs,SqL K H a xs→xs[i]? = some x,fun i H=>∃ xs,SqL K H a xs∧xs.length≤i⟩
noncomputable def Itt (K:PySem.W.Frag) (a:Addr):It :=
  ⟨fun i H=>∃ xs x,SqT K H a xs∧xs[i]? = some x,fun i H x H'=>H'=H∧∀ xs,SqT K H a xs→xs[i]? = some x,fun i H=>∃ xs,SqT K H a xs∧xs.length≤i⟩
noncomputable def Itr (lo:Int) (n:Nat):It:=⟨fun i _=>i < n,fun i H x H'=>H'=H∧x = .int (lo + i),fun i _=>n≤i⟩
theorem turn_list {P:Program} {w:World} {K:PySem.W.Frag} {tg:Expr} (a it:Addr):Turn P w K tg (Itl K a) [it] it (fun i h=>h.IsListIter it a i) where
  mem:=by simp
  obj:=fun i h st b hb=>by
    have e:b=it:=by simpa using hb
    subst e
    obtain ⟨o,e,c,d⟩:=st
    exact ⟨o,e,fun v z=>by rw [d] at z;cases z⟩
  keep:=fun i h h' st k=>st.at fun o e=>k it (by simp) o e
  item:=by
    intro X hP hw hK hc i pins s σ H E I hf st hg
    subst hP hw hK
    obtain ⟨xs,x,hq,hx⟩:=hg
    obtain ⟨its,rv,p,hz⟩:=I.list hq
    obtain ⟨u,hu,ru⟩:=rv.get hx
    obtain ⟨f0,f1,f2,f3,f4,f5⟩:=hf it (by simp)
    refine wpAny_pyNext_list_item st p.isList (x:=u) (by simpa using hu) fun h' st' sb=>?_
    have I1:Inv X pins σ H { s with heap:=h' }:=I.turned (t':=s.toks) (fun b o hb e=>(sb.2 b hb).trans e) f0 f1 f3 f4 f5
    obtain ⟨o,e,c,d⟩:=id st'
    exact ⟨u,rfl,go_of (s:={ s with heap:=h' }) e c d (by decide) ⟨x,H,I1,ru,⟨rfl,fun ys hy=>by rw [I.list_inj hy hq];exact hx⟩,st',fun b hb=>(hf b hb).1⟩⟩
  done:=by
    intro X hP hw hK hc i pins s σ H E I hf st hg
    subst hP hw hK
    obtain ⟨xs,hq,hx⟩:=hg
    obtain ⟨its,rv,p,hz⟩:=I.list hq
    obtain ⟨f0,f1,f2,f3,f4,f5⟩:=hf it (by simp)
    have hl:=rv.length
    exact wpAny_pyNext_list_end (I.ok.hd hc) st p.isList (by simp;omega) fun h' eb=>⟨rfl,I.turned (t':=s.toks) (fun b o hb e=>eb b o hb e) f0 f1 f3 f4 f5⟩
  self:=fun _ _ _ _ _ st h=>wpAny_pyIter_listiter st h
theorem turn_tuple {P:Program} {w:World} {K:PySem.W.Frag} {tg:Expr} (a it:Addr):Turn P w K tg (Itt K a) [it] it (fun i h=>h.IsTupleIter it a i) where
  mem:=by simp
  obj:=fun i h st b hb=>by
    have e:b=it:=by simpa using hb
    subst e
    obtain ⟨o,e,c,d⟩:=st
    exact ⟨o,e,fun v z=>by rw [d] at z;cases z⟩
  keep:=fun i h h' st k=>st.at fun o e=>k it (by simp) o e
  item:=by
    intro X hP hw hK hc i pins s σ H E I hf st hg
    subst hP hw hK
    obtain ⟨xs,x,hq,hx⟩:=hg
    obtain ⟨its,rv,p,hz⟩:=I.tuple hq
    obtain ⟨u,hu,ru⟩:=rv.get hx
    obtain ⟨f0,f1,f2,f3,f4,f5⟩:=hf it (by simp)
    refine wpAny_pyNext_tuple_item st (show s.heap.IsTuple a its.toArray from p) (x:=u) (by simpa using hu) fun h' st' sb=>?_
    have I1:Inv X pins σ H { s with heap:=h' }:=I.turned (t':=s.toks) (fun b o hb e=>(sb.2 b hb).trans e) f0 f1 f3 f4 f5
    obtain ⟨o,e,c,d⟩:=id st'
    exact ⟨u,rfl,go_of (s:={ s with heap:=h' }) e c d (by decide) ⟨x,H,I1,ru,⟨rfl,fun ys hy=>by rw [I.tuple_inj hy hq];exact hx⟩,st',fun b hb=>(hf b hb).1⟩⟩
  done:=by
    intro X hP hw hK hc i pins s σ H E I hf st hg
    subst hP hw hK
    obtain ⟨xs,hq,hx⟩:=hg
    obtain ⟨its,rv,p,hz⟩:=I.tuple hq
    obtain ⟨f0,f1,f2,f3,f4,f5⟩:=hf it (by simp)
    have hl:=rv.length
    exact wpAny_pyNext_tuple_end (I.ok.hd hc) st (show s.heap.IsTuple a its.toArray from p) (by simp;omega) fun h' eb=>⟨rfl,I.turned (t':=s.toks) (fun b o hb e=>eb b o hb e) f0 f1 f3 f4 f5⟩
  self:=fun _ _ _ _ _ st h=>wpAny_pyIter_tupleiter st h
theorem turn_range {P:Program} {w:World} {K:PySem.W.Frag} {tg:Expr} (it:Addr) (lo:Int) (n:Nat):Turn P w K tg (Itr lo n) [it] it (fun i h=>IsRangeIter h it (lo + (i:Nat) * 1) ((n:Int) - (i:Nat)) 1) where
  mem:=by simp
  obj :=fun i h st b hb=>by
    have e:b=it:=by simpa using hb
    subst e
    exact ⟨_,st,fun v z=>by
      have z':Data.fields _=Data.cell v:=z
      cases z'⟩
  keep:=fun i h h' st k=>k it (by simp) _ st
  item:=by
    intro X hP hw hK hc i pins s σ H E I hf st hg
    subst hP hw hK
    obtain ⟨f0,f1,f2,f3,f4,f5⟩:=hf it (by simp)
    have W:=Walks.range (prog:=X.prog) (w:=X.w) (I.ok.hd hc) it lo 1 n
    refine W.item i s _ _ hg st fun v h' tk hv st' kk=>?_
    obtain ⟨t,rfl⟩:=hv
    have I1:Inv X pins σ H { s with heap:=h',toks:=tk }:=I.turned (fun b o hb e=>kk b o (by simpa using hb) e) f0 f1 f3 f4 f5
    refine ⟨_,rfl,go_of (s:={ s with heap:=h',toks:=tk }) (n:= "range_iterator") st' rfl rfl (by decide) ⟨.int (lo + i),H,I1,⟨t,?_⟩,⟨rfl,rfl⟩,st',fun b hb=>(hf b hb).1⟩⟩
    rw [Int.mul_one]
  done:=by
    intro X hP hw hK hc i pins s σ H E I hf st hg
    subst hP hw hK
    obtain ⟨f0,f1,f2,f3,f4,f5⟩:=hf it (by simp)
    exact wpAny_pyNext_range_end (I.ok.hd hc) st (by have:n≤i:=hg;omega) fun h' eb=>⟨rfl,I.turned (t':=s.toks) (fun b o hb e=>eb b o hb e) f0 f1 f3 f4 f5⟩
  self:=fun _ _ _ _ _ st h=>wpAny_pyIter_rangeiter st h
end L2
namespace L2
open PySem PySem.Spec PyProof.Rows
section
variable {X:Cx} {tg:Expr}
theorem range_it {pins:List (Addr×Obj)} {σ:St} {H:Hp} {s:Shared} {R:It→Hp→Prop} {E:Value→Shared→Prop} {lo hi:Int} {t u v:Tok} {tk:Nat} (I:Inv X pins σ H s) (h1:-(2 ^ 62)≤lo) (h2:lo < 2 ^ 62) (h3:-(2 ^ 62)≤hi) (h4:hi < 2 ^ 62)
    (q:R (Itr lo (hi - lo).toNat) H):wpAny (model X.prog X.w) X.A (pyIter (.ref s.heap.objs.size)) (PIE X pins σ tg R) E { s with heap:=s.heap.push { cls:=.type "range",data:=.fields #[.int lo t,.int hi u,.int 1 v] },toks:=tk }:=by
  refine wpAny_pyIter_range (IsRange.new ..) (small_one h1 h2 h3 h4) ?_
  have I1:Inv X pins σ H { s with heap:=s.heap.push { cls:=.type "range",data:=.fields #[.int lo t,.int hi u,.int 1 v] },toks:=tk }:=I.kept fun b o e=>Heap.get?_push_of_some _ e
  refine ⟨(s.heap.push { cls:=.type "range",data:=.fields #[.int lo t,.int hi u,.int 1 v] }).objs.size,[(s.heap.push { cls:=.type "range",data:=.fields #[.int lo t,.int hi u,.int 1 v] }).objs.size],_,_,H,rfl,
    I1.kept (t':=tk) fun b o e=>Heap.get?_push_of_some _ e,turn_range _ lo (hi - lo).toNat,?_,fun b hb=>?_,q⟩
  · have e1:lo + ((0:Nat):Int) * 1=lo:=by simp
    have e2:(((hi - lo).toNat:Nat):Int) - ((0:Nat):Int)=Builtin.Range.rangeSize lo hi 1:=by rw [rangeSize_one];split <;> omega
    show IsRangeIter _ _ (lo + ((0:Nat):Int) * 1) ((((hi - lo).toNat:Nat):Int) - ((0:Nat):Int)) 1
    rw [e1,e2]
    exact Heap.get?_push_size _ rfl
  · have e:b=(s.heap.push { cls:=.type "range",data:=.fields #[.int lo t,.int hi u,.int 1 v] }).objs.size:=by simpa using hb
    subst e
    exact I1.fpOk (Nat.le_refl _) (I1.hok.fresh (Nat.le_refl _))
noncomputable def iRng1 (ta:TA):TI:=fun σ H R=>ta σ H fun vs H1=>∃ j:Int,vs=[.int j]∧-(2 ^ 62)≤j∧j < 2 ^ 62∧R (Itr 0 j.toNat) H1
theorem pi_range1 {a:Expr} {ta:TA} {p pos:Pos} (hg:Gl X "range") (hm:X.mg "range" = none) (ha:PA X [a] ta) (hs:starEach [a] X.env=[(false,eval a X.env)]:=by rfl):PI X tg (.Call (.Name "range" p) [a] [] pos) (iRng1 ta):=by
  intro pins s σ H R I h
  refine Call_ (ld_blt I hg hm boot_range (PyProof.Rows.callWith_type1 (thn (ha pos pins s σ H _ I h) fun us s1 ⟨vs,H1,I1,r1,q1⟩=>?_) hs rfl))
  obtain ⟨j,e,q1,q2,q⟩:=q1
  subst e
  cases r1 with
  | cons r rr =>
    cases rr
    obtain ⟨t,rfl⟩:=r
    exact call_range_1 (range_it I1 (by omega) (by omega) q1 q2 (by simpa using q))
noncomputable def tFor (wi:TI) (g:TG) (tb:TS):TS:=fun D σ H=>wi σ H fun J H1=>∃ W:Nat→Nat→St→Hp→Prop,(∃ m,W 0 m σ H1)∧∀ i m σ H,W i m σ H →
  (J.stop i H∧D.nx σ H)∨(J.go i H∧∃ N:St→Hp→Prop,(∀ σ' H',N σ' H'→∃ m',m' < m∧W (i + 1) m' σ' H')∧∀ x H',J.yld i H x H'→g x σ H' fun σ2 H2=>tb { D with nx:=N,ct:=N,bk:=D.nx } σ2 H2)
noncomputable def pinsAt (fp:List Addr) (h:Heap):List (Addr×Obj):=fp.filterMap fun b=>(h.get? b).map fun o=>(b,o)
theorem mem_pinsAt {fp:List Addr} {h:Heap} {b:Addr} {o:Obj} (hb:b ∈ fp) (e:h.get? b=some o):(b,o) ∈ pinsAt fp h:=List.mem_filterMap.mpr ⟨b,hb,by rw [e];rfl⟩
theorem of_pinsAt {fp:List Addr} {h:Heap} {p:Addr×Obj} (hp:p ∈ pinsAt fp h):p.1 ∈ fp∧h.get? p.1=some p.2:=by
  obtain ⟨b,hb,e⟩:=List.mem_filterMap.mp hp
  cases q:h.get? b with
  | none=>rw [q] at e;cases e
  | some o =>
    rw [q] at e
    have e':(b,o)=p:=Option.some.inj e
    subst e'
    exact ⟨hb,q⟩
theorem Inv.pinned {pins:List (Addr×Obj)} {σ:St} {H:Hp} {s:Shared} {fp:List Addr} (I:Inv X pins σ H s) (hf:∀ b ∈ fp,FpOk X pins H b) (ho:∀ b ∈ fp,∃ o,s.heap.get? b=some o∧∀ v,o.data≠.cell v):Inv X (pins ++ pinsAt fp s.heap) σ H s :=
  I.pins_of fun p hp=>(List.mem_append.mp hp).elim (fun z=>I.pin p (List.mem_append_right _ z)) fun z=>by
    obtain ⟨hb,e⟩:=of_pinsAt z
    obtain ⟨f0,f1,f2,_⟩:=hf p.1 hb
    obtain ⟨o,e',d⟩:=ho p.1 hb
    rw [e] at e';cases e'
    exact ⟨e,f0,f1,f2,d⟩
theorem Inv.unpinned {pins pl:List (Addr×Obj)} {σ:St} {H:Hp} {s:Shared} (I:Inv X (pins ++ pl) σ H s):Inv X pins σ H s:=I.pins_of fun p hp=>I.pin p (List.mem_append_right _ (List.mem_append_left _ hp))
theorem ps_for {iter:Expr} {body:List Stmt} {wi:TI} {g:TG} {tb:TS} {pos:Pos} (hp:PassesOwn (model X.prog X.w) X.A X.env X.xe) (hc:X.calm=true) (hi:PI X tg iter wi) (hg:PG X tg g) (hb:PSs X body tb)
    (hs:∀ x,foldedSetIterable iter X.env x=pure x:=by intro _;rfl):PS X (.For tg iter body [] pos) (tFor wi g tb):=by
  intro pins s σ H D I h
  refine wpAny_For (thn (hi pins s σ H _ I h) fun v s1 h1=>thn h1 fun itv s2 h2=>?_) hs
  obtain ⟨it,fp,tn,J,H2,e,I2,T,st2,f2,W,⟨m0,w0⟩,turn⟩:=h2
  subst e
  -- what stays true of the iterator's objects through the loop
  have stat:∀ {H':Hp},(∀ b ∈ fp,H' b=none)→∀ b ∈ fp,FpOk X pins H' b:=fun hn b hb=>⟨hn b hb,(f2 b hb).2⟩
  refine codeAny_forLoop_any (fun n s'=>∃ i σ' H',Inv X pins σ' H' s'∧tn i s'.heap∧(∀ b ∈ fp,H' b=none)∧W i n σ' H') ?_ m0 ⟨0,σ,H2,I2,st2,fun b hb=>(f2 b hb).1,w0⟩
  rintro n s3 ⟨i,σ3,H3,I3,st3,fr3,w3⟩
  rcases turn i n σ3 H3 w3 with ⟨stop,qn⟩ | ⟨go,N,hN,step⟩
  · refine wpAny_passesOwn hp (thn (T.done X rfl rfl rfl hc i pins s3 σ3 H3 X.xe I3 (stat fr3) st3 stop) fun r s4 ⟨hr,I4⟩=>?_)
    subst hr
    exact wpAny_execs_nil ⟨σ3,H3,I4,qn⟩
  · refine wpAny_passesOwn hp (thn (T.item X rfl rfl rfl hc i pins s3 σ3 H3 X.xe I3 (stat fr3) st3 go) fun r s4 ⟨u,hr,h4⟩=>?_)
    subst hr
    refine wpAny_passesOwn hp (thn h4 fun _ s5 ⟨x,H5,I5,r5,y5,st5,fr5⟩=>?_)
    have I5':=I5.pinned (stat fr5) (T.obj _ _ st5)
    refine wpAny_passesOwn hp (thn (hg _ s5 σ3 H5 x u _ I5' r5 (step x H5 y5)) fun _ s6 ⟨σ6,H6,I6,q6⟩=>?_)
    refine wpAny_passesOwn hp (thn (hb _ s6 σ6 H6 _ I6 q6) fun f s7 q7=>?_)
    have again:∀ {σ7:St} {H7:Hp},Inv X (pins ++ pinsAt fp s5.heap) σ7 H7 s7→N σ7 H7→∃ m,m < n∧∃ i σ' H',Inv X pins σ' H' s7∧tn i s7.heap∧(∀ b ∈ fp,H' b=none)∧W i m σ' H':=fun {σ7 H7} I7 n7=>by
      obtain ⟨m',hm,w7⟩:=hN σ7 H7 n7
      refine ⟨m',hm,i + 1,σ7,H7,I7.unpinned,T.keep _ _ _ st5 fun b hb o e=>(I7.pin (b,o) (List.mem_append_right _ (List.mem_append_right _ (mem_pinsAt hb e)))).1,fun b hb=>?_,w7⟩
      obtain ⟨o,e,d⟩:=T.obj _ _ st5 b hb
      exact (I7.pin (b,o) (List.mem_append_right _ (List.mem_append_right _ (mem_pinsAt hb e)))).2.1
    cases f with
    | next=>obtain ⟨σ7,H7,I7,n7⟩:=q7;exact again I7 n7
    | cont=>obtain ⟨σ7,H7,I7,n7⟩:=q7;exact again I7 n7
    | brk=>obtain ⟨σ7,H7,I7,q7⟩:=q7;exact ⟨σ7,H7,I7.unpinned,q7⟩
    | ret v=>obtain ⟨x7,σ7,H7,I7,r7,q7⟩:=q7;exact ⟨x7,σ7,H7,I7.unpinned,r7,q7⟩
end
end L2
namespace L2
open PySem PySem.Spec PyProof.Rows
noncomputable abbrev R2:=V→V→Hp→VK→Prop
noncomputable def OpR (X:Cx) (f:Value→Value→Sem Value) (r:R2):Prop :=
  ∀ (pins:List (Addr×Obj)) (s:Shared) (σ:St) (H:Hp) (x y:V) (v u:Value) (Q:VK),Inv X pins σ H s→RelV x v→RelV y u→r x y H Q →
    wpAny (model X.prog X.w) X.A (f v u) (EP X pins σ Q) X.xe s
noncomputable def CallR (X:Cx) (f:Value) (r:List V→Hp→VK→Prop):Prop :=
  ∀ (pins:List (Addr×Obj)) (s:Shared) (σ:St) (H:Hp) (xs:List V) (us:List Value) (Q:VK),Inv X pins σ H s→Vals xs us→r xs H Q →
    wpAny (model X.prog X.w) X.A (call f us) (EP X pins σ Q) X.xe s
noncomputable def tOp (r:R2) (ta tb:TE):TE:=fun σ H Q=>ta σ H fun x H1=>tb σ H1 fun y H2=>r x y H2 Q
noncomputable def rI (C:Int→Int→Prop) (g:Int→Int→V):R2:=fun x y H Q=>∃ i j,x = .int i∧y = .int j∧C i j∧Q (g i j) H
noncomputable def rI0 (g:Int→Int→V):R2:=fun x y H Q=>∃ i j,x = .int i∧y = .int j∧Q (g i j) H
section
variable {X:Cx} {a b c:Expr} {ta tb tc:TE} {pos:Pos}
theorem binT (ha:PE X a ta) (hb:PE X b tb) {pins:List (Addr×Obj)} {s:Shared} {σ:St} {H:Hp} {R:V→V→Hp→Prop} (I:Inv X pins σ H s)
    (h:ta σ H fun x H1=>tb σ H1 fun y H2=>R x y H2) {Q:Value→Shared→Prop} {f:Value→Value→Sem Value}
    (hf:∀ v u s2 x y H2,Inv X pins σ H2 s2→RelV x v→RelV y u→R x y H2→wpAny (model X.prog X.w) X.A (f v u) Q X.xe s2) :
    wpAny (model X.prog X.w) X.A (eval a X.env) (fun v s₁=>wpAny (model X.prog X.w) X.A (eval b X.env) (fun u s₂=>wpAny (model X.prog X.w) X.A (f v u) Q X.xe s₂) X.xe s₁) X.xe s:=by
  refine thn (ha pins s σ H _ I h) fun v s1 ⟨x,H1,I1,r1,q1⟩=>?_
  refine thn (hb pins s1 σ H1 _ I1 q1) fun u s2 ⟨y,H2,I2,r2,q2⟩=>?_
  exact hf v u s2 x y H2 I2 r1 r2 q2
theorem pe_op {op:Operator} {r:R2} (ho:OpR X (binaryOp op) r) (ha:PE X a ta) (hb:PE X b tb):PE X (.BinOp a op b pos) (tOp r ta tb):=by
  intro pins s σ H Q I h
  exact wpAny_BinOp (binT ha hb I h fun v u s2 x y H2 I2 rx ry q=>ho pins s2 σ H2 x y v u Q I2 rx ry q)
theorem augR {op:Operator} {r:R2} (ho:OpR X (inplaceOp op) r) {pins:List (Addr×Obj)} {s:Shared} {σ:St} {H:Hp} {x y:V} {v u:Value} {Q:VK} (I:Inv X pins σ H s)
    (rx:RelV x v) (ry:RelV y u) (q:r x y H Q):wpAny (model X.prog X.w) X.A (inplaceOp op v u) (EP X pins σ Q) X.xe s:=ho pins s σ H x y v u Q I rx ry q
theorem opI {f:Value→Value→Sem Value} {C:Int→Int→Prop} {g:Int→Int→Int}
    (rule:∀ (i j:Int) (t u:Tok) (s:Shared) (Q:Value→Shared→Prop) (E:Value→Shared→Prop),C i j→Q (.int (g i j) s.toks) { s with toks:=s.toks + 1 }→wpAny (model X.prog X.w) X.A (f (.int i t) (.int j u)) Q E s) :
    OpR X f (rI C fun i j=>.int (g i j)):=by
  intro pins s σ H x y v u Q I rx ry h
  obtain ⟨i,j,rfl,rfl,hc,q⟩:=h
  obtain ⟨t,rfl⟩:=rx
  obtain ⟨t',rfl⟩:=ry
  exact rule i j t t' s _ _ hc ⟨.int (g i j),H,I.tok _,⟨_,rfl⟩,q⟩
theorem opI0 {f:Value→Value→Sem Value} {g:Int→Int→Int}
    (rule:∀ (i j:Int) (t u:Tok) (s:Shared) (Q:Value→Shared→Prop) (E:Value→Shared→Prop),Q (.int (g i j) s.toks) { s with toks:=s.toks + 1 }→wpAny (model X.prog X.w) X.A (f (.int i t) (.int j u)) Q E s) :
    OpR X f (rI0 fun i j=>.int (g i j)):=by
  intro pins s σ H x y v u Q I rx ry h
  obtain ⟨i,j,rfl,rfl,q⟩:=h
  obtain ⟨t,rfl⟩:=rx
  obtain ⟨t',rfl⟩:=ry
  exact rule i j t t' s _ _ ⟨.int (g i j),H,I.tok _,⟨_,rfl⟩,q⟩
theorem opB0 {f:Value→Value→Sem Value} {g:Int→Int→Bool}
    (rule:∀ (i j:Int) (t u:Tok) (s:Shared) (Q:Value→Shared→Prop) (E:Value→Shared→Prop),Q (.bool (g i j)) s→wpAny (model X.prog X.w) X.A (f (.int i t) (.int j u)) Q E s) :
    OpR X f (rI0 fun i j=>.bl (g i j)):=by
  intro pins s σ H x y v u Q I rx ry h
  obtain ⟨i,j,rfl,rfl,q⟩:=h
  obtain ⟨t,rfl⟩:=rx
  obtain ⟨t',rfl⟩:=ry
  exact rule i j t t' s _ _ ⟨.bl (g i j),H,I,rfl,q⟩
noncomputable def CDiv (i j:Int):Prop:=0 < j∧j < 1073741824
noncomputable def CPow (i j:Int):Prop:=0≤j∧j≤1000000∧i.natAbs < 2 ^ 64
noncomputable def CMul (i j:Int):Prop:=(-(2 ^ 64) < i∧i < 2 ^ 64)∨(-(2 ^ 64) < j∧j < 2 ^ 64)
theorem CMul.ok {i j:Int} (h:CMul i j):IntMulOk i j:=by
  rcases h with ⟨h1,h2⟩ | ⟨h1,h2⟩
  · exact .of_left (intBits_le_64 h1 h2)
  · exact .of_right (intBits_le_64 h1 h2)
theorem op_add:OpR X (binaryOp .Add) (rI0 fun i j=>.int (i + j)):=opI0 fun _ _ _ _ _ _ _ q=>add_int q
theorem op_sub:OpR X (binaryOp .Sub) (rI0 fun i j=>.int (i - j)):=opI0 fun _ _ _ _ _ _ _ q=>sub_int q
theorem op_mul:OpR X (binaryOp .Mult) (rI CMul fun i j=>.int (i * j)):=opI fun _ _ _ _ _ _ _ hc q=>mul_int q hc.ok
theorem op_fdiv:OpR X (binaryOp .FloorDiv) (rI CDiv fun i j=>.int (i / j)):=opI fun i j _ _ _ _ _ hc q=>by
  have h1:(0:Int) < j:=hc.1
  have h2:j < 1073741824:=hc.2
  exact floordiv_int (by omega) (by rw [Int.fdiv_eq_ediv_of_nonneg i (by omega)];exact q) (.inl (PyProof.noPylong_small (by omega)))
theorem op_mod:OpR X (binaryOp .Mod) (rI (fun _ j=>0 < j) fun i j=>.int (i % j)):=opI fun i j _ _ _ _ _ hc q=>by
  have h1:(0:Int) < j:=hc
  exact mod_int' (by omega) (by rw [Int.fmod_eq_emod_of_nonneg i (by omega)];exact q)
theorem op_shl:OpR X (binaryOp .LShift) (rI CPow fun i j=>.int (i * 2 ^ j.toNat)):=opI fun _ _ _ _ _ _ _ hc q=>lshift_int_small hc.1 hc.2.1 hc.2.2 q
theorem op_and:OpR X (binaryOp .BitAnd) (rI0 fun i j=>.int (Builtin.bitAnd i j)):=opI0 fun _ _ _ _ _ _ _ q=>and_int q
theorem iop_add:OpR X (inplaceOp .Add) (rI0 fun i j=>.int (i + j)):=opI0 fun _ _ _ _ _ _ _ q=>iadd_int q
end
section
variable {X:Cx} {a b c:Expr} {ta tb tc:TE} {pos:Pos}
theorem fin_bl {pins:List (Addr×Obj)} {σ:St} {H:Hp} {s:Shared} {Q:VK} {k k':Bool} (I:Inv X pins σ H s) (q:Q (.bl k) H) (e:k=k'):EP X pins σ Q (.bool k') s:=by
  subst e
  exact ⟨.bl k,H,I,rfl,q⟩
theorem op_lt:OpR X (compareOp .Lt) (rI0 fun i j=>.bl (decide (i < j))):=opB0 fun _ _ _ _ _ _ _ q=>lt_int q
theorem op_le:OpR X (compareOp .LtE) (rI0 fun i j=>.bl (decide (i≤j))):=opB0 fun _ _ _ _ _ _ _ q=>le_int q
theorem op_gt:OpR X (compareOp .Gt) (rI0 fun i j=>.bl (decide (j < i))):=opB0 fun _ _ _ _ _ _ _ q=>gt_int q
theorem op_ge:OpR X (compareOp .GtE) (rI0 fun i j=>.bl (decide (j≤i))):=opB0 fun _ _ _ _ _ _ _ q=>ge_int q
theorem op_in_str:OpR X (compareOp .In) (fun x y H Q=>∃ i j,x = .str i∧y = .str j∧Q (.bl (!(Builtin.Str.occurrences j i 0 j.length 1).isEmpty)) H):=by
  intro pins s σ H x y v u Q I rx ry h
  obtain ⟨i,j,rfl,rfl,q⟩:=h
  obtain ⟨t,rfl⟩:=rx
  obtain ⟨t',rfl⟩:=ry
  exact in_str (fin_bl I q rfl)
theorem op_isN:OpR X (compareOp .Is) (fun x y H Q=>y = .non∧Q (.bl (decide (x = .non))) H):=by
  intro pins s σ H x y v u Q I rx ry h
  obtain ⟨rfl,q⟩:=h
  cases ry
  refine is_none_gen (fin_bl I q ?_)
  cases x <;> first
    | (cases rx;rfl)
    | (obtain ⟨t,rfl⟩:=rx;rfl)
theorem op_notN:OpR X (compareOp .IsNot) (fun x y H Q=>y = .non∧Q (.bl (!decide (x = .non))) H):=by
  intro pins s σ H x y v u Q I rx ry h
  obtain ⟨rfl,q⟩:=h
  cases ry
  refine isnot_none_gen (fin_bl I q ?_)
  cases x <;> first
    | (cases rx;rfl)
    | (obtain ⟨t,rfl⟩:=rx;rfl)
theorem nomark (b:Expr) {op:CmpOp} (h:op≠.In:=by decide) (h2:op≠.NotIn:=by decide):behindInMarks op b=false:=by
  have e1:(op == CmpOp.In)=false:=by cases op <;> first | rfl | exact absurd rfl h
  have e2:(op == CmpOp.NotIn)=false:=by cases op <;> first | rfl | exact absurd rfl h2
  cases b <;> simp [behindInMarks,e1,e2]
theorem pe_cmpR {op:CmpOp} {r:R2} (ho:OpR X (compareOp op) r) (ha:PE X a ta) (hb:PE X b tb) (hm:behindInMarks op b=false):PE X (.Compare a [op] [b] pos) (tOp r ta tb):=by
  intro pins s σ H Q I h
  exact wpAny_Compare1 (binT ha hb I h fun v u s2 x y H2 I2 rx ry q=>ho pins s2 σ H2 x y v u Q I2 rx ry q) hm
noncomputable def tTest (t:TE):TT:=fun σ H Q=>t σ H fun x H'=>∃ k,x = .bl k∧Q k H'
theorem pt_cmpR {op:CmpOp} {r:R2} (ho:OpR X (compareOp op) r) (ha:PE X a ta) (hb:PE X b tb) (hm:behindInMarks op b=false):PT X (.Compare a [op] [b] pos) (tTest (tOp r ta tb)):=by
  intro pins s σ H Q I h
  refine wpAny_isTrue_Compare1 (thn (ha pins s σ H _ I h) fun v s1 ⟨x,H1,I1,r1,q1⟩=>thn (hb pins s1 σ H1 _ I1 q1) fun u s2 ⟨y,H2,I2,r2,q2⟩ =>
    thn (ho pins s2 σ H2 x y v u _ I2 r1 r2 q2) fun c s3 ⟨z,H3,I3,r3,k,e,q3⟩=>?_) hm
  subst e
  cases r3
  exact wpAny_truthy_bool ⟨H3,I3,q3⟩
noncomputable def tChain (r r':R2) (ta tb tc:TE):TE:=fun σ H Q=>ta σ H fun x H1=>tb σ H1 fun y H2=>r x y H2 fun z H3=>∃ k,z = .bl k ∧
  (if k=true then tc σ H3 fun w' H4=>r' y w' H4 Q else Q (.bl false) H3)
theorem pt_chain {op op':CmpOp} {r r':R2} (ho:OpR X (compareOp op) r) (ho':OpR X (compareOp op') r') (ha:PE X a ta) (hb:PE X b tb) (hc:PE X c tc)
    (hm:lastMarks [op,op'] [b,c]=false:=by with_unfolding_all rfl):PT X (.Compare a [op,op'] [b,c] pos) (tTest (tChain r r' ta tb tc)):=by
  intro pins s σ H Q I h
  refine isTrue_chain (thn (ha pins s σ H _ I h) fun v s1 ⟨x,H1,I1,r1,q1⟩=>test_link (thn (hb pins s1 σ H1 _ I1 q1) fun u s2 ⟨y,H2,I2,r2,q2⟩ =>
    thn (ho pins s2 σ H2 x y v u _ I2 r1 r2 q2) fun d s3 ⟨z,H3,I3,r3,k,e,q3⟩=>?_)) hm
  subst e
  cases r3
  refine wpAny_truthy_bool ?_
  cases k with
  | false =>
    obtain ⟨k',e',q'⟩:=q3
    cases e'
    exact ite_ff ⟨H3,I3,q'⟩
  | true =>
    refine ite_tt (test_last (thn (hc pins s3 σ H3 _ I3 q3) fun w' s4 ⟨z',H4,I4,r4,q4⟩=>thn (ho' pins s4 σ H4 y z' u w' _ I4 r2 r4 q4) fun d' s5 ⟨z2,H5,I5,r5,k2,e2,q5⟩=>?_))
    subst e2
    cases r5
    exact wpAny_truthy_bool ⟨H5,I5,q5⟩
theorem line63:(sizeLine:Nat) < 2 ^ 63:=by rw [sizeLine_eq];decide
theorem op_add_str:OpR X (binaryOp .Add) (fun x y H Q=>∃ i j,x = .str i∧y = .str j∧i.length + j.length≤sizeLine∧Q (.str (i ++ j)) H):=by
  intro pins s σ H x y v u Q I rx ry h
  obtain ⟨i,j,rfl,rfl,hz,q⟩:=h
  obtain ⟨t,rfl⟩:=rx
  obtain ⟨t',rfl⟩:=ry
  exact add_str (fun t' tk=>⟨.str (i ++ j),H,I.tok _,⟨_,rfl⟩,q⟩) hz
theorem vals1 {x:V} {us:List Value} (r:Vals [x] us):∃ u,us=[u]∧RelV x u:=by
  cases r with
  | cons r1 r2=>cases r2;exact ⟨_,rfl,r1⟩
theorem vals2 {x y:V} {us:List Value} (r:Vals [x,y] us):∃ u w',us=[u,w']∧RelV x u∧RelV y w':=by
  cases r with
  | cons r1 r2 =>
    cases r2 with
    | cons r3 r4=>cases r4;exact ⟨_,_,rfl,r1,r3⟩
theorem call_max2 (hc:X.calm=true):CallR X (.builtin "max") (fun xs H Q=>∃ i j,xs=[.int i,.int j]∧Q (.int (if j > i then j else i)) H):=by
  intro pins s σ H xs us Q I r h
  obtain ⟨i,j,rfl,q⟩:=h
  obtain ⟨u,w',rfl,⟨t,rfl⟩,⟨t',rfl⟩⟩:=vals2 r
  refine max_two_ints (I.ok.hd hc) fun h' tk k=>⟨_,H,I.kept k,?_,q⟩
  by_cases hj:j > i
  · rw [if_pos hj,if_pos hj];exact ⟨_,rfl⟩
  · rw [if_neg hj,if_neg hj];exact ⟨_,rfl⟩
theorem call_int1:CallR X (.type "int") (fun xs H Q=>(∃ i,xs=[.int i]∧Q (.int i) H)∨∃ k,xs=[.bl k]∧Q (.int (if k then 1 else 0)) H):=by
  intro pins s σ H xs us Q I r h
  rcases h with ⟨i,rfl,q⟩ | ⟨k,rfl,q⟩
  · obtain ⟨u,rfl,t,rfl⟩:=vals1 r
    exact call_int_int ⟨.int i,H,I,⟨_,rfl⟩,q⟩
  · obtain ⟨u,rfl,r1⟩:=vals1 r
    cases r1
    exact call_int_bool ⟨.int (if k then 1 else 0),H,I.tok _,⟨_,rfl⟩,q⟩
end
end L2
namespace L2
open PySem PySem.Spec PyProof.Rows
structure ObjM (h:Heap) (x dx C:Addr) (mA:Str→Option Value):Prop where
  obj:h.get? x=some (PySem.W.instObj C dx)
  ns:h.Ns1 dx mA
  ne:dx≠x
theorem lookIn_ns {h:Heap} {dx:Addr} {mA:Str→Option Value} (n:h.Ns1 dx mA):∃ od,h.get? dx=some od∧∀ name,PySem.W.lookIn name od=some (mA name):=by
  obtain ⟨o,es,ep,ho,hd,hk,_,hm⟩:=n
  refine ⟨o,ho,fun name=>?_⟩
  have e:=hm name
  unfold nsFind findBy at e
  rw [← Array.find?_toList] at e
  unfold PySem.W.lookIn
  rw [hd]
  dsimp only
  split
  · rename_i y q
    rw [q] at e
    exact congrArg some e
  · rename_i q
    rw [q] at e
    have a:es.toList.any (·.refKey)=false:=by
      rw [List.any_eq_false]
      intro y hy
      obtain ⟨z,t,hkey⟩:=hk y (Array.mem_toList_iff.mp hy)
      simp [DictEntry.refKey,hkey]
    have a':¬ es.toList.any (·.refKey)=true:=by rw [a];exact Bool.false_ne_true
    rw [if_neg a']
    exact congrArg some e
theorem ObjM.look {h:Heap} {x dx C:Addr} {mA:Str→Option Value} (I:ObjM h x dx C mA):∃ od,PySem.W.InstAt h x (PySem.W.instObj C dx) C (some od)∧∀ name,PySem.W.lookIn name od=some (mA name) :=
  let ⟨od,ho,hl⟩:=lookIn_ns I.ns
  ⟨od,⟨I.obj,rfl,rfl,ho⟩,hl⟩
section
variable {prog:Program} {w:World} {A:Around} {E:Value→Shared→Prop} {s:Shared} {K:PySem.W.Frag} {x dx C f:Addr} {mA:Str→Option Value} {name:Str} {v:Value}
theorem get_map {expr:Bool} {Q:Value→Shared→Prop} (X:K.In s.heap) (I:ObjM s.heap x dx C mA) (hg:PySem.W.plainGet K C name=true) (hh:PySem.W.hasDictIn K C=true)
    (ha:PySem.W.findIn K (.ref C) name=some none) (hv:mA name=some v) (hv':PySem.W.handedIn v=true) (h:Q v { s with toks:=s.toks + 1 }) :
    wpAny (model prog w) A (getAttr (.ref x) name expr) Q E s:=by
  obtain ⟨od,J,hl⟩:=I.look
  exact PySem.W.get_value X J (PySem.W.plainGet_of hg).1 (PySem.W.findObj_own hh ha rfl (by rw [hl,hv])) hv' h
theorem get_meth {pl:Sem Bool} {Q:Value×List Value→Shared→Prop} (X:K.In s.heap) (I:ObjM s.heap x dx C mA) (hg:PySem.W.plainGet K C name=true)
    (hf:PySem.W.findIn K (.ref C) name=some (some (.ref f))) (ht:PySem.W.isFn K (.ref f)=true) (hv:mA name=none) (h:Q (.ref f,[.ref x]) s) :
    wpAny (model prog w) A (getMethod (.ref x) name pl) Q E s:=by
  obtain ⟨od,J,hl⟩:=I.look
  exact PySem.W.method_fn X J (PySem.W.plainGet_of hg).1 (PySem.W.plainGet_of hg).2 hf (beq_iff_eq.mp ht) (by show (PySem.W.lookIn name od).map (·.isSome)=some false;rw [hl,hv];rfl) h
theorem set_map {ns:List Str} {Q:Unit→Shared→Prop} (X:K.In s.heap) (I:ObjM s.heap x dx C mA)
    (hs:PySem.W.findIn K (.ref C) "__setattr__" = some (some (.builtin "object.__setattr__"))) (hp:PySem.W.plainOver K C=true) (ht:PySem.W.takerIn K C name=some none) (hh:PySem.W.hasDictIn K C=true)
    (hw:PySem.Within mA ns) (hsz:ns.length≤sizeLine)
    (h:∀ h',ObjM h' x dx C (fun y=>if y=name then some v else mA y)→Heap.SameBut dx s.heap h'→Q () { s with heap:=h',toks:=s.toks + 2 }) :
    wpAny (model prog w) A (setAttr (.ref x) name v) Q E s:=by
  obtain ⟨od,J,hl⟩:=I.look
  refine PySem.W.set_plain X J hs (PySem.W.osa_open (s:={ s with toks:=s.toks + 1 }) (r:=none) X J hp ht fun b=>?_)
  obtain ⟨cd,hc,hd'⟩:=PySem.W.any_some hh
  have hx:s.heap.get? x=some ⟨.ref C,some dx,.plain,#[]⟩:=I.obj
  refine wpAny_bind (wpAny_pure (wpAny_bind (wpAny_bind (wpAny_loadPart hx (wpAny_bind (PySem.W.Looks.here (s:={ s with toks:=s.toks + 1 }) (PySem.W.looks_clsIn X hc) ?_))))))
  rw [hd']
  refine wpAny_pure (a:=some dx) (wpAny_bind (wpAny_pure (wpAny_bind ?_)))
  refine wpAny_nsSet1 (s:={ s with toks:=s.toks + 1 }) I.ns fun h' hn2 hs2=>?_
  obtain ⟨oD,esD,epD,hoD,hdD,hcD⟩:=hn2.count (PySem.Within.cons name v hw)
  refine wpAny_bind (wpAny_lookBehind hoD (by rw [hdD];exact pastItsLine_dict (Nat.le_trans hcD (by rw [List.length_cons];omega))) ?_)
  exact wpAny_pure (h _ ⟨(hs2.2 _ (Ne.symm I.ne)).trans I.obj,hn2,I.ne⟩ hs2)
theorem make_map {R:Result→Shared→Prop} {vs:List Value} {kw:List (Str×Value)} (X:K.In s.heap) (hm:PySem.W.makesIn K C=true)
    (hi:PySem.W.findIn K (.ref C) "__init__" = some (some (.ref f))) (hf:PySem.W.typeIn K (.ref f)=some (.type "function"))
    (h:codeAny (model prog w) (A.under (.builtin "type.__call__" ⟨.ref C :: vs,kw⟩)) (.call (.ref f) ⟨.ref (s.heap.objs.size + 1) :: vs,kw⟩) (PySem.W.InitBack (s.heap.objs.size + 1) R)
      { s with heap:=(s.heap.push PySem.W.emptyDict).push (PySem.W.instObj C s.heap.objs.size) }) :
    codeAny (model prog w) A (.call (.ref C) ⟨vs,kw⟩) R s:=by
  obtain ⟨hh,g,d,t,os⟩:=s
  exact PySem.W.make_core (PySem.W.makes_of X hm) (PySem.W.looks_findIn X hi) (fun self=>PySem.W.bind_fn X self hf) (.inl rfl) h
end
noncomputable def putF (f:Str) (v:V):List (Str×V)→List (Str×V)
  | []=>[(f,v)]
  | (g,x) :: r=>if g=f then (g,v) :: r else (g,x) :: putF f v r
theorem lookup_putF (f g:Str) (v:V):∀ fs:List (Str×V),(putF f v fs).lookup g=if g=f then some v else fs.lookup g
  | []=>by
    show List.lookup g [(f,v)]=_
    by_cases h:g=f
    · have hb:(g == f)=true:=beq_iff_eq.mpr h
      simp only [List.lookup,hb,if_pos h]
    · have hb:(g == f)=false:=beq_eq_false_iff_ne.mpr h
      simp only [List.lookup,hb,if_neg h]
  | (k, x) :: r=>by
    have ih:=lookup_putF f g v r
    rw [show putF f v ((k,x) :: r)=(if k=f then (k,v) :: r else (k,x) :: putF f v r) from rfl]
    by_cases hk:k=f
    · rw [if_pos hk]
      by_cases h:g=k
      · have hb:(g == k)=true:=beq_iff_eq.mpr h
        simp only [List.lookup,hb,if_pos (h.trans hk)]
      · have hb:(g == k)=false:=beq_eq_false_iff_ne.mpr h
        simp only [List.lookup,hb,if_neg (fun e:g=f=>h (e.trans hk.symm))]
    · rw [if_neg hk]
      by_cases h:g=k
      · have hb:(g == k)=true:=beq_iff_eq.mpr h
        simp only [List.lookup,hb,if_neg (fun e:g=f=>hk (h.symm.trans e))]
      · have hb:(g == k)=false:=beq_eq_false_iff_ne.mpr h
        simp only [List.lookup,hb]
        exact ih
theorem keys_putF (f:Str) (v:V):∀ fs:List (Str×V),f ∈ (putF f v fs).map (·.1)∧∀ g,g ∈ fs.map (·.1)→g ∈ (putF f v fs).map (·.1)
  | []=>⟨by simp [putF],fun g h=>by simp at h⟩
  | (k, x) :: r=>by
    obtain ⟨i1,i2⟩:=keys_putF f v r
    rw [show putF f v ((k,x) :: r)=(if k=f then (k,v) :: r else (k,x) :: putF f v r) from rfl]
    by_cases hk:k=f
    · rw [if_pos hk]
      subst hk
      exact ⟨by simp,fun g h=>by simpa using h⟩
    · rw [if_neg hk]
      refine ⟨?_,fun g h=>?_⟩
      · rw [List.map_cons]
        exact List.mem_cons_of_mem _ i1
      · rw [List.map_cons] at h ⊢
        rcases List.mem_cons.mp h with e | e
        · exact List.mem_cons.mpr (.inl e)
        · exact List.mem_cons_of_mem _ (i2 g e)
theorem length_putF (f:Str) (v:V):∀ fs:List (Str×V),(putF f v fs).length≤fs.length + 1
  | []=>by simp [putF]
  | (k,x) :: r=>by
    have ih:=length_putF f v r
    rw [show putF f v ((k,x) :: r)=(if k=f then (k,v) :: r else (k,x) :: putF f v r) from rfl]
    by_cases hk:k=f
    · rw [if_pos hk,List.length_cons,List.length_cons];omega
    · rw [if_neg hk,List.length_cons,List.length_cons];omega
theorem RelO.some_of {v:V} {o:Option Value} (r:RelO (some v) o):∃ u,o=some u∧RelV v u:=by
  cases o with
  | none=>exact (show False from r).elim
  | some u=>exact ⟨u,rfl,r⟩
theorem RelO.none_of {o:Option Value} (r:RelO none o):o=none:=by
  cases o with
  | none=>rfl
  | some u=>exact (show False from r).elim
theorem handed_of {v:V} {u:Value} (r:RelV v u):PySem.W.handedIn u=true:=by
  cases v with
  | non=>cases (show u=Value.none from r);rfl
  | bl b=>cases (show u=Value.bool b from r);rfl
  | int i=>obtain ⟨t,e⟩:=(show ∃ t,u=Value.int i t from r);cases e;rfl
  | str x=>obtain ⟨t,e⟩:=(show ∃ t,u=Value.str x t from r);cases e;rfl
  | byt b=>obtain ⟨t,e⟩:=(show ∃ t,u=Value.bytes b t from r);cases e;rfl
  | flt b=>obtain ⟨t,e⟩:=(show ∃ t,u=Value.float b t from r);cases e;rfl
  | ref a=>cases (show u=Value.ref a from r);rfl
  | ty n=>cases (show u=Value.type n from r);rfl
section
variable {P:Program} {w:World} {H H':Hp} {h h':Heap} {a C dx:Addr} {fs fs':List (Str×V)}
theorem ins_get (hok:HOk P w H h) (e:H a=some (.ins C dx fs)):∃ mA,ObjM h a dx C mA∧(∀ f,RelO (fs.lookup f) (mA f))∧PySem.Within mA (fs.map (·.1))∧fs.length≤1000∧H dx=some (.own a):=by
  obtain ⟨d,z,ne,ob,mA,n,r,q⟩:=(show ObjOk P w H h a (.ins C dx fs) from hok a _ e)
  exact ⟨mA,⟨ob,n,ne⟩,r,q,z,d⟩
end
structure Cls (K:PySem.W.Frag) (C:Addr):Prop where
  pg:PySem.W.plainGet K C Str.empty=true
  hd:PySem.W.hasDictIn K C=true
  po:PySem.W.plainOver K C=true
  sa:PySem.W.findIn K (.ref C) "__setattr__" = some (some (.builtin "object.__setattr__"))
theorem Cls.get {K:PySem.W.Frag} {C:Addr} (c:Cls K C) (f:Str):PySem.W.plainGet K C f=true:=c.pg
noncomputable def NoAttr (K:PySem.W.Frag) (C:Addr) (f:Str):Prop:=PySem.W.findIn K (.ref C) f=some none
theorem NoAttr.taker {K:PySem.W.Frag} {C:Addr} {f:Str} (n:NoAttr K C f):PySem.W.takerIn K C f=some none:=by
  unfold PySem.W.takerIn
  rw [show PySem.W.findIn K (.ref C) f=some none from n]
  rfl
structure Meth (K:PySem.W.Frag) (C:Addr) (m:Str) (f:Addr):Prop where
  at_:PySem.W.findIn K (.ref C) m=some (some (.ref f))
  fn:PySem.W.isFn K (.ref f)=true
  kp:PySem.W.keepIn K (.ref f)=true
section
variable {X:Cx} {pins:List (Addr×Obj)} {σ:St} {H:Hp} {s:Shared} {a C dx:Addr} {fs:List (Str×V)} {f:Str} {v:V} {A:Around} {E:Value→Shared→Prop}
theorem getattr_ok {b:Bool} {Q:Value→Shared→Prop} (I:Inv X pins σ H s) (e:H a=some (.ins C dx fs)) (c:Cls X.K C) (n:NoAttr X.K C f) (l:fs.lookup f=some v)
    (h:∀ u s',Inv X pins σ H s'→RelV v u→Q u s'):wpAny (model X.prog X.w) A (getAttr (.ref a) f b) Q E s:=by
  obtain ⟨mA,O,r,_,_,_⟩:=ins_get I.hok e
  obtain ⟨u,hu,ru⟩:=RelO.some_of (v:=v) (o:=mA f) (by rw [← l];exact r f)
  exact get_map I.kIn O (c.get f) c.hd n hu (handed_of ru) (h u _ (I.tok _) ru)
theorem getmeth_ok {m:Str} {g:Addr} {pl:Sem Bool} {Q:Value×List Value→Shared→Prop} (I:Inv X pins σ H s) (e:H a=some (.ins C dx fs)) (c:Cls X.K C) (k:Meth X.K C m g) (l:fs.lookup m=none)
    (h:Q (.ref g,[.ref a]) s):wpAny (model X.prog X.w) A (getMethod (.ref a) m pl) Q E s:=by
  obtain ⟨mA,O,r,_,_,_⟩:=ins_get I.hok e
  have hn:mA m=none:=RelO.none_of (by rw [← l];exact r m)
  exact get_meth I.kIn O (c.get m) k.at_ k.fn hn h
theorem setattr_ok {y:V} {u:Value} {Q:Unit→Shared→Prop} (I:Inv X pins σ H s) (e:H a=some (.ins C dx fs)) (c:Cls X.K C) (n:NoAttr X.K C f) (hl:fs.length < 1000) (ry:RelV y u)
    (h:∀ s',Inv X pins σ (upd H a (.ins C dx (putF f y fs))) s'→Q () s'):wpAny (model X.prog X.w) A (setAttr (.ref a) f u) Q E s:=by
  obtain ⟨mA,O,r,wi,_,ho⟩:=ins_get I.hok e
  have hz:(fs.map (·.1)).length≤sizeLine:=by rw [List.length_map,sizeLine_eq];omega
  refine set_map I.kIn O c.sa c.po n.taker c.hd wi hz fun h' O' sb=>h _ ?_
  have hd:∃ o,h'.get? dx=some o:=let ⟨o,_,_,e',_⟩:=O'.ns;⟨o,e'⟩
  refine I.write (x:=a) (e:=dx) (by rw [e];exact True.intro) (.inr ho) (fun b q hb z=>(sb.2 b hb).trans z) hd ?_
  refine ⟨by rw [upd_ne O.ne];exact ho,?_,O.ne,O'.obj,_,O'.ns,fun g=>?_,fun g hg=>?_⟩
  · have:=length_putF f y fs;omega
  · show RelO ((putF f y fs).lookup g) (if g=f then some u else mA g)
    rw [lookup_putF]
    by_cases q:g=f
    · rw [if_pos q,if_pos q];exact ry
    · rw [if_neg q,if_neg q];exact r g
  · by_cases q:g=f
    · rw [q];exact (keys_putF f y fs).1
    · refine (keys_putF f y fs).2 g (wi g fun z=>hg ?_)
      show (if g=f then some u else mA g)=none
      rw [if_neg q];exact z
theorem Inv.made (I:Inv X pins σ H s):Inv X pins σ (upd (upd H s.heap.objs.size (.own (s.heap.objs.size + 1))) (s.heap.objs.size + 1) (.ins C s.heap.objs.size []))
    { s with heap:=(s.heap.push PySem.W.emptyDict).push (PySem.W.instObj C s.heap.objs.size) }:=by
  have e1:(s.heap.push PySem.W.emptyDict).get? s.heap.objs.size=some PySem.W.emptyDict:=Heap.get?_push_size s.heap rfl
  have e2:((s.heap.push PySem.W.emptyDict).push (PySem.W.instObj C s.heap.objs.size)).get? (s.heap.objs.size + 1)=some (PySem.W.instObj C s.heap.objs.size):=by
    have:=Heap.get?_push_size (s.heap.push PySem.W.emptyDict) (o:=PySem.W.instObj C s.heap.objs.size) rfl
    rwa [Heap.size_push] at this
  have e3:(s.heap.push PySem.W.emptyDict).Ns s.heap.objs.size (fun _=>none):=⟨PySem.W.emptyDict,#[],_,e1,rfl,(fun e he=>absurd he (by simp)),fun _=>rfl⟩
  have I1:=I.laid (a:=s.heap.objs.size) (o:=.own (s.heap.objs.size + 1)) (h':=s.heap.push PySem.W.emptyDict) (t':=s.toks) (fun b u q=>Heap.get?_push_of_some _ q) (Nat.le_refl _) ⟨_,e1⟩
  refine I1.laid (a:=s.heap.objs.size + 1) (o:=.ins C s.heap.objs.size []) (t':=s.toks) (fun b u q=>Heap.get?_push_of_some _ q) (Nat.le_of_eq (Heap.size_push _ _)) ?_
  have ne:s.heap.objs.size≠s.heap.objs.size + 1:=Nat.ne_of_lt (Nat.lt_succ_self _)
  refine ⟨by rw [upd_ne ne,upd_same],Nat.zero_le _,ne,e2,fun _=>none,(Heap.Ns1.of_empty e3).at fun o q=>Heap.get?_push_of_some _ q,fun _=>True.intro,fun y hy=>absurd rfl hy⟩
theorem attr_of {prog:Program} {w:World} {env:Env} {e:Expr} {f:Str} {pos:Pos} {s:Shared} {Q:Value→Shared→Prop} (hb:attributeBase e f env (eval e env)=eval e env)
    (h:wpAny (model prog w) A (eval e env) (fun o s₁=>wpAny (model prog w) A (getAttr o f true) Q E s₁) E s):wpAny (model prog w) A (eval (.Attribute e f pos) env) Q E s :=
  Attribute_any_ h (by rw [arm_eval_Attribute,hb])
end
noncomputable def tFld (K:PySem.W.Frag) (ta:TE) (f:Str):TE:=fun σ H Q=>ta σ H fun x H1=>∃ a C dx fs v,x = .ref a∧H1 a=some (.ins C dx fs)∧Cls K C∧NoAttr K C f∧fs.lookup f=some v∧Q v H1
noncomputable def sFld (K:PySem.W.Frag) (ta tv:TE) (f:Str):TS:=fun D σ H=>tv σ H fun y H1=>ta σ H1 fun x H2=>∃ a C dx fs,x = .ref a∧H2 a=some (.ins C dx fs)∧Cls K C∧NoAttr K C f∧fs.length < 1000 ∧
  D.nx σ (upd H2 a (.ins C dx (putF f y fs)))
section
variable {X:Cx} {o e value:Expr} {f:Str} {pos pos' tpos:Pos} {ta tv:TE}
theorem pe_fld (he:PE X e ta) (hb:attributeBase e f X.env (eval e X.env)=eval e X.env):PE X (.Attribute e f pos) (tFld X.K ta f):=by
  intro pins s σ H Q I h
  refine attr_of hb (thn (he pins s σ H _ I h) fun u s1 ⟨x,H1,I1,rx,a,C,dx,fs,v,ex,ea,c,n,l,q⟩=>?_)
  subst ex
  obtain rfl:u=Value.ref a:=rx
  exact getattr_ok I1 ea c n l fun u' s2 I2 ru=>⟨v,H1,I2,ru,q⟩
theorem ps_fld (ha:PE X o ta) (hv:PE X value tv) (hs:swapsWith value (some (.Attribute o f pos')) pos.line X.env=pure false):PS X (.Assign [.Attribute o f pos'] value pos) (sFld X.K ta tv f):=by
  intro pins s σ H D I h
  refine plainObj_wpAny_Assign_Attribute (thn (hv pins s σ H _ I h) fun u s1 ⟨y,H1,I1,ry,q⟩=>thn (ha pins s1 σ H1 _ I1 q) fun ov s2 ⟨x,H2,I2,rx,a,C,dx,fs,ex,ea,c,n,l,q2⟩=>?_) hs
  subst ex
  obtain rfl:ov=Value.ref a:=rx
  exact setattr_ok I2 ea c n l ry fun s3 I3=>⟨σ,_,I3,q2⟩
end
end L2
namespace L2
open PySem PySem.Spec PyProof.Rows
structure Room (k:Nat) (A:Around):Prop where
  hd:A.handled=none
  dp:A.depth + 3 * k + 5 < recursionLimit
  un:A.units + 16 * k + 200 < cLine
theorem Room.mono {j k:Nat} {A:Around} (r:Room k A) (h:j≤k):Room j A:=⟨r.hd,by have:=r.dp;omega,by have:=r.un;omega⟩
theorem Room.deeper {k:Nat} {A:Around} (r:Room (k + 1) A) (env:Env):Room k (A.deeper env) :=
  ⟨r.hd,by have:=r.dp;show A.depth + 1 + 3 * k + 5 < _;omega,by have:=r.un;show A.units + 3 + 16 * k + 200 < _;omega⟩
theorem Room.in1 {k:Nat} {A:Around} (r:Room (k + 1) A):Room k A.in1 :=
  ⟨r.hd,by have:=r.dp;show A.depth + 3 * k + 5 < _;omega,by have:=r.un;show A.units + 1 + 16 * k + 200 < _;omega⟩
theorem make_depth {A:Around} {C:Addr} {us:List Value} {kw:List (Str×Value)}:(A.under (.builtin "type.__call__" ⟨.ref C :: us,kw⟩)).depth=A.depth + 1:=by
  first | rfl | simp [Around.under,Code.weight,Code.isCreation,Code.isGuard,Code.isCaller,Code.frames,Code.isFrame,guardIds]
theorem make_units {A:Around} {C:Addr} {us:List Value} {kw:List (Str×Value)}:(A.under (.builtin "type.__call__" ⟨.ref C :: us,kw⟩)).units=A.units + 1:=by
  first | rfl | simp [Around.under,Code.cUnits,Code.frames,Code.isFrame]
theorem Room.make {k:Nat} {A:Around} (r:Room (k + 1) A) (C:Addr) (us:List Value) (kw:List (Str×Value)):Room k (A.under (.builtin "type.__call__" ⟨.ref C :: us,kw⟩)) :=
  ⟨r.hd,by have:=r.dp;rw [make_depth];omega,by have:=r.un;rw [make_units];omega⟩
theorem Room.depth {k:Nat} {A:Around} (r:Room k A):A.depth < recursionLimit:=by have:=r.dp;omega
theorem Room.units {k:Nat} {A:Around} (r:Room k A):A.units + 64 < cLine:=by have:=r.un;omega
noncomputable def tNil:TA:=fun _ H Q=>Q [] H
noncomputable def tCons (ta:TE) (tr:TA):TA:=fun σ H Q=>ta σ H fun x H1=>tr σ H1 fun xs H2=>Q (x :: xs) H2
section
variable {X:Cx} {e:Expr} {es:List Expr} {te:TE} {t:TA} {pos:Pos}
theorem pa_nil:PA X [] tNil:=fun _ _ _ _ H Q I h=>Calls.spliced_nil ⟨[],H,I,.nil,h⟩
theorem pa_cons (ha:PE X e te) (hr:PA X es t) (hs:starEach (e :: es) X.env=(false,eval e X.env) :: starEach es X.env:=by rfl):PA X (e :: es) (tCons te t):=by
  intro pos pins s σ H Q I h
  rw [hs]
  show wpAny _ _ (spliced ((false,eval e X.env) :: backTo pos (starEach es X.env))) _ _ s
  refine Calls.spliced_cons (thn (ha pins s σ H _ I h) fun u s1 ⟨x,H1,I1,r1,q1⟩=>?_)
  exact thn (hr pos pins s1 σ H1 _ I1 q1) fun us s2 ⟨xs,H2,I2,r2,q2⟩=>⟨x :: xs,H2,I2,.cons r1 r2,q2⟩
noncomputable def tTup (t:TA):TE:=fun σ H Q=>t σ H fun xs H1=>xs.length≤sizeLine∧∀ p,H1 p=none→Q (.ref p) (upd H1 p (.tup xs))
noncomputable def tLst (t:TA):TE:=fun σ H Q=>t σ H fun xs H1=>xs.length≤sizeLine∧∀ p,H1 p=none→Q (.ref p) (upd H1 p (.lst xs))
theorem pe_tup {x1} (h:PA X es t):PE X (.Tuple es x1 pos) (tTup t):=by
  intro pins s σ H Q I hq
  refine wpAny_Tuple_spliced (thn (h pos pins s σ H _ I hq) fun us s1 ⟨xs,H1,I1,r,z,q⟩=>⟨by rw [← r.length];exact z,?_⟩)
  have hf:H1 s1.heap.objs.size=none:=I1.hok.fresh (Nat.le_refl _)
  refine ⟨.ref s1.heap.objs.size,upd H1 s1.heap.objs.size (.tup xs),I1.laid (t':=s1.toks) (fun b u e=>Heap.get?_push_of_some _ e) (Nat.le_refl _) ?_,rfl,q _ hf⟩
  exact ⟨z,us,r,⟨_,Heap.get?_push_size _ rfl,rfl,_,rfl⟩⟩
theorem pe_lst (h:PA X es t):PE X (.List es pos) (tLst t):=by
  intro pins s σ H Q I hq
  refine wpAny_List_spliced (thn (h pos pins s σ H _ I hq) fun us s1 ⟨xs,H1,I1,r,z,q⟩=>⟨by rw [← r.length];exact z,?_⟩)
  have hf:H1 s1.heap.objs.size=none:=I1.hok.fresh (Nat.le_refl _)
  refine ⟨.ref s1.heap.objs.size,upd H1 s1.heap.objs.size (.lst xs),I1.laid (t':=s1.toks) (fun b u e=>Heap.get?_push_of_some _ e) (Nat.le_refl _) ?_,rfl,q _ hf⟩
  exact ⟨z,us,0,r,Heap.get?_push_size _ rfl⟩
end
noncomputable abbrev Sp:=List V→Hp→VK→XK→Prop
noncomputable abbrev CXT:=List Env→Hp→Shared→XK→Value→Shared→Prop
structure Env0 (P:Program) (w:World) (K:PySem.W.Frag) (mg:Str→Option Value) (base:Heap) (A:Around) (outer:List Env) (s:Shared) (H:Hp):Prop where
  frames:A.frames=some outer
  mod:Mod K mg base
  bs:∀ b o,base.get? b=some o→s.heap.get? b=some o∧H b=none
  bsz:base.objs.size≤s.heap.objs.size
  funs:s.heap.FunFrames base outer
  frf:∀ b ∈ frs outer,H b=none
  hok:HOk P w H s.heap
  bare:AllBare s.gens
noncomputable def CE (outer:List Env) (P:Program) (w:World) (H:Hp) (s:Shared) (Q:VK) (u:Value) (s':Shared):Prop :=
  ∃ v H',s'.os=s.os∧AllBare s'.gens∧Un (frs outer) [] H H' s.heap s'.heap∧HOk P w H' s'.heap∧RelV v u∧Q v H'
noncomputable def CR (CX:CXT) (outer:List Env) (P:Program) (w:World) (H:Hp) (s:Shared) (Q:VK) (E:XK) (r:Result) (s':Shared):Prop :=
  match r with
  | .ok (.ret u)=>CE outer P w H s Q u s'
  | .ok _=>False
  | .error e=>CX outer H s E e s'
structure FnOk (P:Program) (w:World) (K:PySem.W.Frag) (mg:Str→Option Value) (base:Heap) (CX:CXT) (k:Nat) (f:Addr) (fd:FuncData) (ps:List Str) (sp:Sp):Prop where
  len:∀ vs H Q E,sp vs H Q E→vs.length=ps.length
  run:∀ (A:Around) (outer:List Env) (s:Shared) (H:Hp) (args:Args) (us:List Value) (vs:List V) (Q:VK) (E:XK),Room k A→Env0 P w K mg base A outer s H→BindsTo s fd args (ps.zip us)→Vals vs us→sp vs H Q E →
    codeAny (model P w) A (.call (.ref f) args) (CR CX outer P w H s Q E) s
theorem Env0.make {P:Program} {w:World} {K:PySem.W.Frag} {mg:Str→Option Value} {base:Heap} {A:Around} {outer:List Env} {s:Shared} {H:Hp} (e:Env0 P w K mg base A outer s H) (C:Addr) (us:List Value) (kw:List (Str×Value)) :
    Env0 P w K mg base (A.under (.builtin "type.__call__" ⟨.ref C :: us,kw⟩)) outer s H:=⟨by first | exact e.frames | (simpa [Around.under,Code.envs,Code.isFrame,pushEnvs] using e.frames),e.mod,e.bs,e.bsz,e.funs,e.frf,e.hok,e.bare⟩
theorem Env0.in1 {P:Program} {w:World} {K:PySem.W.Frag} {mg:Str→Option Value} {base:Heap} {A:Around} {outer:List Env} {s:Shared} {H:Hp} (e:Env0 P w K mg base A outer s H) :
    Env0 P w K mg base A.in1 outer s H:=⟨e.frames,e.mod,e.bs,e.bsz,e.funs,e.frf,e.hok,e.bare⟩
section
variable {X:Cx} {pins:List (Addr×Obj)} {σ:St} {H:Hp} {s s':Shared}
theorem Inv.env0 (I:Inv X pins σ H s):Env0 X.prog X.w X.K X.mg X.base X.A X.stack s H :=
  ⟨I.ok.frames,I.ok.mod,I.bs,Nat.le_trans I.ok.bsz I.sz,I.stack,I.stkFree,I.hok,I.bare⟩
theorem Inv.after {Q:VK} {u:Value} (I:Inv X pins σ H s) (h:CE X.stack X.prog X.w H s Q u s'):EP X pins σ Q u s':=by
  obtain ⟨v,H',os,bare,un,hok,r,q⟩:=h
  obtain ⟨hh,g,d,t,os'⟩:=s'
  obtain rfl:os'=s.os:=os
  exact ⟨v,H',I.call (h':=hh) (g':=g) (d':=d) (t':=t) (ch:=[]) un hok bare (fun b z=>absurd z (by simp)),r,q⟩
end
noncomputable def tCall (sp:Sp) (dvs:List V) (E:XK) (t:TA):TE:=fun σ H Q=>t σ H fun vs H1=>sp (vs ++ dvs) H1 Q E
noncomputable def tMeth (C:Addr) (m:Str) (sp:Sp) (dvs:List V) (E:XK) (ta:TE) (t:TA):TE:=fun σ H Q=>ta σ H fun x H1=>∃ a dx fs,x = .ref a∧H1 a=some (.ins C dx fs)∧fs.lookup m=none ∧
  t σ H1 fun vs H2=>sp (x :: (vs ++ dvs)) H2 Q E
noncomputable def tMake (K:PySem.W.Frag) (C:Addr) (sp:Sp) (dvs:List V) (E:XK) (t:TA):TE:=fun σ H Q=>t σ H fun vs H1=>∀ x dx,H1 x=none→H1 dx=none→dx≠x→K.lookup x=none →
  sp (.ref x :: (vs ++ dvs)) (upd (upd H1 dx (.own x)) x (.ins C dx [])) (fun v H2=>v = .non∧Q (.ref x) H2) E
noncomputable def Binds (K:PySem.W.Frag) (fd:FuncData) (ps:List Str) (ds:List Value):Prop :=
  ∀ (s:Shared) (us:List Value),K.In s.heap→(us ++ ds).length=ps.length→BindsTo s fd ⟨us,[]⟩ (ps.zip (us ++ ds))
theorem Binds.all {K:PySem.W.Frag} {fd:FuncData} {ps:List Str} (h:∀ us:List Value,us.length=ps.length→bindArgs fd ⟨us,[]⟩=pure (ps.zip us)):Binds K fd ps []:=fun s us _ hl=>by
  rw [List.append_nil] at hl ⊢
  exact .of_eq (h us hl)
noncomputable def Passes (CX:CXT) (X:Cx) (E:XK):Prop:=∀ (pins:List (Addr×Obj)) (σ:St) (H:Hp) (s:Shared) (e:Value) (s':Shared),Inv X pins σ H s→CX X.stack H s E e s'→X.xe e s'
section
variable {X:Cx} {CX:CXT} {k:Nat} {f C:Addr} {fd:FuncData} {ps:List Str} {sp:Sp} {dvs:List V} {ds:List Value} {E:XK} {x m:Str} {p pos apos:Pos} {e o:Expr} {es:List Expr} {ta:TE} {t:TA}
theorem run_fn {pins:List (Addr×Obj)} {σ:St} {H:Hp} {s:Shared} {Q:VK} {us:List Value} {vs:List V} (F:FnOk X.prog X.w X.K X.mg X.base CX k f fd ps sp) (hr:Room k X.A) (hb:Binds X.K fd ps ds) (hd:Vals dvs ds) (hx:Passes CX X E)
    (I:Inv X pins σ H s) (r:Vals vs us) (h:sp (vs ++ dvs) H Q E):wpAny (model X.prog X.w) X.A (call (.ref f) us) (EP X pins σ Q) X.xe s:=by
  have r2:Vals (vs ++ dvs) (us ++ ds):=r.append hd
  have hl:(us ++ ds).length=ps.length:=by rw [← r2.length];exact F.len _ _ _ _ h
  refine wpAny_call (codeAny_mono (F.run X.A X.stack s H ⟨us,[]⟩ (us ++ ds) (vs ++ dvs) Q E hr I.env0 (hb s us I.kIn hl) r2 h) fun r s' hq=>?_)
  cases r with
  | error e=>exact hx pins σ H s e s' I hq
  | ok fl =>
    cases fl with
    | ret u=>exact I.after hq
    | next=>exact False.elim hq
    | brk=>exact False.elim hq
    | cont=>exact False.elim hq
theorem pe_call (F:FnOk X.prog X.w X.K X.mg X.base CX k f fd ps sp) (hr:Room k X.A) (hg:Gl X x) (hm:X.mg x=some (.ref f)) (hk:PySem.W.keepIn X.K (.ref f)=true) (hb:Binds X.K fd ps ds) (hd:Vals dvs ds) (hx:Passes CX X E)
    (ha:PA X (e :: es) t) (hdb:(x == ("__debug__" : Str))=false:=by decide) (he:starEach (e :: es) X.env=(false,eval e X.env) :: starEach es X.env:=by rfl) (hpl:(backTo pos (starEach es X.env)).any (·.1)=false:=by rfl) :
    PE X (.Call (.Name x p) (e :: es) [] pos) (tCall sp dvs E t):=by
  intro pins s σ H Q I h
  refine wpAny_Call_Name_kw (ld_glob I hg hm ?_ hdb)
  refine PySem.W.callWith_K (h₀:=X.base) I.ok.mod.kin hk (thn (ha pos pins s σ H _ I h) fun us s1 ⟨vs,H1,I1,r,q⟩=>⟨I1.kIn,?_⟩) he hpl
  exact run_fn F hr hb hd hx I1 r q
theorem pe_meth {pl:Sem Bool} (he:PE X o ta) (c:Cls X.K C) (hm:Meth X.K C m f) (F:FnOk X.prog X.w X.K X.mg X.base CX k f fd ps sp) (hr:Room k X.A) (hb:Binds X.K fd ps ds) (hd:Vals dvs ds) (hx:Passes CX X E) (ha:PA X (e :: es) t)
    (hst:starEach (e :: es) X.env=(false,eval e X.env) :: starEach es X.env:=by rfl) (hpl:(backTo pos (starEach es X.env)).any (·.1)=false:=by rfl)
    (ht:eval (.Call (.Attribute o m apos) (e :: es) [] pos) X.env=(do
      let ov ← eval o X.env
      standAt apos.atName
      let (f,first) ← holding [ov] (getMethod ov m pl)
      callWith pos f first (backTo pos (starEach (e :: es) X.env)) (backToKw pos (keywordEach [] X.env))):=by rfl) :
    PE X (.Call (.Attribute o m apos) (e :: es) [] pos) (tMeth C m sp dvs E ta t):=by
  intro pins s σ H Q I h
  refine PySem.W.methodCall_KW (pl:=pl) (thn (he pins s σ H _ I h) fun u s1 ⟨x,H1,I1,rx,a,dx,fs,ex,ea,l,q⟩=>?_) ht
  subst ex
  obtain rfl:u=Value.ref a:=rx
  refine getmeth_ok I1 ea c hm l ?_
  refine PySem.W.callWith_K (first:=[.ref a]) (h₀:=X.base) I.ok.mod.kin hm.kp (thn (ha pos pins s1 σ H1 _ I1 q) fun us s2 ⟨vs,H2,I2,r,q2⟩=>⟨I2.kIn,?_⟩) hst hpl
  exact run_fn (us:=.ref a :: us) (vs:=.ref a :: vs) F hr hb hd hx I2 (.cons rfl r) q2
structure Mk (K:PySem.W.Frag) (C f:Addr):Prop where
  makes:PySem.W.makesIn K C=true
  init:PySem.W.findIn K (.ref C) "__init__" = some (some (.ref f))
  fn:PySem.W.isFn K (.ref f)=true
  kp:PySem.W.keepIn K (.ref C)=true
theorem run_make {pins:List (Addr×Obj)} {σ:St} {H:Hp} {s:Shared} {Q:VK} {us:List Value} {vs:List V} (M:Mk X.K C f) (F:FnOk X.prog X.w X.K X.mg X.base CX k f fd ps sp) (hr:Room (k + 1) X.A) (hb:Binds X.K fd ps ds) (hd:Vals dvs ds)
    (hx:Passes CX X E) (I:Inv X pins σ H s) (r:Vals vs us)
    (h:∀ x dx,H x=none→H dx=none→dx≠x→X.K.lookup x=none→sp (.ref x :: (vs ++ dvs)) (upd (upd H dx (.own x)) x (.ins C dx [])) (fun v H2=>v = .non∧Q (.ref x) H2) E) :
    wpAny (model X.prog X.w) X.A (call (.ref C) us) (EP X pins σ Q) X.xe s:=by
  have hq:=h (s.heap.objs.size + 1) s.heap.objs.size (I.hok.fresh (Nat.le_succ _)) (I.hok.fresh (Nat.le_refl _)) (Nat.ne_of_lt (Nat.lt_succ_self _)) (by cases e:X.K.lookup (s.heap.objs.size + 1) with | none=>rfl | some o=>exact absurd (Heap.lt_size (I.kIn _ o e)) (Nat.not_lt.mpr (Nat.le_succ _)))
  have I2:=Inv.made (C:=C) I
  have r2:Vals (V.ref (s.heap.objs.size + 1) :: (vs ++ dvs)) (Value.ref (s.heap.objs.size + 1) :: (us ++ ds)):=.cons rfl (r.append hd)
  have hl:(Value.ref (s.heap.objs.size + 1) :: us ++ ds).length=ps.length:=by
    have e:=r2.length
    rw [F.len _ _ _ _ hq] at e
    exact e.symm
  refine wpAny_call (make_map (f:=f) I.kIn M.makes M.init (beq_iff_eq.mp M.fn) (codeAny_mono (F.run _ X.stack _ _ ⟨Value.ref (s.heap.objs.size + 1) :: us,[]⟩ (Value.ref (s.heap.objs.size + 1) :: (us ++ ds)) _ _ E (hr.make C us [])
    (I2.env0.make C us []) (hb _ (Value.ref (s.heap.objs.size + 1) :: us) I2.kIn hl) r2 hq) fun r s' hq'=>?_))
  cases r with
  | error e=>exact hx pins σ _ _ e s' I2 hq'
  | ok fl =>
    cases fl with
    | ret u =>
      obtain ⟨v,H',I3,rv,ev,q3⟩:=I2.after hq'
      subst ev
      exact ⟨rv,⟨V.ref (s.heap.objs.size + 1),H',I3,rfl,q3⟩⟩
    | next=>exact False.elim hq'
    | brk=>exact False.elim hq'
    | cont=>exact False.elim hq'
theorem pe_make (M:Mk X.K C f) (F:FnOk X.prog X.w X.K X.mg X.base CX k f fd ps sp) (hr:Room (k + 1) X.A) (hg:Gl X x) (hm:X.mg x=some (.ref C)) (hb:Binds X.K fd ps ds) (hd:Vals dvs ds) (hx:Passes CX X E)
    (ha:PA X (e :: es) t) (hdb:(x == ("__debug__" : Str))=false:=by decide) (he:starEach (e :: es) X.env=(false,eval e X.env) :: starEach es X.env:=by rfl) (hpl:(backTo pos (starEach es X.env)).any (·.1)=false:=by rfl) :
    PE X (.Call (.Name x p) (e :: es) [] pos) (tMake X.K C sp dvs E t):=by
  intro pins s σ H Q I h
  refine wpAny_Call_Name_kw (ld_glob I hg hm ?_ hdb)
  refine PySem.W.callWith_K (h₀:=X.base) I.ok.mod.kin M.kp (thn (ha pos pins s σ H _ I h) fun us s1 ⟨vs,H1,I1,r,q⟩=>⟨I1.kIn,?_⟩) he hpl
  exact run_make M F hr hb hd hx I1 r q
end
noncomputable def PK (X:Cx) (kws:List Keyword) (t:TA):Prop :=
  ∀ (pos:Pos) (pins:List (Addr×Obj)) (s:Shared) (σ:St) (H:Hp) (Q:List V→Hp→Prop),Inv X pins σ H s→t σ H Q→wpAny (model X.prog X.w) X.A (evalAll ((backToKw pos (keywordEach kws X.env)).map (·.2))) (AP X pins σ Q) X.xe s
section
variable {X:Cx} {CX:CXT} {k:Nat} {f C:Addr} {fd:FuncData} {ps ks:List Str} {sp:Sp} {E:XK} {x m:Str} {p pos apos kpos:Pos} {e o:Expr} {es:List Expr} {kws:List Keyword} {te ta:TE} {t tk:TA} {nm:Option Str}
theorem pk_nil:PK X [] tNil:=fun _ _ _ _ H Q I h=>wpAny_evalAll_nil ⟨[],H,I,.nil,h⟩
theorem pk_cons (ha:PE X e te) (hr:PK X kws t):PK X (⟨nm,e,kpos⟩ :: kws) (tCons te t):=by
  intro pos pins s σ H Q I h
  show wpAny _ _ (evalAll ((do let v ← eval e X.env;standAt pos;pure v) :: (backToKw pos (keywordEach kws X.env)).map (·.2))) _ _ s
  refine wpAny_evalAll_cons (wpAny_bind (thn (ha pins s σ H _ I h) fun u s1 ⟨x,H1,I1,r1,q1⟩=>wpAny_bind (wpAny_standAt (wpAny_pure ?_))))
  exact thn (hr pos pins s1 σ H1 _ I1 q1) fun us s2 ⟨xs,H2,I2,r2,q2⟩=>⟨x :: xs,H2,I2,.cons r1 r2,q2⟩
variable {g:List Value→List Value→List Value} {gV:List V→List V→List V}
end
structure FnScope (N P:List Str) (sc:Scope):Prop where
  kind:sc.kind = .function
  co:sc.isCoroutine=false
  gen:sc.isGenerator=false
  nd:N.Nodup
  pre:N.take P.length=P
  par:∀ x ∈ P,sc.names.lookup x=some .local∨sc.names.lookup x=some .cell
  nofree:∀ y ∈ sc.names,y.2≠.free
theorem bindL_out {kindOf:Str→Option NameKind} {x:Str}:∀ {binds:List (Str×Value)} {m:Str→Option Value},(∀ v,(x,v) ∉ binds)→bindL kindOf binds m x=m x
  | [],_,_=>rfl
  | (n,v) :: r,m,h=>by
    unfold bindL
    rw [bindL_out fun w hw=>h w (List.mem_cons_of_mem _ hw)]
    split
    · have:x≠n:=by rintro rfl;exact h v List.mem_cons_self
      simp [this]
    · rfl
theorem bindC_out {kindOf:Str→Option NameKind} {x:Str}:∀ {binds:List (Str×Value)} {m:Str→Option Value},(∀ v,(x,v) ∉ binds)→bindC kindOf binds m x=m x
  | [],_,_=>rfl
  | (n,v) :: r,m,h=>by
    unfold bindC
    rw [bindC_out fun w hw=>h w (List.mem_cons_of_mem _ hw)]
    split
    · rfl
    · have:x≠n:=by rintro rfl;exact h v List.mem_cons_self
      simp [this]
theorem bindL_get {kindOf:Str→Option NameKind} {x:Str} {v:Value}:∀ {P:List Str} {vs:List Value} {i:Nat} {m:Str→Option Value},P.Nodup→P[i]? = some x→vs[i]? = some v→kindOf x=some .local →
    bindL kindOf (P.zip vs) m x=some v
  | [],_,_,_,_,h,_,_=>by simp at h
  | _ :: _,[],_,_,_,_,h,_=>by simp at h
  | p :: P,w :: vs,0,m,nd,h1,h2,hk=>by
    simp at h1 h2;subst h1;subst h2
    show bindL kindOf ((p,w) :: P.zip vs) m p=_
    unfold bindL
    rw [bindL_out fun v hv=>(List.nodup_cons.mp nd).1 (List.of_mem_zip hv).1,if_pos hk]
    simp
  | p :: P,w :: vs,i + 1,m,nd,h1,h2,hk=>by
    show bindL kindOf ((p,w) :: P.zip vs) m x=_
    unfold bindL
    exact bindL_get (i:=i) (List.nodup_cons.mp nd).2 (by simpa using h1) (by simpa using h2) hk
theorem bindC_get {kindOf:Str→Option NameKind} {x:Str} {v:Value}:∀ {P:List Str} {vs:List Value} {i:Nat} {m:Str→Option Value},P.Nodup→P[i]? = some x→vs[i]? = some v→kindOf x≠some .local →
    bindC kindOf (P.zip vs) m x=some v
  | [],_,_,_,_,h,_,_=>by simp at h
  | _ :: _,[],_,_,_,_,h,_=>by simp at h
  | p :: P,w :: vs,0,m,nd,h1,h2,hk=>by
    simp at h1 h2;subst h1;subst h2
    show bindC kindOf ((p,w) :: P.zip vs) m p=_
    unfold bindC
    rw [bindC_out fun v hv=>(List.nodup_cons.mp nd).1 (List.of_mem_zip hv).1,if_neg hk]
    simp
  | p :: P,w :: vs,i + 1,m,nd,h1,h2,hk=>by
    show bindC kindOf ((p,w) :: P.zip vs) m x=_
    unfold bindC
    exact bindC_get (i:=i) (List.nodup_cons.mp nd).2 (by simpa using h1) (by simpa using h2) hk
noncomputable def start (N:List Str) (vs:List V):St:=vs.map some ++ List.replicate (N.length - vs.length) none
noncomputable def cxOf (CX:CXT) (P:Program) (w:World) (K:PySem.W.Frag) (mg:Str→Option Value) (base:Heap) (N:List Str) (qual:Str) (scope:Scope) (f:Addr) (cd:Value) (A:Around) (outer:List Env) (s:Shared) (H:Hp) (E:XK):Cx where
  prog:=P
  w:=w
  K:=K
  mg:=mg
  base:=base
  A:=A.deeper (envOfC qual scope s.heap.objs.size f cd)
  N:=N
  s₀:=s
  H₀:=H
  env:=envOfC qual scope s.heap.objs.size f cd
  outer:=outer
  stack:=envOfC qual scope s.heap.objs.size f cd :: outer
  ex:=[]
  calm:=true
  fn:=fun _=>true
  pn:=[]
  xe:=fun e s'=>wpAny (model P w) (A.deeper (envOfC qual scope s.heap.objs.size f cd)) (leaving (envOfC qual scope s.heap.objs.size f cd) e) (fun _ s''=>CX outer H s E e s'') (fun e' s''=>CX outer H s E e' s'') s'
theorem cell_has {sc:Scope} {n:Nat} {x:Str} (h:sc.names.lookup x=some .cell):∃ c,(cellsFrom n sc.names []).lookup x=some c:=by
  have q:=PySem.W.cellsFrom_some sc.names n [] (.inl h)
  exact Option.isSome_iff_exists.mp q
theorem inv_start {CX:CXT} {P:Program} {w:World} {K:PySem.W.Frag} {mg:Str→Option Value} {base:Heap} {N ps:List Str} {qual:Str} {scope:Scope} {f:Addr} {cd:Value} {A:Around} {outer:List Env} {s s1:Shared} {H:Hp} {E:XK} {us:List Value} {vs:List V}
    (S:FnScope N ps scope) (hd:A.handled=none) (e0:Env0 P w K mg base A outer s H) (hl:vs.length=ps.length) (r:Vals vs us)
    (x:InCallC s s.heap.objs.size (bindL (envOfC qual scope s.heap.objs.size f cd).kindOf (ps.zip us) fun _=>none) (cellsFrom (s.heap.objs.size + 1) scope.names []) (bindC (envOfC qual scope s.heap.objs.size f cd).kindOf (ps.zip us) fun _=>none) s1) :
    Inv (cxOf CX P w K mg base N qual scope f cd A outer s H E) [] (start N vs) H s1:=by
  have hpl:ps.length≤N.length:=by have:=congrArg List.length S.pre;rw [List.length_take] at this;omega
  obtain ⟨h1,tk,rfl,hk⟩:=x.done
  have noA:∀ b:Addr,b ∉ (cxOf CX P w K mg base N qual scope f cd A outer s H E).ex:=fun b z=>absurd (show b ∈ ([]:List Addr) from z) (by simp)
  refine ⟨⟨e0.mod,S.kind,rfl,rfl,Nat.le_refl _,fun y z c h1 h2=>?_,fun y hy=>?_,fun y c _ h=>?_,fun _=>hd,Around.frames_deeper e0.frames,.inr ⟨rfl,rfl⟩,fun b z=>absurd z (noA b),e0.bs,e0.bsz,fun b _ _=>noA b,fun b z=>absurd z (noA b),e0.funs,e0.frf⟩,
    rfl,e0.bare,Un.kept hk,⟨_,x.toInCall.ns,fun i y v h1 h2 h3=>?_⟩,fun y c h=>⟨_,x.cell y c h⟩,e0.hok.fresh (Nat.le_refl _),fun y c h=>?_,fun p hp=>absurd (show p ∈ ([]:List (Addr×Obj)) from hp) (by simp),e0.hok.kept hk,?_⟩
  · exact name_of_addr x.apart (PySem.mem_of_lookup h1) (PySem.mem_of_lookup h2)
  · have hy:scope.names.lookup y=some .cell∨scope.names.lookup y=some .free:=hy
    rcases hy with hy | hy
    · exact cell_has hy
    · exact absurd rfl (S.nofree _ (PySem.mem_of_lookup hy))
  · exact Nat.le_of_lt (x.above y c (PySem.mem_of_lookup h))
  · have hi:i < vs.length:=by
      unfold start at h2
      by_cases hi:i < vs.length
      · exact hi
      · rw [List.getElem?_append_right (by simpa using hi)] at h2
        rw [List.getElem?_replicate] at h2
        split at h2 <;> cases h2
    have ha:vs[i]? = some v:=by
      unfold start at h2
      rw [List.getElem?_append_left (by simpa using hi),List.getElem?_map] at h2
      cases e:vs[i]? with
      | none=>rw [e] at h2;cases h2
      | some a=>rw [e] at h2;cases h2;rfl
    obtain ⟨u,hu,rv⟩:=r.get ha
    have hp:ps[i]? = some y:=by
      rw [← S.pre,List.getElem?_take_of_lt (by omega)];exact h1
    have ndP:ps.Nodup:=by rw [← S.pre];exact S.nd.sublist (List.take_sublist _ _)
    refine ⟨u,rv,?_⟩
    rcases S.par y (List.mem_of_getElem? hp) with k | k
    · exact .inl ⟨k,bindL_get ndP hp hu k⟩
    · obtain ⟨c,e⟩:=cell_has (n:=s.heap.objs.size + 1) k
      refine .inr ⟨.inl k,c,e,?_⟩
      have q:=x.cell y c e
      rw [bindC_get ndP hp hu (by show scope.names.lookup y≠_;rw [k];decide)] at q
      exact q
  · exact e0.hok.fresh (Nat.le_of_lt (x.above y c (PySem.mem_of_lookup h)))
  · unfold start
    show _=N.length
    rw [List.length_append,List.length_map,List.length_replicate]
    omega
theorem fn_of {CX:CXT} {P:Program} {w:World} {K:PySem.W.Frag} {mg:Str→Option Value} {base:Heap} {k:Nat} {f:Addr} {name qual:Str} {params:Arguments} {body:List Stmt} {scope:Scope} {dV kV doc pm cdv ct oc:Value} {an od:Option Addr}
    {osl:Array (Option Value)} {N ps:List Str} {sp:Sp} (lk:K.lookup f=some ⟨oc,od,.func (PySem.W.fnOf name qual params body scope dV kV doc pm an cdv ct),osl⟩) (hcd:PySem.W.codeIn K cdv qual=true) (S:FnScope N ps scope)
    (len:∀ vs H Q E,sp vs H Q E→vs.length=ps.length)
    (hbody:∀ (A:Around) (outer:List Env) (s:Shared) (H:Hp) (vs:List V) (Q:VK) (E:XK),Room k (A.deeper (envOfC qual scope s.heap.objs.size f cdv))→sp vs H Q E →
      ∃ t,PSs (cxOf CX P w K mg base N qual scope f cdv A outer s H E) body t∧t { nx:=fun _ H'=>Q .non H',rt:=Q } (start N vs) H) :
    FnOk P w K mg base CX (k + 1) f (PySem.W.fnOf name qual params body scope dV kV doc pm an cdv ct) ps sp:=by
  refine ⟨len,fun A outer s H args us vs Q E hr e0 hb r hsp=>?_⟩
  have hl:=len _ _ _ _ hsp
  have KX:K.In s.heap:=e0.mod.kin.keeps fun b o e=>(e0.bs b o e).1
  have lim:s.heap.NoLimit:=e0.mod.nolimit.keeps fun b o e=>(e0.bs b o e).1
  have hkind:∀ y ∈ ps.zip us,scope.names.lookup y.1=some .local∨(scope.names.lookup y.1=some .cell∧((cellsFrom (s.heap.objs.size + 1) scope.names []).lookup y.1).isSome=true):=fun ⟨n,v⟩ hy=>by
    rcases S.par n (List.of_mem_zip hy).1 with q | q
    · exact .inl q
    · exact .inr ⟨q,PySem.W.cellsFrom_some _ _ _ (.inl q)⟩
  refine codeAny_call_function hr.depth (KX _ _ lk) rfl S.co S.gen rfl (PySem.W.codeRec_of KX hcd) (hb _ _ _ _ ?_)
  refine wpAny_newFunctionEnv_cells S.kind hkind fun env he s1 x=>?_
  subst he
  refine ⟨lim.keeps x.toInCall.keep,codeAny_func ?_⟩
  obtain ⟨t,ht,hq⟩:=hbody A outer s H vs Q E (hr.deeper _) hsp
  have I:Inv (cxOf CX P w K mg base N qual scope f cdv A outer s H E) [] (start N vs) H s1:=inv_start S hr.hd e0 hl r x
  refine wpAny_mono (ht [] s1 (start N vs) H _ I hq) (fun fl s' hs=>?_) fun e s' hs=>hs
  have fin:∀ {σ':St} {H':Hp} {v:V} {u:Value},Inv (cxOf CX P w K mg base N qual scope f cdv A outer s H E) [] σ' H' s'→RelV v u→Q v H'→CE outer P w H s Q u s' :=
    fun {σ' H' v u} J rv q=>⟨v,H',J.os,J.bare,J.base,J.hok,rv,q⟩
  cases fl with
  | ret u =>
    obtain ⟨v,σ',H',J,rv,q⟩:=hs
    exact fin J rv q
  | next =>
    obtain ⟨σ',H',J,q⟩:=hs
    exact fin (v:=V.non) (u:=Value.none) J rfl q
  | brk =>
    obtain ⟨_,_,_,q⟩:=hs
    exact False.elim q
  | cont =>
    obtain ⟨_,_,_,q⟩:=hs
    exact False.elim q
end L2
namespace L2
open PySem PySem.Spec PyProof.Rows
section
variable {X:Cx} {x:Str} {p pos:Pos} {e:Expr} {es:List Expr} {t:TA} {id T:String} {r:List V→Hp→VK→Prop}
noncomputable def tCB (r:List V→Hp→VK→Prop) (t:TA):TE:=fun σ H Q=>t σ H fun vs H1=>r vs H1 Q
theorem pe_callB (hc:CallR X (.builtin id) r) (hg:Gl X x) (hm:X.mg x=none) (hv:bootBuiltins x=some (.builtin id)) (ha:PA X (e :: es) t) (hn:x ≠ "__name__":=by decide) (hdb:(x == ("__debug__" : Str))=false:=by decide)
    (he:starEach (e :: es) X.env=(false,eval e X.env) :: starEach es X.env:=by rfl) (hpl:(backTo pos (starEach es X.env)).any (·.1)=false:=by rfl):PE X (.Call (.Name x p) (e :: es) [] pos) (tCB r t):=by
  intro pins s σ H Q I h
  refine wpAny_Call_Name_kw (ld_blt I hg hm hv ?_ hn hdb)
  exact PyProof.Rows.callWith_builtin1 (thn (ha pos pins s σ H _ I h) fun us s1 ⟨vs,H1,I1,r1,q1⟩=>hc pins s1 σ H1 vs us Q I1 r1 q1) he hpl
theorem pe_callTy (hc:CallR X (.type T) r) (hg:Gl X x) (hm:X.mg x=none) (hv:bootBuiltins x=some (.type T)) (ha:PA X (e :: es) t) (hn:x ≠ "__name__":=by decide) (hdb:(x == ("__debug__" : Str))=false:=by decide)
    (he:starEach (e :: es) X.env=(false,eval e X.env) :: starEach es X.env:=by rfl) (hpl:(backTo pos (starEach es X.env)).any (·.1)=false:=by rfl):PE X (.Call (.Name x p) (e :: es) [] pos) (tCB r t):=by
  intro pins s σ H Q I h
  refine wpAny_Call_Name_kw (ld_blt I hg hm hv ?_ hn hdb)
  exact PyProof.Rows.callWith_type1 (thn (ha pos pins s σ H _ I h) fun us s1 ⟨vs,H1,I1,r1,q1⟩=>hc pins s1 σ H1 vs us Q I1 r1 q1) he hpl
end
end L2
namespace HT
open PySem PyProof.Rows
section
variable {prog:Program} {w:World} {A:Around} {E:Value→Shared→Prop} {s:Shared}
theorem cat_tup {t b:Addr} {vs ws:List Value} {Q:Value→Shared→Prop} (ht:IsTup s.heap t vs.toArray) (hb:IsTup s.heap b ws.toArray) (hv:vs≠[])
    (h1:ws=[]→Q (.ref t) s) (h2:ws≠[]→Q (.ref s.heap.objs.size) { s with heap:=s.heap.push { cls:=.type "tuple",data:=.seq (vs ++ ws).toArray } })
    (hsz:vs.length + ws.length≤sizeLine):wpAny (model prog w) A (binaryOp .Add (.ref t) (.ref b)) Q E s:=by
  obtain ⟨⟨cls,dd,data,sl⟩,ho,hc,n,hd⟩:=id ht
  obtain ⟨⟨cls2,dd2,data2,sl2⟩,ho2,hc2,n2,hd2⟩:=id hb
  simp only at hc hd hc2 hd2
  subst hc hd hc2 hd2
  have e:vs.toArray ++ ws.toArray=(vs ++ ws).toArray:=by simp
  by_cases hw:ws=[]
  · exact concat_meets ⟨_,ho,rfl⟩ ⟨_,ho2,rfl⟩ noFill_tuple_add seq_tuple_add PySem.F.slot_tuple_add PySem.F.entry_tuple_add (PySem.F.args_tuple_add_2 _ _)
      (tuple_addW1 t b vs.toArray ws.toArray n n2 dd dd2 sl sl2 (by simpa using hv) (by simp [hw])) ⟨ho,ho2,h1 hw⟩
  · refine concat_meets ⟨_,ho,rfl⟩ ⟨_,ho2,rfl⟩ noFill_tuple_add seq_tuple_add PySem.F.slot_tuple_add PySem.F.entry_tuple_add (PySem.F.args_tuple_add_2 _ _)
      (tuple_addW2 t b vs.toArray ws.toArray n n2 dd dd2 sl sl2 (by simpa using hv) (by simpa using hw) (by rw [List.size_toArray,List.size_toArray];exact hsz)) ⟨ho,ho2,?_⟩
    rw [e]
    exact h2 hw
noncomputable def sIx (n d:Nat):Option Int→Nat
  | none=>d
  | some v=>if v < 0 then (v + (n:Int)).toNat else min v.toNat n
theorem sIx_none (n d:Nat):sIx n d none=d:=rfl
theorem sIx_nat (n d k:Nat):sIx n d (some (k:Int))=min k n:=by
  show (if (k:Int) < 0 then ((k:Int) + (n:Int)).toNat else min (k:Int).toNat n)=min k n
  rw [if_neg (by omega),Int.toNat_natCast]
theorem sIx_le (n d:Nat) (hd:d≤n) (o:Option Int):sIx n d o≤n:=by
  cases o with
  | none=>exact hd
  | some v =>
    show (if v < 0 then (v + (n:Int)).toNat else min v.toNat n)≤n
    by_cases hv:v < 0
    · rw [if_pos hv];omega
    · rw [if_neg hv];exact Nat.min_le_right _ _
theorem clip_eq (v:Int) (n d:Nat):(if v < 0 then max (v + (n:Int)) 0 else min v (n:Int))=((sIx n d (some v):Nat):Int):=by
  show (if v < 0 then max (v + (n:Int)) 0 else min v (n:Int))=(((if v < 0 then (v + (n:Int)).toNat else min v.toNat n):Nat):Int)
  by_cases hv:v < 0
  · simp only [if_pos hv];omega
  · simp only [if_neg hv];omega
theorem adjust_gen (lo hi:Option Int) (n:Nat):Builtin.Slice.sliceAdjust lo hi 1 (n:Int)=(((sIx n 0 lo:Nat):Int),((sIx n n hi:Nat):Int)):=by
  have h1:¬ ((1:Int) < 0):=by omega
  unfold Builtin.Slice.sliceAdjust
  simp only [h1,if_false]
  refine Prod.ext ?_ ?_
  · cases lo with
    | none=>rfl
    | some v=>exact clip_eq v n 0
  · cases hi with
    | none=>rfl
    | some v=>exact clip_eq v n n
theorem places_gen (i j:Nat):Builtin.Slice.slicePlaces (i:Int) (j:Int) 1=j - i:=by
  unfold Builtin.Slice.slicePlaces
  have h1:(1:Int) > 0:=by omega
  simp only [h1,if_true,Int.ediv_one]
  split <;> omega
theorem slicePart_ {v:Value} {o:Option Int} {Q:Option Int→Shared→Prop} (p:IsPart v o) (h:Q o s):wpAny (model prog w) A (Builtin.Slice.slicePartIndex v) Q E s:=by
  cases p with
  | none=>exact slicePart_none h
  | int i t=>exact slicePart_int h
theorem sliceApplied_gen {sl:Addr} {vl vu:Value} {lo hi:Option Int} {n:Nat} {Q:Int×Int×Nat→Shared→Prop} (hs:s.heap.IsSliceOf sl vl vu .none) (pl:IsPart vl lo) (pu:IsPart vu hi)
    (h:Q (((sIx n 0 lo:Nat):Int),1,sIx n n hi - sIx n 0 lo) s):wpAny (model prog w) A (Builtin.Slice.sliceApplied (.ref sl) (pure (n:Int))) Q E s:=by
  obtain ⟨os,hos,hcs,hds⟩:=id hs
  unfold Builtin.Slice.sliceApplied Builtin.Slice.sliceFields
  refine wpAny_bind (wpAny_bind (wpAny_field hos hds (x:=vl) rfl (wpAny_bind (wpAny_field hos hds (x:=vu) rfl (wpAny_bind (wpAny_field hos hds (x:=.none) rfl (wpAny_pure ?_)))))))
  refine wpAny_bind (slicePart_none ?_)
  show wpAny _ _ (if ((1:Int) == 0)=true then _ else _) _ _ s
  rw [if_neg (by decide)]
  refine wpAny_bind (slicePart_ pl (wpAny_bind (slicePart_ pu (wpAny_bind (wpAny_pure ?_)))))
  show wpAny _ _ (match Builtin.Slice.sliceAdjust lo hi 1 (n:Int) with | (lo,hi)=>pure (lo,(1:Int),Builtin.Slice.slicePlaces lo hi 1)) _ _ s
  rw [adjust_gen lo hi n]
  show wpAny _ _ (pure (((sIx n 0 lo:Nat):Int),(1:Int),Builtin.Slice.slicePlaces ((sIx n 0 lo:Nat):Int) ((sIx n n hi:Nat):Int) 1)) _ _ s
  rw [places_gen]
  exact wpAny_pure h
theorem pick_gen (xs:Array Value) (i k:Nat):((List.range k).filterMap fun (m:Nat)=>xs[((i:Int) + (m:Int) * 1).toNat]?).toArray=((xs.toList.drop i).take k).toArray:=by
  have e:(fun (m:Nat)=>xs[((i:Int) + (m:Int) * 1).toNat]?)=fun m=>xs[i + m]?:=by
    funext m
    have:((i:Int) + (m:Int) * 1).toNat=i + m:=by omega
    rw [this]
  rw [e]
  have:=pick_run xs i k
  rw [List.filterMap_map] at this
  have e2:((fun x=>xs[x]?) ∘ fun x=>i + x)=fun m=>xs[i + m]?:=rfl
  rw [e2] at this
  rw [this]
theorem getItem_tuple_cut {t sl:Addr} {items:Array Value} {vl vu:Value} {lo hi:Option Int} {Q:Value→Shared→Prop} (ht:IsTup s.heap t items) (hs:s.heap.IsSliceOf sl vl vu .none) (pl:IsPart vl lo) (pu:IsPart vu hi)
    (hw:¬ (sIx items.size 0 lo=0∧sIx items.size items.size hi=items.size))
    (h:Q (.ref s.heap.objs.size) { s with heap:=s.heap.push { cls:=.type "tuple",data:=.seq ((items.toList.drop (sIx items.size 0 lo)).take (sIx items.size items.size hi - sIx items.size 0 lo)).toArray } })
    (hsz:items.size≤sizeLine):wpAny (model prog w) A (getItem (.ref t) (.ref sl)) Q E s:=by
  have htake:sizeOk (.seq ((items.toList.drop (sIx items.size 0 lo)).take (sIx items.size items.size hi - sIx items.size 0 lo)).toArray):=by
    show ((items.toList.drop (sIx items.size 0 lo)).take (sIx items.size items.size hi - sIx items.size 0 lo)).toArray.size≤sizeLine
    rw [List.size_toArray,List.length_take,List.length_drop,Array.length_toList]
    omega
  have hj:sIx items.size items.size hi≤items.size:=sIx_le _ _ (Nat.le_refl _) hi
  obtain ⟨os,hos,hcs,hds⟩:=id hs
  have hTs:s.TypeIs (.ref sl) "slice":=⟨os,hos,hcs⟩
  unfold getItem
  try with_reducible refine wpAny_holding ?_
  first | refine wpAny_bind (wpAny_pure ?_) | skip
  refine wpAny_bind (wpAny_sequenceKey ht.typeIs (by decide) ?_)
  refine wpAny_bind (wpAny_callSpecial?_slot (name:=Str.ofString "__getitem__") ht.typeIs PyProof.Rows.slot_tuple_getitem
    (wpAny_call_entry PyProof.Rows.slot_tuple_getitem ht.typeIs entry_tuple_getitem ?_ (args_tuple_getitem _ _)))
  show wpAny _ _ (Builtin.Tuple.tupleItemsOf (.ref t) >>= _) _ _ s
  refine wpAny_bind (tupleItemsOf_ ht ?_)
  refine wpAny_bind (wpAny_typeOf hTs ?_)
  rw [if_pos (by decide)]
  refine wpAny_bind (sliceApplied_gen hs pl pu ?_)
  have hno:¬ ((((sIx items.size 0 lo:Nat):Int) == 0 && (1:Int) == 1 && (sIx items.size items.size hi - sIx items.size 0 lo) == items.size)=true):=by
    intro q
    rw [Bool.and_eq_true,Bool.and_eq_true] at q
    have q1:((sIx items.size 0 lo:Nat):Int)=0:=eq_of_beq q.1.1
    have q2:sIx items.size items.size hi - sIx items.size 0 lo=items.size:=eq_of_beq q.2
    exact hw ⟨by omega,by omega⟩
  show wpAny _ _ (if (((sIx items.size 0 lo:Nat):Int) == 0 && (1:Int) == 1 && (sIx items.size items.size hi - sIx items.size 0 lo) == items.size)=true then _ else _) _ _ s
  rw [if_neg hno,pick_gen]
  first
    | exact wpAny_bind (m:=Builtin.Tuple.tupleExact _) (wpAny_newObj_type (wpAny_pure ⟨_,rfl,wpAny_pure h⟩) htake)
    | exact wpAny_bind (m:=Builtin.Tuple.tupleExact _) (wpAny_newObj_type (wpAny_bind (wpAny_pure (wpAny_pure ⟨_,rfl,wpAny_pure h⟩))) htake)
    | exact wpAny_bind (wpAny_bind (m:=Builtin.Tuple.tupleExact _) (wpAny_newObj_type (wpAny_pure (wpAny_pure ⟨_,rfl,wpAny_pure h⟩)) htake))
    | exact wpAny_bind (wpAny_bind (m:=Builtin.Tuple.tupleExact _) (wpAny_newObj_type (wpAny_pure ⟨_,rfl,wpAny_pure h⟩) htake))
end
end HT
namespace L2
open PySem PySem.Spec PyProof.Rows
noncomputable abbrev TO:=St→Hp→(Option Int→Hp→Prop)→Prop
noncomputable def PO (X:Cx) (e:Option Expr) (t:TO):Prop :=
  ∀ (pins:List (Addr×Obj)) (s:Shared) (σ:St) (H:Hp) (Q:Option Int→Hp→Prop),Inv X pins σ H s→t σ H Q →
    wpAny (model X.prog X.w) X.A (evalPart e X.env) (fun u s'=>∃ o H',Inv X pins σ H' s'∧IsPart u o∧Q o H') X.xe s
noncomputable def tNoPart:TO:=fun _ H Q=>Q none H
noncomputable def tPart (t:TE):TO:=fun σ H Q=>t σ H fun x H1=>∃ i,x = .int i∧Q (some i) H1
section
variable {X:Cx} {e:Expr} {te:TE} {lo hi:Option Expr} {tl th:TO} {pos p2:Pos}
theorem po_none:PO X none tNoPart:=by
  intro pins s σ H Q I h
  rw [evalPart_none]
  exact wpAny_pure ⟨none,H,I,.none,h⟩
theorem po_some (h:PE X e te):PO X (some e) (tPart te):=by
  intro pins s σ H Q I hw
  rw [evalPart_some]
  refine thn (h pins s σ H _ I hw) fun u s1 ⟨x,H1,I1,r1,q1⟩=>?_
  obtain ⟨i,rfl,q⟩:=q1
  obtain ⟨t,rfl⟩:=r1
  exact ⟨some i,H1,I1,.int i t,q⟩
noncomputable def SlR (X:Cx) (r:V→Option Int→Option Int→Hp→VK→Prop):Prop :=
  ∀ (pins:List (Addr×Obj)) (s:Shared) (σ:St) (H:Hp) (x:V) (v vl vu:Value) (lo hi:Option Int) (sl:Addr) (Q:VK),Inv X pins σ H s→RelV x v→s.heap.IsSliceOf sl vl vu .none→IsPart vl lo→IsPart vu hi→r x lo hi H Q →
    ∃ T id,typeLookup (.type T) "__getitem__" = pure (some (.builtin id))∧s.TypeIs v T∧wpAny (model X.prog X.w) X.A (getItem v (.ref sl)) (EP X pins σ Q) X.xe s
theorem SlR.or {r r':V→Option Int→Option Int→Hp→VK→Prop} (h:SlR X r) (h':SlR X r'):SlR X (fun x lo hi H Q=>r x lo hi H Q∨r' x lo hi H Q):=by
  intro pins s σ H x v vl vu lo hi sl Q I rx hs pl pu q
  rcases q with q | q
  · exact h pins s σ H x v vl vu lo hi sl Q I rx hs pl pu q
  · exact h' pins s σ H x v vl vu lo hi sl Q I rx hs pl pu q
noncomputable def tSl (r:V→Option Int→Option Int→Hp→VK→Prop) (te:TE) (tl th:TO):TE:=fun σ H Q=>te σ H fun x H1=>tl σ H1 fun l H2=>th σ H2 fun u H3=>r x l u H3 Q
theorem pe_slice {r:V→Option Int→Option Int→Hp→VK→Prop} (hr:SlR X r) (he:PE X e te) (hl:PO X lo tl) (hu:PO X hi th):PE X (.Subscript e (.Slice lo hi none p2) pos) (tSl r te tl th):=by
  intro pins s σ H Q I h
  refine Subscript_ (thn (he pins s σ H _ I h) fun v s1 ⟨x,H1,I1,r1,q1⟩=>?_)
  refine wpAny_Slice (thn (hl pins s1 σ H1 _ I1 q1) fun vl s2 ⟨l,H2,I2,pl,q2⟩=>thn (hu pins s2 σ H2 _ I2 q2) fun vu s3 ⟨u,H3,I3,pu,q3⟩=>?_)
  rw [evalPart_none]
  refine wpAny_pure ?_
  have I4:Inv X pins σ H3 { s3 with heap:=s3.heap.push { cls:=.type "slice",data:=.fields #[vl,vu,.none] } }:=I3.kept (t':=s3.toks) fun b ob q=>Heap.get?_push_of_some _ q
  obtain ⟨T,id,hT,ht,hg⟩:=hr pins { s3 with heap:=s3.heap.push { cls:=.type "slice",data:=.fields #[vl,vu,.none] } } σ H3 x v vl vu l u s3.heap.objs.size Q I4 r1 (Heap.IsSliceOf.new ..) pl pu q3
  show wpAny (model X.prog X.w) X.A (subscriptTail e (.Slice lo hi none p2) v (.ref s3.heap.objs.size)) (EP X pins σ Q) X.xe { s3 with heap:=s3.heap.push { cls:=.type "slice",data:=.fields #[vl,vu,.none] } }
  exact tail_any (ops:=[.ref s3.heap.objs.size,v]) ht hT hg (by with_unfolding_all rfl)
noncomputable def cutV (xs:List V) (lo hi:Option Int):List V:=(xs.drop (HT.sIx xs.length 0 lo)).take (HT.sIx xs.length xs.length hi - HT.sIx xs.length 0 lo)
theorem cutV_length (xs:List V) (lo hi:Option Int):(cutV xs lo hi).length≤xs.length:=by
  unfold cutV
  rw [List.length_take,List.length_drop]
  omega
noncomputable def rSlT (K:PySem.W.Frag):V→Option Int→Option Int→Hp→VK→Prop:=fun x lo hi H Q=>∃ a xs,x = .ref a∧SqT K H a xs ∧
  ¬ (HT.sIx xs.length 0 lo=0∧HT.sIx xs.length xs.length hi=xs.length)∧∀ p,H p=none→Q (.ref p) (upd H p (.tup (cutV xs lo hi)))
theorem sl_tup:SlR X (rSlT X.K):=by
  intro pins s σ H x v vl vu lo hi sl Q I rx hs pl pu h
  obtain ⟨a,xs,rfl,hx,hw,q⟩:=h
  cases rx
  obtain ⟨its,r,ht,hz⟩:=I.tuple hx
  have hlen:its.toArray.size=xs.length:=by rw [List.size_toArray];exact r.length.symm
  refine ⟨"tuple",_,PyProof.Rows.slot_tuple_getitem.lookup,ht.typeIs,?_⟩
  refine HT.getItem_tuple_cut ht hs pl pu (by rw [hlen];exact hw) ?_ (by rw [hlen];exact hz)
  rw [hlen]
  refine ⟨.ref s.heap.objs.size,_,I.laid (t':=s.toks) (o:=.tup (cutV xs lo hi)) (fun b ob q=>Heap.get?_push_of_some _ q) (Nat.le_refl _) ?_,rfl,q _ (I.hok.fresh (Nat.le_refl _))⟩
  exact ⟨Nat.le_trans (cutV_length xs lo hi) hz,_,(r.drop (HT.sIx xs.length 0 lo)).take (HT.sIx xs.length xs.length hi - HT.sIx xs.length 0 lo),IsTup.new _ _⟩
theorem Vals.nil_iff {xs:List V} {us:List Value} (r:Vals xs us):us=[]↔xs=[]:=by
  cases r with
  | nil=>simp
  | cons _ _=>simp
end
end L2
namespace L2
open PySem PySem.Spec PyProof.Rows
noncomputable def ixN (n:Nat) (i:Int):Option Nat:=if 0≤i then (if i < n then some i.toNat else none) else if -(n:Int)≤i then some (i + n).toNat else none
noncomputable def atI {α:Type} (xs:List α) (i:Int):Option α:=(ixN xs.length i).bind fun j=>xs[j]?
theorem ixN_seq {n:Nat} {i:Int} {j:Nat} (h:ixN n i=some j):seqIndex? i n=some j∧j < n∧-(n:Int)≤i∧i < n:=by
  unfold ixN at h
  by_cases h0:0≤i
  · rw [if_pos h0] at h
    by_cases h1:i < n
    · rw [if_pos h1] at h
      have e:i.toNat=j:=Option.some.inj h
      exact ⟨by rw [seqIndex_of h0 h1,e],by omega,by omega,h1⟩
    · rw [if_neg h1] at h;cases h
  · rw [if_neg h0] at h
    by_cases h1:-(n:Int)≤i
    · rw [if_pos h1] at h
      have e:(i + n).toNat=j:=Option.some.inj h
      exact ⟨by rw [seqIndex_neg (by omega) h1,e],by omega,h1,by omega⟩
    · rw [if_neg h1] at h;cases h
theorem atI_get {α:Type} {xs:List α} {i:Int} {v:α} (h:atI xs i=some v):∃ j,seqIndex? i xs.length=some j∧xs[j]? = some v∧j < xs.length∧-(xs.length:Int)≤i∧i < xs.length:=by
  unfold atI at h
  cases e:ixN xs.length i with
  | none=>rw [e] at h;cases h
  | some j =>
    rw [e] at h
    obtain ⟨h1,h2,h3,h4⟩:=ixN_seq e
    exact ⟨j,h1,h,h2,h3,h4⟩
theorem atI_nat {α:Type} {xs:List α} {j:Nat} {v:α} (h:xs[j]? = some v):atI xs (j:Int)=some v:=by
  have hj:j < xs.length:=(List.getElem?_eq_some_iff.mp h).1
  have e:ixN xs.length (j:Int)=some j:=by
    unfold ixN
    rw [if_pos (by omega),if_pos (by omega)];simp
  unfold atI;rw [e];exact h
noncomputable def PlainIx (b:Expr):Prop:=∀ o i,subscripted b false o i=operate [o,i] (getItem o i)
noncomputable def IxR (X:Cx) (r:R2):Prop :=
  ∀ (value slice:Expr) (pins:List (Addr×Obj)) (s:Shared) (σ:St) (H:Hp) (x y:V) (v u:Value) (Q:VK),Inv X pins σ H s→RelV x v→RelV y u→r x y H Q →
    subscripted slice false v u=operate [v,u] (getItem v u)→wpAny (model X.prog X.w) X.A (subscriptTail value slice v u) (EP X pins σ Q) X.xe s
noncomputable def MtR (X:Cx) (id:String) (r:V→List V→Hp→VK→Prop):Prop :=
  ∀ (pins:List (Addr×Obj)) (s:Shared) (σ:St) (H:Hp) (x:V) (xs:List V) (v:Value) (us:List Value) (Q:VK),Inv X pins σ H s→RelV x v→Vals xs us→r x xs H Q →
    wpAny (model X.prog X.w) X.A (call (.builtin id) (v :: us)) (EP X pins σ Q) X.xe s
section
variable {X:Cx} {a b:Expr} {ta tb:TE} {pos:Pos}
theorem IxR.or {r r':R2} (h:IxR X r) (h':IxR X r'):IxR X (fun x y H Q=>r x y H Q∨r' x y H Q):=by
  intro value slice pins s σ H x y v u Q I rx ry q hs
  rcases q with q | q
  · exact h value slice pins s σ H x y v u Q I rx ry q hs
  · exact h' value slice pins s σ H x y v u Q I rx ry q hs
theorem pe_ix {r:R2} (hr:IxR X r) (ha:PE X a ta) (hb:PE X b tb) (hs:PlainIx b):PE X (.Subscript a b pos) (tOp r ta tb):=by
  intro pins s σ H Q I h
  exact Subscript_ (binT ha hb I h fun v u s2 x y H2 I2 rx ry q=>hr a b pins s2 σ H2 x y v u Q I2 rx ry q (hs _ _))
noncomputable def rIxL (K:PySem.W.Frag):R2:=fun x y H Q=>∃ p xs i v,x = .ref p∧y = .int i∧SqL K H p xs∧atI xs i=some v∧Q v H
noncomputable def rIxT (K:PySem.W.Frag):R2:=fun x y H Q=>∃ p xs i v,x = .ref p∧y = .int i∧SqT K H p xs∧atI xs i=some v∧Q v H
noncomputable def rIxS:R2:=fun x y H Q=>∃ z i c,x = .str z∧y = .int i∧z.length≤sizeLine∧atI z.cps.toList i=some c∧Q (.str ⟨#[c]⟩) H
theorem ix_list:IxR X (rIxL X.K):=by
  intro value slice pins s σ H x y v u Q I rx ry h hs
  obtain ⟨p,xs,i,z,rfl,rfl,hq,he,q⟩:=h
  cases rx
  obtain ⟨t,rfl⟩:=ry
  obtain ⟨its,r,pl,hz⟩:=I.list hq
  obtain ⟨j,h1,h2,h3,h4,h5⟩:=atI_get he
  obtain ⟨w,ew,rw'⟩:=r.get h2
  have hl:=r.length
  have hn:=line63
  have fin:EP X pins σ Q w s:=⟨z,H,I,rw',q⟩
  by_cases h0:0≤i
  · have hj:i.toNat=j:=by
      rw [seqIndex_of h0 h5] at h1
      exact Option.some.inj h1
    exact item_listR pl.isList h0 (by omega) (by rw [hj];simpa using ew) fin hs
  · have hj:(i + (its.toArray.size:Int)).toNat=j:=by
      rw [seqIndex_neg (by omega) h4] at h1
      rw [List.size_toArray,← hl]
      exact Option.some.inj h1
    exact subscriptTail_builtinR (x:=w) pl.isList.typeIs slot_list_getitem.lookup
      (wpAny_getItem_list_neg (Q:=fun r s'=>r=w∧EP X pins σ Q r s') pl.isList (by omega) (by rw [List.size_toArray] <;> omega) (by omega) (by rw [hj];simpa using ew) ⟨rfl,fin⟩) hs
theorem ix_tup:IxR X (rIxT X.K):=by
  intro value slice pins s σ H x y v u Q I rx ry h hs
  obtain ⟨p,xs,i,z,rfl,rfl,hq,he,q⟩:=h
  cases rx
  obtain ⟨t,rfl⟩:=ry
  obtain ⟨its,r,pl,hz⟩:=I.tuple hq
  obtain ⟨j,h1,h2,h3,h4,h5⟩:=atI_get he
  obtain ⟨w,ew,rw'⟩:=r.get h2
  have hl:=r.length
  have hn:=line63
  have fin:EP X pins σ Q w s:=⟨z,H,I,rw',q⟩
  exact subscriptTail_builtinR (x:=w) pl.typeIs slot_tuple_getitem.lookup
    (getItem_tuple (j:=j) (Q:=fun r s'=>r=w∧EP X pins σ Q r s') pl (by omega) (by omega) (by rw [List.size_toArray,← hl];exact h1) (by simpa using ew) ⟨rfl,fin⟩) hs
theorem ix_str:IxR X rIxS:=by
  intro value slice pins s σ H x y v u Q I rx ry h hs
  obtain ⟨z,i,c,rfl,rfl,hz,he,q⟩:=h
  obtain ⟨t,rfl⟩:=rx
  obtain ⟨t',rfl⟩:=ry
  obtain ⟨j,h1,h2,h3,h4,h5⟩:=atI_get he
  have hl:z.cps.toList.length=z.length:=by simp [Str.length]
  rw [hl] at h1 h4 h5
  have hn:=line63
  exact tail_any (typeIs_str s z t) slot_str_getitem.lookup (getItem_str (c:=c) (by
    have e1:decide (i < -(2 ^ 63:Int))=false:=decide_eq_false (by omega)
    have e2:decide (i ≥ 2 ^ 63)=false:=decide_eq_false (by omega)
    rw [e1,e2,Bool.or_false]) (by rw [h1];simpa using h2) ⟨.str ⟨#[c]⟩,H,I.tok _,⟨_,rfl⟩,q⟩) hs
noncomputable def rIx (K:PySem.W.Frag):R2:=fun x y H Q=>rIxL K x y H Q∨rIxT K x y H Q∨rIxS x y H Q
theorem ix_seq:IxR X (rIx X.K):=ix_list.or (ix_tup.or ix_str)
theorem mapSeq_set (its:List Value) (n j:Nat) (u:Value):Obj.mapSeq (·.setIfInBounds j u) { cls:=.type "list",data:=.seq its.toArray n }={ cls:=.type "list",data:=.seq (its.set j u).toArray n }:=by
  simp [Obj.mapSeq]
theorem Inv.lst {pins:List (Addr×Obj)} {σ:St} {H:Hp} {s:Shared} {p:Addr} {xs:List V} (I:Inv X pins σ H s) (h:H p=some (.lst xs)) :
    ∃ (its:List Value) (n:Nat),Vals xs its∧s.heap.get? p=some { cls:=.type "list",data:=.seq its.toArray n }∧xs.length≤sizeLine:=by
  obtain ⟨z,its,n,r,e⟩:=I.hok p _ h
  exact ⟨its,n,r,e,z⟩
theorem Inv.lstUpd {pins:List (Addr×Obj)} {σ:St} {H:Hp} {s:Shared} {p:Addr} {xs ys:List V} {its its':List Value} {n n':Nat} {f:Obj→Obj} (I:Inv X pins σ H s) (h:H p=some (.lst xs))
    (ho:s.heap.get? p=some { cls:=.type "list",data:=.seq its.toArray n }) (hf:f { cls:=.type "list",data:=.seq its.toArray n }={ cls:=.type "list",data:=.seq its'.toArray n' }) (r:Vals ys its') (hz:ys.length≤sizeLine) (t:Nat) :
    Inv X pins σ (upd H p (.lst ys)) { s with heap:=s.heap.update p f,toks:=t }:=by
  have e:(s.heap.update p f).get? p=some { cls:=.type "list",data:=.seq its'.toArray n' }:=by
    rw [Heap.get?_update_self f ho (by rw [hf] <;> rfl),hf]
  refine I.write (x:=p) (e:=p) (by rw [h];trivial) (.inl rfl) (fun b u hb q=>(Heap.get?_update_other _ _ (Ne.symm hb)).trans q) ⟨_,e⟩ ?_
  exact ⟨hz,its',n',r,e⟩
noncomputable def rSetL:V→V→V→Hp→(Hp→Prop)→Prop:=fun o i v H Q=>∃ p xs k j,o = .ref p∧i = .int k∧H p=some (.lst xs)∧ixN xs.length k=some j∧Q (upd H p (.lst (xs.set j v)))
theorem set_list:PSet X rSetL:=by
  intro pins s σ H o i v ov iv u Q I ro ri rv h
  obtain ⟨p,xs,k,j,rfl,rfl,hp,hj,q⟩:=h
  cases ro
  obtain ⟨t,rfl⟩:=ri
  obtain ⟨its,n,r,ho,hz⟩:=I.lst hp
  obtain ⟨h1,h2,h3,h4⟩:=ixN_seq hj
  have hl:=r.length
  have hn:=line63
  have I':Inv X pins σ (upd H p (.lst (xs.set j v))) { s with heap:=s.heap.update p (Obj.mapSeq (·.setIfInBounds j u)) } :=
    I.lstUpd hp ho (mapSeq_set its n j u) (r.set rv j) (by rw [List.length_set];exact hz) s.toks
  by_cases h0:0≤k
  · have hk:k.toNat=j:=by
      rw [seqIndex_of h0 h4] at h1
      exact Option.some.inj h1
    exact PySem.W.ki_setAt ho h0 (by omega) (by rw [List.size_toArray,← hl];exact h4) (by rw [hk];exact ⟨_,I',q⟩)
  · have hk:(k + (its.toArray.size:Int)).toNat=j:=by
      rw [seqIndex_neg (by omega) h3] at h1
      rw [List.size_toArray,← hl]
      exact Option.some.inj h1
    exact PySem.W.ki_setBack ho (by omega) (by rw [List.size_toArray,← hl];exact h3) (by omega) (by rw [hk];exact ⟨_,I',q⟩)
theorem slice_bounds (lo hi:Option Int) (n:Nat):(sliceBounds lo hi none n).1=((HT.sIx n 0 lo:Nat):Int)∧(sliceBounds lo hi none n).2.1=((HT.sIx n n hi:Nat):Int)∧(sliceBounds lo hi none n).2.2=1:=by
  refine ⟨?_,?_,rfl⟩
  · cases lo with
    | none=>simp [sliceBounds,HT.sIx]
    | some i =>
      simp only [sliceBounds,HT.sIx,Option.getD_none,show (1:Int) > 0 by decide,if_true]
      by_cases h:i < 0
      · simp only [h,if_true] <;> omega
      · simp only [h,if_false] <;> omega
  · cases hi with
    | none=>simp [sliceBounds,HT.sIx]
    | some i =>
      simp only [sliceBounds,HT.sIx,Option.getD_none,show (1:Int) > 0 by decide,if_true]
      by_cases h:i < 0
      · simp only [h,if_true] <;> omega
      · simp only [h,if_false] <;> omega
theorem slicePick_cut (its:List Value) (lo hi:Option Int):slicePick its.toArray lo hi none=((its.drop (HT.sIx its.length 0 lo)).take (HT.sIx its.length its.length hi - HT.sIx its.length 0 lo)).toArray:=by
  obtain ⟨h1,h2,h3⟩:=slice_bounds lo hi its.toArray.size
  unfold slicePick
  rw [h1,h2,h3]
  simp only [sliceRange_one,pick_run,List.size_toArray] <;> rfl
noncomputable def rSlL (K:PySem.W.Frag):V→Option Int→Option Int→Hp→VK→Prop:=fun x lo hi H Q=>∃ a xs,x = .ref a∧SqL K H a xs∧∀ p,H p=none→Q (.ref p) (upd H p (.lst (cutV xs lo hi)))
theorem sl_list:SlR X (rSlL X.K):=by
  intro pins s σ H x v vl vu lo hi sl Q I rx hs pl pu h
  obtain ⟨a,xs,rfl,hx,q⟩:=h
  cases rx
  obtain ⟨its,r,ht,hz⟩:=I.list hx
  have hlen:=r.length
  refine ⟨"list",_,slot_list_getitem.lookup,ht.isList.typeIs,?_⟩
  refine wpAny_getItem_list_slice ht.isList hs pl pu .none (by simp) ?_ (by rw [List.size_toArray] <;> omega)
  rw [slicePick_cut,← hlen]
  refine ⟨.ref s.heap.objs.size,_,I.laid (t':=s.toks) (o:=.lst (cutV xs lo hi)) (fun b ob q=>Heap.get?_push_of_some _ q) (Nat.le_refl _) ?_,rfl,q _ (I.hok.fresh (Nat.le_refl _))⟩
  exact ⟨Nat.le_trans (cutV_length xs lo hi) hz,_,0,(r.drop (HT.sIx xs.length 0 lo)).take (HT.sIx xs.length xs.length hi - HT.sIx xs.length 0 lo),Heap.get?_push_size _ rfl⟩
noncomputable def flatV:V→Bool
  | .non=>true
  | .bl _=>true
  | .int _=>true
  | .str _=>true
  | _=>false
noncomputable def eqV:V→V→Bool
  | .non,.non=>true
  | .bl a,.bl b=>a == b
  | .bl a,.int b=>(if a then 1 else 0) == b
  | .int a,.bl b=>a == (if b then 1 else 0)
  | .int a,.int b=>a == b
  | .str a,.str b=>a == b
  | _,_=>false
theorem eqAt_V {A:Around} {s:Shared} {y x:V} {u v:Value} (ry:RelV y u) (rx:RelV x v) (fy:flatV y=true) (fx:flatV x=true):SeqAt.EqAt A s u v (eqV y x):=by
  cases y with
  | non =>
    cases ry
    cases x with
    | non=>cases rx;exact SeqAt.EqAt.same _
    | bl b=>cases rx;exact SeqAt.EqAt.none_bool b
    | int b=>obtain ⟨t,rfl⟩:=rx;exact SeqAt.EqAt.none_int b t
    | str b=>obtain ⟨t,rfl⟩:=rx;exact SeqAt.EqAt.none_str b t
    | _=>exact absurd (show false=true from fx) Bool.false_ne_true
  | bl a =>
    cases ry
    cases x with
    | non=>cases rx;exact SeqAt.EqAt.bool_none a
    | bl b=>cases rx;exact SeqAt.EqAt.bool_bool a b
    | int b=>obtain ⟨t,rfl⟩:=rx;exact SeqAt.EqAt.bool_int a b t
    | str b=>obtain ⟨t,rfl⟩:=rx;exact SeqAt.EqAt.bool_str a b t
    | _=>exact absurd (show false=true from fx) Bool.false_ne_true
  | int a =>
    obtain ⟨t',rfl⟩:=ry
    cases x with
    | non=>cases rx;exact SeqAt.EqAt.int_none a t'
    | bl b=>cases rx;exact SeqAt.EqAt.int_bool a t' b
    | int b=>obtain ⟨t,rfl⟩:=rx;exact SeqAt.EqAt.int_int a t' b t
    | str b=>obtain ⟨t,rfl⟩:=rx;exact SeqAt.EqAt.int_str a t' b t
    | _=>exact absurd (show false=true from fx) Bool.false_ne_true
  | str a =>
    obtain ⟨t',rfl⟩:=ry
    cases x with
    | non=>cases rx;exact SeqAt.EqAt.str_none a t'
    | bl b=>cases rx;exact SeqAt.EqAt.str_bool a t' b
    | int b=>obtain ⟨t,rfl⟩:=rx;exact SeqAt.EqAt.str_int a t' b t
    | str b=>obtain ⟨t,rfl⟩:=rx;exact SeqAt.EqAt.str_str a t' b t
    | _=>exact absurd (show false=true from fx) Bool.false_ne_true
  | _=>exact absurd (show false=true from fy) Bool.false_ne_true
noncomputable def eqU (x:V) (u:Value):Bool:=match u with
  | .none=>eqV .non x
  | .bool b=>eqV (.bl b) x
  | .int i _=>eqV (.int i) x
  | .str z _=>eqV (.str z) x
  | _=>false
theorem eqU_of {x y:V} {u:Value} (r:RelV y u) (f:flatV y=true):eqU x u=eqV y x:=by
  cases y with
  | non=>cases r;rfl
  | bl b=>cases r;rfl
  | int i=>obtain ⟨t,rfl⟩:=r;rfl
  | str z=>obtain ⟨t,rfl⟩:=r;rfl
  | _=>exact absurd (show false=true from f) Bool.false_ne_true
theorem any_eqU {x:V}:∀ {xs:List V} {us:List Value},Vals xs us→xs.all flatV=true→us.any (eqU x)=xs.any fun y=>eqV y x
  | _,_,.nil,_=>rfl
  | y :: xs,u :: us,.cons r t,f=>by
    rw [List.all_cons,Bool.and_eq_true] at f
    rw [List.any_cons,List.any_cons,eqU_of r f.1,any_eqU t f.2]
theorem mem_eqAt {A:Around} {s:Shared} {x:V} {v:Value} (rx:RelV x v) (fx:flatV x=true):∀ {xs:List V} {us:List Value},Vals xs us→xs.all flatV=true→∀ u ∈ us,SeqAt.EqAt A s u v (eqU x u)
  | _,_,.nil,_=>fun u hu=>by cases hu
  | y :: xs,u :: us,.cons r t,f=>fun u' hu=>by
    rw [List.all_cons,Bool.and_eq_true] at f
    rcases List.mem_cons.mp hu with rfl | hu
    · rw [eqU_of r f.1];exact eqAt_V r rx f.1 fx
    · exact mem_eqAt rx fx t f.2 u' hu
noncomputable def inV (x:V) (xs:List V):Bool:=xs.any fun y=>eqV y x
noncomputable def rIn (K:PySem.W.Frag) (neg:Bool):R2:=fun x y H Q=>∃ p xs,y = .ref p∧(SqL K H p xs∨SqT K H p xs)∧flatV x=true∧xs.all flatV=true∧Q (.bl (if neg then !inV x xs else inV x xs)) H
theorem op_in_seq:OpR X (compareOp .In) (rIn X.K false):=by
  intro pins s σ H x y v u Q I rx ry h
  obtain ⟨p,xs,rfl,hq,fx,fs,q⟩:=h
  cases ry
  rcases hq with hq | hq
  · obtain ⟨its,r,pl,hz⟩:=I.list hq
    refine SeqAt.in_listAt (eqU x) pl.isList (fun w hw=>mem_eqAt rx fx r fs w (by simpa using hw)) ⟨.bl _,H,I,rfl,?_⟩
    rw [show its.toArray.any (eqU x)=its.any (eqU x) by simp,any_eqU r fs]
    exact q
  · obtain ⟨its,r,pl,hz⟩:=I.tuple hq
    refine SeqAt.in_tupleAt (eqU x) pl (fun w hw=>mem_eqAt rx fx r fs w (by simpa using hw)) ⟨.bl _,H,I,rfl,?_⟩
    rw [show its.toArray.any (eqU x)=its.any (eqU x) by simp,any_eqU r fs]
    exact q
theorem call_len_seq:CallR X (.builtin "len") (fun xs H Q=>∃ p ys,xs=[.ref p]∧(SqL X.K H p ys∨SqT X.K H p ys)∧Q (.int ys.length) H):=by
  intro pins s σ H xs us Q I r h
  obtain ⟨p,ys,rfl,hq,q⟩:=h
  obtain ⟨u,rfl,rx⟩:=vals1 r
  cases rx
  have hn:=line63
  rcases hq with hq | hq
  · obtain ⟨its,r',pl,hz⟩:=I.list hq
    have hlen:=r'.length
    exact Calls.call_len_list pl.isList (by simp only [List.size_toArray] <;> omega) ⟨.int ys.length,H,I.tok _,⟨s.toks + 1,by rw [List.size_toArray,hlen]⟩,q⟩
  · obtain ⟨its,r',pl,hz⟩:=I.tuple hq
    have hlen:=r'.length
    exact len_tuple pl (by simp only [List.size_toArray] <;> omega) ⟨.int ys.length,H,I.tok _,⟨s.toks + 1,by rw [List.size_toArray,hlen]⟩,q⟩
theorem call_len_str:CallR X (.builtin "len") (fun xs H Q=>∃ z,xs=[.str z]∧z.length≤sizeLine∧Q (.int z.length) H):=by
  intro pins s σ H xs us Q I r h
  obtain ⟨z,rfl,hz,q⟩:=h
  obtain ⟨u,rfl,t,rfl⟩:=vals1 r
  have hn:=line63
  exact len_str (by omega) ⟨.int z.length,H,I.tok _,⟨_,rfl⟩,q⟩
theorem call_list_of:CallR X (.type "list") (fun xs H Q=>∃ p ys,xs=[.ref p]∧(SqL X.K H p ys∨SqT X.K H p ys)∧∀ l,H l=none→Q (.ref l) (upd H l (.lst ys))):=by
  intro pins s σ H xs us Q I r h
  obtain ⟨p,ys,rfl,hq,q⟩:=h
  obtain ⟨u,rfl,rx⟩:=vals1 r
  cases rx
  have fin:∀ (its:List Value),Vals ys its→ys.length≤sizeLine→∀ (h':Heap) (c':Nat),(∀ b o',s.heap.get? b=some o'→h'.get? b=some o') →
      h'.get? s.heap.objs.size=some { cls:=.type "list",dict:=none,data:=.seq its.toArray c',slots:=#[] }→EP X pins σ Q (.ref s.heap.objs.size) { s with heap:=h' }:=fun its r' hz h' c' kp e =>
    ⟨.ref s.heap.objs.size,_,I.laid (t':=s.toks) kp (Nat.le_refl _) (show ObjOk X.prog X.w _ h' _ (.lst ys) from ⟨hz,its,c',r',e⟩),rfl,q _ (I.hok.fresh (Nat.le_refl _))⟩
  rcases hq with hq | hq
  · obtain ⟨its,r',pl,hz⟩:=I.list hq
    have hlen:=r'.length
    obtain ⟨o,ho,hc,n,hd⟩:=pl.isList
    exact call_list_seq p (.inl rfl) ho hc hd (fun h' c' kp e=>fin its r' hz h' c' kp e) (by simp only [List.size_toArray] <;> omega)
  · obtain ⟨its,r',pl,hz⟩:=I.tuple hq
    have hlen:=r'.length
    obtain ⟨o,ho,hc,n,hd⟩:=pl
    exact call_list_seq p (.inr rfl) ho hc hd (fun h' c' kp e=>fin its r' hz h' c' kp e) (by simp only [List.size_toArray] <;> omega)
theorem call_tuple_of:CallR X (.type "tuple") (fun xs H Q=>∃ p ys,xs=[.ref p]∧((SqL X.K H p ys∧∀ l,H l=none→Q (.ref l) (upd H l (.tup ys)))∨(SqT X.K H p ys∧Q (.ref p) H))):=by
  intro pins s σ H xs us Q I r h
  obtain ⟨p,ys,rfl,h⟩:=h
  obtain ⟨u,rfl,rx⟩:=vals1 r
  cases rx
  rcases h with ⟨hq,q⟩ | ⟨hq,q⟩
  · obtain ⟨its,r',pl,hz⟩:=I.list hq
    have hlen:=r'.length
    refine call_tuple_list pl.isList (fun h' kp=>?_) (by simp only [List.size_toArray] <;> omega)
    have I1:Inv X pins σ H { s with heap:=h' }:=I.kept (t':=s.toks) kp
    have I2:Inv X pins σ (upd H h'.objs.size (.tup ys)) { s with heap:=h'.push { cls:=.type "tuple",data:=.seq its.toArray } } :=
      I1.laid (t':=s.toks) (fun b o e=>Heap.get?_push_of_some _ e) (Nat.le_refl _) (show ObjOk X.prog X.w _ _ _ (.tup ys) from ⟨hz,its,r',IsTup.new _ _⟩)
    exact ⟨.ref h'.objs.size,_,I2,rfl,q _ (I1.hok.fresh (Nat.le_refl _))⟩
  · obtain ⟨its,r',pl,hz⟩:=I.tuple hq
    exact call_tuple_same pl ⟨.ref p,H,I,rfl,q⟩
noncomputable def tyV (K:PySem.W.Frag) (T:String) (x:V) (H:Hp):Prop:=match x with
  | .str _=>T = "str"
  | .int _=>T = "int"
  | .ref p=>(T = "list" ∧ ∃ xs,SqL K H p xs)∨(T = "tuple" ∧ ∃ o,K.lookup p=some o∧o.cls = .type "tuple" ∧ o.dict=none) ∨
      (T = "dict" ∧ ((∃ kvs,H p=some (.dK kvs))∨∃ kvs,H p=some (.dT kvs)))∨(T = "set" ∧ ∃ S n,H p=some (.set S n))
  | _=>False
theorem tyV_is {pins:List (Addr×Obj)} {σ:St} {H:Hp} {s:Shared} {T:String} {x:V} {v:Value} (I:Inv X pins σ H s) (r:RelV x v) (ty:tyV X.K T x H) :
    s.TypeIs v T∧∀ a,v = .ref a→∃ ob,s.heap.get? a=some ob∧ob.dict=none:=by
  cases x with
  | str z =>
    obtain ⟨t,rfl⟩:=r
    cases (show T = "str" from ty)
    exact ⟨typeIs_str s z t,fun _ e=>nomatch e⟩
  | int i =>
    obtain ⟨t,rfl⟩:=r
    cases (show T = "int" from ty)
    exact ⟨typeIs_int s i t,fun _ e=>nomatch e⟩
  | ref p =>
    cases r
    rcases ty with ⟨rfl,xs,hq⟩ | ⟨rfl,o,hk,hc,hd⟩ | ⟨rfl,hk⟩ | ⟨rfl,S,n,hk⟩
    · obtain ⟨its,_,pl,_⟩:=I.list hq
      refine ⟨pl.isList.typeIs,fun a e=>?_⟩
      cases e
      obtain ⟨o,n,e,c,hd,_⟩:=pl
      exact ⟨o,e,hd⟩
    · refine ⟨⟨o,I.kIn p o hk,hc⟩,fun a e=>?_⟩
      cases e
      exact ⟨o,I.kIn _ o hk,hd⟩
    · have z:∃ o,s.heap.get? p=some o∧o.ExactDict:=by
        rcases hk with ⟨kvs,hk⟩ | ⟨kvs,hk⟩
        · obtain ⟨_,_,_,_,o,_,_,e,ex,_⟩:=I.hok p _ hk
          exact ⟨o,e,ex⟩
        · obtain ⟨_,_,_,_,o,_,_,e,ex,_⟩:=I.hok p _ hk
          exact ⟨o,e,ex⟩
      obtain ⟨o,e,ex⟩:=z
      refine ⟨⟨o,e,ex.1⟩,fun a e2=>?_⟩
      cases e2
      exact ⟨o,e,ex.2.1⟩
    · obtain ⟨o,_,_,_,e,ex,_⟩:=I.hok p _ hk
      refine ⟨⟨o,e,ex.1⟩,fun a e2=>?_⟩
      cases e2
      exact ⟨o,e,ex.2.1⟩
  | _=>exact False.elim ty
noncomputable def tBM (K:PySem.W.Frag) (T:String) (r:V→List V→Hp→VK→Prop) (to:TE) (t:TA):TE:=fun σ H Q=>to σ H fun x H1=>tyV K T x H1∧t σ H1 fun xs H2=>r x xs H2 Q
variable {o e:Expr} {es:List Expr} {to:TE} {t:TA} {name:Str} {apos cpos:Pos} {T id:String} {r:V→List V→Hp→VK→Prop}
theorem pe_bm (pa:PlainAttrs T) (slot:Slot T name id) (hty:typeOf (.builtin id)=pure (.type "method_descriptor")) (hm:MtR X id r) (ho:PE X o to) (ha:PA X (e :: es) t)
    (hbase:attributeBase o name X.env (eval o X.env)=eval o X.env:=by rfl)
    (hfew:((backTo cpos (starEach (e :: es) X.env)).all (fun x=>!x.1) && (backToKw cpos (keywordEach [] X.env)).all (fun x=>x.1.isSome)
      && decide ((e :: es).length + ([]:List Keyword).length + (if ([]:List Keyword).isEmpty then 0 else 1) < 30))=true:=by rfl)
    (hline:(apos.endLine == cpos.line)=true:=by rfl) (hs:starEach (e :: es) X.env=(false,eval e X.env) :: starEach es X.env:=by rfl) (hplain:(backTo cpos (starEach es X.env)).any (·.1)=false:=by rfl) :
    PE X (.Call (.Attribute o name apos) (e :: es) [] cpos) (tBM X.K T r to t):=by
  intro pins s σ H Q I h
  refine wpAny_Call_method_late hbase hfew hline rfl (thn (ho pins s σ H _ I h) fun v s1 ⟨x,H1,I1,r1,ty,q1⟩=>?_)
  obtain ⟨h1,h2⟩:=tyV_is I1 r1 ty
  refine ⟨T,id,pa,slot,hty,h1,h2,?_⟩
  have hA:=ha cpos pins s1 σ H1 _ I1 q1
  rw [hs] at hA ⊢
  refine Calls.callWith_builtin (by show (false || (backTo cpos (starEach es X.env)).any (·.1))=false;rw [hplain] <;> rfl) (Calls.evalArgs_plain ?_)
  exact thn hA fun us s2 ⟨vs,H2,I2,r2,q2⟩=>hm pins s2 σ H2 x vs v us Q I2 r1 r2 q2
end
end L2
namespace L2
open PySem PySem.Spec PyProof.Rows
noncomputable def MtM (X:Cx) (id:String) (r:V→List V→Hp→VK→Prop):Prop :=
  ∀ (pins:List (Addr×Obj)) (s:Shared) (σ:St) (H:Hp) (x:V) (xs:List V) (v:Value) (us:List Value) (Q:VK),Inv X pins σ H s→RelV x v→Vals xs us→r x xs H Q →
    wpAny (model X.prog X.w) X.A (call (.builtin id) (v :: us)) (EP X pins σ Q) X.xe s
theorem Vals.one:∀ {x:V} {us:List Value},Vals [x] us→∃ u,us=[u]∧RelV x u
  | _,_,.cons r .nil=>⟨_,rfl,r⟩
theorem Vals.zero:∀ {us:List Value},Vals [] us→us=[]
  | _,.nil=>rfl
theorem Vals.rep {xs:List V} {us:List Value} (h:Vals xs us):∀ k:Nat,Vals (List.replicate k xs).flatten (List.replicate k us).flatten
  | 0=>.nil
  | k + 1=>by
    rw [List.replicate_succ,List.replicate_succ,List.flatten_cons,List.flatten_cons]
    exact Vals.append h (Vals.rep h k)
theorem foldl_rep (its:List Value):∀ (k:Nat) (acc:List Value),
    List.foldl (fun x1 x2=>x1 ++ x2) acc.toArray (List.replicate k its.toArray)=(acc ++ (List.replicate k its).flatten).toArray
  | 0,acc=>by simp
  | k + 1,acc=>by
    have e:acc.toArray ++ its.toArray=(acc ++ its).toArray:=by simp
    have e2:(acc ++ its) ++ (List.replicate k its).flatten=acc ++ (List.replicate (k + 1) its).flatten:=by
      rw [List.replicate_succ,List.flatten_cons,List.append_assoc]
    rw [← e2,← foldl_rep its k (acc ++ its),← e,List.replicate_succ,List.foldl_cons]
section
variable {X:Cx} {pins:List (Addr×Obj)} {σ:St} {H:Hp} {s:Shared} {l b:Addr} {xs ys zs:List V}
theorem Inv.lset {its its':List Value} {n:Nat} {f:Array Value→Array Value} {t':Nat} (I:Inv X pins σ H s) (hH:H l=some (.lst xs))
    (e:s.heap.get? l=some { cls:=.type "list",data:=.seq its.toArray n }) (hf:f its.toArray=its'.toArray) (hv:Vals ys its') (hz:ys.length≤sizeLine) :
    Inv X pins σ (upd H l (.lst ys)) { s with heap:=s.heap.update l (Obj.mapSeq f),toks:=t' }:=by
  have q:=PySem.IsL.update e f
  rw [hf] at q
  refine I.write (x:=l) (e:=l) (by rw [hH];exact trivial) (.inl rfl) (fun b' u hb hu=>(Heap.get?_update_other s.heap (Obj.mapSeq f) (Ne.symm hb)).trans hu) ⟨_,q⟩ ?_
  exact ⟨hz,its',_,hv,q⟩
theorem Inv.lnew {its:List Value} {t':Nat} (I:Inv X pins σ H s) (hv:Vals ys its) (hz:ys.length≤sizeLine) :
    Inv X pins σ (upd H s.heap.objs.size (.lst ys)) { s with heap:=s.heap.push { cls:=.type "list",data:=.seq its.toArray },toks:=t' } :=
  I.laid (fun _ _ q=>Heap.get?_push_of_some _ q) (Nat.le_refl _) ⟨hz,its,0,hv,Heap.get?_push_size _ rfl⟩
theorem Inv.fresh (I:Inv X pins σ H s):H s.heap.objs.size=none:=I.hok.fresh (Nat.le_refl _)
theorem Inv.lstM (I:Inv X pins σ H s) (hH:H l=some (.lst xs)):xs.length≤sizeLine∧∃ (its:List Value) (n:Nat),Vals xs its∧xs.length=its.length∧s.heap.get? l=some { cls:=.type "list",data:=.seq its.toArray n }:=by
  obtain ⟨z,its,n,r,e⟩:=I.hok l _ hH
  exact ⟨z,its,n,r,r.length,e⟩
theorem notLongL {n:Nat} (h:n≤sizeLine):Builtin.List.listTooLong n=false:=by
  unfold Builtin.List.listTooLong
  exact decide_eq_false (by omega)
end
section
variable {X:Cx}
noncomputable def rAppend:V→List V→Hp→VK→Prop:=fun x vs H Q=>∃ l xs y,x = .ref l∧vs=[y]∧H l=some (.lst xs)∧xs.length < sizeLine∧Q .non (upd H l (.lst (xs ++ [y])))
theorem mt_append:MtM X "list.append" rAppend:=by
  intro pins s σ H x vs v us Q I rx rv h
  obtain ⟨l,xs,y,rfl,rfl,hH,hz,q⟩:=h
  cases rx
  obtain ⟨u,rfl,ru⟩:=rv.one
  obtain ⟨z,its,n,r,hl,e⟩:=I.lstM hH
  refine call_meets F.slot_list_append ⟨_,e,rfl⟩ F.entry_list_append (F.args_list_append_2 _ _) (PySem.list_append l its.toArray n u (by rw [List.size_toArray];omega)) ⟨e,?_⟩
  refine ⟨.non,_,I.lset (its':=its ++ [u]) hH e (by simp) (r.append (.cons ru .nil)) ?_,rfl,q⟩
  rw [List.length_append,List.length_singleton]
  omega
noncomputable def rCat:R2:=fun x y H Q=>∃ l b xs zs,x = .ref l∧y = .ref b∧H l=some (.lst xs)∧H b=some (.lst zs)∧xs.length + zs.length≤sizeLine∧∀ p,H p=none→Q (.ref p) (upd H p (.lst (xs ++ zs)))
theorem op_cat:OpR X (binaryOp .Add) rCat:=by
  intro pins s σ H x y v u Q I rx ry h
  obtain ⟨l,b,xs,zs,rfl,rfl,hH,hB,hz,q⟩:=h
  cases rx
  cases ry
  obtain ⟨z,its,n,r,hl,e⟩:=I.lstM hH
  obtain ⟨z2,its2,n2,r2,hl2,e2⟩:=I.lstM hB
  refine PySem.P.add_list e e2 ?_ (by rw [List.size_toArray,List.size_toArray];omega)
  have ea:its.toArray ++ its2.toArray=(its ++ its2).toArray:=by simp
  rw [ea]
  exact ⟨.ref _,_,I.lnew (t':=s.toks) (r.append r2) (by rw [List.length_append];omega),rfl,q _ I.fresh⟩
noncomputable def rRep:R2:=fun x y H Q=>∃ l k xs,x = .ref l∧y = .int k∧H l=some (.lst xs)∧-(2 ^ 63)≤k∧k < 2 ^ 63∧xs.length * k.toNat≤sizeLine ∧
  ∀ p,H p=none→Q (.ref p) (upd H p (.lst (List.replicate k.toNat xs).flatten))
theorem len_rep {α:Type} (xs:List α) (k:Nat):(List.replicate k xs).flatten.length=k * xs.length:=by
  induction k with
  | zero=>simp
  | succ k ih=>rw [List.replicate_succ,List.flatten_cons,List.length_append,ih,Nat.succ_mul,Nat.add_comm]
theorem op_rep:OpR X (binaryOp .Mult) rRep:=by
  intro pins s σ H x y v u Q I rx ry h
  obtain ⟨l,k,xs,rfl,rfl,hH,h1,h2,hz,q⟩:=h
  cases rx
  obtain ⟨t,rfl⟩:=ry
  obtain ⟨z,its,n,r,hl,e⟩:=I.lstM hH
  have hlen:its.toArray.size * k.toNat≤sizeLine:=by rw [List.size_toArray,← hl];exact hz
  have hcap:¬ its.toArray.size * k.toNat > (2 ^ 63 - 1) / 8:=by
    have:(sizeLine:Nat)≤(2 ^ 63 - 1) / 8:=by decide
    omega
  have hfit:¬ (!Builtin.List.listFitsIndex k)=true:=by
    rw [fitsIndex_both h1 h2]
    exact Bool.false_ne_true
  have hlong:¬ Builtin.List.listTooLong (its.toArray.size * k.toNat)=true:=by
    rw [notLongL hlen]
    exact Bool.false_ne_true
  have hnew:List.foldl (fun x1 x2=>x1 ++ x2) #[] (List.replicate (if its.toArray.isEmpty=true then 0 else k.toNat) its.toArray)=(List.replicate k.toNat its).flatten.toArray:=by
    have f0:∀ m:Nat,List.foldl (fun x1 x2=>x1 ++ x2) #[] (List.replicate m its.toArray)=(List.replicate m its).flatten.toArray:=fun m=>by
      have:=foldl_rep its m []
      rw [List.nil_append] at this
      exact this
    rw [f0]
    cases its with
    | nil=>simp
    | cons a r'=>rw [if_neg (by simp)]
  refine wpAny_binaryOp_repeat_ref (T:= "list") (U:= "int") (by decide) ⟨_,e,rfl⟩ (fun s'=>typeIs_int s' k t) noFill_list_mul F.fills_int_mul F.slot_int_rmul repeat_list F.slot_int_index.lookup
    (call_meets F.slot_int_rmul (typeIs_int s k t) F.entry_int_rmul (F.args_int_rmul_2 _ _) (int___rmul___int_list k t l its.toArray n)
      ⟨e,rfl,⟨_,e,rfl⟩,call_meets F.slot_list_mul ⟨_,e,rfl⟩ F.entry_list_mul (F.args_list_mul_2 _ _) (AutoListH.list___mul___list_int_3 l its.toArray n k t hfit hcap hlong) ⟨e,?_⟩⟩)
  rw [hnew]
  exact ⟨.ref _,_,I.lnew (t':=s.toks) (r.rep k.toNat) (by rw [len_rep,Nat.mul_comm];exact hz),rfl,q _ I.fresh⟩
end
end L2
namespace Att
open PySem PySem.W PySem.Calls PyProof.Rows
theorem ints_of_wellAll {P:Params} {h:Heap}:∀ (ns:List Int) (vs:List Value),WellAll P h vs (ns.map WData.int)→IntsAre vs ns:=by
  intro ns
  induction ns with
  | nil =>
    intro vs w
    rw [List.map_nil] at w
    cases w
    exact .nil
  | cons n ns ih =>
    intro vs w
    rw [List.map_cons] at w
    cases w with
    | cons a b =>
      cases a
      exact .cons _ _ (ih _ b)
theorem script_of {l:OpenLaw} {n:Nat} (hn:l.most=some n) {P:Params} {h:Heap} {args:List WData} {vals:List Value}
    (hpre:l.row.toRowW.claim.pre args=true) (hwl:WellAll P h vals args) :
    ∃ a vs ns,vals=[Value.ref a]∧args=[WData.list (ns.map WData.int)]∧h.get? a=some { cls:=.type "list",data:=.seq vs.toArray }∧IntsAre vs ns∧ns.length≤n:=by
  have hsh:WShape.hasAll [] args [.list .int]=true:=(pre_splitW hpre).1
  have hc:l.pre.holds [] { args:=args }=true:=(pre_splitW hpre).2
  obtain ⟨d,r,rfl,h1,h2⟩:=hasAllW_cons hsh
  obtain rfl:=hasAllW_nil h2
  obtain ⟨xs,rfl,h3⟩:=hasW_list h1
  obtain ⟨ns,rfl⟩:=items_int h3
  have hlen:ns.length≤n:=by
    unfold OpenLaw.pre at hc
    have h4:(WTm.not (.lt (.lit (.int (n:Int))) (.len (.arg 0)))).holds [] { args:=[.list (ns.map .int)] }=true:=by
      have h4:=(holds_andW hc).1
      rw [hn] at h4
      exact h4
    have h5:=condW_of h4 (w_not (w_lt w_lit (w_len_list (w_arg rfl))))
    rw [List.length_map] at h5
    refine Nat.le_of_not_lt fun q=>?_
    have q':(n:Int) < ((ns.length:Nat):Int):=by omega
    first
      | (rw [decide_eq_true q'] at h5;exact absurd h5 (by decide))
      | (simp at h5;omega)
  cases hwl with
  | cons w1 w2 =>
    cases w2
    cases w1 with
    | list ho hall=>exact ⟨_,_,ns,rfl,rfl,ho,ints_of_wellAll ns _ hall,hlen⟩
theorem post_true (l:OpenLaw) (args:List WData):l.row.toRowW.claim.post args (.bool true) args=true :=
  postW_of (r:=l.row.toRowW) (X:=(true == true))
    (show WShape.has [] (.bool true) .bool=true by first | rfl | decide | simp [WShape.has,WShape.arms,WShape.armsAll])
    (show (WTm.eq .res (.lit (.bool true))).value [] { args:=args,res:=some (.bool true),after:=args }=some (.bool (true == true)) from w_eq_bool (w_res rfl) w_lit) rfl
theorem attach_call {l:OpenLaw} {n:Nat} {q:Program} {loose:List Str} {XP:(Str→Option Value)→Heap→Prop} {YP:World→Heap→Prop} {d:DefRec}
    (hn:l.most=some n) (hdf:d.params.defaults=[])
    (call:∀ (w:World) (s₀ s₁:Shared) (mg mb:Str→Option Value) (fa:Addr) (o:Obj) (pm cd doc:Value) (a:Addr) (vs:List Value) (ns:List Int),
      Ground q loose [] XP w s₀ mg mb s₁.heap→YP w s₁.heap →
      s₁.heap.get? fa=some o→o.data = .func (docDef d.name d.params d.body d.scope pm cd doc)→s₁.heap.CodeRec cd d.name→mg d.name=some (.ref fa) →
      s₁.heap.get? a=some { cls:=.type "list",data:=.seq vs.toArray }→IntsAre vs ns→ns.length≤n→s₁.gens=#[] →
      codeAny (model l.prog w) callerA (.call (.ref fa) ⟨[.ref a],[]⟩) (fun r s'=>r = .ok (.ret (.bool true))∧OldK s₁.heap s'.heap∧s'.os=s₁.os∧AllBare s'.gens) s₁) :
    WalkO q loose XP YP l.row.toRowW d [] (fun f vs=>PySem.call f vs):=by
  intro w s₀ s₁ mg mb G Y fa o pm cd doc dV kV ho hd hcd hD hmg hg args vals as hpre hlay hrd hwl hlo
  obtain rfl:dV = .none:=Dflts.none hD hdf
  obtain rfl:kV = .none:=Dflts.noKw hD
  obtain ⟨a,vs,ns,rfl,rfl,hobj,hints,hlen⟩:=script_of hn hpre hwl
  refine enter_call (codeAny_mono (call w s₀ s₁ mg mb fa o pm cd doc a vs ns G Y ho (fd_plain hd) hcd hmg hobj hints hlen hg) fun r s' hq=>?_)
  obtain ⟨rfl,h2,h3,h4⟩:=hq
  exact ⟨.inl ⟨.bool true,.bool true,[],rfl,fun _=>rfl,.bool true,post_true l _,fun _=>⟨List.Pairwise.nil,fun _ hm=>(nomatch hm)⟩⟩,h2,h3,h4⟩
end Att
namespace L2
open PySem PySem.Spec PyProof.Rows
theorem vals_ints:∀ {vs:List Value} {ns:List Int},IntsAre vs ns→Vals (ns.map V.int) vs
  | _,_,.nil=>.nil
  | _,_,.cons n t h=>.cons ⟨t,rfl⟩ (vals_ints h)
noncomputable def Only (H:Hp):Prop:=∀ b,H b=none∨∃ o xs,H b=some (.frz o (.lst xs))
theorem law_call {P:Program} {w:World} {K:PySem.W.Frag} {mg mb:Str→Option Value} {CX:CXT} {k:Nat} {fa a:Addr} {fd:FuncData} {x:Str} {sp:Sp} {s₁:Shared} {vs:List Value} {ns:List Int}
    (KX:K.In s₁.heap) (hns:s₁.heap.Ns mainGlobals mg) (hb:s₁.heap.Ns builtinsNs mb) (hbb:∀ x:Str,x ≠ "__name__" → mb x=bootBuiltins x) (hlim:s₁.heap.NoLimit) (hg:s₁.gens=#[])
    (ha:s₁.heap.get? a=some { cls:=.type "list",data:=.seq vs.toArray }) (hi:IntsAre vs ns) (hl:ns.length≤sizeLine) (hr:Room k callerA)
    (F:∀ base:Heap,K.In base→base.Ns mainGlobals mg→FnOk P w K mg base CX k fa fd [x] sp) (hbind:∀ (s:Shared) (u:Value),BindsTo s fd ⟨[u],[]⟩ [(x,u)])
    (hsp:∀ H:Hp,Only H→SqL K H a (ns.map V.int)→sp [.ref a] H (fun v _=>v = .bl true) fun _ _ _=>False)
    (hCX:∀ H e s',CX [] H s₁ (fun _ _ _=>False) e s'→False) :
    codeAny (model P w) callerA (.call (.ref fa) ⟨[.ref a],[]⟩) (fun r s'=>r = .ok (.ret (.bool true))∧OldK s₁.heap s'.heap∧s'.os=s₁.os∧AllBare s'.gens) s₁:=by
  have rv:=vals_ints hi
  have lenV:=hi.length
  -- from an abstract heap in which nothing but the script may be tracked
  have core : ∀ H:Hp,Only H→SqL K H a (ns.map V.int)→HOk P w H s₁.heap→(∀ b,H b≠none→b=a)→(H a≠none→K.lookup a=none) →
      codeAny (model P w) callerA (.call (.ref fa) ⟨[.ref a],[]⟩) (fun r s'=>r = .ok (.ret (.bool true))∧OldK s₁.heap s'.heap∧s'.os=s₁.os∧AllBare s'.gens) s₁:=by
    intro H hO hS hok hA hK
    have base_of:∀ {b:Addr} {o:Obj},s₁.heap.get? b=some o→H b=none→(hidT s₁.heap H).get? b=some o:=fun e n=>hidT_get e n
    have noA:∀ {b:Addr} {o:Obj} {es:Array DictEntry} {ep:Nat},s₁.heap.get? b=some o→o.data = .dict es ep→H b=none:=fun {b o es ep} e d=>by
      cases q:H b with
      | none=>rfl
      | some u =>
        have e':b=a:=hA b (by rw [q];simp)
        subst e'
        rw [ha] at e;cases e
        have d':Data.seq vs.toArray _=Data.dict es ep:=d
        cases d'
    have nsK:∀ {b:Addr} {m:Str→Option Value},s₁.heap.Ns b m→(hidT s₁.heap H).Ns b m:=fun {b m} ⟨o,es,ep,e,d,r⟩=>⟨o,es,ep,base_of e (noA e d),d,r⟩
    have hKb:K.In (hidT s₁.heap H):=fun b o e=>base_of (KX b o e) (by
      cases q:H b with
      | none=>rfl
      | some u =>
        have e':b=a:=hA b (by rw [q];simp)
        subst e'
        rw [hK (by rw [q];simp)] at e;cases e)
    have hM:Mod K mg (hidT s₁.heap H):=⟨hKb,nsK hns,⟨mb,nsK hb,hbb⟩,let ⟨mc,h1,h2⟩:=hlim;⟨mc,nsK h1,h2⟩⟩
    have e0:Env0 P w K mg (hidT s₁.heap H) callerA [] s₁ H:=⟨rfl,hM,fun b o e=>of_hidT e,Nat.le_of_eq (hidT_size _ _),trivial,fun b hb=>absurd (show b ∈ ([]:List Addr) from hb) (by simp),hok,.of_eq hg⟩
    refine codeAny_mono ((F _ hKb (nsK hns)).run callerA [] s₁ H ⟨[.ref a],[]⟩ [.ref a] [.ref a] _ _ hr e0 (hbind s₁ (.ref a)) (.cons rfl .nil) (hsp H hO hS)) fun r s' h=>?_
    cases r with
    | error e=>exact (hCX H e s' h).elim
    | ok fl =>
      cases fl with
      | next=>exact False.elim h
      | brk=>exact False.elim h
      | cont=>exact False.elim h
      | ret u =>
        obtain ⟨v,H',os,bare,un,hok',r',q⟩:=h
        have q':v = .bl true:=q
        subst q'
        obtain rfl:u=Value.bool true:=r'
        refine ⟨rfl,OldK.of_keep fun b o e=>?_,os,bare⟩
        cases q:H b with
        | none=>exact un.keep b o e q (by intro z;exact absurd (show b ∈ ([]:List Addr) from z) (by simp)) (by simp)
        | some u =>
          rcases hO b with z | ⟨ob,xs,z⟩
          · rw [q] at z;cases z
          · have z2:=un.frzs b ob _ z
            obtain ⟨e1,_⟩:=hok b _ z
            obtain ⟨e2,_⟩:=hok' b _ z2
            rw [e] at e1;cases e1
            exact e2
  cases hk:K.lookup a with
  | some o =>
    -- the script is one of the module's own objects
    have e:=KX a o hk
    rw [ha] at e
    cases e
    refine core (fun _=>none) (fun _=>.inl rfl) (.inr ⟨_,vs.toArray,_,hk,rfl,rfl,rfl,by rw [List.size_toArray,lenV];exact hl,by simpa using rv⟩) (fun b u z=>by have z':(none:Option HO)=some u:=z;cases z') (fun b z=>absurd rfl z) fun z=>absurd rfl z
  | none =>
    refine core (fun b=>if b=a then some (.frz { cls:=.type "list",data:=.seq vs.toArray } (.lst (ns.map V.int))) else none) (fun b=>?_) (.inl (.inr ⟨{ cls:=.type "list",data:=.seq vs.toArray },if_pos rfl⟩)) (fun b u z=>?_) (fun b z=>?_) fun _=>hk
    · by_cases hb:b=a
      · exact .inr ⟨_,_,if_pos hb⟩
      · exact .inl (if_neg hb)
    · by_cases hb:b=a
      · have z':=(if_pos hb).symm.trans z
        cases z'
        subst hb
        exact ⟨ha,by rw [List.length_map];exact hl,vs,_,rv,ha⟩
      · have z':=(if_neg hb).symm.trans z
        cases z'
    · by_cases hb:b=a
      · exact hb
      · exact absurd (if_neg hb) z
end L2
namespace L2
open PySem PySem.Spec PyProof.Rows
theorem walk_of {l:PySem.W.OpenLaw} {n k:Nat} {q:Program} {loose:List Str} {XP:(Str→Option Value)→Heap→Prop} {YP:World→Heap→Prop} {d:DefRec} {K:Params→PySem.W.Frag} {CX:World→CXT} {sp:World→Sp} {x:Str}
    (hn:l.most=some n) (hn2:n≤sizeLine) (hdf:d.params.defaults=[]) (hr:Room k callerA)
    (hY:∀ (w:World) (h:Heap),YP w h→(K w.params).In h)
    (F:∀ (w:World) (mg:Str→Option Value) (fa:Addr) (h:Heap),(K w.params).In h→h.Ns mainGlobals mg→mg d.name=some (.ref fa) →
      ∃ fd:FuncData,(∀ (s:Shared) (u:Value),BindsTo s fd ⟨[u],[]⟩ [(x,u)]) ∧
        ∀ base:Heap,(K w.params).In base→base.Ns mainGlobals mg→FnOk l.prog w (K w.params) mg base (CX w) k fa fd [x] (sp w))
    (hsp:∀ (w:World) (H:Hp) (a:Addr) (ns:List Int),ns.length≤n→Only H→SqL (K w.params) H a (ns.map V.int)→sp w [.ref a] H (fun v _=>v = .bl true) fun _ _ _=>False)
    (hCX:∀ (w:World) (H:Hp) (s:Shared) (e:Value) (s':Shared),CX w [] H s (fun _ _ _=>False) e s'→False) :
    PySem.W.WalkO q loose XP YP l.row.toRowW d [] (fun f vs=>PySem.call f vs):=by
  refine Att.attach_call hn hdf fun w s₀ s₁ mg mb fa o pm cd doc a vs ns G Y ho hd hcd hmg hobj hints hlen hg=>?_
  have KX:=hY w _ Y
  obtain ⟨fd,hb,hF⟩:=F w mg fa _ KX G.T.g hmg
  exact law_call KX G.T.g G.T.b G.T.builtins G.T.nolimit hg hobj hints (Nat.le_trans hlen hn2) hr hF hb (fun H hO hS=>hsp w H a ns hlen hO hS) fun H e s'=>hCX w H s₁ e s'
end L2
namespace L2
open PySem PySem.Spec PyProof.Rows
noncomputable def inClass (s:Stmt) (j:Nat):Stmt:=match s with
  | .ClassDef _ _ _ body _ _ _ _ _ _ _=>body.getD j (.Pass ⟨0,0,0,0⟩)
  | _=>.Pass ⟨0,0,0,0⟩
noncomputable def defArgs (s:Stmt):Arguments:=match s with
  | .FunctionDef _ a _ _ _ _ _ _ _ _=>a
  | _=>{ posonlyargs:=[],args:=[],vararg:=none,kwonlyargs:=[],kw_defaults:=[],kwarg:=none,defaults:=[] }
noncomputable def defBody (s:Stmt):List Stmt:=match s with
  | .FunctionDef _ _ b _ _ _ _ _ _ _=>b
  | _=>[]
noncomputable def defScope (s:Stmt):Scope:=match s with
  | .FunctionDef _ _ _ _ _ _ sc _ _ _=>sc
  | _=>{ kind:=.function,names:=[],isGenerator:=false,isCoroutine:=false }
noncomputable abbrev CX0:CXT:=fun _ _ _ _ _ _=>False
noncomputable abbrev E0:XK:=fun _ _ _=>False
theorem pass0 {X:Cx}:Passes CX0 X E0:=fun _ _ _ _ _ _ _ h=>h.elim
structure Fun (K:PySem.W.Frag) (x qual:Str) (st:Stmt) (f:Addr) (fd:FuncData):Prop where
  ex:∃ (oc:Value) (od:Option Addr) (kV doc pm:Value) (an:Option Addr) (cdv ct:Value) (osl:Array (Option Value)),
    fd=PySem.W.fnOf x qual (defArgs st) (defBody st) (defScope st) .none kV doc pm an cdv ct∧K.lookup f=some ⟨oc,od,.func fd,osl⟩∧PySem.W.codeIn K cdv qual=true
  kp:PySem.W.keepIn K (.ref f)=true
section
variable {P:Program} {w:World} {K:PySem.W.Frag} {mg:Str→Option Value} {base:Heap}
theorem Fun.ok {x qual:Str} {st:Stmt} {f:Addr} {fd:FuncData} {N ps:List Str} {k:Nat} {sp:Sp} (F:Fun K x qual st f fd) (S:FnScope N ps (defScope st)) (len:∀ vs H Q E,sp vs H Q E→vs.length=ps.length)
    (hbody:∀ (cdv:Value) (A:Around) (outer:List Env) (s:Shared) (H:Hp) (vs:List V) (Q:VK) (E:XK),Room k (A.deeper (envOfC qual (defScope st) s.heap.objs.size f cdv))→sp vs H Q E →
      ∃ t,PSs (cxOf CX0 P w K mg base N qual (defScope st) f cdv A outer s H E).nox (defBody st) t∧t { nx:=fun _ H'=>Q .non H',rt:=Q } (start N vs) H):FnOk P w K mg base CX0 (k + 1) f fd ps sp:=by
  obtain ⟨oc,od,kV,doc,pm,an,cdv,ct,osl,rfl,lk,hcd⟩:=F.ex
  refine fn_of lk hcd S len fun A outer s H vs Q E hr hsp=>?_
  obtain ⟨t,h,q⟩:=hbody cdv A outer s H vs Q E hr hsp
  exact ⟨t,h.nox,q⟩
theorem Fun.binds {x qual:Str} {st:Stmt} {f:Addr} {fd:FuncData} {ps:List Str} (F:Fun K x qual st f fd)
    (h:∀ (kV doc pm:Value) (an:Option Addr) (cdv ct:Value) (us:List Value),us.length=ps.length→bindArgs (PySem.W.fnOf x qual (defArgs st) (defBody st) (defScope st) .none kV doc pm an cdv ct) ⟨us,[]⟩=pure (ps.zip us)):Binds K fd ps []:=by
  obtain ⟨oc,od,kV,doc,pm,an,cdv,ct,osl,rfl,lk,hcd⟩:=F.ex
  exact .all (h kV doc pm an cdv ct)
theorem fun_mk {x qual:Str} {st:Stmt} {f:Addr} {oc:Value} {od an:Option Addr} {osl:Array (Option Value)} {kV doc pm cdv ct:Value} (l:K.lookup f=some ⟨oc,od,.func (PySem.W.fnOf x qual (defArgs st) (defBody st) (defScope st) .none kV doc pm an cdv ct),osl⟩)
    (c:PySem.W.codeIn K cdv qual=true) (k:PySem.W.keepIn K (.ref f)=true):Fun K x qual st f (PySem.W.fnOf x qual (defArgs st) (defBody st) (defScope st) .none kV doc pm an cdv ct):=⟨⟨oc,od,kV,doc,pm,an,cdv,ct,osl,rfl,l,c⟩,k⟩
end
theorem iteF {A B:Prop} (h:B):if false=true then A else B:=by
  rw [if_neg Bool.false_ne_true]
  exact h
theorem iteT {A B:Prop} (h:A):if true=true then A else B:=by
  rw [if_pos rfl]
  exact h
noncomputable def Same (H H':Hp):Prop:=∀ b o,H b=some o→H' b=some o
theorem Same.free {H H':Hp} (e:Same H H') {l:Addr} (h:H' l=Option.none):H l=Option.none:=by
  cases q:H l with
  | none=>rfl
  | some o =>
    rw [e l o q] at h
    cases h
end L2
namespace L2
open PySem PySem.Spec PyProof.Rows
section
variable {κ:Type} [DecidableEq κ]
noncomputable def valV (kvs:List (κ×V)) (k:κ):Option V:=(kvs.find? fun kv=>decide (kv.1=k)).map (·.2)
noncomputable def putK (kvs:List (κ×V)) (k:κ) (v:V):List (κ×V) :=
  if (kvs.any fun kv=>decide (kv.1=k))=true then kvs.map (fun kv=>if kv.1=k then (kv.1,v) else kv) else kvs ++ [(k,v)]
theorem valV_pos {p:κ×V} {r:List (κ×V)} {k:κ} (e:p.1=k):valV (p :: r) k=some p.2:=by simp [valV,List.find?_cons,e]
theorem valV_neg {p:κ×V} {r:List (κ×V)} {k:κ} (e:¬ p.1=k):valV (p :: r) k=valV r k:=by simp [valV,List.find?_cons,e]
theorem valV_any (k:κ):∀ kvs:List (κ×V),(kvs.any fun kv=>decide (kv.1=k))=(valV kvs k).isSome
  | []=>rfl
  | p :: r=>by
    rw [List.any_cons]
    by_cases e:p.1=k
    · simp only [valV_pos e,decide_eq_true e,Bool.true_or,Option.isSome_some]
    · rw [valV_neg e,decide_eq_false e,Bool.false_or];exact valV_any k r
theorem length_putK (kvs:List (κ×V)) (k:κ) (v:V):(putK kvs k v).length≤kvs.length + 1:=by
  unfold putK
  split
  · rw [List.length_map];omega
  · rw [List.length_append,List.length_cons,List.length_nil];omega
theorem RelO.isSome_eq {o:Option V} {u:Option Value} (r:RelO o u):o.isSome=u.isSome:=by
  cases o with
  | none=>cases u with
    | none=>rfl
    | some _=>exact (show False from r).elim
  | some _=>cases u with
    | none=>exact (show False from r).elim
    | some _=>rfl
theorem RelO.getD {o:Option V} {u:Option Value} {d:V} {d':Value} (r:RelO o u) (rd:RelV d d'):RelV (o.getD d) (u.getD d'):=by
  cases o with
  | none=>cases u with
    | none=>exact rd
    | some _=>exact (show False from r).elim
  | some _=>cases u with
    | none=>exact (show False from r).elim
    | some _=>exact r
theorem KV.val {kvs:List (κ×V)} {vs:List (κ×Value)} (r:KV kvs vs) (k:κ):RelO (valV kvs k) (valueAt vs k):=by
  unfold KV at r
  induction r with
  | nil=>exact True.intro
  | @cons p q ps qs h t ih =>
    obtain ⟨h1,h2⟩:=h
    by_cases e:p.1=k
    · have e':q.1=k:=h1.symm.trans e
      have b:valueAt (q :: qs) k=some q.2:=by simp [valueAt,List.find?_cons,e']
      rw [valV_pos e,b];exact h2
    · have e':¬ q.1=k:=fun z=>e (h1.trans z)
      have b:valueAt (q :: qs) k=valueAt qs k:=by simp [valueAt,List.find?_cons,e']
      rw [valV_neg e,b];exact ih
theorem KV.any {kvs:List (κ×V)} {vs:List (κ×Value)} (r:KV kvs vs) (k:κ):(kvs.any fun kv=>decide (kv.1=k))=vs.any fun kv=>decide (kv.1=k):=by
  unfold KV at r
  induction r with
  | nil=>rfl
  | cons h t ih=>rw [List.any_cons,List.any_cons,ih,h.1]
theorem KV.repl {kvs:List (κ×V)} {vs:List (κ×Value)} (r:KV kvs vs) (k:κ) {y:V} {u:Value} (ry:RelV y u) :
    KV (kvs.map fun kv=>if kv.1=k then (kv.1,y) else kv) (vs.map fun kv=>if kv.1=k then (kv.1,u) else kv):=by
  unfold KV at r ⊢
  induction r with
  | nil=>exact .nil
  | @cons p q ps qs h t ih =>
    rw [List.map_cons,List.map_cons]
    refine .cons ?_ ih
    obtain ⟨h1,h2⟩:=h
    by_cases e:p.1=k
    · rw [if_pos e,if_pos (h1.symm.trans e)];exact ⟨h1,ry⟩
    · rw [if_neg e,if_neg (fun z=>e (h1.trans z))];exact ⟨h1,h2⟩
theorem KV.put {kvs:List (κ×V)} {vs:List (κ×Value)} (r:KV kvs vs) (k:κ) {y:V} {u:Value} (ry:RelV y u):KV (putK kvs k y) (stored vs k u):=by
  unfold putK stored
  rw [r.any k]
  by_cases e:(vs.any fun kv=>decide (kv.1=k))=true
  · rw [if_pos e,if_pos e];exact r.repl k ry
  · rw [if_neg e,if_neg e];exact Paired.snoc r ⟨rfl,ry⟩
theorem KV.length {kvs:List (κ×V)} {vs:List (κ×Value)} (r:KV kvs vs):kvs.length=vs.length:=Paired.length r
end
theorem kV_is {P:Program} {w:World} {k:Key} {u:Value} (r:RelV (kV k) u):(mixKind P w).is k u=true:=by
  cases k with
  | inl i=>obtain ⟨t,e⟩:=(show ∃ t,u=Value.int i t from r);subst e;exact mixKind_int P w i t
  | inr x=>obtain ⟨t,e⟩:=(show ∃ t,u=Value.str x t from r);subst e;exact mixKind_str P w x t
theorem items_are {P:Program} {w:World}:∀ {ks:List Key} {us:List Value},Vals (ks.map kV) us→ItemsAre (mixKind P w) ks us
  | [],_,r=>by rw [List.map_nil] at r;cases r;exact .nil
  | k :: ks,_,r=>by
    rw [List.map_cons] at r
    cases r with
    | cons h t=>exact .cons (kV_is h) (items_are t)
noncomputable abbrev KT (H:Hp):List (List Key×V)→List (List Key×Addr×Value)→Prop:=Paired fun p q=>p.1=q.1∧H q.2.1=some (.tup (p.1.map kV))∧RelV p.2 q.2.2
theorem KT.val {H:Hp} {kvs:List (List Key×V)} {xs:List (List Key×Addr×Value)} (r:KT H kvs xs) (k:List Key):RelO (valV kvs k) ((atKey xs k).map (·.2)):=by
  induction r with
  | nil=>exact True.intro
  | @cons p q ps qs h t ih =>
    obtain ⟨h1,_,h2⟩:=h
    by_cases e:p.1=k
    · have e':q.1=k:=h1.symm.trans e
      have b:atKey (q :: qs) k=some q.2:=by simp [atKey,List.find?_cons,e']
      rw [valV_pos e,b];exact h2
    · have e':¬ q.1=k:=fun z=>e (h1.trans z)
      have b:atKey (q :: qs) k=atKey qs k:=by simp [atKey,List.find?_cons,e']
      rw [valV_neg e,b];exact ih
theorem KT.repl {H:Hp} {kvs:List (List Key×V)} {xs:List (List Key×Addr×Value)} (r:KT H kvs xs) (k:List Key) {y:V} {u:Value} (ry:RelV y u) :
    KT H (kvs.map fun kv=>if kv.1=k then (kv.1,y) else kv) (xs.map (putAt k u)):=by
  induction r with
  | nil=>exact .nil
  | @cons p q ps qs h t ih =>
    rw [List.map_cons,List.map_cons]
    refine .cons ?_ ih
    obtain ⟨h1,h2,h3⟩:=h
    unfold putAt
    by_cases e:p.1=k
    · rw [if_pos e,if_pos (h1.symm.trans e)];exact ⟨h1,h2,ry⟩
    · rw [if_neg e,if_neg (fun z=>e (h1.trans z))];exact ⟨h1,h2,h3⟩
theorem KT.put {H:Hp} {kvs:List (List Key×V)} {xs:List (List Key×Addr×Value)} (r:KT H kvs xs) (k:List Key) {b:Addr} {y:V} {u:Value} (hb:H b=some (.tup (k.map kV))) (ry:RelV y u) :
    KT H (putK kvs k y) (storedH xs k b u):=by
  have e:(kvs.any fun kv=>decide (kv.1=k))=(atKey xs k).isSome:=by
    rw [valV_any,(r.val k).isSome_eq,Option.isSome_map]
  unfold putK storedH
  rw [e]
  by_cases q:(atKey xs k).isSome=true
  · rw [if_pos q,if_pos q];exact r.repl k ry
  · rw [if_neg q,if_neg q];exact Paired.snoc r ⟨rfl,hb,ry⟩
theorem KT.keeps {H H':Hp} {kvs:List (List Key×V)} {xs:List (List Key×Addr×Value)} (r:KT H kvs xs) (ht:∀ b ys,H b=some (.tup ys)→H' b=some (.tup ys)):KT H' kvs xs :=
  Paired.mapP r fun _ _ z=>⟨z.1,ht _ _ z.2.1,z.2.2⟩
section
variable {P:Program} {w:World} {H:Hp} {h:Heap} {a:Addr}
theorem rd_of {u:HO} (ok:HOk P w H h) (e:Rd H a u):ObjOk P w H h a u:=e.ok ok
theorem dk_rd {kvs:List (Key×V)} (ok:HOk P w H h) (e:Rd H a (.dK kvs)):kvs.length≤sizeLine∧(a == sysModules)=false∧∃ vs,KV kvs vs∧h.DictOf (mixKind P w) a vs :=
  show ObjOk P w H h a (.dK kvs) from rd_of ok e
theorem dk_of {kvs:List (Key×V)} (ok:HOk P w H h) (e:H a=some (.dK kvs)):kvs.length≤sizeLine∧(a == sysModules)=false∧∃ vs,KV kvs vs∧h.DictOf (mixKind P w) a vs:=dk_rd ok (.inl e)
theorem key_of {ks:List Key} (ok:HOk P w H h) (e:H a=some (.tup (ks.map kV))):(tupleKind (mixKind P w)).is h ks a:=by
  obtain ⟨_,its,r,o,h1,h2,n,h3⟩:=(show ObjOk P w H h a (.tup (ks.map kV)) from ok a _ e)
  exact ⟨o,its.toArray,n,h1,h2,h3,by simpa using items_are r⟩
theorem dt_rd {kvs:List (List Key×V)} (ok:HOk P w H h) (e:Rd H a (.dT kvs)):kvs.length≤sizeLine∧(a == sysModules)=false ∧
    ∃ xs,KT H kvs xs∧h.DictOfH (tupleKind (mixKind P w)) a xs:=by
  obtain ⟨z,y,xs,r,o,es,ep,h1,h2,h3,h4,h5⟩:=(show ObjOk P w H h a (.dT kvs) from rd_of ok e)
  refine ⟨z,y,xs,r,o,es,ep,h1,h2,h3,h4,fun x hx=>?_,h5⟩
  have all:∀ {l:List (List Key×V)} {m:List (List Key×Addr×Value)},KT H l m→∀ x ∈ m,(tupleKind (mixKind P w)).is h x.1 x.2.1:=by
    intro l m q
    induction q with
    | nil=>intro x hx;exact nomatch hx
    | @cons p q ps qs hq t ih =>
      intro x hx
      rcases List.mem_cons.mp hx with e | hx
      · subst e
        exact key_of ok (by rw [← hq.1];exact hq.2.1)
      · exact ih x hx
  exact all r x hx
theorem dt_of {kvs:List (List Key×V)} (ok:HOk P w H h) (e:H a=some (.dT kvs)):kvs.length≤sizeLine∧(a == sysModules)=false ∧
    ∃ xs,KT H kvs xs∧h.DictOfH (tupleKind (mixKind P w)) a xs:=dt_rd ok (.inl e)
end
noncomputable def DGet (H:Hp) (a:Addr) (y:V) (r:Option V):Prop :=
  (∃ kvs k,Rd H a (.dK kvs)∧y=kV k∧r=valV kvs k)∨∃ kvs k b,Rd H a (.dT kvs)∧y = .ref b∧H b=some (.tup (k.map kV))∧r=valV kvs k
noncomputable def DPut (H:Hp) (a:Addr) (y v:V) (H':Hp):Prop :=
  (∃ kvs k,H a=some (.dK kvs)∧y=kV k∧kvs.length < sizeLine∧H'=upd H a (.dK (putK kvs k v))) ∨
  ∃ kvs k b,H a=some (.dT kvs)∧y = .ref b∧H b=some (.tup (k.map kV))∧kvs.length < sizeLine∧H'=upd H a (.dT (putK kvs k v))
theorem DGet.k {H:Hp} {a:Addr} {kvs:List (Key×V)} {k:Key} (e:H a=some (.dK kvs)):DGet H a (kV k) (valV kvs k):=.inl ⟨kvs,k,.inl e,rfl,rfl⟩
theorem DGet.t {H:Hp} {a b:Addr} {kvs:List (List Key×V)} {k:List Key} (e:H a=some (.dT kvs)) (eb:H b=some (.tup (k.map kV))):DGet H a (.ref b) (valV kvs k):=.inr ⟨kvs,k,b,.inl e,rfl,eb,rfl⟩
theorem DPut.k {H:Hp} {a:Addr} {kvs:List (Key×V)} {k:Key} {v:V} (e:H a=some (.dK kvs)) (hl:kvs.length < sizeLine):DPut H a (kV k) v (upd H a (.dK (putK kvs k v))):=.inl ⟨kvs,k,e,rfl,hl,rfl⟩
theorem DPut.t {H:Hp} {a b:Addr} {kvs:List (List Key×V)} {k:List Key} {v:V} (e:H a=some (.dT kvs)) (eb:H b=some (.tup (k.map kV))) (hl:kvs.length < sizeLine) :
    DPut H a (.ref b) v (upd H a (.dT (putK kvs k v))):=.inr ⟨kvs,k,b,e,rfl,eb,hl,rfl⟩
section
variable {X:Cx} {pins:List (Addr×Obj)} {σ:St} {H:Hp} {s:Shared} {a:Addr} {y v:V} {u r:Value} {o:Option V} {A:Around} {E:Value→Shared→Prop}
theorem Inv.big (I:Inv X pins σ H s):sysModules < s.heap.objs.size:=by
  have h:mainGlobals < s.heap.objs.size:=(I.mod.glob.keeps I.bk).lt
  exact Nat.lt_trans (by decide) h
theorem d_write {h':Heap} {t':Nat} {ob:HO} (I:Inv X pins σ H s) (mu:Mut (H a)) (hs:Heap.SameBut a s.heap h') (he:∃ q,h'.get? a=some q) (new:ObjOk X.prog X.w (upd H a ob) h' a ob) :
    Inv X pins σ (upd H a ob) { s with heap:=h',toks:=t' } :=
  I.write (x:=a) (e:=a) mu (.inl rfl) (fun b q hb z=>(hs.2 b hb).trans z) he new
theorem dk_new {P:Program} {w:World} {H':Hp} {h':Heap} {kvs:List (Key×V)} {vs:List (Key×Value)} (z:kvs.length≤sizeLine) (hd:(a == sysModules)=false) (rel:KV kvs vs) (dd:h'.DictOf (mixKind P w) a vs) :
    ObjOk P w H' h' a (.dK kvs):=⟨z,hd,vs,rel,dd⟩
theorem d_setItem {H':Hp} {Q:Unit→Shared→Prop} (hu:A.units + 1 < cLine) (I:Inv X pins σ H s) (g:DPut H a y v H') (ry:RelV y u) (rv:RelV v r) (h:∀ s',Inv X pins σ H' s'→Q () s') :
    wpAny (model X.prog X.w) A (setItem (.ref a) u r) Q E s:=by
  rcases g with ⟨kvs,k,e,ey,l,eH⟩ | ⟨kvs,k,b,e,ey,eb,l,eH⟩
  · subst ey eH
    obtain ⟨z,hd,vs,rel,dd⟩:=dk_of I.hok e
    have hz:vs.length≤sizeLine:=by rw [← rel.length];exact z
    have hl:(putK kvs k v).length≤sizeLine:=by have:=length_putK kvs k v;omega
    refine wpAny_setItem_pairs (hsz:=hz) (kV_is ry) dd fun h' dd' hs=>h _ ?_
    have he:∃ q,h'.get? a=some q:=let ⟨q,_,_,hq,_⟩:=dd';⟨q,hq⟩
    exact d_write I (by rw [e];exact True.intro) hs he (dk_new hl hd (rel.put k rv) dd')
  · subst ey eH
    cases (show u=Value.ref b from ry)
    obtain ⟨z,hd,xs,rel,dd⟩:=dt_of I.hok e
    have hz:xs.length≤sizeLine:=by rw [← Paired.length rel];exact z
    have hl:(putK kvs k v).length≤sizeLine:=by have:=length_putK kvs k v;omega
    refine wpAny_setItem_heap (hsz:=hz) (tupleKind_room_in1 hu) (key_of I.hok eb) dd fun h' dd' hs=>h _ ?_
    obtain ⟨q,es,ep,hq,h2,h3,h4,_,h5⟩:=dd'
    refine d_write I (by rw [e];exact True.intro) hs ⟨q,hq⟩ ⟨hl,hd,_,(rel.put k eb rv).keeps fun c ys ec=>?_,q,es,ep,hq,h2,h3,h4,h5⟩
    rw [upd_ne (ne_of ec e (fun z=>nomatch z))]
    exact ec
end
noncomputable def NoSl (i:Expr):Prop:=∀ ov iv,subscripted i false ov iv=operate [ov,iv] (getItem ov iv)
theorem subD_of {prog:Program} {w:World} {A:Around} {E:Value→Shared→Prop} {s:Shared} {env:Env} {value slice:Expr} {pos:Pos} {T id:String} {Q:Value→Shared→Prop}
    (hl:typeLookup (.type T) "__getitem__" = pure (some (.builtin id))) (hs:NoSl slice)
    (h:wpAny (model prog w) A (eval value env) (fun o s₁=>wpAny (model prog w) A (eval slice env) (fun i s₂=>s₂.TypeIs o T∧wpAny (model prog w) A (getItem o i) Q E s₂) E s₁) E s) :
    wpAny (model prog w) A (eval (.Subscript value slice pos) env) Q E s:=by
  refine Subscript_ (wpAny_mono h (fun o s₁ h₁=>wpAny_mono h₁ (fun i s₂ h₂=>?_) fun _ _ x=>x) fun _ _ x=>x)
  obtain ⟨hT,h₂⟩:=h₂
  unfold subscriptTail
  refine wpAny_bind ?_
  rw [getitemInPython_of_ne hT.not_modules]
  refine wpAny_bind (wpAny_specialOf hT hl ?_)
  have fin:wpAny (model prog w) A (subscripted slice false o i) (fun r s₃=>wpAny (model prog w) A (letTemporaryGo value o r >>= fun _=>pure r) Q E s₃) E s₂:=by
    rw [hs o i]
    exact wpAny_operating (wpAny_mono h₂ (fun r s₃ h₃=>wpAny_bind (wpAny_letTemporaryGo (wpAny_pure h₃))) fun _ _ x=>x)
  first
    | exact wpAny_pure (wpAny_bind fin)
    | exact wpAny_bind (wpAny_pure (wpAny_bind fin))
    | exact wpAny_bind fin
noncomputable def sDPut (td ty tv:TE):TS:=fun D σ H=>tv σ H fun v H1=>td σ H1 fun x H2=>ty σ H2 fun y H3=>∃ a H4,x = .ref a∧DPut H3 a y v H4∧D.nx σ H4
section
variable {X:Cx} {o i e value:Expr} {pos pos' tpos:Pos} {td ty tv:TE}
theorem ps_dput (hu:X.A.units + 1 < cLine) (ho:PE X o td) (hi:PE X i ty) (hv:PE X value tv) (hs:swapsWith value (some (.Subscript o i pos')) pos.line X.env=pure false) :
    PS X (.Assign [.Subscript o i pos'] value pos) (sDPut td ty tv):=by
  intro pins s σ H D I h
  refine wpAny_Assign_Subscript (thn (hv pins s σ H _ I h) fun r s1 ⟨v,H1,I1,rv,q1⟩=>thn (ho pins s1 σ H1 _ I1 q1) fun u s2 ⟨x,H2,I2,rx,q2⟩=>thn (hi pins s2 σ H2 _ I2 q2) fun iv s3 ⟨y,H3,I3,ry,a,H4,ex,g,q3⟩=>?_) hs
  subst ex
  obtain rfl:u=Value.ref a:=rx
  exact d_setItem hu I3 g ry rv fun s4 I4=>⟨σ,H4,I4,q3⟩
end
theorem dk_empty {P:Program} {w:World} {H:Hp} (h:Heap) (hb:sysModules < h.objs.size):ObjOk P w H (h.push { cls:=.type "dict",data:=.dict #[] }) h.objs.size (.dK []) :=
  ⟨Nat.zero_le _,beq_eq_false_iff_ne.mpr (Ne.symm (Nat.ne_of_lt hb)),[],.nil,Heap.DictOf.new h⟩
noncomputable def tDNewK (K:PySem.W.Frag):TE:=fun _ H Q=>∀ p,H p=none→K.lookup p=none→Q (.ref p) (upd H p (.dK []))
section
variable {X:Cx} {pos:Pos}
theorem pe_dnewK:PE X (.Dict [] [] pos) (tDNewK X.K):=fun pins s σ H Q I h =>
  wpAny_Dict_empty ⟨.ref s.heap.objs.size,_,I.laid (a:=s.heap.objs.size) (o:=.dK []) (t':=s.toks) (fun _ _ q=>Heap.get?_push_of_some _ q) (Nat.le_refl _) (dk_empty s.heap I.big),rfl,h _ (I.hok.fresh (Nat.le_refl _)) (by cases e:X.K.lookup s.heap.objs.size with | none=>rfl | some o=>exact absurd (Heap.lt_size (I.kIn _ o e)) (Nat.lt_irrefl _))⟩
end
structure M2 (X:Cx) (o:Expr) (m:Str) (apos:Pos) (e f:Expr) (cpos:Pos):Prop where
  base:attributeBase o m X.env (eval o X.env)=eval o X.env
  few:((backTo cpos (starEach [e,f] X.env)).all (fun x=>!x.1) && (backToKw cpos (keywordEach [] X.env)).all (fun x=>x.1.isSome)
    && decide (([e,f]:List Expr).length + ([]:List Keyword).length + (if ([]:List Keyword).isEmpty then 0 else 1) < 30))=true
  line:(apos.endLine == cpos.line)=true
  trees:backTo cpos (starEach [e,f] X.env)=[(false,eval e X.env),(false,eval f X.env)]
noncomputable def IsD (H:Hp) (a:Addr):Prop:=(∃ kvs,Rd H a (.dK kvs))∨∃ kvs,Rd H a (.dT kvs)
theorem isD_at {X:Cx} {pins:List (Addr×Obj)} {σ:St} {H:Hp} {s:Shared} {a:Addr} (I:Inv X pins σ H s) (d:IsD H a) :
    s.TypeIs (.ref a) "dict" ∧ (∀ b,Value.ref a = .ref b→∃ ob,s.heap.get? b=some ob∧ob.dict=none)∧(a == sysModules)=false:=by
  rcases d with ⟨kvs,e⟩ | ⟨kvs,e⟩
  · obtain ⟨_,hd,vs,_,dd⟩:=dk_rd I.hok e
    refine ⟨dd.typeIs,fun b q=>?_,hd⟩
    cases q
    obtain ⟨ob,_,_,h1,h2,_⟩:=dd
    exact ⟨ob,h1,h2.2.1⟩
  · obtain ⟨_,hd,xs,_,dd⟩:=dt_rd I.hok e
    refine ⟨dd.typeIs,fun b q=>?_,hd⟩
    cases q
    obtain ⟨ob,_,_,h1,h2,_⟩:=dd
    exact ⟨ob,h1,h2.2.1⟩
section
variable {X:Cx} {pins:List (Addr×Obj)} {σ:St} {H:Hp} {s:Shared} {a:Addr} {y d:V} {u r:Value} {o:Option V} {A:Around} {E:Value→Shared→Prop}
theorem d_get2 {Q:Value→Shared→Prop} (hu:A.units + 1 < cLine) (I:Inv X pins σ H s) (g:DGet H a y o) (ry:RelV y u) (rd:RelV d r) (h:∀ w' s',Inv X pins σ H s'→RelV (o.getD d) w'→Q w' s') :
    wpAny (model X.prog X.w) A (call (.builtin "dict.get") [.ref a,u,r]) Q E s:=by
  rcases g with ⟨kvs,k,e,ey,l⟩ | ⟨kvs,k,b,e,ey,eb,l⟩
  · subst ey
    obtain ⟨z,hd,vs,rel,dd⟩:=dk_rd I.hok e
    refine call_meetsIn PySem.F.slot_dict_get dd.typeIs PySem.F.entry_dict_get (PySem.F.args_dict_get_3 _ _ _) (meets_dict_get_default (mixKind X.prog X.w) a (kV_is ry) hd r) ⟨_,dd.mapOf,h _ _ (I.tok _) ?_⟩
    rw [l]
    exact (rel.val k).getD rd
  · subst ey
    cases (show u=Value.ref b from ry)
    obtain ⟨z,hd,xs,rel,dd⟩:=dt_rd I.hok e
    refine call_meetsIn PySem.F.slot_dict_get dd.typeIs PySem.F.entry_dict_get (PySem.F.args_dict_get_3 _ _ _) (meetsH_dict_get_default (tupleKind (mixKind X.prog X.w)) a b hd r) ⟨tupleKind_room_in1 hu,k,xs,key_of I.hok eb,dd,h _ _ (I.tok _) ?_⟩
    rw [l]
    exact (rel.val k).getD rd
end
noncomputable def tDGet2 (td ty tx:TE):TE:=fun σ H Q=>td σ H fun x H1=>∃ a,x = .ref a∧IsD H1 a∧ty σ H1 fun y H2=>tx σ H2 fun z H3=>∃ o,DGet H3 a y o∧Q (o.getD z) H3
section
variable {X:Cx} {o e f:Expr} {apos cpos:Pos} {td ty tx:TE}
theorem pe_dget2 (hu:X.A.units + 1 < cLine) (ho:PE X o td) (he:PE X e ty) (hf:PE X f tx) (m:M2 X o "get" apos e f cpos):PE X (.Call (.Attribute o "get" apos) [e,f] [] cpos) (tDGet2 td ty tx):=by
  intro pins s σ H Q I h
  refine wpAny_Call_method m.base m.few m.line PySem.F.plainAttrs_dict PySem.F.slot_dict_get PySem.F.type_dict_get (thn (ho pins s σ H _ I h) fun u s1 ⟨x,H1,I1,rx,a,ex,d,q1⟩=>?_)
  subst ex
  obtain rfl:u=Value.ref a:=rx
  obtain ⟨t1,t2,_⟩:=isD_at I1 d
  refine ⟨t1,t2,?_⟩
  rw [m.trees]
  refine Calls.callWith_builtin rfl (Calls.evalArgs_plain (Calls.spliced_cons (thn (he pins s1 σ H1 _ I1 q1) fun iv s2 ⟨y,H2,I2,ry,q2⟩ =>
    Calls.spliced_cons (thn (hf pins s2 σ H2 _ I2 q2) fun fv s3 ⟨z,H3,I3,rz,ov,g,q3⟩=>Calls.spliced_nil ?_))))
  exact d_get2 hu I3 g ry rz fun w' s4 I4 rw'=>⟨_,H3,I4,rw',q3⟩
end
end L2
set_option maxHeartbeats 4000000
namespace L2
open PySem PySem.Spec PyProof.Rows
noncomputable def clGo (cells:List (Str×Addr)):List (Str×NameKind)→List (Str×Addr)→List (Str×Addr)
  | [],acc=>acc
  | (n,k) :: r,acc=>clGo cells r (if k = .free then (n,(cells.lookup n).getD 0) :: acc else acc)
theorem forIn_cl {env:Env} {f:(Str×NameKind)→List (Str×Addr)→Sem (ForInStep (List (Str×Addr)))}
    (h1:∀ n k acc,k≠.free→f (n,k) acc=pure (.yield acc)) (h2:∀ n acc c,env.cells.lookup n=some c→f (n,.free) acc=pure (.yield ((n,c) :: acc))) :
    ∀ (names:List (Str×NameKind)) (acc:List (Str×Addr)),(∀ x ∈ names,x.2 = .free→∃ c,env.cells.lookup x.1=some c)→forIn names acc f=(pure (clGo env.cells names acc):Sem (List (Str×Addr)))
  | [],acc,_=>by simp [clGo]
  | (n,k) :: r,acc,h=>by
    rw [List.forIn_cons]
    by_cases hk:k = .free
    · subst hk
      obtain ⟨c,hc⟩:=h (n,.free) List.mem_cons_self rfl
      rw [h2 n acc c hc,pure_bind]
      show forIn r ((n,c) :: acc) f=_
      rw [forIn_cl h1 h2 r ((n,c) :: acc) fun x hx=>h x (List.mem_cons_of_mem _ hx)]
      show _=pure (clGo env.cells r (if NameKind.free = .free then (n,(env.cells.lookup n).getD 0) :: acc else acc))
      rw [if_pos rfl,hc]
      rfl
    · rw [h1 n k acc hk,pure_bind]
      show forIn r acc f=_
      rw [forIn_cl h1 h2 r acc fun x hx=>h x (List.mem_cons_of_mem _ hx)]
      show _=pure (clGo env.cells r (if k = .free then (n,(env.cells.lookup n).getD 0) :: acc else acc))
      rw [if_neg hk]
theorem clos_eq {env:Env} {sc:Scope} (h:∀ x ∈ sc.names,x.2 = .free→∃ c,env.cells.lookup x.1=some c):closureFor sc env=pure (clGo env.cells sc.names []):=by
  simp only [closureFor]
  rw [forIn_cl (env:=env) ?h1 ?h2 sc.names [] h,pure_bind]
  case h1 =>
    intro n k acc hk
    have:(k == NameKind.free)=false:=by simpa using hk
    simp only [this,Bool.false_eq_true,if_false]
  case h2 =>
    intro n acc c hc
    simp only [beq_self_eq_true,if_true,cellOf,hc]
    rfl
theorem clGo_sub {cells:List (Str×Addr)} {x:Str} {c:Addr}:∀ (names:List (Str×NameKind)) (acc:List (Str×Addr)),(∀ y ∈ names,y.2 = .free→∃ c,cells.lookup y.1=some c)→(clGo cells names acc).lookup x=some c→acc.lookup x=some c∨cells.lookup x=some c
  | [],acc,_,h=>.inl h
  | (n, k) :: r,acc,hf,h=>by
    rcases clGo_sub r _ (fun y hy=>hf y (List.mem_cons_of_mem _ hy)) h with h | h
    · by_cases hk:k = .free
      · rw [if_pos hk] at h
        obtain ⟨c',hc'⟩:=hf (n,k) List.mem_cons_self hk
        have hc2:cells.lookup n=some c':=hc'
        rw [hc2] at h
        by_cases e:x=n
        · subst e
          simp at h
          subst h
          exact .inr hc2
        · have:(x == n)=false:=by simpa using e
          rw [List.lookup_cons,this] at h
          exact .inl h
      · rw [if_neg hk] at h
        exact .inl h
    · exact .inr h
theorem clGo_some {cells:List (Str×Addr)} {x:Str}:∀ (names:List (Str×NameKind)) (acc:List (Str×Addr)),((∃ c,acc.lookup x=some c)∨(x,NameKind.free) ∈ names)→∃ c,(clGo cells names acc).lookup x=some c
  | [],acc,h=>by
    rcases h with h | h
    · exact h
    · cases h
  | (n, k) :: r,acc,h=>by
    refine clGo_some r _ ?_
    rcases h with ⟨c,h⟩ | h
    · refine .inl ?_
      by_cases hk:k = .free
      · rw [if_pos hk,List.lookup_cons]
        by_cases e:(x == n)=true
        · rw [e];exact ⟨_,rfl⟩
        · have e':(x == n)=false:=by simpa using e
          rw [e'];exact ⟨c,h⟩
      · rw [if_neg hk];exact ⟨c,h⟩
    · rcases List.mem_cons.mp h with e | h
      · injection e with e1 e2
        subst e1;subst e2
        refine .inl ?_
        rw [if_pos rfl,List.lookup_cons]
        simp
      · exact .inr h
theorem mem_of_look {α:Type}:∀ {l:List (Str×α)} {x:Str} {k:α},l.lookup x=some k→(x,k) ∈ l
  | [],_,_,h=>by simp at h
  | (n,a) :: r,x,k,h=>by
    rw [List.lookup_cons] at h
    by_cases e:x=n
    · subst e
      simp at h
      subst h
      exact List.mem_cons_self
    · have:(x == n)=false:=by simpa using e
      rw [this] at h
      exact List.mem_cons_of_mem _ (mem_of_look h)
theorem relabel_look {env:Env}:∀ {names:List (Str×NameKind)} {x:Str} {k:NameKind},
    (names.map fun (n,k)=>if (k == NameKind.free && env.scope.kind == .function && env.kindOf n == some .cell) then (n,NameKind.cell) else (n,k)).lookup x=some k →
    ∃ k0,names.lookup x=some k0∧(k=k0∨k0 = .free)
  | [],_,_,h=>by simp at h
  | (n, k0) :: r,x,k,h=>by
    rw [List.map_cons] at h
    by_cases e:x=n
    · subst e
      refine ⟨k0,by simp,?_⟩
      by_cases hc:(k0 == NameKind.free && env.scope.kind == .function && env.kindOf x == some .cell)=true
      · right
        simp at hc
        exact hc.1.1
      · left
        dsimp only at h
        rw [if_neg hc] at h
        simp at h
        exact h.symm
    · have e':(x == n)=false:=by simpa using e
      rw [List.lookup_cons,e']
      dsimp only at h
      split at h
      · rw [List.lookup_cons,e'] at h
        exact relabel_look h
      · rw [List.lookup_cons,e'] at h
        exact relabel_look h
theorem relabel_cell {env:Env} (hk:env.scope.kind = .function):∀ {names:List (Str×NameKind)} {x:Str},names.lookup x=some .free→env.kindOf x=some .cell →
    (names.map fun (n,k)=>if (k == NameKind.free && env.scope.kind == .function && env.kindOf n == some .cell) then (n,NameKind.cell) else (n,k)).lookup x=some .cell
  | [],_,h,_=>by simp at h
  | (n,k0) :: r,x,h,hx=>by
    rw [List.map_cons]
    by_cases e:x=n
    · subst e
      simp at h
      subst h
      have hc:(NameKind.free == NameKind.free && env.scope.kind == .function && env.kindOf x == some .cell)=true:=by simp [hk,hx]
      dsimp only
      rw [if_pos hc]
      simp
    · have e':(x == n)=false:=by simpa using e
      rw [List.lookup_cons,e'] at h
      dsimp only
      split
      · rw [List.lookup_cons,e'];exact relabel_cell hk h hx
      · rw [List.lookup_cons,e'];exact relabel_cell hk h hx
structure CompScope (so:Scope) (N:List Str) (caps:List (Nat×Str)) (sc:Scope):Prop where
  kind:sc.kind = .function
  nocell:∀ y ∈ sc.names,y.2≠.cell
  names:∀ y ∈ sc.names,y.2 = .local→sc.names.lookup y.1=some .local
  free:∀ y ∈ sc.names,y.2 = .free→so.names.lookup y.1=some .cell
  caps:∀ p ∈ caps,N[p.1]? = some p.2∧so.names.lookup p.2=some .cell∧sc.names.lookup p.2=some .free
noncomputable def capσ (caps:List (Nat×Str)) (σ:St):St:=caps.map fun p=>(σ[p.1]?).join
noncomputable abbrev cxComp (X:Cx) (L:List Str) (caps:List (Nat×Str)) (sc:Scope) (C:Addr) (s:Shared) (H:Hp) (fp:List Addr):Cx :=
  { X with N:=L ++ caps.map (·.2),s₀:=s,H₀:=H,env:=compEnvC sc (clGo X.env.cells sc.names []) C X.env,outer:=X.stack,stack:=X.stack,ex:=fp,fn:=fun _=>false,pn:=[],xe:=fun _ _=>False }
theorem ne_lt {a b:Addr} {n:Nat} (h:a < n) (h2:n≤b):a≠b:=Nat.ne_of_lt (Nat.lt_of_lt_of_le h h2)
section
variable {X:Cx} {pins:List (Addr×Obj)} {σ:St} {H:Hp} {s:Shared} {L:List Str} {caps:List (Nat×Str)} {sc:Scope} {C D:Addr} {fp:List Addr}
theorem Inv.clFree (I:Inv X pins σ H s) (S:CompScope X.env.scope X.N caps sc):∀ x ∈ sc.names,x.2 = .free→∃ c,X.env.cells.lookup x.1=some c:=fun x hx hf =>
  I.ok.has x.1 (.inl (S.free x hx hf))
theorem Inv.clSub (I:Inv X pins σ H s) (S:CompScope X.env.scope X.N caps sc) {x:Str} {c:Addr} (h:(clGo X.env.cells sc.names []).lookup x=some c):X.env.cells.lookup x=some c:=by
  rcases clGo_sub sc.names [] (I.clFree S) h with h | h
  · simp at h
  · exact h
theorem comp_start {h₁:Heap} {tk:Nat} {m:Str→Option Value} {oD:Obj} (I:Inv X pins σ H s) (S:CompScope X.env.scope X.N caps sc) (hfp:∀ b ∈ fp,FpOk X pins H b) (hfo:∀ b ∈ fp,∃ o,s.heap.get? b=some o)
    (hC:s.heap.objs.size≤C) (hn:h₁.Ns C m) (old:∀ b o,s.heap.get? b=some o→h₁.get? b=some o) (hD:s.heap.objs.size≤D) (hDC:D≠C) (eD:h₁.get? D=some oD) (dD:∀ v,oD.data≠.cell v) :
    Inv (cxComp X L caps sc C s H fp) [(D,oD)] (List.replicate L.length none ++ capσ caps σ) H { s with heap:=h₁,toks:=tk }:=by
  have hcells:∀ x c,(clGo X.env.cells sc.names []).lookup x=some c→∃ v,s.heap.IsCell c v:=fun x c e=>I.cell x c (I.clSub S e)
  refine ⟨⟨I.ok.mod,S.kind,I.ok.glob,I.ok.blt,hC,fun x y c h1 h2=>I.ok.inj x y c (I.clSub S h1) (I.clSub S h2),fun x hx=>?_,fun _ _ h=>(Bool.false_ne_true h).elim,I.ok.hd,I.ok.frames,.inl rfl,fun b hb=>⟨?_,fun x c e=>(hfp b hb).2.2.2.2.1 x c (I.clSub S e)⟩,I.bs,Nat.le_trans I.ok.bsz I.sz,fun b o e hb=>?_,fun b hb hz=>?_,I.stack,I.stkFree⟩,
    rfl,I.bare,Un.kept old,⟨m,hn,fun i x v e1 e2 e3=>?_⟩,fun x c e=>?_,I.hok.fresh hC,fun x c e=>I.freeC x c (I.clSub S e),fun p hp=>?_,I.hok.kept old,?_⟩
  · -- has
    have key:∀ k,(relabel sc X.env).names.lookup x=some k→(k = .cell∨k = .free)→(x,NameKind.free) ∈ sc.names:=fun k e hk=>by
      obtain ⟨k0,e0,h0⟩:=relabel_look e
      have hm:=mem_of_look e0
      rcases h0 with h0 | h0
      · subst h0
        rcases hk with hk | hk
        · exact absurd hk (S.nocell _ hm)
        · rw [hk] at hm;exact hm
      · rw [h0] at hm;exact hm
    have hm:(x,NameKind.free) ∈ sc.names:=by
      rcases hx with hx | hx
      · exact key _ hx (.inl rfl)
      · exact key _ hx (.inr rfl)
    exact clGo_some sc.names [] (.inr hm)
  · obtain ⟨o,e⟩:=hfo b hb
    exact Nat.ne_of_lt (Nat.lt_of_lt_of_le (Heap.lt_size e) hC)
  · rcases (hfp b hb).2.2.2.1 with z | z
    · exact I.ok.noex b o e z
    · exact absurd (Nat.lt_of_lt_of_le (Heap.lt_size e) (Nat.le_trans I.ok.bsz z)) (Nat.lt_irrefl _)
  · rcases List.mem_cons.mp (I.stkSub b hz) with z | z
    · exact (hfp b hb).2.1 z
    · exact (hfp b hb).2.2.1 z
  · -- loc
    have e1':(L ++ caps.map (·.2))[i]? = some x:=e1
    by_cases hi:i < L.length
    · rw [List.getElem?_append_left (by simpa using hi),List.getElem?_replicate] at e2
      split at e2 <;> cases e2
    · rw [List.getElem?_append_right (by simpa using Nat.not_lt.mp hi),List.length_replicate] at e2
      rw [List.getElem?_append_right (Nat.not_lt.mp hi)] at e1'
      unfold capσ at e2
      rw [List.getElem?_map] at e1' e2
      cases hp:caps[i - L.length]? with
      | none=>rw [hp] at e1';cases e1'
      | some p =>
        rw [hp] at e1' e2
        have ex:p.2=x:=Option.some.inj e1'
        have ev:(σ[p.1]?).join=some v:=Option.some.inj e2
        have ev':σ[p.1]? = some (some v):=by
          cases q:σ[p.1]? with
          | none=>rw [q] at ev;cases ev
          | some o=>rw [q] at ev;exact congrArg some ev
        obtain ⟨c1,c2,c3⟩:=S.caps p (List.mem_of_getElem? hp)
        obtain ⟨m0,hn0,hl⟩:=I.loc
        rw [ex] at c1 c2 c3
        obtain ⟨u,r,l⟩:=hl p.1 x v c1 ev' (.inr (.inl c2))
        refine ⟨u,r,.inr ⟨.inl (relabel_cell I.ok.kind c3 c2),?_⟩⟩
        rcases l with ⟨hk,_⟩ | ⟨_,c,hc,hcell⟩
        · have:X.env.scope.names.lookup x=some .local:=hk
          rw [c2] at this;cases this
        · obtain ⟨c',hc'⟩:=clGo_some (cells:=X.env.cells) sc.names [] (.inr (mem_of_look c3))
          have:=I.clSub S hc'
          rw [hc] at this
          cases this
          obtain ⟨o,ho,hd⟩:=hcell
          exact ⟨c,hc',o,old _ _ ho,hd⟩
  · obtain ⟨v,o,ho,hd⟩:=hcells x c e
    exact ⟨v,o,old _ _ ho,hd⟩
  · have:p ∈ [(D,oD)]:=hp
    have ep:p=(D,oD):=by simpa using this
    subst ep
    refine ⟨eD,I.hok.fresh hD,hDC,fun z=>?_,dD⟩
    have zz:H D=none:=I.hok.fresh hD
    obtain ⟨_,o,ho,_⟩:=(I.stack).mem z
    exact absurd (Nat.lt_of_lt_of_le (Heap.lt_size ho) hD) (Nat.lt_irrefl _)
  · show (List.replicate L.length none ++ capσ caps σ).length=(L ++ caps.map (·.2)).length
    unfold capσ
    simp
noncomputable def PIf (X:Cx) (ifs:List Expr) (t:TT):Prop :=
  ∀ (pins:List (Addr×Obj)) (s:Shared) (σ:St) (H:Hp) (Q:Bool→Hp→Prop),Inv X pins σ H s→t σ H Q →
    wpAny (model X.prog X.w) X.A (forIn ifs true fun c r=>if r=true then do let ok ← isTrue c X.env (eval c X.env);pure (ForInStep.yield ok) else pure (ForInStep.yield r)) (TP X pins σ Q) X.xe s
theorem pif_nil:PIf X [] (fun _ H Q=>Q true H):=fun pins s σ H Q I h=>wpAny_tests_nil ⟨H,I,h⟩
theorem pif_one {c:Expr} {t:TT} (h:PT X c t):PIf X [c] t:=fun pins s σ H Q I hq=>wpAny_tests_one (h pins s σ H Q I hq)
theorem compLoop_any {prog:Program} {w:World} {A:Around} {R:Result→Shared→Prop} {s:Shared} {elt target iter:Expr} {ifs:List Expr} {scope:Scope} {pos:Pos} {it acc:Value} {env:Env} (I:Nat→Shared→Prop)
    (turn : ∀ n s,I n s→wpAny (model prog w) A (pyNext it) (fun r s₁=>match r with
      | none=>R (.ok .next) s₁
      | some v=>wpAny (model prog w) A (letOwnedTupleGo target it v) (fun _ s1'=>wpAny (model prog w) A (assign target env v) (fun _ s₂ =>
          wpAny (model prog w) A (forIn ifs true fun c r=>if r=true then do let ok ← isTrue c env (eval c env);pure (ForInStep.yield ok) else pure (ForInStep.yield r)) (fun ok s₃ =>
            if ok=true then wpAny (model prog w) A (eval elt env) (fun x s₄ =>
              wpAny (model prog w) A (call (.builtin "list.append") [acc,x]) (fun _ s₅=>∃ m,m < n∧I m s₅) (fun _ _=>False) s₄) (fun _ _=>False) s₃
            else ∃ m,m < n∧I m s₃) (fun _ _=>False) s₂) (fun _ _=>False) s1') (fun _ _=>False) s₁) (fun _ _=>False) s)
    (n:Nat) (h:I n s):codeAny (model prog w) A (.compLoop (.ListComp elt [⟨target,iter,ifs,0⟩] scope pos) 0 it acc env) R s:=by
  refine codeAny_loop rfl I (fun n s hI=>?_) n h
  show wpAny _ A ((compTurn (.ListComp elt [⟨target,iter,ifs,0⟩] scope pos) 0 it acc env).onRaise (fun x=>do noteFrame x env;theTreesLotGoes x)) _ _ s
  refine wpAny_noted ?_
  rw [compTurn_list]
  refine wpAny_bind (wpAny_standAt (wpAny_bind (wpAny_mono (turn n s hI) (fun r s₁ h₁=>?_) fun _ _ h'=>h'.elim)))
  cases r with
  | none=>exact wpAny_pure h₁
  | some v =>
    refine wpAny_bind (wpAny_mono h₁ (fun _ s1' h1'=>?_) fun _ _ h'=>h'.elim)
    refine wpAny_bind (wpAny_mono h1' (fun _ s₂ h₂=>wpAny_bind (wpAny_mono h₂ (fun ok s₃ h₃=>?_) fun _ _ h'=>h'.elim)) fun _ _ h'=>h'.elim)
    cases ok with
    | false=>exact wpAny_pure ⟨rfl,h₃⟩
    | true =>
      exact wpAny_bind (wpAny_bind (wpAny_mono h₃ (fun x s₄ h₄=>wpAny_bind (wpAny_mono h₄ (fun _ s₅ h₅=>wpAny_pure (wpAny_pure ⟨rfl,h₅⟩)) fun _ _ h'=>h'.elim)) fun _ _ h'=>h'.elim))
noncomputable def compW (J:It) (g:TG) (tc:TT) (te:TE) (σ0:St) (H1:Hp) (Fin:List V→Hp→Prop):Prop :=
  ∃ W : Nat→Nat→St→List V→Hp→Prop,(∃ m,W 0 m σ0 [] H1)∧∀ i m σ ys H,W i m σ ys H →
    (J.stop i H∧Fin ys H)∨(J.go i H∧ys.length < sizeLine∧∀ x H',J.yld i H x H'→g x σ H' fun σ2 H2=>tc σ2 H2 fun b H3 =>
      if b=true then te σ2 H3 fun y H4=>∃ m',m' < m∧W (i + 1) m' σ2 (ys ++ [y]) H4 else ∃ m',m' < m∧W (i + 1) m' σ2 ys H3)
theorem comp_block {elt iter tg:Expr} {ifs:List Expr} {pos:Pos} {g:TG} {tc:TT} {te:TE} {J:It} {it:Addr} {tn:Nat→Heap→Prop} {Fin:List V→Hp→Prop} {RR:Value→Addr→Result→Shared→Prop} {E:Value→Shared→Prop} {s₂:Shared}
    (hc:X.calm=true) (S:CompScope X.env.scope X.N caps sc) (I:Inv X pins σ H s₂) (T:Turn X.prog X.w X.K tg J fp it tn) (st:tn 0 s₂.heap) (hfp:∀ b ∈ fp,FpOk X pins H b)
    (hg:∀ C,PG (cxComp X L caps sc C s₂ H fp) tg g) (hif:∀ C,PIf (cxComp X L caps sc C s₂ H fp) ifs tc) (he:∀ C,PE (cxComp X L caps sc C s₂ H fp) elt te)
    (hW:compW J g tc te (List.replicate L.length none ++ capσ caps σ) H Fin)
    (hRR:∀ C D s' m ys H',Inv X pins σ (upd H' D (.lst ys)) s'→s'.heap.Ns C m→FpOk X pins (upd H' D (.lst ys)) C→H' D=none→Fin ys H'→RR (.ref D) C (.ok .next) s') :
    wpAny (model X.prog X.w) X.A (newList []) (fun acc s₃=>wpAny (model X.prog X.w) X.A (newFunctionEnv sc X.env.globals (clGo X.env.cells sc.names []) [] X.env.qual none .none (some X.env)) (fun cenv s₄ =>
      codeAny (model X.prog X.w) X.A (.compStart (.ListComp elt [⟨tg,iter,ifs,0⟩] sc pos) 0 (.ref it) acc { cenv with scope:=relabel sc X.env }) (RR acc cenv.locals) s₄) E s₃) E s₂:=by
  refine wpAny_newObj_type (wpAny_newFunctionEnv S.nocell (by intro y hy;simp at hy) (fun h₁ hns₁ hsb₁=>?_) S.kind)
  dsimp only at hns₁ hsb₁ ⊢
  generalize hH2:s₂.heap.push { cls:=.type "list",dict:=none,data:=.seq ([]:List Value).toArray }=H2 at hns₁ hsb₁ ⊢
  have hCs:H2.objs.size=s₂.heap.objs.size + 1:=by rw [← hH2,Heap.size_push]
  have hDC:s₂.heap.objs.size≠H2.objs.size:=by rw [hCs];exact Nat.ne_of_lt (Nat.lt_succ_self _)
  have hCle:s₂.heap.objs.size≤H2.objs.size:=by rw [hCs];exact Nat.le_succ _
  have below:∀ b,b < s₂.heap.objs.size→b≠H2.objs.size∧b≠s₂.heap.objs.size:=fun b hb=>⟨by rw [hCs];exact Nat.ne_of_lt (Nat.lt_succ_of_lt hb),Nat.ne_of_lt hb⟩
  have old:∀ b o,s₂.heap.get? b=some o→h₁.get? b=some o:=fun b o e=>hsb₁.extBut b o (below b (Heap.lt_size e)).1 (Heap.get?_push_of_some _ (hH2 ▸ Heap.get?_push_of_some _ e))
  have hacc:h₁.get? s₂.heap.objs.size=some { cls:=.type "list",data:=.seq ([]:List Value).toArray }:=hsb₁.extBut _ _ hDC (Heap.get?_push_of_some _ (hH2 ▸ Heap.get?_push_size _ rfl))
  generalize hCn:H2.objs.size=C at hns₁ hsb₁ hDC hCle below ⊢
  generalize hDn:s₂.heap.objs.size=D at hacc hDC ⊢
  have hDle:s₂.heap.objs.size≤D:=Nat.le_of_eq hDn
  have fo:∀ b ∈ fp,∃ o,s₂.heap.get? b=some o:=fun b hb=>let ⟨o,e,_⟩:=T.obj 0 _ st b hb;⟨o,e⟩
  have bD:∀ b ∈ fp,D≠b:=fun b hb z=>by
    obtain ⟨o,e⟩:=fo b hb
    exact ne_lt (Heap.lt_size e) hDle z.symm
  have cD:∀ x c,X.env.cells.lookup x=some c→c≠D:=fun x c e=>by
    obtain ⟨v,o,ho,_⟩:=I.cell x c e
    exact ne_lt (Heap.lt_size ho) hDle
  have cC:∀ x c,X.env.cells.lookup x=some c→c≠C:=fun x c e=>by
    obtain ⟨v,o,ho,_⟩:=I.cell x c e
    exact ne_lt (Heap.lt_size ho) hCle
  have start:=fun tk=>comp_start (L:=L) (fp:=fp) (tk:=tk) I S hfp fo hCle hns₁ old hDle hDC hacc (fun v z=>by
    have z':Data.seq _ _=Data.cell v:=z
    cases z')
  obtain ⟨W,⟨m0,w0⟩,turn⟩:=hW
  -- the static facts of the iterator's records in the block
  have stat:∀ {pl:List (Addr×Obj)} {H':Hp},(∀ b ∈ fp,H' b=none)→(∀ p ∈ pl,p.1=D)→∀ b ∈ fp,FpOk (cxComp X L caps sc C s₂ H fp) pl H' b:=fun {pl H'} hn hpl b hb=>by
    obtain ⟨f0,f1,f2,f3,f4,f5⟩:=hfp b hb
    obtain ⟨o,e⟩:=fo b hb
    refine ⟨hn b hb,(below b (Heap.lt_size e)).1,fun z=>?_,.inl hb,fun x c e'=>f4 x c (I.clSub S e'),fun p hp z=>?_⟩
    · rcases List.mem_cons.mp (I.stkSub b z) with z | z
      · exact f1 z
      · exact f2 z
    · have hp':p ∈ pl:=hp
      exact bD b hb ((hpl p hp').symm.trans z)
  have fin:∀ (s':Shared) (σ':St) (H':Hp) (ys:List V) (its:List Value) (n:Nat),Inv (cxComp X L caps sc C s₂ H fp) [(D,{ cls:=.type "list",data:=.seq its.toArray n })] σ' H' s'→Vals ys its→ys.length≤sizeLine→Fin ys H'→RR (.ref D) C (.ok .next) s':=fun s' σ' H' ys its n I' rv hz hF=>by
    obtain ⟨m,hm,_⟩:=I'.loc
    obtain ⟨eD,hDn',_,_,_⟩:=I'.pin (D,{ cls:=.type "list",data:=.seq its.toArray n }) (by simp)
    have eD':s'.heap.get? D=some { cls:=.type "list",data:=.seq its.toArray n }:=eD
    have hDnone:H' D=none:=hDn'
    have hCnone:H' C=none:=I'.free
    have neD:∀ b o,s₂.heap.get? b=some o→b≠D:=fun b o e=>ne_lt (Heap.lt_size e) hDle
    have neH:∀ b u,H b=some u→b≠D:=fun b u e=>ne_lt (I.hok.lt e) hDle
    have ub:=I'.base
    have hok:HOk X.prog X.w (upd H' D (.lst ys)) s'.heap:=fun b u e=>by
      by_cases hb:b=D
      · subst hb
        rw [upd_same] at e
        cases e
        exact ⟨hz,its,n,rv,eD'⟩
      · rw [upd_ne hb] at e
        exact (I'.hok b u e).stay (fun c v _ q=>q) (fun c q=>by rw [upd_ne (ne_of_none q hDnone)];exact q) fun c xs q=>by rw [upd_ne (ne_of_none q hDnone)];exact q
    have un:Un (frs X.stack) fp H (upd H' D (.lst ys)) s₂.heap s'.heap:=⟨ub.keep,ub.slot,fun b o e n hx=>by rw [upd_ne (neD b o e)];exact ub.free b o e n hx,ub.there,fun b xs e=>by rw [upd_ne (neH b _ e)];exact ub.tups b xs e,
      fun b o u e=>by rw [upd_ne (neH b _ e)];exact ub.frzs b o u e,fun b ps e=>by rw [upd_ne (neH b _ e)];exact ub.tbls b ps e⟩
    have IX:Inv X pins σ (upd H' D (.lst ys)) s':=I.call' (ch:=fp) I'.os un hok I'.bare fun b hb=>by
      obtain ⟨f0,f1,f2,f3,f4,f5⟩:=hfp b hb
      exact ⟨f3,f1,f4,f5⟩
    refine hRR C D s' m ys H' IX hm ⟨by rw [upd_ne (Ne.symm hDC)];exact hCnone,?_,?_,.inr (Nat.le_trans I.sz hCle),cC,fun p hp=>?_⟩ hDnone hF
    · exact Ne.symm (ne_lt I.lt hCle)
    · exact I.nofs hCle
    · exact ne_lt (Heap.lt_size (I.pin p hp).1) hCle
  have loop:∀ s₃:Shared,s₃={ s₂ with heap:=h₁,toks:=s₂.toks + ([]:List (Str×Value)).length } →
      codeAny (model X.prog X.w) X.A (.compLoop (.ListComp elt [⟨tg,iter,ifs,0⟩] sc pos) 0 (.ref it) (.ref D) (compEnvC sc (clGo X.env.cells sc.names []) C X.env)) (RR (.ref D) C) s₃:=by
    rintro s₃ rfl
    refine compLoop_any (fun k s'=>∃ i σ' H' ys its n,Inv (cxComp X L caps sc C s₂ H fp) [(D,{ cls:=.type "list",data:=.seq its.toArray n })] σ' H' s'∧tn i s'.heap∧(∀ b ∈ fp,H' b=none)∧Vals ys its∧ys.length≤sizeLine∧W i k σ' ys H') ?_ m0
      ⟨0,_,H,[],[],0,start _,T.keep 0 _ _ st (fun b hb o e=>old b o e),fun b hb=>(hfp b hb).1,.nil,Nat.zero_le _,w0⟩
    rintro k s' ⟨i,σ',H',ys,its,n,I',st',fr',rv,hz,w'⟩
    have hpl:∀ p ∈ [(D,({ cls:=.type "list",data:=.seq its.toArray n }:Obj))],p.1=D:=fun p hp=>by
      rcases List.mem_cons.mp hp with e | e
      · rw [e]
      · cases e
    rcases turn i k σ' ys H' w' with ⟨stop,hF⟩ | ⟨go,hlen,step⟩
    · refine thn (T.done (cxComp X L caps sc C s₂ H fp) rfl rfl rfl hc i _ s' σ' H' _ I' (stat fr' hpl) st' stop) fun r s4 ⟨hr,I4⟩=>?_
      subst hr
      exact fin s4 σ' H' ys its n I4 rv hz hF
    · refine thn (T.item (cxComp X L caps sc C s₂ H fp) rfl rfl rfl hc i _ s' σ' H' _ I' (stat fr' hpl) st' go) fun r s4 ⟨u,hr,h4⟩=>?_
      subst hr
      refine thn h4 fun _ s5 ⟨x,H5,I5,r5,y5,st5,fr5⟩=>?_
      have I5':=I5.pinned (stat fr5 hpl) (T.obj _ _ st5)
      refine thn (hg C _ s5 σ' H5 x u _ I5' r5 (step x H5 y5)) fun _ s6 ⟨σ6,H6,I6,q6⟩=>?_
      refine thn (hif C _ s6 σ6 H6 _ I6 q6) fun ok s7 ⟨H7,I7,q7⟩=>?_
      have back:∀ {σ8:St} {H8:Hp} {s8:Shared},Inv (cxComp X L caps sc C s₂ H fp) ([(D,{ cls:=.type "list",data:=.seq its.toArray n })] ++ pinsAt fp s5.heap) σ8 H8 s8 →
          tn (i + 1) s8.heap∧∀ b ∈ fp,H8 b=none:=fun {σ8 H8 s8} I8=>by
        refine ⟨T.keep _ _ _ st5 fun b hb o e=>(I8.pin (b,o) (List.mem_append_right _ (List.mem_append_right _ (mem_pinsAt hb e)))).1,fun b hb=>?_⟩
        obtain ⟨o,e,d⟩:=T.obj _ _ st5 b hb
        exact (I8.pin (b,o) (List.mem_append_right _ (List.mem_append_right _ (mem_pinsAt hb e)))).2.1
      cases ok with
      | false =>
        rw [if_neg Bool.false_ne_true] at q7
        rw [if_neg Bool.false_ne_true]
        obtain ⟨m',hm',w7⟩:=q7
        obtain ⟨b1,b2⟩:=back I7
        exact ⟨m',hm',i + 1,σ6,H7,ys,its,n,I7.unpinned,b1,b2,rv,hz,w7⟩
      | true =>
        rw [if_pos rfl] at q7
        rw [if_pos rfl]
        refine thn (he C _ s7 σ6 H7 _ I7 q7) fun yv s8 ⟨y,H8,I8,r8,m',hm',w8⟩=>?_
        obtain ⟨b1,b2⟩:=back I8
        obtain ⟨eD,hDn8,neL8,nf8,_⟩:=I8.pin (D,{ cls:=.type "list",data:=.seq its.toArray n }) (by simp)
        have hl:=rv.length
        refine append_at (s:=s8) eD (fun h9 sb e9=>?_) (by simp only [List.size_toArray];omega)
        have I8':Inv (cxComp X L caps sc C s₂ H fp) [] σ6 H8 s8:=I8.pins_of fun p hp=>nomatch hp
        have I9:Inv (cxComp X L caps sc C s₂ H fp) [] σ6 H8 { s8 with heap:=h9 }:=I8'.turned (t':=s8.toks) (it:=D) (fun b o hb e=>(sb.2 b hb).trans e) hDn8 neL8 (.inr hDle) (fun x c e=>cD x c (I.clSub S e)) fun p hp=>nomatch (show p ∈ ([]:List (Addr×Obj)) from hp)
        have ep:its.toArray.push yv=(its ++ [yv]).toArray:=by simp
        rw [ep] at e9
        refine ⟨m',hm',i + 1,σ6,H8,ys ++ [y],its ++ [yv],n + 1,I9.pins_of fun p hp=>?_,T.keep _ _ _ b1 fun b hb o e=>(sb.2 b (Ne.symm (bD b hb))).trans e,b2,Vals.append rv (.cons r8 .nil),by rw [List.length_append];exact hlen,w8⟩
        obtain rfl:p=(D,({ cls:=.type "list",data:=.seq (its ++ [yv]).toArray (n + 1) }:Obj)):=by
          rcases List.mem_cons.mp hp with e | e
          · exact e
          · cases e
        exact ⟨e9,hDn8,neL8,nf8,fun v z=>by
          have z':Data.seq _ _=Data.cell v:=z
          cases z'⟩
  exact codeAny_compStart_list (loop _ rfl) (T.self X.A 0 _ _ _ (T.keep 0 _ _ st fun b hb o e=>old b o e) (loop _ rfl))
noncomputable def tComp (wi:TI) (g:TG) (tc:TT) (te:TE) (nL:Nat) (caps:List (Nat×Str)):TE:=fun σ H Q=>wi σ H fun J H1 =>
  compW J g tc te (List.replicate nL none ++ capσ caps σ) H1 fun ys H2=>∀ p,H2 p=none→Q (.ref p) (upd H2 p (.lst ys))
theorem pe_comp {elt iter tg:Expr} {ifs:List Expr} {pos:Pos} {wi:TI} {g:TG} {tc:TT} {te:TE} (L:List Str) (caps:List (Nat×Str)) (hc:X.calm=true) (S:CompScope X.env.scope X.N caps sc) (hi:PI X tg iter wi)
    (hg:∀ C s H fp,PG (cxComp X L caps sc C s H fp) tg g) (hif:∀ C s H fp,PIf (cxComp X L caps sc C s H fp) ifs tc) (he:∀ C s H fp,PE (cxComp X L caps sc C s H fp) elt te)
    (hs:∀ x,foldedSetIterable iter X.env x=pure x:=by intro _;rfl):PE X (.ListComp elt [⟨tg,iter,ifs,0⟩] sc pos) (tComp wi g tc te L.length caps):=by
  intro pins s σ H Q I h
  rw [eval_ListComp]
  refine wpAny_comprehension_free (use:=none) rfl hs (clos_eq (I.clFree S)) S.kind S.names (thn (hi pins s σ H _ I h) fun v s1 h1=>thn h1 fun itv s2 h2=>?_)
  obtain ⟨it,fp,tn,J,H2,e,I2,T,st2,f2,hW⟩:=h2
  subst e
  refine comp_block (L:=L) (RR:=fun acc C=>compPost (model X.prog X.w) X.A X.xe none (EP X pins σ Q) acc C) hc S I2 T st2 f2 (fun C=>hg C _ _ _) (fun C=>hif C _ _ _) (fun C=>he C _ _ _) hW ?_
  intro C D s' m ys H' I' hn hC hDn hF
  refine ⟨m,hn,fun h' sb=>?_⟩
  obtain ⟨f0,f1,f2,f3,f4,f5⟩:=hC
  exact ⟨.ref D,_,I'.turned (t':=s'.toks) (it:=C) (fun b o hb e=>(sb.2 b hb).trans e) f0 f1 f3 f4 f5,rfl,hF D hDn⟩
theorem ps_comp {elt iter tg:Expr} {ifs:List Expr} {pos py spos:Pos} {wi:TI} {g:TG} {tc:TT} {te:TE} {i:Nat} {y:Str} (L:List Str) (caps:List (Nat×Str)) (hc:X.calm=true) (hN:X.N.Nodup) (hy:X.N[i]? = some y) (hyl:X.env.scope.names.lookup y=some .local)
    (S:CompScope X.env.scope X.N caps sc) (hi:PI X tg iter wi)
    (hg:∀ C s H fp,PG (cxComp X L caps sc C s H fp) tg g) (hif:∀ C s H fp,PIf (cxComp X L caps sc C s H fp) ifs tc) (he:∀ C s H fp,PE (cxComp X L caps sc C s H fp) elt te)
    (hsw:swapsWith (.ListComp elt [⟨tg,iter,ifs,0⟩] sc pos) (some (.Name y py)) spos.line X.env=pure true:=by rfl)
    (hs:∀ x,foldedSetIterable iter X.env x=pure x:=by intro _;rfl):PS X (.Assign [.Name y py] (.ListComp elt [⟨tg,iter,ifs,0⟩] sc pos) spos) (tAsg (tComp wi g tc te L.length caps) (gName i)):=by
  intro pins s σ H D I h
  rw [exec_Assign_Name_used _ _ _ _ hsw]
  refine wpAny_bind (wpAny_standAt (wpAny_bind ?_))
  show wpAny _ X.A (do let _ ← comprehension (.ListComp elt [⟨tg,iter,ifs,0⟩] sc pos) sc X.env _ (newList []) false (eval iter X.env) (some (assign (.Name y py) X.env))) _ _ s
  refine wpAny_bind (wpAny_mono (wpAny_comprehension_free (use:=some (assign (.Name y py) X.env)) (Q:=fun _ s'=>SP X pins D .next s') rfl hs (clos_eq (I.clFree S)) S.kind S.names
    (thn (hi pins s σ H _ I h) fun v s1 h1=>thn h1 fun itv s2 h2=>?_)) (fun _ s' hq=>wpAny_pure (wpAny_pure hq)) fun _ _ e=>e)
  obtain ⟨it,fp,tn,J,H2,e,I2,T,st2,f2,hW⟩:=h2
  subst e
  refine comp_block (L:=L) (RR:=fun acc C=>compPost (model X.prog X.w) X.A X.xe (some (assign (.Name y py) X.env)) (fun _ s'=>SP X pins D .next s') acc C) hc S I2 T st2 f2 (fun C=>hg C _ _ _) (fun C=>hif C _ _ _) (fun C=>he C _ _ _) hW ?_
  intro C Dd s' m ys H' I' hn hC hDn hF
  obtain ⟨f0,f1,f2,f3,f4,f5⟩:=hC
  show wpAny _ X.A (assign (.Name y py) X.env (.ref Dd)) _ _ _
  refine wpAny_assign_Name (store_ok2 (v:=.ref Dd) I' hN hy (.inl hyl) rfl (fun s'' I'' hsb=>?_) (.inr hyl))
  obtain ⟨a,hsb,ha⟩:=hsb
  have hL:a≠C:=by
    rcases ha with z | z
    · rw [z];exact Ne.symm f1
    · exact f4 y a z
  refine ⟨m,hn.sameBut hsb (Ne.symm hL),fun h' sb=>?_⟩
  exact ⟨_,_,I''.turned (t':=s''.toks) (it:=C) (fun b o hb e=>(sb.2 b hb).trans e) f0 f1 f3 f4 f5,hF Dd hDn⟩
end
end L2
namespace L3
open PySem PySem.Spec PyProof.Rows L2
inductive Dt where
  | non | bl (b:Bool) | int (i:Int) | str (x:Str) | tup (xs:List Dt) | lst (n:Nat) | ty (n:String) | dic (n:Nat) | ins (n:Nat)
inductive SO where
  | ro (xs:List Dt) | rw (xs:List Dt) | dc (kvs:List (Key×Dt)) | ob (C:Str) (fs:List (Str×Dt))
noncomputable def SO.items:SO→List Dt
  | .ro xs=>xs
  | .rw xs=>xs
  | .dc _=>[]
  | .ob _ _=>[]
noncomputable def IsL (K:PySem.W.Frag) (H:Hp) (a:Addr):Prop:=∃ vs,SqL K H a vs
noncomputable def IsD (H:Hp) (a:Addr):Prop:=∃ kvs,H a=some (.dK kvs)
noncomputable def IsO (H:Hp) (a:Addr):Prop:=∃ C dx fs,H a=some (.ins C dx fs)
noncomputable abbrev Sto:=List SO
noncomputable abbrev Rho:=List (Option Dt)
mutual
noncomputable def D (K:PySem.W.Frag) (φ:Nat→Addr) (N:Nat) (H:Hp):Dt→V→Prop
  | .non,v=>v = .non
  | .bl b,v=>v = .bl b
  | .int i,v=>v = .int i
  | .str x,v=>v = .str x
  | .ty n,v=>v = .ty n
  | .tup ds,v=>∃ a vs,v = .ref a∧SqT K H a vs∧DL K φ N H ds vs
  | .lst n,v=>n < N∧v = .ref (φ n)∧IsL K H (φ n)
  | .dic n,v=>n < N∧v = .ref (φ n)∧IsD H (φ n)
  | .ins n,v=>n < N∧v = .ref (φ n)∧IsO H (φ n)
noncomputable def DL (K:PySem.W.Frag) (φ:Nat→Addr) (N:Nat) (H:Hp):List Dt→List V→Prop
  | [],vs=>vs=[]
  | d :: ds,vs=>∃ v r,vs=v :: r∧D K φ N H d v∧DL K φ N H ds r
end
structure Evo (K:PySem.W.Frag) (φ:Nat→Addr) (N:Nat) (H:Hp) (φ':Nat→Addr) (N':Nat) (H':Hp):Prop where
  le:N≤N'
  ext:∀ i,i < N→φ' i=φ i
  tup:∀ a vs,SqT K H a vs→SqT K H' a vs
  lst:∀ i,i < N→IsL K H (φ i)→IsL K H' (φ i)
  dic:∀ i,i < N→IsD H (φ i)→IsD H' (φ i)
  ins:∀ i,i < N→IsO H (φ i)→IsO H' (φ i)
section
variable {K:PySem.W.Frag} {φ φ' φ1 φ2:Nat→Addr} {N N' N1 N2:Nat} {H H' H1 H2:Hp}
theorem Evo.refl:Evo K φ N H φ N H:=⟨Nat.le_refl _,fun _ _=>rfl,fun _ _ h=>h,fun _ _ h=>h,fun _ _ h=>h,fun _ _ h=>h⟩
theorem Evo.trans (a:Evo K φ N H φ1 N1 H1) (b:Evo K φ1 N1 H1 φ2 N2 H2):Evo K φ N H φ2 N2 H2 :=
  ⟨Nat.le_trans a.le b.le,fun i hi=>(b.ext i (Nat.lt_of_lt_of_le hi a.le)).trans (a.ext i hi),fun x vs h=>b.tup x vs (a.tup x vs h), 
    fun i hi h=>(fun q:IsL K H1 (φ1 i)→IsL K H2 (φ1 i)=>a.ext i hi ▸ q (a.ext i hi ▸ a.lst i hi h)) (b.lst i (Nat.lt_of_lt_of_le hi a.le)),
    fun i hi h=>(fun q:IsD H1 (φ1 i)→IsD H2 (φ1 i)=>a.ext i hi ▸ q (a.ext i hi ▸ a.dic i hi h)) (b.dic i (Nat.lt_of_lt_of_le hi a.le)),
    fun i hi h=>(fun q:IsO H1 (φ1 i)→IsO H2 (φ1 i)=>a.ext i hi ▸ q (a.ext i hi ▸ a.ins i hi h)) (b.ins i (Nat.lt_of_lt_of_le hi a.le))⟩
mutual
theorem D.evo (e:Evo K φ N H φ' N' H'):∀ {d:Dt} {v:V},D K φ N H d v→D K φ' N' H' d v
  | .non,_,h=>by simpa [D] using h
  | .bl _,_,h=>by simpa [D] using h
  | .int _,_,h=>by simpa [D] using h
  | .str _,_,h=>by simpa [D] using h
  | .ty _,_,h=>by simpa [D] using h
  | .tup ds,v,h=>by
    simp only [D] at h ⊢
    obtain ⟨a,vs,h1,h2,h3⟩:=h
    exact ⟨a,vs,h1,e.tup a vs h2,DL.evo e h3⟩
  | .lst n,v,h=>by
    simp only [D] at h ⊢
    obtain ⟨h1,h2,h3⟩:=h
    exact ⟨Nat.lt_of_lt_of_le h1 e.le,by rw [e.ext n h1];exact h2,by rw [e.ext n h1];exact e.lst n h1 h3⟩
  | .dic n,v,h=>by
    simp only [D] at h ⊢
    obtain ⟨h1,h2,h3⟩:=h
    exact ⟨Nat.lt_of_lt_of_le h1 e.le,by rw [e.ext n h1];exact h2,by rw [e.ext n h1];exact e.dic n h1 h3⟩
  | .ins n,v,h=>by
    simp only [D] at h ⊢
    obtain ⟨h1,h2,h3⟩:=h
    exact ⟨Nat.lt_of_lt_of_le h1 e.le,by rw [e.ext n h1];exact h2,by rw [e.ext n h1];exact e.ins n h1 h3⟩
theorem DL.evo (e:Evo K φ N H φ' N' H'):∀ {ds:List Dt} {vs:List V},DL K φ N H ds vs→DL K φ' N' H' ds vs
  | [],vs,h=>by simpa [DL] using h
  | d :: ds,vs,h=>by
    simp only [DL] at h ⊢
    obtain ⟨v,r,h1,h2,h3⟩:=h
    exact ⟨v,r,h1,D.evo e h2,DL.evo e h3⟩
end
theorem DL.length:∀ {ds:List Dt} {vs:List V},DL K φ N H ds vs→ds.length=vs.length
  | [],vs,h=>by simp only [DL] at h;rw [h];rfl
  | d :: ds,vs,h=>by
    simp only [DL] at h
    obtain ⟨v,r,h1,_,h3⟩:=h
    rw [h1,List.length_cons,List.length_cons,DL.length h3]
theorem DL.get:∀ {ds:List Dt} {vs:List V} {i:Nat} {d:Dt},DL K φ N H ds vs→ds[i]? = some d→∃ v,vs[i]? = some v∧D K φ N H d v
  | [],_,_,_,_,e=>by simp at e
  | d :: ds,vs,0,d',h,e=>by
    simp only [DL] at h
    obtain ⟨v,r,h1,h2,_⟩:=h
    simp at e
    subst e;subst h1
    exact ⟨v,rfl,h2⟩
  | d :: ds,vs,i + 1,d',h,e=>by
    simp only [DL] at h
    obtain ⟨v,r,h1,_,h3⟩:=h
    subst h1
    obtain ⟨w,e1,e2⟩:=DL.get (i:=i) h3 (by simpa using e)
    exact ⟨w,by simpa using e1,e2⟩
theorem DL.nil:DL K φ N H [] []:=by simp [DL]
theorem DL.cons {d:Dt} {v:V} {ds:List Dt} {vs:List V} (h:D K φ N H d v) (t:DL K φ N H ds vs):DL K φ N H (d :: ds) (v :: vs):=by
  simp only [DL];exact ⟨v,vs,rfl,h,t⟩
theorem DL.uncons {d:Dt} {v:V} {ds:List Dt} {vs:List V} (h:DL K φ N H (d :: ds) (v :: vs)):D K φ N H d v∧DL K φ N H ds vs:=by
  simp only [DL] at h
  obtain ⟨v',r,h1,h2,h3⟩:=h
  cases h1
  exact ⟨h2,h3⟩
theorem DL.append:∀ {ds es:List Dt} {vs ws:List V},DL K φ N H ds vs→DL K φ N H es ws→DL K φ N H (ds ++ es) (vs ++ ws)
  | [],_,vs,_,h,h'=>by simp only [DL] at h;rw [h];exact h'
  | d :: ds,es,vs,ws,h,h'=>by
    simp only [DL] at h
    obtain ⟨v,r,h1,h2,h3⟩:=h
    subst h1
    exact DL.cons h2 (DL.append h3 h')
theorem DL.drop:∀ {ds:List Dt} {vs:List V} (n:Nat),DL K φ N H ds vs→DL K φ N H (ds.drop n) (vs.drop n)
  | ds,vs,0,h=>h
  | [],vs,n + 1,h=>by simp only [DL] at h;rw [h];simpa using DL.nil
  | d :: ds,vs,n + 1,h=>by
    simp only [DL] at h
    obtain ⟨v,r,h1,h2,h3⟩:=h
    subst h1
    exact DL.drop n h3
theorem DL.take:∀ {ds:List Dt} {vs:List V} (n:Nat),DL K φ N H ds vs→DL K φ N H (ds.take n) (vs.take n)
  | ds,vs,0,h=>by simpa using DL.nil
  | [],vs,n + 1,h=>by simp only [DL] at h;rw [h];simpa using DL.nil
  | d :: ds,vs,n + 1,h=>by
    simp only [DL] at h
    obtain ⟨v,r,h1,h2,h3⟩:=h
    subst h1
    exact DL.cons h2 (DL.take n h3)
theorem DL.set {d:Dt} {v:V} (hd:D K φ N H d v):∀ {ds:List Dt} {vs:List V} (n:Nat),DL K φ N H ds vs→DL K φ N H (ds.set n d) (vs.set n v)
  | [],vs,n,h=>by simp only [DL] at h;rw [h];simpa using DL.nil
  | e :: ds,vs,0,h=>by
    simp only [DL] at h
    obtain ⟨w,r,h1,h2,h3⟩:=h
    subst h1
    exact DL.cons hd h3
  | e :: ds,vs,n + 1,h=>by
    simp only [DL] at h
    obtain ⟨w,r,h1,h2,h3⟩:=h
    subst h1
    exact DL.cons h2 (DL.set hd n h3)
theorem DL.one {d:Dt} {vs:List V} (h:DL K φ N H [d] vs):∃ v,vs=[v]∧D K φ N H d v:=by
  simp only [DL] at h
  obtain ⟨v,r,h1,h2,h3⟩:=h
  subst h3
  exact ⟨v,h1,h2⟩
theorem DL.two {d e:Dt} {vs:List V} (h:DL K φ N H [d,e] vs):∃ v w,vs=[v,w]∧D K φ N H d v∧D K φ N H e w:=by
  simp only [DL] at h
  obtain ⟨v,r,h1,h2,w,r',h3,h4,h5⟩:=h
  subst h5;subst h3
  exact ⟨v,w,h1,h2,h4⟩
theorem D.int {i:Int} {v:V} (h:D K φ N H (.int i) v):v = .int i:=by simpa [D] using h
theorem D.bl {i:Bool} {v:V} (h:D K φ N H (.bl i) v):v = .bl i:=by simpa [D] using h
theorem D.str {i:Str} {v:V} (h:D K φ N H (.str i) v):v = .str i:=by simpa [D] using h
theorem D.non {v:V} (h:D K φ N H .non v):v = .non:=by simpa [D] using h
theorem D.ty {n:String} {v:V} (h:D K φ N H (.ty n) v):v = .ty n:=by simpa [D] using h
theorem D.tup {ds:List Dt} {v:V} (h:D K φ N H (.tup ds) v):∃ a vs,v = .ref a∧SqT K H a vs∧DL K φ N H ds vs:=by simpa [D] using h
theorem D.lst {n:Nat} {v:V} (h:D K φ N H (.lst n) v):n < N∧v = .ref (φ n):=by simp only [D] at h;exact ⟨h.1,h.2.1⟩
theorem D.isL {n:Nat} {v:V} (h:D K φ N H (.lst n) v):IsL K H (φ n):=by simp only [D] at h;exact h.2.2
theorem D.dic {n:Nat} {v:V} (h:D K φ N H (.dic n) v):n < N∧v = .ref (φ n):=by simp only [D] at h;exact ⟨h.1,h.2.1⟩
theorem D.isD {n:Nat} {v:V} (h:D K φ N H (.dic n) v):IsD H (φ n):=by simp only [D] at h;exact h.2.2
theorem D.ins {n:Nat} {v:V} (h:D K φ N H (.ins n) v):n < N∧v = .ref (φ n):=by simp only [D] at h;exact ⟨h.1,h.2.1⟩
theorem D.mkInt {i:Int}:D K φ N H (.int i) (.int i):=by simp [D]
theorem D.mkBl {i:Bool}:D K φ N H (.bl i) (.bl i):=by simp [D]
theorem D.mkStr {i:Str}:D K φ N H (.str i) (.str i):=by simp [D]
theorem D.mkNon:D K φ N H .non .non:=by simp [D]
theorem D.mkTy {n:String}:D K φ N H (.ty n) (.ty n):=by simp [D]
theorem D.mkTup {ds:List Dt} {a:Addr} {vs:List V} (h:SqT K H a vs) (t:DL K φ N H ds vs):D K φ N H (.tup ds) (.ref a):=by simp only [D];exact ⟨a,vs,rfl,h,t⟩
theorem D.mkLst {n:Nat} (h:n < N) (hl:IsL K H (φ n)):D K φ N H (.lst n) (.ref (φ n)):=by simp only [D];exact ⟨h,trivial,hl⟩
theorem D.mkDic {n:Nat} (h:n < N) (hl:IsD H (φ n)):D K φ N H (.dic n) (.ref (φ n)):=by simp only [D];exact ⟨h,trivial,hl⟩
theorem D.mkIns {n:Nat} (h:n < N) (hl:IsO H (φ n)):D K φ N H (.ins n) (.ref (φ n)):=by simp only [D];exact ⟨h,trivial,hl⟩
end
noncomputable def SqR (K:PySem.W.Frag) (H:Hp) (a:Addr) (xs:List V):Prop :=
  (∃ o,H a=some (.frz o (.lst xs))) ∨
    ∃ (o:Obj) (its:Array Value) (n:Nat),K.lookup a=some o∧o.cls = .type "list" ∧ o.dict=none∧o.data = .seq its n∧its.size≤sizeLine∧Vals xs its.toList
theorem SqR.sq {K:PySem.W.Frag} {H:Hp} {a:Addr} {xs:List V} (h:SqR K H a xs):SqL K H a xs:=by
  rcases h with h | h
  · exact .inl (.inr h)
  · exact .inr h
noncomputable def Holds (K:PySem.W.Frag) (φ:Nat→Addr) (N:Nat) (H:Hp):SO→Addr→Prop
  | .ro xs,a=>∃ vs,SqR K H a vs∧DL K φ N H xs vs
  | .rw xs,a=>∃ vs,H a=some (.lst vs)∧DL K φ N H xs vs
  | .dc kvs,a=>∃ vs:List (Key×V),H a=some (.dK vs)∧K.lookup a=none∧kvs.map (·.1)=vs.map (·.1)∧DL K φ N H (kvs.map (·.2)) (vs.map (·.2))
  | .ob C fs,a=>∃ (c dx:Addr) (vs:List (Str×V)),H a=some (.ins c dx vs)∧K.lookup a=none∧PySem.W.nsIn K mainGlobals C=some (some (.ref c))∧fs.map (·.1)=vs.map (·.1)∧DL K φ N H (fs.map (·.2)) (vs.map (·.2))
noncomputable def SO.wr:SO→Bool
  | .ro _=>false
  | _=>true
structure Rep (K:PySem.W.Frag) (φ:Nat→Addr) (st:Sto) (H:Hp):Prop where
  injA:∀ (i j:Nat) a b,st[i]? = some a→st[j]? = some b→a.wr=true→b.wr=true→φ i=φ j→i=j
  all:∀ (i:Nat) o,st[i]? = some o→Holds K φ st.length H o (φ i)
section
variable {K:PySem.W.Frag} {φ φ':Nat→Addr} {N N':Nat} {st:Sto} {H H':Hp} {p:Addr}
theorem Rep.ro (R:Rep K φ st H):∀ (i:Nat) xs,st[i]? = some (.ro xs)→∃ vs,SqR K H (φ i) vs∧DL K φ st.length H xs vs:=fun i _ e=>R.all i _ e
theorem Rep.rw (R:Rep K φ st H):∀ (i:Nat) xs,st[i]? = some (.rw xs)→∃ vs,H (φ i)=some (.lst vs)∧DL K φ st.length H xs vs:=fun i _ e=>R.all i _ e
theorem Rep.seq (R:Rep K φ st H) {i:Nat} {o:SO} (e:st[i]? = some o) (hl:IsL K H (φ i)):∃ vs,SqL K H (φ i) vs∧DL K φ st.length H o.items vs:=by
  have no:∀ {u:HO},H (φ i)=some u→K.lookup (φ i)=none→(∀ vs,u≠.lst vs)→(∀ ob vs,u≠.frz ob vs)→False:=by
    intro u h hk h1 h2
    obtain ⟨vs,(h3 | ⟨ob,h3⟩) | ⟨ob,_,_,h3,_⟩⟩:=hl
    · rw [h] at h3;exact h1 _ (Option.some.inj h3)
    · rw [h] at h3;exact h2 _ _ (Option.some.inj h3)
    · rw [hk] at h3;cases h3
  cases o with
  | ro xs =>
    obtain ⟨vs,h1,h2⟩:=R.ro i xs e
    exact ⟨vs,h1.sq,h2⟩
  | rw xs =>
    obtain ⟨vs,h1,h2⟩:=R.rw i xs e
    exact ⟨vs,SqL.of h1,h2⟩
  | dc kvs =>
    obtain ⟨vs,h1,h2,_⟩:=R.all i _ e
    exact (no h1 h2 (fun _ z=>by cases z) (fun _ _ z=>by cases z)).elim
  | ob C fs =>
    obtain ⟨c,dx,vs,h1,h2,_⟩:=R.all i _ e
    exact (no h1 h2 (fun _ z=>by cases z) (fun _ _ z=>by cases z)).elim
theorem sqT_upd {a:Addr} {vs:List V} {o:HO} (h:SqT K H a vs) (hp:H p=none):SqT K (upd H p o) a vs:=by
  rcases h with (h | ⟨ob,h⟩) | h
  · exact .inl (.inl (by rw [upd_ne (ne_of_none h hp)];exact h))
  · exact .inl (.inr ⟨ob,by rw [upd_ne (ne_of_none h hp)];exact h⟩)
  · exact .inr h
theorem sqR_upd {a:Addr} {vs:List V} {o:HO} (h:SqR K H a vs) (hp:H p=none):SqR K (upd H p o) a vs:=by
  rcases h with ⟨ob,h⟩ | h
  · exact .inl ⟨ob,by rw [upd_ne (ne_of_none h hp)];exact h⟩
  · exact .inr h
theorem sqT_updL {a:Addr} {vs ws:List V} {o:HO} (h:SqT K H a vs) (hp:H p=some (.lst ws)):SqT K (upd H p o) a vs:=by
  rcases h with (h | ⟨ob,h⟩) | h
  · exact .inl (.inl (by rw [upd_ne (ne_of h hp (by intro z;cases z))];exact h))
  · exact .inl (.inr ⟨ob,by rw [upd_ne (ne_of h hp (by intro z;cases z))];exact h⟩)
  · exact .inr h
theorem sqL_upd {a:Addr} {vs:List V} {o:HO} (h:SqL K H a vs) (hp:H p=none):SqL K (upd H p o) a vs:=by
  rcases h with (h | ⟨ob,h⟩) | h
  · exact .inl (.inl (by rw [upd_ne (ne_of_none h hp)];exact h))
  · exact .inl (.inr ⟨ob,by rw [upd_ne (ne_of_none h hp)];exact h⟩)
  · exact .inr h
theorem isL_upd {a:Addr} {o:HO} (h:IsL K H a) (hp:H p=none):IsL K (upd H p o) a:=let ⟨vs,h⟩:=h;⟨vs,sqL_upd h hp⟩
theorem isD_upd {a:Addr} {o:HO} (h:IsD H a) (hp:H p=none):IsD (upd H p o) a:=let ⟨vs,h⟩:=h;⟨vs,by rw [upd_ne (ne_of_none h hp)];exact h⟩
theorem isO_upd {a:Addr} {o:HO} (h:IsO H a) (hp:H p=none):IsO (upd H p o) a:=let ⟨c,d,f,h⟩:=h;⟨c,d,f,by rw [upd_ne (ne_of_none h hp)];exact h⟩
theorem evo_new {o:HO} (hp:H p=none):Evo K φ N H φ N (upd H p o):=⟨Nat.le_refl _,fun _ _=>rfl,fun _ _ h=>sqT_upd h hp,fun _ _ h=>isL_upd h hp,fun _ _ h=>isD_upd h hp,fun _ _ h=>isO_upd h hp⟩
theorem Holds.stay {o:SO} {a:Addr} (h:Holds K φ N H o a) (e:Evo K φ N H φ' N' H') (hr:∀ vs,SqR K H a vs→SqR K H' a vs) (hw:o.wr=true→H' a=H a):Holds K φ' N' H' o a:=by
  cases o with
  | ro xs=>obtain ⟨vs,h1,h2⟩:=h;exact ⟨vs,hr vs h1,h2.evo e⟩
  | rw xs=>obtain ⟨vs,h1,h2⟩:=h;exact ⟨vs,by rw [hw rfl];exact h1,h2.evo e⟩
  | dc kvs=>obtain ⟨vs,h1,h2,h3,h4⟩:=h;exact ⟨vs,by rw [hw rfl];exact h1,h2,h3,h4.evo e⟩
  | ob C fs=>obtain ⟨c,dx,vs,h1,h2,h3,h4,h5⟩:=h;exact ⟨c,dx,vs,by rw [hw rfl];exact h1,h2,h3,h4,h5.evo e⟩
theorem Holds.some_ {o:SO} {a:Addr} (h:Holds K φ N H o a) (hw:o.wr=true):∃ u,H a=some u:=by
  cases o with
  | ro xs=>cases hw
  | rw xs=>obtain ⟨vs,h1,_⟩:=h;exact ⟨_,h1⟩
  | dc kvs=>obtain ⟨vs,h1,_⟩:=h;exact ⟨_,h1⟩
  | ob C fs=>obtain ⟨c,dx,vs,h1,_⟩:=h;exact ⟨_,h1⟩
theorem Rep.laid {o:HO} (R:Rep K φ st H) (hp:H p=none):Rep K φ st (upd H p o) :=
  ⟨R.injA,fun i x e=>(R.all i x e).stay (evo_new hp) (fun _ h=>sqR_upd h hp) fun w=>by
    obtain ⟨u,h⟩:=(R.all i x e).some_ w
    exact upd_ne (ne_of_none h hp)⟩
noncomputable def phiNew (φ:Nat→Addr) (n:Nat) (p:Addr):Nat→Addr:=fun i=>if i=n then p else φ i
theorem phi_at {n:Nat}:phiNew φ n p n=p:=by unfold phiNew;rw [if_pos rfl]
theorem phi_lt {n i:Nat} (h:i < n):phiNew φ n p i=φ i:=by unfold phiNew;rw [if_neg (Nat.ne_of_lt h)]
theorem evo_add {o:SO} {u:HO} (hp:H p=none):Evo K φ st.length H (phiNew φ st.length p) (st ++ [o]).length (upd H p u) :=
  ⟨by rw [List.length_append];exact Nat.le_add_right _ _,fun i hi=>phi_lt hi,fun _ _ h=>sqT_upd h hp,fun _ _ h=>isL_upd h hp,fun _ _ h=>isD_upd h hp,fun _ _ h=>isO_upd h hp⟩
theorem evo_lst {vs:List V} {xs:List Dt} (hp:H p=none):Evo K φ st.length H (phiNew φ st.length p) (st ++ [SO.rw xs]).length (upd H p (.lst vs)):=evo_add hp
theorem get_snoc {α:Type} {l:List α} {x y:α} {i:Nat} (e:(l ++ [x])[i]? = some y):(i < l.length∧l[i]? = some y)∨(i=l.length∧y=x):=by
  by_cases h:i < l.length
  · left
    rw [List.getElem?_append_left h] at e
    exact ⟨h,e⟩
  · right
    rw [List.getElem?_append_right (Nat.not_lt.mp h)] at e
    have h0:i - l.length=0:=by
      cases q:i - l.length with
      | zero=>rfl
      | succ n=>rw [q] at e;simp at e
    rw [h0] at e
    have:x=y:=by simpa using e
    exact ⟨by omega,this.symm⟩
theorem lt_of_get {α:Type} {l:List α} {y:α} {i:Nat} (e:l[i]? = some y):i < l.length:=(List.getElem?_eq_some_iff.mp e).1
theorem Rep.add {o:SO} {u:HO} (R:Rep K φ st H) (hp:H p=none) (hd:Holds K (phiNew φ st.length p) (st ++ [o]).length (upd H p u) o p):Rep K (phiNew φ st.length p) (st ++ [o]) (upd H p u):=by
  have ev:Evo K φ st.length H (phiNew φ st.length p) (st ++ [o]).length (upd H p u):=evo_add hp
  have notp:∀ (i:Nat) x,st[i]? = some x→x.wr=true→φ i≠p:=fun i x e w z=>by
    obtain ⟨v,h⟩:=(R.all i x e).some_ w
    rw [z,hp] at h;cases h
  refine ⟨fun i j a b e1 e2 w1 w2 h=>?_,fun i x e=>?_⟩
  · rcases get_snoc e1 with ⟨l1,e1⟩ | ⟨l1,e1⟩
    · rcases get_snoc e2 with ⟨l2,e2⟩ | ⟨l2,e2⟩
      · rw [phi_lt l1,phi_lt l2] at h
        exact R.injA i j _ _ e1 e2 w1 w2 h
      · rw [phi_lt l1,l2,phi_at] at h
        exact absurd h (notp i _ e1 w1)
    · rcases get_snoc e2 with ⟨l2,e2⟩ | ⟨l2,e2⟩
      · rw [phi_lt l2,l1,phi_at] at h
        exact absurd h.symm (notp j _ e2 w2)
      · rw [l1,l2]
  · rcases get_snoc e with ⟨l1,e1⟩ | ⟨l1,e1⟩
    · rw [phi_lt l1]
      exact (R.all i x e1).stay ev (fun _ h=>sqR_upd h hp) fun w=>upd_ne (notp i x e1 w)
    · rw [l1,phi_at,e1];exact hd
theorem Rep.newL {vs:List V} {xs:List Dt} (R:Rep K φ st H) (hp:H p=none) (hd:DL K φ st.length H xs vs):Rep K (phiNew φ st.length p) (st ++ [.rw xs]) (upd H p (.lst vs)) :=
  R.add hp ⟨vs,upd_same,hd.evo (evo_add hp)⟩
theorem sqT_updW {a:Addr} {vs:List V} {u w:HO} (h:SqT K H a vs) (hp:H p=some u) (h1:∀ xs,u≠.tup xs) (h2:∀ o x,u≠.frz o x):SqT K (upd H p w) a vs:=by
  rcases h with (h | ⟨ob,h⟩) | h
  · exact .inl (.inl (by rw [upd_ne (ne_of h hp (fun z=>h1 _ z.symm))];exact h))
  · exact .inl (.inr ⟨ob,by rw [upd_ne (ne_of h hp (fun z=>h2 _ _ z.symm))];exact h⟩)
  · exact .inr h
theorem sqR_updW {a:Addr} {vs:List V} {u w:HO} (h:SqR K H a vs) (hp:H p=some u) (h2:∀ o x,u≠.frz o x):SqR K (upd H p w) a vs:=by
  rcases h with ⟨ob,h⟩ | h
  · exact .inl ⟨ob,by rw [upd_ne (ne_of h hp (fun z=>h2 _ _ z.symm))];exact h⟩
  · exact .inr h
noncomputable def sameK:HO→HO→Prop
  | .lst _,.lst _=>True
  | .dK _,.dK _=>True
  | .ins _ _ _,.ins _ _ _=>True
  | _,_=>False
theorem isL_updW {a:Addr} {u w:HO} (h:IsL K H a) (hp:H p=some u) (hk:sameK u w):IsL K (upd H p w) a:=by
  by_cases e:a=p
  · subst e
    cases u <;> cases w <;> first | exact hk.elim | skip
    · exact ⟨_,SqL.of upd_same⟩
    · obtain ⟨vs,(h | ⟨ob,h⟩) | h⟩:=h
      · rw [hp] at h;cases h
      · rw [hp] at h;cases h
      · exact ⟨vs,.inr h⟩
    · obtain ⟨vs,(h | ⟨ob,h⟩) | h⟩:=h
      · rw [hp] at h;cases h
      · rw [hp] at h;cases h
      · exact ⟨vs,.inr h⟩
  · obtain ⟨vs,(h | ⟨ob,h⟩) | h⟩:=h
    · exact ⟨vs,.inl (.inl (by rw [upd_ne e];exact h))⟩
    · exact ⟨vs,.inl (.inr ⟨ob,by rw [upd_ne e];exact h⟩)⟩
    · exact ⟨vs,.inr h⟩
theorem isD_updW {a:Addr} {u w:HO} (h:IsD H a) (hp:H p=some u) (hk:sameK u w):IsD (upd H p w) a:=by
  by_cases e:a=p
  · subst e
    obtain ⟨vs,h⟩:=h
    rw [hp] at h
    cases h
    cases w <;> first | exact hk.elim | exact ⟨_,upd_same⟩
  · obtain ⟨vs,h⟩:=h
    exact ⟨vs,by rw [upd_ne e];exact h⟩
theorem isO_updW {a:Addr} {u w:HO} (h:IsO H a) (hp:H p=some u) (hk:sameK u w):IsO (upd H p w) a:=by
  by_cases e:a=p
  · subst e
    obtain ⟨c,d,f,h⟩:=h
    rw [hp] at h
    cases h
    cases w <;> first | exact hk.elim | exact ⟨_,_,_,upd_same⟩
  · obtain ⟨c,d,f,h⟩:=h
    exact ⟨c,d,f,by rw [upd_ne e];exact h⟩
theorem sameK_ne {u w:HO} (hk:sameK u w):(∀ xs,u≠.tup xs)∧∀ o x,u≠.frz o x:=by
  cases u <;> first | exact hk.elim | exact ⟨(fun _ z=>nomatch z),(fun _ _ z=>nomatch z)⟩
theorem evo_setW {n:Nat} {u w:HO} {o:SO} (hn:n < st.length) (h:H (φ n)=some u) (hk:sameK u w):Evo K φ st.length H φ (st.set n o).length (upd H (φ n) w) :=
  ⟨by rw [List.length_set];exact Nat.le_refl _,fun _ _=>rfl,fun _ _ hh=>sqT_updW hh h (sameK_ne hk).1 (sameK_ne hk).2,fun _ _ hh=>isL_updW hh h hk,fun _ _ hh=>isD_updW hh h hk,fun _ _ hh=>isO_updW hh h hk⟩
theorem evo_set {n:Nat} {vs ws:List V} {o:SO} (h:H (φ n)=some (.lst ws)):Evo K φ st.length H φ (st.set n o).length (upd H (φ n) (.lst vs)) :=
  ⟨by rw [List.length_set];exact Nat.le_refl _,fun _ _=>rfl,fun _ _ hh=>sqT_updL hh h,fun _ _ hh=>isL_updW hh h trivial,fun _ _ hh=>isD_updW hh h trivial,fun _ _ hh=>isO_updW hh h trivial⟩
theorem Rep.put {n:Nat} {u w:HO} {o q:SO} (R:Rep K φ st H) (hn:st[n]? = some q) (hq:q.wr=true) (ho:o.wr=true) (h:H (φ n)=some u) (hk:sameK u w) (hd:Holds K φ (st.set n o).length (upd H (φ n) w) o (φ n)):Rep K φ (st.set n o) (upd H (φ n) w):=by
  have hlt:=lt_of_get hn
  have ev:Evo K φ st.length H φ (st.set n o).length (upd H (φ n) w):=evo_setW hlt h hk
  have get:∀ {i:Nat} {x:SO},(st.set n o)[i]? = some x→(i=n∧x=o)∨(i≠n∧st[i]? = some x):=fun {i x} e=>by
    by_cases h:i=n
    · left
      subst h
      rw [List.getElem?_set_self hlt] at e
      exact ⟨rfl,(Option.some.inj e).symm⟩
    · right
      rw [List.getElem?_set_ne (Ne.symm h)] at e
      exact ⟨h,e⟩
  refine ⟨fun i j a b e1 e2 w1 w2 hh=>?_,fun i x e=>?_⟩
  · have g:∀ {i:Nat} {a:SO},(st.set n o)[i]? = some a→a.wr=true→∃ a',st[i]? = some a'∧a'.wr=true:=fun {i a} e w=>by
      rcases get e with ⟨h,_⟩ | ⟨_,h⟩
      · rw [h];exact ⟨q,hn,hq⟩
      · exact ⟨a,h,w⟩
    obtain ⟨z1,g1,y1⟩:=g e1 w1
    obtain ⟨z2,g2,y2⟩:=g e2 w2
    exact R.injA i j z1 z2 g1 g2 y1 y2 hh
  · rcases get e with ⟨h1,h2⟩ | ⟨h1,h2⟩
    · rw [h1,h2];exact hd
    · exact (R.all i x h2).stay ev (fun _ hh=>sqR_updW hh h (sameK_ne hk).2) fun w=>upd_ne fun z=>h1 (R.injA i n x q h2 hn w hq z)
theorem Rep.setL {n:Nat} {vs:List V} {xs ys:List Dt} (R:Rep K φ st H) (hn:st[n]? = some (.rw ys)) (hd:DL K φ st.length H xs vs):Rep K φ (st.set n (.rw xs)) (upd H (φ n) (.lst vs)):=by
  obtain ⟨ws,hw,_⟩:=R.rw n ys hn
  exact R.put hn rfl rfl hw trivial ⟨vs,upd_same,hd.evo (evo_set hw)⟩
end
noncomputable abbrev VD:=Dt→Sto→Prop
noncomputable abbrev TD:=Rho→Sto→VD→Prop
noncomputable abbrev TBD:=Rho→Sto→(Bool→Sto→Prop)→Prop
noncomputable abbrev TAD:=Rho→Sto→(List Dt→Sto→Prop)→Prop
structure EndsD where
  nx:Rho→Sto→Prop
  rt:VD
  bk:Rho→Sto→Prop:=fun _ _=>False
  ct:Rho→Sto→Prop:=fun _ _=>False
noncomputable abbrev TSD:=EndsD→Rho→Sto→Prop
noncomputable def DR (K:PySem.W.Frag) (φ:Nat→Addr) (N:Nat) (H:Hp) (ρ:Rho) (σ:L2.St):Prop :=
  ρ.length=σ.length∧∀ (i:Nat) d,ρ[i]? = some (some d)→∃ v,σ[i]? = some (some v)∧D K φ N H d v
section
variable {K:PySem.W.Frag} {φ φ':Nat→Addr} {N N':Nat} {H H':Hp} {ρ:Rho} {σ:L2.St}
theorem DR.evo (h:DR K φ N H ρ σ) (e:Evo K φ N H φ' N' H'):DR K φ' N' H' ρ σ :=
  ⟨h.1,fun i d q=>let ⟨v,h1,h2⟩:=h.2 i d q;⟨v,h1,h2.evo e⟩⟩
theorem DR.set {d:Dt} {v:V} (h:DR K φ N H ρ σ) (hd:D K φ N H d v) (i:Nat):DR K φ N H (ρ.set i (some d)) (σ.set i (some v)):=by
  refine ⟨by rw [List.length_set,List.length_set];exact h.1,fun j e q=>?_⟩
  by_cases hj:j=i
  · subst hj
    have hl:j < ρ.length:=by
      have:=lt_of_get q
      rwa [List.length_set] at this
    rw [List.getElem?_set_self hl] at q
    cases q
    exact ⟨v,by rw [List.getElem?_set_self (by rw [← h.1];exact hl)],hd⟩
  · rw [List.getElem?_set_ne (Ne.symm hj)] at q
    rw [List.getElem?_set_ne (Ne.symm hj)]
    exact h.2 j e q
end
noncomputable def Pre (K:PySem.W.Frag) (φ:Nat→Addr) (st:Sto) (H:Hp) (ρ:Rho) (σ:L2.St):Prop:=Rep K φ st H∧DR K φ st.length H ρ σ
noncomputable def Bhd (K:PySem.W.Frag) (φ:Nat→Addr) (st:Sto) (H:Hp) (φ':Nat→Addr) (st':Sto) (H':Hp):Prop:=Rep K φ' st' H'∧Evo K φ st.length H φ' st'.length H'
noncomputable def liftE (K:PySem.W.Frag) (t:TD):TE:=fun σ H Q=>∃ φ st ρ P,Pre K φ st H ρ σ∧t ρ st P ∧
  ∀ d st',P d st'→∀ φ' H' v,Bhd K φ st H φ' st' H'→D K φ' st'.length H' d v→Q v H'
noncomputable def liftT (K:PySem.W.Frag) (t:TBD):TT:=fun σ H Q=>∃ φ st ρ P,Pre K φ st H ρ σ∧t ρ st P ∧
  ∀ b st',P b st'→∀ φ' H',Bhd K φ st H φ' st' H'→Q b H'
noncomputable def liftA (K:PySem.W.Frag) (t:TAD):TA:=fun σ H Q=>∃ φ st ρ P,Pre K φ st H ρ σ∧t ρ st P ∧
  ∀ ds st',P ds st'→∀ φ' H' vs,Bhd K φ st H φ' st' H'→DL K φ' st'.length H' ds vs→Q vs H'
noncomputable def liftS (K:PySem.W.Frag) (t:TSD):TS:=fun E σ H=>∃ φ st ρ P,Pre K φ st H ρ σ∧t P ρ st ∧
  (∀ ρ' st',P.nx ρ' st'→∀ φ' H' σ',Bhd K φ st H φ' st' H'→DR K φ' st'.length H' ρ' σ'→E.nx σ' H') ∧
  (∀ ρ' st',P.bk ρ' st'→∀ φ' H' σ',Bhd K φ st H φ' st' H'→DR K φ' st'.length H' ρ' σ'→E.bk σ' H') ∧
  (∀ ρ' st',P.ct ρ' st'→∀ φ' H' σ',Bhd K φ st H φ' st' H'→DR K φ' st'.length H' ρ' σ'→E.ct σ' H') ∧
  (∀ d st',P.rt d st'→∀ φ' H' v,Bhd K φ st H φ' st' H'→D K φ' st'.length H' d v→E.rt v H')
noncomputable def DE (X:Cx) (e:Expr) (t:TD):Prop:=PE X e (liftE X.K t)
noncomputable def DT (X:Cx) (e:Expr) (t:TBD):Prop:=PT X e (liftT X.K t)
noncomputable def DA (X:Cx) (es:List Expr) (t:TAD):Prop:=PA X es (liftA X.K t)
noncomputable def DS (X:Cx) (s:Stmt) (t:TSD):Prop:=PS X s (liftS X.K t)
noncomputable def DSs (X:Cx) (s:List Stmt) (t:TSD):Prop:=PSs X s (liftS X.K t)
section
variable {K:PySem.W.Frag} {φ φ1 φ2:Nat→Addr} {st st1 st2:Sto} {H H1 H2:Hp} {ρ:Rho} {σ:L2.St}
theorem Bhd.refl (h:Rep K φ st H):Bhd K φ st H φ st H:=⟨h,.refl⟩
theorem Bhd.trans (a:Bhd K φ st H φ1 st1 H1) (b:Bhd K φ1 st1 H1 φ2 st2 H2):Bhd K φ st H φ2 st2 H2:=⟨b.1,a.2.trans b.2⟩
theorem Pre.on (p:Pre K φ st H ρ σ) (b:Bhd K φ st H φ1 st1 H1):Pre K φ1 st1 H1 ρ σ:=⟨b.1,p.2.evo b.2⟩
end
theorem _root_.L2.PE.imp {X:Cx} {e:Expr} {t t':TE} (h:PE X e t) (i:∀ σ H Q,t' σ H Q→t σ H Q):PE X e t':=fun pins s σ H Q I q=>h pins s σ H Q I (i σ H Q q)
theorem _root_.L2.PT.imp {X:Cx} {e:Expr} {t t':TT} (h:PT X e t) (i:∀ σ H Q,t' σ H Q→t σ H Q):PT X e t':=fun pins s σ H Q I q=>h pins s σ H Q I (i σ H Q q)
theorem _root_.L2.PA.imp {X:Cx} {es:List Expr} {t t':TA} (h:PA X es t) (i:∀ σ H Q,t' σ H Q→t σ H Q):PA X es t':=fun pos pins s σ H Q I q=>h pos pins s σ H Q I (i σ H Q q)
theorem _root_.L2.PS.imp {X:Cx} {e:Stmt} {t t':TS} (h:PS X e t) (i:∀ D σ H,t' D σ H→t D σ H):PS X e t':=fun pins s σ H Dn I q=>h pins s σ H Dn I (i Dn σ H q)
theorem _root_.L2.PSs.imp {X:Cx} {e:List Stmt} {t t':TS} (h:PSs X e t) (i:∀ D σ H,t' D σ H→t D σ H):PSs X e t':=fun pins s σ H Dn I q=>h pins s σ H Dn I (i Dn σ H q)
end L3
namespace L3
open PySem PySem.Spec PyProof.Rows L2
open AutoSeq1 (wpAny_loadPart')
section
variable {prog:Program} {w:World} {A:Around} {E:Value→Shared→Prop} {s:Shared}
theorem cat_tupA {t b:Addr} {vs ws:List Value} {Q:Value→Shared→Prop} (ht:IsTup s.heap t vs.toArray) (hb:IsTup s.heap b ws.toArray)
    (h0:vs=[]→Q (.ref b) s) (h1:vs≠[]→ws=[]→Q (.ref t) s) (h2:vs≠[]→ws≠[]→Q (.ref s.heap.objs.size) { s with heap:=s.heap.push { cls:=.type "tuple",data:=.seq (vs ++ ws).toArray } })
    (hsz:vs.length + ws.length≤sizeLine):wpAny (model prog w) A (binaryOp .Add (.ref t) (.ref b)) Q E s:=by
  by_cases hv:vs=[]
  · obtain ⟨⟨cls,dd,data,sl⟩,ho,hc,n,hd⟩:=id ht
    obtain ⟨⟨cls2,dd2,data2,sl2⟩,ho2,hc2,n2,hd2⟩:=id hb
    simp only at hc hd hc2 hd2
    subst hc hd hc2 hd2
    exact concat_meets ⟨_,ho,rfl⟩ ⟨_,ho2,rfl⟩ noFill_tuple_add seq_tuple_add PySem.F.slot_tuple_add PySem.F.entry_tuple_add (PySem.F.args_tuple_add_2 _ _)
      (tuple_addW0 t b vs.toArray ws.toArray n n2 dd dd2 sl sl2 (by simp [hv])) ⟨ho,ho2,h0 hv⟩
  · exact HT.cat_tup ht hb hv (h1 hv) (h2 hv) hsz
end
theorem noFill_tuple_mul:fillsNumberSlot (.type "tuple") "mul" = pure false :=
  PySem.fillsNumberSlot_seq (id:= "tuple.__mul__") (r:=some (.builtin "tuple.__rmul__")) F.slot_tuple_mul.lookup (by decide +kernel) F.slot_tuple_rmul.lookup (by decide +kernel)
theorem repeat_tuple:seqRepeat? (.type "tuple")=pure (some (.builtin "tuple.__mul__")):=by
  unfold seqRepeat?
  rw [PySem.seqSlot_of (T:= "tuple") (name:= "__mul__") (id:= "tuple.__mul__") F.slot_tuple_mul.lookup (by decide +kernel),PySem.seqSlot_of (T:= "tuple") (name:= "__rmul__") (id:= "tuple.__rmul__") F.slot_tuple_rmul.lookup (by decide +kernel)]
  rfl
theorem int_rmul_tuple (a:Int) (t:Tok) (l:Addr) (items:Array Value) (n:Nat) (d:Option Addr) (sl:Array (Option Value)) :
    Meets (Builtin.«int.__rmul__» ⟨[.int a t,.ref l],[]⟩) (fun _ R s=>s.heap.get? l=some { cls:=.type "tuple",dict:=d,data:=.seq items n,slots:=sl }∧R (.ok (.ret Value.notImplemented)) s) :=
  .of_wp fun prog w A R s h=>by obtain ⟨hp,g,d,tk,os⟩:=s;obtain ⟨hl,h⟩:=h;wp_walk;exact ⟨_,rfl,h⟩
theorem tuple_mulW (l:Addr) (items:Array Value) (n:Nat) (d:Option Addr) (sl:Array (Option Value)) (x:Int) (u:Tok) (h0:items.isEmpty=false) (h1:2≤x) (h2:x < 2 ^ 20) (h3:items.size * x.toNat≤sizeLine) :
    Meets (Builtin.«tuple.__mul__» ⟨[.ref l,.int x u],[]⟩) (fun _ R s=>s.heap.get? l=some { cls:=.type "tuple",dict:=d,data:=.seq items n,slots:=sl } ∧
      R (.ok (.ret (Value.ref s.heap.objs.size))) { s with heap:=s.heap.push { cls:=Value.type "tuple",data:=Data.seq (List.foldl (fun x1 x2=>x1 ++ x2) #[] (List.replicate x.toNat items)) },toks:=s.toks }) :=
  .of_wp fun prog w A R s h=>by
    obtain ⟨hp,g,d,tk,os⟩:=s;obtain ⟨hl,h⟩:=h
    have f1:=AutoSeq1.idx_int
    have e1:(decide (x < -(2 ^ 63)) || decide (x ≥ 2 ^ 63))=false:=by
      rw [decide_eq_false (by omega),decide_eq_false (by omega)];rfl
    have e2:(items.isEmpty || x == 1)=false:=by
      rw [h0,Bool.false_or];exact beq_eq_false_iff_ne.mpr (by omega)
    have e3:(decide (x≤0) || items.isEmpty)=false:=by
      rw [h0,Bool.or_false];exact decide_eq_false (by omega)
    have e4:¬ ((items.size:Int) * x > (2 ^ 63 - 1) / 8):=by
      have hb:items.size * x.toNat≤16777216:=by rw [← sizeLine_eq];exact h3
      have:(items.size:Int) * x=((items.size * x.toNat:Nat):Int):=by
        rw [Int.natCast_mul,Int.toNat_of_nonneg (by omega)]
      rw [this]
      omega
    wp_walk using wpAny_loadPart' hl
    rw [if_neg (fun q=>Bool.false_ne_true (e1.symm.trans q))]
    wp_walk using wpAny_loadPart' hl
    rw [if_neg (fun q=>Bool.false_ne_true (e2.symm.trans q))]
    wp_walk using wpAny_loadPart' hl
    rw [if_neg (fun q=>Bool.false_ne_true (e3.symm.trans q))]
    wp_walk using wpAny_loadPart' hl
    rw [if_neg e4]
    wp_walk using wpAny_loadPart' hl
    have hx:(items.size:Int) * x=((items.size * x.toNat:Nat):Int):=by
      rw [Int.natCast_mul,Int.toNat_of_nonneg (by omega)]
    have e5:Builtin.Tuple.tupleTooMany ((items.size:Int) * x)=false:=by
      unfold Builtin.Tuple.tupleTooMany
      rw [hx]
      exact decide_eq_false (by omega)
    rw [if_neg (fun q=>Bool.false_ne_true (e5.symm.trans q))]
    have f0:List.foldl (fun x1 x2=>x1 ++ x2) #[] (List.replicate x.toNat items)=(List.replicate x.toNat items.toList).flatten.toArray:=by
      have:=foldl_rep items.toList x.toNat []
      rw [List.nil_append,Array.toArray_toList] at this
      exact this
    have hsz:sizeOk (.seq (List.foldl (fun x1 x2=>x1 ++ x2) #[] (List.replicate x.toNat items))):=by
      show (List.foldl (fun x1 x2=>x1 ++ x2) #[] (List.replicate x.toNat items)).size≤sizeLine
      rw [f0,List.size_toArray,len_rep,Array.length_toList,Nat.mul_comm]
      exact h3
    unfold Builtin.Tuple.tupleExact
    exact wpAny_bind (wpAny_newObj_type (wpAny_pure ⟨_,rfl,h⟩) hsz)
section
variable {X:Cx}
theorem op_catA:OpR X (binaryOp .Add) (fun x y H Q=>∃ a b xs ys,x = .ref a∧y = .ref b∧SqT X.K H a xs∧SqT X.K H b ys∧xs.length + ys.length≤sizeLine ∧
    (xs=[]→Q (.ref b) H)∧(xs≠[]→ys=[]→Q (.ref a) H)∧(xs≠[]→ys≠[]→∀ p,H p=none→Q (.ref p) (upd H p (.tup (xs ++ ys))))):=by
  intro pins s σ H x y v u Q I rx ry h
  obtain ⟨a,b,xs,ys,rfl,rfl,ha,hb,hz,q0,q1,q2⟩:=h
  cases rx
  cases ry
  obtain ⟨its,r1,p1,_⟩:=I.tuple ha
  obtain ⟨its2,r2,p2,_⟩:=I.tuple hb
  refine cat_tupA p1 p2 (fun z=>⟨.ref b,H,I,rfl,q0 (r1.nil_iff.mp z)⟩) (fun z1 z=>⟨.ref a,H,I,rfl,q1 (fun w=>z1 (r1.nil_iff.mpr w)) (r2.nil_iff.mp z)⟩) (fun z1 z=>?_) (by rw [← r1.length,← r2.length];exact hz)
  refine ⟨.ref s.heap.objs.size,_,I.laid (t':=s.toks) (o:=.tup (xs ++ ys)) (fun b ob q=>Heap.get?_push_of_some _ q) (Nat.le_refl _) ?_,rfl,q2 (fun w=>z1 (r1.nil_iff.mpr w)) (fun w=>z (r2.nil_iff.mpr w)) _ (I.hok.fresh (Nat.le_refl _))⟩
  exact ⟨by rw [List.length_append];exact hz,_,r1.append r2,IsTup.new _ _⟩
theorem op_repT:OpR X (binaryOp .Mult) (fun x y H Q=>∃ a k xs,x = .ref a∧y = .int k∧SqT X.K H a xs∧xs≠[]∧2≤k∧k < 2 ^ 20∧xs.length * k.toNat≤sizeLine ∧
    ∀ p,H p=none→Q (.ref p) (upd H p (.tup (List.replicate k.toNat xs).flatten))):=by
  intro pins s σ H x y v u Q I rx ry h
  obtain ⟨a,k,xs,rfl,rfl,ha,hne,h2,h3,hz,q⟩:=h
  cases rx
  obtain ⟨t,rfl⟩:=ry
  obtain ⟨its,r1,p1,_⟩:=I.tuple ha
  have hl:=r1.length
  obtain ⟨⟨cls,dd,data,sl⟩,ho,hc,n,hd⟩:=id p1
  simp only at hc hd
  subst hc hd
  have f0:List.foldl (fun x1 x2=>x1 ++ x2) #[] (List.replicate k.toNat its.toArray)=(List.replicate k.toNat its).flatten.toArray:=by
    have:=foldl_rep its k.toNat []
    rw [List.nil_append] at this
    exact this
  have hz':its.toArray.size * k.toNat≤sizeLine:=by rw [List.size_toArray,← hl];exact hz
  have he:its.toArray.isEmpty=false:=by
    cases its with
    | nil=>exact absurd (List.length_eq_zero_iff.mp hl) hne
    | cons _ _=>rfl
  refine wpAny_binaryOp_repeat_ref (T:= "tuple") (U:= "int") (by decide) ⟨_,ho,rfl⟩ (fun s'=>typeIs_int s' k t) noFill_tuple_mul F.fills_int_mul F.slot_int_rmul repeat_tuple F.slot_int_index.lookup
    (call_meets F.slot_int_rmul (typeIs_int s k t) F.entry_int_rmul (F.args_int_rmul_2 _ _) (int_rmul_tuple k t a its.toArray n dd sl)
      ⟨ho,rfl,⟨_,ho,rfl⟩,call_meets F.slot_tuple_mul ⟨_,ho,rfl⟩ F.entry_tuple_mul (F.args_tuple_mul_2 _ _) (tuple_mulW a its.toArray n dd sl k t he h2 h3 hz') ⟨ho,?_⟩⟩)
  rw [f0]
  refine ⟨.ref s.heap.objs.size,_,I.laid (t':=s.toks) (o:=.tup (List.replicate k.toNat xs).flatten) (fun b ob q=>Heap.get?_push_of_some _ q) (Nat.le_refl _) ?_,rfl,q _ (I.hok.fresh (Nat.le_refl _))⟩
  exact ⟨by rw [len_rep,Nat.mul_comm];exact hz,_,Vals.rep r1 _,IsTup.new _ _⟩
end
end L3
namespace L3
open PySem PySem.Spec PyProof.Rows L2
noncomputable def okD:Nat→Dt→Bool
  | 0,.tup _=>false
  | n + 1,.tup xs=>xs.all (okD n)
  | _,.lst _=>false
  | _,.ty _=>false
  | _,.dic _=>false
  | _,.ins _=>false
  | _,_=>true
noncomputable def eqL (f:Dt→Dt→Bool):List Dt→List Dt→Bool
  | [],[]=>true
  | x :: xs,y :: ys=>f x y && eqL f xs ys
  | _,_=>false
noncomputable def eqD:Nat→Dt→Dt→Bool
  | _,.non,.non=>true
  | _,.bl a,.bl b=>a == b
  | _,.bl a,.int b=>(if a then 1 else 0) == b
  | _,.int a,.bl b=>a == (if b then 1 else 0)
  | _,.int a,.int b=>a == b
  | _,.str a,.str b=>a == b
  | n + 1,.tup a,.tup b=>eqL (eqD n) a b
  | _,_,_=>false
theorem eqL_self {f:Dt→Dt→Bool}:∀ {xs:List Dt},(∀ x ∈ xs,f x x=true)→eqL f xs xs=true
  | [],_=>rfl
  | x :: xs,h=>by
    unfold eqL
    rw [h x List.mem_cons_self,eqL_self fun y hy=>h y (List.mem_cons_of_mem _ hy)]
    rfl
theorem eqD_self:∀ {n:Nat} {d:Dt},okD n d=true→eqD n d d=true
  | 0,.tup _,h=>by simp [okD] at h
  | n + 1,.tup xs,h=>by
    simp only [okD] at h
    simp only [eqD]
    exact eqL_self fun x hx=>eqD_self (List.all_eq_true.mp h x hx)
  | n,.non,_=>by cases n <;> rfl
  | n,.bl b,_=>by cases n <;> simp [eqD]
  | n,.int b,_=>by cases n <;> simp [eqD]
  | n,.str b,_=>by cases n <;> simp [eqD]
  | n,.lst _,h=>by cases n <;> simp [okD] at h
  | n,.ty _,h=>by cases n <;> simp [okD] at h
  | n,.dic _,h=>by cases n <;> simp [okD] at h
  | n,.ins _,h=>by cases n <;> simp [okD] at h
theorem eqL_range {f:Dt→Dt→Bool}:∀ (xs ys:List Dt),eqL f xs ys=((List.range (min xs.length ys.length)).all (fun j=>f (xs.getD j .non) (ys.getD j .non)) && xs.length == ys.length)
  | [],[]=>rfl
  | [],_ :: _=>by simp [eqL]
  | _ :: _,[]=>by simp [eqL]
  | x :: xs,y :: ys=>by
    unfold eqL
    rw [eqL_range xs ys]
    have e:min (x :: xs).length (y :: ys).length=min xs.length ys.length + 1:=by simp [Nat.succ_min_succ]
    rw [e,List.range_succ_eq_map,List.all_cons,List.all_map]
    simp only [List.getD_cons_zero,List.length_cons]
    have e2:((xs.length + 1 == ys.length + 1):Bool)=(xs.length == ys.length):=by
      rw [Bool.eq_iff_iff];simp
    rw [e2,Bool.and_assoc]
    rfl
section
variable {X:Cx} {pins:List (Addr×Obj)} {σ:L2.St} {H:Hp} {s:Shared} {φ:Nat→Addr} {N:Nat}
theorem getD_of {xs:List Dt} {j:Nat} {d:Dt} (h:xs[j]? = some d):xs.getD j .non=d:=by simp [List.getD,h]
theorem DL_inj0 {f:Dt→Bool} (hf:∀ {d e:Dt} {v:V},f d=true→f e=true→D X.K φ N H d v→D X.K φ N H e v→d=e):∀ {a b:List Dt} {vs:List V},DL X.K φ N H a vs→DL X.K φ N H b vs→a.all f=true→b.all f=true→a=b
  | [],[],_,_,_,_,_=>rfl
  | [],y :: b,vs,h1,h2,_,_=>by
    have:=h1.length;have:=h2.length;simp at *;omega
  | x :: a,[],vs,h1,h2,_,_=>by
    have:=h1.length;have:=h2.length;simp at *;omega
  | x :: a,y :: b,vs,h1,h2,o1,o2=>by
    rw [List.all_cons,Bool.and_eq_true] at o1 o2
    simp only [DL] at h1 h2
    obtain ⟨v,r,rfl,p1,p2⟩:=h1
    obtain ⟨v',r',e,q1,q2⟩:=h2
    cases e
    rw [hf o1.1 o2.1 p1 q1,DL_inj0 hf p2 q2 o1.2 o2.2]
theorem D_inj (I:Inv X pins σ H s):∀ (n:Nat) {d e:Dt} {v:V},okD n d=true→okD n e=true→D X.K φ N H d v→D X.K φ N H e v→d=e:=by
  intro n
  induction n with
  | zero =>
    intro d e v o1 o2 h1 h2
    cases d <;> cases e <;> first
      | (exfalso;revert o1;simp [okD];done)
      | (exfalso;revert o2;simp [okD];done)
      | (simp only [D] at h1 h2;subst h1;first | (cases h2;rfl) | (cases h2))
  | succ n ih =>
    intro d e v o1 o2 h1 h2
    cases d <;> cases e <;> first
      | (exfalso;revert o1;simp [okD];done)
      | (exfalso;revert o2;simp [okD];done)
      | (simp only [D] at h1 h2;subst h1;first | (cases h2;rfl) | (cases h2;done) | (obtain ⟨_,_,z,_⟩:=h2;cases z))
      | (simp only [D] at h1 h2;subst h2;obtain ⟨_,_,z,_⟩:=h1;cases z)
      | (simp only [okD] at o1 o2
         obtain ⟨p,vs,e1,hs,hd⟩:=h1.tup
         obtain ⟨q,ws,e2,hs2,hd2⟩:=h2.tup
         rw [e1] at e2
         cases e2
         have:=I.tuple_inj hs hs2
         subst this
         rw [DL_inj0 (f:=okD n) (fun a b c d=>ih a b c d) hd hd2 o1 o2])
theorem DL_inj (I:Inv X pins σ H s) {n:Nat} {a b:List Dt} {vs:List V} (h1:DL X.K φ N H a vs) (h2:DL X.K φ N H b vs) (o1:a.all (okD n)=true) (o2:b.all (okD n)=true):a=b :=
  DL_inj0 (fun a b c d=>D_inj I n a b c d) h1 h2 o1 o2
theorem eqAt_D (I:Inv X pins σ H s):∀ (n:Nat) {A:Around} {d e:Dt} {v w:V} {u1 u2:Value},A.units + n < cLine→okD n d=true→okD n e=true→D X.K φ N H d v→D X.K φ N H e w→RelV v u1→RelV w u2→SeqAt.EqAt A s u1 u2 (eqD n d e)
  | n,A,.non,.non,v,w,u1,u2,hu,_,_,h1,h2,r1,r2=>by cases h1.non;cases h2.non;cases r1;cases r2;cases n <;> exact SeqAt.EqAt.same _
  | n,A,.non,.bl b,v,w,u1,u2,hu,_,_,h1,h2,r1,r2=>by cases h1.non;cases h2.bl;cases r1;cases r2;cases n <;> exact SeqAt.EqAt.none_bool b
  | n,A,.non,.int b,v,w,u1,u2,hu,_,_,h1,h2,r1,r2=>by cases h1.non;cases h2.int;cases r1;obtain ⟨t,rfl⟩:=r2;cases n <;> exact SeqAt.EqAt.none_int b t
  | n,A,.non,.str b,v,w,u1,u2,hu,_,_,h1,h2,r1,r2=>by cases h1.non;cases h2.str;cases r1;obtain ⟨t,rfl⟩:=r2;cases n <;> exact SeqAt.EqAt.none_str b t
  | n,A,.bl a,.non,v,w,u1,u2,hu,_,_,h1,h2,r1,r2=>by cases h1.bl;cases h2.non;cases r1;cases r2;cases n <;> exact SeqAt.EqAt.bool_none a
  | n,A,.bl a,.bl b,v,w,u1,u2,hu,_,_,h1,h2,r1,r2=>by cases h1.bl;cases h2.bl;cases r1;cases r2;cases n <;> exact SeqAt.EqAt.bool_bool a b
  | n,A,.bl a,.int b,v,w,u1,u2,hu,_,_,h1,h2,r1,r2=>by cases h1.bl;cases h2.int;cases r1;obtain ⟨t,rfl⟩:=r2;cases n <;> exact SeqAt.EqAt.bool_int a b t
  | n,A,.bl a,.str b,v,w,u1,u2,hu,_,_,h1,h2,r1,r2=>by cases h1.bl;cases h2.str;cases r1;obtain ⟨t,rfl⟩:=r2;cases n <;> exact SeqAt.EqAt.bool_str a b t
  | n,A,.int a,.non,v,w,u1,u2,hu,_,_,h1,h2,r1,r2=>by cases h1.int;cases h2.non;obtain ⟨t,rfl⟩:=r1;cases r2;cases n <;> exact SeqAt.EqAt.int_none a t
  | n,A,.int a,.bl b,v,w,u1,u2,hu,_,_,h1,h2,r1,r2=>by cases h1.int;cases h2.bl;obtain ⟨t,rfl⟩:=r1;cases r2;cases n <;> exact SeqAt.EqAt.int_bool a t b
  | n,A,.int a,.int b,v,w,u1,u2,hu,_,_,h1,h2,r1,r2=>by cases h1.int;cases h2.int;obtain ⟨t,rfl⟩:=r1;obtain ⟨t',rfl⟩:=r2;cases n <;> exact SeqAt.EqAt.int_int a t b t'
  | n,A,.int a,.str b,v,w,u1,u2,hu,_,_,h1,h2,r1,r2=>by cases h1.int;cases h2.str;obtain ⟨t,rfl⟩:=r1;obtain ⟨t',rfl⟩:=r2;cases n <;> exact SeqAt.EqAt.int_str a t b t'
  | n,A,.str a,.non,v,w,u1,u2,hu,_,_,h1,h2,r1,r2=>by cases h1.str;cases h2.non;obtain ⟨t,rfl⟩:=r1;cases r2;cases n <;> exact SeqAt.EqAt.str_none a t
  | n,A,.str a,.bl b,v,w,u1,u2,hu,_,_,h1,h2,r1,r2=>by cases h1.str;cases h2.bl;obtain ⟨t,rfl⟩:=r1;cases r2;cases n <;> exact SeqAt.EqAt.str_bool a t b
  | n,A,.str a,.int b,v,w,u1,u2,hu,_,_,h1,h2,r1,r2=>by cases h1.str;cases h2.int;obtain ⟨t,rfl⟩:=r1;obtain ⟨t',rfl⟩:=r2;cases n <;> exact SeqAt.EqAt.str_int a t b t'
  | n,A,.str a,.str b,v,w,u1,u2,hu,_,_,h1,h2,r1,r2=>by cases h1.str;cases h2.str;obtain ⟨t,rfl⟩:=r1;obtain ⟨t',rfl⟩:=r2;cases n <;> exact SeqAt.EqAt.str_str a t b t'
  | n,A,.tup a,.non,v,w,u1,u2,hu,_,_,h1,h2,r1,r2=>by
    obtain ⟨p,vs,rfl,hs,hd⟩:=h1.tup;cases h2.non;cases r1;cases r2;obtain ⟨its,_,ht,_⟩:=I.tuple hs;cases n <;> exact SeqAt.EqAt.tuple_none ht (by omega)
  | n,A,.tup a,.bl b,v,w,u1,u2,hu,_,_,h1,h2,r1,r2=>by
    obtain ⟨p,vs,rfl,hs,hd⟩:=h1.tup;cases h2.bl;cases r1;cases r2;obtain ⟨its,_,ht,_⟩:=I.tuple hs;cases n <;> exact SeqAt.EqAt.tuple_bool b ht (by omega)
  | n,A,.tup a,.int b,v,w,u1,u2,hu,_,_,h1,h2,r1,r2=>by
    obtain ⟨p,vs,rfl,hs,hd⟩:=h1.tup;cases h2.int;cases r1;obtain ⟨t',rfl⟩:=r2;obtain ⟨its,_,ht,_⟩:=I.tuple hs;cases n <;> exact SeqAt.EqAt.tuple_int b t' ht (by omega)
  | n,A,.tup a,.str b,v,w,u1,u2,hu,_,_,h1,h2,r1,r2=>by
    obtain ⟨p,vs,rfl,hs,hd⟩:=h1.tup;cases h2.str;cases r1;obtain ⟨t',rfl⟩:=r2;obtain ⟨its,_,ht,_⟩:=I.tuple hs;cases n <;> exact SeqAt.EqAt.tuple_str b t' ht (by omega)
  | n,A,.non,.tup b,v,w,u1,u2,hu,_,_,h1,h2,r1,r2=>by
    obtain ⟨p,vs,rfl,hs,hd⟩:=h2.tup;cases h1.non;cases r1;cases r2;obtain ⟨its,_,ht,_⟩:=I.tuple hs;cases n <;> exact SeqAt.EqAt.none_tuple ht (by omega)
  | n,A,.bl a,.tup b,v,w,u1,u2,hu,_,_,h1,h2,r1,r2=>by
    obtain ⟨p,vs,rfl,hs,hd⟩:=h2.tup;cases h1.bl;cases r1;cases r2;obtain ⟨its,_,ht,_⟩:=I.tuple hs;cases n <;> exact SeqAt.EqAt.bool_tuple a ht (by omega)
  | n,A,.int a,.tup b,v,w,u1,u2,hu,_,_,h1,h2,r1,r2=>by
    obtain ⟨p,vs,rfl,hs,hd⟩:=h2.tup;cases h1.int;obtain ⟨t',rfl⟩:=r1;cases r2;obtain ⟨its,_,ht,_⟩:=I.tuple hs;cases n <;> exact SeqAt.EqAt.int_tuple a t' ht (by omega)
  | n,A,.str a,.tup b,v,w,u1,u2,hu,_,_,h1,h2,r1,r2=>by
    obtain ⟨p,vs,rfl,hs,hd⟩:=h2.tup;cases h1.str;obtain ⟨t',rfl⟩:=r1;cases r2;obtain ⟨its,_,ht,_⟩:=I.tuple hs;cases n <;> exact SeqAt.EqAt.str_tuple a t' ht (by omega)
  | 0,A,.tup a,.tup b,v,w,u1,u2,hu,o1,_,h1,h2,r1,r2=>by simp [okD] at o1
  | n + 1,A,.tup a,.tup b,v,w,u1,u2,hu,o1,o2,h1,h2,r1,r2=>by
    simp only [okD] at o1 o2
    obtain ⟨p,vs,rfl,hs,hd⟩:=h1.tup
    obtain ⟨q,ws,rfl,hs2,hd2⟩:=h2.tup
    cases r1;cases r2
    obtain ⟨its,rv,ht,_⟩:=I.tuple hs
    obtain ⟨its2,rv2,ht2,_⟩:=I.tuple hs2
    have l1:its.toArray.size=a.length:=by rw [List.size_toArray,← rv.length,hd.length]
    have l2:its2.toArray.size=b.length:=by rw [List.size_toArray,← rv2.length,hd2.length]
    have hu':A.in1.units + n < cLine:=by show A.units + 1 + n < cLine;omega
    have rc:SeqAt.RcAt A s (.ref p) (.ref q) (eqD (n + 1) (.tup a) (.tup b)):=by
      have:=SeqAt.RcAt.tuples (A:=A) (s:=s) (e:=fun j=>eqD n (a.getD j .non) (b.getD j .non)) ht ht2 (by omega) (fun j h1 h2=>by
        have hj1:j < a.length:=by rw [← l1];exact h1
        have hj2:j < b.length:=by rw [← l2];exact h2
        have ea:a[j]? = some a[j]:=by simp [hj1]
        have eb:b[j]? = some b[j]:=by simp [hj2]
        obtain ⟨x,ex,dx⟩:=hd.get ea
        obtain ⟨y,ey,dy⟩:=hd2.get eb
        obtain ⟨ux,eux,rx⟩:=rv.get ex
        obtain ⟨uy,euy,ry⟩:=rv2.get ey
        have gx:its.toArray[j]=ux:=by
          have:its[j]? = some its[j]:=by simp at h1;simp [h1]
          rw [eux] at this
          simpa using (Option.some.inj this).symm
        have gy:its2.toArray[j]=uy:=by
          have:its2[j]? = some its2[j]:=by simp at h2;simp [h2]
          rw [euy] at this
          simpa using (Option.some.inj this).symm
        rw [gx,gy,getD_of ea,getD_of eb]
        exact eqAt_D I n hu' (List.all_eq_true.mp o1 _ (List.getElem_mem hj1)) (List.all_eq_true.mp o2 _ (List.getElem_mem hj2)) dx dy rx ry)
      rw [l1,l2] at this
      simp only [eqD]
      rw [eqL_range]
      exact this
    by_cases hpq:p=q
    · subst hpq
      have:eqD (n + 1) (.tup a) (.tup b)=true∨eqD (n + 1) (.tup a) (.tup b)=false:=by cases eqD (n + 1) (.tup a) (.tup b) <;> simp
      have e1:its=its2:=by
        obtain ⟨o,e,_,m,d⟩:=ht
        obtain ⟨o',e',_,m',d'⟩:=ht2
        rw [e] at e';cases e'
        rw [d] at d'
        injection d' with d1 _
        simpa using congrArg Array.toList d1
      have ev:vs=ws:=by subst e1;exact rv.inj rv2
      have eab:a=b:=by
        subst ev
        exact DL_inj I hd hd2 o1 o2
      subst eab
      rw [eqD_self (by simp only [okD];exact o1)]
      exact SeqAt.EqAt.same _
    · exact SeqAt.EqAt.of_refs hpq rc
  | n,A,.lst _,_,v,w,u1,u2,hu,o1,_,h1,h2,r1,r2=>by cases n <;> simp [okD] at o1
  | n,A,.ty _,_,v,w,u1,u2,hu,o1,_,h1,h2,r1,r2=>by cases n <;> simp [okD] at o1
  | n,A,.dic _,_,v,w,u1,u2,hu,o1,_,h1,h2,r1,r2=>by cases n <;> simp [okD] at o1
  | n,A,.ins _,_,v,w,u1,u2,hu,o1,_,h1,h2,r1,r2=>by cases n <;> simp [okD] at o1
  | n,A,.non,.lst _,v,w,u1,u2,hu,_,o1,h1,h2,r1,r2=>by cases n <;> simp [okD] at o1
  | n,A,.non,.ty _,v,w,u1,u2,hu,_,o1,h1,h2,r1,r2=>by cases n <;> simp [okD] at o1
  | n,A,.non,.dic _,v,w,u1,u2,hu,_,o1,h1,h2,r1,r2=>by cases n <;> simp [okD] at o1
  | n,A,.non,.ins _,v,w,u1,u2,hu,_,o1,h1,h2,r1,r2=>by cases n <;> simp [okD] at o1
  | n,A,.bl _,.lst _,v,w,u1,u2,hu,_,o1,h1,h2,r1,r2=>by cases n <;> simp [okD] at o1
  | n,A,.bl _,.ty _,v,w,u1,u2,hu,_,o1,h1,h2,r1,r2=>by cases n <;> simp [okD] at o1
  | n,A,.bl _,.dic _,v,w,u1,u2,hu,_,o1,h1,h2,r1,r2=>by cases n <;> simp [okD] at o1
  | n,A,.bl _,.ins _,v,w,u1,u2,hu,_,o1,h1,h2,r1,r2=>by cases n <;> simp [okD] at o1
  | n,A,.int _,.lst _,v,w,u1,u2,hu,_,o1,h1,h2,r1,r2=>by cases n <;> simp [okD] at o1
  | n,A,.int _,.ty _,v,w,u1,u2,hu,_,o1,h1,h2,r1,r2=>by cases n <;> simp [okD] at o1
  | n,A,.int _,.dic _,v,w,u1,u2,hu,_,o1,h1,h2,r1,r2=>by cases n <;> simp [okD] at o1
  | n,A,.int _,.ins _,v,w,u1,u2,hu,_,o1,h1,h2,r1,r2=>by cases n <;> simp [okD] at o1
  | n,A,.str _,.lst _,v,w,u1,u2,hu,_,o1,h1,h2,r1,r2=>by cases n <;> simp [okD] at o1
  | n,A,.str _,.ty _,v,w,u1,u2,hu,_,o1,h1,h2,r1,r2=>by cases n <;> simp [okD] at o1
  | n,A,.str _,.dic _,v,w,u1,u2,hu,_,o1,h1,h2,r1,r2=>by cases n <;> simp [okD] at o1
  | n,A,.str _,.ins _,v,w,u1,u2,hu,_,o1,h1,h2,r1,r2=>by cases n <;> simp [okD] at o1
  | n,A,.tup _,.lst _,v,w,u1,u2,hu,_,o1,h1,h2,r1,r2=>by cases n <;> simp [okD] at o1
  | n,A,.tup _,.ty _,v,w,u1,u2,hu,_,o1,h1,h2,r1,r2=>by cases n <;> simp [okD] at o1
  | n,A,.tup _,.dic _,v,w,u1,u2,hu,_,o1,h1,h2,r1,r2=>by cases n <;> simp [okD] at o1
  | n,A,.tup _,.ins _,v,w,u1,u2,hu,_,o1,h1,h2,r1,r2=>by cases n <;> simp [okD] at o1
end
end L3
namespace L3
open PySem PySem.Spec PyProof.Rows L2
noncomputable abbrev RD2:=Dt→Dt→Sto→VD→Prop
noncomputable abbrev RDL:=List Dt→Sto→VD→Prop
noncomputable def liftR (K:PySem.W.Frag) (r:RD2):R2:=fun v w H Q=>∃ φ st x y P,Rep K φ st H∧D K φ st.length H x v∧D K φ st.length H y w∧r x y st P ∧
  ∀ d st',P d st'→∀ φ' H' u,Bhd K φ st H φ' st' H'→D K φ' st'.length H' d u→Q u H'
noncomputable def liftC (K:PySem.W.Frag) (r:RDL):List V→Hp→VK→Prop:=fun vs H Q=>∃ φ st ds P,Rep K φ st H∧DL K φ st.length H ds vs∧r ds st P ∧
  ∀ d st',P d st'→∀ φ' H' u,Bhd K φ st H φ' st' H'→D K φ' st'.length H' d u→Q u H'
noncomputable def OpD (X:Cx) (f:Value→Value→Sem Value) (r:RD2):Prop:=OpR X f (liftR X.K r)
noncomputable def CallD (X:Cx) (f:Value) (r:RDL):Prop:=CallR X f (liftC X.K r)
noncomputable def qV (i:Nat):TD:=fun ρ st P=>match ρ[i]? with
  | some (some d)=>P d st
  | _=>False
noncomputable def qK (d:Dt):TD:=fun _ st P=>P d st
noncomputable def qB (r:RD2) (ta tb:TD):TD:=fun ρ st P=>ta ρ st fun x st1=>tb ρ st1 fun y st2=>r x y st2 P
noncomputable def qF (r:RDL) (t:TAD):TD:=fun ρ st P=>t ρ st fun ds st1=>r ds st1 P
section
variable {K:PySem.W.Frag} {r:RD2} {ta tb:TD} {σ:L2.St} {H:Hp} {Q:VK} {R:RDL} {t:TAD}
theorem bin_lift (h:liftE K (qB r ta tb) σ H Q):tOp (liftR K r) (liftE K ta) (liftE K tb) σ H Q:=by
  obtain ⟨φ,st,ρ,P,pre,ht,hq⟩:=h
  refine ⟨φ,st,ρ,_,pre,ht,fun x st1 h1 φ1 H1 v b1 dx=>?_⟩
  refine ⟨φ1,st1,ρ,_,pre.on b1,h1,fun y st2 h2 φ2 H2 w b2 dy=>?_⟩
  exact ⟨φ2,st2,x,y,P,b2.1,dx.evo b2.2,dy,h2,fun d st' hp φ' H' u b3 du=>hq d st' hp φ' H' u (b1.trans (b2.trans b3)) du⟩
theorem call_lift (h:liftE K (qF R t) σ H Q):tCB (liftC K R) (liftA K t) σ H Q:=by
  obtain ⟨φ,st,ρ,P,pre,ht,hq⟩:=h
  refine ⟨φ,st,ρ,_,pre,ht,fun ds st1 h1 φ1 H1 vs b1 dx=>?_⟩
  exact ⟨φ1,st1,ds,P,b1.1,dx,h1,fun d st' hp φ' H' u b3 du=>hq d st' hp φ' H' u (b1.trans b3) du⟩
end
section
variable {X:Cx} {a b c e:Expr} {es:List Expr} {ta tb tc t:TD} {tas:TAD} {pos:Pos}
theorem de_var (i:Nat) {x:Str} (hN:X.N[i]? = some x:=by rfl) (hv:Vis X.env.scope x:=by first | exact Or.inl rfl | exact Or.inr (Or.inl rfl) | exact Or.inr (Or.inr rfl)) (hd:(x == ("__debug__" : Str))=false:=by decide)
    (hcd:(x == ("__classdict__" : Str))=false:=by decide):DE X (.Name x pos) (qV i):=(pe_var hN hv hd hcd).imp fun σ H Q h=>by
  obtain ⟨φ,st,ρ,P,pre,ht,hq⟩:=h
  unfold qV at ht
  split at ht
  · rename_i d e
    obtain ⟨v,e1,e2⟩:=pre.2.2 i d e
    exact ⟨v,e1,hq d st ht φ H v (.refl pre.1) e2⟩
  · exact ht.elim
theorem con_lift {d:Dt} {v:V} {K:PySem.W.Frag} (h:∀ φ N H,D K φ N H d v):∀ (σ:L2.St) H Q,liftE K (qK d) σ H Q→tC v σ H Q:=fun σ H Q h'=>by
  obtain ⟨φ,st,ρ,P,pre,ht,hq⟩:=h'
  exact hq d st ht φ H v (.refl pre.1) (h _ _ _)
theorem de_int {i j pos}:DE X (.Constant (.int i) j pos) (qK (.int i)):=(pe_int).imp (con_lift fun _ _ _=>D.mkInt)
theorem de_bl {i j pos}:DE X (.Constant (.bool i) j pos) (qK (.bl i)):=(pe_bl).imp (con_lift fun _ _ _=>D.mkBl)
theorem de_non {j pos}:DE X (.Constant .none j pos) (qK .non):=(pe_non).imp (con_lift fun _ _ _=>D.mkNon)
theorem de_str {i j pos}:DE X (.Constant (.str i) j pos) (qK (.str i)):=(pe_str).imp (con_lift fun _ _ _=>D.mkStr)
theorem de_ty {x:Str} {T:String} (hm:X.mg x=none) (hv:bootBuiltins x=some (.type T)) (hg:Gl X x:=by rfl) (hn:x ≠ "__name__":=by decide) (hd:(x == ("__debug__" : Str))=false:=by decide):DE X (.Name x pos) (qK (.ty T)) :=
  (pe_bltn (v:=.ty T) hg hm hv rfl hn hd).imp (con_lift fun _ _ _=>D.mkTy)
theorem de_glob {x:Str} {d:Dt} {v:V} {u:Value} (hm:X.mg x=some u) (r:RelV v u) (hD:∀ φ N H,D X.K φ N H d v) (hg:Gl X x:=by rfl) (hd:(x == ("__debug__" : Str))=false:=by decide):DE X (.Name x pos) (qK d) :=
  (pe_glob hg hm r hd).imp (con_lift hD)
theorem de_op {op:Operator} {r:RD2} (ho:OpD X (binaryOp op) r) (ha:DE X a ta) (hb:DE X b tb):DE X (.BinOp a op b pos) (qB r ta tb):=(pe_op ho ha hb).imp fun _ _ _=>bin_lift
theorem de_cmp {op:CmpOp} {r:RD2} (ho:OpD X (compareOp op) r) (ha:DE X a ta) (hb:DE X b tb) (hm:behindInMarks op b=false:=by first | exact nomark _ | with_unfolding_all rfl):DE X (.Compare a [op] [b] pos) (qB r ta tb):=(pe_cmpR ho ha hb hm).imp fun _ _ _=>bin_lift
noncomputable def qT (t:TD):TBD:=fun ρ st P=>t ρ st fun x st1=>match x with
  | .bl k=>P k st1
  | _=>False
theorem bool_lift {K:PySem.W.Frag} {t:TD} {σ:L2.St} {H:Hp} {Q:Bool→Hp→Prop} (h:liftT K (qT t) σ H Q):liftE K t σ H fun x H'=>∃ k,x = .bl k∧Q k H':=by
  obtain ⟨φ,st,ρ,P,pre,ht,hq⟩:=h
  refine ⟨φ,st,ρ,_,pre,ht,fun d st1 h1 φ1 H1 v b1 dx=>?_⟩
  cases d with
  | bl k=>exact ⟨k,dx.bl,hq k st1 h1 φ1 H1 b1⟩
  | _=>exact h1.elim
theorem dt_cmp {op:CmpOp} {r:RD2} (ho:OpD X (compareOp op) r) (ha:DE X a ta) (hb:DE X b tb) (hm:behindInMarks op b=false:=by first | exact nomark _ | with_unfolding_all rfl):DT X (.Compare a [op] [b] pos) (qT (qB r ta tb)) :=
  (pt_cmpR ho ha hb hm).imp fun σ H Q h=>bin_lift (bool_lift h)
theorem dt_val (h:DE X e t) (he:∀ whole,isTrue e X.env whole=(do let v ← whole;standAt e.pos;holding [v] (truthy v)):=by intro _;rfl):DT X e (qT t):=(pt_val h he).imp fun σ H Q h=>bool_lift h
noncomputable def tnotB (t:TBD):TBD:=fun ρ st P=>t ρ st fun k st1=>P (!k) st1
theorem dt_not {t:TBD} (h:DT X a t):DT X (.UnaryOp .Not a pos) (tnotB t):=(pt_not h).imp fun σ H Q h=>by
  obtain ⟨φ,st,ρ,P,pre,ht,hq⟩:=h
  exact ⟨φ,st,ρ,_,pre,ht,fun k st1 h1 φ1 H1 b1=>hq _ st1 h1 φ1 H1 b1⟩
noncomputable def DW (X:Cx) (e:Expr) (t:TBD):Prop:=PW X e (liftT X.K t)
theorem PW.imp {X:Cx} {e:Expr} {t t':TT} (h:PW X e t) (i:∀ σ H Q,t' σ H Q→t σ H Q):PW X e t':=fun wh pins s σ H Q I q=>h wh pins s σ H Q I (i σ H Q q)
noncomputable def tandB (t u:TBD):TBD:=fun ρ st P=>t ρ st fun k st1=>if k=true then u ρ st1 P else P false st1
noncomputable def torB (t u:TBD):TBD:=fun ρ st P=>t ρ st fun k st1=>if k=true then P true st1 else u ρ st1 P
variable {tA tB':TBD} {rest:List Expr}
theorem dw_and1 (h:DT X a tA):DW X (.BoolOp .And [a] pos) tA:=pw_and1 h
theorem dw_or1 (h:DT X a tA):DW X (.BoolOp .Or [a] pos) tA:=pw_or1 h
theorem dw_and (ha:DT X a tA) (hb:DW X (.BoolOp .And (b :: rest) pos) tB'):DW X (.BoolOp .And (a :: b :: rest) pos) (tandB tA tB'):=PW.imp (pw_and ha hb) fun σ H Q h=>by
  obtain ⟨φ,st,ρ,P,pre,ht,hq⟩:=h
  refine ⟨φ,st,ρ,_,pre,ht,fun k st1 h1 φ1 H1 b1=>?_⟩
  cases k with
  | true =>
    rw [if_pos rfl] at h1 ⊢
    exact ⟨φ1,st1,ρ,P,pre.on b1,h1,fun k st2 h2 φ2 H2 b2=>hq k st2 h2 φ2 H2 (b1.trans b2)⟩
  | false =>
    rw [if_neg Bool.false_ne_true] at h1 ⊢
    exact hq false st1 h1 φ1 H1 b1
theorem dw_or (ha:DT X a tA) (hb:DW X (.BoolOp .Or (b :: rest) pos) tB'):DW X (.BoolOp .Or (a :: b :: rest) pos) (torB tA tB'):=PW.imp (pw_or ha hb) fun σ H Q h=>by
  obtain ⟨φ,st,ρ,P,pre,ht,hq⟩:=h
  refine ⟨φ,st,ρ,_,pre,ht,fun k st1 h1 φ1 H1 b1=>?_⟩
  cases k with
  | false =>
    rw [if_neg Bool.false_ne_true] at h1 ⊢
    exact ⟨φ1,st1,ρ,P,pre.on b1,h1,fun k st2 h2 φ2 H2 b2=>hq k st2 h2 φ2 H2 (b1.trans b2)⟩
  | true =>
    rw [if_pos rfl] at h1 ⊢
    exact hq true st1 h1 φ1 H1 b1
theorem dt_of {tA:TBD} (h:DW X e tA):DT X e tA:=h _
noncomputable def tandV (t u:TD):TD:=fun ρ st P=>t ρ st fun x st1=>match x with
  | .bl k=>if k=true then u ρ st1 P else P (.bl false) st1
  | _=>False
noncomputable def torV (t u:TD):TD:=fun ρ st P=>t ρ st fun x st1=>match x with
  | .bl k=>if k=true then P (.bl true) st1 else u ρ st1 P
  | _=>False
noncomputable def tnotV (t:TD):TD:=fun ρ st P=>t ρ st fun x st1=>match x with
  | .bl k=>P (.bl (!k)) st1
  | _=>False
theorem de_one {op} (h:DE X a t):DE X (.BoolOp op [a] pos) t:=pe_one h
theorem de_and (ha:DE X a ta) (hb:DE X (.BoolOp .And (b :: rest) pos) tb):DE X (.BoolOp .And (a :: b :: rest) pos) (tandV ta tb):=(pe_and ha hb).imp fun σ H Q h=>by
  obtain ⟨φ,st,ρ,P,pre,ht,hq⟩:=h
  refine ⟨φ,st,ρ,_,pre,ht,fun d st1 h1 φ1 H1 v b1 dx=>?_⟩
  cases d with
  | bl k =>
    refine ⟨k,dx.bl,?_⟩
    cases k with
    | true=>exact iteT ⟨φ1,st1,ρ,P,pre.on b1,h1,fun k st2 h2 φ2 H2 v2 b2=>hq k st2 h2 φ2 H2 v2 (b1.trans b2)⟩
    | false=>exact iteF (hq _ st1 h1 φ1 H1 _ b1 D.mkBl)
  | _=>exact h1.elim
theorem de_not (ha:DE X a ta):DE X (.UnaryOp .Not a pos) (tnotV ta):=(pe_not ha).imp fun σ H Q h=>by
  obtain ⟨φ,st,ρ,P,pre,ht,hq⟩:=h
  refine ⟨φ,st,ρ,_,pre,ht,fun d st1 h1 φ1 H1 v b1 dx=>?_⟩
  cases d with
  | bl k=>exact ⟨k,dx.bl,hq _ st1 h1 φ1 H1 _ b1 D.mkBl⟩
  | _=>exact h1.elim
noncomputable def tifE (c:TBD) (t u:TD):TD:=fun ρ st P=>c ρ st fun k st1=>if k=true then t ρ st1 P else u ρ st1 P
theorem de_if {tC:TBD} (hc:DT X c tC) (ha:DE X a ta) (hb:DE X b tb):DE X (.IfExp c a b pos) (tifE tC ta tb):=(pe_ifExp hc ha hb).imp fun σ H Q h=>by
  obtain ⟨φ,st,ρ,P,pre,ht,hq⟩:=h
  refine ⟨φ,st,ρ,_,pre,ht,fun k st1 h1 φ1 H1 b1=>?_⟩
  cases k with
  | true=>exact iteT ⟨φ1,st1,ρ,P,pre.on b1,(by rw [if_pos rfl] at h1;exact h1),fun k st2 h2 φ2 H2 v2 b2=>hq k st2 h2 φ2 H2 v2 (b1.trans b2)⟩
  | false=>exact iteF ⟨φ1,st1,ρ,P,pre.on b1,(by rw [if_neg Bool.false_ne_true] at h1;exact h1),fun k st2 h2 φ2 H2 v2 b2=>hq k st2 h2 φ2 H2 v2 (b1.trans b2)⟩
noncomputable def tchain (p q:Int→Int→Bool) (ta tb tc:TD):TD:=fun ρ st P=>ta ρ st fun x st1=>tb ρ st1 fun y st2=>match x,y with
  | .int i,.int j=>if p i j=true then tc ρ st2 fun z st3=>(match z with
      | .int k=>P (.bl (q j k)) st3
      | _=>False) else P (.bl false) st2
  | _,_=>False
theorem chain_lift {K:PySem.W.Frag} {p q:Int→Int→Bool} {σ:L2.St} {H:Hp} {Q:VK} (h:liftE K (tchain p q ta tb tc) σ H Q) :
    tChain (rI0 fun i j=>.bl (p i j)) (rI0 fun i j=>.bl (q i j)) (liftE K ta) (liftE K tb) (liftE K tc) σ H Q:=by
  obtain ⟨φ,st,ρ,P,pre,ht,hq⟩:=h
  refine ⟨φ,st,ρ,_,pre,ht,fun x st1 h1 φ1 H1 v b1 dx=>?_⟩
  refine ⟨φ1,st1,ρ,_,pre.on b1,h1,fun y st2 h2 φ2 H2 w b2 dy=>?_⟩
  cases x with
  | int i =>
    cases y with
    | int j =>
      refine ⟨i,j,dx.int,dy.int,p i j,rfl,?_⟩
      have h2':if p i j=true then tc ρ st2 fun z st3=>(match z with
        | .int k=>P (.bl (q j k)) st3
        | _=>False) else P (.bl false) st2:=h2
      cases hp:p i j with
      | true =>
        rw [hp,if_pos rfl] at h2'
        refine iteT ⟨φ2,st2,ρ,_,(pre.on b1).on b2,h2',fun z st3 h3 φ3 H3 w3 b3 dz=>?_⟩
        cases z with
        | int k=>exact ⟨j,k,dy.int,dz.int,hq _ st3 h3 φ3 H3 _ (b1.trans (b2.trans b3)) D.mkBl⟩
        | _=>exact h3.elim
      | false =>
        rw [hp,if_neg Bool.false_ne_true] at h2'
        exact iteF (hq _ st2 h2' φ2 H2 _ (b1.trans b2) D.mkBl)
    | _=>exact h2.elim
  | _=>cases y <;> exact h2.elim
theorem dt_chain {op op':CmpOp} {p q:Int→Int→Bool} (ho:OpR X (compareOp op) (rI0 fun i j=>.bl (p i j))) (ho':OpR X (compareOp op') (rI0 fun i j=>.bl (q i j))) (ha:DE X a ta) (hb:DE X b tb) (hc:DE X c tc)
    (hm:lastMarks [op,op'] [b,c]=false:=by with_unfolding_all rfl):DT X (.Compare a [op,op'] [b,c] pos) (qT (tchain p q ta tb tc)):=(pt_chain ho ho' ha hb hc hm).imp fun σ H Q h=>chain_lift (bool_lift h)
noncomputable def qZ:TAD:=fun _ st P=>P [] st
noncomputable def qA (t:TD) (u:TAD):TAD:=fun ρ st P=>t ρ st fun x st1=>u ρ st1 fun xs st2=>P (x :: xs) st2
theorem da_nil:DA X [] qZ:=(pa_nil).imp fun σ H Q h=>by
  obtain ⟨φ,st,ρ,P,pre,ht,hq⟩:=h
  exact hq [] st ht φ H [] (.refl pre.1) .nil
theorem da_cons (ha:DE X e t) (hr:DA X es tas) (hs:starEach (e :: es) X.env=(false,eval e X.env) :: starEach es X.env:=by rfl):DA X (e :: es) (qA t tas):=(pa_cons ha hr hs).imp fun σ H Q h=>by
  obtain ⟨φ,st,ρ,P,pre,ht,hq⟩:=h
  refine ⟨φ,st,ρ,_,pre,ht,fun x st1 h1 φ1 H1 v b1 dx=>?_⟩
  refine ⟨φ1,st1,ρ,_,pre.on b1,h1,fun xs st2 h2 φ2 H2 vs b2 dxs=>?_⟩
  exact hq _ st2 h2 φ2 H2 _ (b1.trans b2) (.cons (dx.evo b2.2) dxs)
noncomputable def qU (t:TAD):TD:=fun ρ st P=>t ρ st fun ds st1=>ds.length≤sizeLine∧P (.tup ds) st1
noncomputable def qL (t:TAD):TD:=fun ρ st P=>t ρ st fun ds st1=>ds.length≤sizeLine∧P (.lst st1.length) (st1 ++ [.rw ds])
theorem bhd_tup {K:PySem.W.Frag} {φ:Nat→Addr} {st:Sto} {H:Hp} {p:Addr} {o:HO} (R:Rep K φ st H) (hp:H p=none):Bhd K φ st H φ st (upd H p o):=⟨R.laid hp,evo_new hp⟩
theorem bhd_lst {K:PySem.W.Frag} {φ:Nat→Addr} {st:Sto} {H:Hp} {p:Addr} {ds:List Dt} {vs:List V} (R:Rep K φ st H) (hp:H p=none) (hd:DL K φ st.length H ds vs) :
    Bhd K φ st H (phiNew φ st.length p) (st ++ [.rw ds]) (upd H p (.lst vs)):=⟨R.newL hp hd,evo_lst hp⟩
theorem d_new {K:PySem.W.Frag} {φ:Nat→Addr} {st:Sto} {H:Hp} {p:Addr} {ds:List Dt} {vs:List V}:D K (phiNew φ st.length p) (st ++ [SO.rw ds]).length (upd H p (.lst vs)) (.lst st.length) (.ref p):=by
  have:=D.mkLst (K:=K) (φ:=phiNew φ st.length p) (H:=upd H p (.lst vs)) (n:=st.length) (N:=(st ++ [SO.rw ds]).length) (by simp) (by rw [phi_at];exact ⟨vs,SqL.of upd_same⟩)
  rw [phi_at] at this
  exact this
theorem de_tup {x1} (h:DA X es tas):DE X (.Tuple es x1 pos) (qU tas):=(pe_tup h).imp fun σ H Q h=>by
  obtain ⟨φ,st,ρ,P,pre,ht,hq⟩:=h
  refine ⟨φ,st,ρ,_,pre,ht,fun ds st1 h1 φ1 H1 vs b1 dx=>⟨by rw [← dx.length];exact h1.1,fun p hp=>?_⟩⟩
  exact hq _ st1 h1.2 φ1 _ _ (b1.trans (bhd_tup b1.1 hp)) (.mkTup (SqT.of upd_same) (dx.evo (evo_new hp)))
theorem de_lst (h:DA X es tas):DE X (.List es pos) (qL tas):=(pe_lst h).imp fun σ H Q h=>by
  obtain ⟨φ,st,ρ,P,pre,ht,hq⟩:=h
  refine ⟨φ,st,ρ,_,pre,ht,fun ds st1 h1 φ1 H1 vs b1 dx=>⟨by rw [← dx.length];exact h1.1,fun p hp=>?_⟩⟩
  exact hq _ _ h1.2 _ _ _ (b1.trans (bhd_lst b1.1 hp dx)) d_new
end
end L3
namespace L3
open PySem PySem.Spec PyProof.Rows L2
noncomputable def rAdd:RD2:=fun x y st P=>match x,y with
  | .int i,.int j=>P (.int (i + j)) st
  | .str i,.str j=>i.length + j.length≤sizeLine∧P (.str (i ++ j)) st
  | .tup i,.tup j=>i.length + j.length≤sizeLine∧P (.tup (i ++ j)) st
  | .lst n,.lst m=>match st[n]?,st[m]? with
    | some (.rw xs),some (.rw ys)=>xs.length + ys.length≤sizeLine∧P (.lst st.length) (st ++ [.rw (xs ++ ys)])
    | _,_=>False
  | _,_=>False
noncomputable def rSub:RD2:=fun x y st P=>match x,y with
  | .int i,.int j=>P (.int (i - j)) st
  | _,_=>False
noncomputable def rMul:RD2:=fun x y st P=>match x,y with
  | .int i,.int j=>CMul i j∧P (.int (i * j)) st
  | .tup xs,.int k=>xs≠[]∧2≤k∧k < 2 ^ 20∧xs.length * k.toNat≤sizeLine∧P (.tup (List.replicate k.toNat xs).flatten) st
  | .lst n,.int k=>match st[n]? with
    | some (.rw xs)=>0≤k∧k < 2 ^ 20∧xs.length * k.toNat≤sizeLine∧P (.lst st.length) (st ++ [.rw (List.replicate k.toNat xs).flatten])
    | _=>False
  | _,_=>False
noncomputable def rDiv:RD2:=fun x y st P=>match x,y with
  | .int i,.int j=>CDiv i j∧P (.int (i / j)) st
  | _,_=>False
noncomputable def rMod:RD2:=fun x y st P=>match x,y with
  | .int i,.int j=>0 < j∧P (.int (i % j)) st
  | _,_=>False
noncomputable def rAndB:RD2:=fun x y st P=>match x,y with
  | .int i,.int j=>P (.int (Builtin.bitAnd i j)) st
  | _,_=>False
noncomputable def rCmpI (p:Int→Int→Bool):RD2:=fun x y st P=>match x,y with
  | .int i,.int j=>P (.bl (p i j)) st
  | _,_=>False
noncomputable def qQ (neg:Bool):RD2:=fun x y st P=>match x,y with
  | .lst n,.lst m=>match st[n]?,st[m]? with
    | some a,some b=>a.items.all (okD 8)=true∧b.items.all (okD 8)=true∧P (.bl (eqL (eqD 8) a.items b.items != neg)) st
    | _,_=>False
  | x,y=>okD 8 x=true∧okD 8 y=true∧P (.bl (eqD 8 x y != neg)) st
noncomputable def rIsD (neg:Bool):RD2:=fun x y st P=>match x,y with
  | .bl a,.bl b=>P (.bl ((a == b) != neg)) st
  | .non,.non=>P (.bl (true != neg)) st
  | .bl _,.non=>P (.bl (false != neg)) st
  | .int _,.non=>P (.bl (false != neg)) st
  | .str _,.non=>P (.bl (false != neg)) st
  | .tup _,.non=>P (.bl (false != neg)) st
  | .lst _,.non=>P (.bl (false != neg)) st
  | _,_=>False
noncomputable def seqOf (st:Sto):Dt→Option (List Dt)
  | .tup xs=>some xs
  | .lst n=>(st[n]?).map SO.items
  | _=>none
noncomputable def rInD (neg:Bool):RD2:=fun x y st P=>match x,y with
  | .str i,.str j=>P (.bl ((!(Builtin.Str.occurrences j i 0 j.length 1).isEmpty) != neg)) st
  | x,y=>match seqOf st y with
    | some xs=>okD 0 x=true∧xs.all (okD 0)=true∧P (.bl (xs.any (fun z=>eqD 0 z x) != neg)) st
    | none=>False
section
variable {X:Cx} {K:PySem.W.Frag} {φ:Nat→Addr} {st:Sto} {H:Hp} {P:VD} {Q:VK} {d:Dt} {v:V}
noncomputable abbrev Go (K:PySem.W.Frag) (φ:Nat→Addr) (st:Sto) (H:Hp) (P:VD) (Q:VK):Prop:=∀ d st',P d st'→∀ φ' H' u,Bhd K φ st H φ' st' H'→D K φ' st'.length H' d u→Q u H'
theorem Go.here (g:Go K φ st H P Q) (R:Rep K φ st H) (hp:P d st) (hd:D K φ st.length H d v):Q v H:=g d st hp φ H v (.refl R) hd
theorem od_add:OpD X (binaryOp .Add) rAdd:=by
  intro pins s σ H v w u1 u2 Q I r1 r2 h
  obtain ⟨φ,st,x,y,P,R,dx,dy,hr,hq⟩:=h
  cases x with
  | int i =>
    cases y with
    | int j=>exact op_add pins s σ H v w u1 u2 Q I r1 r2 ⟨i,j,dx.int,dy.int,Go.here hq R hr D.mkInt⟩
    | _=>exact hr.elim
  | str i =>
    cases y with
    | str j=>exact op_add_str pins s σ H v w u1 u2 Q I r1 r2 ⟨i,j,dx.str,dy.str,hr.1,Go.here hq R hr.2 D.mkStr⟩
    | _=>exact hr.elim
  | tup i =>
    cases y with
    | tup j =>
      obtain ⟨a,vs,e1,s1,d1⟩:=dx.tup
      obtain ⟨b,ws,e2,s2,d2⟩:=dy.tup
      have l1:=d1.length
      have l2:=d2.length
      have hr1:i.length + j.length≤sizeLine:=hr.1
      have hr2:P (.tup (i ++ j)) st:=hr.2
      refine op_catA pins s σ H v w u1 u2 Q I r1 r2 ⟨a,b,vs,ws,e1,e2,s1,s2,by omega,fun z=>?_,fun z1 z2=>?_,fun z1 z2 p hp=>?_⟩
      · rw [z] at l1
        have:i=[]:=List.length_eq_zero_iff.mp l1
        rw [this,List.nil_append] at hr2
        exact Go.here hq R hr2 (.mkTup s2 d2)
      · rw [z2] at l2
        have:j=[]:=List.length_eq_zero_iff.mp l2
        rw [this,List.append_nil] at hr2
        exact Go.here hq R hr2 (.mkTup s1 d1)
      · exact hq _ st hr2 φ _ _ (bhd_tup R hp) (.mkTup (SqT.of upd_same) ((d1.append d2).evo (evo_new hp)))
    | _=>exact hr.elim
  | lst n =>
    cases y with
    | lst m =>
      have hr':match st[n]?,st[m]? with
        | some (.rw xs),some (.rw ys)=>xs.length + ys.length≤sizeLine∧P (.lst st.length) (st ++ [.rw (xs ++ ys)])
        | _,_=>False:=hr
      split at hr'
      · rename_i xs ys e1 e2
        obtain ⟨vs,h1,d1⟩:=R.rw n xs e1
        obtain ⟨ws,h2,d2⟩:=R.rw m ys e2
        have l1:=d1.length
        have l2:=d2.length
        have z:=hr'.1
        exact op_cat pins s σ H v w u1 u2 Q I r1 r2 ⟨φ n,φ m,vs,ws,dx.lst.2,dy.lst.2,h1,h2,by omega,fun p hp=>hq _ _ hr'.2 _ _ _ (bhd_lst R hp (d1.append d2)) d_new⟩
      · exact hr'.elim
    | _=>exact hr.elim
  | _=>cases y <;> exact hr.elim
theorem od_sub:OpD X (binaryOp .Sub) rSub:=by
  intro pins s σ H v w u1 u2 Q I r1 r2 h
  obtain ⟨φ,st,x,y,P,R,dx,dy,hr,hq⟩:=h
  cases x with
  | int i =>
    cases y with
    | int j=>exact op_sub pins s σ H v w u1 u2 Q I r1 r2 ⟨i,j,dx.int,dy.int,Go.here hq R hr D.mkInt⟩
    | _=>exact hr.elim
  | _=>cases y <;> exact hr.elim
theorem od_mul:OpD X (binaryOp .Mult) rMul:=by
  intro pins s σ H v w u1 u2 Q I r1 r2 h
  obtain ⟨φ,st,x,y,P,R,dx,dy,hr,hq⟩:=h
  cases x with
  | int i =>
    cases y with
    | int j=>exact op_mul pins s σ H v w u1 u2 Q I r1 r2 ⟨i,j,dx.int,dy.int,hr.1,Go.here hq R hr.2 D.mkInt⟩
    | _=>exact hr.elim
  | tup xs =>
    cases y with
    | int k =>
      obtain ⟨a,vs,e1,s1,d1⟩:=dx.tup
      obtain ⟨h1,h2,h3,h4,h5⟩:xs≠[]∧2≤k∧k < 2 ^ 20∧xs.length * k.toNat≤sizeLine∧P (.tup (List.replicate k.toNat xs).flatten) st:=hr
      have rep:∀ m:Nat,DL X.K φ st.length H (List.replicate m xs).flatten (List.replicate m vs).flatten:=fun m=>by
        induction m with
        | zero=>exact .nil
        | succ m ih=>rw [List.replicate_succ,List.replicate_succ,List.flatten_cons,List.flatten_cons];exact d1.append ih
      refine op_repT pins s σ H v w u1 u2 Q I r1 r2 ⟨a,k,vs,e1,dy.int,s1,fun z=>?_,h2,h3,by rw [← d1.length];exact h4,fun p hp=>?_⟩
      · have:=d1.length
        rw [z] at this
        exact h1 (List.length_eq_zero_iff.mp this)
      · exact hq _ st h5 φ _ _ (bhd_tup R hp) (.mkTup (SqT.of upd_same) ((rep _).evo (evo_new hp)))
    | _=>exact hr.elim
  | lst n =>
    cases y with
    | int k =>
      have hr':match st[n]? with
        | some (.rw xs)=>0≤k∧k < 2 ^ 20∧xs.length * k.toNat≤sizeLine∧P (.lst st.length) (st ++ [.rw (List.replicate k.toNat xs).flatten])
        | _=>False:=hr
      split at hr'
      · rename_i xs e1
        obtain ⟨vs,h1,d1⟩:=R.rw n xs e1
        obtain ⟨g1,g2,g3,g4⟩:=hr'
        have rep:∀ m:Nat,DL X.K φ st.length H (List.replicate m xs).flatten (List.replicate m vs).flatten:=fun m=>by
          induction m with
          | zero=>exact .nil
          | succ m ih=>rw [List.replicate_succ,List.replicate_succ,List.flatten_cons,List.flatten_cons];exact d1.append ih
        exact op_rep pins s σ H v w u1 u2 Q I r1 r2 ⟨φ n,k,vs,dx.lst.2,dy.int,h1,by omega,by omega,by rw [← d1.length];exact g3,fun p hp=>hq _ _ g4 _ _ _ (bhd_lst R hp (rep _)) d_new⟩
      · exact hr'.elim
    | _=>exact hr.elim
  | _=>cases y <;> exact hr.elim
theorem od_div:OpD X (binaryOp .FloorDiv) rDiv:=by
  intro pins s σ H v w u1 u2 Q I r1 r2 h
  obtain ⟨φ,st,x,y,P,R,dx,dy,hr,hq⟩:=h
  cases x with
  | int i =>
    cases y with
    | int j=>exact op_fdiv pins s σ H v w u1 u2 Q I r1 r2 ⟨i,j,dx.int,dy.int,hr.1,Go.here hq R hr.2 D.mkInt⟩
    | _=>exact hr.elim
  | _=>cases y <;> exact hr.elim
theorem od_mod:OpD X (binaryOp .Mod) rMod:=by
  intro pins s σ H v w u1 u2 Q I r1 r2 h
  obtain ⟨φ,st,x,y,P,R,dx,dy,hr,hq⟩:=h
  cases x with
  | int i =>
    cases y with
    | int j=>exact op_mod pins s σ H v w u1 u2 Q I r1 r2 ⟨i,j,dx.int,dy.int,hr.1,Go.here hq R hr.2 D.mkInt⟩
    | _=>exact hr.elim
  | _=>cases y <;> exact hr.elim
theorem od_and:OpD X (binaryOp .BitAnd) rAndB:=by
  intro pins s σ H v w u1 u2 Q I r1 r2 h
  obtain ⟨φ,st,x,y,P,R,dx,dy,hr,hq⟩:=h
  cases x with
  | int i =>
    cases y with
    | int j=>exact op_and pins s σ H v w u1 u2 Q I r1 r2 ⟨i,j,dx.int,dy.int,Go.here hq R hr D.mkInt⟩
    | _=>exact hr.elim
  | _=>cases y <;> exact hr.elim
theorem od_cmpI {op:CmpOp} {p:Int→Int→Bool} (ho:OpR X (compareOp op) (rI0 fun i j=>.bl (p i j))):OpD X (compareOp op) (rCmpI p):=by
  intro pins s σ H v w u1 u2 Q I r1 r2 h
  obtain ⟨φ,st,x,y,P,R,dx,dy,hr,hq⟩:=h
  cases x with
  | int i =>
    cases y with
    | int j=>exact ho pins s σ H v w u1 u2 Q I r1 r2 ⟨i,j,dx.int,dy.int,Go.here hq R hr D.mkBl⟩
    | _=>exact hr.elim
  | _=>cases y <;> exact hr.elim
theorem od_lt:OpD X (compareOp .Lt) (rCmpI fun i j=>decide (i < j)):=od_cmpI op_lt
theorem od_gt:OpD X (compareOp .Gt) (rCmpI fun i j=>decide (j < i)):=od_cmpI op_gt
theorem od_ge:OpD X (compareOp .GtE) (rCmpI fun i j=>decide (j≤i)):=od_cmpI op_ge
theorem bne_false' (k:Bool):(k != false)=k:=by cases k <;> rfl
theorem bne_true' (k:Bool):(k != true) = !k:=by cases k <;> rfl
theorem fin_bool {pins:List (Addr×Obj)} {σ:L2.St} {s:Shared} (I:Inv X pins σ H s) (g:Go X.K φ st H P Q) (R:Rep X.K φ st H) {k k':Bool} (hp:P (.bl k) st) (e:k=k'):EP X pins σ Q (.bool k') s:=by
  subst e
  exact ⟨.bl k,H,I,rfl,Go.here g R hp D.mkBl⟩
end
section
variable {X:Cx} {pins:List (Addr×Obj)} {σ:L2.St} {H:Hp} {s:Shared} {φ:Nat→Addr} {N:Nat}
theorem els_D (I:Inv X pins σ H s) {n:Nat} {A:Around} {a b:List Dt} {vs ws:List V} {its its2:List Value} (hu:A.units + n + 1 < cLine) (hd:DL X.K φ N H a vs) (hd2:DL X.K φ N H b ws) (rv:Vals vs its) (rv2:Vals ws its2)
    (o1:a.all (okD n)=true) (o2:b.all (okD n)=true) {j:Nat} (h1:j < its.toArray.size) (h2:j < its2.toArray.size):SeqAt.EqAt A.in1 s its.toArray[j] its2.toArray[j] (eqD n (a.getD j .non) (b.getD j .non)):=by
  have l1:its.toArray.size=a.length:=by rw [List.size_toArray,← rv.length,hd.length]
  have l2:its2.toArray.size=b.length:=by rw [List.size_toArray,← rv2.length,hd2.length]
  have hj1:j < a.length:=by rw [← l1];exact h1
  have hj2:j < b.length:=by rw [← l2];exact h2
  have ea:a[j]? = some a[j]:=by simp [hj1]
  have eb:b[j]? = some b[j]:=by simp [hj2]
  obtain ⟨x,ex,dx⟩:=hd.get ea
  obtain ⟨y,ey,dy⟩:=hd2.get eb
  obtain ⟨ux,eux,rx⟩:=rv.get ex
  obtain ⟨uy,euy,ry⟩:=rv2.get ey
  have gx:its.toArray[j]=ux:=by
    have:its[j]? = some its[j]:=by simp at h1;simp [h1]
    rw [eux] at this
    simpa using (Option.some.inj this).symm
  have gy:its2.toArray[j]=uy:=by
    have:its2[j]? = some its2[j]:=by simp at h2;simp [h2]
    rw [euy] at this
    simpa using (Option.some.inj this).symm
  rw [gx,gy,getD_of ea,getD_of eb]
  exact eqAt_D I n (by show A.units + 1 + n < cLine;omega) (List.all_eq_true.mp o1 _ (List.getElem_mem hj1)) (List.all_eq_true.mp o2 _ (List.getElem_mem hj2)) dx dy rx ry
theorem rcEq_D (I:Inv X pins σ H s) (n:Nat) {A:Around}:∀ {d e:Dt} {v w:V} {u1 u2:Value},A.units + n + 1 < cLine→okD (n + 1) d=true→okD (n + 1) e=true→D X.K φ N H d v→D X.K φ N H e w→RelV v u1→RelV w u2→SeqAt.RcAt A s u1 u2 (eqD (n + 1) d e)
  | .non,.non,v,w,u1,u2,hu,_,_,h1,h2,r1,r2=>by cases h1.non;cases h2.non;cases r1;cases r2;exact SeqAt.RcAt.none_none
  | .non,.bl b,v,w,u1,u2,hu,_,_,h1,h2,r1,r2=>by cases h1.non;cases h2.bl;cases r1;cases r2;exact SeqAt.RcAt.none_bool b
  | .non,.int b,v,w,u1,u2,hu,_,_,h1,h2,r1,r2=>by cases h1.non;cases h2.int;cases r1;obtain ⟨t',rfl⟩:=r2;exact SeqAt.RcAt.none_int b t'
  | .non,.str b,v,w,u1,u2,hu,_,_,h1,h2,r1,r2=>by cases h1.non;cases h2.str;cases r1;obtain ⟨t',rfl⟩:=r2;exact SeqAt.RcAt.none_str b t'
  | .bl a,.non,v,w,u1,u2,hu,_,_,h1,h2,r1,r2=>by cases h1.bl;cases h2.non;cases r1;cases r2;exact SeqAt.RcAt.bool_none a
  | .bl a,.bl b,v,w,u1,u2,hu,_,_,h1,h2,r1,r2=>by cases h1.bl;cases h2.bl;cases r1;cases r2;exact SeqAt.RcAt.bool_bool a b
  | .bl a,.int b,v,w,u1,u2,hu,_,_,h1,h2,r1,r2=>by cases h1.bl;cases h2.int;cases r1;obtain ⟨t',rfl⟩:=r2;exact SeqAt.RcAt.bool_int a b t'
  | .bl a,.str b,v,w,u1,u2,hu,_,_,h1,h2,r1,r2=>by cases h1.bl;cases h2.str;cases r1;obtain ⟨t',rfl⟩:=r2;exact SeqAt.RcAt.bool_str a b t'
  | .int a,.non,v,w,u1,u2,hu,_,_,h1,h2,r1,r2=>by cases h1.int;cases h2.non;obtain ⟨t,rfl⟩:=r1;cases r2;exact SeqAt.RcAt.int_none a t
  | .int a,.bl b,v,w,u1,u2,hu,_,_,h1,h2,r1,r2=>by cases h1.int;cases h2.bl;obtain ⟨t,rfl⟩:=r1;cases r2;exact SeqAt.RcAt.int_bool a t b
  | .int a,.int b,v,w,u1,u2,hu,_,_,h1,h2,r1,r2=>by cases h1.int;cases h2.int;obtain ⟨t,rfl⟩:=r1;obtain ⟨t',rfl⟩:=r2;exact SeqAt.RcAt.int_int a t b t'
  | .int a,.str b,v,w,u1,u2,hu,_,_,h1,h2,r1,r2=>by cases h1.int;cases h2.str;obtain ⟨t,rfl⟩:=r1;obtain ⟨t',rfl⟩:=r2;exact SeqAt.RcAt.int_str a t b t'
  | .str a,.non,v,w,u1,u2,hu,_,_,h1,h2,r1,r2=>by cases h1.str;cases h2.non;obtain ⟨t,rfl⟩:=r1;cases r2;exact SeqAt.RcAt.str_none a t
  | .str a,.bl b,v,w,u1,u2,hu,_,_,h1,h2,r1,r2=>by cases h1.str;cases h2.bl;obtain ⟨t,rfl⟩:=r1;cases r2;exact SeqAt.RcAt.str_bool a t b
  | .str a,.int b,v,w,u1,u2,hu,_,_,h1,h2,r1,r2=>by cases h1.str;cases h2.int;obtain ⟨t,rfl⟩:=r1;obtain ⟨t',rfl⟩:=r2;exact SeqAt.RcAt.str_int a t b t'
  | .str a,.str b,v,w,u1,u2,hu,_,_,h1,h2,r1,r2=>by cases h1.str;cases h2.str;obtain ⟨t,rfl⟩:=r1;obtain ⟨t',rfl⟩:=r2;exact SeqAt.RcAt.str_str a t b t'
  | .tup a,.non,v,w,u1,u2,hu,_,_,h1,h2,r1,r2=>by
    obtain ⟨p,vs,rfl,hs,hd⟩:=h1.tup;cases h2.non;cases r1;cases r2;obtain ⟨its,_,ht,_⟩:=I.tuple hs;exact SeqAt.RcAt.tuple_none ht (by omega)
  | .non,.tup a,v,w,u1,u2,hu,_,_,h1,h2,r1,r2=>by
    obtain ⟨p,vs,rfl,hs,hd⟩:=h2.tup;cases h1.non;cases r2;cases r1;obtain ⟨its,_,ht,_⟩:=I.tuple hs;exact SeqAt.RcAt.none_tuple ht (by omega)
  | .tup a,.bl b,v,w,u1,u2,hu,_,_,h1,h2,r1,r2=>by
    obtain ⟨p,vs,rfl,hs,hd⟩:=h1.tup;cases h2.bl;cases r1;cases r2;obtain ⟨its,_,ht,_⟩:=I.tuple hs;exact SeqAt.RcAt.tuple_bool b ht (by omega)
  | .bl b,.tup a,v,w,u1,u2,hu,_,_,h1,h2,r1,r2=>by
    obtain ⟨p,vs,rfl,hs,hd⟩:=h2.tup;cases h1.bl;cases r2;cases r1;obtain ⟨its,_,ht,_⟩:=I.tuple hs;exact SeqAt.RcAt.bool_tuple b ht (by omega)
  | .tup a,.int b,v,w,u1,u2,hu,_,_,h1,h2,r1,r2=>by
    obtain ⟨p,vs,rfl,hs,hd⟩:=h1.tup;cases h2.int;cases r1;obtain ⟨t',rfl⟩:=r2;obtain ⟨its,_,ht,_⟩:=I.tuple hs;exact SeqAt.RcAt.tuple_int b t' ht (by omega)
  | .int b,.tup a,v,w,u1,u2,hu,_,_,h1,h2,r1,r2=>by
    obtain ⟨p,vs,rfl,hs,hd⟩:=h2.tup;cases h1.int;cases r2;obtain ⟨t',rfl⟩:=r1;obtain ⟨its,_,ht,_⟩:=I.tuple hs;exact SeqAt.RcAt.int_tuple b t' ht (by omega)
  | .tup a,.str b,v,w,u1,u2,hu,_,_,h1,h2,r1,r2=>by
    obtain ⟨p,vs,rfl,hs,hd⟩:=h1.tup;cases h2.str;cases r1;obtain ⟨t',rfl⟩:=r2;obtain ⟨its,_,ht,_⟩:=I.tuple hs;exact SeqAt.RcAt.tuple_str b t' ht (by omega)
  | .str b,.tup a,v,w,u1,u2,hu,_,_,h1,h2,r1,r2=>by
    obtain ⟨p,vs,rfl,hs,hd⟩:=h2.tup;cases h1.str;cases r2;obtain ⟨t',rfl⟩:=r1;obtain ⟨its,_,ht,_⟩:=I.tuple hs;exact SeqAt.RcAt.str_tuple b t' ht (by omega)
  | .tup a,.tup b,v,w,u1,u2,hu,o1,o2,h1,h2,r1,r2=>by
    simp only [okD] at o1 o2
    obtain ⟨p,vs,rfl,hs,hd⟩:=h1.tup
    obtain ⟨q,ws,rfl,hs2,hd2⟩:=h2.tup
    cases r1;cases r2
    obtain ⟨its,rv,ht,_⟩:=I.tuple hs
    obtain ⟨its2,rv2,ht2,_⟩:=I.tuple hs2
    have l1:its.toArray.size=a.length:=by rw [List.size_toArray,← rv.length,hd.length]
    have l2:its2.toArray.size=b.length:=by rw [List.size_toArray,← rv2.length,hd2.length]
    have:=SeqAt.RcAt.tuples (A:=A) (s:=s) (e:=fun j=>eqD n (a.getD j .non) (b.getD j .non)) ht ht2 (by omega) (fun j h1 h2=>els_D I hu hd hd2 rv rv2 o1 o2 h1 h2)
    rw [l1,l2] at this
    simp only [eqD]
    rw [eqL_range]
    exact this
  | .lst _,_,v,w,u1,u2,hu,o1,_,h1,h2,r1,r2=>by simp [okD] at o1
  | .non,.lst _,v,w,u1,u2,hu,_,o1,h1,h2,r1,r2=>by simp [okD] at o1
  | .bl _,.lst _,v,w,u1,u2,hu,_,o1,h1,h2,r1,r2=>by simp [okD] at o1
  | .int _,.lst _,v,w,u1,u2,hu,_,o1,h1,h2,r1,r2=>by simp [okD] at o1
  | .str _,.lst _,v,w,u1,u2,hu,_,o1,h1,h2,r1,r2=>by simp [okD] at o1
  | .tup _,.lst _,v,w,u1,u2,hu,_,o1,h1,h2,r1,r2=>by simp [okD] at o1
  | .ty _,_,v,w,u1,u2,hu,o1,_,h1,h2,r1,r2=>by simp [okD] at o1
  | .dic _,_,v,w,u1,u2,hu,o1,_,h1,h2,r1,r2=>by simp [okD] at o1
  | .ins _,_,v,w,u1,u2,hu,o1,_,h1,h2,r1,r2=>by simp [okD] at o1
  | .non,.ty _,v,w,u1,u2,hu,_,o1,h1,h2,r1,r2=>by simp [okD] at o1
  | .non,.dic _,v,w,u1,u2,hu,_,o1,h1,h2,r1,r2=>by simp [okD] at o1
  | .non,.ins _,v,w,u1,u2,hu,_,o1,h1,h2,r1,r2=>by simp [okD] at o1
  | .bl _,.ty _,v,w,u1,u2,hu,_,o1,h1,h2,r1,r2=>by simp [okD] at o1
  | .bl _,.dic _,v,w,u1,u2,hu,_,o1,h1,h2,r1,r2=>by simp [okD] at o1
  | .bl _,.ins _,v,w,u1,u2,hu,_,o1,h1,h2,r1,r2=>by simp [okD] at o1
  | .int _,.ty _,v,w,u1,u2,hu,_,o1,h1,h2,r1,r2=>by simp [okD] at o1
  | .int _,.dic _,v,w,u1,u2,hu,_,o1,h1,h2,r1,r2=>by simp [okD] at o1
  | .int _,.ins _,v,w,u1,u2,hu,_,o1,h1,h2,r1,r2=>by simp [okD] at o1
  | .str _,.ty _,v,w,u1,u2,hu,_,o1,h1,h2,r1,r2=>by simp [okD] at o1
  | .str _,.dic _,v,w,u1,u2,hu,_,o1,h1,h2,r1,r2=>by simp [okD] at o1
  | .str _,.ins _,v,w,u1,u2,hu,_,o1,h1,h2,r1,r2=>by simp [okD] at o1
  | .tup _,.ty _,v,w,u1,u2,hu,_,o1,h1,h2,r1,r2=>by simp [okD] at o1
  | .tup _,.dic _,v,w,u1,u2,hu,_,o1,h1,h2,r1,r2=>by simp [okD] at o1
  | .tup _,.ins _,v,w,u1,u2,hu,_,o1,h1,h2,r1,r2=>by simp [okD] at o1
theorem rcNe_D (I:Inv X pins σ H s) (n:Nat) {A:Around}:∀ {d e:Dt} {v w:V} {u1 u2:Value},A.units + n + 1 < cLine→okD (n + 1) d=true→okD (n + 1) e=true→D X.K φ N H d v→D X.K φ N H e w→RelV v u1→RelV w u2→SeqAt.RcNeAt A s u1 u2 (!(eqD (n + 1) d e))
  | .non,.non,v,w,u1,u2,hu,_,_,h1,h2,r1,r2=>by cases h1.non;cases h2.non;cases r1;cases r2;exact SeqAt.RcNeAt.none_none
  | .non,.bl b,v,w,u1,u2,hu,_,_,h1,h2,r1,r2=>by cases h1.non;cases h2.bl;cases r1;cases r2;exact SeqAt.RcNeAt.none_bool b
  | .non,.int b,v,w,u1,u2,hu,_,_,h1,h2,r1,r2=>by cases h1.non;cases h2.int;cases r1;obtain ⟨t',rfl⟩:=r2;exact SeqAt.RcNeAt.none_int b t'
  | .non,.str b,v,w,u1,u2,hu,_,_,h1,h2,r1,r2=>by cases h1.non;cases h2.str;cases r1;obtain ⟨t',rfl⟩:=r2;exact SeqAt.RcNeAt.none_str b t'
  | .bl a,.non,v,w,u1,u2,hu,_,_,h1,h2,r1,r2=>by cases h1.bl;cases h2.non;cases r1;cases r2;exact SeqAt.RcNeAt.bool_none a
  | .bl a,.bl b,v,w,u1,u2,hu,_,_,h1,h2,r1,r2=>by cases h1.bl;cases h2.bl;cases r1;cases r2;exact SeqAt.RcNeAt.bool_bool a b
  | .bl a,.int b,v,w,u1,u2,hu,_,_,h1,h2,r1,r2=>by cases h1.bl;cases h2.int;cases r1;obtain ⟨t',rfl⟩:=r2;exact SeqAt.RcNeAt.bool_int a b t'
  | .bl a,.str b,v,w,u1,u2,hu,_,_,h1,h2,r1,r2=>by cases h1.bl;cases h2.str;cases r1;obtain ⟨t',rfl⟩:=r2;exact SeqAt.RcNeAt.bool_str a b t'
  | .int a,.non,v,w,u1,u2,hu,_,_,h1,h2,r1,r2=>by cases h1.int;cases h2.non;obtain ⟨t,rfl⟩:=r1;cases r2;exact SeqAt.RcNeAt.int_none a t
  | .int a,.bl b,v,w,u1,u2,hu,_,_,h1,h2,r1,r2=>by cases h1.int;cases h2.bl;obtain ⟨t,rfl⟩:=r1;cases r2;exact SeqAt.RcNeAt.int_bool a t b
  | .int a,.int b,v,w,u1,u2,hu,_,_,h1,h2,r1,r2=>by cases h1.int;cases h2.int;obtain ⟨t,rfl⟩:=r1;obtain ⟨t',rfl⟩:=r2;exact SeqAt.RcNeAt.int_int a t b t'
  | .int a,.str b,v,w,u1,u2,hu,_,_,h1,h2,r1,r2=>by cases h1.int;cases h2.str;obtain ⟨t,rfl⟩:=r1;obtain ⟨t',rfl⟩:=r2;exact SeqAt.RcNeAt.int_str a t b t'
  | .str a,.non,v,w,u1,u2,hu,_,_,h1,h2,r1,r2=>by cases h1.str;cases h2.non;obtain ⟨t,rfl⟩:=r1;cases r2;exact SeqAt.RcNeAt.str_none a t
  | .str a,.bl b,v,w,u1,u2,hu,_,_,h1,h2,r1,r2=>by cases h1.str;cases h2.bl;obtain ⟨t,rfl⟩:=r1;cases r2;exact SeqAt.RcNeAt.str_bool a t b
  | .str a,.int b,v,w,u1,u2,hu,_,_,h1,h2,r1,r2=>by cases h1.str;cases h2.int;obtain ⟨t,rfl⟩:=r1;obtain ⟨t',rfl⟩:=r2;exact SeqAt.RcNeAt.str_int a t b t'
  | .str a,.str b,v,w,u1,u2,hu,_,_,h1,h2,r1,r2=>by cases h1.str;cases h2.str;obtain ⟨t,rfl⟩:=r1;obtain ⟨t',rfl⟩:=r2;exact SeqAt.RcNeAt.str_str a t b t'
  | .tup a,.non,v,w,u1,u2,hu,_,_,h1,h2,r1,r2=>by
    obtain ⟨p,vs,rfl,hs,hd⟩:=h1.tup;cases h2.non;cases r1;cases r2;obtain ⟨its,_,ht,_⟩:=I.tuple hs;exact SeqAt.RcNeAt.tuple_none ht (by omega)
  | .non,.tup a,v,w,u1,u2,hu,_,_,h1,h2,r1,r2=>by
    obtain ⟨p,vs,rfl,hs,hd⟩:=h2.tup;cases h1.non;cases r2;cases r1;obtain ⟨its,_,ht,_⟩:=I.tuple hs;exact SeqAt.RcNeAt.none_tuple ht (by omega)
  | .tup a,.bl b,v,w,u1,u2,hu,_,_,h1,h2,r1,r2=>by
    obtain ⟨p,vs,rfl,hs,hd⟩:=h1.tup;cases h2.bl;cases r1;cases r2;obtain ⟨its,_,ht,_⟩:=I.tuple hs;exact SeqAt.RcNeAt.tuple_bool b ht (by omega)
  | .bl b,.tup a,v,w,u1,u2,hu,_,_,h1,h2,r1,r2=>by
    obtain ⟨p,vs,rfl,hs,hd⟩:=h2.tup;cases h1.bl;cases r2;cases r1;obtain ⟨its,_,ht,_⟩:=I.tuple hs;exact SeqAt.RcNeAt.bool_tuple b ht (by omega)
  | .tup a,.int b,v,w,u1,u2,hu,_,_,h1,h2,r1,r2=>by
    obtain ⟨p,vs,rfl,hs,hd⟩:=h1.tup;cases h2.int;cases r1;obtain ⟨t',rfl⟩:=r2;obtain ⟨its,_,ht,_⟩:=I.tuple hs;exact SeqAt.RcNeAt.tuple_int b t' ht (by omega)
  | .int b,.tup a,v,w,u1,u2,hu,_,_,h1,h2,r1,r2=>by
    obtain ⟨p,vs,rfl,hs,hd⟩:=h2.tup;cases h1.int;cases r2;obtain ⟨t',rfl⟩:=r1;obtain ⟨its,_,ht,_⟩:=I.tuple hs;exact SeqAt.RcNeAt.int_tuple b t' ht (by omega)
  | .tup a,.str b,v,w,u1,u2,hu,_,_,h1,h2,r1,r2=>by
    obtain ⟨p,vs,rfl,hs,hd⟩:=h1.tup;cases h2.str;cases r1;obtain ⟨t',rfl⟩:=r2;obtain ⟨its,_,ht,_⟩:=I.tuple hs;exact SeqAt.RcNeAt.tuple_str b t' ht (by omega)
  | .str b,.tup a,v,w,u1,u2,hu,_,_,h1,h2,r1,r2=>by
    obtain ⟨p,vs,rfl,hs,hd⟩:=h2.tup;cases h1.str;cases r2;obtain ⟨t',rfl⟩:=r1;obtain ⟨its,_,ht,_⟩:=I.tuple hs;exact SeqAt.RcNeAt.str_tuple b t' ht (by omega)
  | .tup a,.tup b,v,w,u1,u2,hu,o1,o2,h1,h2,r1,r2=>by
    simp only [okD] at o1 o2
    obtain ⟨p,vs,rfl,hs,hd⟩:=h1.tup
    obtain ⟨q,ws,rfl,hs2,hd2⟩:=h2.tup
    cases r1;cases r2
    obtain ⟨its,rv,ht,_⟩:=I.tuple hs
    obtain ⟨its2,rv2,ht2,_⟩:=I.tuple hs2
    have l1:its.toArray.size=a.length:=by rw [List.size_toArray,← rv.length,hd.length]
    have l2:its2.toArray.size=b.length:=by rw [List.size_toArray,← rv2.length,hd2.length]
    have:=SeqAt.RcNeAt.tuples (A:=A) (s:=s) (e:=fun j=>eqD n (a.getD j .non) (b.getD j .non)) ht ht2 (by omega) (fun j h1 h2=>els_D I hu hd hd2 rv rv2 o1 o2 h1 h2)
    rw [l1,l2] at this
    simp only [eqD]
    rw [eqL_range]
    exact this
  | .lst _,_,v,w,u1,u2,hu,o1,_,h1,h2,r1,r2=>by simp [okD] at o1
  | .non,.lst _,v,w,u1,u2,hu,_,o1,h1,h2,r1,r2=>by simp [okD] at o1
  | .bl _,.lst _,v,w,u1,u2,hu,_,o1,h1,h2,r1,r2=>by simp [okD] at o1
  | .int _,.lst _,v,w,u1,u2,hu,_,o1,h1,h2,r1,r2=>by simp [okD] at o1
  | .str _,.lst _,v,w,u1,u2,hu,_,o1,h1,h2,r1,r2=>by simp [okD] at o1
  | .tup _,.lst _,v,w,u1,u2,hu,_,o1,h1,h2,r1,r2=>by simp [okD] at o1
  | .ty _,_,v,w,u1,u2,hu,o1,_,h1,h2,r1,r2=>by simp [okD] at o1
  | .dic _,_,v,w,u1,u2,hu,o1,_,h1,h2,r1,r2=>by simp [okD] at o1
  | .ins _,_,v,w,u1,u2,hu,o1,_,h1,h2,r1,r2=>by simp [okD] at o1
  | .non,.ty _,v,w,u1,u2,hu,_,o1,h1,h2,r1,r2=>by simp [okD] at o1
  | .non,.dic _,v,w,u1,u2,hu,_,o1,h1,h2,r1,r2=>by simp [okD] at o1
  | .non,.ins _,v,w,u1,u2,hu,_,o1,h1,h2,r1,r2=>by simp [okD] at o1
  | .bl _,.ty _,v,w,u1,u2,hu,_,o1,h1,h2,r1,r2=>by simp [okD] at o1
  | .bl _,.dic _,v,w,u1,u2,hu,_,o1,h1,h2,r1,r2=>by simp [okD] at o1
  | .bl _,.ins _,v,w,u1,u2,hu,_,o1,h1,h2,r1,r2=>by simp [okD] at o1
  | .int _,.ty _,v,w,u1,u2,hu,_,o1,h1,h2,r1,r2=>by simp [okD] at o1
  | .int _,.dic _,v,w,u1,u2,hu,_,o1,h1,h2,r1,r2=>by simp [okD] at o1
  | .int _,.ins _,v,w,u1,u2,hu,_,o1,h1,h2,r1,r2=>by simp [okD] at o1
  | .str _,.ty _,v,w,u1,u2,hu,_,o1,h1,h2,r1,r2=>by simp [okD] at o1
  | .str _,.dic _,v,w,u1,u2,hu,_,o1,h1,h2,r1,r2=>by simp [okD] at o1
  | .str _,.ins _,v,w,u1,u2,hu,_,o1,h1,h2,r1,r2=>by simp [okD] at o1
  | .tup _,.ty _,v,w,u1,u2,hu,_,o1,h1,h2,r1,r2=>by simp [okD] at o1
  | .tup _,.dic _,v,w,u1,u2,hu,_,o1,h1,h2,r1,r2=>by simp [okD] at o1
  | .tup _,.ins _,v,w,u1,u2,hu,_,o1,h1,h2,r1,r2=>by simp [okD] at o1
end
theorem od_eq {X:Cx} (hu:X.A.units + 16 < cLine):OpD X (compareOp .Eq) (qQ false):=by
  intro pins s σ H v w u1 u2 Q I r1 r2 h
  obtain ⟨φ,st,x,y,P,R,dx,dy,hr,hq⟩:=h
  have gen:okD 8 x=true→okD 8 y=true→P (.bl (eqD 8 x y != false)) st→wpAny (model X.prog X.w) X.A (compareOp .Eq u1 u2) (EP X pins σ Q) X.xe s:=fun o1 o2 hp=>by
    rw [bne_false'] at hp
    exact rcEq_D I 7 (by omega) o1 o2 dx dy r1 r2 _ _ _ _ (fin_bool I hq R hp rfl)
  cases x with
  | lst n =>
    cases y with
    | lst m =>
      have hr':match st[n]?,st[m]? with
        | some a,some b=>a.items.all (okD 8)=true∧b.items.all (okD 8)=true∧P (.bl (eqL (eqD 8) a.items b.items != false)) st
        | _,_=>False:=hr
      split at hr'
      · rename_i a b e1 e2
        obtain ⟨o1,o2,hp⟩:=hr'
        rw [bne_false'] at hp
        obtain ⟨vs,s1,d1⟩:=R.seq e1 dx.isL
        obtain ⟨ws,s2,d2⟩:=R.seq e2 dy.isL
        obtain ⟨its,rv,pl,_⟩:=I.list s1
        obtain ⟨its2,rv2,pl2,_⟩:=I.list s2
        have e1':=dx.lst.2
        have e2':=dy.lst.2
        subst e1';subst e2'
        cases r1;cases r2
        have l1:its.toArray.size=a.items.length:=by rw [List.size_toArray,← rv.length,d1.length]
        have l2:its2.toArray.size=b.items.length:=by rw [List.size_toArray,← rv2.length,d2.length]
        rw [eqL_range] at hp
        by_cases hl:its.toArray.size=its2.toArray.size
        · have:=SeqAt.RcAt.lists (A:=X.A) (s:=s) (e:=fun j=>eqD 8 (a.items.getD j .non) (b.items.getD j .non)) pl.isList pl2.isList hl (by omega) (fun j h1 h2=>els_D I (by omega) d1 d2 rv rv2 o1 o2 h1 h2)
          refine this _ _ _ _ (fin_bool I hq R hp ?_)
          rw [← l1,← l2,← hl,Nat.min_self]
          simp
        · have hl':(its.toArray.size != its2.toArray.size)=true:=by simpa using hl
          refine SeqAt.RcAt.lists_lengths (A:=X.A) pl.isList pl2.isList hl' (by omega) _ _ _ _ (fin_bool I hq R hp ?_)
          rw [← l1,← l2]
          have:(its.toArray.size == its2.toArray.size)=false:=by simpa using hl
          rw [this,Bool.and_false]
      · exact hr'.elim
    | _=>exact absurd (show okD 8 (.lst n)=true from hr.1) (by simp [okD])
  | _=>cases y <;> exact gen hr.1 hr.2.1 hr.2.2
theorem od_ne {X:Cx} (hu:X.A.units + 16 < cLine):OpD X (compareOp .NotEq) (qQ true):=by
  intro pins s σ H v w u1 u2 Q I r1 r2 h
  obtain ⟨φ,st,x,y,P,R,dx,dy,hr,hq⟩:=h
  have gen:okD 8 x=true→okD 8 y=true→P (.bl (eqD 8 x y != true)) st→wpAny (model X.prog X.w) X.A (compareOp .NotEq u1 u2) (EP X pins σ Q) X.xe s:=fun o1 o2 hp=>by
    rw [bne_true'] at hp
    exact rcNe_D I 7 (by omega) o1 o2 dx dy r1 r2 _ _ _ _ (fin_bool I hq R hp rfl)
  cases x with
  | lst n =>
    cases y with
    | lst m =>
      have hr':match st[n]?,st[m]? with
        | some a,some b=>a.items.all (okD 8)=true∧b.items.all (okD 8)=true∧P (.bl (eqL (eqD 8) a.items b.items != true)) st
        | _,_=>False:=hr
      split at hr'
      · rename_i a b e1 e2
        obtain ⟨o1,o2,hp⟩:=hr'
        rw [bne_true'] at hp
        obtain ⟨vs,s1,d1⟩:=R.seq e1 dx.isL
        obtain ⟨ws,s2,d2⟩:=R.seq e2 dy.isL
        obtain ⟨its,rv,pl,_⟩:=I.list s1
        obtain ⟨its2,rv2,pl2,_⟩:=I.list s2
        have e1':=dx.lst.2
        have e2':=dy.lst.2
        subst e1';subst e2'
        cases r1;cases r2
        have l1:its.toArray.size=a.items.length:=by rw [List.size_toArray,← rv.length,d1.length]
        have l2:its2.toArray.size=b.items.length:=by rw [List.size_toArray,← rv2.length,d2.length]
        rw [eqL_range] at hp
        by_cases hl:its.toArray.size=its2.toArray.size
        · have:=SeqAt.RcNeAt.lists (A:=X.A) (s:=s) (e:=fun j=>eqD 8 (a.items.getD j .non) (b.items.getD j .non)) pl.isList pl2.isList hl (by omega) (fun j h1 h2=>els_D I (by omega) d1 d2 rv rv2 o1 o2 h1 h2)
          refine this _ _ _ _ (fin_bool I hq R hp ?_)
          rw [← l1,← l2,← hl,Nat.min_self]
          simp
        · have hl':(its.toArray.size != its2.toArray.size)=true:=by simpa using hl
          refine SeqAt.RcNeAt.lists_lengths (A:=X.A) pl.isList pl2.isList hl' (by omega) _ _ _ _ (fin_bool I hq R hp ?_)
          rw [← l1,← l2]
          have:(its.toArray.size == its2.toArray.size)=false:=by simpa using hl
          rw [this,Bool.and_false]
          rfl
      · exact hr'.elim
    | _=>exact absurd (show okD 8 (.lst n)=true from hr.1) (by simp [okD])
  | _=>cases y <;> exact gen hr.1 hr.2.1 hr.2.2
end L3
namespace L3
open PySem PySem.Spec PyProof.Rows L2
section
variable {X:Cx}
theorem od_is:OpD X (compareOp .Is) (rIsD false):=by
  intro pins s σ H v w u1 u2 Q I r1 r2 h
  obtain ⟨φ,st,x,y,P,R,dx,dy,hr,hq⟩:=h
  have nn:y = .non→v≠.non→P (.bl (false != false)) st→wpAny (model X.prog X.w) X.A (compareOp .Is u1 u2) (EP X pins σ Q) X.xe s:=fun e hv hp=>by
    subst e
    have:=dy.non
    exact op_isN pins s σ H v w u1 u2 Q I r1 r2 ⟨this,by rw [decide_eq_false hv];exact Go.here hq R hp D.mkBl⟩
  cases x with
  | bl a =>
    cases y with
    | bl b =>
      cases dx.bl;cases dy.bl;cases r1;cases r2
      exact is_bool (fin_bool I hq R hr (by rw [bne_false']))
    | non=>exact nn rfl (by rw [dx.bl];intro z;cases z) hr
    | _=>exact hr.elim
  | non =>
    cases y with
    | non=>exact op_isN pins s σ H v w u1 u2 Q I r1 r2 ⟨dy.non,by rw [decide_eq_true dx.non];exact Go.here hq R hr D.mkBl⟩
    | _=>exact hr.elim
  | int a =>
    cases y with
    | non=>exact nn rfl (by rw [dx.int];intro z;cases z) hr
    | _=>exact hr.elim
  | str a =>
    cases y with
    | non=>exact nn rfl (by rw [dx.str];intro z;cases z) hr
    | _=>exact hr.elim
  | tup a =>
    cases y with
    | non=>exact nn rfl (by obtain ⟨_,_,e,_⟩:=dx.tup;rw [e];intro z;cases z) hr
    | _=>exact hr.elim
  | lst a =>
    cases y with
    | non=>exact nn rfl (by rw [dx.lst.2];intro z;cases z) hr
    | _=>exact hr.elim
  | _=>cases y <;> exact hr.elim
theorem od_isnot:OpD X (compareOp .IsNot) (rIsD true):=by
  intro pins s σ H v w u1 u2 Q I r1 r2 h
  obtain ⟨φ,st,x,y,P,R,dx,dy,hr,hq⟩:=h
  have nn:y = .non→v≠.non→P (.bl (false != true)) st→wpAny (model X.prog X.w) X.A (compareOp .IsNot u1 u2) (EP X pins σ Q) X.xe s:=fun e hv hp=>by
    subst e
    exact op_notN pins s σ H v w u1 u2 Q I r1 r2 ⟨dy.non,by rw [decide_eq_false hv];exact Go.here hq R hp D.mkBl⟩
  cases x with
  | bl a =>
    cases y with
    | bl b =>
      cases dx.bl;cases dy.bl;cases r1;cases r2
      exact isnot_bool (fin_bool I hq R hr (by rw [bne_true'];rfl))
    | non=>exact nn rfl (by rw [dx.bl];intro z;cases z) hr
    | _=>exact hr.elim
  | non =>
    cases y with
    | non=>exact op_notN pins s σ H v w u1 u2 Q I r1 r2 ⟨dy.non,by rw [decide_eq_true dx.non];exact Go.here hq R hr D.mkBl⟩
    | _=>exact hr.elim
  | int a =>
    cases y with
    | non=>exact nn rfl (by rw [dx.int];intro z;cases z) hr
    | _=>exact hr.elim
  | str a =>
    cases y with
    | non=>exact nn rfl (by rw [dx.str];intro z;cases z) hr
    | _=>exact hr.elim
  | tup a =>
    cases y with
    | non=>exact nn rfl (by obtain ⟨_,_,e,_⟩:=dx.tup;rw [e];intro z;cases z) hr
    | _=>exact hr.elim
  | lst a =>
    cases y with
    | non=>exact nn rfl (by rw [dx.lst.2];intro z;cases z) hr
    | _=>exact hr.elim
  | _=>cases y <;> exact hr.elim
end
end L3
namespace L3
open PySem PySem.Spec PyProof.Rows L2
section
variable {X:Cx}
theorem flat_of {K:PySem.W.Frag} {φ:Nat→Addr} {N:Nat} {H:Hp} {d:Dt} {v:V} (h:D K φ N H d v) (o:okD 0 d=true):flatV v=true:=by
  cases d with
  | non=>cases h.non;rfl
  | bl _=>cases h.bl;rfl
  | int _=>cases h.int;rfl
  | str _=>cases h.str;rfl
  | _=>exact absurd o (by simp [okD])
theorem flats_of {K:PySem.W.Frag} {φ:Nat→Addr} {N:Nat} {H:Hp}:∀ {ds:List Dt} {vs:List V},DL K φ N H ds vs→ds.all (okD 0)=true→vs.all flatV=true
  | [],vs,h,_=>by simp only [DL] at h;rw [h];rfl
  | d :: ds,vs,h,o=>by
    simp only [DL] at h
    obtain ⟨v,r,rfl,h2,h3⟩:=h
    rw [List.all_cons,Bool.and_eq_true] at o ⊢
    exact ⟨flat_of h2 o.1,flats_of h3 o.2⟩
theorem eqV_of {K:PySem.W.Frag} {φ:Nat→Addr} {N:Nat} {H:Hp} {d e:Dt} {v w:V} (h:D K φ N H d v) (h':D K φ N H e w) (o:okD 0 d=true) (o':okD 0 e=true):eqV v w=eqD 0 d e:=by
  cases d <;> (try (exfalso;revert o;simp [okD];done)) <;> cases e <;> (try (exfalso;revert o';simp [okD];done)) <;> (simp only [D] at h h';subst h;subst h';rfl)
theorem anyV_of {K:PySem.W.Frag} {φ:Nat→Addr} {N:Nat} {H:Hp} {d:Dt} {v:V} (h':D K φ N H d v) (o':okD 0 d=true):∀ {ds:List Dt} {vs:List V},DL K φ N H ds vs→ds.all (okD 0)=true→inV v vs=ds.any (fun z=>eqD 0 z d)
  | [],vs,h,_=>by simp only [DL] at h;rw [h];rfl
  | e :: ds,vs,h,o=>by
    simp only [DL] at h
    obtain ⟨w,r,rfl,h2,h3⟩:=h
    rw [List.all_cons,Bool.and_eq_true] at o
    have ih:=anyV_of h' o' h3 o.2
    unfold inV at ih ⊢
    rw [List.any_cons,List.any_cons,ih,eqV_of h2 h' o.1 o']
theorem seq_of {K:PySem.W.Frag} {φ:Nat→Addr} {st:Sto} {H:Hp} {y:Dt} {w:V} {xs:List Dt} (R:Rep K φ st H) (dy:D K φ st.length H y w) (e:seqOf st y=some xs) :
    ∃ p vs,w = .ref p∧((SqL K H p vs∧∃ n,y = .lst n)∨(SqT K H p vs∧y = .tup xs))∧DL K φ st.length H xs vs:=by
  cases y with
  | tup zs =>
    have e':zs=xs:=Option.some.inj e
    subst e'
    obtain ⟨a,vs,e1,s1,d1⟩:=dy.tup
    exact ⟨a,vs,e1,.inr ⟨s1,rfl⟩,d1⟩
  | lst n =>
    have e':(st[n]?).map SO.items=some xs:=e
    cases q:st[n]? with
    | none=>rw [q] at e';cases e'
    | some o =>
      rw [q] at e'
      have e2:o.items=xs:=Option.some.inj e'
      obtain ⟨vs,h1,h2⟩:=R.seq q dy.isL
      rw [e2] at h2
      exact ⟨φ n,vs,dy.lst.2,.inl ⟨h1,n,rfl⟩,h2⟩
  | _=>cases e
theorem od_in:OpD X (compareOp .In) (rInD false):=by
  intro pins s σ H v w u1 u2 Q I r1 r2 h
  obtain ⟨φ,st,x,y,P,R,dx,dy,hr,hq⟩:=h
  have gen:(match seqOf st y with
    | some xs=>okD 0 x=true∧xs.all (okD 0)=true∧P (.bl (xs.any (fun z=>eqD 0 z x) != false)) st
    | none=>False)→wpAny (model X.prog X.w) X.A (compareOp .In u1 u2) (EP X pins σ Q) X.xe s:=fun hg=>by
    split at hg
    · rename_i xs e
      obtain ⟨o1,o2,hp⟩:=hg
      obtain ⟨p,vs,e1,hs,hd⟩:=seq_of R dy e
      refine op_in_seq pins s σ H v w u1 u2 Q I r1 r2 ⟨p,vs,e1,hs.elim (fun z=>.inl z.1) fun z=>.inr z.1,flat_of dx o1,flats_of hd o2,?_⟩
      rw [if_neg Bool.false_ne_true,anyV_of dx o1 hd o2]
      rw [bne_false'] at hp
      exact Go.here hq R hp D.mkBl
    · exact hg.elim
  cases x with
  | str i =>
    cases y with
    | str j =>
      have hr':P (.bl ((!(Builtin.Str.occurrences j i 0 j.length 1).isEmpty) != false)) st:=hr
      rw [bne_false'] at hr'
      exact op_in_str pins s σ H v w u1 u2 Q I r1 r2 ⟨i,j,dx.str,dy.str,Go.here hq R hr' D.mkBl⟩
    | _=>exact gen hr
  | _=>exact gen hr
end
end L3
namespace L3
open PySem PySem.Spec PyProof.Rows L2
section
variable {X:Cx}
noncomputable def qI:RD2:=fun x y st P=>match y with
  | .int i=>(match x with
    | .str z=>z.length≤sizeLine∧(match atI z.cps.toList i with
      | some c=>P (.str ⟨#[c]⟩) st
      | none=>False)
    | x => match seqOf st x with
      | some xs=>(match atI xs i with
        | some d=>P d st
        | none=>False)
      | none=>False)
  | _=>False
theorem DL.atI {K:PySem.W.Frag} {φ:Nat→Addr} {N:Nat} {H:Hp} {ds:List Dt} {vs:List V} {i:Int} {d:Dt} (h:DL K φ N H ds vs) (e:L2.atI ds i=some d):∃ v,L2.atI vs i=some v∧D K φ N H d v:=by
  unfold L2.atI at e ⊢
  rw [← h.length]
  cases q:ixN ds.length i with
  | none=>rw [q] at e;cases e
  | some j =>
    rw [q] at e
    exact h.get e
theorem de_ix {a b:Expr} {ta tb:TD} {pos:Pos} (ha:DE X a ta) (hb:DE X b tb) (hs:PlainIx b:=by exact fun _ _=>rfl):DE X (.Subscript a b pos) (qB qI ta tb):=by
  have key:IxR X (liftR X.K qI):=by
    intro value slice pins s σ H v w u1 u2 Q I r1 r2 h hsub
    obtain ⟨φ,st,x,y,P,R,dx,dy,hr,hq⟩:=h
    cases y with
    | int i =>
      have gen:(match seqOf st x with
        | some xs=>(match atI xs i with
          | some d=>P d st
          | none=>False)
        | none=>False)→wpAny (model X.prog X.w) X.A (subscriptTail value slice u1 u2) (EP X pins σ Q) X.xe s:=fun hg=>by
        split at hg
        · rename_i xs e
          split at hg
          · rename_i d ed
            obtain ⟨p,vs,e1,hs,hd⟩:=seq_of R dx e
            obtain ⟨z,ez,dz⟩:=hd.atI ed
            refine ix_seq value slice pins s σ H v w u1 u2 Q I r1 r2 ?_ hsub
            rcases hs with ⟨hs,_⟩ | ⟨hs,_⟩
            · exact .inl ⟨p,vs,i,z,e1,dy.int,hs,ez,Go.here hq R hg dz⟩
            · exact .inr (.inl ⟨p,vs,i,z,e1,dy.int,hs,ez,Go.here hq R hg dz⟩)
          · exact hg.elim
        · exact hg.elim
      cases x with
      | str z =>
        have hr':z.length≤sizeLine∧(match atI z.cps.toList i with
          | some c=>P (.str ⟨#[c]⟩) st
          | none=>False):=hr
        obtain ⟨h1,h2⟩:=hr'
        split at h2
        · rename_i c ec
          exact ix_seq value slice pins s σ H v w u1 u2 Q I r1 r2 (.inr (.inr ⟨z,i,c,dx.str,dy.int,h1,ec,Go.here hq R h2 D.mkStr⟩)) hsub
        · exact h2.elim
      | _=>exact gen hr
    | _=>exact hr.elim
  exact (pe_ix key ha hb hs).imp fun _ _ _=>bin_lift
noncomputable abbrev TOD:=Rho→Sto→(Option Int→Sto→Prop)→Prop
noncomputable def liftO (K:PySem.W.Frag) (t:TOD):TO:=fun σ H Q=>∃ φ st ρ P,Pre K φ st H ρ σ∧t ρ st P∧∀ o st',P o st'→∀ φ' H',Bhd K φ st H φ' st' H'→Q o H'
noncomputable def DO (X:Cx) (e:Option Expr) (t:TOD):Prop:=PO X e (liftO X.K t)
noncomputable def tonone:TOD:=fun _ st P=>P none st
noncomputable def tosome (t:TD):TOD:=fun ρ st P=>t ρ st fun x st1=>match x with
  | .int i=>P (some i) st1
  | _=>False
theorem do_none:DO X none tonone:=fun pins s σ H Q I h=>by
  obtain ⟨φ,st,ρ,P,pre,ht,hq⟩:=h
  exact po_none pins s σ H Q I (hq none st ht φ H (.refl pre.1))
theorem do_some {e:Expr} {t:TD} (he:DE X e t):DO X (some e) (tosome t):=fun pins s σ H Q I h=>by
  refine po_some he pins s σ H Q I ?_
  obtain ⟨φ,st,ρ,P,pre,ht,hq⟩:=h
  refine ⟨φ,st,ρ,_,pre,ht,fun d st1 h1 φ1 H1 v b1 dx=>?_⟩
  cases d with
  | int i=>exact ⟨i,dx.int,hq _ st1 h1 φ1 H1 b1⟩
  | _=>exact h1.elim
noncomputable def cutD (xs:List Dt) (lo hi:Option Int):List Dt:=(xs.drop (HT.sIx xs.length 0 lo)).take (HT.sIx xs.length xs.length hi - HT.sIx xs.length 0 lo)
noncomputable def tslice (te:TD) (tl th:TOD):TD:=fun ρ st P=>te ρ st fun x st1=>tl ρ st1 fun lo st2=>th ρ st2 fun hi st3=>match x with
  | .tup xs=>¬ (HT.sIx xs.length 0 lo=0∧HT.sIx xs.length xs.length hi=xs.length)∧P (.tup (cutD xs lo hi)) st3
  | .lst n=>(match st3[n]? with
    | some o=>P (.lst st3.length) (st3 ++ [.rw (cutD o.items lo hi)])
    | none=>False)
  | _=>False
theorem de_slice {e:Expr} {lo hi:Option Expr} {te:TD} {tl th:TOD} {pos p2:Pos} (he:DE X e te) (hl:DO X lo tl) (hu:DO X hi th):DE X (.Subscript e (.Slice lo hi none p2) pos) (tslice te tl th):=by
  refine PE.imp (pe_slice (sl_tup.or sl_list) he hl hu) fun σ H Q h=>?_
  obtain ⟨φ,st,ρ,P,pre,ht,hq⟩:=h
  refine ⟨φ,st,ρ,_,pre,ht,fun x st1 h1 φ1 H1 v b1 dx=>?_⟩
  refine ⟨φ1,st1,ρ,_,pre.on b1,h1,fun l st2 h2 φ2 H2 b2=>?_⟩
  refine ⟨φ2,st2,ρ,_,(pre.on b1).on b2,h2,fun u st3 h3 φ3 H3 b3=>?_⟩
  have b:=b1.trans (b2.trans b3)
  have dx3:=(dx.evo b2.2).evo b3.2
  cases x with
  | tup xs =>
    obtain ⟨a,vs,e1,s1,d1⟩:=dx3.tup
    have h3':¬ (HT.sIx xs.length 0 l=0∧HT.sIx xs.length xs.length u=xs.length)∧P (.tup (cutD xs l u)) st3:=h3
    refine .inl ⟨a,vs,e1,s1,by rw [← d1.length];exact h3'.1,fun p hp=>hq _ st3 h3'.2 φ3 _ _ (b.trans (bhd_tup b3.1 hp)) (.mkTup (SqT.of upd_same) ?_)⟩
    unfold cutD cutV
    rw [← d1.length]
    exact ((d1.drop _).take _).evo (evo_new hp)
  | lst n =>
    have h3':(match st3[n]? with
      | some o=>P (.lst st3.length) (st3 ++ [.rw (cutD o.items l u)])
      | none=>False):=h3
    split at h3'
    · rename_i o eo
      obtain ⟨vs,s1,d1⟩:=b3.1.seq eo dx3.isL
      refine .inr ⟨φ3 n,vs,dx3.lst.2,s1,fun p hp=>?_⟩
      have:DL X.K φ3 st3.length H3 (cutD o.items l u) (cutV vs l u):=by
        unfold cutD cutV
        rw [← d1.length]
        exact (d1.drop _).take _
      exact hq _ _ h3' _ _ _ (b.trans (bhd_lst b3.1 hp this)) d_new
    · exact h3'.elim
  | _=>exact h3.elim
end
end L3
namespace L3
open PySem PySem.Spec PyProof.Rows L2
noncomputable def liftSp (K:PySem.W.Frag) (sp:RDL):Sp:=fun vs H Q _=>liftC K sp vs H Q
section
variable {X:Cx} {e:Expr} {es:List Expr} {t:TAD} {pos p:Pos} {x:Str}
theorem de_call {k:Nat} {f:Addr} {fd:FuncData} {ps:List Str} {sp:RDL} (F:FnOk X.prog X.w X.K X.mg X.base CX0 k f fd ps (liftSp X.K sp)) (hr:Room k X.A) (hm:X.mg x=some (.ref f)) (hk:PySem.W.keepIn X.K (.ref f)=true)
    (hb:Binds X.K fd ps []) (ha:DA X (e :: es) t) (hg:Gl X x:=by rfl) (hdb:(x == ("__debug__" : Str))=false:=by decide) (he:starEach (e :: es) X.env=(false,eval e X.env) :: starEach es X.env:=by rfl)
    (hpl:(backTo pos (starEach es X.env)).any (·.1)=false:=by rfl):DE X (.Call (.Name x p) (e :: es) [] pos) (qF sp t):=by
  refine PE.imp (pe_call F hr hg hm hk hb .nil pass0 ha hdb he hpl) fun σ H Q h=>?_
  have:=call_lift h
  obtain ⟨φ,st,ρ,P,pre,ht,hq⟩:=this
  refine ⟨φ,st,ρ,P,pre,ht,fun ds st' hp φ' H' vs b d=>?_⟩
  show liftSp X.K sp (vs ++ []) H' Q E0
  rw [List.append_nil]
  exact hq ds st' hp φ' H' vs b d
theorem de_callB {id:String} {r:RDL} (hc:CallD X (.builtin id) r) (hm:X.mg x=none) (hv:bootBuiltins x=some (.builtin id)) (ha:DA X (e :: es) t) (hg:Gl X x:=by rfl) (hn:x ≠ "__name__":=by decide) (hdb:(x == ("__debug__" : Str))=false:=by decide)
    (he:starEach (e :: es) X.env=(false,eval e X.env) :: starEach es X.env:=by rfl) (hpl:(backTo pos (starEach es X.env)).any (·.1)=false:=by rfl):DE X (.Call (.Name x p) (e :: es) [] pos) (qF r t) :=
  PE.imp (pe_callB hc hg hm hv ha hn hdb he hpl) fun σ H Q h=>call_lift h
theorem de_callTy {T:String} {r:RDL} (hc:CallD X (.type T) r) (hm:X.mg x=none) (hv:bootBuiltins x=some (.type T)) (ha:DA X (e :: es) t) (hg:Gl X x:=by rfl) (hn:x ≠ "__name__":=by decide) (hdb:(x == ("__debug__" : Str))=false:=by decide)
    (he:starEach (e :: es) X.env=(false,eval e X.env) :: starEach es X.env:=by rfl) (hpl:(backTo pos (starEach es X.env)).any (·.1)=false:=by rfl):DE X (.Call (.Name x p) (e :: es) [] pos) (qF r t) :=
  PE.imp (pe_callTy hc hg hm hv ha hn hdb he hpl) fun σ H Q h=>call_lift h
noncomputable def rLen:RDL:=fun ds st P=>match ds with
  | [.str z]=>z.length≤sizeLine∧P (.int z.length) st
  | [x]=>(match seqOf st x with
    | some xs=>P (.int xs.length) st
    | none=>False)
  | _=>False
theorem cd_len:CallD X (.builtin "len") rLen:=by
  intro pins s σ H vs us Q I rv h
  obtain ⟨φ,st,ds,P,R,dl,hr,hq⟩:=h
  rcases ds with _ | ⟨x,_ | ⟨y,r⟩⟩
  · exact hr.elim
  rotate_left
  · cases x <;> exact hr.elim
  · obtain ⟨v,rfl,dx⟩:=dl.one
    have gen:(match seqOf st x with
      | some xs=>P (.int xs.length) st
      | none=>False)→wpAny (model X.prog X.w) X.A (call (.builtin "len") us) (EP X pins σ Q) X.xe s:=fun hg=>by
      split at hg
      · rename_i xs e
        obtain ⟨p,ws,e1,hs,hd⟩:=seq_of R dx e
        refine call_len_seq pins s σ H [v] us Q I rv ⟨p,ws,by rw [e1],hs.elim (fun z=>.inl z.1) fun z=>.inr z.1,?_⟩
        rw [← hd.length]
        exact Go.here hq R hg D.mkInt
      · exact hg.elim
    cases x with
    | str z=>exact call_len_str pins s σ H [v] us Q I rv ⟨z,by rw [dx.str],hr.1,Go.here hq R hr.2 D.mkInt⟩
    | _=>exact gen hr
noncomputable def qH:RDL:=fun ds st P=>match ds with
  | [x]=>(match seqOf st x with
    | some xs=>P (.tup xs) st
    | none=>False)
  | _=>False
theorem cd_tuple:CallD X (.type "tuple") qH:=by
  intro pins s σ H vs us Q I rv h
  obtain ⟨φ,st,ds,P,R,dl,hr,hq⟩:=h
  rcases ds with _ | ⟨x,_ | ⟨y,r⟩⟩
  · exact hr.elim
  rotate_left
  · cases x <;> exact hr.elim
  · obtain ⟨v,rfl,dx⟩:=dl.one
    have hr':(match seqOf st x with
      | some xs=>P (.tup xs) st
      | none=>False):=hr
    split at hr'
    · rename_i xs e
      obtain ⟨p,ws,e1,hs,hd⟩:=seq_of R dx e
      refine call_tuple_of pins s σ H [v] us Q I rv ⟨p,ws,by rw [e1],?_⟩
      rcases hs with ⟨hs,_⟩ | ⟨hs,ex⟩
      · exact .inl ⟨hs,fun l hl=>hq _ st hr' φ _ _ (bhd_tup R hl) (.mkTup (SqT.of upd_same) (hd.evo (evo_new hl)))⟩
      · exact .inr ⟨hs,Go.here hq R hr' (.mkTup hs hd)⟩
    · exact hr'.elim
noncomputable def rList:RDL:=fun ds st P=>match ds with
  | [x]=>(match seqOf st x with
    | some xs=>P (.lst st.length) (st ++ [.rw xs])
    | none=>False)
  | _=>False
theorem cd_list:CallD X (.type "list") rList:=by
  intro pins s σ H vs us Q I rv h
  obtain ⟨φ,st,ds,P,R,dl,hr,hq⟩:=h
  rcases ds with _ | ⟨x,_ | ⟨y,r⟩⟩
  · exact hr.elim
  rotate_left
  · cases x <;> exact hr.elim
  · obtain ⟨v,rfl,dx⟩:=dl.one
    have hr':(match seqOf st x with
      | some xs=>P (.lst st.length) (st ++ [.rw xs])
      | none=>False):=hr
    split at hr'
    · rename_i xs e
      obtain ⟨p,ws,e1,hs,hd⟩:=seq_of R dx e
      exact call_list_of pins s σ H [v] us Q I rv ⟨p,ws,by rw [e1],hs.elim (fun z=>.inl z.1) fun z=>.inr z.1,fun l hl=>hq _ _ hr' _ _ _ (bhd_lst R hl hd) d_new⟩
    · exact hr'.elim
end
end L3
namespace L3
open PySem PySem.Spec PyProof.Rows L2
section
variable {X:Cx}
noncomputable def tyN:Dt→Option String
  | .non=>some "NoneType"
  | .bl _=>some "bool"
  | .int _=>some "int"
  | .str _=>some "str"
  | .tup _=>some "tuple"
  | .lst _=>some "list"
  | .ty _=>none
  | .dic _=>none
  | .ins _=>none
noncomputable def isT (t c:String):Bool:=t == c || (t == "bool" && c == "int")
theorem kit_of (K:PySem.W.Frag) {t c:String} (ht:t = "NoneType" ∨ t = "bool" ∨ t = "int" ∨ t = "str" ∨ t = "tuple" ∨ t = "list") (hc:c = "bool" ∨ c = "int" ∨ c = "str" ∨ c = "tuple" ∨ c = "list"):PySem.W.kitOne K (.type t) (.type c)=some (isT t c):=by
  rcases ht with rfl | rfl | rfl | rfl | rfl | rfl <;> rcases hc with rfl | rfl | rfl | rfl | rfl <;> kernel_rfl
noncomputable def rIsInst:RDL:=fun ds st P=>match ds with
  | [x,.ty c]=>(c = "bool" ∨ c = "int" ∨ c = "str" ∨ c = "tuple" ∨ c = "list")∧(match tyN x with
    | some t=>P (.bl (isT t c)) st
    | none=>False)
  | _=>False
theorem cd_isinst:CallD X (.builtin "isinstance") rIsInst:=by
  intro pins s σ H vs us Q I rv h
  obtain ⟨φ,st,ds,P,R,dl,hr,hq⟩:=h
  rcases ds with _ | ⟨x,_ | ⟨y,_ | ⟨z,r⟩⟩⟩
  · exact hr.elim
  · exact hr.elim
  rotate_left
  · cases y <;> exact hr.elim
  · cases y <;> first
      | exact hr.elim
      | skip
    rename_i c
    obtain ⟨v,w,rfl,dx,dy⟩:=dl.two
    obtain ⟨u,u',rfl,ru,ru'⟩:=vals2 rv
    have:=dy.ty
    subst this
    have:=(show u'=Value.type c from ru')
    subst this
    obtain ⟨hc,hr⟩:=hr
    have fin:∀ {t:String},P (.bl (isT t c)) st→∀ tk,EP X pins σ Q (.bool (isT t c)) { s with toks:=tk }:=fun {t} hp tk=>⟨.bl _,H,I.tok tk,rfl,Go.here hq R hp D.mkBl⟩
    cases x with
    | non=>cases dx.non;cases ru;exact PySem.W.kia_one PySem.W.kitx_none I.kIn True.intro (kit_of _ (.inl rfl) hc) (fun z=>nomatch z) (fin hr)
    | bl k=>cases dx.bl;cases ru;exact PySem.W.kia_one PySem.W.kitx_bool I.kIn True.intro (kit_of _ (.inr (.inl rfl)) hc) (fun z=>nomatch z) (fin hr)
    | int k=>cases dx.int;obtain ⟨t,rfl⟩:=ru;exact PySem.W.kia_one PySem.W.kitx_int I.kIn True.intro (kit_of _ (.inr (.inr (.inl rfl))) hc) (fun z=>nomatch z) (fin hr)
    | str k=>cases dx.str;obtain ⟨t,rfl⟩:=ru;exact PySem.W.kia_one PySem.W.kitx_str I.kIn True.intro (kit_of _ (.inr (.inr (.inr (.inl rfl)))) hc) (fun z=>nomatch z) (fin hr)
    | tup xs =>
      obtain ⟨a,ws,e1,s1,d1⟩:=dx.tup
      subst e1
      cases ru
      obtain ⟨its,_,⟨o,h1,h2,_⟩,_⟩:=I.tuple s1
      exact PySem.W.kia_one PySem.W.kitx_tuple I.kIn ⟨o,h1,h2⟩ (kit_of _ (.inr (.inr (.inr (.inr (.inl rfl))))) hc) (fun z=>nomatch z) (fin hr)
    | lst n =>
      obtain ⟨ws,s1⟩:=dx.isL
      obtain ⟨hn,e1⟩:=dx.lst
      subst e1
      cases ru
      obtain ⟨its,_,pl,_⟩:=I.list s1
      obtain ⟨ob,h1,h2,_⟩:=pl.isList
      exact PySem.W.kia_one PySem.W.kitx_list I.kIn ⟨ob,h1,h2⟩ (kit_of _ (.inr (.inr (.inr (.inr (.inr rfl))))) hc) (fun z=>nomatch z) (fin hr)
    | ty _=>exact hr.elim
    | dic _=>exact hr.elim
    | ins _=>exact hr.elim
end
end L3
namespace L3
open PySem PySem.Spec PyProof.Rows L2
section
variable {X:Cx} {s:Stmt} {rest:List Stmt} {t u:TSD} {e:Expr} {te:TD} {pos:Pos}
noncomputable def qN:TSD:=fun E ρ st=>E.nx ρ st
noncomputable def qS (t u:TSD):TSD:=fun E ρ st=>t { E with nx:=u E } ρ st
theorem dss_nil:DSs X [] qN:=(pss_nil).imp fun E σ H h=>by
  obtain ⟨φ,st,ρ,P,pre,ht,n,b,c,r⟩:=h
  exact n ρ st ht φ H σ (.refl pre.1) pre.2
theorem dss_cons (h1:DS X s t) (h2:DSs X rest u):DSs X (s :: rest) (qS t u):=(pss_cons h1 h2).imp fun E σ H h=>by
  obtain ⟨φ,st,ρ,P,pre,ht,n,b,c,r⟩:=h
  refine ⟨φ,st,ρ,{ P with nx:=u P },pre,ht,fun ρ' st' hu φ' H' σ' bh dr=>?_,b,c,r⟩
  exact ⟨φ',st',ρ',P,⟨bh.1,dr⟩,hu,fun ρ2 st2 h2 φ2 H2 σ2 b2 d2=>n ρ2 st2 h2 φ2 H2 σ2 (bh.trans b2) d2,fun ρ2 st2 h2 φ2 H2 σ2 b2 d2=>b ρ2 st2 h2 φ2 H2 σ2 (bh.trans b2) d2,
    fun ρ2 st2 h2 φ2 H2 σ2 b2 d2=>c ρ2 st2 h2 φ2 H2 σ2 (bh.trans b2) d2,fun d st2 h2 φ2 H2 v b2 d2=>r d st2 h2 φ2 H2 v (bh.trans b2) d2⟩
noncomputable def tdrop (te:TD):TSD:=fun E ρ st=>te ρ st fun _ st1=>E.nx ρ st1
theorem ds_expr (he:DE X e te) (hs:swapsWith e none pos.line X.env=pure false:=by rfl):DS X (.Expr e pos) (tdrop te):=(ps_expr he hs).imp fun E σ H h=>by
  obtain ⟨φ,st,ρ,P,pre,ht,n,b,c,r⟩:=h
  exact ⟨φ,st,ρ,_,pre,ht,fun d st1 h1 φ1 H1 v b1 dx=>n ρ st1 h1 φ1 H1 σ b1 (pre.on b1).2⟩
noncomputable def qR (te:TD):TSD:=fun E ρ st=>te ρ st E.rt
theorem ds_ret (he:DE X e te):DS X (.Return (some e) pos) (qR te):=(ps_ret he).imp fun E σ H h=>by
  obtain ⟨φ,st,ρ,P,pre,ht,n,b,c,r⟩:=h
  exact ⟨φ,st,ρ,P.rt,pre,ht,r⟩
noncomputable def qJ (c:TBD) (t u:TSD):TSD:=fun E ρ st=>c ρ st fun k st1=>if k=true then t E ρ st1 else u E ρ st1
theorem ds_if {c:Expr} {a b:List Stmt} {tc:TBD} (hc:DT X c tc) (ha:DSs X a t) (hb:DSs X b u):DS X (.If c a b pos) (qJ tc t u):=(ps_if hc ha hb).imp fun E σ H h=>by
  obtain ⟨φ,st,ρ,P,pre,ht,n,b,c,r⟩:=h
  refine ⟨φ,st,ρ,_,pre,ht,fun k st1 h1 φ1 H1 b1=>?_⟩
  have on:∀ {v:TSD},v P ρ st1→liftS X.K v E σ H1:=fun {v} hv=>⟨φ1,st1,ρ,P,pre.on b1,hv,fun ρ2 st2 h2 φ2 H2 σ2 b2 d2=>n ρ2 st2 h2 φ2 H2 σ2 (b1.trans b2) d2,fun ρ2 st2 h2 φ2 H2 σ2 b2 d2=>b ρ2 st2 h2 φ2 H2 σ2 (b1.trans b2) d2,
    fun ρ2 st2 h2 φ2 H2 σ2 b2 d2=>c ρ2 st2 h2 φ2 H2 σ2 (b1.trans b2) d2,fun d st2 h2 φ2 H2 v b2 d2=>r d st2 h2 φ2 H2 v (b1.trans b2) d2⟩
  cases k with
  | true=>exact iteT (on (by rw [if_pos rfl] at h1;exact h1))
  | false=>exact iteF (on (by rw [if_neg Bool.false_ne_true] at h1;exact h1))
noncomputable abbrev TGD:=Dt→Rho→Sto→(Rho→Sto→Prop)→Prop
noncomputable abbrev TGsD:=List Dt→Rho→Sto→(Rho→Sto→Prop)→Prop
noncomputable def liftG (K:PySem.W.Frag) (g:TGD):TG:=fun v σ H Q=>∃ φ st ρ d P,Pre K φ st H ρ σ∧D K φ st.length H d v∧g d ρ st P∧∀ ρ' st',P ρ' st'→∀ φ' H' σ',Bhd K φ st H φ' st' H'→DR K φ' st'.length H' ρ' σ'→Q σ' H'
noncomputable def liftGs (K:PySem.W.Frag) (g:TGsD):TGs:=fun vs σ H Q=>∃ φ st ρ ds P,Pre K φ st H ρ σ∧DL K φ st.length H ds vs∧g ds ρ st P∧∀ ρ' st',P ρ' st'→∀ φ' H' σ',Bhd K φ st H φ' st' H'→DR K φ' st'.length H' ρ' σ'→Q σ' H'
noncomputable def DG (X:Cx) (tg:Expr) (g:TGD):Prop:=PG X tg (liftG X.K g)
noncomputable def DGs (X:Cx) (tg:List Expr) (g:TGsD):Prop:=PGs X tg (liftGs X.K g)
theorem _root_.L2.PG.imp {X:Cx} {e:Expr} {t t':TG} (h:PG X e t) (i:∀ v σ H Q,t' v σ H Q→t v σ H Q):PG X e t':=fun pins s σ H v u Q I r q=>h pins s σ H v u Q I r (i v σ H Q q)
theorem _root_.L2.PGs.imp {X:Cx} {e:List Expr} {t t':TGs} (h:PGs X e t) (i:∀ v σ H Q,t' v σ H Q→t v σ H Q):PGs X e t':=fun pins s σ H v u Q I r q=>h pins s σ H v u Q I r (i v σ H Q q)
noncomputable def qG (i:Nat):TGD:=fun d ρ st P=>P (ρ.set i (some d)) st
theorem dg_name (i:Nat) {x:Str} (hN:X.N.Nodup) (hi:X.N[i]? = some x:=by rfl) (hx:Loc X.env.scope x:=by first | exact Or.inl rfl | exact Or.inr rfl) (hf:X.fn x=true∨X.env.scope.names.lookup x=some .local:=by first | exact .inl rfl | exact .inr rfl | assumption):DG X (.Name x pos) (qG i) :=
  (pg_name hN hi hx hf).imp fun v σ H Q h=>by
    obtain ⟨φ,st,ρ,d,P,pre,hd,hg,hq⟩:=h
    exact hq _ st hg φ H _ (.refl pre.1) (pre.2.set hd i)
noncomputable def gsnil:TGsD:=fun ds ρ st P=>match ds with
  | []=>P ρ st
  | _=>False
noncomputable def gscons (g:TGD) (gs:TGsD):TGsD:=fun ds ρ st P=>match ds with
  | d :: r=>g d ρ st fun ρ1 st1=>gs r ρ1 st1 P
  | _=>False
theorem dgs_nil:DGs X [] gsnil:=(pgs_nil).imp fun v σ H Q h=>by
  obtain ⟨φ,st,ρ,ds,P,pre,hd,hg,hq⟩:=h
  cases ds with
  | nil =>
    have:v=[]:=by simpa [DL] using hd
    exact ⟨this,hq _ st hg φ H _ (.refl pre.1) pre.2⟩
  | cons _ _=>exact hg.elim
theorem dgs_cons {es:List Expr} {g:TGD} {gs:TGsD} (h1:DG X e g) (h2:DGs X es gs) (hs:(assignEach (e :: es) X.env).map (·.2)=assign e X.env :: (assignEach es X.env).map (·.2):=by rfl):DGs X (e :: es) (gscons g gs):=(pgs_cons h1 h2 hs).imp fun v σ H Q h=>by
  obtain ⟨φ,st,ρ,ds,P,pre,hd,hg,hq⟩:=h
  cases ds with
  | nil=>exact hg.elim
  | cons d r =>
    simp only [DL] at hd
    obtain ⟨w,ws,rfl,dw,dws⟩:=hd
    refine ⟨w,ws,rfl,φ,st,ρ,d,_,pre,dw,hg,fun ρ1 st1 h1 φ1 H1 σ1 b1 dr1=>?_⟩
    exact ⟨φ1,st1,ρ1,r,P,⟨b1.1,dr1⟩,dws.evo b1.2,h1,fun ρ2 st2 h2 φ2 H2 σ2 b2 d2=>hq ρ2 st2 h2 φ2 H2 σ2 (b1.trans b2) d2⟩
noncomputable def gunpack (n:Nat) (gs:TGsD):TGD:=fun d ρ st P=>match seqOf st d with
  | some xs=>xs.length=n∧gs xs ρ st P
  | none=>False
theorem draw_list {prog:Program} {w:World} {A:Around} {E:Value→Shared→Prop} {it l:Addr} {items:Array Value} (hne:l≠it):∀ (n i:Nat) (s:Shared) (Q:List Value→Shared→Prop),s.heap.IsListIter it l i→s.heap.IsList l items→i + n≤items.size →
    (∀ h',h'.IsListIter it l (i + n)→Heap.SameBut it s.heap h'→Q ((items.toList.drop i).take n) { s with heap:=h' })→wpAny (model prog w) A (draw (.ref it) n) Q E s
  | 0,i,s,Q,hit,hl,hn,h=>by
    unfold draw
    have:=h s.heap (by simpa using hit) (.refl ..)
    simpa using wpAny_pure this
  | n + 1,i,s,Q,hit,hl,hn,h=>by
    unfold draw
    have hi:i < items.size:=by omega
    refine wpAny_bind (wpAny_pyNext_list_item hit hl (x:=items[i]) (by simp [hi]) fun h1 hit1 sb1=>?_)
    dsimp only
    refine wpAny_bind (wpAny_holding ?_)
    refine draw_list hne n (i + 1) { s with heap:=h1 } _ hit1 (hl.extBut sb1.extBut hne) (by omega) fun h2 hit2 sb2=>?_
    refine wpAny_pure ?_
    have e:(items.toList.drop i).take (n + 1)=items[i] :: (items.toList.drop (i + 1)).take n:=by
      rw [List.drop_eq_getElem_cons (by simpa using hi),List.take_succ_cons]
      simp
    have:=h h2 (by rw [show i + (n + 1)=i + 1 + n by omega];exact hit2) (sb1.trans sb2)
    rw [e] at this
    exact this
end
end L3
namespace L3
open PySem PySem.Spec PyProof.Rows L2
section
variable {prog:Program} {w:World} {A:Around} {E:Value→Shared→Prop} {s:Shared}
theorem unpackItems_list {l:Addr} {items:Array Value} {Q:List Value→Shared→Prop} (hh:A.handled=none) (hl:s.heap.IsList l items)
    (hQ:∀ h',Heap.ExtBut s.heap.objs.size s.heap h'→Q items.toList { s with heap:=h' }):wpAny (model prog w) A (unpackItems (.ref l) items.size none) Q E s:=by
  have hlt:l≠s.heap.objs.size:=by obtain ⟨o,ho,_⟩:=hl;exact Nat.ne_of_lt (Heap.lt_size ho)
  unfold unpackItems
  refine wpAny_bind ?_
  unfold notIterableAtAll
  refine wpAny_bind (wpAny_specialOf hl.typeIs slot_list_iter.lookup ?_)
  refine wpAny_pure ?_
  simp only [Bool.false_eq_true,if_false]
  refine wpAny_bind (wpAny_holding (wpAny_pyIter_list hl ?_))
  refine wpAny_bind (wpAny_holding (draw_list hlt items.size 0 _ _ ⟨_,Heap.get?_push_size _ rfl,rfl,rfl⟩ (hl.push _) (by omega) fun h₁ hit₁ hs₁=>?_))
  have hall:List.take items.size (List.drop 0 items.toList)=items.toList:=by
    rw [List.drop_zero];exact List.take_of_length_le (by simp)
  rw [hall]
  rw [if_neg (by simp)]
  have hl₁:h₁.IsList l items:=(hl.push _).extBut hs₁.extBut hlt
  refine wpAny_bind (wpAny_holding (wpAny_pyNext_list_end hh hit₁ hl₁ (by simp) fun h₂ he₂=>?_))
  simp only [Option.isSome_none,Bool.false_eq_true,if_false]
  exact wpAny_pure (hQ h₂ fun b o hb e=>he₂ b o hb (hs₁.extBut b o hb (Heap.get?_push_of_some _ e)))
theorem assign_Tuple_list {env:Env} {elts:List Expr} {x1} {pos:Pos} {t:Addr} {items:Array Value} {Q:Unit→Shared→Prop} (hh:A.handled=none) (ht:s.heap.IsList t items)
    (hn:(assignEach elts env).length=items.size) (hstar:(assignEach elts env).findIdx? (·.1)=none)
    (h:∀ h',Heap.ExtBut s.heap.objs.size s.heap h'→wpAny (model prog w) A (assignInOrder ((assignEach elts env).map (·.2)) items.toList) Q E { s with heap:=h' }) :
    wpAny (model prog w) A (assign (.Tuple elts x1 pos) env (.ref t)) Q E s:=by
  rw [assign_Tuple]
  refine wpAny_bind (wpAny_standAt ?_)
  unfold unpack
  rw [hn,hstar]
  exact wpAny_bind (wpAny_holding (unpackItems_list hh ht h))
end
section
variable {X:Cx} {pos:Pos} {e:Expr} {te:TD}
theorem dg_unpack {es:List Expr} {k:Nat} {gs:TGsD} (n:Nat) (hc:X.calm=true) (h:DGs X es gs) (hn:(assignEach es X.env).length=n:=by rfl) (hst:(assignEach es X.env).findIdx? (·.1)=none:=by rfl):DG X (.Tuple es k pos) (gunpack n gs):=by
  intro pins s σ H v u Q I r hw
  obtain ⟨φ,st,ρ,d,P,pre,hd,hg,hq⟩:=hw
  unfold gunpack at hg
  split at hg
  · rename_i xs ex
    obtain ⟨hl,hg⟩:=hg
    obtain ⟨p,vs,e1,hs,dl⟩:=seq_of pre.1 hd ex
    subst e1
    cases r
    have hlen:=dl.length
    rcases hs with ⟨hs,_⟩ | ⟨hs,_⟩
    · obtain ⟨its,rv,pl,_⟩:=I.list hs
      have:=rv.length
      refine assign_Tuple_list (I.ok.hd hc) pl.isList (by rw [hn,List.size_toArray];omega) hst fun h' hx=>?_
      have I1:Inv X pins σ H { s with heap:=h' }:=I.kept (t':=s.toks) fun b o e=>hx b o (Nat.ne_of_lt (Heap.lt_size e)) e
      exact h pins _ σ H vs _ Q I1 (by simpa using rv) ⟨φ,st,ρ,xs,P,pre,dl,hg,hq⟩
    · obtain ⟨its,rv,ht,_⟩:=I.tuple hs
      have:=rv.length
      refine assign_Tuple_tuple (I.ok.hd hc) ht (by rw [hn,List.size_toArray];omega) hst fun h' hx=>?_
      have I1:Inv X pins σ H { s with heap:=h' }:=I.kept (t':=s.toks) fun b o e=>hx b o (Nat.ne_of_lt (Heap.lt_size e)) e
      exact h pins _ σ H vs _ Q I1 (by simpa using rv) ⟨φ,st,ρ,xs,P,pre,dl,hg,hq⟩
  · exact hg.elim
noncomputable def qE (te:TD) (g:TGD):TSD:=fun E ρ st=>te ρ st fun d st1=>g d ρ st1 E.nx
theorem asg_lift {K:PySem.W.Frag} {te:TD} {g:TGD} {E:Ends} {σ:L2.St} {H:Hp} (h:liftS K (qE te g) E σ H):tAsg (liftE K te) (liftG K g) E σ H:=by
  obtain ⟨φ,st,ρ,P,pre,ht,n,b,c,r⟩:=h
  refine ⟨φ,st,ρ,_,pre,ht,fun d st1 h1 φ1 H1 v b1 dx=>?_⟩
  exact ⟨φ1,st1,ρ,d,P.nx,pre.on b1,dx,h1,fun ρ2 st2 h2 φ2 H2 σ2 b2 d2=>n ρ2 st2 h2 φ2 H2 σ2 (b1.trans b2) d2⟩
theorem ds_asg {tg:Expr} {g:TGD} (he:DE X e te) (hg:DG X tg g) (hs:swapsWithSole [tg] e pos.line X.env=pure false:=by rfl) (hw:swappedStores [tg] e X.env=pure none:=by rfl)
    (h1:(assignEach [tg] X.env).map (·.2)=[assign tg X.env]:=by rfl):DS X (.Assign [tg] e pos) (qE te g):=(ps_asg he hg hs hw h1).imp fun _ _ _=>asg_lift
theorem ds_set (i:Nat) {x:Str} {pos':Pos} (hN:X.N.Nodup) (he:DE X e te) (hi:X.N[i]? = some x:=by rfl) (hx:Loc X.env.scope x:=by first | exact Or.inl rfl | exact Or.inr rfl) (hs:swapsWith e (some (.Name x pos')) pos.line X.env=pure false:=by rfl)
    (hf:X.fn x=true∨X.env.scope.names.lookup x=some .local:=by first | exact .inl rfl | exact .inr rfl | assumption):DS X (.Assign [.Name x pos'] e pos) (qE te (qG i)):=(ps_set hN hi hx he hs hf).imp fun E σ H h=>by
  obtain ⟨φ,st,ρ,P,pre,ht,n,b,c,r⟩:=h
  exact ⟨φ,st,ρ,_,pre,ht,fun d st1 h1 φ1 H1 v b1 dx=>n _ st1 h1 φ1 H1 _ b1 ((pre.on b1).2.set dx i)⟩
noncomputable def gsub (to ti:TD):TGD:=fun d ρ st P=>to ρ st fun o st1=>ti ρ st1 fun i st2=>match o,i with
  | .lst n,.int k=>(match st2[n]? with
    | some (.rw xs)=>(match ixN xs.length k with
      | some j=>P ρ (st2.set n (.rw (xs.set j d)))
      | none=>False)
    | _=>False)
  | _,_=>False
theorem dg_sub {o i:Expr} {to ti:TD} (ho:DE X o to) (hi:DE X i ti)
    (ha:∀ v,assign (.Subscript o i pos) X.env v=(do
      let ov ← holding [v] (eval o X.env)
      let iv ← holding [v,ov] (eval i X.env)
      standAt pos
      holding [v,ov,iv] (setItem ov iv v)
      release [v,ov,iv] []):=by intro _;rfl):DG X (.Subscript o i pos) (gsub to ti):=(pg_sub ho hi set_list ha).imp fun v σ H Q h=>by
  obtain ⟨φ,st,ρ,d,P,pre,hd,hg,hq⟩:=h
  refine ⟨φ,st,ρ,_,pre,hg,fun x st1 h1 φ1 H1 w b1 dx=>?_⟩
  refine ⟨φ1,st1,ρ,_,pre.on b1,h1,fun y st2 h2 φ2 H2 z b2 dy=>?_⟩
  cases x with
  | lst n =>
    cases y with
    | int k =>
      have h2':(match st2[n]? with
        | some (.rw xs)=>(match ixN xs.length k with
          | some j=>P ρ (st2.set n (.rw (xs.set j d)))
          | none=>False)
        | _=>False):=h2
      split at h2'
      · rename_i xs ex
        split at h2'
        · rename_i j ej
          obtain ⟨vs,hv,dl⟩:=b2.1.rw n xs ex
          have dx2:=dx.evo b2.2
          have hd2:=(hd.evo b1.2).evo b2.2
          refine ⟨φ2 n,vs,k,j,dx2.lst.2,dy.int,hv,by rw [← dl.length];exact ej,?_⟩
          have bb:Bhd X.K φ2 st2 H2 φ2 (st2.set n (.rw (xs.set j d))) (upd H2 (φ2 n) (.lst (vs.set j v))):=⟨b2.1.setL ex (dl.set hd2 j),evo_set hv⟩
          exact hq _ _ h2' φ2 _ σ (b1.trans (b2.trans bb)) (((pre.on b1).on b2).on bb).2
        · exact h2'.elim
      · exact h2'.elim
    | _=>exact h2.elim
  | _=>cases y <;> exact h2.elim
noncomputable def tappend (to te:TD):TD:=fun ρ st P=>to ρ st fun o st1=>match o with
  | .lst n=>te ρ st1 fun d st2=>(match st2[n]? with
    | some (.rw xs)=>xs.length < sizeLine∧P .non (st2.set n (.rw (xs ++ [d])))
    | _=>False)
  | _=>False
theorem de_append {o:Expr} {to:TD} {apos cpos:Pos} (ho:DE X o to) (he:DE X e te)
    (hbase:attributeBase o "append" X.env (eval o X.env)=eval o X.env:=by rfl)
    (hfew:((backTo cpos (starEach [e] X.env)).all (fun x=>!x.1) && (backToKw cpos (keywordEach [] X.env)).all (fun x=>x.1.isSome)
      && decide (([e]:List Expr).length + ([]:List Keyword).length + (if ([]:List Keyword).isEmpty then 0 else 1) < 30))=true:=by rfl)
    (hline:(apos.endLine == cpos.line)=true:=by rfl) (hs:starEach [e] X.env=(false,eval e X.env) :: starEach [] X.env:=by rfl) (hplain:(backTo cpos (starEach ([]:List Expr) X.env)).any (·.1)=false:=by rfl) :
    DE X (.Call (.Attribute o "append" apos) [e] [] cpos) (tappend to te):=by
  refine PE.imp (pe_bm PySem.F.plainAttrs_list PySem.F.slot_list_append PySem.F.type_list_append mt_append ho (da_cons he da_nil hs) hbase hfew hline hs hplain) fun σ H Q h=>?_
  obtain ⟨φ,st,ρ,P,pre,ht,hq⟩:=h
  refine ⟨φ,st,ρ,_,pre,ht,fun x st1 h1 φ1 H1 v b1 dx=>?_⟩
  cases x with
  | lst n =>
    have hn:=dx.lst.1
    obtain ⟨so,eo⟩:∃ so,st1[n]? = some so:=⟨st1[n],by simp [hn]⟩
    obtain ⟨ws,hws,_⟩:=b1.1.seq eo dx.isL
    refine ⟨?_,?_⟩
    · rw [dx.lst.2]
      exact .inl ⟨rfl,ws,hws⟩
    refine ⟨φ1,st1,ρ,(fun ds st2=>match ds with
      | [d]=>(match st2[n]? with
        | some (.rw xs)=>xs.length < sizeLine∧P .non (st2.set n (.rw (xs ++ [d])))
        | _=>False)
      | _=>False),pre.on b1,h1,fun ds st2 h2 φ2 H2 zs b2 dz=>?_⟩
    rcases ds with _ | ⟨d,_ | ⟨d2,r⟩⟩
    · exact h2.elim
    rotate_left
    · exact h2.elim
    · have h2:(match st2[n]? with
        | some (.rw xs)=>xs.length < sizeLine∧P .non (st2.set n (.rw (xs ++ [d])))
        | _=>False):=h2
      split at h2
      · rename_i xs ex
        obtain ⟨y,rfl,dy⟩:=dz.one
        obtain ⟨vs,hv,dl⟩:=b2.1.rw n xs ex
        have dx2:=dx.evo b2.2
        have bb:Bhd X.K φ2 st2 H2 φ2 (st2.set n (.rw (xs ++ [d]))) (upd H2 (φ2 n) (.lst (vs ++ [y]))):=⟨b2.1.setL ex (dl.append (.cons dy .nil)),evo_set hv⟩
        exact ⟨φ2 n,vs,y,dx2.lst.2,rfl,hv,by rw [← dl.length];exact h2.1,hq _ _ h2.2 φ2 _ _ (b1.trans (b2.trans bb)) D.mkNon⟩
      · exact h2.elim
  | _=>exact h1.elim
end
end L3
namespace L3
open PySem PySem.Spec PyProof.Rows L2
noncomputable def forW (items:List Dt) (ok:Sto→Prop) (g:TGD) (tb:TSD):TSD:=fun E ρ st=>∃ Inv:Nat→Rho→Sto→Prop,Inv 0 ρ st∧(∀ i ρ' st',i≤items.length→Inv i ρ' st'→ok st') ∧
  (∀ (i:Nat) d ρ' st',items[i]? = some d→Inv i ρ' st'→g d ρ' st' fun ρ2 st2=>tb { E with nx:=Inv (i + 1),ct:=Inv (i + 1),bk:=E.nx } ρ2 st2)∧∀ ρ' st',Inv items.length ρ' st'→E.nx ρ' st'
noncomputable def Yields (K:PySem.W.Frag) (φ1:Nat→Addr) (st1:Sto) (H1:Hp) (J:It) (items:List Dt) (ok:Sto→Prop):Prop :=
  ∀ (i:Nat) φ' st' H',Bhd K φ1 st1 H1 φ' st' H'→ok st'→i≤items.length→(i=items.length→J.stop i H') ∧
    (∀ d,items[i]? = some d→J.go i H'∧∀ y H2,J.yld i H' y H2→Bhd K φ' st' H' φ' st' H2∧D K φ' st'.length H2 d y)
section
variable {K:PySem.W.Frag} {φ1:Nat→Addr} {st1:Sto} {H1:Hp} {ρ1:Rho} {σ1:L2.St} {J:It} {items:List Dt} {ok:Sto→Prop} {g:TGD} {tb:TSD}
theorem for_gen {E:EndsD} {E':Ends} (pre:Pre K φ1 st1 H1 ρ1 σ1) (hJ:Yields K φ1 st1 H1 J items ok) (hf:forW items ok g tb E ρ1 st1)
    (n:∀ ρ' st',E.nx ρ' st'→∀ φ' H' σ',Bhd K φ1 st1 H1 φ' st' H'→DR K φ' st'.length H' ρ' σ'→E'.nx σ' H')
    (r:∀ d st',E.rt d st'→∀ φ' H' v,Bhd K φ1 st1 H1 φ' st' H'→D K φ' st'.length H' d v→E'.rt v H') :
    ∃ W:Nat→Nat→L2.St→Hp→Prop,(∃ m,W 0 m σ1 H1)∧∀ i m σ H,W i m σ H →
      (J.stop i H∧E'.nx σ H)∨(J.go i H∧∃ N:L2.St→Hp→Prop,(∀ σ' H',N σ' H'→∃ m',m' < m∧W (i + 1) m' σ' H')∧∀ x H',J.yld i H x H'→liftG K g x σ H' fun σ2 H2=>liftS K tb { E' with nx:=N,ct:=N,bk:=E'.nx } σ2 H2):=by
  obtain ⟨Inv,h0,hok,step,fin⟩:=hf
  refine ⟨fun i m σ H=>m=items.length - i∧i≤items.length∧∃ φ' st' ρ',Pre K φ' st' H ρ' σ∧Bhd K φ1 st1 H1 φ' st' H∧Inv i ρ' st',⟨items.length,by simp,Nat.zero_le _,φ1,st1,ρ1,pre,.refl pre.1,h0⟩,?_⟩
  rintro i m σ H ⟨rfl,hi,φ',st',ρ',pre',bh,hI⟩
  obtain ⟨js,jg⟩:=hJ i φ' st' H bh (hok i ρ' st' hi hI) hi
  by_cases hlt:i < items.length
  · have ed:items[i]? = some items[i]:=by simp [hlt]
    obtain ⟨go,yl⟩:=jg _ ed
    refine .inr ⟨go,fun σ3 H3=>∃ φ3 st3 ρ3,Pre K φ3 st3 H3 ρ3 σ3∧Bhd K φ1 st1 H1 φ3 st3 H3∧Inv (i + 1) ρ3 st3,fun σ3 H3 h3=>⟨items.length - (i + 1),by omega,rfl,hlt,h3⟩,fun y H2 hy=>?_⟩
    obtain ⟨b2,dy⟩:=yl y H2 hy
    refine ⟨φ',st',ρ',items[i],_,pre'.on b2,dy,step i _ ρ' st' ed hI,fun ρ3 st3 h3 φ3 H3 σ3 b3 d3=>?_⟩
    have b13:=bh.trans (b2.trans b3)
    refine ⟨φ3,st3,ρ3,_,⟨b3.1,d3⟩,h3,fun ρ4 st4 h4 φ4 H4 σ4 b4 d4=>⟨φ4,st4,ρ4,⟨b4.1,d4⟩,b13.trans b4,h4⟩,fun ρ4 st4 h4 φ4 H4 σ4 b4 d4=>n ρ4 st4 h4 φ4 H4 σ4 (b13.trans b4) d4,
      fun ρ4 st4 h4 φ4 H4 σ4 b4 d4=>⟨φ4,st4,ρ4,⟨b4.1,d4⟩,b13.trans b4,h4⟩,fun d st4 h4 φ4 H4 v b4 d4=>r d st4 h4 φ4 H4 v (b13.trans b4) d4⟩
  · have e:i=items.length:=by omega
    subst e
    exact .inl ⟨js rfl,n ρ' st' (fin ρ' st' hI) φ' H σ bh pre'.2⟩
end
noncomputable abbrev TID:=Rho→Sto→(List Dt→(Sto→Prop)→Sto→Prop)→Prop
noncomputable def liftI (K:PySem.W.Frag) (t:TID):TI:=fun σ H R=>∃ φ st ρ P,Pre K φ st H ρ σ∧t ρ st P∧∀ items ok st',P items ok st'→∀ φ' H' J,Bhd K φ st H φ' st' H'→Yields K φ' st' H' J items ok→R J H'
noncomputable def DI (X:Cx) (tg it:Expr) (t:TID):Prop:=PI X tg it (liftI X.K t)
noncomputable def tfor (ti:TID) (g:TGD) (tb:TSD):TSD:=fun E ρ st=>ti ρ st fun items ok st1=>forW items ok g tb E ρ st1
section
variable {X:Cx} {tg iter:Expr} {body:List Stmt} {pos:Pos} {ti:TID} {g:TGD} {tb:TSD}
theorem ds_for (hp:PassesOwn (model X.prog X.w) X.A X.env X.xe) (hc:X.calm=true) (hi:DI X tg iter ti) (hg:DG X tg g) (hb:DSs X body tb) (hs:∀ x,foldedSetIterable iter X.env x=pure x:=by intro _;rfl):DS X (.For tg iter body [] pos) (tfor ti g tb) :=
  (ps_for hp hc hi hg hb hs).imp fun E σ H h=>by
    obtain ⟨φ,st,ρ,P,pre,ht,n,b,c,r⟩:=h
    refine ⟨φ,st,ρ,_,pre,ht,fun items ok st1 h1 φ1 H1 J b1 hJ=>?_⟩
    exact for_gen (pre.on b1) hJ h1 (fun ρ2 st2 h2 φ2 H2 σ2 b2 d2=>n ρ2 st2 h2 φ2 H2 σ2 (b1.trans b2) d2) fun d st2 h2 φ2 H2 v b2 d2=>r d st2 h2 φ2 H2 v (b1.trans b2) d2
noncomputable def iseq (te:TD):TID:=fun ρ st P=>te ρ st fun x st1=>match seqOf st1 x with
  | some xs=>P xs (fun st'=>seqOf st' x=some xs) st1
  | none=>False
theorem di_seq {te:TD} (he:DE X iter te):DI X tg iter (iseq te):=by
  intro pins s σ H R I h
  obtain ⟨φ,st,ρ,P,pre,ht,hq⟩:=h
  refine thn (he pins s σ H _ I ⟨φ,st,ρ,_,pre,ht,fun x st1 h1 φ1 H1 v b1 dx=>(show ∃ φ1 st1 x,Bhd X.K φ st H φ1 st1 H1∧D X.K φ1 st1.length H1 x v∧(match seqOf st1 x with
    | some xs=>P xs (fun st'=>seqOf st' x=some xs) st1
    | none=>False) from ⟨φ1,st1,x,b1,dx,h1⟩)⟩) fun u s1 ⟨v,H1,I1,ru,φ1,st1,x,b1,dx,h1⟩=>?_
  split at h1
  · rename_i xs ex
    obtain ⟨a,vs,e1,hs,dl⟩:=seq_of b1.1 dx ex
    subst e1
    cases ru
    rcases hs with ⟨hs,n,exn⟩ | ⟨hs,_⟩
    · obtain ⟨its,rv,pl,hz⟩:=I1.list hs
      refine wpAny_pyIter_list pl.isList ?_
      refine ⟨s1.heap.objs.size,[s1.heap.objs.size],_,_,H1,rfl,I1.kept (t':=s1.toks) fun b o e=>Heap.get?_push_of_some _ e,turn_list a _,⟨_,Heap.get?_push_size _ rfl,rfl,rfl⟩,fun b hb=>?_,hq xs _ st1 h1 φ1 H1 _ b1 ?_⟩
      · have e:b=s1.heap.objs.size:=by simpa using hb
        subst e
        exact I1.fpOk (Nat.le_refl _) (I1.hok.fresh (Nat.le_refl _))
      · intro i φ' st' H' bh hok hi
        obtain ⟨a',ws,e2,hs',dl'⟩:=seq_of bh.1 (dx.evo bh.2) hok
        cases e2
        have hsl:SqL X.K H' a ws:=by
          rcases hs' with z | ⟨_,z⟩
          · exact z.1
          · rw [exn] at z;cases z
        have hlen:=dl'.length
        refine ⟨fun e=>⟨ws,hsl,by omega⟩,fun d ed=>?_⟩
        obtain ⟨y,ey,dy⟩:=dl'.get ed
        refine ⟨⟨ws,y,hsl,ey⟩,fun y' H2 hy=>?_⟩
        obtain ⟨rfl,hy⟩:=hy
        have:=hy ws hsl
        rw [ey] at this
        cases this
        exact ⟨.refl bh.1,dy⟩
    · obtain ⟨its,rv,pl,hz⟩:=I1.tuple hs
      refine wpAny_pyIter_tuple (show s1.heap.IsTuple a its.toArray from pl) ?_
      refine ⟨s1.heap.objs.size,[s1.heap.objs.size],_,_,H1,rfl,I1.kept (t':=s1.toks) fun b o e=>Heap.get?_push_of_some _ e,turn_tuple a _,⟨_,Heap.get?_push_size _ rfl,rfl,rfl⟩,fun b hb=>?_,hq xs _ st1 h1 φ1 H1 _ b1 ?_⟩
      · have e:b=s1.heap.objs.size:=by simpa using hb
        subst e
        exact I1.fpOk (Nat.le_refl _) (I1.hok.fresh (Nat.le_refl _))
      · intro i φ' st' H' bh hok hi
        have hsl:SqT X.K H' a vs:=bh.2.tup a vs hs
        have dl':=dl.evo bh.2
        have hlen:=dl'.length
        refine ⟨fun e=>⟨vs,hsl,by omega⟩,fun d ed=>?_⟩
        obtain ⟨y,ey,dy⟩:=dl'.get ed
        refine ⟨⟨vs,y,hsl,ey⟩,fun y' H2 hy=>?_⟩
        obtain ⟨rfl,hy⟩:=hy
        have:=hy vs hsl
        rw [ey] at this
        cases this
        exact ⟨.refl bh.1,dy⟩
  · exact h1.elim
noncomputable def rangeD (lo:Int) (n:Nat):List Dt:=(List.range n).map fun k=>.int (lo + (k:Nat))
theorem range_get {lo:Int} {n i:Nat} {d:Dt} (h:(rangeD lo n)[i]? = some d):i < n∧d = .int (lo + (i:Nat)):=by
  unfold rangeD at h
  rw [List.getElem?_map] at h
  cases q:(List.range n)[i]? with
  | none=>rw [q] at h;cases h
  | some k =>
    rw [q] at h
    have:=List.getElem?_eq_some_iff.mp q
    obtain ⟨h1,h2⟩:=this
    rw [List.getElem_range] at h2
    subst h2
    rw [List.length_range] at h1
    exact ⟨h1,(Option.some.inj h).symm⟩
theorem range_len {lo:Int} {n:Nat}:(rangeD lo n).length=n:=by unfold rangeD;simp
theorem yields_range {K:PySem.W.Frag} {φ:Nat→Addr} {st:Sto} {H:Hp} {lo:Int} {n:Nat}:Yields K φ st H (Itr lo n) (rangeD lo n) (fun _=>True):=fun i φ' st' H' bh _ hi=>by
  rw [range_len] at hi
  refine ⟨fun e=>by rw [range_len] at e;exact Nat.le_of_eq e.symm,fun d ed=>?_⟩
  obtain ⟨h1,rfl⟩:=range_get ed
  refine ⟨h1,fun y H2 hy=>?_⟩
  obtain ⟨rfl,rfl⟩:=hy
  exact ⟨.refl bh.1,D.mkInt⟩
noncomputable def irng1 (ta:TD):TID:=fun ρ st P=>ta ρ st fun x st1=>match x with
  | .int j=>-(2 ^ 62)≤j∧j < 2 ^ 62∧P (rangeD 0 j.toNat) (fun _=>True) st1
  | _=>False
theorem di_range1 {a:Expr} {ta:TD} {p:Pos} (hm:X.mg "range" = none) (ha:DE X a ta) (hg:Gl X "range":=by rfl) (hs:starEach [a] X.env=[(false,eval a X.env)]:=by rfl):DI X tg (.Call (.Name "range" p) [a] [] pos) (irng1 ta):=by
  intro pins s σ H R I h
  refine pi_range1 hg hm (da_cons ha da_nil hs) hs pins s σ H R I ?_
  obtain ⟨φ,st,ρ,P,pre,ht,hq⟩:=h
  refine ⟨φ,st,ρ,(fun ds st1=>match ds with
    | [x]=>(match x with
      | .int j=>-(2 ^ 62)≤j∧j < 2 ^ 62∧P (rangeD 0 j.toNat) (fun _=>True) st1
      | _=>False)
    | _=>False),pre,?_,fun ds st1 h1 φ1 H1 vs b1 dl=>?_⟩
  · exact ht
  · rcases ds with _ | ⟨d,_ | ⟨d2,r⟩⟩
    · exact h1.elim
    rotate_left
    · exact h1.elim
    · cases d <;> first
        | exact h1.elim
        | skip
      rename_i j
      obtain ⟨v,rfl,dv⟩:=dl.one
      obtain ⟨h2,h3,h4⟩:=h1
      exact ⟨j,by rw [dv.int],h2,h3,hq _ _ st1 h4 φ1 H1 _ b1 yields_range⟩
noncomputable def compD (items:List Dt) (ok:Sto→Prop) (tc:TBD) (te:TD) (cρ:Rho) (st:Sto) (Fin:List Dt→Sto→Prop):Prop:=∃ Inv:Nat→List Dt→Sto→Prop,Inv 0 [] st∧(∀ i ys st',i≤items.length→Inv i ys st'→ok st') ∧
  (∀ (i:Nat) d ys st',items[i]? = some d→Inv i ys st'→ys.length < sizeLine∧tc (some d :: cρ) st' fun k st1=>if k=true then te (some d :: cρ) st1 fun y st2=>Inv (i + 1) (ys ++ [y]) st2 else Inv (i + 1) ys st1) ∧
  ∀ ys st',Inv items.length ys st'→Fin ys st'
noncomputable def capρ (caps:List (Nat×Str)) (ρ:Rho):Rho:=caps.map fun p=>(ρ[p.1]?).join
theorem cap_DR {K:PySem.W.Frag} {φ:Nat→Addr} {N:Nat} {H:Hp} {ρ:Rho} {σ:L2.St} (h:DR K φ N H ρ σ) (caps:List (Nat×Str)):DR K φ N H (capρ caps ρ) (capσ caps σ):=by
  refine ⟨by unfold capρ capσ;simp,fun i d e=>?_⟩
  unfold capρ at e
  rw [List.getElem?_map] at e
  unfold capσ
  rw [List.getElem?_map]
  cases q:caps[i]? with
  | none=>rw [q] at e;cases e
  | some p =>
    rw [q] at e
    have e':(ρ[p.1]?).join=some d:=Option.some.inj e
    have e2:ρ[p.1]? = some (some d):=by
      cases q:ρ[p.1]? with
      | none=>rw [q] at e';cases e'
      | some o=>rw [q] at e';exact congrArg some e'
    obtain ⟨v,ev,dv⟩:=h.2 p.1 d e2
    exact ⟨v,by show some ((σ[p.1]?).join)=_;rw [ev];rfl,dv⟩
theorem dr_cons {K:PySem.W.Frag} {φ:Nat→Addr} {N:Nat} {H:Hp} {ρ:Rho} {σ:L2.St} {o:Option V} {d:Dt} {v:V} (h:DR K φ N H ρ σ) (hd:D K φ N H d v):DR K φ N H (some d :: ρ) (some v :: σ):=by
  refine ⟨by rw [List.length_cons,List.length_cons,h.1],fun i e q=>?_⟩
  cases i with
  | zero=>simp at q;subst q;exact ⟨v,rfl,hd⟩
  | succ i=>exact h.2 i e (by simpa using q)
noncomputable def DIf (X:Cx) (ifs:List Expr) (t:TBD):Prop:=PIf X ifs (liftT X.K t)
theorem dif_nil:DIf X [] (fun _ st P=>P true st):=fun pins s σ H Q I h=>by
  obtain ⟨φ,st,ρ,P,pre,ht,hq⟩:=h
  exact pif_nil pins s σ H Q I (hq true st ht φ H (.refl pre.1))
theorem dif_one {c:Expr} {t:TBD} (h:DT X c t):DIf X [c] t:=pif_one h
theorem comp_gen {K:PySem.W.Frag} {φ1:Nat→Addr} {st1:Sto} {H1:Hp} {cρ:Rho} {cσ:L2.St} {J:It} {items:List Dt} {ok:Sto→Prop} {tc:TBD} {te:TD} {Fin:List Dt→Sto→Prop} {Fin':List V→Hp→Prop}
    (R:Rep K φ1 st1 H1) (dr:DR K φ1 st1.length H1 cρ cσ) (hJ:Yields K φ1 st1 H1 J items ok) (hc:compD items ok tc te cρ st1 Fin)
    (hF:∀ ys st' φ' H' vs,Fin ys st'→Bhd K φ1 st1 H1 φ' st' H'→DL K φ' st'.length H' ys vs→Fin' vs H') :
    compW J (gName 0) (liftT K tc) (liftE K te) (List.replicate 1 none ++ cσ) H1 Fin':=by
  obtain ⟨Inv,h0,hok,step,fin⟩:=hc
  refine ⟨fun i m σ vs H=>m=items.length - i∧i≤items.length∧∃ φ' st' ys o,σ=o :: cσ∧Bhd K φ1 st1 H1 φ' st' H∧DL K φ' st'.length H ys vs∧Inv i ys st',
    ⟨items.length,by simp,Nat.zero_le _,φ1,st1,[],none,rfl,.refl R,.nil,h0⟩,?_⟩
  rintro i m σ vs H ⟨rfl,hi,φ',st',ys,o,rfl,bh,dl,hI⟩
  obtain ⟨js,jg⟩:=hJ i φ' st' H bh (hok i ys st' hi hI) hi
  by_cases hlt:i < items.length
  · have ed:items[i]? = some items[i]:=by simp [hlt]
    obtain ⟨go,yl⟩:=jg _ ed
    obtain ⟨hz,hstep⟩:=step i _ ys st' ed hI
    refine .inr ⟨go,by rw [← dl.length];exact hz,fun y H2 hy=>?_⟩
    obtain ⟨b2,dy⟩:=yl y H2 hy
    have b12:=bh.trans b2
    have pre2:Pre K φ' st' H2 (some items[i] :: cρ) (some y :: cσ):=⟨b2.1,dr_cons (o:=none) (dr.evo b12.2) dy⟩
    show liftT K tc (some y :: cσ) H2 _
    refine ⟨φ',st',_,_,pre2,hstep,fun k st3 h3 φ3 H3 b3=>?_⟩
    cases k with
    | false =>
      rw [if_neg Bool.false_ne_true] at h3 ⊢
      exact ⟨items.length - (i + 1),by omega,rfl,hlt,φ3,st3,ys,some y,rfl,b12.trans b3,dl.evo (b2.2.trans b3.2),h3⟩
    | true =>
      rw [if_pos rfl] at h3 ⊢
      refine ⟨φ3,st3,_,_,pre2.on b3,h3,fun z st4 h4 φ4 H4 w b4 dz=>?_⟩
      exact ⟨items.length - (i + 1),by omega,rfl,hlt,φ4,st4,ys ++ [z],some y,rfl,b12.trans (b3.trans b4),(dl.evo (b2.2.trans (b3.2.trans b4.2))).append (.cons dz .nil),h4⟩
  · have e:i=items.length:=by omega
    subst e
    exact .inl ⟨js rfl,hF ys st' φ' H vs (fin ys st' hI) bh dl⟩
noncomputable def tcomp (ti:TID) (tc:TBD) (te:TD) (caps:List (Nat×Str)):TD:=fun ρ st P=>ti ρ st fun items ok st1=>compD items ok tc te (capρ caps ρ) st1 fun ys st2=>P (.lst st2.length) (st2 ++ [.rw ys])
theorem comp_lift {K:PySem.W.Frag} {tc:TBD} {te:TD} {caps:List (Nat×Str)} {σ:L2.St} {H:Hp} {Q:VK} (h:liftE K (tcomp ti tc te caps) σ H Q):tComp (liftI K ti) (gName 0) (liftT K tc) (liftE K te) 1 caps σ H Q:=by
  obtain ⟨φ,st,ρ,P,pre,ht,hq⟩:=h
  refine ⟨φ,st,ρ,_,pre,ht,fun items ok st1 h1 φ1 H1 J b1 hJ=>?_⟩
  refine comp_gen b1.1 (cap_DR (pre.on b1).2 caps) hJ h1 fun ys st2 φ2 H2 vs hF b2 dl p hp=>?_
  exact hq _ _ hF _ _ _ (b1.trans (b2.trans (bhd_lst b2.1 hp dl))) d_new
variable {elt:Expr} {ifs:List Expr} {sc:Scope} {x:Str} {px:Pos} {tc:TBD} {te:TD}
theorem de_comp (caps:List (Nat×Str)) (hc:X.calm=true) (S:CompScope X.env.scope X.N caps sc) (hx:sc.names.lookup x=some .local) (hnd:([x] ++ caps.map (·.2)).Nodup) (hi:DI X (.Name x px) iter ti)
    (hif:∀ C s H fp,DIf (cxComp X [x] caps sc C s H fp) ifs tc) (he:∀ C s H fp,DE (cxComp X [x] caps sc C s H fp) elt te)
    (hs:∀ x,foldedSetIterable iter X.env x=pure x:=by intro _;rfl):DE X (.ListComp elt [⟨.Name x px,iter,ifs,0⟩] sc pos) (tcomp ti tc te caps) :=
  PE.imp (pe_comp (g:=gName 0) (tc:=liftT X.K tc) (te:=liftE X.K te) [x] caps hc S hi (fun C s H fp=>pg_name hnd rfl (.inl (lookup_relabel_local hx)) (.inr (lookup_relabel_local hx))) hif he hs) fun σ H Q h=>comp_lift h
theorem ds_comp (i:Nat) {y:Str} {py spos:Pos} (caps:List (Nat×Str)) (hc:X.calm=true) (hN:X.N.Nodup) (S:CompScope X.env.scope X.N caps sc) (hx:sc.names.lookup x=some .local) (hnd:([x] ++ caps.map (·.2)).Nodup) (hi:DI X (.Name x px) iter ti)
    (hif:∀ C s H fp,DIf (cxComp X [x] caps sc C s H fp) ifs tc) (he:∀ C s H fp,DE (cxComp X [x] caps sc C s H fp) elt te)
    (hy:X.N[i]? = some y:=by rfl) (hyl:X.env.scope.names.lookup y=some .local:=by rfl)
    (hsw:swapsWith (.ListComp elt [⟨.Name x px,iter,ifs,0⟩] sc pos) (some (.Name y py)) spos.line X.env=pure true:=by rfl)
    (hs:∀ x,foldedSetIterable iter X.env x=pure x:=by intro _;rfl):DS X (.Assign [.Name y py] (.ListComp elt [⟨.Name x px,iter,ifs,0⟩] sc pos) spos) (qE (tcomp ti tc te caps) (qG i)) :=
  PS.imp (ps_comp (g:=gName 0) (tc:=liftT X.K tc) (te:=liftE X.K te) [x] caps hc hN hy hyl S hi (fun C s H fp=>pg_name hnd rfl (.inl (lookup_relabel_local hx)) (.inr (lookup_relabel_local hx))) hif he hsw hs) fun E σ H h=>by
    obtain ⟨φ,st,ρ,P,pre,ht,n,b,c,r⟩:=h
    refine comp_lift (ti:=ti) (tc:=tc) (te:=te) (caps:=caps) ⟨φ,st,ρ,_,pre,ht,fun d st1 h1 φ1 H1 v b1 dx=>?_⟩
    exact n _ st1 h1 φ1 H1 _ b1 ((pre.on b1).2.set dx i)
noncomputable def qW (N:List Str) (ds:List Dt):Rho:=ds.map some ++ List.replicate (N.length - ds.length) none
theorem start_DR {K:PySem.W.Frag} {φ:Nat→Addr} {n:Nat} {H:Hp} {ds:List Dt} {vs:List V} (h:DL K φ n H ds vs) (N:List Str):DR K φ n H (qW N ds) (L2.start N vs):=by
  refine ⟨by unfold qW L2.start;simp [h.length],fun i d e=>?_⟩
  unfold qW at e
  unfold L2.start
  by_cases hi:i < ds.length
  · rw [List.getElem?_append_left (by simpa using hi),List.getElem?_map] at e
    cases q:ds[i]? with
    | none=>rw [q] at e;cases e
    | some d' =>
      rw [q] at e
      have:d'=d:=by
        have e':some (some d')=some (some d):=e
        injection e' with e1;injection e1
      subst this
      obtain ⟨v,ev,dv⟩:=h.get q
      refine ⟨v,?_,dv⟩
      rw [List.getElem?_append_left (by simp;rw [← h.length];exact hi),List.getElem?_map,ev]
      rfl
  · rw [List.getElem?_append_right (by simpa using Nat.not_lt.mp hi),List.getElem?_replicate] at e
    split at e <;> cases e
theorem fun_ok {P:Program} {w:World} {K:PySem.W.Frag} {mg:Str→Option Value} {base:Heap} {x qual:Str} {stt:Stmt} {f:Addr} {fd:FuncData} {N ps:List Str} {k:Nat} {sp:RDL} (F:Fun K x qual stt f fd) (S:FnScope N ps (defScope stt))
    (len:∀ ds st Pd,sp ds st Pd→ds.length=ps.length)
    (hbody:∀ (cdv:Value) (A:Around) (outer:List Env) (s:Shared) (H:Hp) (E:XK),Room k (A.deeper (envOfC qual (defScope stt) s.heap.objs.size f cdv)) →
      ∃ t,DSs (cxOf CX0 P w K mg base N qual (defScope stt) f cdv A outer s H E).nox (defBody stt) t∧∀ ds st Pd,sp ds st Pd→t { nx:=fun _ st'=>Pd .non st',rt:=Pd } (qW N ds) st):FnOk P w K mg base CX0 (k + 1) f fd ps (liftSp K sp):=by
  refine F.ok S (fun vs H Q E h=>?_) fun cdv A outer s H vs Q E hr h=>?_
  · obtain ⟨φ,st,ds,Pd,R,dl,hs,hq⟩:=h
    rw [← dl.length]
    exact len ds st Pd hs
  · obtain ⟨t,ht,hb⟩:=hbody cdv A outer s H E hr
    obtain ⟨φ,st,ds,Pd,R,dl,hs,hq⟩:=h
    refine ⟨_,ht,φ,st,qW N ds,_,⟨R,start_DR dl N⟩,hb ds st Pd hs,fun ρ' st' h' φ' H' σ' b' d'=>hq _ st' h' φ' H' _ b' D.mkNon,fun ρ' st' h'=>h'.elim,fun ρ' st' h'=>h'.elim,fun d st' h' φ' H' v b' d'=>hq d st' h' φ' H' v b' d'⟩
end
end L3
namespace L3
open PySem PySem.Spec PyProof.Rows L2
structure qD (P:Program) (w:World) (K:PySem.W.Frag) (mg:Str→Option Value) (base:Heap) (x:Str) (k:Nat) (sp:RDL):Prop where
  ex:∃ f fd ps,FnOk P w K mg base CX0 k f fd ps (liftSp K sp)∧mg x=some (.ref f)∧PySem.W.keepIn K (.ref f)=true∧Binds K fd ps []
section
variable {X:Cx} {e:Expr} {es:List Expr} {t:TAD} {pos p:Pos} {x:Str}
theorem de_callO {k:Nat} {sp:RDL} (F:qD X.prog X.w X.K X.mg X.base x k sp) (hr:Room k X.A) (ha:DA X (e :: es) t) (hg:Gl X x) (hdb:(x == ("__debug__" : Str))=false) (he:starEach (e :: es) X.env=(false,eval e X.env) :: starEach es X.env)
    (hpl:(backTo pos (starEach es X.env)).any (·.1)=false):DE X (.Call (.Name x p) (e :: es) [] pos) (qF sp t):=by
  obtain ⟨f,fd,ps,h1,h2,h3,h4⟩:=F.ex
  exact de_call h1 hr h2 h3 h4 ha hg hdb he hpl
theorem hu16 {A:Around} {k:Nat} (hr:Room k A):A.units + 16 < cLine:=Nat.lt_of_le_of_lt (Nat.add_le_add_left (by decide:16≤64) _) hr.units
structure ConOk (K:PySem.W.Frag) (mg:Str→Option Value) (x:Str) (d:Dt):Prop where
  ex:∃ v u,mg x=some u∧RelV v u∧∀ φ N H,D K φ N H d v
theorem de_con {d:Dt} (h:ConOk X.K X.mg x d) (hg:Gl X x) (hd:(x == ("__debug__" : Str))=false):DE X (.Name x pos) (qK d):=by
  obtain ⟨v,u,h1,h2,h3⟩:=h.ex
  exact de_glob h1 h2 h3 hg hd
structure Hint (caps:List (Nat×Str)):Prop where
  ok:True
end
section
variable {X:Cx} {a b c:Expr} {ta tb tc:TD} {pos:Pos}
theorem dx_add (ha:DE X a ta) (hb:DE X b tb):DE X (.BinOp a .Add b pos) (qB L3.rAdd ta tb):=de_op od_add ha hb
theorem dx_sub (ha:DE X a ta) (hb:DE X b tb):DE X (.BinOp a .Sub b pos) (qB rSub ta tb):=de_op od_sub ha hb
theorem dx_mul (ha:DE X a ta) (hb:DE X b tb):DE X (.BinOp a .Mult b pos) (qB rMul ta tb):=de_op od_mul ha hb
theorem dx_div (ha:DE X a ta) (hb:DE X b tb):DE X (.BinOp a .FloorDiv b pos) (qB rDiv ta tb):=de_op od_div ha hb
theorem dx_mod (ha:DE X a ta) (hb:DE X b tb):DE X (.BinOp a .Mod b pos) (qB rMod ta tb):=de_op od_mod ha hb
theorem dx_and (ha:DE X a ta) (hb:DE X b tb):DE X (.BinOp a .BitAnd b pos) (qB rAndB ta tb):=de_op od_and ha hb
theorem dx_eq (hu:X.A.units + 16 < cLine) (ha:DE X a ta) (hb:DE X b tb) (hm:behindInMarks .Eq b=false):DE X (.Compare a [.Eq] [b] pos) (qB (qQ false) ta tb):=de_cmp (od_eq hu) ha hb hm
theorem dtx_eq (hu:X.A.units + 16 < cLine) (ha:DE X a ta) (hb:DE X b tb) (hm:behindInMarks .Eq b=false):DT X (.Compare a [.Eq] [b] pos) (qT (qB (qQ false) ta tb)):=dt_cmp (od_eq hu) ha hb hm
theorem dx_ne (hu:X.A.units + 16 < cLine) (ha:DE X a ta) (hb:DE X b tb) (hm:behindInMarks .NotEq b=false):DE X (.Compare a [.NotEq] [b] pos) (qB (qQ true) ta tb):=de_cmp (od_ne hu) ha hb hm
theorem dtx_ne (hu:X.A.units + 16 < cLine) (ha:DE X a ta) (hb:DE X b tb) (hm:behindInMarks .NotEq b=false):DT X (.Compare a [.NotEq] [b] pos) (qT (qB (qQ true) ta tb)):=dt_cmp (od_ne hu) ha hb hm
theorem dx_lt (ha:DE X a ta) (hb:DE X b tb) (hm:behindInMarks .Lt b=false):DE X (.Compare a [.Lt] [b] pos) (qB (rCmpI fun i j=>decide (i < j)) ta tb):=de_cmp od_lt ha hb hm
theorem dtx_lt (ha:DE X a ta) (hb:DE X b tb) (hm:behindInMarks .Lt b=false):DT X (.Compare a [.Lt] [b] pos) (qT (qB (rCmpI fun i j=>decide (i < j)) ta tb)):=dt_cmp od_lt ha hb hm
theorem dtx_gt (ha:DE X a ta) (hb:DE X b tb) (hm:behindInMarks .Gt b=false):DT X (.Compare a [.Gt] [b] pos) (qT (qB (rCmpI fun i j=>decide (j < i)) ta tb)):=dt_cmp od_gt ha hb hm
theorem dx_ge (ha:DE X a ta) (hb:DE X b tb) (hm:behindInMarks .GtE b=false):DE X (.Compare a [.GtE] [b] pos) (qB (rCmpI fun i j=>decide (j≤i)) ta tb):=de_cmp od_ge ha hb hm
theorem dtx_ge (ha:DE X a ta) (hb:DE X b tb) (hm:behindInMarks .GtE b=false):DT X (.Compare a [.GtE] [b] pos) (qT (qB (rCmpI fun i j=>decide (j≤i)) ta tb)):=dt_cmp od_ge ha hb hm
theorem dx_in (ha:DE X a ta) (hb:DE X b tb) (hm:behindInMarks .In b=false):DE X (.Compare a [.In] [b] pos) (qB (rInD false) ta tb):=de_cmp od_in ha hb hm
theorem dtx_in (ha:DE X a ta) (hb:DE X b tb) (hm:behindInMarks .In b=false):DT X (.Compare a [.In] [b] pos) (qT (qB (rInD false) ta tb)):=dt_cmp od_in ha hb hm
theorem dx_is (ha:DE X a ta) (hb:DE X b tb) (hm:behindInMarks .Is b=false):DE X (.Compare a [.Is] [b] pos) (qB (rIsD false) ta tb):=de_cmp od_is ha hb hm
theorem dtx_is (ha:DE X a ta) (hb:DE X b tb) (hm:behindInMarks .Is b=false):DT X (.Compare a [.Is] [b] pos) (qT (qB (rIsD false) ta tb)):=dt_cmp od_is ha hb hm
theorem dx_isnot (ha:DE X a ta) (hb:DE X b tb) (hm:behindInMarks .IsNot b=false):DE X (.Compare a [.IsNot] [b] pos) (qB (rIsD true) ta tb):=de_cmp od_isnot ha hb hm
theorem dtx_isnot (ha:DE X a ta) (hb:DE X b tb) (hm:behindInMarks .IsNot b=false):DT X (.Compare a [.IsNot] [b] pos) (qT (qB (rIsD true) ta tb)):=dt_cmp od_isnot ha hb hm
theorem dtx_chain (ha:DE X a ta) (hb:DE X b tb) (hc:DE X c tc) (hm:lastMarks [.LtE,.Lt] [b,c]=false):DT X (.Compare a [.LtE,.Lt] [b,c] pos) (qT (tchain (fun i j=>decide (i≤j)) (fun i j=>decide (i < j)) ta tb tc)):=dt_chain op_le op_lt ha hb hc hm
theorem dx_len {e:Expr} {es:List Expr} {t:TAD} {p:Pos} (hm:X.mg "len" = none) (ha:DA X (e :: es) t) (hg:Gl X "len") (he:starEach (e :: es) X.env=(false,eval e X.env) :: starEach es X.env) (hpl:(backTo pos (starEach es X.env)).any (·.1)=false):DE X (.Call (.Name "len" p) (e :: es) [] pos) (qF rLen t):=de_callB cd_len hm PySem.boot_len ha hg (by decide) (by decide) he hpl
theorem dx_isinst {e:Expr} {es:List Expr} {t:TAD} {p:Pos} (hm:X.mg "isinstance" = none) (ha:DA X (e :: es) t) (hg:Gl X "isinstance") (he:starEach (e :: es) X.env=(false,eval e X.env) :: starEach es X.env) (hpl:(backTo pos (starEach es X.env)).any (·.1)=false):DE X (.Call (.Name "isinstance" p) (e :: es) [] pos) (qF rIsInst t):=de_callB cd_isinst hm boot_isinstance ha hg (by decide) (by decide) he hpl
theorem dx_tuple {e:Expr} {es:List Expr} {t:TAD} {p:Pos} (hm:X.mg "tuple" = none) (ha:DA X (e :: es) t) (hg:Gl X "tuple") (he:starEach (e :: es) X.env=(false,eval e X.env) :: starEach es X.env) (hpl:(backTo pos (starEach es X.env)).any (·.1)=false):DE X (.Call (.Name "tuple" p) (e :: es) [] pos) (qF qH t):=de_callTy cd_tuple hm PyProof.Rows.boot_tuple ha hg (by decide) (by decide) he hpl
theorem dx_list {e:Expr} {es:List Expr} {t:TAD} {p:Pos} (hm:X.mg "list" = none) (ha:DA X (e :: es) t) (hg:Gl X "list") (he:starEach (e :: es) X.env=(false,eval e X.env) :: starEach es X.env) (hpl:(backTo pos (starEach es X.env)).any (·.1)=false):DE X (.Call (.Name "list" p) (e :: es) [] pos) (qF rList t):=de_callTy cd_list hm PyProof.Rows.boot_list ha hg (by decide) (by decide) he hpl
theorem dx_tyInt (hm:X.mg "int" = none) (hg:Gl X "int"):DE X (.Name "int" pos) (qK (.ty "int")):=de_ty hm PyProof.Rows.boot_int hg
theorem dx_tyBool (hm:X.mg "bool" = none) (hg:Gl X "bool"):DE X (.Name "bool" pos) (qK (.ty "bool")):=de_ty hm PyProof.Rows.boot_bool hg
theorem dx_tyStr (hm:X.mg "str" = none) (hg:Gl X "str"):DE X (.Name "str" pos) (qK (.ty "str")):=de_ty hm PyProof.Rows.boot_str hg
theorem dx_tyTuple (hm:X.mg "tuple" = none) (hg:Gl X "tuple"):DE X (.Name "tuple" pos) (qK (.ty "tuple")):=de_ty hm PyProof.Rows.boot_tuple hg
end
noncomputable def scCheck (so:Scope) (N:List Str) (caps:List (Nat×Str)) (sc:Scope):Bool :=
  decide (sc.kind = .function) && (sc.names.all fun y=>decide (y.2≠.cell)) && (sc.names.all fun y=>decide (y.2 = .local→sc.names.lookup y.1=some .local)) && (sc.names.all fun y=>decide (y.2 = .free→so.names.lookup y.1=some .cell)) &&
    (caps.all fun p=>decide (N[p.1]? = some p.2∧so.names.lookup p.2=some .cell∧sc.names.lookup p.2=some .free))
theorem sc_of {so:Scope} {N:List Str} {caps:List (Nat×Str)} {sc:Scope} (h:scCheck so N caps sc=true):CompScope so N caps sc:=by
  unfold scCheck at h
  simp only [Bool.and_eq_true] at h
  obtain ⟨⟨⟨⟨h1,h2⟩,h3⟩,h4⟩,h5⟩:=h
  exact ⟨of_decide_eq_true h1,fun y hy=>of_decide_eq_true (List.all_eq_true.mp h2 y hy),fun y hy=>of_decide_eq_true (List.all_eq_true.mp h3 y hy),fun y hy=>of_decide_eq_true (List.all_eq_true.mp h4 y hy),fun y hy=>of_decide_eq_true (List.all_eq_true.mp h5 y hy)⟩
theorem sc_hint {so:Scope} {N:List Str} {caps:List (Nat×Str)} {sc:Scope} (_:Hint caps) (h:scCheck so N caps sc=true):CompScope so N caps sc:=sc_of h
noncomputable def spLaw:RDL:=fun ds st P=>∃ ns:List Int,ds=[.lst 0]∧st=[.ro (ns.map .int)]∧ns.length≤63∧∀ st',P (.bl true) st'
theorem DL.ints {K:PySem.W.Frag} {φ:Nat→Addr} {N:Nat} {H:Hp}:∀ ns:List Int,DL K φ N H (ns.map .int) (ns.map V.int)
  | []=>.nil
  | n :: ns=>.cons D.mkInt (DL.ints ns)
theorem law_walk {l:PySem.W.OpenLaw} {q:Program} {loose:List Str} {XP:(Str→Option Value)→Heap→Prop} {YP:World→Heap→Prop} {d:DefRec} {K:Params→PySem.W.Frag} (k:Nat) (hn:l.most=some 63) (hdf:d.params.defaults=[]) (hr:Room k callerA)
    (hY:∀ (w:World) (h:Heap),YP w h→(K w.params).In h)
    (F:∀ (w:World) (mg:Str→Option Value) (fa:Addr) (h:Heap),(K w.params).In h→h.Ns mainGlobals mg→mg d.name=some (.ref fa) →
      ∃ fd:FuncData,(∀ (s:Shared) (u:Value),BindsTo s fd ⟨[u],[]⟩ [("script",u)])∧∀ base:Heap,(K w.params).In base→base.Ns mainGlobals mg→FnOk l.prog w (K w.params) mg base CX0 k fa fd ["script"] (liftSp (K w.params) spLaw)) :
    PySem.W.WalkO q loose XP YP l.row.toRowW d [] (fun f vs=>PySem.call f vs):=by
  refine L2.walk_of (n:=63) (k:=k) (x:= "script") (CX:=fun _=>CX0) (sp:=fun w=>liftSp (K w.params) spLaw) hn (by decide) hdf hr hY F (fun w H a ns hl hO hS=>?_) fun _ _ _ _ _ z=>z
  have hR:SqR (K w.params) H a (ns.map V.int):=by
    rcases hS with (h | h) | h
    · rcases hO a with z | ⟨o,xs,z⟩
      · rw [h] at z;cases z
      · rw [h] at z;cases z
    · exact .inl h
    · exact .inr h
  refine ⟨fun _=>a,[.ro (ns.map .int)],[.lst 0],fun d st'=>d = .bl true,⟨fun i j x y e _ hw=>?_,fun i x e=>?_⟩,.cons (D.mkLst (by show 0 < 1;decide) ⟨_,hR.sq⟩) .nil,⟨ns,rfl,rfl,hl,fun _=>rfl⟩,fun d st' hd φ' H' u b du=>by rw [hd] at du;exact du.bl⟩
  · cases i with
    | zero=>simp at e;subst e;cases hw
    | succ i=>simp at e
  · cases i with
    | zero =>
      simp at e
      subst e
      exact ⟨ns.map V.int,hR,DL.ints ns⟩
    | succ i=>simp at e
end L3
namespace L3
open PySem PySem.Spec PyProof.Rows L2
noncomputable def enumD:Nat→List Dt→List Dt
  | _,[]=>[]
  | n,d :: ds=>.tup [.int (n:Nat),d] :: enumD (n + 1) ds
theorem enum_get:∀ {ds:List Dt} {n i:Nat} {x:Dt},(enumD n ds)[i]? = some x→∃ d,ds[i]? = some d∧x = .tup [.int ((n + i:Nat)),d]
  | [],_,_,_,h=>by simp [enumD] at h
  | d :: ds,n,0,x,h=>by
    simp [enumD] at h
    exact ⟨d,rfl,by rw [← h];rfl⟩
  | d :: ds,n,i + 1,x,h=>by
    obtain ⟨e,h1,h2⟩:=enum_get (ds:=ds) (n:=n + 1) (i:=i) (x:=x) (by simpa [enumD] using h)
    exact ⟨e,by simpa using h1,by rw [h2,show n + 1 + i=n + (i + 1) by omega]⟩
theorem enum_len:∀ {ds:List Dt} {n:Nat},(enumD n ds).length=ds.length
  | [],_=>rfl
  | d :: ds,n=>by simp [enumD,enum_len]
section
variable {X:Cx} {a:Expr} {elts:List Expr} {x1:Nat} {tpos pos p:Pos} {te:TD}
structure ConT (K:PySem.W.Frag) (mg:Str→Option Value) (x:Str) (ds:List Dt):Prop where
  ex:∃ a o vs its n,mg x=some (.ref a)∧K.lookup a=some o∧o.cls = .type "tuple" ∧ o.dict=none∧o.data = .seq its n∧its.size≤sizeLine∧Vals vs its.toList∧∀ φ N H,DL K φ N H ds vs
theorem ConT.con {K:PySem.W.Frag} {mg:Str→Option Value} {x:Str} {ds:List Dt} (h:ConT K mg x ds):ConOk K mg x (.tup ds):=by
  obtain ⟨a,o,vs,its,n,h1,h2,h3,h4,h5,h6,h7,h8⟩:=h.ex
  exact ⟨.ref a,_,h1,rfl,fun φ N H=>.mkTup (.inr ⟨o,its,n,h2,h3,h5,h6,h7⟩) (h8 φ N H)⟩
noncomputable def tindex (ds:List Dt) (te:TD):TD:=fun ρ st P=>te ρ st fun y st1=>okD 0 y=true∧ds.all (okD 0)=true∧(match ds.findIdx? (fun z=>eqD 0 z y) with
  | some j=>P (.int (j:Nat)) st1
  | none=>False)
end
noncomputable def strsAre:List Value→List Str→Bool
  | [],[]=>true
  | .str x _ :: us,s :: ss=>x == s && strsAre us ss
  | _,_=>false
theorem vals_strs:∀ {us:List Value} {ss:List Str},strsAre us ss=true→Vals (ss.map V.str) us
  | [],[],_=>.nil
  | [],_ :: _,h=>by simp [strsAre] at h
  | u :: us,[],h=>by cases u <;> simp [strsAre] at h
  | u :: us,s :: ss,h=>by
    cases u with
    | str x t =>
      rw [strsAre,Bool.and_eq_true] at h
      have e:x=s:=eq_of_beq h.1
      subst e
      exact .cons ⟨t,rfl⟩ (vals_strs h.2)
    | _=>simp [strsAre] at h
theorem DL.strs {K:PySem.W.Frag} {φ:Nat→Addr} {N:Nat} {H:Hp}:∀ ss:List Str,DL K φ N H (ss.map .str) (ss.map V.str)
  | []=>.nil
  | n :: ns=>.cons D.mkStr (DL.strs ns)
theorem conT_strs {K:PySem.W.Frag} {mg:Str→Option Value} {x:Str} {a:Addr} {its:Array Value} {n:Nat} {sl:Array (Option Value)} {ss:List Str} (hm:mg x=some (.ref a)) (l:K.lookup a=some ⟨.type "tuple",none,.seq its n,sl⟩) (v:strsAre its.toList ss=true) (sz:its.size≤sizeLine) :
    ConT K mg x (ss.map .str):=⟨a,_,ss.map V.str,its,n,hm,l,rfl,rfl,rfl,sz,vals_strs v,fun _ _ _=>DL.strs ss⟩
theorem con_int {K:PySem.W.Frag} {mg:Str→Option Value} {x:Str} {i:Int} {t:Tok} (hm:mg x=some (.int i t)):ConOk K mg x (.int i):=⟨.int i,_,hm,⟨t,rfl⟩,fun _ _ _=>D.mkInt⟩
noncomputable def rIntB:RDL:=fun ds st P=>match ds with
  | [x]=>(match x with
    | .bl k=>P (.int (if k then 1 else 0)) st
    | .int i=>P (.int i) st
    | _=>False)
  | _=>False
theorem cd_int {X:Cx}:CallD X (.type "int") rIntB:=by
  intro pins s σ H vs us Q I rv h
  obtain ⟨φ,st,ds,P,R,dl,hr,hq⟩:=h
  rcases ds with _ | ⟨x,_ | ⟨y,r⟩⟩
  · exact hr.elim
  rotate_left
  · exact hr.elim
  · obtain ⟨v,rfl,dx⟩:=dl.one
    cases x with
    | bl k=>exact call_int1 pins s σ H [v] us Q I rv (.inr ⟨k,by rw [dx.bl],Go.here hq R hr D.mkInt⟩)
    | int k=>exact call_int1 pins s σ H [v] us Q I rv (.inl ⟨k,by rw [dx.int],Go.here hq R hr D.mkInt⟩)
    | _=>exact hr.elim
theorem dx_int {X:Cx} {pos:Pos} {e:Expr} {es:List Expr} {t:TAD} {p:Pos} (hm:X.mg "int" = none) (ha:DA X (e :: es) t) (hg:Gl X "int") (he:starEach (e :: es) X.env=(false,eval e X.env) :: starEach es X.env) (hpl:(backTo pos (starEach es X.env)).any (·.1)=false):DE X (.Call (.Name "int" p) (e :: es) [] pos) (qF rIntB t):=de_callTy cd_int hm PyProof.Rows.boot_int ha hg (by decide) (by decide) he hpl
structure Hint2 (caps:List (Nat×Str)):Prop where
  ok:True
theorem sc_hint2 {so:Scope} {N:List Str} {caps:List (Nat×Str)} {sc:Scope} (_:Hint2 caps) (h:scCheck so N caps sc=true):CompScope so N caps sc:=sc_of h
theorem qY {st:Sto} {i:Nat} {o x:SO} (h:st[i]? = some o):(st ++ [x])[i]? = some o:=by
  rw [List.getElem?_append_left (lt_of_get h)];exact h
theorem get_set_ne {st:Sto} {i j:Nat} {o x:SO} (h:st[i]? = some o) (hne:j≠i):(st.set j x)[i]? = some o:=by
  rw [List.getElem?_set_ne hne];exact h
theorem get_set_self {st:Sto} {i:Nat} {o x:SO} (h:st[i]? = some o):(st.set i x)[i]? = some x:=by
  rw [List.getElem?_set_self (lt_of_get h)]
theorem qX {st:Sto} {x:SO}:(st ++ [x])[st.length]? = some x:=by simp
noncomputable def ExtS (st st':Sto):Prop:=∀ (i:Nat) o,st[i]? = some o→st'[i]? = some o
theorem ExtS.refl (st:Sto):ExtS st st:=fun _ _ h=>h
theorem ExtS.trans {a b c:Sto} (h:ExtS a b) (h':ExtS b c):ExtS a c:=fun i o q=>h' i o (h i o q)
theorem ExtS.app (st:Sto) (x:SO):ExtS st (st ++ [x]):=fun _ _ h=>qY h
noncomputable abbrev Ed (Pd:VD):EndsD:={ nx:=fun _ st'=>Pd .non st',rt:=Pd }
theorem cmul_l {i j:Int} (h1:0≤i) (h2:i < 4294967296):CMul i j:=.inl ⟨by omega,by omega⟩
theorem small {n:Nat} (h:n < 1000):n < sizeLine:=Nat.lt_trans h (by decide)
theorem cdiv {i j:Int} (h1:0 < j) (h2:j < 1073741824):CDiv i j:=⟨h1,h2⟩
end L3
namespace L3
open PySem PySem.Spec PyProof.Rows L2
theorem hu1 {k:Nat} {A:Around} (r:Room k A):A.units + 1 < cLine:=by have:=r.units;omega
noncomputable def rMax2:RDL:=fun ds st P=>match ds with
  | [.int i,.int j]=>P (.int (if j > i then j else i)) st
  | _=>False
theorem two_of {X:Cx} {φ:Nat→Addr} {N:Nat} {H:Hp} {i j:Int} {vs:List V} (dl:DL X.K φ N H [.int i,.int j] vs):vs=[.int i,.int j]:=by
  obtain ⟨v,ws,rfl,d1,d2⟩:=dl
  obtain ⟨w,us,rfl,e1,e2⟩:=d2
  rw [d1.int,e1.int,show us=[] from e2]
section
variable {X:Cx}
theorem cd_max (hc:X.calm=true):CallD X (.builtin "max") rMax2:=by
  intro pins s σ H vs us Q I rv h
  obtain ⟨φ,st,ds,P,R,dl,hr,hq⟩:=h
  unfold rMax2 at hr
  split at hr
  · rename_i i j
    exact call_max2 hc pins s σ H vs us Q I rv ⟨i,j,two_of (X:=X) dl,Go.here hq R hr D.mkInt⟩
  · exact hr.elim
variable {pos:Pos}
theorem dx_max {e:Expr} {es:List Expr} {t:TAD} {p:Pos} (hc:X.calm=true) (hm:X.mg "max" = none) (ha:DA X (e :: es) t) (hg:Gl X "max") (he:starEach (e :: es) X.env=(false,eval e X.env) :: starEach es X.env) (hpl:(backTo pos (starEach es X.env)).any (·.1)=false):DE X (.Call (.Name "max" p) (e :: es) [] pos) (qF rMax2 t):=de_callB (cd_max hc) hm PyProof.Rows.boot_max ha hg (by decide) (by decide) he hpl
end
end L3
namespace L3
open PySem PySem.Spec PyProof.Rows L2
end L3
namespace L3
open PySem PySem.Spec PyProof.Rows L2
end L3
namespace L3
open PySem PySem.Spec PyProof.Rows L2
open AutoSeq1 (wpAny_loadPart')
end L3
namespace HT
open PySem PySem.Spec PyProof.Rows
section
variable {prog:Program} {w:World} {A:Around} {E:Value→Shared→Prop} {s:Shared}
theorem getItem_tuple_whole {t sl:Addr} {items:Array Value} {vl vu:Value} {lo hi:Option Int} {Q:Value→Shared→Prop} (ht:IsTup s.heap t items) (hs:s.heap.IsSliceOf sl vl vu .none) (pl:IsPart vl lo) (pu:IsPart vu hi)
    (hw:sIx items.size 0 lo=0∧sIx items.size items.size hi=items.size) (h:Q (.ref t) s):wpAny (model prog w) A (getItem (.ref t) (.ref sl)) Q E s:=by
  obtain ⟨os,hos,hcs,hds⟩:=id hs
  have hTs:s.TypeIs (.ref sl) "slice":=⟨os,hos,hcs⟩
  unfold getItem
  try with_reducible refine wpAny_holding ?_
  first | refine wpAny_bind (wpAny_pure ?_) | skip
  refine wpAny_bind (wpAny_sequenceKey ht.typeIs (by decide) ?_)
  refine wpAny_bind (wpAny_callSpecial?_slot (name:=Str.ofString "__getitem__") ht.typeIs PyProof.Rows.slot_tuple_getitem
    (wpAny_call_entry PyProof.Rows.slot_tuple_getitem ht.typeIs entry_tuple_getitem ?_ (args_tuple_getitem _ _)))
  show wpAny _ _ (Builtin.Tuple.tupleItemsOf (.ref t) >>= _) _ _ s
  refine wpAny_bind (tupleItemsOf_ ht ?_)
  refine wpAny_bind (wpAny_typeOf hTs ?_)
  rw [if_pos (by decide)]
  refine wpAny_bind (sliceApplied_gen hs pl pu ?_)
  have hyes:(((sIx items.size 0 lo:Nat):Int) == 0 && (1:Int) == 1 && (sIx items.size items.size hi - sIx items.size 0 lo) == items.size)=true:=by
    rw [hw.1,hw.2];simp
  show wpAny _ _ (if (((sIx items.size 0 lo:Nat):Int) == 0 && (1:Int) == 1 && (sIx items.size items.size hi - sIx items.size 0 lo) == items.size)=true then _ else _) _ _ s
  rw [if_pos hyes]
  unfold Builtin.Tuple.tupleIsExact
  refine wpAny_bind (wpAny_bind (wpAny_typeOf ht.typeIs (wpAny_pure ?_)))
  rw [if_pos (by decide)]
  first
    | exact wpAny_bind (wpAny_pure (wpAny_pure ⟨_,rfl,wpAny_pure h⟩))
    | exact wpAny_bind (wpAny_rule (wpAny_bind (wpAny_pure (wpAny_pure ⟨_,rfl,wpAny_pure h⟩))))
    | exact wpAny_bind (wpAny_rule (wpAny_bind (wpAny_pure ⟨_,rfl,wpAny_pure h⟩)))
    | exact wpAny_pure ⟨_,rfl,wpAny_pure h⟩
    | exact wpAny_bind (wpAny_pure ⟨_,rfl,wpAny_pure h⟩)
end
end HT
namespace L3
open PySem PySem.Spec PyProof.Rows L2
noncomputable def rSlW (K:PySem.W.Frag):V→Option Int→Option Int→Hp→VK→Prop:=fun x lo hi H Q=>∃ a xs,x = .ref a∧SqT K H a xs∧(HT.sIx xs.length 0 lo=0∧HT.sIx xs.length xs.length hi=xs.length)∧Q (.ref a) H
section
variable {X:Cx}
theorem sl_whole:SlR X (rSlW X.K):=by
  intro pins s σ H x v vl vu lo hi sl Q I rx hs pl pu h
  obtain ⟨a,xs,rfl,hx,hw,q⟩:=h
  cases rx
  obtain ⟨its,r,ht,hz⟩:=I.tuple hx
  have hlen:its.toArray.size=xs.length:=by rw [List.size_toArray];exact r.length.symm
  refine ⟨"tuple",_,PyProof.Rows.slot_tuple_getitem.lookup,ht.typeIs,?_⟩
  exact HT.getItem_tuple_whole ht hs pl pu (by rw [hlen];exact hw) ⟨.ref a,H,I,rfl,q⟩
noncomputable def tsliceA (te:TD) (tl th:TOD):TD:=fun ρ st P=>te ρ st fun x st1=>tl ρ st1 fun lo st2=>th ρ st2 fun hi st3=>match x with
  | .tup xs=>P (.tup (cutD xs lo hi)) st3
  | .lst n=>(match st3[n]? with
    | some o=>P (.lst st3.length) (st3 ++ [.rw (cutD o.items lo hi)])
    | none=>False)
  | _=>False
theorem cut_whole {xs:List Dt} {lo hi:Option Int} (h:HT.sIx xs.length 0 lo=0∧HT.sIx xs.length xs.length hi=xs.length):cutD xs lo hi=xs:=by
  unfold cutD
  rw [h.1,h.2]
  simp
theorem de_sliceA {e:Expr} {lo hi:Option Expr} {te:TD} {tl th:TOD} {pos p2:Pos} (he:DE X e te) (hl:DO X lo tl) (hu:DO X hi th):DE X (.Subscript e (.Slice lo hi none p2) pos) (tsliceA te tl th):=by
  refine PE.imp (pe_slice ((sl_tup.or sl_list).or sl_whole) he hl hu) fun σ H Q h=>?_
  obtain ⟨φ,st,ρ,P,pre,ht,hq⟩:=h
  refine ⟨φ,st,ρ,_,pre,ht,fun x st1 h1 φ1 H1 v b1 dx=>?_⟩
  refine ⟨φ1,st1,ρ,_,pre.on b1,h1,fun l st2 h2 φ2 H2 b2=>?_⟩
  refine ⟨φ2,st2,ρ,_,(pre.on b1).on b2,h2,fun u st3 h3 φ3 H3 b3=>?_⟩
  have b:=b1.trans (b2.trans b3)
  have dx3:=(dx.evo b2.2).evo b3.2
  cases x with
  | tup xs =>
    obtain ⟨a,vs,e1,s1,d1⟩:=dx3.tup
    have h3':P (.tup (cutD xs l u)) st3:=h3
    by_cases hw:HT.sIx xs.length 0 l=0∧HT.sIx xs.length xs.length u=xs.length
    · rw [cut_whole hw] at h3'
      exact .inr ⟨a,vs,e1,s1,by rw [← d1.length];exact hw,hq _ st3 h3' φ3 _ _ b (by rw [← e1];exact dx3)⟩
    refine .inl (.inl ⟨a,vs,e1,s1,by rw [← d1.length];exact hw,fun p hp=>hq _ st3 h3' φ3 _ _ (b.trans (bhd_tup b3.1 hp)) (.mkTup (SqT.of upd_same) ?_)⟩)
    unfold cutD cutV
    rw [← d1.length]
    exact ((d1.drop _).take _).evo (evo_new hp)
  | lst n =>
    have h3':(match st3[n]? with
      | some o=>P (.lst st3.length) (st3 ++ [.rw (cutD o.items l u)])
      | none=>False):=h3
    split at h3'
    · rename_i o eo
      obtain ⟨vs,s1,d1⟩:=b3.1.seq eo dx3.isL
      refine .inl (.inr ⟨φ3 n,vs,dx3.lst.2,s1,fun p hp=>?_⟩)
      have:DL X.K φ3 st3.length H3 (cutD o.items l u) (cutV vs l u):=by
        unfold cutD cutV
        rw [← d1.length]
        exact (d1.drop _).take _
      exact hq _ _ h3' _ _ _ (b.trans (bhd_lst b3.1 hp this)) d_new
    · exact h3'.elim
  | _=>exact h3.elim
end
end L3
namespace L3
open PySem PySem.Spec PyProof.Rows L2
end L3
namespace L3
open PySem PySem.Spec PyProof.Rows L2
end L3
namespace L3
open PySem PySem.Spec PyProof.Rows L2
end L3
namespace HT
open PySem PySem.Spec PyProof.Rows
end HT
namespace L3
open PySem PySem.Spec PyProof.Rows L2
end L3
namespace L3
open PySem PySem.Spec PyProof.Rows L2
theorem extendW (l:Addr) (xs:Array Value) (n:Nat) (b:Addr) (ys:Array Value) (m:Nat) (dd:Option Addr) (sl:Array (Option Value)) (h0:¬(!xs.isEmpty && Builtin.List.listTooLong (xs.size + ys.size))=true) (h1:xs.size≤sizeLine) (h2:xs.size + ys.size≤sizeLine + 1) :
    Meets (Builtin.«list.extend» ⟨[.ref l,.ref b],[]⟩) (fun _ R s=>s.heap.get? l=some { cls:=.type "list",dict:=none,data:=.seq xs n,slots:=#[] } ∧
      s.heap.get? b=some { cls:=.type "tuple",dict:=dd,data:=.seq ys m,slots:=sl } ∧
      R (.ok (.ret Value.none)) { s with heap:=s.heap.update l (Obj.mapSeq fun x=>x ++ ys),toks:=s.toks }) :=
  .of_wp fun prog w A R s h=>by
    obtain ⟨hp,g,d,tk,os⟩:=s
    obtain ⟨hl,hb,h⟩:=h
    have f1:=AutoSeq1.idx_int
    have f2:=AutoSeq1.sub_tuple_tuple
    have f3:=AutoSeq1.sub_list_list
    have f4:=AutoSeq1.sub_tuple_list
    have f5:=AutoSeq1.sub_list_tuple
    have hz:(xs ++ ys).size≤sizeLine + 1:=by rw [Array.size_append];exact h2
    wp_walk using (wpAny_updateSeq hl rfl (hz:=h1) (_hz':=hz)),AutoSeq1.wpAny_loadPart' hl,AutoSeq1.wpAny_loadPart' hb
    exact ⟨_,rfl,h⟩
section
variable {X:Cx} {e:Expr} {te:TD} {pos:Pos}
noncomputable def rExtendT (K:PySem.W.Frag):V→List V→Hp→VK→Prop:=fun x vs H Q=>∃ l b xs zs,x = .ref l∧vs=[.ref b]∧H l=some (.lst xs)∧SqT K H b zs∧xs.length + zs.length≤sizeLine∧Q .non (upd H l (.lst (xs ++ zs)))
theorem mt_extendT:MtM X "list.extend" (rExtendT X.K):=by
  intro pins s σ H x vs v us Q I rx rv h
  obtain ⟨l,b,xs,zs,rfl,rfl,hH,hB,hz,q⟩:=h
  cases rx
  obtain ⟨u,rfl,ru⟩:=rv.one
  cases ru
  obtain ⟨z,its,n,r,hl,e⟩:=I.lstM hH
  obtain ⟨its2,r2,ht,hz2⟩:=I.tuple hB
  have hl2:its2.length=zs.length:=r2.length.symm
  obtain ⟨⟨cls,dd,data,sl⟩,ho,hc,n2,hd⟩:=ht
  simp only at hc hd
  subst hc hd
  have hsz:its.toArray.size + its2.toArray.size≤sizeLine:=by rw [List.size_toArray,List.size_toArray];omega
  have hlong:¬ (!its.toArray.isEmpty && Builtin.List.listTooLong (its.toArray.size + its2.toArray.size))=true:=by
    rw [notLongL hsz,Bool.and_false]
    exact Bool.false_ne_true
  refine call_meets F.slot_list_extend ⟨_,e,rfl⟩ F.entry_list_extend (F.args_list_extend_2 _ _)
    (extendW l its.toArray n b its2.toArray n2 dd sl hlong (by rw [List.size_toArray];omega) (by omega)) ⟨e,ho,?_⟩
  refine ⟨.non,_,I.lset (its':=its ++ its2) hH e (by simp) (r.append r2) ?_,rfl,q⟩
  rw [List.length_append]
  omega
noncomputable def textend (to te:TD):TD:=fun ρ st P=>to ρ st fun o st1=>match o with
  | .lst n=>te ρ st1 fun d st2=>(match d with
    | .tup ds=>(match st2[n]? with
      | some (.rw xs)=>xs.length + ds.length≤sizeLine∧P .non (st2.set n (.rw (xs ++ ds)))
      | _=>False)
    | _=>False)
  | _=>False
theorem de_extend {o:Expr} {to:TD} {apos cpos:Pos} (ho:DE X o to) (he:DE X e te)
    (hbase:attributeBase o "extend" X.env (eval o X.env)=eval o X.env)
    (hfew:((backTo cpos (starEach [e] X.env)).all (fun x=>!x.1) && (backToKw cpos (keywordEach [] X.env)).all (fun x=>x.1.isSome)
      && decide (([e]:List Expr).length + ([]:List Keyword).length + (if ([]:List Keyword).isEmpty then 0 else 1) < 30))=true)
    (hline:(apos.endLine == cpos.line)=true) (hs:starEach [e] X.env=(false,eval e X.env) :: starEach [] X.env) (hplain:(backTo cpos (starEach ([]:List Expr) X.env)).any (·.1)=false) :
    DE X (.Call (.Attribute o "extend" apos) [e] [] cpos) (textend to te):=by
  refine PE.imp (pe_bm PySem.F.plainAttrs_list PySem.F.slot_list_extend PySem.F.type_list_extend mt_extendT ho (da_cons he da_nil hs) hbase hfew hline hs hplain) fun σ H Q h=>?_
  obtain ⟨φ,st,ρ,P,pre,ht,hq⟩:=h
  refine ⟨φ,st,ρ,_,pre,ht,fun x st1 h1 φ1 H1 v b1 dx=>?_⟩
  cases x with
  | lst n =>
    have hn:=dx.lst.1
    obtain ⟨so,eo⟩:∃ so,st1[n]? = some so:=⟨st1[n],by simp [hn]⟩
    obtain ⟨ws,hws,_⟩:=b1.1.seq eo dx.isL
    refine ⟨?_,?_⟩
    · rw [dx.lst.2]
      exact .inl ⟨rfl,ws,hws⟩
    refine ⟨φ1,st1,ρ,(fun ds st2=>match ds with
      | [.tup zs]=>(match st2[n]? with
        | some (.rw xs)=>xs.length + zs.length≤sizeLine∧P .non (st2.set n (.rw (xs ++ zs)))
        | _=>False)
      | _=>False),pre.on b1,?_,fun ds st2 h2 φ2 H2 zs b2 dz=>?_⟩
    · show te ρ st1 fun d st2=>_
      have h1:te ρ st1 fun d st2=>(match d with
        | .tup ds=>(match st2[n]? with
          | some (.rw xs)=>xs.length + ds.length≤sizeLine∧P .non (st2.set n (.rw (xs ++ ds)))
          | _=>False)
        | _=>False):=h1
      have e:(fun (d:Dt) (st2:Sto)=>(match d with
        | .tup ds=>(match st2[n]? with
          | some (.rw xs)=>xs.length + ds.length≤sizeLine∧P .non (st2.set n (.rw (xs ++ ds)))
          | _=>False)
        | _ => False))=(fun x st1=>qZ ρ st1 fun xs st2=>(match x :: xs with
          | [.tup zs]=>(match st2[n]? with
            | some (.rw xs)=>xs.length + zs.length≤sizeLine∧P .non (st2.set n (.rw (xs ++ zs)))
            | _=>False)
          | _=>False)):=by
        funext d st2
        cases d <;> rfl
      rw [e] at h1
      exact h1
    rcases ds with _ | ⟨d,_ | ⟨d2,r⟩⟩
    · exact h2.elim
    rotate_left
    · cases d <;> exact h2.elim
    · cases d with
      | tup ts =>
        have h2:(match st2[n]? with
          | some (.rw xs)=>xs.length + ts.length≤sizeLine∧P .non (st2.set n (.rw (xs ++ ts)))
          | _=>False):=h2
        split at h2
        · rename_i xs ex
          obtain ⟨y,rfl,dy⟩:=dz.one
          obtain ⟨a,us,e1,s1,d1⟩:=dy.tup
          subst e1
          obtain ⟨vs,hv,dl⟩:=b2.1.rw n xs ex
          have dx2:=dx.evo b2.2
          have bb:Bhd X.K φ2 st2 H2 φ2 (st2.set n (.rw (xs ++ ts))) (upd H2 (φ2 n) (.lst (vs ++ us))):=⟨b2.1.setL ex (dl.append d1),evo_set hv⟩
          exact ⟨φ2 n,a,vs,us,dx2.lst.2,rfl,hv,s1,by rw [← dl.length,← d1.length];exact h2.1,hq _ _ h2.2 φ2 _ _ (b1.trans (b2.trans bb)) D.mkNon⟩
        · exact h2.elim
      | _=>exact h2.elim
  | _=>exact h1.elim
noncomputable def taug (i:Nat) (te:TD):TSD:=fun E ρ st=>match ρ[i]? with
  | some (some (.int x))=>te ρ st fun d st1=>(match d with
    | .int y=>E.nx (ρ.set i (some (.int (x + y)))) st1
    | _=>False)
  | _=>False
theorem ds_aug (i:Nat) {x:Str} {pos':Pos} (hN:X.N.Nodup) (he:DE X e te) (hi:X.N[i]? = some x) (hx:Loc X.env.scope x) (hf:X.fn x=true∨X.env.scope.names.lookup x=some .local):DS X (.AugAssign (.Name x pos') .Add e pos) (taug i te):=by
  refine PS.imp (ps_aug hN hi hx he (fun pins s σ H a b v u Q I ra rb q=>augR iop_add I ra rb q) hf) fun E σ H h=>?_
  obtain ⟨φ,st,ρ,P,pre,ht,n,b,c,r⟩:=h
  unfold taug at ht
  split at ht
  · rename_i x ex
    obtain ⟨v,e1,e2⟩:=pre.2.2 i _ ex
    refine ⟨v,e1,φ,st,ρ,_,pre,ht,fun d st1 h1 φ1 H1 w b1 dx=>?_⟩
    cases d with
    | int y =>
      rw [e2.int,dx.int]
      exact ⟨x,y,rfl,rfl,n _ st1 h1 φ1 H1 _ b1 ((pre.on b1).2.set D.mkInt i)⟩
    | _=>exact h1.elim
  · exact ht.elim
end
end L3
namespace L3
open PySem PySem.Spec PyProof.Rows L2
end L3
namespace L3
open PySem PySem.Spec PyProof.Rows L2
end L3
namespace L3
open PySem PySem.Spec PyProof.Rows L2
end L3
namespace L3
open PySem PySem.Spec PyProof.Rows L2
end L3
namespace L3
open PySem PySem.Spec PyProof.Rows L2
noncomputable def keyD:Dt→Option Key
  | .int i=>some (.inl i)
  | .str x=>some (.inr x)
  | _=>none
noncomputable def valD (kvs:List (Key×Dt)) (k:Key):Option Dt:=(kvs.find? fun kv=>decide (kv.1=k)).map (·.2)
noncomputable def putD (kvs:List (Key×Dt)) (k:Key) (d:Dt):List (Key×Dt) :=
  if (kvs.any fun kv=>decide (kv.1=k))=true then kvs.map (fun kv=>if kv.1=k then (kv.1,d) else kv) else kvs ++ [(k,d)]
noncomputable def KD (K:PySem.W.Frag) (φ:Nat→Addr) (N:Nat) (H:Hp) (kvs:List (Key×Dt)) (vs:List (Key×V)):Prop:=kvs.map (·.1)=vs.map (·.1)∧DL K φ N H (kvs.map (·.2)) (vs.map (·.2))
section
variable {K:PySem.W.Frag} {φ:Nat→Addr} {N:Nat} {H:Hp}
theorem key_of {y:Dt} {k:Key} {v:V} (e:keyD y=some k) (d:D K φ N H y v):v=kV k:=by
  cases y with
  | int i=>cases e;exact d.int
  | str x=>cases e;exact d.str
  | _=>cases e
theorem KD.uncons {k:Key} {d:Dt} {r:List (Key×Dt)} {vs:List (Key×V)} (h:KD K φ N H ((k,d) :: r) vs):∃ v r',vs=(k,v) :: r'∧D K φ N H d v∧KD K φ N H r r':=by
  obtain ⟨h1,h2⟩:=h
  cases vs with
  | nil=>cases h1
  | cons p r' =>
    obtain ⟨k',v⟩:=p
    rw [List.map_cons,List.map_cons] at h1
    injection h1 with e1 e2
    have e1:k=k':=e1
    subst e1
    obtain ⟨a,b⟩:=DL.uncons (d:=d) (v:=v) h2
    exact ⟨v,r',rfl,a,e2,b⟩
theorem KD.cons {k:Key} {d:Dt} {v:V} {r:List (Key×Dt)} {r':List (Key×V)} (a:D K φ N H d v) (h:KD K φ N H r r'):KD K φ N H ((k,d) :: r) ((k,v) :: r'):=⟨by rw [List.map_cons,List.map_cons,h.1],.cons a h.2⟩
theorem KD.nil:KD K φ N H [] []:=⟨rfl,.nil⟩
theorem KD.nilV {vs:List (Key×V)} (h:KD K φ N H [] vs):vs=[]:=by
  cases vs with
  | nil=>rfl
  | cons p r=>cases h.1
theorem KD.val:∀ {kvs:List (Key×Dt)} {vs:List (Key×V)} (k:Key),KD K φ N H kvs vs→(valD kvs k=none∧valV vs k=none)∨∃ d v,valD kvs k=some d∧valV vs k=some v∧D K φ N H d v
  | [],vs,k,h=>by rw [h.nilV];exact .inl ⟨rfl,rfl⟩
  | (k',d) :: r,vs,k,h=>by
    obtain ⟨v,r',rfl,dv,h'⟩:=h.uncons
    by_cases e:k'=k
    · exact .inr ⟨d,v,by simp [valD,List.find?_cons,e],by simp [valV,List.find?_cons,e],dv⟩
    · have e1:valD ((k',d) :: r) k=valD r k:=by simp [valD,List.find?_cons,e]
      have e2:valV ((k',v) :: r') k=valV r' k:=by simp [valV,List.find?_cons,e]
      rw [e1,e2]
      exact h'.val k
theorem KD.any:∀ {kvs:List (Key×Dt)} {vs:List (Key×V)} (k:Key),KD K φ N H kvs vs→(kvs.any fun kv=>decide (kv.1=k))=(vs.any fun kv=>decide (kv.1=k))
  | [],vs,k,h=>by rw [h.nilV];rfl
  | (k',d) :: r,vs,k,h=>by
    obtain ⟨v,r',rfl,_,h'⟩:=h.uncons
    rw [List.any_cons,List.any_cons,h'.any k]
theorem KD.app:∀ {a b:List (Key×Dt)} {c e:List (Key×V)},KD K φ N H a c→KD K φ N H b e→KD K φ N H (a ++ b) (c ++ e)
  | [],b,c,e,h,h'=>by rw [h.nilV];exact h'
  | (k,d) :: r,b,c,e,h,h'=>by
    obtain ⟨v,r',rfl,dv,h2⟩:=h.uncons
    exact (h2.app h').cons dv
theorem KD.put {d:Dt} {v:V} (dv:D K φ N H d v) (k:Key) {kvs:List (Key×Dt)} {vs:List (Key×V)} (h:KD K φ N H kvs vs):KD K φ N H (putD kvs k d) (putK vs k v):=by
  unfold putD putK
  rw [h.any k]
  split
  · have go:∀ {kvs:List (Key×Dt)} {vs:List (Key×V)},KD K φ N H kvs vs→KD K φ N H (kvs.map fun kv=>if kv.1=k then (kv.1,d) else kv) (vs.map fun kv=>if kv.1=k then (kv.1,v) else kv):=by
      intro kvs
      induction kvs with
      | nil=>intro vs h;rw [h.nilV];exact .nil
      | cons p r ih =>
        intro vs h
        obtain ⟨k',d'⟩:=p
        obtain ⟨v',r',rfl,dv',h'⟩:=h.uncons
        rw [List.map_cons,List.map_cons]
        by_cases e:k'=k
        · rw [if_pos e,if_pos e];exact (ih h').cons dv
        · rw [if_neg e,if_neg e];exact (ih h').cons dv'
    exact go h
  · exact h.app (KD.cons dv .nil)
theorem KD.length {kvs:List (Key×Dt)} {vs:List (Key×V)} (h:KD K φ N H kvs vs):kvs.length=vs.length:=by
  have:=congrArg List.length h.1
  rwa [List.length_map,List.length_map] at this
theorem Rep.dc {st:Sto} (R:Rep K φ st H) {n:Nat} {kvs:List (Key×Dt)} (e:st[n]? = some (.dc kvs)):∃ vs,H (φ n)=some (.dK vs)∧K.lookup (φ n)=none∧KD K φ st.length H kvs vs:=by
  obtain ⟨vs,h1,h2,h3,h4⟩:=R.all n _ e
  exact ⟨vs,h1,h2,h3,h4⟩
theorem bhd_dnew {st:Sto} {p:Addr} {kvs:List (Key×Dt)} {vs:List (Key×V)} (R:Rep K φ st H) (hp:H p=none) (hk:K.lookup p=none) (hd:KD K φ st.length H kvs vs):Bhd K φ st H (phiNew φ st.length p) (st ++ [.dc kvs]) (upd H p (.dK vs)) :=
  ⟨R.add hp ⟨vs,upd_same,hk,hd.1,hd.2.evo (evo_add hp)⟩,evo_add hp⟩
theorem d_dnew {st:Sto} {p:Addr} {kvs:List (Key×Dt)} {vs:List (Key×V)}:D K (phiNew φ st.length p) (st ++ [SO.dc kvs]).length (upd H p (.dK vs)) (.dic st.length) (.ref p):=by
  have:=D.mkDic (K:=K) (φ:=phiNew φ st.length p) (H:=upd H p (.dK vs)) (n:=st.length) (N:=(st ++ [SO.dc kvs]).length) (by simp) (by rw [phi_at];exact ⟨vs,upd_same⟩)
  rw [phi_at] at this
  exact this
theorem bhd_dset {st:Sto} {n:Nat} {kvs kvs':List (Key×Dt)} {vs':List (Key×V)} (R:Rep K φ st H) (e:st[n]? = some (.dc kvs)) (hd:KD K φ st.length H kvs' vs'):Bhd K φ st H φ (st.set n (.dc kvs')) (upd H (φ n) (.dK vs')):=by
  obtain ⟨vs,h1,h2,h3⟩:=R.dc e
  exact ⟨R.put e rfl rfl h1 trivial ⟨vs',upd_same,h2,hd.1,hd.2.evo (evo_setW (o:=.dc kvs') (w:=.dK vs') (lt_of_get e) h1 trivial)⟩,evo_setW (w:=.dK vs') (lt_of_get e) h1 trivial⟩
end
section
variable {X:Cx} {o i:Expr} {to ti:TD} {pos:Pos}
noncomputable def tdict0:TD:=fun _ st P=>P (.dic st.length) (st ++ [.dc []])
theorem de_dict0:DE X (.Dict [] [] pos) tdict0:=pe_dnewK.imp fun σ H Q h=>by
  obtain ⟨φ,st,ρ,P,pre,ht,hq⟩:=h
  exact fun p hp hk=>hq _ _ ht _ _ _ (bhd_dnew pre.1 hp hk .nil) d_dnew
noncomputable def gdput (to ti:TD):TGD:=fun d ρ st P=>to ρ st fun o st1=>ti ρ st1 fun i st2=>match o with
  | .dic n=>(match st2[n]?,keyD i with
    | some (.dc kvs),some k=>kvs.length < sizeLine∧P ρ (st2.set n (.dc (putD kvs k d)))
    | _,_=>False)
  | _=>False
theorem ds_dput {value:Expr} {tv:TD} {pos':Pos} (hu:X.A.units + 1 < cLine) (ho:DE X o to) (hi:DE X i ti) (hv:DE X value tv) (hs:swapsWith value (some (.Subscript o i pos')) pos.line X.env=pure false) :
    DS X (.Assign [.Subscript o i pos'] value pos) (qE tv (gdput to ti)):=(ps_dput hu ho hi hv hs).imp fun E σ H h=>by
  obtain ⟨φ,st,ρ,P,pre,ht,n,b,c,r⟩:=h
  refine ⟨φ,st,ρ,_,pre,ht,fun d st1 h1 φ1 H1 v b1 dv=>?_⟩
  refine ⟨φ1,st1,ρ,_,pre.on b1,h1,fun x st2 h2 φ2 H2 w b2 dx=>?_⟩
  refine ⟨φ2,st2,ρ,_,(pre.on b1).on b2,h2,fun y st3 h3 φ3 H3 z b3 dy=>?_⟩
  cases x with
  | dic m =>
    have h3:(match st3[m]?,keyD y with
      | some (.dc kvs),some k=>kvs.length < sizeLine∧P.nx ρ (st3.set m (.dc (putD kvs k d)))
      | _,_=>False):=h3
    split at h3
    · rename_i kvs k e1 e2
      obtain ⟨vs,hv,_,hk⟩:=b3.1.dc e1
      have dv3:=dv.evo (b2.trans b3).2
      have bb:=bhd_dset b3.1 e1 (hk.put dv3 k)
      refine ⟨φ3 m,_,(dx.evo b3.2).dic.2,by rw [key_of e2 dy];exact DPut.k hv (by rw [← hk.length];exact h3.1),?_⟩
      exact n _ _ h3.2 φ3 _ _ (((b1.trans b2).trans b3).trans bb) ((pre.on (((b1.trans b2).trans b3).trans bb)).2)
    · exact h3.elim
  | _=>exact h3.elim
noncomputable def tdget2 (to te tf:TD):TD:=fun ρ st P=>to ρ st fun x st1=>match x with
  | .dic n=>te ρ st1 fun y st2=>tf ρ st2 fun z st3=>(match st3[n]?,keyD y with
    | some (.dc kvs),some k=>P ((valD kvs k).getD z) st3
    | _,_=>False)
  | _=>False
theorem de_dget2 {e f:Expr} {te tf:TD} {apos cpos:Pos} (hu:X.A.units + 1 < cLine) (ho:DE X o to) (he:DE X e te) (hf:DE X f tf) (m:M2 X o "get" apos e f cpos):DE X (.Call (.Attribute o "get" apos) [e,f] [] cpos) (tdget2 to te tf):=(pe_dget2 hu ho he hf m).imp fun σ H Q h=>by
  obtain ⟨φ,st,ρ,P,pre,ht,hq⟩:=h
  refine ⟨φ,st,ρ,_,pre,ht,fun x st1 h1 φ1 H1 v b1 dx=>?_⟩
  cases x with
  | dic n =>
    obtain ⟨kvs0,hk0⟩:=dx.isD
    refine ⟨φ1 n,dx.dic.2,.inl ⟨kvs0,.inl hk0⟩,φ1,st1,ρ,_,pre.on b1,h1,fun y st2 h2 φ2 H2 w b2 dy=>?_⟩
    refine ⟨φ2,st2,ρ,_,(pre.on b1).on b2,h2,fun z st3 h3 φ3 H3 u b3 dz=>?_⟩
    have h3:(match st3[n]?,keyD y with
      | some (.dc kvs),some k=>P ((valD kvs k).getD z) st3
      | _,_=>False):=h3
    split at h3
    · rename_i kvs k e1 e2
      obtain ⟨vs,hv,_,hk⟩:=b3.1.dc e1
      have ea:φ3 n=φ1 n:=(b2.trans b3).2.ext n dx.dic.1
      have g:DGet H3 (φ1 n) w (valV vs k):=by rw [key_of e2 dy,← ea];exact DGet.k hv
      refine ⟨valV vs k,g,?_⟩
      rcases hk.val k with ⟨z1,z2⟩ | ⟨d',v2,z1,z2,dv⟩
      · rw [z1] at h3;rw [z2]
        exact hq _ st3 h3 φ3 H3 _ ((b1.trans b2).trans b3) dz
      · rw [z1] at h3;rw [z2]
        exact hq _ st3 h3 φ3 H3 _ ((b1.trans b2).trans b3) dv
    · exact h3.elim
  | _=>exact h1.elim
end
end L3
namespace L3
open PySem PySem.Spec PyProof.Rows L2
noncomputable def putO (f:Str) (d:Dt):List (Str×Dt)→List (Str×Dt)
  | []=>[(f,d)]
  | (g,x) :: r=>if g=f then (g,d) :: r else (g,x) :: putO f d r
noncomputable def OD (K:PySem.W.Frag) (φ:Nat→Addr) (N:Nat) (H:Hp) (fs:List (Str×Dt)) (vs:List (Str×V)):Prop:=fs.map (·.1)=vs.map (·.1)∧DL K φ N H (fs.map (·.2)) (vs.map (·.2))
section
variable {K:PySem.W.Frag} {φ:Nat→Addr} {N:Nat} {H:Hp}
theorem OD.uncons {k:Str} {d:Dt} {r:List (Str×Dt)} {vs:List (Str×V)} (h:OD K φ N H ((k,d) :: r) vs):∃ v r',vs=(k,v) :: r'∧D K φ N H d v∧OD K φ N H r r':=by
  obtain ⟨h1,h2⟩:=h
  cases vs with
  | nil=>cases h1
  | cons p r' =>
    obtain ⟨k',v⟩:=p
    rw [List.map_cons,List.map_cons] at h1
    injection h1 with e1 e2
    have e1:k=k':=e1
    subst e1
    obtain ⟨a,b⟩:=DL.uncons (d:=d) (v:=v) h2
    exact ⟨v,r',rfl,a,e2,b⟩
theorem OD.cons {k:Str} {d:Dt} {v:V} {r:List (Str×Dt)} {r':List (Str×V)} (a:D K φ N H d v) (h:OD K φ N H r r'):OD K φ N H ((k,d) :: r) ((k,v) :: r'):=⟨by rw [List.map_cons,List.map_cons,h.1],.cons a h.2⟩
theorem OD.nil:OD K φ N H [] []:=⟨rfl,.nil⟩
theorem OD.nilV {vs:List (Str×V)} (h:OD K φ N H [] vs):vs=[]:=by
  cases vs with
  | nil=>rfl
  | cons p r=>cases h.1
theorem OD.length {fs:List (Str×Dt)} {vs:List (Str×V)} (h:OD K φ N H fs vs):fs.length=vs.length:=by
  have:=congrArg List.length h.1
  rwa [List.length_map,List.length_map] at this
theorem OD.look:∀ {fs:List (Str×Dt)} {vs:List (Str×V)} (f:Str),OD K φ N H fs vs→(fs.lookup f=none∧vs.lookup f=none)∨∃ d v,fs.lookup f=some d∧vs.lookup f=some v∧D K φ N H d v
  | [],vs,f,h=>by rw [h.nilV];exact .inl ⟨rfl,rfl⟩
  | (k,d) :: r,vs,f,h=>by
    obtain ⟨v,r',rfl,dv,h'⟩:=h.uncons
    cases e:(f == k) with
    | true=>exact .inr ⟨d,v,by rw [List.lookup_cons,e],by rw [List.lookup_cons,e],dv⟩
    | false =>
      rw [List.lookup_cons,e,List.lookup_cons,e]
      exact h'.look f
theorem OD.put {d:Dt} {v:V} (dv:D K φ N H d v) (f:Str):∀ {fs:List (Str×Dt)} {vs:List (Str×V)},OD K φ N H fs vs→OD K φ N H (putO f d fs) (putF f v vs)
  | [],vs,h=>by rw [h.nilV];exact OD.cons dv .nil
  | (k,d') :: r,vs,h=>by
    obtain ⟨v',r',rfl,dv',h'⟩:=h.uncons
    unfold putO putF
    by_cases e:k=f
    · rw [if_pos e,if_pos e];exact h'.cons dv
    · rw [if_neg e,if_neg e];exact (OD.put dv f h').cons dv'
theorem Rep.ob {st:Sto} (R:Rep K φ st H) {n:Nat} {C:Str} {fs:List (Str×Dt)} (e:st[n]? = some (.ob C fs)):∃ (c dx:Addr) (vs:List (Str×V)),H (φ n)=some (.ins c dx vs)∧K.lookup (φ n)=none∧PySem.W.nsIn K mainGlobals C=some (some (.ref c))∧OD K φ st.length H fs vs:=by
  obtain ⟨c,dx,vs,h1,h2,h3,h4,h5⟩:=R.all n _ e
  exact ⟨c,dx,vs,h1,h2,h3,h4,h5⟩
theorem bhd_oset {st:Sto} {n:Nat} {C:Str} {fs fs':List (Str×Dt)} {c dx:Addr} {vs vs':List (Str×V)} (R:Rep K φ st H) (e:st[n]? = some (.ob C fs)) (h:H (φ n)=some (.ins c dx vs)) (hd:OD K φ st.length H fs' vs'):Bhd K φ st H φ (st.set n (.ob C fs')) (upd H (φ n) (.ins c dx vs')):=by
  obtain ⟨c',dx',vs0,h1,h2,h3,h4⟩:=R.ob e
  rw [h] at h1
  cases h1
  exact ⟨R.put e rfl rfl h trivial ⟨c,dx,vs',upd_same,h2,h3,hd.1,hd.2.evo (evo_setW (o:=.ob C fs') (w:=.ins c dx vs') (lt_of_get e) h trivial)⟩,evo_setW (w:=.ins c dx vs') (lt_of_get e) h trivial⟩
end
structure ClsOk (K:PySem.W.Frag) (nm:Str) (flds:List Str):Prop where
  c:∀ c,PySem.W.nsIn K mainGlobals nm=some (some (.ref c))→Cls K c∧∀ f ∈ flds,NoAttr K c f
section
variable {X:Cx} {o e:Expr} {to te:TD} {pos apos:Pos} {nm f:Str} {flds:List Str}
noncomputable def tfld (nm:Str) (to:TD) (f:Str):TD:=fun ρ st P=>to ρ st fun x st1=>match x with
  | .ins n=>(match st1[n]? with
    | some (.ob c fs)=>c=nm∧(match fs.lookup f with
      | some d=>P d st1
      | none=>False)
    | _=>False)
  | _=>False
theorem de_fld (hc:ClsOk X.K nm flds) (hf:f ∈ flds) (ho:DE X o to) (hb:attributeBase o f X.env (eval o X.env)=eval o X.env):DE X (.Attribute o f pos) (tfld nm to f):=(pe_fld ho hb).imp fun σ H Q h=>by
  obtain ⟨φ,st,ρ,P,pre,ht,hq⟩:=h
  refine ⟨φ,st,ρ,_,pre,ht,fun x st1 h1 φ1 H1 v b1 dx=>?_⟩
  cases x with
  | ins n =>
    have h1:(match st1[n]? with
      | some (.ob c fs)=>c=nm∧(match fs.lookup f with
        | some d=>P d st1
        | none=>False)
      | _=>False):=h1
    split at h1
    · rename_i c fs e1
      obtain ⟨ec,h3⟩:=h1
      subst ec
      obtain ⟨ca,da,vs,hv,_,hn,hk⟩:=b1.1.ob e1
      rcases hk.look f with ⟨z,_⟩ | ⟨d',v2,z1,z2,dv⟩
      · rw [z] at h3;exact h3.elim
      · rw [z1] at h3
        obtain ⟨c1,c2⟩:=hc.c ca hn
        exact ⟨φ1 n,ca,da,vs,v2,dx.ins.2,hv,c1,c2 f hf,z2,hq d' st1 h3 φ1 H1 v2 b1 dv⟩
    · exact h1.elim
  | _=>exact h1.elim
noncomputable def gfld (nm:Str) (to:TD) (f:Str):TGD:=fun d ρ st P=>to ρ st fun x st1=>match x with
  | .ins n=>(match st1[n]? with
    | some (.ob c fs)=>c=nm∧fs.length < 1000∧P ρ (st1.set n (.ob c (putO f d fs)))
    | _=>False)
  | _=>False
theorem ds_fld {value:Expr} {tv:TD} {pos':Pos} (hc:ClsOk X.K nm flds) (hf:f ∈ flds) (ho:DE X o to) (hv:DE X value tv) (hs:swapsWith value (some (.Attribute o f pos')) pos.line X.env=pure false) :
    DS X (.Assign [.Attribute o f pos'] value pos) (qE tv (gfld nm to f)):=(ps_fld ho hv hs).imp fun E σ H h=>by
  obtain ⟨φ,st,ρ,P,pre,ht,n,b,c,r⟩:=h
  refine ⟨φ,st,ρ,_,pre,ht,fun d st1 h1 φ1 H1 v b1 dv=>?_⟩
  refine ⟨φ1,st1,ρ,_,pre.on b1,h1,fun x st2 h2 φ2 H2 w b2 dx=>?_⟩
  cases x with
  | ins m =>
    have h2:(match st2[m]? with
      | some (.ob c fs)=>c=nm∧fs.length < 1000∧P.nx ρ (st2.set m (.ob c (putO f d fs)))
      | _=>False):=h2
    split at h2
    · rename_i c fs e1
      obtain ⟨rfl,hl,h2⟩:=h2
      obtain ⟨ca,da,vs,hv,_,hn,hk⟩:=b2.1.ob e1
      obtain ⟨c1,c2⟩:=hc.c ca hn
      have bb:=bhd_oset b2.1 e1 hv (hk.put (dv.evo b2.2) f)
      exact ⟨φ2 m,ca,da,vs,dx.ins.2,hv,c1,c2 f hf,by rw [← hk.length];exact hl,n _ _ h2 φ2 _ _ ((b1.trans b2).trans bb) ((pre.on ((b1.trans b2).trans bb)).2)⟩
    · exact h2.elim
  | _=>exact h2.elim
structure MethOk (P:Program) (w:World) (K:PySem.W.Frag) (mg:Str→Option Value) (base:Heap) (nm m:Str) (k:Nat) (sp:RDL):Prop where
  ex:∃ C f fd ps,PySem.W.nsIn K mainGlobals nm=some (some (.ref C))∧Cls K C∧Meth K C m f∧FnOk P w K mg base CX0 k f fd ps (liftSp K sp)∧Binds K fd ps []
noncomputable def tmeth (nm m:Str) (sp:RDL) (to:TD) (t:TAD):TD:=fun ρ st P=>to ρ st fun x st1=>match x with
  | .ins n=>(match st1[n]? with
    | some (.ob c fs)=>c=nm∧fs.lookup m=none∧t ρ st1 fun ds st2=>sp (.ins n :: ds) st2 P
    | _=>False)
  | _=>False
theorem meth_lift {C:Addr} {nm m:Str} {sp:RDL} {to:TD} {t:TAD} {σ:L2.St} {H:Hp} {Q:VK} (hn:PySem.W.nsIn X.K mainGlobals nm=some (some (.ref C))) (h:liftE X.K (tmeth nm m sp to t) σ H Q):tMeth C m (liftSp X.K sp) [] E0 (liftE X.K to) (liftA X.K t) σ H Q:=by
  obtain ⟨φ,st,ρ,P,pre,ht,hq⟩:=h
  refine ⟨φ,st,ρ,_,pre,ht,fun x st1 h1 φ1 H1 v b1 dx=>?_⟩
  cases x with
  | ins n =>
    have h1:(match st1[n]? with
      | some (.ob c fs)=>c=nm∧fs.lookup m=none∧t ρ st1 fun ds st2=>sp (.ins n :: ds) st2 P
      | _=>False):=h1
    split at h1
    · rename_i c fs e1
      obtain ⟨rfl,hl,h1⟩:=h1
      obtain ⟨ca,da,vs,hv,_,hn',hk⟩:=b1.1.ob e1
      rw [hn] at hn'
      cases hn'
      refine ⟨φ1 n,da,vs,dx.ins.2,hv,?_,φ1,st1,ρ,_,pre.on b1,h1,fun ds st2 h2 φ2 H2 us b2 dl=>?_⟩
      · rcases hk.look m with ⟨_,z⟩ | ⟨d',v2,z1,_,_⟩
        · exact z
        · rw [hl] at z1;cases z1
      · show liftSp X.K sp (v :: (us ++ [])) H2 Q E0
        rw [List.append_nil]
        exact ⟨φ2,st2,.ins n :: ds,P,b2.1,.cons (dx.evo b2.2) dl,h2,fun d st' hp φ' H' u b d'=>hq d st' hp φ' H' u ((b1.trans b2).trans b) d'⟩
    · exact h1.elim
  | _=>exact h1.elim
theorem de_meth {k:Nat} {m:Str} {sp:RDL} {es:List Expr} {t:TAD} {pl:Sem Bool} (F:MethOk X.prog X.w X.K X.mg X.base nm m k sp) (hr:Room k X.A) (ho:DE X o to) (ha:DA X (e :: es) t)
    (hst:starEach (e :: es) X.env=(false,eval e X.env) :: starEach es X.env) (hpl:(backTo pos (starEach es X.env)).any (·.1)=false)
    (ht:eval (.Call (.Attribute o m apos) (e :: es) [] pos) X.env=(do
      let ov ← eval o X.env
      standAt apos.atName
      let (f,first) ← holding [ov] (getMethod ov m pl)
      callWith pos f first (backTo pos (starEach (e :: es) X.env)) (backToKw pos (keywordEach [] X.env)))):DE X (.Call (.Attribute o m apos) (e :: es) [] pos) (tmeth nm m sp to t):=by
  obtain ⟨C,f,fd,ps,h1,h2,h3,h4,h5⟩:=F.ex
  exact (pe_meth ho h2 h3 h4 hr h5 .nil pass0 ha hst hpl ht).imp fun σ H Q h=>meth_lift h1 h
structure MakeOk (P:Program) (w:World) (K:PySem.W.Frag) (mg:Str→Option Value) (base:Heap) (nm:Str) (k:Nat) (sp:RDL):Prop where
  ex:∃ C f fd ps,PySem.W.nsIn K mainGlobals nm=some (some (.ref C))∧mg nm=some (.ref C)∧Mk K C f∧FnOk P w K mg base CX0 k f fd ps (liftSp K sp)∧Binds K fd ps []
noncomputable def tmake (nm:Str) (sp:RDL) (t:TAD):TD:=fun ρ st P=>t ρ st fun ds st1=>sp (.ins st1.length :: ds) (st1 ++ [.ob nm []]) fun d st2=>d = .non∧P (.ins st1.length) st2
theorem make_lift {C:Addr} {sp:RDL} {t:TAD} {σ:L2.St} {H:Hp} {Q:VK} (hn:PySem.W.nsIn X.K mainGlobals nm=some (some (.ref C))) (h:liftE X.K (tmake nm sp t) σ H Q):tMake X.K C (liftSp X.K sp) [] E0 (liftA X.K t) σ H Q:=by
  obtain ⟨φ,st,ρ,P,pre,ht,hq⟩:=h
  refine ⟨φ,st,ρ,_,pre,ht,fun ds st1 h1 φ1 H1 us b1 dl=>?_⟩
  intro x dx hx hdx hne hk
  show liftSp X.K sp (.ref x :: (us ++ [])) _ _ E0
  rw [List.append_nil]
  have b2:=bhd_tup (o:=.own x) b1.1 hdx
  have hx2:upd H1 dx (.own x) x=none:=by rw [upd_ne (Ne.symm hne)];exact hx
  have b3:Bhd X.K φ1 st1 (upd H1 dx (.own x)) (phiNew φ1 st1.length x) (st1 ++ [.ob nm []]) (upd (upd H1 dx (.own x)) x (.ins C dx [])) :=
    ⟨b2.1.add hx2 ⟨C,dx,[],upd_same,hk,hn,rfl,.nil⟩,evo_add hx2⟩
  have b:=(b2.trans b3)
  have dn:D X.K (phiNew φ1 st1.length x) (st1 ++ [SO.ob nm []]).length (upd (upd H1 dx (.own x)) x (.ins C dx [])) (.ins st1.length) (.ref x):=by
    have:=D.mkIns (K:=X.K) (φ:=phiNew φ1 st1.length x) (H:=upd (upd H1 dx (.own x)) x (.ins C dx [])) (n:=st1.length) (N:=(st1 ++ [SO.ob nm []]).length) (by simp) (by rw [phi_at];exact ⟨C,dx,[],upd_same⟩)
    rw [phi_at] at this
    exact this
  refine ⟨_,_,.ins st1.length :: ds,_,b.1,.cons dn (dl.evo b.2),h1,fun d st' hp φ' H' u bb dd=>?_⟩
  obtain ⟨rfl,hp⟩:=hp
  refine ⟨dd.non,hq _ st' hp φ' H' _ ((b1.trans b).trans bb) ?_⟩
  have:=dn.evo bb.2
  exact this
end
end L3
namespace L3
open PySem PySem.Spec PyProof.Rows L2
end L3
namespace L3
open PySem PySem.Spec PyProof.Rows L2
noncomputable def EntsAre (P:Params):List DictEntry→List (Str×Str)→Prop
  | [],[]=>True
  | e :: r,kv :: q=>(∃ t u,e.key = .str kv.1 t∧e.val = .str kv.2 u∧e.hash=PyData.keyHash P kv.1)∧EntsAre P r q
  | _,_=>False
theorem EntsAre.lit {P:Params}:∀ {l:List DictEntry} {kvs:List (Str×Str)},EntsAre P l kvs→PySem.W.KeysLit P l
  | [],[],_=>trivial
  | _ :: _,_ :: _,⟨⟨t,_,h1,_,h3⟩,r⟩=>⟨⟨_,t,h1,h3⟩,r.lit⟩
  | [],_ :: _,h=>h.elim
  | _ :: _,[],h=>h.elim
theorem EntsAre.find {P:Params} (y:Str):∀ {l:List DictEntry} {kvs:List (Str×Str)},EntsAre P l kvs→(kvs.lookup y=none∧(l.find? fun e=>Value.isStrOf y e.key).map (·.val)=none)∨∃ z u,kvs.lookup y=some z∧(l.find? fun e=>Value.isStrOf y e.key).map (·.val)=some (.str z u)
  | [],[],_=>.inl ⟨rfl,rfl⟩
  | e :: r,(k,v) :: q,⟨⟨t,u,h1,h2,h3⟩,hr⟩=>by
    have ih:=EntsAre.find y hr
    have hk:Value.isStrOf y e.key=(k == y):=by rw [h1];rfl
    rw [List.find?_cons,hk,List.lookup_cons]
    have hs:(y == k)=(k == y):=by
      by_cases q:y=k
      · subst q;rfl
      · rw [beq_eq_false_iff_ne.mpr q,beq_eq_false_iff_ne.mpr (Ne.symm q)]
    rw [hs]
    cases k == y with
    | true=>exact .inr ⟨v,u,rfl,by rw [Option.map_some,h2]⟩
    | false=>exact ih
  | [],_ :: _,h=>h.elim
  | _ :: _,[],h=>h.elim
structure TopD (w:World) (K:PySem.W.Frag) (mg:Str→Option Value) (x:Str) (kvs:List (Str×Str)):Prop where
  ex:∃ a es n,mg x=some (.ref a)∧K.lookup a=some ⟨.type "dict",none,.dict es n,#[]⟩∧(a == sysModules)=false∧EntsAre w.params es.toList kvs
noncomputable def ttopget (kvs:List (Str×Str)) (ti:TD):TD:=fun ρ st P=>ti ρ st fun y st1=>match y with
  | .str z=>(match kvs.lookup z with
    | some v=>P (.str v) st1
    | none=>False)
  | _=>False
section
variable {X:Cx} {i:Expr} {ti:TD} {pos p:Pos} {x:Str} {kvs:List (Str×Str)}
theorem de_topget (T:TopD X.w X.K X.mg x kvs) (hi:DE X i ti) (hg:Gl X x) (hd:(x == ("__debug__" : Str))=false) (hs:NoSl i):DE X (.Subscript (.Name x p) i pos) (ttopget kvs ti):=by
  obtain ⟨a,es,n,hm,hl,hy,he⟩:=T.ex
  intro pins s σ H Q I h
  obtain ⟨φ,st,ρ,P,pre,ht,hq⟩:=h
  refine subD_of PySem.F.slot_dict_getitem.lookup hs (ld_glob I hg hm ?_ hd)
  refine thn (hi pins s σ H (fun v H'=>∃ z u,v = .str z∧kvs.lookup z=some u∧Q (.str u) H') I ⟨φ,st,ρ,_,pre,ht,fun y st1 h1 φ1 H1 v b1 dy=>?_⟩) fun iv s2 ⟨y,H2,I2,ry,z,u,ey,hu,q2⟩=>?_
  · cases y with
    | str z =>
      cases dy.str
      dsimp only at h1
      split at h1
      · rename_i v' e1
        exact ⟨z,v',rfl,e1,hq _ _ h1 _ _ _ b1 D.mkStr⟩
      · exact h1.elim
    | _=>exact h1.elim
  · subst ey
    obtain ⟨t,rfl⟩:=ry
    have hmap:=PySem.W.mapOf_K (prog:=X.prog) I2.kIn hl he.lit
    refine ⟨hmap.typeIs,?_⟩
    rcases he.find z with ⟨e1,_⟩ | ⟨z',u',e1,e2⟩
    · rw [hu] at e1;cases e1
    · rw [hu] at e1
      cases e1
      refine wpAny_getItem_of (strKind_is X.prog X.w z t) hmap (v:=.str u u') ?_ ⟨.str u,H2,I2.tok _,⟨u',rfl⟩,q2⟩
      obtain ⟨l⟩:=es
      unfold findBy
      rw [List.find?_toArray]
      exact e2
end
end L3
namespace HT
open PySem PySem.Spec PyProof.Rows
section
variable {prog:Program} {w:World} {A:Around} {E:Value→Shared→Prop} {s:Shared}
theorem nextOf_tup_item {it t:Addr} {i:Nat} {items:Array Value} {x:Value} {Q:Value→Shared→Prop} (hit:IsTupIter s.heap it t i) (ht:IsTup s.heap t items) (hx:items[i]? = some x)
    (hQ:∀ h',IsTupIter h' it t (i + 1)→Heap.SameBut it s.heap h'→Q x { s with heap:=h' }):wpAny (model prog w) A (Builtin.SmallTypes.nextOf (.ref it)) Q E s:=by
  obtain ⟨o,ho,hc,hd⟩:=id hit;obtain ⟨ol,hol,_,nl,hdl⟩:=ht
  unfold Builtin.SmallTypes.nextOf;refine wpAny_bind (wpAny_callSpecial?_slot (name:=Str.ofString "__next__") hit.typeIs slot_tupleiter_next (wpAny_call_entry slot_tupleiter_next hit.typeIs entry_tupleiter_next ?_ (args_tupleiter_next _)))
  show wpAny _ _ (field (.ref it) 0 >>= _) _ _ s;refine wpAny_bind (wpAny_field ho hd (x:=.ref t) rfl ?_)
  show wpAny _ _ (if (Value.ref t == Value.none)=true then _ else _) _ _ s;rw [if_neg (show ¬ ((Value.ref t == Value.none)=true) from Bool.false_ne_true)]
  show wpAny _ _ (field (.ref it) 1 >>= _) _ _ s;refine wpAny_bind (wpAny_field ho hd (x:=.int i 0) rfl ?_)
  show wpAny _ _ (seqItems? (.ref t) >>= _) _ _ s;refine wpAny_bind (wpAny_seqItems hol hdl ?_);simp only [Int.toNat_natCast,hx]
  refine wpAny_bind (wpAny_setField ho hd (by simp) (wpAny_pure ⟨x,rfl,wpAny_pure (hQ _ ⟨_,Heap.get?_update_self _ ho (Obj.isFreed_of_fields (Obj.data_mapFields hd _)),(Obj.cls_mapFields ..).trans hc,by rw [Obj.data_mapFields hd];simp [rawInt]⟩ (Heap.SameBut.update ..))⟩))
theorem nextOf_tup_end {it t:Addr} {i:Nat} {items:Array Value} {Q:Value→Shared→Prop} (hh:A.handled=none) (hit:IsTupIter s.heap it t i) (ht:IsTup s.heap t items) (hx:items[i]? = none)
    (hE:∀ h' e,Heap.ExtBut it s.heap h'→(∃ o,h'.get? e=some o∧o.cls = .type "StopIteration")→E (.ref e) { s with heap:=h' }):wpAny (model prog w) A (Builtin.SmallTypes.nextOf (.ref it)) Q E s:=by
  obtain ⟨o,ho,hc,hd⟩:=id hit;obtain ⟨ol,hol,_,nl,hdl⟩:=ht
  unfold Builtin.SmallTypes.nextOf;refine wpAny_bind (wpAny_callSpecial?_slot (name:=Str.ofString "__next__") hit.typeIs slot_tupleiter_next (wpAny_call_entry slot_tupleiter_next hit.typeIs entry_tupleiter_next ?_ (args_tupleiter_next _)))
  show wpAny _ _ (field (.ref it) 0 >>= _) _ _ s;refine wpAny_bind (wpAny_field ho hd (x:=.ref t) rfl ?_)
  show wpAny _ _ (if (Value.ref t == Value.none)=true then _ else _) _ _ s;rw [if_neg (show ¬ ((Value.ref t == Value.none)=true) from Bool.false_ne_true)]
  show wpAny _ _ (field (.ref it) 1 >>= _) _ _ s;refine wpAny_bind (wpAny_field ho hd (x:=.int i 0) rfl ?_)
  show wpAny _ _ (seqItems? (.ref t) >>= _) _ _ s;refine wpAny_bind (wpAny_seqItems hol hdl ?_);simp only [Int.toNat_natCast,hx]
  refine wpAny_bind (wpAny_rule (wpAny_bind (wpAny_setField ho hd (by simp) ?_)));show wpAny _ _ (newExc (.type "StopIteration") [] >>= _) _ _ _
  refine wpAny_bind ?_;simp only [newExc,newTuple]
  refine wpAny_bind (wpAny_newObj_type ?_ (by size_fits));refine wpAny_bind (m:=firstArgMember _ _) (wpAny_of_eq (a:=Value.none) (by first | rfl | (simp only [firstArgMember];rfl)) ?_)
  refine wpAny_newObj_type ?_ (by size_fits);simp only [raiseNew];refine wpAny_bind (wpAny_handled ?_)
  first | rw [show A.in1.handled=none from hh] | rw [hh]
  refine wpAny_bind (wpAny_pure (wpAny_throw ?_));exact hE _ _ (((Heap.SameBut.update ..).extBut.push _).push _) ⟨_,Heap.get?_push_size _ rfl,rfl⟩
theorem draws_tup (hh:A.handled=none) (it t:Addr) (hne:t≠it) (items:Array Value):Draws prog w A it [it,t] items.size (fun i v=>items[i]? = some v) (fun i h=>IsTupIter h it t i∧IsTup h t items) where
  live:=fun _ _ st=>let ⟨o,ho,_⟩:=st.1;⟨o,ho⟩
  frame:=fun _ _ _ st hk=>⟨let ⟨o,ho,r⟩:=st.1;⟨o,hk it (by simp) _ ho,r⟩,let ⟨o,ho,r⟩:=st.2;⟨o,hk t (by simp) _ ho,r⟩⟩
  item:=fun i s Q E hi st hQ=>by
    refine nextOf_tup_item st.1 st.2 (x:=items[i]) (by simp [hi]) fun h' hit' hs'=>hQ _ h' s.toks (by simp [hi]) ⟨hit',?_⟩ hs'
    obtain ⟨o,ho,r⟩:=st.2
    exact ⟨o,hs'.extBut t o hne ho,r⟩
  done:=fun s Q E st hE=>nextOf_tup_end hh st.1 st.2 (by simp) hE
end
end HT
namespace L3
open PySem PySem.Spec PyProof.Rows L2
theorem tupIter_at {h h':Heap} {a t:Addr} {i:Nat} (x:IsTupIter h a t i) (e:∀ o,h.get? a=some o→h'.get? a=some o):IsTupIter h' a t i:=let ⟨o,ho,r⟩:=x;⟨o,e _ ho,r⟩
end L3
namespace L3
open PySem PySem.Spec PyProof.Rows L2
end L3
namespace L3
open PySem PySem.Spec PyProof.Rows L2
end L3
namespace L3
open PySem PySem.Spec PyProof.Rows L2
noncomputable def signsD (z:Str):List Dt:=z.cps.toList.map fun c=>.str ⟨#[c]⟩
end L3
namespace HT
open PySem PySem.Spec PyProof.Rows
section
variable {prog:Program} {w:World} {A:Around} {E:Value→Shared→Prop} {s:Shared}
theorem object_init_kw {T newId:String} {self:Value} {rest:List Value} {kw:List (Str×Value)} (h1:typeLookup (.type T) (Str.ofString "__init__")=pure (some (.builtin "object.__init__"))) (h2:Bind.madeBy (.type T)=pure (some newId)) (h3:(some newId != some "object.__new__")=true)
    {Q:Fin→Shared→Prop} (hT:s.TypeIs self T) (hQ:Q (.done (.ret .none)) s):wpAny (model prog w) A (Builtin.«object.__init__» { pos:=self :: rest,kw:=kw }) Q E s:=by
  unfold Builtin.«object.__init__»
  simp only []
  split
  · refine wpAny_bind (wpAny_typeOf hT ?_)
    refine wpAny_bind (wpAny_of_eq h1 ?_)
    refine wpAny_bind (wpAny_of_eq h2 ?_)
    rw [if_neg (by simp)]
    rw [if_neg (by rw [h3];simp)]
    exact wpAny_pure hQ
  · exact wpAny_pure hQ
theorem callType_kw {T newId:String} {Bn:Builtin} {args:List Value} {kw:List (Str×Value)} {S:PySem.Spec} {Q:Value→Shared→Prop} (F:TypeCalled T newId "object.__init__") (hne:(some newId != some "object.__new__")=true)
    (h1:checkTypeCall T { pos:=args,kw:=kw }=pure ()) (h2:checkBuiltinCall newId { pos:=.type T :: args,kw:=kw }=pure ()) (h3:∀ obj,argsOk "object.__init__" { pos:=obj :: args,kw:=kw })
    (he:entryFor table newId=some Bn) (hm:Meets (Bn { pos:=.type T :: args,kw:=kw }) S) (h:S A.in1 (wants (fun obj s₁=>s₁.TypeIs obj T∧Q obj s₁) E) s):wpAny (model prog w) A (call (.type T) args kw) Q E s:=by
  refine wpAny_call (codeAny_of_tree ?_)
  show wpAny _ _ (callAny (.type T) { pos:=args,kw:=kw }) _ _ s
  refine wpAny_pure ⟨Code.quiet_builtin _ (by decide +kernel),?_⟩
  refine codeAny_builtin PySem.F.entry_type_call ?_
  rw [Around.under_plain (weight_type_call_type T args kw) rfl]
  unfold Builtin.«type.__call__»
  simp only []
  rw [if_neg (by rw [F.notType];exact Bool.false_ne_true)]
  rw [if_neg (by rw [F.canCreate];exact Bool.false_ne_true)]
  refine wpAny_bind (wpAny_of_eq h1 ?_)
  obtain ⟨c,tl,hmro⟩:=F.mro
  refine wpAny_bind (wpAny_of_eq hmro ?_)
  rw [if_neg (by simp)]
  refine wpAny_bind (wpAny_of_eq F.made ?_)
  refine wpAny_bind (wpAny_pure ?_)
  refine wpAny_bind (wpAny_holding (wpAny_call (codeAny_mono (codeAny_call_builtin F.plain he (wpAny_of_eq h2 (hm prog w A.in1 _ s h))) fun r s1 hq=>?_)))
  cases r with
  | error e=>exact hq
  | ok f =>
    cases f with
    | ret v =>
      obtain ⟨hT,hq⟩:=hq
      show wpAny _ _ _ _ _ s1
      refine wpAny_bind (wpAny_isInstance hT F.sub ?_)
      rw [if_neg (by simp)]
      refine wpAny_bind (wpAny_holding ?_)
      unfold callSpecial?
      refine wpAny_bind (wpAny_specialOf hT F.init.lookup ?_)
      simp only []
      refine wpAny_holding (wpAny_bind (wpAny_of_eq (F.init.bind v) ?_))
      refine wpAny_bind (wpAny_call (codeAny_call_builtin F.init.plain PySem.F.entry_object_init (F.init.check _ _ _ _ _ _ _ _ hT (h3 v) ?_)))
      refine object_init_kw F.init.lookup F.made hne hT ?_
      refine wpAny_pure ?_
      show wpAny _ _ (if (Value.none != Value.none)=true then _ else _) _ _ _
      rw [if_neg (by simp)]
      exact wpAny_pure hq
    | next=>exact False.elim hq
    | brk=>exact False.elim hq
    | cont=>exact False.elim hq
noncomputable def sgEnum:Manifest.Signature:=⟨.hand, "enumerate.__new__", "__new__",.cls,[]⟩
theorem sg_enum:Manifest.signature? "enumerate.__new__" = some sgEnum:=rfl
theorem ck_enum1 (a:Value) (x:Str) (v:Value):Bind.checkArgs "enumerate.__new__" sgEnum { pos:=[.type "enumerate",a],kw:=[(x,v)] }=pure ():=by rfl
theorem ck_enum0 (a:Value):Bind.checkArgs "enumerate.__new__" sgEnum { pos:=[.type "enumerate",a],kw:=[] }=pure ():=by rfl
theorem new_enum1 (a:Value) (x:Str) (v:Value):checkBuiltinCall "enumerate.__new__" { pos:=[.type "enumerate",a],kw:=[(x,v)] }=pure ():=by
  have h:=PySem.F.newCall_enumerate_1 a
  unfold checkBuiltinCall at h ⊢
  rw [sg_enum] at h ⊢
  simp only [ck_enum0 a] at h
  simp only [ck_enum1 a x v]
  exact h
end
theorem meets_enumT1 (l:Addr) (items:Array Value) (n:Nat) (dct:Option Addr) (sl:Array (Option Value)) (t:Tok) :
    Meets (Builtin.«enumerate.__new__» ⟨[.type "enumerate",.ref l],[(Str.ofString "start",.int 1 t)]⟩) (fun _ R s=>s.heap.get? l=some { cls:=.type "tuple",dict:=dct,data:=.seq items n,slots:=sl } ∧
      R (.ok (.ret (.ref (s.heap.push { cls:=.type "tuple_iterator",data:=.fields #[.ref l,.int 0 0] }).objs.size)))
        { s with heap:=(s.heap.push { cls:=.type "tuple_iterator",data:=.fields #[.ref l,.int 0 0] }).push { cls:=.type "enumerate",data:=.fields #[.none,.bool false,.ref s.heap.objs.size,rawInt 1,.none,.none] } }) :=
  .of_wp fun prog w A R s h=>by
    obtain ⟨hp,g,d,tk,os⟩:=s;obtain ⟨hl,h⟩:=h
    have hsub:=sub_enumerate
    have hT:IsTup (Shared.heap ⟨hp,g,d,tk,os⟩) l items:=⟨_,hl,rfl,n,rfl⟩
    wp_walk using AutoSeq1.wpAny_loadPart' hl
    refine wpAny_stack_any fun st=>wpAny_pure ?_
    split
    · rename_i c _ _ _ _ _
      cases (c == Value.type "enumerate")
      · wp_walk using AutoSeq1.wpAny_loadPart' hl,iter_tuple hT
        exact ⟨_,rfl,h⟩
      · wp_walk using AutoSeq1.wpAny_loadPart' hl,iter_tuple hT
        exact ⟨_,rfl,h⟩
    · wp_walk using AutoSeq1.wpAny_loadPart' hl,iter_tuple hT
      exact ⟨_,rfl,h⟩
section
variable {prog:Program} {w:World} {A:Around} {E:Value→Shared→Prop} {s:Shared}
theorem call_enumT1 {l:Addr} {items:Array Value} {t:Tok} {Q:Value→Shared→Prop} (hT:IsTup s.heap l items)
    (h:∀ h',IsEnum h' (s.heap.objs.size + 1) s.heap.objs.size 1 .none→IsTupIter h' s.heap.objs.size l 0→h'.objs.size=s.heap.objs.size + 2→(∀ b o,s.heap.get? b=some o→h'.get? b=some o)→Q (.ref (s.heap.objs.size + 1)) { s with heap:=h' }) :
    wpAny (model prog w) A (call (.type "enumerate") [.ref l] [(Str.ofString "start",.int 1 t)]) Q E s:=by
  obtain ⟨⟨c,dct,dt,sl⟩,hl,hc,n,hd⟩:=hT
  replace hc:c = .type "tuple":=hc
  replace hd:dt = .seq items n:=hd
  subst hc hd
  refine callType_kw F.called_enumerate (by decide) (by rfl) (new_enum1 _ _ _) (fun obj=>by rfl) F.entry_enumerate_new (meets_enumT1 l items n dct sl t) ⟨hl,?_⟩
  have hz:(s.heap.push { cls:=.type "tuple_iterator",data:=.fields #[.ref l,.int 0 0] }).objs.size=s.heap.objs.size + 1:=Heap.size_push ..
  show _∧_
  rw [hz]
  have he:IsEnum ((s.heap.push { cls:=.type "tuple_iterator",data:=.fields #[.ref l,.int 0 0] }).push { cls:=.type "enumerate",data:=.fields #[.none,.bool false,.ref s.heap.objs.size,rawInt 1,.none,.none] }) (s.heap.objs.size + 1) s.heap.objs.size 1 .none:=by
    have q:=Heap.get?_push_size (s.heap.push { cls:=.type "tuple_iterator",data:=.fields #[.ref l,.int 0 0] }) (o:={ cls:=.type "enumerate",data:=.fields #[.none,.bool false,.ref s.heap.objs.size,rawInt 1,.none,.none] }) rfl
    rw [hz] at q;exact q
  exact ⟨⟨_,he,rfl⟩,h _ he ⟨_,Heap.get?_push_of_some _ (Heap.get?_push_size _ rfl),rfl,rfl⟩ (by rw [Heap.size_push,hz]) fun b o x=>Heap.get?_push_of_some _ (Heap.get?_push_of_some _ x)⟩
end
theorem meets_enumL1 (l:Addr) (items:Array Value) (n:Nat) (dct:Option Addr) (sl:Array (Option Value)) (t:Tok) :
    Meets (Builtin.«enumerate.__new__» ⟨[.type "enumerate",.ref l],[(Str.ofString "start",.int 1 t)]⟩) (fun _ R s=>s.heap.get? l=some { cls:=.type "list",dict:=dct,data:=.seq items n,slots:=sl } ∧
      R (.ok (.ret (.ref (s.heap.push { cls:=.type "list_iterator",data:=.fields #[.ref l,.int 0 0] }).objs.size)))
        { s with heap:=(s.heap.push { cls:=.type "list_iterator",data:=.fields #[.ref l,.int 0 0] }).push { cls:=.type "enumerate",data:=.fields #[.none,.bool false,.ref s.heap.objs.size,rawInt 1,.none,.none] } }) :=
  .of_wp fun prog w A R s h=>by
    obtain ⟨hp,g,d,tk,os⟩:=s;obtain ⟨hl,h⟩:=h
    have hsub:=sub_enumerate
    have hT:Heap.IsList (Shared.heap ⟨hp,g,d,tk,os⟩) l items:=⟨_,hl,rfl,n,rfl⟩
    wp_walk using AutoSeq1.wpAny_loadPart' hl
    refine wpAny_stack_any fun st=>wpAny_pure ?_
    split
    · rename_i c _ _ _ _ _
      cases (c == Value.type "enumerate")
      · wp_walk using AutoSeq1.wpAny_loadPart' hl,wpAny_pyIter_list hT
        exact ⟨_,rfl,h⟩
      · wp_walk using AutoSeq1.wpAny_loadPart' hl,wpAny_pyIter_list hT
        exact ⟨_,rfl,h⟩
    · wp_walk using AutoSeq1.wpAny_loadPart' hl,wpAny_pyIter_list hT
      exact ⟨_,rfl,h⟩
section
variable {prog:Program} {w:World} {A:Around} {E:Value→Shared→Prop} {s:Shared}
theorem call_enumL1 {l:Addr} {items:Array Value} {t:Tok} {Q:Value→Shared→Prop} (hT:Heap.IsList s.heap l items)
    (h:∀ h',IsEnum h' (s.heap.objs.size + 1) s.heap.objs.size 1 .none→Heap.IsListIter h' s.heap.objs.size l 0→h'.objs.size=s.heap.objs.size + 2→(∀ b o,s.heap.get? b=some o→h'.get? b=some o)→Q (.ref (s.heap.objs.size + 1)) { s with heap:=h' }) :
    wpAny (model prog w) A (call (.type "enumerate") [.ref l] [(Str.ofString "start",.int 1 t)]) Q E s:=by
  obtain ⟨⟨c,dct,dt,sl⟩,hl,hc,n,hd⟩:=hT
  replace hc:c = .type "list":=hc
  replace hd:dt = .seq items n:=hd
  subst hc hd
  refine callType_kw F.called_enumerate (by decide) (by rfl) (new_enum1 _ _ _) (fun obj=>by rfl) F.entry_enumerate_new (meets_enumL1 l items n dct sl t) ⟨hl,?_⟩
  have hz:(s.heap.push { cls:=.type "list_iterator",data:=.fields #[.ref l,.int 0 0] }).objs.size=s.heap.objs.size + 1:=Heap.size_push ..
  show _∧_
  rw [hz]
  have he:IsEnum ((s.heap.push { cls:=.type "list_iterator",data:=.fields #[.ref l,.int 0 0] }).push { cls:=.type "enumerate",data:=.fields #[.none,.bool false,.ref s.heap.objs.size,rawInt 1,.none,.none] }) (s.heap.objs.size + 1) s.heap.objs.size 1 .none:=by
    have q:=Heap.get?_push_size (s.heap.push { cls:=.type "list_iterator",data:=.fields #[.ref l,.int 0 0] }) (o:={ cls:=.type "enumerate",data:=.fields #[.none,.bool false,.ref s.heap.objs.size,rawInt 1,.none,.none] }) rfl
    rw [hz] at q;exact q
  exact ⟨⟨_,he,rfl⟩,h _ he ⟨_,Heap.get?_push_of_some _ (Heap.get?_push_size _ rfl),rfl,rfl⟩ (by rw [Heap.size_push,hz]) fun b o x=>Heap.get?_push_of_some _ (Heap.get?_push_of_some _ x)⟩
end
end HT
namespace L3
open PySem PySem.Spec PyProof.Rows L2
theorem draws_shift {prog : Program} {w : World} {A : Around} {it:Addr} {fp:List Addr} {n:Nat} {P:Nat→Value→Prop} {St:Nat→Heap→Prop} (h:Draws prog w A it fp n P St) :
    Draws prog w A it fp (n + 1) (fun i v=>∃ j,i=j + 1∧P j v) (fun i hp=>∃ j,i=j + 1∧St j hp) where
  live:=fun i hp ⟨j,_,st⟩=>h.live j hp st
  frame:=fun i hp hp' ⟨j,e,st⟩ hk=>⟨j,e,h.frame j hp hp' st hk⟩
  item:=fun i s Q E hi ⟨j,e,st⟩ hQ=>h.item j s Q E (by omega) st fun x h' tk hp st' sb=>hQ x h' tk ⟨j,e,hp⟩ ⟨j + 1,by omega,st'⟩ sb
  done := fun s Q E ⟨j, e, st⟩ hE => h.done s Q E (by have:n=j:=by omega
                                                      subst this;exact st) hE
theorem enumT_endG {prog:Program} {w:World} {A:Around} {E:Value→Shared→Prop} {s:Shared} {e it t:Addr} {i:Nat} {old:Value} {items:Array Value} {Q:Option Value→Shared→Prop} (hh:A.handled=none) {z:Int} (he:IsEnum s.heap e it z old) (hit:IsTupIter s.heap it t i) (ht:IsTup s.heap t items) (hne:t≠it) (hn:items.size≤i)
    (hQ:∀ h',Heap.ExtBut it s.heap h'→Q none { s with heap:=h' }):wpAny (model prog w) A (pyNext (.ref e)) Q E s:=by
  have hT:s.TypeIs (.ref e) "enumerate":=⟨_,he,rfl⟩
  unfold pyNext
  refine wpAny_bind (wpAny_attempt (wpAny_callSpecial?_slot (name:=Str.ofString "__next__") hT F.slot_enumerate_next (wpAny_call_entry F.slot_enumerate_next hT F.entry_enumerate_next ?_ (F.args_enumerate_next_1 _))))
  show wpAny _ _ (field (.ref e) 2 >>= _) _ _ _
  refine wpAny_bind (wpAny_field he rfl (x:=.ref it) rfl (wpAny_bind (HT.nextOf_tup_end (A:=A.in1) hh hit ht (by simp;omega) fun h' x he' hx'=>?_)))
  obtain ⟨o,ho,hc⟩:=hx'
  exact wpAny_bind (wpAny_isInstance (T:= "StopIteration") (b:=true) ⟨o,ho,hc⟩ isSubtype_stop (wpAny_pure (hQ _ he')))
theorem enumL_endG {prog:Program} {w:World} {A:Around} {E:Value→Shared→Prop} {s:Shared} {e it t:Addr} {i:Nat} {old:Value} {items:Array Value} {Q:Option Value→Shared→Prop} (hh:A.handled=none) {z:Int} (he:IsEnum s.heap e it z old) (hit:s.heap.IsListIter it t i) (ht:s.heap.IsList t items) (hne:t≠it) (hn:items.size≤i)
    (hQ:∀ h',Heap.ExtBut it s.heap h'→Q none { s with heap:=h' }):wpAny (model prog w) A (pyNext (.ref e)) Q E s:=by
  have hT:s.TypeIs (.ref e) "enumerate":=⟨_,he,rfl⟩
  unfold pyNext
  refine wpAny_bind (wpAny_attempt (wpAny_callSpecial?_slot (name:=Str.ofString "__next__") hT F.slot_enumerate_next (wpAny_call_entry F.slot_enumerate_next hT F.entry_enumerate_next ?_ (F.args_enumerate_next_1 _))))
  show wpAny _ _ (field (.ref e) 2 >>= _) _ _ _
  refine wpAny_bind (wpAny_field he rfl (x:=.ref it) rfl (wpAny_bind (wpAny_nextOf_list_end (A:=A.in1) hh hit ht (by simp;omega) fun h' x he' hx'=>?_)))
  obtain ⟨o,ho,hc⟩:=hx'
  exact wpAny_bind (wpAny_isInstance (T:= "StopIteration") (b:=true) ⟨o,ho,hc⟩ isSubtype_stop (wpAny_pure (hQ _ he')))
noncomputable def IteT1 (K:PySem.W.Frag) (a:Addr):It :=
  ⟨fun i H=>∃ xs x,SqT K H a xs∧xs[i]? = some x,fun i H x H'=>∃ p v,H p=none∧H'=upd H p (.tup [.int ((i + 1:Nat):Int),v])∧x = .ref p∧∀ xs,SqT K H a xs→xs[i]? = some v,fun i H=>∃ xs,SqT K H a xs∧xs.length≤i⟩
theorem turn_enumT1 {P:Program} {w:World} {K:PySem.W.Frag} {elts:List Expr} {x1} {pos:Pos} (a e it:Addr) (hei:e≠it) :
    Turn P w K (.Tuple elts x1 pos) (IteT1 K a) [e,it] e (fun i h=>(∃ old,IsEnum h e it ((i + 1:Nat):Int) old)∧IsTupIter h it a i) where
  mem:=by simp
  obj :=fun i h st b hb=>by
    obtain ⟨⟨old,he⟩,o,ho,hc,hd⟩:=st
    rcases List.mem_cons.mp hb with rfl | hb
    · exact ⟨_,he,fun v z=>by
        have z':Data.fields _=Data.cell v:=z
        cases z'⟩
    · have:b=it:=by simpa using hb
      subst this
      exact ⟨o,ho,fun v z=>by rw [hd] at z;cases z⟩
  keep:=fun i h h' st k=>by
    obtain ⟨⟨old,he⟩,hit⟩:=st
    exact ⟨⟨old,k e (by simp) _ he⟩,tupIter_at hit fun o x=>k it (by simp) o x⟩
  item := by
    intro X hP hw hK hc i pins s σ H E I hf st hg
    subst hP hw hK
    obtain ⟨⟨old,he⟩,hit⟩:=st
    obtain ⟨xs,x,hq,hx⟩:=hg
    obtain ⟨its,rv,p,hz⟩:=I.tuple hq
    obtain ⟨u,hu,ru⟩:=rv.get hx
    obtain ⟨e0,e1,e2,e3,e4,e5⟩:=hf e (by simp)
    obtain ⟨i0,i1,i2,i3,i4,i5⟩:=hf it (by simp)
    have hit0:=hit
    have hai:a≠it:=fun z=>by
      obtain ⟨o1,q1,q2,q3⟩:=hit
      obtain ⟨o2,q4,q5,q6⟩:=p
      rw [z,q1] at q4;cases q4;rw [q2] at q5;injection q5 with q7;exact absurd q7 (by decide)
    have hea:e≠a:=fun z=>by
      obtain ⟨o2,q4,q5,q6⟩:=p
      rw [← z,he] at q4;cases q4;injection q5 with q7;exact absurd q7 (by decide)
    refine wpAny_pyNext_enum_itemD (i:=i + 1) (draws_shift (HT.draws_tup (A:=X.A.in1) (I.ok.hd hc) it a hai its.toArray)) he ⟨i,rfl,hit,p⟩ (by have:=(Array.getElem?_eq_some_iff.mp (show its.toArray[i]? = some u by simpa using hu));exact Nat.succ_lt_succ this.1) hei (by simp;exact ⟨hei,hea⟩) fun x0 h' tk hx0 ho hst' hT hsz hk=>?_
    have hxu:x0=u:=by
      have q:its.toArray[i]? = some u:=by simpa using hu
      obtain ⟨j0,ej0,hx0⟩:=hx0
      have ej0:i=j0:=by omega
      subst ej0
      have hx0:its.toArray[i]? = some x0:=hx0
      rw [q] at hx0;exact (Option.some.inj hx0).symm
    subst hxu
    obtain ⟨j1,ej1,hit',hp'⟩:=hst'
    have ej1:j1=i + 1:=by omega
    subst ej1
    refine ⟨_,rfl,wpAny_letOwnedTupleGo_enum (s:={ s with heap:=h',toks:=tk + 1 }) ho fun h2 he2 hs2=>?_⟩
    have hT2:h2.get? s.heap.objs.size=some { cls:=.type "tuple",data:=.seq #[.int ((i + 1:Nat):Int) tk,x0] }:=(hs2.2 _ (Ne.symm (ne_lt (Heap.lt_size he) (Nat.le_refl _)))).trans hT
    have hk2:∀ b o,b≠e→b≠it→s.heap.get? b=some o→h2.get? b=some o:=fun b o hb hb2 q=>(hs2.2 b hb).trans (hk b o hb hb2 q)
    have hp:H s.heap.objs.size=none:=I.hok.fresh (Nat.le_refl _)
    have nt:∀ b v,H b=some v→b≠e∧b≠it:=fun b v q=>⟨fun z=>(by rw [z,e0] at q;cases q),fun z=>(by rw [z,i0] at q;cases q)⟩
    refine ⟨.ref s.heap.objs.size,upd H s.heap.objs.size (.tup [.int ((i + 1:Nat):Int),x]),?_,rfl,⟨_,x,hp,rfl,rfl,fun ys hy=>by rw [I.tuple_inj hy hq];exact hx⟩,⟨⟨x0,by simpa using he2⟩,tupIter_at hit' fun o y=>(hs2.2 it hei.symm).trans y⟩,fun b hb=>?_⟩
    · show Inv X pins σ _ { s with heap:=h2,gens:=s.gens,drawn:=s.drawn,toks:=tk + 1 }
      refine Inv.step (s:=s) (h':=h2) (g':=s.gens) (d':=s.drawn) (t':=tk + 1) (ch:=[e,it]) I (fun b hb=>?_) (fun b o _ _ hc q _=>hk2 b o (fun z=>hc (by simp [z])) (fun z=>hc (by simp [z])) q) (fun b o _ _ hc q _=>⟨o.slots,hk2 b o (fun z=>hc (by simp [z])) (fun z=>hc (by simp [z])) q⟩)
        (fun b o _ q n=>by rw [upd_ne (ne_lt (Heap.lt_size q) (Nat.le_refl _))];exact n) (fun b o hc q=>⟨o,hk2 b o (fun z=>hc (by simp [z])) (fun z=>hc (by simp [z])) q⟩)
        (fun b ys q=>by rw [upd_ne (ne_of_none q hp)];exact q) (fun b o v q=>by rw [upd_ne (ne_of_none q hp)];exact q) (fun b ps q=>⟨#[],by rw [upd_ne (ne_of_none q hp),q];simp⟩) (fun m hm=>?_) (fun b v q=>?_) I.bare
      · rcases List.mem_cons.mp hb with rfl | hb
        · exact ⟨e3,e1,e4,e5⟩
        · have:b=it:=by simpa using hb
          subst this
          exact ⟨i3,i1,i4,i5⟩
      · obtain ⟨o,es,ep,ho,r⟩:=hm
        exact ⟨o,es,ep,hk2 _ o (Ne.symm e1) (Ne.symm i1) ho,r⟩
      · by_cases hb:b=s.heap.objs.size
        · subst hb
          rw [upd_same] at q
          cases q
          refine ⟨by show 2≤sizeLine;decide,[.int ((i + 1:Nat):Int) tk,x0],.cons ⟨_,rfl⟩ (.cons ru .nil),⟨_,hT2,rfl,0,rfl⟩⟩
        · rw [upd_ne hb] at q
          refine (I.hok b v q).stay (fun c o hc y=>?_) (fun c y=>by rw [upd_ne (ne_of_none y hp)];exact y) fun c ys y=>by rw [upd_ne (ne_of_none y hp)];exact y
          rcases hc with rfl | hc
          · exact hk2 c o (nt c v q).1 (nt c v q).2 y
          · exact hk2 c o (nt c _ hc).1 (nt c _ hc).2 y
    · have hlt:b < s.heap.objs.size:=by
        rcases List.mem_cons.mp hb with rfl | hb
        · exact Heap.lt_size he
        · have:b=it:=by simpa using hb
          subst this
          obtain ⟨o,ho,_⟩:=hit
          exact Heap.lt_size ho
      rw [upd_ne (ne_lt hlt (Nat.le_refl _))]
      exact (hf b hb).1
  done:=by
    intro X hP hw hK hc i pins s σ H E I hf st hg
    subst hP hw hK
    obtain ⟨⟨old,he⟩,hit⟩:=st
    obtain ⟨xs,hq,hx⟩:=hg
    obtain ⟨its,rv,p,hz⟩:=I.tuple hq
    obtain ⟨i0,i1,i2,i3,i4,i5⟩:=hf it (by simp)
    have hl:=rv.length
    have hai:a≠it:=fun z=>by
      obtain ⟨o1,q1,q2,q3⟩:=hit
      obtain ⟨o2,q4,q5,q6⟩:=p
      rw [z,q1] at q4;cases q4;rw [q2] at q5;injection q5 with q7;exact absurd q7 (by decide)
    exact enumT_endG (I.ok.hd hc) he hit p hai (by simp;omega) fun h' eb=>⟨rfl,I.turned (t':=s.toks) (fun b o hb e=>eb b o hb e) i0 i1 i3 i4 i5⟩
  self:=fun _ _ _ _ _ st h=>by
    obtain ⟨⟨old,he⟩,_⟩:=st
    exact wpAny_pyIter_enum he h
noncomputable def IteL1 (K:PySem.W.Frag) (a:Addr):It :=
  ⟨fun i H=>∃ xs x,SqL K H a xs∧xs[i]? = some x,fun i H x H'=>∃ p v,H p=none∧H'=upd H p (.tup [.int ((i + 1:Nat):Int),v])∧x = .ref p∧∀ xs,SqL K H a xs→xs[i]? = some v,fun i H=>∃ xs,SqL K H a xs∧xs.length≤i⟩
theorem turn_enumL1 {P:Program} {w:World} {K:PySem.W.Frag} {elts:List Expr} {x1} {pos:Pos} (a e it:Addr) (hei:e≠it) :
    Turn P w K (.Tuple elts x1 pos) (IteL1 K a) [e,it] e (fun i h=>(∃ old,IsEnum h e it ((i + 1:Nat):Int) old)∧h.IsListIter it a i) where
  mem:=by simp
  obj :=fun i h st b hb=>by
    obtain ⟨⟨old,he⟩,o,ho,hc,hd⟩:=st
    rcases List.mem_cons.mp hb with rfl | hb
    · exact ⟨_,he,fun v z=>by
        have z':Data.fields _=Data.cell v:=z
        cases z'⟩
    · have:b=it:=by simpa using hb
      subst this
      exact ⟨o,ho,fun v z=>by rw [hd] at z;cases z⟩
  keep:=fun i h h' st k=>by
    obtain ⟨⟨old,he⟩,hit⟩:=st
    exact ⟨⟨old,k e (by simp) _ he⟩,hit.at fun o x=>k it (by simp) o x⟩
  item := by
    intro X hP hw hK hc i pins s σ H E I hf st hg
    subst hP hw hK
    obtain ⟨⟨old,he⟩,hit⟩:=st
    obtain ⟨xs,x,hq,hx⟩:=hg
    obtain ⟨its,rv,p,hz⟩:=I.list hq
    obtain ⟨u,hu,ru⟩:=rv.get hx
    obtain ⟨e0,e1,e2,e3,e4,e5⟩:=hf e (by simp)
    obtain ⟨i0,i1,i2,i3,i4,i5⟩:=hf it (by simp)
    have hit0:=hit
    have hai:a≠it:=fun z=>by
      obtain ⟨o1,q1,q2,q3⟩:=hit
      obtain ⟨o2,q4,q5,q6⟩:=p.isList
      rw [z,q1] at q4;cases q4;rw [q2] at q5;injection q5 with q7;exact absurd q7 (by decide)
    have hea:e≠a:=fun z=>by
      obtain ⟨o2,q4,q5,q6⟩:=p.isList
      rw [← z,he] at q4;cases q4;injection q5 with q7;exact absurd q7 (by decide)
    refine wpAny_pyNext_enum_itemD (i:=i + 1) (draws_shift (Draws.list (A:=X.A.in1) (I.ok.hd hc) it a hai its.toArray)) he ⟨i,rfl,hit,p.isList⟩ (by have:=(Array.getElem?_eq_some_iff.mp (show its.toArray[i]? = some u by simpa using hu));exact Nat.succ_lt_succ this.1) hei (by simp;exact ⟨hei,hea⟩) fun x0 h' tk hx0 ho hst' hT hsz hk=>?_
    have hxu:x0=u:=by
      have q:its.toArray[i]? = some u:=by simpa using hu
      obtain ⟨j0,ej0,hx0⟩:=hx0
      have ej0:i=j0:=by omega
      subst ej0
      have hx0:its.toArray[i]? = some x0:=hx0
      rw [q] at hx0;exact (Option.some.inj hx0).symm
    subst hxu
    obtain ⟨j1,ej1,hit',hp'⟩:=hst'
    have ej1:j1=i + 1:=by omega
    subst ej1
    refine ⟨_,rfl,wpAny_letOwnedTupleGo_enum (s:={ s with heap:=h',toks:=tk + 1 }) ho fun h2 he2 hs2=>?_⟩
    have hT2:h2.get? s.heap.objs.size=some { cls:=.type "tuple",data:=.seq #[.int ((i + 1:Nat):Int) tk,x0] }:=(hs2.2 _ (Ne.symm (ne_lt (Heap.lt_size he) (Nat.le_refl _)))).trans hT
    have hk2:∀ b o,b≠e→b≠it→s.heap.get? b=some o→h2.get? b=some o:=fun b o hb hb2 q=>(hs2.2 b hb).trans (hk b o hb hb2 q)
    have hp:H s.heap.objs.size=none:=I.hok.fresh (Nat.le_refl _)
    have nt:∀ b v,H b=some v→b≠e∧b≠it:=fun b v q=>⟨fun z=>(by rw [z,e0] at q;cases q),fun z=>(by rw [z,i0] at q;cases q)⟩
    refine ⟨.ref s.heap.objs.size,upd H s.heap.objs.size (.tup [.int ((i + 1:Nat):Int),x]),?_,rfl,⟨_,x,hp,rfl,rfl,fun ys hy=>by rw [I.list_inj hy hq];exact hx⟩,⟨⟨x0,by simpa using he2⟩,hit'.at fun o y=>(hs2.2 it hei.symm).trans y⟩,fun b hb=>?_⟩
    · show Inv X pins σ _ { s with heap:=h2,gens:=s.gens,drawn:=s.drawn,toks:=tk + 1 }
      refine Inv.step (s:=s) (h':=h2) (g':=s.gens) (d':=s.drawn) (t':=tk + 1) (ch:=[e,it]) I (fun b hb=>?_) (fun b o _ _ hc q _=>hk2 b o (fun z=>hc (by simp [z])) (fun z=>hc (by simp [z])) q) (fun b o _ _ hc q _=>⟨o.slots,hk2 b o (fun z=>hc (by simp [z])) (fun z=>hc (by simp [z])) q⟩)
        (fun b o _ q n=>by rw [upd_ne (ne_lt (Heap.lt_size q) (Nat.le_refl _))];exact n) (fun b o hc q=>⟨o,hk2 b o (fun z=>hc (by simp [z])) (fun z=>hc (by simp [z])) q⟩)
        (fun b ys q=>by rw [upd_ne (ne_of_none q hp)];exact q) (fun b o v q=>by rw [upd_ne (ne_of_none q hp)];exact q) (fun b ps q=>⟨#[],by rw [upd_ne (ne_of_none q hp),q];simp⟩) (fun m hm=>?_) (fun b v q=>?_) I.bare
      · rcases List.mem_cons.mp hb with rfl | hb
        · exact ⟨e3,e1,e4,e5⟩
        · have:b=it:=by simpa using hb
          subst this
          exact ⟨i3,i1,i4,i5⟩
      · obtain ⟨o,es,ep,ho,r⟩:=hm
        exact ⟨o,es,ep,hk2 _ o (Ne.symm e1) (Ne.symm i1) ho,r⟩
      · by_cases hb:b=s.heap.objs.size
        · subst hb
          rw [upd_same] at q
          cases q
          refine ⟨by show 2≤sizeLine;decide,[.int ((i + 1:Nat):Int) tk,x0],.cons ⟨_,rfl⟩ (.cons ru .nil),⟨_,hT2,rfl,0,rfl⟩⟩
        · rw [upd_ne hb] at q
          refine (I.hok b v q).stay (fun c o hc y=>?_) (fun c y=>by rw [upd_ne (ne_of_none y hp)];exact y) fun c ys y=>by rw [upd_ne (ne_of_none y hp)];exact y
          rcases hc with rfl | hc
          · exact hk2 c o (nt c v q).1 (nt c v q).2 y
          · exact hk2 c o (nt c _ hc).1 (nt c _ hc).2 y
    · have hlt:b < s.heap.objs.size:=by
        rcases List.mem_cons.mp hb with rfl | hb
        · exact Heap.lt_size he
        · have:b=it:=by simpa using hb
          subst this
          obtain ⟨o,ho,_⟩:=hit
          exact Heap.lt_size ho
      rw [upd_ne (ne_lt hlt (Nat.le_refl _))]
      exact (hf b hb).1
  done:=by
    intro X hP hw hK hc i pins s σ H E I hf st hg
    subst hP hw hK
    obtain ⟨⟨old,he⟩,hit⟩:=st
    obtain ⟨xs,hq,hx⟩:=hg
    obtain ⟨its,rv,p,hz⟩:=I.list hq
    obtain ⟨i0,i1,i2,i3,i4,i5⟩:=hf it (by simp)
    have hl:=rv.length
    have hai:a≠it:=fun z=>by
      obtain ⟨o1,q1,q2,q3⟩:=hit
      obtain ⟨o2,q4,q5,q6⟩:=p.isList
      rw [z,q1] at q4;cases q4;rw [q2] at q5;injection q5 with q7;exact absurd q7 (by decide)
    exact enumL_endG (I.ok.hd hc) he hit p.isList hai (by simp;omega) fun h' eb=>⟨rfl,I.turned (t':=s.toks) (fun b o hb e=>eb b o hb e) i0 i1 i3 i4 i5⟩
  self:=fun _ _ _ _ _ st h=>by
    obtain ⟨⟨old,he⟩,_⟩:=st
    exact wpAny_pyIter_enum he h
theorem callWith_typeK {M:Model} {A:Around} {E:Value→Shared→Prop} {s:Shared} {pos:Pos} {T:String} {m:Sem Value} {kws:List (Option Str×Sem Value)} {Q:Value→Shared→Prop}
  (hall:kws.all (·.1.isSome)=true) (hno:kws.any (·.1.isNone)=false)
  (h:wpAny M A (spliced [(false,m)]) (fun vs s1=>wpAny M A (evalAll (kws.map (·.2))) (fun ks s2=>wpAny M A (call (.type T) vs ((kws.filterMap (·.1)).zip ks)) Q E s2) E s1) E s) :
  wpAny M A (callWith pos (.type T) [] [(false,m)] kws) Q E s:=by
  unfold callWith
  refine wpAny_bind (wpAny_holding ?_)
  unfold evalArgs
  simp only []
  refine wpAny_bind (wpAny_mono h (fun vs s1 h1=>?_) (fun e s' h=>h))
  refine wpAny_bind (wpAny_pure ?_)
  refine wpAny_holding ?_
  rw [if_pos hall]
  refine wpAny_bind (wpAny_mono h1 (fun ks s2 h2=>?_) (fun e s' h=>h))
  refine wpAny_bind (wpAny_pure ?_)
  refine wpAny_pure ?_
  refine wpAny_bind (wpAny_standAt ?_)
  refine wpAny_bind ?_
  simp only [keeperOf]
  refine wpAny_pure ?_
  have e1:([(false,m)].any fun x=>x.fst)=false:=rfl
  simp only [e1,hno,Bool.or_false]
  exact wpAny_bind (wpAny_mono h2 (fun r s3 h3=>wpAny_bind (wpAny_holding (wpAny_point (wpAny_pure h3)))) (fun e s' h=>h))
noncomputable def ienum1 (te:TD):TID:=fun ρ st P=>te ρ st fun x st1=>match x with
  | .tup xs=>P (enumD 1 xs) (fun _=>True) st1
  | .lst n=>(match st1[n]? with
    | some o=>P (enumD 1 o.items) (fun st'=>(st'[n]?).map SO.items=some o.items) st1
    | none=>False)
  | _=>False
section
variable {X:Cx} {a e2:Expr} {elts:List Expr} {x1:Nat} {tpos pos p kp:Pos} {te:TD}
theorem di_enum1 (hm:X.mg "enumerate" = none) (ha:DE X a te) (hb:DE X e2 (qK (.int 1))) (hg:Gl X "enumerate") (hs:starEach [a] X.env=[(false,eval a X.env)])
    (hall:(backToKw pos (keywordEach [⟨some "start",e2,kp⟩] X.env)).all (·.1.isSome)=true) (hks:(backToKw pos (keywordEach [⟨some "start",e2,kp⟩] X.env)).filterMap (·.1)=[Str.ofString "start"])
    (hpl:(backToKw pos (keywordEach [⟨some "start",e2,kp⟩] X.env)).any (·.1.isNone)=false) (hbk:∃ m,backTo pos [(false,eval a X.env)]=[(false,m)]) :
    DI X (.Tuple elts x1 tpos) (.Call (.Name "enumerate" p) [a] [⟨some "start",e2,kp⟩] pos) (ienum1 te):=by
  intro pins s σ H R I h
  obtain ⟨φ,st,ρ,P,pre,ht,hq⟩:=h
  refine wpAny_Call_Name_kw (ld_blt I hg hm PyProof.Rows.boot_enumerate ?_ (by decide) (by decide))
  have hA:=da_cons ha da_nil hs pos pins s σ H _ I ⟨φ,st,ρ,(fun ds st1=>match ds with
    | [x]=>(match x with
      | .tup xs=>P (enumD 1 xs) (fun _=>True) st1
      | .lst n=>(match st1[n]? with
        | some o=>P (enumD 1 o.items) (fun st'=>(st'[n]?).map SO.items=some o.items) st1
        | none=>False)
      | _=>False)
    | _=>False),pre,ht,fun ds st1 h1 φ1 H1 vs b1 dl=>(show ∃ φ1 st1 ds,Bhd X.K φ st H φ1 st1 H1∧DL X.K φ1 st1.length H1 ds vs∧(match ds with
    | [x]=>(match x with
      | .tup xs=>P (enumD 1 xs) (fun _=>True) st1
      | .lst n=>(match st1[n]? with
        | some o=>P (enumD 1 o.items) (fun st'=>(st'[n]?).map SO.items=some o.items) st1
        | none=>False)
      | _=>False)
    | _=>False) from ⟨φ1,st1,ds,b1,dl,h1⟩)⟩
  obtain ⟨mv,hbk⟩:=hbk
  rw [hs,hbk] at hA ⊢
  refine callWith_typeK hall hpl (thn hA fun us s1 ⟨vs,H1,I1,rv,φ1,st1,ds,b1,dl,h1⟩=>?_)
  refine thn (pk_cons hb pk_nil pos pins s1 σ H1 (fun zs H2=>∃ φ2,Bhd X.K φ1 st1 H1 φ2 st1 H2∧zs=[V.int 1]) I1 ⟨φ1,st1,ρ,(fun d st2=>st2=st1∧d = .int 1),pre.on b1,⟨rfl,rfl⟩,fun d st2 h2 φ2 H2 v b2 dv=>(by
    obtain ⟨rfl,rfl⟩:=h2
    exact ⟨φ2,b2,by rw [dv.int]⟩)⟩) fun ws s2 ⟨zs,H2,I2,rz,φ2,b2,ez⟩=>?_
  subst ez
  obtain ⟨w1,rfl,t1,rfl⟩:=vals1 rz
  rw [hks]
  show wpAny _ _ (call (.type "enumerate") us [(Str.ofString "start",Value.int 1 t1)]) _ _ s2
  have b12:=b1.trans b2
  have dl2:=dl.evo b2.2
  rcases ds with _ | ⟨d,_ | ⟨d2,r⟩⟩
  · exact h1.elim
  rotate_left
  · exact h1.elim
  · obtain ⟨v,rfl,dv⟩:=dl2.one
    obtain ⟨u,rfl,ru⟩:=vals1 rv
    cases d with
    | tup xs =>
      have h1:P (enumD 1 xs) (fun _=>True) st1:=h1
      obtain ⟨a,ws,ev,hs1,dws⟩:=dv.tup
      subst ev
      cases ru
      obtain ⟨its,rvs,pl,hz⟩:=I2.tuple hs1
      refine HT.call_enumT1 pl fun h' he hit hsz hk=>?_
      refine wpAny_pyIter_enum (s:={ s2 with heap:=h' }) he ?_
      have I3:Inv X pins σ H2 { s2 with heap:=h' }:=I2.kept (t':=s2.toks) hk
      have hei:s2.heap.objs.size + 1≠s2.heap.objs.size:=by omega
      refine ⟨s2.heap.objs.size + 1,[s2.heap.objs.size + 1,s2.heap.objs.size],_,_,H2,rfl,I3,turn_enumT1 a _ _ hei,⟨⟨_,he⟩,hit⟩,fun b hb=>?_,hq _ _ st1 h1 φ2 H2 _ b12 ?_⟩
      · have hle:s2.heap.objs.size≤b:=by
          rcases List.mem_cons.mp hb with e | hb
          · rw [e];exact Nat.le_succ _
          · have e:b=s2.heap.objs.size:=by simpa using hb
            rw [e];exact Nat.le_refl _
        exact I2.fpOk hle (I2.hok.fresh hle)
      · intro i φ' st' H' bh hok hi
        obtain ⟨a',zs,e2,hs',dl'⟩:=(dv.evo bh.2).tup
        cases e2
        have hlen:=dl'.length
        rw [enum_len] at hi
        refine ⟨fun e=>⟨zs,hs',by rw [enum_len] at e;omega⟩,fun d ed=>?_⟩
        obtain ⟨d',ed',rfl⟩:=enum_get ed
        obtain ⟨y,ey,dy⟩:=dl'.get ed'
        refine ⟨⟨zs,y,hs',ey⟩,fun y' H2 hy=>?_⟩
        obtain ⟨q,v,hq1,rfl,rfl,hv⟩:=hy
        have:=hv zs hs'
        rw [ey] at this
        cases this
        refine ⟨bhd_tup bh.1 hq1,.mkTup (SqT.of upd_same) (.cons ?_ (.cons (dy.evo (evo_new hq1)) .nil))⟩
        rw [Nat.add_comm 1 i]
        exact D.mkInt
    | lst n =>
      have h1:(match st1[n]? with
        | some o=>P (enumD 1 o.items) (fun st'=>(st'[n]?).map SO.items=some o.items) st1
        | none=>False):=h1
      split at h1
      · rename_i o eo
        obtain ⟨ws,hs1,dws⟩:=b12.1.seq eo dv.isL
        have ev:=dv.lst.2
        subst ev
        cases ru
        obtain ⟨its,rvs,pl,hz⟩:=I2.list hs1
        refine HT.call_enumL1 pl.isList fun h' he hit hsz hk=>?_
        refine wpAny_pyIter_enum (s:={ s2 with heap:=h' }) he ?_
        have I3:Inv X pins σ H2 { s2 with heap:=h' }:=I2.kept (t':=s2.toks) hk
        have hei:s2.heap.objs.size + 1≠s2.heap.objs.size:=by omega
        refine ⟨s2.heap.objs.size + 1,[s2.heap.objs.size + 1,s2.heap.objs.size],_,_,H2,rfl,I3,turn_enumL1 (φ2 n) _ _ hei,⟨⟨_,he⟩,hit⟩,fun b hb=>?_,hq _ _ st1 h1 φ2 H2 _ b12 ?_⟩
        · have hle:s2.heap.objs.size≤b:=by
            rcases List.mem_cons.mp hb with e | hb
            · rw [e];exact Nat.le_succ _
            · have e:b=s2.heap.objs.size:=by simpa using hb
              rw [e];exact Nat.le_refl _
          exact I2.fpOk hle (I2.hok.fresh hle)
        · intro i φ' st' H' bh hok hi
          have hok':(st'[n]?).map SO.items=some o.items:=hok
          obtain ⟨a',zs,e2,hs',dl'⟩:=seq_of (y:=.lst n) (xs:=o.items) bh.1 (dv.evo bh.2) hok'
          cases e2
          have hsl:SqL X.K H' (φ2 n) zs:=by
            rcases hs' with z | ⟨_,z⟩
            · exact z.1
            · cases z
          have hlen:=dl'.length
          rw [enum_len] at hi
          refine ⟨fun e=>⟨zs,hsl,by rw [enum_len] at e;omega⟩,fun d ed=>?_⟩
          obtain ⟨d',ed',rfl⟩:=enum_get ed
          obtain ⟨y,ey,dy⟩:=dl'.get ed'
          refine ⟨⟨zs,y,hsl,ey⟩,fun y' H2 hy=>?_⟩
          obtain ⟨q,v,hq1,rfl,rfl,hv⟩:=hy
          have:=hv zs hsl
          rw [ey] at this
          cases this
          refine ⟨bhd_tup bh.1 hq1,.mkTup (SqT.of upd_same) (.cons ?_ (.cons (dy.evo (evo_new hq1)) .nil))⟩
          rw [Nat.add_comm 1 i]
          exact D.mkInt
      · exact h1.elim
    | _=>exact h1.elim
end
end L3
namespace L3
open PySem PySem.Spec PyProof.Rows L2
noncomputable def compD2 (items:List Dt) (ok:Sto→Prop) (tc:TBD) (te:TD) (cρ:Rho) (st:Sto) (Fin:List Dt→Sto→Prop):Prop:=∃ Inv:Nat→List Dt→Sto→Prop,Inv 0 [] st∧(∀ i ys st',i≤items.length→Inv i ys st'→ok st') ∧
  (∀ (i:Nat) d ys st',items[i]? = some d→Inv i ys st'→ys.length < sizeLine∧∃ a b,d = .tup [a,b]∧tc (some a :: some b :: cρ) st' fun k st1=>if k=true then te (some a :: some b :: cρ) st1 fun y st2=>Inv (i + 1) (ys ++ [y]) st2 else Inv (i + 1) ys st1) ∧
  ∀ ys st',Inv items.length ys st'→Fin ys st'
noncomputable def g2:TGD:=gunpack 2 (gscons (qG 0) (gscons (qG 1) gsnil))
theorem dr_weak2 {K:PySem.W.Frag} {φ:Nat→Addr} {N:Nat} {H:Hp} {ρ:Rho} {σ:L2.St} {a b:Option Dt} (h:DR K φ N H (a :: b :: ρ) σ):DR K φ N H (none :: none :: ρ) σ:=by
  refine ⟨h.1,fun i d q=>?_⟩
  rcases i with _ | _ | i
  · cases q
  · cases q
  · exact h.2 (i + 2) d q
theorem comp_gen2 {K:PySem.W.Frag} {φ1:Nat→Addr} {st1:Sto} {H1:Hp} {cρ:Rho} {σ0:L2.St} {J:It} {items:List Dt} {ok:Sto→Prop} {tc:TBD} {te:TD} {Fin:List Dt→Sto→Prop} {Fin':List V→Hp→Prop}
    (R:Rep K φ1 st1 H1) (dr:DR K φ1 st1.length H1 (none :: none :: cρ) σ0) (hJ:Yields K φ1 st1 H1 J items ok) (hc:compD2 items ok tc te cρ st1 Fin)
    (hF:∀ ys st' φ' H' vs,Fin ys st'→Bhd K φ1 st1 H1 φ' st' H'→DL K φ' st'.length H' ys vs→Fin' vs H') :
    compW J (liftG K g2) (liftT K tc) (liftE K te) σ0 H1 Fin':=by
  obtain ⟨Inv,h0,hok,step,fin⟩:=hc
  refine ⟨fun i m σ vs H=>m=items.length - i∧i≤items.length∧∃ φ' st' ys,Bhd K φ1 st1 H1 φ' st' H∧DL K φ' st'.length H ys vs∧DR K φ' st'.length H (none :: none :: cρ) σ∧Inv i ys st',
    ⟨items.length,by simp,Nat.zero_le _,φ1,st1,[],.refl R,.nil,dr,h0⟩,?_⟩
  rintro i m σ vs H ⟨rfl,hi,φ',st',ys,bh,dl,drs,hI⟩
  obtain ⟨js,jg⟩:=hJ i φ' st' H bh (hok i ys st' hi hI) hi
  by_cases hlt:i < items.length
  · have ed:items[i]? = some items[i]:=by simp [hlt]
    obtain ⟨go,yl⟩:=jg _ ed
    obtain ⟨hz,a,b,ed2,hstep⟩:=step i _ ys st' ed hI
    refine .inr ⟨go,by rw [← dl.length];exact hz,fun y H2 hy=>?_⟩
    obtain ⟨b2,dy⟩:=yl y H2 hy
    have b12:=bh.trans b2
    refine ⟨φ',st',none :: none :: cρ,_,(fun ρ2 st2=>ρ2=some a :: some b :: cρ∧st2=st'),⟨b2.1,drs.evo b2.2⟩,dy,?_,fun ρ2 st2 hp φ3 H3 σ2 b3 dr3=>?_⟩
    · rw [ed2];exact ⟨rfl,rfl,rfl⟩
    obtain ⟨rfl,rfl⟩:=hp
    refine ⟨φ3,st2,_,_,⟨b3.1,dr3⟩,hstep,fun k st3 h3 φ4 H4 b4=>?_⟩
    cases k with
    | false =>
      rw [if_neg Bool.false_ne_true] at h3 ⊢
      exact ⟨items.length - (i + 1),by omega,rfl,hlt,φ4,st3,ys,b12.trans (b3.trans b4),dl.evo (b2.2.trans (b3.2.trans b4.2)),(dr_weak2 dr3).evo b4.2,h3⟩
    | true =>
      rw [if_pos rfl] at h3 ⊢
      refine ⟨φ4,st3,_,_,⟨b4.1,dr3.evo b4.2⟩,h3,fun z st4 h4 φ5 H5 w b5 dz=>?_⟩
      exact ⟨items.length - (i + 1),by omega,rfl,hlt,φ5,st4,ys ++ [z],b12.trans (b3.trans (b4.trans b5)),(dl.evo (b2.2.trans (b3.2.trans (b4.2.trans b5.2)))).append (.cons dz .nil),(dr_weak2 dr3).evo (b4.2.trans b5.2),h4⟩
  · have e:i=items.length:=by omega
    subst e
    exact .inl ⟨js rfl,hF ys st' φ' H vs (fin ys st' hI) bh dl⟩
noncomputable def tcomp2 (ti:TID) (tc:TBD) (te:TD) (caps:List (Nat×Str)):TD:=fun ρ st P=>ti ρ st fun items ok st1=>compD2 items ok tc te (capρ caps ρ) st1 fun ys st2=>P (.lst st2.length) (st2 ++ [.rw ys])
section
variable {X:Cx} {pos:Pos} {ti:TID} {iter:Expr}
theorem comp_lift2 {K:PySem.W.Frag} {tc:TBD} {te:TD} {caps:List (Nat×Str)} {σ:L2.St} {H:Hp} {Q:VK} (h:liftE K (tcomp2 ti tc te caps) σ H Q):tComp (liftI K ti) (liftG K g2) (liftT K tc) (liftE K te) 2 caps σ H Q:=by
  obtain ⟨φ,st,ρ,P,pre,ht,hq⟩:=h
  refine ⟨φ,st,ρ,_,pre,ht,fun items ok st1 h1 φ1 H1 J b1 hJ=>?_⟩
  refine comp_gen2 b1.1 ?_ hJ h1 fun ys st2 φ2 H2 vs hF b2 dl p hp=>?_
  · have hd:=cap_DR (pre.on b1).2 caps
    refine ⟨by simp [hd.1,List.replicate],fun i d q=>?_⟩
    rcases i with _ | _ | i
    · cases q
    · cases q
    · exact hd.2 i d q
  · exact hq _ _ hF _ _ _ (b1.trans (b2.trans (bhd_lst b2.1 hp dl))) d_new
variable {elt:Expr} {ifs:List Expr} {sc:Scope} {x y:Str} {px py tp:Pos} {kt:Nat} {tc:TBD} {te:TD}
theorem de_comp2 (caps:List (Nat×Str)) (hc:X.calm=true) (S:CompScope X.env.scope X.N caps sc) (hx:sc.names.lookup x=some .local) (hy:sc.names.lookup y=some .local) (hnd:([x,y] ++ caps.map (·.2)).Nodup) (hi:DI X (.Tuple [.Name x px,.Name y py] kt tp) iter ti)
    (hif:∀ C s H fp,DIf (cxComp X [x,y] caps sc C s H fp) ifs tc) (he:∀ C s H fp,DE (cxComp X [x,y] caps sc C s H fp) elt te)
    (hs:∀ x,foldedSetIterable iter X.env x=pure x:=by intro _;rfl):DE X (.ListComp elt [⟨.Tuple [.Name x px,.Name y py] kt tp,iter,ifs,0⟩] sc pos) (tcomp2 ti tc te caps) :=
  PE.imp (pe_comp (g:=liftG X.K g2) (tc:=liftT X.K tc) (te:=liftE X.K te) [x,y] caps hc S hi (fun C s H fp=>dg_unpack (X:=cxComp X [x,y] caps sc C s H fp) 2 hc (dgs_cons (dg_name 0 hnd rfl (.inl (lookup_relabel_local hx)) (.inr (lookup_relabel_local hx))) (dgs_cons (dg_name 1 hnd rfl (.inl (lookup_relabel_local hy)) (.inr (lookup_relabel_local hy))) dgs_nil rfl) rfl) rfl) hif he hs) fun σ H Q h=>comp_lift2 h
end
end L3
namespace HT
open PySem PySem.Spec PyProof.Rows
section
variable {prog:Program} {w:World} {A:Around} {E:Value→Shared→Prop} {s:Shared}
structure ZApart (z TI TO i1 i2:Addr) (fp1 fp2:List Addr):Prop where
  TIz:TI≠z
  TOz:TO≠z
  i1z:i1≠z
  i2z:i2≠z
  TITO:TI≠TO
  TIi1:TI≠i1
  TIi2:TI≠i2
  TOi1:TO≠i1
  TOi2:TO≠i2
  i12:i1≠i2
  z1:z ∉ fp1
  z2:z ∉ fp2
  o1:TO ∉ fp1
  o2:TO ∉ fp2
  a2:i1 ∉ fp2
  b1:i2 ∉ fp1
theorem zip_nextD {z TI TO i1 i2:Addr} {fp1 fp2:List Addr} {n1 n2 k1 k2:Nat} {P1 P2:Nat→Value→Prop} {St1 St2:Nat→Heap→Prop} {a b:Value} {Q:Fin→Shared→Prop}
    (ap:ZApart z TI TO i1 i2 fp1 fp2) (D1:Draws prog w A i1 fp1 n1 P1 St1) (D2:Draws prog w A i2 fp2 n2 P2 St2) (hz:IsZip s.heap z TI TO .none) (hI:IsPair s.heap TI (.ref i1) (.ref i2)) (hO:IsPair s.heap TO a b) (h1:St1 k1 s.heap) (h2:St2 k2 s.heap) (l1:k1 < n1) (l2:k2 < n2)
    (hQ:∀ x y h' tk,P1 k1 x→P2 k2 y→IsZip h' z TI TO (rawInt s.heap.objs.size)→IsPair h' TI (.ref i1) (.ref i2)→IsPair h' TO x y→St1 (k1 + 1) h'→St2 (k2 + 1) h'→IsPair h' s.heap.objs.size x y→h'.objs.size=s.heap.objs.size + 1→(∀ c o,c≠z→c≠TO→c≠i1→c≠i2→s.heap.get? c=some o→h'.get? c=some o)→Q (.done (.ret (.ref s.heap.objs.size))) { s with heap:=h',toks:=tk }) :
    wpAny (model prog w) A (Builtin.«zip.__next__» { pos:=[.ref z] }) Q E s:=by
  unfold Builtin.«zip.__next__»
  show wpAny _ _ (field (.ref z) 2 >>= _) _ _ s
  refine wpAny_bind (wpAny_field hz rfl (x:=.bool false) rfl ?_)
  show wpAny _ _ (field (.ref z) 3 >>= _) _ _ s
  refine wpAny_bind (wpAny_field hz rfl (x:=.ref TI) rfl ?_)
  refine wpAny_bind (wpAny_seqItems hI rfl ?_)
  show wpAny _ _ (Builtin.SmallTypes.ownedTupleIsFree (.ref z) >>= _) _ _ s
  unfold Builtin.SmallTypes.ownedTupleIsFree
  refine wpAny_bind (wpAny_bind (wpAny_field hz rfl (x:=.none) rfl (wpAny_pure ?_)))
  refine wpAny_bind (wpAny_rule ?_)
  refine wpAny_bind (wpAny_field hz rfl (x:=.ref TO) rfl ?_)
  refine wpAny_bind (wpAny_setField hz rfl (by simp) ?_)
  have hza:=Heap.get?_update_self (h:=s.heap) (Obj.mapFields fun x_1=>x_1.setIfInBounds 0 Value.ellipsis) hz (Obj.isFreed_of_fields (Obj.data_mapFields rfl _))
  have hua:∀ c,c≠z→(s.heap.update z (Obj.mapFields fun x_1=>x_1.setIfInBounds 0 Value.ellipsis)).get? c=s.heap.get? c:=fun c hc=>Heap.get?_update_ne _ _ _ _ hc
  have hsa:(s.heap.update z (Obj.mapFields fun x_1=>x_1.setIfInBounds 0 Value.ellipsis)).objs.size=s.heap.objs.size:=(Heap.SameBut.update ..).1
  generalize s.heap.update z (Obj.mapFields fun x_1=>x_1.setIfInBounds 0 Value.ellipsis)=ha at hza hua hsa
  have h1a:St1 k1 ha:=D1.frame _ _ _ h1 fun c hc o q=>(hua c (fun e=>ap.z1 (e ▸ hc))).trans q
  have h2a:St2 k2 ha:=D2.frame _ _ _ h2 fun c hc o q=>(hua c (fun e=>ap.z2 (e ▸ hc))).trans q
  have hIa:IsPair ha TI (.ref i1) (.ref i2):=(hua TI ap.TIz).trans hI
  have hOa:IsPair ha TO a b:=(hua TO ap.TOz).trans hO
  show wpAny _ _ (forIn [(Value.ref i1,0),(Value.ref i2,1)] (none,()) _ >>= _) _ _ _
  rw [List.forIn_cons]
  refine wpAny_bind (wpAny_bind ?_)
  refine wpAny_bind (wpAny_onRaise ?_)
  show wpAny _ _ (Builtin.SmallTypes.nextOf (.ref i1) >>= fun v=>pure (some v)) _ _ _
  refine wpAny_bind (D1.item k1 _ _ _ l1 h1a fun x hb tk1 hx st1 sb1=>wpAny_pure ?_)
  have hOb:IsPair hb TO a b:=(sb1.2 TO ap.TOi1).trans hOa
  refine wpAny_bind (wpAny_seqItems hOb rfl ?_)
  refine wpAny_bind (wpAny_updateSeq_pair hOb fun hc hOc sbc=>?_)
  refine wpAny_bind (wpAny_letGo ?_)
  refine wpAny_pure ?_
  have hOc:IsPair hc TO x b:=hOc
  have h1c:St1 (k1 + 1) hc:=D1.frame _ _ _ st1 fun c hcm o q=>(sbc.2 c (fun e=>ap.o1 (e ▸ hcm))).trans q
  have h2c:St2 k2 hc:=D2.frame _ _ _ h2a fun c hcm o q=>(sbc.2 c (fun e=>ap.o2 (e ▸ hcm))).trans ((sb1.2 c (fun e=>ap.a2 (e ▸ hcm))).trans q)
  show wpAny _ _ (forIn [(Value.ref i2,1)] (none,()) _) _ _ _
  rw [List.forIn_cons]
  refine wpAny_bind ?_
  refine wpAny_bind (wpAny_onRaise ?_)
  show wpAny _ _ (Builtin.SmallTypes.nextOf (.ref i2) >>= fun v=>pure (some v)) _ _ _
  refine wpAny_bind (D2.item k2 _ _ _ l2 h2c fun y hd tk2 hy st2 sb2=>wpAny_pure ?_)
  have hOd:IsPair hd TO x b:=(sb2.2 TO ap.TOi2).trans hOc
  refine wpAny_bind (wpAny_seqItems hOd rfl ?_)
  refine wpAny_bind (wpAny_updateSeq_pair hOd fun he hOe sbe=>?_)
  refine wpAny_bind (wpAny_letGo ?_)
  refine wpAny_pure ?_
  have hOe:IsPair he TO x y:=hOe
  show wpAny _ _ (forIn ([]:List (Value×Nat)) (none,()) _) _ _ _
  rw [List.forIn_nil]
  refine wpAny_pure ?_
  refine wpAny_bind (wpAny_seqItems hOe rfl ?_)
  refine wpAny_bind (wpAny_newTuple ?_ (by show 2≤sizeLine;rw [sizeLine_eq];decide))
  have all:∀ c,c≠z→c≠TO→c≠i1→c≠i2→he.get? c=s.heap.get? c:=fun c q1 q2 q3 q4=>(sbe.2 c q2).trans ((sb2.2 c q4).trans ((sbc.2 c q2).trans ((sb1.2 c q3).trans (hua c q1))))
  have hse:he.objs.size=s.heap.objs.size:=by rw [sbe.1,sb2.1,sbc.1,sb1.1];exact hsa
  have hze:he.get? z=some { cls:=.type "zip",data:=.fields #[.ellipsis,.bool false,.bool false,.ref TI,.ref TO] }:=(sbe.2 z ap.TOz.symm).trans ((sb2.2 z ap.i2z.symm).trans ((sbc.2 z ap.TOz.symm).trans ((sb1.2 z ap.i1z.symm).trans hza)))
  have hIe:IsPair he TI (.ref i1) (.ref i2):=(sbe.2 TI ap.TITO).trans ((sb2.2 TI ap.TIi2).trans ((sbc.2 TI ap.TITO).trans ((sb1.2 TI ap.TIi1).trans hIa)))
  have h1e:St1 (k1 + 1) he:=D1.frame _ _ _ h1c fun c hcm o q=>(sbe.2 c (fun e=>ap.o1 (e ▸ hcm))).trans ((sb2.2 c (fun e=>ap.b1 (e ▸ hcm))).trans q)
  have h2e:St2 (k2 + 1) he:=D2.frame _ _ _ st2 fun c hcm o q=>(sbe.2 c (fun e=>ap.o2 (e ▸ hcm))).trans q
  have hnew:=Heap.get?_push_size he (o:={ cls:=.type "tuple",data:=.seq #[x,y] }) rfl
  have hpush:∀ c o,he.get? c=some o→(he.push { cls:=.type "tuple",data:=.seq #[x,y] }).get? c=some o:=fun c o q=>Heap.get?_push_of_some _ q
  have hsf:(he.push { cls:=.type "tuple",data:=.seq #[x,y] }).objs.size=s.heap.objs.size + 1:=by rw [Heap.size_push,hse]
  rw [hse] at hnew
  show wpAny _ _ (Builtin.SmallTypes.ownedTupleHandOut (.ref z) (.ref he.objs.size) >>= _) _ _ { s with heap:=he.push { cls:=.type "tuple",data:=.seq #[x,y] },toks:=tk2 }
  rw [hse]
  generalize he.push { cls:=.type "tuple",data:=.seq #[x,y] }=hf at hnew hpush hsf
  have hzf:=hpush _ _ hze
  have zlt:z≠s.heap.objs.size:=Nat.ne_of_lt (Heap.lt_size hz)
  unfold Builtin.SmallTypes.ownedTupleHandOut
  refine wpAny_bind (wpAny_bind (wpAny_setField hzf rfl (by simp) ?_))
  have hzg:=Heap.get?_update_self (h:=hf) (Obj.mapFields fun x_1=>x_1.setIfInBounds 0 (rawInt (s.heap.objs.size:Int))) hzf (Obj.isFreed_of_fields (Obj.data_mapFields rfl _))
  have hug:∀ c,c≠z→(hf.update z (Obj.mapFields fun x_1=>x_1.setIfInBounds 0 (rawInt (s.heap.objs.size:Int)))).get? c=hf.get? c:=fun c hc=>Heap.get?_update_ne _ _ _ _ hc
  have hsg:(hf.update z (Obj.mapFields fun x_1=>x_1.setIfInBounds 0 (rawInt (s.heap.objs.size:Int)))).objs.size=hf.objs.size:=(Heap.SameBut.update ..).1
  generalize hf.update z (Obj.mapFields fun x_1=>x_1.setIfInBounds 0 (rawInt (s.heap.objs.size:Int)))=hg at hzg hug hsg
  refine wpAny_setField hzg rfl (by simp [Obj.mapFields]) ?_
  have hzh:=Heap.get?_update_self (h:=hg) (Obj.mapFields fun x_1=>x_1.setIfInBounds 1 (Value.bool false)) hzg (Obj.isFreed_of_fields (Obj.data_mapFields rfl _))
  have huh:∀ c,c≠z→(hg.update z (Obj.mapFields fun x_1=>x_1.setIfInBounds 1 (Value.bool false))).get? c=hg.get? c:=fun c hc=>Heap.get?_update_ne _ _ _ _ hc
  have hsh:(hg.update z (Obj.mapFields fun x_1=>x_1.setIfInBounds 1 (Value.bool false))).objs.size=hg.objs.size:=(Heap.SameBut.update ..).1
  generalize hg.update z (Obj.mapFields fun x_1=>x_1.setIfInBounds 1 (Value.bool false))=hh at hzh huh hsh
  have fro:∀ c o,c≠z→he.get? c=some o→hh.get? c=some o:=fun c o q1 q=>(huh c q1).trans ((hug c q1).trans (hpush c o q))
  refine wpAny_pure (hQ x y hh tk2 hx hy hzh (fro _ _ ap.TIz hIe) (fro _ _ ap.TOz hOe) (D1.frame _ _ _ h1e fun c hcm o q=>fro c o (fun e=>ap.z1 (e ▸ hcm)) q) (D2.frame _ _ _ h2e fun c hcm o q=>fro c o (fun e=>ap.z2 (e ▸ hcm)) q) ?_ ?_ fun c o q1 q2 q3 q4 q=>fro c o q1 ((all c q1 q2 q3 q4).trans q))
  · exact (huh _ zlt.symm).trans ((hug _ zlt.symm).trans hnew)
  · rw [hsh,hsg,hsf]
theorem zip_endD {z TI TO i1 i2:Addr} {fp1 fp2:List Addr} {n1 n2 k1 k2:Nat} {P1 P2:Nat→Value→Prop} {St1 St2:Nat→Heap→Prop} {a b:Value} {Q:Fin→Shared→Prop}
    (ap:ZApart z TI TO i1 i2 fp1 fp2) (D1:Draws prog w A i1 fp1 n1 P1 St1) (D2:Draws prog w A i2 fp2 n2 P2 St2) (hz:IsZip s.heap z TI TO .none) (hI:IsPair s.heap TI (.ref i1) (.ref i2)) (hO:IsPair s.heap TO a b) (h1:St1 k1 s.heap) (h2:St2 k2 s.heap) (hl:k1=n1∨k1 < n1∧k2=n2)
    (hE:∀ h' tk e,(∃ o,h'.get? e=some o∧o.cls = .type "StopIteration")→(∀ c o,c≠z→c≠TO→c≠i1→c≠i2→s.heap.get? c=some o→h'.get? c=some o)→E (.ref e) { s with heap:=h',toks:=tk }) :
    wpAny (model prog w) A (Builtin.«zip.__next__» { pos:=[.ref z] }) Q E s:=by
  unfold Builtin.«zip.__next__»
  show wpAny _ _ (field (.ref z) 2 >>= _) _ _ s
  refine wpAny_bind (wpAny_field hz rfl (x:=.bool false) rfl ?_)
  show wpAny _ _ (field (.ref z) 3 >>= _) _ _ s
  refine wpAny_bind (wpAny_field hz rfl (x:=.ref TI) rfl ?_)
  refine wpAny_bind (wpAny_seqItems hI rfl ?_)
  show wpAny _ _ (Builtin.SmallTypes.ownedTupleIsFree (.ref z) >>= _) _ _ s
  unfold Builtin.SmallTypes.ownedTupleIsFree
  refine wpAny_bind (wpAny_bind (wpAny_field hz rfl (x:=.none) rfl (wpAny_pure ?_)))
  refine wpAny_bind (wpAny_rule ?_)
  refine wpAny_bind (wpAny_field hz rfl (x:=.ref TO) rfl ?_)
  refine wpAny_bind (wpAny_setField hz rfl (by simp) ?_)
  have hza:=Heap.get?_update_self (h:=s.heap) (Obj.mapFields fun x_1=>x_1.setIfInBounds 0 Value.ellipsis) hz (Obj.isFreed_of_fields (Obj.data_mapFields rfl _))
  have hua:∀ c,c≠z→(s.heap.update z (Obj.mapFields fun x_1=>x_1.setIfInBounds 0 Value.ellipsis)).get? c=s.heap.get? c:=fun c hc=>Heap.get?_update_ne _ _ _ _ hc
  generalize s.heap.update z (Obj.mapFields fun x_1=>x_1.setIfInBounds 0 Value.ellipsis)=ha at hza hua
  have h1a:St1 k1 ha:=D1.frame _ _ _ h1 fun c hc o q=>(hua c (fun e=>ap.z1 (e ▸ hc))).trans q
  have h2a:St2 k2 ha:=D2.frame _ _ _ h2 fun c hc o q=>(hua c (fun e=>ap.z2 (e ▸ hc))).trans q
  have hOa:IsPair ha TO a b:=(hua TO ap.TOz).trans hO
  show wpAny _ _ (forIn [(Value.ref i1,0),(Value.ref i2,1)] (none,()) _ >>= _) _ _ _
  rw [List.forIn_cons]
  refine wpAny_bind (wpAny_bind ?_)
  refine wpAny_bind (wpAny_onRaise ?_)
  show wpAny _ _ (Builtin.SmallTypes.nextOf (.ref i1) >>= fun v=>pure (some v)) _ _ _
  rcases hl with rfl | ⟨l1,rfl⟩
  · refine wpAny_bind (D1.done _ _ _ h1a fun hb e xb ⟨oe,he,ce⟩=>?_)
    have hzb:=xb z _ ap.i1z.symm hza
    refine wpAny_setField hzb rfl (by simp [Obj.mapFields]) ?_
    have huc:∀ c,c≠z→(hb.update z (Obj.mapFields fun x_1=>x_1.setIfInBounds 0 Value.none)).get? c=hb.get? c:=fun c hc=>Heap.get?_update_ne _ _ _ _ hc
    have hez:e≠z:=fun q=>by
      subst q
      rw [hzb] at he;cases he;injection ce with q;exact absurd q (by decide)
    exact hE _ _ e ⟨oe,(huc e hez).trans he,ce⟩ fun c o q1 q2 q3 q4 q=>(huc c q1).trans (xb c o q3 ((hua c q1).trans q))
  · refine wpAny_bind (D1.item k1 _ _ _ l1 h1a fun x hb tk1 hx st1 sb1=>wpAny_pure ?_)
    have hOb:IsPair hb TO a b:=(sb1.2 TO ap.TOi1).trans hOa
    refine wpAny_bind (wpAny_seqItems hOb rfl ?_)
    refine wpAny_bind (wpAny_updateSeq_pair hOb fun hc hOc sbc=>?_)
    refine wpAny_bind (wpAny_letGo ?_)
    refine wpAny_pure ?_
    have h2c:St2 k2 hc:=D2.frame _ _ _ h2a fun c hcm o q=>(sbc.2 c (fun e=>ap.o2 (e ▸ hcm))).trans ((sb1.2 c (fun e=>ap.a2 (e ▸ hcm))).trans q)
    show wpAny _ _ (forIn [(Value.ref i2,1)] (none,()) _) _ _ _
    rw [List.forIn_cons]
    refine wpAny_bind ?_
    refine wpAny_bind (wpAny_onRaise ?_)
    show wpAny _ _ (Builtin.SmallTypes.nextOf (.ref i2) >>= fun v=>pure (some v)) _ _ _
    refine wpAny_bind (D2.done _ _ _ h2c fun hd e xd ⟨oe,he,ce⟩=>?_)
    have hzc:=(sbc.2 z ap.TOz.symm).trans ((sb1.2 z ap.i1z.symm).trans hza)
    have hzd:=xd z _ ap.i2z.symm hzc
    refine wpAny_setField hzd rfl (by simp [Obj.mapFields]) ?_
    have hue:∀ c,c≠z→(hd.update z (Obj.mapFields fun x_1=>x_1.setIfInBounds 0 Value.none)).get? c=hd.get? c:=fun c hc=>Heap.get?_update_ne _ _ _ _ hc
    have hez:e≠z:=fun q=>by
      subst q
      rw [hzd] at he;cases he;injection ce with q;exact absurd q (by decide)
    exact hE _ _ e ⟨oe,(hue e hez).trans he,ce⟩ fun c o q1 q2 q3 q4 q=>(hue c q1).trans (xd c o q4 ((sbc.2 c q2).trans ((sb1.2 c q3).trans ((hua c q1).trans q))))
theorem pyNext_zipD {z TI TO i1 i2:Addr} {fp1 fp2:List Addr} {n1 n2 k1 k2:Nat} {P1 P2:Nat→Value→Prop} {St1 St2:Nat→Heap→Prop} {a b:Value} {Q:Option Value→Shared→Prop}
    (ap:ZApart z TI TO i1 i2 fp1 fp2) (D1:Draws prog w A.in1 i1 fp1 n1 P1 St1) (D2:Draws prog w A.in1 i2 fp2 n2 P2 St2) (hz:IsZip s.heap z TI TO .none) (hI:IsPair s.heap TI (.ref i1) (.ref i2)) (hO:IsPair s.heap TO a b) (h1:St1 k1 s.heap) (h2:St2 k2 s.heap) (l1:k1 < n1) (l2:k2 < n2)
    (hQ:∀ x y h' tk,P1 k1 x→P2 k2 y→IsZip h' z TI TO (rawInt s.heap.objs.size)→IsPair h' TI (.ref i1) (.ref i2)→IsPair h' TO x y→St1 (k1 + 1) h'→St2 (k2 + 1) h'→IsPair h' s.heap.objs.size x y→h'.objs.size=s.heap.objs.size + 1→(∀ c o,c≠z→c≠TO→c≠i1→c≠i2→s.heap.get? c=some o→h'.get? c=some o)→Q (some (.ref s.heap.objs.size)) { s with heap:=h',toks:=tk }) :
    wpAny (model prog w) A (pyNext (.ref z)) Q E s:=by
  have hT:s.TypeIs (.ref z) "zip":=⟨_,hz,rfl⟩
  unfold pyNext
  refine wpAny_bind (wpAny_attempt (wpAny_callSpecial?_slot (name:=Str.ofString "__next__") hT F.slot_zip_next (wpAny_call_entry F.slot_zip_next hT F.entry_zip_next ?_ (F.args_zip_next_1 _))))
  refine zip_nextD ap D1 D2 hz hI hO h1 h2 l1 l2 fun x y h' tk q1 q2 q3 q4 q5 q6 q7 q8 q9 q10=>?_
  exact ⟨_,rfl,wpAny_pure (hQ x y h' tk q1 q2 q3 q4 q5 q6 q7 q8 q9 q10)⟩
theorem pyNext_zip_endD {z TI TO i1 i2:Addr} {fp1 fp2:List Addr} {n1 n2 k1 k2:Nat} {P1 P2:Nat→Value→Prop} {St1 St2:Nat→Heap→Prop} {a b:Value} {Q:Option Value→Shared→Prop}
    (ap:ZApart z TI TO i1 i2 fp1 fp2) (D1:Draws prog w A.in1 i1 fp1 n1 P1 St1) (D2:Draws prog w A.in1 i2 fp2 n2 P2 St2) (hz:IsZip s.heap z TI TO .none) (hI:IsPair s.heap TI (.ref i1) (.ref i2)) (hO:IsPair s.heap TO a b) (h1:St1 k1 s.heap) (h2:St2 k2 s.heap) (hl:k1=n1∨k1 < n1∧k2=n2)
    (hQ:∀ h' tk,(∀ c o,c≠z→c≠TO→c≠i1→c≠i2→s.heap.get? c=some o→h'.get? c=some o)→Q none { s with heap:=h',toks:=tk }) :
    wpAny (model prog w) A (pyNext (.ref z)) Q E s:=by
  have hT:s.TypeIs (.ref z) "zip":=⟨_,hz,rfl⟩
  unfold pyNext
  refine wpAny_bind (wpAny_attempt (wpAny_callSpecial?_slot (name:=Str.ofString "__next__") hT F.slot_zip_next (wpAny_call_entry F.slot_zip_next hT F.entry_zip_next ?_ (F.args_zip_next_1 _))))
  refine zip_endD ap D1 D2 hz hI hO h1 h2 hl fun h' tk e ⟨o,ho,hc⟩ hk=>?_
  exact wpAny_bind (wpAny_isInstance (T:= "StopIteration") (b:=true) ⟨o,ho,hc⟩ isSubtype_stop (wpAny_pure (hQ _ _ hk)))
end
end HT
namespace HT
open PySem PySem.Spec PyProof.Rows
noncomputable def IterTo (prog:Program) (w:World) (u:Value) (o:Obj) (ok:Heap→Prop):Prop :=
  ∀ (A:Around) (s:Shared) (Q:Value→Shared→Prop) (E:Value→Shared→Prop),ok s.heap→Q (.ref s.heap.objs.size) { s with heap:=s.heap.push o }→wpAny (model prog w) A (pyIter u) Q E s
theorem zip_newD {prog:Program} {w:World} {u1 u2:Value} {o1 o2:Obj} {ok1 ok2:Heap→Prop} (h1:IterTo prog w u1 o1 ok1) (h2:IterTo prog w u2 o2 ok2) :
    MeetsIn prog w (Builtin.«zip.__new__» ⟨[.type "zip",u1,u2],[]⟩) (fun _ R s=>ok1 s.heap∧ok2 (s.heap.push o1) ∧
      R (.ok (.ret (.ref ((((s.heap.push o1).push o2).push { cls:=.type "tuple",data:=.seq #[.ref s.heap.objs.size,.ref (s.heap.push o1).objs.size] }).push { cls:=.type "tuple",data:=.seq #[.none,.none] }).objs.size)))
        { s with heap:=((((s.heap.push o1).push o2).push { cls:=.type "tuple",data:=.seq #[.ref s.heap.objs.size,.ref (s.heap.push o1).objs.size] }).push { cls:=.type "tuple",data:=.seq #[.none,.none] }).push { cls:=.type "zip",data:=.fields #[.none,.bool false,.bool false,.ref ((s.heap.push o1).push o2).objs.size,.ref (((s.heap.push o1).push o2).push { cls:=.type "tuple",data:=.seq #[.ref s.heap.objs.size,.ref (s.heap.push o1).objs.size] }).objs.size] } }) :=
  .of_wp fun A R s h=>by
    obtain ⟨hp,g,d,tk,os⟩:=s;obtain ⟨k1,k2,h⟩:=h
    have hsub:=sub_zip
    have r1:∀ {A:Around} {Q:Value→Shared→Prop} {E:Value→Shared→Prop},Q (.ref hp.objs.size) ⟨hp.push o1,g,d,tk,os⟩→wpAny (model prog w) A (pyIter u1) Q E ⟨hp,g,d,tk,os⟩:=fun q=>h1 _ _ _ _ k1 q
    have r2:∀ {A:Around} {Q:Value→Shared→Prop} {E:Value→Shared→Prop},Q (.ref (hp.push o1).objs.size) ⟨(hp.push o1).push o2,g,d,tk,os⟩→wpAny (model prog w) A (pyIter u2) Q E ⟨hp.push o1,g,d,tk,os⟩:=fun q=>h2 _ _ _ _ k2 q
    wp_walk using r1,r2
    exact ⟨_,rfl,h⟩
section
variable {prog:Program} {w:World} {A:Around} {E:Value→Shared→Prop} {s:Shared}
theorem call_zipD {u1 u2:Value} {o1 o2:Obj} {ok1 ok2:Heap→Prop} {Q:Value→Shared→Prop} (h1:IterTo prog w u1 o1 ok1) (h2:IterTo prog w u2 o2 ok2) (f1:o1.isFreed=false) (f2:o2.isFreed=false) (k1:ok1 s.heap) (k2:ok2 (s.heap.push o1))
    (h:∀ h',IsZip h' (s.heap.objs.size + 4) (s.heap.objs.size + 2) (s.heap.objs.size + 3) .none→IsPair h' (s.heap.objs.size + 2) (.ref s.heap.objs.size) (.ref (s.heap.objs.size + 1))→IsPair h' (s.heap.objs.size + 3) .none .none →
      h'.get? s.heap.objs.size=some o1→h'.get? (s.heap.objs.size + 1)=some o2→h'.objs.size=s.heap.objs.size + 5→(∀ c o,s.heap.get? c=some o→h'.get? c=some o)→Q (.ref (s.heap.objs.size + 4)) { s with heap:=h' }) :
    wpAny (model prog w) A (call (.type "zip") [u1,u2]) Q E s:=by
  refine callType_newIn F.called_zip (by decide) (F.typeCall_zip_2 _ _) (F.newCall_zip_2 _ _) (fun obj=>F.args_object_init_3 obj _ _) F.entry_zip_new (zip_newD h1 h2) ⟨k1,k2,?_⟩
  obtain ⟨n,hn⟩:∃ n,s.heap.objs.size=n:=⟨_,rfl⟩
  have g1:=Heap.get?_push_size s.heap f1
  have e1:(s.heap.push o1).objs.size=n + 1:=by rw [Heap.size_push,hn]
  have p1:∀ c o,s.heap.get? c=some o→(s.heap.push o1).get? c=some o:=fun c o q=>Heap.get?_push_of_some _ q
  rw [hn] at g1 h ⊢
  rw [e1]
  generalize s.heap.push o1=ha at g1 e1 p1
  have g2:=Heap.get?_push_size ha f2
  have e2:(ha.push o2).objs.size=n + 2:=by rw [Heap.size_push,e1]
  have p2:∀ c o,ha.get? c=some o→(ha.push o2).get? c=some o:=fun c o q=>Heap.get?_push_of_some _ q
  rw [e1] at g2
  rw [e2]
  generalize ha.push o2=hb at g2 e2 p2
  have g3:=Heap.get?_push_size hb (o:={ cls:=.type "tuple",data:=.seq #[.ref n,.ref (n + 1)] }) rfl
  have e3:(hb.push { cls:=.type "tuple",data:=.seq #[.ref n,.ref (n + 1)] }).objs.size=n + 3:=by rw [Heap.size_push,e2]
  have p3:∀ c o,hb.get? c=some o→(hb.push { cls:=.type "tuple",data:=.seq #[.ref n,.ref (n + 1)] }).get? c=some o:=fun c o q=>Heap.get?_push_of_some _ q
  rw [e2] at g3
  rw [e3]
  generalize hb.push { cls:=.type "tuple",data:=.seq #[.ref n,.ref (n + 1)] }=hc at g3 e3 p3
  have g4:=Heap.get?_push_size hc (o:={ cls:=.type "tuple",data:=.seq #[.none,.none] }) rfl
  have e4:(hc.push { cls:=.type "tuple",data:=.seq #[.none,.none] }).objs.size=n + 4:=by rw [Heap.size_push,e3]
  have p4:∀ c o,hc.get? c=some o→(hc.push { cls:=.type "tuple",data:=.seq #[.none,.none] }).get? c=some o:=fun c o q=>Heap.get?_push_of_some _ q
  rw [e3] at g4
  rw [e4]
  generalize hc.push { cls:=.type "tuple",data:=.seq #[.none,.none] }=hd at g4 e4 p4
  have g5:=Heap.get?_push_size hd (o:={ cls:=.type "zip",data:=.fields #[.none,.bool false,.bool false,.ref (n + 2),.ref (n + 3)] }) rfl
  have e5:(hd.push { cls:=.type "zip",data:=.fields #[.none,.bool false,.bool false,.ref (n + 2),.ref (n + 3)] }).objs.size=n + 5:=by rw [Heap.size_push,e4]
  have p5:∀ c o,hd.get? c=some o→(hd.push { cls:=.type "zip",data:=.fields #[.none,.bool false,.bool false,.ref (n + 2),.ref (n + 3)] }).get? c=some o:=fun c o q=>Heap.get?_push_of_some _ q
  rw [e4] at g5
  generalize hd.push { cls:=.type "zip",data:=.fields #[.none,.bool false,.bool false,.ref (n + 2),.ref (n + 3)] }=he at g5 e5 p5
  exact ⟨⟨_,g5,rfl⟩,h _ g5 (p5 _ _ (p4 _ _ g3)) (p5 _ _ g4) (p5 _ _ (p4 _ _ (p3 _ _ (p2 _ _ g1)))) (p5 _ _ (p4 _ _ (p3 _ _ g2))) e5 fun c o q=>p5 _ _ (p4 _ _ (p3 _ _ (p2 _ _ (p1 _ _ q))))⟩
end
end HT
namespace L3
open PySem PySem.Spec PyProof.Rows L2
structure ZSt (h:Heap) (z TI TO i1 i2:Addr):Prop where
  z:IsZip h z TI TO .none
  I:IsPair h TI (.ref i1) (.ref i2)
  O:∃ a b,IsPair h TO a b
noncomputable def ItzS (K:PySem.W.Frag) (a:Addr) (x:Str):It :=
  ⟨fun i H=>(∃ xs v,SqT K H a xs∧xs[i]? = some v)∧i < x.cps.size,fun i H v H'=>∃ p u c,H p=none∧H'=upd H p (.tup [u,.str ⟨#[c]⟩])∧v = .ref p∧x.cps[i]? = some c∧∀ xs,SqT K H a xs→xs[i]? = some u,fun i H=>∃ xs,SqT K H a xs∧(xs.length=i∨i < xs.length∧x.cps.size=i)⟩
noncomputable def ItzT (K:PySem.W.Frag) (a b:Addr):It :=
  ⟨fun i H=>(∃ xs v,SqT K H a xs∧xs[i]? = some v)∧∃ ys v,SqT K H b ys∧ys[i]? = some v,fun i H v H'=>∃ p u w,H p=none∧H'=upd H p (.tup [u,w])∧v = .ref p∧(∀ ys,SqT K H b ys→ys[i]? = some w)∧∀ xs,SqT K H a xs→xs[i]? = some u,fun i H=>∃ xs ys,SqT K H a xs∧SqT K H b ys∧(xs.length=i∨i < xs.length∧ys.length=i)⟩
theorem turn_zipS {P:Program} {w:World} {K:PySem.W.Frag} {elts:List Expr} {x1} {pos:Pos} (a z TI TO i1 i2:Addr) (tx:Str) (t:Tok) (ap:HT.ZApart z TI TO i1 i2 [i1,a] [i2]) (hai:a≠i1)  :
    Turn P w K (.Tuple elts x1 pos) (ItzS K a tx) [z,TI,TO,i1,i2] z (fun i h=>ZSt h z TI TO i1 i2∧IsTupIter h i1 a i∧h.IsStrIter i2 "str_ascii_iterator" tx t i) where
  mem:=by simp
  obj:=fun i h st b hb=>by
    obtain ⟨⟨hz,hI,ta,tb,hO⟩,⟨o1,q1,q2,q3⟩,⟨o2,r1,r2,r3⟩⟩:=st
    simp only [List.mem_cons,List.not_mem_nil,or_false] at hb
    rcases hb with rfl | rfl | rfl | rfl | rfl
    · exact ⟨_,hz,fun v z=>by have z':Data.fields _=Data.cell v:=z;cases z'⟩
    · exact ⟨_,hI,fun v z=>by have z':Data.seq _ _=Data.cell v:=z;cases z'⟩
    · exact ⟨_,hO,fun v z=>by have z':Data.seq _ _=Data.cell v:=z;cases z'⟩
    · exact ⟨o1,q1,fun v z=>by rw [q3] at z;cases z⟩
    · exact ⟨o2,r1,fun v z=>by rw [r3] at z;cases z⟩
  keep:=fun i h h' st k=>by
    obtain ⟨⟨hz,hI,ta,tb,hO⟩,⟨o1,q1,q⟩,⟨o2,r1,r⟩⟩:=st
    exact ⟨⟨k z (by simp) _ hz,k TI (by simp) _ hI,ta,tb,k TO (by simp) _ hO⟩,⟨o1,k i1 (by simp) _ q1,q⟩,⟨o2,k i2 (by simp) _ r1,r⟩⟩
  item := by
    intro X hP hw hK hc i pins s σ H E I hf st hg
    subst hP hw hK
    obtain ⟨⟨hz,hI,ta,tb,hO⟩,h1,h2⟩:=st
    obtain ⟨⟨xs,x,hq,hx⟩,hlt2⟩:=hg
    obtain ⟨its,rv,p,hsz⟩:=I.tuple hq
    obtain ⟨u,hu,ru⟩:=rv.get hx
    obtain ⟨z0,z1,z2,z3,z4,z5⟩:=hf z (by simp)
    obtain ⟨n0,n1,n2,n3,n4,n5⟩:=hf TI (by simp)
    obtain ⟨o0,o1,o2,o3,o4,o5⟩:=hf TO (by simp)
    obtain ⟨e0,e1,e2,e3,e4,e5⟩:=hf i1 (by simp)
    obtain ⟨g0,g1,g2,g3,g4,g5⟩:=hf i2 (by simp)
    refine HT.pyNext_zipD ap (HT.draws_tup (A:=X.A.in1) (I.ok.hd hc) i1 a hai its.toArray) (Draws.strAscii (A:=X.A.in1) (I.ok.hd hc) i2 tx t) hz hI hO ⟨h1,p⟩ h2 (by have:=(Array.getElem?_eq_some_iff.mp (show its.toArray[i]? = some u by simpa using hu));exact this.1) hlt2 fun x0 y0 h' tk hx0 hy0 hz' hI' hO' st1' st2' hT hsz' hk=>?_
    have hxu:x0=u:=by
      have q:its.toArray[i]? = some u:=by simpa using hu
      have hx0:its.toArray[i]? = some x0:=hx0
      rw [q] at hx0;exact (Option.some.inj hx0).symm
    subst hxu
    obtain ⟨cy,ty,hcy,rfl⟩:=hy0
    obtain ⟨hit',hp'⟩:=st1'
    refine ⟨_,rfl,wpAny_letOwnedTupleGo_zip (s:={ s with heap:=h',toks:=tk }) hz' fun h2' hz2 hs2=>?_⟩
    have tz:s.heap.objs.size≠z:=Ne.symm (ne_lt (Heap.lt_size hz) (Nat.le_refl _))
    have hT2:IsPair h2' s.heap.objs.size x0 (.str ⟨#[cy]⟩ ty):=(hs2.2 _ tz).trans hT
    have hk2:∀ b o,b≠z→b≠TO→b≠i1→b≠i2→s.heap.get? b=some o→h2'.get? b=some o:=fun b o q1 q2 q3 q4 q=>(hs2.2 b q1).trans (hk b o q1 q2 q3 q4 q)
    have hp0:H s.heap.objs.size=none:=I.hok.fresh (Nat.le_refl _)
    have nt:∀ b v,H b=some v→b≠z∧b≠TO∧b≠i1∧b≠i2:=fun b v q=>⟨fun y=>(by rw [y,z0] at q;cases q),fun y=>(by rw [y,o0] at q;cases q),fun y=>(by rw [y,e0] at q;cases q),fun y=>(by rw [y,g0] at q;cases q)⟩
    have nch:∀ b,b ∉ [z,TO,i1,i2]→b≠z∧b≠TO∧b≠i1∧b≠i2:=fun b q=>⟨fun y=>q (by simp [y]),fun y=>q (by simp [y]),fun y=>q (by simp [y]),fun y=>q (by simp [y])⟩
    refine ⟨.ref s.heap.objs.size,upd H s.heap.objs.size (.tup [x,.str ⟨#[cy]⟩]),?_,rfl,⟨_,x,cy,hp0,rfl,rfl,hcy,fun ys hy=>by rw [I.tuple_inj hy hq];exact hx⟩,⟨⟨hz2,(hs2.2 TI ap.TIz).trans hI',_,_,(hs2.2 TO ap.TOz).trans hO'⟩,tupIter_at hit' fun o y=>(hs2.2 i1 ap.i1z).trans y,(show Heap.IsStrIter _ _ _ _ _ _ from let ⟨o,q,r⟩:=st2';⟨o,(hs2.2 i2 ap.i2z).trans q,r⟩)⟩,fun b hb=>?_⟩
    · show Inv X pins σ _ { s with heap:=h2',gens:=s.gens,drawn:=s.drawn,toks:=tk }
      refine Inv.step (s:=s) (h':=h2') (g':=s.gens) (d':=s.drawn) (t':=tk) (ch:=[z,TO,i1,i2]) I (fun b hb=>?_) (fun b o _ _ hc q _=>let ⟨w1,w2,w3,w4⟩:=nch b hc;hk2 b o w1 w2 w3 w4 q) (fun b o _ _ hc q _=>let ⟨w1,w2,w3,w4⟩:=nch b hc;⟨o.slots,hk2 b o w1 w2 w3 w4 q⟩)
        (fun b o _ q n=>by rw [upd_ne (ne_lt (Heap.lt_size q) (Nat.le_refl _))];exact n) (fun b o hc q=>let ⟨w1,w2,w3,w4⟩:=nch b hc;⟨o,hk2 b o w1 w2 w3 w4 q⟩)
        (fun b ys q=>by rw [upd_ne (ne_of_none q hp0)];exact q) (fun b o v q=>by rw [upd_ne (ne_of_none q hp0)];exact q) (fun b ps q=>⟨#[],by rw [upd_ne (ne_of_none q hp0),q];simp⟩) (fun m hm=>?_) (fun b v q=>?_) I.bare
      · simp only [List.mem_cons,List.not_mem_nil,or_false] at hb
        rcases hb with rfl | rfl | rfl | rfl
        · exact ⟨z3,z1,z4,z5⟩
        · exact ⟨o3,o1,o4,o5⟩
        · exact ⟨e3,e1,e4,e5⟩
        · exact ⟨g3,g1,g4,g5⟩
      · obtain ⟨o,es,ep,ho,r⟩:=hm
        exact ⟨o,es,ep,hk2 _ o (Ne.symm z1) (Ne.symm o1) (Ne.symm e1) (Ne.symm g1) ho,r⟩
      · by_cases hb:b=s.heap.objs.size
        · subst hb
          rw [upd_same] at q
          cases q
          refine ⟨by show 2≤sizeLine;decide,[x0,(.str ⟨#[cy]⟩ ty)],.cons ru (.cons ⟨_,rfl⟩ .nil),⟨_,hT2,rfl,0,rfl⟩⟩
        · rw [upd_ne hb] at q
          refine (I.hok b v q).stay (fun c o hc y=>?_) (fun c y=>by rw [upd_ne (ne_of_none y hp0)];exact y) fun c ys y=>by rw [upd_ne (ne_of_none y hp0)];exact y
          rcases hc with rfl | hc
          · exact hk2 c o (nt c v q).1 (nt c v q).2.1 (nt c v q).2.2.1 (nt c v q).2.2.2 y
          · exact hk2 c o (nt c _ hc).1 (nt c _ hc).2.1 (nt c _ hc).2.2.1 (nt c _ hc).2.2.2 y
    · have hlt:b < s.heap.objs.size:=by
        simp only [List.mem_cons,List.not_mem_nil,or_false] at hb
        rcases hb with rfl | rfl | rfl | rfl | rfl
        · exact Heap.lt_size hz
        · exact Heap.lt_size hI
        · exact Heap.lt_size hO
        · obtain ⟨o,ho,_⟩:=h1;exact Heap.lt_size ho
        · obtain ⟨o,ho,_⟩:=h2;exact Heap.lt_size ho
      rw [upd_ne (ne_lt hlt (Nat.le_refl _))]
      exact (hf b hb).1
  done:=by
    intro X hP hw hK hc i pins s σ H E I hf st hg
    subst hP hw hK
    obtain ⟨⟨hz,hI,ta,tb,hO⟩,h1,h2⟩:=st
    obtain ⟨xs,hq,hstop⟩:=hg
    obtain ⟨its,rv,p,hsz⟩:=I.tuple hq
    have hl:=rv.length
    obtain ⟨z0,z1,z2,z3,z4,z5⟩:=hf z (by simp)
    obtain ⟨o0,o1,o2,o3,o4,o5⟩:=hf TO (by simp)
    obtain ⟨e0,e1,e2,e3,e4,e5⟩:=hf i1 (by simp)
    obtain ⟨g0,g1,g2,g3,g4,g5⟩:=hf i2 (by simp)
    refine HT.pyNext_zip_endD ap (HT.draws_tup (A:=X.A.in1) (I.ok.hd hc) i1 a hai its.toArray) (Draws.strAscii (A:=X.A.in1) (I.ok.hd hc) i2 tx t) hz hI hO ⟨h1,p⟩ h2 (hstop.elim (fun q=>.inl (by rw [List.size_toArray];omega)) fun q=>.inr ⟨by rw [List.size_toArray];omega,q.2.symm⟩) fun h' tk hk=>⟨rfl,?_⟩
    have nt:∀ b v,H b=some v→b≠z∧b≠TO∧b≠i1∧b≠i2:=fun b v q=>⟨fun y=>(by rw [y,z0] at q;cases q),fun y=>(by rw [y,o0] at q;cases q),fun y=>(by rw [y,e0] at q;cases q),fun y=>(by rw [y,g0] at q;cases q)⟩
    have nch:∀ b,b ∉ [z,TO,i1,i2]→b≠z∧b≠TO∧b≠i1∧b≠i2:=fun b q=>⟨fun y=>q (by simp [y]),fun y=>q (by simp [y]),fun y=>q (by simp [y]),fun y=>q (by simp [y])⟩
    refine Inv.step (s:=s) (h':=h') (g':=s.gens) (d':=s.drawn) (t':=tk) (ch:=[z,TO,i1,i2]) I (fun b hb=>?_) (fun b o _ _ hc q _=>let ⟨w1,w2,w3,w4⟩:=nch b hc;hk b o w1 w2 w3 w4 q) (fun b o _ _ hc q _=>let ⟨w1,w2,w3,w4⟩:=nch b hc;⟨o.slots,hk b o w1 w2 w3 w4 q⟩)
      (fun b o _ q n=>n) (fun b o hc q=>let ⟨w1,w2,w3,w4⟩:=nch b hc;⟨o,hk b o w1 w2 w3 w4 q⟩)
      (fun b ys q=>q) (fun b o v q=>q) (fun b ps q=>⟨#[],by rw [q];simp⟩) (fun m hm=>?_) (fun b v q=>?_) I.bare
    · simp only [List.mem_cons,List.not_mem_nil,or_false] at hb
      rcases hb with rfl | rfl | rfl | rfl
      · exact ⟨z3,z1,z4,z5⟩
      · exact ⟨o3,o1,o4,o5⟩
      · exact ⟨e3,e1,e4,e5⟩
      · exact ⟨g3,g1,g4,g5⟩
    · obtain ⟨o,es,ep,ho,r⟩:=hm
      exact ⟨o,es,ep,hk _ o (Ne.symm z1) (Ne.symm o1) (Ne.symm e1) (Ne.symm g1) ho,r⟩
    · refine (I.hok b v q).stay (fun c o hc y=>?_) (fun c y=>y) fun c ys y=>y
      rcases hc with rfl | hc
      · exact hk c o (nt c v q).1 (nt c v q).2.1 (nt c v q).2.2.1 (nt c v q).2.2.2 y
      · exact hk c o (nt c _ hc).1 (nt c _ hc).2.1 (nt c _ hc).2.2.1 (nt c _ hc).2.2.2 y
  self:=fun _ _ _ _ _ st h=>by
    obtain ⟨⟨hz,_⟩,_⟩:=st
    exact wpAny_pyIter_zip hz h
theorem turn_zipT {P:Program} {w:World} {K:PySem.W.Frag} {elts:List Expr} {x1} {pos:Pos} (a z TI TO i1 i2:Addr) (b:Addr) (ap:HT.ZApart z TI TO i1 i2 [i1,a] [i2,b]) (hai:a≠i1) (hbi:b≠i2) :
    Turn P w K (.Tuple elts x1 pos) (ItzT K a b) [z,TI,TO,i1,i2] z (fun i h=>ZSt h z TI TO i1 i2∧IsTupIter h i1 a i∧IsTupIter h i2 b i) where
  mem:=by simp
  obj:=fun i h st b hb=>by
    obtain ⟨⟨hz,hI,ta,tb,hO⟩,⟨o1,q1,q2,q3⟩,⟨o2,r1,r2,r3⟩⟩:=st
    simp only [List.mem_cons,List.not_mem_nil,or_false] at hb
    rcases hb with rfl | rfl | rfl | rfl | rfl
    · exact ⟨_,hz,fun v z=>by have z':Data.fields _=Data.cell v:=z;cases z'⟩
    · exact ⟨_,hI,fun v z=>by have z':Data.seq _ _=Data.cell v:=z;cases z'⟩
    · exact ⟨_,hO,fun v z=>by have z':Data.seq _ _=Data.cell v:=z;cases z'⟩
    · exact ⟨o1,q1,fun v z=>by rw [q3] at z;cases z⟩
    · exact ⟨o2,r1,fun v z=>by rw [r3] at z;cases z⟩
  keep:=fun i h h' st k=>by
    obtain ⟨⟨hz,hI,ta,tb,hO⟩,⟨o1,q1,q⟩,⟨o2,r1,r⟩⟩:=st
    exact ⟨⟨k z (by simp) _ hz,k TI (by simp) _ hI,ta,tb,k TO (by simp) _ hO⟩,⟨o1,k i1 (by simp) _ q1,q⟩,⟨o2,k i2 (by simp) _ r1,r⟩⟩
  item := by
    intro X hP hw hK hc i pins s σ H E I hf st hg
    subst hP hw hK
    obtain ⟨⟨hz,hI,ta,tb,hO⟩,h1,h2⟩:=st
    obtain ⟨⟨xs,x,hq,hx⟩,ys,y,hqy,hy⟩:=hg
    obtain ⟨its2,rv2,p2,hsz2⟩:=I.tuple hqy
    obtain ⟨u2,hu2,ru2⟩:=rv2.get hy
    obtain ⟨its,rv,p,hsz⟩:=I.tuple hq
    obtain ⟨u,hu,ru⟩:=rv.get hx
    obtain ⟨z0,z1,z2,z3,z4,z5⟩:=hf z (by simp)
    obtain ⟨n0,n1,n2,n3,n4,n5⟩:=hf TI (by simp)
    obtain ⟨o0,o1,o2,o3,o4,o5⟩:=hf TO (by simp)
    obtain ⟨e0,e1,e2,e3,e4,e5⟩:=hf i1 (by simp)
    obtain ⟨g0,g1,g2,g3,g4,g5⟩:=hf i2 (by simp)
    refine HT.pyNext_zipD ap (HT.draws_tup (A:=X.A.in1) (I.ok.hd hc) i1 a hai its.toArray) (HT.draws_tup (A:=X.A.in1) (I.ok.hd hc) i2 b hbi its2.toArray) hz hI hO ⟨h1,p⟩ ⟨h2,p2⟩ (by have:=(Array.getElem?_eq_some_iff.mp (show its.toArray[i]? = some u by simpa using hu));exact this.1) (by have:=(Array.getElem?_eq_some_iff.mp (show its2.toArray[i]? = some u2 by simpa using hu2));exact this.1) fun x0 y0 h' tk hx0 hy0 hz' hI' hO' st1' st2' hT hsz' hk=>?_
    have hxu:x0=u:=by
      have q:its.toArray[i]? = some u:=by simpa using hu
      have hx0:its.toArray[i]? = some x0:=hx0
      rw [q] at hx0;exact (Option.some.inj hx0).symm
    subst hxu
    have hyu:y0=u2:=by
      have q:its2.toArray[i]? = some u2:=by simpa using hu2
      have hy0:its2.toArray[i]? = some y0:=hy0
      rw [q] at hy0;exact (Option.some.inj hy0).symm
    subst hyu
    obtain ⟨hit',hp'⟩:=st1'
    refine ⟨_,rfl,wpAny_letOwnedTupleGo_zip (s:={ s with heap:=h',toks:=tk }) hz' fun h2' hz2 hs2=>?_⟩
    have tz:s.heap.objs.size≠z:=Ne.symm (ne_lt (Heap.lt_size hz) (Nat.le_refl _))
    have hT2:IsPair h2' s.heap.objs.size x0 y0:=(hs2.2 _ tz).trans hT
    have hk2:∀ b o,b≠z→b≠TO→b≠i1→b≠i2→s.heap.get? b=some o→h2'.get? b=some o:=fun b o q1 q2 q3 q4 q=>(hs2.2 b q1).trans (hk b o q1 q2 q3 q4 q)
    have hp0:H s.heap.objs.size=none:=I.hok.fresh (Nat.le_refl _)
    have nt:∀ b v,H b=some v→b≠z∧b≠TO∧b≠i1∧b≠i2:=fun b v q=>⟨fun y=>(by rw [y,z0] at q;cases q),fun y=>(by rw [y,o0] at q;cases q),fun y=>(by rw [y,e0] at q;cases q),fun y=>(by rw [y,g0] at q;cases q)⟩
    have nch:∀ b,b ∉ [z,TO,i1,i2]→b≠z∧b≠TO∧b≠i1∧b≠i2:=fun b q=>⟨fun y=>q (by simp [y]),fun y=>q (by simp [y]),fun y=>q (by simp [y]),fun y=>q (by simp [y])⟩
    refine ⟨.ref s.heap.objs.size,upd H s.heap.objs.size (.tup [x,y]),?_,rfl,⟨_,x,y,hp0,rfl,rfl,fun zs hzs=>by rw [I.tuple_inj hzs hqy];exact hy,fun zs hzs=>by rw [I.tuple_inj hzs hq];exact hx⟩,⟨⟨hz2,(hs2.2 TI ap.TIz).trans hI',_,_,(hs2.2 TO ap.TOz).trans hO'⟩,tupIter_at hit' fun o y=>(hs2.2 i1 ap.i1z).trans y,(tupIter_at st2'.1 fun o y=>(hs2.2 i2 ap.i2z).trans y)⟩,fun b hb=>?_⟩
    · show Inv X pins σ _ { s with heap:=h2',gens:=s.gens,drawn:=s.drawn,toks:=tk }
      refine Inv.step (s:=s) (h':=h2') (g':=s.gens) (d':=s.drawn) (t':=tk) (ch:=[z,TO,i1,i2]) I (fun b hb=>?_) (fun b o _ _ hc q _=>let ⟨w1,w2,w3,w4⟩:=nch b hc;hk2 b o w1 w2 w3 w4 q) (fun b o _ _ hc q _=>let ⟨w1,w2,w3,w4⟩:=nch b hc;⟨o.slots,hk2 b o w1 w2 w3 w4 q⟩)
        (fun b o _ q n=>by rw [upd_ne (ne_lt (Heap.lt_size q) (Nat.le_refl _))];exact n) (fun b o hc q=>let ⟨w1,w2,w3,w4⟩:=nch b hc;⟨o,hk2 b o w1 w2 w3 w4 q⟩)
        (fun b ys q=>by rw [upd_ne (ne_of_none q hp0)];exact q) (fun b o v q=>by rw [upd_ne (ne_of_none q hp0)];exact q) (fun b ps q=>⟨#[],by rw [upd_ne (ne_of_none q hp0),q];simp⟩) (fun m hm=>?_) (fun b v q=>?_) I.bare
      · simp only [List.mem_cons,List.not_mem_nil,or_false] at hb
        rcases hb with rfl | rfl | rfl | rfl
        · exact ⟨z3,z1,z4,z5⟩
        · exact ⟨o3,o1,o4,o5⟩
        · exact ⟨e3,e1,e4,e5⟩
        · exact ⟨g3,g1,g4,g5⟩
      · obtain ⟨o,es,ep,ho,r⟩:=hm
        exact ⟨o,es,ep,hk2 _ o (Ne.symm z1) (Ne.symm o1) (Ne.symm e1) (Ne.symm g1) ho,r⟩
      · by_cases hb:b=s.heap.objs.size
        · subst hb
          rw [upd_same] at q
          cases q
          refine ⟨by show 2≤sizeLine;decide,[x0,y0],.cons ru (.cons ru2 .nil),⟨_,hT2,rfl,0,rfl⟩⟩
        · rw [upd_ne hb] at q
          refine (I.hok b v q).stay (fun c o hc y=>?_) (fun c y=>by rw [upd_ne (ne_of_none y hp0)];exact y) fun c ys y=>by rw [upd_ne (ne_of_none y hp0)];exact y
          rcases hc with rfl | hc
          · exact hk2 c o (nt c v q).1 (nt c v q).2.1 (nt c v q).2.2.1 (nt c v q).2.2.2 y
          · exact hk2 c o (nt c _ hc).1 (nt c _ hc).2.1 (nt c _ hc).2.2.1 (nt c _ hc).2.2.2 y
    · have hlt:b < s.heap.objs.size:=by
        simp only [List.mem_cons,List.not_mem_nil,or_false] at hb
        rcases hb with rfl | rfl | rfl | rfl | rfl
        · exact Heap.lt_size hz
        · exact Heap.lt_size hI
        · exact Heap.lt_size hO
        · obtain ⟨o,ho,_⟩:=h1;exact Heap.lt_size ho
        · obtain ⟨o,ho,_⟩:=h2;exact Heap.lt_size ho
      rw [upd_ne (ne_lt hlt (Nat.le_refl _))]
      exact (hf b hb).1
  done:=by
    intro X hP hw hK hc i pins s σ H E I hf st hg
    subst hP hw hK
    obtain ⟨⟨hz,hI,ta,tb,hO⟩,h1,h2⟩:=st
    obtain ⟨xs,ys,hq,hqy,hstop⟩:=hg
    obtain ⟨its2,rv2,p2,hsz2⟩:=I.tuple hqy
    have hl2:=rv2.length
    obtain ⟨its,rv,p,hsz⟩:=I.tuple hq
    have hl:=rv.length
    obtain ⟨z0,z1,z2,z3,z4,z5⟩:=hf z (by simp)
    obtain ⟨o0,o1,o2,o3,o4,o5⟩:=hf TO (by simp)
    obtain ⟨e0,e1,e2,e3,e4,e5⟩:=hf i1 (by simp)
    obtain ⟨g0,g1,g2,g3,g4,g5⟩:=hf i2 (by simp)
    refine HT.pyNext_zip_endD ap (HT.draws_tup (A:=X.A.in1) (I.ok.hd hc) i1 a hai its.toArray) (HT.draws_tup (A:=X.A.in1) (I.ok.hd hc) i2 b hbi its2.toArray) hz hI hO ⟨h1,p⟩ ⟨h2,p2⟩ (hstop.elim (fun q=>.inl (by rw [List.size_toArray];omega)) fun q=>.inr ⟨by rw [List.size_toArray];omega,by rw [List.size_toArray];omega⟩) fun h' tk hk=>⟨rfl,?_⟩
    have nt:∀ b v,H b=some v→b≠z∧b≠TO∧b≠i1∧b≠i2:=fun b v q=>⟨fun y=>(by rw [y,z0] at q;cases q),fun y=>(by rw [y,o0] at q;cases q),fun y=>(by rw [y,e0] at q;cases q),fun y=>(by rw [y,g0] at q;cases q)⟩
    have nch:∀ b,b ∉ [z,TO,i1,i2]→b≠z∧b≠TO∧b≠i1∧b≠i2:=fun b q=>⟨fun y=>q (by simp [y]),fun y=>q (by simp [y]),fun y=>q (by simp [y]),fun y=>q (by simp [y])⟩
    refine Inv.step (s:=s) (h':=h') (g':=s.gens) (d':=s.drawn) (t':=tk) (ch:=[z,TO,i1,i2]) I (fun b hb=>?_) (fun b o _ _ hc q _=>let ⟨w1,w2,w3,w4⟩:=nch b hc;hk b o w1 w2 w3 w4 q) (fun b o _ _ hc q _=>let ⟨w1,w2,w3,w4⟩:=nch b hc;⟨o.slots,hk b o w1 w2 w3 w4 q⟩)
      (fun b o _ q n=>n) (fun b o hc q=>let ⟨w1,w2,w3,w4⟩:=nch b hc;⟨o,hk b o w1 w2 w3 w4 q⟩)
      (fun b ys q=>q) (fun b o v q=>q) (fun b ps q=>⟨#[],by rw [q];simp⟩) (fun m hm=>?_) (fun b v q=>?_) I.bare
    · simp only [List.mem_cons,List.not_mem_nil,or_false] at hb
      rcases hb with rfl | rfl | rfl | rfl
      · exact ⟨z3,z1,z4,z5⟩
      · exact ⟨o3,o1,o4,o5⟩
      · exact ⟨e3,e1,e4,e5⟩
      · exact ⟨g3,g1,g4,g5⟩
    · obtain ⟨o,es,ep,ho,r⟩:=hm
      exact ⟨o,es,ep,hk _ o (Ne.symm z1) (Ne.symm o1) (Ne.symm e1) (Ne.symm g1) ho,r⟩
    · refine (I.hok b v q).stay (fun c o hc y=>?_) (fun c y=>y) fun c ys y=>y
      rcases hc with rfl | hc
      · exact hk c o (nt c v q).1 (nt c v q).2.1 (nt c v q).2.2.1 (nt c v q).2.2.2 y
      · exact hk c o (nt c _ hc).1 (nt c _ hc).2.1 (nt c _ hc).2.2.1 (nt c _ hc).2.2.2 y
  self:=fun _ _ _ _ _ st h=>by
    obtain ⟨⟨hz,_⟩,_⟩:=st
    exact wpAny_pyIter_zip hz h
noncomputable def zipD (xs ys:List Dt):List Dt:=(xs.zip ys).map fun p=>.tup [p.1,p.2]
theorem zipD_get {xs ys:List Dt} {i:Nat} {d:Dt} (h:(zipD xs ys)[i]? = some d):∃ x y,xs[i]? = some x∧ys[i]? = some y∧d = .tup [x,y]:=by
  unfold zipD at h
  rw [List.getElem?_map] at h
  cases e:(xs.zip ys)[i]? with
  | none=>rw [e] at h;cases h
  | some p =>
    rw [e] at h
    obtain ⟨h1,h2⟩:=List.getElem?_zip_eq_some.mp e
    exact ⟨p.1,p.2,h1,h2,(Option.some.inj h).symm⟩
theorem zipD_len {xs ys:List Dt}:(zipD xs ys).length=min xs.length ys.length:=by
  unfold zipD;simp
noncomputable def izip (ta tb:TD):TID:=fun ρ st P=>ta ρ st fun x st1=>tb ρ st1 fun y st2=>match x,y with
  | .tup xs,.str z=>(z.cps.all fun c=>decide (c < 128))=true∧P (zipD xs (signsD z)) (fun _=>True) st2
  | .tup xs,.tup ys=>P (zipD xs ys) (fun _=>True) st2
  | _,_=>False
theorem iter_tup {prog:Program} {w:World} {t:Addr} {items:Array Value}:HT.IterTo prog w (.ref t) { cls:=.type "tuple_iterator",data:=.fields #[.ref t,.int 0 0] } (fun h=>IsTup h t items):=fun A s Q E h q=>iter_tuple h q
theorem iter_str {prog:Program} {w:World} {z:Str} {t:Tok} (ha:(z.cps.all fun c=>decide (c < 128))=true):HT.IterTo prog w (.str z t) { cls:=.type "str_ascii_iterator",data:=.fields #[.str z t,.int 0 0] } (fun _=>True):=fun A s Q E _ q=>wpAny_pyIter_ascii ha q
section
variable {X:Cx} {a b:Expr} {elts:List Expr} {x1:Nat} {tpos pos p:Pos} {ta tb:TD}
theorem di_zip (hm:X.mg "zip" = none) (ha:DE X a ta) (hb:DE X b tb) (hg:Gl X "zip") (hs:starEach [a,b] X.env=(false,eval a X.env) :: starEach [b] X.env) (hs2:starEach [b] X.env=(false,eval b X.env) :: starEach [] X.env) (hpl:(backTo pos (starEach [b] X.env)).any (·.1)=false):DI X (.Tuple elts x1 tpos) (.Call (.Name "zip" p) [a,b] [] pos) (izip ta tb):=by
  intro pins s σ H R I h
  obtain ⟨φ,st,ρ,P,pre,ht,hq⟩:=h
  refine Call_ (ld_blt I hg hm PyProof.Rows.boot_zip (PyProof.Rows.callWith_type1 (thn (da_cons ha (da_cons hb da_nil hs2) hs pos pins s σ H _ I ⟨φ,st,ρ,(fun ds st1=>match ds with
    | [x,y]=>(match x,y with
      | .tup xs,.str z=>(z.cps.all fun c=>decide (c < 128))=true∧P (zipD xs (signsD z)) (fun _=>True) st1
      | .tup xs,.tup ys=>P (zipD xs ys) (fun _=>True) st1
      | _,_=>False)
    | _=>False),pre,ht,fun ds st1 h1 φ1 H1 vs b1 dl=>(show ∃ φ1 st1 ds,Bhd X.K φ st H φ1 st1 H1∧DL X.K φ1 st1.length H1 ds vs∧(match ds with
    | [x,y]=>(match x,y with
      | .tup xs,.str z=>(z.cps.all fun c=>decide (c < 128))=true∧P (zipD xs (signsD z)) (fun _=>True) st1
      | .tup xs,.tup ys=>P (zipD xs ys) (fun _=>True) st1
      | _,_=>False)
    | _=>False) from ⟨φ1,st1,ds,b1,dl,h1⟩)⟩) fun us s1 ⟨vs,H1,I1,rv,φ1,st1,ds,b1,dl,h1⟩=>?_) hs hpl))
  rcases ds with _ | ⟨d,_ | ⟨e,_ | ⟨d3,r⟩⟩⟩
  · exact h1.elim
  · exact h1.elim
  rotate_left
  · exact h1.elim
  obtain ⟨v1,vr,rfl,dv1,dlr⟩:=dl
  obtain ⟨v2,rfl,dv2⟩:=DL.one dlr
  cases rv with
  | @cons _ u1 _ us1 ru1 rr =>
  cases rr with
  | @cons _ u2 _ us2 ru2 rr2 =>
  cases rr2
  cases d with
  | tup xs =>
    obtain ⟨a1,ws,ev,hs1,dws⟩:=dv1.tup
    subst ev
    cases ru1
    obtain ⟨its,rvs,pl,hz⟩:=I1.tuple hs1
    have alt:a1 < s1.heap.objs.size:=by obtain ⟨_,e,_⟩:=pl;exact Heap.lt_size e
    have hlw:=dws.length
    have hfp:∀ c ∈ [s1.heap.objs.size + 4,s1.heap.objs.size + 2,s1.heap.objs.size + 3,s1.heap.objs.size,s1.heap.objs.size + 1],FpOk X pins H1 c:=fun c hc=>by
      have hle:s1.heap.objs.size≤c:=by
        simp only [List.mem_cons,List.not_mem_nil,or_false] at hc
        omega
      exact I1.fpOk hle (I1.hok.fresh hle)
    cases e with
    | str z =>
      obtain ⟨hasc,h1⟩:=h1
      have ev:=dv2.str
      subst ev
      obtain ⟨t,rfl⟩:=ru2
      refine HT.call_zipD iter_tup (iter_str hasc) rfl rfl pl trivial fun h' hz' hI' hO' g1 g2 hsz hk=>?_
      refine wpAny_pyIter_zip (s:={ s1 with heap:=h' }) hz' ?_
      have I2:Inv X pins σ H1 { s1 with heap:=h' }:=I1.kept (t':=s1.toks) hk
      refine ⟨s1.heap.objs.size + 4,[s1.heap.objs.size + 4,s1.heap.objs.size + 2,s1.heap.objs.size + 3,s1.heap.objs.size,s1.heap.objs.size + 1],_,_,H1,rfl,I2,turn_zipS a1 (s1.heap.objs.size + 4) (s1.heap.objs.size + 2) (s1.heap.objs.size + 3) s1.heap.objs.size (s1.heap.objs.size + 1) z t ?_ (Nat.ne_of_lt alt),⟨⟨hz',hI',_,_,hO'⟩,⟨_,g1,rfl,rfl⟩,⟨_,g2,rfl,rfl⟩⟩,hfp,hq _ _ st1 h1 φ1 H1 _ b1 ?_⟩
      · have alt':(a1:Nat) < s1.heap.objs.size:=alt
        generalize s1.heap.objs.size=n at *
        refine ⟨?_,?_,?_,?_,?_,?_,?_,?_,?_,?_,?_,?_,?_,?_,?_,?_⟩ <;> (intro q;try simp only [List.mem_cons,List.not_mem_nil,or_false] at q) <;> (revert q alt';try revert alt2) <;> (unfold Addr at *;omega)
      · intro i φ' st' H' bh hok hi
        obtain ⟨a',zs,e2,hs',dl'⟩:=(dv1.evo bh.2).tup
        cases e2
        have hlen:=dl'.length
        have hsl:(signsD z).length=z.cps.size:=by simp [signsD]
        rw [zipD_len,hsl] at hi
        refine ⟨fun e=>⟨zs,hs',by rw [zipD_len,hsl] at e;omega⟩,fun d ed=>?_⟩
        obtain ⟨x,y,ex,ey,rfl⟩:=zipD_get ed
        obtain ⟨vx,evx,dx⟩:=dl'.get ex
        have hlt:i < (signsD z).length:=(List.getElem?_eq_some_iff.mp ey).1
        rw [hsl] at hlt
        have ey2:y = .str ⟨#[z.cps[i]]⟩:=by
          have q:(signsD z)[i]? = some (.str ⟨#[z.cps[i]]⟩):=by simp [signsD,hlt]
          rw [q] at ey;exact (Option.some.inj ey).symm
        subst ey2
        refine ⟨⟨⟨zs,vx,hs',evx⟩,hlt⟩,fun y' H2 hy=>?_⟩
        obtain ⟨q,v,c,hq1,rfl,rfl,hc,hv⟩:=hy
        have hvx:=hv zs hs'
        rw [evx] at hvx
        cases hvx
        have:z.cps[i]? = some z.cps[i]:=by simp [hlt]
        rw [this] at hc
        cases hc
        exact ⟨bhd_tup bh.1 hq1,.mkTup (SqT.of upd_same) (.cons (dx.evo (evo_new hq1)) (.cons D.mkStr .nil))⟩
    | tup ys =>
      have h1:P (zipD xs ys) (fun _=>True) st1:=h1
      obtain ⟨a2,ws2,ev,hs2',dws2⟩:=dv2.tup
      subst ev
      cases ru2
      obtain ⟨its2,rvs2,pl2,hz2⟩:=I1.tuple hs2'
      have alt2:a2 < s1.heap.objs.size:=by obtain ⟨_,e,_⟩:=pl2;exact Heap.lt_size e
      refine HT.call_zipD iter_tup iter_tup rfl rfl pl (show IsTup _ a2 its2.toArray from let ⟨o,q,r⟩:=pl2;⟨o,Heap.get?_push_of_some _ q,r⟩) fun h' hz' hI' hO' g1 g2 hsz hk=>?_
      refine wpAny_pyIter_zip (s:={ s1 with heap:=h' }) hz' ?_
      have I2:Inv X pins σ H1 { s1 with heap:=h' }:=I1.kept (t':=s1.toks) hk
      refine ⟨s1.heap.objs.size + 4,[s1.heap.objs.size + 4,s1.heap.objs.size + 2,s1.heap.objs.size + 3,s1.heap.objs.size,s1.heap.objs.size + 1],_,_,H1,rfl,I2,turn_zipT a1 (s1.heap.objs.size + 4) (s1.heap.objs.size + 2) (s1.heap.objs.size + 3) s1.heap.objs.size (s1.heap.objs.size + 1) a2 ?_ (Nat.ne_of_lt alt) (Nat.ne_of_lt (Nat.lt_succ_of_lt alt2)),⟨⟨hz',hI',_,_,hO'⟩,⟨_,g1,rfl,rfl⟩,⟨_,g2,rfl,rfl⟩⟩,hfp,hq _ _ st1 h1 φ1 H1 _ b1 ?_⟩
      · have alt':(a1:Nat) < s1.heap.objs.size:=alt
        generalize s1.heap.objs.size=n at *
        refine ⟨?_,?_,?_,?_,?_,?_,?_,?_,?_,?_,?_,?_,?_,?_,?_,?_⟩ <;> (intro q;try simp only [List.mem_cons,List.not_mem_nil,or_false] at q) <;> (revert q alt';try revert alt2) <;> (unfold Addr at *;omega)
      · intro i φ' st' H' bh hok hi
        obtain ⟨a',zs,e2,hs',dl'⟩:=(dv1.evo bh.2).tup
        cases e2
        obtain ⟨b',zs2,e3,hsb,dlb⟩:=(dv2.evo bh.2).tup
        cases e3
        have hlen:=dl'.length
        have hlenb:=dlb.length
        rw [zipD_len] at hi
        refine ⟨fun e=>⟨zs,zs2,hs',hsb,by rw [zipD_len] at e;omega⟩,fun d ed=>?_⟩
        obtain ⟨x,y,ex,ey,rfl⟩:=zipD_get ed
        obtain ⟨vx,evx,dx⟩:=dl'.get ex
        obtain ⟨vy,evy,dy⟩:=dlb.get ey
        refine ⟨⟨⟨zs,vx,hs',evx⟩,⟨zs2,vy,hsb,evy⟩⟩,fun y' H2 hy=>?_⟩
        obtain ⟨q,v,w2,hq1,rfl,rfl,hc,hv⟩:=hy
        have hvx:=hv zs hs'
        rw [evx] at hvx
        cases hvx
        have hvy:=hc zs2 hsb
        rw [evy] at hvy
        cases hvy
        exact ⟨bhd_tup bh.1 hq1,.mkTup (SqT.of upd_same) (.cons (dx.evo (evo_new hq1)) (.cons (dy.evo (evo_new hq1)) .nil))⟩
    | _=>exact h1.elim
  | _=>cases e <;> exact h1.elim
end
end L3
namespace L3
open PySem PySem.Spec PyProof.Rows L2
noncomputable def rShl:RD2:=fun x y st P=>match x,y with
  | .int i,.int j=>CPow i j∧P (.int (i * 2 ^ j.toNat)) st
  | _,_=>False
section
variable {X:Cx} {a b:Expr} {ta tb:TD} {pos:Pos}
theorem od_shl:OpD X (binaryOp .LShift) rShl:=by
  intro pins s σ H v w u1 u2 Q I r1 r2 h
  obtain ⟨φ,st,x,y,P,R,dx,dy,hr,hq⟩:=h
  cases x with
  | int i =>
    cases y with
    | int j=>exact op_shl pins s σ H v w u1 u2 Q I r1 r2 ⟨i,j,dx.int,dy.int,hr.1,Go.here hq R hr.2 D.mkInt⟩
    | _=>exact hr.elim
  | _=>cases y <;> exact hr.elim
theorem dx_shl (ha:DE X a ta) (hb:DE X b tb):DE X (.BinOp a .LShift b pos) (qB rShl ta tb):=de_op od_shl ha hb
end
end L3
namespace L3
open PySem PySem.Spec PyProof.Rows L2
noncomputable def EntsInt (P:Params):List DictEntry→List (Str×Int)→Prop
  | [],[]=>True
  | e :: r,kv :: q=>(∃ t u,e.key = .str kv.1 t∧e.val = .int kv.2 u∧e.hash=PyData.keyHash P kv.1)∧EntsInt P r q
  | _,_=>False
theorem EntsInt.lit {P:Params}:∀ {l:List DictEntry} {kvs:List (Str×Int)},EntsInt P l kvs→PySem.W.KeysLit P l
  | [],[],_=>trivial
  | _ :: _,_ :: _,⟨⟨t,_,h1,_,h3⟩,r⟩=>⟨⟨_,t,h1,h3⟩,r.lit⟩
  | [],_ :: _,h=>h.elim
  | _ :: _,[],h=>h.elim
theorem EntsInt.find {P:Params} (y:Str):∀ {l:List DictEntry} {kvs:List (Str×Int)},EntsInt P l kvs→(kvs.lookup y=none∧(l.find? fun e=>Value.isStrOf y e.key).map (·.val)=none)∨∃ z u,kvs.lookup y=some z∧(l.find? fun e=>Value.isStrOf y e.key).map (·.val)=some (.int z u)
  | [],[],_=>.inl ⟨rfl,rfl⟩
  | e :: r,(k,v) :: q,⟨⟨t,u,h1,h2,h3⟩,hr⟩=>by
    have ih:=EntsInt.find y hr
    have hk:Value.isStrOf y e.key=(k == y):=by rw [h1];rfl
    rw [List.find?_cons,hk,List.lookup_cons]
    have hs:(y == k)=(k == y):=by
      by_cases q:y=k
      · subst q;rfl
      · rw [beq_eq_false_iff_ne.mpr q,beq_eq_false_iff_ne.mpr (Ne.symm q)]
    rw [hs]
    cases k == y with
    | true=>exact .inr ⟨v,u,rfl,by rw [Option.map_some,h2]⟩
    | false=>exact ih
  | [],_ :: _,h=>h.elim
  | _ :: _,[],h=>h.elim
structure TopI (w:World) (K:PySem.W.Frag) (mg:Str→Option Value) (x:Str) (kvs:List (Str×Int)):Prop where
  ex:∃ a es n,mg x=some (.ref a)∧K.lookup a=some ⟨.type "dict",none,.dict es n,#[]⟩∧(a == sysModules)=false∧EntsInt w.params es.toList kvs
noncomputable def itopin (kvs:List (Str×Int)) (ti:TD):TD:=fun ρ st P=>ti ρ st fun y st1=>match y with
  | .str z=>P (.bl (kvs.lookup z).isSome) st1
  | _=>False
section
variable {X:Cx} {i:Expr} {ti:TD} {pos p:Pos} {x:Str} {kvs:List (Str×Int)}
noncomputable def iTopIn (kvs:List (Str×Int)) (ti:TE):TE:=fun σ H Q=>ti σ H fun y H1=>∃ z,y = .str z∧Q (.bl (kvs.lookup z).isSome) H1
theorem pc_itopin {ty:TE} (T:TopI X.w X.K X.mg x kvs) (hi:PE X i ty) (hg:Gl X x) (hd:(x == ("__debug__" : Str))=false):PC X .In i (.Name x p) (iTopIn kvs ty):=by
  obtain ⟨a,es,n,hm,hl,hy,he⟩:=T.ex
  intro pins s σ H Q I h
  refine thn (hi pins s σ H _ I h) fun iv s1 ⟨y,H1,I1,ry,z,ey,q1⟩=>?_
  refine ld_glob I1 hg hm ?_ hd
  subst ey
  obtain ⟨t,rfl⟩:=ry
  have hmap:=PySem.W.mapOf_K (prog:=X.prog) I1.kIn hl he.lit
  refine wpAny_in_of (strKind_is X.prog X.w z t) hy hmap ?_
  have e:(findBy Value.isStrOf es z).isSome=(kvs.lookup z).isSome:=by
    obtain ⟨l⟩:=es
    unfold findBy
    rw [List.find?_toArray]
    rcases he.find z with ⟨e1,e2⟩ | ⟨z',u',e1,e2⟩ <;> rw [e1,e2] <;> rfl
  rw [e]
  exact ⟨.bl _,H1,I1.tok _,rfl,q1⟩
theorem itopin_lift {K:PySem.W.Frag} {σ:L2.St} {H:Hp} {Q:VK} (h:liftE K (itopin kvs ti) σ H Q):iTopIn kvs (liftE K ti) σ H Q:=by
  obtain ⟨φ,st,ρ,P,pre,ht,hq⟩:=h
  refine ⟨φ,st,ρ,_,pre,ht,fun y st1 h1 φ1 H1 v b1 dy=>?_⟩
  cases y with
  | str z =>
    cases dy.str
    exact ⟨z,rfl,hq _ _ h1 _ _ _ b1 D.mkBl⟩
  | _=>exact h1.elim
theorem dtx_itopin (T:TopI X.w X.K X.mg x kvs) (hi:DE X i ti) (hg:Gl X x) (hd:(x == ("__debug__" : Str))=false) (hm:behindInMarks .In (.Name x p)=false):DT X (.Compare i [.In] [.Name x p] pos) (qT (itopin kvs ti)):=(pt_cmp (pc_itopin T hi hg hd) hm).imp fun _ _ _ h=>itopin_lift (bool_lift h)
end
section
variable {X:Cx} {nm:Str} {pos:Pos} {e:Expr} {es:List Expr} {t:TAD}
theorem de_make {k:Nat} {sp:RDL} {p:Pos} (F:MakeOk X.prog X.w X.K X.mg X.base nm k sp) (hr:Room (k + 1) X.A) (ha:DA X (e :: es) t) (hg:Gl X nm) (hdb:(nm == ("__debug__" : Str))=false) (he:starEach (e :: es) X.env=(false,eval e X.env) :: starEach es X.env) (hpl:(backTo pos (starEach es X.env)).any (·.1)=false):DE X (.Call (.Name nm p) (e :: es) [] pos) (tmake nm sp t):=by
  obtain ⟨C,f,fd,ps,h1,h2,h3,h4,h5⟩:=F.ex
  exact (pe_make h3 h4 hr hg h2 h5 .nil pass0 ha hdb he hpl).imp fun σ H Q h=>make_lift h1 h
end
end L3
namespace K01
open PySem L2 L3
end K01
set_option maxHeartbeats 1000000
namespace K02
open PySem L2 L3
noncomputable abbrev cs (z:Str):List Nat:=z.cps.toList
noncomputable abbrev one (c:Nat):Str:=⟨#[c]⟩
end K02
namespace K85
open PySem L2 L3 K02
noncomputable def formS:List (Str×Str):=[("num", "dn"),("yes", "d"),("no", "d"),("box", "dn"),("mark", "dn"),("add", "dxx"),("sub", "dxx"),("mul", "dxx"),("over", "dxx"),("under", "dxx"),("wide", "dxx"),("rest", "dxx"),("nought", "dx"),("high", "dx"),("keep", "sx"),("load", "ds"),("get", "dxxe"),("set", "xxxee"),("div", "dxxe"),("tell", "x"),("hear", "d"),("right", "xxe"),("out", "e"),("when", "xee"),("back", "ee")]
structure Rw where
  w:Str
  xs:List Int
noncomputable def rowD (r:Rw):Dt:=.tup (.str r.w :: r.xs.map .int)
noncomputable def form (w:Str):Str:=(formS.lookup w).getD ""
structure OkR (r:Rw):Prop where
  know:formS.lookup r.w=some (form r.w)
  len:r.xs.length=(form r.w).length
noncomputable def partsOf (f:Str) (xs:List Int) (sign:Str):List Int:=((xs.zip (cs f)).filter fun p=>one p.2 == sign).map (·.1)
theorem form_all:formS.all (fun p=>(p.2.cps.all fun c=>decide (c < 128)) && decide (p.2.length≤5))=true:=by decide +kernel
theorem lookup_mem {α β:Type} [BEq α] [LawfulBEq α]:∀ {l:List (α×β)} {a:α} {b:β},l.lookup a=some b→(a,b) ∈ l
  | [],_,_,h=>by cases h
  | (x,y) :: l,a,b,h=>by
    rw [List.lookup_cons] at h
    cases e:(a == x) with
    | true =>
      rw [e] at h
      have:a=x:=eq_of_beq e
      subst this
      cases h;exact List.mem_cons_self
    | false =>
      rw [e] at h
      exact List.mem_cons_of_mem _ (lookup_mem h)
theorem form_ok {w f:Str} (h:formS.lookup w=some f):(f.cps.all fun c=>decide (c < 128))=true∧f.length≤5:=by
  have:=List.all_eq_true.mp form_all _ (lookup_mem h)
  simp only [Bool.and_eq_true,decide_eq_true_eq] at this
  exact this
theorem ok_of {w f:Str} {xs:List Int} (h:formS.lookup w=some f) (hl:xs.length=f.length):OkR ⟨w,xs⟩:=by
  have e:form w=f:=by unfold form;rw [h];rfl
  exact ⟨by show formS.lookup w=some (form w);rw [e];exact h,by show xs.length=(form w).length;rw [e];exact hl⟩
noncomputable def spParts:RDL:=fun ds st P=>∃ (r:Rw) (sign:Str),ds=[rowD r,.str sign]∧OkR r∧∀ st',ExtS st st'→P (.tup ((partsOf (form r.w) r.xs sign).map .int)) st'
noncomputable def spCellAt:RDL:=fun ds st P=>∃ (sc k:Nat) (ns:List Int),ds=[.lst sc,.int (k:Int)]∧st[sc]? = some (.ro (ns.map .int))∧∀ x:Int,P (.int x) st
noncomputable def PIn (ps bs:List Int):Prop:=ps.length=bs.length∧∀ (i:Nat) p b,ps[i]? = some p→bs[i]? = some b→0≤p∧p < b
noncomputable def spIsNum:RDL:=fun ds st P=>∃ i:Int,ds=[.int i]∧P (.bl true) st
end K85
namespace KH
open PySem L2 L3
end KH
namespace K19
open PySem L2 L3 KH
end K19
namespace KH
open PySem PySem.Spec PyProof.Rows L2 L3
theorem iteB {b:Bool} {A B:Prop} (h:b=true) (a:A):if b=true then A else B:=by rw [if_pos h];exact a
theorem iteBF {b:Bool} {A B:Prop} (h:b=false) (a:B):if b=true then A else B:=by rw [if_neg (by rw [h];exact Bool.false_ne_true)];exact a
end KH
namespace K01
open PySem PySem.Spec PyProof.Rows L2 L3
end K01
namespace KS
end KS
namespace KS
open PySem L2 L3 KH
end KS
namespace K15
open PySem L2 L3 KH KS
end K15
namespace KS
open PySem PySem.Spec PyProof.Rows L2 L3 KH
theorem pickAt {st:Sto} {m:Nat} {xs:List Dt} {v:Int} {d:Dt} {P:VD} (e:st[m]? = some (.rw xs)) (a:atI xs v=some d) (h:P d st):qI (.lst m) (.int v) st P:=by
  simp only [qI,seqOf,e,Option.map_some,SO.items,a]
  exact h
theorem pickS {st:Sto} {m:Nat} {xs:List Dt} {v:Int} {d:Dt} {P:VD} (e:seqOf st (.lst m)=some xs) (a:atI xs v=some d) (h:P d st):qI (.lst m) (.int v) st P:=by
  simp only [qI,e,a]
  exact h
theorem atI_of {xs:List Dt} {v:Int} (h0:0≤v) (h1:v < xs.length):∃ d,atI xs v=some d∧d ∈ xs∧xs[v.toNat]? = some d:=by
  have hl:v.toNat < xs.length:=by omega
  refine ⟨xs[v.toNat],?_,List.getElem_mem hl,List.getElem?_eq_getElem hl⟩
  unfold atI ixN
  rw [if_pos h0,if_pos h1]
  exact List.getElem?_eq_getElem hl
theorem pickTA {st:Sto} {xs:List Dt} {v:Int} {d:Dt} {P:VD} (a:atI xs v=some d) (h:P d st):qI (.tup xs) (.int v) st P:=by
  simp only [qI,seqOf,a]
  exact h
theorem all_ints (xs:List Int) (n:Nat):(xs.map Dt.int).all (okD n)=true:=by
  rw [List.all_map]
  exact List.all_eq_true.mpr fun x _=>by cases n <;> rfl
end KS
namespace KW
inductive Op2 | add | sub | mul | over | under | wide | rest
inductive Vl where
  | n (i:Int) | b (k:Bool) | non
noncomputable def two (w:Op2) (x y:Int):Vl:=match w with
  | .add=>.n ((x + y) % 65536)
  | .sub=>.n ((x - y) % 65536)
  | .mul=>.n (x * y % 65536)
  | .over=>.b (decide (65536≤x + y))
  | .under=>.b (decide (x < y))
  | .wide=>.b (decide (65536≤x * y))
  | .rest=>.b (decide (y≠0) && decide (x % y≠0))
end KW
namespace K20
open PySem L2 L3 KH KW
noncomputable def nm:Op2→Str
  | .add => "add" | .sub => "sub" | .mul => "mul" | .over => "over" | .under => "under" | .wide => "wide" | .rest => "rest"
noncomputable def vD:Vl→Dt
  | .n i=>.int i
  | .b k=>.bl k
  | .non=>.non
noncomputable def Has (st:Sto) (n:Nat) (xs:List Dt):Prop:=∃ o,st[n]? = some o∧o.items=xs
theorem Has.ext {st st':Sto} {n:Nat} {xs:List Dt} (h:Has st n xs) (e:ExtS st st'):Has st' n xs:=by
  obtain ⟨o,a,b⟩:=h;exact ⟨o,e _ _ a,b⟩
noncomputable def spPlain:RDL:=fun ds st P=>∃ (w:Op2) (x y:Int),ds=[.str (nm w),.int x,.int y]∧(w = .add∨w = .sub∨w = .mul)∧0≤x∧x < 65536∧P (.int (match w with | .add=>x + y | .sub=>x - y | _=>x * y)) st
noncomputable def spMade:RDL:=fun ds st P=>∃ (w:Str) (n:Nat),ds=[.str w,.lst n] ∧
  ((w = "yes" ∧ P (.bl true) st)∨(w = "no" ∧ P (.bl false) st)∨(∃ x:Int,Has st n [.int x]∧((w = "nought" ∧ P (.bl (decide (x=0))) st)∨(w = "high" ∧ P (.bl (decide (32768≤x))) st))) ∨
   ∃ (o:Op2) (x y:Int),w=nm o∧Has st n [.int x,.int y]∧0≤x∧x < 65536∧0≤y∧y < 65536∧P (vD (two o x y)) st)
end K20
namespace K20
open PySem PySem.Spec PyProof.Rows L2 L3 KH KS KW
noncomputable abbrev t_plain_outcome:TSD:=(qS (qJ (qT (qB (qQ false) (qV 0) (qK (Dt.str (Str.ofString "add"))))) (qS (qR (qB L3.rAdd (qV 1) (qV 2))) qN) qN) (qS (qJ (qT (qB (qQ false) (qV 0) (qK (Dt.str (Str.ofString "sub"))))) (qS (qR (qB L3.rSub (qV 1) (qV 2))) qN) qN) (qS (qR (qB rMul (qV 1) (qV 2))) qN)))
noncomputable abbrev t_made_of:TSD:=(qS (qJ (qT (qB (rInD false) (qV 0) (qU (qA (qK (Dt.str (Str.ofString "yes"))) (qA (qK (Dt.str (Str.ofString "no"))) qZ))))) (qS (qR (qB (qQ false) (qV 0) (qK (Dt.str (Str.ofString "yes"))))) qN) qN) (qS (qE (qB qI (qV 1) (qK (Dt.int 0))) (qG 2)) (qS (qJ (qT (qB (qQ false) (qV 0) (qK (Dt.str (Str.ofString "nought"))))) (qS (qR (qB (qQ false) (qV 2) (qK (Dt.int 0)))) qN) qN) (qS (qJ (qT (qB (qQ false) (qV 0) (qK (Dt.str (Str.ofString "high"))))) (qS (qR (qB (rCmpI fun i j=>decide (j≤i)) (qV 2) (qK (Dt.int 32768)))) qN) qN) (qS (qE (qB qI (qV 1) (qK (Dt.int 1))) (qG 3)) (qS (qJ (qT (qB (qQ false) (qV 0) (qK (Dt.str (Str.ofString "over"))))) (qS (qR (qB (rCmpI fun i j=>decide (j≤i)) (qB L3.rAdd (qV 2) (qV 3)) (qK (Dt.int 65536)))) qN) qN) (qS (qJ (qT (qB (qQ false) (qV 0) (qK (Dt.str (Str.ofString "under"))))) (qS (qR (qB (rCmpI fun i j=>decide (i < j)) (qV 2) (qV 3))) qN) qN) (qS (qJ (qT (qB (qQ false) (qV 0) (qK (Dt.str (Str.ofString "wide"))))) (qS (qR (qB (rCmpI fun i j=>decide (j≤i)) (qB rMul (qV 2) (qV 3)) (qK (Dt.int 65536)))) qN) qN) (qS (qJ (qT (qB (qQ false) (qV 0) (qK (Dt.str (Str.ofString "rest"))))) (qS (qR (tandV (qB (qQ true) (qV 3) (qK (Dt.int 0))) (qB (qQ true) (qB rMod (qV 2) (qV 3)) (qK (Dt.int 0))))) qN) qN) (qS (qR (qB rMod (qF spPlain (qA (qV 0) (qA (qV 2) (qA (qV 3) qZ)))) (qK (Dt.int 65536)))) qN))))))))))
theorem seq_has {st:Sto} {n:Nat} {xs:List Dt} (h:Has st n xs):seqOf st (.lst n)=some xs:=by
  obtain ⟨o,a,b⟩:=h
  show (st[n]?).map SO.items=_
  rw [a,← b];rfl
theorem rd_plain_outcome {ds:List Dt} {st:Sto} {Pd:VD} (h:spPlain ds st Pd):t_plain_outcome (Ed Pd) (qW ["word", "x", "y"] ds) st:=by
  obtain ⟨w,x,y,rfl,hw,x0,x1,hP⟩:=h
  rcases hw with rfl | rfl | rfl
  · refine ⟨rfl,rfl,iteB (by decide +kernel) hP⟩
  · refine ⟨rfl,rfl,iteBF (by decide +kernel) ?_⟩
    exact ⟨rfl,rfl,iteB (by decide +kernel) hP⟩
  · refine ⟨rfl,rfl,iteBF (by decide +kernel) ?_⟩
    refine ⟨rfl,rfl,iteBF (by decide +kernel) ?_⟩
    exact ⟨cmul_l x0 (by omega),hP⟩
noncomputable def mtail1:TSD:=(qS (qE (qB qI (qV 1) (qK (Dt.int 0))) (qG 2)) (qS (qJ (qT (qB (qQ false) (qV 0) (qK (Dt.str (Str.ofString "nought"))))) (qS (qR (qB (qQ false) (qV 2) (qK (Dt.int 0)))) qN) qN) (qS (qJ (qT (qB (qQ false) (qV 0) (qK (Dt.str (Str.ofString "high"))))) (qS (qR (qB (rCmpI fun i j=>decide (j≤i)) (qV 2) (qK (Dt.int 32768)))) qN) qN) (qS (qE (qB qI (qV 1) (qK (Dt.int 1))) (qG 3)) (qS (qJ (qT (qB (qQ false) (qV 0) (qK (Dt.str (Str.ofString "over"))))) (qS (qR (qB (rCmpI fun i j=>decide (j≤i)) (qB L3.rAdd (qV 2) (qV 3)) (qK (Dt.int 65536)))) qN) qN) (qS (qJ (qT (qB (qQ false) (qV 0) (qK (Dt.str (Str.ofString "under"))))) (qS (qR (qB (rCmpI fun i j=>decide (i < j)) (qV 2) (qV 3))) qN) qN) (qS (qJ (qT (qB (qQ false) (qV 0) (qK (Dt.str (Str.ofString "wide"))))) (qS (qR (qB (rCmpI fun i j=>decide (j≤i)) (qB rMul (qV 2) (qV 3)) (qK (Dt.int 65536)))) qN) qN) (qS (qJ (qT (qB (qQ false) (qV 0) (qK (Dt.str (Str.ofString "rest"))))) (qS (qR (tandV (qB (qQ true) (qV 3) (qK (Dt.int 0))) (qB (qQ true) (qB rMod (qV 2) (qV 3)) (qK (Dt.int 0))))) qN) qN) (qS (qR (qB rMod (qF spPlain (qA (qV 0) (qA (qV 2) (qA (qV 3) qZ)))) (qK (Dt.int 65536)))) qN)))))))))
theorem made_1 {E:EndsD} {st:Sto} {w:Str} {n:Nat} {a3:Option Dt} {x:Int} {r:List Dt} (hx:Has st n (.int x :: r)) (h:(w = "nought" ∧ E.rt (.bl (decide (x=0))) st)∨(w = "high" ∧ E.rt (.bl (decide (32768≤x))) st)) :
    mtail1 E [some (.str w),some (.lst n),none,a3] st:=by
  simp only [mtail1,qS,qE,qB,qV,qK,qG,List.getElem?_cons_zero,List.getElem?_cons_succ,List.set_cons_zero,List.set_cons_succ]
  refine pickS (seq_has hx) (d:=.int x) (by simp [atI,ixN]) ?_
  rcases h with ⟨rfl,h⟩ | ⟨rfl,h⟩
  · refine ⟨rfl,rfl,iteB (by decide +kernel) ?_⟩
    refine ⟨rfl,rfl,?_⟩
    have e:(eqD 8 (Dt.int x) (Dt.int 0) != false)=decide (x=0):=by
      rw [bne_false']
      rfl
    show E.rt (.bl (eqD 8 (Dt.int x) (Dt.int 0) != false)) st
    rw [e];exact h
  · refine ⟨rfl,rfl,iteBF (by decide +kernel) ?_⟩
    refine ⟨rfl,rfl,iteB (by decide +kernel) ?_⟩
    exact h
theorem made_2 {E:EndsD} {st:Sto} {o:Op2} {n:Nat} {a3:Option Dt} {x y:Int} (hx:Has st n [.int x,.int y]) (x0:0≤x) (x1:x < 65536) (y0:0≤y) (y1:y < 65536) (h:E.rt (vD (two o x y)) st) :
    mtail1 E [some (.str (nm o)),some (.lst n),none,a3] st:=by
  simp only [mtail1,qS,qE,qB,qV,qK,qG,List.getElem?_cons_zero,List.getElem?_cons_succ,List.set_cons_zero,List.set_cons_succ]
  refine pickS (seq_has hx) (d:=.int x) rfl ?_
  have n1:(eqD 8 (Dt.str (nm o)) (Dt.str "nought") != false)=false:=by cases o <;> decide +kernel
  have n2:(eqD 8 (Dt.str (nm o)) (Dt.str "high") != false)=false:=by cases o <;> decide +kernel
  refine ⟨rfl,rfl,iteBF n1 ?_⟩
  refine ⟨rfl,rfl,iteBF n2 ?_⟩
  refine pickS (seq_has hx) (d:=.int y) rfl ?_
  cases o with
  | add =>
    refine ⟨rfl,rfl,iteBF (by decide +kernel) ?_⟩
    refine ⟨rfl,rfl,iteBF (by decide +kernel) ?_⟩
    refine ⟨rfl,rfl,iteBF (by decide +kernel) ?_⟩
    refine ⟨rfl,rfl,iteBF (by decide +kernel) ?_⟩
    exact ⟨.add,x,y,rfl,.inl rfl,x0,x1,by decide,h⟩
  | sub =>
    refine ⟨rfl,rfl,iteBF (by decide +kernel) ?_⟩
    refine ⟨rfl,rfl,iteBF (by decide +kernel) ?_⟩
    refine ⟨rfl,rfl,iteBF (by decide +kernel) ?_⟩
    refine ⟨rfl,rfl,iteBF (by decide +kernel) ?_⟩
    exact ⟨.sub,x,y,rfl,.inr (.inl rfl),x0,x1,by decide,h⟩
  | mul =>
    refine ⟨rfl,rfl,iteBF (by decide +kernel) ?_⟩
    refine ⟨rfl,rfl,iteBF (by decide +kernel) ?_⟩
    refine ⟨rfl,rfl,iteBF (by decide +kernel) ?_⟩
    refine ⟨rfl,rfl,iteBF (by decide +kernel) ?_⟩
    exact ⟨.mul,x,y,rfl,.inr (.inr rfl),x0,x1,by decide,h⟩
  | over=>exact ⟨rfl,rfl,iteB (by decide +kernel) h⟩
  | under =>
    refine ⟨rfl,rfl,iteBF (by decide +kernel) ?_⟩
    exact ⟨rfl,rfl,iteB (by decide +kernel) h⟩
  | wide =>
    refine ⟨rfl,rfl,iteBF (by decide +kernel) ?_⟩
    refine ⟨rfl,rfl,iteBF (by decide +kernel) ?_⟩
    exact ⟨rfl,rfl,iteB (by decide +kernel) ⟨cmul_l x0 (by omega),h⟩⟩
  | rest =>
    refine ⟨rfl,rfl,iteBF (by decide +kernel) ?_⟩
    refine ⟨rfl,rfl,iteBF (by decide +kernel) ?_⟩
    refine ⟨rfl,rfl,iteBF (by decide +kernel) ?_⟩
    refine ⟨rfl,rfl,iteB (by decide +kernel) ?_⟩
    refine ⟨rfl,rfl,?_⟩
    by_cases hy:y=0
    · subst hy
      exact h
    · have e:(eqD 8 (Dt.int y) (Dt.int 0) != true)=true:=by
        show ((y == 0) != true)=true
        rw [beq_eq_false_iff_ne.mpr hy];rfl
      rw [e]
      refine ⟨by omega,rfl,rfl,?_⟩
      have e2:(eqD 8 (Dt.int (x % y)) (Dt.int 0) != true)=(decide (y≠0) && decide (x % y≠0)):=by
        rw [decide_eq_true hy,Bool.true_and]
        show ((x % y == 0) != true)=_
        by_cases hr:x % y=0
        · rw [hr];rfl
        · rw [beq_eq_false_iff_ne.mpr hr,decide_eq_true hr];rfl
      rw [e2]
      exact h
theorem rd_made_of {ds:List Dt} {st:Sto} {Pd:VD} (h:spMade ds st Pd):t_made_of (Ed Pd) (qW ["word", "named", "x", "y"] ds) st:=by
  obtain ⟨w,n,rfl,h⟩:=h
  refine ⟨by show 2≤sizeLine;decide,rfl,by decide,?_⟩
  rcases h with ⟨rfl,h⟩ | ⟨rfl,h⟩ | ⟨x,hx,h⟩ | ⟨o,x,y,rfl,hx,x0,x1,y0,y1,h⟩
  · exact iteB (by decide +kernel) ⟨rfl,rfl,h⟩
  · exact iteB (by decide +kernel) ⟨rfl,rfl,h⟩
  · refine iteBF (by rcases h with ⟨rfl,_⟩ | ⟨rfl,_⟩ <;> decide +kernel) ?_
    exact made_1 (E:=Ed Pd) hx h
  · refine iteBF (by cases o <;> decide +kernel) ?_
    exact made_2 (E:=Ed Pd) hx x0 x1 y0 y1 h
end K20
namespace K20
open PySem PySem.Spec PyProof.Rows L2 L3 KH KS KW
end K20
namespace KW
end KW
namespace K19
open PySem PySem.Spec PyProof.Rows L2 L3 KH
end K19
namespace K20
open PySem PySem.Spec PyProof.Rows L2 L3 KH KS KW
end K20
namespace K20
open PySem PySem.Spec PyProof.Rows L2 L3 KH KS KW
end K20
namespace K06
open PySem L2 L3
noncomputable abbrev M3:=Bool×Bool×Bool
structure GS where
  p:Int
  bs:List Int
  m:M3
  sv:Option (Int×M3)
  rs:List Int
  cs:List Int
noncomputable def msD (m:M3):Dt:=.tup [.bl m.1,.bl m.2.1,.bl m.2.2]
noncomputable def svD:Option (Int×M3)→Dt
  | none=>.non
  | some (q,m)=>.tup [.int q,msD m]
noncomputable def GS.d (g:GS):Dt:=.tup [.int g.p,.tup (g.bs.map .int),msD g.m,svD g.sv,.tup (g.rs.map .int),.tup (g.cs.map .int)]
structure GS.Ok (g:GS):Prop where
  p0:0≤g.p
  b8:g.bs.length=8
  bb:∀ v ∈ g.bs,0≤v∧v < 65536
  c8:g.cs.length=8 * g.rs.length
  cm:g.cs.length≤128
  cb:∀ v ∈ g.cs,0≤v∧v < 65536
  rb:∀ v ∈ g.rs,0≤v∧v < 8
noncomputable def may (r:Int) (g:GS) (a:Int):Bool:=(decide (0≤a) && decide (a < g.cs.length)) && decide (g.rs.getD (a / 8).toNat 0 / r % 2=1)
noncomputable def next (g:GS):GS:={ g with p:=(g.p + 1) % 65536 }
noncomputable def boxG (g:GS) (a v:Int):GS:={ next g with bs:=g.bs.set a.toNat v }
noncomputable def outG (g:GS) (a v:Int) (k:Bool):GS:={ boxG g a v with m:=(decide (v=0),decide (32768≤v),k) }
noncomputable abbrev Res:=Str×GS×List Int
noncomputable def resD (r:Res):Dt:=.tup [.str r.1,r.2.1.d,.tup (r.2.2.map .int)]
noncomputable def onG (g:GS):Res:=("on",g,[])
noncomputable def leftG (h:Str) (g:GS):Res:=(h,g,[])
noncomputable def divG (g:GS) (a x y:Int):Res:=if y=0 then leftG "nought" g else onG (outG g a (x / y) (decide (x % y≠0)))
noncomputable def getG (g:GS) (a q:Int):Res:=if may 1 g q=true then onG (boxG g a (g.cs.getD q.toNat 0)) else leftG "closed" g
noncomputable def setG (g:GS) (v q:Int):Res:=if may 2 g q=true then onG { next g with cs:=g.cs.set q.toNat v } else leftG "closed" g
noncomputable def rightG (g:GS) (q r:Int):Res:=if 0≤q∧q < g.rs.length then onG { next g with rs:=g.rs.set q.toNat r } else leftG "closed" g
noncomputable def spReplaced:RDL:=fun ds st P=>∃ (xs:List Dt) (k:Int) (d:Dt),ds=[.tup xs,.int k,d]∧0≤k∧k < xs.length∧xs.length≤200∧P (.tup (xs.set k.toNat d)) st
noncomputable def spMay:RDL:=fun ds st P=>∃ (r:Int) (g:GS) (a:Int),ds=[.int r,g.d,.int a]∧g.Ok∧(r=1∨r=2∨r=4)∧P (.bl (may r g a)) st
noncomputable def spMoved:RDL:=fun ds st P=>∃ (g:GS) (q:Int),ds=[g.d,.int q]∧P ({ g with p:=q % 65536 }:GS).d st
noncomputable def spOneOn:RDL:=fun ds st P=>∃ g:GS,ds=[g.d]∧P (next g).d st
noncomputable def spWithBox:RDL:=fun ds st P=>∃ (g:GS) (a v:Int),ds=[g.d,.int a,.int v]∧g.bs.length=8∧0≤a∧a < 8∧P (boxG g a v).d st
noncomputable def spWithOut:RDL:=fun ds st P=>∃ (g:GS) (a v:Int) (k:Bool),ds=[g.d,.int a,.int v,.bl k]∧g.bs.length=8∧0≤a∧a < 8∧P (outG g a v k).d st
noncomputable def spLeft:RDL:=fun ds st P=>∃ (h:Str) (d:Dt),ds=[.str h,d]∧P (.tup [.str h,d,.tup []]) st
noncomputable def spOn:RDL:=fun ds st P=>∃ d:Dt,ds=[d]∧P (.tup [.str "on",d,.tup []]) st
noncomputable def spDiv:RDL:=fun ds st P=>∃ (g:GS) (a x y:Int),ds=[g.d,.int a,.int x,.int y]∧g.bs.length=8∧0≤a∧a < 8∧0≤y∧y < 65536∧P (resD (divG g a x y)) st
noncomputable def spGet:RDL:=fun ds st P=>∃ (g:GS) (a q:Int),ds=[g.d,.int a,.int q]∧g.Ok∧0≤a∧a < 8∧P (resD (getG g a q)) st
noncomputable def spSet:RDL:=fun ds st P=>∃ (g:GS) (v q:Int),ds=[g.d,.int v,.int q]∧g.Ok∧P (resD (setG g v q)) st
noncomputable def spRightW:RDL:=fun ds st P=>∃ (g:GS) (q r:Int),ds=[g.d,.int q,.int r]∧g.Ok∧P (resD (rightG g q r)) st
end K06
namespace KD
open PySem L2 L3 KH KS KW K20 K06
inductive IW | get | set | div | tell | hear | right
noncomputable def iw:IW→Str
  | .get => "get" | .set => "set" | .div => "div" | .tell => "tell" | .hear => "hear" | .right => "right"
noncomputable def arity:IW→Nat
  | .get=>2 | .set=>3 | .div=>2 | .tell=>1 | .hear=>0 | .right=>2
noncomputable def brings:IW→Bool
  | .get=>true | .div=>true | .hear=>true | _=>false
noncomputable def brgD:List Dt:=[.str "get",.str "div",.str "hear"]
noncomputable def brgS:List Str:=["get", "div", "hear"]
noncomputable def itemG (g:GS) (w:IW) (ps:List Int) (h:Int):Res:=match w with
  | .get=>getG g 0 (ps.getD 0 0 + ps.getD 1 0)
  | .set=>setG g (ps.getD 2 0) (ps.getD 0 0 + ps.getD 1 0)
  | .div=>divG g 0 (ps.getD 0 0) (ps.getD 1 0)
  | .right=>rightG g (ps.getD 0 0) (ps.getD 1 0)
  | .hear=>onG (boxG g 0 h)
  | .tell=>("on",g,[ps.getD 0 0])
noncomputable def spDoItem:RDL:=fun ds st P=>∃ (g:GS) (w:IW) (p:Nat) (ps:List Int) (h:Int),ds=[g.d,.str (iw w),.lst p,.int h]∧st[p]? = some (.rw (ps.map .int))∧ps.length=arity w∧(∀ v ∈ ps,0≤v∧v < 65536)∧g.Ok∧P (resD (itemG g w ps h)) st
noncomputable def shutB (w:IW) (ps wt:List Int):Bool:=(match w with | .set=>true | _=>false) && (wt.map Dt.int).any (fun z=>eqD 0 z (.int ((ps.getD 0 0 + ps.getD 1 0) / 8)))
noncomputable def spShutting:RDL:=fun ds st P=>∃ (w:IW) (p:Nat) (ps wt:List Int),ds=[.str (iw w),.lst p,.tup (wt.map .int)]∧st[p]? = some (.rw (ps.map .int))∧ps.length=arity w∧wt.length≤100∧P (.bl (shutB w ps wt)) st
end KD
namespace KM
open PySem L2 L3 K02 K85 K06
structure Hd where
  hk:List (Key×Dt)
  sk:List (Key×Dt)
  bx:List Int
  ms:M3
noncomputable def inH (H:Hd) (x:Int):Dt:=(valD H.hk (.inl x)).getD (.int 0)
noncomputable def onS (H:Hd) (s:Int):Dt:=(valD H.sk (.inl s)).getD (.int 0)
noncomputable def setH (H:Hd) (d:Int) (v:Dt):Hd:={ H with hk:=putD H.hk (.inl d) v }
noncomputable def setS (H:Hd) (s:Int) (v:Dt):Hd:={ H with sk:=putD H.sk (.inl s) v }
noncomputable def mL (m:M3):List Dt:=[.bl m.1,.bl m.2.1,.bl m.2.2]
noncomputable def fldsH (h s:Nat) (b:List Int) (m:M3):List (Str×Dt):=[("hands",.dic h),("shelf",.dic s),("boxes",.tup (b.map .int)),("marks",msD m)]
structure HoldAt (st:Sto) (n h s:Nat) (H:Hd):Prop where
  ob:st[n]? = some (.ob "Hold" (fldsH h s H.bx H.ms))
  hd:st[h]? = some (.dc H.hk)
  sh:st[s]? = some (.dc H.sk)
  ne:h≠s
noncomputable def ExtH (h s:Nat) (st st':Sto):Prop:=∀ (j:Nat) o,j≠h→j≠s→st[j]? = some o→st'[j]? = some o
inductive Puts (H:Hd):Rw→Hd→Prop
  | keep (s x:Int):Puts H ⟨"keep",[s,x]⟩ (setS H s (inH H x))
  | load (d s:Int):Puts H ⟨"load",[d,s]⟩ (setH H d (onS H s))
  | num (d v:Int):Puts H ⟨"num",[d,v]⟩ (setH H d (.int v))
  | box (d:Int) (k:Nat) (v:Int):H.bx[k]? = some v→Puts H ⟨"box",[d,(k:Int)]⟩ (setH H d (.int v))
  | mark (d:Int) (k:Nat) (v:Dt):(mL H.ms)[k]? = some v→Puts H ⟨"mark",[d,(k:Int)]⟩ (setH H d v)
  | yes (d:Int):Puts H ⟨"yes",[d]⟩ (setH H d (.bl true))
  | no (d:Int):Puts H ⟨"no",[d]⟩ (setH H d (.bl false))
  | nought (d x a:Int):inH H x = .int a→Puts H ⟨"nought",[d,x]⟩ (setH H d (.bl (decide (a=0))))
  | high (d x a:Int):inH H x = .int a→Puts H ⟨"high",[d,x]⟩ (setH H d (.bl (decide (32768≤a))))
  | two (o:KW.Op2) (d x y a b:Int):inH H x = .int a→inH H y = .int b→0≤a→a < 65536→0≤b→b < 65536→Puts H ⟨K20.nm o,[d,x,y]⟩ (setH H d (K20.vD (KW.two o a b)))
noncomputable def spHInit:RDL:=fun ds st P=>∃ (n:Nat) (b:List Int) (m:M3),ds=[.ins n,.tup (b.map .int),msD m]∧st[n]? = some (.ob "Hold" [])∧∀ st' h s,HoldAt st' n h s ⟨[],[],b,m⟩→st.length≤h→st.length≤s→(∀ (j:Nat) o,j≠n→st[j]? = some o→st'[j]? = some o)→P .non st'
noncomputable def spInHand:RDL:=fun ds st P=>∃ (n h s:Nat) (H:Hd) (x:Int),ds=[.ins n,.int x]∧HoldAt st n h s H∧P (inH H x) st
noncomputable def spOnShelf:RDL:=fun ds st P=>∃ (n h s:Nat) (H:Hd) (x:Int),ds=[.ins n,.int x]∧HoldAt st n h s H∧P (onS H x) st
inductive Srcs (H:Hd) (old:List Dt):Dt→Dt→Prop
  | hand (x:Int):Srcs H old (.tup [.str "hand",.int x]) (inH H x)
  | shelf (x:Int):Srcs H old (.tup [.str "shelf",.int x]) (onS H x)
  | old (k:Nat) (d:Dt):old[k]? = some d→Srcs H old (.tup [.str "old",.int (k:Int)]) d
noncomputable def spHSource:RDL:=fun ds st P=>∃ (n h s:Nat) (H:Hd) (src:Dt) (old:List Dt) (v:Dt),ds=[.ins n,src,.tup old]∧HoldAt st n h s H∧Srcs H old src v∧P v st
noncomputable def spPut:RDL:=fun ds st P=>∃ (n h s:Nat) (H H':Hd) (r:Rw),ds=[.ins n,rowD r]∧HoldAt st n h s H∧H.hk.length < 1000∧H.sk.length < 1000∧OkR r∧Puts H r H'∧∀ st',HoldAt st' n h s H'→ExtH h s st st'→P .non st'
inductive Last (H:Hd) (sv:Option (Int×M3)):Rw→Int→Prop
  | out (e:Int):Last H sv ⟨"out",[e]⟩ e
  | back (e f:Int):Last H sv ⟨"back",[e,f]⟩ (if sv.isNone then e else f)
  | whn (x e f:Int) (t:Bool):inH H x = .bl t→Last H sv ⟨"when",[x,e,f]⟩ (if t then e else f)
noncomputable def spNumOut:RDL:=fun ds st P=>∃ (r:Rw) (p:Nat) (sv:Option (Int×M3)) (H:Hd) (e:Int),ds=[rowD r,.lst p,svD sv]∧st[p]? = some (.rw ((partsOf (form r.w) r.xs "x").map (inH H)))∧Last H sv r e∧P (.int e) st
structure Ex where
  how:Str
  at_:Dt
  bs:List Dt
  ms:List Dt
  n:Int
noncomputable def exD (e:Ex):Dt:=.tup [.str e.how,e.at_,.tup e.bs,.tup e.ms,.int e.n]
noncomputable def AllS (H:Hd) (old ss vs:List Dt):Prop:=vs.length=ss.length∧∀ (i:Nat) s v,ss[i]? = some s→vs[i]? = some v→Srcs H old s v
inductive At (H:Hd):Dt→Int→Prop
  | int (p:Int):At H (.int p) p
  | hand (w:Str) (x p:Int):inH H x = .int p→At H (.tup [.str w,.int x]) p
inductive Outs (H:Hd) (g:GS) (e:Ex):Bool→GS→Prop
  | back (q:Int) (m:M3) (vs:List Int):g.sv=some (q,m)→AllS H (H.bx.map .int) e.bs (vs.map .int)→Outs H g e true ⟨q,vs,m,none,g.rs,g.cs⟩
  | go (p:Int) (vs:List Int) (m:M3):At H e.at_ p→AllS H (H.bx.map .int) e.bs (vs.map .int)→AllS H (mL H.ms) e.ms (mL m)→Outs H g e false ⟨p % 65536,vs,m,g.sv,g.rs,g.cs⟩
noncomputable def spStateOut:RDL:=fun ds st P=>∃ (e:Ex) (g g':GS) (n h s:Nat) (H:Hd) (k:Bool),ds=[exD e,g.d,.ins n,.bl k]∧HoldAt st n h s H∧e.bs.length≤100∧e.ms.length≤100∧Outs H g e k g'∧∀ st',ExtS st st'→P g'.d st'
inductive ItR (H:Hd):Rw→KD.IW→List Int→Int→Prop
  | get (d x y e a b:Int):inH H x = .int a→inH H y = .int b→ItR H ⟨"get",[d,x,y,e]⟩ .get [a,b] d
  | set (x y z e f a b c:Int):inH H x = .int a→inH H y = .int b→inH H z = .int c→ItR H ⟨"set",[x,y,z,e,f]⟩ .set [a,b,c] 0
  | div (d x y e a b:Int):inH H x = .int a→inH H y = .int b→ItR H ⟨"div",[d,x,y,e]⟩ .div [a,b] d
  | tell (x a:Int):inH H x = .int a→ItR H ⟨"tell",[x]⟩ .tell [a] 0
  | hear (d:Int):ItR H ⟨"hear",[d]⟩ .hear [] d
  | right (x y e a b:Int):inH H x = .int a→inH H y = .int b→ItR H ⟨"right",[x,y,e]⟩ .right [a,b] 0
structure Ms where
  g:GS
  H:Hd
  told:List Int
  heard:Nat
noncomputable def isHr:KD.IW→Bool
  | .hear=>true | _=>false
noncomputable def hears (m:Ms) (w:KD.IW) (n:Nat):Nat:=if isHr w && decide (m.heard < n) then m.heard + 1 else m.heard
noncomputable def after (m:Ms) (w:KD.IW) (ps given:List Int) (d:Int):Ms :=
  let r:=KD.itemG m.g w ps (given.getD m.heard 0)
  ⟨r.2.1,if KD.brings w then setH m.H d (.int (r.2.1.bs.getD 0 0)) else m.H,m.told ++ r.2.2,hears m w given.length⟩
noncomputable def leftM (m:Ms) (w:KD.IW) (ps given:List Int):Ms :=
  let r:=KD.itemG m.g w ps (given.getD m.heard 0)
  ⟨r.2.1,m.H,m.told ++ r.2.2,m.heard⟩
inductive Step (given wt:List Int) (m:Ms):Rw→Option Int→Ms→Prop
  | put (r:Rw) (H':Hd):Puts m.H r H'→Step given wt m r none { m with H:=H' }
  | last (r:Rw) (e:Int):Last m.H m.g.sv r e→Step given wt m r (some e) m
  | fault (r:Rw) (w:KD.IW) (ps:List Int) (d e:Int):ItR m.H r w ps d→(∀ v ∈ ps,0≤v∧v < 65536)→(KD.itemG m.g w ps (given.getD m.heard 0)).1 ≠ "on" → (partsOf (form r.w) r.xs "e")[0]? = some e→Step given wt m r (some e) (leftM m w ps given)
  | shut (r:Rw) (w:KD.IW) (ps:List Int) (d e:Int):ItR m.H r w ps d→(∀ v ∈ ps,0≤v∧v < 65536)→(KD.itemG m.g w ps (given.getD m.heard 0)).1 = "on" → KD.shutB w ps wt=true→(partsOf (form r.w) r.xs "e")[1]? = some e→Step given wt m r (some e) (leftM m w ps given)
  | item (r:Rw) (w:KD.IW) (ps:List Int) (d:Int):ItR m.H r w ps d→(∀ v ∈ ps,0≤v∧v < 65536)→(KD.itemG m.g w ps (given.getD m.heard 0)).1 = "on" → KD.shutB w ps wt=false→Step given wt m r none (after m w ps given d)
inductive Go (given wt:List Int):Nat→Ms→List Rw→Ms→Nat→Rw→Nat→Prop
  | here (c:Nat) (m m':Ms) (r:Rw) (rs:List Rw) (e:Nat):m.g.Ok→Step given wt m r (some (e:Int)) m'→Go given wt c m (r :: rs) m' e r (c + 1)
  | next (c:Nat) (m m1 m':Ms) (r r':Rw) (rs:List Rw) (e c':Nat):m.g.Ok→Step given wt m r none m1→Go given wt (c + 1) m1 rs m' e r' c'→Go given wt c m (r :: rs) m' e r' c'
noncomputable def isBk (r:Rw) (m:Ms):Bool:=decide (r.w = "back") && m.g.sv.isSome
noncomputable def hostD (ex:Ex) (g:GS) (told:List Int) (heard c:Nat):Dt:=.tup [.str ex.how,g.d,.tup (told.map .int),.int ex.n,.int (heard:Int),.int (c:Int)]
noncomputable def start (g:GS):Ms:=⟨g,⟨[],[],g.bs,g.m⟩,[],0⟩
noncomputable def spDoHost:RDL:=fun ds st P=>∃ (a b:Dt) (rs:List Rw) (es:List Ex) (g:GS) (gn:Nat) (given wt:List Int),ds=[.tup [a,b,.tup (rs.map rowD),.tup (es.map exD)],g.d,.lst gn,.tup (wt.map .int)]∧K20.Has st gn (given.map .int)∧(∀ r ∈ rs,OkR r)∧rs.length≤400∧given.length < 1000∧wt.length≤100 ∧
  ∃ m' e r c ex g',Go given wt 0 (start g) rs m' e r c∧es[e]? = some ex∧ex.bs.length≤100∧ex.ms.length≤100∧Outs m'.H m'.g ex (isBk r m') g'∧∀ st',ExtS st st'→P (hostD ex g' m'.told m'.heard c) st'
noncomputable def lastD:List Dt:=[.str "out",.str "when",.str "back"]
noncomputable def itemS:List (Str×Int):=[("get",2),("set",3),("div",2),("tell",1),("hear",0),("right",2)]
end KM
namespace K02
open PySem L2 L3
end K02
namespace K02
open PySem PySem.Spec PyProof.Rows L2 L3
section
variable {E:EndsD} {ρ:Rho} {st st':Sto} {A C:TSD}
theorem seqS (h:A { E with nx:=C E } ρ st):qS A C E ρ st:=h
theorem ifS {c:TBD} {b:Bool} (h1:∀ P:Bool→Sto→Prop,P b st'→c ρ st P) (qt:b=true→A E ρ st') (qf:b=false→C E ρ st'):qJ c A C E ρ st:=by
  unfold qJ
  refine h1 _ ?_
  cases b
  · exact iteF (qf rfl)
  · exact iteT (qt rfl)
theorem seqIf {N:TSD} {c:TBD} {b:Bool} (h1:∀ P:Bool→Sto→Prop,P b st'→c ρ st P) (qt:b=true→A { E with nx:=N E } ρ st') (qf:b=false→N E ρ st'):qS (qJ c A qN) N E ρ st:=seqS (ifS h1 qt qf)
theorem orB {c1 c2:TBD} {b1 b2:Bool} (h1:∀ P:Bool→Sto→Prop,P b1 st→c1 ρ st P) (h2:b1=false→∀ P:Bool→Sto→Prop,P b2 st→c2 ρ st P):∀ P:Bool→Sto→Prop,P (b1 || b2) st→torB c1 c2 ρ st P:=by
  intro P hp
  unfold torB
  refine h1 _ ?_
  cases b1
  · exact iteF (h2 rfl _ (by simpa using hp))
  · exact iteT (by simpa using hp)
theorem andB {c1 c2:TBD} {b1 b2:Bool} (h1:∀ P:Bool→Sto→Prop,P b1 st→c1 ρ st P) (h2:b1=true→∀ P:Bool→Sto→Prop,P b2 st→c2 ρ st P):∀ P:Bool→Sto→Prop,P (b1 && b2) st→tandB c1 c2 ρ st P:=by
  intro P hp
  unfold tandB
  refine h1 _ ?_
  cases b1
  · exact iteF (by simpa using hp)
  · exact iteT (h2 rfl _ (by simpa using hp))
theorem eqS {x:TD} {a b:Str} (hx:∀ P:VD,P (.str a) st→x ρ st P):∀ P:Bool→Sto→Prop,P (a == b) st→qT (qB (qQ false) x (qK (.str b))) ρ st P:=by
  intro P hp
  simp only [qT,qB,qK]
  refine hx _ ⟨rfl,rfl,?_⟩
  show P ((a == b) != false) st
  simpa using hp
theorem neS {x:TD} {a b:Str} (hx:∀ P:VD,P (.str a) st→x ρ st P):∀ P:Bool→Sto→Prop,P (a != b) st→qT (qB (qQ true) x (qK (.str b))) ρ st P:=by
  intro P hp
  simp only [qT,qB,qK]
  refine hx _ ⟨rfl,rfl,?_⟩
  show P ((a == b) != true) st
  have:((a == b) != true)=(a != b):=by unfold bne;cases (a == b) <;> rfl
  rw [this];exact hp
theorem eqI {x:TD} {a b:Int} (hx:∀ P:VD,P (.int a) st→x ρ st P):∀ P:Bool→Sto→Prop,P (decide (a=b)) st→qT (qB (qQ false) x (qK (.int b))) ρ st P:=by
  intro P hp
  simp only [qT,qB,qK]
  refine hx _ ⟨rfl,rfl,?_⟩
  show P ((a == b) != false) st
  have:((a == b) != false)=decide (a=b):=by by_cases e:a=b <;> simp [e]
  rw [this];exact hp
end
theorem str_eq {a b:Str}:(a == b)=decide (a=b):=by
  by_cases e:a=b
  · subst e;simp
  · rw [decide_eq_false e]
    cases h:(a == b) with
    | false=>rfl
    | true=>exact absurd (eq_of_beq h) e
end K02
namespace K02
open PySem PySem.Spec PyProof.Rows L2 L3
section
variable {E:EndsD} {ρ:Rho} {st st':Sto} {A C:TSD}
theorem ixL {i j n:Nat} {d:Dt} {o:SO} (hv:ρ[i]? = some (some (.lst n))) (hn:st[n]? = some o) (hd:o.items[j]? = some d):∀ P:VD,P d st→qB qI (qV i) (qK (.int (j:Int))) ρ st P:=by
  intro P hp
  simp only [qB,qV,qK,hv]
  show (match seqOf st (.lst n) with
      | some xs=>(match atI xs (j:Int) with
        | some d=>P d st
        | none=>False)
      | none=>False)
  have e:seqOf st (.lst n)=some o.items:=by
    show (st[n]?).map SO.items=_
    rw [hn];rfl
  rw [e]
  show (match atI o.items (j:Int) with
        | some d=>P d st
        | none=>False)
  rw [atI_nat hd]
  exact hp
theorem lenL {i n:Nat} {o:SO} (hv:ρ[i]? = some (some (.lst n))) (hn:st[n]? = some o):∀ P:VD,P (.int (o.items.length:Int)) st→qF rLen (qA (qV i) qZ) ρ st P:=by
  intro P hp
  simp only [qF,qA,qZ,qV,hv]
  show (match seqOf st (.lst n) with
    | some xs=>P (.int xs.length) st
    | none=>False)
  have e:seqOf st (.lst n)=some o.items:=by
    show (st[n]?).map SO.items=_
    rw [hn];rfl
  rw [e]
  exact hp
theorem seqA {N:TSD} {te:TD} {i:Nat} (h:te ρ st fun d s1=>N E (ρ.set i (some d)) s1):qS (qE te (qG i)) N E ρ st:=h
end
end K02
namespace K85
open PySem PySem.Spec PyProof.Rows L2 L3 K02
noncomputable abbrev t_parts_of:TSD:=(qS (qR (qF qH (qA (tcomp2 (izip (tsliceA (qV 0) (tosome (qK (Dt.int 1))) tonone) (ttopget formS (qB qI (qV 0) (qK (Dt.int 0))))) (qT (qB (qQ false) (qV 1) (qV 2))) (qV 0) [(1, "sign")]) qZ))) qN)
noncomputable abbrev t__law_cell_at:TSD:=(qS (qJ (qT (qB (rCmpI fun i j=>decide (i < j)) (qV 1) (qF rLen (qA (qV 0) qZ)))) (qS (qR (qB qI (qV 0) (qV 1))) qN) qN) (qS (qR (qK (Dt.int 0))) qN))
noncomputable abbrev t__law_is_number:TSD:=(qS (qR (tandV (qF rIsInst (qA (qV 0) (qA (qK (Dt.ty "int")) qZ))) (tnotV (qF rIsInst (qA (qV 0) (qA (qK (Dt.ty "bool")) qZ)))))) qN)
theorem cut_one {d:Dt} {xs:List Dt}:L3.cutD (d :: xs) (some 1) none=xs:=by
  unfold L3.cutD
  have e:HT.sIx (d :: xs).length 0 (some 1)=1:=by
    have:=HT.sIx_nat (d :: xs).length 0 1
    simp at this ⊢
    simpa using this
  rw [e,HT.sIx_none]
  simp
theorem zip_take {xs:List Int} {ys:List Nat} {i:Nat} {x:Int} {y:Nat} (h1:xs[i]? = some x) (h2:ys[i]? = some y):(xs.zip ys).take (i + 1)=(xs.zip ys).take i ++ [(x,y)]:=by
  rw [List.take_add_one]
  have:(xs.zip ys)[i]? = some (x,y):=List.getElem?_zip_eq_some.mpr ⟨h1,h2⟩
  rw [this];rfl
theorem rd_parts_of {ds:List Dt} {st:Sto} {Pd:VD} (h:spParts ds st Pd):t_parts_of (Ed Pd) (qW ["row", "sign"] ds) st:=by
  obtain ⟨r,sign,rfl,ok,hP⟩:=h
  show t_parts_of (Ed Pd) [some (rowD r),some (.str sign)] st
  obtain ⟨hasc,hfl⟩:=form_ok ok.know
  simp only [t_parts_of,qS,qR,qF,qA,qZ,tcomp2,izip,tsliceA,qV,tosome,tonone,qK,ttopget,qB,List.getElem?_cons_zero,List.getElem?_cons_succ,rowD]
  have hat:atI (Dt.str r.w :: r.xs.map .int) 0=some (.str r.w):=atI_nat (j:=0) rfl
  show (match atI (Dt.str r.w :: r.xs.map .int) 0 with
    | some d=>_
    | none=>False)
  rw [hat]
  simp only [ok.know,cut_one]
  refine ⟨hasc,?_⟩
  have hzl:(zipD (r.xs.map Dt.int) (signsD (form r.w))).length=(r.xs.zip (cs (form r.w))).length:=by
    rw [zipD_len];simp [signsD,List.length_zip]
  refine ⟨fun i ys s'=>ys=((((r.xs.zip (cs (form r.w))).take i).filter fun p=>one p.2 == sign).map (·.1)).map Dt.int∧s'=st,⟨rfl,rfl⟩,fun _ _ _ _ _=>trivial,?_,?_⟩
  · rintro i d ys s' hd ⟨rfl,rfl⟩
    obtain ⟨x,y,ex,ey,rfl⟩:=zipD_get hd
    obtain ⟨n,hn,rfl⟩:∃ n,r.xs[i]? = some n∧x = .int n:=by
      rw [List.getElem?_map] at ex
      cases e:r.xs[i]? with
      | none=>rw [e] at ex;cases ex
      | some n=>rw [e] at ex;exact ⟨n,rfl,(Option.some.inj ex).symm⟩
    obtain ⟨c,hc,rfl⟩:∃ c,(cs (form r.w))[i]? = some c∧y = .str (one c):=by
      unfold signsD at ey
      rw [List.getElem?_map] at ey
      cases e:(form r.w).cps.toList[i]? with
      | none=>rw [e] at ey;cases ey
      | some c=>rw [e] at ey;exact ⟨c,rfl,(Option.some.inj ey).symm⟩
    have hil:=(List.getElem?_eq_some_iff.mp hn).1
    have hxl:=ok.len
    refine ⟨?_,_,_,rfl,?_⟩
    · rw [List.length_map,List.length_map]
      refine Nat.lt_of_le_of_lt (List.length_filter_le _ _) ?_
      rw [List.length_take,sizeLine_eq];omega
    · show okD 8 _=true∧okD 8 _=true∧(if ((one c == sign) != false)=true then _ else _)
      refine ⟨rfl,rfl,?_⟩
      cases e:(one c == sign) with
      | true =>
        refine iteT ⟨?_,rfl⟩
        rw [zip_take hn hc,List.filter_append,List.map_append,List.map_append]
        simp [e]
      | false =>
        refine iteF ⟨?_,rfl⟩
        rw [zip_take hn hc,List.filter_append,List.map_append,List.map_append]
        simp [e]
  · rintro ys s' ⟨rfl,rfl⟩
    rw [hzl,List.take_length]
    show (match ((s' ++ [SO.rw ((partsOf (form r.w) r.xs sign).map Dt.int)])[s'.length]?).map SO.items with
      | some xs=>Pd (.tup xs) _
      | none=>False)
    rw [qX]
    exact hP _ (.app _ _)
theorem rd__law_cell_at {ds:List Dt} {st:Sto} {Pd:VD} (h:spCellAt ds st Pd):t__law_cell_at (Ed Pd) (qW ["script", "k"] ds) st:=by
  obtain ⟨sc,k,ns,rfl,hs,hP⟩:=h
  show t__law_cell_at (Ed Pd) [some (.lst sc),some (.int (k:Int))] st
  refine seqIf (b:=decide ((k:Int) < (ns.length:Int))) (st':=st) ?_ ?_ ?_
  · intro P hp
    simp only [qT,qB,qV,List.getElem?_cons_zero,List.getElem?_cons_succ]
    refine lenL (ρ:=[some (.lst sc),some (.int (k:Int))]) (i:=0) (n:=sc) rfl hs _ ?_
    show P (decide ((k:Int) < (((ns.map Dt.int)).length:Int))) st
    rw [List.length_map];exact hp
  · intro q
    have q:k < ns.length:=by have:=of_decide_eq_true q;omega
    refine seqS ?_
    simp only [qR,qB,qV,List.getElem?_cons_zero,List.getElem?_cons_succ]
    have hsq:seqOf st (.lst sc)=some (ns.map .int):=by
      show (st[sc]?).map SO.items=_
      rw [hs];rfl
    show (match seqOf st (.lst sc) with
      | some xs=>(match atI xs (k:Int) with
        | some d=>Pd d st
        | none=>False)
      | none=>False)
    rw [hsq]
    show (match atI (ns.map Dt.int) (k:Int) with
        | some d=>Pd d st
        | none=>False)
    rw [atI_nat (v:=.int ns[k]) (by simp [q])]
    exact hP _
  · intro q
    exact hP 0
theorem rd__law_is_number {ds:List Dt} {st:Sto} {Pd:VD} (h:spIsNum ds st Pd):t__law_is_number (Ed Pd) (qW ["thing"] ds) st:=by
  obtain ⟨i,rfl,hP⟩:=h
  show t__law_is_number (Ed Pd) [some (.int i)] st
  refine seqS ?_
  simp only [qR,tandV,tnotV,qF,qA,qZ,qV,qK,List.getElem?_cons_zero]
  refine ⟨.inr (.inl rfl),?_⟩
  refine ⟨.inl rfl,?_⟩
  exact hP
end K85
namespace K22
open PySem L2 L3 KH KS
namespace LS
end LS
end K22
namespace K22
open PySem L2 L3 KH KS
end K22
namespace K22
open PySem PySem.Spec PyProof.Rows L2 L3 KH KS
end K22
namespace K22
open PySem PySem.Spec PyProof.Rows L2 L3 KH KS
section
variable {E:EndsD} {st:Sto} {n:Nat} {s:LS} {Q:VD} {ρ:Rho}
theorem strT {a b:Str} {st:Sto} {P:VD} (h:(a == b)=true) (q:P (.bl true) st):qQ false (.str a) (.str b) st P:=⟨rfl,rfl,by
  show P (.bl ((a == b) != false)) st
  rw [h];exact q⟩
theorem strF {a b:Str} {st:Sto} {P:VD} (h:(a == b)=false) (q:P (.bl false) st):qQ false (.str a) (.str b) st P:=⟨rfl,rfl,by
  show P (.bl ((a == b) != false)) st
  rw [h];exact q⟩
theorem tstr {x:TD} {A C:TSD} {a b:Str} (hx:∀ P:VD,P (.str a) st→x ρ st P) (h:(a == b)=true) (q:A E ρ st):qJ (qT (qB (qQ false) x (qK (.str b)))) A C E ρ st:=by
  simp only [qJ,qT,qB,qK]
  refine hx _ (strT h ?_)
  exact q
theorem fstr {x:TD} {A C:TSD} {a b:Str} (hx:∀ P:VD,P (.str a) st→x ρ st P) (h:(a == b)=false) (q:C E ρ st):qJ (qT (qB (qQ false) x (qK (.str b)))) A C E ρ st:=by
  simp only [qJ,qT,qB,qK]
  refine hx _ (strF h ?_)
  simp only [Bool.false_eq_true,if_false]
  exact q
theorem seq1 {A C:TSD} (h:A { E with nx:=C E } ρ st):qS A C E ρ st:=h
end
end K22
namespace KM
open PySem PySem.Spec PyProof.Rows L2 L3 KS K02 K85 K06
noncomputable abbrev t_Hold___init__:TSD:=(qS (qE tdict0 (gfld "Hold" (qV 0) "hands")) (qS (qE tdict0 (gfld "Hold" (qV 0) "shelf")) (qS (qE (qV 1) (gfld "Hold" (qV 0) "boxes")) (qS (qE (qV 2) (gfld "Hold" (qV 0) "marks")) qN))))
noncomputable abbrev t_Hold_in_hand:TSD:=(qS (qR (tdget2 (tfld "Hold" (qV 0) "hands") (qV 1) (qK (Dt.int 0)))) qN)
noncomputable abbrev t_Hold_on_shelf:TSD:=(qS (qR (tdget2 (tfld "Hold" (qV 0) "shelf") (qV 1) (qK (Dt.int 0)))) qN)
noncomputable abbrev t_Hold_put:TSD:=(qS (qE (qB qI (qV 1) (qK (Dt.int 0))) (qG 2)) (qS (qJ (qT (qB (qQ false) (qV 2) (qK (Dt.str (Str.ofString "keep"))))) (qS (qE (tmeth "Hold" "in_hand" spInHand (qV 0) (qA (qB qI (qV 1) (qK (Dt.int 2))) qZ)) (gdput (tfld "Hold" (qV 0) "shelf") (qB qI (qV 1) (qK (Dt.int 1))))) qN) (qS (qJ (qT (qB (qQ false) (qV 2) (qK (Dt.str (Str.ofString "load"))))) (qS (qE (tmeth "Hold" "on_shelf" spOnShelf (qV 0) (qA (qB qI (qV 1) (qK (Dt.int 2))) qZ)) (gdput (tfld "Hold" (qV 0) "hands") (qB qI (qV 1) (qK (Dt.int 1))))) qN) (qS (qJ (qT (qB (qQ false) (qV 2) (qK (Dt.str (Str.ofString "num"))))) (qS (qE (qB qI (qV 1) (qK (Dt.int 2))) (gdput (tfld "Hold" (qV 0) "hands") (qB qI (qV 1) (qK (Dt.int 1))))) qN) (qS (qJ (qT (qB (qQ false) (qV 2) (qK (Dt.str (Str.ofString "box"))))) (qS (qE (qB qI (tfld "Hold" (qV 0) "boxes") (qB qI (qV 1) (qK (Dt.int 2)))) (gdput (tfld "Hold" (qV 0) "hands") (qB qI (qV 1) (qK (Dt.int 1))))) qN) (qS (qJ (qT (qB (qQ false) (qV 2) (qK (Dt.str (Str.ofString "mark"))))) (qS (qE (qB qI (tfld "Hold" (qV 0) "marks") (qB qI (qV 1) (qK (Dt.int 2)))) (gdput (tfld "Hold" (qV 0) "hands") (qB qI (qV 1) (qK (Dt.int 1))))) qN) (qS (qE (qF K20.spMade (qA (qV 2) (qA (tcomp (iseq (qF K85.spParts (qA (qV 1) (qA (qK (Dt.str (Str.ofString "x"))) qZ)))) (fun x st P=>P true st) (tmeth "Hold" "in_hand" spInHand (qV 1) (qA (qV 0) qZ)) [(0, "self")]) qZ))) (gdput (tfld "Hold" (qV 0) "hands") (qB qI (qV 1) (qK (Dt.int 1))))) qN)) qN)) qN)) qN)) qN)) qN))
noncomputable abbrev t_Hold_source:TSD:=(qS (qE (qB qI (qV 1) (qK (Dt.int 0))) (qG 3)) (qS (qJ (qT (qB (qQ false) (qV 3) (qK (Dt.str (Str.ofString "hand"))))) (qS (qR (tmeth "Hold" "in_hand" spInHand (qV 0) (qA (qB qI (qV 1) (qK (Dt.int 1))) qZ))) qN) qN) (qS (qJ (qT (qB (qQ false) (qV 3) (qK (Dt.str (Str.ofString "shelf"))))) (qS (qR (tmeth "Hold" "on_shelf" spOnShelf (qV 0) (qA (qB qI (qV 1) (qK (Dt.int 1))) qZ))) qN) qN) (qS (qR (qB qI (qV 2) (qB qI (qV 1) (qK (Dt.int 1))))) qN))))
section
variable {E:EndsD} {st:Sto} {Q:VD} {ρ:Rho} {n h s:Nat} {H:Hd}
theorem partsOf_le {r:Rw} (ok:OkR r) {sg:Str}:(partsOf (form r.w) r.xs sg).length≤5:=by
  unfold partsOf
  rw [List.length_map]
  refine Nat.le_trans (List.length_filter_le _ _) ?_
  rw [List.length_zip]
  have h1:=(form_ok ok.know).2
  have h2:r.xs.length=(form r.w).length:=ok.2
  omega
theorem parts_dx {w:Str} {d x:Int} (h:cs (form w)=[100,120]):partsOf (form w) [d,x] "x" = [x]:=by
  unfold partsOf;rw [h]
  have e1:(one 100 == ("x" : Str))=false:=by decide +kernel
  have e2:(one 120 == ("x" : Str))=true:=by decide +kernel
  simp only [List.zip_cons_cons,List.zip_nil_left,List.filter_cons,e1,e2,List.filter_nil,Bool.false_eq_true,if_false,if_true,List.map_cons,List.map_nil]
theorem parts_dxx {w:Str} {d x y:Int} (h:cs (form w)=[100,120,120]):partsOf (form w) [d,x,y] "x" = [x,y]:=by
  unfold partsOf;rw [h]
  have e1:(one 100 == ("x" : Str))=false:=by decide +kernel
  have e2:(one 120 == ("x" : Str))=true:=by decide +kernel
  simp only [List.zip_cons_cons,List.zip_nil_left,List.filter_cons,e1,e2,List.filter_nil,Bool.false_eq_true,if_false,if_true,List.map_cons,List.map_nil]
theorem ext_le' {a b:Sto} (hx:ExtS a b):a.length≤b.length:=by
  by_cases h:a.length=0
  · omega
  · have hl:a.length - 1 < a.length:=by omega
    have:=(List.getElem?_eq_some_iff.mp (hx _ _ (List.getElem?_eq_getElem hl))).1
    omega
theorem look_h {b:List Int} {m:M3}:(fldsH h s b m).lookup (Str.ofString "hands")=some (Dt.dic h):=rfl
theorem look_s {b:List Int} {m:M3}:(fldsH h s b m).lookup (Str.ofString "shelf")=some (Dt.dic s):=rfl
theorem look_b {b:List Int} {m:M3}:(fldsH h s b m).lookup (Str.ofString "boxes")=some (Dt.tup (b.map .int)):=rfl
theorem look_m {b:List Int} {m:M3}:(fldsH h s b m).lookup (Str.ofString "marks")=some (msD m):=rfl
theorem no_in {b:List Int} {m:M3}:(fldsH h s b m).lookup (Str.ofString "in_hand")=none:=rfl
theorem no_on {b:List Int} {m:M3}:(fldsH h s b m).lookup (Str.ofString "on_shelf")=none:=rfl
theorem no_put {b:List Int} {m:M3}:(fldsH h s b m).lookup (Str.ofString "put")=none:=rfl
theorem no_src {b:List Int} {m:M3}:(fldsH h s b m).lookup (Str.ofString "source")=none:=rfl
theorem HoldAt.ext {st':Sto} (a:HoldAt st n h s H) (e:ExtS st st'):HoldAt st' n h s H:=⟨e _ _ a.ob,e _ _ a.hd,e _ _ a.sh,a.ne⟩
theorem HoldAt.nh (a:HoldAt st n h s H):n≠h:=fun e=>by have:=a.ob;rw [e,a.hd] at this;cases this
theorem HoldAt.ns (a:HoldAt st n h s H):n≠s:=fun e=>by have:=a.ob;rw [e,a.sh] at this;cases this
theorem get_set_self {st:Sto} {i:Nat} {o x:SO} (h:st[i]? = some o):(st.set i x)[i]? = some x:=by
  have:=(List.getElem?_eq_some_iff.mp h).1
  rw [List.getElem?_set_self this]
theorem HoldAt.setH (a:HoldAt st n h s H) (d:Int) (v:Dt):HoldAt (st.set h (.dc (putD H.hk (.inl d) v))) n h s (setH H d v):=⟨get_set_ne a.ob a.nh.symm,get_set_self a.hd,get_set_ne a.sh a.ne,a.ne⟩
theorem HoldAt.setS (a:HoldAt st n h s H) (d:Int) (v:Dt):HoldAt (st.set s (.dc (putD H.sk (.inl d) v))) n h s (setS H d v):=⟨get_set_ne a.ob a.ns.symm,get_set_ne a.hd a.ne.symm,get_set_self a.sh,a.ne⟩
theorem m_in {i:Nat} {x:Int} {ta:TAD} (a:HoldAt st n h s H) (hρ:ρ[i]? = some (some (.ins n))) (ht:∀ P:List Dt→Sto→Prop,P [.int x] st→ta ρ st P) (q:Q (inH H x) st):tmeth "Hold" "in_hand" spInHand (qV i) ta ρ st Q:=by
  simp only [tmeth,qV,hρ,a.ob,no_in,true_and]
  exact ht _ ⟨n,h,s,H,x,rfl,a,q⟩
theorem m_on {i:Nat} {x:Int} {ta:TAD} (a:HoldAt st n h s H) (hρ:ρ[i]? = some (some (.ins n))) (ht:∀ P:List Dt→Sto→Prop,P [.int x] st→ta ρ st P) (q:Q (onS H x) st):tmeth "Hold" "on_shelf" spOnShelf (qV i) ta ρ st Q:=by
  simp only [tmeth,qV,hρ,a.ob,no_on,true_and]
  exact ht _ ⟨n,h,s,H,x,rfl,a,q⟩
theorem rd_Hold___init__ {ds:List Dt} {st:Sto} {Pd:VD} (h:spHInit ds st Pd):t_Hold___init__ (Ed Pd) (qW ["self", "boxes", "marks"] ds) st:=by
  obtain ⟨n,b,m,rfl,ho,hP⟩:=h
  have hn:=(List.getElem?_eq_some_iff.mp ho).1
  show t_Hold___init__ (Ed Pd) [some (.ins n),some (.tup (b.map .int)),some (msD m)] st
  have o1:(st ++ [SO.dc []])[n]? = some (.ob "Hold" []):=qY ho
  simp only [t_Hold___init__,qS,qE,tdict0,gfld,qV,List.getElem?_cons_zero,List.getElem?_cons_succ,o1,true_and]
  refine ⟨by decide,?_⟩
  have o2:((st ++ [SO.dc []]).set n (.ob "Hold" (putO "hands" (.dic st.length) [])))[n]? = some (.ob "Hold" (putO "hands" (.dic st.length) [])):=get_set_self o1
  have d2:((st ++ [SO.dc []]).set n (.ob "Hold" (putO "hands" (.dic st.length) [])))[st.length]? = some (.dc []):=get_set_ne qX (by omega)
  have k2:∀ (j:Nat) o,j≠n→st[j]? = some o→((st ++ [SO.dc []]).set n (.ob "Hold" (putO "hands" (.dic st.length) [])))[j]? = some o:=fun j o hj hs=>get_set_ne (qY hs) (Ne.symm hj)
  have l2:st.length + 1=((st ++ [SO.dc []]).set n (.ob "Hold" (putO "hands" (.dic st.length) []))).length:=by simp
  generalize ((st ++ [SO.dc []]).set n (.ob "Hold" (putO "hands" (.dic st.length) [])))=s2 at o2 d2 k2 l2
  have o3:(s2 ++ [SO.dc []])[n]? = some (.ob "Hold" (putO "hands" (.dic st.length) [])):=qY o2
  rw [o3]
  refine ⟨rfl,by show 1 < 1000;decide,?_⟩
  have e4:putO "shelf" (.dic s2.length) (putO "hands" (.dic st.length) [])=([("hands",.dic st.length),("shelf",.dic s2.length)]:List (Str×Dt)):=rfl
  have o4:((s2 ++ [SO.dc []]).set n (.ob "Hold" (putO "shelf" (.dic s2.length) (putO "hands" (.dic st.length) []))))[n]? = some (.ob "Hold" [("hands",.dic st.length),("shelf",.dic s2.length)]):=by rw [get_set_self o3,e4]
  have d4:((s2 ++ [SO.dc []]).set n (.ob "Hold" (putO "shelf" (.dic s2.length) (putO "hands" (.dic st.length) []))))[s2.length]? = some (.dc []):=get_set_ne qX (by omega)
  have k4:∀ (j:Nat) o,j≠n→s2[j]? = some o→((s2 ++ [SO.dc []]).set n (.ob "Hold" (putO "shelf" (.dic s2.length) (putO "hands" (.dic st.length) []))))[j]? = some o:=fun j o hj hs=>get_set_ne (qY hs) (Ne.symm hj)
  generalize ((s2 ++ [SO.dc []]).set n (.ob "Hold" (putO "shelf" (.dic s2.length) (putO "hands" (.dic st.length) []))))=s4 at o4 d4 k4
  rw [o4]
  refine ⟨rfl,by show 2 < 1000;decide,?_⟩
  have o5:=get_set_self (x:=.ob "Hold" (putO "boxes" (.tup (b.map .int)) [("hands",.dic st.length),("shelf",.dic s2.length)])) o4
  rw [show Str.ofString "boxes" = ("boxes" : Str) from rfl]
  rw [o5]
  refine ⟨rfl,by show 3 < 1000;decide,?_⟩
  refine hP _ st.length s2.length ⟨?_,?_,?_,by omega⟩ (Nat.le_refl _) (by omega) fun j o hj hs=>?_
  · exact get_set_self o5
  · exact get_set_ne (get_set_ne (k4 _ _ (by omega) d2) (by omega)) (by omega)
  · exact get_set_ne (get_set_ne d4 (by omega)) (by omega)
  · exact get_set_ne (get_set_ne (k4 _ _ hj (k2 _ _ hj hs)) (Ne.symm hj)) (Ne.symm hj)
theorem rd_Hold_in_hand {ds:List Dt} {st:Sto} {Pd:VD} (h:spInHand ds st Pd):t_Hold_in_hand (Ed Pd) (qW ["self", "x"] ds) st:=by
  obtain ⟨n,h,s,H,x,rfl,a,hP⟩:=h
  show t_Hold_in_hand (Ed Pd) [some (.ins n),some (.int x)] st
  simp only [t_Hold_in_hand,qS,qR,tdget2,tfld,qV,qK,List.getElem?_cons_zero,List.getElem?_cons_succ,a.ob,look_h,true_and,a.hd,keyD]
  exact hP
theorem rd_Hold_on_shelf {ds:List Dt} {st:Sto} {Pd:VD} (h:spOnShelf ds st Pd):t_Hold_on_shelf (Ed Pd) (qW ["self", "s"] ds) st:=by
  obtain ⟨n,h,s,H,x,rfl,a,hP⟩:=h
  show t_Hold_on_shelf (Ed Pd) [some (.ins n),some (.int x)] st
  simp only [t_Hold_on_shelf,qS,qR,tdget2,tfld,qV,qK,List.getElem?_cons_zero,List.getElem?_cons_succ,a.ob,look_s,true_and,a.sh,keyD]
  exact hP
theorem partsComp {i j:Nat} {r:Rw} {nm:Str} (a:HoldAt st n h s H) (ok:OkR r) (hi:ρ[i]? = some (some (.ins n))) (hj:ρ[j]? = some (some (rowD r)))
    (q:∀ st' p,ExtS st st'→st.length≤p→st'[p]? = some (.rw ((partsOf (form r.w) r.xs "x").map (inH H)))→Q (.lst p) st') :
    tcomp (iseq (qF K85.spParts (qA (qV j) (qA (qK (Dt.str (Str.ofString "x"))) qZ)))) (fun x st P=>P true st) (tmeth "Hold" "in_hand" spInHand (qV 1) (qA (qV 0) qZ)) [(i,nm)] ρ st Q:=by
  simp only [tcomp,iseq,qF,qA,qZ,qV,qK,hj]
  refine ⟨r,_,rfl,ok,fun s1 e1=>?_⟩
  simp only [seqOf,capρ,List.map_cons,List.map_nil,hi,Option.join_some]
  have a1:=a.ext e1
  have hle:∀ k:Nat,((partsOf (form r.w) r.xs "x").map (inH H)).length≤5:=fun _=>by
    rw [List.length_map];exact partsOf_le ok
  refine ⟨fun k zs s'=>zs=((partsOf (form r.w) r.xs "x").map (inH H)).take k∧s'=s1,⟨rfl,rfl⟩,fun _ _ _ _ _=>trivial,?_,?_⟩
  · rintro k d zs s' hd ⟨rfl,rfl⟩
    have hk:=(List.getElem?_eq_some_iff.mp hd).1
    rw [List.length_map] at hk
    rw [List.getElem?_map,List.getElem?_eq_getElem hk] at hd
    have hd:d = .int ((partsOf (form r.w) r.xs "x")[k]):=(Option.some.inj hd).symm
    subst hd
    have hyl:(((partsOf (form r.w) r.xs "x").map (inH H)).take k).length≤((partsOf (form r.w) r.xs "x").map (inH H)).length:=List.length_take_le' k _
    have:=hle 0
    refine ⟨small (by omega),iteT ?_⟩
    refine m_in (i:=1) (x:=(partsOf (form r.w) r.xs "x")[k]) a1 rfl (fun P hp=>hp) ⟨?_,rfl⟩
    have hk2:k < ((partsOf (form r.w) r.xs "x").map (inH H)).length:=by rw [List.length_map];exact hk
    rw [List.take_succ,List.getElem?_eq_getElem hk2]
    simp
  · rintro ys s' ⟨rfl,rfl⟩
    refine q _ _ (fun u o ho=>qY (e1 u o ho)) (ext_le' e1) ?_
    rw [qX,List.length_map,show (partsOf (form r.w) r.xs (Str.ofString "x")).length=((partsOf (form r.w) r.xs "x").map (inH H)).length by simp,List.take_length]
theorem callA2 {sp:RDL} {t1 t2:TD} (h:t1 ρ st fun d1 s1=>t2 ρ s1 fun d2 s2=>sp [d1,d2] s2 Q):qF sp (qA t1 (qA t2 qZ)) ρ st Q:=h
theorem asgT {te:TD} {g:TGD} (h:te ρ st fun d s1=>g d ρ s1 E.nx):qE te g E ρ st:=h
theorem rX {i j:Nat} {x:Int} {r:Rw} (hi:ρ[i]? = some (some (rowD r))) (hj:r.xs[j]? = some x):∀ P:VD,P (.int x) st→qB qI (qV i) (qK (.int ((j + 1:Nat):Int))) ρ st P:=by
  intro P hp
  simp only [qB,qV,qK,hi,rowD]
  exact pickTA (atI_nat (j:=j + 1) (by rw [List.getElem?_cons_succ,List.getElem?_map,hj];rfl)) hp
theorem rS {i j:Nat} {x:Dt} {xs:List Dt} (hi:ρ[i]? = some (some (.tup xs))) (hj:xs[j]? = some x):∀ P:VD,P x st→qB qI (qV i) (qK (.int (j:Int))) ρ st P:=by
  intro P hp
  simp only [qB,qV,qK,hi]
  exact pickTA (atI_nat (j:=j) hj) hp
theorem tA1 {t:TD} {d:Dt} (h:∀ P:VD,P d st→t ρ st P):∀ P:List Dt→Sto→Prop,P [d] st→qA t qZ ρ st P:=fun P hp=>h _ hp
theorem fsq {x:TD} {A N:TSD} {a b:Str} (hx:∀ P:VD,P (.str a) st→x ρ st P) (h:(a == b)=false) (q:N E ρ st):qS (qJ (qT (qB (qQ false) x (qK (.str b)))) A qN) N E ρ st:=K22.seq1 (K22.fstr hx h q)
theorem putHand {i:Nat} {x:Int} {v:Dt} {ti:TD} {R:Rho→Sto→Prop} (a:HoldAt st n h s H) (hl:H.hk.length < 1000) (hi:ρ[i]? = some (some (.ins n))) (ht:∀ P:VD,P (.int x) st→ti ρ st P) (q:∀ st',HoldAt st' n h s (setH H x v)→ExtH h s st st'→R ρ st'):gdput (tfld "Hold" (qV i) "hands") ti v ρ st R:=by
  simp only [gdput,tfld,qV,hi,a.ob,look_h,true_and]
  refine ht _ ?_
  simp only [a.hd,keyD]
  exact ⟨small hl,q _ (a.setH x v) fun j o h1 h2 hj=>get_set_ne hj (Ne.symm h1)⟩
theorem putShelf {i:Nat} {x:Int} {v:Dt} {ti:TD} {R:Rho→Sto→Prop} (a:HoldAt st n h s H) (hl:H.sk.length < 1000) (hi:ρ[i]? = some (some (.ins n))) (ht:∀ P:VD,P (.int x) st→ti ρ st P) (q:∀ st',HoldAt st' n h s (setS H x v)→ExtH h s st st'→R ρ st'):gdput (tfld "Hold" (qV i) "shelf") ti v ρ st R:=by
  simp only [gdput,tfld,qV,hi,a.ob,look_s,true_and]
  refine ht _ ?_
  simp only [a.sh,keyD]
  exact ⟨small hl,q _ (a.setS x v) fun j o h1 h2 hj=>get_set_ne hj (Ne.symm h2)⟩
theorem ExtH.of {st' st2:Sto} (e:ExtS st st') (x:ExtH h s st' st2):ExtH h s st st2:=fun j o h1 h2 hj=>x j o h1 h2 (e _ _ hj)
theorem putMade {r:Rw} {d:Int} {v:Dt} (a:HoldAt st n h s H) (h1:H.hk.length < 1000) (ok:OkR r) (hd:r.xs[0]? = some d)
    (hm:∀ (P:VD) st' p,st'[p]? = some (.rw ((partsOf (form r.w) r.xs "x").map (inH H)))→P v st'→K20.spMade [.str r.w,.lst p] st' P)
    (hP:∀ st',HoldAt st' n h s (setH H d v)→ExtH h s st st'→E.nx [some (.ins n),some (rowD r),some (.str r.w)] st') :
    qE (qF K20.spMade (qA (qV 2) (qA (tcomp (iseq (qF K85.spParts (qA (qV 1) (qA (qK (Dt.str (Str.ofString "x"))) qZ)))) (fun x st P=>P true st) (tmeth "Hold" "in_hand" spInHand (qV 1) (qA (qV 0) qZ)) [(0, "self")]) qZ))) (gdput (tfld "Hold" (qV 0) "hands") (qB qI (qV 1) (qK (Dt.int 1)))) E [some (.ins n),some (rowD r),some (.str r.w)] st:=by
  have v2:∀ P:VD,P (.str r.w) st→qV 2 [some (.ins n),some (rowD r),some (.str r.w)] st P:=fun P hp=>hp
  refine asgT (callA2 (v2 _ ?_))
  refine partsComp (i:=0) (j:=1) a ok rfl rfl fun s1 p e1 hp g1=>?_
  refine hm _ s1 p g1 ?_
  refine putHand (i:=0) (x:=d) (a.ext e1) h1 rfl (fun P hp=>?_) fun s2 a2 x2=>hP s2 a2 (x2.of e1)
  refine pickTA (xs:=.str r.w :: r.xs.map .int) ?_ hp
  exact atI_nat (j:=1) (by rw [List.getElem?_cons_succ,List.getElem?_map,hd];rfl)
theorem rd_Hold_put {ds:List Dt} {st:Sto} {Pd:VD} (h:spPut ds st Pd):t_Hold_put (Ed Pd) (qW ["self", "row", "word"] ds) st:=by
  obtain ⟨n,h,s,H,H',r,rfl,a,h1,h2,ok,pu,hP⟩:=h
  show t_Hold_put (Ed Pd) [some (.ins n),some (rowD r),none] st
  have v2:∀ P:VD,P (.str r.w) st→qV 2 [some (.ins n),some (rowD r),some (.str r.w)] st P:=fun P hp=>hp
  unfold t_Hold_put
  refine seqA (i:=2) ?_
  refine pickTA (xs:=.str r.w :: r.xs.map .int) (v:=0) (d:=.str r.w) (atI_nat (j:=0) rfl) ?_
  refine K22.seq1 ?_
  show qJ _ _ _ _ [some (.ins n),some (rowD r),some (.str r.w)] st
  cases pu with
  | keep s' x =>
    refine K22.tstr (a:= "keep") v2 (by decide +kernel) (K22.seq1 ?_)
    refine m_in (i:=0) (x:=x) a rfl (tA1 (rX (i:=1) (j:=1) rfl rfl)) ?_
    exact putShelf (i:=0) (x:=s') a h2 rfl (rX (i:=1) (j:=0) rfl rfl) fun s2 a2 x2=>hP s2 a2 x2
  | load d s' =>
    refine K22.fstr (a:= "load") v2 (by decide +kernel) (K22.seq1 ?_)
    refine K22.tstr (a:= "load") v2 (by decide +kernel) (K22.seq1 ?_)
    refine m_on (i:=0) (x:=s') a rfl (tA1 (rX (i:=1) (j:=1) rfl rfl)) ?_
    exact putHand (i:=0) (x:=d) a h1 rfl (rX (i:=1) (j:=0) rfl rfl) fun s2 a2 x2=>hP s2 a2 x2
  | num d v =>
    refine K22.fstr (a:= "num") v2 (by decide +kernel) (K22.seq1 ?_)
    refine K22.fstr (a:= "num") v2 (by decide +kernel) (K22.seq1 ?_)
    refine K22.tstr (a:= "num") v2 (by decide +kernel) (K22.seq1 ?_)
    refine asgT (rX (i:=1) (j:=1) (x:=v) rfl rfl _ ?_)
    exact putHand (i:=0) (x:=d) a h1 rfl (rX (i:=1) (j:=0) rfl rfl) fun s2 a2 x2=>hP s2 a2 x2
  | box d k v hk =>
    refine K22.fstr (a:= "box") v2 (by decide +kernel) (K22.seq1 ?_)
    refine K22.fstr (a:= "box") v2 (by decide +kernel) (K22.seq1 ?_)
    refine K22.fstr (a:= "box") v2 (by decide +kernel) (K22.seq1 ?_)
    refine K22.tstr (a:= "box") v2 (by decide +kernel) (K22.seq1 ?_)
    simp only [qE,qB,tfld,qV,qK,List.getElem?_cons_zero,List.getElem?_cons_succ,a.ob,look_b,true_and]
    refine pickTA (xs:=[.str "box",.int d,.int (k:Int)]) (v:=2) (d:=.int (k:Int)) rfl ?_
    refine pickTA (d:=.int v) (atI_nat (by rw [List.getElem?_map,hk];rfl)) ?_
    exact putHand (i:=0) (x:=d) a h1 rfl (rX (i:=1) (j:=0) rfl rfl) fun s2 a2 x2=>hP s2 a2 x2
  | mark d k v hk =>
    refine K22.fstr (a:= "mark") v2 (by decide +kernel) (K22.seq1 ?_)
    refine K22.fstr (a:= "mark") v2 (by decide +kernel) (K22.seq1 ?_)
    refine K22.fstr (a:= "mark") v2 (by decide +kernel) (K22.seq1 ?_)
    refine K22.fstr (a:= "mark") v2 (by decide +kernel) (K22.seq1 ?_)
    refine K22.tstr (a:= "mark") v2 (by decide +kernel) (K22.seq1 ?_)
    simp only [qE,qB,tfld,qV,qK,List.getElem?_cons_zero,List.getElem?_cons_succ,a.ob,look_m,true_and]
    refine pickTA (xs:=[.str "mark",.int d,.int (k:Int)]) (v:=2) (d:=.int (k:Int)) rfl ?_
    refine pickTA (xs:=mL H.ms) (d:=v) (atI_nat hk) ?_
    exact putHand (i:=0) (x:=d) a h1 rfl (rX (i:=1) (j:=0) rfl rfl) fun s2 a2 x2=>hP s2 a2 x2
  | yes d =>
    refine K22.fstr (a:= "yes") v2 (by decide +kernel) (K22.seq1 ?_)
    refine K22.fstr (a:= "yes") v2 (by decide +kernel) (K22.seq1 ?_)
    refine K22.fstr (a:= "yes") v2 (by decide +kernel) (K22.seq1 ?_)
    refine K22.fstr (a:= "yes") v2 (by decide +kernel) (K22.seq1 ?_)
    refine K22.fstr (a:= "yes") v2 (by decide +kernel) (K22.seq1 ?_)
    exact putMade a h1 ok rfl (fun P s' p _ q=>⟨_,p,rfl,.inl ⟨rfl,q⟩⟩) hP
  | no d =>
    refine K22.fstr (a:= "no") v2 (by decide +kernel) (K22.seq1 ?_)
    refine K22.fstr (a:= "no") v2 (by decide +kernel) (K22.seq1 ?_)
    refine K22.fstr (a:= "no") v2 (by decide +kernel) (K22.seq1 ?_)
    refine K22.fstr (a:= "no") v2 (by decide +kernel) (K22.seq1 ?_)
    refine K22.fstr (a:= "no") v2 (by decide +kernel) (K22.seq1 ?_)
    exact putMade a h1 ok rfl (fun P s' p _ q=>⟨_,p,rfl,.inr (.inl ⟨rfl,q⟩)⟩) hP
  | nought d x z hz =>
    refine K22.fstr (a:= "nought") v2 (by decide +kernel) (K22.seq1 ?_)
    refine K22.fstr (a:= "nought") v2 (by decide +kernel) (K22.seq1 ?_)
    refine K22.fstr (a:= "nought") v2 (by decide +kernel) (K22.seq1 ?_)
    refine K22.fstr (a:= "nought") v2 (by decide +kernel) (K22.seq1 ?_)
    refine K22.fstr (a:= "nought") v2 (by decide +kernel) (K22.seq1 ?_)
    have e:(partsOf (form "nought") [d,x] "x").map (inH H)=[.int z]:=by rw [show partsOf (form "nought") [d,x] "x" = [x] from parts_dx (by decide +kernel),List.map_cons,List.map_nil,hz]
    exact putMade a h1 ok rfl (fun P s' p g q=>⟨_,p,rfl,.inr (.inr (.inl ⟨z,⟨_,g,e⟩,.inl ⟨rfl,q⟩⟩))⟩) hP
  | high d x z hz =>
    refine K22.fstr (a:= "high") v2 (by decide +kernel) (K22.seq1 ?_)
    refine K22.fstr (a:= "high") v2 (by decide +kernel) (K22.seq1 ?_)
    refine K22.fstr (a:= "high") v2 (by decide +kernel) (K22.seq1 ?_)
    refine K22.fstr (a:= "high") v2 (by decide +kernel) (K22.seq1 ?_)
    refine K22.fstr (a:= "high") v2 (by decide +kernel) (K22.seq1 ?_)
    have e:(partsOf (form "high") [d,x] "x").map (inH H)=[.int z]:=by rw [show partsOf (form "high") [d,x] "x" = [x] from parts_dx (by decide +kernel),List.map_cons,List.map_nil,hz]
    exact putMade a h1 ok rfl (fun P s' p g q=>⟨_,p,rfl,.inr (.inr (.inl ⟨z,⟨_,g,e⟩,.inr ⟨rfl,q⟩⟩))⟩) hP
  | two o d x y z z' hz hz' z0 z1 z2 z3 =>
    have nk:∀ w:Str,w ∈ (["keep", "load", "num", "box", "mark"]:List Str)→(K20.nm o == w)=false:=by cases o <;> decide +kernel
    refine K22.fstr (a:=K20.nm o) v2 (nk _ (by decide +kernel)) (K22.seq1 ?_)
    refine K22.fstr (a:=K20.nm o) v2 (nk _ (by decide +kernel)) (K22.seq1 ?_)
    refine K22.fstr (a:=K20.nm o) v2 (nk _ (by decide +kernel)) (K22.seq1 ?_)
    refine K22.fstr (a:=K20.nm o) v2 (nk _ (by decide +kernel)) (K22.seq1 ?_)
    refine K22.fstr (a:=K20.nm o) v2 (nk _ (by decide +kernel)) (K22.seq1 ?_)
    have e:(partsOf (form (K20.nm o)) [d,x,y] "x").map (inH H)=[.int z,.int z']:=by rw [show partsOf (form (K20.nm o)) [d,x,y] "x" = [x,y] from parts_dxx (by cases o <;> decide +kernel),List.map_cons,List.map_cons,List.map_nil,hz,hz']
    exact putMade a h1 ok rfl (fun P s' p g q=>⟨_,p,rfl,.inr (.inr (.inr ⟨o,z,z',rfl,⟨_,g,e⟩,z0,z1,z2,z3,q⟩))⟩) hP
theorem rd_Hold_source {ds:List Dt} {st:Sto} {Pd:VD} (h:spHSource ds st Pd):t_Hold_source (Ed Pd) (qW ["self", "source", "old", "where"] ds) st:=by
  obtain ⟨n,h,s,H,src,old,v,rfl,a,sr,hP⟩:=h
  show t_Hold_source (Ed Pd) [some (.ins n),some src,some (.tup old),none] st
  unfold t_Hold_source
  refine seqA (i:=3) ?_
  cases sr with
  | hand x =>
    refine rS (i:=1) (j:=0) (xs:=[.str "hand",.int x]) rfl rfl _ ?_
    refine K22.seq1 (K22.tstr (a:= "hand") (fun P hp=>hp) (by decide +kernel) (K22.seq1 ?_))
    exact m_in (i:=0) (x:=x) a rfl (tA1 (rS (i:=1) (j:=1) (xs:=[.str "hand",.int x]) rfl rfl)) hP
  | shelf x =>
    refine rS (i:=1) (j:=0) (xs:=[.str "shelf",.int x]) rfl rfl _ ?_
    refine fsq (a:= "shelf") (fun P hp=>hp) (by decide +kernel) ?_
    refine K22.seq1 (K22.tstr (a:= "shelf") (fun P hp=>hp) (by decide +kernel) (K22.seq1 ?_))
    exact m_on (i:=0) (x:=x) a rfl (tA1 (rS (i:=1) (j:=1) (xs:=[.str "shelf",.int x]) rfl rfl)) hP
  | old k d hk =>
    refine rS (i:=1) (j:=0) (xs:=[.str "old",.int (k:Int)]) rfl rfl _ ?_
    refine fsq (a:= "old") (fun P hp=>hp) (by decide +kernel) ?_
    refine fsq (a:= "old") (fun P hp=>hp) (by decide +kernel) ?_
    refine K22.seq1 ?_
    simp only [qR,qB,qV,qK,List.getElem?_cons_zero,List.getElem?_cons_succ,List.set_cons_zero,List.set_cons_succ]
    refine pickTA (xs:=[.str "old",.int (k:Int)]) (v:=1) (d:=.int (k:Int)) rfl ?_
    exact pickTA (atI_nat hk) hP
end
end KM
namespace KM
open PySem PySem.Spec PyProof.Rows L2 L3 KS K02 K85 K06
noncomputable abbrev t_number_out:TSD:=(qS (qJ (qT (qB (qQ false) (qB qI (qV 0) (qK (Dt.int 0))) (qK (Dt.str (Str.ofString "out"))))) (qS (qR (qB qI (qV 0) (qK (Dt.int 1)))) qN) qN) (qS (qJ (qT (qB (qQ false) (qB qI (qV 0) (qK (Dt.int 0))) (qK (Dt.str (Str.ofString "back"))))) (qS (qR (tifE (qT (qB (rIsD false) (qV 2) (qK Dt.non))) (qB qI (qV 0) (qK (Dt.int 1))) (qB qI (qV 0) (qK (Dt.int 2))))) qN) qN) (qS (qR (tifE (qT (qB qI (qV 1) (qK (Dt.int 0)))) (qB qI (qV 0) (qK (Dt.int 2))) (qB qI (qV 0) (qK (Dt.int 3))))) qN)))
noncomputable abbrev t_state_out:TSD:=(qS (qE (qF qH (qA (tcomp (iseq (qB qI (qV 0) (qK (Dt.int 2)))) (fun x st P=>P true st) (tmeth "Hold" "source" spHSource (qV 1) (qA (qV 0) (qA (tfld "Hold" (qV 1) "boxes") qZ))) [(2, "hold")]) qZ)) (qG 4)) (qS (qJ (qT (qV 3)) (qS (qR (qU (qA (qB qI (qB qI (qV 1) (qK (Dt.int 3))) (qK (Dt.int 0))) (qA (qV 4) (qA (qB qI (qB qI (qV 1) (qK (Dt.int 3))) (qK (Dt.int 1))) (qA (qK Dt.non) (qA (qB qI (qV 1) (qK (Dt.int 4))) (qA (qB qI (qV 1) (qK (Dt.int 5))) qZ)))))))) qN) qN) (qS (qE (tifE (qT (qF rIsInst (qA (qB qI (qV 0) (qK (Dt.int 1))) (qA (qK (Dt.ty "tuple")) qZ)))) (tmeth "Hold" "in_hand" spInHand (qV 2) (qA (qB qI (qB qI (qV 0) (qK (Dt.int 1))) (qK (Dt.int 1))) qZ)) (qB qI (qV 0) (qK (Dt.int 1)))) (qG 5)) (qS (qE (qF qH (qA (tcomp (iseq (qB qI (qV 0) (qK (Dt.int 3)))) (fun x st P=>P true st) (tmeth "Hold" "source" spHSource (qV 1) (qA (qV 0) (qA (tfld "Hold" (qV 1) "marks") qZ))) [(2, "hold")]) qZ)) (qG 6)) (qS (qR (qU (qA (qB rMod (qV 5) (qK (Dt.int 65536))) (qA (qV 4) (qA (qV 6) (qA (qB qI (qV 1) (qK (Dt.int 3))) (qA (qB qI (qV 1) (qK (Dt.int 4))) (qA (qB qI (qV 1) (qK (Dt.int 5))) qZ)))))))) qN)))))
section
variable {E:EndsD} {st:Sto} {Q:VD} {ρ:Rho} {n h s:Nat} {H:Hd}
theorem parts_when {x e f:Int}:partsOf (form "when") [x,e,f] "x" = [x]:=by
  have h:cs (form "when")=[120,101,101]:=by decide +kernel
  unfold partsOf;rw [h]
  have e1:(one 101 == ("x" : Str))=false:=by decide +kernel
  have e2:(one 120 == ("x" : Str))=true:=by decide +kernel
  simp only [List.zip_cons_cons,List.zip_nil_left,List.filter_cons,e1,e2,List.filter_nil,Bool.false_eq_true,if_false,if_true,List.map_cons,List.map_nil]
theorem retIf {c:TBD} {t u:TD} {b:Bool} {P:VD} (hc:∀ P:Bool→Sto→Prop,P b st→c ρ st P) (h:if b=true then t ρ st P else u ρ st P):tifE c t u ρ st P:=by
  unfold tifE;exact hc _ h
theorem rd_number_out {ds:List Dt} {st:Sto} {Pd:VD} (h:spNumOut ds st Pd):t_number_out (Ed Pd) (qW ["row", "parts", "saved"] ds) st:=by
  obtain ⟨r,p,sv,H,e,rfl,hp,la,hP⟩:=h
  show t_number_out (Ed Pd) [some (rowD r),some (.lst p),some (svD sv)] st
  have w0:∀ P:VD,P (.str r.w) st→qB qI (qV 0) (qK (.int 0)) [some (rowD r),some (.lst p),some (svD sv)] st P:=rS (i:=0) (j:=0) (xs:=.str r.w :: r.xs.map .int) rfl rfl
  unfold t_number_out
  cases la with
  | out e =>
    refine K22.seq1 (K22.tstr (a:= "out") w0 (by decide +kernel) (K22.seq1 ?_))
    exact rX (i:=0) (j:=0) rfl rfl _ hP
  | back e f =>
    refine fsq (a:= "back") w0 (by decide +kernel) ?_
    refine K22.seq1 (K22.tstr (a:= "back") w0 (by decide +kernel) (K22.seq1 ?_))
    cases sv with
    | none =>
      refine retIf (b:=true) (fun P hp=>hp) ?_
      exact iteT (rX (i:=0) (j:=0) rfl rfl _ hP)
    | some z =>
      refine retIf (b:=false) (fun P hp=>hp) ?_
      exact iteF (rX (i:=0) (j:=1) rfl rfl _ hP)
  | whn x e f t ht =>
    refine fsq (a:= "when") w0 (by decide +kernel) ?_
    refine fsq (a:= "when") w0 (by decide +kernel) ?_
    refine K22.seq1 ?_
    have hp:st[p]? = some (.rw [.bl t]):=by
      have:(partsOf (form "when") [x,e,f] "x").map (inH H)=[.bl t]:=by rw [parts_when,List.map_cons,List.map_nil,ht]
      rw [← this];exact hp
    refine retIf (b:=t) (fun P h=>?_) ?_
    · show qT _ _ _ _
      unfold qT
      exact ixL (i:=1) (j:=0) (d:=.bl t) rfl hp rfl _ h
    · cases t with
      | true=>exact iteT (rX (i:=0) (j:=1) rfl rfl _ hP)
      | false=>exact iteF (rX (i:=0) (j:=2) rfl rfl _ hP)
theorem srcComp {i j k:Nat} {nm f:Str} {ss vs xs old:List Dt} (a:HoldAt st n h s H) (hi:ρ[i]? = some (some (.ins n))) (hj:ρ[j]? = some (some (.tup xs))) (hk:xs[k]? = some (.tup ss)) (hf:(fldsH h s H.bx H.ms).lookup f=some (.tup old)) (al:AllS H old ss vs) (hl:ss.length≤100)
    (q:∀ st',ExtS st st'→Q (.tup vs) st') :
    qF qH (qA (tcomp (iseq (qB qI (qV j) (qK (Dt.int (k:Int))))) (fun x st P=>P true st) (tmeth "Hold" "source" spHSource (qV 1) (qA (qV 0) (qA (tfld "Hold" (qV 1) f) qZ))) [(i,nm)]) qZ) ρ st Q:=by
  unfold qF
  simp only [qA,qZ,tcomp,iseq]
  refine rS (i:=j) (j:=k) hj hk _ ?_
  simp only [seqOf,capρ,List.map_cons,List.map_nil,hi,Option.join_some]
  refine ⟨fun m zs s'=>zs=vs.take m∧s'=st,⟨rfl,rfl⟩,fun _ _ _ _ _=>trivial,?_,?_⟩
  · rintro m d zs s' hd ⟨rfl,rfl⟩
    have hm:=(List.getElem?_eq_some_iff.mp hd).1
    have hyl:(vs.take m).length≤vs.length:=List.length_take_le' m _
    have hvl:=al.1
    refine ⟨small (by omega),iteT ?_⟩
    have hm2:m < vs.length:=by omega
    simp only [tmeth,qV,qA,qZ,tfld,List.getElem?_cons_zero,List.getElem?_cons_succ,a.ob,no_src,hf,true_and]
    refine ⟨n,h,s,H,d,old,vs[m],rfl,a,al.2 m _ _ hd (List.getElem?_eq_getElem hm2),?_,rfl⟩
    rw [List.take_succ,List.getElem?_eq_getElem hm2]
    simp
  · rintro ys s' ⟨rfl,rfl⟩
    have e:(s' ++ [SO.rw (vs.take ss.length)])[s'.length]? = some (.rw vs):=by rw [qX,← al.1,List.take_length]
    simp only [qH,seqOf,e,Option.map_some,SO.items]
    exact q _ (.app _ _)
theorem rd_state_out {ds:List Dt} {st:Sto} {Pd:VD} (h:spStateOut ds st Pd):t_state_out (Ed Pd) (qW ["way", "state", "hold", "is_back", "boxes", "place", "marks"] ds) st:=by
  obtain ⟨e,g,g',n,h,s,H,k,rfl,a,l1,l2,ou,hP⟩:=h
  show t_state_out (Ed Pd) [some (exD e),some g.d,some (.ins n),some (.bl k),none,none,none] st
  have six:(6:Nat)≤sizeLine:=by decide
  unfold t_state_out
  refine seqA (i:=4) ?_
  cases ou with
  | back q m vs hs al =>
    refine srcComp (i:=2) (j:=0) (k:=2) (xs:=[.str e.how,e.at_,.tup e.bs,.tup e.ms,.int e.n]) a rfl rfl rfl rfl al l1 fun s1 x1=>?_
    refine K22.seq1 (ifS (b:=true) (fun P hp=>hp) (fun _=>?_) fun z=>by cases z)
    simp only [qS,qR,qU,qA,qZ,qB,qV,qK,List.getElem?_cons_zero,List.getElem?_cons_succ,List.set_cons_zero,List.set_cons_succ]
    have sv:svD g.sv = .tup [.int q,msD m]:=by rw [hs];rfl
    refine pickTA (xs:=[.int g.p,.tup (g.bs.map .int),msD g.m,svD g.sv,.tup (g.rs.map .int),.tup (g.cs.map .int)]) (v:=3) (d:=.tup [.int q,msD m]) (by rw [sv];rfl) ?_
    refine pickTA (xs:=[.int q,msD m]) (v:=0) (d:=.int q) rfl ?_
    refine pickTA (xs:=[.int g.p,.tup (g.bs.map .int),msD g.m,svD g.sv,.tup (g.rs.map .int),.tup (g.cs.map .int)]) (v:=3) (d:=.tup [.int q,msD m]) (by rw [sv];rfl) ?_
    refine pickTA (xs:=[.int q,msD m]) (v:=1) (d:=msD m) rfl ?_
    refine pickTA (xs:=[.int g.p,.tup (g.bs.map .int),msD g.m,svD g.sv,.tup (g.rs.map .int),.tup (g.cs.map .int)]) (v:=4) (d:=.tup (g.rs.map .int)) rfl ?_
    refine pickTA (xs:=[.int g.p,.tup (g.bs.map .int),msD g.m,svD g.sv,.tup (g.rs.map .int),.tup (g.cs.map .int)]) (v:=5) (d:=.tup (g.cs.map .int)) rfl ?_
    exact ⟨six,hP _ x1⟩
  | go p vs m ha al am =>
    refine srcComp (i:=2) (j:=0) (k:=2) (xs:=[.str e.how,e.at_,.tup e.bs,.tup e.ms,.int e.n]) a rfl rfl rfl rfl al l1 fun s1 x1=>?_
    have a1:=a.ext x1
    refine seqIf (b:=false) (fun P hp=>hp) (fun z=>by cases z) fun _=>?_
    refine seqA (i:=5) ?_
    have rest:(qS (qE (qF qH (qA (tcomp (iseq (qB qI (qV 0) (qK (Dt.int 3)))) (fun x st P=>P true st) (tmeth "Hold" "source" spHSource (qV 1) (qA (qV 0) (qA (tfld "Hold" (qV 1) "marks") qZ))) [(2, "hold")]) qZ)) (qG 6)) (qS (qR (qU (qA (qB rMod (qV 5) (qK (Dt.int 65536))) (qA (qV 4) (qA (qV 6) (qA (qB qI (qV 1) (qK (Dt.int 3))) (qA (qB qI (qV 1) (qK (Dt.int 4))) (qA (qB qI (qV 1) (qK (Dt.int 5))) qZ)))))))) qN)) (Ed Pd) [some (exD e),some g.d,some (.ins n),some (.bl false),some (.tup (vs.map .int)),some (.int p),none] s1:=by
      refine seqA (i:=6) ?_
      refine srcComp (i:=2) (j:=0) (k:=3) (xs:=[.str e.how,e.at_,.tup e.bs,.tup e.ms,.int e.n]) a1 rfl rfl rfl rfl am l2 fun s2 x2=>?_
      simp only [qS,qR,qU,qA,qZ,qB,qV,qK,List.getElem?_cons_zero,List.getElem?_cons_succ,List.set_cons_zero,List.set_cons_succ]
      refine ⟨by decide,?_⟩
      refine pickTA (xs:=[.int g.p,.tup (g.bs.map .int),msD g.m,svD g.sv,.tup (g.rs.map .int),.tup (g.cs.map .int)]) (v:=3) (d:=svD g.sv) rfl ?_
      refine pickTA (xs:=[.int g.p,.tup (g.bs.map .int),msD g.m,svD g.sv,.tup (g.rs.map .int),.tup (g.cs.map .int)]) (v:=4) (d:=.tup (g.rs.map .int)) rfl ?_
      refine pickTA (xs:=[.int g.p,.tup (g.bs.map .int),msD g.m,svD g.sv,.tup (g.rs.map .int),.tup (g.cs.map .int)]) (v:=5) (d:=.tup (g.cs.map .int)) rfl ?_
      exact ⟨six,hP _ fun u o ho=>x2 _ _ (x1 _ _ ho)⟩
    obtain ⟨how,at_,bs,ms,nn⟩:=e
    cases ha with
    | int =>
      refine retIf (b:=false) (fun P hp=>?_) (iteF ?_)
      · show qT _ _ _ _
        unfold qT
        simp only [qF,qA,qZ,qK]
        refine rS (i:=0) (j:=1) (xs:=[.str how,.int p,.tup bs,.tup ms,.int nn]) rfl rfl _ ?_
        exact ⟨by decide +kernel,hp⟩
      · exact rS (i:=0) (j:=1) (xs:=[.str how,.int p,.tup bs,.tup ms,.int nn]) rfl rfl _ rest
    | hand w x _ hx =>
      refine retIf (b:=true) (fun P hp=>?_) (iteT ?_)
      · show qT _ _ _ _
        unfold qT
        simp only [qF,qA,qZ,qK]
        refine rS (i:=0) (j:=1) (xs:=[.str how,.tup [.str w,.int x],.tup bs,.tup ms,.int nn]) rfl rfl _ ?_
        exact ⟨by decide +kernel,hp⟩
      · refine m_in (i:=2) (x:=x) a1 rfl (tA1 fun P hp=>?_) (by rw [hx];exact rest)
        show qB qI _ _ _ _ _
        unfold qB
        refine rS (i:=0) (j:=1) (xs:=[.str how,.tup [.str w,.int x],.tup bs,.tup ms,.int nn]) rfl rfl _ ?_
        exact pickTA (xs:=[.str w,.int x]) (v:=1) rfl hp
end
end KM
namespace KM
open PySem PySem.Spec PyProof.Rows L2 L3 KS K02 K85 K06
noncomputable abbrev t_do_host:TSD:=(qS (qE (tmake "Hold" spHInit (qA (qB qI (qV 1) (qK (Dt.int 1))) (qA (qB qI (qV 1) (qK (Dt.int 2))) qZ))) (qG 4)) (qS (qE (qL qZ) (qG 5)) (qS (qE (qK (Dt.int 0)) (qG 6)) (qS (tfor (ienum1 (qB qI (qV 0) (qK (Dt.int 2)))) (gunpack 2 (gscons (qG 7) (gscons (qG 8) gsnil))) (qS (qE (qB qI (qV 8) (qK (Dt.int 0))) (qG 9)) (qS (qE (tcomp (iseq (qF K85.spParts (qA (qV 8) (qA (qK (Dt.str (Str.ofString "x"))) qZ)))) (fun x st P=>P true st) (tmeth "Hold" "in_hand" spInHand (qV 1) (qA (qV 0) qZ)) [(4, "hold")]) (qG 10)) (qS (qE (qK Dt.non) (qG 11)) (qS (qJ (qT (qB (rInD false) (qV 9) (qK (Dt.tup lastD)))) (qS (qE (qF spNumOut (qA (qV 8) (qA (qV 10) (qA (qB qI (qV 1) (qK (Dt.int 3))) qZ)))) (qG 11)) qN) (qS (qJ (qT (itopin itemS (qV 9))) (qS (qE (qF KD.spDoItem (qA (qV 1) (qA (qV 9) (qA (qV 10) (qA (tifE (qT (qB (rCmpI fun i j=>decide (i < j)) (qV 6) (qF rLen (qA (qV 2) qZ)))) (qB qI (qV 2) (qV 6)) (qK (Dt.int 0))) qZ))))) (qG 12)) (qS (qE (qB qI (qV 12) (qK (Dt.int 1))) (qG 1)) (qS (tdrop (textend (qV 5) (qB qI (qV 12) (qK (Dt.int 2))))) (qS (qJ (qT (qB (qQ true) (qB qI (qV 12) (qK (Dt.int 0))) (qK (Dt.str (Str.ofString "on"))))) (qS (qE (qB qI (qF K85.spParts (qA (qV 8) (qA (qK (Dt.str (Str.ofString "e"))) qZ))) (qK (Dt.int 0))) (qG 11)) qN) (qS (qJ (qT (qF KD.spShutting (qA (qV 9) (qA (qV 10) (qA (qV 3) qZ))))) (qS (qE (qB qI (qF K85.spParts (qA (qV 8) (qA (qK (Dt.str (Str.ofString "e"))) qZ))) (qK (Dt.int 1))) (qG 11)) qN) (qS (qJ (qT (qB (rInD false) (qV 9) (qK (Dt.tup KD.brgD)))) (qS (qE (qB qI (qB qI (qV 1) (qK (Dt.int 1))) (qK (Dt.int 0))) (gdput (tfld "Hold" (qV 4) "hands") (qB qI (qV 8) (qK (Dt.int 1))))) (qS (taug 6 (tifE (tandB (qT (qB (qQ false) (qV 9) (qK (Dt.str (Str.ofString "hear"))))) (qT (qB (rCmpI fun i j=>decide (i < j)) (qV 6) (qF rLen (qA (qV 2) qZ))))) (qK (Dt.int 1)) (qK (Dt.int 0)))) qN)) qN) qN)) qN)) qN)))) (qS (tdrop (tmeth "Hold" "put" spPut (qV 4) (qA (qV 8) qZ))) qN)) qN)) (qS (qJ (qT (qB (rIsD true) (qV 11) (qK Dt.non))) (qS (qE (qB qI (qB qI (qV 0) (qK (Dt.int 3))) (qV 11)) (qG 13)) (qS (qE (tandV (qB (qQ false) (qV 9) (qK (Dt.str (Str.ofString "back")))) (qB (rIsD true) (qB qI (qV 1) (qK (Dt.int 3))) (qK Dt.non))) (qG 14)) (qS (qR (qU (qA (qB qI (qV 13) (qK (Dt.int 0))) (qA (qF spStateOut (qA (qV 13) (qA (qV 1) (qA (qV 4) (qA (qV 14) qZ))))) (qA (qF qH (qA (qV 5) qZ)) (qA (qB qI (qV 13) (qK (Dt.int 4))) (qA (qV 6) (qA (qV 7) qZ)))))))) qN))) qN) qN)))))) (qS (qR (qK Dt.non)) qN)))))
noncomputable def dhC:TSD:=(qS (qJ (qT (qB (rIsD true) (qV 11) (qK Dt.non))) (qS (qE (qB qI (qB qI (qV 0) (qK (Dt.int 3))) (qV 11)) (qG 13)) (qS (qE (tandV (qB (qQ false) (qV 9) (qK (Dt.str (Str.ofString "back")))) (qB (rIsD true) (qB qI (qV 1) (qK (Dt.int 3))) (qK Dt.non))) (qG 14)) (qS (qR (qU (qA (qB qI (qV 13) (qK (Dt.int 0))) (qA (qF spStateOut (qA (qV 13) (qA (qV 1) (qA (qV 4) (qA (qV 14) qZ))))) (qA (qF qH (qA (qV 5) qZ)) (qA (qB qI (qV 13) (qK (Dt.int 4))) (qA (qV 6) (qA (qV 7) qZ)))))))) qN))) qN) qN)
noncomputable def dhB:TSD:=(qS (qJ (qT (qB (rInD false) (qV 9) (qK (Dt.tup lastD)))) (qS (qE (qF spNumOut (qA (qV 8) (qA (qV 10) (qA (qB qI (qV 1) (qK (Dt.int 3))) qZ)))) (qG 11)) qN) (qS (qJ (qT (itopin itemS (qV 9))) (qS (qE (qF KD.spDoItem (qA (qV 1) (qA (qV 9) (qA (qV 10) (qA (tifE (qT (qB (rCmpI fun i j=>decide (i < j)) (qV 6) (qF rLen (qA (qV 2) qZ)))) (qB qI (qV 2) (qV 6)) (qK (Dt.int 0))) qZ))))) (qG 12)) (qS (qE (qB qI (qV 12) (qK (Dt.int 1))) (qG 1)) (qS (tdrop (textend (qV 5) (qB qI (qV 12) (qK (Dt.int 2))))) (qS (qJ (qT (qB (qQ true) (qB qI (qV 12) (qK (Dt.int 0))) (qK (Dt.str (Str.ofString "on"))))) (qS (qE (qB qI (qF K85.spParts (qA (qV 8) (qA (qK (Dt.str (Str.ofString "e"))) qZ))) (qK (Dt.int 0))) (qG 11)) qN) (qS (qJ (qT (qF KD.spShutting (qA (qV 9) (qA (qV 10) (qA (qV 3) qZ))))) (qS (qE (qB qI (qF K85.spParts (qA (qV 8) (qA (qK (Dt.str (Str.ofString "e"))) qZ))) (qK (Dt.int 1))) (qG 11)) qN) (qS (qJ (qT (qB (rInD false) (qV 9) (qK (Dt.tup KD.brgD)))) (qS (qE (qB qI (qB qI (qV 1) (qK (Dt.int 1))) (qK (Dt.int 0))) (gdput (tfld "Hold" (qV 4) "hands") (qB qI (qV 8) (qK (Dt.int 1))))) (qS (taug 6 (tifE (tandB (qT (qB (qQ false) (qV 9) (qK (Dt.str (Str.ofString "hear"))))) (qT (qB (rCmpI fun i j=>decide (i < j)) (qV 6) (qF rLen (qA (qV 2) qZ))))) (qK (Dt.int 1)) (qK (Dt.int 0)))) qN)) qN) qN)) qN)) qN)))) (qS (tdrop (tmeth "Hold" "put" spPut (qV 4) (qA (qV 8) qZ))) qN)) qN)) dhC)
noncomputable def dhA:TSD:=(qS (qE (qB qI (qV 8) (qK (Dt.int 0))) (qG 9)) (qS (qE (tcomp (iseq (qF K85.spParts (qA (qV 8) (qA (qK (Dt.str (Str.ofString "x"))) qZ)))) (fun x st P=>P true st) (tmeth "Hold" "in_hand" spInHand (qV 1) (qA (qV 0) qZ)) [(4, "hold")]) (qG 10)) (qS (qE (qK Dt.non) (qG 11)) dhB)))
theorem putD_len {kvs:List (Key×Dt)} {k:Key} {v:Dt}:(putD kvs k v).length≤kvs.length + 1:=by
  unfold putD
  split
  · rw [List.length_map];omega
  · simp
section
variable {E:EndsD} {st s':Sto} {Q:VD} {n h s tn gn:Nat} {a b:Dt} {rs:List Rw} {es:List Ex} {given wt:List Int} {m:Ms}
noncomputable abbrev hoD (a b:Dt) (rs:List Rw) (es:List Ex):Dt:=.tup [a,b,.tup (rs.map rowD),.tup (es.map exD)]
noncomputable abbrev RH (a b:Dt) (rs:List Rw) (es:List Ex) (g:GS) (gn:Nat) (wt:List Int) (n tn hd:Nat) (x7 x8 x9 x10 x11 x12 x13 x14:Option Dt):Rho:=[some (hoD a b rs es),some g.d,some (.lst gn),some (.tup (wt.map .int)),some (.ins n),some (.lst tn),some (.int (hd:Nat)),x7,x8,x9,x10,x11,x12,x13,x14]
structure SH (st s':Sto) (n h s tn gn:Nat) (given:List Int) (m:Ms) (i:Nat):Prop where
  ha:HoldAt s' n h s m.H
  ht:s'[tn]? = some (.rw (m.told.map .int))
  hg:K20.Has st gn (given.map .int)
  ex:ExtS st s'
  lh:st.length≤h
  ls:st.length≤s
  lt:st.length≤tn
  l1:m.H.hk.length≤i
  l2:m.H.sk.length≤i
  l3:m.told.length≤i
  i4:i≤400
theorem SH.grow {i:Nat} {s2:Sto} (x:SH st s' n h s tn gn given m i) (e:ExtS s' s2):SH st s2 n h s tn gn given m i:={ x with ha:=x.ha.ext e,ht:=e _ _ x.ht,ex:=fun j o hj=>e _ _ (x.ex _ _ hj) }
theorem stN {g:GS} {hd:Nat} {x7 x8 x9 x10 x12 x13 x14:Option Dt} (q:E.nx (RH a b rs es g gn wt n tn hd x7 x8 x9 x10 (some .non) x12 x13 x14) st):dhC E (RH a b rs es g gn wt n tn hd x7 x8 x9 x10 (some .non) x12 x13 x14) st:=by
  unfold dhC
  exact seqIf (b:=false) (fun P hp=>hp) (fun z=>by cases z) fun _=>q
theorem stS {x10 x12 x13 x14:Option Dt} {c e:Nat} {r:Rw} {ex:Ex} {g':GS} {i:Nat} (sh:SH st s' n h s tn gn given m i) (he:es[e]? = some ex) (l1:ex.bs.length≤100) (l2:ex.ms.length≤100) (ou:Outs m.H m.g ex (isBk r m) g')
    (hE:∀ s2,ExtS st s2→E.rt (hostD ex g' m.told m.heard c) s2) :
    dhC E (RH a b rs es m.g gn wt n tn m.heard (some (.int (c:Int))) (some (rowD r)) (some (.str r.w)) x10 (some (.int (e:Int))) x12 x13 x14) s':=by
  have six:(6:Nat)≤sizeLine:=by decide
  unfold dhC
  refine seqIf (b:=true) (fun P hp=>hp) (fun _=>?_) (fun z=>by cases z)
  refine seqA (i:=13) ?_
  unfold qB
  refine rS (i:=0) (j:=3) (xs:=[a,b,.tup (rs.map rowD),.tup (es.map exD)]) rfl rfl _ ?_
  show qI (.tup (es.map exD)) (.int (e:Int)) s' _
  refine pickTA (atI_nat (j:=e) (by rw [List.getElem?_map,he];rfl)) ?_
  refine seqA (i:=14) ?_
  have bk:∀ P:VD,P (.bl (isBk r m)) s'→tandV (qB (qQ false) (qV 9) (qK (Dt.str (Str.ofString "back")))) (qB (rIsD true) (qB qI (qV 1) (qK (Dt.int 3))) (qK Dt.non)) (RH a b rs es m.g gn wt n tn m.heard (some (.int (c:Int))) (some (rowD r)) (some (.str r.w)) x10 (some (.int (e:Int))) x12 (some (exD ex)) x14) s' P:=by
    intro P hp
    simp only [tandV,qB,qV,qK,List.getElem?_cons_zero,List.getElem?_cons_succ]
    by_cases hw:r.w = "back"
    · have:(r.w == ("back" : Str))=true:=by rw [hw];decide +kernel
      refine K22.strT this ?_
      refine KH.iteB rfl ?_
      refine pickTA (xs:=[.int m.g.p,.tup (m.g.bs.map .int),msD m.g.m,svD m.g.sv,.tup (m.g.rs.map .int),.tup (m.g.cs.map .int)]) (v:=3) (d:=svD m.g.sv) rfl ?_
      unfold isBk at hp
      rw [decide_eq_true hw] at hp
      cases hs:m.g.sv with
      | none=>rw [hs] at hp;exact hp
      | some z=>rw [hs] at hp;exact hp
    · have:(r.w == ("back" : Str))=false:=beq_eq_false_iff_ne.mpr hw
      refine K22.strF this ?_
      refine KH.iteBF rfl ?_
      unfold isBk at hp
      rw [decide_eq_false hw] at hp
      exact hp
  refine bk _ ?_
  show qS (qR _) _ _ (RH a b rs es m.g gn wt n tn m.heard (some (.int (c:Int))) (some (rowD r)) (some (.str r.w)) x10 (some (.int (e:Int))) x12 (some (exD ex)) (some (.bl (isBk r m)))) s'
  refine K22.seq1 ?_
  simp only [qR,qU,qB,qK,qA,qZ,qF,qV,List.getElem?_cons_zero,List.getElem?_cons_succ]
  refine pickTA (xs:=[.str ex.how,ex.at_,.tup ex.bs,.tup ex.ms,.int ex.n]) (v:=0) rfl ?_
  refine ⟨ex,m.g,g',n,h,s,m.H,isBk r m,rfl,sh.ha,l1,l2,ou,fun s2 x2=>?_⟩
  have e2:s2[tn]? = some (.rw (m.told.map .int)):=x2 _ _ sh.ht
  simp only [qH,seqOf,e2,Option.map_some,SO.items]
  refine pickTA (xs:=[.str ex.how,ex.at_,.tup ex.bs,.tup ex.ms,.int ex.n]) (v:=4) rfl ?_
  exact ⟨six,hE _ fun u o ho=>x2 _ _ (sh.ex _ _ ho)⟩
end
end KM
namespace KM
open PySem PySem.Spec PyProof.Rows L2 L3 KS K02 K85 K06
section
variable {E:EndsD} {st s':Sto} {Q:VD} {n h s tn gn:Nat} {a b:Dt} {rs:List Rw} {es:List Ex} {given wt:List Int} {m:Ms}
noncomputable def inLast (w:Str):Bool:=lastD.any (fun z=>eqD 0 z (.str w)) != false
noncomputable def inItem (w:Str):Bool:=(itemS.lookup w).isSome
theorem ifLast {ρ:Rho} {A C:TSD} {w:Str} {t:Bool} (h9:ρ[9]? = some (some (.str w))) (ht:inLast w=t) (q1:t=true→A E ρ s') (q2:t=false→C E ρ s'):qJ (qT (qB (rInD false) (qV 9) (qK (Dt.tup lastD)))) A C E ρ s':=by
  refine ifS (b:=t) (fun P hp=>?_) q1 q2
  simp only [qT,qB,qV,qK,h9]
  exact ⟨rfl,by decide +kernel,by show P (inLast w) s';rw [ht];exact hp⟩
theorem ifItem {ρ:Rho} {A C:TSD} {w:Str} {t:Bool} (h9:ρ[9]? = some (some (.str w))) (ht:inItem w=t) (q1:t=true→A E ρ s') (q2:t=false→C E ρ s'):qJ (qT (itopin itemS (qV 9))) A C E ρ s':=by
  refine ifS (b:=t) (fun P hp=>?_) q1 q2
  simp only [qT,itopin,qV,h9]
  show P (inItem w) s'
  rw [ht];exact hp
theorem puts_w {H H':Hd} {r:Rw} (p:Puts H r H'):inLast r.w=false∧inItem r.w=false:=by
  cases p with
  | keep=>exact ⟨(by decide +kernel:inLast "keep" = false),(by decide +kernel:inItem "keep" = false)⟩
  | load=>exact ⟨(by decide +kernel:inLast "load" = false),(by decide +kernel:inItem "load" = false)⟩
  | num=>exact ⟨(by decide +kernel:inLast "num" = false),(by decide +kernel:inItem "num" = false)⟩
  | box=>exact ⟨(by decide +kernel:inLast "box" = false),(by decide +kernel:inItem "box" = false)⟩
  | mark=>exact ⟨(by decide +kernel:inLast "mark" = false),(by decide +kernel:inItem "mark" = false)⟩
  | yes=>exact ⟨(by decide +kernel:inLast "yes" = false),(by decide +kernel:inItem "yes" = false)⟩
  | no=>exact ⟨(by decide +kernel:inLast "no" = false),(by decide +kernel:inItem "no" = false)⟩
  | nought=>exact ⟨(by decide +kernel:inLast "nought" = false),(by decide +kernel:inItem "nought" = false)⟩
  | high=>exact ⟨(by decide +kernel:inLast "high" = false),(by decide +kernel:inItem "high" = false)⟩
  | two o=>exact ⟨(by cases o <;> decide +kernel:inLast (K20.nm o)=false),(by cases o <;> decide +kernel:inItem (K20.nm o)=false)⟩
theorem puts_len {H H':Hd} {r:Rw} (p:Puts H r H') {i:Nat} (h1:H.hk.length≤i) (h2:H.sk.length≤i):H'.hk.length≤i + 1∧H'.sk.length≤i + 1:=by
  have hk:∀ {k v},(putD H.hk k v).length≤i + 1:=fun {k v}=>Nat.le_trans putD_len (by omega)
  have sk:∀ {k v},(putD H.sk k v).length≤i + 1:=fun {k v}=>Nat.le_trans putD_len (by omega)
  cases p with
  | keep=>exact ⟨Nat.le_succ_of_le h1,sk⟩
  | _=>exact ⟨hk,Nat.le_succ_of_le h2⟩
variable {x7 x12 x13 x14:Option Dt} {p:Nat} {r:Rw} {i:Nat}
theorem stP {H':Hd} (sh:SH st s' n h s tn gn given m i) (hi:i < 400) (ok:OkR r) (pu:Puts m.H r H')
    (hE:∀ s2,SH st s2 n h s tn gn given { m with H:=H' } (i + 1)→dhC E (RH a b rs es m.g gn wt n tn m.heard x7 (some (rowD r)) (some (.str r.w)) (some (.lst p)) (some .non) x12 x13 x14) s2) :
    dhB E (RH a b rs es m.g gn wt n tn m.heard x7 (some (rowD r)) (some (.str r.w)) (some (.lst p)) (some .non) x12 x13 x14) s':=by
  have l1:=sh.l1
  have l2:=sh.l2
  have l3:=sh.l3
  have pw:=puts_w pu
  unfold dhB
  refine K22.seq1 (ifLast rfl pw.1 (fun z=>by cases z) fun _=>K22.seq1 (ifItem rfl pw.2 (fun z=>by cases z) fun _=>K22.seq1 ?_))
  simp only [tdrop,tmeth,qV,qA,qZ,List.getElem?_cons_zero,List.getElem?_cons_succ,sh.ha.ob,no_put,true_and]
  refine ⟨n,h,s,m.H,H',r,rfl,sh.ha,by omega,by omega,ok,pu,fun s2 a2 x2=>?_⟩
  have le:=puts_len pu l1 l2
  have n1:tn≠h:=fun e=>by have:=sh.ht;rw [e,sh.ha.hd] at this;cases this
  have n2:tn≠s:=fun e=>by have:=sh.ht;rw [e,sh.ha.sh] at this;cases this
  refine hE s2 ⟨a2,x2 _ _ n1 n2 sh.ht,sh.hg,fun j o hj=>?_,sh.lh,sh.ls,sh.lt,le.1,le.2,by show m.told.length≤i + 1;omega,by omega⟩
  have hl:=(List.getElem?_eq_some_iff.mp hj).1
  have:=sh.lh
  have:=sh.ls
  exact x2 _ _ (by omega) (by omega) (sh.ex _ _ hj)
theorem last_w {H:Hd} {sv:Option (Int×M3)} {r:Rw} {e:Int} (l:Last H sv r e):inLast r.w=true:=by
  cases l with
  | out=>exact (by decide +kernel:inLast "out" = true)
  | back=>exact (by decide +kernel:inLast "back" = true)
  | whn=>exact (by decide +kernel:inLast "when" = true)
theorem stL {e:Int} (sh:SH st s' n h s tn gn given m i) (hp:s'[p]? = some (.rw ((partsOf (form r.w) r.xs "x").map (inH m.H)))) (la:Last m.H m.g.sv r e)
    (hE:dhC E (RH a b rs es m.g gn wt n tn m.heard x7 (some (rowD r)) (some (.str r.w)) (some (.lst p)) (some (.int e)) x12 x13 x14) s') :
    dhB E (RH a b rs es m.g gn wt n tn m.heard x7 (some (rowD r)) (some (.str r.w)) (some (.lst p)) (some .non) x12 x13 x14) s':=by
  unfold dhB
  refine K22.seq1 (ifLast rfl (last_w la) (fun _=>?_) (fun z=>by cases z))
  refine seqA (i:=11) ?_
  simp only [qF,qV,qA,qZ,qB,qK,List.getElem?_cons_zero,List.getElem?_cons_succ]
  refine pickTA (xs:=[.int m.g.p,.tup (m.g.bs.map .int),msD m.g.m,svD m.g.sv,.tup (m.g.rs.map .int),.tup (m.g.cs.map .int)]) (v:=3) (d:=svD m.g.sv) rfl ?_
  exact ⟨r,p,m.g.sv,m.H,e,rfl,hp,la,hE⟩
theorem itr_w {H:Hd} {w:KD.IW} {ps:List Int} {d:Int} (t:ItR H r w ps d):r.w=KD.iw w:=by cases t <;> rfl
theorem iw_w (w:KD.IW):inLast (KD.iw w)=false∧inItem (KD.iw w)=true:=by cases w <;> decide +kernel
theorem itr_len {H:Hd} {w:KD.IW} {ps:List Int} {d:Int} (t:ItR H r w ps d):ps.length=KD.arity w∧(KD.brings w=true→r.xs[0]? = some d):=by cases t <;> exact ⟨rfl,fun z=>by first | rfl | cases z⟩
theorem itr_parts {H:Hd} {w:KD.IW} {ps:List Int} {d:Int} (t:ItR H r w ps d):(partsOf (form r.w) r.xs "x").map (inH H)=ps.map .int:=by
  have e0:(one 100 == ("x" : Str))=false:=by decide +kernel
  have e1:(one 101 == ("x" : Str))=false:=by decide +kernel
  have e2:(one 120 == ("x" : Str))=true:=by decide +kernel
  cases t with
  | get d x y e a b ha hb =>
    have h:cs (form "get")=[100,120,120,101]:=by decide +kernel
    show (partsOf (form "get") [d,x,y,e] "x").map (inH H)=_
    unfold partsOf;rw [h]
    simp only [List.zip_cons_cons,List.zip_nil_left,List.filter_cons,e0,e1,e2,List.filter_nil,Bool.false_eq_true,if_false,if_true,List.map_cons,List.map_nil,ha,hb]
  | set x y z e f a b c ha hb hc =>
    have h:cs (form "set")=[120,120,120,101,101]:=by decide +kernel
    show (partsOf (form "set") [x,y,z,e,f] "x").map (inH H)=_
    unfold partsOf;rw [h]
    simp only [List.zip_cons_cons,List.zip_nil_left,List.filter_cons,e0,e1,e2,List.filter_nil,Bool.false_eq_true,if_false,if_true,List.map_cons,List.map_nil,ha,hb,hc]
  | div d x y e a b ha hb =>
    have h:cs (form "div")=[100,120,120,101]:=by decide +kernel
    show (partsOf (form "div") [d,x,y,e] "x").map (inH H)=_
    unfold partsOf;rw [h]
    simp only [List.zip_cons_cons,List.zip_nil_left,List.filter_cons,e0,e1,e2,List.filter_nil,Bool.false_eq_true,if_false,if_true,List.map_cons,List.map_nil,ha,hb]
  | tell x a ha =>
    have h:cs (form "tell")=[120]:=by decide +kernel
    show (partsOf (form "tell") [x] "x").map (inH H)=_
    unfold partsOf;rw [h]
    simp only [List.zip_cons_cons,List.zip_nil_left,List.filter_cons,e0,e1,e2,List.filter_nil,Bool.false_eq_true,if_false,if_true,List.map_cons,List.map_nil,ha]
  | hear d =>
    have h:cs (form "hear")=[100]:=by decide +kernel
    show (partsOf (form "hear") [d] "x").map (inH H)=_
    unfold partsOf;rw [h]
    simp only [List.zip_cons_cons,List.zip_nil_left,List.filter_cons,e0,e1,e2,List.filter_nil,Bool.false_eq_true,if_false,if_true,List.map_cons,List.map_nil]
  | right x y e a b ha hb =>
    have h:cs (form "right")=[120,120,101]:=by decide +kernel
    show (partsOf (form "right") [x,y,e] "x").map (inH H)=_
    unfold partsOf;rw [h]
    simp only [List.zip_cons_cons,List.zip_nil_left,List.filter_cons,e0,e1,e2,List.filter_nil,Bool.false_eq_true,if_false,if_true,List.map_cons,List.map_nil,ha,hb]
theorem item_small (g:GS) (w:KD.IW) (ps:List Int) (x:Int):(KD.itemG g w ps x).2.2.length≤1∧(KD.itemG g w ps x).2.1.bs.length=g.bs.length:=by
  cases w <;> simp only [KD.itemG,getG,setG,divG,rightG,onG,leftG,outG,boxG,next] <;> (try split) <;> simp
theorem brg (w:KD.IW):(KD.brgD.any (fun z=>eqD 0 z (.str (KD.iw w))) != false)=KD.brings w:=by cases w <;> decide +kernel
theorem hearT {ρ:Rho} {gn hd:Nat} {given:List Int} (hg:K20.Has s' gn (given.map .int)) (h2:ρ[2]? = some (some (.lst gn))) (h6:ρ[6]? = some (some (.int (hd:Nat)))):∀ P:VD,P (.int (given.getD hd 0)) s'→tifE (qT (qB (rCmpI fun i j=>decide (i < j)) (qV 6) (qF rLen (qA (qV 2) qZ)))) (qB qI (qV 2) (qV 6)) (qK (Dt.int 0)) ρ s' P:=by
  intro P hp
  obtain ⟨o,ho,hi⟩:=hg
  have e:seqOf s' (.lst gn)=some (given.map .int):=by
    show (s'[gn]?).map SO.items=_
    rw [ho,Option.map_some,hi]
  refine retIf (b:=decide (hd < given.length)) (fun P hp=>?_) ?_
  · simp only [qT,qB,qV,h6]
    refine lenL h2 ho _ ?_
    rw [hi,List.length_map]
    show P (decide ((hd:Int) < (given.length:Int))) s'
    rw [show decide ((hd:Int) < (given.length:Int))=decide (hd < given.length) from by by_cases q:hd < given.length <;> simp [q] <;> omega]
    exact hp
  · by_cases q:hd < given.length
    · rw [decide_eq_true q]
      refine iteT ?_
      simp only [qB,qV,h2,h6]
      show (match seqOf s' (.lst gn) with
        | some xs=>(match atI xs (hd:Int) with
          | some d=>P d s'
          | none=>False)
        | none=>False)
      rw [e]
      have:(given.map Dt.int)[hd]? = some (.int (given.getD hd 0)):=by rw [List.getElem?_map,List.getD_eq_getElem?_getD,List.getElem?_eq_getElem q];rfl
      show (match atI (given.map Dt.int) (hd:Int) with
        | some d=>P d s'
        | none=>False)
      rw [atI_nat this]
      exact hp
    · rw [decide_eq_false q]
      refine iteF ?_
      have:given.getD hd 0=0:=by rw [List.getD_eq_getElem?_getD,List.getElem?_eq_none (by omega)];rfl
      rw [this] at hp
      exact hp
end
end KM
namespace KM
open PySem PySem.Spec PyProof.Rows L2 L3 KS K02 K85 K06
section
variable {E:EndsD} {st s':Sto} {Q:VD} {n h s tn gn:Nat} {a b:Dt} {rs:List Rw} {es:List Ex} {given wt:List Int} {m:Ms}
variable {x7 x12 x13 x14:Option Dt} {p:Nat} {r:Rw} {i:Nat}
theorem tv {ρ:Rho} {P:VD} {i:Nat} {d:Dt} (h:ρ[i]? = some (some d)) (q:P d st):qV i ρ st P:=by
  unfold qV;rw [h];exact q
theorem callA4 {ρ:Rho} {sp:RDL} {t1 t2 t3 t4:TD} (h:t1 ρ st fun d1 s1=>t2 ρ s1 fun d2 s2=>t3 ρ s2 fun d3 s3=>t4 ρ s3 fun d4 s4=>sp [d1,d2,d3,d4] s4 Q):qF sp (qA t1 (qA t2 (qA t3 (qA t4 qZ)))) ρ st Q:=h
theorem callA3 {ρ:Rho} {sp:RDL} {t1 t2 t3:TD} (h:t1 ρ st fun d1 s1=>t2 ρ s1 fun d2 s2=>t3 ρ s2 fun d3 s3=>sp [d1,d2,d3] s3 Q):qF sp (qA t1 (qA t2 (qA t3 qZ))) ρ st Q:=h
theorem exT {ρ:Rho} {j:Nat} {e:Int} (ok:OkR r) (h8:ρ[8]? = some (some (rowD r))) (he:(partsOf (form r.w) r.xs "e")[j]? = some e) (q:∀ s2,ExtS st s2→Q (.int e) s2):qB qI (qF K85.spParts (qA (qV 8) (qA (qK (Dt.str (Str.ofString "e"))) qZ))) (qK (Dt.int (j:Int))) ρ st Q:=by
  unfold qB
  refine callA2 (tv h8 ?_)
  refine ⟨r,_,rfl,ok,fun s2 x2=>?_⟩
  exact pickTA (atI_nat (j:=j) (by rw [List.getElem?_map,he];rfl)) (q s2 x2)
variable {w:KD.IW} {ps:List Int} {d:Int}
noncomputable abbrev R' (m:Ms) (w:KD.IW) (ps given:List Int):Res:=KD.itemG m.g w ps (given.getD m.heard 0)
theorem stI (sh:SH st s' n h s tn gn given m i) (hi:i < 400) (ok:OkR r) (okg:m.g.Ok) (it:ItR m.H r w ps d) (hb:∀ v ∈ ps,0≤v∧v < 65536) (hp:s'[p]? = some (.rw ((partsOf (form r.w) r.xs "x").map (inH m.H)))) (pl:st.length≤p) (hpt:p≠tn) (hwt:wt.length≤100)
    (h1:(R' m w ps given).1 ≠ "on" → ∃ e,(partsOf (form r.w) r.xs "e")[0]? = some e∧∀ s2,SH st s2 n h s tn gn given (leftM m w ps given) (i + 1)→dhC E (RH a b rs es (R' m w ps given).2.1 gn wt n tn m.heard x7 (some (rowD r)) (some (.str r.w)) (some (.lst p)) (some (.int e)) (some (resD (R' m w ps given))) x13 x14) s2)
    (h2:(R' m w ps given).1 = "on" → KD.shutB w ps wt=true→∃ e,(partsOf (form r.w) r.xs "e")[1]? = some e∧∀ s2,SH st s2 n h s tn gn given (leftM m w ps given) (i + 1)→dhC E (RH a b rs es (R' m w ps given).2.1 gn wt n tn m.heard x7 (some (rowD r)) (some (.str r.w)) (some (.lst p)) (some (.int e)) (some (resD (R' m w ps given))) x13 x14) s2)
    (h3:(R' m w ps given).1 = "on" → KD.shutB w ps wt=false→∀ s2,SH st s2 n h s tn gn given (after m w ps given d) (i + 1)→dhC E (RH a b rs es (R' m w ps given).2.1 gn wt n tn (hears m w given.length) x7 (some (rowD r)) (some (.str r.w)) (some (.lst p)) (some .non) (some (resD (R' m w ps given))) x13 x14) s2) :
    dhB E (RH a b rs es m.g gn wt n tn m.heard x7 (some (rowD r)) (some (.str r.w)) (some (.lst p)) (some .non) x12 x13 x14) s':=by
  have l1:=sh.l1
  have l2:=sh.l2
  have l3:=sh.l3
  have hw:=itr_w it
  have iw:=iw_w w
  rw [← hw] at iw
  have hil:=itr_len it
  have hpp:s'[p]? = some (.rw (ps.map .int)):=by rw [hp,itr_parts it]
  have sm:=item_small m.g w ps (given.getD m.heard 0)
  have hgs:K20.Has s' gn (given.map .int):=sh.hg.ext sh.ex
  unfold dhB
  refine K22.seq1 (ifLast rfl iw.1 (fun z=>by cases z) fun _=>K22.seq1 (ifItem rfl iw.2 (fun _=>?_) fun z=>by cases z))
  refine seqA (i:=12) (callA4 (tv rfl (tv rfl (tv rfl (hearT hgs rfl rfl _ ?_)))))
  refine ⟨m.g,w,p,ps,given.getD m.heard 0,by rw [hw],hpp,hil.1,hb,okg,?_⟩
  refine seqA (i:=1) (rS (i:=12) (j:=1) (xs:=[.str (R' m w ps given).1,(R' m w ps given).2.1.d,.tup ((R' m w ps given).2.2.map .int)]) rfl rfl _ ?_)
  refine K22.seq1 ?_
  unfold tdrop textend
  refine tv (d:=.lst tn) rfl ?_
  refine rS (i:=12) (j:=2) (xs:=[.str (R' m w ps given).1,(R' m w ps given).2.1.d,.tup ((R' m w ps given).2.2.map .int)]) rfl rfl _ ?_
  show (match s'[tn]? with
      | some (.rw xs)=>xs.length + ((R' m w ps given).2.2.map Dt.int).length≤sizeLine∧_
      | _=>False)
  rw [sh.ht]
  refine ⟨by
    rw [List.length_map,List.length_map]
    have:=sm.1
    have:(1000:Nat) < sizeLine:=by decide
    show m.told.length + (KD.itemG m.g w ps (given.getD m.heard 0)).2.2.length≤sizeLine
    omega,?_⟩
  have n1:tn≠h:=fun e=>by have:=sh.ht;rw [e,sh.ha.hd] at this;cases this
  have n2:tn≠s:=fun e=>by have:=sh.ht;rw [e,sh.ha.sh] at this;cases this
  have n3:tn≠n:=fun e=>by have:=sh.ht;rw [e,sh.ha.ob] at this;cases this
  have sh2:SH st (s'.set tn (.rw (m.told.map .int ++ (R' m w ps given).2.2.map .int))) n h s tn gn given (leftM m w ps given) (i + 1):=by
    refine ⟨⟨get_set_ne sh.ha.ob n3,get_set_ne sh.ha.hd n1,get_set_ne sh.ha.sh n2,sh.ha.ne⟩,?_,sh.hg,fun j o hj=>?_,sh.lh,sh.ls,sh.lt,Nat.le_succ_of_le l1,Nat.le_succ_of_le l2,?_,by omega⟩
    · rw [get_set_self sh.ht]
      show _=some (SO.rw ((m.told ++ (R' m w ps given).2.2).map Dt.int))
      rw [List.map_append]
    · have hl:=(List.getElem?_eq_some_iff.mp hj).1
      have:=sh.lt
      exact get_set_ne (sh.ex _ _ hj) (by omega)
    · show (m.told ++ (R' m w ps given).2.2).length≤i + 1
      rw [List.length_append]
      have:=sm.1
      show m.told.length + (KD.itemG m.g w ps (given.getD m.heard 0)).2.2.length≤i + 1
      omega
  have hpp2:(s'.set tn (.rw (m.told.map .int ++ (R' m w ps given).2.2.map .int)))[p]? = some (.rw (ps.map .int)):=get_set_ne hpp (Ne.symm hpt)
  generalize s'.set tn (.rw (m.told.map .int ++ (R' m w ps given).2.2.map .int))=s2 at sh2 hpp2
  have w12:∀ P:VD,P (.str (R' m w ps given).1) s2→qB qI (qV 12) (qK (Dt.int 0)) (RH a b rs es (R' m w ps given).2.1 gn wt n tn m.heard x7 (some (rowD r)) (some (.str r.w)) (some (.lst p)) (some .non) (some (resD (R' m w ps given))) x13 x14) s2 P:=rS (i:=12) (j:=0) (xs:=[.str (R' m w ps given).1,(R' m w ps given).2.1.d,.tup ((R' m w ps given).2.2.map .int)]) rfl rfl
  show qS _ _ _ (RH a b rs es (R' m w ps given).2.1 gn wt n tn m.heard x7 (some (rowD r)) (some (.str r.w)) (some (.lst p)) (some .non) (some (resD (R' m w ps given))) x13 x14) s2
  refine K22.seq1 (ifS (st':=s2) (neS w12) (fun q=>?_) fun q=>?_)
  · obtain ⟨e,he,hE⟩:=h1 (by simpa using q)
    refine seqA (i:=11) (exT (j:=0) ok rfl he fun s3 x3=>?_)
    exact hE _ (sh2.grow x3)
  · have q:(R' m w ps given).1 = "on":=by simpa using q
    refine K22.seq1 (ifS (st':=s2) (b:=KD.shutB w ps wt) (fun P hq=>?_) (fun qs=>?_) fun qs=>?_)
    · unfold qT
      refine callA3 (tv rfl (tv rfl (tv rfl ?_)))
      exact ⟨w,p,ps,wt,by rw [hw],hpp2,hil.1,hwt,hq⟩
    · obtain ⟨e,he,hE⟩:=h2 q qs
      refine seqA (i:=11) (exT (j:=1) ok rfl he fun s3 x3=>?_)
      exact hE _ (sh2.grow x3)
    · have hE:=h3 q qs
      refine K22.seq1 (ifS (st':=s2) (b:=KD.brings w) (fun P hq=>?_) (fun qb=>?_) fun qb=>?_)
      · simp only [qT,qB,qV,qK,List.getElem?_cons_zero,List.getElem?_cons_succ]
        refine ⟨rfl,by decide +kernel,?_⟩
        rw [hw,brg]
        exact hq
      · refine K22.seq1 ?_
        refine asgT ?_
        simp only [qB,qV,qK,List.getElem?_cons_zero,List.getElem?_cons_succ]
        refine pickTA (xs:=[.int (R' m w ps given).2.1.p,.tup ((R' m w ps given).2.1.bs.map .int),msD (R' m w ps given).2.1.m,svD (R' m w ps given).2.1.sv,.tup ((R' m w ps given).2.1.rs.map .int),.tup ((R' m w ps given).2.1.cs.map .int)]) (v:=1) (d:=.tup ((R' m w ps given).2.1.bs.map .int)) rfl ?_
        have b8:0 < (R' m w ps given).2.1.bs.length:=by
          show 0 < (KD.itemG m.g w ps (given.getD m.heard 0)).2.1.bs.length
          rw [sm.2,okg.b8];decide
        refine pickTA (v:=0) (d:=.int ((R' m w ps given).2.1.bs.getD 0 0)) (atI_nat (j:=0) (by rw [List.getElem?_map,List.getD_eq_getElem?_getD,List.getElem?_eq_getElem b8];rfl)) ?_
        refine putHand (i:=4) (x:=d) sh2.ha (by show m.H.hk.length < 1000;omega) rfl (rX (i:=8) (j:=0) rfl (hil.2 qb)) fun s3 a3 x3=>?_
        have m1:tn≠h:=n1
        have sh3:SH st s3 n h s tn gn given (after m w ps given d) (i + 1):=by
          refine ⟨?_,x3 _ _ n1 n2 sh2.ht,sh2.hg,fun j o hj=>?_,sh.lh,sh.ls,sh.lt,?_,?_,sh2.l3,sh2.i4⟩
          · show HoldAt s3 n h s (if KD.brings w then _ else _)
            rw [if_pos qb];exact a3
          · have hl:=(List.getElem?_eq_some_iff.mp hj).1
            have:=sh.lh
            have:=sh.ls
            exact x3 _ _ (by omega) (by omega) (sh2.ex _ _ hj)
          · show (if KD.brings w then setH m.H d _ else m.H).hk.length≤i + 1
            rw [if_pos qb]
            exact Nat.le_trans putD_len (by omega)
          · show (if KD.brings w then setH m.H d _ else m.H).sk.length≤i + 1
            rw [if_pos qb]
            exact Nat.le_succ_of_le l2
        have hg3:K20.Has s3 gn (given.map .int):=sh3.hg.ext sh3.ex
        obtain ⟨o,ho,hio⟩:=hg3
        have hc:∀ P:Bool→Sto→Prop,P (isHr w && decide (m.heard < given.length)) s3→tandB (qT (qB (qQ false) (qV 9) (qK (Dt.str (Str.ofString "hear"))))) (qT (qB (rCmpI fun i j=>decide (i < j)) (qV 6) (qF rLen (qA (qV 2) qZ)))) (RH a b rs es (R' m w ps given).2.1 gn wt n tn m.heard x7 (some (rowD r)) (some (.str r.w)) (some (.lst p)) (some .non) (some (resD (R' m w ps given))) x13 x14) s3 P:=by
          intro P hP
          refine andB (b1:=isHr w) (b2:=decide (m.heard < given.length)) (fun P hp=>?_) (fun _ P hp=>?_) P hP
          · refine eqS (a:=r.w) (fun P hp=>hp) P ?_
            rw [hw]
            cases w <;> exact hp
          · simp only [qT,qB,qV,List.getElem?_cons_zero,List.getElem?_cons_succ]
            refine lenL (i:=2) rfl ho _ ?_
            rw [hio,List.length_map]
            show P (decide (((m.heard:Nat):Int) < (given.length:Int))) s3
            rw [show decide (((m.heard:Nat):Int) < (given.length:Int))=decide (m.heard < given.length) from by by_cases q:m.heard < given.length <;> simp [q] <;> omega]
            exact hp
        refine K22.seq1 ?_
        unfold taug
        show tifE _ _ _ (RH a b rs es (R' m w ps given).2.1 gn wt n tn m.heard x7 (some (rowD r)) (some (.str r.w)) (some (.lst p)) (some .non) (some (resD (R' m w ps given))) x13 x14) s3 _
        refine retIf hc ?_
        have hE3:=hE s3 sh3
        unfold hears at hE3
        cases hcb:(isHr w && decide (m.heard < given.length)) with
        | true =>
          rw [hcb] at hE3
          exact iteT hE3
        | false =>
          rw [hcb] at hE3
          exact iteF hE3
      · have e1:hears m w given.length=m.heard:=by
          unfold hears
          cases w <;> first | rfl | cases qb
        have e2:after m w ps given d=leftM m w ps given:=by
          show Ms.mk _ _ _ _=Ms.mk _ _ _ _
          rw [e1]
          simp only [qb,Bool.false_eq_true,if_false]
        rw [e1,e2] at hE
        exact hE s2 sh2
end
end KM
namespace KM
open PySem PySem.Spec PyProof.Rows L2 L3 KS K02 K85 K06
section
variable {E:EndsD} {st s':Sto} {Q:VD} {n h s tn gn:Nat} {a b:Dt} {rs:List Rw} {es:List Ex} {given wt:List Int} {m m1:Ms}
variable {x7 x8 x9 x10 x11 x12 x13 x14:Option Dt} {r:Rw} {i:Nat}
theorem rowN (sh:SH st s' n h s tn gn given m i) (hi:i < 400) (ok:OkR r) (okg:m.g.Ok) (hwt:wt.length≤100) (sp:Step given wt m r none m1)
    (hE:∀ s2 x9 x10 x11 x12 x13 x14,SH st s2 n h s tn gn given m1 (i + 1)→E.nx (RH a b rs es m1.g gn wt n tn m1.heard x7 (some (rowD r)) x9 x10 x11 x12 x13 x14) s2) :
    dhA E (RH a b rs es m.g gn wt n tn m.heard x7 (some (rowD r)) x9 x10 x11 x12 x13 x14) s':=by
  unfold dhA
  refine seqA (i:=9) (rS (i:=8) (j:=0) (xs:=.str r.w :: r.xs.map .int) rfl rfl _ ?_)
  refine seqA (i:=10) (partsComp (i:=4) (j:=8) sh.ha ok rfl rfl fun s2 p x2 hpl hp=>?_)
  refine seqA (i:=11) ?_
  show dhB E (RH a b rs es m.g gn wt n tn m.heard x7 (some (rowD r)) (some (.str r.w)) (some (.lst p)) (some .non) x12 x13 x14) s2
  have htl:=(List.getElem?_eq_some_iff.mp sh.ht).1
  have:=ext_le' sh.ex
  have sh2:=sh.grow x2
  cases sp with
  | put H' pu=>exact stP sh2 hi ok pu fun s3 sh3=>stN (hE _ _ _ _ _ _ _ sh3)
  | item w ps d it hb h1 h2 =>
    refine stI sh2 hi ok okg it hb hp (by omega) (by omega) hwt (fun q=>absurd h1 q) (fun _ q=>absurd q (by rw [h2];decide)) fun _ _ s3 sh3=>stN (hE _ _ _ _ _ _ _ sh3)
theorem rowS {c:Nat} {e:Nat} {ex:Ex} {g':GS} (sh:SH st s' n h s tn gn given m i) (hi:i < 400) (ok:OkR r) (okg:m.g.Ok) (hwt:wt.length≤100) (sp:Step given wt m r (some (e:Int)) m1)
    (he:es[e]? = some ex) (l1:ex.bs.length≤100) (l2:ex.ms.length≤100) (ou:Outs m1.H m1.g ex (isBk r m1) g')
    (hE:∀ s2,ExtS st s2→E.rt (hostD ex g' m1.told m1.heard c) s2) :
    dhA E (RH a b rs es m.g gn wt n tn m.heard (some (.int (c:Int))) (some (rowD r)) x9 x10 x11 x12 x13 x14) s':=by
  unfold dhA
  refine seqA (i:=9) (rS (i:=8) (j:=0) (xs:=.str r.w :: r.xs.map .int) rfl rfl _ ?_)
  refine seqA (i:=10) (partsComp (i:=4) (j:=8) sh.ha ok rfl rfl fun s2 p x2 hpl hp=>?_)
  refine seqA (i:=11) ?_
  show dhB E (RH a b rs es m.g gn wt n tn m.heard (some (.int (c:Int))) (some (rowD r)) (some (.str r.w)) (some (.lst p)) (some .non) x12 x13 x14) s2
  have htl:=(List.getElem?_eq_some_iff.mp sh.ht).1
  have:=ext_le' sh.ex
  have sh2:=sh.grow x2
  generalize hei:(e:Int)=ei at sp
  generalize hoi:some ei=oi at sp
  cases sp with
  | put=>cases hoi
  | item=>cases hoi
  | last e' la =>
    cases hoi
    subst hei
    exact stL sh2 hp la (stS sh2 he l1 l2 ou hE)
  | fault w ps d e' it hb h1 h2 =>
    cases hoi
    subst hei
    exact stI sh2 hi ok okg it hb hp (by omega) (by omega) hwt (fun _=>⟨_,h2,fun s3 sh3=>stS sh3 he l1 l2 ou hE⟩) (fun q=>absurd q h1) (fun q=>absurd q h1)
  | shut w ps d e' it hb h1 h2 h3 =>
    cases hoi
    subst hei
    exact stI sh2 hi ok okg it hb hp (by omega) (by omega) hwt (fun q=>absurd h1 q) (fun _ _=>⟨_,h3,fun s3 sh3=>stS sh3 he l1 l2 ou hE⟩) (fun _ q=>absurd q (by rw [h2];decide))
theorem rd_do_host {ds:List Dt} {st:Sto} {Pd:VD} (h:spDoHost ds st Pd):t_do_host (Ed Pd) (qW ["host", "state", "given", "watched", "hold", "told", "heard", "count", "row", "word", "parts", "number", "outcome", "way", "is_back"] ds) st:=by
  obtain ⟨a,b,rs,es,g,gn,given,wt,rfl,hg,okr,rl,gl,wl,m',e,r,c,ex,g',go,he,l1,l2,ou,hP⟩:=h
  show t_do_host (Ed Pd) [some (hoD a b rs es),some g.d,some (.lst gn),some (.tup (wt.map .int)),none,none,none,none,none,none,none,none,none,none,none] st
  unfold t_do_host
  refine seqA (i:=4) ?_
  simp only [tmake,qA,qZ,qB,qV,qK,List.getElem?_cons_zero,List.getElem?_cons_succ]
  refine pickTA (xs:=[.int g.p,.tup (g.bs.map .int),msD g.m,svD g.sv,.tup (g.rs.map .int),.tup (g.cs.map .int)]) (v:=1) (d:=.tup (g.bs.map .int)) rfl ?_
  refine pickTA (xs:=[.int g.p,.tup (g.bs.map .int),msD g.m,svD g.sv,.tup (g.rs.map .int),.tup (g.cs.map .int)]) (v:=2) (d:=msD g.m) rfl ?_
  refine ⟨st.length,g.bs,g.m,rfl,qX,fun s1 h s a1 hh hs k1=>⟨rfl,?_⟩⟩
  have hh:st.length≤h:=by rw [List.length_append] at hh;omega
  have hs:st.length≤s:=by rw [List.length_append] at hs;omega
  have x1:ExtS st s1:=fun j o hj=>by
    have hl:=(List.getElem?_eq_some_iff.mp hj).1
    exact k1 j o (by omega) (qY hj)
  refine seqA (i:=5) ?_
  unfold qL
  refine ⟨by decide,?_⟩
  refine seqA (i:=6) ?_
  have sh0:SH st (s1 ++ [SO.rw []]) st.length h s s1.length gn given (start g) 0:=⟨a1.ext (.app _ _),qX,hg,fun j o hj=>qY (x1 _ _ hj),hh,hs,ext_le' x1,Nat.le_refl _,Nat.le_refl _,Nat.le_refl _,by decide⟩
  show qS (tfor _ _ dhA) _ _ (RH a b rs es g gn wt st.length s1.length 0 none none none none none none none none) (s1 ++ [SO.rw []])
  refine K22.seq1 ?_
  unfold tfor ienum1
  refine rS (i:=0) (j:=2) (xs:=[a,b,.tup (rs.map rowD),.tup (es.map exD)]) rfl rfl _ ?_
  show forW (enumD 1 (rs.map rowD)) (fun _=>True) _ _ _ _ _
  refine ⟨fun i ρ s2=>∃ m x7 x8 x9 x10 x11 x12 x13 x14,ρ=RH a b rs es m.g gn wt st.length s1.length m.heard x7 x8 x9 x10 x11 x12 x13 x14∧SH st s2 st.length h s s1.length gn given m i∧Go given wt i m (rs.drop i) m' e r c,
    ⟨start g,_,_,_,_,_,_,_,_,rfl,sh0,go⟩,fun _ _ _ _ _=>trivial,?_,?_⟩
  · rintro i d ρ s2 hd ⟨m,x7,x8,x9,x10,x11,x12,x13,x14,rfl,sh,gi⟩
    obtain ⟨rd,hr,rfl⟩:=enum_get hd
    obtain ⟨r1,hr1,rfl⟩:∃ r1,rs[i]? = some r1∧rd=rowD r1:=by
      rw [List.getElem?_map] at hr
      cases q:rs[i]? with
      | none=>rw [q] at hr;cases hr
      | some r1=>rw [q] at hr;exact ⟨r1,rfl,(Option.some.inj hr).symm⟩
    have hil:=(List.getElem?_eq_some_iff.mp hr1).1
    have hd2:rs.drop i=r1 :: rs.drop (i + 1):=by
      rw [List.drop_eq_getElem_cons hil]
      congr 1
      rw [List.getElem?_eq_getElem hil] at hr1
      exact Option.some.inj hr1
    have ok1:OkR r1:=okr r1 (List.mem_of_getElem? hr1)
    refine ⟨rfl,?_⟩
    show dhA _ (RH a b rs es m.g gn wt st.length s1.length m.heard (some (.int ((1 + i:Nat):Int))) (some (rowD r1)) x9 x10 x11 x12 x13 x14) s2
    rw [hd2] at gi
    generalize hrest:rs.drop (i + 1)=rest at gi
    cases gi with
    | here _ _ _ _ _ _ okg sp =>
      rw [show 1 + i=i + 1 by omega]
      exact rowS sh (by omega) ok1 okg wl sp he l1 l2 ou hP
    | next _ _ m1 _ _ _ _ _ _ okg sp g1 =>
      refine rowN sh (by omega) ok1 okg wl sp fun s3 x9 x10 x11 x12 x13 x14 sh3=>?_
      exact ⟨m1,_,_,_,_,_,_,_,_,rfl,sh3,by rw [hrest];exact g1⟩
  · rintro ρ s2 ⟨m,x7,x8,x9,x10,x11,x12,x13,x14,rfl,sh,gi⟩
    rw [enum_len,List.length_map,List.drop_length] at gi
    cases gi
end
end KM
namespace K06
open PySem PySem.Spec PyProof.Rows L2 L3
noncomputable abbrev t_replaced:TSD:=(qS (qR (qB L3.rAdd (qB L3.rAdd (tslice (qV 0) tonone (tosome (qV 1))) (qU (qA (qV 2) qZ))) (tslice (qV 0) (tosome (qB L3.rAdd (qV 1) (qK (Dt.int 1)))) tonone))) qN)
noncomputable abbrev t_may_be:TSD:=(qS (qJ (tnotB (qT (tchain (fun i j=>decide (i≤j)) (fun i j=>decide (i < j)) (qK (Dt.int 0)) (qV 2) (qF rLen (qA (qB qI (qV 1) (qK (Dt.int 5))) qZ))))) (qS (qR (qK (Dt.bl false))) qN) qN) (qS (qR (qB (qQ false) (qB rAndB (qB qI (qB qI (qV 1) (qK (Dt.int 4))) (qB rDiv (qV 2) (qK (Dt.int 8)))) (qV 0)) (qV 0))) qN))
noncomputable abbrev t_moved:TSD:=(qS (qR (qF spReplaced (qA (qV 0) (qA (qK (Dt.int 0)) (qA (qB rMod (qV 1) (qK (Dt.int 65536))) qZ))))) qN)
noncomputable abbrev t_one_on:TSD:=(qS (qR (qF spMoved (qA (qV 0) (qA (qB L3.rAdd (qB qI (qV 0) (qK (Dt.int 0))) (qK (Dt.int 1))) qZ)))) qN)
noncomputable abbrev t_with_box:TSD:=(qS (qR (qF spReplaced (qA (qF spOneOn (qA (qV 0) qZ)) (qA (qK (Dt.int 1)) (qA (qF spReplaced (qA (qB qI (qV 0) (qK (Dt.int 1))) (qA (qV 1) (qA (qV 2) qZ)))) qZ))))) qN)
noncomputable abbrev t_with_outcome:TSD:=(qS (qR (qF spReplaced (qA (qF spWithBox (qA (qV 0) (qA (qV 1) (qA (qV 2) qZ)))) (qA (qK (Dt.int 2)) (qA (qU (qA (qB (qQ false) (qV 2) (qK (Dt.int 0))) (qA (qB (rCmpI fun i j=>decide (j≤i)) (qV 2) (qK (Dt.int 32768))) (qA (qV 3) qZ)))) qZ))))) qN)
noncomputable abbrev t_left:TSD:=(qS (qR (qU (qA (qV 0) (qA (qV 1) (qA (qU qZ) qZ))))) qN)
noncomputable abbrev t_on:TSD:=(qS (qR (qU (qA (qK (Dt.str (Str.ofString "on"))) (qA (qV 0) (qA (qU qZ) qZ))))) qN)
noncomputable abbrev t_do_div:TSD:=(qS (qJ (qT (qB (qQ false) (qV 3) (qK (Dt.int 0)))) (qS (qR (qF spLeft (qA (qK (Dt.str (Str.ofString "nought"))) (qA (qV 0) qZ)))) qN) qN) (qS (qR (qF spOn (qA (qF spWithOut (qA (qV 0) (qA (qV 1) (qA (qB rDiv (qV 2) (qV 3)) (qA (qB (qQ true) (qB rMod (qV 2) (qV 3)) (qK (Dt.int 0))) qZ))))) qZ))) qN))
noncomputable abbrev t_do_get:TSD:=(qS (qJ (tnotB (qT (qF spMay (qA (qK (Dt.int 1)) (qA (qV 0) (qA (qV 2) qZ)))))) (qS (qR (qF spLeft (qA (qK (Dt.str (Str.ofString "closed"))) (qA (qV 0) qZ)))) qN) qN) (qS (qR (qF spOn (qA (qF spWithBox (qA (qV 0) (qA (qV 1) (qA (qB qI (qB qI (qV 0) (qK (Dt.int 5))) (qV 2)) qZ)))) qZ))) qN))
noncomputable abbrev t_do_set:TSD:=(qS (qJ (tnotB (qT (qF spMay (qA (qK (Dt.int 2)) (qA (qV 0) (qA (qV 2) qZ)))))) (qS (qR (qF spLeft (qA (qK (Dt.str (Str.ofString "closed"))) (qA (qV 0) qZ)))) qN) qN) (qS (qR (qF spOn (qA (qF spReplaced (qA (qF spOneOn (qA (qV 0) qZ)) (qA (qK (Dt.int 5)) (qA (qF spReplaced (qA (qB qI (qV 0) (qK (Dt.int 5))) (qA (qV 2) (qA (qV 1) qZ)))) qZ)))) qZ))) qN))
noncomputable abbrev t_do_right:TSD:=(qS (qJ (tnotB (qT (tchain (fun i j=>decide (i≤j)) (fun i j=>decide (i < j)) (qK (Dt.int 0)) (qV 1) (qF rLen (qA (qB qI (qV 0) (qK (Dt.int 4))) qZ))))) (qS (qR (qF spLeft (qA (qK (Dt.str (Str.ofString "closed"))) (qA (qV 0) qZ)))) qN) qN) (qS (qR (qF spOn (qA (qF spReplaced (qA (qF spOneOn (qA (qV 0) qZ)) (qA (qK (Dt.int 4)) (qA (qF spReplaced (qA (qB qI (qV 0) (qK (Dt.int 4))) (qA (qV 1) (qA (qV 2) qZ)))) qZ)))) qZ))) qN))
section
variable {a b c d e f:Dt}
theorem at4:atI [a,b,c,d,e,f] 4=some e:=rfl
theorem at5:atI [a,b,c,d,e,f] 5=some f:=rfl
end
theorem iteB {b:Bool} {A B:Prop} (hb:b=true) (h:A):if b=true then A else B:=by subst hb;exact iteT h
theorem iteB' {b:Bool} {A B:Prop} (hb:b=false) (h:B):if b=true then A else B:=by subst hb;exact iteF h
theorem ints_at {xs:List Int} {n:Nat} (h:n < xs.length):atI (xs.map Dt.int) (n:Int)=some (.int xs[n]):=atI_nat (by simp [h])
theorem may_in {r:Int} {g:GS} {a:Int} (h:may r g a=true):0≤a∧a < g.cs.length:=by
  unfold may at h
  rw [Bool.and_eq_true,Bool.and_eq_true] at h
  exact ⟨of_decide_eq_true h.1.1,of_decide_eq_true h.1.2⟩
theorem and_bit {v r:Int} (h0:0≤v) (h1:v < 8) (hr:r=1∨r=2∨r=4):eqD 8 (.int (Builtin.bitAnd v r)) (.int r)=decide (v / r % 2=1):=by
  show (Builtin.bitAnd v r == r)=_
  rcases (show v=0∨v=1∨v=2∨v=3∨v=4∨v=5∨v=6∨v=7 by omega) with rfl | rfl | rfl | rfl | rfl | rfl | rfl | rfl <;> rcases hr with rfl | rfl | rfl <;> decide +kernel
theorem rd_replaced {ds:List Dt} {st:Sto} {Pd:VD} (h:spReplaced ds st Pd):t_replaced (Ed Pd) (qW ["parts", "k", "part"] ds) st:=by
  obtain ⟨xs,k,d,rfl,h0,h1,h2,h⟩:=h
  simp only [qS,qE,qR,qB,qV,qK,qG,qF,qA,qZ,qU,qL,tandV,torV,tnotV,tnotB,tandB,torB,qT,qJ,tifE,qN,tdrop,tfor,iseq,irng1,tslice,tonone,tosome,tappend,tchain,rLen,qH,seqOf,rIsInst,qI,rMod,rMul,L3.rAdd,L3.rSub,rDiv,rAndB,qQ,rIsD,rInD,rCmpI,qW,tindex,gunpack,gscons,gsnil,List.map_cons,List.map_nil,List.length_cons,List.length_nil,List.cons_append,List.nil_append,List.replicate,List.set,List.getElem?_cons_zero,List.getElem?_cons_succ,Option.map_some,SO.items]
  have e1:HT.sIx xs.length 0 none=0:=rfl
  have e2:HT.sIx xs.length xs.length (some k)=k.toNat:=by unfold HT.sIx;dsimp only;rw [if_neg (by omega)];omega
  have e3:HT.sIx xs.length 0 (some (k + 1))=k.toNat + 1:=by unfold HT.sIx;dsimp only;rw [if_neg (by omega)];omega
  have e4:HT.sIx xs.length xs.length none=xs.length:=rfl
  have c1:L3.cutD xs none (some k)=xs.take k.toNat:=by unfold L3.cutD;rw [e1,e2];simp
  have c2:L3.cutD xs (some (k + 1)) none=xs.drop (k.toNat + 1):=by
    unfold L3.cutD;rw [e3,e4];exact List.take_of_length_le (by rw [List.length_drop];omega)
  rw [c1,c2,e2,e3]
  have l1:(xs.take k.toNat).length=k.toNat:=by rw [List.length_take];omega
  have l2:(xs.drop (k.toNat + 1)).length=xs.length - (k.toNat + 1):=by rw [List.length_drop]
  have es:xs.take k.toNat ++ [d] ++ xs.drop (k.toNat + 1)=xs.set k.toNat d:=by
    rw [List.set_eq_take_append_cons_drop,if_pos (by omega),List.append_assoc];rfl
  refine ⟨fun z=>?_,by show 1≤sizeLine;decide,?_,fun z=>?_,?_,?_⟩
  · have:=z.2;omega
  · rw [l1];exact Nat.le_of_lt (small (by omega))
  · exact absurd z.1 (Nat.succ_ne_zero _)
  · rw [List.length_append,l1,l2]
    exact Nat.le_of_lt (small (by simp;omega))
  · rw [es];exact h
theorem rd_may_be {ds:List Dt} {st:Sto} {Pd:VD} (h:spMay ds st Pd):t_may_be (Ed Pd) (qW ["right", "state", "address"] ds) st:=by
  obtain ⟨r,g,a,rfl,ok,hr,h⟩:=h
  simp only [qS,qE,qR,qB,qV,qK,qG,qF,qA,qZ,qU,qL,tandV,torV,tnotV,tnotB,tandB,torB,qT,qJ,tifE,qN,tdrop,tfor,iseq,irng1,tslice,tonone,tosome,tappend,tchain,rLen,qH,seqOf,rIsInst,qI,rMod,rMul,L3.rAdd,L3.rSub,rDiv,rAndB,qQ,rIsD,rInD,rCmpI,qW,tindex,gunpack,gscons,gsnil,List.map_cons,List.map_nil,List.length_cons,List.length_nil,List.cons_append,List.nil_append,List.replicate,List.set,List.getElem?_cons_zero,List.getElem?_cons_succ,Option.map_some,SO.items,GS.d]
  simp only [at5,at4]
  unfold may at h
  rw [List.length_map]
  by_cases h0:0≤a
  · rw [decide_eq_true h0,Bool.true_and] at h
    refine iteB (decide_eq_true h0) ?_
    by_cases h1:a < (g.cs.length:Int)
    · rw [decide_eq_true h1,Bool.true_and] at h
      refine iteB' (by rw [decide_eq_true h1];rfl) ⟨cdiv (by decide) (by decide),?_⟩
      have hi:(a / 8).toNat < g.rs.length:=by have:=ok.c8;omega
      rw [show (a / 8:Int)=(((a / 8).toNat:Nat):Int) by omega,ints_at hi]
      refine ⟨rfl,rfl,?_⟩
      have hv:=ok.rb _ (List.getElem_mem hi)
      have e:g.rs.getD (a / 8).toNat 0=g.rs[(a / 8).toNat]:=by simp [List.getD,hi]
      rw [e] at h
      rw [bne_false',show eqD 8 (.int (Builtin.bitAnd g.rs[(a / 8).toNat] r)) (.int r)=decide (g.rs[(a / 8).toNat] / r % 2=1) from and_bit hv.1 hv.2 hr]
      exact h
    · rw [decide_eq_false h1,Bool.false_and] at h
      exact iteB (by rw [decide_eq_false h1];rfl) h
  · rw [decide_eq_false h0,Bool.false_and,Bool.false_and] at h
    exact iteB' (decide_eq_false h0) (iteT h)
theorem rd_moved {ds:List Dt} {st:Sto} {Pd:VD} (h:spMoved ds st Pd):t_moved (Ed Pd) (qW ["state", "place"] ds) st:=by
  obtain ⟨g,q,rfl,h⟩:=h
  exact ⟨by decide,_,0,.int (q % 65536),rfl,by decide,by show (0:Int) < 6;decide,by show 6≤200;decide,h⟩
theorem rd_one_on {ds:List Dt} {st:Sto} {Pd:VD} (h:spOneOn ds st Pd):t_one_on (Ed Pd) (qW ["state"] ds) st:=by
  obtain ⟨g,rfl,h⟩:=h
  exact ⟨g,g.p + 1,rfl,h⟩
theorem rd_with_box {ds:List Dt} {st:Sto} {Pd:VD} (h:spWithBox ds st Pd):t_with_box (Ed Pd) (qW ["state", "a", "number"] ds) st:=by
  obtain ⟨g,a,v,rfl,h8,h0,h1,h⟩:=h
  refine ⟨g,rfl,?_⟩
  refine ⟨g.bs.map .int,a,.int v,rfl,h0,by rw [List.length_map,h8];exact h1,by rw [List.length_map,h8];decide,?_⟩
  refine ⟨_,1,_,rfl,by decide,by show (1:Int) < 6;decide,by show 6≤200;decide,?_⟩
  rw [← List.map_set]
  exact h
theorem rd_with_outcome {ds:List Dt} {st:Sto} {Pd:VD} (h:spWithOut ds st Pd):t_with_outcome (Ed Pd) (qW ["state", "a", "number", "carry"] ds) st:=by
  obtain ⟨g,a,v,k,rfl,h8,h0,h1,h⟩:=h
  refine ⟨g,a,v,rfl,h8,h0,h1,?_⟩
  refine ⟨rfl,rfl,by show 3≤sizeLine;decide,?_⟩
  have e:(eqD 8 (.int v) (.int 0) != false)=decide (v=0):=by rw [bne_false'];rfl
  show spReplaced [(boxG g a v).d,.int 2,.tup [.bl (eqD 8 (.int v) (.int 0) != false),.bl (decide (32768≤v)),.bl k]] st Pd
  rw [e]
  refine ⟨_,2,_,rfl,by decide,by show (2:Int) < 6;decide,by show 6≤200;decide,?_⟩
  exact h
theorem rd_left {ds:List Dt} {st:Sto} {Pd:VD} (h:spLeft ds st Pd):t_left (Ed Pd) (qW ["how", "state"] ds) st:=by
  obtain ⟨w,d,rfl,h⟩:=h
  exact ⟨by show 0≤sizeLine;exact Nat.zero_le _,by show 3≤sizeLine;decide,h⟩
theorem rd_on {ds:List Dt} {st:Sto} {Pd:VD} (h:spOn ds st Pd):t_on (Ed Pd) (qW ["state"] ds) st:=by
  obtain ⟨d,rfl,h⟩:=h
  exact ⟨by show 0≤sizeLine;exact Nat.zero_le _,by show 3≤sizeLine;decide,h⟩
theorem rd_do_div {ds:List Dt} {st:Sto} {Pd:VD} (h:spDiv ds st Pd):t_do_div (Ed Pd) (qW ["state", "a", "x", "y"] ds) st:=by
  obtain ⟨g,a,x,y,rfl,h8,h0,h1,hy0,hy1,h⟩:=h
  unfold divG at h
  refine ⟨rfl,rfl,?_⟩
  by_cases c:y=0
  · subst c
    rw [if_pos rfl] at h
    exact iteT ⟨_,_,rfl,h⟩
  · rw [if_neg c] at h
    have e:(eqD 8 (.int y) (.int 0) != false)=false:=by
      rw [bne_false'];exact beq_eq_false_iff_ne.mpr c
    rw [e]
    refine iteF ⟨⟨by omega,by omega⟩,by omega,rfl,rfl,?_⟩
    have e2:(eqD 8 (.int (x % y)) (.int 0) != true)=decide (x % y≠0):=by
      rw [bne_true']
      show (!((x % y) == 0))=_
      by_cases q:x % y=0
      · simp [q]
      · simp [q]
    rw [e2]
    exact ⟨g,a,_,_,rfl,h8,h0,h1,_,rfl,h⟩
theorem rd_do_get {ds:List Dt} {st:Sto} {Pd:VD} (h:spGet ds st Pd):t_do_get (Ed Pd) (qW ["state", "a", "address"] ds) st:=by
  obtain ⟨g,a,q,rfl,ok,h0,h1,h⟩:=h
  unfold getG at h
  refine ⟨1,g,q,rfl,ok,.inl rfl,?_⟩
  cases hm:may 1 g q with
  | false =>
    rw [hm,if_neg Bool.false_ne_true] at h
    exact iteT ⟨_,_,rfl,h⟩
  | true =>
    rw [hm,if_pos rfl] at h
    refine iteF ?_
    obtain ⟨q0,q1⟩:=may_in hm
    simp only [qS,qE,qR,qB,qV,qK,qG,qF,qA,qZ,qU,qL,tandV,torV,tnotV,tnotB,tandB,torB,qT,qJ,tifE,qN,tdrop,tfor,iseq,irng1,tslice,tonone,tosome,tappend,tchain,rLen,qH,seqOf,rIsInst,qI,rMod,rMul,L3.rAdd,L3.rSub,rDiv,rAndB,qQ,rIsD,rInD,rCmpI,qW,tindex,gunpack,gscons,gsnil,List.map_cons,List.map_nil,List.length_cons,List.length_nil,List.cons_append,List.nil_append,List.replicate,List.set,List.getElem?_cons_zero,List.getElem?_cons_succ,Option.map_some,SO.items,GS.d]
    simp only [at5]
    have hi:q.toNat < g.cs.length:=by omega
    rw [show q=((q.toNat:Nat):Int) by omega,ints_at hi]
    refine ⟨g,a,_,rfl,ok.b8,h0,h1,_,rfl,?_⟩
    have e:g.cs.getD q.toNat 0=g.cs[q.toNat]:=by simp [List.getD,hi]
    rw [e] at h
    exact h
theorem rd_do_set {ds:List Dt} {st:Sto} {Pd:VD} (h:spSet ds st Pd):t_do_set (Ed Pd) (qW ["state", "number", "address"] ds) st:=by
  obtain ⟨g,v,q,rfl,ok,h⟩:=h
  unfold setG at h
  refine ⟨2,g,q,rfl,ok,.inr (.inl rfl),?_⟩
  cases hm:may 2 g q with
  | false =>
    rw [hm,if_neg Bool.false_ne_true] at h
    exact iteT ⟨_,_,rfl,h⟩
  | true =>
    rw [hm,if_pos rfl] at h
    refine iteF ?_
    obtain ⟨q0,q1⟩:=may_in hm
    have:=ok.cm
    refine ⟨g,rfl,?_⟩
    refine ⟨g.cs.map .int,q,.int v,rfl,q0,by rw [List.length_map];exact q1,by rw [List.length_map];omega,?_⟩
    refine ⟨_,5,_,rfl,by decide,by show (5:Int) < 6;decide,by show 6≤200;decide,?_⟩
    rw [← List.map_set]
    exact ⟨_,rfl,h⟩
theorem rd_do_right {ds:List Dt} {st:Sto} {Pd:VD} (h:spRightW ds st Pd):t_do_right (Ed Pd) (qW ["state", "page", "rights"] ds) st:=by
  obtain ⟨g,q,r,rfl,ok,h⟩:=h
  unfold rightG at h
  simp only [qS,qE,qR,qB,qV,qK,qG,qF,qA,qZ,qU,qL,tandV,torV,tnotV,tnotB,tandB,torB,qT,qJ,tifE,qN,tdrop,tfor,iseq,irng1,tslice,tonone,tosome,tappend,tchain,rLen,qH,seqOf,rIsInst,qI,rMod,rMul,L3.rAdd,L3.rSub,rDiv,rAndB,qQ,rIsD,rInD,rCmpI,qW,tindex,gunpack,gscons,gsnil,List.map_cons,List.map_nil,List.length_cons,List.length_nil,List.cons_append,List.nil_append,List.replicate,List.set,List.getElem?_cons_zero,List.getElem?_cons_succ,Option.map_some,SO.items,GS.d]
  simp only [at4]
  rw [List.length_map]
  by_cases h0:0≤q
  · refine iteB (decide_eq_true h0) ?_
    by_cases h1:q < (g.rs.length:Int)
    · rw [if_pos ⟨h0,h1⟩] at h
      have:=ok.c8;have:=ok.cm
      refine iteB' (by rw [decide_eq_true h1];rfl) ⟨g,rfl,?_⟩
      refine ⟨g.rs.map .int,q,.int r,rfl,h0,by rw [List.length_map];exact h1,by rw [List.length_map];omega,?_⟩
      refine ⟨_,4,_,rfl,by decide,by show (4:Int) < 6;decide,by show 6≤200;decide,?_⟩
      rw [← List.map_set]
      exact ⟨_,rfl,h⟩
    · rw [if_neg (fun z=>h1 z.2)] at h
      exact iteB (by rw [decide_eq_false h1];rfl) ⟨_,_,rfl,h⟩
  · rw [if_neg (fun z=>h0 z.1)] at h
    exact iteB' (decide_eq_false h0) (iteT ⟨_,_,rfl,h⟩)
end K06
namespace K06
open PySem PySem.Spec PyProof.Rows L2 L3
end K06
namespace K22
open PySem PySem.Spec PyProof.Rows L2 L3 KH KS
end K22
namespace K22
open PySem PySem.Spec PyProof.Rows L2 L3 KH KS
end K22
namespace K22
open PySem PySem.Spec PyProof.Rows L2 L3 KH KS
end K22
namespace KD
open PySem PySem.Spec PyProof.Rows L2 L3 KH KS KW K20 K06
noncomputable abbrev t_do_item:TSD:=(qS (qJ (qT (qB (qQ false) (qV 1) (qK (Dt.str (Str.ofString "get"))))) (qS (qR (qF K06.spGet (qA (qV 0) (qA (qK (Dt.int 0)) (qA (qB L3.rAdd (qB qI (qV 2) (qK (Dt.int 0))) (qB qI (qV 2) (qK (Dt.int 1)))) qZ))))) qN) qN) (qS (qJ (qT (qB (qQ false) (qV 1) (qK (Dt.str (Str.ofString "set"))))) (qS (qR (qF K06.spSet (qA (qV 0) (qA (qB qI (qV 2) (qK (Dt.int 2))) (qA (qB L3.rAdd (qB qI (qV 2) (qK (Dt.int 0))) (qB qI (qV 2) (qK (Dt.int 1)))) qZ))))) qN) qN) (qS (qJ (qT (qB (qQ false) (qV 1) (qK (Dt.str (Str.ofString "div"))))) (qS (qR (qF K06.spDiv (qA (qV 0) (qA (qK (Dt.int 0)) (qA (qB qI (qV 2) (qK (Dt.int 0))) (qA (qB qI (qV 2) (qK (Dt.int 1))) qZ)))))) qN) qN) (qS (qJ (qT (qB (qQ false) (qV 1) (qK (Dt.str (Str.ofString "right"))))) (qS (qR (qF K06.spRightW (qA (qV 0) (qA (qB qI (qV 2) (qK (Dt.int 0))) (qA (qB qI (qV 2) (qK (Dt.int 1))) qZ))))) qN) qN) (qS (qJ (qT (qB (qQ false) (qV 1) (qK (Dt.str (Str.ofString "hear"))))) (qS (qR (qF K06.spOn (qA (qF K06.spWithBox (qA (qV 0) (qA (qK (Dt.int 0)) (qA (qV 3) qZ)))) qZ))) qN) qN) (qS (qR (qU (qA (qK (Dt.str (Str.ofString "on"))) (qA (qV 0) (qA (qU (qA (qB qI (qV 2) (qK (Dt.int 0))) qZ)) qZ))))) qN))))))
noncomputable abbrev t_is_shutting:TSD:=(qS (qR (tandV (qB (qQ false) (qV 0) (qK (Dt.str (Str.ofString "set")))) (qB (rInD false) (qB rDiv (qB L3.rAdd (qB qI (qV 1) (qK (Dt.int 0))) (qB qI (qV 1) (qK (Dt.int 1)))) (qK (Dt.int 8))) (qV 2)))) qN)
section
variable {E:EndsD} {st:Sto} {Q:VD} {ρ:Rho}
theorem part {p:Nat} {ps:List Int} (hp:st[p]? = some (.rw (ps.map .int))) {i:Nat} (hi:i < ps.length) (q:Q (.int (ps.getD i 0)) st):qI (.lst p) (.int (i:Nat)) st Q:=by
  obtain ⟨d,ha,_,hg⟩:=atI_of (xs:=ps.map Dt.int) (v:=(i:Int)) (by omega) (by rw [List.length_map];omega)
  refine pickAt hp ha ?_
  rw [Int.toNat_natCast,List.getElem?_map,List.getElem?_eq_getElem hi] at hg
  have e:d = .int (ps.getD i 0):=by
    rw [← Option.some.inj hg,List.getD_eq_getElem?_getD,List.getElem?_eq_getElem hi];rfl
  rw [e];exact q
theorem rd_do_item {ds:List Dt} {st:Sto} {Pd:VD} (h:spDoItem ds st Pd):t_do_item (Ed Pd) (qW ["state", "word", "parts", "heard"] ds) st:=by
  obtain ⟨g,w,p,ps,h,rfl,hp,hl,hb,ok,hP⟩:=h
  have one:(1:Nat)≤sizeLine:=by decide
  have three:(3:Nat)≤sizeLine:=by decide
  have v1:∀ P:VD,P (.str (iw w)) st→qV 1 [some g.d,some (.str (iw w)),some (.lst p),some (.int h)] st P:=fun P hp=>hp
  show t_do_item (Ed Pd) [some g.d,some (.str (iw w)),some (.lst p),some (.int h)] st
  unfold t_do_item
  refine K22.seq1 ?_
  cases w with
  | get =>
    have hl:ps.length=2:=hl
    refine K22.tstr v1 (by decide +kernel) ?_
    simp only [qS,qR,qF,qA,qZ,qB,qV,qK,List.getElem?_cons_zero,List.getElem?_cons_succ]
    refine part (i:=0) hp (by omega) ?_
    refine part (i:=1) hp (by omega) ?_
    exact ⟨g,0,_,rfl,ok,by decide,by decide,hP⟩
  | set =>
    have hl:ps.length=3:=hl
    refine K22.fstr v1 (by decide +kernel) ?_
    refine K22.seq1 (K22.tstr v1 (by decide +kernel) ?_)
    simp only [qS,qR,qF,qA,qZ,qB,qV,qK,List.getElem?_cons_zero,List.getElem?_cons_succ]
    refine part (i:=2) hp (by omega) ?_
    refine part (i:=0) hp (by omega) ?_
    refine part (i:=1) hp (by omega) ?_
    exact ⟨g,_,_,rfl,ok,hP⟩
  | div =>
    have hl:ps.length=2:=hl
    refine K22.fstr v1 (by decide +kernel) ?_
    refine K22.seq1 (K22.fstr v1 (by decide +kernel) ?_)
    refine K22.seq1 (K22.tstr v1 (by decide +kernel) ?_)
    simp only [qS,qR,qF,qA,qZ,qB,qV,qK,List.getElem?_cons_zero,List.getElem?_cons_succ]
    refine part (i:=0) hp (by omega) ?_
    refine part (i:=1) hp (by omega) ?_
    have hy:=hb (ps.getD 1 0) (by rw [List.getD_eq_getElem?_getD,List.getElem?_eq_getElem (by omega)];exact List.getElem_mem _)
    exact ⟨g,0,_,_,rfl,ok.b8,by decide,by decide,hy.1,hy.2,hP⟩
  | right =>
    have hl:ps.length=2:=hl
    refine K22.fstr v1 (by decide +kernel) ?_
    refine K22.seq1 (K22.fstr v1 (by decide +kernel) ?_)
    refine K22.seq1 (K22.fstr v1 (by decide +kernel) ?_)
    refine K22.seq1 (K22.tstr v1 (by decide +kernel) ?_)
    simp only [qS,qR,qF,qA,qZ,qB,qV,qK,List.getElem?_cons_zero,List.getElem?_cons_succ]
    refine part (i:=0) hp (by omega) ?_
    refine part (i:=1) hp (by omega) ?_
    exact ⟨g,_,_,rfl,ok,hP⟩
  | hear =>
    refine K22.fstr v1 (by decide +kernel) ?_
    refine K22.seq1 (K22.fstr v1 (by decide +kernel) ?_)
    refine K22.seq1 (K22.fstr v1 (by decide +kernel) ?_)
    refine K22.seq1 (K22.fstr v1 (by decide +kernel) ?_)
    refine K22.seq1 (K22.tstr v1 (by decide +kernel) ?_)
    exact ⟨g,0,h,rfl,ok.b8,by decide,by decide,_,rfl,hP⟩
  | tell =>
    have hl:ps.length=1:=hl
    refine K22.fstr v1 (by decide +kernel) ?_
    refine K22.seq1 (K22.fstr v1 (by decide +kernel) ?_)
    refine K22.seq1 (K22.fstr v1 (by decide +kernel) ?_)
    refine K22.seq1 (K22.fstr v1 (by decide +kernel) ?_)
    refine K22.seq1 (K22.fstr v1 (by decide +kernel) ?_)
    simp only [qN,qS,qR,qU,qA,qZ,qB,qV,qK,List.getElem?_cons_zero,List.getElem?_cons_succ]
    refine part (i:=0) hp (by omega) ?_
    exact ⟨one,three,hP⟩
theorem rd_is_shutting {ds:List Dt} {st:Sto} {Pd:VD} (h:spShutting ds st Pd):t_is_shutting (Ed Pd) (qW ["word", "parts", "watched"] ds) st:=by
  obtain ⟨w,p,ps,wt,rfl,hp,hl,hw,hP⟩:=h
  show t_is_shutting (Ed Pd) [some (.str (iw w)),some (.lst p),some (.tup (wt.map .int))] st
  simp only [t_is_shutting,qS,qR,tandV,qB,qV,qK,List.getElem?_cons_zero,List.getElem?_cons_succ]
  by_cases hs:w = .set
  · subst hs
    have hl:ps.length=3:=hl
    refine K22.strT (by decide +kernel) ?_
    refine KH.iteB rfl ?_
    refine part (i:=0) hp (by omega) ?_
    refine part (i:=1) hp (by omega) ?_
    refine ⟨⟨by decide,by decide⟩,rfl,all_ints wt 0,?_⟩
    rw [Bool.bne_false]
    exact hP
  · refine K22.strF (by cases w <;> first | decide +kernel | exact absurd rfl hs) ?_
    have e:shutB w ps wt=false:=by cases w <;> first | rfl | exact absurd rfl hs
    rw [e] at hP
    exact hP
end
end KD
namespace KM
open PySem
noncomputable def lastS:List Str:=["out", "when", "back"]
end KM
namespace KL
open PySem L2 L3 K02 K85 K06
noncomputable def spMix:RDL:=fun ds st P=>∃ c k:Int,ds=[.int c,.int k]∧∀ x:Int,0≤x→P (.int x) st
noncomputable def spLParts:RDL:=fun ds st P=>∃ (c way:Int) (b:Nat) (bs:List Int),ds=[.int c,.int way,.lst b]∧st[b]? = some (.rw (bs.map .int))∧(∀ x ∈ bs,0 < x∧x < 1000000)∧bs.length≤300∧∀ (ps:List Int) st' n,ExtS st st'→st.length≤n→st'[n]? = some (.rw (ps.map .int))→PIn ps bs→P (.lst n) st'
noncomputable def spNumber:RDL:=fun ds st P=>∃ p:Int,ds=[.int p]∧∀ (v:Int) st',ExtS st st'→0≤v→v < 65536→P (.int v) st'
noncomputable def spState:RDL:=fun ds st P=>∃ (sc:Nat) (way:Int) (ns:List Int),ds=[.lst sc,.int way]∧st[sc]? = some (.ro (ns.map .int))∧∀ (g:GS) st',ExtS st st'→g.Ok→g.p < 65536→P g.d st'
noncomputable def spWatched:RDL:=fun ds st P=>∃ (c:Int) (n:Nat),ds=[.int c,.int (n:Int)]∧n≤16∧∀ (wt:List Int) st',ExtS st st'→wt.length≤n→P (.tup (wt.map .int)) st'
noncomputable def okS:Nat→Dt→Bool
  | 0,_=>false
  | n + 1,.tup xs=>xs.all (okS n)
  | _ + 1,.int _=>true
  | _ + 1,.bl _=>true
  | _ + 1,.str _=>true
  | _ + 1,.non=>true
  | _,_=>false
noncomputable def spSame (N:Nat):RDL:=fun ds st P=>∃ d:Dt,ds=[d,d]∧okS N d=true∧∀ st',ExtS st st'→P (.bl true) st'
end KL
namespace K62
open PySem L2 L3 K02 K85 K06 KM
noncomputable def bnd:List Int:=[5,65536,40,136,65536,65536,65536,4,65536]
noncomputable def howL:List Str:=["closed", "shut", "on", "nought", "bad"]
noncomputable def bsK (k n:Nat):List Dt:=(List.range n).map fun j=>.tup [.str "hand",.int (((j + k) % 4:Nat):Int)]
noncomputable def msK (k n:Nat):List Dt:=(List.range n).map fun j=>.tup [.str "old",.int (((j + k) % 3:Nat):Int)]
noncomputable def exK (p0 p1 p2:Int) (k:Nat):Ex:=⟨howL.getD (((k:Int) + p0) % 5).toNat "",if k % 2=0 then .int (((k:Int) * 7 + p1) % 65536) else .tup [.str "hand",.int ((k % 3:Nat):Int)],bsK k 8,msK k 3,3 * (k:Int) + p2⟩
noncomputable def exL (p0 p1 p2:Int) (n:Nat):List Ex:=(List.range n).map (exK p0 p1 p2)
noncomputable def rowK:Nat→Rw
  | 0=>⟨"get",[3,0,1,0]⟩
  | 1=>⟨"set",[0,1,2,0,1]⟩
  | 2=>⟨"div",[3,0,1,3]⟩
  | _=>⟨"right",[0,1,4]⟩
noncomputable def rowsL (k:Nat) (a b c:Int):List Rw:=[⟨"num",[0,a]⟩,⟨"num",[1,b]⟩,⟨"num",[2,c]⟩,⟨"num",[3,9]⟩,⟨"tell",[2]⟩,rowK k,⟨"tell",[3]⟩,⟨"out",[2]⟩]
noncomputable def blkD (x y:Int) (k:Nat) (a b c p0 p1 p2:Int):Dt:=.tup [.int x,.int y,.tup ((rowsL k a b c).map rowD),.tup ((exL p0 p1 p2 5).map exD)]
noncomputable def iwK:Nat→KD.IW
  | 0=>.get
  | 1=>.set
  | 2=>.div
  | _=>.right
noncomputable def psK (k:Nat) (a b c:Int):List Int:=if k=1 then [a,b,c] else [a,b]
noncomputable def resK (g:GS) (k:Nat) (a b c:Int):Res:=KD.itemG g (iwK k) (psK k a b c) 0
noncomputable def faultK:Nat→Nat
  | 0=>0
  | 1=>0
  | 2=>3
  | _=>4
noncomputable def onK (g:GS) (k:Nat) (a b c:Int):Bool:=decide ((resK g k a b c).1 = "on")
noncomputable def leaveK (g:GS) (wt:List Int) (k:Nat) (a b c:Int):Nat:=if onK g k a b c=true then (if KD.shutB (iwK k) (psK k a b c) wt=true then 1 else 2) else faultK k
noncomputable def brK (g:GS) (k:Nat) (a b c:Int):Int:=if (onK g k a b c && KD.brings (iwK k))=true then (resK g k a b c).2.1.bs.getD 0 0 else 9
noncomputable def hnd (g:GS) (k:Nat) (a b c:Int):List Int:=[a,b,c,brK g k a b c]
structure Dr (k:Nat) (a b c:Int):Prop where
  k4:k < 4
  ha:0≤a∧a < 65536
  hb:0≤b∧b < 65536
  hc:0≤c∧c < 65536
  h8:k=3→b < 8
noncomputable def mB (m:M3) (j:Nat):Bool:=if j=0 then m.1 else if j=1 then m.2.1 else m.2.2
noncomputable def outS (g:GS) (wt:List Int) (k:Nat) (a b c p1:Int):GS :=
  let e:=leaveK g wt k a b c
  ⟨if e % 2=0 then ((e:Int) * 7 + p1) % 65536 else (hnd g k a b c).getD (e % 3) 0,(List.range 8).map fun j=>(hnd g k a b c).getD ((j + e) % 4) 0,(mB g.m (e % 3),mB g.m ((1 + e) % 3),mB g.m ((2 + e) % 3)),g.sv,(resK g k a b c).2.1.rs,(resK g k a b c).2.1.cs⟩
noncomputable def dueD (g:GS) (wt:List Int) (k:Nat) (a b c p0 p1 p2:Int):Dt :=
  let e:=leaveK g wt k a b c
  hostD (exK p0 p1 p2 e) (outS g wt k a b c p1) (if e=2 then [c,brK g k a b c] else [c]) 0 (if e=2 then 8 else 6)
noncomputable def spExits:RDL:=fun ds st P=>∃ (p:Nat) (ps:List Int),ds=[.lst p]∧st[p]? = some (.rw (ps.map .int))∧PIn ps bnd∧∀ st',ExtS st st'→P (.tup ((exL (ps.getD 0 0) (ps.getD 1 0) (ps.getD 2 0) 5).map exD)) st'
noncomputable def spNumbers:RDL:=fun ds st P=>∃ (p:Nat) (ps:List Int) (g:GS),ds=[.lst p,g.d]∧st[p]? = some (.rw (ps.map .int))∧PIn ps bnd∧g.Ok∧∀ a b c st' n,ExtS st st'→Dr 0 a b c→st'[n]? = some (.rw [.int a,.int b,.int c])→P (.lst n) st'
noncomputable def spBlock:RDL:=fun ds st P=>∃ (p:Nat) (ps:List Int) (g:GS),ds=[.lst p,g.d]∧st[p]? = some (.rw (ps.map .int))∧PIn ps bnd∧g.Ok∧∀ x y k a b c p0 p1 p2 st',ExtS st st'→Dr k a b c→0≤p0→P (blkD x y k a b c p0 p1 p2) st'
noncomputable def spLeft:RDL:=fun ds st P=>∃ (x y:Int) (k:Nat) (a b c p0 p1 p2:Int) (g:GS) (wt:List Int),ds=[blkD x y k a b c p0 p1 p2,g.d,.tup (wt.map .int)]∧Dr k a b c∧g.Ok∧wt.length≤16∧∀ n st',ExtS st st'→st'[n]? = some (.rw ((hnd g k a b c).map .int))→P (.tup [.int (leaveK g wt k a b c:Nat),.lst n,.tup ((resK g k a b c).2.1.rs.map .int),.tup ((resK g k a b c).2.1.cs.map .int)]) st'
noncomputable def spDue:RDL:=fun ds st P=>∃ (x y:Int) (k:Nat) (a b c p0 p1 p2:Int) (g:GS) (wt:List Int),ds=[blkD x y k a b c p0 p1 p2,g.d,.tup (wt.map .int)]∧Dr k a b c∧g.Ok∧wt.length≤16∧∀ st',ExtS st st'→P (dueD g wt k a b c p0 p1 p2) st'
end K62
namespace K62
open PySem L2 L3 K02 K85 K06 KM
theorem leave_lt (g:GS) (wt:List Int) (k:Nat) (a b c:Int):leaveK g wt k a b c < 5:=by
  unfold leaveK
  split
  · split <;> decide
  · unfold faultK;split <;> decide
theorem res_h (g:GS) (k:Nat) (a b c h:Int):KD.itemG g (iwK k) (psK k a b c) h=resK g k a b c:=by
  unfold resK
  match k with
  | 0=>rfl
  | 1=>rfl
  | 2=>rfl
  | k + 3=>rfl
theorem set_mem {xs:List Int} {i:Nat} {v w:Int} (h:w ∈ xs.set i v):w=v∨w ∈ xs:=by
  rcases List.mem_or_eq_of_mem_set h with h | h
  · exact .inr h
  · exact .inl h
theorem getD_in {xs:List Int} {Q:Int→Prop} (h:∀ v ∈ xs,Q v) (h0:Q 0) (i:Nat):Q (xs.getD i 0):=by
  rw [List.getD_eq_getElem?_getD]
  cases e:xs[i]? with
  | none=>exact h0
  | some v=>exact h v (List.mem_of_getElem? e)
theorem next_ok {g:GS} (ok:g.Ok):(next g).Ok:=⟨Int.emod_nonneg _ (by decide),ok.b8,ok.bb,ok.c8,ok.cm,ok.cb,ok.rb⟩
theorem box_ok {g:GS} (ok:g.Ok) (a v:Int) (hv:0≤v∧v < 65536):(boxG g a v).Ok :=
  ⟨Int.emod_nonneg _ (by decide),by show (g.bs.set _ _).length=8;rw [List.length_set];exact ok.b8,fun w hw=>by rcases set_mem hw with rfl | hw;exact hv;exact ok.bb w hw,ok.c8,ok.cm,ok.cb,ok.rb⟩
theorem out_ok {g:GS} (ok:g.Ok) (a v:Int) (k:Bool) (hv:0≤v∧v < 65536):(outG g a v k).Ok :=
  have h:=box_ok ok a v hv
  ⟨h.p0,h.b8,h.bb,h.c8,h.cm,h.cb,h.rb⟩
theorem div_le {a b:Int} (ha:0≤a) (hb:0≤b):a / b≤a:=Int.ediv_le_self b ha
theorem res_ok {g:GS} {k:Nat} {a b c:Int} (ok:g.Ok) (d:Dr k a b c):(resK g k a b c).2.1.Ok:=by
  obtain ⟨k4,ha,hb,hc,h8⟩:=d
  rcases (show k=0∨k=1∨k=2∨k=3 by omega) with rfl | rfl | rfl | rfl
  · show (getG g 0 (a + b)).2.1.Ok
    unfold getG
    split
    · exact box_ok ok _ _ (getD_in (Q:=fun v=>0≤v∧v < 65536) ok.cb (by decide) _)
    · exact ok
  · show (setG g c (a + b)).2.1.Ok
    unfold setG
    split
    · have n:=next_ok ok
      refine ⟨n.p0,n.b8,n.bb,?_,?_,?_,n.rb⟩
      · show (g.cs.set _ _).length=_;rw [List.length_set];exact n.c8
      · show (g.cs.set _ _).length≤_;rw [List.length_set];exact n.cm
      · intro w hw
        rcases set_mem hw with rfl | hw
        · exact hc
        · exact ok.cb w hw
    · exact ok
  · show (divG g 0 a b).2.1.Ok
    unfold divG
    split
    · exact ok
    · refine out_ok ok _ _ _ ⟨Int.ediv_nonneg ha.1 hb.1,?_⟩
      have:=div_le ha.1 hb.1
      omega
  · show (rightG g a b).2.1.Ok
    unfold rightG
    split
    · have n:=next_ok ok
      refine ⟨n.p0,n.b8,n.bb,?_,n.cm,n.cb,?_⟩
      · show _=8 * (g.rs.set _ _).length;rw [List.length_set];exact n.c8
      · intro w hw
        rcases set_mem hw with rfl | hw
        · exact ⟨hb.1,h8 rfl⟩
        · exact ok.rb w hw
    · exact ok
theorem res_keep (g:GS) (k:Nat) (a b c:Int):(resK g k a b c).2.1.sv=g.sv∧(resK g k a b c).2.2=[]:=by
  unfold resK
  match k with
  | 0=>show (getG g 0 (a + b)).2.1.sv=_∧(getG g 0 (a + b)).2.2=[];unfold getG;split <;> exact ⟨rfl,rfl⟩
  | 1=>show (setG g c (a + b)).2.1.sv=_∧(setG g c (a + b)).2.2=[];unfold setG;split <;> exact ⟨rfl,rfl⟩
  | 2=>show (divG g 0 a b).2.1.sv=_∧(divG g 0 a b).2.2=[];unfold divG;split <;> exact ⟨rfl,rfl⟩
  | k + 3=>show (rightG g a b).2.1.sv=_∧(rightG g a b).2.2=[];unfold rightG;split <;> exact ⟨rfl,rfl⟩
theorem br_in {g:GS} {k:Nat} {a b c:Int} (ok:g.Ok) (d:Dr k a b c):0≤brK g k a b c∧brK g k a b c < 65536:=by
  unfold brK
  split
  · exact getD_in (Q:=fun v=>0≤v∧v < 65536) (res_ok ok d).bb (by decide) _
  · decide
theorem hnd_in {g:GS} {k:Nat} {a b c:Int} (ok:g.Ok) (d:Dr k a b c):∀ v ∈ hnd g k a b c,0≤v∧v < 65536:=by
  intro v hv
  simp only [hnd,List.mem_cons,List.not_mem_nil,or_false] at hv
  rcases hv with rfl | rfl | rfl | rfl
  · exact d.ha
  · exact d.hb
  · exact d.hc
  · exact br_in ok d
theorem outsK {H:Hd} {g0 g:GS} {wt:List Int} {k:Nat} {a b c p0 p1 p2:Int} (ok:g0.Ok) (d:Dr k a b c) (hH:∀ i:Nat,i < 4→inH H (i:Int) = .int ((hnd g0 k a b c).getD i 0)) (hm:H.ms=g0.m) (hs:g.sv=g0.sv) (hr:g.rs=(resK g0 k a b c).2.1.rs) (hc:g.cs=(resK g0 k a b c).2.1.cs):Outs H g (exK p0 p1 p2 (leaveK g0 wt k a b c)) false (outS g0 wt k a b c p1):=by
  have e5:=leave_lt g0 wt k a b c
  unfold outS
  generalize leaveK g0 wt k a b c=e at e5
  simp only []
  rw [← hs,← hr,← hc]
  have hv:=hnd_in ok d
  have hq:(if e % 2=0 then ((e:Int) * 7 + p1) % 65536 else (hnd g0 k a b c).getD (e % 3) 0)=(if e % 2=0 then ((e:Int) * 7 + p1) % 65536 else (hnd g0 k a b c).getD (e % 3) 0) % 65536:=by
    split
    · omega
    · have:=getD_in (Q:=fun v=>0≤v∧v < 65536) hv (by decide) (e % 3)
      omega
  rw [hq]
  refine Outs.go _ _ _ ?_ ?_ ?_
  · unfold exK
    by_cases h:e % 2=0
    · simp only [h,if_true];exact .int _
    · simp only [h,if_false];exact .hand _ _ _ (hH (e % 3) (by omega))
  · refine ⟨by simp [exK,bsK],?_⟩
    intro i s v h1 h2
    have hi:i < 8:=by have:=(List.getElem?_eq_some_iff.mp h1).1;simpa [exK,bsK] using this
    have h1':some (Dt.tup [.str "hand",.int (((i + e) % 4:Nat):Int)])=some s:=by rw [← h1];simp [exK,bsK,hi]
    have h2':some (Dt.int ((hnd g0 k a b c).getD ((i + e) % 4) 0))=some v:=by rw [← h2];simp [hi]
    cases h1';cases h2'
    rw [← hH _ (by omega)]
    exact .hand _
  · refine ⟨by simp [exK,msK,mL],?_⟩
    intro i s v h1 h2
    have hi:i < 3:=by have:=(List.getElem?_eq_some_iff.mp h1).1;simpa [exK,msK] using this
    have h1':some (Dt.tup [.str "old",.int (((i + e) % 3:Nat):Int)])=some s:=by rw [← h1];simp [exK,msK,hi]
    have h2':some (Dt.bl (mB g0.m ((i + e) % 3)))=some v:=by
      rw [← h2]
      rcases (show i=0∨i=1∨i=2 by omega) with rfl | rfl | rfl
      · show _=some (Dt.bl (mB g0.m (e % 3)));rw [Nat.zero_add]
      · rfl
      · rfl
    cases h1';cases h2'
    refine .old _ _ ?_
    rw [hm]
    have:(i + e) % 3 < 3:=Nat.mod_lt _ (by decide)
    generalize (i + e) % 3=j at this
    rcases (show j=0∨j=1∨j=2 by omega) with rfl | rfl | rfl <;> rfl
noncomputable def h4 (g:GS) (a b c:Int):Hd:=setH (setH (setH (setH ⟨[],[],g.bs,g.m⟩ 0 (.int a)) 1 (.int b)) 2 (.int c)) 3 (.int 9)
theorem h4_0 (g:GS) (a b c:Int):inH (h4 g a b c) 0 = .int a:=rfl
theorem h4_1 (g:GS) (a b c:Int):inH (h4 g a b c) 1 = .int b:=rfl
theorem h4_2 (g:GS) (a b c:Int):inH (h4 g a b c) 2 = .int c:=rfl
theorem go5 {given wt:List Int} {g:GS} {a b c:Int} {rs:List Rw} {m':Ms} {e:Nat} {r:Rw} {n:Nat} (ok:g.Ok) (hc:0≤c∧c < 65536) (h:Go given wt 5 ⟨g,h4 g a b c,[c],0⟩ rs m' e r n):Go given wt 0 (start g) (⟨"num",[0,a]⟩ :: ⟨"num",[1,b]⟩ :: ⟨"num",[2,c]⟩ :: ⟨"num",[3,9]⟩ :: ⟨"tell",[2]⟩ :: rs) m' e r n:=by
  refine .next _ _ _ _ _ _ _ _ _ ok (.put _ _ (.num _ _)) ?_
  refine .next _ _ _ _ _ _ _ _ _ ok (.put _ _ (.num _ _)) ?_
  refine .next _ _ _ _ _ _ _ _ _ ok (.put _ _ (.num _ _)) ?_
  refine .next _ _ _ _ _ _ _ _ _ ok (.put _ _ (.num _ _)) ?_
  refine .next _ _ _ _ _ _ _ _ _ ok (.item _ .tell [c] 0 (.tell 2 c (h4_2 g a b c)) (fun v hv=>?_) rfl rfl) h
  rw [List.mem_singleton] at hv;rw [hv];exact hc
theorem itK {g:GS} {k:Nat} {a b c:Int} (d:Dr k a b c):ItR (h4 g a b c) (rowK k) (iwK k) (psK k a b c) (if KD.brings (iwK k) then 3 else 0):=by
  rcases (show k=0∨k=1∨k=2∨k=3 by have:=d.k4;omega) with rfl | rfl | rfl | rfl
  · exact .get 3 0 1 0 a b (h4_0 g a b c) (h4_1 g a b c)
  · exact .set 0 1 2 0 1 a b c (h4_0 g a b c) (h4_1 g a b c) (h4_2 g a b c)
  · exact .div 3 0 1 3 a b (h4_0 g a b c) (h4_1 g a b c)
  · exact .right 0 1 4 a b (h4_0 g a b c) (h4_1 g a b c)
theorem ps_in {k:Nat} {a b c:Int} (d:Dr k a b c):∀ v ∈ psK k a b c,0≤v∧v < 65536:=by
  intro v hv
  unfold psK at hv
  split at hv <;> simp only [List.mem_cons,List.not_mem_nil,or_false] at hv
  · rcases hv with rfl | rfl | rfl
    · exact d.ha
    · exact d.hb
    · exact d.hc
  · rcases hv with rfl | rfl
    · exact d.ha
    · exact d.hb
theorem fault_e {k:Nat} (k4:k < 4):(partsOf (form (rowK k).w) (rowK k).xs "e")[0]? = some ((faultK k:Nat):Int):=by
  rcases (show k=0∨k=1∨k=2∨k=3 by omega) with rfl | rfl | rfl | rfl <;> decide +kernel
theorem shut_e:(partsOf (form (rowK 1).w) (rowK 1).xs "e")[1]? = some (((1:Nat):Nat):Int):=by decide +kernel
theorem hears_k (m:Ms) (k:Nat) (n:Nat):hears m (iwK k) n=m.heard:=by
  match k with
  | 0=>rfl
  | 1=>rfl
  | 2=>rfl
  | k + 3=>rfl
theorem rowK_bk (k:Nat):decide ((rowK k).w = "back")=false:=by
  match k with
  | 0=>decide +kernel
  | 1=>decide +kernel
  | 2=>decide +kernel
  | k + 3=>show decide ((Str.ofString "right") = "back")=false;decide +kernel
theorem goK {given wt:List Int} {g:GS} {k:Nat} {a b c:Int} (p0 p1 p2:Int) (ok:g.Ok) (d:Dr k a b c):∃ m' r n,Go given wt 0 (start g) (rowsL k a b c) m' (leaveK g wt k a b c) r n∧Outs m'.H m'.g (exK p0 p1 p2 (leaveK g wt k a b c)) (isBk r m') (outS g wt k a b c p1)∧hostD (exK p0 p1 p2 (leaveK g wt k a b c)) (outS g wt k a b c p1) m'.told m'.heard n=dueD g wt k a b c p0 p1 p2:=by
  have eh:∀ h,KD.itemG g (iwK k) (psK k a b c) h=resK g k a b c:=res_h g k a b c
  have kp:=res_keep g k a b c
  cases on:onK g k a b c with
  | false =>
    have hne:(resK g k a b c).1 ≠ "on":=by simpa [onK] using on
    have le:leaveK g wt k a b c=faultK k:=by unfold leaveK;rw [on];rfl
    have f2:faultK k≠2:=by unfold faultK;split <;> decide
    have hbr:brK g k a b c=9:=by unfold brK;rw [on];rfl
    refine ⟨leftM ⟨g,h4 g a b c,[c],0⟩ (iwK k) (psK k a b c) given,rowK k,6,?_,?_,?_⟩
    · rw [le]
      refine go5 ok d.hc (.here _ _ _ _ _ _ ok (.fault _ _ _ _ _ (itK d) (ps_in d) ?_ (fault_e d.k4)))
      rw [eh];exact hne
    · have eb:isBk (rowK k) (leftM ⟨g,h4 g a b c,[c],0⟩ (iwK k) (psK k a b c) given)=false:=by unfold isBk;rw [rowK_bk];rfl
      rw [eb]
      refine outsK ok d ?_ rfl ?_ ?_ ?_
      · intro i hi
        show inH (h4 g a b c) (i:Int)=_
        rcases (show i=0∨i=1∨i=2∨i=3 by omega) with rfl | rfl | rfl | rfl
        · rfl
        · rfl
        · rfl
        · show _=Dt.int (brK g k a b c);rw [hbr];rfl
      · show (KD.itemG g (iwK k) (psK k a b c) _).2.1.sv=_;rw [eh];exact kp.1
      · show (KD.itemG g (iwK k) (psK k a b c) _).2.1.rs=_;rw [eh]
      · show (KD.itemG g (iwK k) (psK k a b c) _).2.1.cs=_;rw [eh]
    · unfold dueD
      simp only [le,f2,if_false]
      show hostD _ _ ([c] ++ (KD.itemG g (iwK k) (psK k a b c) _).2.2) 0 6=_
      rw [eh,kp.2];rfl
  | true =>
    have he:(resK g k a b c).1 = "on":=by simpa [onK] using on
    cases sh:KD.shutB (iwK k) (psK k a b c) wt with
    | true =>
      obtain rfl:k=1:=by
        rcases (show k=0∨k=1∨k=2∨k=3 by have:=d.k4;omega) with rfl | rfl | rfl | rfl
        · cases sh
        · rfl
        · cases sh
        · cases sh
      have le:leaveK g wt 1 a b c=1:=by unfold leaveK;rw [on,sh];rfl
      have hbr:brK g 1 a b c=9:=by unfold brK;rw [on];rfl
      refine ⟨leftM ⟨g,h4 g a b c,[c],0⟩ (iwK 1) (psK 1 a b c) given,rowK 1,6,?_,?_,?_⟩
      · rw [le]
        refine go5 ok d.hc (.here _ _ _ _ _ _ ok (.shut _ _ _ _ _ (itK d) (ps_in d) ?_ sh shut_e))
        rw [eh];exact he
      · have eb:isBk (rowK 1) (leftM ⟨g,h4 g a b c,[c],0⟩ (iwK 1) (psK 1 a b c) given)=false:=by unfold isBk;rw [rowK_bk];rfl
        rw [eb]
        refine outsK ok d ?_ rfl ?_ ?_ ?_
        · intro i hi
          show inH (h4 g a b c) (i:Int)=_
          rcases (show i=0∨i=1∨i=2∨i=3 by omega) with rfl | rfl | rfl | rfl
          · rfl
          · rfl
          · rfl
          · show _=Dt.int (brK g 1 a b c);rw [hbr];rfl
        · show (KD.itemG g (iwK 1) (psK 1 a b c) _).2.1.sv=_;rw [eh];exact kp.1
        · show (KD.itemG g (iwK 1) (psK 1 a b c) _).2.1.rs=_;rw [eh]
        · show (KD.itemG g (iwK 1) (psK 1 a b c) _).2.1.cs=_;rw [eh]
      · unfold dueD
        simp only [le]
        show hostD _ _ ([c] ++ (KD.itemG g (iwK 1) (psK 1 a b c) _).2.2) 0 6=_
        rw [eh,kp.2];rfl
    | false =>
      have le:leaveK g wt k a b c=2:=by unfold leaveK;rw [on,sh];rfl
      have hbr:brK g k a b c=if KD.brings (iwK k)=true then (resK g k a b c).2.1.bs.getD 0 0 else 9:=by unfold brK;rw [on];rfl
      let m6:Ms:=after ⟨g,h4 g a b c,[c],0⟩ (iwK k) (psK k a b c) given (if KD.brings (iwK k) then 3 else 0)
      have hH:m6.H=if KD.brings (iwK k)=true then setH (h4 g a b c) 3 (.int (brK g k a b c)) else h4 g a b c:=by
        show (if KD.brings (iwK k)=true then setH (h4 g a b c) (if KD.brings (iwK k)=true then 3 else 0) (.int ((KD.itemG g (iwK k) (psK k a b c) _).2.1.bs.getD 0 0)) else h4 g a b c)=_
        rw [eh,hbr]
        cases KD.brings (iwK k) <;> rfl
      have hi:∀ i:Nat,i < 4→inH m6.H (i:Int) = .int ((hnd g k a b c).getD i 0):=by
        intro i hi
        rw [hH]
        cases hb:KD.brings (iwK k) with
        | true =>
          rcases (show i=0∨i=1∨i=2∨i=3 by omega) with rfl | rfl | rfl | rfl <;> rfl
        | false =>
          have e9:brK g k a b c=9:=by rw [hbr,hb];rfl
          rcases (show i=0∨i=1∨i=2∨i=3 by omega) with rfl | rfl | rfl | rfl
          · rfl
          · rfl
          · rfl
          · show _=Dt.int (brK g k a b c);rw [e9];rfl
      have h3:inH m6.H 3 = .int (brK g k a b c):=hi 3 (by decide)
      have g6:m6.g=(resK g k a b c).2.1:=by show (KD.itemG g (iwK k) (psK k a b c) _).2.1=_;rw [eh]
      have t6:m6.told=[c]:=by show [c] ++ (KD.itemG g (iwK k) (psK k a b c) _).2.2=_;rw [eh,kp.2];rfl
      have r6:m6.heard=0:=hears_k _ _ _
      have ms6:m6.H.ms=g.m:=by rw [hH];cases KD.brings (iwK k) <;> rfl
      have ok6:m6.g.Ok:=by rw [g6];exact res_ok ok d
      refine ⟨⟨m6.g,m6.H,m6.told ++ [brK g k a b c],m6.heard⟩,⟨"out",[2]⟩,8,?_,?_,?_⟩
      · rw [le]
        refine go5 ok d.hc (.next _ _ m6 _ _ _ _ _ _ ok (.item _ _ _ _ (itK d) (ps_in d) (by rw [eh];exact he) sh) ?_)
        refine .next _ _ ⟨m6.g,m6.H,m6.told ++ [brK g k a b c],m6.heard⟩ _ _ _ _ _ _ ok6 (.item _ .tell [brK g k a b c] 0 (.tell 3 _ h3) (fun v hv=>?_) rfl rfl) ?_
        · rw [List.mem_singleton] at hv;rw [hv];exact br_in ok d
        · exact .here _ _ _ _ _ _ ok6 (.last _ _ (.out _))
      · have eb:isBk ⟨"out",[2]⟩ ⟨m6.g,m6.H,m6.told ++ [brK g k a b c],m6.heard⟩=false:=by
          have:decide ((Str.ofString "out") = "back")=false:=by decide +kernel
          show (decide ((Str.ofString "out") = "back") && _)=false
          rw [this];rfl
        rw [eb]
        refine outsK ok d hi ms6 ?_ ?_ ?_
        · show m6.g.sv=_;rw [g6];exact kp.1
        · show m6.g.rs=_;rw [g6]
        · show m6.g.cs=_;rw [g6]
      · unfold dueD
        simp only [le]
        show hostD _ _ (m6.told ++ [brK g k a b c]) m6.heard 8=_
        rw [t6,r6];rfl
end K62
namespace K85
open PySem PySem.Spec PyProof.Rows L2 L3 K02
theorem bneF (b:Bool):(b != false)=b:=by cases b <;> rfl
theorem ix0 {r:Rw} {ρ:Rho} {st:Sto} {i:Nat} (hv:ρ[i]? = some (some (rowD r))):∀ P:VD,P (.str r.w) st→qB qI (qV i) (qK (.int 0)) ρ st P:=by
  intro P hp
  simp only [qB,qV,qK,hv,rowD]
  show (match atI (Dt.str r.w :: r.xs.map .int) 0 with
    | some d=>P d st
    | none=>False)
  rw [show atI (Dt.str r.w :: r.xs.map Dt.int) 0=some (.str r.w) from atI_nat (j:=0) rfl]
  exact hp
end K85
namespace K02
open PySem L2 L3
end K02
namespace K02
open PySem PySem.Spec PyProof.Rows L2 L3
end K02
namespace K02
open PySem PySem.Spec PyProof.Rows L2 L3
section
variable {st:Sto}
theorem ixV {n j:Nat} {d:Dt} {xs:List Dt} {P:VD} (hn:st[n]? = some (.rw xs)) (hd:xs[j]? = some d) (hp:P d st):qI (.lst n) (.int (j:Int)) st P:=by
  show (match seqOf st (.lst n) with
      | some xs=>(match atI xs (j:Int) with
        | some d=>P d st
        | none=>False)
      | none=>False)
  have e:seqOf st (.lst n)=some xs:=by
    show (st[n]?).map SO.items=_
    rw [hn];rfl
  rw [e]
  show (match atI xs (j:Int) with
        | some d=>P d st
        | none=>False)
  rw [atI_nat hd]
  exact hp
end
end K02
namespace K85
open PySem PySem.Spec PyProof.Rows L2 L3 K02
theorem pin_snoc {ps bs:List Int} {i:Nat} {p b:Int} (h:PIn ps (bs.take i)) (hb:bs[i]? = some b) (h0:0≤p) (h1:p < b):PIn (ps ++ [p]) (bs.take (i + 1)):=by
  have hil:=(List.getElem?_eq_some_iff.mp hb).1
  have hl:=h.1
  rw [List.length_take] at hl
  rw [List.take_add_one,hb]
  refine ⟨by simp [h.1],fun j q c hq hc=>?_⟩
  by_cases hj:j < ps.length
  · rw [List.getElem?_append_left hj] at hq
    rw [List.getElem?_append_left (by rw [List.length_take];omega)] at hc
    exact h.2 j q c hq hc
  · have hj2:=(List.getElem?_eq_some_iff.mp hq).1
    simp at hj2
    have ej:j=ps.length:=by omega
    subst ej
    have e1:q=p:=by simpa using hq.symm
    have e2:c=b:=by
      rw [List.getElem?_append_right (by rw [List.length_take];omega)] at hc
      have:ps.length - (bs.take i).length=0:=by rw [List.length_take];omega
      rw [this] at hc
      simpa using hc.symm
    rw [e1,e2];exact ⟨h0,h1⟩
theorem forR {te:TD} {g:TGD} {tb:TSD} {n:Nat} {E:EndsD} {ρ:Rho} {st:Sto} (h:∀ P:VD,P (.int (n:Int)) st→te ρ st P) (hn:n < 1000000) (q:forW (rangeD 0 n) (fun _=>True) g tb E ρ st):tfor (irng1 te) g tb E ρ st:=by
  show te ρ st _
  refine h _ ⟨by omega,by omega,?_⟩
  rw [Int.toNat_natCast];exact q
theorem row2 {w f:Str} {a b:Int} (h:formS.lookup w=some f) (hl:f.length=2):OkR ⟨w,[a,b]⟩:=ok_of h hl.symm
theorem row1 {w f:Str} {a:Int} (h:formS.lookup w=some f) (hl:f.length=1):OkR ⟨w,[a]⟩:=ok_of h hl.symm
end K85
namespace KL
open PySem PySem.Spec PyProof.Rows L2 L3 KS K02 K85 K06
noncomputable abbrev t__law_mix:TSD:=(qS (qE (qB rMod (qB L3.rAdd (qV 0) (qB rMul (qK (Dt.int 15485863)) (qB L3.rAdd (qV 1) (qK (Dt.int 1))))) (qK (Dt.int 2147483647))) (qG 2)) (qS (qE (qB rMod (qB rMul (qV 2) (qV 2)) (qK (Dt.int 2147483629))) (qG 2)) (qS (qR (qB rDiv (qB rMod (qB rMul (qV 2) (qB L3.rAdd (qB L3.rAdd (qV 2) (qB rMul (qK (Dt.int 7919)) (qV 1))) (qK (Dt.int 11)))) (qK (Dt.int 2147483587))) (qK (Dt.int 8)))) qN)))
noncomputable abbrev t__law_parts:TSD:=(qS (qE (qL qZ) (qG 3)) (qS (tfor (irng1 (qF rLen (qA (qV 2) qZ))) (qG 4) (qS (qJ (qT (qB (qQ false) (qV 1) (qK (Dt.int 0)))) (qS (tdrop (tappend (qV 3) (qB rMod (qV 0) (qB qI (qV 2) (qV 4))))) (qS (qE (qB rDiv (qV 0) (qB qI (qV 2) (qV 4))) (qG 0)) qN)) (qS (tdrop (tappend (qV 3) (qB rMod (qF KL.spMix (qA (qV 0) (qA (qV 4) qZ))) (qB qI (qV 2) (qV 4))))) qN)) qN)) (qS (qR (qV 3)) qN)))
noncomputable abbrev t__law_number:TSD:=(qS (qR (qB rMod (qB qI (qL (qA (qB rMod (qV 0) (qK (Dt.int 16))) (qA (qB rMod (qB rDiv (qV 0) (qK (Dt.int 4))) (qK (Dt.int 140))) (qA (qB rDiv (qV 0) (qK (Dt.int 4))) (qA (qB L3.rSub (qK (Dt.int 65535)) (qB rMod (qB rDiv (qV 0) (qK (Dt.int 4))) (qK (Dt.int 3)))) qZ))))) (qB rMod (qV 0) (qK (Dt.int 4)))) (qK (Dt.int 65536)))) qN)
noncomputable abbrev t__law_watched:TSD:=(qS (qR (qF qH (qA (tcomp (irng1 (qV 1)) (qT (qB (qQ false) (qB rMod (qB rDiv (qV 1) (qB rShl (qK (Dt.int 1)) (qV 0))) (qK (Dt.int 2))) (qK (Dt.int 1)))) (qV 0) [(0, "cell")]) qZ))) qN)
section
variable (N:Nat)
noncomputable abbrev t__law_same:TSD:=(qS (qJ (qT (qF rIsInst (qA (qV 1) (qA (qK (Dt.ty "tuple")) qZ)))) (qS (qJ (torB (tnotB (qT (qF rIsInst (qA (qV 0) (qA (qK (Dt.ty "tuple")) qZ))))) (qT (qB (qQ true) (qF rLen (qA (qV 0) qZ)) (qF rLen (qA (qV 1) qZ))))) (qS (qR (qK (Dt.bl false))) qN) qN) (qS (tfor (izip (qV 0) (qV 1)) (gunpack 2 (gscons (qG 2) (gscons (qG 3) gsnil))) (qS (qJ (tnotB (qT (qF (KL.spSame N) (qA (qV 2) (qA (qV 3) qZ))))) (qS (qR (qK (Dt.bl false))) qN) qN) qN)) (qS (qR (qK (Dt.bl true))) qN))) qN) (qS (qJ (qT (qB (rIsD false) (qV 1) (qK Dt.non))) (qS (qR (qB (rIsD false) (qV 0) (qK Dt.non))) qN) qN) (qS (qJ (qT (qF rIsInst (qA (qV 1) (qA (qK (Dt.ty "bool")) qZ)))) (qS (qR (tandV (qF rIsInst (qA (qV 0) (qA (qK (Dt.ty "bool")) qZ))) (qB (qQ false) (qV 0) (qV 1)))) qN) qN) (qS (qJ (qT (qF rIsInst (qA (qV 1) (qA (qK (Dt.ty "str")) qZ)))) (qS (qR (tandV (qF rIsInst (qA (qV 0) (qA (qK (Dt.ty "str")) qZ))) (qB (qQ false) (qV 0) (qV 1)))) qN) qN) (qS (qR (tandV (qF K85.spIsNum (qA (qV 0) qZ)) (qB (qQ false) (qV 0) (qV 1)))) qN)))))
end
theorem iteX {b:Bool} {A B:Prop} (ha:A) (hb:B):if b=true then A else B:=by cases b <;> simp [ha,hb]
theorem ixVv {st:Sto} {n j:Nat} {d:Dt} {xs:List Dt} {P:VD} (hn:st[n]? = some (.rw xs)) (hd:xs[j]? = some d) (hp:P d st):qI (.lst n) (.int (j:Int)) st P:=pickAt hn (atI_nat hd) hp
theorem ixA {s:Sto} {p:Nat} {ps:List Int} {v:Int} {P:VD} (hp:s[p]? = some (.rw (ps.map .int))) (h0:0≤v) (h1:v < (ps.length:Int)) (h:∀ x:Int,P (.int x) s):qI (.lst p) (.int v) s P:=by
  obtain ⟨k,rfl⟩:∃ k:Nat,v=(k:Int):=⟨v.toNat,by omega⟩
  have hk:k < ps.length:=by omega
  exact ixVv (d:=.int ps[k]) hp (by rw [List.getElem?_map,List.getElem?_eq_getElem hk];rfl) (h _)
theorem pin_rep {ps:List Int} {n:Nat} {b:Int} (h:PIn ps (List.replicate n b)):∀ v ∈ ps,0≤v∧v < b:=by
  intro v hv
  obtain ⟨i,hi,rfl⟩:=List.mem_iff_getElem.mp hv
  have hl:=h.1
  rw [List.length_replicate] at hl
  exact h.2 i _ b (List.getElem?_eq_getElem hi) (by rw [List.getElem?_replicate,if_pos (by omega)])
theorem rd__law_mix {ds:List Dt} {st:Sto} {Pd:VD} (h:spMix ds st Pd):t__law_mix (Ed Pd) (qW ["cell", "k", "number"] ds) st:=by
  obtain ⟨c,k,rfl,hP⟩:=h
  show t__law_mix (Ed Pd) [some (.int c),some (.int (k:Int)),none] st
  refine seqA ?_
  simp only [qB,qV,qK,L3.rAdd,rMul,rMod,List.getElem?_cons_zero,List.getElem?_cons_succ]
  refine ⟨cmul_l (by decide) (by decide),by decide,?_⟩
  refine seqA ?_
  refine ⟨cmul_l (Int.emod_nonneg _ (by decide)) (Int.lt_trans (Int.emod_lt_of_pos _ (by decide)) (by decide)),by decide,?_⟩
  refine seqS ?_
  refine ⟨cmul_l (by decide) (by decide),?_⟩
  refine ⟨cmul_l (Int.emod_nonneg _ (by decide)) (Int.lt_trans (Int.emod_lt_of_pos _ (by decide)) (by decide)),by decide,cdiv (by decide) (by decide),?_⟩
  exact hP _ (Int.ediv_nonneg (Int.emod_nonneg _ (by decide)) (by decide))
noncomputable abbrev RP (c way:Int) (b f:Nat) (k:Option Dt):Rho:=[some (.int c),some (.int way),some (.lst b),some (.lst f),k]
theorem rd__law_parts {ds:List Dt} {st:Sto} {Pd:VD} (h:spLParts ds st Pd):t__law_parts (Ed Pd) (qW ["cell", "way", "bounds", "found", "k"] ds) st:=by
  obtain ⟨c,way,b,bs,rfl,hb,hbs,hbl,hP⟩:=h
  show t__law_parts (Ed Pd) [some (.int c),some (.int way),some (.lst b),none,none] st
  refine seqA ⟨Nat.zero_le _,?_⟩
  show qS _ _ (Ed Pd) (RP c way b st.length none) (st ++ [SO.rw []])
  have hf0:(st ++ [SO.rw []])[st.length]? = some (.rw []):=qX
  have hb0:(st ++ [SO.rw []])[b]? = some (.rw (bs.map .int)):=qY hb
  have hbn:b < st.length:=lt_of_get hb
  have x0:ExtS st (st ++ [SO.rw []]):=.app _ _
  generalize st ++ [SO.rw []]=s0 at hf0 hb0 x0
  refine seqS ?_
  refine forR (n:=bs.length) ?_ (by omega) ?_
  · intro P hp
    refine lenL (ρ:=RP c way b st.length none) (i:=2) (n:=b) rfl hb0 _ ?_
    show P (.int ((bs.map Dt.int).length:Int)) _
    rw [List.length_map];exact hp
  refine ⟨fun i ρ s=>(∃ c' k,ρ=RP c' way b st.length k)∧ExtS st s∧s[b]? = some (.rw (bs.map .int))∧∃ ps:List Int,s[st.length]? = some (.rw (ps.map .int))∧PIn ps (bs.take i),⟨⟨_,_,rfl⟩,x0,hb0,[],hf0,rfl,fun j p b hp hb=>by cases hp⟩,fun _ _ _ _ _=>trivial,?_,?_⟩
  · rintro i d ρ s hd ⟨⟨c',k,rfl⟩,hx,hbs',ps,hps,hpin⟩
    obtain ⟨hi,rfl⟩:=range_get hd
    rw [Int.zero_add]
    obtain ⟨bb,hbb⟩:∃ bb,bs[i]? = some bb:=⟨bs[i],by simp [hi]⟩
    obtain ⟨b0,b1⟩:=hbs bb (List.mem_of_getElem? hbb)
    have hil:(bs.map Dt.int)[i]? = some (.int bb):=by rw [List.getElem?_map,hbb];rfl
    have hpl:ps.length=i:=by rw [hpin.1,List.length_take];omega
    have upd:∀ (p c2:Int) (k2:Option Dt) (s1:Sto),ExtS s s1→0≤p→p < bb→(∃ c' k,RP c2 way b st.length k2=RP c' way b st.length k)∧ExtS st (s1.set st.length (.rw (ps.map .int ++ [.int p])))∧(s1.set st.length (.rw (ps.map .int ++ [.int p])))[b]? = some (.rw (bs.map .int))∧∃ ps':List Int,(s1.set st.length (.rw (ps.map .int ++ [.int p])))[st.length]? = some (.rw (ps'.map .int))∧PIn ps' (bs.take (i + 1)):=by
      intro p c2 k2 s1 x1 p0 p1
      refine ⟨⟨_,_,rfl⟩,fun j o ho=>?_,get_set_ne (x1 _ _ hbs') (by omega),ps ++ [p],?_,pin_snoc hpin hbb p0 p1⟩
      · have hj:j < st.length:=lt_of_get ho
        exact get_set_ne (x1 _ _ (hx _ _ ho)) (by omega)
      · rw [get_set_self (x1 _ _ hps),List.map_append];rfl
    have hlz:(ps.map Dt.int).length < sizeLine:=by rw [List.length_map,sizeLine_eq];omega
    show qS _ _ _ (RP c' way b st.length (some (.int (i:Int)))) s
    refine seqS (ifS (b:=decide (way=0)) (st':=s) (eqI fun P hp=>hp) ?_ ?_)
    · intro q
      refine seqS ?_
      simp only [tdrop,tappend,qB,qV,List.getElem?_cons_zero,List.getElem?_cons_succ]
      refine ixV hbs' hil ?_
      refine ⟨b0,?_⟩
      simp only [hps]
      refine ⟨hlz,?_⟩
      have hn0:=Int.emod_nonneg c' (show bb≠0 by omega)
      have hn1:=Int.emod_lt_of_pos c' b0
      have hu:=upd (c' % bb) (c' / bb) (some (.int (i:Int))) s (.refl _) hn0 hn1
      refine seqA ?_
      simp only [qB,qV,List.getElem?_cons_zero,List.getElem?_cons_succ]
      refine ixV hu.2.2.1 hil ?_
      exact ⟨cdiv b0 (by omega),hu⟩
    · intro q
      refine seqS ?_
      simp only [tdrop,tappend,qB,qV,qF,qA,qZ,List.getElem?_cons_zero,List.getElem?_cons_succ]
      refine ⟨c',(i:Int),rfl,fun x x0'=>?_⟩
      refine ixV hbs' hil ?_
      refine ⟨b0,?_⟩
      simp only [hps]
      exact ⟨hlz,upd (x % bb) c' (some (.int (i:Int))) s (.refl _) (Int.emod_nonneg x (show bb≠0 by omega)) (Int.emod_lt_of_pos x b0)⟩
  · rintro ρ s ⟨⟨c',k,rfl⟩,hx,hbs',ps,hps,hpin⟩
    rw [range_len,List.take_length] at hpin
    exact hP ps s _ hx (Nat.le_refl _) hps hpin
theorem rd__law_number {ds:List Dt} {st:Sto} {Pd:VD} (h:spNumber ds st Pd):t__law_number (Ed Pd) (qW ["part"] ds) st:=by
  obtain ⟨p,rfl,hP⟩:=h
  show t__law_number (Ed Pd) [some (.int p)] st
  refine seqS ?_
  simp only [qR,qB,qL,qA,qZ,qV,qK,List.getElem?_cons_zero,rMod,rDiv,L3.rSub]
  refine ⟨by decide,cdiv (by decide) (by decide),by decide,cdiv (by decide) (by decide),cdiv (by decide) (by decide),by decide,by show 4≤sizeLine;decide,by decide,?_⟩
  refine ixA (ps:=[p % 16,p / 4 % 140,p / 4,65535 - p / 4 % 3]) qX (Int.emod_nonneg _ (by decide)) (by show p % 4 < 4;exact Int.emod_lt_of_pos _ (by decide)) fun v=>?_
  exact ⟨by decide,hP _ _ (.app _ _) (Int.emod_nonneg _ (by decide)) (Int.emod_lt_of_pos _ (by decide))⟩
theorem rd__law_watched {ds:List Dt} {st:Sto} {Pd:VD} (h:spWatched ds st Pd):t__law_watched (Ed Pd) (qW ["cell", "pages"] ds) st:=by
  obtain ⟨c,n,rfl,hn,hP⟩:=h
  show t__law_watched (Ed Pd) [some (.int c),some (.int (n:Int))] st
  refine seqS ?_
  simp only [qR,qF,qA,qZ,tcomp,irng1,qV,capρ,List.map_cons,List.map_nil,List.getElem?_cons_zero,List.getElem?_cons_succ,Option.join_some]
  refine ⟨by omega,by omega,?_⟩
  rw [Int.toNat_natCast]
  refine ⟨fun i ys s=>s=st∧∃ wt:List Int,ys=wt.map .int∧wt.length≤i,⟨rfl,[],rfl,Nat.le_refl _⟩,fun _ _ _ _ _=>trivial,?_,?_⟩
  · rintro i d ys s hd ⟨rfl,wt,rfl,hl⟩
    obtain ⟨hi,rfl⟩:=range_get hd
    rw [Int.zero_add]
    refine ⟨by rw [List.length_map,sizeLine_eq];omega,?_⟩
    simp only [qT,qB,qV,qK,List.getElem?_cons_zero,List.getElem?_cons_succ,rShl,rDiv,rMod]
    have p0:(0:Int) < 1 * 2 ^ (i:Int).toNat:=by
      rw [Int.one_mul];exact Int.pow_pos (by decide)
    have p1:(1:Int) * 2 ^ (i:Int).toNat < 1073741824:=by
      rw [Int.one_mul,Int.toNat_natCast]
      have:∀ k:Nat,k < 16→(2:Int) ^ k < 1073741824:=by decide
      exact this i (by omega)
    refine ⟨⟨by omega,by omega,by decide⟩,cdiv p0 p1,by decide,rfl,rfl,?_⟩
    refine iteX ?_ ?_
    · exact ⟨rfl,wt ++ [(i:Int)],by rw [List.map_append];rfl,by simp;omega⟩
    · exact ⟨rfl,wt,rfl,by omega⟩
  · rintro ys s ⟨rfl,wt,rfl,hl⟩
    rw [range_len] at hl
    simp only [qH,seqOf,qX,Option.map_some,SO.items]
    exact hP wt _ (.app _ _) hl
theorem rd__law_same (N:Nat) {ds:List Dt} {st:Sto} {Pd:VD} (h:spSame (N + 1) ds st Pd):t__law_same N (Ed Pd) (qW ["found", "due", "one", "other"] ds) st:=by
  obtain ⟨d,rfl,hd,hP⟩:=h
  show t__law_same N (Ed Pd) [some d,some d,none,none] st
  unfold t__law_same
  cases d with
  | tup xs =>
    simp only [okS,List.all_eq_true] at hd
    refine seqIf (b:=true) (st':=st) ?_ (fun _=>?_) (fun q=>by cases q)
    · intro P hp
      exact ⟨.inr (.inr (.inr (.inl rfl))),hp⟩
    refine seqIf (b:=false) (st':=st) (orB (b1:=false) (b2:=false) ?_ fun _=>?_) (fun q=>by cases q) fun _=>?_
    · intro P hp
      exact ⟨.inr (.inr (.inr (.inl rfl))),hp⟩
    · intro P hp
      refine ⟨rfl,rfl,?_⟩
      show P (((xs.length:Int) == (xs.length:Int)) != true) st
      simpa using hp
    refine seqS ?_
    show forW (zipD xs xs) (fun _=>True) _ _ _ _ st
    refine ⟨fun i ρ s=>(∃ a b,ρ=[some (.tup xs),some (.tup xs),a,b])∧ExtS st s,⟨⟨_,_,rfl⟩,.refl _⟩,fun _ _ _ _ _=>trivial,?_,?_⟩
    · rintro i d ρ s hz ⟨⟨a,b,rfl⟩,hx⟩
      obtain ⟨x,y,ex,ey,rfl⟩:=zipD_get hz
      rw [ex] at ey
      cases ey
      refine ⟨rfl,?_⟩
      simp only [gscons,qG,gsnil]
      show qS _ _ _ [some (.tup xs),some (.tup xs),some x,some x] s
      simp only [qS,qJ,tnotB,qT,qF,qA,qZ,qV,List.getElem?_cons_zero,List.getElem?_cons_succ]
      refine ⟨x,rfl,hd x (List.mem_of_getElem? ex),fun s2 x2=>iteF ?_⟩
      exact ⟨⟨_,_,rfl⟩,hx.trans x2⟩
    · rintro ρ s ⟨⟨a,b,rfl⟩,hx⟩
      exact hP s hx
  | int n =>
    refine seqIf (b:=false) (st':=st) (fun P hp=>⟨.inr (.inr (.inr (.inl rfl))),hp⟩) (fun q=>by cases q) fun _=>?_
    refine seqIf (b:=false) (st':=st) (fun P hp=>hp) (fun q=>by cases q) fun _=>?_
    refine seqIf (b:=false) (st':=st) (fun P hp=>⟨.inl rfl,hp⟩) (fun q=>by cases q) fun _=>?_
    refine seqIf (b:=false) (st':=st) (fun P hp=>⟨.inr (.inr (.inl rfl)),hp⟩) (fun q=>by cases q) fun _=>?_
    refine seqS ?_
    simp only [qR,tandV,qF,qA,qZ,qV,qB,List.getElem?_cons_zero,List.getElem?_cons_succ]
    refine ⟨n,rfl,?_⟩
    refine iteT ?_
    refine ⟨rfl,rfl,?_⟩
    have e:eqD 8 (.int n) (.int n)=true:=by show (n == n)=true;simp
    rw [e]
    exact hP st (.refl _)
  | bl n =>
    refine seqIf (b:=false) (st':=st) (fun P hp=>⟨.inr (.inr (.inr (.inl rfl))),hp⟩) (fun q=>by cases q) fun _=>?_
    refine seqIf (b:=false) (st':=st) (fun P hp=>hp) (fun q=>by cases q) fun _=>?_
    refine seqIf (b:=true) (st':=st) (fun P hp=>⟨.inl rfl,hp⟩) (fun _=>?_) fun q=>by cases q
    refine seqS ?_
    simp only [qR,tandV,qF,qA,qZ,qV,qB,qK,List.getElem?_cons_zero,List.getElem?_cons_succ]
    refine ⟨.inl rfl,?_⟩
    refine iteT ?_
    refine ⟨rfl,rfl,?_⟩
    have e:eqD 8 (.bl n) (.bl n)=true:=by cases n <;> rfl
    rw [e]
    exact hP st (.refl _)
  | str n =>
    refine seqIf (b:=false) (st':=st) (fun P hp=>⟨.inr (.inr (.inr (.inl rfl))),hp⟩) (fun q=>by cases q) fun _=>?_
    refine seqIf (b:=false) (st':=st) (fun P hp=>hp) (fun q=>by cases q) fun _=>?_
    refine seqIf (b:=false) (st':=st) (fun P hp=>⟨.inl rfl,hp⟩) (fun q=>by cases q) fun _=>?_
    refine seqIf (b:=true) (st':=st) (fun P hp=>⟨.inr (.inr (.inl rfl)),hp⟩) (fun _=>?_) fun q=>by cases q
    refine seqS ?_
    simp only [qR,tandV,qF,qA,qZ,qV,qB,qK,List.getElem?_cons_zero,List.getElem?_cons_succ]
    refine ⟨.inr (.inr (.inl rfl)),?_⟩
    refine iteT ?_
    refine ⟨rfl,rfl,?_⟩
    have e:eqD 8 (.str n) (.str n)=true:=by show (n == n)=true;simp
    rw [e]
    exact hP st (.refl _)
  | non =>
    refine seqIf (b:=false) (st':=st) (fun P hp=>⟨.inr (.inr (.inr (.inl rfl))),hp⟩) (fun q=>by cases q) fun _=>?_
    refine seqIf (b:=true) (st':=st) (fun P hp=>hp) (fun _=>?_) fun q=>by cases q
    refine seqS ?_
    exact hP st (.refl _)
  | _=>simp [okS] at hd
end KL
namespace K85
open PySem PySem.Spec PyProof.Rows L2 L3 K02
theorem cut_takeI {xs:List Int} {k:Nat}:L3.cutD (xs.map Dt.int) none (some (k:Int))=(xs.take k).map Dt.int:=by
  unfold L3.cutD
  rw [HT.sIx_nat,HT.sIx_none]
  simp only [List.drop_zero,List.length_map,Nat.sub_zero]
  rw [← List.map_take]
  congr 1
  rcases Nat.le_total k xs.length with h | h
  · rw [Nat.min_eq_left h]
  · rw [Nat.min_eq_right h,List.take_of_length_le h,List.take_length]
end K85
namespace K85
open PySem PySem.Spec PyProof.Rows L2 L3 K02
end K85
namespace K85
open PySem PySem.Spec PyProof.Rows L2 L3 K02
end K85
namespace K85
open PySem PySem.Spec PyProof.Rows L2 L3 K02
end K85
namespace K85
open PySem PySem.Spec PyProof.Rows L2 L3 K02
theorem z10:∀ m:Nat,m≤20→m≤sizeLine:=fun m hm=>by rw [sizeLine_eq];omega
end K85
namespace KL
open PySem PySem.Spec PyProof.Rows L2 L3 KS K02 K85 K06
noncomputable abbrev t__law_state:TSD:=(qS (qE (qF KL.spLParts (qA (qF K85.spCellAt (qA (qV 0) (qA (qK (Dt.int 0)) qZ))) (qA (qV 1) (qA (qL (qA (qK (Dt.int 2)) (qA (qK (Dt.int 17)) (qA (qK (Dt.int 65536)) (qA (qK (Dt.int 65536)) (qA (qK (Dt.int 8)) (qA (qK (Dt.int 3)) qZ))))))) qZ)))) (qG 2)) (qS (qE (qB rMul (qB qI (qL (qA (qB L3.rAdd (qK (Dt.int 1)) (qB rMod (qB qI (qV 2) (qK (Dt.int 1))) (qK (Dt.int 16)))) (qA (qB rMod (qB qI (qV 2) (qK (Dt.int 1))) (qK (Dt.int 3))) qZ))) (qB qI (qV 2) (qK (Dt.int 0)))) (qK (Dt.int 8))) (qG 3)) (qS (qE (qF KL.spLParts (qA (qF K85.spCellAt (qA (qV 0) (qA (qK (Dt.int 1)) qZ))) (qA (qV 1) (qA (qB rMul (qL (qA (qK (Dt.int 65536)) qZ)) (qV 3)) qZ)))) (qG 4)) (qS (qE (qB rMul (qL (qA (qK (Dt.int 7)) qZ)) (qB rDiv (qV 3) (qK (Dt.int 8)))) (qG 5)) (qS (qJ (qT (qB (rCmpI fun i j=>decide (j < i)) (qB qI (qV 2) (qK (Dt.int 5))) (qK (Dt.int 0)))) (qS (qE (qF KL.spLParts (qA (qF K85.spCellAt (qA (qV 0) (qA (qK (Dt.int 2)) qZ))) (qA (qV 1) (qA (qB rMul (qL (qA (qK (Dt.int 8)) qZ)) (qB rDiv (qV 3) (qK (Dt.int 8)))) qZ)))) (qG 5)) qN) qN) (qS (qE (qF KL.spLParts (qA (qF K85.spCellAt (qA (qV 0) (qA (qK (Dt.int 3)) qZ))) (qA (qV 1) (qA (qB L3.rAdd (qB rMul (qL (qA (qK (Dt.int 262144)) qZ)) (qK (Dt.int 8))) (qB rMul (qL (qA (qK (Dt.int 2)) qZ)) (qK (Dt.int 6)))) qZ)))) (qG 6)) (qS (qE (tcomp (iseq (tsliceA (qV 6) tonone (tosome (qK (Dt.int 8))))) (fun x st P=>P true st) (qF KL.spNumber (qA (qV 0) qZ)) []) (qG 7)) (qS (qE (tcomp (iseq (tsliceA (qV 6) (tosome (qK (Dt.int 8))) (tosome (qK (Dt.int 11))))) (fun x st P=>P true st) (qB (qQ false) (qV 0) (qK (Dt.int 1))) []) (qG 8)) (qS (qE (qB qI (qL (qA (qK Dt.non) (qA (qU (qA (qB qI (qV 2) (qK (Dt.int 3))) (qA (qF qH (qA (tcomp (iseq (tsliceA (qV 6) (tosome (qK (Dt.int 11))) tonone)) (fun x st P=>P true st) (qB (qQ false) (qV 0) (qK (Dt.int 1))) []) qZ)) qZ))) qZ))) (qB rMod (qB qI (qV 2) (qK (Dt.int 4))) (qK (Dt.int 2)))) (qG 9)) (qS (qR (qU (qA (qB rMod (qB qI (qV 2) (qK (Dt.int 2))) (qB qI (qL (qA (qK (Dt.int 65536)) (qA (qK (Dt.int 200)) qZ))) (qB rMod (qB rDiv (qB qI (qV 2) (qK (Dt.int 4))) (qK (Dt.int 2))) (qK (Dt.int 2))))) (qA (qF qH (qA (qV 7) qZ)) (qA (qF qH (qA (qV 8) qZ)) (qA (qV 9) (qA (qF qH (qA (qV 5) qZ)) (qA (qF qH (qA (qV 4) qZ)) qZ)))))))) qN))))))))))
noncomputable def lsB:TSD:=(qS (qE (qF KL.spLParts (qA (qF K85.spCellAt (qA (qV 0) (qA (qK (Dt.int 1)) qZ))) (qA (qV 1) (qA (qB rMul (qL (qA (qK (Dt.int 65536)) qZ)) (qV 3)) qZ)))) (qG 4)) (qS (qE (qB rMul (qL (qA (qK (Dt.int 7)) qZ)) (qB rDiv (qV 3) (qK (Dt.int 8)))) (qG 5)) (qS (qJ (qT (qB (rCmpI fun i j=>decide (j < i)) (qB qI (qV 2) (qK (Dt.int 5))) (qK (Dt.int 0)))) (qS (qE (qF KL.spLParts (qA (qF K85.spCellAt (qA (qV 0) (qA (qK (Dt.int 2)) qZ))) (qA (qV 1) (qA (qB rMul (qL (qA (qK (Dt.int 8)) qZ)) (qB rDiv (qV 3) (qK (Dt.int 8)))) qZ)))) (qG 5)) qN) qN) (qS (qE (qF KL.spLParts (qA (qF K85.spCellAt (qA (qV 0) (qA (qK (Dt.int 3)) qZ))) (qA (qV 1) (qA (qB L3.rAdd (qB rMul (qL (qA (qK (Dt.int 262144)) qZ)) (qK (Dt.int 8))) (qB rMul (qL (qA (qK (Dt.int 2)) qZ)) (qK (Dt.int 6)))) qZ)))) (qG 6)) (qS (qE (tcomp (iseq (tsliceA (qV 6) tonone (tosome (qK (Dt.int 8))))) (fun x st P=>P true st) (qF KL.spNumber (qA (qV 0) qZ)) []) (qG 7)) (qS (qE (tcomp (iseq (tsliceA (qV 6) (tosome (qK (Dt.int 8))) (tosome (qK (Dt.int 11))))) (fun x st P=>P true st) (qB (qQ false) (qV 0) (qK (Dt.int 1))) []) (qG 8)) (qS (qE (qB qI (qL (qA (qK Dt.non) (qA (qU (qA (qB qI (qV 2) (qK (Dt.int 3))) (qA (qF qH (qA (tcomp (iseq (tsliceA (qV 6) (tosome (qK (Dt.int 11))) tonone)) (fun x st P=>P true st) (qB (qQ false) (qV 0) (qK (Dt.int 1))) []) qZ)) qZ))) qZ))) (qB rMod (qB qI (qV 2) (qK (Dt.int 4))) (qK (Dt.int 2)))) (qG 9)) (qS (qR (qU (qA (qB rMod (qB qI (qV 2) (qK (Dt.int 2))) (qB qI (qL (qA (qK (Dt.int 65536)) (qA (qK (Dt.int 200)) qZ))) (qB rMod (qB rDiv (qB qI (qV 2) (qK (Dt.int 4))) (qK (Dt.int 2))) (qK (Dt.int 2))))) (qA (qF qH (qA (qV 7) qZ)) (qA (qF qH (qA (qV 8) qZ)) (qA (qV 9) (qA (qF qH (qA (qV 5) qZ)) (qA (qF qH (qA (qV 4) qZ)) qZ)))))))) qN))))))))
noncomputable def lsC:TSD:=(qS (qJ (qT (qB (rCmpI fun i j=>decide (j < i)) (qB qI (qV 2) (qK (Dt.int 5))) (qK (Dt.int 0)))) (qS (qE (qF KL.spLParts (qA (qF K85.spCellAt (qA (qV 0) (qA (qK (Dt.int 2)) qZ))) (qA (qV 1) (qA (qB rMul (qL (qA (qK (Dt.int 8)) qZ)) (qB rDiv (qV 3) (qK (Dt.int 8)))) qZ)))) (qG 5)) qN) qN) (qS (qE (qF KL.spLParts (qA (qF K85.spCellAt (qA (qV 0) (qA (qK (Dt.int 3)) qZ))) (qA (qV 1) (qA (qB L3.rAdd (qB rMul (qL (qA (qK (Dt.int 262144)) qZ)) (qK (Dt.int 8))) (qB rMul (qL (qA (qK (Dt.int 2)) qZ)) (qK (Dt.int 6)))) qZ)))) (qG 6)) (qS (qE (tcomp (iseq (tsliceA (qV 6) tonone (tosome (qK (Dt.int 8))))) (fun x st P=>P true st) (qF KL.spNumber (qA (qV 0) qZ)) []) (qG 7)) (qS (qE (tcomp (iseq (tsliceA (qV 6) (tosome (qK (Dt.int 8))) (tosome (qK (Dt.int 11))))) (fun x st P=>P true st) (qB (qQ false) (qV 0) (qK (Dt.int 1))) []) (qG 8)) (qS (qE (qB qI (qL (qA (qK Dt.non) (qA (qU (qA (qB qI (qV 2) (qK (Dt.int 3))) (qA (qF qH (qA (tcomp (iseq (tsliceA (qV 6) (tosome (qK (Dt.int 11))) tonone)) (fun x st P=>P true st) (qB (qQ false) (qV 0) (qK (Dt.int 1))) []) qZ)) qZ))) qZ))) (qB rMod (qB qI (qV 2) (qK (Dt.int 4))) (qK (Dt.int 2)))) (qG 9)) (qS (qR (qU (qA (qB rMod (qB qI (qV 2) (qK (Dt.int 2))) (qB qI (qL (qA (qK (Dt.int 65536)) (qA (qK (Dt.int 200)) qZ))) (qB rMod (qB rDiv (qB qI (qV 2) (qK (Dt.int 4))) (qK (Dt.int 2))) (qK (Dt.int 2))))) (qA (qF qH (qA (qV 7) qZ)) (qA (qF qH (qA (qV 8) qZ)) (qA (qV 9) (qA (qF qH (qA (qV 5) qZ)) (qA (qF qH (qA (qV 4) qZ)) qZ)))))))) qN))))))
noncomputable def lsD:TSD:=(qS (qE (qF KL.spLParts (qA (qF K85.spCellAt (qA (qV 0) (qA (qK (Dt.int 3)) qZ))) (qA (qV 1) (qA (qB L3.rAdd (qB rMul (qL (qA (qK (Dt.int 262144)) qZ)) (qK (Dt.int 8))) (qB rMul (qL (qA (qK (Dt.int 2)) qZ)) (qK (Dt.int 6)))) qZ)))) (qG 6)) (qS (qE (tcomp (iseq (tsliceA (qV 6) tonone (tosome (qK (Dt.int 8))))) (fun x st P=>P true st) (qF KL.spNumber (qA (qV 0) qZ)) []) (qG 7)) (qS (qE (tcomp (iseq (tsliceA (qV 6) (tosome (qK (Dt.int 8))) (tosome (qK (Dt.int 11))))) (fun x st P=>P true st) (qB (qQ false) (qV 0) (qK (Dt.int 1))) []) (qG 8)) (qS (qE (qB qI (qL (qA (qK Dt.non) (qA (qU (qA (qB qI (qV 2) (qK (Dt.int 3))) (qA (qF qH (qA (tcomp (iseq (tsliceA (qV 6) (tosome (qK (Dt.int 11))) tonone)) (fun x st P=>P true st) (qB (qQ false) (qV 0) (qK (Dt.int 1))) []) qZ)) qZ))) qZ))) (qB rMod (qB qI (qV 2) (qK (Dt.int 4))) (qK (Dt.int 2)))) (qG 9)) (qS (qR (qU (qA (qB rMod (qB qI (qV 2) (qK (Dt.int 2))) (qB qI (qL (qA (qK (Dt.int 65536)) (qA (qK (Dt.int 200)) qZ))) (qB rMod (qB rDiv (qB qI (qV 2) (qK (Dt.int 4))) (qK (Dt.int 2))) (qK (Dt.int 2))))) (qA (qF qH (qA (qV 7) qZ)) (qA (qF qH (qA (qV 8) qZ)) (qA (qV 9) (qA (qF qH (qA (qV 5) qZ)) (qA (qF qH (qA (qV 4) qZ)) qZ)))))))) qN)))))
noncomputable def lsE:TSD:=(qS (qE (tcomp (iseq (tsliceA (qV 6) tonone (tosome (qK (Dt.int 8))))) (fun x st P=>P true st) (qF KL.spNumber (qA (qV 0) qZ)) []) (qG 7)) (qS (qE (tcomp (iseq (tsliceA (qV 6) (tosome (qK (Dt.int 8))) (tosome (qK (Dt.int 11))))) (fun x st P=>P true st) (qB (qQ false) (qV 0) (qK (Dt.int 1))) []) (qG 8)) (qS (qE (qB qI (qL (qA (qK Dt.non) (qA (qU (qA (qB qI (qV 2) (qK (Dt.int 3))) (qA (qF qH (qA (tcomp (iseq (tsliceA (qV 6) (tosome (qK (Dt.int 11))) tonone)) (fun x st P=>P true st) (qB (qQ false) (qV 0) (qK (Dt.int 1))) []) qZ)) qZ))) qZ))) (qB rMod (qB qI (qV 2) (qK (Dt.int 4))) (qK (Dt.int 2)))) (qG 9)) (qS (qR (qU (qA (qB rMod (qB qI (qV 2) (qK (Dt.int 2))) (qB qI (qL (qA (qK (Dt.int 65536)) (qA (qK (Dt.int 200)) qZ))) (qB rMod (qB rDiv (qB qI (qV 2) (qK (Dt.int 4))) (qK (Dt.int 2))) (qK (Dt.int 2))))) (qA (qF qH (qA (qV 7) qZ)) (qA (qF qH (qA (qV 8) qZ)) (qA (qV 9) (qA (qF qH (qA (qV 5) qZ)) (qA (qF qH (qA (qV 4) qZ)) qZ)))))))) qN))))
noncomputable def lsF:TSD:=(qS (qE (tcomp (iseq (tsliceA (qV 6) (tosome (qK (Dt.int 8))) (tosome (qK (Dt.int 11))))) (fun x st P=>P true st) (qB (qQ false) (qV 0) (qK (Dt.int 1))) []) (qG 8)) (qS (qE (qB qI (qL (qA (qK Dt.non) (qA (qU (qA (qB qI (qV 2) (qK (Dt.int 3))) (qA (qF qH (qA (tcomp (iseq (tsliceA (qV 6) (tosome (qK (Dt.int 11))) tonone)) (fun x st P=>P true st) (qB (qQ false) (qV 0) (qK (Dt.int 1))) []) qZ)) qZ))) qZ))) (qB rMod (qB qI (qV 2) (qK (Dt.int 4))) (qK (Dt.int 2)))) (qG 9)) (qS (qR (qU (qA (qB rMod (qB qI (qV 2) (qK (Dt.int 2))) (qB qI (qL (qA (qK (Dt.int 65536)) (qA (qK (Dt.int 200)) qZ))) (qB rMod (qB rDiv (qB qI (qV 2) (qK (Dt.int 4))) (qK (Dt.int 2))) (qK (Dt.int 2))))) (qA (qF qH (qA (qV 7) qZ)) (qA (qF qH (qA (qV 8) qZ)) (qA (qV 9) (qA (qF qH (qA (qV 5) qZ)) (qA (qF qH (qA (qV 4) qZ)) qZ)))))))) qN)))
noncomputable def lsG:TSD:=(qS (qE (qB qI (qL (qA (qK Dt.non) (qA (qU (qA (qB qI (qV 2) (qK (Dt.int 3))) (qA (qF qH (qA (tcomp (iseq (tsliceA (qV 6) (tosome (qK (Dt.int 11))) tonone)) (fun x st P=>P true st) (qB (qQ false) (qV 0) (qK (Dt.int 1))) []) qZ)) qZ))) qZ))) (qB rMod (qB qI (qV 2) (qK (Dt.int 4))) (qK (Dt.int 2)))) (qG 9)) (qS (qR (qU (qA (qB rMod (qB qI (qV 2) (qK (Dt.int 2))) (qB qI (qL (qA (qK (Dt.int 65536)) (qA (qK (Dt.int 200)) qZ))) (qB rMod (qB rDiv (qB qI (qV 2) (qK (Dt.int 4))) (qK (Dt.int 2))) (qK (Dt.int 2))))) (qA (qF qH (qA (qV 7) qZ)) (qA (qF qH (qA (qV 8) qZ)) (qA (qV 9) (qA (qF qH (qA (qV 5) qZ)) (qA (qF qH (qA (qV 4) qZ)) qZ)))))))) qN))
noncomputable def lsH:TSD:=(qS (qR (qU (qA (qB rMod (qB qI (qV 2) (qK (Dt.int 2))) (qB qI (qL (qA (qK (Dt.int 65536)) (qA (qK (Dt.int 200)) qZ))) (qB rMod (qB rDiv (qB qI (qV 2) (qK (Dt.int 4))) (qK (Dt.int 2))) (qK (Dt.int 2))))) (qA (qF qH (qA (qV 7) qZ)) (qA (qF qH (qA (qV 8) qZ)) (qA (qV 9) (qA (qF qH (qA (qV 5) qZ)) (qA (qF qH (qA (qV 4) qZ)) qZ)))))))) qN)
theorem cut_drop {xs:List Int} {k:Nat}:L3.cutD (xs.map Dt.int) (some (k:Int)) none=(xs.drop k).map Dt.int:=by
  unfold L3.cutD
  rw [HT.sIx_none,HT.sIx_nat,← List.map_drop,List.length_map]
  rcases Nat.le_total k xs.length with h | h
  · rw [Nat.min_eq_left h,List.take_of_length_le (by simp)]
  · rw [Nat.min_eq_right h,List.drop_of_length_le (by simp:xs.length≤xs.length),List.drop_of_length_le h];simp
theorem cut_mid {xs:List Int} {a b:Nat}:L3.cutD (xs.map Dt.int) (some (a:Int)) (some ((a + b:Nat):Int))=((xs.drop a).take b).map Dt.int:=by
  unfold L3.cutD
  rw [HT.sIx_nat,HT.sIx_nat,← List.map_drop,← List.map_take,List.length_map]
  congr 1
  rcases Nat.le_total a xs.length with h | h
  · rw [Nat.min_eq_left h]
    rcases Nat.le_total (a + b) xs.length with h2 | h2
    · rw [Nat.min_eq_left h2];congr 1;omega
    · rw [Nat.min_eq_right h2,List.take_of_length_le (by simp),List.take_of_length_le (by simp;omega)]
  · rw [Nat.min_eq_right h,List.drop_of_length_le (by omega:xs.length≤xs.length),List.drop_of_length_le h];simp
theorem relC {items:List Dt} {ok:Sto→Prop} {te:TD} {cρ:Rho} {st:Sto} {Fin:List Dt→Sto→Prop} (Rl:Nat→Dt→Prop) (hok:∀ s,ExtS st s→ok s) (hl:items.length≤1000)
    (hs:∀ (i:Nat) d s,items[i]? = some d→ExtS st s→∀ P:VD,(∀ y s',ExtS s s'→Rl i y→P y s')→te (some d :: cρ) s P)
    (hF:∀ ys s',ExtS st s'→ys.length=items.length→(∀ (i:Nat) y,ys[i]? = some y→Rl i y)→Fin ys s'):compD items ok (fun x st P=>P true st) te cρ st Fin:=by
  refine ⟨fun i ys s=>ExtS st s∧ys.length=i∧∀ (j:Nat) y,ys[j]? = some y→Rl j y,⟨.refl _,rfl,fun j y hj=>by cases hj⟩,fun i ys s _ h=>hok s h.1,?_,?_⟩
  · rintro i d ys s hd ⟨hx,hyl,hy⟩
    have hil:=(List.getElem?_eq_some_iff.mp hd).1
    refine ⟨by rw [hyl,sizeLine_eq];omega,iteT ?_⟩
    refine hs i d s hd hx _ fun y s' x' r=>⟨hx.trans x',by simp [hyl],fun j z hz=>?_⟩
    rcases Nat.lt_trichotomy j ys.length with hj | hj | hj
    · rw [List.getElem?_append_left hj] at hz;exact hy j z hz
    · subst hj
      rw [List.getElem?_concat_length] at hz
      cases hz;rw [hyl];exact r
    · rw [List.getElem?_eq_none (by simp;omega)] at hz;cases hz
  · rintro ys s ⟨hx,hyl,hy⟩
    exact hF ys s hx hyl hy
theorem allI {ys:List Dt} {Q:Int→Prop} (h:∀ (i:Nat) y,ys[i]? = some y→∃ v:Int,y = .int v∧Q v):∃ vs:List Int,ys=vs.map .int∧∀ v ∈ vs,Q v:=by
  induction ys with
  | nil=>exact ⟨[],rfl,fun v hv=>by cases hv⟩
  | cons y ys ih =>
    obtain ⟨v,rfl,q⟩:=h 0 _ rfl
    obtain ⟨vs,rfl,hv⟩:=ih fun i y hy=>h (i + 1) y hy
    refine ⟨v :: vs,rfl,fun z hz=>?_⟩
    rcases List.mem_cons.mp hz with rfl | hz
    · exact q
    · exact hv z hz
theorem allB {ys:List Dt} (h:∀ (i:Nat) y,ys[i]? = some y→∃ v:Bool,y = .bl v):∃ vs:List Bool,ys=vs.map .bl:=by
  induction ys with
  | nil=>exact ⟨[],rfl⟩
  | cons y ys ih =>
    obtain ⟨v,rfl⟩:=h 0 _ rfl
    obtain ⟨vs,rfl⟩:=ih fun i y hy=>h (i + 1) y hy
    exact ⟨v :: vs,rfl⟩
theorem three {ys:List Dt} (h:∀ (i:Nat) y,ys[i]? = some y→∃ v:Bool,y = .bl v) (hl:ys.length=3):∃ m:M3,ys=[.bl m.1,.bl m.2.1,.bl m.2.2]:=by
  obtain ⟨vs,rfl⟩:=allB h
  rw [List.length_map] at hl
  rcases vs with _ | ⟨a,_ | ⟨b,_ | ⟨c,_ | ⟨d,r⟩⟩⟩⟩
  · cases hl
  · cases hl
  · cases hl
  · exact ⟨(a,b,c),rfl⟩
  · simp at hl
theorem six {ps:List Int} (h:PIn ps [2,17,65536,65536,8,3]):∃ p0 p1 p2 p3 p4 p5:Int,ps=[p0,p1,p2,p3,p4,p5]∧(0≤p0∧p0 < 2)∧(0≤p1∧p1 < 17)∧(0≤p2∧p2 < 65536)∧(0≤p3∧p3 < 65536)∧(0≤p4∧p4 < 8):=by
  obtain ⟨hl,hb⟩:=h
  have hl:ps.length=6:=hl
  rcases ps with _ | ⟨p0,_ | ⟨p1,_ | ⟨p2,_ | ⟨p3,_ | ⟨p4,_ | ⟨p5,_ | ⟨p6,r⟩⟩⟩⟩⟩⟩⟩ <;> first
    | (simp at hl;done)
    | exact ⟨p0,p1,p2,p3,p4,p5,rfl,hb 0 p0 2 rfl rfl,hb 1 p1 17 rfl rfl,hb 2 p2 65536 rfl rfl,hb 3 p3 65536 rfl rfl,hb 4 p4 8 rfl rfl⟩
    | (simp at hl;omega)
noncomputable abbrev RSt (sc:Nat) (way:Int) (n:Nat) (a b c d e f g:Option Dt):Rho:=[some (.lst sc),some (.int way),some (.lst n),a,b,c,d,e,f,g]
theorem of2 {s:Sto} {n:Nat} {a b:Dt} {x:Int} {P:VD} (hn:s[n]? = some (.rw [a,b])) (h0:0≤x) (h1:x < 2) (ha:P a s) (hb:P b s):qI (.lst n) (.int x) s P:=by
  rcases (show x=0∨x=1 by omega) with rfl | rfl
  · exact ixVv (j:=0) hn rfl ha
  · exact ixVv (j:=1) hn rfl hb
section
variable {sc n:Nat} {way:Int} {p0 p1 p2 p3 p4 p5:Int} {s:Sto} {Pd:VD}
theorem rd_lsH {nb nm nr nc:Nat} {bs rs cs:List Int} {m:M3} {x3 x6:Option Dt} {sv:Option (Int×M3)} (hn:s[n]? = some (.rw ([p0,p1,p2,p3,p4,p5].map .int))) (hb:s[nb]? = some (.rw (bs.map .int))) (hm:s[nm]? = some (.rw [.bl m.1,.bl m.2.1,.bl m.2.2])) (hr:s[nr]? = some (.rw (rs.map .int))) (hc:s[nc]? = some (.rw (cs.map .int))) (h2:0≤p2∧p2 < 65536)
    (hP:∀ p s',ExtS s s'→0≤p→p < 65536→Pd (GS.mk p bs m sv rs cs).d s'):lsH (Ed Pd) (RSt sc way n x3 (some (.lst nc)) (some (.lst nr)) x6 (some (.lst nb)) (some (.lst nm)) (some (svD sv))) s:=by
  refine seqS ?_
  simp only [qR,qU,qF,qB,qL,qA,qZ,qV,qK,List.getElem?_cons_zero,List.getElem?_cons_succ]
  refine ixVv (j:=2) hn rfl ?_
  refine ⟨by show 2≤sizeLine;rw [sizeLine_eq];omega,?_⟩
  refine ixVv (j:=4) (qY hn) rfl ?_
  refine ⟨cdiv (by decide) (by decide),by decide,?_⟩
  have fin:∀ (y:Int),0 < y→y≤65536→rMod (.int p2) (.int y) (s ++ [SO.rw [.int 65536,.int 200]]) fun d0 s0=>qH [.lst nb] s0 fun d1 s1=>qH [.lst nm] s1 fun d2 s2=>qH [.lst nr] s2 fun d3 s3=>qH [.lst nc] s3 fun d4 s4=>6≤sizeLine∧Pd (.tup [d0,d1,d2,svD sv,d3,d4]) s4:=by
    intro y y0 y1
    refine ⟨y0,?_⟩
    have e:∀ (j:Nat) o,s[j]? = some o→seqOf (s ++ [SO.rw [.int 65536,.int 200]]) (.lst j)=some o.items:=fun j o h=>by show ((s ++ _)[j]?).map SO.items=_;rw [qY h];rfl
    simp only [qH,e _ _ hb,e _ _ hm,e _ _ hr,e _ _ hc]
    refine ⟨by rw [sizeLine_eq];omega,?_⟩
    refine hP (p2 % y) _ (.app _ _) (Int.emod_nonneg _ (by omega)) ?_
    have:=Int.emod_lt_of_pos p2 y0
    omega
  refine of2 qX (Int.emod_nonneg _ (by decide)) (Int.emod_lt_of_pos _ (by decide)) ?_ ?_
  · exact fin 65536 (by decide) (by decide)
  · exact fin 200 (by decide) (by decide)
theorem bitsC {xs:List Int} {ok:Sto→Prop} {Fin:List Dt→Sto→Prop} (hok:∀ s',ExtS s s'→ok s') (hl:xs.length≤1000) (hF:∀ ys s',ExtS s s'→ys.length=xs.length→(∀ (i:Nat) y,ys[i]? = some y→∃ v:Bool,y = .bl v)→Fin ys s'):compD (xs.map Dt.int) ok (fun x st P=>P true st) (qB (qQ false) (qV 0) (qK (Dt.int 1))) [] s Fin:=by
  refine relC (fun _ y=>∃ v:Bool,y = .bl v) hok (by rw [List.length_map];exact hl) (fun i d s' hd hx P hp=>?_) fun ys s' x yl yr=>hF ys s' x (by rw [yl,List.length_map]) yr
  obtain ⟨x,-,rfl⟩:∃ x,xs[i]? = some x∧.int x=d:=by simpa using hd
  exact ⟨rfl,rfl,hp _ _ (.refl _) ⟨_,rfl⟩⟩
theorem seq_of_get {s:Sto} {j:Nat} {xs:List Dt} (h:s[j]? = some (.rw xs)):seqOf s (.lst j)=some xs:=by show (s[j]?).map SO.items=_;rw [h];rfl
theorem rd_lsG {nb nm nr nc np:Nat} {bs rs cs ps:List Int} {m:M3} {x3:Option Dt} (hn:s[n]? = some (.rw ([p0,p1,p2,p3,p4,p5].map .int))) (hb:s[nb]? = some (.rw (bs.map .int))) (hm:s[nm]? = some (.rw [.bl m.1,.bl m.2.1,.bl m.2.2])) (hr:s[nr]? = some (.rw (rs.map .int))) (hc:s[nc]? = some (.rw (cs.map .int))) (hp:s[np]? = some (.rw (ps.map .int))) (pl:ps.length=14) (h2:0≤p2∧p2 < 65536)
    (hP:∀ p sv s',ExtS s s'→0≤p→p < 65536→Pd (GS.mk p bs m sv rs cs).d s'):lsG (Ed Pd) (RSt sc way n x3 (some (.lst nc)) (some (.lst nr)) (some (.lst np)) (some (.lst nb)) (some (.lst nm)) none) s:=by
  refine seqA ?_
  simp only [qU,qF,qB,qL,qA,qZ,qV,qK,tcomp,iseq,tsliceA,tosome,tonone,capρ,List.map_nil,List.getElem?_cons_zero,List.getElem?_cons_succ]
  refine ixVv (j:=3) hn rfl ?_
  simp only [hp,SO.items]
  rw [show (11:Int)=((11:Nat):Int) from rfl,cut_drop,seq_of_get qX]
  refine bitsC (fun s' hx=>by rw [seq_of_get (hx _ _ qX)]) (by simp;omega) fun ys s' x yl yr=>?_
  have hx:ExtS s s':=fun j o hj=>x _ _ (qY hj)
  obtain ⟨m',rfl⟩:=three yr (by rw [yl];simp [pl])
  simp only [qH,seq_of_get qX]
  refine ⟨z10 2 (by decide),z10 2 (by decide),?_⟩
  refine ixVv (j:=4) (qY (qY (hx _ _ hn))) rfl ?_
  refine ⟨by decide,?_⟩
  have hx2:∀ a b:SO,ExtS s (s' ++ [a] ++ [b]):=fun a b j o hj=>qY (qY (hx _ _ hj))
  refine of2 qX (Int.emod_nonneg _ (by decide)) (Int.emod_lt_of_pos _ (by decide)) ?_ ?_
  · refine rd_lsH (sv:=none) (hx2 _ _ _ _ hn) (hx2 _ _ _ _ hb) (hx2 _ _ _ _ hm) (hx2 _ _ _ _ hr) (hx2 _ _ _ _ hc) h2 fun p s2 x2=>hP p _ s2 ?_
    exact fun j o hj=>x2 _ _ (hx2 _ _ _ _ hj)
  · refine rd_lsH (sv:=some (p3,m')) (hx2 _ _ _ _ hn) (hx2 _ _ _ _ hb) (hx2 _ _ _ _ hm) (hx2 _ _ _ _ hr) (hx2 _ _ _ _ hc) h2 fun p s2 x2=>hP p _ s2 ?_
    exact fun j o hj=>x2 _ _ (hx2 _ _ _ _ hj)
theorem rd_lsF {nb nr nc np:Nat} {bs rs cs ps:List Int} {x3:Option Dt} (hn:s[n]? = some (.rw ([p0,p1,p2,p3,p4,p5].map .int))) (hb:s[nb]? = some (.rw (bs.map .int))) (hr:s[nr]? = some (.rw (rs.map .int))) (hc:s[nc]? = some (.rw (cs.map .int))) (hp:s[np]? = some (.rw (ps.map .int))) (pl:ps.length=14) (h2:0≤p2∧p2 < 65536)
    (hP:∀ p m sv s',ExtS s s'→0≤p→p < 65536→Pd (GS.mk p bs m sv rs cs).d s'):lsF (Ed Pd) (RSt sc way n x3 (some (.lst nc)) (some (.lst nr)) (some (.lst np)) (some (.lst nb)) none none) s:=by
  refine seqA ?_
  simp only [qV,qK,tcomp,iseq,tsliceA,tosome,tonone,capρ,List.map_nil,List.getElem?_cons_zero,List.getElem?_cons_succ]
  simp only [hp,SO.items]
  rw [show (11:Int)=((8 + 3:Nat):Int) from rfl,show (8:Int)=((8:Nat):Int) from rfl,cut_mid,seq_of_get qX]
  refine bitsC (fun s' hx=>by rw [seq_of_get (hx _ _ qX)]) (by simp;omega) fun ys s' x yl yr=>?_
  obtain ⟨m,rfl⟩:=three yr (by rw [yl];simp [pl])
  have hx:∀ a:SO,ExtS s (s' ++ [a]):=fun a j o hj=>qY (x _ _ (qY hj))
  refine rd_lsG (m:=m) (hx _ _ _ hn) (hx _ _ _ hb) qX (hx _ _ _ hr) (hx _ _ _ hc) (hx _ _ _ hp) pl h2 fun p sv s2 x2=>hP p m sv s2 ?_
  exact fun j o hj=>x2 _ _ (hx _ _ _ hj)
theorem rd_lsE {nr nc np:Nat} {rs cs ps:List Int} {x3:Option Dt} (hn:s[n]? = some (.rw ([p0,p1,p2,p3,p4,p5].map .int))) (hr:s[nr]? = some (.rw (rs.map .int))) (hc:s[nc]? = some (.rw (cs.map .int))) (hp:s[np]? = some (.rw (ps.map .int))) (pl:ps.length=14) (h2:0≤p2∧p2 < 65536)
    (hP:∀ p bs m sv s',ExtS s s'→0≤p→p < 65536→bs.length=8→(∀ v ∈ bs,0≤v∧v < 65536)→Pd (GS.mk p bs m sv rs cs).d s'):lsE (Ed Pd) (RSt sc way n x3 (some (.lst nc)) (some (.lst nr)) (some (.lst np)) none none none) s:=by
  refine seqA ?_
  simp only [qV,qK,tcomp,iseq,tsliceA,tosome,tonone,capρ,List.map_nil,List.getElem?_cons_zero,List.getElem?_cons_succ]
  simp only [hp,SO.items]
  rw [show (8:Int)=((8:Nat):Int) from rfl,K85.cut_takeI,seq_of_get qX]
  refine relC (fun _ y=>∃ v:Int,y = .int v∧0≤v∧v < 65536) (fun s' hx=>by rw [seq_of_get (hx _ _ qX)]) (by simp;omega) (fun i d s' hd hx P hq=>?_) fun ys s' x yl yr=>?_
  · obtain ⟨v,-,rfl⟩:∃ v,(ps.take 8)[i]? = some v∧.int v=d:=by
      rw [List.getElem?_map] at hd
      cases h:(ps.take 8)[i]? with
      | none=>rw [h] at hd;cases hd
      | some v=>rw [h] at hd;exact ⟨v,rfl,by simpa using hd⟩
    exact ⟨v,rfl,fun v s' x h0 h1=>hq _ _ x ⟨v,rfl,h0,h1⟩⟩
  obtain ⟨bs,rfl,hb⟩:=allI yr
  have hx:∀ a:SO,ExtS s (s' ++ [a]):=fun a j o hj=>qY (x _ _ (qY hj))
  refine rd_lsF (bs:=bs) (hx _ _ _ hn) qX (hx _ _ _ hr) (hx _ _ _ hc) (hx _ _ _ hp) pl h2 fun p m sv s2 x2 h0 h1=>hP p bs m sv s2 ?_ h0 h1 (by simpa [pl] using yl) hb
  exact fun j o hj=>x2 _ _ (hx _ _ _ hj)
theorem cellT {sc:Nat} {ns:List Int} {s:Sto} {ρ:Rho} {k:Nat} {P:VD} (h0:ρ[0]? = some (some (.lst sc))) (hs:s[sc]? = some (.ro (ns.map .int))) (h:∀ c:Int,P (.int c) s):qF K85.spCellAt (qA (qV 0) (qA (qK (Dt.int (k:Int))) qZ)) ρ s P:=by
  simp only [qF,qA,qZ,qV,qK,h0]
  exact ⟨sc,k,ns,rfl,hs,fun c=>h c⟩
theorem partsT {sc:Nat} {way:Int} {ns bs:List Int} {s:Sto} {ρ:Rho} {k:Nat} {tb:TD} {P:VD} (h0:ρ[0]? = some (some (.lst sc))) (h1:ρ[1]? = some (some (.int way))) (hs:s[sc]? = some (.ro (ns.map .int)))
    (hb:∀ Q:VD,(∀ n s',ExtS s s'→s'[n]? = some (.rw (bs.map .int))→Q (.lst n) s')→tb ρ s Q) (hbs:∀ x ∈ bs,0 < x∧x < 1000000) (hl:bs.length≤300)
    (h:∀ (ps:List Int) n s',ExtS s s'→s'[n]? = some (.rw (ps.map .int))→PIn ps bs→P (.lst n) s'):qF spLParts (qA (qF K85.spCellAt (qA (qV 0) (qA (qK (Dt.int (k:Int))) qZ))) (qA (qV 1) (qA tb qZ))) ρ s P:=by
  refine cellT h0 hs fun c=>?_
  refine KM.tv h1 ?_
  refine hb _ fun n s' x hn=>?_
  exact ⟨c,way,n,bs,rfl,hn,hbs,hl,fun ps s2 n2 x2 _ g2 pin=>h ps n2 s2 (fun j o hj=>x2 _ _ (x _ _ hj)) g2 pin⟩
theorem repT {s:Sto} {ρ:Rho} {b:Int} {m:Nat} {tk:TD} {Q:VD} (hk:∀ (P:VD) s',ExtS s s'→P (.int (m:Int)) s'→tk ρ s' P) (hm:m≤1000) (h:∀ n s',ExtS s s'→s'[n]? = some (.rw ((List.replicate m b).map .int))→Q (.lst n) s'):qB rMul (qL (qA (qK (Dt.int b)) qZ)) tk ρ s Q:=by
  simp only [qB,qL,qA,qZ,qK]
  refine ⟨z10 1 (by decide),?_⟩
  refine hk _ _ (.app _ _) ?_
  show rMul _ _ _ _
  simp only [rMul]
  rw [qX]
  refine ⟨by omega,by omega,by show 1 * (m:Int).toNat≤sizeLine;rw [sizeLine_eq];omega,?_⟩
  refine h _ _ (fun j o hj=>qY (qY hj)) ?_
  rw [qX,List.flatten_replicate_singleton,List.map_replicate,Int.toNat_natCast]
theorem rd_lsD {nr nc:Nat} {rs cs ns:List Int} {x3:Option Dt} (hsc:s[sc]? = some (.ro (ns.map .int))) (hn:s[n]? = some (.rw ([p0,p1,p2,p3,p4,p5].map .int))) (hr:s[nr]? = some (.rw (rs.map .int))) (hc:s[nc]? = some (.rw (cs.map .int))) (h2:0≤p2∧p2 < 65536)
    (hP:∀ p bs m sv s',ExtS s s'→0≤p→p < 65536→bs.length=8→(∀ v ∈ bs,0≤v∧v < 65536)→Pd (GS.mk p bs m sv rs cs).d s'):lsD (Ed Pd) (RSt sc way n x3 (some (.lst nc)) (some (.lst nr)) none none none none) s:=by
  refine seqA ?_
  refine partsT (sc:=sc) (way:=way) (bs:=List.replicate 8 262144 ++ List.replicate 6 2) (k:=3) rfl rfl hsc ?_ ?_ (by decide) fun ps np s' x hp pin=>?_
  · intro Q hQ
    show qB rMul _ _ _ s fun d1 s1=>qB rMul _ _ _ s1 fun d2 s2=>L3.rAdd d1 d2 s2 Q
    refine repT (m:=8) (fun P s' _ hp=>hp) (by decide) fun n1 s1 x1 g1=>?_
    refine repT (m:=6) (fun P s' _ hp=>hp) (by decide) fun n2 s2 x2 g2=>?_
    simp only [L3.rAdd,x2 _ _ g1,g2]
    refine ⟨by rw [sizeLine_eq];simp,?_⟩
    refine hQ _ _ (fun j o hj=>qY (x2 _ _ (x1 _ _ hj))) ?_
    rw [qX,List.map_append]
  · intro x hx
    rcases List.mem_append.mp hx with hx | hx <;> rw [List.eq_of_mem_replicate hx] <;> decide
  · refine rd_lsE (x _ _ hn) (x _ _ hr) (x _ _ hc) hp (by rw [pin.1];decide) h2 fun p bs m sv s2 x2=>hP p bs m sv s2 ?_
    exact fun j o hj=>x2 _ _ (x _ _ hj)
theorem rd_lsC {nr nc k:Nat} {cs ns:List Int} (hsc:s[sc]? = some (.ro (ns.map .int))) (hn:s[n]? = some (.rw ([p0,p1,p2,p3,p4,p5].map .int))) (hr:s[nr]? = some (.rw ((List.replicate k 7).map .int))) (hc:s[nc]? = some (.rw (cs.map .int))) (hk:k≤16) (h2:0≤p2∧p2 < 65536)
    (hP:∀ p bs m sv rs s',ExtS s s'→0≤p→p < 65536→bs.length=8→(∀ v ∈ bs,0≤v∧v < 65536)→rs.length=k→(∀ v ∈ rs,0≤v∧v < 8)→Pd (GS.mk p bs m sv rs cs).d s'):lsC (Ed Pd) (RSt sc way n (some (.int ((k * 8:Nat):Int))) (some (.lst nc)) (some (.lst nr)) none none none none) s:=by
  refine seqIf (b:=decide (0 < p5)) (st':=s) ?_ (fun _=>?_) fun _=>?_
  · intro P hp
    simp only [qT,qB,qV,qK,List.getElem?_cons_zero,List.getElem?_cons_succ]
    refine ixVv (j:=5) hn rfl ?_
    exact hp
  · refine seqA ?_
    refine partsT (sc:=sc) (way:=way) (bs:=List.replicate k 8) (k:=2) rfl rfl hsc ?_ ?_ (by rw [List.length_replicate];omega) fun ps np s' x hp pin=>?_
    · intro Q hQ
      refine repT (m:=k) (fun P s' _ hp=>?_) (by omega) hQ
      show CDiv _ _∧P _ s'
      refine ⟨cdiv (by decide) (by decide),?_⟩
      rw [show ((k * 8:Nat):Int) / 8=(k:Int) by omega]
      exact hp
    · intro x hx
      rw [List.eq_of_mem_replicate hx];decide
    · refine rd_lsD (x _ _ hsc) (x _ _ hn) hp (x _ _ hc) h2 fun p bs m sv s2 x2 h0 h1 hb hv=>hP p bs m sv ps s2 (fun j o hj=>x2 _ _ (x _ _ hj)) h0 h1 hb hv (by rw [pin.1,List.length_replicate]) ?_
      exact pin_rep pin
  · refine rd_lsD hsc hn hr hc h2 fun p bs m sv s2 x2 h0 h1 hb hv=>hP p bs m sv _ s2 x2 h0 h1 hb hv (by rw [List.length_replicate]) ?_
    intro v hv
    rw [List.eq_of_mem_replicate hv];decide
theorem rd_lsB {k:Nat} {ns:List Int} (hsc:s[sc]? = some (.ro (ns.map .int))) (hn:s[n]? = some (.rw ([p0,p1,p2,p3,p4,p5].map .int))) (hk:k≤16) (h2:0≤p2∧p2 < 65536)
    (hP:∀ (g:GS) s',ExtS s s'→g.Ok→g.p < 65536→Pd g.d s'):lsB (Ed Pd) (RSt sc way n (some (.int ((k * 8:Nat):Int))) none none none none none none) s:=by
  refine seqA ?_
  refine partsT (sc:=sc) (way:=way) (bs:=List.replicate (k * 8) 65536) (k:=1) rfl rfl hsc ?_ ?_ (by rw [List.length_replicate];omega) fun ps np s' x hp pin=>?_
  · intro Q hQ
    exact repT (m:=k * 8) (fun P s' _ hp=>hp) (by omega) hQ
  · intro x hx
    rw [List.eq_of_mem_replicate hx];decide
  refine seqA ?_
  refine repT (m:=k) (fun P s' _ hp=>?_) (by omega) fun nr s1 x1 g1=>?_
  · show CDiv _ _∧P _ s'
    refine ⟨cdiv (by decide) (by decide),?_⟩
    rw [show ((k * 8:Nat):Int) / 8=(k:Int) by omega]
    exact hp
  have hx:ExtS s s1:=fun j o hj=>x1 _ _ (x _ _ hj)
  have pl:ps.length=k * 8:=by rw [pin.1,List.length_replicate]
  refine rd_lsC (hx _ _ hsc) (hx _ _ hn) g1 (x1 _ _ hp) hk h2 fun p bs m sv rs s2 x2 h0 h1 hb hv rl rv=>?_
  exact hP _ _ (fun j o hj=>x2 _ _ (hx _ _ hj)) ⟨h0,hb,hv,by show ps.length=8 * rs.length;omega,by show ps.length≤128;omega,pin_rep pin,rv⟩ h1
theorem rd__law_state {ds:List Dt} {st:Sto} {Pd:VD} (h:spState ds st Pd):t__law_state (Ed Pd) (qW ["script", "way", "sizes", "many", "cells", "rights", "parts", "boxes", "marks", "saved"] ds) st:=by
  obtain ⟨sc,way,ns,rfl,hsc,hP⟩:=h
  show t__law_state (Ed Pd) [some (.lst sc),some (.int way),none,none,none,none,none,none,none,none] st
  refine seqA ?_
  refine partsT (sc:=sc) (way:=way) (bs:=[2,17,65536,65536,8,3]) (k:=0) rfl rfl hsc ?_ (by decide) (by decide) fun ps n s' x hp pin=>?_
  · intro Q hQ
    refine ⟨z10 6 (by decide),?_⟩
    exact hQ _ _ (.app _ _) qX
  obtain ⟨p0,p1,p2,p3,p4,p5,rfl,h0,h1,h2,h3,h4⟩:=six pin
  have fin:∀ (v:Int) s1,ExtS s' s1→0≤v→v≤16→rMul (.int v) (.int 8) s1 fun d s2=>lsB (Ed Pd) (RSt sc way n (some d) none none none none none none) s2:=by
    intro v s1 x1 v0 v1
    refine ⟨cmul_l (by omega) (by omega),?_⟩
    obtain ⟨k,rfl⟩:∃ k:Nat,v=(k:Int):=⟨v.toNat,by omega⟩
    rw [show (k:Int) * 8=((k * 8:Nat):Int) by omega]
    exact rd_lsB (x1 _ _ (x _ _ hsc)) (x1 _ _ hp) (by omega) h2 fun g s2 x2=>hP g s2 fun j o hj=>x2 _ _ (x1 _ _ (x _ _ hj))
  refine seqA ?_
  simp only [qB,qL,qA,qZ,qV,qK,List.set_cons_zero,List.set_cons_succ,List.getElem?_cons_zero,List.getElem?_cons_succ]
  refine ixVv (j:=1) hp rfl ?_
  refine ⟨by decide,?_⟩
  simp only [L3.rAdd]
  refine ixVv (j:=1) hp rfl ?_
  refine ⟨by decide,z10 2 (by decide),?_⟩
  refine ixVv (j:=0) (qY hp) rfl ?_
  refine of2 qX h0.1 h0.2 ?_ ?_
  · exact fin _ _ (.app _ _) (by omega) (by omega)
  · exact fin _ _ (.app _ _) (by omega) (by omega)
end
end KL
namespace K62
open PySem PySem.Spec PyProof.Rows L2 L3 KS K02 K85 K06 KM KL
noncomputable abbrev t__law_exits:TSD:=(qS (qE (qL qZ) (qG 1)) (qS (tfor (irng1 (qK (Dt.int 5))) (qG 2) (qS (qE (qB qI (qL (qA (qK (Dt.str (Str.ofString "closed"))) (qA (qK (Dt.str (Str.ofString "shut"))) (qA (qK (Dt.str (Str.ofString "on"))) (qA (qK (Dt.str (Str.ofString "nought"))) (qA (qK (Dt.str (Str.ofString "bad"))) qZ)))))) (qB rMod (qB L3.rAdd (qV 2) (qB qI (qV 0) (qK (Dt.int 0)))) (qK (Dt.int 5)))) (qG 3)) (qS (qE (qF qH (qA (tcomp (irng1 (qK (Dt.int 8))) (fun x st P=>P true st) (qU (qA (qK (Dt.str (Str.ofString "hand"))) (qA (qB rMod (qB L3.rAdd (qV 0) (qV 1)) (qK (Dt.int 4))) qZ))) [(2, "k")]) qZ)) (qG 4)) (qS (qE (qF qH (qA (tcomp (irng1 (qK (Dt.int 3))) (fun x st P=>P true st) (qU (qA (qK (Dt.str (Str.ofString "old"))) (qA (qB rMod (qB L3.rAdd (qV 0) (qV 1)) (qK (Dt.int 3))) qZ))) [(2, "k")]) qZ)) (qG 5)) (qS (tdrop (tappend (qV 1) (qU (qA (qV 3) (qA (qB qI (qL (qA (qB rMod (qB L3.rAdd (qB rMul (qV 2) (qK (Dt.int 7))) (qB qI (qV 0) (qK (Dt.int 1)))) (qK (Dt.int 65536))) (qA (qU (qA (qK (Dt.str (Str.ofString "hand"))) (qA (qB rMod (qV 2) (qK (Dt.int 3))) qZ))) qZ))) (qB rMod (qV 2) (qK (Dt.int 2)))) (qA (qV 4) (qA (qV 5) (qA (qB L3.rAdd (qB rMul (qK (Dt.int 3)) (qV 2)) (qB qI (qV 0) (qK (Dt.int 2)))) qZ)))))))) qN))))) (qS (qR (qF qH (qA (qV 1) qZ))) qN)))
noncomputable abbrev t__law_numbers:TSD:=(qS (qE (qF rLen (qA (qB qI (qV 1) (qK (Dt.int 5))) qZ)) (qG 2)) (qS (qE (qB rMul (qK (Dt.int 8)) (qB rMod (qB qI (qV 0) (qK (Dt.int 3))) (qK (Dt.int 17)))) (qG 3)) (qS (qE (qB qI (qL (qA (qK (Dt.int 0)) (qA (qB L3.rSub (qV 2) (qK (Dt.int 1))) (qA (qV 2) (qA (qB L3.rSub (qV 3) (qK (Dt.int 1))) (qA (qV 3) (qA (qK (Dt.int 65535)) (qA (qB qI (qV 0) (qK (Dt.int 4))) (qA (qB L3.rAdd (qV 2) (qK (Dt.int 7))) qZ))))))))) (qB rDiv (qB qI (qV 0) (qK (Dt.int 3))) (qK (Dt.int 17)))) (qG 4)) (qS (qE (qB rMul (qB rMod (qB qI (qV 0) (qK (Dt.int 5))) (qB L3.rAdd (qF rMax2 (qA (qK (Dt.int 0)) (qA (qV 4) qZ))) (qK (Dt.int 1)))) (qF rIntB (qA (qB (rCmpI fun i j=>decide (j≤i)) (qV 4) (qK (Dt.int 0))) qZ))) (qG 5)) (qS (qR (qL (qA (qB L3.rSub (qF rMax2 (qA (qK (Dt.int 0)) (qA (qV 4) qZ))) (qV 5)) (qA (qV 5) (qA (qB qI (qV 0) (qK (Dt.int 6))) qZ))))) qN)))))
theorem mapR {ys:List Dt} {n:Nat} {f:Nat→Dt} (hl:ys.length=n) (h:∀ (i:Nat) y,ys[i]? = some y→y=f i):ys=(List.range n).map f:=by
  apply List.ext_getElem?
  intro i
  by_cases hi:i < n
  · have e:ys[i]? = some (ys[i]'(by omega)):=by simp [hl,hi]
    rw [e,h i _ e];simp [hi]
  · rw [List.getElem?_eq_none (by omega),List.getElem?_eq_none (by simp;omega)]
theorem nine {ps:List Int} (h:PIn ps bnd):∃ p0 p1 p2 p3 p4 p5 p6 p7 p8:Int,ps=[p0,p1,p2,p3,p4,p5,p6,p7,p8]∧(0≤p0∧p0 < 5)∧(0≤p2)∧(0≤p3∧p3 < 136)∧(0≤p4∧p4 < 65536)∧(0≤p5∧p5 < 65536)∧(0≤p6∧p6 < 65536)∧(0≤p7∧p7 < 4):=by
  obtain ⟨hl,hb⟩:=h
  have hl:ps.length=9:=hl
  rcases ps with _ | ⟨p0,_ | ⟨p1,_ | ⟨p2,_ | ⟨p3,_ | ⟨p4,_ | ⟨p5,_ | ⟨p6,_ | ⟨p7,_ | ⟨p8,_ | ⟨p9,r⟩⟩⟩⟩⟩⟩⟩⟩⟩⟩ <;> first
    | (simp at hl;done)
    | exact ⟨p0,p1,p2,p3,p4,p5,p6,p7,p8,rfl,hb 0 p0 5 rfl rfl,(hb 2 p2 40 rfl rfl).1,hb 3 p3 136 rfl rfl,hb 4 p4 65536 rfl rfl,hb 5 p5 65536 rfl rfl,hb 6 p6 65536 rfl rfl,hb 7 p7 4 rfl rfl⟩
    | (simp at hl;omega)
noncomputable abbrev RE (p f:Nat) (a b c d:Option Dt):Rho:=[some (.lst p),some (.lst f),a,b,c,d]
theorem tupC {st:Sto} {ρ:Rho} {te:TD} {caps:List (Nat×Str)} {n:Nat} {f:Nat→Dt} {P:VD} (hn:n≤1000) (hs:∀ (i:Nat),i < n→∀ Q:VD,Q (f i) st→te (some (.int (i:Int)) :: capρ caps ρ) st Q) (h:∀ s',ExtS st s'→P (.tup ((List.range n).map f)) s'):qF qH (qA (tcomp (irng1 (qK (Dt.int (n:Int)))) (fun x st P=>P true st) te caps) qZ) ρ st P:=by
  simp only [qF,qA,qZ,tcomp,irng1,qK]
  refine ⟨by omega,by omega,?_⟩
  rw [Int.toNat_natCast]
  refine ⟨fun i ys s=>s=st∧ys=(List.range i).map f,⟨rfl,rfl⟩,fun _ _ _ _ _=>trivial,?_,?_⟩
  · rintro i d ys s hd ⟨rfl,rfl⟩
    obtain ⟨hi,rfl⟩:=range_get hd
    rw [Int.zero_add]
    refine ⟨by rw [List.length_map,List.length_range,sizeLine_eq];omega,iteT (hs i hi _ ⟨rfl,?_⟩)⟩
    rw [List.range_succ,List.map_append];rfl
  · rintro ys s ⟨rfl,rfl⟩
    rw [range_len]
    simp only [qH,seq_of_get qX]
    exact h _ (.app _ _)
theorem rd__law_exits {ds:List Dt} {st:Sto} {Pd:VD} (h:spExits ds st Pd):t__law_exits (Ed Pd) (qW ["parts", "found", "k", "how", "boxes", "marks"] ds) st:=by
  obtain ⟨p,ps,rfl,hp,pin,hP⟩:=h
  obtain ⟨p0,p1,p2,p3,p4,p5,p6,p7,p8,rfl,h0,h2,-⟩:=nine pin
  show t__law_exits (Ed Pd) [some (.lst p),none,none,none,none,none] st
  refine seqA ⟨Nat.zero_le _,?_⟩
  show qS _ _ (Ed Pd) (RE p st.length none none none none) (st ++ [SO.rw []])
  have hf0:(st ++ [SO.rw []])[st.length]? = some (.rw []):=qX
  have hbn:p < st.length:=lt_of_get hp
  have x0:ExtS st (st ++ [SO.rw []]):=.app _ _
  generalize st ++ [SO.rw []]=s0 at hf0 x0
  refine seqS ?_
  refine forR (n:=5) (fun P hp=>hp) (by omega) ?_
  refine ⟨fun i ρ s=>(∃ a b c d,ρ=RE p st.length a b c d)∧ExtS st s∧s[st.length]? = some (.rw ((exL p0 p1 p2 i).map exD)),⟨⟨_,_,_,_,rfl⟩,x0,hf0⟩,fun _ _ _ _ _=>trivial,?_,?_⟩
  · rintro i d ρ s hd ⟨⟨a,b,c,e,rfl⟩,hx,hf⟩
    obtain ⟨hi,rfl⟩:=range_get hd
    rw [Int.zero_add]
    have hps:s[p]? = some (.rw ([p0,p1,p2,p3,p4,p5,p6,p7,p8].map .int)):=hx _ _ hp
    show qS _ _ _ (RE p st.length (some (.int (i:Int))) b c e) s
    refine seqA ?_
    simp only [qB,qL,qA,qZ,qV,qK,List.getElem?_cons_zero,List.getElem?_cons_succ]
    refine ⟨z10 5 (by decide),?_⟩
    refine ixVv (j:=0) (qY hps) rfl ?_
    simp only [L3.rAdd]
    refine ⟨by decide,?_⟩
    have m0:=Int.emod_nonneg ((i:Int) + p0) (show (5:Int)≠0 by decide)
    have m1:=Int.emod_lt_of_pos ((i:Int) + p0) (show (0:Int) < 5 by decide)
    obtain ⟨j,ej,hj⟩:∃ j:Nat,((i:Int) + p0) % 5=(j:Int)∧j < 5:=⟨(((i:Int) + p0) % 5).toNat,by omega,by omega⟩
    rw [ej]
    refine ixVv (j:=j) (d:=.str (howL.getD j "")) qX ?_ ?_
    · rcases (show j=0∨j=1∨j=2∨j=3∨j=4 by omega) with rfl | rfl | rfl | rfl | rfl <;> rfl
    have xa:∀ o:SO,ExtS s (s ++ [o]):=fun o=>.app _ _
    generalize he1:s ++ [SO.rw _]=s1
    have x1:ExtS s s1:=he1 ▸ .app _ _
    refine seqA ?_
    refine tupC (n:=8) (f:=fun j=>.tup [.str "hand",.int (((j + i) % 4:Nat):Int)]) (by decide) (fun j hj Q hQ=>?_) fun s2 x2=>?_
    · show (0:Int) < 4∧2≤sizeLine∧Q (.tup [.str "hand",.int (((j:Int) + (i:Int)) % 4)]) s1
      refine ⟨by decide,z10 2 (by decide),?_⟩
      rw [show ((j:Int) + (i:Int)) % 4=(((j + i) % 4:Nat):Int) by omega]
      exact hQ
    refine seqA ?_
    refine tupC (n:=3) (f:=fun j=>.tup [.str "old",.int (((j + i) % 3:Nat):Int)]) (by decide) (fun j hj Q hQ=>?_) fun s3 x3=>?_
    · show (0:Int) < 3∧2≤sizeLine∧Q (.tup [.str "old",.int (((j:Int) + (i:Int)) % 3)]) s2
      refine ⟨by decide,z10 2 (by decide),?_⟩
      rw [show ((j:Int) + (i:Int)) % 3=(((j + i) % 3:Nat):Int) by omega]
      exact hQ
    have x13:ExtS s s3:=fun j o hj=>x3 _ _ (x2 _ _ (x1 _ _ hj))
    refine seqS ?_
    simp only [tdrop,tappend,qU,qB,qL,qA,qZ,qV,qK,List.getElem?_cons_zero,List.getElem?_cons_succ,List.set_cons_zero,List.set_cons_succ]
    refine ⟨cmul_l (by omega) (by omega),?_⟩
    refine ixVv (j:=1) (x13 _ _ hps) rfl ?_
    simp only [L3.rAdd]
    refine ⟨by decide,?_⟩
    show (0:Int) < 3∧_
    refine ⟨by decide,z10 2 (by decide),z10 2 (by decide),?_⟩
    show (0:Int) < 2∧_
    refine ⟨by decide,?_⟩
    have hl3:st.length < s3.length:=Nat.lt_of_lt_of_le (lt_of_get hf) (ext_le' x13)
    have g4:∀ o:SO,(s3 ++ [o])[st.length]? = some (.rw ((exL p0 p1 p2 i).map exD)):=fun o=>qY (x13 _ _ hf)
    have l4:((exL p0 p1 p2 i).map exD).length < sizeLine:=by rw [List.length_map,exL,List.length_map,List.length_range,sizeLine_eq];omega
    have fin:∀ (o:SO) (at_:Dt),at_=(exK p0 p1 p2 i).at_→ExtS st ((s3 ++ [o]).set st.length (.rw ((exL p0 p1 p2 i).map exD ++ [.tup [.str (howL.getD j ""),at_,.tup (bsK i 8),.tup (msK i 3),.int (3 * (i:Int) + p2)]])))∧((s3 ++ [o]).set st.length (.rw ((exL p0 p1 p2 i).map exD ++ [.tup [.str (howL.getD j ""),at_,.tup (bsK i 8),.tup (msK i 3),.int (3 * (i:Int) + p2)]])))[st.length]? = some (.rw ((exL p0 p1 p2 (i + 1)).map exD)):=by
      intro o at_ ea
      refine ⟨?_,?_⟩
      · intro n o' hn
        exact get_set_ne (qY (x13 _ _ (hx _ _ hn))) (by have:=lt_of_get hn;omega)
      · rw [KM.get_set_self (g4 o),ea]
        unfold exL
        rw [List.range_succ,List.map_append,List.map_append]
        have e2:(((i:Int) + p0) % 5).toNat=j:=by rw [ej];rfl
        show _=some (SO.rw (_ ++ [exD (exK p0 p1 p2 i)]))
        unfold exK exD
        rw [e2]
    rcases (show i % 2=0∨i % 2=1 by omega) with e | e
    · rw [show (i:Int) % 2=((0:Nat):Int) by omega]
      refine ixVv (j:=0) qX rfl ?_
      refine ⟨cmul_l (by decide) (by decide),?_⟩
      refine ixVv (j:=2) (qY (x13 _ _ hps)) rfl ?_
      simp only [L3.rAdd,g4]
      exact ⟨z10 5 (by decide),l4,⟨_,_,_,_,rfl⟩,fin _ _ (by simp [exK,e])⟩
    · rw [show (i:Int) % 2=((1:Nat):Int) by omega]
      refine ixVv (j:=1) qX rfl ?_
      refine ⟨cmul_l (by decide) (by decide),?_⟩
      refine ixVv (j:=2) (qY (x13 _ _ hps)) rfl ?_
      simp only [L3.rAdd,g4]
      exact ⟨z10 5 (by decide),l4,⟨_,_,_,_,rfl⟩,fin _ _ (by simp [exK,e])⟩
  · rintro ρ s ⟨⟨a,b,c,e,rfl⟩,hx,hf⟩
    rw [range_len] at hf
    show qS (qR (qF qH (qA (qV 1) qZ))) qN (Ed Pd) (RE p st.length a b c e) s
    refine seqS ?_
    simp only [qR,qF,qA,qZ,qV,List.getElem?_cons_zero,List.getElem?_cons_succ,qH,seq_of_get hf]
    exact hP _ hx
noncomputable def nuB:TSD:=(qS (qE (qB rMul (qB rMod (qB qI (qV 0) (qK (Dt.int 5))) (qB L3.rAdd (qF rMax2 (qA (qK (Dt.int 0)) (qA (qV 4) qZ))) (qK (Dt.int 1)))) (qF rIntB (qA (qB (rCmpI fun i j=>decide (j≤i)) (qV 4) (qK (Dt.int 0))) qZ))) (qG 5)) (qS (qR (qL (qA (qB L3.rSub (qF rMax2 (qA (qK (Dt.int 0)) (qA (qV 4) qZ))) (qV 5)) (qA (qV 5) (qA (qB qI (qV 0) (qK (Dt.int 6))) qZ))))) qN))
noncomputable abbrev RN (p:Nat) (g:GS) (c pg near:Int):Rho:=[some (.lst p),some g.d,some (.int c),some (.int pg),some (.int near),none]
theorem rd_nuB {p:Nat} {g:GS} {c pg near:Int} {s:Sto} {Pd:VD} {p0 p1 p2 p3 p4 p5 p6 p7 p8:Int} (hp:s[p]? = some (.rw ([p0,p1,p2,p3,p4,p5,p6,p7,p8].map .int))) (h5:0≤p5) (h6:0≤p6∧p6 < 65536) (hn:near < 65536) (hP:∀ a b c st' n,ExtS s st'→Dr 0 a b c→st'[n]? = some (.rw [.int a,.int b,.int c])→Pd (.lst n) st'):nuB (Ed Pd) (RN p g c pg near) s:=by
  refine seqA ?_
  simp only [qB,qF,qA,qZ,qV,qK,rMax2,List.getElem?_cons_zero,List.getElem?_cons_succ]
  refine ixVv (j:=5) hp rfl ?_
  simp only [L3.rAdd]
  have hM:0≤(if near > 0 then near else 0)∧(if near > 0 then near else 0) < 65536:=by split <;> omega
  generalize hMd:(if near > 0 then near else 0)=M at hM
  refine ⟨by omega,?_⟩
  have r0:=Int.emod_nonneg p5 (show M + 1≠0 by omega)
  have r1:=Int.emod_lt_of_pos p5 (show 0 < M + 1 by omega)
  generalize p5 % (M + 1)=L at r0 r1
  simp only [rCmpI,rIntB]
  refine ⟨cmul_l r0 (by omega),?_⟩
  have hL:0≤L * (if decide (0≤near)=true then 1 else 0)∧L * (if decide (0≤near)=true then 1 else 0)≤M:=by split <;> omega
  generalize L * (if decide (0≤near)=true then 1 else 0)=l at hL
  refine seqS ?_
  simp only [qR,qL,qB,qF,qA,qZ,qV,qK,rMax2,List.getElem?_cons_zero,List.getElem?_cons_succ,List.set_cons_zero,List.set_cons_succ]
  rw [hMd]
  simp only [L3.rSub]
  refine ixVv (j:=6) hp rfl ?_
  refine ⟨z10 3 (by decide),?_⟩
  exact hP (M - l) l p6 _ _ (.app _ _) ⟨by decide,by omega,by omega,h6,fun q=>by cases q⟩ qX
theorem gIx {g:GS} {ρ:Rho} {i j:Nat} {s:Sto} {d:Dt} {P:VD} (hi:ρ[i]? = some (some g.d)) (hj:[.int g.p,.tup (g.bs.map .int),msD g.m,svD g.sv,.tup (g.rs.map .int),.tup (g.cs.map .int)][j]? = some d) (h:P d s):qB qI (qV i) (qK (Dt.int (j:Int))) ρ s P:=rS hi hj _ h
theorem lenG {g:GS} {ρ:Rho} {i j:Nat} {s:Sto} {xs:List Dt} {P:VD} (hi:ρ[i]? = some (some g.d)) (hj:[.int g.p,.tup (g.bs.map .int),msD g.m,svD g.sv,.tup (g.rs.map .int),.tup (g.cs.map .int)][j]? = some (.tup xs)) (h:P (.int (xs.length:Int)) s):qF rLen (qA (qB qI (qV i) (qK (Dt.int (j:Int)))) qZ) ρ s P:=by
  show qB qI (qV i) (qK (Dt.int (j:Int))) ρ s _
  exact gIx hi hj h
theorem rd__law_numbers {ds:List Dt} {st:Sto} {Pd:VD} (h:spNumbers ds st Pd):t__law_numbers (Ed Pd) (qW ["parts", "state", "cells", "page", "near", "less"] ds) st:=by
  obtain ⟨p,ps,g,rfl,hp,pin,ok,hP⟩:=h
  obtain ⟨p0,p1,p2,p3,p4,p5,p6,p7,p8,rfl,h0,h2,h3,h4,h5,h6,h7⟩:=nine pin
  show t__law_numbers (Ed Pd) [some (.lst p),some g.d,none,none,none,none] st
  have hcm:=ok.cm
  refine seqA ?_
  refine lenG (g:=g) (i:=1) (j:=5) rfl rfl ?_
  simp only [List.length_map]
  refine seqA ?_
  simp only [qB,qV,qK,List.getElem?_cons_zero,List.getElem?_cons_succ,List.set_cons_zero,List.set_cons_succ]
  refine ixVv (j:=3) hp rfl ?_
  refine ⟨by decide,cmul_l (by decide) (by decide),?_⟩
  refine seqA ?_
  simp only [qB,qL,qA,qZ,qV,qK,List.getElem?_cons_zero,List.getElem?_cons_succ,List.set_cons_zero,List.set_cons_succ,L3.rSub]
  refine ixVv (j:=4) hp rfl ?_
  simp only [L3.rAdd]
  refine ⟨z10 8 (by decide),?_⟩
  refine ixVv (j:=3) (qY hp) rfl ?_
  refine ⟨cdiv (by decide) (by decide),?_⟩
  obtain ⟨j,ej,hj⟩:∃ j:Nat,p3 / 17=(j:Int)∧j < 8:=⟨(p3 / 17).toNat,by omega,by omega⟩
  rw [ej]
  have fin:∀ v:Int,v < 65536→nuB (Ed Pd) (RN p g (g.cs.length:Int) (8 * (p3 % 17)) v) (st ++ [SO.rw [.int 0,.int ((g.cs.length:Int) - 1),.int (g.cs.length:Int),.int (8 * (p3 % 17) - 1),.int (8 * (p3 % 17)),.int 65535,.int p4,.int ((g.cs.length:Int) + 7)]]):=by
    intro v hv
    refine rd_nuB (qY hp) h5.1 h6 hv fun a b c st' n x=>hP a b c st' n fun k o hk=>x _ _ (qY hk)
  rcases (show j=0∨j=1∨j=2∨j=3∨j=4∨j=5∨j=6∨j=7 by omega) with rfl | rfl | rfl | rfl | rfl | rfl | rfl | rfl
  · exact ixVv (j:=0) qX rfl (fin _ (by omega))
  · exact ixVv (j:=1) qX rfl (fin _ (by omega))
  · exact ixVv (j:=2) qX rfl (fin _ (by omega))
  · exact ixVv (j:=3) qX rfl (fin _ (by omega))
  · exact ixVv (j:=4) qX rfl (fin _ (by omega))
  · exact ixVv (j:=5) qX rfl (fin _ (by omega))
  · exact ixVv (j:=6) qX rfl (fin _ (by omega))
  · exact ixVv (j:=7) qX rfl (fin _ (by omega))
end K62
namespace K62
open PySem PySem.Spec PyProof.Rows L2 L3 KS K02 K85 K06 KM KL
noncomputable abbrev t__law_block:TSD:=(qS (qE (qB qI (qL (qA (qK (Dt.str (Str.ofString "get"))) (qA (qK (Dt.str (Str.ofString "set"))) (qA (qK (Dt.str (Str.ofString "div"))) (qA (qK (Dt.str (Str.ofString "right"))) qZ))))) (qB qI (qV 0) (qK (Dt.int 7)))) (qG 2)) (qS (qE (qF spNumbers (qA (qV 0) (qA (qV 1) qZ))) (gunpack 3 (gscons (qG 3) (gscons (qG 4) (gscons (qG 5) gsnil))))) (qS (qJ (qT (qB (qQ false) (qV 2) (qK (Dt.str (Str.ofString "div"))))) (qS (qE (qB qI (qL (qA (qK (Dt.int 0)) (qA (qV 4) (qA (qK (Dt.int 1)) (qA (qK (Dt.int 65535)) (qA (qB qI (qV 0) (qK (Dt.int 4))) qZ)))))) (qB qI (qV 0) (qK (Dt.int 0)))) (qG 4)) (qS (qE (qK (Dt.int 0)) (qG 5)) qN)) qN) (qS (qJ (qT (qB (qQ false) (qV 2) (qK (Dt.str (Str.ofString "right"))))) (qS (qE (qB rMod (qB qI (qL (qA (qB L3.rSub (qF rLen (qA (qB qI (qV 1) (qK (Dt.int 4))) qZ)) (qK (Dt.int 1))) (qA (qF rLen (qA (qB qI (qV 1) (qK (Dt.int 4))) qZ)) (qA (qK (Dt.int 0)) (qA (qK (Dt.int 65535)) (qA (qV 3) qZ)))))) (qB qI (qV 0) (qK (Dt.int 0)))) (qK (Dt.int 65536))) (qG 3)) (qS (qE (qB rMod (qB qI (qV 0) (qK (Dt.int 6))) (qK (Dt.int 8))) (qG 4)) qN)) qN) (qS (qE (qL (qA (qU (qA (qK (Dt.str (Str.ofString "num"))) (qA (qK (Dt.int 0)) (qA (qV 3) qZ)))) (qA (qU (qA (qK (Dt.str (Str.ofString "num"))) (qA (qK (Dt.int 1)) (qA (qV 4) qZ)))) (qA (qU (qA (qK (Dt.str (Str.ofString "num"))) (qA (qK (Dt.int 2)) (qA (qV 5) qZ)))) (qA (qU (qA (qK (Dt.str (Str.ofString "num"))) (qA (qK (Dt.int 3)) (qA (qK (Dt.int 9)) qZ)))) (qA (qU (qA (qK (Dt.str (Str.ofString "tell"))) (qA (qK (Dt.int 2)) qZ))) qZ)))))) (qG 6)) (qS (qE (qB qI (qL (qA (qU (qA (qK (Dt.str (Str.ofString "get"))) (qA (qK (Dt.int 3)) (qA (qK (Dt.int 0)) (qA (qK (Dt.int 1)) (qA (qK (Dt.int 0)) qZ)))))) (qA (qU (qA (qK (Dt.str (Str.ofString "set"))) (qA (qK (Dt.int 0)) (qA (qK (Dt.int 1)) (qA (qK (Dt.int 2)) (qA (qK (Dt.int 0)) (qA (qK (Dt.int 1)) qZ))))))) (qA (qU (qA (qK (Dt.str (Str.ofString "div"))) (qA (qK (Dt.int 3)) (qA (qK (Dt.int 0)) (qA (qK (Dt.int 1)) (qA (qK (Dt.int 3)) qZ)))))) (qA (qU (qA (qK (Dt.str (Str.ofString "right"))) (qA (qK (Dt.int 0)) (qA (qK (Dt.int 1)) (qA (qK (Dt.int 4)) qZ))))) qZ))))) (qB qI (qV 0) (qK (Dt.int 7)))) (qG 7)) (qS (qR (qU (qA (qB qI (qV 0) (qK (Dt.int 1))) (qA (qB L3.rAdd (qK (Dt.int 4)) (qB rMod (qB qI (qV 0) (qK (Dt.int 2))) (qK (Dt.int 13)))) (qA (qF qH (qA (qB L3.rAdd (qV 6) (qL (qA (qV 7) (qA (qU (qA (qK (Dt.str (Str.ofString "tell"))) (qA (qK (Dt.int 3)) qZ))) (qA (qU (qA (qK (Dt.str (Str.ofString "out"))) (qA (qK (Dt.int 2)) qZ))) qZ))))) qZ)) (qA (qF spExits (qA (qV 0) qZ)) qZ)))))) qN)))))))
noncomputable def blB:TSD:=(qS (qE (qL (qA (qU (qA (qK (Dt.str (Str.ofString "num"))) (qA (qK (Dt.int 0)) (qA (qV 3) qZ)))) (qA (qU (qA (qK (Dt.str (Str.ofString "num"))) (qA (qK (Dt.int 1)) (qA (qV 4) qZ)))) (qA (qU (qA (qK (Dt.str (Str.ofString "num"))) (qA (qK (Dt.int 2)) (qA (qV 5) qZ)))) (qA (qU (qA (qK (Dt.str (Str.ofString "num"))) (qA (qK (Dt.int 3)) (qA (qK (Dt.int 9)) qZ)))) (qA (qU (qA (qK (Dt.str (Str.ofString "tell"))) (qA (qK (Dt.int 2)) qZ))) qZ)))))) (qG 6)) (qS (qE (qB qI (qL (qA (qU (qA (qK (Dt.str (Str.ofString "get"))) (qA (qK (Dt.int 3)) (qA (qK (Dt.int 0)) (qA (qK (Dt.int 1)) (qA (qK (Dt.int 0)) qZ)))))) (qA (qU (qA (qK (Dt.str (Str.ofString "set"))) (qA (qK (Dt.int 0)) (qA (qK (Dt.int 1)) (qA (qK (Dt.int 2)) (qA (qK (Dt.int 0)) (qA (qK (Dt.int 1)) qZ))))))) (qA (qU (qA (qK (Dt.str (Str.ofString "div"))) (qA (qK (Dt.int 3)) (qA (qK (Dt.int 0)) (qA (qK (Dt.int 1)) (qA (qK (Dt.int 3)) qZ)))))) (qA (qU (qA (qK (Dt.str (Str.ofString "right"))) (qA (qK (Dt.int 0)) (qA (qK (Dt.int 1)) (qA (qK (Dt.int 4)) qZ))))) qZ))))) (qB qI (qV 0) (qK (Dt.int 7)))) (qG 7)) (qS (qR (qU (qA (qB qI (qV 0) (qK (Dt.int 1))) (qA (qB L3.rAdd (qK (Dt.int 4)) (qB rMod (qB qI (qV 0) (qK (Dt.int 2))) (qK (Dt.int 13)))) (qA (qF qH (qA (qB L3.rAdd (qV 6) (qL (qA (qV 7) (qA (qU (qA (qK (Dt.str (Str.ofString "tell"))) (qA (qK (Dt.int 3)) qZ))) (qA (qU (qA (qK (Dt.str (Str.ofString "out"))) (qA (qK (Dt.int 2)) qZ))) qZ))))) qZ)) (qA (qF spExits (qA (qV 0) qZ)) qZ)))))) qN)))
noncomputable def blA:TSD:=(qS (qJ (qT (qB (qQ false) (qV 2) (qK (Dt.str (Str.ofString "right"))))) (qS (qE (qB rMod (qB qI (qL (qA (qB L3.rSub (qF rLen (qA (qB qI (qV 1) (qK (Dt.int 4))) qZ)) (qK (Dt.int 1))) (qA (qF rLen (qA (qB qI (qV 1) (qK (Dt.int 4))) qZ)) (qA (qK (Dt.int 0)) (qA (qK (Dt.int 65535)) (qA (qV 3) qZ)))))) (qB qI (qV 0) (qK (Dt.int 0)))) (qK (Dt.int 65536))) (qG 3)) (qS (qE (qB rMod (qB qI (qV 0) (qK (Dt.int 6))) (qK (Dt.int 8))) (qG 4)) qN)) qN) (qS (qE (qL (qA (qU (qA (qK (Dt.str (Str.ofString "num"))) (qA (qK (Dt.int 0)) (qA (qV 3) qZ)))) (qA (qU (qA (qK (Dt.str (Str.ofString "num"))) (qA (qK (Dt.int 1)) (qA (qV 4) qZ)))) (qA (qU (qA (qK (Dt.str (Str.ofString "num"))) (qA (qK (Dt.int 2)) (qA (qV 5) qZ)))) (qA (qU (qA (qK (Dt.str (Str.ofString "num"))) (qA (qK (Dt.int 3)) (qA (qK (Dt.int 9)) qZ)))) (qA (qU (qA (qK (Dt.str (Str.ofString "tell"))) (qA (qK (Dt.int 2)) qZ))) qZ)))))) (qG 6)) (qS (qE (qB qI (qL (qA (qU (qA (qK (Dt.str (Str.ofString "get"))) (qA (qK (Dt.int 3)) (qA (qK (Dt.int 0)) (qA (qK (Dt.int 1)) (qA (qK (Dt.int 0)) qZ)))))) (qA (qU (qA (qK (Dt.str (Str.ofString "set"))) (qA (qK (Dt.int 0)) (qA (qK (Dt.int 1)) (qA (qK (Dt.int 2)) (qA (qK (Dt.int 0)) (qA (qK (Dt.int 1)) qZ))))))) (qA (qU (qA (qK (Dt.str (Str.ofString "div"))) (qA (qK (Dt.int 3)) (qA (qK (Dt.int 0)) (qA (qK (Dt.int 1)) (qA (qK (Dt.int 3)) qZ)))))) (qA (qU (qA (qK (Dt.str (Str.ofString "right"))) (qA (qK (Dt.int 0)) (qA (qK (Dt.int 1)) (qA (qK (Dt.int 4)) qZ))))) qZ))))) (qB qI (qV 0) (qK (Dt.int 7)))) (qG 7)) (qS (qR (qU (qA (qB qI (qV 0) (qK (Dt.int 1))) (qA (qB L3.rAdd (qK (Dt.int 4)) (qB rMod (qB qI (qV 0) (qK (Dt.int 2))) (qK (Dt.int 13)))) (qA (qF qH (qA (qB L3.rAdd (qV 6) (qL (qA (qV 7) (qA (qU (qA (qK (Dt.str (Str.ofString "tell"))) (qA (qK (Dt.int 3)) qZ))) (qA (qU (qA (qK (Dt.str (Str.ofString "out"))) (qA (qK (Dt.int 2)) qZ))) qZ))))) qZ)) (qA (qF spExits (qA (qV 0) qZ)) qZ)))))) qN))))
noncomputable abbrev RB (p:Nat) (g:GS) (w:Str) (a b c:Int):Rho:=[some (.lst p),some g.d,some (.str w),some (.int a),some (.int b),some (.int c),none,none]
theorem row_ix {s:Sto} {n k:Nat} {P:VD} (hn:s[n]? = some (.rw [rowD (rowK 0),rowD (rowK 1),rowD (rowK 2),rowD (rowK 3)])) (k4:k < 4) (h:P (rowD (rowK k)) s):qI (.lst n) (.int (k:Int)) s P:=by
  refine ixVv (j:=k) hn ?_ h
  rcases (show k=0∨k=1∨k=2∨k=3 by omega) with rfl | rfl | rfl | rfl <;> rfl
theorem rd_blB {p:Nat} {g:GS} {w:Str} {k:Nat} {a b c:Int} {s:Sto} {Pd:VD} {ps:List Int} (hp:s[p]? = some (.rw (ps.map .int))) (pin:PIn ps bnd) (hk:ps[7]? = some (k:Int)) (d:Dr k a b c) (hP:∀ x y p0 p1 p2 st',ExtS s st'→0≤p0→Pd (blkD x y k a b c p0 p1 p2) st'):blB (Ed Pd) (RB p g w a b c) s:=by
  obtain ⟨p0,p1,p2,p3,p4,p5,p6,p7,p8,rfl,h0,h2,h3,h4,h5,h6,h7⟩:=nine pin
  have hk:p7=(k:Int):=by simpa using hk
  subst hk
  refine seqA ?_
  simp only [qL,qU,qA,qZ,qV,qK,List.getElem?_cons_zero,List.getElem?_cons_succ]
  refine ⟨z10 3 (by decide),z10 3 (by decide),z10 3 (by decide),z10 3 (by decide),z10 2 (by decide),z10 5 (by decide),?_⟩
  generalize he1:s ++ [SO.rw _]=s1
  have x1:ExtS s s1:=he1 ▸ .app _ _
  have g1:s1[s.length]? = some (.rw (([⟨"num",[0,a]⟩,⟨"num",[1,b]⟩,⟨"num",[2,c]⟩,⟨"num",[3,9]⟩,⟨"tell",[2]⟩]:List Rw).map rowD)):=by rw [← he1];exact qX
  refine seqA ?_
  simp only [qB,qL,qU,qA,qZ,qV,qK,List.getElem?_cons_zero,List.getElem?_cons_succ,List.set_cons_zero,List.set_cons_succ]
  refine ⟨z10 5 (by decide),z10 6 (by decide),z10 5 (by decide),z10 4 (by decide),z10 4 (by decide),?_⟩
  refine ixVv (j:=7) (qY (x1 _ _ hp)) rfl ?_
  refine row_ix qX d.k4 ?_
  generalize he2:s1 ++ [SO.rw _]=s2
  have x2:ExtS s1 s2:=he2 ▸ .app _ _
  refine seqS ?_
  simp only [qR,qU,qB,qF,qL,qA,qZ,qV,qK,List.getElem?_cons_zero,List.getElem?_cons_succ,List.set_cons_zero,List.set_cons_succ]
  refine ixVv (j:=1) (x2 _ _ (x1 _ _ hp)) rfl ?_
  refine ixVv (j:=2) (x2 _ _ (x1 _ _ hp)) rfl ?_
  refine ⟨by decide,?_⟩
  simp only [L3.rAdd]
  refine ⟨z10 2 (by decide),z10 2 (by decide),z10 3 (by decide),?_⟩
  rw [qY (x2 _ _ g1),qX]
  refine ⟨by rw [sizeLine_eq];simp,?_⟩
  simp only [qH]
  rw [seq_of_get qX]
  generalize he3:s2 ++ [SO.rw _] ++ [SO.rw _]=s3
  have x3:ExtS s s3:=he3 ▸ fun j o hj=>qY (qY (x2 _ _ (x1 _ _ hj)))
  refine ⟨p,_,rfl,x3 _ _ hp,pin,fun st' x=>?_⟩
  refine ⟨z10 4 (by decide),?_⟩
  exact hP _ _ _ _ _ st' (fun j o hj=>x _ _ (x3 _ _ hj)) h0.1
theorem mod_in (x:Int) {n:Int} (h:0 < n):0≤x % n∧x % n < n:=⟨Int.emod_nonneg _ (by omega),Int.emod_lt_of_pos _ h⟩
theorem gIxD {g:GS} {j:Nat} {s:Sto} {d:Dt} {P:VD} (hj:[.int g.p,.tup (g.bs.map .int),msD g.m,svD g.sv,.tup (g.rs.map .int),.tup (g.cs.map .int)][j]? = some d) (h:P d s):qI g.d (.int (j:Int)) s P:=gIx (ρ:=[some g.d]) (i:=0) rfl hj h
theorem rd__law_block {ds:List Dt} {st:Sto} {Pd:VD} (h:spBlock ds st Pd):t__law_block (Ed Pd) (qW ["parts", "state", "word", "one", "two", "three", "rows", "row"] ds) st:=by
  obtain ⟨p,ps,g,rfl,hp,pin,ok,hP⟩:=h
  have pin0:=pin
  obtain ⟨p0,p1,p2,p3,p4,p5,p6,p7,p8,rfl,h0,h2,h3,h4,h5,h6,h7⟩:=nine pin
  obtain ⟨k,rfl⟩:∃ k:Nat,p7=(k:Int):=⟨p7.toNat,by omega⟩
  have k4:k < 4:=by omega
  show t__law_block (Ed Pd) [some (.lst p),some g.d,none,none,none,none,none,none] st
  refine seqA ?_
  simp only [qB,qL,qA,qZ,qV,qK,List.getElem?_cons_zero,List.getElem?_cons_succ]
  refine ⟨z10 4 (by decide),?_⟩
  refine ixVv (j:=7) (qY hp) rfl ?_
  refine ixVv (j:=k) (d:=.str (KD.iw (iwK k))) qX ?_ ?_
  · rcases (show k=0∨k=1∨k=2∨k=3 by omega) with rfl | rfl | rfl | rfl <;> rfl
  generalize he1:st ++ [SO.rw _]=s1
  have x1:ExtS st s1:=he1 ▸ .app _ _
  refine seqS ?_
  simp only [qE,qF,qA,qZ,qV,List.getElem?_cons_zero,List.getElem?_cons_succ,List.set_cons_zero,List.set_cons_succ]
  refine ⟨p,_,g,rfl,x1 _ _ hp,pin0,ok,fun a b c s2 n x2 d g2=>?_⟩
  have x02:ExtS st s2:=fun j o hj=>x2 _ _ (x1 _ _ hj)
  simp only [gunpack,seq_of_get g2,gscons,qG,gsnil]
  refine ⟨rfl,?_⟩
  show qS _ _ (Ed Pd) (RB p g (KD.iw (iwK k)) a b c) s2
  have sd:∀ P:Bool→Sto→Prop,P (KD.iw (iwK k) == Str.ofString "div") s2→qT (qB (qQ false) (qV 2) (qK (Dt.str (Str.ofString "div")))) (RB p g (KD.iw (iwK k)) a b c) s2 P:=eqS fun P hp=>hp
  have sr:∀ (b c:Int) s2,∀ P:Bool→Sto→Prop,P (KD.iw (iwK k) == Str.ofString "right") s2→qT (qB (qQ false) (qV 2) (qK (Dt.str (Str.ofString "right")))) (RB p g (KD.iw (iwK k)) a b c) s2 P:=fun b c s2=>eqS fun P hp=>hp
  have fin:∀ a b c s3,ExtS s2 s3→Dr k a b c→blB (Ed Pd) (RB p g (KD.iw (iwK k)) a b c) s3:=fun a b c s3 x3 d3=>rd_blB (x3 _ _ (x02 _ _ hp)) pin0 rfl d3 fun x y p0 p1 p2 st' x4 q0=>hP x y k a b c p0 p1 p2 st' (fun j o hj=>x4 _ _ (x3 _ _ (x02 _ _ hj))) d3 q0
  have five:∀ v0 v1 v2 v3 v4:Int,∀ {s:Sto} {n:Nat} {P:VD},s[n]? = some (.rw ([v0,v1,v2,v3,v4].map .int))→P (.int v0) s→P (.int v1) s→P (.int v2) s→P (.int v3) s→P (.int v4) s→qI (.lst n) (.int p0) s P:=by
    intro v0 v1 v2 v3 v4 s n P hn q0 q1 q2 q3 q4
    rcases (show p0=0∨p0=1∨p0=2∨p0=3∨p0=4 by omega) with rfl | rfl | rfl | rfl | rfl
    · exact ixVv (j:=0) hn rfl q0
    · exact ixVv (j:=1) hn rfl q1
    · exact ixVv (j:=2) hn rfl q2
    · exact ixVv (j:=3) hn rfl q3
    · exact ixVv (j:=4) hn rfl q4
  rcases (show k=0∨k=1∨k=2∨k=3 by omega) with rfl | rfl | rfl | rfl
  · refine seqIf sd (fun q=>absurd q (by decide +kernel)) fun _=>?_
    refine seqIf (sr _ _ _) (fun q=>absurd q (by decide +kernel)) fun _=>?_
    exact fin a b c s2 (.refl _) ⟨by decide,d.ha,d.hb,d.hc,fun q=>by cases q⟩
  · refine seqIf sd (fun q=>absurd q (by decide +kernel)) fun _=>?_
    refine seqIf (sr _ _ _) (fun q=>absurd q (by decide +kernel)) fun _=>?_
    exact fin a b c s2 (.refl _) ⟨by decide,d.ha,d.hb,d.hc,fun q=>by cases q⟩
  · refine seqIf sd (fun _=>?_) (fun q=>absurd q (by decide +kernel))
    refine seqA ?_
    simp only [qB,qL,qA,qZ,qV,qK,List.getElem?_cons_zero,List.getElem?_cons_succ]
    refine ixVv (j:=4) (x02 _ _ hp) rfl ?_
    refine ⟨z10 5 (by decide),?_⟩
    refine ixVv (j:=0) (qY (x02 _ _ hp)) rfl ?_
    have go:∀ v:Int,0≤v∧v < 65536→blA (Ed Pd) (RB p g (KD.iw (iwK 2)) a v 0) (s2 ++ [SO.rw [.int 0,.int b,.int 1,.int 65535,.int p4]]):=by
      intro v hv
      refine seqIf (sr _ _ _) (fun q=>absurd q (by decide +kernel)) fun _=>?_
      exact fin a v 0 _ (.app _ _) ⟨by decide,d.ha,hv,by decide,fun q=>by cases q⟩
    exact five 0 b 1 65535 p4 qX (go _ (by decide)) (go _ d.hb) (go _ (by decide)) (go _ (by decide)) (go _ h4)
  · refine seqIf sd (fun q=>absurd q (by decide +kernel)) fun _=>?_
    refine seqIf (sr _ _ _) (fun _=>?_) (fun q=>absurd q (by decide +kernel))
    refine seqA ?_
    simp only [qB,qL,qF,qA,qZ,qV,qK,List.getElem?_cons_zero,List.getElem?_cons_succ]
    refine gIxD (j:=4) rfl ?_
    simp only [rLen,seqOf,List.length_map,L3.rSub]
    refine gIxD (j:=4) rfl ?_
    simp only [rLen,seqOf,List.length_map]
    refine ⟨z10 5 (by decide),?_⟩
    refine ixVv (j:=0) (qY (x02 _ _ hp)) rfl ?_
    have go2:∀ v:Int,rMod (.int v) (.int 65536) (s2 ++ [SO.rw [.int ((g.rs.length:Int) - 1),.int (g.rs.length:Int),.int 0,.int 65535,.int a]]) fun d s1=>qS (qE (qB rMod (qB qI (qV 0) (qK (Dt.int 6))) (qK (Dt.int 8))) (qG 4)) qN { Ed Pd with nx:=blB (Ed Pd) } (List.set (RB p g (KD.iw (iwK 3)) a b c) 3 (some d)) s1:=by
      intro v
      refine ⟨by decide,?_⟩
      refine seqA ?_
      simp only [qB,qV,qK,List.getElem?_cons_zero,List.getElem?_cons_succ,List.set_cons_zero,List.set_cons_succ]
      refine ixVv (j:=6) (qY (x02 _ _ hp)) rfl ?_
      refine ⟨by decide,?_⟩
      have m8:=mod_in p6 (n:=8) (by decide)
      exact fin (v % 65536) (p6 % 8) c _ (.app _ _) ⟨by decide,mod_in _ (by decide),by omega,d.hc,fun _=>m8.2⟩
    exact five _ _ _ _ _ qX (go2 _) (go2 _) (go2 _) (go2 _) (go2 _)
end K62
namespace K62
open PySem PySem.Spec PyProof.Rows L2 L3 KS K02 K85 K06 KM KL
noncomputable abbrev t__law_left:TSD:=(qS (qE (qB qI (qB qI (qV 0) (qK (Dt.int 2))) (qK (Dt.int 5))) (qG 3)) (qS (qE (tcomp (iseq (tsliceA (qB qI (qV 0) (qK (Dt.int 2))) tonone (tosome (qK (Dt.int 3))))) (fun x st P=>P true st) (qB qI (qV 0) (qK (Dt.int 2))) []) (gunpack 3 (gscons (qG 4) (gscons (qG 5) (gscons (qG 6) gsnil))))) (qS (qE (qF rList (qA (qB qI (qV 1) (qK (Dt.int 5))) qZ)) (qG 7)) (qS (qE (qF rList (qA (qB qI (qV 1) (qK (Dt.int 4))) qZ)) (qG 8)) (qS (qE (qK (Dt.int 9)) (qG 9)) (qS (qE (qK (Dt.int 2)) (qG 10)) (qS (qJ (qT (qB (qQ false) (qB qI (qV 3) (qK (Dt.int 0))) (qK (Dt.str (Str.ofString "div"))))) (qS (qJ (qT (qB (qQ false) (qV 5) (qK (Dt.int 0)))) (qS (qE (qK (Dt.int 3)) (qG 10)) qN) (qS (qE (qB rDiv (qV 4) (qV 5)) (qG 9)) qN)) qN) (qS (qJ (qT (qB (qQ false) (qB qI (qV 3) (qK (Dt.int 0))) (qK (Dt.str (Str.ofString "right"))))) (qS (qJ (qT (qB (rCmpI fun i j=>decide (j≤i)) (qV 4) (qF rLen (qA (qV 8) qZ)))) (qS (qE (qK (Dt.int 4)) (qG 10)) qN) (qS (qE (qV 5) (gsub (qV 8) (qV 4))) qN)) qN) (qS (qJ (torB (qT (qB (rCmpI fun i j=>decide (j≤i)) (qB L3.rAdd (qV 4) (qV 5)) (qF rLen (qA (qV 7) qZ)))) (qT (qB (qQ false) (qB rMod (qB rDiv (qB rMod (qB qI (qV 8) (qB rDiv (qB L3.rAdd (qV 4) (qV 5)) (qK (Dt.int 8)))) (qK (Dt.int 4))) (qB qI (qL (qA (qK (Dt.int 1)) (qA (qK (Dt.int 2)) qZ))) (qF rIntB (qA (qB (qQ false) (qB qI (qV 3) (qK (Dt.int 0))) (qK (Dt.str (Str.ofString "set")))) qZ)))) (qK (Dt.int 2))) (qK (Dt.int 0))))) (qS (qE (qK (Dt.int 0)) (qG 10)) qN) (qS (qJ (qT (qB (qQ false) (qB qI (qV 3) (qK (Dt.int 0))) (qK (Dt.str (Str.ofString "get"))))) (qS (qE (qB qI (qV 7) (qB L3.rAdd (qV 4) (qV 5))) (qG 9)) qN) (qS (qE (qV 6) (gsub (qV 7) (qB L3.rAdd (qV 4) (qV 5)))) (qS (qE (qB qI (qL (qA (qK (Dt.int 2)) (qA (qK (Dt.int 1)) qZ))) (qF rIntB (qA (qB (rInD false) (qB rDiv (qB L3.rAdd (qV 4) (qV 5)) (qK (Dt.int 8))) (qV 2)) qZ))) (qG 10)) qN))) qN)) qN)) qN)) (qS (qR (qU (qA (qV 10) (qA (qL (qA (qV 4) (qA (qV 5) (qA (qV 6) (qA (qV 9) qZ))))) (qA (qF qH (qA (qV 8) qZ)) (qA (qF qH (qA (qV 7) qZ)) qZ)))))) qN))))))))
noncomputable def lfI:TSD:=(qS (qJ (qT (qB (qQ false) (qB qI (qV 3) (qK (Dt.int 0))) (qK (Dt.str (Str.ofString "div"))))) (qS (qJ (qT (qB (qQ false) (qV 5) (qK (Dt.int 0)))) (qS (qE (qK (Dt.int 3)) (qG 10)) qN) (qS (qE (qB rDiv (qV 4) (qV 5)) (qG 9)) qN)) qN) (qS (qJ (qT (qB (qQ false) (qB qI (qV 3) (qK (Dt.int 0))) (qK (Dt.str (Str.ofString "right"))))) (qS (qJ (qT (qB (rCmpI fun i j=>decide (j≤i)) (qV 4) (qF rLen (qA (qV 8) qZ)))) (qS (qE (qK (Dt.int 4)) (qG 10)) qN) (qS (qE (qV 5) (gsub (qV 8) (qV 4))) qN)) qN) (qS (qJ (torB (qT (qB (rCmpI fun i j=>decide (j≤i)) (qB L3.rAdd (qV 4) (qV 5)) (qF rLen (qA (qV 7) qZ)))) (qT (qB (qQ false) (qB rMod (qB rDiv (qB rMod (qB qI (qV 8) (qB rDiv (qB L3.rAdd (qV 4) (qV 5)) (qK (Dt.int 8)))) (qK (Dt.int 4))) (qB qI (qL (qA (qK (Dt.int 1)) (qA (qK (Dt.int 2)) qZ))) (qF rIntB (qA (qB (qQ false) (qB qI (qV 3) (qK (Dt.int 0))) (qK (Dt.str (Str.ofString "set")))) qZ)))) (qK (Dt.int 2))) (qK (Dt.int 0))))) (qS (qE (qK (Dt.int 0)) (qG 10)) qN) (qS (qJ (qT (qB (qQ false) (qB qI (qV 3) (qK (Dt.int 0))) (qK (Dt.str (Str.ofString "get"))))) (qS (qE (qB qI (qV 7) (qB L3.rAdd (qV 4) (qV 5))) (qG 9)) qN) (qS (qE (qV 6) (gsub (qV 7) (qB L3.rAdd (qV 4) (qV 5)))) (qS (qE (qB qI (qL (qA (qK (Dt.int 2)) (qA (qK (Dt.int 1)) qZ))) (qF rIntB (qA (qB (rInD false) (qB rDiv (qB L3.rAdd (qV 4) (qV 5)) (qK (Dt.int 8))) (qV 2)) qZ))) (qG 10)) qN))) qN)) qN)) qN)) (qS (qR (qU (qA (qV 10) (qA (qL (qA (qV 4) (qA (qV 5) (qA (qV 6) (qA (qV 9) qZ))))) (qA (qF qH (qA (qV 8) qZ)) (qA (qF qH (qA (qV 7) qZ)) qZ)))))) qN))
noncomputable def lfR:TSD:=(qS (qR (qU (qA (qV 10) (qA (qL (qA (qV 4) (qA (qV 5) (qA (qV 6) (qA (qV 9) qZ))))) (qA (qF qH (qA (qV 8) qZ)) (qA (qF qH (qA (qV 7) qZ)) qZ)))))) qN)
noncomputable abbrev RL (blk:Dt) (g:GS) (wt:List Int) (row:Rw) (a b c:Int) (nc nr:Nat) (br le:Int):Rho:=[some blk,some g.d,some (.tup (wt.map .int)),some (rowD row),some (.int a),some (.int b),some (.int c),some (.lst nc),some (.lst nr),some (.int br),some (.int le)]
section
variable {blk:Dt} {g:GS} {wt:List Int} {row:Rw} {a b c:Int} {nc nr:Nat} {br le:Int} {s:Sto} {Pd:VD}
theorem rd_lfR {rs cs:List Int} (hr:s[nr]? = some (.rw (rs.map .int))) (hc:s[nc]? = some (.rw (cs.map .int))) (hP:∀ n s',ExtS s s'→s'[n]? = some (.rw ([a,b,c,br].map .int))→Pd (.tup [.int le,.lst n,.tup (rs.map .int),.tup (cs.map .int)]) s'):lfR (Ed Pd) (RL blk g wt row a b c nc nr br le) s:=by
  refine seqS ?_
  simp only [qR,qU,qL,qF,qA,qZ,qV,qK,List.getElem?_cons_zero,List.getElem?_cons_succ]
  refine ⟨z10 4 (by decide),?_⟩
  simp only [qH,seq_of_get (qY hr),seq_of_get (qY hc)]
  exact ⟨z10 4 (by decide),hP _ _ (.app _ _) qX⟩
theorem ixW {s:Sto} {r:Rw} {P:VD} (h:P (.str r.w) s):qI (rowD r) (.int 0) s P:=ix0 (r:=r) (ρ:=[some (rowD r)]) (i:=0) rfl P h
theorem mayT {r:Int} {t:Bool} (ok:g.Ok) (ha:0≤a∧a < 65536) (hb:0≤b∧b < 65536) (hr:s[nr]? = some (.rw (g.rs.map .int))) (hc:s[nc]? = some (.rw (g.cs.map .int))) (hw:(row.w == Str.ofString "set")=t) (er:r=if t then 2 else 1)
    {P:Bool→Sto→Prop} (h:∀ s',ExtS s s'→P (!(may r g (a + b))) s'):(torB (qT (qB (rCmpI fun i j=>decide (j≤i)) (qB L3.rAdd (qV 4) (qV 5)) (qF rLen (qA (qV 7) qZ)))) (qT (qB (qQ false) (qB rMod (qB rDiv (qB rMod (qB qI (qV 8) (qB rDiv (qB L3.rAdd (qV 4) (qV 5)) (qK (Dt.int 8)))) (qK (Dt.int 4))) (qB qI (qL (qA (qK (Dt.int 1)) (qA (qK (Dt.int 2)) qZ))) (qF rIntB (qA (qB (qQ false) (qB qI (qV 3) (qK (Dt.int 0))) (qK (Dt.str (Str.ofString "set")))) qZ)))) (qK (Dt.int 2))) (qK (Dt.int 0))))) (RL blk g wt row a b c nc nr br le) s P:=by
  simp only [torB,qT,qB,qF,qA,qZ,qV,qK,L3.rAdd,rLen,seq_of_get hc,rCmpI,List.length_map,List.getElem?_cons_zero,List.getElem?_cons_succ]
  have hq:0≤a + b:=by omega
  have e0:may r g (a + b)=((decide (0≤a + b) && decide (a + b < g.cs.length)) && decide (g.rs.getD ((a + b) / 8).toNat 0 / r % 2=1)):=rfl
  by_cases hl:a + b < (g.cs.length:Int)
  · have hd:decide ((g.cs.length:Int)≤a + b)=false:=by simp;omega
    rw [hd]
    refine iteF ?_
    refine ⟨cdiv (by decide) (by decide),?_⟩
    have c8:=ok.c8
    obtain ⟨j,ej,hj⟩:∃ j:Nat,(a + b) / 8=(j:Int)∧j < g.rs.length:=⟨((a + b) / 8).toNat,by omega,by omega⟩
    rw [ej]
    refine ixVv (d:=.int g.rs[j]) hr (by simp [hj]) ?_
    have hv:=ok.rb g.rs[j] (List.getElem_mem hj)
    have em:may r g (a + b)=decide (g.rs[j] / r % 2=1):=by
      rw [e0,ej]
      have h1:decide (0≤a + b)=true:=by simpa using hq
      have h2:decide (a + b < (g.cs.length:Int))=true:=by simpa using hl
      rw [h1,h2,Int.toNat_natCast,List.getD_eq_getElem?_getD,List.getElem?_eq_getElem hj]
      rfl
    generalize g.rs[j]=v at hv em
    refine ⟨by decide,?_⟩
    simp only [qL,qA,qZ,qK]
    refine ⟨z10 2 (by decide),?_⟩
    refine ixW ?_
    show qQ false (.str row.w) (.str (Str.ofString "set")) _ _
    refine ⟨rfl,rfl,?_⟩
    have ee:(eqD 8 (.str row.w) (.str (Str.ofString "set")) != false)=t:=by rw [K85.bneF];exact hw
    rw [ee]
    simp only [rIntB]
    have fin:∀ (r':Int),r'=1∨r'=2→r'=r→rDiv (.int (v % 4)) (.int r') (s ++ [SO.rw [.int 1,.int 2]]) fun x st1=>rMod x (.int 2) st1 fun x st1=>qQ false x (.int 0) st1 fun x st1=>match x with | .bl k=>P k st1 | _=>False:=by
      intro r' hr' e
      subst e
      refine ⟨cdiv (by omega) (by omega),by decide,rfl,rfl,?_⟩
      have e2:(eqD 8 (.int (v % 4 / r' % 2)) (.int 0) != false) = !(may r' g (a + b)):=by
        rw [em,K85.bneF]
        show (v % 4 / r' % 2 == 0)=_
        rcases hr' with rfl | rfl
        · by_cases hh:v / 1 % 2=1
          · rw [decide_eq_true hh];simp;omega
          · rw [decide_eq_false hh];simp;omega
        · by_cases hh:v / 2 % 2=1
          · rw [decide_eq_true hh];simp;omega
          · rw [decide_eq_false hh];simp;omega
      rw [e2]
      exact h _ (.app _ _)
    cases t with
    | true=>exact ixVv (j:=1) qX rfl (fin 2 (.inr rfl) er.symm)
    | false=>exact ixVv (j:=0) qX rfl (fin 1 (.inl rfl) er.symm)
  · have hd:decide ((g.cs.length:Int)≤a + b)=true:=by simp;omega
    rw [hd]
    refine iteT ?_
    have em:may r g (a + b)=false:=by
      rw [e0]
      have h2:decide (a + b < (g.cs.length:Int))=false:=by simpa using hl
      rw [h2,Bool.and_false,Bool.false_and]
    have:=h s (.refl _)
    rw [em] at this
    exact this
theorem setI {i n k:Nat} {v:Int} {xs:List Int} {ρ:Rho} {ti:TD} {R:Rho→Sto→Prop} (hn:s[n]? = some (.rw (xs.map .int))) (hto:ρ[i]? = some (some (.lst n))) (hti:∀ Q:VD,Q (.int (k:Int)) s→ti ρ s Q) (hk:k < xs.length) (h:R ρ (s.set n (.rw ((xs.set k v).map .int)))):gsub (qV i) ti (.int v) ρ s R:=by
  refine KM.tv hto (hti _ ?_)
  show match s[n]? with | some (.rw xs)=>_ | _=>False
  rw [hn]
  have e:ixN (xs.map Dt.int).length (k:Int)=some k:=by
    unfold ixN
    rw [List.length_map]
    have:(0:Int)≤(k:Int):=by omega
    have h2:(k:Int) < (xs.length:Int):=by omega
    simp [this,h2]
  show match ixN (xs.map Dt.int).length (k:Int) with | some j=>_ | none=>False
  rw [e]
  show R ρ (s.set n (.rw ((xs.map Dt.int).set k (.int v))))
  rw [← List.map_set];exact h
theorem wT {nm:Str}:∀ P:Bool→Sto→Prop,P (row.w == nm) s→qT (qB (qQ false) (qB qI (qV 3) (qK (Dt.int 0))) (qK (Dt.str nm))) (RL blk g wt row a b c nc nr br le) s P:=eqS (ix0 (r:=row) (i:=3) rfl)
theorem wTb {nm:Str} {t:Bool} (h:(row.w == nm)=t):∀ P:Bool→Sto→Prop,P t s→qT (qB (qQ false) (qB qI (qV 3) (qK (Dt.int 0))) (qK (Dt.str nm))) (RL blk g wt row a b c nc nr br le) s P:=h ▸ wT
theorem lt_toNat {a:Int} {n:Nat} (h0:0≤a) (h:a < (n:Int)):∃ k:Nat,a=(k:Int)∧k < n:=⟨a.toNat,by omega,by omega⟩
theorem rd_lfI {k:Nat} (ok:g.Ok) (d:Dr k a b c) (hr:s[nr]? = some (.rw (g.rs.map .int))) (hc:s[nc]? = some (.rw (g.cs.map .int))) (hwl:wt.length≤16) {st:Sto} (hx:ExtS st s) (hn1:st.length≤nr) (hn2:st.length≤nc) (hne:nr≠nc)
    (hP:∀ n st',ExtS st st'→st'[n]? = some (.rw ((hnd g k a b c).map .int))→Pd (.tup [.int (leaveK g wt k a b c:Nat),.lst n,.tup ((resK g k a b c).2.1.rs.map .int),.tup ((resK g k a b c).2.1.cs.map .int)]) st'):lfI (Ed Pd) (RL blk g wt (rowK k) a b c nc nr 9 2) s:=by
  have fin:∀ (le br:Int) (rs cs:List Int) s2,ExtS st s2→s2[nr]? = some (.rw (rs.map .int))→s2[nc]? = some (.rw (cs.map .int))→rs=(resK g k a b c).2.1.rs→cs=(resK g k a b c).2.1.cs→br=brK g k a b c→le=(leaveK g wt k a b c:Nat)→lfR (Ed Pd) (RL blk g wt (rowK k) a b c nc nr br le) s2:=by
    intro le br rs cs s2 x2 g1 g2 e1 e2 e3 e4
    subst e1 e2 e3 e4
    exact rd_lfR g1 g2 fun n s' x h=>hP n s' (fun j o hj=>x _ _ (x2 _ _ hj)) h
  have ha:=d.ha
  have hb:=d.hb
  have b8:=ok.b8
  have b0:∀ v:Int,(g.bs.set (0:Int).toNat v).getD 0 0=v:=by
    intro v
    show (g.bs.set 0 v).getD 0 0=v
    rw [List.getD_eq_getElem?_getD,List.getElem?_set_self (by omega)];rfl
  have c8:=ok.c8
  have on_f:∀ h:Str,(h == Str.ofString "on")=false→decide (h=Str.ofString "on")=false:=by
    intro h e;rw [← K02.str_eq];exact e
  rcases (show k=0∨k=1∨k=2∨k=3 by have:=d.k4;omega) with rfl | rfl | rfl | rfl
  · -- get
    have eR:resK g 0 a b c=getG g 0 (a + b):=rfl
    refine seqS (ifS (b:=false) (st':=s) (wTb (by decide +kernel)) (fun q=>by cases q) fun _=>?_)
    refine seqS (ifS (b:=false) (st':=s) (wTb (by decide +kernel)) (fun q=>by cases q) fun _=>?_)
    refine seqS ?_
    refine mayT ok ha hb hr hc (t:=false) (r:=1) (by decide +kernel) rfl fun s2 x2=>?_
    have xx:ExtS st s2:=fun j o hj=>x2 _ _ (hx _ _ hj)
    cases em:may 1 g (a + b) with
    | false =>
      have e1:resK g 0 a b c=leftG "closed" g:=by rw [eR];unfold getG;rw [em];rfl
      have eo:onK g 0 a b c=false:=by unfold onK;rw [e1];first | exact on_f (Str.ofString "closed") (by decide +kernel) | exact on_f (Str.ofString "nought") (by decide +kernel)
      refine iteT ?_
      refine seqA ?_
      refine fin 0 9 _ _ s2 xx (x2 _ _ hr) (x2 _ _ hc) (by rw [e1];rfl) (by rw [e1];rfl) ?_ ?_
      · unfold brK;rw [eo];rfl
      · unfold leaveK;rw [eo];rfl
    | true =>
      have e1:resK g 0 a b c=onG (boxG g 0 (g.cs.getD (a + b).toNat 0)):=by rw [eR];unfold getG;rw [em];rfl
      have eo:onK g 0 a b c=true:=by unfold onK;rw [e1];exact decide_eq_true rfl
      have hl:a + b < (g.cs.length:Int):=by
        have h:=em
        simp only [may,Bool.and_eq_true,decide_eq_true_eq] at h
        exact h.1.2
      obtain ⟨j,ej,hj⟩:=lt_toNat (show 0≤a + b by omega) hl
      refine iteF ?_
      refine seqS (ifS (b:=true) (st':=s2) (wTb (by decide +kernel)) (fun _=>?_) fun q=>by cases q)
      refine seqA ?_
      simp only [qB,qV,List.getElem?_cons_zero,List.getElem?_cons_succ,L3.rAdd]
      rw [ej]
      refine ixVv (d:=.int g.cs[j]) (x2 _ _ hc) (by simp [hj]) ?_
      refine fin 2 g.cs[j] _ _ s2 xx (x2 _ _ hr) (x2 _ _ hc) (by rw [e1];rfl) (by rw [e1];rfl) ?_ ?_
      · unfold brK;rw [eo,e1]
        show _=(g.bs.set (0:Int).toNat (g.cs.getD (a + b).toNat 0)).getD 0 0
        rw [b0,ej,Int.toNat_natCast,List.getD_eq_getElem?_getD,List.getElem?_eq_getElem hj];rfl
      · unfold leaveK;rw [eo];rfl
  · -- set
    have eR:resK g 1 a b c=setG g c (a + b):=rfl
    refine seqS (ifS (b:=false) (st':=s) (wTb (by decide +kernel)) (fun q=>by cases q) fun _=>?_)
    refine seqS (ifS (b:=false) (st':=s) (wTb (by decide +kernel)) (fun q=>by cases q) fun _=>?_)
    refine seqS ?_
    refine mayT ok ha hb hr hc (t:=true) (r:=2) (by decide +kernel) rfl fun s2 x2=>?_
    have xx:ExtS st s2:=fun j o hj=>x2 _ _ (hx _ _ hj)
    cases em:may 2 g (a + b) with
    | false =>
      have e1:resK g 1 a b c=leftG "closed" g:=by rw [eR];unfold setG;rw [em];rfl
      have eo:onK g 1 a b c=false:=by unfold onK;rw [e1];first | exact on_f (Str.ofString "closed") (by decide +kernel) | exact on_f (Str.ofString "nought") (by decide +kernel)
      refine iteT ?_
      refine seqA ?_
      refine fin 0 9 _ _ s2 xx (x2 _ _ hr) (x2 _ _ hc) (by rw [e1];rfl) (by rw [e1];rfl) ?_ ?_
      · unfold brK;rw [eo];rfl
      · unfold leaveK;rw [eo];rfl
    | true =>
      have e1:resK g 1 a b c=onG { next g with cs:=g.cs.set (a + b).toNat c }:=by rw [eR];unfold setG;rw [em];rfl
      have eo:onK g 1 a b c=true:=by unfold onK;rw [e1];exact decide_eq_true rfl
      have hl:a + b < (g.cs.length:Int):=by
        have h:=em
        simp only [may,Bool.and_eq_true,decide_eq_true_eq] at h
        exact h.1.2
      obtain ⟨j,ej,hj⟩:=lt_toNat (show 0≤a + b by omega) hl
      refine iteF ?_
      refine seqS (ifS (b:=false) (st':=s2) (wTb (by decide +kernel)) (fun q=>by cases q) fun _=>?_)
      refine seqS ?_
      refine KM.asgT (KM.tv (d:=.int c) rfl ?_)
      refine setI (n:=nc) (k:=j) (v:=c) (xs:=g.cs) (x2 _ _ hc) rfl (fun Q hq=>?_) hj ?_
      · simp only [qB,qV,List.getElem?_cons_zero,List.getElem?_cons_succ,L3.rAdd]
        rw [ej];exact hq
      have h3:(s2.set nc (.rw ((g.cs.set j c).map .int)))[nc]? = some (.rw ((g.cs.set j c).map .int)):=KM.get_set_self (x2 _ _ hc)
      have h4:(s2.set nc (.rw ((g.cs.set j c).map .int)))[nr]? = some (.rw (g.rs.map .int)):=get_set_ne (x2 _ _ hr) (by omega)
      have x3:ExtS st (s2.set nc (.rw ((g.cs.set j c).map .int))):=fun n o hn=>get_set_ne (xx _ _ hn) (by have:=lt_of_get hn;omega)
      generalize s2.set nc (.rw ((g.cs.set j c).map .int))=s3 at h3 h4 x3
      dsimp only
      refine seqA ?_
      simp only [qB,qL,qF,qA,qZ,qV,qK,List.getElem?_cons_zero,List.getElem?_cons_succ,L3.rAdd]
      refine ⟨z10 2 (by decide),cdiv (by decide) (by decide),?_⟩
      show okD 0 (.int ((a + b) / 8))=true∧(wt.map Dt.int).all (okD 0)=true∧_
      refine ⟨rfl,by simp [okD],?_⟩
      have ew:(((wt.map Dt.int).any fun z=>eqD 0 z (.int ((a + b) / 8))) != false)=KD.shutB .set [a,b,c] wt:=by rw [K85.bneF];rfl
      rw [ew]
      have el:∀ s4,ExtS s3 s4→∀ le:Int,le=(leaveK g wt 1 a b c:Nat)→lfR (Ed Pd) (RL blk g wt (rowK 1) a b c nc nr 9 le) s4:=fun s4 x4 le h=>fin le 9 _ _ s4 (fun j o hj=>x4 _ _ (x3 _ _ hj)) (x4 _ _ h4) (x4 _ _ h3) (by rw [e1];rfl) (by rw [e1];show g.cs.set j c=g.cs.set (a + b).toNat c;rw [ej];rfl) (by unfold brK;rw [eo];rfl) h
      have elv:(leaveK g wt 1 a b c)=if KD.shutB .set [a,b,c] wt=true then 1 else 2:=by unfold leaveK;rw [eo];rfl
      simp only [rIntB]
      cases es:KD.shutB .set [a,b,c] wt with
      | true=>exact ixVv (j:=1) qX rfl (el _ (.app _ _) 1 (by rw [elv,es];rfl))
      | false=>exact ixVv (j:=0) qX rfl (el _ (.app _ _) 2 (by rw [elv,es];rfl))
  · -- div
    have eR:resK g 2 a b c=divG g 0 a b:=rfl
    refine seqS (ifS (b:=true) (st':=s) (wTb (by decide +kernel)) (fun _=>?_) fun q=>by cases q)
    refine seqS (ifS (b:=decide (b=0)) (st':=s) (eqI fun P hp=>hp) (fun q=>?_) fun q=>?_)
    · have hb0:b=0:=by simpa using q
      have e1:resK g 2 a b c=leftG "nought" g:=by rw [eR];unfold divG;rw [if_pos hb0]
      have eo:onK g 2 a b c=false:=by unfold onK;rw [e1];first | exact on_f (Str.ofString "closed") (by decide +kernel) | exact on_f (Str.ofString "nought") (by decide +kernel)
      refine seqA ?_
      refine fin 3 9 _ _ s hx hr hc (by rw [e1];rfl) (by rw [e1];rfl) ?_ ?_
      · unfold brK;rw [eo];rfl
      · unfold leaveK;rw [eo];rfl
    · have hb0:b≠0:=by simpa using q
      have e1:resK g 2 a b c=onG (outG g 0 (a / b) (decide (a % b≠0))):=by rw [eR];unfold divG;rw [if_neg hb0]
      have eo:onK g 2 a b c=true:=by unfold onK;rw [e1];exact decide_eq_true rfl
      refine seqA ?_
      simp only [qB,qV,List.getElem?_cons_zero,List.getElem?_cons_succ]
      refine ⟨cdiv (by omega) (by omega),?_⟩
      refine fin 2 (a / b) _ _ s hx hr hc (by rw [e1];rfl) (by rw [e1];rfl) ?_ ?_
      · unfold brK;rw [eo,e1]
        exact (b0 (a / b)).symm
      · unfold leaveK;rw [eo];rfl
  · -- right
    have eR:resK g 3 a b c=rightG g a b:=rfl
    refine seqS (ifS (b:=false) (st':=s) (wTb (by decide +kernel)) (fun q=>by cases q) fun _=>?_)
    refine seqS (ifS (b:=true) (st':=s) (wTb (by decide +kernel)) (fun _=>?_) fun q=>by cases q)
    refine seqS (ifS (b:=decide ((g.rs.length:Int)≤a)) (st':=s) ?_ (fun q=>?_) fun q=>?_)
    · intro P hp
      simp only [qT,qB,qF,qA,qZ,qV,rLen,seq_of_get hr,rCmpI,List.length_map,List.getElem?_cons_zero,List.getElem?_cons_succ]
      exact hp
    · have h0:¬ (0≤a∧a < (g.rs.length:Int)):=by simp at q;omega
      have e1:resK g 3 a b c=leftG "closed" g:=by rw [eR];unfold rightG;rw [if_neg h0]
      have eo:onK g 3 a b c=false:=by unfold onK;rw [e1];first | exact on_f (Str.ofString "closed") (by decide +kernel) | exact on_f (Str.ofString "nought") (by decide +kernel)
      refine seqA ?_
      refine fin 4 9 _ _ s hx hr hc (by rw [e1];rfl) (by rw [e1];rfl) ?_ ?_
      · unfold brK;rw [eo];rfl
      · unfold leaveK;rw [eo];rfl
    · have h0:0≤a∧a < (g.rs.length:Int):=by simp at q;omega
      have e1:resK g 3 a b c=onG { next g with rs:=g.rs.set a.toNat b }:=by rw [eR];unfold rightG;rw [if_pos h0]
      have eo:onK g 3 a b c=true:=by unfold onK;rw [e1];exact decide_eq_true rfl
      obtain ⟨j,ej,hj⟩:=lt_toNat h0.1 h0.2
      refine seqS ?_
      refine KM.asgT (KM.tv (d:=.int b) rfl ?_)
      refine setI (n:=nr) (k:=j) (v:=b) (xs:=g.rs) hr rfl (fun Q hq=>?_) hj ?_
      · simp only [qV,List.getElem?_cons_zero,List.getElem?_cons_succ]
        rw [ej];exact hq
      refine fin 2 9 (g.rs.set j b) _ _ ?_ (KM.get_set_self hr) (get_set_ne hc (by omega)) ?_ (by rw [e1];rfl) ?_ ?_
      · exact fun n o hn=>get_set_ne (hx _ _ hn) (by have:=lt_of_get hn;omega)
      · rw [e1];show g.rs.set j b=g.rs.set a.toNat b;rw [ej];rfl
      · unfold brK;rw [eo];rfl
      · unfold leaveK;rw [eo];rfl
theorem ixT {xs:List Dt} {j:Nat} {d:Dt} {s:Sto} {P:VD} (hj:xs[j]? = some d) (h:P d s):qI (.tup xs) (.int (j:Int)) s P:=rS (ρ:=[some (.tup xs)]) (i:=0) rfl hj P h
theorem cut3 {k:Nat}:L3.cutD ((rowsL k a b c).map rowD) none (some 3)=[rowD ⟨"num",[0,a]⟩,rowD ⟨"num",[1,b]⟩,rowD ⟨"num",[2,c]⟩]:=rfl
theorem rd__law_left {ds:List Dt} {st:Sto} {Pd:VD} (h:spLeft ds st Pd):t__law_left (Ed Pd) (qW ["block", "state", "watched", "row", "one", "two", "three", "cells", "rights", "brought", "leave"] ds) st:=by
  obtain ⟨x,y,k,a,b,c,p0,p1,p2,g,wt,rfl,d,ok,hwl,hP⟩:=h
  show t__law_left (Ed Pd) [some (blkD x y k a b c p0 p1 p2),some g.d,some (.tup (wt.map .int)),none,none,none,none,none,none,none,none] st
  refine seqA ?_
  have b2:∀ {s:Sto} {P:VD},P (.tup ((rowsL k a b c).map rowD)) s→qI (blkD x y k a b c p0 p1 p2) (.int 2) s P:=fun {s P} h=>rS (ρ:=[some (blkD x y k a b c p0 p1 p2)]) (i:=0) (j:=2) rfl rfl P h
  simp only [qB,qV,qK,List.getElem?_cons_zero,List.getElem?_cons_succ]
  refine b2 ?_
  refine ixT (j:=5) (d:=rowD (rowK k)) rfl ?_
  refine seqS ?_
  simp only [qE,tcomp,iseq,tsliceA,qB,qV,qK,tosome,tonone,capρ,List.map_nil,List.set_cons_zero,List.set_cons_succ,List.getElem?_cons_zero,List.getElem?_cons_succ]
  refine b2 ?_
  show compD (L3.cutD ((rowsL k a b c).map rowD) none (some 3)) _ _ _ _ _ _
  rw [cut3]
  refine relC (fun i y=>y = .int ([a,b,c].getD i 0)) (fun s' _=>rfl) (by simp) ?_ ?_
  · intro i r s hr hx P hp
    have hi:i < 3:=(List.getElem?_eq_some_iff.mp hr).1
    show qI r (.int ((2:Nat):Int)) s P
    rcases (show i=0∨i=1∨i=2 by omega) with rfl | rfl | rfl
    · cases hr;exact ixT (xs:=[.str "num",.int 0,.int a]) rfl (hp _ _ (.refl _) rfl)
    · cases hr;exact ixT (xs:=[.str "num",.int 1,.int b]) rfl (hp _ _ (.refl _) rfl)
    · cases hr;exact ixT (xs:=[.str "num",.int 2,.int c]) rfl (hp _ _ (.refl _) rfl)
  · intro ys s hx yl yr
    obtain rfl:ys=[.int a,.int b,.int c]:=by
      have e:=mapR (f:=fun i=>.int ([a,b,c].getD i 0)) yl yr
      rw [e];rfl
    simp only [gunpack,seq_of_get qX,gscons,qG,gsnil]
    refine ⟨rfl,?_⟩
    have x1:ExtS st (s ++ [SO.rw [.int a,.int b,.int c]]):=fun j o hj=>qY (hx _ _ hj)
    generalize s ++ [SO.rw [.int a,.int b,.int c]]=s1 at x1
    refine seqA ?_
    simp only [qF,qA,qZ,qB,qV,qK,List.set_cons_zero,List.set_cons_succ,List.getElem?_cons_zero,List.getElem?_cons_succ]
    refine gIxD (j:=5) rfl ?_
    simp only [rList,seqOf]
    refine seqA ?_
    simp only [qF,qA,qZ,qB,qV,qK,List.set_cons_zero,List.set_cons_succ,List.getElem?_cons_zero,List.getElem?_cons_succ]
    refine gIxD (j:=4) rfl ?_
    simp only [rList,seqOf]
    refine seqA ?_
    refine seqA ?_
    have le:st.length≤s1.length:=ext_le' x1
    refine rd_lfI (nc:=s1.length) (nr:=(s1 ++ [SO.rw (g.cs.map .int)]).length) (st:=st) ok d qX (qY qX) hwl (fun j o hj=>qY (qY (x1 _ _ hj))) ?_ le ?_ hP
    · simp;omega
    · simp
end
end K62
namespace K62
open PySem PySem.Spec PyProof.Rows L2 L3 KS K02 K85 K06 KM KL
noncomputable abbrev t__law_due:TSD:=(qS (qE (qF spLeft (qA (qV 0) (qA (qV 1) (qA (qV 2) qZ)))) (gunpack 4 (gscons (qG 3) (gscons (qG 4) (gscons (qG 5) (gscons (qG 6) gsnil)))))) (qS (qE (qB qI (qB qI (qV 0) (qK (Dt.int 3))) (qV 3)) (gunpack 5 (gscons (qG 7) (gscons (qG 8) (gscons (qG 9) (gscons (qG 10) (gscons (qG 11) gsnil))))))) (qS (qJ (qT (qF rIsInst (qA (qV 8) (qA (qK (Dt.ty "tuple")) qZ)))) (qS (qE (qB qI (qV 4) (qB qI (qV 8) (qK (Dt.int 1)))) (qG 8)) qN) qN) (qS (qE (qF qH (qA (tcomp (iseq (qV 9)) (fun x st P=>P true st) (qB qI (qV 1) (qB qI (qV 0) (qK (Dt.int 1)))) [(4, "hands")]) qZ)) (qG 9)) (qS (qE (qF qH (qA (tcomp (iseq (qV 10)) (fun x st P=>P true st) (qB qI (qB qI (qV 1) (qK (Dt.int 2))) (qB qI (qV 0) (qK (Dt.int 1)))) [(1, "state")]) qZ)) (qG 10)) (qS (qE (qU (qA (qB qI (qV 4) (qK (Dt.int 2))) qZ)) (qG 12)) (qS (qE (qK (Dt.int 6)) (qG 13)) (qS (qJ (qT (qB (qQ false) (qV 3) (qK (Dt.int 2)))) (qS (qE (qU (qA (qB qI (qV 4) (qK (Dt.int 2))) (qA (qB qI (qV 4) (qK (Dt.int 3))) qZ))) (qG 12)) (qS (qE (qK (Dt.int 8)) (qG 13)) qN)) qN) (qS (qR (qU (qA (qV 7) (qA (qU (qA (qV 8) (qA (qV 9) (qA (qV 10) (qA (qB qI (qV 1) (qK (Dt.int 3))) (qA (qV 5) (qA (qV 6) qZ))))))) (qA (qV 12) (qA (qV 11) (qA (qK (Dt.int 0)) (qA (qV 13) qZ)))))))) qN)))))))))
noncomputable def duB:TSD:=(qS (qE (qF qH (qA (tcomp (iseq (qV 9)) (fun x st P=>P true st) (qB qI (qV 1) (qB qI (qV 0) (qK (Dt.int 1)))) [(4, "hands")]) qZ)) (qG 9)) (qS (qE (qF qH (qA (tcomp (iseq (qV 10)) (fun x st P=>P true st) (qB qI (qB qI (qV 1) (qK (Dt.int 2))) (qB qI (qV 0) (qK (Dt.int 1)))) [(1, "state")]) qZ)) (qG 10)) (qS (qE (qU (qA (qB qI (qV 4) (qK (Dt.int 2))) qZ)) (qG 12)) (qS (qE (qK (Dt.int 6)) (qG 13)) (qS (qJ (qT (qB (qQ false) (qV 3) (qK (Dt.int 2)))) (qS (qE (qU (qA (qB qI (qV 4) (qK (Dt.int 2))) (qA (qB qI (qV 4) (qK (Dt.int 3))) qZ))) (qG 12)) (qS (qE (qK (Dt.int 8)) (qG 13)) qN)) qN) (qS (qR (qU (qA (qV 7) (qA (qU (qA (qV 8) (qA (qV 9) (qA (qV 10) (qA (qB qI (qV 1) (qK (Dt.int 3))) (qA (qV 5) (qA (qV 6) qZ))))))) (qA (qV 12) (qA (qV 11) (qA (qK (Dt.int 0)) (qA (qV 13) qZ)))))))) qN))))))
noncomputable def duC:TSD:=(qS (qE (qU (qA (qB qI (qV 4) (qK (Dt.int 2))) qZ)) (qG 12)) (qS (qE (qK (Dt.int 6)) (qG 13)) (qS (qJ (qT (qB (qQ false) (qV 3) (qK (Dt.int 2)))) (qS (qE (qU (qA (qB qI (qV 4) (qK (Dt.int 2))) (qA (qB qI (qV 4) (qK (Dt.int 3))) qZ))) (qG 12)) (qS (qE (qK (Dt.int 8)) (qG 13)) qN)) qN) (qS (qR (qU (qA (qV 7) (qA (qU (qA (qV 8) (qA (qV 9) (qA (qV 10) (qA (qB qI (qV 1) (qK (Dt.int 3))) (qA (qV 5) (qA (qV 6) qZ))))))) (qA (qV 12) (qA (qV 11) (qA (qK (Dt.int 0)) (qA (qV 13) qZ)))))))) qN))))
noncomputable def duD:TSD:=(qS (qR (qU (qA (qV 7) (qA (qU (qA (qV 8) (qA (qV 9) (qA (qV 10) (qA (qB qI (qV 1) (qK (Dt.int 3))) (qA (qV 5) (qA (qV 6) qZ))))))) (qA (qV 12) (qA (qV 11) (qA (qK (Dt.int 0)) (qA (qV 13) qZ)))))))) qN)
noncomputable abbrev RD (blk:Dt) (g:GS) (wt:List Int) (e n:Nat) (rs cs:List Int) (how:Str) (pl:Dt) (bs ms:List Dt) (dn:Int):Rho:=[some blk,some g.d,some (.tup (wt.map .int)),some (.int (e:Int)),some (.lst n),some (.tup (rs.map .int)),some (.tup (cs.map .int)),some (.str how),some pl,some (.tup bs),some (.tup ms),some (.int dn),none,none]
section
variable {blk:Dt} {g:GS} {wt:List Int} {e n:Nat} {rs cs:List Int} {how:Str} {dn:Int} {s:Sto} {Pd:VD} {a b c br:Int}
theorem rd_duD {p x:Int} {vs told:List Int} {m:M3} (hP:Pd (.tup [.str how,(GS.mk p vs m g.sv rs cs).d,.tup (told.map .int),.int dn,.int 0,.int x]) s):duD (Ed Pd) [some blk,some g.d,some (.tup (wt.map .int)),some (.int (e:Int)),some (.lst n),some (.tup (rs.map .int)),some (.tup (cs.map .int)),some (.str how),some (.int p),some (.tup (vs.map .int)),some (.tup [.bl m.1,.bl m.2.1,.bl m.2.2]),some (.int dn),some (.tup (told.map .int)),some (.int x)] s:=by
  refine seqS ?_
  simp only [qR,qU,qA,qZ,qB,qV,qK,List.set_cons_zero,List.set_cons_succ,List.getElem?_cons_zero,List.getElem?_cons_succ]
  refine gIxD (j:=3) rfl ?_
  exact ⟨z10 6 (by decide),z10 6 (by decide),hP⟩
theorem rd_duC {p:Int} {vs:List Int} {m:M3} (hn:s[n]? = some (.rw ([a,b,c,br].map .int))) (hP:Pd (.tup [.str how,(GS.mk p vs m g.sv rs cs).d,.tup ((if e=2 then [c,br] else [c]).map .int),.int dn,.int 0,.int ((if e=2 then 8 else 6:Nat):Int)]) s):duC (Ed Pd) (RD blk g wt e n rs cs how (.int p) (vs.map .int) [.bl m.1,.bl m.2.1,.bl m.2.2] dn) s:=by
  refine seqA ?_
  simp only [qU,qA,qZ,qB,qV,qK,List.getElem?_cons_zero,List.getElem?_cons_succ]
  refine ixVv (j:=2) hn rfl ?_
  refine ⟨z10 1 (by decide),?_⟩
  refine seqA ?_
  refine seqIf (b:=decide ((e:Int)=2)) (st':=s) (eqI fun P hp=>hp) (fun q=>?_) fun q=>?_
  · have e2:e=2:=by simp at q;omega
    rw [if_pos e2,if_pos e2] at hP
    refine seqA ?_
    simp only [qU,qA,qZ,qB,qV,qK,List.set_cons_zero,List.set_cons_succ,List.getElem?_cons_zero,List.getElem?_cons_succ]
    refine ixVv (j:=2) hn rfl ?_
    refine ixVv (j:=3) hn rfl ?_
    refine ⟨z10 2 (by decide),?_⟩
    refine seqA ?_
    exact rd_duD hP
  · have e2:¬ e=2:=by simp at q;omega
    rw [if_neg e2,if_neg e2] at hP
    exact rd_duD hP
theorem rd_duB {p:Int} {H:List Int} (hn:s[n]? = some (.rw (H.map .int))) (hl:H=[a,b,c,br]) (hP:∀ s',ExtS s s'→Pd (.tup [.str how,(GS.mk p ((List.range 8).map fun j=>H.getD ((j + e) % 4) 0) (mB g.m (e % 3),mB g.m ((1 + e) % 3),mB g.m ((2 + e) % 3)) g.sv rs cs).d,.tup ((if e=2 then [c,br] else [c]).map .int),.int dn,.int 0,.int ((if e=2 then 8 else 6:Nat):Int)]) s'):duB (Ed Pd) (RD blk g wt e n rs cs how (.int p) (bsK e 8) (msK e 3) dn) s:=by
  refine seqA ?_
  simp only [qF,qA,qZ,tcomp,iseq,qV,seqOf,capρ,List.map_cons,List.map_nil,List.getElem?_cons_zero,List.getElem?_cons_succ,Option.join_some]
  refine relC (fun i y=>y = .int (H.getD ((i + e) % 4) 0)) (fun _ _=>trivial) (by simp [bsK]) ?_ ?_
  · intro i d s1 hd hx P hp
    have hi:i < 8:=by have:=(List.getElem?_eq_some_iff.mp hd).1;simpa [bsK] using this
    have hd':some (Dt.tup [.str "hand",.int (((i + e) % 4:Nat):Int)])=some d:=by rw [← hd];simp [bsK,hi]
    cases hd'
    simp only [qB,qV,qK,List.getElem?_cons_zero,List.getElem?_cons_succ]
    refine ixT (j:=1) rfl ?_
    have h4:(i + e) % 4 < H.length:=by rw [hl];exact Nat.mod_lt _ (by decide)
    refine ixVv (d:=.int (H.getD ((i + e) % 4) 0)) (hx _ _ hn) ?_ (hp _ _ (.refl _) rfl)
    rw [List.getElem?_map,List.getElem?_eq_getElem h4,List.getD_eq_getElem?_getD,List.getElem?_eq_getElem h4];rfl
  intro ys s1 x1 yl yr
  have ey:ys=((List.range 8).map fun j=>H.getD ((j + e) % 4) 0).map Dt.int:=by
    rw [mapR (n:=8) (f:=fun i=>.int (H.getD ((i + e) % 4) 0)) (by rw [yl];simp [bsK]) yr,List.map_map];rfl
  subst ey
  simp only [qH,seq_of_get qX]
  have x2:∀ o:SO,ExtS s (s1 ++ [o]):=fun o j o' hj=>qY (x1 _ _ hj)
  generalize hs2:s1 ++ [SO.rw _]=s2
  have x2:ExtS s s2:=hs2 ▸ x2 _
  refine seqA ?_
  simp only [qF,qA,qZ,tcomp,iseq,qV,seqOf,capρ,List.set_cons_zero,List.set_cons_succ,List.map_cons,List.map_nil,List.getElem?_cons_zero,List.getElem?_cons_succ,Option.join_some]
  refine relC (fun i y=>y = .bl (mB g.m ((i + e) % 3))) (fun _ _=>trivial) (by simp [msK]) ?_ ?_
  · intro i d s1 hd hx P hp
    have hi:i < 3:=by have:=(List.getElem?_eq_some_iff.mp hd).1;simpa [msK] using this
    have hd':some (Dt.tup [.str "old",.int (((i + e) % 3:Nat):Int)])=some d:=by rw [← hd];simp [msK,hi]
    cases hd'
    simp only [qB,qV,qK,List.getElem?_cons_zero,List.getElem?_cons_succ]
    refine gIxD (j:=2) rfl ?_
    refine ixT (j:=1) rfl ?_
    have h3:(i + e) % 3 < 3:=Nat.mod_lt _ (by decide)
    refine ixT (xs:=[.bl g.m.1,.bl g.m.2.1,.bl g.m.2.2]) (d:=.bl (mB g.m ((i + e) % 3))) ?_ (hp _ _ (.refl _) rfl)
    generalize (i + e) % 3=j at h3
    rcases (show j=0∨j=1∨j=2 by omega) with rfl | rfl | rfl <;> rfl
  intro ys s3 x3 yl yr
  have ey:ys=[.bl (mB g.m (e % 3)),.bl (mB g.m ((1 + e) % 3)),.bl (mB g.m ((2 + e) % 3))]:=by
    rw [mapR (n:=3) (f:=fun i=>.bl (mB g.m ((i + e) % 3))) (by rw [yl];simp [msK]) yr]
    show [Dt.bl (mB g.m ((0 + e) % 3)),_,_]=_
    rw [Nat.zero_add]
  subst ey
  simp only [qH,seq_of_get qX]
  have x4:∀ o:SO,ExtS s (s3 ++ [o]):=fun o j o' hj=>qY (x3 _ _ (x2 _ _ hj))
  refine rd_duC (m:=(mB g.m (e % 3),mB g.m ((1 + e) % 3),mB g.m ((2 + e) % 3))) (a:=a) (b:=b) (c:=c) (br:=br) ?_ (hP _ (x4 _))
  rw [← hl];exact x4 _ _ _ hn
end
theorem rd__law_due {ds:List Dt} {st:Sto} {Pd:VD} (h:spDue ds st Pd):t__law_due (Ed Pd) (qW ["block", "state", "watched", "leave", "hands", "rights", "cells", "how", "place", "boxes", "marks", "done", "told", "many"] ds) st:=by
  obtain ⟨x,y,k,a,b,c,p0,p1,p2,g,wt,rfl,d,ok,hwl,hP⟩:=h
  show t__law_due (Ed Pd) [some (blkD x y k a b c p0 p1 p2),some g.d,some (.tup (wt.map .int)),none,none,none,none,none,none,none,none,none,none,none] st
  refine seqS ?_
  simp only [qE,qF,qA,qZ,qV,List.getElem?_cons_zero,List.getElem?_cons_succ]
  refine ⟨x,y,k,a,b,c,p0,p1,p2,g,wt,rfl,d,ok,hwl,fun n s x1 hn=>?_⟩
  have e5:=leave_lt g wt k a b c
  have dd:dueD g wt k a b c p0 p1 p2=hostD (exK p0 p1 p2 (leaveK g wt k a b c)) (outS g wt k a b c p1) (if leaveK g wt k a b c=2 then [c,brK g k a b c] else [c]) 0 (if leaveK g wt k a b c=2 then 8 else 6):=rfl
  unfold outS at dd
  rw [dd] at hP
  simp only [] at hP
  generalize leaveK g wt k a b c=e at e5 hP
  simp only [gunpack,seqOf,gscons,qG,gsnil]
  refine ⟨rfl,?_⟩
  refine seqS ?_
  simp only [qE,qB,qV,qK,List.set_cons_zero,List.set_cons_succ,List.getElem?_cons_zero,List.getElem?_cons_succ]
  refine ixT (xs:=[.int x,.int y,.tup ((rowsL k a b c).map rowD),.tup ((exL p0 p1 p2 5).map exD)]) (j:=3) rfl ?_
  refine ixT (j:=e) (d:=exD (exK p0 p1 p2 e)) ?_ ?_
  · simp [exL,e5]
  simp only [gunpack,exD,seqOf,gscons,qG,gsnil]
  refine ⟨rfl,?_⟩
  have fin:∀ p:Int,p=(if e % 2=0 then ((e:Int) * 7 + p1) % 65536 else (hnd g k a b c).getD (e % 3) 0)→duB (Ed Pd) (RD (blkD x y k a b c p0 p1 p2) g wt e n (resK g k a b c).2.1.rs (resK g k a b c).2.1.cs (exK p0 p1 p2 e).how (.int p) (bsK e 8) (msK e 3) (exK p0 p1 p2 e).n) s:=by
    intro p ep
    subst ep
    exact rd_duB (a:=a) (b:=b) (c:=c) (br:=brK g k a b c) hn rfl fun s' x2=>hP s' fun j o hj=>x2 _ _ (x1 _ _ hj)
  by_cases h2:e % 2=0
  · have ea:(exK p0 p1 p2 e).at_ = .int (((e:Int) * 7 + p1) % 65536):=by simp [exK,h2]
    rw [ea]
    refine seqIf (b:=false) (st':=s) (fun P hp=>⟨.inr (.inr (.inr (.inl rfl))),hp⟩) (fun q=>by cases q) fun _=>?_
    exact fin _ (by rw [if_pos h2])
  · have ea:(exK p0 p1 p2 e).at_ = .tup [.str "hand",.int ((e % 3:Nat):Int)]:=by simp [exK,h2]
    rw [ea]
    refine seqIf (b:=true) (st':=s) (fun P hp=>⟨.inr (.inr (.inr (.inl rfl))),hp⟩) (fun _=>?_) fun q=>by cases q
    refine seqA ?_
    simp only [qB,qV,qK,List.set_cons_zero,List.set_cons_succ,List.getElem?_cons_zero,List.getElem?_cons_succ]
    refine ixT (j:=1) rfl ?_
    have h3:e % 3 < 4:=by omega
    refine ixVv (d:=.int ((hnd g k a b c).getD (e % 3) 0)) hn ?_ ?_
    · have h4:e % 3 < (hnd g k a b c).length:=h3
      rw [List.getElem?_map,List.getElem?_eq_getElem h4,List.getD_eq_getElem?_getD,List.getElem?_eq_getElem h4];rfl
    · exact fin _ (by rw [if_neg h2])
end K62
namespace K62
open PySem PySem.Spec PyProof.Rows L2 L3 KS K02 K85 K06 KM KL
noncomputable abbrev t_law:TSD:=(qS (qE (qB rMod (qF K85.spCellAt (qA (qV 0) (qA (qK (Dt.int 4)) qZ))) (qK (Dt.int 2))) (qG 1)) (qS (qE (qF KL.spState (qA (qV 0) (qA (qV 1) qZ))) (qG 2)) (qS (tfor (iseq (qB L3.rAdd (qL (qA (qK (Dt.int 0)) qZ)) (tsliceA (qV 0) (tosome (qK (Dt.int 5))) (tosome (qK (Dt.int 35)))))) (qG 3) (qS (qE (qF KL.spLParts (qA (qV 3) (qA (qV 1) (qA (qL (qA (qK (Dt.int 5)) (qA (qK (Dt.int 65536)) (qA (qK (Dt.int 40)) (qA (qK (Dt.int 136)) (qA (qK (Dt.int 65536)) (qA (qK (Dt.int 65536)) (qA (qK (Dt.int 65536)) (qA (qK (Dt.int 4)) (qA (qK (Dt.int 65536)) qZ)))))))))) qZ)))) (qG 4)) (qS (qE (qF spBlock (qA (qV 4) (qA (qV 2) qZ))) (qG 5)) (qS (qE (qF KL.spWatched (qA (qB qI (qV 4) (qK (Dt.int 8))) (qA (qF rLen (qA (qB qI (qV 2) (qK (Dt.int 4))) qZ)) qZ))) (qG 6)) (qS (qJ (tnotB (qT (qF (KL.spSame 5) (qA (qF KM.spDoHost (qA (qV 5) (qA (qV 2) (qA (qL (qA (qB qI (qV 4) (qK (Dt.int 4))) qZ)) (qA (qV 6) qZ))))) (qA (qF spDue (qA (qV 5) (qA (qV 2) (qA (qV 6) qZ)))) qZ))))) (qS (qR (qK (Dt.bl false))) qN) qN) qN))))) (qS (qR (qK (Dt.bl true))) qN))))
theorem ok_ints {n:Nat} (xs:List Int):KL.okS (n + 2) (.tup (xs.map .int))=true:=by
  show (xs.map Dt.int).all (KL.okS (n + 1))=true
  rw [List.all_eq_true]
  intro d hd
  obtain ⟨v,-,rfl⟩:=List.mem_map.mp hd
  rfl
theorem ok_state (g:GS):KL.okS 4 g.d=true:=by
  show [Dt.int g.p,.tup (g.bs.map .int),msD g.m,svD g.sv,.tup (g.rs.map .int),.tup (g.cs.map .int)].all (KL.okS 3)=true
  have e1:KL.okS 3 (svD g.sv)=true:=by
    cases g.sv with
    | none=>rfl
    | some q=>rfl
  simp only [List.all_cons,List.all_nil,ok_ints,e1,Bool.and_true]
  rfl
theorem ok_host (e:Ex) (g:GS) (told:List Int) (h c:Nat):KL.okS 5 (hostD e g told h c)=true:=by
  show [Dt.str e.how,g.d,.tup (told.map .int),.int e.n,.int (h:Int),.int (c:Int)].all (KL.okS 4)=true
  simp only [List.all_cons,List.all_nil,ok_ints,ok_state,Bool.and_true]
  rfl
theorem rows_ok (k:Nat) (a b c:Int):∀ r ∈ rowsL k a b c,OkR r:=by
  have h1:∀ x y:Int,OkR ⟨"num",[x,y]⟩:=fun x y=>row2 (w:=Str.ofString "num") (f:= "dn") (by decide +kernel) (by decide +kernel)
  have h2:∀ x:Int,OkR ⟨"tell",[x]⟩:=fun x=>row1 (w:=Str.ofString "tell") (f:= "x") (by decide +kernel) (by decide +kernel)
  have h3:OkR ⟨"out",[2]⟩:=row1 (w:=Str.ofString "out") (f:= "e") (by decide +kernel) (by decide +kernel)
  have h4:OkR (rowK k):=by
    match k with
    | 0=>exact ok_of (w:=Str.ofString "get") (f:= "dxxe") (by decide +kernel) (by decide +kernel)
    | 1=>exact ok_of (w:=Str.ofString "set") (f:= "xxxee") (by decide +kernel) (by decide +kernel)
    | 2=>exact ok_of (w:=Str.ofString "div") (f:= "dxxe") (by decide +kernel) (by decide +kernel)
    | k + 3=>exact ok_of (w:=Str.ofString "right") (f:= "xxe") (by decide +kernel) (by decide +kernel)
  intro r hr
  simp only [rowsL,List.mem_cons,List.not_mem_nil,or_false] at hr
  rcases hr with rfl | rfl | rfl | rfl | rfl | rfl | rfl | rfl
  · exact h1 _ _
  · exact h1 _ _
  · exact h1 _ _
  · exact h1 _ _
  · exact h2 _
  · exact h4
  · exact h2 _
  · exact h3
noncomputable abbrev RW0 (way:Int) (g:GS) (a b c d:Option Dt):Rho:=[some (.lst 0),some (.int way),some g.d,a,b,c,d]
theorem rd_law {ds:List Dt} {st:Sto} {Pd:VD} (h:spLaw ds st Pd):t_law (Ed Pd) (qW ["script", "way", "state", "cell", "parts", "block", "watched"] ds) st:=by
  obtain ⟨ns,rfl,rfl,hl,hP⟩:=h
  show t_law (Ed Pd) [some (.lst 0),none,none,none,none,none,none] [SO.ro (ns.map .int)]
  refine seqA ?_
  simp only [qB,qF,qA,qZ,qV,qK,List.getElem?_cons_zero,List.getElem?_cons_succ]
  refine ⟨0,4,ns,rfl,rfl,fun x=>⟨by decide,?_⟩⟩
  generalize x % 2=way
  refine seqA ?_
  simp only [qF,qA,qZ,qV,qK,List.set_cons_zero,List.set_cons_succ,List.getElem?_cons_zero,List.getElem?_cons_succ]
  refine ⟨0,way,ns,rfl,rfl,fun g s1 x1 ok gp=>?_⟩
  have h0:s1[0]? = some (.ro (ns.map .int)):=x1 _ _ rfl
  refine seqS ?_
  simp only [tfor,iseq,qB,qL,tsliceA,tosome,qA,qZ,qV,qK,List.set_cons_zero,List.set_cons_succ,List.getElem?_cons_zero,List.getElem?_cons_succ]
  refine ⟨z10 1 (by decide),?_⟩
  rw [qY h0]
  simp only [SO.items]
  rw [show (35:Int)=((5 + 30:Nat):Int) from rfl,show (5:Int)=((5:Nat):Int) from rfl,KL.cut_mid]
  simp only [L3.rAdd]
  have g1:∀ o:SO,(s1 ++ [SO.rw [.int 0]] ++ [o])[s1.length]? = some (.rw [.int 0]):=fun o=>qY qX
  simp only [g1,qX]
  have hlen:((ns.drop 5).take 30).length≤30:=by rw [List.length_take];omega
  refine ⟨by rw [sizeLine_eq];simp;omega,?_⟩
  rw [seq_of_get qX]
  have ei:[Dt.int 0] ++ ((ns.drop 5).take 30).map Dt.int=(0 :: (ns.drop 5).take 30).map Dt.int:=rfl
  rw [ei]
  generalize 0 :: (ns.drop 5).take 30=cells at *
  have gL:∀ s:Sto,(s ++ [SO.rw (cells.map Dt.int)])[s.length]? = some (.rw (cells.map .int)):=fun s=>qX
  generalize hsL:s1 ++ [SO.rw [.int 0]] ++ [SO.rw (((ns.drop 5).take 30).map .int)]=s2
  have gc:=gL s2
  refine ⟨fun i ρ s=>(∃ a b c d,ρ=RW0 way g a b c d)∧ExtS (s2 ++ [SO.rw (cells.map Dt.int)]) s,⟨⟨_,_,_,_,rfl⟩,.refl _⟩,fun i ρ s _ h=>seq_of_get (h.2 _ _ gc),?_,?_⟩
  · rintro i d ρ s hd ⟨⟨a,b,c,e,rfl⟩,hx⟩
    obtain ⟨cell,rfl⟩:∃ x:Int,d = .int x:=by
      rw [List.getElem?_map] at hd
      cases h:cells[i]? with
      | none=>rw [h] at hd;cases hd
      | some v=>rw [h] at hd;exact ⟨v,by simpa using hd.symm⟩
    show qS _ _ _ (RW0 way g (some (.int cell)) b c e) s
    refine seqA ?_
    simp only [qF,qL,qA,qZ,qV,qK,List.getElem?_cons_zero,List.getElem?_cons_succ]
    refine ⟨z10 9 (by decide),?_⟩
    refine ⟨cell,way,s.length,bnd,rfl,qX,by decide,by decide,fun ps s3 p x3 l3 hp pin=>?_⟩
    have y3:ExtS s s3:=fun j o hj=>x3 _ _ (qY hj)
    refine seqA ?_
    simp only [qF,qA,qZ,qV,List.set_cons_zero,List.set_cons_succ,List.getElem?_cons_zero,List.getElem?_cons_succ]
    refine ⟨p,ps,g,rfl,hp,pin,ok,fun x y k a b c p0 p1 p2 s4 x4 dr q0=>?_⟩
    obtain ⟨r0,r1,r2,r3,r4,r5,r6,r7,r8,rfl,-⟩:=nine pin
    refine seqA ?_
    simp only [qB,qF,qA,qZ,qV,qK,List.set_cons_zero,List.set_cons_succ,List.getElem?_cons_zero,List.getElem?_cons_succ]
    refine ixVv (j:=8) (x4 _ _ hp) rfl ?_
    refine gIxD (j:=4) rfl ?_
    simp only [rLen,seqOf,List.length_map]
    have hr16:g.rs.length≤16:=by have:=ok.c8;have:=ok.cm;omega
    refine ⟨r8,g.rs.length,rfl,hr16,fun wt s5 x5 hw=>?_⟩
    refine seqS ?_
    simp only [qJ,tnotB,qT,qL,qB,qF,qA,qZ,qV,qK,List.set_cons_zero,List.set_cons_succ,List.getElem?_cons_zero,List.getElem?_cons_succ]
    refine ixVv (j:=4) (x5 _ _ (x4 _ _ hp)) rfl ?_
    refine ⟨z10 1 (by decide),?_⟩
    obtain ⟨m',r,n,go,ou,eh⟩:=goK (given:=[r4]) (wt:=wt) p0 p1 p2 ok dr
    refine ⟨.int x,.int y,rowsL k a b c,exL p0 p1 p2 5,g,s5.length,[r4],wt,rfl,⟨_,qX,rfl⟩,rows_ok k a b c,by show 8≤400;decide,by show 1 < 1000;decide,by omega,m',_,r,n,exK p0 p1 p2 (leaveK g wt k a b c),_,go,?_,by simp [exK,bsK],by simp [exK,msK],ou,fun s6 x6=>?_⟩
    · simp [exL,leave_lt g wt k a b c]
    rw [eh]
    refine ⟨x,y,k,a,b,c,p0,p1,p2,g,wt,rfl,dr,ok,by omega,fun s7 x7=>?_⟩
    refine ⟨_,rfl,ok_host _ _ _ _ _,fun s8 x8=>?_⟩
    refine iteF ⟨⟨_,_,_,_,rfl⟩,fun j o hj=>x8 _ _ (x7 _ _ (x6 _ _ (qY (x5 _ _ (x4 _ _ (y3 _ _ (hx _ _ hj)))))))⟩
  · rintro ρ s ⟨⟨a,b,c,d,rfl⟩,hx⟩
    exact hP s
end K62
namespace K62
open PySem PySem.Spec PyProof.Rows L2 L3
local macro_rules | `(tactic| k_dat $x:ident "e")=>`(tactic| (case $x:ident=>walk_at "d_e"))
local macro_rules | `(tactic| k_dat $x:ident "r")=>`(tactic| (case $x:ident=>rfl))
local macro_rules | `(tactic| k_dat $x:ident "m")=>`(tactic| (case $x:ident=>assumption))
local macro_rules | `(tactic| k_dat $x:ident "d")=>`(tactic| (case $x:ident=>decide))
local macro_rules | `(tactic| k_dat $x:ident "a")=>`(tactic| (case $x:ident=>walk_at "d_a"))
local macro_rules | `(tactic| k_dat $x:ident "t")=>`(tactic| (case $x:ident=>walk_at "d_t"))
local macro_rules | `(tactic| k_dat $x:ident "s")=>`(tactic| (case $x:ident=>walk_at "d_ss"))
local macro_rules | `(tactic| k_dat $x:ident "i")=>`(tactic| (case $x:ident=>walk_at "d_i"))
local macro_rules | `(tactic| k_dat $x:ident "n")=>`(tactic| (case $x:ident=>first | exact nomark _ | with_unfolding_all rfl))
local macro_rules | `(tactic| k_dat $n:num "zv0")=>`(tactic| ((with_reducible refine' de_var $n ?n ?v ?d ?c);k_dat n "r";(case v=>first | exact Or.inl rfl | exact Or.inr (Or.inl rfl));k_dat d "d";k_dat c "d"))
local macro_rules | `(tactic| k_dat $n:num "zc0")=>`(tactic| ((with_reducible refine' ds_comp $n _ ?hc ?N ?S ?hx ?nd ?i ?f ?e ?y ?yl ?sw ?hs);k_dat y "r";k_dat hc "r";k_dat N "m";(case S=>exact sc_hint (by assumption) (by rfl));k_dat hx "r";(case nd=>decide +kernel);k_dat sw "r";k_dat yl "r";k_dat i "i";(case f=>(intro _ _ _ _;walk_at "d_if"));(case e=>(intro _ _ _ _;walk_at "d_e"));(case hs=>(intro _;rfl))))
local macro_rules | `(tactic| k_dat $n:num "zc1")=>`(tactic| ((with_reducible refine' ds_comp $n _ ?hc ?N ?S ?hx ?nd ?i ?f ?e ?y ?yl ?sw ?hs);k_dat y "r";k_dat hc "r";k_dat N "m";(case S=>exact sc_hint2 (by assumption) (by rfl));k_dat hx "r";(case nd=>decide +kernel);k_dat sw "r";k_dat yl "r";k_dat i "i";(case f=>(intro _ _ _ _;walk_at "d_if"));(case e=>(intro _ _ _ _;walk_at "d_e"));(case hs=>(intro _;rfl))))
local macro_rules | `(tactic| k_dat $n:num "zc2")=>`(tactic| ((with_reducible refine' ds_comp $n [] ?hc ?N ?S ?hx ?nd ?i ?f ?e ?y ?yl ?sw ?hs);k_dat y "r";k_dat hc "r";k_dat N "m";(case S=>exact sc_of (by rfl));k_dat hx "r";(case nd=>decide +kernel);k_dat sw "r";k_dat yl "r";k_dat i "i";(case f=>(intro _ _ _ _;walk_at "d_if"));(case e=>(intro _ _ _ _;walk_at "d_e"));(case hs=>(intro _;rfl))))
local macro_rules | `(tactic| k_dat $n:num "zs0")=>`(tactic| ((with_reducible refine' ds_set $n ?N ?e ?i ?x ?s ?f);k_dat i "r";k_dat s "r";k_dat N "m";(case x=>first | exact Or.inl rfl | exact Or.inr rfl);(case f=>first | exact .inl rfl | exact .inr rfl);k_dat e "e"))
local macro_rules | `(tactic| k_dat $n:num "zg0")=>`(tactic| ((with_reducible refine' dg_name $n ?nd ?n ?x ?f);k_dat n "r";k_dat nd "m";(case x=>first | exact Or.inl rfl | exact Or.inr rfl);(case f=>first | exact .inl rfl | exact .inr rfl)))
local macro_rules | `(tactic| k_dat $n:num "za0")=>`(tactic| ((with_reducible refine' ds_aug $n ?N ?e ?i ?x ?f);k_dat i "r";k_dat N "m";(case x=>first | exact Or.inl rfl | exact Or.inr rfl);(case f=>first | exact .inl rfl | exact .inr rfl);k_dat e "e"))
local macro_rules | `(tactic| k_dat $n:num "zu0")=>`(tactic| ((with_reducible refine' dg_unpack $n ?c ?g ?n ?s);k_dat n "r";k_dat c "r";(case g=>walk_at "d_gs");k_dat s "r"))
local macro_rules | `(tactic| k_dat $l:ident "s0")=>`(tactic| ((with_reducible refine' $l ?v ?r);k_dat v "e";(case r=>walk_at "d_pk")))
local macro_rules | `(tactic| k_dat $l:ident "s1")=>`(tactic| ((with_reducible refine' $l ?a ?b);k_dat a "e";k_dat b "e"))
local macro_rules | `(tactic| k_dat $l:ident "s2")=>`(tactic| ((with_reducible refine' $l ?a);k_dat a "e"))
local macro_rules | `(tactic| k_dat $l:ident "s3")=>`(tactic| ((with_reducible refine' $l ?a ?b ?h1 ?h2 ?h3 ?h4 ?h5);k_dat a "e";k_dat b "e";k_dat h1 "r";k_dat h2 "r";k_dat h3 "r";k_dat h4 "r";k_dat h5 "r"))
local macro_rules | `(tactic| k_dat $l:ident "s4")=>`(tactic| ((with_reducible refine' $l ?f ?n ?r ?a ?g ?db ?he ?hpl);k_dat f "m";k_dat n "r";(case r=>walk_at "d_room");k_dat a "a";k_dat g "r";k_dat db "d";k_dat he "r";k_dat hpl "r"))
local macro_rules | `(tactic| k_dat $l:ident "s5")=>`(tactic| ((with_reducible refine' $l ?hu ?a ?b ?m);(case hu=>walk_at "d_hu");k_dat a "e";k_dat b "e";k_dat m "n"))
local macro_rules | `(tactic| k_dat $l:ident "s6")=>`(tactic| ((with_reducible refine' $l ?a ?b ?m);k_dat a "e";k_dat b "e";k_dat m "n"))
local macro_rules | `(tactic| k_dat $l:ident "s7")=>`(tactic| ((with_reducible refine' $l ?c ?m ?a ?g ?he ?hpl);k_dat c "r";k_dat m "m";k_dat a "a";k_dat g "r";k_dat he "r";k_dat hpl "r"))
local macro_rules | `(tactic| k_dat $l:ident "s8")=>`(tactic| ((with_reducible refine' $l ?a);k_dat a "a"))
local macro_rules | `(tactic| k_dat $l:ident "s9")=>`(tactic| ((with_reducible refine' $l ?a ?l ?h);k_dat a "e";(case l=>walk_at "d_o");(case h=>walk_at "d_o")))
local macro_rules | `(tactic| k_dat $l:ident "s10")=>`(tactic| ((with_reducible refine' $l ?m ?a ?g ?he ?hpl);k_dat m "m";k_dat a "a";k_dat g "r";k_dat he "r";k_dat hpl "r"))
local macro_rules | `(tactic| k_dat $l:ident "s11")=>`(tactic| ((with_reducible refine' $l ?m ?g);k_dat m "m";k_dat g "r"))
local macro_rules | `(tactic| k_dat $l:ident "s12")=>`(tactic| ((with_reducible refine' $l ?a ?b ?c ?m);k_dat a "e";k_dat b "e";k_dat c "e";(case m=>with_unfolding_all rfl)))
local macro_rules | `(tactic| k_dat $l:ident "s13")=>`(tactic| ((with_reducible refine' $l ?hu ?a ?b ?m);(case hu=>exact hu1 (by assumption));k_dat a "e";k_dat b "e";k_dat m "n"))
local macro_rules | `(tactic| k_dat $l:ident "s14")=>`(tactic| ((with_reducible refine' $l ?T ?i ?g ?d ?s);k_dat T "m";k_dat g "r";k_dat d "d";(case s=>exact fun _ _=>rfl);k_dat i "e"))
local macro_rules | `(tactic| k_dat $l:ident "s15")=>`(tactic| ((with_reducible refine' $l ?a);k_dat a "t"))
local macro_rules | `(tactic| k_dat $l:ident "s16")=>`(tactic| ((with_reducible refine' $l ?T ?i ?g ?d ?m);k_dat T "m";k_dat g "r";k_dat d "d";k_dat i "e";k_dat m "n"))
local macro_rules | `(tactic| k_dat $l:ident "s17")=>`(tactic| ((with_reducible refine' $l ?a ?b);k_dat a "t";(case b=>walk_at "d_w")))
local macro_rules | `(tactic| k_dat $l:ident "s18")=>`(tactic| ((with_reducible refine' $l ?m ?a ?g ?s);k_dat m "m";k_dat a "e";k_dat g "r";k_dat s "r"))
local macro_rules | `(tactic| walk_at "d_room")=>`(tactic| first
  | exact Room.mono (by assumption) (by decide)
  | exact Room.mono (by assumption) (by omega))
local macro_rules | `(tactic| walk_at "d_hu")=>`(tactic| first
  | exact hu16 (by assumption))
local macro_rules | `(tactic| walk_at "d_ps")=>`(tactic| first
  | (with_reducible exact dps_nil)
  | ((with_reducible refine' dps_cons ?v ?r);k_dat v "e";(case r=>walk_at "d_ps")))
local macro_rules | `(tactic| walk_at "d_e")=>`(tactic| first
  | (with_reducible exact de_int)
  | (with_reducible exact de_str)
  | (with_reducible exact de_bl)
  | (with_reducible exact de_non)
  | ((with_reducible show DE _ (.Name _ _) _);first
      | (k_dat 0 "zv0")
      | (k_dat 1 "zv0")
      | (k_dat 2 "zv0")
      | (k_dat 3 "zv0")
      | (k_dat 4 "zv0")
      | (k_dat 5 "zv0")
      | (k_dat 6 "zv0")
      | (k_dat 7 "zv0")
      | (k_dat 8 "zv0")
      | (k_dat 9 "zv0")
      | (k_dat 10 "zv0")
      | (k_dat 11 "zv0")
      | (k_dat 12 "zv0")
      | (k_dat 13 "zv0")
      | (k_dat 14 "zv0")
      | (k_dat 15 "zv0"))
  | (k_dat de_extend "s3")
  | (k_dat dx_add "s1")
  | (k_dat dx_sub "s1")
  | (k_dat dx_mul "s1")
  | (k_dat dx_div "s1")
  | (k_dat dx_mod "s1")
  | (k_dat dx_and "s1")
  | (k_dat dx_eq "s5")
  | (k_dat dx_ne "s5")
  | (k_dat dx_lt "s6")
  | (k_dat dx_ge "s6")
  | (k_dat dx_in "s6")
  | (k_dat dx_is "s6")
  | (k_dat dx_isnot "s6")
  | (k_dat dx_max "s7")
  | (k_dat de_tup "s8")
  | (k_dat de_lst "s8")
  | (k_dat de_sliceA "s9")
  | (k_dat de_slice "s9")
  | ((with_reducible refine' de_ix ?a ?b ?s);k_dat a "e";k_dat b "e";(case s=>exact fun _ _=>rfl))
  | ((with_reducible refine' de_callO ?f ?r ?a ?g ?db ?he ?hpl);k_dat f "m";(case r=>walk_at "d_room");k_dat a "a";k_dat g "r";k_dat db "d";k_dat he "r";k_dat hpl "r")
  | (k_dat dx_len "s10")
  | (k_dat dx_isinst "s10")
  | (k_dat dx_tuple "s10")
  | (k_dat dx_list "s10")
  | (k_dat dx_int "s10")
  | (k_dat dx_tyInt "s11")
  | (k_dat dx_tyBool "s11")
  | (k_dat dx_tyStr "s11")
  | (k_dat dx_tyTuple "s11")
  | ((with_reducible refine' de_con ?f ?g ?db);(case f=>first | assumption | exact ConT.con (by assumption));k_dat g "r";k_dat db "d")
  | (k_dat de_append "s3")
  | (k_dat de_not "s2")
  | (k_dat de_and "s1")
  | (k_dat de_one "s2")
  | ((with_reducible refine' de_if ?c ?a ?b);k_dat c "t";k_dat a "e";k_dat b "e")
  | ((with_reducible refine' de_comp _ ?hc ?S ?hx ?nd ?i ?f ?e ?hs);k_dat hc "r";(case S=>exact sc_hint (by assumption) (by rfl));k_dat hx "r";(case nd=>decide +kernel);k_dat i "i";(case f=>(intro _ _ _ _;walk_at "d_if"));(case e=>(intro _ _ _ _;walk_at "d_e"));(case hs=>(intro _;rfl)))
  | ((with_reducible refine' de_comp _ ?hc ?S ?hx ?nd ?i ?f ?e ?hs);k_dat hc "r";(case S=>exact sc_hint2 (by assumption) (by rfl));k_dat hx "r";(case nd=>decide +kernel);k_dat i "i";(case f=>(intro _ _ _ _;walk_at "d_if"));(case e=>(intro _ _ _ _;walk_at "d_e"));(case hs=>(intro _;rfl)))
  | ((with_reducible refine' de_comp [] ?hc ?S ?hx ?nd ?i ?f ?e ?hs);k_dat hc "r";(case S=>exact sc_of (by rfl));k_dat hx "r";(case nd=>decide +kernel);k_dat i "i";(case f=>(intro _ _ _ _;walk_at "d_if"));(case e=>(intro _ _ _ _;walk_at "d_e"));(case hs=>(intro _;rfl)))
  | (with_reducible exact de_dict0)
  | ((with_reducible refine' de_dget2 ?hu ?a ?b ?c ?m);(case hu=>exact hu1 (by assumption));k_dat a "e";k_dat b "e";k_dat c "e";(case m=>exact ⟨rfl,rfl,rfl,rfl⟩))
  | ((with_reducible refine' de_fld ?c ?f ?a ?b);k_dat c "m";k_dat f "d";k_dat a "e";k_dat b "r")
  | ((with_reducible refine' de_meth ?f ?r ?o ?a ?g ?h ?t);k_dat f "m";(case r=>walk_at "d_room");k_dat o "e";k_dat a "a";k_dat g "r";k_dat h "r";k_dat t "r")
  | (k_dat de_topget "s14")
  | ((with_reducible refine' de_make ?f ?r ?a ?g ?d ?he ?hpl);k_dat f "m";(case r=>walk_at "d_room");k_dat a "a";k_dat g "r";k_dat d "d";k_dat he "r";k_dat hpl "r")
  | (k_dat dx_shl "s1")
  | ((with_reducible refine' de_comp2 _ ?hc ?S ?hx ?hy ?nd ?i ?f ?e ?hs);k_dat hc "r";(case S=>exact sc_hint (by assumption) (by rfl));k_dat hx "r";k_dat hy "r";(case nd=>decide +kernel);k_dat i "i";(case f=>(intro _ _ _ _;walk_at "d_if"));(case e=>(intro _ _ _ _;walk_at "d_e"));(case hs=>(intro _;rfl)))
  | ((with_reducible refine' de_comp2 _ ?hc ?S ?hx ?hy ?nd ?i ?f ?e ?hs);k_dat hc "r";(case S=>exact sc_hint2 (by assumption) (by rfl));k_dat hx "r";k_dat hy "r";(case nd=>decide +kernel);k_dat i "i";(case f=>(intro _ _ _ _;walk_at "d_if"));(case e=>(intro _ _ _ _;walk_at "d_e"));(case hs=>(intro _;rfl)))
  | ((with_reducible refine' de_comp2 [] ?hc ?S ?hx ?hy ?nd ?i ?f ?e ?hs);k_dat hc "r";(case S=>exact sc_of (by rfl));k_dat hx "r";k_dat hy "r";(case nd=>decide +kernel);k_dat i "i";(case f=>(intro _ _ _ _;walk_at "d_if"));(case e=>(intro _ _ _ _;walk_at "d_e"));(case hs=>(intro _;rfl))))
local macro_rules | `(tactic| walk_at "d_a")=>`(tactic| first
  | (with_reducible exact da_nil)
  | ((with_reducible refine' da_cons ?a ?b ?h);k_dat a "e";k_dat b "a";k_dat h "r"))
local macro_rules | `(tactic| walk_at "d_o")=>`(tactic| first
  | (with_reducible exact do_none)
  | (k_dat do_some "s2"))
local macro_rules | `(tactic| walk_at "d_t")=>`(tactic| first
  | (k_dat dt_not "s15")
  | ((with_reducible refine' dt_of (dw_and ?a ?b));k_dat a "t";(case b=>walk_at "d_w"))
  | ((with_reducible refine' dt_of (dw_or ?a ?b));k_dat a "t";(case b=>walk_at "d_w"))
  | (k_dat dtx_eq "s5")
  | (k_dat dtx_ne "s5")
  | (k_dat dtx_lt "s6")
  | (k_dat dtx_gt "s6")
  | (k_dat dtx_ge "s6")
  | (k_dat dtx_in "s6")
  | (k_dat dtx_is "s6")
  | (k_dat dtx_isnot "s6")
  | (k_dat dtx_chain "s12")
  | (k_dat dtx_itopin "s16")
  | ((with_reducible refine' dt_val ?a ?h);k_dat a "e";(case h=>(intro _;rfl))))
local macro_rules | `(tactic| walk_at "d_w")=>`(tactic| first
  | (k_dat dw_and "s17")
  | (k_dat dw_or "s17")
  | (k_dat dw_and1 "s15")
  | (k_dat dw_or1 "s15"))
local macro_rules | `(tactic| walk_at "d_if")=>`(tactic| first
  | (with_reducible exact dif_nil)
  | (k_dat dif_one "s15"))
local macro_rules | `(tactic| walk_at "d_i")=>`(tactic| first
  | ((with_reducible refine' di_zip ?m ?a ?b ?g ?s ?s2 ?hpl);k_dat m "m";k_dat a "e";k_dat b "e";k_dat g "r";k_dat s "r";k_dat s2 "r";k_dat hpl "r")
  | ((with_reducible refine' di_enum1 ?m ?a ?b ?g ?s ?hall ?hks ?hpl ?hbk);k_dat m "m";k_dat a "e";k_dat b "e";k_dat g "r";k_dat s "r";k_dat hall "r";k_dat hks "r";k_dat hpl "r";(case hbk=>exact ⟨_,rfl⟩))
  | (k_dat di_range1 "s18")
  | (k_dat di_seq "s2"))
local macro_rules | `(tactic| walk_at "d_g")=>`(tactic| first
  | (k_dat 0 "zg0")
  | (k_dat 1 "zg0")
  | (k_dat 2 "zg0")
  | (k_dat 3 "zg0")
  | (k_dat 4 "zg0")
  | (k_dat 5 "zg0")
  | (k_dat 6 "zg0")
  | (k_dat 7 "zg0")
  | (k_dat 8 "zg0")
  | (k_dat 9 "zg0")
  | (k_dat 10 "zg0")
  | (k_dat 11 "zg0")
  | (k_dat 12 "zg0")
  | (k_dat 13 "zg0")
  | (k_dat 14 "zg0")
  | (k_dat 15 "zg0")
  | (k_dat 1 "zu0")
  | (k_dat 2 "zu0")
  | (k_dat 3 "zu0")
  | (k_dat 4 "zu0")
  | (k_dat 5 "zu0")
  | (k_dat 6 "zu0")
  | (k_dat 7 "zu0")
  | (k_dat 8 "zu0")
  | ((with_reducible refine' dg_sub ?a ?b ?h);k_dat a "e";k_dat b "e";(case h=>(intro _;rfl))))
local macro_rules | `(tactic| walk_at "d_gs")=>`(tactic| first
  | (with_reducible exact dgs_nil)
  | ((with_reducible refine' dgs_cons ?a ?b ?h);(case a=>walk_at "d_g");(case b=>walk_at "d_gs");k_dat h "r"))
local macro_rules | `(tactic| walk_at "d_s")=>`(tactic| first
  | (k_dat ds_ret "s2")
  | ((with_reducible refine' ds_if ?c ?a ?b);k_dat c "t";k_dat a "s";k_dat b "s")
  | ((with_reducible refine' ds_expr ?a ?h);k_dat h "r";k_dat a "e")
  | ((with_reducible refine' ds_for ?p ?c ?i ?g ?b ?h);(case p=>exact PassesOwn.never);k_dat c "r";k_dat i "i";(case g=>walk_at "d_g");k_dat b "s";(case h=>(intro _;rfl)))
  | ((with_reducible show DS _ (.Assign [.Name _ _] (.ListComp _ _ _ _) _) _);first
      | (k_dat 0 "zc0")
      | (k_dat 0 "zc1")
      | (k_dat 0 "zc2")
      | (k_dat 1 "zc0")
      | (k_dat 1 "zc1")
      | (k_dat 1 "zc2")
      | (k_dat 2 "zc0")
      | (k_dat 2 "zc1")
      | (k_dat 2 "zc2")
      | (k_dat 3 "zc0")
      | (k_dat 3 "zc1")
      | (k_dat 3 "zc2")
      | (k_dat 4 "zc0")
      | (k_dat 4 "zc1")
      | (k_dat 4 "zc2")
      | (k_dat 5 "zc0")
      | (k_dat 5 "zc1")
      | (k_dat 5 "zc2")
      | (k_dat 6 "zc0")
      | (k_dat 6 "zc1")
      | (k_dat 6 "zc2")
      | (k_dat 7 "zc0")
      | (k_dat 7 "zc1")
      | (k_dat 7 "zc2")
      | (k_dat 8 "zc0")
      | (k_dat 8 "zc1")
      | (k_dat 8 "zc2")
      | (k_dat 9 "zc0")
      | (k_dat 9 "zc1")
      | (k_dat 9 "zc2")
      | (k_dat 10 "zc0")
      | (k_dat 10 "zc1")
      | (k_dat 10 "zc2")
      | (k_dat 11 "zc0")
      | (k_dat 11 "zc1")
      | (k_dat 11 "zc2")
      | (k_dat 12 "zc0")
      | (k_dat 12 "zc1")
      | (k_dat 12 "zc2")
      | (k_dat 13 "zc0")
      | (k_dat 13 "zc1")
      | (k_dat 13 "zc2")
      | (k_dat 14 "zc0")
      | (k_dat 14 "zc1")
      | (k_dat 14 "zc2")
      | (k_dat 15 "zc0")
      | (k_dat 15 "zc1")
      | (k_dat 15 "zc2"))
  | ((with_reducible show DS _ (.Assign [.Name _ _] _ _) _);first
      | (k_dat 0 "zs0")
      | (k_dat 1 "zs0")
      | (k_dat 2 "zs0")
      | (k_dat 3 "zs0")
      | (k_dat 4 "zs0")
      | (k_dat 5 "zs0")
      | (k_dat 6 "zs0")
      | (k_dat 7 "zs0")
      | (k_dat 8 "zs0")
      | (k_dat 9 "zs0")
      | (k_dat 10 "zs0")
      | (k_dat 11 "zs0")
      | (k_dat 12 "zs0")
      | (k_dat 13 "zs0")
      | (k_dat 14 "zs0")
      | (k_dat 15 "zs0"))
  | ((with_reducible refine' ds_dput ?hu ?a ?b ?v ?s);(case hu=>exact hu1 (by assumption));k_dat s "r";k_dat v "e";k_dat a "e";k_dat b "e")
  | ((with_reducible refine' ds_fld ?c ?f ?o ?v ?s);k_dat c "m";k_dat f "d";k_dat s "r";k_dat v "e";k_dat o "e")
  | ((with_reducible refine' ds_asg ?e ?g ?s ?w ?h);k_dat s "r";k_dat w "r";k_dat h "r";k_dat e "e";(case g=>walk_at "d_g"))
  | ((with_reducible show DS _ (.AugAssign (.Name _ _) _ _ _) _);first
      | (k_dat 0 "za0")
      | (k_dat 1 "za0")
      | (k_dat 2 "za0")
      | (k_dat 3 "za0")
      | (k_dat 4 "za0")
      | (k_dat 5 "za0")
      | (k_dat 6 "za0")
      | (k_dat 7 "za0")
      | (k_dat 8 "za0")
      | (k_dat 9 "za0")
      | (k_dat 10 "za0")
      | (k_dat 11 "za0")
      | (k_dat 12 "za0")
      | (k_dat 13 "za0")
      | (k_dat 14 "za0")
      | (k_dat 15 "za0")))
local macro_rules | `(tactic| walk_at "d_ss")=>`(tactic| first
  | (with_reducible exact dss_nil)
  | ((with_reducible refine' dss_cons ?a ?b);(case a=>walk_at "d_s");k_dat b "s"))
noncomputable def top (i:Nat):Stmt:=PySem.Challenge.pw_asitruns_k62_left_at_an_exit.main.body.getD i (.Pass ⟨0,0,0,0⟩)
noncomputable abbrev s_replaced:Stmt:=top 9
noncomputable abbrev s_may_be:Stmt:=top 10
noncomputable abbrev s_moved:Stmt:=top 11
noncomputable abbrev s_one_on:Stmt:=top 12
noncomputable abbrev s_with_box:Stmt:=top 13
noncomputable abbrev s_with_outcome:Stmt:=top 14
noncomputable abbrev s_left:Stmt:=top 15
noncomputable abbrev s_on:Stmt:=top 16
noncomputable abbrev s_plain_outcome:Stmt:=top 17
noncomputable abbrev s_do_div:Stmt:=top 18
noncomputable abbrev s_do_get:Stmt:=top 19
noncomputable abbrev s_do_set:Stmt:=top 20
noncomputable abbrev s_do_right:Stmt:=top 21
noncomputable abbrev s_made_of:Stmt:=top 23
noncomputable abbrev s_parts_of:Stmt:=top 28
noncomputable abbrev s_do_item:Stmt:=top 31
noncomputable abbrev s_is_shutting:Stmt:=top 32
noncomputable abbrev s_Hold___init__:Stmt:=inClass (top 34) 0
noncomputable abbrev s_Hold_in_hand:Stmt:=inClass (top 34) 1
noncomputable abbrev s_Hold_on_shelf:Stmt:=inClass (top 34) 2
noncomputable abbrev s_Hold_put:Stmt:=inClass (top 34) 3
noncomputable abbrev s_Hold_source:Stmt:=inClass (top 34) 4
noncomputable abbrev s_number_out:Stmt:=top 35
noncomputable abbrev s_state_out:Stmt:=top 36
noncomputable abbrev s_do_host:Stmt:=top 37
noncomputable abbrev s__law_mix:Stmt:=top 39
noncomputable abbrev s__law_parts:Stmt:=top 40
noncomputable abbrev s__law_cell_at:Stmt:=top 41
noncomputable abbrev s__law_number:Stmt:=top 42
noncomputable abbrev s__law_state:Stmt:=top 43
noncomputable abbrev s__law_watched:Stmt:=top 45
noncomputable abbrev s__law_is_number:Stmt:=top 46
noncomputable abbrev s__law_same:Stmt:=top 47
noncomputable abbrev s__law_exits:Stmt:=top 48
noncomputable abbrev s__law_numbers:Stmt:=top 49
noncomputable abbrev s__law_block:Stmt:=top 50
noncomputable abbrev s__law_left:Stmt:=top 51
noncomputable abbrev s__law_due:Stmt:=top 52
noncomputable abbrev s_law:Stmt:=top 53
section
variable {P:Program} {w:World} {K:PySem.W.Frag} {mg:Str→Option Value} {base:Heap} {f:Addr} {fd:FuncData}
theorem screplaced:FnScope ["parts", "k", "part"] ["parts", "k", "part"] (defScope s_replaced):=⟨rfl,rfl,rfl,by decide +kernel,rfl,by decide +kernel,by decide +kernel⟩
theorem okreplaced (F:Fun K "replaced" "replaced" s_replaced f fd)  : FnOk P w K mg base CX0 1 f fd ["parts", "k", "part"] (liftSp K K06.spReplaced):=by
  have nd:=screplaced.nd
  refine fun_ok F screplaced (fun ds st Pd h=>by obtain ⟨_,_,_,rfl,_⟩:=h;rfl) fun cdv A outer s H E hr=>?_
  refine ⟨K06.t_replaced,?t,fun ds st Pd h=>K06.rd_replaced h⟩
  case t =>
    refine' dss_cons ?a ?b
    case a=>walk_at "d_s"
    case b=>walk_at "d_ss"
theorem scmay_be:FnScope ["right", "state", "address"] ["right", "state", "address"] (defScope s_may_be):=⟨rfl,rfl,rfl,by decide +kernel,rfl,by decide +kernel,by decide +kernel⟩
theorem okmay_be (F:Fun K "may_be" "may_be" s_may_be f fd) (gI4:ConOk K mg "RIGHTS" (.int 4)) (gI5:ConOk K mg "CELLS" (.int 5)) (m3:mg "len" = none):FnOk P w K mg base CX0 1 f fd ["right", "state", "address"] (liftSp K K06.spMay):=by
  have nd:=scmay_be.nd
  refine fun_ok F scmay_be (fun ds st Pd h=>by obtain ⟨_,_,_,rfl,_⟩:=h;rfl) fun cdv A outer s H E hr=>?_
  refine ⟨K06.t_may_be,?t,fun ds st Pd h=>K06.rd_may_be h⟩
  case t =>
    refine' dss_cons ?a ?b
    case a=>walk_at "d_s"
    case b=>walk_at "d_ss"
theorem scmoved:FnScope ["state", "place"] ["state", "place"] (defScope s_moved):=⟨rfl,rfl,rfl,by decide +kernel,rfl,by decide +kernel,by decide +kernel⟩
theorem okmoved (F:Fun K "moved" "moved" s_moved f fd) (gI0:ConOk K mg "PLACE" (.int 0)) (dreplaced:qD P w K mg base "replaced" 1 K06.spReplaced):FnOk P w K mg base CX0 2 f fd ["state", "place"] (liftSp K K06.spMoved):=by
  have nd:=scmoved.nd
  refine fun_ok F scmoved (fun ds st Pd h=>by obtain ⟨_,_,rfl,_⟩:=h;rfl) fun cdv A outer s H E hr=>?_
  refine ⟨K06.t_moved,?t,fun ds st Pd h=>K06.rd_moved h⟩
  case t =>
    refine' dss_cons ?a ?b
    case a=>walk_at "d_s"
    case b=>walk_at "d_ss"
theorem scone_on:FnScope ["state"] ["state"] (defScope s_one_on):=⟨rfl,rfl,rfl,by decide +kernel,rfl,by decide +kernel,by decide +kernel⟩
theorem okone_on (F:Fun K "one_on" "one_on" s_one_on f fd) (gI0:ConOk K mg "PLACE" (.int 0)) (dmoved:qD P w K mg base "moved" 2 K06.spMoved):FnOk P w K mg base CX0 3 f fd ["state"] (liftSp K K06.spOneOn):=by
  have nd:=scone_on.nd
  refine fun_ok F scone_on (fun ds st Pd h=>by obtain ⟨_,rfl,_⟩:=h;rfl) fun cdv A outer s H E hr=>?_
  refine ⟨K06.t_one_on,?t,fun ds st Pd h=>K06.rd_one_on h⟩
  case t =>
    refine' dss_cons ?a ?b
    case a=>walk_at "d_s"
    case b=>walk_at "d_ss"
theorem scwith_box:FnScope ["state", "a", "number"] ["state", "a", "number"] (defScope s_with_box):=⟨rfl,rfl,rfl,by decide +kernel,rfl,by decide +kernel,by decide +kernel⟩
theorem okwith_box (F:Fun K "with_box" "with_box" s_with_box f fd) (gI1:ConOk K mg "BOXES" (.int 1)) (dreplaced:qD P w K mg base "replaced" 1 K06.spReplaced) (done_on:qD P w K mg base "one_on" 3 K06.spOneOn):FnOk P w K mg base CX0 4 f fd ["state", "a", "number"] (liftSp K K06.spWithBox):=by
  have nd:=scwith_box.nd
  refine fun_ok F scwith_box (fun ds st Pd h=>by obtain ⟨_,_,_,rfl,_⟩:=h;rfl) fun cdv A outer s H E hr=>?_
  refine ⟨K06.t_with_box,?t,fun ds st Pd h=>K06.rd_with_box h⟩
  case t =>
    refine' dss_cons ?a ?b
    case a=>walk_at "d_s"
    case b=>walk_at "d_ss"
theorem scwith_outcome:FnScope ["state", "a", "number", "carry"] ["state", "a", "number", "carry"] (defScope s_with_outcome):=⟨rfl,rfl,rfl,by decide +kernel,rfl,by decide +kernel,by decide +kernel⟩
theorem okwith_outcome (F:Fun K "with_outcome" "with_outcome" s_with_outcome f fd) (gI2:ConOk K mg "MARKS" (.int 2)) (dreplaced:qD P w K mg base "replaced" 1 K06.spReplaced) (dwith_box:qD P w K mg base "with_box" 4 K06.spWithBox):FnOk P w K mg base CX0 5 f fd ["state", "a", "number", "carry"] (liftSp K K06.spWithOut):=by
  have nd:=scwith_outcome.nd
  refine fun_ok F scwith_outcome (fun ds st Pd h=>by obtain ⟨_,_,_,_,rfl,_⟩:=h;rfl) fun cdv A outer s H E hr=>?_
  refine ⟨K06.t_with_outcome,?t,fun ds st Pd h=>K06.rd_with_outcome h⟩
  case t =>
    refine' dss_cons ?a ?b
    case a=>walk_at "d_s"
    case b=>walk_at "d_ss"
theorem scleft:FnScope ["how", "state"] ["how", "state"] (defScope s_left):=⟨rfl,rfl,rfl,by decide +kernel,rfl,by decide +kernel,by decide +kernel⟩
theorem okleft (F:Fun K "left" "left" s_left f fd)  : FnOk P w K mg base CX0 1 f fd ["how", "state"] (liftSp K K06.spLeft):=by
  have nd:=scleft.nd
  refine fun_ok F scleft (fun ds st Pd h=>by obtain ⟨_,_,rfl,_⟩:=h;rfl) fun cdv A outer s H E hr=>?_
  refine ⟨K06.t_left,?t,fun ds st Pd h=>K06.rd_left h⟩
  case t =>
    refine' dss_cons ?a ?b
    case a=>walk_at "d_s"
    case b=>walk_at "d_ss"
theorem scon:FnScope ["state"] ["state"] (defScope s_on):=⟨rfl,rfl,rfl,by decide +kernel,rfl,by decide +kernel,by decide +kernel⟩
theorem okon (F:Fun K "on" "on" s_on f fd)  : FnOk P w K mg base CX0 1 f fd ["state"] (liftSp K K06.spOn):=by
  have nd:=scon.nd
  refine fun_ok F scon (fun ds st Pd h=>by obtain ⟨_,rfl,_⟩:=h;rfl) fun cdv A outer s H E hr=>?_
  refine ⟨K06.t_on,?t,fun ds st Pd h=>K06.rd_on h⟩
  case t =>
    refine' dss_cons ?a ?b
    case a=>walk_at "d_s"
    case b=>walk_at "d_ss"
theorem scplain_outcome:FnScope ["word", "x", "y"] ["word", "x", "y"] (defScope s_plain_outcome):=⟨rfl,rfl,rfl,by decide +kernel,rfl,by decide +kernel,by decide +kernel⟩
theorem okplain_outcome (F:Fun K "plain_outcome" "plain_outcome" s_plain_outcome f fd)  : FnOk P w K mg base CX0 1 f fd ["word", "x", "y"] (liftSp K K20.spPlain):=by
  have nd:=scplain_outcome.nd
  refine fun_ok F scplain_outcome (fun ds st Pd h=>by obtain ⟨_,_,_,rfl,_⟩:=h;rfl) fun cdv A outer s H E hr=>?_
  refine ⟨K20.t_plain_outcome,?t,fun ds st Pd h=>K20.rd_plain_outcome h⟩
  case t =>
    refine' dss_cons ?a ?b
    case a=>walk_at "d_s"
    case b=>walk_at "d_ss"
theorem scdo_div:FnScope ["state", "a", "x", "y"] ["state", "a", "x", "y"] (defScope s_do_div):=⟨rfl,rfl,rfl,by decide +kernel,rfl,by decide +kernel,by decide +kernel⟩
theorem okdo_div (F:Fun K "do_div" "do_div" s_do_div f fd) (dwith_outcome:qD P w K mg base "with_outcome" 5 K06.spWithOut) (dleft:qD P w K mg base "left" 1 K06.spLeft) (don:qD P w K mg base "on" 1 K06.spOn):FnOk P w K mg base CX0 6 f fd ["state", "a", "x", "y"] (liftSp K K06.spDiv):=by
  have nd:=scdo_div.nd
  refine fun_ok F scdo_div (fun ds st Pd h=>by obtain ⟨_,_,_,_,rfl,_⟩:=h;rfl) fun cdv A outer s H E hr=>?_
  refine ⟨K06.t_do_div,?t,fun ds st Pd h=>K06.rd_do_div h⟩
  case t =>
    refine' dss_cons ?a ?b
    case a=>walk_at "d_s"
    case b=>walk_at "d_ss"
theorem scdo_get:FnScope ["state", "a", "address"] ["state", "a", "address"] (defScope s_do_get):=⟨rfl,rfl,rfl,by decide +kernel,rfl,by decide +kernel,by decide +kernel⟩
theorem okdo_get (F:Fun K "do_get" "do_get" s_do_get f fd) (gI5:ConOk K mg "CELLS" (.int 5)) (gI6:ConOk K mg "READ" (.int 1)) (dmay_be:qD P w K mg base "may_be" 1 K06.spMay) (dwith_box:qD P w K mg base "with_box" 4 K06.spWithBox) (dleft:qD P w K mg base "left" 1 K06.spLeft) (don:qD P w K mg base "on" 1 K06.spOn):FnOk P w K mg base CX0 6 f fd ["state", "a", "address"] (liftSp K K06.spGet):=by
  have nd:=scdo_get.nd
  refine fun_ok F scdo_get (fun ds st Pd h=>by obtain ⟨_,_,_,rfl,_⟩:=h;rfl) fun cdv A outer s H E hr=>?_
  refine ⟨K06.t_do_get,?t,fun ds st Pd h=>K06.rd_do_get h⟩
  case t =>
    refine' dss_cons ?a ?b
    case a=>walk_at "d_s"
    case b=>walk_at "d_ss"
theorem scdo_set:FnScope ["state", "number", "address"] ["state", "number", "address"] (defScope s_do_set):=⟨rfl,rfl,rfl,by decide +kernel,rfl,by decide +kernel,by decide +kernel⟩
theorem okdo_set (F:Fun K "do_set" "do_set" s_do_set f fd) (gI5:ConOk K mg "CELLS" (.int 5)) (gI7:ConOk K mg "WRITTEN" (.int 2)) (dreplaced:qD P w K mg base "replaced" 1 K06.spReplaced) (dmay_be:qD P w K mg base "may_be" 1 K06.spMay) (done_on:qD P w K mg base "one_on" 3 K06.spOneOn) (dleft:qD P w K mg base "left" 1 K06.spLeft) (don:qD P w K mg base "on" 1 K06.spOn):FnOk P w K mg base CX0 6 f fd ["state", "number", "address"] (liftSp K K06.spSet):=by
  have nd:=scdo_set.nd
  refine fun_ok F scdo_set (fun ds st Pd h=>by obtain ⟨_,_,_,rfl,_⟩:=h;rfl) fun cdv A outer s H E hr=>?_
  refine ⟨K06.t_do_set,?t,fun ds st Pd h=>K06.rd_do_set h⟩
  case t =>
    refine' dss_cons ?a ?b
    case a=>walk_at "d_s"
    case b=>walk_at "d_ss"
theorem scdo_right:FnScope ["state", "page", "rights"] ["state", "page", "rights"] (defScope s_do_right):=⟨rfl,rfl,rfl,by decide +kernel,rfl,by decide +kernel,by decide +kernel⟩
theorem okdo_right (F:Fun K "do_right" "do_right" s_do_right f fd) (gI4:ConOk K mg "RIGHTS" (.int 4)) (m3:mg "len" = none) (dreplaced:qD P w K mg base "replaced" 1 K06.spReplaced) (done_on:qD P w K mg base "one_on" 3 K06.spOneOn) (dleft:qD P w K mg base "left" 1 K06.spLeft) (don:qD P w K mg base "on" 1 K06.spOn):FnOk P w K mg base CX0 6 f fd ["state", "page", "rights"] (liftSp K K06.spRightW):=by
  have nd:=scdo_right.nd
  refine fun_ok F scdo_right (fun ds st Pd h=>by obtain ⟨_,_,_,rfl,_⟩:=h;rfl) fun cdv A outer s H E hr=>?_
  refine ⟨K06.t_do_right,?t,fun ds st Pd h=>K06.rd_do_right h⟩
  case t =>
    refine' dss_cons ?a ?b
    case a=>walk_at "d_s"
    case b=>walk_at "d_ss"
theorem scmade_of:FnScope ["word", "named", "x", "y"] ["word", "named"] (defScope s_made_of):=⟨rfl,rfl,rfl,by decide +kernel,rfl,by decide +kernel,by decide +kernel⟩
theorem okmade_of (F:Fun K "made_of" "made_of" s_made_of f fd) (dplain_outcome:qD P w K mg base "plain_outcome" 1 K20.spPlain):FnOk P w K mg base CX0 2 f fd ["word", "named"] (liftSp K K20.spMade):=by
  have nd:=scmade_of.nd
  refine fun_ok F scmade_of (fun ds st Pd h=>by obtain ⟨_,_,rfl,_⟩:=h;rfl) fun cdv A outer s H E hr=>?_
  refine ⟨K20.t_made_of,?t,fun ds st Pd h=>K20.rd_made_of h⟩
  case t =>
    refine' dss_cons ?a ?b
    case a=>walk_at "d_s"
    case b=>walk_at "d_ss"
theorem scparts_of:FnScope ["row", "sign"] ["row", "sign"] (defScope s_parts_of):=⟨rfl,rfl,rfl,by decide +kernel,rfl,by decide +kernel,by decide +kernel⟩
theorem okparts_of (F:Fun K "parts_of" "parts_of" s_parts_of f fd) (m1:mg "tuple" = none) (m14:mg "zip" = none) (tD0:TopD w K mg "FORMS" K85.formS):FnOk P w K mg base CX0 1 f fd ["row", "sign"] (liftSp K K85.spParts):=by
  have nd:=scparts_of.nd
  have hint0:Hint [(1, "sign")]:=⟨trivial⟩
  refine fun_ok F scparts_of (fun ds st Pd h=>by obtain ⟨_,_,rfl,_⟩:=h;rfl) fun cdv A outer s H E hr=>?_
  refine ⟨K85.t_parts_of,?t,fun ds st Pd h=>K85.rd_parts_of h⟩
  case t =>
    refine' dss_cons ?a ?b
    case a=>walk_at "d_s"
    case b=>walk_at "d_ss"
theorem scdo_item:FnScope ["state", "word", "parts", "heard"] ["state", "word", "parts", "heard"] (defScope s_do_item):=⟨rfl,rfl,rfl,by decide +kernel,rfl,by decide +kernel,by decide +kernel⟩
theorem okdo_item (F:Fun K "do_item" "do_item" s_do_item f fd) (dwith_box:qD P w K mg base "with_box" 4 K06.spWithBox) (don:qD P w K mg base "on" 1 K06.spOn) (ddo_div:qD P w K mg base "do_div" 6 K06.spDiv) (ddo_get:qD P w K mg base "do_get" 6 K06.spGet) (ddo_set:qD P w K mg base "do_set" 6 K06.spSet) (ddo_right:qD P w K mg base "do_right" 6 K06.spRightW):FnOk P w K mg base CX0 7 f fd ["state", "word", "parts", "heard"] (liftSp K KD.spDoItem):=by
  have nd:=scdo_item.nd
  refine fun_ok F scdo_item (fun ds st Pd h=>by obtain ⟨_,_,_,_,_,rfl,_⟩:=h;rfl) fun cdv A outer s H E hr=>?_
  refine ⟨KD.t_do_item,?t,fun ds st Pd h=>KD.rd_do_item h⟩
  case t =>
    refine' dss_cons ?a ?b
    case a=>walk_at "d_s"
    case b=>walk_at "d_ss"
theorem scis_shutting:FnScope ["word", "parts", "watched"] ["word", "parts", "watched"] (defScope s_is_shutting):=⟨rfl,rfl,rfl,by decide +kernel,rfl,by decide +kernel,by decide +kernel⟩
theorem okis_shutting (F:Fun K "is_shutting" "is_shutting" s_is_shutting f fd)  : FnOk P w K mg base CX0 1 f fd ["word", "parts", "watched"] (liftSp K KD.spShutting):=by
  have nd:=scis_shutting.nd
  refine fun_ok F scis_shutting (fun ds st Pd h=>by obtain ⟨_,_,_,_,rfl,_⟩:=h;rfl) fun cdv A outer s H E hr=>?_
  refine ⟨KD.t_is_shutting,?t,fun ds st Pd h=>KD.rd_is_shutting h⟩
  case t =>
    refine' dss_cons ?a ?b
    case a=>walk_at "d_s"
    case b=>walk_at "d_ss"
theorem scHold___init__:FnScope ["self", "boxes", "marks"] ["self", "boxes", "marks"] (defScope s_Hold___init__):=⟨rfl,rfl,rfl,by decide +kernel,rfl,by decide +kernel,by decide +kernel⟩
theorem okHold___init__ (F:Fun K "__init__" "Hold.__init__" s_Hold___init__ f fd) (cC:ClsOk K "Hold" ["hands", "shelf", "boxes", "marks"]):FnOk P w K mg base CX0 1 f fd ["self", "boxes", "marks"] (liftSp K KM.spHInit):=by
  have nd:=scHold___init__.nd
  refine fun_ok F scHold___init__ (fun ds st Pd h=>by obtain ⟨_,_,_,rfl,_⟩:=h;rfl) fun cdv A outer s H E hr=>?_
  refine ⟨KM.t_Hold___init__,?t,fun ds st Pd h=>KM.rd_Hold___init__ h⟩
  case t =>
    refine' dss_cons ?a ?b
    case a=>walk_at "d_s"
    case b=>walk_at "d_ss"
theorem scHold_in_hand:FnScope ["self", "x"] ["self", "x"] (defScope s_Hold_in_hand):=⟨rfl,rfl,rfl,by decide +kernel,rfl,by decide +kernel,by decide +kernel⟩
theorem okHold_in_hand (F:Fun K "in_hand" "Hold.in_hand" s_Hold_in_hand f fd) (cC:ClsOk K "Hold" ["hands", "shelf", "boxes", "marks"]):FnOk P w K mg base CX0 1 f fd ["self", "x"] (liftSp K KM.spInHand):=by
  have nd:=scHold_in_hand.nd
  refine fun_ok F scHold_in_hand (fun ds st Pd h=>by obtain ⟨_,_,_,_,_,rfl,_⟩:=h;rfl) fun cdv A outer s H E hr=>?_
  refine ⟨KM.t_Hold_in_hand,?t,fun ds st Pd h=>KM.rd_Hold_in_hand h⟩
  case t =>
    refine' dss_cons ?a ?b
    case a=>walk_at "d_s"
    case b=>walk_at "d_ss"
theorem scHold_on_shelf:FnScope ["self", "s"] ["self", "s"] (defScope s_Hold_on_shelf):=⟨rfl,rfl,rfl,by decide +kernel,rfl,by decide +kernel,by decide +kernel⟩
theorem okHold_on_shelf (F:Fun K "on_shelf" "Hold.on_shelf" s_Hold_on_shelf f fd) (cC:ClsOk K "Hold" ["hands", "shelf", "boxes", "marks"]):FnOk P w K mg base CX0 1 f fd ["self", "s"] (liftSp K KM.spOnShelf):=by
  have nd:=scHold_on_shelf.nd
  refine fun_ok F scHold_on_shelf (fun ds st Pd h=>by obtain ⟨_,_,_,_,_,rfl,_⟩:=h;rfl) fun cdv A outer s H E hr=>?_
  refine ⟨KM.t_Hold_on_shelf,?t,fun ds st Pd h=>KM.rd_Hold_on_shelf h⟩
  case t =>
    refine' dss_cons ?a ?b
    case a=>walk_at "d_s"
    case b=>walk_at "d_ss"
theorem scHold_put:FnScope ["self", "row", "word"] ["self", "row"] (defScope s_Hold_put):=⟨rfl,rfl,rfl,by decide +kernel,rfl,by decide +kernel,by decide +kernel⟩
theorem okHold_put (F:Fun K "put" "Hold.put" s_Hold_put f fd) (dmade_of:qD P w K mg base "made_of" 2 K20.spMade) (dparts_of:qD P w K mg base "parts_of" 1 K85.spParts) (cC:ClsOk K "Hold" ["hands", "shelf", "boxes", "marks"]) (mHold_in_hand:MethOk P w K mg base "Hold" "in_hand" 1 KM.spInHand) (mHold_on_shelf:MethOk P w K mg base "Hold" "on_shelf" 1 KM.spOnShelf):FnOk P w K mg base CX0 3 f fd ["self", "row"] (liftSp K KM.spPut):=by
  have nd:=scHold_put.nd
  have hint0:Hint [(0, "self")]:=⟨trivial⟩
  refine fun_ok F scHold_put (fun ds st Pd h=>by obtain ⟨_,_,_,_,_,_,rfl,_⟩:=h;rfl) fun cdv A outer s H E hr=>?_
  refine ⟨KM.t_Hold_put,?t,fun ds st Pd h=>KM.rd_Hold_put h⟩
  case t =>
    refine' dss_cons ?a ?b
    case a=>walk_at "d_s"
    case b=>walk_at "d_ss"
theorem scHold_source:FnScope ["self", "source", "old", "where"] ["self", "source", "old"] (defScope s_Hold_source):=⟨rfl,rfl,rfl,by decide +kernel,rfl,by decide +kernel,by decide +kernel⟩
theorem okHold_source (F:Fun K "source" "Hold.source" s_Hold_source f fd) (cC:ClsOk K "Hold" ["hands", "shelf", "boxes", "marks"]) (mHold_in_hand:MethOk P w K mg base "Hold" "in_hand" 1 KM.spInHand) (mHold_on_shelf:MethOk P w K mg base "Hold" "on_shelf" 1 KM.spOnShelf):FnOk P w K mg base CX0 2 f fd ["self", "source", "old"] (liftSp K KM.spHSource):=by
  have nd:=scHold_source.nd
  refine fun_ok F scHold_source (fun ds st Pd h=>by obtain ⟨_,_,_,_,_,_,_,rfl,_⟩:=h;rfl) fun cdv A outer s H E hr=>?_
  refine ⟨KM.t_Hold_source,?t,fun ds st Pd h=>KM.rd_Hold_source h⟩
  case t =>
    refine' dss_cons ?a ?b
    case a=>walk_at "d_s"
    case b=>walk_at "d_ss"
theorem scnumber_out:FnScope ["row", "parts", "saved"] ["row", "parts", "saved"] (defScope s_number_out):=⟨rfl,rfl,rfl,by decide +kernel,rfl,by decide +kernel,by decide +kernel⟩
theorem oknumber_out (F:Fun K "number_out" "number_out" s_number_out f fd)  : FnOk P w K mg base CX0 1 f fd ["row", "parts", "saved"] (liftSp K KM.spNumOut):=by
  have nd:=scnumber_out.nd
  refine fun_ok F scnumber_out (fun ds st Pd h=>by obtain ⟨_,_,_,_,_,rfl,_⟩:=h;rfl) fun cdv A outer s H E hr=>?_
  refine ⟨KM.t_number_out,?t,fun ds st Pd h=>KM.rd_number_out h⟩
  case t =>
    refine' dss_cons ?a ?b
    case a=>walk_at "d_s"
    case b=>walk_at "d_ss"
theorem scstate_out:FnScope ["way", "state", "hold", "is_back", "boxes", "place", "marks"] ["way", "state", "hold", "is_back"] (defScope s_state_out):=⟨rfl,rfl,rfl,by decide +kernel,rfl,by decide +kernel,by decide +kernel⟩
theorem okstate_out (F:Fun K "state_out" "state_out" s_state_out f fd) (gI3:ConOk K mg "SAVED" (.int 3)) (gI4:ConOk K mg "RIGHTS" (.int 4)) (gI5:ConOk K mg "CELLS" (.int 5)) (m1:mg "tuple" = none) (m2:mg "isinstance" = none) (cC:ClsOk K "Hold" ["hands", "shelf", "boxes", "marks"]) (mHold_in_hand:MethOk P w K mg base "Hold" "in_hand" 1 KM.spInHand) (mHold_source:MethOk P w K mg base "Hold" "source" 2 KM.spHSource):FnOk P w K mg base CX0 3 f fd ["way", "state", "hold", "is_back"] (liftSp K KM.spStateOut):=by
  have nd:=scstate_out.nd
  have hint0:Hint [(2, "hold")]:=⟨trivial⟩
  refine fun_ok F scstate_out (fun ds st Pd h=>by obtain ⟨_,_,_,_,_,_,_,_,rfl,_⟩:=h;rfl) fun cdv A outer s H E hr=>?_
  refine ⟨KM.t_state_out,?t,fun ds st Pd h=>KM.rd_state_out h⟩
  case t =>
    refine' dss_cons ?a ?b
    case a=>walk_at "d_s"
    case b=>walk_at "d_ss"
theorem scdo_host:FnScope ["host", "state", "given", "watched", "hold", "told", "heard", "count", "row", "word", "parts", "number", "outcome", "way", "is_back"] ["host", "state", "given", "watched"] (defScope s_do_host):=⟨rfl,rfl,rfl,by decide +kernel,rfl,by decide +kernel,by decide +kernel⟩
theorem okdo_host (F:Fun K "do_host" "do_host" s_do_host f fd) (gT0:ConT K mg "LAST" KM.lastD) (gT1:ConT K mg "BRINGING" KD.brgD) (gI1:ConOk K mg "BOXES" (.int 1)) (gI2:ConOk K mg "MARKS" (.int 2)) (gI3:ConOk K mg "SAVED" (.int 3)) (m1:mg "tuple" = none) (m3:mg "len" = none) (m6:mg "enumerate" = none) (tN0:TopI w K mg "ITEMS" KM.itemS) (dparts_of:qD P w K mg base "parts_of" 1 K85.spParts) (ddo_item:qD P w K mg base "do_item" 7 KD.spDoItem) (dis_shutting:qD P w K mg base "is_shutting" 1 KD.spShutting) (dnumber_out:qD P w K mg base "number_out" 1 KM.spNumOut) (dstate_out:qD P w K mg base "state_out" 3 KM.spStateOut) (cC:ClsOk K "Hold" ["hands", "shelf", "boxes", "marks"]) (mHold_in_hand:MethOk P w K mg base "Hold" "in_hand" 1 KM.spInHand) (mHold_put:MethOk P w K mg base "Hold" "put" 3 KM.spPut) (kC:MakeOk P w K mg base "Hold" 1 KM.spHInit):FnOk P w K mg base CX0 9 f fd ["host", "state", "given", "watched"] (liftSp K KM.spDoHost):=by
  have nd:=scdo_host.nd
  have hint0:Hint [(4, "hold")]:=⟨trivial⟩
  refine fun_ok F scdo_host (fun ds st Pd h=>by obtain ⟨_,_,_,_,_,_,_,_,rfl,_⟩:=h;rfl) fun cdv A outer s H E hr=>?_
  refine ⟨KM.t_do_host,?t,fun ds st Pd h=>KM.rd_do_host h⟩
  case t =>
    refine' dss_cons ?a ?b
    case a=>walk_at "d_s"
    case b=>walk_at "d_ss"
theorem sc_law_mix:FnScope ["cell", "k", "number"] ["cell", "k"] (defScope s__law_mix):=⟨rfl,rfl,rfl,by decide +kernel,rfl,by decide +kernel,by decide +kernel⟩
theorem ok_law_mix (F:Fun K "_law_mix" "_law_mix" s__law_mix f fd)  : FnOk P w K mg base CX0 1 f fd ["cell", "k"] (liftSp K KL.spMix):=by
  have nd:=sc_law_mix.nd
  refine fun_ok F sc_law_mix (fun ds st Pd h=>by obtain ⟨_,_,rfl,_⟩:=h;rfl) fun cdv A outer s H E hr=>?_
  refine ⟨KL.t__law_mix,?t,fun ds st Pd h=>KL.rd__law_mix h⟩
  case t =>
    refine' dss_cons ?a ?b
    case a=>walk_at "d_s"
    case b=>walk_at "d_ss"
theorem sc_law_parts:FnScope ["cell", "way", "bounds", "found", "k"] ["cell", "way", "bounds"] (defScope s__law_parts):=⟨rfl,rfl,rfl,by decide +kernel,rfl,by decide +kernel,by decide +kernel⟩
theorem ok_law_parts (F:Fun K "_law_parts" "_law_parts" s__law_parts f fd) (m3:mg "len" = none) (m7:mg "range" = none) (d_law_mix:qD P w K mg base "_law_mix" 1 KL.spMix):FnOk P w K mg base CX0 2 f fd ["cell", "way", "bounds"] (liftSp K KL.spLParts):=by
  have nd:=sc_law_parts.nd
  refine fun_ok F sc_law_parts (fun ds st Pd h=>by obtain ⟨_,_,_,_,rfl,_⟩:=h;rfl) fun cdv A outer s H E hr=>?_
  refine ⟨KL.t__law_parts,?t,fun ds st Pd h=>KL.rd__law_parts h⟩
  case t =>
    refine' dss_cons ?a ?b
    case a=>walk_at "d_s"
    case b=>walk_at "d_ss"
theorem sc_law_cell_at:FnScope ["script", "k"] ["script", "k"] (defScope s__law_cell_at):=⟨rfl,rfl,rfl,by decide +kernel,rfl,by decide +kernel,by decide +kernel⟩
theorem ok_law_cell_at (F:Fun K "_law_cell_at" "_law_cell_at" s__law_cell_at f fd) (m3:mg "len" = none):FnOk P w K mg base CX0 1 f fd ["script", "k"] (liftSp K K85.spCellAt):=by
  have nd:=sc_law_cell_at.nd
  refine fun_ok F sc_law_cell_at (fun ds st Pd h=>by obtain ⟨_,_,_,rfl,_⟩:=h;rfl) fun cdv A outer s H E hr=>?_
  refine ⟨K85.t__law_cell_at,?t,fun ds st Pd h=>K85.rd__law_cell_at h⟩
  case t =>
    refine' dss_cons ?a ?b
    case a=>walk_at "d_s"
    case b=>walk_at "d_ss"
theorem sc_law_number:FnScope ["part"] ["part"] (defScope s__law_number):=⟨rfl,rfl,rfl,by decide +kernel,rfl,by decide +kernel,by decide +kernel⟩
theorem ok_law_number (F:Fun K "_law_number" "_law_number" s__law_number f fd)  : FnOk P w K mg base CX0 1 f fd ["part"] (liftSp K KL.spNumber):=by
  have nd:=sc_law_number.nd
  refine fun_ok F sc_law_number (fun ds st Pd h=>by obtain ⟨_,rfl,_⟩:=h;rfl) fun cdv A outer s H E hr=>?_
  refine ⟨KL.t__law_number,?t,fun ds st Pd h=>KL.rd__law_number h⟩
  case t =>
    refine' dss_cons ?a ?b
    case a=>walk_at "d_s"
    case b=>walk_at "d_ss"
theorem sc_law_state:FnScope ["script", "way", "sizes", "many", "cells", "rights", "parts", "boxes", "marks", "saved"] ["script", "way"] (defScope s__law_state):=⟨rfl,rfl,rfl,by decide +kernel,rfl,by decide +kernel,by decide +kernel⟩
theorem ok_law_state (F:Fun K "_law_state" "_law_state" s__law_state f fd) (m1:mg "tuple" = none) (d_law_parts:qD P w K mg base "_law_parts" 2 KL.spLParts) (d_law_cell_at:qD P w K mg base "_law_cell_at" 1 K85.spCellAt) (d_law_number:qD P w K mg base "_law_number" 1 KL.spNumber):FnOk P w K mg base CX0 3 f fd ["script", "way"] (liftSp K KL.spState):=by
  have nd:=sc_law_state.nd
  refine fun_ok F sc_law_state (fun ds st Pd h=>by obtain ⟨_,_,_,rfl,_⟩:=h;rfl) fun cdv A outer s H E hr=>?_
  refine ⟨KL.t__law_state,?t,fun ds st Pd h=>KL.rd__law_state h⟩
  case t =>
    refine' dss_cons ?a ?b
    case a=>walk_at "d_s"
    case b=>walk_at "d_ss"
theorem sc_law_watched:FnScope ["cell", "pages"] ["cell", "pages"] (defScope s__law_watched):=⟨rfl,rfl,rfl,by decide +kernel,rfl,by decide +kernel,by decide +kernel⟩
theorem ok_law_watched (F:Fun K "_law_watched" "_law_watched" s__law_watched f fd) (m1:mg "tuple" = none) (m7:mg "range" = none):FnOk P w K mg base CX0 1 f fd ["cell", "pages"] (liftSp K KL.spWatched):=by
  have nd:=sc_law_watched.nd
  have hint0:Hint [(0, "cell")]:=⟨trivial⟩
  refine fun_ok F sc_law_watched (fun ds st Pd h=>by obtain ⟨_,_,rfl,_⟩:=h;rfl) fun cdv A outer s H E hr=>?_
  refine ⟨KL.t__law_watched,?t,fun ds st Pd h=>KL.rd__law_watched h⟩
  case t =>
    refine' dss_cons ?a ?b
    case a=>walk_at "d_s"
    case b=>walk_at "d_ss"
theorem sc_law_is_number:FnScope ["thing"] ["thing"] (defScope s__law_is_number):=⟨rfl,rfl,rfl,by decide +kernel,rfl,by decide +kernel,by decide +kernel⟩
theorem ok_law_is_number (F:Fun K "_law_is_number" "_law_is_number" s__law_is_number f fd) (m2:mg "isinstance" = none) (m4:mg "int" = none) (m5:mg "bool" = none):FnOk P w K mg base CX0 1 f fd ["thing"] (liftSp K K85.spIsNum):=by
  have nd:=sc_law_is_number.nd
  refine fun_ok F sc_law_is_number (fun ds st Pd h=>by obtain ⟨_,rfl,_⟩:=h;rfl) fun cdv A outer s H E hr=>?_
  refine ⟨K85.t__law_is_number,?t,fun ds st Pd h=>K85.rd__law_is_number h⟩
  case t =>
    refine' dss_cons ?a ?b
    case a=>walk_at "d_s"
    case b=>walk_at "d_ss"
theorem sc_law_same:FnScope ["found", "due", "one", "other"] ["found", "due"] (defScope s__law_same):=⟨rfl,rfl,rfl,by decide +kernel,rfl,by decide +kernel,by decide +kernel⟩
theorem z__law_same {K:PySem.W.Frag} {vs:List V} {H:Hp} {Q:VK} {E:XK} (h:liftSp K (KL.spSame 0) vs H Q E):False:=by
  obtain ⟨φ,st,ds,Pd,R,dl,hs,hq⟩:=h
  obtain ⟨d,rfl,h,_⟩:=hs
  cases d <;> simp [KL.okS] at h
theorem ok_law_same (N:Nat) (F:Fun K "_law_same" "_law_same" s__law_same f fd) (m1:mg "tuple" = none) (m2:mg "isinstance" = none) (m3:mg "len" = none) (m5:mg "bool" = none) (m12:mg "str" = none) (m14:mg "zip" = none) (d_law_is_number:qD P w K mg base "_law_is_number" 1 K85.spIsNum) (d_law_same:qD P w K mg base "_law_same" (2 + N) (KL.spSame N)):FnOk P w K mg base CX0 (2 + N + 1) f fd ["found", "due"] (liftSp K (KL.spSame (N + 1))):=by
  have nd:=sc_law_same.nd
  refine fun_ok F sc_law_same (fun ds st Pd h=>by obtain ⟨_,rfl,_⟩:=h;rfl) fun cdv A outer s H E hr=>?_
  refine ⟨KL.t__law_same N,?t,fun ds st Pd h=>KL.rd__law_same N h⟩
  case t =>
    refine' dss_cons ?a ?b
    case a=>walk_at "d_s"
    case b=>walk_at "d_ss"
theorem sc_law_exits:FnScope ["parts", "found", "k", "how", "boxes", "marks"] ["parts"] (defScope s__law_exits):=⟨rfl,rfl,rfl,by decide +kernel,rfl,by decide +kernel,by decide +kernel⟩
theorem ok_law_exits (F:Fun K "_law_exits" "_law_exits" s__law_exits f fd) (m1:mg "tuple" = none) (m7:mg "range" = none):FnOk P w K mg base CX0 1 f fd ["parts"] (liftSp K K62.spExits):=by
  have nd:=sc_law_exits.nd
  have hint0:Hint [(2, "k")]:=⟨trivial⟩
  refine fun_ok F sc_law_exits (fun ds st Pd h=>by obtain ⟨_,_,rfl,_⟩:=h;rfl) fun cdv A outer s H E hr=>?_
  refine ⟨K62.t__law_exits,?t,fun ds st Pd h=>K62.rd__law_exits h⟩
  case t =>
    refine' dss_cons ?a ?b
    case a=>walk_at "d_s"
    case b=>walk_at "d_ss"
theorem sc_law_numbers:FnScope ["parts", "state", "cells", "page", "near", "less"] ["parts", "state"] (defScope s__law_numbers):=⟨rfl,rfl,rfl,by decide +kernel,rfl,by decide +kernel,by decide +kernel⟩
theorem ok_law_numbers (F:Fun K "_law_numbers" "_law_numbers" s__law_numbers f fd) (m3:mg "len" = none) (m4:mg "int" = none) (m9:mg "max" = none):FnOk P w K mg base CX0 1 f fd ["parts", "state"] (liftSp K K62.spNumbers):=by
  have nd:=sc_law_numbers.nd
  refine fun_ok F sc_law_numbers (fun ds st Pd h=>by obtain ⟨_,_,_,rfl,_⟩:=h;rfl) fun cdv A outer s H E hr=>?_
  refine ⟨K62.t__law_numbers,?t,fun ds st Pd h=>K62.rd__law_numbers h⟩
  case t =>
    refine' dss_cons ?a ?b
    case a=>walk_at "d_s"
    case b=>walk_at "d_ss"
theorem sc_law_block:FnScope ["parts", "state", "word", "one", "two", "three", "rows", "row"] ["parts", "state"] (defScope s__law_block):=⟨rfl,rfl,rfl,by decide +kernel,rfl,by decide +kernel,by decide +kernel⟩
theorem ok_law_block (F:Fun K "_law_block" "_law_block" s__law_block f fd) (m1:mg "tuple" = none) (m3:mg "len" = none) (d_law_exits:qD P w K mg base "_law_exits" 1 K62.spExits) (d_law_numbers:qD P w K mg base "_law_numbers" 1 K62.spNumbers):FnOk P w K mg base CX0 2 f fd ["parts", "state"] (liftSp K K62.spBlock):=by
  have nd:=sc_law_block.nd
  refine fun_ok F sc_law_block (fun ds st Pd h=>by obtain ⟨_,_,_,rfl,_⟩:=h;rfl) fun cdv A outer s H E hr=>?_
  refine ⟨K62.t__law_block,?t,fun ds st Pd h=>K62.rd__law_block h⟩
  case t =>
    refine' dss_cons ?a ?b
    case a=>walk_at "d_s"
    case b=>walk_at "d_ss"
theorem sc_law_left:FnScope ["block", "state", "watched", "row", "one", "two", "three", "cells", "rights", "brought", "leave"] ["block", "state", "watched"] (defScope s__law_left):=⟨rfl,rfl,rfl,by decide +kernel,rfl,by decide +kernel,by decide +kernel⟩
theorem ok_law_left (F:Fun K "_law_left" "_law_left" s__law_left f fd) (m1:mg "tuple" = none) (m3:mg "len" = none) (m4:mg "int" = none) (m11:mg "list" = none):FnOk P w K mg base CX0 1 f fd ["block", "state", "watched"] (liftSp K K62.spLeft):=by
  have nd:=sc_law_left.nd
  refine fun_ok F sc_law_left (fun ds st Pd h=>by obtain ⟨_,_,_,_,_,_,_,_,_,_,_,rfl,_⟩:=h;rfl) fun cdv A outer s H E hr=>?_
  refine ⟨K62.t__law_left,?t,fun ds st Pd h=>K62.rd__law_left h⟩
  case t =>
    refine' dss_cons ?a ?b
    case a=>walk_at "d_s"
    case b=>walk_at "d_ss"
theorem sc_law_due:FnScope ["block", "state", "watched", "leave", "hands", "rights", "cells", "how", "place", "boxes", "marks", "done", "told", "many"] ["block", "state", "watched"] (defScope s__law_due):=⟨rfl,rfl,rfl,by decide +kernel,rfl,by decide +kernel,by decide +kernel⟩
theorem ok_law_due (F:Fun K "_law_due" "_law_due" s__law_due f fd) (m1:mg "tuple" = none) (m2:mg "isinstance" = none) (d_law_left:qD P w K mg base "_law_left" 1 K62.spLeft):FnOk P w K mg base CX0 2 f fd ["block", "state", "watched"] (liftSp K K62.spDue):=by
  have nd:=sc_law_due.nd
  have hint0:Hint [(4, "hands")]:=⟨trivial⟩
  have hint1:Hint [(1, "state")]:=⟨trivial⟩
  refine fun_ok F sc_law_due (fun ds st Pd h=>by obtain ⟨_,_,_,_,_,_,_,_,_,_,_,rfl,_⟩:=h;rfl) fun cdv A outer s H E hr=>?_
  refine ⟨K62.t__law_due,?t,fun ds st Pd h=>K62.rd__law_due h⟩
  case t =>
    refine' dss_cons ?a ?b
    case a=>walk_at "d_s"
    case b=>walk_at "d_ss"
theorem sclaw:FnScope ["script", "way", "state", "cell", "parts", "block", "watched"] ["script"] (defScope s_law):=⟨rfl,rfl,rfl,by decide +kernel,rfl,by decide +kernel,by decide +kernel⟩
theorem oklaw (F:Fun K "law" "law" s_law f fd) (m3:mg "len" = none) (ddo_host:qD P w K mg base "do_host" 9 KM.spDoHost) (d_law_parts:qD P w K mg base "_law_parts" 2 KL.spLParts) (d_law_cell_at:qD P w K mg base "_law_cell_at" 1 K85.spCellAt) (d_law_state:qD P w K mg base "_law_state" 3 KL.spState) (d_law_watched:qD P w K mg base "_law_watched" 1 KL.spWatched) (d_law_same:qD P w K mg base "_law_same" 7 (KL.spSame 5)) (d_law_block:qD P w K mg base "_law_block" 2 K62.spBlock) (d_law_due:qD P w K mg base "_law_due" 2 K62.spDue):FnOk P w K mg base CX0 12 f fd ["script"] (liftSp K spLaw):=by
  have nd:=sclaw.nd
  refine fun_ok F sclaw (fun ds st Pd h=>by obtain ⟨c,rfl,_⟩:=h;rfl) fun cdv A outer s H E hr=>?_
  refine ⟨t_law,?t,fun ds st Pd h=>rd_law h⟩
  case t =>
    refine' dss_cons ?a ?b
    case a=>walk_at "d_s"
    case b=>walk_at "d_ss"
end
@[elab_as_elim] theorem len1 {C:List Value→Prop} (us:List Value) (hl:us.length=1) (h:∀ a0,C [a0]):C us:=by
  match us,hl with
  | [a0],_=>exact h _
@[elab_as_elim] theorem len2 {C:List Value→Prop} (us:List Value) (hl:us.length=2) (h:∀ a0 a1,C [a0,a1]):C us:=by
  match us,hl with
  | [a0,a1],_=>exact h _ _
@[elab_as_elim] theorem len3 {C:List Value→Prop} (us:List Value) (hl:us.length=3) (h:∀ a0 a1 a2,C [a0,a1,a2]):C us:=by
  match us,hl with
  | [a0,a1,a2],_=>exact h _ _ _
@[elab_as_elim] theorem len4 {C:List Value→Prop} (us:List Value) (hl:us.length=4) (h:∀ a0 a1 a2 a3,C [a0,a1,a2,a3]):C us:=by
  match us,hl with
  | [a0,a1,a2,a3],_=>exact h _ _ _ _
@[elab_as_elim] theorem len5 {C:List Value→Prop} (us:List Value) (hl:us.length=5) (h:∀ a0 a1 a2 a3 a4,C [a0,a1,a2,a3,a4]):C us:=by
  match us,hl with
  | [a0,a1,a2,a3,a4],_=>exact h _ _ _ _ _
@[elab_as_elim] theorem len6 {C:List Value→Prop} (us:List Value) (hl:us.length=6) (h:∀ a0 a1 a2 a3 a4 a5,C [a0,a1,a2,a3,a4,a5]):C us:=by
  match us,hl with
  | [a0,a1,a2,a3,a4,a5],_=>exact h _ _ _ _ _ _
@[elab_as_elim] theorem len7 {C:List Value→Prop} (us:List Value) (hl:us.length=7) (h:∀ a0 a1 a2 a3 a4 a5 a6,C [a0,a1,a2,a3,a4,a5,a6]):C us:=by
  match us,hl with
  | [a0,a1,a2,a3,a4,a5,a6],_=>exact h _ _ _ _ _ _ _
@[elab_as_elim] theorem len8 {C:List Value→Prop} (us:List Value) (hl:us.length=8) (h:∀ a0 a1 a2 a3 a4 a5 a6 a7,C [a0,a1,a2,a3,a4,a5,a6,a7]):C us:=by
  match us,hl with
  | [a0,a1,a2,a3,a4,a5,a6,a7],_=>exact h _ _ _ _ _ _ _ _
@[elab_as_elim] theorem len9 {C:List Value→Prop} (us:List Value) (hl:us.length=9) (h:∀ a0 a1 a2 a3 a4 a5 a6 a7 a8,C [a0,a1,a2,a3,a4,a5,a6,a7,a8]):C us:=by
  match us,hl with
  | [a0,a1,a2,a3,a4,a5,a6,a7,a8],_=>exact h _ _ _ _ _ _ _ _ _
theorem all_mk {l:PySem.W.OpenLaw} {w:World} {K:PySem.W.Frag} {h:Heap} {mg:Str→Option Value} {fa CC f0 f1 f2 f3 f4 f5 f6 f7 f8 f9 f10 f11 f12 f13 f14 f15 f16 f17 f18 f19 f20 f21 f22 f23 f24 f25 f26 f27 f28 f29 f30 f31 f32 f33 f34 f35 f36 f37 f38:Addr} (X:K.In h) (G:h.Ns mainGlobals mg) (hfa:mg "law" = some (.ref fa))
    {od0 od1 od2 od3 od4 od5 od6 od7 od8 od9 od10 od11 od12 od13 od14 od15 od16 od17 od18 od19 od20 od21 od22 od23 od24 od25 od26 od27 od28 od29 od30 od31 od32 od33 od34 od35 od36 od37 od38 an0 an1 an2 an3 an4 an5 an6 an7 an8 an9 an10 an11 an12 an13 an14 an15 an16 an17 an18 an19 an20 an21 an22 an23 an24 an25 an26 an27 an28 an29 an30 an31 an32 an33 an34 an35 an36 an37 an38:Option Addr} {sl0 sl1 sl2 sl3 sl4 sl5 sl6 sl7 sl8 sl9 sl10 sl11 sl12 sl13 sl14 sl15 sl16 sl17 sl18 sl19 sl20 sl21 sl22 sl23 sl24 sl25 sl26 sl27 sl28 sl29 sl30 sl31 sl32 sl33 sl34 sl35 sl36 sl37 sl38:Array (Option Value)} {oc0 oc1 oc2 oc3 oc4 oc5 oc6 oc7 oc8 oc9 oc10 oc11 oc12 oc13 oc14 oc15 oc16 oc17 oc18 oc19 oc20 oc21 oc22 oc23 oc24 oc25 oc26 oc27 oc28 oc29 oc30 oc31 oc32 oc33 oc34 oc35 oc36 oc37 oc38 kV0 kV1 kV2 kV3 kV4 kV5 kV6 kV7 kV8 kV9 kV10 kV11 kV12 kV13 kV14 kV15 kV16 kV17 kV18 kV19 kV20 kV21 kV22 kV23 kV24 kV25 kV26 kV27 kV28 kV29 kV30 kV31 kV32 kV33 kV34 kV35 kV36 kV37 kV38 dc0 dc1 dc2 dc3 dc4 dc5 dc6 dc7 dc8 dc9 dc10 dc11 dc12 dc13 dc14 dc15 dc16 dc17 dc18 dc19 dc20 dc21 dc22 dc23 dc24 dc25 dc26 dc27 dc28 dc29 dc30 dc31 dc32 dc33 dc34 dc35 dc36 dc37 dc38 pm0 pm1 pm2 pm3 pm4 pm5 pm6 pm7 pm8 pm9 pm10 pm11 pm12 pm13 pm14 pm15 pm16 pm17 pm18 pm19 pm20 pm21 pm22 pm23 pm24 pm25 pm26 pm27 pm28 pm29 pm30 pm31 pm32 pm33 pm34 pm35 pm36 pm37 pm38 cd0 cd1 cd2 cd3 cd4 cd5 cd6 cd7 cd8 cd9 cd10 cd11 cd12 cd13 cd14 cd15 cd16 cd17 cd18 cd19 cd20 cd21 cd22 cd23 cd24 cd25 cd26 cd27 cd28 cd29 cd30 cd31 cd32 cd33 cd34 cd35 cd36 cd37 cd38 ct0 ct1 ct2 ct3 ct4 ct5 ct6 ct7 ct8 ct9 ct10 ct11 ct12 ct13 ct14 ct15 ct16 ct17 ct18 ct19 ct20 ct21 ct22 ct23 ct24 ct25 ct26 ct27 ct28 ct29 ct30 ct31 ct32 ct33 ct34 ct35 ct36 ct37 ct38:Value}
    (aC:PySem.W.nsIn K mainGlobals "Hold" = some (some (.ref CC))) (pg:PySem.W.plainGet K CC Str.empty=true) (hd:PySem.W.hasDictIn K CC=true) (po:PySem.W.plainOver K CC=true) (sa:PySem.W.findIn K (.ref CC) "__setattr__" = some (some (.builtin "object.__setattr__"))) (mk:PySem.W.makesIn K CC=true) (kc:PySem.W.keepIn K (.ref CC)=true)
    (nf0:PySem.W.findIn K (.ref CC) "hands" = some none)
    (nf1:PySem.W.findIn K (.ref CC) "shelf" = some none)
    (nf2:PySem.W.findIn K (.ref CC) "boxes" = some none)
    (nf3:PySem.W.findIn K (.ref CC) "marks" = some none)
    (a0:PySem.W.nsIn K mainGlobals "replaced" = some (some (.ref f0)))
    (l0:K.lookup f0=some ⟨oc0,od0,.func (PySem.W.fnOf "replaced" "replaced" (defArgs s_replaced) (defBody s_replaced) (defScope s_replaced) .none kV0 dc0 pm0 an0 cd0 ct0),sl0⟩) (c0:PySem.W.codeIn K cd0 "replaced" = true) (k0:PySem.W.keepIn K (.ref f0)=true)
    (a1:PySem.W.nsIn K mainGlobals "may_be" = some (some (.ref f1)))
    (l1:K.lookup f1=some ⟨oc1,od1,.func (PySem.W.fnOf "may_be" "may_be" (defArgs s_may_be) (defBody s_may_be) (defScope s_may_be) .none kV1 dc1 pm1 an1 cd1 ct1),sl1⟩) (c1:PySem.W.codeIn K cd1 "may_be" = true) (k1:PySem.W.keepIn K (.ref f1)=true)
    (a2:PySem.W.nsIn K mainGlobals "moved" = some (some (.ref f2)))
    (l2:K.lookup f2=some ⟨oc2,od2,.func (PySem.W.fnOf "moved" "moved" (defArgs s_moved) (defBody s_moved) (defScope s_moved) .none kV2 dc2 pm2 an2 cd2 ct2),sl2⟩) (c2:PySem.W.codeIn K cd2 "moved" = true) (k2:PySem.W.keepIn K (.ref f2)=true)
    (a3:PySem.W.nsIn K mainGlobals "one_on" = some (some (.ref f3)))
    (l3:K.lookup f3=some ⟨oc3,od3,.func (PySem.W.fnOf "one_on" "one_on" (defArgs s_one_on) (defBody s_one_on) (defScope s_one_on) .none kV3 dc3 pm3 an3 cd3 ct3),sl3⟩) (c3:PySem.W.codeIn K cd3 "one_on" = true) (k3:PySem.W.keepIn K (.ref f3)=true)
    (a4:PySem.W.nsIn K mainGlobals "with_box" = some (some (.ref f4)))
    (l4:K.lookup f4=some ⟨oc4,od4,.func (PySem.W.fnOf "with_box" "with_box" (defArgs s_with_box) (defBody s_with_box) (defScope s_with_box) .none kV4 dc4 pm4 an4 cd4 ct4),sl4⟩) (c4:PySem.W.codeIn K cd4 "with_box" = true) (k4:PySem.W.keepIn K (.ref f4)=true)
    (a5:PySem.W.nsIn K mainGlobals "with_outcome" = some (some (.ref f5)))
    (l5:K.lookup f5=some ⟨oc5,od5,.func (PySem.W.fnOf "with_outcome" "with_outcome" (defArgs s_with_outcome) (defBody s_with_outcome) (defScope s_with_outcome) .none kV5 dc5 pm5 an5 cd5 ct5),sl5⟩) (c5:PySem.W.codeIn K cd5 "with_outcome" = true) (k5:PySem.W.keepIn K (.ref f5)=true)
    (a6:PySem.W.nsIn K mainGlobals "left" = some (some (.ref f6)))
    (l6:K.lookup f6=some ⟨oc6,od6,.func (PySem.W.fnOf "left" "left" (defArgs s_left) (defBody s_left) (defScope s_left) .none kV6 dc6 pm6 an6 cd6 ct6),sl6⟩) (c6:PySem.W.codeIn K cd6 "left" = true) (k6:PySem.W.keepIn K (.ref f6)=true)
    (a7:PySem.W.nsIn K mainGlobals "on" = some (some (.ref f7)))
    (l7:K.lookup f7=some ⟨oc7,od7,.func (PySem.W.fnOf "on" "on" (defArgs s_on) (defBody s_on) (defScope s_on) .none kV7 dc7 pm7 an7 cd7 ct7),sl7⟩) (c7:PySem.W.codeIn K cd7 "on" = true) (k7:PySem.W.keepIn K (.ref f7)=true)
    (a8:PySem.W.nsIn K mainGlobals "plain_outcome" = some (some (.ref f8)))
    (l8:K.lookup f8=some ⟨oc8,od8,.func (PySem.W.fnOf "plain_outcome" "plain_outcome" (defArgs s_plain_outcome) (defBody s_plain_outcome) (defScope s_plain_outcome) .none kV8 dc8 pm8 an8 cd8 ct8),sl8⟩) (c8:PySem.W.codeIn K cd8 "plain_outcome" = true) (k8:PySem.W.keepIn K (.ref f8)=true)
    (a9:PySem.W.nsIn K mainGlobals "do_div" = some (some (.ref f9)))
    (l9:K.lookup f9=some ⟨oc9,od9,.func (PySem.W.fnOf "do_div" "do_div" (defArgs s_do_div) (defBody s_do_div) (defScope s_do_div) .none kV9 dc9 pm9 an9 cd9 ct9),sl9⟩) (c9:PySem.W.codeIn K cd9 "do_div" = true) (k9:PySem.W.keepIn K (.ref f9)=true)
    (a10:PySem.W.nsIn K mainGlobals "do_get" = some (some (.ref f10)))
    (l10:K.lookup f10=some ⟨oc10,od10,.func (PySem.W.fnOf "do_get" "do_get" (defArgs s_do_get) (defBody s_do_get) (defScope s_do_get) .none kV10 dc10 pm10 an10 cd10 ct10),sl10⟩) (c10:PySem.W.codeIn K cd10 "do_get" = true) (k10:PySem.W.keepIn K (.ref f10)=true)
    (a11:PySem.W.nsIn K mainGlobals "do_set" = some (some (.ref f11)))
    (l11:K.lookup f11=some ⟨oc11,od11,.func (PySem.W.fnOf "do_set" "do_set" (defArgs s_do_set) (defBody s_do_set) (defScope s_do_set) .none kV11 dc11 pm11 an11 cd11 ct11),sl11⟩) (c11:PySem.W.codeIn K cd11 "do_set" = true) (k11:PySem.W.keepIn K (.ref f11)=true)
    (a12:PySem.W.nsIn K mainGlobals "do_right" = some (some (.ref f12)))
    (l12:K.lookup f12=some ⟨oc12,od12,.func (PySem.W.fnOf "do_right" "do_right" (defArgs s_do_right) (defBody s_do_right) (defScope s_do_right) .none kV12 dc12 pm12 an12 cd12 ct12),sl12⟩) (c12:PySem.W.codeIn K cd12 "do_right" = true) (k12:PySem.W.keepIn K (.ref f12)=true)
    (a13:PySem.W.nsIn K mainGlobals "made_of" = some (some (.ref f13)))
    (l13:K.lookup f13=some ⟨oc13,od13,.func (PySem.W.fnOf "made_of" "made_of" (defArgs s_made_of) (defBody s_made_of) (defScope s_made_of) .none kV13 dc13 pm13 an13 cd13 ct13),sl13⟩) (c13:PySem.W.codeIn K cd13 "made_of" = true) (k13:PySem.W.keepIn K (.ref f13)=true)
    (a14:PySem.W.nsIn K mainGlobals "parts_of" = some (some (.ref f14)))
    (l14:K.lookup f14=some ⟨oc14,od14,.func (PySem.W.fnOf "parts_of" "parts_of" (defArgs s_parts_of) (defBody s_parts_of) (defScope s_parts_of) .none kV14 dc14 pm14 an14 cd14 ct14),sl14⟩) (c14:PySem.W.codeIn K cd14 "parts_of" = true) (k14:PySem.W.keepIn K (.ref f14)=true)
    (a15:PySem.W.nsIn K mainGlobals "do_item" = some (some (.ref f15)))
    (l15:K.lookup f15=some ⟨oc15,od15,.func (PySem.W.fnOf "do_item" "do_item" (defArgs s_do_item) (defBody s_do_item) (defScope s_do_item) .none kV15 dc15 pm15 an15 cd15 ct15),sl15⟩) (c15:PySem.W.codeIn K cd15 "do_item" = true) (k15:PySem.W.keepIn K (.ref f15)=true)
    (a16:PySem.W.nsIn K mainGlobals "is_shutting" = some (some (.ref f16)))
    (l16:K.lookup f16=some ⟨oc16,od16,.func (PySem.W.fnOf "is_shutting" "is_shutting" (defArgs s_is_shutting) (defBody s_is_shutting) (defScope s_is_shutting) .none kV16 dc16 pm16 an16 cd16 ct16),sl16⟩) (c16:PySem.W.codeIn K cd16 "is_shutting" = true) (k16:PySem.W.keepIn K (.ref f16)=true)
    (a17:PySem.W.findIn K (.ref CC) "__init__" = some (some (.ref f17))) (i17:PySem.W.isFn K (.ref f17)=true)
    (l17:K.lookup f17=some ⟨oc17,od17,.func (PySem.W.fnOf "__init__" "Hold.__init__" (defArgs s_Hold___init__) (defBody s_Hold___init__) (defScope s_Hold___init__) .none kV17 dc17 pm17 an17 cd17 ct17),sl17⟩) (c17:PySem.W.codeIn K cd17 "Hold.__init__" = true) (k17:PySem.W.keepIn K (.ref f17)=true)
    (a18:PySem.W.findIn K (.ref CC) "in_hand" = some (some (.ref f18))) (i18:PySem.W.isFn K (.ref f18)=true)
    (l18:K.lookup f18=some ⟨oc18,od18,.func (PySem.W.fnOf "in_hand" "Hold.in_hand" (defArgs s_Hold_in_hand) (defBody s_Hold_in_hand) (defScope s_Hold_in_hand) .none kV18 dc18 pm18 an18 cd18 ct18),sl18⟩) (c18:PySem.W.codeIn K cd18 "Hold.in_hand" = true) (k18:PySem.W.keepIn K (.ref f18)=true)
    (a19:PySem.W.findIn K (.ref CC) "on_shelf" = some (some (.ref f19))) (i19:PySem.W.isFn K (.ref f19)=true)
    (l19:K.lookup f19=some ⟨oc19,od19,.func (PySem.W.fnOf "on_shelf" "Hold.on_shelf" (defArgs s_Hold_on_shelf) (defBody s_Hold_on_shelf) (defScope s_Hold_on_shelf) .none kV19 dc19 pm19 an19 cd19 ct19),sl19⟩) (c19:PySem.W.codeIn K cd19 "Hold.on_shelf" = true) (k19:PySem.W.keepIn K (.ref f19)=true)
    (a20:PySem.W.findIn K (.ref CC) "put" = some (some (.ref f20))) (i20:PySem.W.isFn K (.ref f20)=true)
    (l20:K.lookup f20=some ⟨oc20,od20,.func (PySem.W.fnOf "put" "Hold.put" (defArgs s_Hold_put) (defBody s_Hold_put) (defScope s_Hold_put) .none kV20 dc20 pm20 an20 cd20 ct20),sl20⟩) (c20:PySem.W.codeIn K cd20 "Hold.put" = true) (k20:PySem.W.keepIn K (.ref f20)=true)
    (a21:PySem.W.findIn K (.ref CC) "source" = some (some (.ref f21))) (i21:PySem.W.isFn K (.ref f21)=true)
    (l21:K.lookup f21=some ⟨oc21,od21,.func (PySem.W.fnOf "source" "Hold.source" (defArgs s_Hold_source) (defBody s_Hold_source) (defScope s_Hold_source) .none kV21 dc21 pm21 an21 cd21 ct21),sl21⟩) (c21:PySem.W.codeIn K cd21 "Hold.source" = true) (k21:PySem.W.keepIn K (.ref f21)=true)
    (a22:PySem.W.nsIn K mainGlobals "number_out" = some (some (.ref f22)))
    (l22:K.lookup f22=some ⟨oc22,od22,.func (PySem.W.fnOf "number_out" "number_out" (defArgs s_number_out) (defBody s_number_out) (defScope s_number_out) .none kV22 dc22 pm22 an22 cd22 ct22),sl22⟩) (c22:PySem.W.codeIn K cd22 "number_out" = true) (k22:PySem.W.keepIn K (.ref f22)=true)
    (a23:PySem.W.nsIn K mainGlobals "state_out" = some (some (.ref f23)))
    (l23:K.lookup f23=some ⟨oc23,od23,.func (PySem.W.fnOf "state_out" "state_out" (defArgs s_state_out) (defBody s_state_out) (defScope s_state_out) .none kV23 dc23 pm23 an23 cd23 ct23),sl23⟩) (c23:PySem.W.codeIn K cd23 "state_out" = true) (k23:PySem.W.keepIn K (.ref f23)=true)
    (a24:PySem.W.nsIn K mainGlobals "do_host" = some (some (.ref f24)))
    (l24:K.lookup f24=some ⟨oc24,od24,.func (PySem.W.fnOf "do_host" "do_host" (defArgs s_do_host) (defBody s_do_host) (defScope s_do_host) .none kV24 dc24 pm24 an24 cd24 ct24),sl24⟩) (c24:PySem.W.codeIn K cd24 "do_host" = true) (k24:PySem.W.keepIn K (.ref f24)=true)
    (a25:PySem.W.nsIn K mainGlobals "_law_mix" = some (some (.ref f25)))
    (l25:K.lookup f25=some ⟨oc25,od25,.func (PySem.W.fnOf "_law_mix" "_law_mix" (defArgs s__law_mix) (defBody s__law_mix) (defScope s__law_mix) .none kV25 dc25 pm25 an25 cd25 ct25),sl25⟩) (c25:PySem.W.codeIn K cd25 "_law_mix" = true) (k25:PySem.W.keepIn K (.ref f25)=true)
    (a26:PySem.W.nsIn K mainGlobals "_law_parts" = some (some (.ref f26)))
    (l26:K.lookup f26=some ⟨oc26,od26,.func (PySem.W.fnOf "_law_parts" "_law_parts" (defArgs s__law_parts) (defBody s__law_parts) (defScope s__law_parts) .none kV26 dc26 pm26 an26 cd26 ct26),sl26⟩) (c26:PySem.W.codeIn K cd26 "_law_parts" = true) (k26:PySem.W.keepIn K (.ref f26)=true)
    (a27:PySem.W.nsIn K mainGlobals "_law_cell_at" = some (some (.ref f27)))
    (l27:K.lookup f27=some ⟨oc27,od27,.func (PySem.W.fnOf "_law_cell_at" "_law_cell_at" (defArgs s__law_cell_at) (defBody s__law_cell_at) (defScope s__law_cell_at) .none kV27 dc27 pm27 an27 cd27 ct27),sl27⟩) (c27:PySem.W.codeIn K cd27 "_law_cell_at" = true) (k27:PySem.W.keepIn K (.ref f27)=true)
    (a28:PySem.W.nsIn K mainGlobals "_law_number" = some (some (.ref f28)))
    (l28:K.lookup f28=some ⟨oc28,od28,.func (PySem.W.fnOf "_law_number" "_law_number" (defArgs s__law_number) (defBody s__law_number) (defScope s__law_number) .none kV28 dc28 pm28 an28 cd28 ct28),sl28⟩) (c28:PySem.W.codeIn K cd28 "_law_number" = true) (k28:PySem.W.keepIn K (.ref f28)=true)
    (a29:PySem.W.nsIn K mainGlobals "_law_state" = some (some (.ref f29)))
    (l29:K.lookup f29=some ⟨oc29,od29,.func (PySem.W.fnOf "_law_state" "_law_state" (defArgs s__law_state) (defBody s__law_state) (defScope s__law_state) .none kV29 dc29 pm29 an29 cd29 ct29),sl29⟩) (c29:PySem.W.codeIn K cd29 "_law_state" = true) (k29:PySem.W.keepIn K (.ref f29)=true)
    (a30:PySem.W.nsIn K mainGlobals "_law_watched" = some (some (.ref f30)))
    (l30:K.lookup f30=some ⟨oc30,od30,.func (PySem.W.fnOf "_law_watched" "_law_watched" (defArgs s__law_watched) (defBody s__law_watched) (defScope s__law_watched) .none kV30 dc30 pm30 an30 cd30 ct30),sl30⟩) (c30:PySem.W.codeIn K cd30 "_law_watched" = true) (k30:PySem.W.keepIn K (.ref f30)=true)
    (a31:PySem.W.nsIn K mainGlobals "_law_is_number" = some (some (.ref f31)))
    (l31:K.lookup f31=some ⟨oc31,od31,.func (PySem.W.fnOf "_law_is_number" "_law_is_number" (defArgs s__law_is_number) (defBody s__law_is_number) (defScope s__law_is_number) .none kV31 dc31 pm31 an31 cd31 ct31),sl31⟩) (c31:PySem.W.codeIn K cd31 "_law_is_number" = true) (k31:PySem.W.keepIn K (.ref f31)=true)
    (a32:PySem.W.nsIn K mainGlobals "_law_same" = some (some (.ref f32)))
    (l32:K.lookup f32=some ⟨oc32,od32,.func (PySem.W.fnOf "_law_same" "_law_same" (defArgs s__law_same) (defBody s__law_same) (defScope s__law_same) .none kV32 dc32 pm32 an32 cd32 ct32),sl32⟩) (c32:PySem.W.codeIn K cd32 "_law_same" = true) (k32:PySem.W.keepIn K (.ref f32)=true)
    (a33:PySem.W.nsIn K mainGlobals "_law_exits" = some (some (.ref f33)))
    (l33:K.lookup f33=some ⟨oc33,od33,.func (PySem.W.fnOf "_law_exits" "_law_exits" (defArgs s__law_exits) (defBody s__law_exits) (defScope s__law_exits) .none kV33 dc33 pm33 an33 cd33 ct33),sl33⟩) (c33:PySem.W.codeIn K cd33 "_law_exits" = true) (k33:PySem.W.keepIn K (.ref f33)=true)
    (a34:PySem.W.nsIn K mainGlobals "_law_numbers" = some (some (.ref f34)))
    (l34:K.lookup f34=some ⟨oc34,od34,.func (PySem.W.fnOf "_law_numbers" "_law_numbers" (defArgs s__law_numbers) (defBody s__law_numbers) (defScope s__law_numbers) .none kV34 dc34 pm34 an34 cd34 ct34),sl34⟩) (c34:PySem.W.codeIn K cd34 "_law_numbers" = true) (k34:PySem.W.keepIn K (.ref f34)=true)
    (a35:PySem.W.nsIn K mainGlobals "_law_block" = some (some (.ref f35)))
    (l35:K.lookup f35=some ⟨oc35,od35,.func (PySem.W.fnOf "_law_block" "_law_block" (defArgs s__law_block) (defBody s__law_block) (defScope s__law_block) .none kV35 dc35 pm35 an35 cd35 ct35),sl35⟩) (c35:PySem.W.codeIn K cd35 "_law_block" = true) (k35:PySem.W.keepIn K (.ref f35)=true)
    (a36:PySem.W.nsIn K mainGlobals "_law_left" = some (some (.ref f36)))
    (l36:K.lookup f36=some ⟨oc36,od36,.func (PySem.W.fnOf "_law_left" "_law_left" (defArgs s__law_left) (defBody s__law_left) (defScope s__law_left) .none kV36 dc36 pm36 an36 cd36 ct36),sl36⟩) (c36:PySem.W.codeIn K cd36 "_law_left" = true) (k36:PySem.W.keepIn K (.ref f36)=true)
    (a37:PySem.W.nsIn K mainGlobals "_law_due" = some (some (.ref f37)))
    (l37:K.lookup f37=some ⟨oc37,od37,.func (PySem.W.fnOf "_law_due" "_law_due" (defArgs s__law_due) (defBody s__law_due) (defScope s__law_due) .none kV37 dc37 pm37 an37 cd37 ct37),sl37⟩) (c37:PySem.W.codeIn K cd37 "_law_due" = true) (k37:PySem.W.keepIn K (.ref f37)=true)
    (a38:PySem.W.nsIn K mainGlobals "law" = some (some (.ref f38)))
    (l38:K.lookup f38=some ⟨oc38,od38,.func (PySem.W.fnOf "law" "law" (defArgs s_law) (defBody s_law) (defScope s_law) .none kV38 dc38 pm38 an38 cd38 ct38),sl38⟩) (c38:PySem.W.codeIn K cd38 "law" = true) (k38:PySem.W.keepIn K (.ref f38)=true)
    {aT0:Addr} {iT0:Array Value} {nT0:Nat} {sT0:Array (Option Value)} (b0:PySem.W.nsIn K mainGlobals "LAST" = some (some (.ref aT0))) (e0:K.lookup aT0=some ⟨.type "tuple",none,.seq iT0 nT0,sT0⟩) (v0:strsAre iT0.toList KM.lastS=true) (w0:iT0.size≤sizeLine)
    {aT1:Addr} {iT1:Array Value} {nT1:Nat} {sT1:Array (Option Value)} (b1:PySem.W.nsIn K mainGlobals "BRINGING" = some (some (.ref aT1))) (e1:K.lookup aT1=some ⟨.type "tuple",none,.seq iT1 nT1,sT1⟩) (v1:strsAre iT1.toList KD.brgS=true) (w1:iT1.size≤sizeLine)
    {tI0:Tok} (p0:PySem.W.nsIn K mainGlobals "PLACE" = some (some (.int 0 tI0)))
    {tI1:Tok} (p1:PySem.W.nsIn K mainGlobals "BOXES" = some (some (.int 1 tI1)))
    {tI2:Tok} (p2:PySem.W.nsIn K mainGlobals "MARKS" = some (some (.int 2 tI2)))
    {tI3:Tok} (p3:PySem.W.nsIn K mainGlobals "SAVED" = some (some (.int 3 tI3)))
    {tI4:Tok} (p4:PySem.W.nsIn K mainGlobals "RIGHTS" = some (some (.int 4 tI4)))
    {tI5:Tok} (p5:PySem.W.nsIn K mainGlobals "CELLS" = some (some (.int 5 tI5)))
    {tI6:Tok} (p6:PySem.W.nsIn K mainGlobals "READ" = some (some (.int 1 tI6)))
    {tI7:Tok} (p7:PySem.W.nsIn K mainGlobals "WRITTEN" = some (some (.int 2 tI7)))
    {aD0:Addr} {esD0:Array DictEntry} {nD0:Nat} (bD0:PySem.W.nsIn K mainGlobals "FORMS" = some (some (.ref aD0))) (eD0:K.lookup aD0=some ⟨.type "dict",none,.dict esD0 nD0,#[]⟩) (yD0:(aD0 == sysModules)=false) (uD0:EntsAre w.params esD0.toList K85.formS)
    {aN0:Addr} {esN0:Array DictEntry} {nN0:Nat} (bN0:PySem.W.nsIn K mainGlobals "ITEMS" = some (some (.ref aN0))) (eN0:K.lookup aN0=some ⟨.type "dict",none,.dict esN0 nN0,#[]⟩) (yN0:(aN0 == sysModules)=false) (uN0:EntsInt w.params esN0.toList KM.itemS)
    (z0:PySem.W.nsIn K mainGlobals "all" = some none)
    (z1:PySem.W.nsIn K mainGlobals "tuple" = some none)
    (z2:PySem.W.nsIn K mainGlobals "isinstance" = some none)
    (z3:PySem.W.nsIn K mainGlobals "len" = some none)
    (z4:PySem.W.nsIn K mainGlobals "int" = some none)
    (z5:PySem.W.nsIn K mainGlobals "bool" = some none)
    (z6:PySem.W.nsIn K mainGlobals "enumerate" = some none)
    (z7:PySem.W.nsIn K mainGlobals "range" = some none)
    (z8:PySem.W.nsIn K mainGlobals "min" = some none)
    (z9:PySem.W.nsIn K mainGlobals "max" = some none)
    (z10:PySem.W.nsIn K mainGlobals "sum" = some none)
    (z11:PySem.W.nsIn K mainGlobals "list" = some none)
    (z12:PySem.W.nsIn K mainGlobals "str" = some none)
    (z13:PySem.W.nsIn K mainGlobals "any" = some none)
    (z14:PySem.W.nsIn K mainGlobals "zip" = some none)
    : ∃ fd:FuncData,(∀ (s:Shared) (v:Value),BindsTo s fd ⟨[v],[]⟩ [("script",v)])∧∀ base:Heap,K.In base→base.Ns mainGlobals mg→FnOk l.prog w K mg base CX0 12 fa fd ["script"] (liftSp K spLaw):=by
  have e:=hfa.symm.trans (PySem.W.mg_of X G a38)
  cases e
  have F0:=fun_mk (st:=s_replaced) l0 c0 k0
  have B0:=F0.binds (ps:=["parts", "k", "part"]) fun _ _ _ _ _ _ us hl=>len3 us hl fun _ _ _=>rfl
  have F1:=fun_mk (st:=s_may_be) l1 c1 k1
  have B1:=F1.binds (ps:=["right", "state", "address"]) fun _ _ _ _ _ _ us hl=>len3 us hl fun _ _ _=>rfl
  have F2:=fun_mk (st:=s_moved) l2 c2 k2
  have B2:=F2.binds (ps:=["state", "place"]) fun _ _ _ _ _ _ us hl=>len2 us hl fun _ _=>rfl
  have F3:=fun_mk (st:=s_one_on) l3 c3 k3
  have B3:=F3.binds (ps:=["state"]) fun _ _ _ _ _ _ us hl=>len1 us hl fun _=>rfl
  have F4:=fun_mk (st:=s_with_box) l4 c4 k4
  have B4:=F4.binds (ps:=["state", "a", "number"]) fun _ _ _ _ _ _ us hl=>len3 us hl fun _ _ _=>rfl
  have F5:=fun_mk (st:=s_with_outcome) l5 c5 k5
  have B5:=F5.binds (ps:=["state", "a", "number", "carry"]) fun _ _ _ _ _ _ us hl=>len4 us hl fun _ _ _ _=>rfl
  have F6:=fun_mk (st:=s_left) l6 c6 k6
  have B6:=F6.binds (ps:=["how", "state"]) fun _ _ _ _ _ _ us hl=>len2 us hl fun _ _=>rfl
  have F7:=fun_mk (st:=s_on) l7 c7 k7
  have B7:=F7.binds (ps:=["state"]) fun _ _ _ _ _ _ us hl=>len1 us hl fun _=>rfl
  have F8:=fun_mk (st:=s_plain_outcome) l8 c8 k8
  have B8:=F8.binds (ps:=["word", "x", "y"]) fun _ _ _ _ _ _ us hl=>len3 us hl fun _ _ _=>rfl
  have F9:=fun_mk (st:=s_do_div) l9 c9 k9
  have B9:=F9.binds (ps:=["state", "a", "x", "y"]) fun _ _ _ _ _ _ us hl=>len4 us hl fun _ _ _ _=>rfl
  have F10:=fun_mk (st:=s_do_get) l10 c10 k10
  have B10:=F10.binds (ps:=["state", "a", "address"]) fun _ _ _ _ _ _ us hl=>len3 us hl fun _ _ _=>rfl
  have F11:=fun_mk (st:=s_do_set) l11 c11 k11
  have B11:=F11.binds (ps:=["state", "number", "address"]) fun _ _ _ _ _ _ us hl=>len3 us hl fun _ _ _=>rfl
  have F12:=fun_mk (st:=s_do_right) l12 c12 k12
  have B12:=F12.binds (ps:=["state", "page", "rights"]) fun _ _ _ _ _ _ us hl=>len3 us hl fun _ _ _=>rfl
  have F13:=fun_mk (st:=s_made_of) l13 c13 k13
  have B13:=F13.binds (ps:=["word", "named"]) fun _ _ _ _ _ _ us hl=>len2 us hl fun _ _=>rfl
  have F14:=fun_mk (st:=s_parts_of) l14 c14 k14
  have B14:=F14.binds (ps:=["row", "sign"]) fun _ _ _ _ _ _ us hl=>len2 us hl fun _ _=>rfl
  have F15:=fun_mk (st:=s_do_item) l15 c15 k15
  have B15:=F15.binds (ps:=["state", "word", "parts", "heard"]) fun _ _ _ _ _ _ us hl=>len4 us hl fun _ _ _ _=>rfl
  have F16:=fun_mk (st:=s_is_shutting) l16 c16 k16
  have B16:=F16.binds (ps:=["word", "parts", "watched"]) fun _ _ _ _ _ _ us hl=>len3 us hl fun _ _ _=>rfl
  have F17:=fun_mk (st:=s_Hold___init__) l17 c17 k17
  have B17:=F17.binds (ps:=["self", "boxes", "marks"]) fun _ _ _ _ _ _ us hl=>len3 us hl fun _ _ _=>rfl
  have F18:=fun_mk (st:=s_Hold_in_hand) l18 c18 k18
  have B18:=F18.binds (ps:=["self", "x"]) fun _ _ _ _ _ _ us hl=>len2 us hl fun _ _=>rfl
  have F19:=fun_mk (st:=s_Hold_on_shelf) l19 c19 k19
  have B19:=F19.binds (ps:=["self", "s"]) fun _ _ _ _ _ _ us hl=>len2 us hl fun _ _=>rfl
  have F20:=fun_mk (st:=s_Hold_put) l20 c20 k20
  have B20:=F20.binds (ps:=["self", "row"]) fun _ _ _ _ _ _ us hl=>len2 us hl fun _ _=>rfl
  have F21:=fun_mk (st:=s_Hold_source) l21 c21 k21
  have B21:=F21.binds (ps:=["self", "source", "old"]) fun _ _ _ _ _ _ us hl=>len3 us hl fun _ _ _=>rfl
  have F22:=fun_mk (st:=s_number_out) l22 c22 k22
  have B22:=F22.binds (ps:=["row", "parts", "saved"]) fun _ _ _ _ _ _ us hl=>len3 us hl fun _ _ _=>rfl
  have F23:=fun_mk (st:=s_state_out) l23 c23 k23
  have B23:=F23.binds (ps:=["way", "state", "hold", "is_back"]) fun _ _ _ _ _ _ us hl=>len4 us hl fun _ _ _ _=>rfl
  have F24:=fun_mk (st:=s_do_host) l24 c24 k24
  have B24:=F24.binds (ps:=["host", "state", "given", "watched"]) fun _ _ _ _ _ _ us hl=>len4 us hl fun _ _ _ _=>rfl
  have F25:=fun_mk (st:=s__law_mix) l25 c25 k25
  have B25:=F25.binds (ps:=["cell", "k"]) fun _ _ _ _ _ _ us hl=>len2 us hl fun _ _=>rfl
  have F26:=fun_mk (st:=s__law_parts) l26 c26 k26
  have B26:=F26.binds (ps:=["cell", "way", "bounds"]) fun _ _ _ _ _ _ us hl=>len3 us hl fun _ _ _=>rfl
  have F27:=fun_mk (st:=s__law_cell_at) l27 c27 k27
  have B27:=F27.binds (ps:=["script", "k"]) fun _ _ _ _ _ _ us hl=>len2 us hl fun _ _=>rfl
  have F28:=fun_mk (st:=s__law_number) l28 c28 k28
  have B28:=F28.binds (ps:=["part"]) fun _ _ _ _ _ _ us hl=>len1 us hl fun _=>rfl
  have F29:=fun_mk (st:=s__law_state) l29 c29 k29
  have B29:=F29.binds (ps:=["script", "way"]) fun _ _ _ _ _ _ us hl=>len2 us hl fun _ _=>rfl
  have F30:=fun_mk (st:=s__law_watched) l30 c30 k30
  have B30:=F30.binds (ps:=["cell", "pages"]) fun _ _ _ _ _ _ us hl=>len2 us hl fun _ _=>rfl
  have F31:=fun_mk (st:=s__law_is_number) l31 c31 k31
  have B31:=F31.binds (ps:=["thing"]) fun _ _ _ _ _ _ us hl=>len1 us hl fun _=>rfl
  have F32:=fun_mk (st:=s__law_same) l32 c32 k32
  have B32:=F32.binds (ps:=["found", "due"]) fun _ _ _ _ _ _ us hl=>len2 us hl fun _ _=>rfl
  have F33:=fun_mk (st:=s__law_exits) l33 c33 k33
  have B33:=F33.binds (ps:=["parts"]) fun _ _ _ _ _ _ us hl=>len1 us hl fun _=>rfl
  have F34:=fun_mk (st:=s__law_numbers) l34 c34 k34
  have B34:=F34.binds (ps:=["parts", "state"]) fun _ _ _ _ _ _ us hl=>len2 us hl fun _ _=>rfl
  have F35:=fun_mk (st:=s__law_block) l35 c35 k35
  have B35:=F35.binds (ps:=["parts", "state"]) fun _ _ _ _ _ _ us hl=>len2 us hl fun _ _=>rfl
  have F36:=fun_mk (st:=s__law_left) l36 c36 k36
  have B36:=F36.binds (ps:=["block", "state", "watched"]) fun _ _ _ _ _ _ us hl=>len3 us hl fun _ _ _=>rfl
  have F37:=fun_mk (st:=s__law_due) l37 c37 k37
  have B37:=F37.binds (ps:=["block", "state", "watched"]) fun _ _ _ _ _ _ us hl=>len3 us hl fun _ _ _=>rfl
  have F38:=fun_mk (st:=s_law) l38 c38 k38
  have gT0:=conT_strs (mg:=mg) (x:= "LAST") (PySem.W.mg_of X G b0) e0 v0 w0
  have gT1:=conT_strs (mg:=mg) (x:= "BRINGING") (PySem.W.mg_of X G b1) e1 v1 w1
  have gI0:=con_int (K:=K) (PySem.W.mg_of X G p0)
  have gI1:=con_int (K:=K) (PySem.W.mg_of X G p1)
  have gI2:=con_int (K:=K) (PySem.W.mg_of X G p2)
  have gI3:=con_int (K:=K) (PySem.W.mg_of X G p3)
  have gI4:=con_int (K:=K) (PySem.W.mg_of X G p4)
  have gI5:=con_int (K:=K) (PySem.W.mg_of X G p5)
  have gI6:=con_int (K:=K) (PySem.W.mg_of X G p6)
  have gI7:=con_int (K:=K) (PySem.W.mg_of X G p7)
  have m0:=PySem.W.mg_none_of X G z0
  have m1:=PySem.W.mg_none_of X G z1
  have m2:=PySem.W.mg_none_of X G z2
  have m3:=PySem.W.mg_none_of X G z3
  have m4:=PySem.W.mg_none_of X G z4
  have m5:=PySem.W.mg_none_of X G z5
  have m6:=PySem.W.mg_none_of X G z6
  have m7:=PySem.W.mg_none_of X G z7
  have m8:=PySem.W.mg_none_of X G z8
  have m9:=PySem.W.mg_none_of X G z9
  have m10:=PySem.W.mg_none_of X G z10
  have m11:=PySem.W.mg_none_of X G z11
  have m12:=PySem.W.mg_none_of X G z12
  have m13:=PySem.W.mg_none_of X G z13
  have m14:=PySem.W.mg_none_of X G z14
  have tD0:TopD w K mg "FORMS" K85.formS:=⟨_,_,_,PySem.W.mg_of X G bD0,eD0,yD0,uD0⟩
  have tN0:TopI w K mg "ITEMS" KM.itemS:=⟨_,_,_,PySem.W.mg_of X G bN0,eN0,yN0,uN0⟩
  have CC0:Cls K CC:=⟨pg,hd,po,sa⟩
  have cC:ClsOk K "Hold" ["hands", "shelf", "boxes", "marks"]:=⟨fun c hc=>by
    rw [aC] at hc
    cases hc
    refine ⟨CC0,fun f hf=>?_⟩
    simp only [List.mem_cons,List.not_mem_nil,or_false] at hf
    rcases hf with rfl | rfl | rfl | rfl
    · exact nf0
    · exact nf1
    · exact nf2
    · exact nf3⟩
  refine ⟨PySem.W.fnOf "law" "law" (defArgs s_law) (defBody s_law) (defScope s_law) .none kV38 dc38 pm38 an38 cd38 ct38,fun s v=>.of_eq rfl,fun base _ _=>?_⟩
  have Dreplaced:qD l.prog w K mg base "replaced" 1 K06.spReplaced:=⟨_,_,_,okreplaced F0 ,PySem.W.mg_of X G a0,k0,B0⟩
  have Dmay_be:qD l.prog w K mg base "may_be" 1 K06.spMay:=⟨_,_,_,okmay_be F1 gI4 gI5 m3,PySem.W.mg_of X G a1,k1,B1⟩
  have Dmoved:qD l.prog w K mg base "moved" 2 K06.spMoved:=⟨_,_,_,okmoved F2 gI0 Dreplaced,PySem.W.mg_of X G a2,k2,B2⟩
  have Done_on:qD l.prog w K mg base "one_on" 3 K06.spOneOn:=⟨_,_,_,okone_on F3 gI0 Dmoved,PySem.W.mg_of X G a3,k3,B3⟩
  have Dwith_box:qD l.prog w K mg base "with_box" 4 K06.spWithBox:=⟨_,_,_,okwith_box F4 gI1 Dreplaced Done_on,PySem.W.mg_of X G a4,k4,B4⟩
  have Dwith_outcome:qD l.prog w K mg base "with_outcome" 5 K06.spWithOut:=⟨_,_,_,okwith_outcome F5 gI2 Dreplaced Dwith_box,PySem.W.mg_of X G a5,k5,B5⟩
  have Dleft:qD l.prog w K mg base "left" 1 K06.spLeft:=⟨_,_,_,okleft F6 ,PySem.W.mg_of X G a6,k6,B6⟩
  have Don:qD l.prog w K mg base "on" 1 K06.spOn:=⟨_,_,_,okon F7 ,PySem.W.mg_of X G a7,k7,B7⟩
  have Dplain_outcome:qD l.prog w K mg base "plain_outcome" 1 K20.spPlain:=⟨_,_,_,okplain_outcome F8 ,PySem.W.mg_of X G a8,k8,B8⟩
  have Ddo_div:qD l.prog w K mg base "do_div" 6 K06.spDiv:=⟨_,_,_,okdo_div F9 Dwith_outcome Dleft Don,PySem.W.mg_of X G a9,k9,B9⟩
  have Ddo_get:qD l.prog w K mg base "do_get" 6 K06.spGet:=⟨_,_,_,okdo_get F10 gI5 gI6 Dmay_be Dwith_box Dleft Don,PySem.W.mg_of X G a10,k10,B10⟩
  have Ddo_set:qD l.prog w K mg base "do_set" 6 K06.spSet:=⟨_,_,_,okdo_set F11 gI5 gI7 Dreplaced Dmay_be Done_on Dleft Don,PySem.W.mg_of X G a11,k11,B11⟩
  have Ddo_right:qD l.prog w K mg base "do_right" 6 K06.spRightW:=⟨_,_,_,okdo_right F12 gI4 m3 Dreplaced Done_on Dleft Don,PySem.W.mg_of X G a12,k12,B12⟩
  have Dmade_of:qD l.prog w K mg base "made_of" 2 K20.spMade:=⟨_,_,_,okmade_of F13 Dplain_outcome,PySem.W.mg_of X G a13,k13,B13⟩
  have Dparts_of:qD l.prog w K mg base "parts_of" 1 K85.spParts:=⟨_,_,_,okparts_of F14 m1 m14 tD0,PySem.W.mg_of X G a14,k14,B14⟩
  have Ddo_item:qD l.prog w K mg base "do_item" 7 KD.spDoItem:=⟨_,_,_,okdo_item F15 Dwith_box Don Ddo_div Ddo_get Ddo_set Ddo_right,PySem.W.mg_of X G a15,k15,B15⟩
  have Dis_shutting:qD l.prog w K mg base "is_shutting" 1 KD.spShutting:=⟨_,_,_,okis_shutting F16 ,PySem.W.mg_of X G a16,k16,B16⟩
  have kC:MakeOk l.prog w K mg base "Hold" 1 KM.spHInit:=⟨CC,f17,_,_,aC,PySem.W.mg_of X G aC,⟨mk,a17,i17,kc⟩,okHold___init__ F17 cC,B17⟩
  have MHold_in_hand:MethOk l.prog w K mg base "Hold" "in_hand" 1 KM.spInHand:=⟨CC,f18,_,_,aC,CC0,⟨a18,i18,k18⟩,okHold_in_hand F18 cC,B18⟩
  have MHold_on_shelf:MethOk l.prog w K mg base "Hold" "on_shelf" 1 KM.spOnShelf:=⟨CC,f19,_,_,aC,CC0,⟨a19,i19,k19⟩,okHold_on_shelf F19 cC,B19⟩
  have MHold_put:MethOk l.prog w K mg base "Hold" "put" 3 KM.spPut:=⟨CC,f20,_,_,aC,CC0,⟨a20,i20,k20⟩,okHold_put F20 Dmade_of Dparts_of cC MHold_in_hand MHold_on_shelf,B20⟩
  have MHold_source:MethOk l.prog w K mg base "Hold" "source" 2 KM.spHSource:=⟨CC,f21,_,_,aC,CC0,⟨a21,i21,k21⟩,okHold_source F21 cC MHold_in_hand MHold_on_shelf,B21⟩
  have Dnumber_out:qD l.prog w K mg base "number_out" 1 KM.spNumOut:=⟨_,_,_,oknumber_out F22 ,PySem.W.mg_of X G a22,k22,B22⟩
  have Dstate_out:qD l.prog w K mg base "state_out" 3 KM.spStateOut:=⟨_,_,_,okstate_out F23 gI3 gI4 gI5 m1 m2 cC MHold_in_hand MHold_source,PySem.W.mg_of X G a23,k23,B23⟩
  have Ddo_host:qD l.prog w K mg base "do_host" 9 KM.spDoHost:=⟨_,_,_,okdo_host F24 gT0 gT1 gI1 gI2 gI3 m1 m3 m6 tN0 Dparts_of Ddo_item Dis_shutting Dnumber_out Dstate_out cC MHold_in_hand MHold_put kC,PySem.W.mg_of X G a24,k24,B24⟩
  have D_law_mix:qD l.prog w K mg base "_law_mix" 1 KL.spMix:=⟨_,_,_,ok_law_mix F25 ,PySem.W.mg_of X G a25,k25,B25⟩
  have D_law_parts:qD l.prog w K mg base "_law_parts" 2 KL.spLParts:=⟨_,_,_,ok_law_parts F26 m3 m7 D_law_mix,PySem.W.mg_of X G a26,k26,B26⟩
  have D_law_cell_at:qD l.prog w K mg base "_law_cell_at" 1 K85.spCellAt:=⟨_,_,_,ok_law_cell_at F27 m3,PySem.W.mg_of X G a27,k27,B27⟩
  have D_law_number:qD l.prog w K mg base "_law_number" 1 KL.spNumber:=⟨_,_,_,ok_law_number F28 ,PySem.W.mg_of X G a28,k28,B28⟩
  have D_law_state:qD l.prog w K mg base "_law_state" 3 KL.spState:=⟨_,_,_,ok_law_state F29 m1 D_law_parts D_law_cell_at D_law_number,PySem.W.mg_of X G a29,k29,B29⟩
  have D_law_watched:qD l.prog w K mg base "_law_watched" 1 KL.spWatched:=⟨_,_,_,ok_law_watched F30 m1 m7,PySem.W.mg_of X G a30,k30,B30⟩
  have D_law_is_number:qD l.prog w K mg base "_law_is_number" 1 K85.spIsNum:=⟨_,_,_,ok_law_is_number F31 m2 m4 m5,PySem.W.mg_of X G a31,k31,B31⟩
  have R_law_same:∀ N,qD l.prog w K mg base "_law_same" (2 + N) (KL.spSame N):=by
    intro N
    induction N with
    | zero =>
      have F0:∀ fd,FnOk l.prog w K mg base CX0 (2 + 0) f32 fd ["found", "due"] (liftSp K (KL.spSame 0)):=fun fd=>⟨fun vs H Q E h=>(z__law_same h).elim,fun A outer s H args us vs Q E hr he hb hv h=>(z__law_same h).elim⟩
      exact ⟨_,_,_,F0 _,PySem.W.mg_of X G a32,k32,B32⟩
    | succ N ih=>exact ⟨_,_,_,ok_law_same N F32 m1 m2 m3 m5 m12 m14 D_law_is_number ih,PySem.W.mg_of X G a32,k32,B32⟩
  have D_law_same:qD l.prog w K mg base "_law_same" 7 (KL.spSame 5):=R_law_same 5
  have D_law_exits:qD l.prog w K mg base "_law_exits" 1 K62.spExits:=⟨_,_,_,ok_law_exits F33 m1 m7,PySem.W.mg_of X G a33,k33,B33⟩
  have D_law_numbers:qD l.prog w K mg base "_law_numbers" 1 K62.spNumbers:=⟨_,_,_,ok_law_numbers F34 m3 m4 m9,PySem.W.mg_of X G a34,k34,B34⟩
  have D_law_block:qD l.prog w K mg base "_law_block" 2 K62.spBlock:=⟨_,_,_,ok_law_block F35 m1 m3 D_law_exits D_law_numbers,PySem.W.mg_of X G a35,k35,B35⟩
  have D_law_left:qD l.prog w K mg base "_law_left" 1 K62.spLeft:=⟨_,_,_,ok_law_left F36 m1 m3 m4 m11,PySem.W.mg_of X G a36,k36,B36⟩
  have D_law_due:qD l.prog w K mg base "_law_due" 2 K62.spDue:=⟨_,_,_,ok_law_due F37 m1 m2 D_law_left,PySem.W.mg_of X G a37,k37,B37⟩
  exact oklaw F38 m3 Ddo_host D_law_parts D_law_cell_at D_law_state D_law_watched D_law_same D_law_block D_law_due
end K62
def PySem.W.Fast.tw4155789852528799004 : Nat := 0
def PySem.W.Fast.tw822564880306828966 : Nat := 0
def PySem.W.Fast.tw3712713245295214655 : Nat := 0
def PySem.W.Fast.tw9647782050169961851 : Nat := 0
def PySem.W.Fast.tw3699791341405320366 : Nat := 0
def PySem.W.Fast.tw5113756941913566706 : Nat := 0
def PySem.W.Fast.tw14711031295047789787 : Nat := 0
def PySem.W.Fast.tw2259789002488692999 : Nat := 0
def PySem.W.Fast.tw16779010022531850039 : Nat := 0
def PySem.W.Fast.tw3681708844186305010 : Nat := 0
def PySem.W.Fast.tw6939994425951715210 : Nat := 0
def PySem.W.Fast.tw764263622812463395 : Nat := 0
def PySem.W.Fast.tw5771362204296918928 : Nat := 0
def PySem.W.Fast.tw5476728356873965160 : Nat := 0
def PySem.W.Fast.tw7845598728004829628 : Nat := 0
def PySem.W.Fast.tw14790332187552937143 : Nat := 0
def PySem.W.Fast.tw15248616200639343672 : Nat := 0
def PySem.W.Fast.tw11178094356237471169 : Nat := 0
def PySem.W.Fast.tw14433558226369409478 : Nat := 0
open PySem PySem.W PyProof.Rows
set_option maxRecDepth 100000 in
set_option maxHeartbeats 0 in
theorem PySem.Challenge.cw_asitruns_k62_left_at_an_exit_holds : PySem.Challenge.rw_asitruns_k62_left_at_an_exit.Holds := by
  w_on;o_law;k_head;(case hw=>w_witness2)
  k_fill
  refine L3.law_walk (l:=PySem.Challenge.rw_asitruns_k62_left_at_an_exit) 12 rfl rfl ⟨rfl,by decide,by decide⟩ (fun w h Y=>PySem.W.kIn_of Y) ?F
  case F =>
    intro w mg fa h KX G hmg
    refine' K62.all_mk KX G hmg ?aC ?pg ?hd ?po ?sa ?mk ?kc ?nf0 ?nf1 ?nf2 ?nf3 ?a0 ?l0 ?c0 ?k0 ?a1 ?l1 ?c1 ?k1 ?a2 ?l2 ?c2 ?k2 ?a3 ?l3 ?c3 ?k3 ?a4 ?l4 ?c4 ?k4 ?a5 ?l5 ?c5 ?k5 ?a6 ?l6 ?c6 ?k6 ?a7 ?l7 ?c7 ?k7 ?a8 ?l8 ?c8 ?k8 ?a9 ?l9 ?c9 ?k9 ?a10 ?l10 ?c10 ?k10 ?a11 ?l11 ?c11 ?k11 ?a12 ?l12 ?c12 ?k12 ?a13 ?l13 ?c13 ?k13 ?a14 ?l14 ?c14 ?k14 ?a15 ?l15 ?c15 ?k15 ?a16 ?l16 ?c16 ?k16 ?a17 ?i17 ?l17 ?c17 ?k17 ?a18 ?i18 ?l18 ?c18 ?k18 ?a19 ?i19 ?l19 ?c19 ?k19 ?a20 ?i20 ?l20 ?c20 ?k20 ?a21 ?i21 ?l21 ?c21 ?k21 ?a22 ?l22 ?c22 ?k22 ?a23 ?l23 ?c23 ?k23 ?a24 ?l24 ?c24 ?k24 ?a25 ?l25 ?c25 ?k25 ?a26 ?l26 ?c26 ?k26 ?a27 ?l27 ?c27 ?k27 ?a28 ?l28 ?c28 ?k28 ?a29 ?l29 ?c29 ?k29 ?a30 ?l30 ?c30 ?k30 ?a31 ?l31 ?c31 ?k31 ?a32 ?l32 ?c32 ?k32 ?a33 ?l33 ?c33 ?k33 ?a34 ?l34 ?c34 ?k34 ?a35 ?l35 ?c35 ?k35 ?a36 ?l36 ?c36 ?k36 ?a37 ?l37 ?c37 ?k37 ?a38 ?l38 ?c38 ?k38 ?b0 ?e0 ?v0 ?w0 ?b1 ?e1 ?v1 ?w1 ?p0 ?p1 ?p2 ?p3 ?p4 ?p5 ?p6 ?p7 ?bD0 ?eD0 ?yD0 ?uD0 ?bN0 ?eN0 ?yN0 ?uN0 ?z0 ?z1 ?z2 ?z3 ?z4 ?z5 ?z6 ?z7 ?z8 ?z9 ?z10 ?z11 ?z12 ?z13 ?z14
    (case aC=>k_is)
    (case pg=>k_is)
    (case hd=>k_is)
    (case po=>k_is)
    (case sa=>k_is)
    (case mk=>k_is)
    (case kc=>k_is)
    (case nf0=>k_is)
    (case nf1=>k_is)
    (case nf2=>k_is)
    (case nf3=>k_is)
    (case a0=>k_is)
    (case l0=>k_is)
    (case c0=>k_is)
    (case k0=>k_is)
    (case a1=>k_is)
    (case l1=>k_is)
    (case c1=>k_is)
    (case k1=>k_is)
    (case a2=>k_is)
    (case l2=>k_is)
    (case c2=>k_is)
    (case k2=>k_is)
    (case a3=>k_is)
    (case l3=>k_is)
    (case c3=>k_is)
    (case k3=>k_is)
    (case a4=>k_is)
    (case l4=>k_is)
    (case c4=>k_is)
    (case k4=>k_is)
    (case a5=>k_is)
    (case l5=>k_is)
    (case c5=>k_is)
    (case k5=>k_is)
    (case a6=>k_is)
    (case l6=>k_is)
    (case c6=>k_is)
    (case k6=>k_is)
    (case a7=>k_is)
    (case l7=>k_is)
    (case c7=>k_is)
    (case k7=>k_is)
    (case a8=>k_is)
    (case l8=>k_is)
    (case c8=>k_is)
    (case k8=>k_is)
    (case a9=>k_is)
    (case l9=>k_is)
    (case c9=>k_is)
    (case k9=>k_is)
    (case a10=>k_is)
    (case l10=>k_is)
    (case c10=>k_is)
    (case k10=>k_is)
    (case a11=>k_is)
    (case l11=>k_is)
    (case c11=>k_is)
    (case k11=>k_is)
    (case a12=>k_is)
    (case l12=>k_is)
    (case c12=>k_is)
    (case k12=>k_is)
    (case a13=>k_is)
    (case l13=>k_is)
    (case c13=>k_is)
    (case k13=>k_is)
    (case a14=>k_is)
    (case l14=>k_is)
    (case c14=>k_is)
    (case k14=>k_is)
    (case a15=>k_is)
    (case l15=>k_is)
    (case c15=>k_is)
    (case k15=>k_is)
    (case a16=>k_is)
    (case l16=>k_is)
    (case c16=>k_is)
    (case k16=>k_is)
    (case a17=>k_is)
    (case i17=>k_is)
    (case l17=>k_is)
    (case c17=>k_is)
    (case k17=>k_is)
    (case a18=>k_is)
    (case i18=>k_is)
    (case l18=>k_is)
    (case c18=>k_is)
    (case k18=>k_is)
    (case a19=>k_is)
    (case i19=>k_is)
    (case l19=>k_is)
    (case c19=>k_is)
    (case k19=>k_is)
    (case a20=>k_is)
    (case i20=>k_is)
    (case l20=>k_is)
    (case c20=>k_is)
    (case k20=>k_is)
    (case a21=>k_is)
    (case i21=>k_is)
    (case l21=>k_is)
    (case c21=>k_is)
    (case k21=>k_is)
    (case a22=>k_is)
    (case l22=>k_is)
    (case c22=>k_is)
    (case k22=>k_is)
    (case a23=>k_is)
    (case l23=>k_is)
    (case c23=>k_is)
    (case k23=>k_is)
    (case a24=>k_is)
    (case l24=>k_is)
    (case c24=>k_is)
    (case k24=>k_is)
    (case a25=>k_is)
    (case l25=>k_is)
    (case c25=>k_is)
    (case k25=>k_is)
    (case a26=>k_is)
    (case l26=>k_is)
    (case c26=>k_is)
    (case k26=>k_is)
    (case a27=>k_is)
    (case l27=>k_is)
    (case c27=>k_is)
    (case k27=>k_is)
    (case a28=>k_is)
    (case l28=>k_is)
    (case c28=>k_is)
    (case k28=>k_is)
    (case a29=>k_is)
    (case l29=>k_is)
    (case c29=>k_is)
    (case k29=>k_is)
    (case a30=>k_is)
    (case l30=>k_is)
    (case c30=>k_is)
    (case k30=>k_is)
    (case a31=>k_is)
    (case l31=>k_is)
    (case c31=>k_is)
    (case k31=>k_is)
    (case a32=>k_is)
    (case l32=>k_is)
    (case c32=>k_is)
    (case k32=>k_is)
    (case a33=>k_is)
    (case l33=>k_is)
    (case c33=>k_is)
    (case k33=>k_is)
    (case a34=>k_is)
    (case l34=>k_is)
    (case c34=>k_is)
    (case k34=>k_is)
    (case a35=>k_is)
    (case l35=>k_is)
    (case c35=>k_is)
    (case k35=>k_is)
    (case a36=>k_is)
    (case l36=>k_is)
    (case c36=>k_is)
    (case k36=>k_is)
    (case a37=>k_is)
    (case l37=>k_is)
    (case c37=>k_is)
    (case k37=>k_is)
    (case a38=>k_is)
    (case l38=>k_is)
    (case c38=>k_is)
    (case k38=>k_is)
    (case b0=>k_is)
    (case e0=>k_is)
    (case v0=>rfl)
    (case w0=>decide)
    (case b1=>k_is)
    (case e1=>k_is)
    (case v1=>rfl)
    (case w1=>decide)
    (case p0=>k_is)
    (case p1=>k_is)
    (case p2=>k_is)
    (case p3=>k_is)
    (case p4=>k_is)
    (case p5=>k_is)
    (case p6=>k_is)
    (case p7=>k_is)
    (case bD0=>k_is)
    (case eD0=>k_is)
    (case yD0=>decide)
    (case uD0=>exact ⟨⟨_,_,rfl,rfl,rfl⟩,⟨_,_,rfl,rfl,rfl⟩,⟨_,_,rfl,rfl,rfl⟩,⟨_,_,rfl,rfl,rfl⟩,⟨_,_,rfl,rfl,rfl⟩,⟨_,_,rfl,rfl,rfl⟩,⟨_,_,rfl,rfl,rfl⟩,⟨_,_,rfl,rfl,rfl⟩,⟨_,_,rfl,rfl,rfl⟩,⟨_,_,rfl,rfl,rfl⟩,⟨_,_,rfl,rfl,rfl⟩,⟨_,_,rfl,rfl,rfl⟩,⟨_,_,rfl,rfl,rfl⟩,⟨_,_,rfl,rfl,rfl⟩,⟨_,_,rfl,rfl,rfl⟩,⟨_,_,rfl,rfl,rfl⟩,⟨_,_,rfl,rfl,rfl⟩,⟨_,_,rfl,rfl,rfl⟩,⟨_,_,rfl,rfl,rfl⟩,⟨_,_,rfl,rfl,rfl⟩,⟨_,_,rfl,rfl,rfl⟩,⟨_,_,rfl,rfl,rfl⟩,⟨_,_,rfl,rfl,rfl⟩,⟨_,_,rfl,rfl,rfl⟩,⟨_,_,rfl,rfl,rfl⟩,trivial⟩)
    (case bN0=>k_is)
    (case eN0=>k_is)
    (case yN0=>decide)
    (case uN0=>exact ⟨⟨_,_,rfl,rfl,rfl⟩,⟨_,_,rfl,rfl,rfl⟩,⟨_,_,rfl,rfl,rfl⟩,⟨_,_,rfl,rfl,rfl⟩,⟨_,_,rfl,rfl,rfl⟩,⟨_,_,rfl,rfl,rfl⟩,trivial⟩)
    (case z0=>k_is)
    (case z1=>k_is)
    (case z2=>k_is)
    (case z3=>k_is)
    (case z4=>k_is)
    (case z5=>k_is)
    (case z6=>k_is)
    (case z7=>k_is)
    (case z8=>k_is)
    (case z9=>k_is)
    (case z10=>k_is)
    (case z11=>k_is)
    (case z12=>k_is)
    (case z13=>k_is)
    (case z14=>k_is)

