import PyProof.Rows.All
import Wide.All
import OpenK.AllK
import Wide.FinOn
import Lean
import PyProof.EqAt
import PyProof.EqKinds
import PyProof.TupleCall
import PyProof.NeKinds
import KE.LcSums
import KE.KRevSl
import OpenK.KTop
import PyProof.Draws
import PyProof.EnumMake
import KE.KIntText
import KE.KxText
import PyProof.StrLawsTight
import PyProof.StrLawsChain
import PyProof.StrLawsIn
import PyProof.StrLawsJoin
import PyProof.CallStr
import PyProof.MeetsStr
import PyProof.MeetsStr2
import PyProof.StrCalls2
import PyProof.StrLoop
import PyProof.ConsumeWalk
import PyProof.ExcBaseAll.ValueError
import PySem.Challenge.RW_asitruns_k31_whole_turnings_keep
set_option Elab.async false
set_option linter.all false
set_option maxRecDepth 100000
set_option hygiene false
local macro_rules|`(tactic|k_dat 0"r0")=>`(tactic|(obtain⟨φ,st,ρ,P,pre,ht,hq⟩:=h))
local macro_rules|`(tactic|k_dat 0"r1")=>`(tactic|(intro pins s σ H Q I h))
local macro_rules|`(tactic|k_dat 0"r2")=>`(tactic|(refine⟨rfl,rfl,qAO (by decide +kernel) ?_⟩))
local macro_rules|`(tactic|k_dat 0"r3")=>`(tactic|(obtain⟨φ,st,ρ,P,pre,ht,n,b,c,r⟩:=h))
local macro_rules|`(tactic|k_dat 0"r4")=>`(tactic|(intro pins s σ H x y v u Q I rx ry h))
local macro_rules|`(tactic|k_dat 0"r5")=>`(tactic|(obtain⟨φ,st,x,y,P,R,dx,dy,hr,hq⟩:=h))
local macro_rules|`(tactic|k_dat 0"r6")=>`(tactic|(simp only [DL] at h))
local macro_rules|`(tactic|k_dat 0"r7")=>`(tactic|(intro pins s σ H v w u1 u2 Q I r1 r2 h))
local macro_rules|`(tactic|k_dat 0"r8")=>`(tactic|(simp only [qP] at e))
local macro_rules|`(tactic|k_dat 0"r9")=>`(tactic|(obtain⟨d,ns,sd,n,rfl,hs,hn,hi,hl,hP⟩:=h))
local macro_rules|`(tactic|k_dat 0"r10")=>`(tactic|(intro pins s σ H D I h))
local macro_rules|`(tactic|k_dat 0"r11")=>`(tactic|(obtain⟨t',rfl⟩:=ry))
local macro_rules|`(tactic|k_dat 0"r12")=>`(tactic|(have hP:=hP st (.refl _)))
local macro_rules|`(tactic|k_dat 0"r13")=>`(tactic|(exact⟨_,rfl,by decide,by decide⟩))
local macro_rules|`(tactic|k_dat 0"r14")=>`(tactic|(refine⟨φ,st,ρ,_,pre,ht,fun d st1 h1 φ1 H1 v b1 dx=>?_⟩))
local macro_rules|`(tactic|k_dat 0"r15")=>`(tactic|(intro X hP hw hK hc i pins s σ H E I hf st hg))
local macro_rules|`(tactic|k_dat 0"r16")=>`(tactic|(obtain⟨f0,f1,f2,f3,f4,f5⟩:=hf it (by simp)))
local macro_rules|`(tactic|k_dat 0"r17")=>`(tactic|(refine⟨φ,st,ρ,_,pre,ht,fun x st1 h1 φ1 H1 v b1 dx=>?_⟩))
local macro_rules|`(tactic|k_dat 0"r18")=>`(tactic|(intro pins s σ H vs us Q I rv h))
local macro_rules|`(tactic|k_dat 0"r19")=>`(tactic|(obtain⟨φ,st,ds,P,R,dl,hr,hq⟩:=h))
local macro_rules|`(tactic|k_dat 0"r20")=>`(tactic|(rw [List.length_map] at this))
local macro_rules|`(tactic|k_dat 0"r21")=>`(tactic|(intro pins s σ H xs us Q I r h))
local macro_rules|`(tactic|k_dat 0"r22")=>`(tactic|(refine⟨φ,st,ρ,_,pre,ht,fun k st1 h1 φ1 H1 b1=>?_⟩))
local macro_rules|`(tactic|k_dat 0"r23")=>`(tactic|(rcases ds with _ | ⟨x,_ | ⟨y,r⟩⟩))
local macro_rules|`(tactic|k_dat 0"r24")=>`(tactic|(refine qh (qQ (j:=0) (qB (i:=1) rfl) rfl _ ?_)))
local macro_rules|`(tactic|k_dat 0"r25")=>`(tactic|(rw [decide_eq_false (by omega)]))
local macro_rules|`(tactic|k_dat 0"r26")=>`(tactic|(obtain⟨o',e1⟩:=I.base.there b o e hx))
local macro_rules|`(tactic|k_dat 0"r27")=>`(tactic|(rw [show its.toArray.any (eqU x)=its.any (eqU x) by simp,qCZ r fs]))
local macro_rules|`(tactic|k_dat 0"r28")=>`(tactic|(have l1:its.toArray.size=a.length:=by rw [List.size_toArray,← rv.length,hd.length]))
local macro_rules|`(tactic|k_dat 0"r29")=>`(tactic|(have l2:its2.toArray.size=b.length:=by rw [List.size_toArray,← rv2.length,hd2.length]))
local macro_rules|`(tactic|k_dat 0"r30")=>`(tactic|(simpa using (Option.some.inj this).symm))
local macro_rules|`(tactic|k_dat 0"r31")=>`(tactic|(obtain⟨φ,st,ds,Pd,R,dl,hs,hq⟩:=h))
local macro_rules|`(tactic|k_dat 0"r32")=>`(tactic|(simp only [qES,List.mem_cons,List.not_mem_nil,or_false] at hk))
local macro_rules|`(tactic|k_dat 0"r33")=>`(tactic|(exact I1.qNU (Nat.le_refl _) (I1.hok.fresh (Nat.le_refl _))))
local macro_rules|`(tactic|k_dat 0"r34")=>`(tactic|(intro pins s σ H x v vl vu lo hi sl Q I rx hs pl pu h))
local macro_rules|`(tactic|k_dat 0"r35")=>`(tactic|(intro value slice pins s σ H x y v u Q I rx ry h hs))
local macro_rules|`(tactic|k_dat 0"r36")=>`(tactic|(obtain⟨oc,od,kV,doc,pm,an,cdv,ct,osl,rfl,lk,hcd⟩:=F.ex))
local macro_rules|`(tactic|k_dat 0"r37")=>`(tactic|(refine⟨φ1,st1,ρ,_,pre.on b1,h1,fun y st2 h2 φ2 H2 w b2 dy=>?_⟩))
local macro_rules|`(tactic|k_dat 0"r38")=>`(tactic|(refine⟨φ,st,ρ,_,pre,ht,fun items ok st1 h1 φ1 H1 J b1 hJ=>?_⟩))
local macro_rules|`(tactic|k_dat 0"r39")=>`(tactic|(rw [if_neg q,if_neg (by rw [decide_eq_true_eq];exact q)];rfl))
local macro_rules|`(tactic|k_dat 0"r40")=>`(tactic|(have I1:Inv X pins σ H { s with heap:=h' }:=I.turned (t':=s.toks) (fun b o hb e=>(sb.2 b hb).trans e) f0 f1 f3 f4 f5))
local macro_rules|`(tactic|k_dat 0"r41")=>`(tactic|(show wpAny _ _ (if (((sIx items.size 0 lo:Nat):Int)==0&&(1:Int)==1&&(sIx items.size items.size hi - sIx items.size 0 lo)==items.size)=true then _ else _) _ _ s))
local macro_rules|`(tactic|k_dat 0"r42")=>`(tactic|(exact⟨φ1,st1,ρ,P,pre.on b1,h1,fun k st2 h2 φ2 H2 b2=>hq k st2 h2 φ2 H2 (b1.trans b2)⟩))
local macro_rules|`(tactic|k_dat 0"r43")=>`(tactic|(refine⟨φ,st,ρ,_,pre,ht,fun ds st1 h1 φ1 H1 vs b1 dx=>⟨by rw [← dx.length];exact h1.1,fun p hp=>?_⟩⟩))
local macro_rules|`(tactic|k_dat 0"r44")=>`(tactic|(have l1:its.toArray.size=a.items.length:=by rw [List.size_toArray,← rv.length,d1.length]))
local macro_rules|`(tactic|k_dat 0"r45")=>`(tactic|(have l2:its2.toArray.size=b.items.length:=by rw [List.size_toArray,← rv2.length,d2.length]))
local macro_rules|`(tactic|k_dat 0"r46")=>`(tactic|(refine⟨φ,st,ρ,{ P with nx:=u P },pre,ht,fun ρ' st' hu φ' H' σ' bh dr=>?_,b,c,r⟩))
local macro_rules|`(tactic|k_dat 0"r47")=>`(tactic|(have I1:Inv X pins σ H { s with heap:=h' }:=I.kept (t':=s.toks) fun b o e=>hx b o (Nat.ne_of_lt (Heap.lt_size e)) e))
local macro_rules|`(tactic|k_dat 0"r48")=>`(tactic|(rw [show its.toArray.any (isIn xs its x)=its.any (isIn xs its x) by simp,qGp I hd rv o2]))
local macro_rules|`(tactic|k_dat 0"r49")=>`(tactic|(simp only [qEL,tseq,qb,qE,qC,qD,qO,List.getElem?_cons_zero,List.getElem?_cons_succ,List.set_cons_zero,List.set_cons_succ]))
local macro_rules|`(tactic|k_dat 0"r50")=>`(tactic|(have e:(eqD 8 (.str a) (.str s) != true) = !(a==s):=by show ((a==s) != true)=_;rw [Bool.bne_true]))
local macro_rules|`(tactic|k_dat 0"r51")=>`(tactic|(refine qCK (evb (qAk (qQ (j:=0) (qB (i:=1) rfl) rfl) (qY (fun _ h=>h) (by show 4≤sizeLine;decide)))) (fun e=>?_) (fun _=>qK)))
local macro_rules|`(tactic|k_dat 0"r52")=>`(tactic|(refine qS (evb (qAk (ss:=["add", "mul"]) (qB (i:=3) rfl) (qY (fun _ h=>h) (by show 2≤sizeLine;decide)))) (fun e=>?_) (fun _=>?_)))
local macro_rules|`(tactic|k_dat 0"r53")=>`(tactic|(exact qS (b:=true) (fun P hp=>qm (b2:=true) (evb (qDc h4 (qB (i:=3) rfl))) (fun e=>by rw [c] at e;cases e) P (by rw [c];exact hp)) (fun _=>hP) (fun e=>nomatch e)))
local macro_rules|`(tactic|k_dat 0"r54")=>`(tactic|(refine qh (qF (qB (i:=0) rfl) (qF (qB (i:=1) rfl) qN) _ ⟨d,ns,.two w x y,rfl,hs,hn,hi,.inl ⟨w,x,y,rfl,fun st1 x1=>?_⟩⟩)))
local macro_rules|`(tactic|k_dat 0"r55")=>`(tactic|(refine qS (b:=false) (qm (b1:=false) (b2:=false) (evb (eqW _ _)) fun _=>evb (eqW _ _)) (fun z=>nomatch z) (fun _=>?_)))
local macro_rules|`(tactic|k_dat 0"r56")=>`(tactic|(refine qS (b:=false) (qq (b1:=false) (b2:=false) (qFQ e3 (evb (qAA (vl .non) qK))) (fun z=>nomatch z)) (fun z=>nomatch z) (fun _=>?_)))
set_option hygiene true
namespace L2
open PySem PySem.Spec PyProof.Rows
noncomputable abbrev Key:=Sum Int Str
noncomputable def qFI:Key→Value→Bool
  | .inl k,v=>Value.isInt k v
  | .inr x,v=>Value.isStrOf x v
noncomputable def qQZ (w:World):Key→Int
  | .inl k=>hashInt k
  | .inr x=>hashStr w x
theorem qAE:∀ {k:Key} {v:Value},qFI k v=true→(∃ i t,k=Sum.inl i∧v=Value.int i t)∨(∃ x t,k=Sum.inr x∧v=Value.str x t)
  | .inl i,v,h=>by
    obtain⟨t,e⟩:=Value.isInt_shape (k:=i) (v:=v) h
    exact .inl ⟨i,t,rfl,e⟩
  | .inr x,v,h=>by
    obtain⟨t,e⟩:=Value.isStrOf_shape (x:=x) (v:=v) h
    exact .inr ⟨x,t,rfl,e⟩
theorem qIc (i:Int) (t:Tok):qFI (.inl i) (.int i t)=true:=by simp [qFI,Value.isInt]
theorem qIr (x:Str) (t:Tok):qFI (.inr x) (.str x t)=true:=by simp [qFI,Value.isStrOf]
theorem qOC (a b:Int):decide ((Sum.inl a:Key)=Sum.inl b)=(a==b):=by
  by_cases e:a=b
  · subst e;simp
  · have h:¬ (Sum.inl a:Key)=Sum.inl b:=fun q=>e (Sum.inl.inj q)
    rw [decide_eq_false h]
    exact (beq_eq_false_iff_ne.mpr e).symm
theorem qOY (a b:Str):decide ((Sum.inr a:Key)=Sum.inr b)=decide (a=b):=by
  by_cases e:a=b
  · subst e;simp
  · have h:¬ (Sum.inr a:Key)=Sum.inr b:=fun q=>e (Sum.inr.inj q)
    rw [decide_eq_false h,decide_eq_false e]
theorem qOD (a:Int) (b:Str):decide ((Sum.inl a:Key)=Sum.inr b)=false:=decide_eq_false (fun q=>nomatch q)
theorem qOK (a:Str) (b:Int):decide ((Sum.inr a:Key)=Sum.inl b)=false:=decide_eq_false (fun q=>nomatch q)
noncomputable def qAW (prog:Program) (w:World):PySem.KeyKind prog w Key where
  is:=qFI
  hash:=qQZ w
  inj :=fun v a b ha hb=>by
    rcases qAE ha with ⟨i,t,rfl,rfl⟩ | ⟨x,t,rfl,rfl⟩
    · rcases qAE hb with ⟨j,u,rfl,e⟩ | ⟨y,u,rfl,e⟩
      · injection e with e1 _;rw [e1]
      · exact nomatch e
    · rcases qAE hb with ⟨j,u,rfl,e⟩ | ⟨y,u,rfl,e⟩
      · exact nomatch e
      · injection e with e1 _;rw [e1]
  byValue:=fun k v h=>by
    rcases qAE h with ⟨i,t,rfl,rfl⟩ | ⟨x,t,rfl,rfl⟩<;>rfl
  pyHash:=fun hv h=>by
    rcases qAE hv with ⟨i,t,rfl,rfl⟩ | ⟨x,t,rfl,rfl⟩
    · exact wpAny_pyHash_int h
    · exact wpAny_pyHash_str h
  eqBool:=fun hu hv h=>by
    rcases qAE hu with ⟨i,t,rfl,rfl⟩ | ⟨x,t,rfl,rfl⟩
    · rcases qAE hv with ⟨j,u,rfl,rfl⟩ | ⟨y,u,rfl,rfl⟩
      · rw [qOC] at h;exact wpAny_eqBool_int h
      · rw [qOD] at h;exact SeqAt.EqAt.int_str i t y u _ _ _ _ h
    · rcases qAE hv with ⟨j,u,rfl,rfl⟩ | ⟨y,u,rfl,rfl⟩
      · rw [qOK] at h;exact SeqAt.EqAt.str_int x t j u _ _ _ _ h
      · rw [qOY] at h;exact wpAny_eqBool_str h
  «strs»:=fun k x t v h=>by
    rcases qAE h with ⟨i,u,rfl,e⟩ | ⟨y,u,rfl,e⟩
    · exact nomatch e
    · injection e with e1 _
      subst e1
      cases v<;>rfl
theorem qGW (prog:Program) (w:World) (i:Int) (t:Tok):(qAW prog w).is (.inl i) (.int i t)=true:=qIc i t
theorem qGK (prog:Program) (w:World) (x:Str) (t:Tok):(qAW prog w).is (.inr x) (.str x t)=true:=qIr x t
end L2
namespace L2
open PySem PySem.Spec PyProof.Rows
inductive V where
  | non | bl (b:Bool) | int (i:Int) | str (x:Str) | byt (b:Array UInt8) | flt (b:UInt64) | ref (a:Addr) | ty (n:String)
  deriving DecidableEq
noncomputable def RelV:V→Value→Prop
  | .non,u=>u=Value.none
  | .bl b,u=>u=Value.bool b
  | .int i,u=>∃ t,u=Value.int i t
  | .str x,u=>∃ t,u=Value.str x t
  | .byt b,u=>∃ t,u=Value.bytes b t
  | .flt b,u=>∃ t,u=Value.float b t
  | .ref a,u=>u=Value.ref a
  | .ty n,u=>u=Value.type n
noncomputable abbrev Vals:List V→List Value→Prop:=Paired RelV
theorem Vals.length {xs:List V} {us:List Value} (r:Vals xs us):xs.length=us.length:=Paired.length r
theorem Vals.get:∀ {xs:List V} {us:List Value} {i:Nat} {x:V},Vals xs us→xs[i]? = some x→∃ u,us[i]? = some u∧RelV x u
  | _,_,_,_,.nil,e=>by simp at e
  | _,_,0,_,.cons r _,e=>by simp at e;subst e;exact⟨_,rfl,r⟩
  | _,_,i+1,x,.cons _ t,e=>by
    obtain⟨u,h1,h2⟩:=Vals.get (i:=i) (x:=x) t (by simpa using e)
    exact⟨u,by simpa using h1,h2⟩
theorem Vals.set {x:V} {u:Value} (r:RelV x u):∀ {xs:List V} {us:List Value} (i:Nat),Vals xs us→Vals (xs.set i x) (us.set i u)
  | _,_,_,.nil=>.nil
  | _,_,0,.cons _ t=>.cons r t
  | _,_,i+1,.cons q t=>.cons q (Vals.set r i t)
theorem Vals.append:∀ {xs ys:List V} {us ws:List Value},Vals xs us→Vals ys ws→Vals (xs++ys) (us++ws)
  | _,_,_,_,.nil,s=>s
  | _,_,_,_,.cons r t,s=>.cons r (Vals.append t s)
theorem Vals.take:∀ {xs:List V} {us:List Value} (n:Nat),Vals xs us→Vals (xs.take n) (us.take n)
  | _,_,0,_=>.nil
  | _,_,_+1,.nil=>.nil
  | _,_,n+1,.cons r t=>.cons r (Vals.take n t)
theorem Vals.drop:∀ {xs:List V} {us:List Value} (n:Nat),Vals xs us→Vals (xs.drop n) (us.drop n)
  | _,_,0,r=>r
  | _,_,_+1,.nil=>.nil
  | _,_,n+1,.cons _ t=>Vals.drop n t
noncomputable def qEY:Option V→Option Value→Prop
  | some v,some u=>RelV v u
  | none,none=>True
  | _,_=>False
noncomputable def KV {κ:Type}:List (κ×V)→List (κ×Value)→Prop:=Paired fun (p:κ×V) (q:κ×Value)=>p.1=q.1∧RelV p.2 q.2
noncomputable def kV:Key→V
  | .inl i=>.int i
  | .inr x=>.str x
inductive HO where
  /-- a list -/
  | lst (xs:List V)
  /-- a tuple (never changes) -/
  | tup (xs:List V)
  /-- a dict whose keys are ints and texts;one whose keys are tuples of ints and texts (the empty one is both) -/
  | dK (kvs:List (Key×V)) | dT (kvs:List (List Key×V))
  /-- a set of ints: its members,its size -/
  | set (S:Int→Bool) (n:Nat)
  /-- an instance of the class at C,its dict at dx,its attributes -/
  | ins (C dx:Addr) (fs:List (Str×V))
  /-- the dict of the instance at x -/
  | own (x:Addr)
  /-- the dict of an exception -/
  | xd (fs:List (Str×V))
  /-- a bound method,f of x -/
  | met (f x:Addr)
  /-- a range object lo,lo+1,.. below hi -/
  | rng (lo hi:Int)
  /-- a thing that is known to the object (the script;a dict while a loop walks it): read,never written while it is so -/
  | frz (o:Obj) (u:HO)
  /-- a code object's table -/
  | tbl (ps:Array Value)
  /-- any other thing,by what is true of its one object (a def of one's own: SetO a S n:=HO.ext fun h=>..) -/
  | ext (φ:Heap→Prop)
noncomputable abbrev Hp:=Addr→Option HO
noncomputable def upd (H:Hp) (a:Addr) (o:HO):Hp:=fun b=>if b=a then some o else H b
theorem qu {H:Hp} {a:Addr} {o:HO}:upd H a o a=some o:=by unfold upd;rw [if_pos rfl]
theorem qZ {H:Hp} {a b:Addr} {o:HO} (h:b≠a):upd H a o b=H b:=by unfold upd;rw [if_neg h]
theorem qGw {H:Hp} {a b:Addr} {o u:HO} (h:H a=some o) (h':H b=some u) (d:o≠u):a≠b:=by
  intro e;subst e;rw [h] at h';exact d (Option.some.inj h')
theorem qk {H:Hp} {a b:Addr} {o:HO} (h:H a=some o) (h':H b=none):a≠b:=by
  intro e;subst e;rw [h] at h';cases h'
def qA7 (h:Heap) (a:Addr) (items:Array Value):Prop:=∃ o,h.get? a=some o∧(o.cls = .type "tuple" ∧ o.dict=none)∧∃ n,o.data = .seq items n
theorem qA7.tup {h:Heap} {a:Addr} {items:Array Value} (x:qA7 h a items):IsTup h a items:=let ⟨o,e,c,n,d⟩:=x;⟨o,e,c.1,n,d⟩
theorem qA7.lt {h:Heap} {a:Addr} {items:Array Value} (x:qA7 h a items):a<h.objs.size:=x.tup.lt
theorem qA7.new (h:Heap) (items:Array Value):qA7 (h.push { cls:=.type "tuple",data:=.seq items }) h.objs.size items:=⟨_,Heap.get?_push_size _ rfl,⟨rfl,rfl⟩,_,rfl⟩
section
variable (P:Program) (w:World)
noncomputable def qAc (H:Hp) (h:Heap) (a:Addr):HO→Prop
  | .lst xs=>xs.length≤sizeLine∧∃ (its:List Value) (n:Nat),Vals xs its∧h.get? a=some { cls:=.type "list",data:=.seq its.toArray n }
  | .tup xs=>xs.length≤sizeLine∧∃ its:List Value,Vals xs its∧qA7 h a its.toArray
  | .dK kvs=>kvs.length≤sizeLine∧(a==sysModules)=false∧∃ vs,KV kvs vs∧h.DictOf (qAW P w) a vs
  | .dT kvs=>kvs.length≤sizeLine∧(a==sysModules)=false∧∃ xs:List (List Key×Addr×Value),
      Paired (fun (p:List Key×V) (q:List Key×Addr×Value)=>p.1=q.1∧H q.2.1=some (.tup (p.1.map kV))∧RelV p.2 q.2.2) kvs xs ∧
      ∃ o es ep,h.get? a=some o∧o.ExactDict∧o.data = .dict es ep∧es.toList=xs.map (entryOfKey (tupleKind (qAW P w)))∧(xs.map (·.1)).Nodup
  | .set S n=>h.SetOf (intKind P w) a S n
  | .ins C dx fs=>H dx=some (.own a)∧fs.length≤1000∧dx≠a∧h.get? a=some (W.instObj C dx) ∧
      ∃ mA,h.Ns1 dx mA∧(∀ f,qEY (fs.lookup f) (mA f))∧PySem.Within mA (fs.map (·.1))
  | .own _=>∃ o,h.get? a=some o
  | .xd fs=>∃ mA,h.Ns1 a mA∧∀ f,qEY (fs.lookup f) (mA f)
  | .rng lo hi=>∃ t u v,h.get? a=some { cls:=.type "range",data:=.fields #[.int lo t,.int hi u,.int 1 v] }
  | .frz o u=>h.get? a=some o∧qAc H h a u
  | .tbl ps=>h.get? a=some { cls:=.none,data:=.fields ps }
  | .met f x=>h.get? a=some (W.methodObj (.ref f) (.ref x))
  | .ext φ=>φ h∧(∃ o,h.get? a=some o)∧∀ h1 h2:Heap,φ h1→(∀ o,h1.get? a=some o→h2.get? a=some o)→φ h2
def HOk (H:Hp) (h:Heap):Prop:=∀ a o,H a=some o→qAc P w H h a o
end
section
variable {P:Program} {w:World} {H H':Hp} {h h':Heap} {a:Addr} {o:HO}
theorem qAc.lt (x:qAc P w H h a o):a<h.objs.size:=by
  cases o with
  | lst xs=>obtain⟨_,_,_,_,e⟩:=x;exact Heap.lt_size e
  | tup xs=>obtain⟨_,_,_,p⟩:=x;exact p.lt
  | dK kvs=>obtain⟨_,_,_,_,o,_,_,e,_⟩:=x;exact Heap.lt_size e
  | dT kvs=>obtain⟨_,_,_,_,o,_,_,e,_⟩:=x;exact Heap.lt_size e
  | set S n=>obtain⟨o,_,_,_,e,_⟩:=x;exact Heap.lt_size e
  | ins C dx fs=>obtain⟨_,_,_,e,_⟩:=x;exact Heap.lt_size e
  | own y=>obtain⟨_,e⟩:=x;exact Heap.lt_size e
  | xd fs=>obtain⟨_,⟨_,_,_,e,_⟩,_⟩:=x;exact Heap.lt_size e
  | rng lo hi=>obtain⟨_,_,_,e⟩:=x;exact Heap.lt_size e
  | frz ob u=>obtain⟨e,_⟩:=x;exact Heap.lt_size e
  | tbl ps=>exact Heap.lt_size (show h.get? a=some _ from x)
  | met f y=>exact Heap.lt_size (show h.get? a=some _ from x)
  | ext φ=>obtain⟨_,⟨_,e⟩,_⟩:=x;exact Heap.lt_size e
theorem Paired.qNR {α β:Type} {F G:α→β→Prop}:∀ {l₁:List α} {l₂:List β},Paired F l₁ l₂→(∀ a b,F a b→G a b)→Paired G l₁ l₂
  | _,_,.nil,_=>.nil
  | _,_,.cons r t,f=>.cons (f _ _ r) (Paired.qNR t f)
theorem qAc.stay (x:qAc P w H h a o) (k:∀ b u,(b=a∨H b=some (.own a))→h.get? b=some u→h'.get? b=some u)
    (ho:∀ b,H b=some (.own a)→H' b=some (.own a)) (ht:∀ b xs,H b=some (.tup xs)→H' b=some (.tup xs)):qAc P w H' h' a o:=by
  induction o with
  | lst xs=>obtain⟨z,its,n,r,e⟩:=x;exact⟨z,its,n,r,k _ _ (.inl rfl) e⟩
  | tup xs=>obtain⟨z,its,r,ob,e,c⟩:=x;exact⟨z,its,r,ob,k _ _ (.inl rfl) e,c⟩
  | dK kvs=>obtain⟨z,y,vs,r,ob,es,ep,e,c⟩:=x;exact⟨z,y,vs,r,ob,es,ep,k _ _ (.inl rfl) e,c⟩
  | dT kvs =>
    obtain⟨z,y,xs,r,ob,es,ep,e,c⟩:=x
    exact⟨z,y,xs,Paired.qNR r fun p q z=>⟨z.1,ht _ _ z.2.1,z.2.2⟩,ob,es,ep,k _ _ (.inl rfl) e,c⟩
  | set S n=>obtain⟨ob,es,ep,t,e,c⟩:=x;exact⟨ob,es,ep,t,k _ _ (.inl rfl) e,c⟩
  | ins C dx fs =>
    obtain⟨d,z,ne,e,mA,⟨od,es,ep,e2,c⟩,r⟩:=x
    exact⟨ho _ d,z,ne,k _ _ (.inl rfl) e,mA,⟨od,es,ep,k _ _ (.inr d) e2,c⟩,r⟩
  | own y=>obtain⟨ob,e⟩:=x;exact⟨ob,k _ _ (.inl rfl) e⟩
  | xd fs=>obtain⟨mA,⟨od,es,ep,e,c⟩,r⟩:=x;exact⟨mA,⟨od,es,ep,k _ _ (.inl rfl) e,c⟩,r⟩
  | rng lo hi=>obtain⟨t,u,v,e⟩:=x;exact⟨t,u,v,k _ _ (.inl rfl) e⟩
  | frz ob u ih=>obtain⟨e,q⟩:=x;exact⟨k _ _ (.inl rfl) e,ih q⟩
  | tbl ps =>
    have e:h.get? a=some { cls:=.none,data:=.fields ps }:=x
    show h'.get? a=some { cls:=.none,data:=.fields ps }
    exact k a _ (.inl rfl) e
  | met f y =>
    have e:h.get? a=some (W.methodObj (.ref f) (.ref y)):=x
    show h'.get? a=some (W.methodObj (.ref f) (.ref y))
    exact k a _ (.inl rfl) e
  | ext φ=>obtain⟨p,⟨o,e⟩,st⟩:=x;exact⟨st _ _ p fun o q=>k _ _ (.inl rfl) q,⟨o,k _ _ (.inl rfl) e⟩,st⟩
theorem HOk.lt (x:HOk P w H h) (e:H a=some o):a<h.objs.size:=(x a o e).lt
theorem HOk.fresh (x:HOk P w H h) (e:h.objs.size≤a):H a=none:=by
  cases q:H a with
  | none=>rfl
  | some u=>exact absurd (Nat.lt_of_lt_of_le (x.lt q) e) (Nat.lt_irrefl _)
theorem HOk.kept (x:HOk P w H h) (k:∀ b u,h.get? b=some u→h'.get? b=some u):HOk P w H h':=fun a o e =>
  (x a o e).stay (fun b u _ q=>k b u q) (fun _ q=>q) fun _ _ q=>q
theorem HOk.laid (x:HOk P w H h) (k:∀ b u,h.get? b=some u→h'.get? b=some u) (hp:h.objs.size≤a) (new:qAc P w (upd H a o) h' a o):HOk P w (upd H a o) h':=fun b u e=>by
  have hn:=x.fresh hp
  by_cases hb:b=a
  · subst hb;rw [qu] at e;cases e;exact new
  · rw [qZ hb] at e
    exact (x b u e).stay (fun c v _ q=>k c v q) (fun c q=>by rw [qZ (qk q hn)];exact q) fun c xs q=>by rw [qZ (qk q hn)];exact q
end
def Rd (H:Hp) (a:Addr) (u:HO):Prop:=H a=some u∨∃ o,H a=some (.frz o u)
theorem Rd.ok {P:Program} {w:World} {H:Hp} {h:Heap} {a:Addr} {u:HO} (r:Rd H a u) (x:HOk P w H h):qAc P w H h a u:=by
  rcases r with r | ⟨o,r⟩
  · exact x a u r
  · obtain⟨_,q⟩:=x a _ r
    exact q
noncomputable def Mut:Option HO→Prop
  | some (.lst _)=>True
  | some (.dK _)=>True
  | some (.dT _)=>True
  | some (.set _ _)=>True
  | some (.ins _ _ _)=>True
  | some (.ext _)=>True
  | _=>False
section
variable {P:Program} {w:World} {H:Hp} {h h':Heap} {x e:Addr} {o':HO}
theorem HOk.write (ok:HOk P w H h) (mu:Mut (H x)) (he:e=x∨H e=some (.own x)) (k:∀ b u,b≠e→h.get? b=some u→h'.get? b=some u) (heo:∃ u,h'.get? e=some u)
    (new:qAc P w (upd H x o') h' x o'):HOk P w (upd H x o') h':=fun b u q=>by
  have nown:∀ c y,H c=some (.own y)→c≠x:=fun c y r z=>by subst z;rw [r] at mu;exact mu
  have ntup:∀ c xs,H c=some (.tup xs)→c≠x:=fun c xs r z=>by subst z;rw [r] at mu;exact mu
  by_cases hb:b=x
  · subst hb;rw [qu] at q;cases q;exact new
  · rw [qZ hb] at q
    by_cases hbe:b=e
    · have q':H b=some (.own x):=by
        rcases he with z | z
        · exact absurd (hbe.trans z) hb
        · rw [hbe];exact z
      rw [q] at q';cases q'
      obtain⟨v,hv⟩:=heo
      exact⟨v,by rw [hbe];exact hv⟩
    · refine (ok b u q).stay (fun c v hc r=>k c v ?_ r) (fun c r=>by rw [qZ (nown c b r)];exact r) fun c xs r=>by rw [qZ (ntup c xs r)];exact r
      rcases hc with rfl | hc
      · exact hbe
      · rintro rfl
        rcases he with z | z
        · exact nown c b hc z
        · rw [hc] at z;cases z;exact hb rfl
end
structure Un (fs ex:List Addr) (H H':Hp) (h h':Heap):Prop where
  keep:∀ b o,h.get? b=some o→H b=none→b ∉ fs→b ∉ ex→h'.get? b=some o
  slot:∀ b o,h.get? b=some o→H b=none→b∈fs→b ∉ ex→∃ sl,h'.get? b=some { o with slots:=sl }
  free:∀ b o,h.get? b=some o→H b=none→b ∉ ex→H' b=none
  there:∀ b o,h.get? b=some o→b ∉ ex→∃ o',h'.get? b=some o'
  tups:∀ b xs,H b=some (.tup xs)→H' b=some (.tup xs)
  frzs:∀ b o u,H b=some (.frz o u)→H' b=some (.frz o u)
  tbls:∀ b ps,H b=some (.tbl ps)→∃ more,H' b=some (.tbl (ps++more))
section
variable {fs fs' ex ex':List Addr} {H H1 H2:Hp} {h h1 h2 h':Heap} {a x e:Addr} {o:HO}
theorem Un.any (u:Un fs ex H H1 h h1) {b:Addr} {ob:Obj} (q:h.get? b=some ob) (n:H b=none) (hx:b ∉ ex):∃ sl,h1.get? b=some { ob with slots:=sl }:=by
  by_cases hb:b∈fs
  · exact u.slot b ob q n hb hx
  · exact⟨ob.slots,u.keep b ob q n hb hx⟩
theorem Un.kept (k:∀ b u,h.get? b=some u→h'.get? b=some u):Un fs ex H H h h' :=
  ⟨fun b ob q _ _ _=>k b ob q,fun b ob q _ _ _=>⟨ob.slots,k b ob q⟩,fun _ _ _ n _=>n,fun b ob q _=>⟨ob,k b ob q⟩,fun _ _ q=>q,fun _ _ _ q=>q,fun _ ps q=>⟨#[],by rw [q];simp⟩⟩
theorem Un.refl:Un fs ex H H h h:=Un.kept fun _ _ q=>q
theorem Un.laid (k:∀ b u,h.get? b=some u→h'.get? b=some u) (hp:h.objs.size≤a) (hn:H a=none):Un fs ex H (upd H a o) h h' where
  keep:=fun b u q _ _ _=>k b u q
  slot:=fun b u q _ _ _=>⟨u.slots,k b u q⟩
  free:=fun b u q n _=>by rw [qZ (Nat.ne_of_lt (Nat.lt_of_lt_of_le (Heap.lt_size q) hp))];exact n
  there:=fun b u q _=>⟨u,k b u q⟩
  tups:=fun b xs q=>by rw [qZ (qk q hn)];exact q
  frzs:=fun b u xs q=>by rw [qZ (qk q hn)];exact q
  tbls:=fun b ps q=>⟨#[],by rw [qZ (qk q hn),q];simp⟩
theorem Un.write (mu:Mut (H x)) (he:e=x∨H e=some (.own x)) (k:∀ b u,b≠e→h.get? b=some u→h'.get? b=some u) (heo:∃ u,h'.get? e=some u):Un fs ex H (upd H x o) h h':=by
  have hx:∀ b,H b=none→b≠x:=fun b n z=>by subst z;rw [n] at mu;exact mu
  have hb:∀ b,H b=none→b≠e:=fun b n z=>by
    subst z
    rcases he with r | r
    · exact hx b n r
    · rw [n] at r;cases r
  have hm:∀ b u,H b=some u→¬ Mut (some u)→b≠x:=fun b u q nm z=>by subst z;rw [q] at mu;exact nm mu
  refine⟨fun b u q n _ _=>k b u (hb b n) q,fun b u q n _ _=>⟨u.slots,k b u (hb b n) q⟩,fun b u q n _=>by rw [qZ (hx b n)];exact n,fun b u q _=>?_,
    fun b xs q=>by rw [qZ (hm b _ q fun z=>z)];exact q,fun b u xs q=>by rw [qZ (hm b _ q fun z=>z)];exact q,fun b ps q=>⟨#[],by rw [qZ (hm b _ q fun z=>z),q];simp⟩⟩
  by_cases hbe:b=e
  · subst hbe;exact heo
  · exact⟨u,k b u hbe q⟩
end
noncomputable def trk (h:Heap) (H:Hp):List Addr:=(List.range h.objs.size).filter fun a=>(H a).isSome
noncomputable def qFk (h:Heap) (H:Hp):Heap:=W.hideAll h (trk h H)
theorem qI9 (h:Heap) (H:Hp):(qFk h H).objs.size=h.objs.size:=W.hideAll_size _ _
theorem qKz {h:Heap} {H:Hp} {b:Addr} {o:Obj} (e:h.get? b=some o) (n:H b=none):(qFk h H).get? b=some o :=
  W.hideAll_get _ e fun hm=>by
    have q:(H b).isSome=true:=(List.mem_filter.mp hm).2
    rw [n] at q;simp at q
theorem qLq {h:Heap} {H:Hp} {b:Addr} {o:Obj} (e:(qFk h H).get? b=some o):h.get? b=some o∧H b=none:=by
  have e':h.get? b=some o:=W.of_hideAll (trk h H) e
  refine⟨e',?_⟩
  cases q:H b with
  | none=>rfl
  | some x =>
    have hm:b∈trk h H:=List.mem_filter.mpr ⟨List.mem_range.mpr (Heap.lt_size e'),by simp [q]⟩
    have z:(qFk h H).get? b=none:=W.hideAll_none (trk h H) hm
    rw [z] at e;cases e
noncomputable def qLz (g h:Heap) (L:Addr):List (Addr×Obj):=(List.range h.objs.size).filterMap fun a=>if a=L∨(g.get? a).isSome=true then none else (h.get? a).map fun o=>(a,o)
noncomputable def rest (g h:Heap) (L d:Addr):List (Addr×Obj):=(qLz g h L).filter fun p=>decide (p.1≠d)
end L2
namespace L2
open PySem PySem.Spec PyProof.Rows
structure Mod (K:W.Frag) (mg:Str→Option Value) (base:Heap):Prop where
  kin:K.In base
  glob:base.Ns mainGlobals mg
  blt:∃ mb,base.Ns builtinsNs mb∧∀ x:Str,x ≠ "__name__" → mb x=bootBuiltins x
  nolimit:base.NoLimit
structure Cx where
  prog:Program
  w:World
  K:W.Frag
  mg:Str→Option Value
  base:Heap
  A:Around
  N:List Str
  s₀:Shared
  H₀:Hp
  env:Env
  outer:List Env
  stack:List Env
  ex:List Addr
  fn:Str→Bool
  calm:Bool
  pn:List (Addr×Obj)
  xe:Value→Shared→Prop
noncomputable def frs (l:List Env):List Addr:=l.filterMap (·.frame)
noncomputable abbrev Cx.fs (X:Cx):List Addr:=frs X.outer
def Vis (sc:Scope) (x:Str):Prop:=sc.names.lookup x=some .local∨sc.names.lookup x=some .cell∨sc.names.lookup x=some .free
def Loc (sc:Scope) (x:Str):Prop:=sc.names.lookup x=some .local∨sc.names.lookup x=some .cell
def Look (env:Env) (h:Heap) (m:Str→Option Value) (x:Str) (u:Value):Prop :=
  (env.kindOf x=some .local∧m x=some u)∨((env.kindOf x=some .cell∨env.kindOf x=some .free)∧∃ c,env.cells.lookup x=some c∧h.IsCell c (some u))
structure Cx.Ok (X:Cx):Prop where
  mod:Mod X.K X.mg X.base
  kind:X.env.scope.kind = .function
  glob:X.env.globals=mainGlobals
  blt:X.env.builtins=builtinsNs
  above:X.s₀.heap.objs.size≤X.env.locals
  inj:∀ x y c,X.env.cells.lookup x=some c→X.env.cells.lookup y=some c→x=y
  has:∀ x,(X.env.kindOf x=some .cell∨X.env.kindOf x=some .free)→∃ c,X.env.cells.lookup x=some c
  cab:∀ x c,X.fn x=true→X.env.cells.lookup x=some c→X.s₀.heap.objs.size≤c
  hd:X.calm=true→X.A.handled=none
  frames:X.A.frames=some X.stack
  stk:X.stack=X.outer∨(X.stack=X.env::X.outer∧X.env.frame=some X.env.locals)
  exf:∀ b∈X.ex,b≠X.env.locals∧∀ x c,X.env.cells.lookup x=some c→c≠b
  bs:∀ b o,X.base.get? b=some o→X.s₀.heap.get? b=some o∧X.H₀ b=none
  bsz:X.base.objs.size≤X.s₀.heap.objs.size
  noex:∀ b o,X.base.get? b=some o→b ∉ X.ex
  exfs:∀ b∈X.ex,b ∉ X.fs
  qC3:X.s₀.heap.FunFrames X.base X.outer
  frf:∀ b∈X.fs,X.H₀ b=none
structure Inv (X:Cx) (pins:List (Addr×Obj)) (σ:List (Option V)) (H:Hp) (s:Shared):Prop where
  ok:X.Ok
  os:s.os=X.s₀.os
  bare:AllBare s.gens
  base:Un X.fs X.ex X.H₀ H X.s₀.heap s.heap
  loc:∃ m,s.heap.Ns X.env.locals m∧∀ (i:Nat) (x:Str) (v:V),X.N[i]? = some x→σ[i]? = some (some v)→Vis X.env.scope x→∃ u,RelV v u∧Look X.env s.heap m x u
  cell:∀ x c,X.env.cells.lookup x=some c→∃ v,s.heap.IsCell c v
  free:H X.env.locals=none
  freeC:∀ x c,X.env.cells.lookup x=some c→H c=none
  pin:∀ p∈X.pn++pins,s.heap.get? p.1=some p.2∧H p.1=none∧p.1≠X.env.locals∧p.1 ∉ X.fs∧∀ v,p.2.data≠.cell v
  hok:HOk X.prog X.w H s.heap
  len:σ.length=X.N.length
section
variable {X:Cx} {pins:List (Addr×Obj)} {σ:List (Option V)} {H H':Hp} {s:Shared} {h':Heap}
theorem Cx.Ok.qQa (ok:X.Ok) {b:Addr} {o:Obj} (e:X.base.get? b=some o):b ∉ X.fs:=fun hb=>by
  have:=(ok.qC3.mem hb).1
  rw [e] at this;cases this
theorem Inv.bs (I:Inv X pins σ H s):∀ b o,X.base.get? b=some o→s.heap.get? b=some o∧H b=none:=fun b o e =>
  ⟨I.base.keep b o (I.ok.bs b o e).1 (I.ok.bs b o e).2 (I.ok.qQa e) (I.ok.noex b o e),I.base.free b o (I.ok.bs b o e).1 (I.ok.bs b o e).2 (I.ok.noex b o e)⟩
theorem Inv.bk (I:Inv X pins σ H s):∀ b o,X.base.get? b=some o→s.heap.get? b=some o:=fun b o e=>(I.bs b o e).1
theorem Inv.mod (I:Inv X pins σ H s):Mod X.K X.mg X.base:=I.ok.mod
theorem Inv.kIn (I:Inv X pins σ H s):X.K.In s.heap:=I.ok.mod.kin.keeps I.bk
theorem Inv.nolimit (I:Inv X pins σ H s):s.heap.NoLimit:=I.ok.mod.nolimit.keeps I.bk
theorem Inv.fr (I:Inv X pins σ H s):∃ m,Fr X.base X.env.locals s.heap m :=
  let ⟨m,hn,_⟩:=I.loc
  ⟨m,hn,I.bk,Nat.le_trans I.ok.bsz I.ok.above⟩
theorem Inv.lt (I:Inv X pins σ H s):X.env.locals<s.heap.objs.size:=let ⟨_,hn,_⟩:=I.loc;hn.lt
theorem Inv.sz (I:Inv X pins σ H s):X.s₀.heap.objs.size≤s.heap.objs.size:=Nat.le_trans I.ok.above (Nat.le_of_lt I.lt)
theorem Inv.qOw (I:Inv X pins σ H s) {a:Addr} (h:s.heap.objs.size≤a):a ∉ X.fs:=fun hb=>by
  obtain⟨_,o,ho,_⟩:=I.ok.qC3.mem hb
  exact absurd (Nat.lt_of_lt_of_le (Heap.lt_size ho) (Nat.le_trans I.sz h)) (Nat.lt_irrefl _)
theorem Inv.cne (I:Inv X pins σ H s):∀ x c,X.env.cells.lookup x=some c→c≠X.env.locals:=fun x c e z=>by
  obtain⟨v,o,ho,hd⟩:=I.cell x c e
  obtain⟨m,⟨o',es,ep,ho',hd',_⟩,_⟩:=I.loc
  rw [z,ho'] at ho;cases ho;rw [hd'] at hd;cases hd
theorem Inv.qC3 (I:Inv X pins σ H s):s.heap.FunFrames X.base X.outer:=by
  have all:∀ (l:List Env),(∀ b∈frs l,b∈X.fs)→X.s₀.heap.FunFrames X.base l→s.heap.FunFrames X.base l:=by
    intro l
    induction l with
    | nil=>intro _ _;trivial
    | cons env r ih =>
      intro hs hl
      obtain⟨hk,⟨L,o,hf,hn,ho,hd⟩,hr⟩:=hl
      have hL:L∈X.fs:=hs L (by unfold frs;rw [List.filterMap_cons,hf];exact List.mem_cons_self)
      obtain⟨sl,e⟩:=I.base.slot L o ho (I.ok.frf L hL) hL fun z=>I.ok.exfs L z hL
      exact⟨hk,⟨L,_,hf,hn,e,hd⟩,ih (fun b hb=>hs b (by unfold frs;rw [List.filterMap_cons,hf];exact List.mem_cons_of_mem _ hb)) hr⟩
  exact all X.outer (fun _ hb=>hb) I.ok.qC3
theorem Inv.stack (I:Inv X pins σ H s):s.heap.FunFrames X.base X.stack:=by
  rcases I.ok.stk with e | ⟨e,hf⟩
  · rw [e];exact I.qC3
  · rw [e]
    obtain⟨m,hn,_⟩:=I.loc
    refine .cons (by rw [I.ok.kind];decide) hf hn ?_ I.qC3
    exact Heap.get?_none_of_le (Nat.le_trans I.ok.bsz I.ok.above)
theorem Inv.qGH (I:Inv X pins σ H s):∀ b∈frs X.stack,b∈X.env.locals::X.fs:=fun b hb=>by
  rcases I.ok.stk with e | ⟨e,hf⟩
  · rw [e] at hb;exact List.mem_cons_of_mem _ hb
  · rw [e] at hb
    unfold frs at hb
    rw [List.filterMap_cons,hf] at hb
    exact hb
theorem Inv.qFb (I:Inv X pins σ H s):∀ b∈frs X.stack,H b=none:=fun b hb=>by
  rcases List.mem_cons.mp (I.qGH b hb) with e | hb
  · rw [e];exact I.free
  · obtain⟨_,o,ho,_⟩:=I.ok.qC3.mem hb
    exact I.base.free b o ho (I.ok.frf b hb) fun z=>I.ok.exfs b z hb
theorem Inv.step {g':Array GenState} {t':Nat} {d':Drawn} {ch:List Addr} (I:Inv X pins σ H s)
    (hch:∀ b∈ch,(b∈X.ex∨X.s₀.heap.objs.size≤b)∧b≠X.env.locals∧(∀ x c,X.env.cells.lookup x=some c→c≠b)∧∀ p∈X.pn++pins,p.1≠b)
    (keep:∀ b o,b≠X.env.locals→b ∉ X.fs→b ∉ ch→s.heap.get? b=some o→H b=none→h'.get? b=some o)
    (slot:∀ b o,b≠X.env.locals→b∈X.fs→b ∉ ch→s.heap.get? b=some o→H b=none→∃ sl,h'.get? b=some { o with slots:=sl }) (free:∀ b o,b ∉ ch→s.heap.get? b=some o→H b=none→H' b=none)
    (there:∀ b o,b ∉ ch→s.heap.get? b=some o→∃ o',h'.get? b=some o')
    (tups:∀ b xs,H b=some (.tup xs)→H' b=some (.tup xs)) (frzs:∀ b o u,H b=some (.frz o u)→H' b=some (.frz o u)) (tbls:∀ b ps,H b=some (.tbl ps)→∃ more,H' b=some (.tbl (ps++more)))
    (ns:∀ m,s.heap.Ns X.env.locals m→h'.Ns X.env.locals m) (hok:HOk X.prog X.w H' h') (hg:AllBare g') :
    Inv X pins σ H' { s with heap:=h',gens:=g',drawn:=d',toks:=t' }:=by
  have neL:∀ b o,X.s₀.heap.get? b=some o→b≠X.env.locals:=fun b o e=>Nat.ne_of_lt (Nat.lt_of_lt_of_le (Heap.lt_size e) I.ok.above)
  have neC:∀ b o,X.s₀.heap.get? b=some o→b ∉ X.ex→b ∉ ch:=fun b o e hx hb=>by
    rcases (hch b hb).1 with z | z
    · exact hx z
    · exact absurd (Nat.lt_of_lt_of_le (Heap.lt_size e) z) (Nat.lt_irrefl _)
  have cellK:∀ x c,X.env.cells.lookup x=some c→∀ v,s.heap.IsCell c v→h'.IsCell c v:=fun x c e v ⟨o,ho,hd⟩=>by
    have nch:c ∉ ch:=fun z=>(hch c z).2.2.1 x c e rfl
    by_cases hc:c∈X.fs
    · obtain⟨sl,q⟩:=slot c o (I.cne x c e) hc nch ho (I.freeC x c e)
      exact⟨_,q,hd⟩
    · exact⟨o,keep c o (I.cne x c e) hc nch ho (I.freeC x c e),hd⟩
  refine⟨I.ok,I.os,hg,⟨fun b o e n hb hx=>?_,fun b o e n hb hx=>?_,fun b o e n hx=>?_,fun b o e hx=>?_,fun b xs e=>tups b xs (I.base.tups b xs e),fun b o xs e=>frzs b o xs (I.base.frzs b o xs e),fun b ps e=>?_⟩,?_,fun x c e=>?_,?_,fun x c e=>?_,fun p hp=>?_,hok,I.len⟩
  · exact keep b o (neL b o e) hb (neC b o e hx) (I.base.keep b o e n hb hx) (I.base.free b o e n hx)
  · obtain⟨sl,e1⟩:=I.base.slot b o e n hb hx
    obtain⟨sl',e2⟩:=slot b _ (neL b o e) hb (neC b o e hx) e1 (I.base.free b o e n hx)
    exact⟨sl',e2⟩
  · k_dat 0"r26"
    exact free b o' (neC b o e hx) e1 (I.base.free b o e n hx)
  · k_dat 0"r26"
    exact there b o' (neC b o e hx) e1
  · obtain⟨m1,e1⟩:=I.base.tbls b ps e
    obtain⟨m2,e2⟩:=tbls b _ e1
    exact⟨m1++m2,by rw [e2,Array.append_assoc]⟩
  · obtain⟨m,hn,hl⟩:=I.loc
    refine⟨m,ns m hn,fun i x v e1 e2 e3=>?_⟩
    obtain⟨u,r,l⟩:=hl i x v e1 e2 e3
    refine⟨u,r,?_⟩
    rcases l with l | ⟨k,c,e,z⟩
    · exact .inl l
    · exact .inr ⟨k,c,e,cellK x c e _ z⟩
  · obtain⟨v,z⟩:=I.cell x c e
    exact⟨v,cellK x c e v z⟩
  · obtain⟨m,⟨o,_,_,ho,_⟩,_⟩:=I.loc
    exact free _ o (fun z=>(hch _ z).2.1 rfl) ho I.free
  · obtain⟨v,o,ho,hd⟩:=I.cell x c e
    exact free c o (fun z=>(hch c z).2.2.1 x c e rfl) ho (I.freeC x c e)
  · obtain⟨e,n,ne,nf,d⟩:=I.pin p hp
    have nch:p.1 ∉ ch:=fun z=>(hch p.1 z).2.2.2 p hp rfl
    exact⟨keep p.1 p.2 ne nf nch e n,free p.1 p.2 nch e n,ne,nf,d⟩
theorem Inv.un {t':Nat} (I:Inv X pins σ H s) (u:Un X.fs [] H H' s.heap h') (hok:HOk X.prog X.w H' h'):Inv X pins σ H' { s with heap:=h',toks:=t' }:=by
  obtain⟨m,⟨o,es,ep,ho,r⟩,_⟩:=id I.loc
  obtain⟨sl,hL⟩:=u.any ho I.free (by simp)
  exact I.step (g':=s.gens) (d':=s.drawn) (ch:=[]) (fun _ z=>nomatch z) (fun b o _ hb _ e n=>u.keep b o e n hb (by simp)) (fun b o _ hb _ e n=>u.slot b o e n hb (by simp)) (fun b o _ e n=>u.free b o e n (by simp)) (fun b o _ e=>u.there b o e (by simp)) u.tups u.frzs u.tbls (fun m' hm=>by
    obtain⟨o',es',ep',ho',r'⟩:=hm
    rw [ho] at ho';cases ho'
    exact⟨_,es',ep',hL,r'⟩) hok I.bare
theorem Inv.call {g':Array GenState} {t':Nat} {d':Drawn} {ch:List Addr} (I:Inv X pins σ H s) (u:Un (frs X.stack) ch H H' s.heap h') (hok:HOk X.prog X.w H' h') (hg:AllBare g')
    (hch:∀ b∈ch,(b∈X.ex∨X.s₀.heap.objs.size≤b)∧b≠X.env.locals∧(∀ x c,X.env.cells.lookup x=some c→c≠b)∧∀ p∈X.pn++pins,p.1≠b) :
    Inv X pins σ H' { s with heap:=h',gens:=g',drawn:=d',toks:=t' }:=by
  obtain⟨m,⟨o,es,ep,ho,r⟩,_⟩:=id I.loc
  obtain⟨sl,hL⟩:=u.any ho I.free fun z=>(hch _ z).2.1 rfl
  exact I.step (ch:=ch) hch (fun b o hL hb hc e n=>u.keep b o e n (fun z=>(List.mem_cons.mp (I.qGH b z)).elim hL hb) hc) (fun b o _ _ hc e n=>u.any e n hc) (fun b o hc e n=>u.free b o e n hc) (fun b o hc e=>u.there b o e hc) u.tups u.frzs u.tbls (fun m' hm=>by
    obtain⟨o',es',ep',ho',r'⟩:=hm
    rw [ho] at ho';cases ho'
    exact⟨_,es',ep',hL,r'⟩) hok hg
theorem Inv.turned {t':Nat} {it:Addr} (I:Inv X pins σ H s) (k:∀ b o,b≠it→s.heap.get? b=some o→h'.get? b=some o) (hn:H it=none) (hL:it≠X.env.locals)
    (h1:it∈X.ex∨X.s₀.heap.objs.size≤it) (h2:∀ x c,X.env.cells.lookup x=some c→c≠it) (h3:∀ p∈X.pn++pins,p.1≠it):Inv X pins σ H { s with heap:=h',toks:=t' }:=by
  have nit:∀ b u,H b=some u→b≠it:=fun b u e z=>by rw [z,hn] at e;cases e
  refine I.step (g':=s.gens) (d':=s.drawn) (ch:=[it]) (fun b hb=>?_) (fun b o _ _ hc e _=>k b o (fun z=>hc (by simp [z])) e) (fun b o _ _ hc e _=>⟨o.slots,k b o (fun z=>hc (by simp [z])) e⟩) (fun _ _ _ _ n=>n)
    (fun b o hc e=>⟨o,k b o (fun z=>hc (by simp [z])) e⟩) (fun _ _ e=>e) (fun _ _ _ e=>e) (fun b ps e=>⟨#[],by rw [e];simp⟩) (fun m hm=>?_) (fun b u e=>?_) I.bare
  · have e:b=it:=by simpa using hb
    subst e
    exact⟨h1,hL,h2,h3⟩
  · obtain⟨o,es,ep,ho,r⟩:=hm
    exact⟨o,es,ep,k _ o (Ne.symm hL) ho,r⟩
  · refine (I.hok b u e).stay (fun c v hc q=>k c v ?_ q) (fun _ q=>q) fun _ _ q=>q
    rcases hc with z | z
    · rw [z];exact nit b u e
    · exact nit c _ z
theorem Inv.tok (I:Inv X pins σ H s) (t:Nat):Inv X pins σ H { s with toks:=t }:=I.un (h':=s.heap) (t':=t) Un.refl I.hok
theorem Inv.kept {t':Nat} (I:Inv X pins σ H s) (k:∀ b u,s.heap.get? b=some u→h'.get? b=some u):Inv X pins σ H { s with heap:=h',toks:=t' }:=I.un (Un.kept k) (I.hok.kept k)
theorem Inv.laid {a:Addr} {o:HO} {t':Nat} (I:Inv X pins σ H s) (k:∀ b u,s.heap.get? b=some u→h'.get? b=some u) (hp:s.heap.objs.size≤a) (new:qAc X.prog X.w (upd H a o) h' a o) :
    Inv X pins σ (upd H a o) { s with heap:=h',toks:=t' }:=I.un (Un.laid k hp (I.hok.fresh hp)) (I.hok.laid k hp new)
theorem Inv.write {x e:Addr} {o:HO} {t':Nat} (I:Inv X pins σ H s) (mu:Mut (H x)) (he:e=x∨H e=some (.own x)) (k:∀ b u,b≠e→s.heap.get? b=some u→h'.get? b=some u) (heo:∃ u,h'.get? e=some u)
    (new:qAc X.prog X.w (upd H x o) h' x o):Inv X pins σ (upd H x o) { s with heap:=h',toks:=t' }:=I.un (Un.write mu he k heo) (I.hok.write mu he k heo new)
theorem Inv.qDm {pins':List (Addr×Obj)} (I:Inv X pins σ H s) (h:∀ p∈pins',s.heap.get? p.1=some p.2∧H p.1=none∧p.1≠X.env.locals∧p.1 ∉ X.fs∧∀ v,p.2.data≠.cell v):Inv X pins' σ H s :=
  ⟨I.ok,I.os,I.bare,I.base,I.loc,I.cell,I.free,I.freeC,fun p hp=>(List.mem_append.mp hp).elim (fun z=>I.pin p (List.mem_append_left _ z)) (h p),I.hok,I.len⟩
theorem qGh {N:List Str} (hN:N.Nodup) {i j:Nat} {x:Str} (a:N[i]? = some x) (b:N[j]? = some x):i=j:=by
  obtain⟨h1,e1⟩:=List.getElem?_eq_some_iff.mp a
  obtain⟨h2,e2⟩:=List.getElem?_eq_some_iff.mp b
  exact (List.getElem_inj hN).mp (e1.trans e2.symm)
theorem qEx {M:Model} {A:Around} {E:Value→Shared→Prop} {i:Nat} {x:Str} {v:V} {u:Value} {Q:Unit→Shared→Prop} (I:Inv X pins σ H s) (hN:X.N.Nodup) (hi:X.N[i]? = some x) (hx:Loc X.env.scope x) (r:RelV v u)
    (h:∀ s',Inv X pins (σ.set i (some v)) H s'→(∃ a,Heap.SameBut a s.heap s'.heap∧(a=X.env.locals∨X.env.cells.lookup x=some a))→Q () s') (hf:X.fn x=true∨X.env.scope.names.lookup x=some .local:=by first | exact .inl rfl | exact .inr rfl | assumption):wpAny M A (storeName X.env x u) Q E s:=by
  obtain⟨m,hn,hl⟩:=id I.loc
  have hcls:(X.env.scope.kind == .class || (X.env.scope.kind == .module&&X.env.locals != X.env.globals))=false:=by rw [I.ok.kind];rfl
  have hiσ:i<σ.length:=by rw [I.len];exact (List.getElem?_eq_some_iff.mp hi).1
  have cne:=I.cne
  have tracked:∀ {a:Addr} {h':Heap},(∃ o,s.heap.get? a=some o∧H a=none)→Heap.SameBut a s.heap h'→HOk X.prog X.w H h':=fun {a h'} ha hs b ob e=>by
    obtain⟨_,_,hfree⟩:=ha
    refine (I.hok b ob e).stay (fun c w' hc q=>(hs.2 c ?_).trans q) (fun _ q=>q) fun _ _ q=>q
    rintro rfl
    rcases hc with rfl | hc
    · rw [hfree] at e;cases e
    · rw [hfree] at hc;cases hc
  rcases hx with hk | hk
  · refine wpAny_storeName_local hk hn (fun h' hn' hs=>?_) hcls
    obtain⟨oL,_,_,hoL,_⟩:=id hn
    refine h _ ⟨I.ok,I.os,I.bare,⟨fun b o e n hb hx=>?_,fun b o e n hb hx=>?_,I.base.free,fun b o e hx=>?_,I.base.tups,I.base.frzs,I.base.tbls⟩,⟨_,hn',fun j y v' e1 e2 e3=>?_⟩,fun y c e=>?_,I.free,I.freeC,fun p hp=>?_,tracked ⟨oL,hoL,I.free⟩ hs,by simpa using I.len⟩ ⟨_,hs,.inl rfl⟩
    · exact (hs.2 b (Nat.ne_of_lt (Nat.lt_of_lt_of_le (Heap.lt_size e) I.ok.above))).trans (I.base.keep b o e n hb hx)
    · obtain⟨sl,e1⟩:=I.base.slot b o e n hb hx
      exact⟨sl,(hs.2 b (Nat.ne_of_lt (Nat.lt_of_lt_of_le (Heap.lt_size e) I.ok.above))).trans e1⟩
    · k_dat 0"r26"
      exact⟨o',(hs.2 b (Nat.ne_of_lt (Nat.lt_of_lt_of_le (Heap.lt_size e) I.ok.above))).trans e1⟩
    · by_cases hj:j=i
      · subst hj
        rw [hi] at e1;cases e1
        rw [List.getElem?_set_self hiσ] at e2
        cases e2
        exact⟨u,r,.inl ⟨hk,by simp⟩⟩
      · rw [List.getElem?_set_ne (Ne.symm hj)] at e2
        obtain⟨u',r',q⟩:=hl j y v' e1 e2 e3
        refine⟨u',r',?_⟩
        rcases q with ⟨k,e⟩ | ⟨k,c,e,z⟩
        · refine .inl ⟨k,?_⟩
          have:y≠x:=fun e=>hj (qGh hN e1 (e ▸ hi))
          simp [this,e]
        · exact .inr ⟨k,c,e,z.sameBut hs (cne y c e)⟩
    · obtain⟨w',z⟩:=I.cell y c e
      exact⟨w',z.sameBut hs (cne y c e)⟩
    · obtain⟨e,n,ne,nf,d⟩:=I.pin p hp
      exact⟨(hs.2 p.1 ne).trans e,n,ne,nf,d⟩
  · have hfn:X.fn x=true:=by
      rcases hf with z | z
      · exact z
      · rw [z] at hk;cases hk
    obtain⟨c,hc⟩:=I.ok.has x (.inl hk)
    obtain⟨w',z⟩:=I.cell x c hc
    refine wpAny_storeName_cell I.ok.kind hk hc z (fun h' hc' hs=>?_)
    obtain⟨oc,hoc,hocd⟩:=id z
    refine h { s with heap:=h' } ⟨I.ok,I.os,I.bare,⟨fun b o e n hb hx=>?_,fun b o e n hb hx=>?_,I.base.free,fun b o e hx=>?_,I.base.tups,I.base.frzs,I.base.tbls⟩,⟨m,hn.sameBut hs (Ne.symm (cne x c hc)),fun j y v' e1 e2 e3=>?_⟩,fun y c' e=>?_,I.free,I.freeC,fun p hp=>?_,tracked ⟨oc,hoc,I.freeC x c hc⟩ hs,by simpa using I.len⟩ ⟨c,hs,.inr hc⟩
    · exact (hs.2 b (Nat.ne_of_lt (Nat.lt_of_lt_of_le (Heap.lt_size e) (I.ok.cab x c hfn hc)))).trans (I.base.keep b o e n hb hx)
    · obtain⟨sl,e1⟩:=I.base.slot b o e n hb hx
      exact⟨sl,(hs.2 b (Nat.ne_of_lt (Nat.lt_of_lt_of_le (Heap.lt_size e) (I.ok.cab x c hfn hc)))).trans e1⟩
    · k_dat 0"r26"
      exact⟨o',(hs.2 b (Nat.ne_of_lt (Nat.lt_of_lt_of_le (Heap.lt_size e) (I.ok.cab x c hfn hc)))).trans e1⟩
    · by_cases hj:j=i
      · subst hj
        rw [hi] at e1;cases e1
        rw [List.getElem?_set_self hiσ] at e2
        cases e2
        exact⟨u,r,.inr ⟨.inl hk,c,hc,hc'⟩⟩
      · rw [List.getElem?_set_ne (Ne.symm hj)] at e2
        obtain⟨u',r',q⟩:=hl j y v' e1 e2 e3
        refine⟨u',r',?_⟩
        rcases q with q | ⟨k,c',e,z'⟩
        · exact .inl q
        · refine .inr ⟨k,c',e,z'.sameBut hs ?_⟩
          rintro rfl
          exact hj (qGh hN e1 (I.ok.inj _ _ _ e hc ▸ hi))
    · by_cases hcc:c'=c
      · subst hcc;exact⟨_,hc'⟩
      · obtain⟨w2,z2⟩:=I.cell y c' e
        exact⟨w2,z2.sameBut hs hcc⟩
    · obtain⟨e,n,ne,nf,d⟩:=I.pin p hp
      refine⟨(hs.2 p.1 ?_).trans e,n,ne,nf,d⟩
      intro q
      rw [q,hoc] at e
      have q':oc=p.2:=Option.some.inj e
      exact d w' (by rw [← q'];exact hocd)
theorem qDw {M:Model} {A:Around} {E:Value→Shared→Prop} {i:Nat} {x:Str} {v:V} {u:Value} {Q:Unit→Shared→Prop} (I:Inv X pins σ H s) (hN:X.N.Nodup) (hi:X.N[i]? = some x) (hx:Loc X.env.scope x) (r:RelV v u)
    (h:∀ s',Inv X pins (σ.set i (some v)) H s'→Q () s') (hf:X.fn x=true∨X.env.scope.names.lookup x=some .local:=by first | exact .inl rfl | exact .inr rfl | assumption):wpAny M A (storeName X.env x u) Q E s :=
  qEx I hN hi hx r (fun s' I' _=>h s' I') hf
theorem Inv.qMN {s':Shared} {ch:List Addr} (I:Inv X pins σ H s) (ho:s'.os=s.os) (u:Un (frs X.stack) ch H H' s.heap s'.heap) (hok:HOk X.prog X.w H' s'.heap) (hg:AllBare s'.gens)
    (hch:∀ b∈ch,(b∈X.ex∨X.s₀.heap.objs.size≤b)∧b≠X.env.locals∧(∀ x c,X.env.cells.lookup x=some c→c≠b)∧∀ p∈X.pn++pins,p.1≠b):Inv X pins σ H' s':=by
  obtain⟨h',g',d',t',o'⟩:=s'
  have e:o'=s.os:=ho
  subst e
  exact I.call (g':=g') (t':=t') (d':=d') u hok hg hch
end
noncomputable abbrev XK:=Value→Option Addr→Hp→Prop
noncomputable abbrev St:=List (Option V)
noncomputable abbrev VK:=V→Hp→Prop
noncomputable abbrev TE:=St→Hp→VK→Prop
noncomputable abbrev TT:=St→Hp→(Bool→Hp→Prop)→Prop
noncomputable abbrev TA:=St→Hp→(List V→Hp→Prop)→Prop
structure Ends where
  nx:St→Hp→Prop
  rt:VK
  bk:St→Hp→Prop:=fun _ _=>False
  ct:St→Hp→Prop:=fun _ _=>False
noncomputable abbrev TS:=Ends→St→Hp→Prop
def EP (X:Cx) (pins:List (Addr×Obj)) (σ:St) (Q:VK) (u:Value) (s':Shared):Prop:=∃ v H',Inv X pins σ H' s'∧RelV v u∧Q v H'
def TP (X:Cx) (pins:List (Addr×Obj)) (σ:St) (Q:Bool→Hp→Prop) (b:Bool) (s':Shared):Prop:=∃ H',Inv X pins σ H' s'∧Q b H'
def AP (X:Cx) (pins:List (Addr×Obj)) (σ:St) (Q:List V→Hp→Prop) (us:List Value) (s':Shared):Prop:=∃ vs H',Inv X pins σ H' s'∧Vals vs us∧Q vs H'
def SP (X:Cx) (pins:List (Addr×Obj)) (D:Ends) (f:Flow) (s':Shared):Prop :=
  match f with
  | .next=>∃ σ' H',Inv X pins σ' H' s'∧D.nx σ' H'
  | .brk=>∃ σ' H',Inv X pins σ' H' s'∧D.bk σ' H'
  | .cont=>∃ σ' H',Inv X pins σ' H' s'∧D.ct σ' H'
  | .ret u=>∃ v σ' H',Inv X pins σ' H' s'∧RelV v u∧D.rt v H'
def PE (X:Cx) (e:Expr) (t:TE):Prop :=
  ∀ (pins:List (Addr×Obj)) (s:Shared) (σ:St) (H:Hp) (Q:VK),Inv X pins σ H s→t σ H Q→wpAny (model X.prog X.w) X.A (eval e X.env) (EP X pins σ Q) X.xe s
def PT (X:Cx) (e:Expr) (t:TT):Prop :=
  ∀ (pins:List (Addr×Obj)) (s:Shared) (σ:St) (H:Hp) (Q:Bool→Hp→Prop),Inv X pins σ H s→t σ H Q→wpAny (model X.prog X.w) X.A (isTrue e X.env (eval e X.env)) (TP X pins σ Q) X.xe s
def PW (X:Cx) (e:Expr) (t:TT):Prop :=
  ∀ (whole:Sem Value) (pins:List (Addr×Obj)) (s:Shared) (σ:St) (H:Hp) (Q:Bool→Hp→Prop),Inv X pins σ H s→t σ H Q→wpAny (model X.prog X.w) X.A (isTrue e X.env whole) (TP X pins σ Q) X.xe s
def PA (X:Cx) (es:List Expr) (t:TA):Prop :=
  ∀ (pos:Pos) (pins:List (Addr×Obj)) (s:Shared) (σ:St) (H:Hp) (Q:List V→Hp→Prop),Inv X pins σ H s→t σ H Q→wpAny (model X.prog X.w) X.A (spliced (backTo pos (starEach es X.env))) (AP X pins σ Q) X.xe s
def PS (X:Cx) (st:Stmt) (t:TS):Prop :=
  ∀ (pins:List (Addr×Obj)) (s:Shared) (σ:St) (H:Hp) (D:Ends),Inv X pins σ H s→t D σ H→wpAny (model X.prog X.w) X.A (exec st X.env) (SP X pins D) X.xe s
def PSs (X:Cx) (st:List Stmt) (t:TS):Prop :=
  ∀ (pins:List (Addr×Obj)) (s:Shared) (σ:St) (H:Hp) (D:Ends),Inv X pins σ H s→t D σ H→wpAny (model X.prog X.w) X.A (execs st X.env) (SP X pins D) X.xe s
theorem thn {α:Type} {t:Sem α} {Q Q':α→Shared→Prop} {M:Model} {A:Around} {E:Value→Shared→Prop} {s:Shared} (h:wpAny M A t Q E s) (hQ:∀ a s,Q a s→Q' a s):wpAny M A t Q' E s:=wpAny_mono h hQ fun _ _ x=>x
end L2
namespace L2
open PySem PySem.Spec PyProof.Rows
section
variable {X:Cx}
noncomputable def qQk (i:Nat):TE:=fun σ H Q=>∃ v,σ[i]? = some (some v)∧Q v H
noncomputable def tC (v:V):TE:=fun _ H Q=>Q v H
theorem qNo {i:Nat} {x:Str} {pos:Pos} (hN:X.N[i]? = some x) (hv:Vis X.env.scope x) (hd:(x==("__debug__" : Str))=false:=by decide) (hcd:(x==("__classdict__" : Str))=false:=by decide):PE X (.Name x pos) (qQk i):=by
  k_dat 0"r1"
  obtain⟨v,e,h⟩:=h
  obtain⟨m,hn,hl⟩:=I.loc
  obtain⟨u,r,l⟩:=hl i x v hN e hv
  have fin:EP X pins σ Q u s:=⟨v,H,I,r,h⟩
  rcases l with ⟨hk,hm⟩ | ⟨hk,c,hc,hcell⟩
  · exact wpAny_Name (wpAny_loadName_local I.ok.kind hk hn hm fin) hd
  · rcases hk with hk | hk
    · exact wpAny_Name (wpAny_loadName_cell I.ok.kind hk hc hcell fin) hd
    · exact wpAny_Name (wpAny_loadName_free I.ok.kind hk hc hcell fin hcd) hd
theorem qNb {i j pos}:PE X (.Constant (.int i) j pos) (tC (.int i)):=fun _ _ _ H _ I h=>wpAny_Constant_int ⟨.int i,H,I.tok _,⟨_,rfl⟩,h⟩
theorem qPP {b j pos}:PE X (.Constant (.bool b) j pos) (tC (.bl b)):=fun _ _ _ H _ I h=>Constant_bool ⟨.bl b,H,I,rfl,h⟩
theorem qNn {j pos}:PE X (.Constant .none j pos) (tC .non):=fun _ _ _ H _ I h=>Constant_none ⟨.non,H,I,rfl,h⟩
theorem qFu {x j pos}:PE X (.Constant (.str x) j pos) (tC (.str x)):=fun _ _ _ H _ I h=>Calls.Constant_str ⟨.str x,H,I.tok _,⟨_,rfl⟩,h⟩
def Gl (X:Cx) (x:Str):Prop:=X.env.kindOf x=some .globalImplicit
theorem qBC {E:Value→Shared→Prop} {pins:List (Addr×Obj)} {s:Shared} {σ:St} {H:Hp} {x:Str} {u:Value} {pos:Pos} {Q:Value→Shared→Prop} (I:Inv X pins σ H s) (hg:Gl X x) (hm:X.mg x=some u) (h:Q u s)
    (hd:(x==("__debug__" : Str))=false:=by decide):wpAny (model X.prog X.w) X.A (eval (.Name x pos) X.env) Q E s :=
  Calls.Name_function_global I.ok.kind hg (Calls.loadGlobal_global (by rw [I.ok.glob];exact I.mod.glob.keeps I.bk) hm h) hd
theorem qFo {E:Value→Shared→Prop} {pins:List (Addr×Obj)} {s:Shared} {σ:St} {H:Hp} {x:Str} {u:Value} {pos:Pos} {Q:Value→Shared→Prop} (I:Inv X pins σ H s) (hg:Gl X x) (hm:X.mg x=none) (hv:bootBuiltins x=some u) (h:Q u s)
    (hn:x ≠ "__name__":=by decide) (hd:(x==("__debug__" : Str))=false:=by decide):wpAny (model X.prog X.w) X.A (eval (.Name x pos) X.env) Q E s:=by
  obtain⟨mb,h1,h2⟩:=I.mod.blt
  exact Calls.Name_function_global I.ok.kind hg (Calls.loadGlobal_builtin (by rw [I.ok.glob];exact I.mod.glob.keeps I.bk) hm (by rw [I.ok.blt];exact h1.keeps I.bk) ((h2 x hn).trans hv) h) hd
theorem qLu {x:Str} {v:V} {u:Value} {pos:Pos} (hg:Gl X x) (hm:X.mg x=some u) (r:RelV v u) (hd:(x==("__debug__" : Str))=false:=by decide):PE X (.Name x pos) (tC v) :=
  fun _ _ _ H _ I h=>qBC I hg hm ⟨v,H,I,r,h⟩ hd
theorem qLk {x:Str} {v:V} {u:Value} {pos:Pos} (hg:Gl X x) (hm:X.mg x=none) (hv:bootBuiltins x=some u) (r:RelV v u) (hn:x ≠ "__name__":=by decide) (hd:(x==("__debug__" : Str))=false:=by decide):PE X (.Name x pos) (tC v) :=
  fun _ _ _ H _ I h=>qFo I hg hm hv ⟨v,H,I,r,h⟩ hn hd
variable {a b:Expr} {ta tb:TE} {pos:Pos}
def PC (X:Cx) (op:CmpOp) (a b:Expr) (t:TE):Prop :=
  ∀ (pins:List (Addr×Obj)) (s:Shared) (σ:St) (H:Hp) (Q:VK),Inv X pins σ H s→t σ H Q →
    wpAny (model X.prog X.w) X.A (eval a X.env) (fun v s₁=>wpAny (model X.prog X.w) X.A (eval b X.env) (fun u s₂=>wpAny (model X.prog X.w) X.A (compareOp op v u) (EP X pins σ Q) X.xe s₂) X.xe s₁) X.xe s
theorem qGf (b:Expr) {op:CmpOp} (h:op≠.In) (h2:op≠.NotIn):behindInMarks op b=false:=by
  have e1:(op==CmpOp.In)=false:=by cases op<;>first | rfl | exact absurd rfl h
  have e2:(op==CmpOp.NotIn)=false:=by cases op<;>first | rfl | exact absurd rfl h2
  cases b<;>simp [behindInMarks,e1,e2]
noncomputable def tB (t:TE):TT:=fun σ H Q=>t σ H fun x H1=>∃ c,x = .bl c∧Q c H1
theorem qNV {op:CmpOp} {t:TE} (h:PC X op a b t) (h1:behindInMarks op b=false:=by first | exact qGf _ (by decide) (by decide) | rfl):PE X (.Compare a [op] [b] pos) t:=fun pins s σ H Q I hw=>wpAny_Compare1 (h pins s σ H Q I hw) h1
theorem qOf {op:CmpOp} {t:TE} (h:PC X op a b t) (h1:behindInMarks op b=false:=by first | exact qGf _ (by decide) (by decide) | rfl):PT X (.Compare a [op] [b] pos) (tB t):=by
  intro pins s σ H Q I hw
  refine wpAny_isTrue_Compare1 (thn (h pins s σ H _ I hw) fun v s1 h1=>thn h1 fun u s2 h2=>thn h2 fun c s3 ⟨x,H1,I1,r1,q1⟩=>?_) h1
  obtain⟨d,rfl,q⟩:=q1
  cases r1
  exact wpAny_truthy_bool ⟨H1,I1,q⟩
theorem qM6 {e:Expr} {t:TE} (h:PE X e t) (he:∀ whole,isTrue e X.env whole=(do let v ← whole;standAt e.pos;holding [v] (truthy v)):=by intro _;rfl):PT X e (tB t):=by
  intro pins s σ H Q I hw
  refine isTrue_plain (thn (h pins s σ H _ I hw) fun v s1 ⟨x,H1,I1,r1,q1⟩=>?_) (he _)
  obtain⟨d,rfl,q⟩:=q1
  cases r1
  exact wpAny_truthy_bool ⟨H1,I1,q⟩
variable {tA tB':TT} {rest:List Expr}
noncomputable def qQb (t u:TT):TT:=fun σ H Q=>t σ H fun c H1=>if c=true then u σ H1 Q else Q false H1
noncomputable def tOr (t u:TT):TT:=fun σ H Q=>t σ H fun c H1=>if c=true then Q true H1 else u σ H1 Q
noncomputable def qQT (t:TT):TT:=fun σ H Q=>t σ H fun c H1=>Q (!c) H1
theorem qK1 (ha:PT X a tA):PW X (.BoolOp .And [a] pos) tA:=by
  intro wh pins s σ H Q I h
  refine isTrue_and (thn (ha pins s σ H Q I h) fun c s1 e=>?_)
  cases c with
  | true=>exact isTrue_and_nil e
  | false=>exact e
theorem qNh (ha:PT X a tA):PW X (.BoolOp .Or [a] pos) tA:=by
  intro wh pins s σ H Q I h
  refine isTrue_or (thn (ha pins s σ H Q I h) fun c s1 e=>?_)
  cases c with
  | false=>exact isTrue_or_nil e
  | true=>exact e
theorem qNZ (ha:PT X a tA) (hb:PW X (.BoolOp .And (b::rest) pos) tB'):PW X (.BoolOp .And (a::b::rest) pos) (qQb tA tB'):=by
  intro wh pins s σ H Q I h
  refine isTrue_and (thn (ha pins s σ H _ I h) fun c s1 ⟨H1,I1,q1⟩=>?_)
  cases c with
  | true=>exact hb wh pins s1 σ H1 Q I1 q1
  | false=>exact⟨H1,I1,q1⟩
theorem qPe (ha:PT X a tA) (hb:PW X (.BoolOp .Or (b::rest) pos) tB'):PW X (.BoolOp .Or (a::b::rest) pos) (tOr tA tB'):=by
  intro wh pins s σ H Q I h
  refine isTrue_or (thn (ha pins s σ H _ I h) fun c s1 ⟨H1,I1,q1⟩=>?_)
  cases c with
  | true=>exact⟨H1,I1,q1⟩
  | false=>exact hb wh pins s1 σ H1 Q I1 q1
theorem qOk (ha:PT X a tA):PT X (.UnaryOp .Not a pos) (qQT tA):=by
  k_dat 0"r1"
  exact isTrue_not (ha pins s σ H (fun c H1=>Q (!c) H1) I h)
noncomputable def qPo (ta tb:TE):TE:=fun σ H Q=>ta σ H fun x H1=>∃ c,x = .bl c∧if c=true then tb σ H1 Q else Q (.bl false) H1
noncomputable def qPV (ta:TE):TE:=fun σ H Q=>ta σ H fun x H1=>∃ c,x = .bl c∧Q (.bl (!c)) H1
theorem qNm {op} {t:TE} (h:PE X a t):PE X (.BoolOp op [a] pos) t:=fun pins s σ H Q I hw=>BoolOp_one (h pins s σ H Q I hw)
theorem qNc (ha:PE X a ta) (hb:PE X (.BoolOp .And (b::rest) pos) tb):PE X (.BoolOp .And (a::b::rest) pos) (qPo ta tb):=by
  k_dat 0"r1"
  refine BoolOp_and (thn (ha pins s σ H _ I h) fun v s1 ⟨x,H1,I1,r1,q1⟩=>?_)
  obtain⟨c,rfl,q1⟩:=q1
  cases r1
  refine wpAny_truthy_bool ?_
  cases c with
  | true=>exact hb pins s1 σ H1 Q I1 q1
  | false=>exact⟨.bl false,H1,I1,rfl,q1⟩
theorem qNG (ha:PE X a ta):PE X (.UnaryOp .Not a pos) (qPV ta):=by
  k_dat 0"r1"
  refine UnaryOp_ (thn (ha pins s σ H _ I h) fun v s1 ⟨x,H1,I1,r1,q1⟩=>?_)
  obtain⟨c,rfl,q1⟩:=q1
  cases r1
  exact not_of (wpAny_truthy_bool ⟨.bl (!c),H1,I1,rfl,q1⟩)
noncomputable def tIf (t:TT) (ta tb:TE):TE:=fun σ H Q=>t σ H fun c H1=>if c=true then ta σ H1 Q else tb σ H1 Q
theorem qKe {c:Expr} (hc:PT X c tA) (ha:PE X a ta) (hb:PE X b tb):PE X (.IfExp c a b pos) (tIf tA ta tb):=by
  k_dat 0"r1"
  refine wpAny_IfExp (thn (hc pins s σ H _ I h) fun d s1 ⟨H1,I1,q1⟩=>?_)
  cases d with
  | true=>exact ha pins s1 σ H1 Q I1 q1
  | false=>exact hb pins s1 σ H1 Q I1 q1
end
end L2
namespace L2
open PySem PySem.Spec PyProof.Rows
def SqL (K:W.Frag) (H:Hp) (a:Addr) (xs:List V):Prop :=
  Rd H a (.lst xs) ∨
    ∃ (o:Obj) (its:Array Value) (n:Nat),K.lookup a=some o∧o.cls = .type "list" ∧ o.dict=none∧o.data = .seq its n∧its.size≤sizeLine∧Vals xs its.toList
def SqT (K:W.Frag) (H:Hp) (a:Addr) (xs:List V):Prop :=
  Rd H a (.tup xs) ∨
    ∃ (o:Obj) (its:Array Value) (n:Nat),K.lookup a=some o∧(o.cls = .type "tuple" ∧ o.dict=none)∧o.data = .seq its n∧its.size≤sizeLine∧Vals xs its.toList
noncomputable def qQF:Value→Option V
  | .none=>some .non
  | .bool b=>some (.bl b)
  | .int i _=>some (.int i)
  | .str x _=>some (.str x)
  | .bytes b _=>some (.byt b)
  | .float b _=>some (.flt b)
  | .ref a=>some (.ref a)
  | .type n=>some (.ty n)
  | _=>none
theorem RelV.abs {x:V} {u:Value} (r:RelV x u):qQF u=some x:=by
  cases x with
  | non=>cases r;rfl
  | bl _=>cases r;rfl
  | int _=>obtain⟨t,rfl⟩:=r;rfl
  | str _=>obtain⟨t,rfl⟩:=r;rfl
  | byt _=>obtain⟨t,rfl⟩:=r;rfl
  | flt _=>obtain⟨t,rfl⟩:=r;rfl
  | ref _=>cases r;rfl
  | ty _=>cases r;rfl
theorem RelV.inj {x y:V} {u:Value} (r:RelV x u) (q:RelV y u):x=y:=Option.some.inj (r.abs.symm.trans q.abs)
theorem Vals.inj:∀ {xs ys:List V} {us:List Value},Vals xs us→Vals ys us→xs=ys
  | _,_,_,.nil,.nil=>rfl
  | _,_,_,.cons r t,.cons r' t'=>by rw [r.inj r',Vals.inj t t']
section
variable {X:Cx} {pins:List (Addr×Obj)} {σ:St} {H:Hp} {s:Shared} {a:Addr} {xs ys:List V}
theorem SqL.of {K:W.Frag} (h:H a=some (.lst xs)):SqL K H a xs:=.inl (.inl h)
theorem SqT.of {K:W.Frag} (h:H a=some (.tup xs)):SqT K H a xs:=.inl (.inl h)
theorem Inv.list (I:Inv X pins σ H s) (h:SqL X.K H a xs):∃ its:List Value,Vals xs its∧PlainL s.heap a its.toArray∧xs.length≤sizeLine:=by
  rcases h with h | ⟨o,its,n,hk,hc,hd,hs,hz,r⟩
  · obtain⟨z,its,n,r,e⟩:=h.ok I.hok
    exact⟨its,r,⟨_,n,e,rfl,rfl,rfl⟩,z⟩
  · refine⟨its.toList,r,⟨o,n,I.kIn a o hk,hc,hd,by simpa using hs⟩,?_⟩
    have e:=r.length
    simp only [Array.length_toList] at e
    omega
theorem Inv.tuple (I:Inv X pins σ H s) (h:SqT X.K H a xs):∃ its:List Value,Vals xs its∧IsTup s.heap a its.toArray∧xs.length≤sizeLine:=by
  rcases h with h | ⟨o,its,n,hk,hc,hs,hz,r⟩
  · obtain⟨z,its,r,p⟩:=h.ok I.hok
    exact⟨its,r,p.tup,z⟩
  · refine⟨its.toList,r,⟨o,I.kIn a o hk,hc.1,n,by simpa using hs⟩,?_⟩
    have e:=r.length
    simp only [Array.length_toList] at e
    omega
theorem Inv.qOG (I:Inv X pins σ H s) (h:SqT X.K H a xs):∃ ob,s.heap.get? a=some ob∧ob.dict=none:=by
  rcases h with h | ⟨o,its,n,hk,hc,hs,hz,r⟩
  · obtain⟨z,its,r,o,e,c,_⟩:=h.ok I.hok
    exact⟨o,e,c.2⟩
  · exact⟨o,I.kIn a o hk,hc.2⟩
theorem Inv.qKV (I:Inv X pins σ H s) (h:SqL X.K H a xs) (h':SqL X.K H a ys):xs=ys:=by
  obtain⟨its,r,⟨o,n,e,_,_,d⟩,_⟩:=I.list h
  obtain⟨its',r',⟨o',n',e',_,_,d'⟩,_⟩:=I.list h'
  rw [e] at e';cases e'
  rw [d] at d'
  injection d' with d1 _
  have:its=its':=by simpa using congrArg Array.toList d1
  subst this
  exact r.inj r'
theorem Inv.qFJ (I:Inv X pins σ H s) (h:SqT X.K H a xs) (h':SqT X.K H a ys):xs=ys:=by
  obtain⟨its,r,⟨o,e,_,n,d⟩,_⟩:=I.tuple h
  obtain⟨its',r',⟨o',e',_,n',d'⟩,_⟩:=I.tuple h'
  rw [e] at e';cases e'
  rw [d] at d'
  injection d' with d1 _
  have:its=its':=by simpa using congrArg Array.toList d1
  subst this
  exact r.inj r'
end
noncomputable abbrev Cx.qDx (X:Cx) (E:Value→Shared→Prop):Cx:={ X with xe:=E }
noncomputable abbrev Cx.nox (X:Cx):Cx:=X.qDx fun _ _=>False
theorem Cx.Ok.qDx {X:Cx} (ok:X.Ok) (E:Value→Shared→Prop):(X.qDx E).Ok :=
  ⟨ok.mod,ok.kind,ok.glob,ok.blt,ok.above,ok.inj,ok.has,ok.cab,ok.hd,ok.frames,ok.stk,ok.exf,ok.bs,ok.bsz,ok.noex,ok.exfs,ok.qC3,ok.frf⟩
theorem Cx.Ok.qBm {X:Cx} {E:Value→Shared→Prop} (ok:(X.qDx E).Ok):X.Ok :=
  ⟨ok.mod,ok.kind,ok.glob,ok.blt,ok.above,ok.inj,ok.has,ok.cab,ok.hd,ok.frames,ok.stk,ok.exf,ok.bs,ok.bsz,ok.noex,ok.exfs,ok.qC3,ok.frf⟩
section
variable {X:Cx} {pins:List (Addr×Obj)} {σ:St} {H:Hp} {s:Shared} {E:Value→Shared→Prop}
theorem Inv.qDx (I:Inv X pins σ H s) (E:Value→Shared→Prop):Inv (X.qDx E) pins σ H s:=⟨I.ok.qDx E,I.os,I.bare,I.base,I.loc,I.cell,I.free,I.freeC,I.pin,I.hok,I.len⟩
theorem Inv.qBm (I:Inv (X.qDx E) pins σ H s):Inv X pins σ H s:=⟨I.ok.qBm,I.os,I.bare,I.base,I.loc,I.cell,I.free,I.freeC,I.pin,I.hok,I.len⟩
theorem SP.qBm {D:Ends} {f:Flow} {s':Shared} (h:SP (X.qDx E) pins D f s'):SP X pins D f s':=by
  cases f with
  | next=>obtain⟨σ',H',I,q⟩:=h;exact⟨σ',H',I.qBm,q⟩
  | brk=>obtain⟨σ',H',I,q⟩:=h;exact⟨σ',H',I.qBm,q⟩
  | cont=>obtain⟨σ',H',I,q⟩:=h;exact⟨σ',H',I.qBm,q⟩
  | ret u=>obtain⟨v,σ',H',I,r,q⟩:=h;exact⟨v,σ',H',I.qBm,r,q⟩
theorem PSs.nox {st:List Stmt} {t:TS} (h:PSs X.nox st t):PSs X st t:=fun pins s σ H D I hw =>
  wpAny_mono (h pins s σ H D (I.qDx _) hw) (fun _ _ q=>q.qBm) fun _ _ z=>False.elim z
end
section
variable {X:Cx} {st:Stmt} {rest:List Stmt} {t u:TS} {e:Expr} {te:TE} {pos:Pos}
noncomputable def qPJ:TS:=fun D σ H=>D.nx σ H
noncomputable def qQh (t u:TS):TS:=fun D σ H=>t { D with nx:=u D } σ H
theorem qIB:PSs X [] qPJ:=fun _ _ σ H _ I h=>wpAny_execs_nil ⟨σ,H,I,h⟩
theorem qGb (h1:PS X st t) (h2:PSs X rest u):PSs X (st::rest) (qQh t u):=by
  k_dat 0"r10"
  refine wpAny_execs_cons (thn (h1 pins s σ H { D with nx:=u D } I h) fun f s1 q=>?_)
  cases f with
  | next =>
    obtain⟨σ',H',I',q⟩:=q
    exact h2 pins s1 σ' H' D I' q
  | ret v=>exact q
  | brk=>exact q
  | cont=>exact q
theorem Inv.quiet {pins:List (Addr×Obj)} {σ:St} {H:Hp} {s:Shared} (I:Inv X pins σ H s):interactive X.env=false:=by simp [interactive,I.ok.kind]
noncomputable def qPO (te:TE):TS:=fun D σ H=>te σ H fun _ H1=>D.nx σ H1
theorem qLT (he:PE X e te) (hs:swapsWith e none pos.line X.env=pure false:=by rfl):PS X (.Expr e pos) (qPO te):=by
  k_dat 0"r10"
  exact wpAny_Expr_any (thn (he pins s σ H _ I h) fun v s1 ⟨x,H1,I1,r1,q1⟩=>⟨σ,H1,I1,q1⟩) I.quiet hs
noncomputable def qQN (te:TE):TS:=fun D σ H=>te σ H D.rt
theorem qJ5 (he:PE X e te):PS X (.Return (some e) pos) (qQN te):=by
  k_dat 0"r10"
  exact wpAny_Return_some (thn (he pins s σ H _ I h) fun v s1 ⟨x,H1,I1,r1,q1⟩=>⟨x,σ,H1,I1,r1,q1⟩)
noncomputable def qQV (c:TT) (t u:TS):TS:=fun D σ H=>c σ H fun b H1=>if b=true then t D σ H1 else u D σ H1
theorem qMO {c:Expr} {a b:List Stmt} {tc:TT} (hc:PT X c tc) (ha:PSs X a t) (hb:PSs X b u):PS X (.If c a b pos) (qQV tc t u):=by
  k_dat 0"r10"
  refine wpAny_If (thn (hc pins s σ H _ I h) fun d s1 ⟨H1,I1,q1⟩=>?_)
  cases d with
  | true=>exact ha pins s1 σ H1 D I1 q1
  | false=>exact hb pins s1 σ H1 D I1 q1
end
noncomputable abbrev TG:=V→St→Hp→(St→Hp→Prop)→Prop
noncomputable abbrev TGs:=List V→St→Hp→(St→Hp→Prop)→Prop
def PG (X:Cx) (target:Expr) (t:TG):Prop :=
  ∀ (pins:List (Addr×Obj)) (s:Shared) (σ:St) (H:Hp) (v:V) (u:Value) (Q:St→Hp→Prop),Inv X pins σ H s→RelV v u→t v σ H Q →
    wpAny (model X.prog X.w) X.A (assign target X.env u) (fun _ s'=>∃ σ' H',Inv X pins σ' H' s'∧Q σ' H') X.xe s
def PGs (X:Cx) (ts:List Expr) (t:TGs):Prop :=
  ∀ (pins:List (Addr×Obj)) (s:Shared) (σ:St) (H:Hp) (vs:List V) (us:List Value) (Q:St→Hp→Prop),Inv X pins σ H s→Vals vs us→t vs σ H Q →
    wpAny (model X.prog X.w) X.A (assignInOrder ((assignEach ts X.env).map (·.2)) us) (fun _ s'=>∃ σ' H',Inv X pins σ' H' s'∧Q σ' H') X.xe s
noncomputable abbrev qNg:=V→V→V→Hp→(Hp→Prop)→Prop
def qPY (X:Cx) (t:qNg):Prop :=
  ∀ (pins:List (Addr×Obj)) (s:Shared) (σ:St) (H:Hp) (o i v:V) (ov iv u:Value) (Q:Hp→Prop),Inv X pins σ H s→RelV o ov→RelV i iv→RelV v u→t o i v H Q →
    wpAny (model X.prog X.w) X.A (setItem ov iv u) (fun _ s'=>∃ H',Inv X pins σ H' s'∧Q H') X.xe s
section
variable {X:Cx} {pos:Pos}
noncomputable def qDv (i:Nat):TG:=fun v σ H Q=>Q (σ.set i (some v)) H
theorem qFc {i:Nat} {x:Str} (hN:X.N.Nodup) (hi:X.N[i]? = some x) (hx:Loc X.env.scope x) (hf:X.fn x=true∨X.env.scope.names.lookup x=some .local:=by first | exact .inl rfl | exact .inr rfl | assumption):PG X (.Name x pos) (qDv i):=by
  intro pins s σ H v u Q I r h
  exact wpAny_assign_Name (qDw I hN hi hx r (fun s' I'=>⟨_,H,I',h⟩) hf)
noncomputable def qQg:TGs:=fun vs σ H Q=>vs=[]∧Q σ H
noncomputable def qPB (t:TG) (u:TGs):TGs:=fun vs σ H Q=>∃ v r,vs=v::r∧t v σ H fun σ' H'=>u r σ' H' Q
theorem qLc:PGs X [] qQg:=by
  intro pins s σ H vs us Q I r h
  obtain⟨e,h⟩:=h
  subst e
  cases r
  exact assignInOrder_nil ⟨σ,H,I,h⟩
theorem qKy {e:Expr} {es:List Expr} {t:TG} {u:TGs} (h1:PG X e t) (h2:PGs X es u)
    (hs:(assignEach (e::es) X.env).map (·.2)=assign e X.env::(assignEach es X.env).map (·.2):=by rfl):PGs X (e::es) (qPB t u):=by
  intro pins s σ H vs us Q I r h
  obtain⟨v,vr,e1,h⟩:=h
  subst e1
  cases r with
  | cons r rr =>
    rw [hs]
    refine assignInOrder_cons (thn (h1 pins s σ H _ _ _ I r h) fun _ s1 ⟨σ1,H1,I1,q1⟩=>?_)
    exact h2 pins s1 σ1 H1 _ _ Q I1 rr q1
noncomputable def qQU (to ti:TE) (t:qNg):TG:=fun v σ H Q=>to σ H fun o H1=>ti σ H1 fun i H2=>t o i v H2 fun H3=>Q σ H3
theorem qNY {o i:Expr} {to ti:TE} {t:qNg} (ho:PE X o to) (hi:PE X i ti) (hs:qPY X t)
    (ha:∀ v,assign (.Subscript o i pos) X.env v=(do
      let ov ← holding [v] (eval o X.env)
      let iv ← holding [v,ov] (eval i X.env)
      standAt pos
      holding [v,ov,iv] (setItem ov iv v)
      release [v,ov,iv] []):=by intro _;rfl):PG X (.Subscript o i pos) (qQU to ti t):=by
  intro pins s σ H v u Q I r h
  rw [ha]
  refine wpAny_bind (wpAny_holding (thn (ho pins s σ H _ I h) fun ov s1 ⟨x,H1,I1,r1,q1⟩=>?_))
  refine wpAny_bind (wpAny_holding (thn (hi pins s1 σ H1 _ I1 q1) fun iv s2 ⟨y,H2,I2,r2,q2⟩=>?_))
  refine wpAny_bind (wpAny_standAt (wpAny_bind (wpAny_holding (thn (hs pins s2 σ H2 x y v ov iv u _ I2 r1 r2 r q2) fun _ s3 ⟨H3,I3,q3⟩=>?_))))
  exact wpAny_release ⟨σ,H3,I3,q3⟩
noncomputable def qLg (te:TE) (g:TG):TS:=fun D σ H=>te σ H fun x H1=>g x σ H1 D.nx
theorem qMw {tg e:Expr} {te:TE} {g:TG} (he:PE X e te) (hg:PG X tg g) (hs:swapsWithSole [tg] e pos.line X.env=pure false:=by rfl) (hw:swappedStores [tg] e X.env=pure none:=by rfl)
    (h1:(assignEach [tg] X.env).map (·.2)=[assign tg X.env]:=by rfl):PS X (.Assign [tg] e pos) (qLg te g):=by
  k_dat 0"r10"
  refine wpAny_Assign_stores (thn (he pins s σ H _ I h) fun v s1 ⟨x,H1,I1,r1,q1⟩=>?_) hs hw
  rw [h1]
  exact thn (hg pins s1 σ H1 x v _ I1 r1 q1) fun _ s2 q=>q
theorem qMn {i:Nat} {x:Str} {e:Expr} {te:TE} {pos':Pos} (hN:X.N.Nodup) (hi:X.N[i]? = some x) (hx:Loc X.env.scope x) (he:PE X e te) (hs:swapsWith e (some (.Name x pos')) pos.line X.env=pure false:=by rfl) (hf:X.fn x=true∨X.env.scope.names.lookup x=some .local:=by first | exact .inl rfl | exact .inr rfl | assumption) :
    PS X (.Assign [.Name x pos'] e pos) (qLg te (qDv i)):=by
  k_dat 0"r10"
  refine wpAny_Assign_Name (thn (he pins s σ H _ I h) fun v s1 ⟨y,H1,I1,r1,q1⟩=>?_) hs
  exact qDw I1 hN hi hx r1 (fun s2 I2=>⟨_,H1,I2,q1⟩) hf
end
structure It where
  go:Nat→Hp→Prop
  yld:Nat→Hp→V→Hp→Prop
  stop:Nat→Hp→Prop
def qEX (X:Cx) (pins:List (Addr×Obj)) (H:Hp) (b:Addr):Prop :=
  H b=none∧b≠X.env.locals∧b ∉ X.fs∧(b∈X.ex∨X.s₀.heap.objs.size≤b)∧(∀ x c,X.env.cells.lookup x=some c→c≠b)∧∀ p∈X.pn++pins,p.1≠b
theorem Inv.qNU {X:Cx} {pins:List (Addr×Obj)} {σ:St} {H H':Hp} {s:Shared} {b:Addr} (I:Inv X pins σ H s) (hb:s.heap.objs.size≤b) (hn:H' b=none):qEX X pins H' b:=by
  refine⟨hn,Nat.ne_of_gt (Nat.lt_of_lt_of_le I.lt hb),I.qOw hb,.inr (Nat.le_trans I.sz hb),fun x c e z=>?_,fun p hp z=>?_⟩
  · obtain⟨v,q⟩:=I.cell x c e
    exact absurd (Nat.lt_of_lt_of_le q.lt (by rw [z];exact hb)) (Nat.lt_irrefl _)
  · exact absurd (Nat.lt_of_lt_of_le (Heap.lt_size (I.pin p hp).1) (by rw [z];exact hb)) (Nat.lt_irrefl _)
structure Turn (P:Program) (w:World) (K:W.Frag) (tg:Expr) (J:It) (fp:List Addr) (it:Addr) (tn:Nat→Heap→Prop):Prop where
  mem:it∈fp
  obj:∀ i h,tn i h→∀ b∈fp,∃ o,h.get? b=some o∧∀ v,o.data≠.cell v
  keep:∀ i h h',tn i h→(∀ b∈fp,∀ o,h.get? b=some o→h'.get? b=some o)→tn i h'
  item:∀ (X:Cx),X.prog=P→X.w=w→X.K=K→X.calm=true→∀ (i:Nat) (pins:List (Addr×Obj)) (s:Shared) (σ:St) (H:Hp) (E:Value→Shared→Prop),Inv X pins σ H s→(∀ b∈fp,qEX X pins H b)→tn i s.heap→J.go i H →
    wpAny (model P w) X.A (pyNext (.ref it)) (fun r s1=>∃ u,r=some u ∧
      wpAny (model P w) X.A (letOwnedTupleGo tg (.ref it) u) (fun _ s2=>∃ x H',Inv X pins σ H' s2∧RelV x u∧J.yld i H x H'∧tn (i+1) s2.heap∧∀ b∈fp,H' b=none) E s1) E s
  done:∀ (X:Cx),X.prog=P→X.w=w→X.K=K→X.calm=true→∀ (i:Nat) (pins:List (Addr×Obj)) (s:Shared) (σ:St) (H:Hp) (E:Value→Shared→Prop),Inv X pins σ H s→(∀ b∈fp,qEX X pins H b)→tn i s.heap→J.stop i H →
    wpAny (model P w) X.A (pyNext (.ref it)) (fun r s1=>r=none∧Inv X pins σ H s1) E s
  self:∀ (A:Around) (i:Nat) (s:Shared) (Q:Value→Shared→Prop) (E:Value→Shared→Prop),tn i s.heap→Q (.ref it) s→wpAny (model P w) A (pyIter (.ref it)) Q E s
noncomputable abbrev TI:=St→Hp→(It→Hp→Prop)→Prop
def PIE (X:Cx) (pins:List (Addr×Obj)) (σ:St) (tg:Expr) (R:It→Hp→Prop) (itv:Value) (s2:Shared):Prop :=
  ∃ (it:Addr) (fp:List Addr) (tn:Nat→Heap→Prop) (J:It) (H':Hp),itv = .ref it∧Inv X pins σ H' s2∧Turn X.prog X.w X.K tg J fp it tn∧tn 0 s2.heap∧(∀ b∈fp,qEX X pins H' b)∧R J H'
def PI (X:Cx) (tg iter:Expr) (wi:TI):Prop :=
  ∀ (pins:List (Addr×Obj)) (s:Shared) (σ:St) (H:Hp) (R:It→Hp→Prop),Inv X pins σ H s→wi σ H R →
    wpAny (model X.prog X.w) X.A (eval iter X.env) (fun v s1=>wpAny (model X.prog X.w) X.A (pyIter v) (PIE X pins σ tg R) X.xe s1) X.xe s
theorem qKL {M:Model} {A:Around} {E:Value→Shared→Prop} {s:Shared} {tg:Expr} {it:Addr} {u:Value} {o:Obj} {n:String} {vs:Array Value} {Q:Unit→Shared→Prop} (ho:s.heap.get? it=some o) (hc:o.cls = .type n) (hd:o.data = .fields vs)
    (hn:["enumerate", "zip", "dict_itemiterator", "dict_reverseitemiterator", "odict_iterator", "itertools.zip_longest", "itertools.pairwise"].contains n=false) (hQ:Q () s):wpAny M A (letOwnedTupleGo tg (.ref it) u) Q E s:=by
  unfold letOwnedTupleGo
  cases tg <;> first
    | exact wpAny_pure hQ
    | (cases u<;>first
        | exact wpAny_pure hQ
        | (refine wpAny_bind (wpAny_load ho ?_)
           rw [hc,hd]
           show wpAny M A (if (["enumerate", "zip", "dict_itemiterator", "dict_reverseitemiterator", "odict_iterator", "itertools.zip_longest", "itertools.pairwise"].contains n&&vs[0]? == some (rawInt _))=true then _ else _) Q E s
           rw [if_neg (by intro h;rw [hn,Bool.false_and] at h;cases h)]
           exact wpAny_pure hQ))
noncomputable def Itl (K:W.Frag) (a:Addr):It :=
  ⟨fun i H=>∃ xs x,SqL K H a xs∧xs[i]? = some x,fun i H x H'=>H'=H∧∀ xs,SqL K H a xs→xs[i]? = some x,fun i H=>∃ xs,SqL K H a xs∧xs.length≤i⟩
noncomputable def Itt (K:W.Frag) (a:Addr):It :=
  ⟨fun i H=>∃ xs x,SqT K H a xs∧xs[i]? = some x,fun i H x H'=>H'=H∧∀ xs,SqT K H a xs→xs[i]? = some x,fun i H=>∃ xs,SqT K H a xs∧xs.length≤i⟩
noncomputable def Itr (lo:Int) (n:Nat):It:=⟨fun i _=>i<n,fun i H x H'=>H'=H∧x = .int (lo+i),fun i _=>n≤i⟩
theorem qJI {P:Program} {w:World} {K:W.Frag} {tg:Expr} (a it:Addr):Turn P w K tg (Itl K a) [it] it (fun i h=>h.IsListIter it a i) where
  mem:=by simp
  obj:=fun i h st b hb=>by
    have e:b=it:=by simpa using hb
    subst e
    obtain⟨o,e,c,d⟩:=st
    exact⟨o,e,fun v z=>by rw [d] at z;cases z⟩
  keep:=fun i h h' st k=>st.at fun o e=>k it (by simp) o e
  item:=by
    k_dat 0"r15"
    subst hP hw hK
    obtain⟨xs,x,hq,hx⟩:=hg
    obtain⟨its,rv,p,hz⟩:=I.list hq
    obtain⟨u,hu,ru⟩:=rv.get hx
    k_dat 0"r16"
    refine wpAny_pyNext_list_item st p.isList (x:=u) (by simpa using hu) fun h' st' sb=>?_
    k_dat 0"r40"
    obtain⟨o,e,c,d⟩:=id st'
    exact⟨u,rfl,qKL (s:={ s with heap:=h' }) e c d (by decide) ⟨x,H,I1,ru,⟨rfl,fun ys hy=>by rw [I.qKV hy hq];exact hx⟩,st',fun b hb=>(hf b hb).1⟩⟩
  done:=by
    k_dat 0"r15"
    subst hP hw hK
    obtain⟨xs,hq,hx⟩:=hg
    obtain⟨its,rv,p,hz⟩:=I.list hq
    k_dat 0"r16"
    have hl:=rv.length
    exact wpAny_pyNext_list_end (I.ok.hd hc) st p.isList (by simp;omega) fun h' eb=>⟨rfl,I.turned (t':=s.toks) (fun b o hb e=>eb b o hb e) f0 f1 f3 f4 f5⟩
  self:=fun _ _ _ _ _ st h=>wpAny_pyIter_listiter st h
theorem qHe {P:Program} {w:World} {K:W.Frag} {tg:Expr} (a it:Addr):Turn P w K tg (Itt K a) [it] it (fun i h=>h.IsTupleIter it a i) where
  mem:=by simp
  obj:=fun i h st b hb=>by
    have e:b=it:=by simpa using hb
    subst e
    obtain⟨o,e,c,d⟩:=st
    exact⟨o,e,fun v z=>by rw [d] at z;cases z⟩
  keep:=fun i h h' st k=>st.at fun o e=>k it (by simp) o e
  item:=by
    k_dat 0"r15"
    subst hP hw hK
    obtain⟨xs,x,hq,hx⟩:=hg
    obtain⟨its,rv,p,hz⟩:=I.tuple hq
    obtain⟨u,hu,ru⟩:=rv.get hx
    k_dat 0"r16"
    refine wpAny_pyNext_tuple_item st (show s.heap.IsTuple a its.toArray from p) (x:=u) (by simpa using hu) fun h' st' sb=>?_
    k_dat 0"r40"
    obtain⟨o,e,c,d⟩:=id st'
    exact⟨u,rfl,qKL (s:={ s with heap:=h' }) e c d (by decide) ⟨x,H,I1,ru,⟨rfl,fun ys hy=>by rw [I.qFJ hy hq];exact hx⟩,st',fun b hb=>(hf b hb).1⟩⟩
  done:=by
    k_dat 0"r15"
    subst hP hw hK
    obtain⟨xs,hq,hx⟩:=hg
    obtain⟨its,rv,p,hz⟩:=I.tuple hq
    k_dat 0"r16"
    have hl:=rv.length
    exact wpAny_pyNext_tuple_end (I.ok.hd hc) st (show s.heap.IsTuple a its.toArray from p) (by simp;omega) fun h' eb=>⟨rfl,I.turned (t':=s.toks) (fun b o hb e=>eb b o hb e) f0 f1 f3 f4 f5⟩
  self:=fun _ _ _ _ _ st h=>wpAny_pyIter_tupleiter st h
theorem qHo {P:Program} {w:World} {K:W.Frag} {tg:Expr} (it:Addr) (lo:Int) (n:Nat):Turn P w K tg (Itr lo n) [it] it (fun i h=>IsRangeIter h it (lo+(i:Nat) * 1) ((n:Int) - (i:Nat)) 1) where
  mem:=by simp
  obj :=fun i h st b hb=>by
    have e:b=it:=by simpa using hb
    subst e
    exact⟨_,st,fun v z=>by
      have z':Data.fields _=Data.cell v:=z
      cases z'⟩
  keep:=fun i h h' st k=>k it (by simp) _ st
  item:=by
    k_dat 0"r15"
    subst hP hw hK
    k_dat 0"r16"
    have W:=Walks.range (prog:=X.prog) (w:=X.w) (I.ok.hd hc) it lo 1 n
    refine W.item i s _ _ hg st fun v h' tk hv st' kk=>?_
    obtain⟨t,rfl⟩:=hv
    have I1:Inv X pins σ H { s with heap:=h',toks:=tk }:=I.turned (fun b o hb e=>kk b o (by simpa using hb) e) f0 f1 f3 f4 f5
    refine⟨_,rfl,qKL (s:={ s with heap:=h',toks:=tk }) (n:= "range_iterator") st' rfl rfl (by decide) ⟨.int (lo+i),H,I1,⟨t,?_⟩,⟨rfl,rfl⟩,st',fun b hb=>(hf b hb).1⟩⟩
    rw [Int.mul_one]
  done:=by
    k_dat 0"r15"
    subst hP hw hK
    k_dat 0"r16"
    exact wpAny_pyNext_range_end (I.ok.hd hc) st (by have:n≤i:=hg;omega) fun h' eb=>⟨rfl,I.turned (t':=s.toks) (fun b o hb e=>eb b o hb e) f0 f1 f3 f4 f5⟩
  self:=fun _ _ _ _ _ st h=>wpAny_pyIter_rangeiter st h
end L2
namespace L2
open PySem PySem.Spec PyProof.Rows
section
variable {X:Cx} {tg:Expr}
theorem qKR {pins:List (Addr×Obj)} {σ:St} {H:Hp} {s:Shared} {R:It→Hp→Prop} {E:Value→Shared→Prop} {lo hi:Int} {t u v:Tok} {tk:Nat} (I:Inv X pins σ H s) (h1:-(2 ^ 62)≤lo) (h2:lo<2 ^ 62) (h3:-(2 ^ 62)≤hi) (h4:hi<2 ^ 62)
    (q:R (Itr lo (hi - lo).toNat) H):wpAny (model X.prog X.w) X.A (pyIter (.ref s.heap.objs.size)) (PIE X pins σ tg R) E { s with heap:=s.heap.push { cls:=.type "range",data:=.fields #[.int lo t,.int hi u,.int 1 v] },toks:=tk }:=by
  refine wpAny_pyIter_range (IsRange.new ..) (small_one h1 h2 h3 h4) ?_
  have I1:Inv X pins σ H { s with heap:=s.heap.push { cls:=.type "range",data:=.fields #[.int lo t,.int hi u,.int 1 v] },toks:=tk }:=I.kept fun b o e=>Heap.get?_push_of_some _ e
  refine⟨(s.heap.push { cls:=.type "range",data:=.fields #[.int lo t,.int hi u,.int 1 v] }).objs.size,[(s.heap.push { cls:=.type "range",data:=.fields #[.int lo t,.int hi u,.int 1 v] }).objs.size],_,_,H,rfl,
    I1.kept (t':=tk) fun b o e=>Heap.get?_push_of_some _ e,qHo _ lo (hi - lo).toNat,?_,fun b hb=>?_,q⟩
  · have e1:lo+((0:Nat):Int) * 1=lo:=by simp
    have e2:(((hi - lo).toNat:Nat):Int) - ((0:Nat):Int)=Builtin.Range.rangeSize lo hi 1:=by rw [rangeSize_one];split<;>omega
    show IsRangeIter _ _ (lo+((0:Nat):Int) * 1) ((((hi - lo).toNat:Nat):Int) - ((0:Nat):Int)) 1
    rw [e1,e2]
    exact Heap.get?_push_size _ rfl
  · have e:b=(s.heap.push { cls:=.type "range",data:=.fields #[.int lo t,.int hi u,.int 1 v] }).objs.size:=by simpa using hb
    subst e
    k_dat 0"r33"
noncomputable def qO1 (ta:TA):TI:=fun σ H R=>ta σ H fun vs H1=>∃ j:Int,vs=[.int j]∧-(2 ^ 62)≤j∧j<2 ^ 62∧R (Itr 0 j.toNat) H1
theorem qIp {a:Expr} {ta:TA} {p pos:Pos} (hg:Gl X "range") (hm:X.mg "range" = none) (ha:PA X [a] ta) (hs:starEach [a] X.env=[(false,eval a X.env)]:=by rfl):PI X tg (.Call (.Name "range" p) [a] [] pos) (qO1 ta):=by
  intro pins s σ H R I h
  refine Call_ (qFo I hg hm boot_range (PyProof.Rows.callWith_type1 (thn (ha pos pins s σ H _ I h) fun us s1 ⟨vs,H1,I1,r1,q1⟩=>?_) hs rfl))
  obtain⟨j,e,q1,q2,q⟩:=q1
  subst e
  cases r1 with
  | cons r rr =>
    cases rr
    obtain⟨t,rfl⟩:=r
    exact call_range_1 (qKR I1 (by omega) (by omega) q1 q2 (by simpa using q))
noncomputable def qQY (wi:TI) (g:TG) (tb:TS):TS:=fun D σ H=>wi σ H fun J H1=>∃ W:Nat→Nat→St→Hp→Prop,(∃ m,W 0 m σ H1)∧∀ i m σ H,W i m σ H →
  (J.stop i H∧D.nx σ H)∨(J.go i H∧∃ N:St→Hp→Prop,(∀ σ' H',N σ' H'→∃ m',m'<m∧W (i+1) m' σ' H')∧∀ x H',J.yld i H x H'→g x σ H' fun σ2 H2=>tb { D with nx:=N,ct:=N,bk:=D.nx } σ2 H2)
noncomputable def qEQ (fp:List Addr) (h:Heap):List (Addr×Obj):=fp.filterMap fun b=>(h.get? b).map fun o=>(b,o)
theorem qBn {fp:List Addr} {h:Heap} {b:Addr} {o:Obj} (hb:b∈fp) (e:h.get? b=some o):(b,o)∈qEQ fp h:=List.mem_filterMap.mpr ⟨b,hb,by rw [e];rfl⟩
theorem qJG {fp:List Addr} {h:Heap} {p:Addr×Obj} (hp:p∈qEQ fp h):p.1∈fp∧h.get? p.1=some p.2:=by
  obtain⟨b,hb,e⟩:=List.mem_filterMap.mp hp
  cases q:h.get? b with
  | none=>rw [q] at e;cases e
  | some o =>
    rw [q] at e
    have e':(b,o)=p:=Option.some.inj e
    subst e'
    exact⟨hb,q⟩
theorem Inv.pinned {pins:List (Addr×Obj)} {σ:St} {H:Hp} {s:Shared} {fp:List Addr} (I:Inv X pins σ H s) (hf:∀ b∈fp,qEX X pins H b) (ho:∀ b∈fp,∃ o,s.heap.get? b=some o∧∀ v,o.data≠.cell v):Inv X (pins++qEQ fp s.heap) σ H s :=
  I.qDm fun p hp=>(List.mem_append.mp hp).elim (fun z=>I.pin p (List.mem_append_right _ z)) fun z=>by
    obtain⟨hb,e⟩:=qJG z
    obtain⟨f0,f1,f2,_⟩:=hf p.1 hb
    obtain⟨o,e',d⟩:=ho p.1 hb
    rw [e] at e';cases e'
    exact⟨e,f0,f1,f2,d⟩
theorem Inv.qCf {pins pl:List (Addr×Obj)} {σ:St} {H:Hp} {s:Shared} (I:Inv X (pins++pl) σ H s):Inv X pins σ H s:=I.qDm fun p hp=>I.pin p (List.mem_append_right _ (List.mem_append_left _ hp))
theorem qNK {iter:Expr} {body:List Stmt} {wi:TI} {g:TG} {tb:TS} {pos:Pos} (hp:PassesOwn (model X.prog X.w) X.A X.env X.xe) (hc:X.calm=true) (hi:PI X tg iter wi) (hg:PG X tg g) (hb:PSs X body tb)
    (hs:∀ x,foldedSetIterable iter X.env x=pure x:=by intro _;rfl):PS X (.For tg iter body [] pos) (qQY wi g tb):=by
  k_dat 0"r10"
  refine wpAny_For (thn (hi pins s σ H _ I h) fun v s1 h1=>thn h1 fun itv s2 h2=>?_) hs
  obtain⟨it,fp,tn,J,H2,e,I2,T,st2,f2,W,⟨m0,w0⟩,turn⟩:=h2
  subst e
  -- what stays true of the iterator's objects through the loop
  have stat:∀ {H':Hp},(∀ b∈fp,H' b=none)→∀ b∈fp,qEX X pins H' b:=fun hn b hb=>⟨hn b hb,(f2 b hb).2⟩
  refine codeAny_forLoop_any (fun n s'=>∃ i σ' H',Inv X pins σ' H' s'∧tn i s'.heap∧(∀ b∈fp,H' b=none)∧W i n σ' H') ?_ m0 ⟨0,σ,H2,I2,st2,fun b hb=>(f2 b hb).1,w0⟩
  rintro n s3 ⟨i,σ3,H3,I3,st3,fr3,w3⟩
  rcases turn i n σ3 H3 w3 with ⟨stop,qn⟩ | ⟨go,N,hN,step⟩
  · refine wpAny_passesOwn hp (thn (T.done X rfl rfl rfl hc i pins s3 σ3 H3 X.xe I3 (stat fr3) st3 stop) fun r s4 ⟨hr,I4⟩=>?_)
    subst hr
    exact wpAny_execs_nil ⟨σ3,H3,I4,qn⟩
  · refine wpAny_passesOwn hp (thn (T.item X rfl rfl rfl hc i pins s3 σ3 H3 X.xe I3 (stat fr3) st3 go) fun r s4 ⟨u,hr,h4⟩=>?_)
    subst hr
    refine wpAny_passesOwn hp (thn h4 fun _ s5 ⟨x,H5,I5,r5,y5,st5,fr5⟩=>?_)
    have I5':=I5.pinned (stat fr5) (T.obj _ _ st5)
    refine wpAny_passesOwn hp (thn (hg _ s5 σ3 H5 x u _ I5' r5 (step x H5 y5)) fun _ s6 ⟨σ6,H6,I6,q6⟩=>?_)
    refine wpAny_passesOwn hp (thn (hb _ s6 σ6 H6 _ I6 q6) fun f s7 q7=>?_)
    have again:∀ {σ7:St} {H7:Hp},Inv X (pins++qEQ fp s5.heap) σ7 H7 s7→N σ7 H7→∃ m,m<n∧∃ i σ' H',Inv X pins σ' H' s7∧tn i s7.heap∧(∀ b∈fp,H' b=none)∧W i m σ' H':=fun {σ7 H7} I7 n7=>by
      obtain⟨m',hm,w7⟩:=hN σ7 H7 n7
      refine⟨m',hm,i+1,σ7,H7,I7.qCf,T.keep _ _ _ st5 fun b hb o e=>(I7.pin (b,o) (List.mem_append_right _ (List.mem_append_right _ (qBn hb e)))).1,fun b hb=>?_,w7⟩
      obtain⟨o,e,d⟩:=T.obj _ _ st5 b hb
      exact (I7.pin (b,o) (List.mem_append_right _ (List.mem_append_right _ (qBn hb e)))).2.1
    cases f with
    | next=>obtain⟨σ7,H7,I7,n7⟩:=q7;exact again I7 n7
    | cont=>obtain⟨σ7,H7,I7,n7⟩:=q7;exact again I7 n7
    | brk=>obtain⟨σ7,H7,I7,q7⟩:=q7;exact⟨σ7,H7,I7.qCf,q7⟩
    | ret v=>obtain⟨x7,σ7,H7,I7,r7,q7⟩:=q7;exact⟨x7,σ7,H7,I7.qCf,r7,q7⟩
end
end L2
namespace L2
open PySem PySem.Spec PyProof.Rows
noncomputable abbrev R2:=V→V→Hp→VK→Prop
def OpR (X:Cx) (f:Value→Value→Sem Value) (r:R2):Prop :=
  ∀ (pins:List (Addr×Obj)) (s:Shared) (σ:St) (H:Hp) (x y:V) (v u:Value) (Q:VK),Inv X pins σ H s→RelV x v→RelV y u→r x y H Q →
    wpAny (model X.prog X.w) X.A (f v u) (EP X pins σ Q) X.xe s
def UnR (X:Cx) (f:Value→Sem Value) (r:V→Hp→VK→Prop):Prop :=
  ∀ (pins:List (Addr×Obj)) (s:Shared) (σ:St) (H:Hp) (x:V) (v:Value) (Q:VK),Inv X pins σ H s→RelV x v→r x H Q →
    wpAny (model X.prog X.w) X.A (f v) (EP X pins σ Q) X.xe s
def qDM (X:Cx) (f:Value) (r:List V→Hp→VK→Prop):Prop :=
  ∀ (pins:List (Addr×Obj)) (s:Shared) (σ:St) (H:Hp) (xs:List V) (us:List Value) (Q:VK),Inv X pins σ H s→Vals xs us→r xs H Q →
    wpAny (model X.prog X.w) X.A (call f us) (EP X pins σ Q) X.xe s
noncomputable def tOp (r:R2) (ta tb:TE):TE:=fun σ H Q=>ta σ H fun x H1=>tb σ H1 fun y H2=>r x y H2 Q
noncomputable def tUn (r:V→Hp→VK→Prop) (ta:TE):TE:=fun σ H Q=>ta σ H fun x H1=>r x H1 Q
noncomputable def rI (C:Int→Int→Prop) (g:Int→Int→V):R2:=fun x y H Q=>∃ i j,x = .int i∧y = .int j∧C i j∧Q (g i j) H
noncomputable def rI0 (g:Int→Int→V):R2:=fun x y H Q=>∃ i j,x = .int i∧y = .int j∧Q (g i j) H
noncomputable def rU (g:Int→V):V→Hp→VK→Prop:=fun x H Q=>∃ i,x = .int i∧Q (g i) H
section
variable {X:Cx} {a b c:Expr} {ta tb tc:TE} {pos:Pos}
theorem qNX (ha:PE X a ta) (hb:PE X b tb) {pins:List (Addr×Obj)} {s:Shared} {σ:St} {H:Hp} {R:V→V→Hp→Prop} (I:Inv X pins σ H s)
    (h:ta σ H fun x H1=>tb σ H1 fun y H2=>R x y H2) {Q:Value→Shared→Prop} {f:Value→Value→Sem Value}
    (hf:∀ v u s2 x y H2,Inv X pins σ H2 s2→RelV x v→RelV y u→R x y H2→wpAny (model X.prog X.w) X.A (f v u) Q X.xe s2) :
    wpAny (model X.prog X.w) X.A (eval a X.env) (fun v s₁=>wpAny (model X.prog X.w) X.A (eval b X.env) (fun u s₂=>wpAny (model X.prog X.w) X.A (f v u) Q X.xe s₂) X.xe s₁) X.xe s:=by
  refine thn (ha pins s σ H _ I h) fun v s1 ⟨x,H1,I1,r1,q1⟩=>?_
  refine thn (hb pins s1 σ H1 _ I1 q1) fun u s2 ⟨y,H2,I2,r2,q2⟩=>?_
  exact hf v u s2 x y H2 I2 r1 r2 q2
theorem qOr {op:Operator} {r:R2} (ho:OpR X (binaryOp op) r) (ha:PE X a ta) (hb:PE X b tb):PE X (.BinOp a op b pos) (tOp r ta tb):=by
  k_dat 0"r1"
  exact wpAny_BinOp (qNX ha hb I h fun v u s2 x y H2 I2 rx ry q=>ho pins s2 σ H2 x y v u Q I2 rx ry q)
theorem qOt {op:UnaryOp} {r:V→Hp→VK→Prop} (ho:UnR X (unaryOp op) r) (ha:PE X a ta):PE X (.UnaryOp op a pos) (tUn r ta):=by
  k_dat 0"r1"
  exact UnaryOp_ (thn (ha pins s σ H _ I h) fun v s1 ⟨x,H1,I1,r1,q1⟩=>ho pins s1 σ H1 x v Q I1 r1 q1)
theorem opI {f:Value→Value→Sem Value} {C:Int→Int→Prop} {g:Int→Int→Int}
    (rule:∀ (i j:Int) (t u:Tok) (s:Shared) (Q:Value→Shared→Prop) (E:Value→Shared→Prop),C i j→Q (.int (g i j) s.toks) { s with toks:=s.toks+1 }→wpAny (model X.prog X.w) X.A (f (.int i t) (.int j u)) Q E s) :
    OpR X f (rI C fun i j=>.int (g i j)):=by
  k_dat 0"r4"
  obtain⟨i,j,rfl,rfl,hc,q⟩:=h
  obtain⟨t,rfl⟩:=rx
  k_dat 0"r11"
  exact rule i j t t' s _ _ hc ⟨.int (g i j),H,I.tok _,⟨_,rfl⟩,q⟩
theorem qPR {f:Value→Value→Sem Value} {g:Int→Int→Int}
    (rule:∀ (i j:Int) (t u:Tok) (s:Shared) (Q:Value→Shared→Prop) (E:Value→Shared→Prop),Q (.int (g i j) s.toks) { s with toks:=s.toks+1 }→wpAny (model X.prog X.w) X.A (f (.int i t) (.int j u)) Q E s) :
    OpR X f (rI0 fun i j=>.int (g i j)):=by
  k_dat 0"r4"
  obtain⟨i,j,rfl,rfl,q⟩:=h
  obtain⟨t,rfl⟩:=rx
  k_dat 0"r11"
  exact rule i j t t' s _ _ ⟨.int (g i j),H,I.tok _,⟨_,rfl⟩,q⟩
theorem qLL {f:Value→Value→Sem Value} {g:Int→Int→Bool}
    (rule:∀ (i j:Int) (t u:Tok) (s:Shared) (Q:Value→Shared→Prop) (E:Value→Shared→Prop),Q (.bool (g i j)) s→wpAny (model X.prog X.w) X.A (f (.int i t) (.int j u)) Q E s) :
    OpR X f (rI0 fun i j=>.bl (g i j)):=by
  k_dat 0"r4"
  obtain⟨i,j,rfl,rfl,q⟩:=h
  obtain⟨t,rfl⟩:=rx
  k_dat 0"r11"
  exact rule i j t t' s _ _ ⟨.bl (g i j),H,I,rfl,q⟩
def qPK (i j:Int):Prop:=0<j∧j<1073741824
def qGA (i j:Int):Prop:=(-(2 ^ 64)<i∧i<2 ^ 64)∨(-(2 ^ 64)<j∧j<2 ^ 64)
theorem qGA.ok {i j:Int} (h:qGA i j):IntMulOk i j:=by
  rcases h with ⟨h1,h2⟩ | ⟨h1,h2⟩
  · exact .of_left (intBits_le_64 h1 h2)
  · exact .of_right (intBits_le_64 h1 h2)
theorem qM3:OpR X (binaryOp .Add) (rI0 fun i j=>.int (i+j)):=qPR fun _ _ _ _ _ _ _ q=>add_int q
theorem qN4:OpR X (binaryOp .Sub) (rI0 fun i j=>.int (i - j)):=qPR fun _ _ _ _ _ _ _ q=>sub_int q
theorem qNx:OpR X (binaryOp .Mult) (rI qGA fun i j=>.int (i * j)):=opI fun _ _ _ _ _ _ _ hc q=>mul_int q hc.ok
theorem qMB:OpR X (binaryOp .FloorDiv) (rI qPK fun i j=>.int (i / j)):=opI fun i j _ _ _ _ _ hc q=>by
  have h1:(0:Int)<j:=hc.1
  have h2:j<1073741824:=hc.2
  exact floordiv_int (by omega) (by rw [Int.fdiv_eq_ediv_of_nonneg i (by omega)];exact q) (.inl (PyProof.noPylong_small (by omega)))
theorem qNW:OpR X (binaryOp .Mod) (rI (fun _ j=>0<j) fun i j=>.int (i%j)):=opI fun i j _ _ _ _ _ hc q=>by
  have h1:(0:Int)<j:=hc
  exact mod_int' (by omega) (by rw [Int.fmod_eq_emod_of_nonneg i (by omega)];exact q)
theorem unI {f:Value→Sem Value} {g:Int→Int}
    (rule:∀ (i:Int) (t:Tok) (s:Shared) (Q:Value→Shared→Prop) (E:Value→Shared→Prop),Q (.int (g i) s.toks) { s with toks:=s.toks+1 }→wpAny (model X.prog X.w) X.A (f (.int i t)) Q E s) :
    UnR X f (rU fun i=>.int (g i)):=by
  intro pins s σ H x v Q I rx h
  obtain⟨i,rfl,q⟩:=h
  obtain⟨t,rfl⟩:=rx
  exact rule i t s _ _ ⟨.int (g i),H,I.tok _,⟨_,rfl⟩,q⟩
theorem qMo:UnR X (unaryOp .USub) (rU fun i=>.int (-i)):=unI fun _ _ _ _ _ q=>neg_int q
end
section
variable {X:Cx} {a b c:Expr} {ta tb tc:TE} {pos:Pos}
theorem qHM {pins:List (Addr×Obj)} {σ:St} {H:Hp} {s:Shared} {Q:VK} {k k':Bool} (I:Inv X pins σ H s) (q:Q (.bl k) H) (e:k=k'):EP X pins σ Q (.bool k') s:=by
  subst e
  exact⟨.bl k,H,I,rfl,q⟩
theorem qJQ:OpR X (compareOp .Lt) (rI0 fun i j=>.bl (decide (i<j))):=qLL fun _ _ _ _ _ _ _ q=>lt_int q
theorem qMZ:OpR X (compareOp .LtE) (rI0 fun i j=>.bl (decide (i≤j))):=qLL fun _ _ _ _ _ _ _ q=>le_int q
theorem qPy:OpR X (compareOp .Gt) (rI0 fun i j=>.bl (decide (j<i))):=qLL fun _ _ _ _ _ _ _ q=>gt_int q
theorem qP9:OpR X (compareOp .GtE) (rI0 fun i j=>.bl (decide (j≤i))):=qLL fun _ _ _ _ _ _ _ q=>ge_int q
theorem qIe:OpR X (compareOp .In) (fun x y H Q=>∃ i j,x = .str i∧y = .str j∧Q (.bl (!(Builtin.Str.occurrences j i 0 j.length 1).isEmpty)) H):=by
  k_dat 0"r4"
  obtain⟨i,j,rfl,rfl,q⟩:=h
  obtain⟨t,rfl⟩:=rx
  k_dat 0"r11"
  exact in_str (qHM I q rfl)
theorem qKB:OpR X (compareOp .Is) (fun x y H Q=>y = .non∧Q (.bl (decide (x = .non))) H):=by
  k_dat 0"r4"
  obtain⟨rfl,q⟩:=h
  cases ry
  refine is_none_gen (qHM I q ?_)
  cases x<;>first
    | (cases rx;rfl)
    | (obtain⟨t,rfl⟩:=rx;rfl)
theorem qH7:OpR X (compareOp .IsNot) (fun x y H Q=>y = .non∧Q (.bl (!decide (x = .non))) H):=by
  k_dat 0"r4"
  obtain⟨rfl,q⟩:=h
  cases ry
  refine isnot_none_gen (qHM I q ?_)
  cases x<;>first
    | (cases rx;rfl)
    | (obtain⟨t,rfl⟩:=rx;rfl)
theorem qHg (b:Expr) {op:CmpOp} (h:op≠.In:=by decide) (h2:op≠.NotIn:=by decide):behindInMarks op b=false:=by
  have e1:(op==CmpOp.In)=false:=by cases op<;>first | rfl | exact absurd rfl h
  have e2:(op==CmpOp.NotIn)=false:=by cases op<;>first | rfl | exact absurd rfl h2
  cases b<;>simp [behindInMarks,e1,e2]
theorem qLM {op:CmpOp} {r:R2} (ho:OpR X (compareOp op) r) (ha:PE X a ta) (hb:PE X b tb) (hm:behindInMarks op b=false):PE X (.Compare a [op] [b] pos) (tOp r ta tb):=by
  k_dat 0"r1"
  exact wpAny_Compare1 (qNX ha hb I h fun v u s2 x y H2 I2 rx ry q=>ho pins s2 σ H2 x y v u Q I2 rx ry q) hm
noncomputable def qMT (t:TE):TT:=fun σ H Q=>t σ H fun x H'=>∃ k,x = .bl k∧Q k H'
theorem qLf {op:CmpOp} {r:R2} (ho:OpR X (compareOp op) r) (ha:PE X a ta) (hb:PE X b tb) (hm:behindInMarks op b=false):PT X (.Compare a [op] [b] pos) (qMT (tOp r ta tb)):=by
  k_dat 0"r1"
  refine wpAny_isTrue_Compare1 (thn (ha pins s σ H _ I h) fun v s1 ⟨x,H1,I1,r1,q1⟩=>thn (hb pins s1 σ H1 _ I1 q1) fun u s2 ⟨y,H2,I2,r2,q2⟩ =>
    thn (ho pins s2 σ H2 x y v u _ I2 r1 r2 q2) fun c s3 ⟨z,H3,I3,r3,k,e,q3⟩=>?_) hm
  subst e
  cases r3
  exact wpAny_truthy_bool ⟨H3,I3,q3⟩
noncomputable def qHS (r r':R2) (ta tb tc:TE):TE:=fun σ H Q=>ta σ H fun x H1=>tb σ H1 fun y H2=>r x y H2 fun z H3=>∃ k,z = .bl k ∧
  (if k=true then tc σ H3 fun w' H4=>r' y w' H4 Q else Q (.bl false) H3)
theorem qKX {op op':CmpOp} {r r':R2} (ho:OpR X (compareOp op) r) (ho':OpR X (compareOp op') r') (ha:PE X a ta) (hb:PE X b tb) (hc:PE X c tc)
    (hm:lastMarks [op,op'] [b,c]=false:=by with_unfolding_all rfl):PE X (.Compare a [op,op'] [b,c] pos) (qHS r r' ta tb tc):=by
  k_dat 0"r1"
  refine Compare_chain (thn (ha pins s σ H _ I h) fun v s1 ⟨x,H1,I1,r1,q1⟩=>chain_link (thn (hb pins s1 σ H1 _ I1 q1) fun u s2 ⟨y,H2,I2,r2,q2⟩ =>
    thn (ho pins s2 σ H2 x y v u _ I2 r1 r2 q2) fun d s3 ⟨z,H3,I3,r3,k,e,q3⟩=>?_)) hm
  subst e
  cases r3
  refine wpAny_truthy_bool ?_
  cases k with
  | false=>exact ite_ff ⟨.bl false,H3,I3,rfl,q3⟩
  | true=>exact ite_tt (chain_last (thn (hc pins s3 σ H3 _ I3 q3) fun w' s4 ⟨z',H4,I4,r4,q4⟩=>ho' pins s4 σ H4 y z' u w' Q I4 r2 r4 q4))
theorem qKu {op op':CmpOp} {r r':R2} (ho:OpR X (compareOp op) r) (ho':OpR X (compareOp op') r') (ha:PE X a ta) (hb:PE X b tb) (hc:PE X c tc)
    (hm:lastMarks [op,op'] [b,c]=false:=by with_unfolding_all rfl):PT X (.Compare a [op,op'] [b,c] pos) (qMT (qHS r r' ta tb tc)):=by
  k_dat 0"r1"
  refine isTrue_chain (thn (ha pins s σ H _ I h) fun v s1 ⟨x,H1,I1,r1,q1⟩=>test_link (thn (hb pins s1 σ H1 _ I1 q1) fun u s2 ⟨y,H2,I2,r2,q2⟩ =>
    thn (ho pins s2 σ H2 x y v u _ I2 r1 r2 q2) fun d s3 ⟨z,H3,I3,r3,k,e,q3⟩=>?_)) hm
  subst e
  cases r3
  refine wpAny_truthy_bool ?_
  cases k with
  | false =>
    obtain⟨k',e',q'⟩:=q3
    cases e'
    exact ite_ff ⟨H3,I3,q'⟩
  | true =>
    refine ite_tt (test_last (thn (hc pins s3 σ H3 _ I3 q3) fun w' s4 ⟨z',H4,I4,r4,q4⟩=>thn (ho' pins s4 σ H4 y z' u w' _ I4 r2 r4 q4) fun d' s5 ⟨z2,H5,I5,r5,k2,e2,q5⟩=>?_))
    subst e2
    cases r5
    exact wpAny_truthy_bool ⟨H5,I5,q5⟩
theorem qCz:(sizeLine:Nat)<2 ^ 63:=by rw [sizeLine_eq];decide
theorem qHn:OpR X (binaryOp .Add) (fun x y H Q=>∃ i j,x = .str i∧y = .str j∧i.length+j.length≤sizeLine∧Q (.str (i++j)) H):=by
  k_dat 0"r4"
  obtain⟨i,j,rfl,rfl,hz,q⟩:=h
  obtain⟨t,rfl⟩:=rx
  k_dat 0"r11"
  exact add_str (fun t' tk=>⟨.str (i++j),H,I.tok _,⟨_,rfl⟩,q⟩) hz
theorem vals1 {x:V} {us:List Value} (r:Vals [x] us):∃ u,us=[u]∧RelV x u:=by
  cases r with
  | cons r1 r2=>cases r2;exact⟨_,rfl,r1⟩
theorem vals2 {x y:V} {us:List Value} (r:Vals [x,y] us):∃ u w',us=[u,w']∧RelV x u∧RelV y w':=by
  cases r with
  | cons r1 r2 =>
    cases r2 with
    | cons r3 r4=>cases r4;exact⟨_,_,rfl,r1,r3⟩
theorem qE0:qDM X (.type "int") (fun xs H Q=>(∃ i,xs=[.int i]∧Q (.int i) H)∨∃ k,xs=[.bl k]∧Q (.int (if k then 1 else 0)) H):=by
  k_dat 0"r21"
  rcases h with ⟨i,rfl,q⟩ | ⟨k,rfl,q⟩
  · obtain⟨u,rfl,t,rfl⟩:=vals1 r
    exact call_int_int ⟨.int i,H,I,⟨_,rfl⟩,q⟩
  · obtain⟨u,rfl,r1⟩:=vals1 r
    cases r1
    exact call_int_bool ⟨.int (if k then 1 else 0),H,I.tok _,⟨_,rfl⟩,q⟩
end
end L2
namespace L2
open PySem PySem.Spec PyProof.Rows
theorem qEY.some_of {v:V} {o:Option Value} (r:qEY (some v) o):∃ u,o=some u∧RelV v u:=by
  cases o with
  | none=>exact (show False from r).elim
  | some u=>exact⟨u,rfl,r⟩
end L2
namespace L2
open PySem PySem.Spec PyProof.Rows
structure qAh (k:Nat) (A:Around):Prop where
  hd:A.handled=none
  dp:A.depth+3 * k+5<recursionLimit
  un:A.units+16 * k+200<cLine
theorem qAh.mono {j k:Nat} {A:Around} (r:qAh k A) (h:j≤k):qAh j A:=⟨r.hd,by have:=r.dp;omega,by have:=r.un;omega⟩
theorem qAh.deeper {k:Nat} {A:Around} (r:qAh (k+1) A) (env:Env):qAh k (A.deeper env) :=
  ⟨r.hd,by have:=r.dp;show A.depth+1+3 * k+5<_;omega,by have:=r.un;show A.units+3+16 * k+200<_;omega⟩
theorem qAh.in1 {k:Nat} {A:Around} (r:qAh (k+1) A):qAh k A.in1 :=
  ⟨r.hd,by have:=r.dp;show A.depth+3 * k+5<_;omega,by have:=r.un;show A.units+1+16 * k+200<_;omega⟩
theorem qAh.depth {k:Nat} {A:Around} (r:qAh k A):A.depth<recursionLimit:=by have:=r.dp;omega
theorem qAh.units {k:Nat} {A:Around} (r:qAh k A):A.units+64<cLine:=by have:=r.un;omega
noncomputable def qQe:TA:=fun _ H Q=>Q [] H
noncomputable def qP4 (ta:TE) (tr:TA):TA:=fun σ H Q=>ta σ H fun x H1=>tr σ H1 fun xs H2=>Q (x::xs) H2
section
variable {X:Cx} {e:Expr} {es:List Expr} {te:TE} {t:TA} {pos:Pos}
theorem qMq:PA X [] qQe:=fun _ _ _ _ H Q I h=>Calls.spliced_nil ⟨[],H,I,.nil,h⟩
theorem qL5 (ha:PE X e te) (hr:PA X es t) (hs:starEach (e::es) X.env=(false,eval e X.env)::starEach es X.env:=by rfl):PA X (e::es) (qP4 te t):=by
  intro pos pins s σ H Q I h
  rw [hs]
  show wpAny _ _ (spliced ((false,eval e X.env)::backTo pos (starEach es X.env))) _ _ s
  refine Calls.spliced_cons (thn (ha pins s σ H _ I h) fun u s1 ⟨x,H1,I1,r1,q1⟩=>?_)
  exact thn (hr pos pins s1 σ H1 _ I1 q1) fun us s2 ⟨xs,H2,I2,r2,q2⟩=>⟨x::xs,H2,I2,.cons r1 r2,q2⟩
noncomputable def qQE (t:TA):TE:=fun σ H Q=>t σ H fun xs H1=>xs.length≤sizeLine∧∀ p,H1 p=none→Q (.ref p) (upd H1 p (.tup xs))
noncomputable def qQl (t:TA):TE:=fun σ H Q=>t σ H fun xs H1=>xs.length≤sizeLine∧∀ p,H1 p=none→Q (.ref p) (upd H1 p (.lst xs))
theorem qNQ {x1} (h:PA X es t):PE X (.Tuple es x1 pos) (qQE t):=by
  intro pins s σ H Q I hq
  refine wpAny_Tuple_spliced (thn (h pos pins s σ H _ I hq) fun us s1 ⟨xs,H1,I1,r,z,q⟩=>⟨by rw [← r.length];exact z,?_⟩)
  have hf:H1 s1.heap.objs.size=none:=I1.hok.fresh (Nat.le_refl _)
  refine⟨.ref s1.heap.objs.size,upd H1 s1.heap.objs.size (.tup xs),I1.laid (t':=s1.toks) (fun b u e=>Heap.get?_push_of_some _ e) (Nat.le_refl _) ?_,rfl,q _ hf⟩
  exact⟨z,us,r,⟨_,Heap.get?_push_size _ rfl,⟨rfl,rfl⟩,_,rfl⟩⟩
theorem qOl (h:PA X es t):PE X (.List es pos) (qQl t):=by
  intro pins s σ H Q I hq
  refine wpAny_List_spliced (thn (h pos pins s σ H _ I hq) fun us s1 ⟨xs,H1,I1,r,z,q⟩=>⟨by rw [← r.length];exact z,?_⟩)
  have hf:H1 s1.heap.objs.size=none:=I1.hok.fresh (Nat.le_refl _)
  refine⟨.ref s1.heap.objs.size,upd H1 s1.heap.objs.size (.lst xs),I1.laid (t':=s1.toks) (fun b u e=>Heap.get?_push_of_some _ e) (Nat.le_refl _) ?_,rfl,q _ hf⟩
  exact⟨z,us,0,r,Heap.get?_push_size _ rfl⟩
end
noncomputable abbrev Sp:=List V→Hp→VK→XK→Prop
noncomputable abbrev CXT:=List Env→Hp→Shared→XK→Value→Shared→Prop
structure qHh (P:Program) (w:World) (K:W.Frag) (mg:Str→Option Value) (base:Heap) (A:Around) (outer:List Env) (s:Shared) (H:Hp):Prop where
  frames:A.frames=some outer
  mod:Mod K mg base
  bs:∀ b o,base.get? b=some o→s.heap.get? b=some o∧H b=none
  bsz:base.objs.size≤s.heap.objs.size
  qC3:s.heap.FunFrames base outer
  frf:∀ b∈frs outer,H b=none
  hok:HOk P w H s.heap
  bare:AllBare s.gens
def CE (outer:List Env) (P:Program) (w:World) (H:Hp) (s:Shared) (Q:VK) (u:Value) (s':Shared):Prop :=
  ∃ v H',s'.os=s.os∧AllBare s'.gens∧Un (frs outer) [] H H' s.heap s'.heap∧HOk P w H' s'.heap∧RelV v u∧Q v H'
def CR (CX:CXT) (outer:List Env) (P:Program) (w:World) (H:Hp) (s:Shared) (Q:VK) (E:XK) (r:Result) (s':Shared):Prop :=
  match r with
  | .ok (.ret u)=>CE outer P w H s Q u s'
  | .ok _=>False
  | .error e=>CX outer H s E e s'
structure qv (P:Program) (w:World) (K:W.Frag) (mg:Str→Option Value) (base:Heap) (CX:CXT) (k:Nat) (f:Addr) (fd:FuncData) (ps:List Str) (sp:Sp):Prop where
  len:∀ vs H Q E,sp vs H Q E→vs.length=ps.length
  run:∀ (A:Around) (outer:List Env) (s:Shared) (H:Hp) (args:Args) (us:List Value) (vs:List V) (Q:VK) (E:XK),qAh k A→qHh P w K mg base A outer s H→BindsTo s fd args (ps.zip us)→Vals vs us→sp vs H Q E →
    codeAny (model P w) A (.call (.ref f) args) (CR CX outer P w H s Q E) s
theorem qHh.in1 {P:Program} {w:World} {K:W.Frag} {mg:Str→Option Value} {base:Heap} {A:Around} {outer:List Env} {s:Shared} {H:Hp} (e:qHh P w K mg base A outer s H) :
    qHh P w K mg base A.in1 outer s H:=⟨e.frames,e.mod,e.bs,e.bsz,e.qC3,e.frf,e.hok,e.bare⟩
section
variable {X:Cx} {pins:List (Addr×Obj)} {σ:St} {H:Hp} {s s':Shared}
theorem Inv.qPX (I:Inv X pins σ H s):qHh X.prog X.w X.K X.mg X.base X.A X.stack s H :=
  ⟨I.ok.frames,I.ok.mod,I.bs,Nat.le_trans I.ok.bsz I.sz,I.stack,I.qFb,I.hok,I.bare⟩
theorem Inv.after {Q:VK} {u:Value} (I:Inv X pins σ H s) (h:CE X.stack X.prog X.w H s Q u s'):EP X pins σ Q u s':=by
  obtain⟨v,H',os,bare,un,hok,r,q⟩:=h
  obtain⟨hh,g,d,t,os'⟩:=s'
  obtain rfl:os'=s.os:=os
  exact⟨v,H',I.call (h':=hh) (g':=g) (d':=d) (t':=t) (ch:=[]) un hok bare (fun b z=>absurd z (by simp)),r,q⟩
end
noncomputable def qPm (sp:Sp) (dvs:List V) (E:XK) (t:TA):TE:=fun σ H Q=>t σ H fun vs H1=>sp (vs++dvs) H1 Q E
def Binds (K:W.Frag) (fd:FuncData) (ps:List Str) (ds:List Value):Prop :=
  ∀ (s:Shared) (us:List Value),K.In s.heap→(us++ds).length=ps.length→BindsTo s fd ⟨us,[]⟩ (ps.zip (us++ds))
theorem Binds.all {K:W.Frag} {fd:FuncData} {ps:List Str} (h:∀ us:List Value,us.length=ps.length→bindArgs fd ⟨us,[]⟩=pure (ps.zip us)):Binds K fd ps []:=fun s us _ hl=>by
  rw [List.append_nil] at hl ⊢
  exact .of_eq (h us hl)
def Passes (CX:CXT) (X:Cx) (E:XK):Prop:=∀ (pins:List (Addr×Obj)) (σ:St) (H:Hp) (s:Shared) (e:Value) (s':Shared),Inv X pins σ H s→CX X.stack H s E e s'→X.xe e s'
section
variable {X:Cx} {CX:CXT} {k:Nat} {f C:Addr} {fd:FuncData} {ps:List Str} {sp:Sp} {dvs:List V} {ds:List Value} {E:XK} {x m:Str} {p pos apos:Pos} {e o:Expr} {es:List Expr} {ta:TE} {t:TA}
theorem qJw {pins:List (Addr×Obj)} {σ:St} {H:Hp} {s:Shared} {Q:VK} {us:List Value} {vs:List V} (F:qv X.prog X.w X.K X.mg X.base CX k f fd ps sp) (hr:qAh k X.A) (hb:Binds X.K fd ps ds) (hd:Vals dvs ds) (hx:Passes CX X E)
    (I:Inv X pins σ H s) (r:Vals vs us) (h:sp (vs++dvs) H Q E):wpAny (model X.prog X.w) X.A (call (.ref f) us) (EP X pins σ Q) X.xe s:=by
  have r2:Vals (vs++dvs) (us++ds):=r.append hd
  have hl:(us++ds).length=ps.length:=by rw [← r2.length];exact F.len _ _ _ _ h
  refine wpAny_call (codeAny_mono (F.run X.A X.stack s H ⟨us,[]⟩ (us++ds) (vs++dvs) Q E hr I.qPX (hb s us I.kIn hl) r2 h) fun r s' hq=>?_)
  cases r with
  | error e=>exact hx pins σ H s e s' I hq
  | ok fl =>
    cases fl with
    | ret u=>exact I.after hq
    | next=>exact False.elim hq
    | brk=>exact False.elim hq
    | cont=>exact False.elim hq
theorem qLP (F:qv X.prog X.w X.K X.mg X.base CX k f fd ps sp) (hr:qAh k X.A) (hg:Gl X x) (hm:X.mg x=some (.ref f)) (hk:W.keepIn X.K (.ref f)=true) (hb:Binds X.K fd ps ds) (hd:Vals dvs ds) (hx:Passes CX X E)
    (ha:PA X (e::es) t) (hdb:(x==("__debug__" : Str))=false:=by decide) (he:starEach (e::es) X.env=(false,eval e X.env)::starEach es X.env:=by rfl) (hpl:(backTo pos (starEach es X.env)).any (·.1)=false:=by rfl) :
    PE X (.Call (.Name x p) (e::es) [] pos) (qPm sp dvs E t):=by
  k_dat 0"r1"
  refine wpAny_Call_Name_kw (qBC I hg hm ?_ hdb)
  refine W.callWith_K (h₀:=X.base) I.ok.mod.kin hk (thn (ha pos pins s σ H _ I h) fun us s1 ⟨vs,H1,I1,r,q⟩=>⟨I1.kIn,?_⟩) he hpl
  exact qJw F hr hb hd hx I1 r q
end
structure qR (N P:List Str) (sc:Scope):Prop where
  kind:sc.kind = .function
  co:sc.isCoroutine=false
  gen:sc.isGenerator=false
  nd:N.Nodup
  pre:N.take P.length=P
  par:∀ x∈P,sc.names.lookup x=some .local∨sc.names.lookup x=some .cell
  nofree:∀ y∈sc.names,y.2≠.free
theorem qE5 {kindOf:Str→Option NameKind} {x:Str}:∀ {binds:List (Str×Value)} {m:Str→Option Value},(∀ v,(x,v) ∉ binds)→bindL kindOf binds m x=m x
  | [],_,_=>rfl
  | (n,v)::r,m,h=>by
    unfold bindL
    rw [qE5 fun w hw=>h w (List.mem_cons_of_mem _ hw)]
    split
    · have:x≠n:=by rintro rfl;exact h v List.mem_cons_self
      simp [this]
    · rfl
theorem qFH {kindOf:Str→Option NameKind} {x:Str}:∀ {binds:List (Str×Value)} {m:Str→Option Value},(∀ v,(x,v) ∉ binds)→bindC kindOf binds m x=m x
  | [],_,_=>rfl
  | (n,v)::r,m,h=>by
    unfold bindC
    rw [qFH fun w hw=>h w (List.mem_cons_of_mem _ hw)]
    split
    · rfl
    · have:x≠n:=by rintro rfl;exact h v List.mem_cons_self
      simp [this]
theorem qFA {kindOf:Str→Option NameKind} {x:Str} {v:Value}:∀ {P:List Str} {vs:List Value} {i:Nat} {m:Str→Option Value},P.Nodup→P[i]? = some x→vs[i]? = some v→kindOf x=some .local →
    bindL kindOf (P.zip vs) m x=some v
  | [],_,_,_,_,h,_,_=>by simp at h
  | _::_,[],_,_,_,_,h,_=>by simp at h
  | p::P,w::vs,0,m,nd,h1,h2,hk=>by
    simp at h1 h2;subst h1;subst h2
    show bindL kindOf ((p,w)::P.zip vs) m p=_
    unfold bindL
    rw [qE5 fun v hv=>(List.nodup_cons.mp nd).1 (List.of_mem_zip hv).1,if_pos hk]
    simp
  | p::P,w::vs,i+1,m,nd,h1,h2,hk=>by
    show bindL kindOf ((p,w)::P.zip vs) m x=_
    unfold bindL
    exact qFA (i:=i) (List.nodup_cons.mp nd).2 (by simpa using h1) (by simpa using h2) hk
theorem qE3 {kindOf:Str→Option NameKind} {x:Str} {v:Value}:∀ {P:List Str} {vs:List Value} {i:Nat} {m:Str→Option Value},P.Nodup→P[i]? = some x→vs[i]? = some v→kindOf x≠some .local →
    bindC kindOf (P.zip vs) m x=some v
  | [],_,_,_,_,h,_,_=>by simp at h
  | _::_,[],_,_,_,_,h,_=>by simp at h
  | p::P,w::vs,0,m,nd,h1,h2,hk=>by
    simp at h1 h2;subst h1;subst h2
    show bindC kindOf ((p,w)::P.zip vs) m p=_
    unfold bindC
    rw [qFH fun v hv=>(List.nodup_cons.mp nd).1 (List.of_mem_zip hv).1,if_neg hk]
    simp
  | p::P,w::vs,i+1,m,nd,h1,h2,hk=>by
    show bindC kindOf ((p,w)::P.zip vs) m x=_
    unfold bindC
    exact qE3 (i:=i) (List.nodup_cons.mp nd).2 (by simpa using h1) (by simpa using h2) hk
noncomputable def start (N:List Str) (vs:List V):St:=vs.map some++List.replicate (N.length - vs.length) none
noncomputable def qF4 (CX:CXT) (P:Program) (w:World) (K:W.Frag) (mg:Str→Option Value) (base:Heap) (N:List Str) (qual:Str) (scope:Scope) (f:Addr) (cd:Value) (A:Around) (outer:List Env) (s:Shared) (H:Hp) (E:XK):Cx where
  prog:=P
  w:=w
  K:=K
  mg:=mg
  base:=base
  A:=A.deeper (envOfC qual scope s.heap.objs.size f cd)
  N:=N
  s₀:=s
  H₀:=H
  env:=envOfC qual scope s.heap.objs.size f cd
  outer:=outer
  stack:=envOfC qual scope s.heap.objs.size f cd::outer
  ex:=[]
  calm:=true
  fn:=fun _=>true
  pn:=[]
  xe:=fun e s'=>wpAny (model P w) (A.deeper (envOfC qual scope s.heap.objs.size f cd)) (leaving (envOfC qual scope s.heap.objs.size f cd) e) (fun _ s''=>CX outer H s E e s'') (fun e' s''=>CX outer H s E e' s'') s'
theorem qGj {sc:Scope} {n:Nat} {x:Str} (h:sc.names.lookup x=some .cell):∃ c,(cellsFrom n sc.names []).lookup x=some c:=by
  have q:=W.cellsFrom_some sc.names n [] (.inl h)
  exact Option.isSome_iff_exists.mp q
theorem qI7 {CX:CXT} {P:Program} {w:World} {K:W.Frag} {mg:Str→Option Value} {base:Heap} {N ps:List Str} {qual:Str} {scope:Scope} {f:Addr} {cd:Value} {A:Around} {outer:List Env} {s s1:Shared} {H:Hp} {E:XK} {us:List Value} {vs:List V}
    (S:qR N ps scope) (hd:A.handled=none) (e0:qHh P w K mg base A outer s H) (hl:vs.length=ps.length) (r:Vals vs us)
    (x:InCallC s s.heap.objs.size (bindL (envOfC qual scope s.heap.objs.size f cd).kindOf (ps.zip us) fun _=>none) (cellsFrom (s.heap.objs.size+1) scope.names []) (bindC (envOfC qual scope s.heap.objs.size f cd).kindOf (ps.zip us) fun _=>none) s1) :
    Inv (qF4 CX P w K mg base N qual scope f cd A outer s H E) [] (start N vs) H s1:=by
  have hpl:ps.length≤N.length:=by have:=congrArg List.length S.pre;rw [List.length_take] at this;omega
  obtain⟨h1,tk,rfl,hk⟩:=x.done
  have noA:∀ b:Addr,b ∉ (qF4 CX P w K mg base N qual scope f cd A outer s H E).ex:=fun b z=>absurd (show b∈([]:List Addr) from z) (by simp)
  refine⟨⟨e0.mod,S.kind,rfl,rfl,Nat.le_refl _,fun y z c h1 h2=>?_,fun y hy=>?_,fun y c _ h=>?_,fun _=>hd,Around.frames_deeper e0.frames,.inr ⟨rfl,rfl⟩,fun b z=>absurd z (noA b),e0.bs,e0.bsz,fun b _ _=>noA b,fun b z=>absurd z (noA b),e0.qC3,e0.frf⟩,
    rfl,e0.bare,Un.kept hk,⟨_,x.toInCall.ns,fun i y v h1 h2 h3=>?_⟩,fun y c h=>⟨_,x.cell y c h⟩,e0.hok.fresh (Nat.le_refl _),fun y c h=>?_,fun p hp=>absurd (show p∈([]:List (Addr×Obj)) from hp) (by simp),e0.hok.kept hk,?_⟩
  · exact name_of_addr x.apart (PySem.mem_of_lookup h1) (PySem.mem_of_lookup h2)
  · have hy:scope.names.lookup y=some .cell∨scope.names.lookup y=some .free:=hy
    rcases hy with hy | hy
    · exact qGj hy
    · exact absurd rfl (S.nofree _ (PySem.mem_of_lookup hy))
  · exact Nat.le_of_lt (x.above y c (PySem.mem_of_lookup h))
  · have hi:i<vs.length:=by
      unfold start at h2
      by_cases hi:i<vs.length
      · exact hi
      · rw [List.getElem?_append_right (by simpa using hi)] at h2
        rw [List.getElem?_replicate] at h2
        split at h2<;>cases h2
    have ha:vs[i]? = some v:=by
      unfold start at h2
      rw [List.getElem?_append_left (by simpa using hi),List.getElem?_map] at h2
      cases e:vs[i]? with
      | none=>rw [e] at h2;cases h2
      | some a=>rw [e] at h2;cases h2;rfl
    obtain⟨u,hu,rv⟩:=r.get ha
    have hp:ps[i]? = some y:=by
      rw [← S.pre,List.getElem?_take_of_lt (by omega)];exact h1
    have ndP:ps.Nodup:=by rw [← S.pre];exact S.nd.sublist (List.take_sublist _ _)
    refine⟨u,rv,?_⟩
    rcases S.par y (List.mem_of_getElem? hp) with k | k
    · exact .inl ⟨k,qFA ndP hp hu k⟩
    · obtain⟨c,e⟩:=qGj (n:=s.heap.objs.size+1) k
      refine .inr ⟨.inl k,c,e,?_⟩
      have q:=x.cell y c e
      rw [qE3 ndP hp hu (by show scope.names.lookup y≠_;rw [k];decide)] at q
      exact q
  · exact e0.hok.fresh (Nat.le_of_lt (x.above y c (PySem.mem_of_lookup h)))
  · unfold start
    show _=N.length
    rw [List.length_append,List.length_map,List.length_replicate]
    omega
theorem qMg {CX:CXT} {P:Program} {w:World} {K:W.Frag} {mg:Str→Option Value} {base:Heap} {k:Nat} {f:Addr} {name qual:Str} {params:Arguments} {body:List Stmt} {scope:Scope} {dV kV doc pm cdv ct oc:Value} {an od:Option Addr}
    {osl:Array (Option Value)} {N ps:List Str} {sp:Sp} (lk:K.lookup f=some ⟨oc,od,.func (W.fnOf name qual params body scope dV kV doc pm an cdv ct),osl⟩) (hcd:W.codeIn K cdv qual=true) (S:qR N ps scope)
    (len:∀ vs H Q E,sp vs H Q E→vs.length=ps.length)
    (hbody:∀ (A:Around) (outer:List Env) (s:Shared) (H:Hp) (vs:List V) (Q:VK) (E:XK),qAh k (A.deeper (envOfC qual scope s.heap.objs.size f cdv))→sp vs H Q E →
      ∃ t,PSs (qF4 CX P w K mg base N qual scope f cdv A outer s H E) body t∧t { nx:=fun _ H'=>Q .non H',rt:=Q } (start N vs) H) :
    qv P w K mg base CX (k+1) f (W.fnOf name qual params body scope dV kV doc pm an cdv ct) ps sp:=by
  refine⟨len,fun A outer s H args us vs Q E hr e0 hb r hsp=>?_⟩
  have hl:=len _ _ _ _ hsp
  have KX:K.In s.heap:=e0.mod.kin.keeps fun b o e=>(e0.bs b o e).1
  have lim:s.heap.NoLimit:=e0.mod.nolimit.keeps fun b o e=>(e0.bs b o e).1
  have hkind:∀ y∈ps.zip us,scope.names.lookup y.1=some .local∨(scope.names.lookup y.1=some .cell∧((cellsFrom (s.heap.objs.size+1) scope.names []).lookup y.1).isSome=true):=fun ⟨n,v⟩ hy=>by
    rcases S.par n (List.of_mem_zip hy).1 with q | q
    · exact .inl q
    · exact .inr ⟨q,W.cellsFrom_some _ _ _ (.inl q)⟩
  refine codeAny_call_function hr.depth (KX _ _ lk) rfl S.co S.gen rfl (W.codeRec_of KX hcd) (hb _ _ _ _ ?_)
  refine wpAny_newFunctionEnv_cells S.kind hkind fun env he s1 x=>?_
  subst he
  refine⟨lim.keeps x.toInCall.keep,codeAny_func ?_⟩
  obtain⟨t,ht,hq⟩:=hbody A outer s H vs Q E (hr.deeper _) hsp
  have I:Inv (qF4 CX P w K mg base N qual scope f cdv A outer s H E) [] (start N vs) H s1:=qI7 S hr.hd e0 hl r x
  refine wpAny_mono (ht [] s1 (start N vs) H _ I hq) (fun fl s' hs=>?_) fun e s' hs=>hs
  have fin:∀ {σ':St} {H':Hp} {v:V} {u:Value},Inv (qF4 CX P w K mg base N qual scope f cdv A outer s H E) [] σ' H' s'→RelV v u→Q v H'→CE outer P w H s Q u s' :=
    fun {σ' H' v u} J rv q=>⟨v,H',J.os,J.bare,J.base,J.hok,rv,q⟩
  cases fl with
  | ret u =>
    obtain⟨v,σ',H',J,rv,q⟩:=hs
    exact fin J rv q
  | next =>
    obtain⟨σ',H',J,q⟩:=hs
    exact fin (v:=V.non) (u:=Value.none) J rfl q
  | brk =>
    obtain⟨_,_,_,q⟩:=hs
    exact False.elim q
  | cont =>
    obtain⟨_,_,_,q⟩:=hs
    exact False.elim q
end L2
namespace L2
open PySem PySem.Spec PyProof.Rows
section
variable {X:Cx} {x:Str} {p pos:Pos} {e:Expr} {es:List Expr} {t:TA} {id T:String} {r:List V→Hp→VK→Prop}
noncomputable def tCB (r:List V→Hp→VK→Prop) (t:TA):TE:=fun σ H Q=>t σ H fun vs H1=>r vs H1 Q
theorem qKG (hc:qDM X (.builtin id) r) (hg:Gl X x) (hm:X.mg x=none) (hv:bootBuiltins x=some (.builtin id)) (ha:PA X (e::es) t) (hn:x ≠ "__name__":=by decide) (hdb:(x==("__debug__" : Str))=false:=by decide)
    (he:starEach (e::es) X.env=(false,eval e X.env)::starEach es X.env:=by rfl) (hpl:(backTo pos (starEach es X.env)).any (·.1)=false:=by rfl):PE X (.Call (.Name x p) (e::es) [] pos) (tCB r t):=by
  k_dat 0"r1"
  refine wpAny_Call_Name_kw (qFo I hg hm hv ?_ hn hdb)
  exact PyProof.Rows.callWith_builtin1 (thn (ha pos pins s σ H _ I h) fun us s1 ⟨vs,H1,I1,r1,q1⟩=>hc pins s1 σ H1 vs us Q I1 r1 q1) he hpl
theorem qIi (hc:qDM X (.type T) r) (hg:Gl X x) (hm:X.mg x=none) (hv:bootBuiltins x=some (.type T)) (ha:PA X (e::es) t) (hn:x ≠ "__name__":=by decide) (hdb:(x==("__debug__" : Str))=false:=by decide)
    (he:starEach (e::es) X.env=(false,eval e X.env)::starEach es X.env:=by rfl) (hpl:(backTo pos (starEach es X.env)).any (·.1)=false:=by rfl):PE X (.Call (.Name x p) (e::es) [] pos) (tCB r t):=by
  k_dat 0"r1"
  refine wpAny_Call_Name_kw (qFo I hg hm hv ?_ hn hdb)
  exact PyProof.Rows.callWith_type1 (thn (ha pos pins s σ H _ I h) fun us s1 ⟨vs,H1,I1,r1,q1⟩=>hc pins s1 σ H1 vs us Q I1 r1 q1) he hpl
end
end L2
namespace HT
open PySem PyProof.Rows
section
variable {prog:Program} {w:World} {A:Around} {E:Value→Shared→Prop} {s:Shared}
theorem qLY {t b:Addr} {vs ws:List Value} {Q:Value→Shared→Prop} (ht:IsTup s.heap t vs.toArray) (hb:IsTup s.heap b ws.toArray) (hv:vs≠[])
    (h1:ws=[]→Q (.ref t) s) (h2:ws≠[]→Q (.ref s.heap.objs.size) { s with heap:=s.heap.push { cls:=.type "tuple",data:=.seq (vs++ws).toArray } })
    (hsz:vs.length+ws.length≤sizeLine):wpAny (model prog w) A (binaryOp .Add (.ref t) (.ref b)) Q E s:=by
  obtain⟨⟨cls,dd,data,sl⟩,ho,hc,n,hd⟩:=id ht
  obtain⟨⟨cls2,dd2,data2,sl2⟩,ho2,hc2,n2,hd2⟩:=id hb
  simp only at hc hd hc2 hd2
  subst hc hd hc2 hd2
  have e:vs.toArray++ws.toArray=(vs++ws).toArray:=by simp
  by_cases hw:ws=[]
  · exact concat_meets ⟨_,ho,rfl⟩ ⟨_,ho2,rfl⟩ noFill_tuple_add seq_tuple_add PySem.F.slot_tuple_add PySem.F.entry_tuple_add (PySem.F.args_tuple_add_2 _ _)
      (tuple_addW1 t b vs.toArray ws.toArray n n2 dd dd2 sl sl2 (by simpa using hv) (by simp [hw])) ⟨ho,ho2,h1 hw⟩
  · refine concat_meets ⟨_,ho,rfl⟩ ⟨_,ho2,rfl⟩ noFill_tuple_add seq_tuple_add PySem.F.slot_tuple_add PySem.F.entry_tuple_add (PySem.F.args_tuple_add_2 _ _)
      (tuple_addW2 t b vs.toArray ws.toArray n n2 dd dd2 sl sl2 (by simpa using hv) (by simpa using hw) (by rw [List.size_toArray,List.size_toArray];exact hsz)) ⟨ho,ho2,?_⟩
    rw [e]
    exact h2 hw
noncomputable def sIx (n d:Nat):Option Int→Nat
  | none=>d
  | some v=>if v<0 then (v+(n:Int)).toNat else min v.toNat n
theorem qJs (n d:Nat):sIx n d none=d:=rfl
theorem qNO (n d:Nat) (hd:d≤n) (o:Option Int):sIx n d o≤n:=by
  cases o with
  | none=>exact hd
  | some v =>
    show (if v<0 then (v+(n:Int)).toNat else min v.toNat n)≤n
    by_cases hv:v<0
    · rw [if_pos hv];omega
    · rw [if_neg hv];exact Nat.min_le_right _ _
theorem qH1 (v:Int) (n d:Nat):(if v<0 then max (v+(n:Int)) 0 else min v (n:Int))=((sIx n d (some v):Nat):Int):=by
  show (if v<0 then max (v+(n:Int)) 0 else min v (n:Int))=(((if v<0 then (v+(n:Int)).toNat else min v.toNat n):Nat):Int)
  by_cases hv:v<0
  · simp only [if_pos hv];omega
  · simp only [if_neg hv];omega
theorem qHr (lo hi:Option Int) (n:Nat):Builtin.Slice.sliceAdjust lo hi 1 (n:Int)=(((sIx n 0 lo:Nat):Int),((sIx n n hi:Nat):Int)):=by
  have h1:¬ ((1:Int)<0):=by omega
  unfold Builtin.Slice.sliceAdjust
  simp only [h1,if_false]
  refine Prod.ext ?_ ?_
  · cases lo with
    | none=>rfl
    | some v=>exact qH1 v n 0
  · cases hi with
    | none=>rfl
    | some v=>exact qH1 v n n
theorem qHB (i j:Nat):Builtin.Slice.slicePlaces (i:Int) (j:Int) 1=j - i:=by
  unfold Builtin.Slice.slicePlaces
  have h1:(1:Int) > 0:=by omega
  simp only [h1,if_true,Int.ediv_one]
  split<;>omega
theorem qEB {v:Value} {o:Option Int} {Q:Option Int→Shared→Prop} (p:IsPart v o) (h:Q o s):wpAny (model prog w) A (Builtin.Slice.slicePartIndex v) Q E s:=by
  cases p with
  | none=>exact slicePart_none h
  | int i t=>exact slicePart_int h
theorem qBV {sl:Addr} {vl vu:Value} {lo hi:Option Int} {n:Nat} {Q:Int×Int×Nat→Shared→Prop} (hs:s.heap.IsSliceOf sl vl vu .none) (pl:IsPart vl lo) (pu:IsPart vu hi)
    (h:Q (((sIx n 0 lo:Nat):Int),1,sIx n n hi - sIx n 0 lo) s):wpAny (model prog w) A (Builtin.Slice.sliceApplied (.ref sl) (pure (n:Int))) Q E s:=by
  obtain⟨os,hos,hcs,hds⟩:=id hs
  unfold Builtin.Slice.sliceApplied Builtin.Slice.sliceFields
  refine wpAny_bind (wpAny_bind (wpAny_field hos hds (x:=vl) rfl (wpAny_bind (wpAny_field hos hds (x:=vu) rfl (wpAny_bind (wpAny_field hos hds (x:=.none) rfl (wpAny_pure ?_)))))))
  refine wpAny_bind (slicePart_none ?_)
  show wpAny _ _ (if ((1:Int)==0)=true then _ else _) _ _ s
  rw [if_neg (by decide)]
  refine wpAny_bind (qEB pl (wpAny_bind (qEB pu (wpAny_bind (wpAny_pure ?_)))))
  show wpAny _ _ (match Builtin.Slice.sliceAdjust lo hi 1 (n:Int) with | (lo,hi)=>pure (lo,(1:Int),Builtin.Slice.slicePlaces lo hi 1)) _ _ s
  rw [qHr lo hi n]
  show wpAny _ _ (pure (((sIx n 0 lo:Nat):Int),(1:Int),Builtin.Slice.slicePlaces ((sIx n 0 lo:Nat):Int) ((sIx n n hi:Nat):Int) 1)) _ _ s
  rw [qHB]
  exact wpAny_pure h
theorem qJ1 (xs:Array Value) (i k:Nat):((List.range k).filterMap fun (m:Nat)=>xs[((i:Int)+(m:Int) * 1).toNat]?).toArray=((xs.toList.drop i).take k).toArray:=by
  have e:(fun (m:Nat)=>xs[((i:Int)+(m:Int) * 1).toNat]?)=fun m=>xs[i+m]?:=by
    funext m
    have:((i:Int)+(m:Int) * 1).toNat=i+m:=by omega
    rw [this]
  rw [e]
  have:=pick_run xs i k
  rw [List.filterMap_map] at this
  have e2:((fun x=>xs[x]?) ∘ fun x=>i+x)=fun m=>xs[i+m]?:=rfl
  rw [e2] at this
  rw [this]
theorem qCg {t sl:Addr} {items:Array Value} {vl vu:Value} {lo hi:Option Int} {Q:Value→Shared→Prop} (ht:IsTup s.heap t items) (hs:s.heap.IsSliceOf sl vl vu .none) (pl:IsPart vl lo) (pu:IsPart vu hi)
    (hw:¬ (sIx items.size 0 lo=0∧sIx items.size items.size hi=items.size))
    (h:Q (.ref s.heap.objs.size) { s with heap:=s.heap.push { cls:=.type "tuple",data:=.seq ((items.toList.drop (sIx items.size 0 lo)).take (sIx items.size items.size hi - sIx items.size 0 lo)).toArray } })
    (hsz:items.size≤sizeLine):wpAny (model prog w) A (getItem (.ref t) (.ref sl)) Q E s:=by
  have htake:sizeOk (.seq ((items.toList.drop (sIx items.size 0 lo)).take (sIx items.size items.size hi - sIx items.size 0 lo)).toArray):=by
    show ((items.toList.drop (sIx items.size 0 lo)).take (sIx items.size items.size hi - sIx items.size 0 lo)).toArray.size≤sizeLine
    rw [List.size_toArray,List.length_take,List.length_drop,Array.length_toList]
    omega
  have hj:sIx items.size items.size hi≤items.size:=qNO _ _ (Nat.le_refl _) hi
  obtain⟨os,hos,hcs,hds⟩:=id hs
  have hTs:s.TypeIs (.ref sl) "slice":=⟨os,hos,hcs⟩
  unfold getItem
  try with_reducible refine wpAny_holding ?_
  first | refine wpAny_bind (wpAny_pure ?_) | skip
  refine wpAny_bind (wpAny_sequenceKey ht.typeIs (by decide) ?_)
  refine wpAny_bind (wpAny_callSpecial?_slot (name:=Str.ofString "__getitem__") ht.typeIs PyProof.Rows.slot_tuple_getitem
    (wpAny_call_entry PyProof.Rows.slot_tuple_getitem ht.typeIs entry_tuple_getitem ?_ (args_tuple_getitem _ _)))
  show wpAny _ _ (Builtin.Tuple.tupleItemsOf (.ref t) >>= _) _ _ s
  refine wpAny_bind (tupleItemsOf_ ht ?_)
  refine wpAny_bind (wpAny_typeOf hTs ?_)
  rw [if_pos (by decide)]
  refine wpAny_bind (qBV hs pl pu ?_)
  have hno:¬ ((((sIx items.size 0 lo:Nat):Int)==0&&(1:Int)==1&&(sIx items.size items.size hi - sIx items.size 0 lo)==items.size)=true):=by
    intro q
    rw [Bool.and_eq_true,Bool.and_eq_true] at q
    have q1:((sIx items.size 0 lo:Nat):Int)=0:=eq_of_beq q.1.1
    have q2:sIx items.size items.size hi - sIx items.size 0 lo=items.size:=eq_of_beq q.2
    exact hw ⟨by omega,by omega⟩
  k_dat 0"r41"
  rw [if_neg hno,qJ1]
  first
    | exact wpAny_bind (m:=Builtin.Tuple.tupleExact _) (wpAny_newObj_type (wpAny_pure ⟨_,rfl,wpAny_pure h⟩) htake)
    | exact wpAny_bind (m:=Builtin.Tuple.tupleExact _) (wpAny_newObj_type (wpAny_bind (wpAny_pure (wpAny_pure ⟨_,rfl,wpAny_pure h⟩))) htake)
    | exact wpAny_bind (wpAny_bind (m:=Builtin.Tuple.tupleExact _) (wpAny_newObj_type (wpAny_pure (wpAny_pure ⟨_,rfl,wpAny_pure h⟩)) htake))
    | exact wpAny_bind (wpAny_bind (m:=Builtin.Tuple.tupleExact _) (wpAny_newObj_type (wpAny_pure ⟨_,rfl,wpAny_pure h⟩) htake))
end
end HT
namespace L2
open PySem PySem.Spec PyProof.Rows
noncomputable abbrev TO:=St→Hp→(Option Int→Hp→Prop)→Prop
def PO (X:Cx) (e:Option Expr) (t:TO):Prop :=
  ∀ (pins:List (Addr×Obj)) (s:Shared) (σ:St) (H:Hp) (Q:Option Int→Hp→Prop),Inv X pins σ H s→t σ H Q →
    wpAny (model X.prog X.w) X.A (evalPart e X.env) (fun u s'=>∃ o H',Inv X pins σ H' s'∧IsPart u o∧Q o H') X.xe s
noncomputable def qLl:TO:=fun _ H Q=>Q none H
noncomputable def qP3 (t:TE):TO:=fun σ H Q=>t σ H fun x H1=>∃ i,x = .int i∧Q (some i) H1
section
variable {X:Cx} {e:Expr} {te:TE} {lo hi:Option Expr} {tl th:TO} {pos p2:Pos}
theorem qLn:PO X none qLl:=by
  k_dat 0"r1"
  rw [evalPart_none]
  exact wpAny_pure ⟨none,H,I,.none,h⟩
theorem qLK (h:PE X e te):PO X (some e) (qP3 te):=by
  intro pins s σ H Q I hw
  rw [evalPart_some]
  refine thn (h pins s σ H _ I hw) fun u s1 ⟨x,H1,I1,r1,q1⟩=>?_
  obtain⟨i,rfl,q⟩:=q1
  obtain⟨t,rfl⟩:=r1
  exact⟨some i,H1,I1,.int i t,q⟩
def SlR (X:Cx) (r:V→Option Int→Option Int→Hp→VK→Prop):Prop :=
  ∀ (pins:List (Addr×Obj)) (s:Shared) (σ:St) (H:Hp) (x:V) (v vl vu:Value) (lo hi:Option Int) (sl:Addr) (Q:VK),Inv X pins σ H s→RelV x v→s.heap.IsSliceOf sl vl vu .none→IsPart vl lo→IsPart vu hi→r x lo hi H Q →
    ∃ T id,typeLookup (.type T) "__getitem__" = pure (some (.builtin id))∧s.TypeIs v T∧wpAny (model X.prog X.w) X.A (getItem v (.ref sl)) (EP X pins σ Q) X.xe s
theorem SlR.or {r r':V→Option Int→Option Int→Hp→VK→Prop} (h:SlR X r) (h':SlR X r'):SlR X (fun x lo hi H Q=>r x lo hi H Q∨r' x lo hi H Q):=by
  intro pins s σ H x v vl vu lo hi sl Q I rx hs pl pu q
  rcases q with q | q
  · exact h pins s σ H x v vl vu lo hi sl Q I rx hs pl pu q
  · exact h' pins s σ H x v vl vu lo hi sl Q I rx hs pl pu q
noncomputable def tSl (r:V→Option Int→Option Int→Hp→VK→Prop) (te:TE) (tl th:TO):TE:=fun σ H Q=>te σ H fun x H1=>tl σ H1 fun l H2=>th σ H2 fun u H3=>r x l u H3 Q
theorem qJ2 {r:V→Option Int→Option Int→Hp→VK→Prop} (hr:SlR X r) (he:PE X e te) (hl:PO X lo tl) (hu:PO X hi th):PE X (.Subscript e (.Slice lo hi none p2) pos) (tSl r te tl th):=by
  k_dat 0"r1"
  refine Subscript_ (thn (he pins s σ H _ I h) fun v s1 ⟨x,H1,I1,r1,q1⟩=>?_)
  refine wpAny_Slice (thn (hl pins s1 σ H1 _ I1 q1) fun vl s2 ⟨l,H2,I2,pl,q2⟩=>thn (hu pins s2 σ H2 _ I2 q2) fun vu s3 ⟨u,H3,I3,pu,q3⟩=>?_)
  rw [evalPart_none]
  refine wpAny_pure ?_
  have I4:Inv X pins σ H3 { s3 with heap:=s3.heap.push { cls:=.type "slice",data:=.fields #[vl,vu,.none] } }:=I3.kept (t':=s3.toks) fun b ob q=>Heap.get?_push_of_some _ q
  obtain⟨T,id,hT,ht,hg⟩:=hr pins { s3 with heap:=s3.heap.push { cls:=.type "slice",data:=.fields #[vl,vu,.none] } } σ H3 x v vl vu l u s3.heap.objs.size Q I4 r1 (Heap.IsSliceOf.new ..) pl pu q3
  show wpAny (model X.prog X.w) X.A (subscriptTail e (.Slice lo hi none p2) v (.ref s3.heap.objs.size)) (EP X pins σ Q) X.xe { s3 with heap:=s3.heap.push { cls:=.type "slice",data:=.fields #[vl,vu,.none] } }
  exact tail_any (ops:=[.ref s3.heap.objs.size,v]) ht hT hg (by with_unfolding_all rfl)
noncomputable def qFx (xs:List V) (lo hi:Option Int):List V:=(xs.drop (HT.sIx xs.length 0 lo)).take (HT.sIx xs.length xs.length hi - HT.sIx xs.length 0 lo)
theorem qDP (xs:List V) (lo hi:Option Int):(qFx xs lo hi).length≤xs.length:=by
  unfold qFx
  rw [List.length_take,List.length_drop]
  omega
noncomputable def qQW (K:W.Frag):V→Option Int→Option Int→Hp→VK→Prop:=fun x lo hi H Q=>∃ a xs,x = .ref a∧SqT K H a xs ∧
  ¬ (HT.sIx xs.length 0 lo=0∧HT.sIx xs.length xs.length hi=xs.length)∧∀ p,H p=none→Q (.ref p) (upd H p (.tup (qFx xs lo hi)))
theorem qNf:SlR X (qQW X.K):=by
  k_dat 0"r34"
  obtain⟨a,xs,rfl,hx,hw,q⟩:=h
  cases rx
  obtain⟨its,r,ht,hz⟩:=I.tuple hx
  have hlen:its.toArray.size=xs.length:=by rw [List.size_toArray];exact r.length.symm
  refine⟨"tuple",_,PyProof.Rows.slot_tuple_getitem.lookup,ht.typeIs,?_⟩
  refine HT.qCg ht hs pl pu (by rw [hlen];exact hw) ?_ (by rw [hlen];exact hz)
  rw [hlen]
  refine⟨.ref s.heap.objs.size,_,I.laid (t':=s.toks) (o:=.tup (qFx xs lo hi)) (fun b ob q=>Heap.get?_push_of_some _ q) (Nat.le_refl _) ?_,rfl,q _ (I.hok.fresh (Nat.le_refl _))⟩
  exact⟨Nat.le_trans (qDP xs lo hi) hz,_,(r.drop (HT.sIx xs.length 0 lo)).take (HT.sIx xs.length xs.length hi - HT.sIx xs.length 0 lo),qA7.new _ _⟩
theorem Vals.qCt {xs:List V} {us:List Value} (r:Vals xs us):us=[]↔xs=[]:=by
  cases r with
  | nil=>simp
  | cons _ _=>simp
end
end L2
namespace L2
open PySem PySem.Spec PyProof.Rows
noncomputable def ixN (n:Nat) (i:Int):Option Nat:=if 0≤i then (if i<n then some i.toNat else none) else if -(n:Int)≤i then some (i+n).toNat else none
noncomputable def atI {α:Type} (xs:List α) (i:Int):Option α:=(ixN xs.length i).bind fun j=>xs[j]?
theorem qIV {n:Nat} {i:Int} {j:Nat} (h:ixN n i=some j):seqIndex? i n=some j∧j<n∧-(n:Int)≤i∧i<n:=by
  unfold ixN at h
  by_cases h0:0≤i
  · rw [if_pos h0] at h
    by_cases h1:i<n
    · rw [if_pos h1] at h
      have e:i.toNat=j:=Option.some.inj h
      exact⟨by rw [seqIndex_of h0 h1,e],by omega,by omega,h1⟩
    · rw [if_neg h1] at h;cases h
  · rw [if_neg h0] at h
    by_cases h1:-(n:Int)≤i
    · rw [if_pos h1] at h
      have e:(i+n).toNat=j:=Option.some.inj h
      exact⟨by rw [seqIndex_neg (by omega) h1,e],by omega,h1,by omega⟩
    · rw [if_neg h1] at h;cases h
theorem qF7 {α:Type} {xs:List α} {i:Int} {v:α} (h:atI xs i=some v):∃ j,seqIndex? i xs.length=some j∧xs[j]? = some v∧j<xs.length∧-(xs.length:Int)≤i∧i<xs.length:=by
  unfold atI at h
  cases e:ixN xs.length i with
  | none=>rw [e] at h;cases h
  | some j =>
    rw [e] at h
    obtain⟨h1,h2,h3,h4⟩:=qIV e
    exact⟨j,h1,h,h2,h3,h4⟩
theorem qB8 {α:Type} {xs:List α} {j:Nat} {v:α} (h:xs[j]? = some v):atI xs (j:Int)=some v:=by
  have hj:j<xs.length:=(List.getElem?_eq_some_iff.mp h).1
  have e:ixN xs.length (j:Int)=some j:=by
    unfold ixN
    rw [if_pos (by omega),if_pos (by omega)];simp
  unfold atI;rw [e];exact h
def qHz (b:Expr):Prop:=∀ o i,subscripted b false o i=operate [o,i] (getItem o i)
def IxR (X:Cx) (r:R2):Prop :=
  ∀ (value slice:Expr) (pins:List (Addr×Obj)) (s:Shared) (σ:St) (H:Hp) (x y:V) (v u:Value) (Q:VK),Inv X pins σ H s→RelV x v→RelV y u→r x y H Q →
    subscripted slice false v u=operate [v,u] (getItem v u)→wpAny (model X.prog X.w) X.A (subscriptTail value slice v u) (EP X pins σ Q) X.xe s
def MtR (X:Cx) (id:String) (r:V→List V→Hp→VK→Prop):Prop :=
  ∀ (pins:List (Addr×Obj)) (s:Shared) (σ:St) (H:Hp) (x:V) (xs:List V) (v:Value) (us:List Value) (Q:VK),Inv X pins σ H s→RelV x v→Vals xs us→r x xs H Q →
    wpAny (model X.prog X.w) X.A (call (.builtin id) (v::us)) (EP X pins σ Q) X.xe s
section
variable {X:Cx} {a b:Expr} {ta tb:TE} {pos:Pos}
theorem IxR.or {r r':R2} (h:IxR X r) (h':IxR X r'):IxR X (fun x y H Q=>r x y H Q∨r' x y H Q):=by
  intro value slice pins s σ H x y v u Q I rx ry q hs
  rcases q with q | q
  · exact h value slice pins s σ H x y v u Q I rx ry q hs
  · exact h' value slice pins s σ H x y v u Q I rx ry q hs
theorem qO5 {r:R2} (hr:IxR X r) (ha:PE X a ta) (hb:PE X b tb) (hs:qHz b):PE X (.Subscript a b pos) (tOp r ta tb):=by
  k_dat 0"r1"
  exact Subscript_ (qNX ha hb I h fun v u s2 x y H2 I2 rx ry q=>hr a b pins s2 σ H2 x y v u Q I2 rx ry q (hs _ _))
noncomputable def qPu (K:W.Frag):R2:=fun x y H Q=>∃ p xs i v,x = .ref p∧y = .int i∧SqL K H p xs∧atI xs i=some v∧Q v H
noncomputable def qPp (K:W.Frag):R2:=fun x y H Q=>∃ p xs i v,x = .ref p∧y = .int i∧SqT K H p xs∧atI xs i=some v∧Q v H
noncomputable def qOu:R2:=fun x y H Q=>∃ z i c,x = .str z∧y = .int i∧z.length≤sizeLine∧atI z.cps.toList i=some c∧Q (.str ⟨#[c]⟩) H
theorem qLW:IxR X (qPu X.K):=by
  k_dat 0"r35"
  obtain⟨p,xs,i,z,rfl,rfl,hq,he,q⟩:=h
  cases rx
  obtain⟨t,rfl⟩:=ry
  obtain⟨its,r,pl,hz⟩:=I.list hq
  obtain⟨j,h1,h2,h3,h4,h5⟩:=qF7 he
  obtain⟨w,ew,rw'⟩:=r.get h2
  have hl:=r.length
  have hn:=qCz
  have fin:EP X pins σ Q w s:=⟨z,H,I,rw',q⟩
  by_cases h0:0≤i
  · have hj:i.toNat=j:=by
      rw [seqIndex_of h0 h5] at h1
      exact Option.some.inj h1
    exact item_listR pl.isList h0 (by omega) (by rw [hj];simpa using ew) fin hs
  · have hj:(i+(its.toArray.size:Int)).toNat=j:=by
      rw [seqIndex_neg (by omega) h4] at h1
      rw [List.size_toArray,← hl]
      exact Option.some.inj h1
    exact subscriptTail_builtinR (x:=w) pl.isList.typeIs slot_list_getitem.lookup
      (wpAny_getItem_list_neg (Q:=fun r s'=>r=w∧EP X pins σ Q r s') pl.isList (by omega) (by rw [List.size_toArray]<;>omega) (by omega) (by rw [hj];simpa using ew) ⟨rfl,fin⟩) hs
theorem qNT:IxR X (qPp X.K):=by
  k_dat 0"r35"
  obtain⟨p,xs,i,z,rfl,rfl,hq,he,q⟩:=h
  cases rx
  obtain⟨t,rfl⟩:=ry
  obtain⟨its,r,pl,hz⟩:=I.tuple hq
  obtain⟨j,h1,h2,h3,h4,h5⟩:=qF7 he
  obtain⟨w,ew,rw'⟩:=r.get h2
  have hl:=r.length
  have hn:=qCz
  have fin:EP X pins σ Q w s:=⟨z,H,I,rw',q⟩
  exact subscriptTail_builtinR (x:=w) pl.typeIs slot_tuple_getitem.lookup
    (getItem_tuple (j:=j) (Q:=fun r s'=>r=w∧EP X pins σ Q r s') pl (by omega) (by omega) (by rw [List.size_toArray,← hl];exact h1) (by simpa using ew) ⟨rfl,fin⟩) hs
theorem qNj:IxR X qOu:=by
  k_dat 0"r35"
  obtain⟨z,i,c,rfl,rfl,hz,he,q⟩:=h
  obtain⟨t,rfl⟩:=rx
  k_dat 0"r11"
  obtain⟨j,h1,h2,h3,h4,h5⟩:=qF7 he
  have hl:z.cps.toList.length=z.length:=by simp [Str.length]
  rw [hl] at h1 h4 h5
  have hn:=qCz
  exact tail_any (typeIs_str s z t) slot_str_getitem.lookup (getItem_str (c:=c) (by
    have e1:decide (i < -(2 ^ 63:Int))=false:=decide_eq_false (by omega)
    have e2:decide (i ≥ 2 ^ 63)=false:=decide_eq_false (by omega)
    rw [e1,e2,Bool.or_false]) (by rw [h1];simpa using h2) ⟨.str ⟨#[c]⟩,H,I.tok _,⟨_,rfl⟩,q⟩) hs
noncomputable def rIx (K:W.Frag):R2:=fun x y H Q=>qPu K x y H Q∨qPp K x y H Q∨qOu x y H Q
theorem qKb:IxR X (rIx X.K):=qLW.or (qNT.or qNj)
theorem qHj (its:List Value) (n j:Nat) (u:Value):Obj.mapSeq (·.setIfInBounds j u) { cls:=.type "list",data:=.seq its.toArray n }={ cls:=.type "list",data:=.seq (its.set j u).toArray n }:=by
  simp [Obj.mapSeq]
theorem Inv.lst {pins:List (Addr×Obj)} {σ:St} {H:Hp} {s:Shared} {p:Addr} {xs:List V} (I:Inv X pins σ H s) (h:H p=some (.lst xs)) :
    ∃ (its:List Value) (n:Nat),Vals xs its∧s.heap.get? p=some { cls:=.type "list",data:=.seq its.toArray n }∧xs.length≤sizeLine:=by
  obtain⟨z,its,n,r,e⟩:=I.hok p _ h
  exact⟨its,n,r,e,z⟩
theorem Inv.qNP {pins:List (Addr×Obj)} {σ:St} {H:Hp} {s:Shared} {p:Addr} {xs ys:List V} {its its':List Value} {n n':Nat} {f:Obj→Obj} (I:Inv X pins σ H s) (h:H p=some (.lst xs))
    (ho:s.heap.get? p=some { cls:=.type "list",data:=.seq its.toArray n }) (hf:f { cls:=.type "list",data:=.seq its.toArray n }={ cls:=.type "list",data:=.seq its'.toArray n' }) (r:Vals ys its') (hz:ys.length≤sizeLine) (t:Nat) :
    Inv X pins σ (upd H p (.lst ys)) { s with heap:=s.heap.update p f,toks:=t }:=by
  have e:(s.heap.update p f).get? p=some { cls:=.type "list",data:=.seq its'.toArray n' }:=by
    rw [Heap.get?_update_self f ho (by rw [hf]<;>rfl),hf]
  refine I.write (x:=p) (e:=p) (by rw [h];trivial) (.inl rfl) (fun b u hb q=>(Heap.get?_update_other _ _ (Ne.symm hb)).trans q) ⟨_,e⟩ ?_
  exact⟨hz,its',n',r,e⟩
noncomputable def qO2:V→V→V→Hp→(Hp→Prop)→Prop:=fun o i v H Q=>∃ p xs k j,o = .ref p∧i = .int k∧H p=some (.lst xs)∧ixN xs.length k=some j∧Q (upd H p (.lst (xs.set j v)))
theorem set_list:qPY X qO2:=by
  intro pins s σ H o i v ov iv u Q I ro ri rv h
  obtain⟨p,xs,k,j,rfl,rfl,hp,hj,q⟩:=h
  cases ro
  obtain⟨t,rfl⟩:=ri
  obtain⟨its,n,r,ho,hz⟩:=I.lst hp
  obtain⟨h1,h2,h3,h4⟩:=qIV hj
  have hl:=r.length
  have hn:=qCz
  have I':Inv X pins σ (upd H p (.lst (xs.set j v))) { s with heap:=s.heap.update p (Obj.mapSeq (·.setIfInBounds j u)) } :=
    I.qNP hp ho (qHj its n j u) (r.set rv j) (by rw [List.length_set];exact hz) s.toks
  by_cases h0:0≤k
  · have hk:k.toNat=j:=by
      rw [seqIndex_of h0 h4] at h1
      exact Option.some.inj h1
    exact W.ki_setAt ho h0 (by omega) (by rw [List.size_toArray,← hl];exact h4) (by rw [hk];exact⟨_,I',q⟩)
  · have hk:(k+(its.toArray.size:Int)).toNat=j:=by
      rw [seqIndex_neg (by omega) h3] at h1
      rw [List.size_toArray,← hl]
      exact Option.some.inj h1
    exact W.ki_setBack ho (by omega) (by rw [List.size_toArray,← hl];exact h3) (by omega) (by rw [hk];exact⟨_,I',q⟩)
theorem qFf (lo hi:Option Int) (n:Nat):(sliceBounds lo hi none n).1=((HT.sIx n 0 lo:Nat):Int)∧(sliceBounds lo hi none n).2.1=((HT.sIx n n hi:Nat):Int)∧(sliceBounds lo hi none n).2.2=1:=by
  refine⟨?_,?_,rfl⟩
  · cases lo with
    | none=>simp [sliceBounds,HT.sIx]
    | some i =>
      simp only [sliceBounds,HT.sIx,Option.getD_none,show (1:Int) > 0 by decide,if_true]
      by_cases h:i<0
      · simp only [h,if_true]<;>omega
      · simp only [h,if_false]<;>omega
  · cases hi with
    | none=>simp [sliceBounds,HT.sIx]
    | some i =>
      simp only [sliceBounds,HT.sIx,Option.getD_none,show (1:Int) > 0 by decide,if_true]
      by_cases h:i<0
      · simp only [h,if_true]<;>omega
      · simp only [h,if_false]<;>omega
theorem qEe (its:List Value) (lo hi:Option Int):slicePick its.toArray lo hi none=((its.drop (HT.sIx its.length 0 lo)).take (HT.sIx its.length its.length hi - HT.sIx its.length 0 lo)).toArray:=by
  obtain⟨h1,h2,h3⟩:=qFf lo hi its.toArray.size
  unfold slicePick
  rw [h1,h2,h3]
  simp only [sliceRange_one,pick_run,List.size_toArray]<;>rfl
noncomputable def qQi (K:W.Frag):V→Option Int→Option Int→Hp→VK→Prop:=fun x lo hi H Q=>∃ a xs,x = .ref a∧SqL K H a xs∧∀ p,H p=none→Q (.ref p) (upd H p (.lst (qFx xs lo hi)))
theorem qLs:SlR X (qQi X.K):=by
  k_dat 0"r34"
  obtain⟨a,xs,rfl,hx,q⟩:=h
  cases rx
  obtain⟨its,r,ht,hz⟩:=I.list hx
  have hlen:=r.length
  refine⟨"list",_,slot_list_getitem.lookup,ht.isList.typeIs,?_⟩
  refine wpAny_getItem_list_slice ht.isList hs pl pu .none (by simp) ?_ (by rw [List.size_toArray]<;>omega)
  rw [qEe,← hlen]
  refine⟨.ref s.heap.objs.size,_,I.laid (t':=s.toks) (o:=.lst (qFx xs lo hi)) (fun b ob q=>Heap.get?_push_of_some _ q) (Nat.le_refl _) ?_,rfl,q _ (I.hok.fresh (Nat.le_refl _))⟩
  exact⟨Nat.le_trans (qDP xs lo hi) hz,_,0,(r.drop (HT.sIx xs.length 0 lo)).take (HT.sIx xs.length xs.length hi - HT.sIx xs.length 0 lo),Heap.get?_push_size _ rfl⟩
noncomputable def qCM:V→Bool
  | .non=>true
  | .bl _=>true
  | .int _=>true
  | .str _=>true
  | _=>false
noncomputable def eqV:V→V→Bool
  | .non,.non=>true
  | .bl a,.bl b=>a==b
  | .bl a,.int b=>(if a then 1 else 0)==b
  | .int a,.bl b=>a==(if b then 1 else 0)
  | .int a,.int b=>a==b
  | .str a,.str b=>a==b
  | _,_=>false
theorem qNI {A:Around} {s:Shared} {y x:V} {u v:Value} (ry:RelV y u) (rx:RelV x v) (fy:qCM y=true) (fx:qCM x=true):SeqAt.EqAt A s u v (eqV y x):=by
  cases y with
  | non =>
    cases ry
    cases x with
    | non=>cases rx;exact SeqAt.EqAt.same _
    | bl b=>cases rx;exact SeqAt.EqAt.none_bool b
    | int b=>obtain⟨t,rfl⟩:=rx;exact SeqAt.EqAt.none_int b t
    | str b=>obtain⟨t,rfl⟩:=rx;exact SeqAt.EqAt.none_str b t
    | _=>exact absurd (show false=true from fx) Bool.false_ne_true
  | bl a =>
    cases ry
    cases x with
    | non=>cases rx;exact SeqAt.EqAt.bool_none a
    | bl b=>cases rx;exact SeqAt.EqAt.bool_bool a b
    | int b=>obtain⟨t,rfl⟩:=rx;exact SeqAt.EqAt.bool_int a b t
    | str b=>obtain⟨t,rfl⟩:=rx;exact SeqAt.EqAt.bool_str a b t
    | _=>exact absurd (show false=true from fx) Bool.false_ne_true
  | int a =>
    k_dat 0"r11"
    cases x with
    | non=>cases rx;exact SeqAt.EqAt.int_none a t'
    | bl b=>cases rx;exact SeqAt.EqAt.int_bool a t' b
    | int b=>obtain⟨t,rfl⟩:=rx;exact SeqAt.EqAt.int_int a t' b t
    | str b=>obtain⟨t,rfl⟩:=rx;exact SeqAt.EqAt.int_str a t' b t
    | _=>exact absurd (show false=true from fx) Bool.false_ne_true
  | str a =>
    k_dat 0"r11"
    cases x with
    | non=>cases rx;exact SeqAt.EqAt.str_none a t'
    | bl b=>cases rx;exact SeqAt.EqAt.str_bool a t' b
    | int b=>obtain⟨t,rfl⟩:=rx;exact SeqAt.EqAt.str_int a t' b t
    | str b=>obtain⟨t,rfl⟩:=rx;exact SeqAt.EqAt.str_str a t' b t
    | _=>exact absurd (show false=true from fx) Bool.false_ne_true
  | _=>exact absurd (show false=true from fy) Bool.false_ne_true
noncomputable def eqU (x:V) (u:Value):Bool:=match u with
  | .none=>eqV .non x
  | .bool b=>eqV (.bl b) x
  | .int i _=>eqV (.int i) x
  | .str z _=>eqV (.str z) x
  | _=>false
theorem qKT {x y:V} {u:Value} (r:RelV y u) (f:qCM y=true):eqU x u=eqV y x:=by
  cases y with
  | non=>cases r;rfl
  | bl b=>cases r;rfl
  | int i=>obtain⟨t,rfl⟩:=r;rfl
  | str z=>obtain⟨t,rfl⟩:=r;rfl
  | _=>exact absurd (show false=true from f) Bool.false_ne_true
theorem qCZ {x:V}:∀ {xs:List V} {us:List Value},Vals xs us→xs.all qCM=true→us.any (eqU x)=xs.any fun y=>eqV y x
  | _,_,.nil,_=>rfl
  | y::xs,u::us,.cons r t,f=>by
    rw [List.all_cons,Bool.and_eq_true] at f
    rw [List.any_cons,List.any_cons,qKT r f.1,qCZ t f.2]
theorem qBw {A:Around} {s:Shared} {x:V} {v:Value} (rx:RelV x v) (fx:qCM x=true):∀ {xs:List V} {us:List Value},Vals xs us→xs.all qCM=true→∀ u∈us,SeqAt.EqAt A s u v (eqU x u)
  | _,_,.nil,_=>fun u hu=>by cases hu
  | y::xs,u::us,.cons r t,f=>fun u' hu=>by
    rw [List.all_cons,Bool.and_eq_true] at f
    rcases List.mem_cons.mp hu with rfl | hu
    · rw [qKT r f.1];exact qNI r rx f.1 fx
    · exact qBw rx fx t f.2 u' hu
noncomputable def inV (x:V) (xs:List V):Bool:=xs.any fun y=>eqV y x
noncomputable def rIn (K:W.Frag) (neg:Bool):R2:=fun x y H Q=>∃ p xs,y = .ref p∧(SqL K H p xs∨SqT K H p xs)∧qCM x=true∧xs.all qCM=true∧Q (.bl (if neg then !inV x xs else inV x xs)) H
theorem qJE:OpR X (compareOp .In) (rIn X.K false):=by
  k_dat 0"r4"
  obtain⟨p,xs,rfl,hq,fx,fs,q⟩:=h
  cases ry
  rcases hq with hq | hq
  · obtain⟨its,r,pl,hz⟩:=I.list hq
    refine SeqAt.in_listAt (eqU x) pl.isList (fun w hw=>qBw rx fx r fs w (by simpa using hw)) ⟨.bl _,H,I,rfl,?_⟩
    k_dat 0"r27"
    exact q
  · obtain⟨its,r,pl,hz⟩:=I.tuple hq
    refine SeqAt.in_tupleAt (eqU x) pl (fun w hw=>qBw rx fx r fs w (by simpa using hw)) ⟨.bl _,H,I,rfl,?_⟩
    k_dat 0"r27"
    exact q
theorem qFm:OpR X (compareOp .NotIn) (rIn X.K true):=by
  k_dat 0"r4"
  obtain⟨p,xs,rfl,hq,fx,fs,q⟩:=h
  cases ry
  rcases hq with hq | hq
  · obtain⟨its,r,pl,hz⟩:=I.list hq
    refine SeqAt.notIn_listAt (eqU x) pl.isList (fun w hw=>qBw rx fx r fs w (by simpa using hw)) ⟨.bl _,H,I,rfl,?_⟩
    k_dat 0"r27"
    exact q
  · obtain⟨its,r,pl,hz⟩:=I.tuple hq
    refine SeqAt.notIn_tupleAt (eqU x) pl (fun w hw=>qBw rx fx r fs w (by simpa using hw)) ⟨.bl _,H,I,rfl,?_⟩
    k_dat 0"r27"
    exact q
theorem qFP:OpR X (compareOp .NotIn) (fun x y H Q=>∃ i j,x = .str i∧y = .str j∧Q (.bl (!(!(Builtin.Str.occurrences j i 0 j.length 1).isEmpty))) H):=by
  k_dat 0"r4"
  obtain⟨i,j,rfl,rfl,q⟩:=h
  obtain⟨t,rfl⟩:=rx
  k_dat 0"r11"
  exact notIn_str ⟨.bl _,H,I,rfl,q⟩
theorem qGG:qDM X (.builtin "len") (fun xs H Q=>∃ p ys,xs=[.ref p]∧(SqL X.K H p ys∨SqT X.K H p ys)∧Q (.int ys.length) H):=by
  k_dat 0"r21"
  obtain⟨p,ys,rfl,hq,q⟩:=h
  obtain⟨u,rfl,rx⟩:=vals1 r
  cases rx
  have hn:=qCz
  rcases hq with hq | hq
  · obtain⟨its,r',pl,hz⟩:=I.list hq
    have hlen:=r'.length
    exact Calls.call_len_list pl.isList (by simp only [List.size_toArray]<;>omega) ⟨.int ys.length,H,I.tok _,⟨s.toks+1,by rw [List.size_toArray,hlen]⟩,q⟩
  · obtain⟨its,r',pl,hz⟩:=I.tuple hq
    have hlen:=r'.length
    exact len_tuple pl (by simp only [List.size_toArray]<;>omega) ⟨.int ys.length,H,I.tok _,⟨s.toks+1,by rw [List.size_toArray,hlen]⟩,q⟩
theorem qGE:qDM X (.builtin "len") (fun xs H Q=>∃ z,xs=[.str z]∧z.length≤sizeLine∧Q (.int z.length) H):=by
  k_dat 0"r21"
  obtain⟨z,rfl,hz,q⟩:=h
  obtain⟨u,rfl,t,rfl⟩:=vals1 r
  have hn:=qCz
  exact len_str (by omega) ⟨.int z.length,H,I.tok _,⟨_,rfl⟩,q⟩
theorem qFs:qDM X (.type "list") (fun xs H Q=>∃ p ys,xs=[.ref p]∧(SqL X.K H p ys∨SqT X.K H p ys)∧∀ l,H l=none→Q (.ref l) (upd H l (.lst ys))):=by
  k_dat 0"r21"
  obtain⟨p,ys,rfl,hq,q⟩:=h
  obtain⟨u,rfl,rx⟩:=vals1 r
  cases rx
  have fin:∀ (its:List Value),Vals ys its→ys.length≤sizeLine→∀ (h':Heap) (c':Nat),(∀ b o',s.heap.get? b=some o'→h'.get? b=some o') →
      h'.get? s.heap.objs.size=some { cls:=.type "list",dict:=none,data:=.seq its.toArray c',slots:=#[] }→EP X pins σ Q (.ref s.heap.objs.size) { s with heap:=h' }:=fun its r' hz h' c' kp e =>
    ⟨.ref s.heap.objs.size,_,I.laid (t':=s.toks) kp (Nat.le_refl _) (show qAc X.prog X.w _ h' _ (.lst ys) from⟨hz,its,c',r',e⟩),rfl,q _ (I.hok.fresh (Nat.le_refl _))⟩
  rcases hq with hq | hq
  · obtain⟨its,r',pl,hz⟩:=I.list hq
    have hlen:=r'.length
    obtain⟨o,ho,hc,n,hd⟩:=pl.isList
    exact call_list_seq p (.inl rfl) ho hc hd (fun h' c' kp e=>fin its r' hz h' c' kp e) (by simp only [List.size_toArray]<;>omega)
  · obtain⟨its,r',pl,hz⟩:=I.tuple hq
    have hlen:=r'.length
    obtain⟨o,ho,hc,n,hd⟩:=pl
    exact call_list_seq p (.inr rfl) ho hc hd (fun h' c' kp e=>fin its r' hz h' c' kp e) (by simp only [List.size_toArray]<;>omega)
theorem qEi:qDM X (.type "tuple") (fun xs H Q=>∃ p ys,xs=[.ref p]∧((SqL X.K H p ys∧∀ l,H l=none→Q (.ref l) (upd H l (.tup ys)))∨(SqT X.K H p ys∧Q (.ref p) H))):=by
  k_dat 0"r21"
  obtain⟨p,ys,rfl,h⟩:=h
  obtain⟨u,rfl,rx⟩:=vals1 r
  cases rx
  rcases h with ⟨hq,q⟩ | ⟨hq,q⟩
  · obtain⟨its,r',pl,hz⟩:=I.list hq
    have hlen:=r'.length
    refine call_tuple_list pl.isList (fun h' kp=>?_) (by simp only [List.size_toArray]<;>omega)
    have I1:Inv X pins σ H { s with heap:=h' }:=I.kept (t':=s.toks) kp
    have I2:Inv X pins σ (upd H h'.objs.size (.tup ys)) { s with heap:=h'.push { cls:=.type "tuple",data:=.seq its.toArray } } :=
      I1.laid (t':=s.toks) (fun b o e=>Heap.get?_push_of_some _ e) (Nat.le_refl _) (show qAc X.prog X.w _ _ _ (.tup ys) from⟨hz,its,r',qA7.new _ _⟩)
    exact⟨.ref h'.objs.size,_,I2,rfl,q _ (I1.hok.fresh (Nat.le_refl _))⟩
  · obtain⟨its,r',pl,hz⟩:=I.tuple hq
    exact call_tuple_same pl ⟨.ref p,H,I,rfl,q⟩
def tyV (K:W.Frag) (T:String) (x:V) (H:Hp):Prop:=match x with
  | .str _=>T = "str"
  | .int _=>T = "int"
  | .ref p=>(T = "list" ∧ ∃ xs,SqL K H p xs)∨(T = "tuple" ∧ ∃ o,K.lookup p=some o∧o.cls = .type "tuple" ∧ o.dict=none) ∨
      (T = "dict" ∧ ((∃ kvs,H p=some (.dK kvs))∨∃ kvs,H p=some (.dT kvs)))∨(T = "set" ∧ ∃ S n,H p=some (.set S n))
  | _=>False
theorem qN2 {pins:List (Addr×Obj)} {σ:St} {H:Hp} {s:Shared} {T:String} {x:V} {v:Value} (I:Inv X pins σ H s) (r:RelV x v) (ty:tyV X.K T x H) :
    s.TypeIs v T∧∀ a,v = .ref a→∃ ob,s.heap.get? a=some ob∧ob.dict=none:=by
  cases x with
  | str z =>
    obtain⟨t,rfl⟩:=r
    cases (show T = "str" from ty)
    exact⟨typeIs_str s z t,fun _ e=>nomatch e⟩
  | int i =>
    obtain⟨t,rfl⟩:=r
    cases (show T = "int" from ty)
    exact⟨typeIs_int s i t,fun _ e=>nomatch e⟩
  | ref p =>
    cases r
    rcases ty with ⟨rfl,xs,hq⟩ | ⟨rfl,o,hk,hc,hd⟩ | ⟨rfl,hk⟩ | ⟨rfl,S,n,hk⟩
    · obtain⟨its,_,pl,_⟩:=I.list hq
      refine⟨pl.isList.typeIs,fun a e=>?_⟩
      cases e
      obtain⟨o,n,e,c,hd,_⟩:=pl
      exact⟨o,e,hd⟩
    · refine⟨⟨o,I.kIn p o hk,hc⟩,fun a e=>?_⟩
      cases e
      exact⟨o,I.kIn _ o hk,hd⟩
    · have z:∃ o,s.heap.get? p=some o∧o.ExactDict:=by
        rcases hk with ⟨kvs,hk⟩ | ⟨kvs,hk⟩
        · obtain⟨_,_,_,_,o,_,_,e,ex,_⟩:=I.hok p _ hk
          exact⟨o,e,ex⟩
        · obtain⟨_,_,_,_,o,_,_,e,ex,_⟩:=I.hok p _ hk
          exact⟨o,e,ex⟩
      obtain⟨o,e,ex⟩:=z
      refine⟨⟨o,e,ex.1⟩,fun a e2=>?_⟩
      cases e2
      exact⟨o,e,ex.2.1⟩
    · obtain⟨o,_,_,_,e,ex,_⟩:=I.hok p _ hk
      refine⟨⟨o,e,ex.1⟩,fun a e2=>?_⟩
      cases e2
      exact⟨o,e,ex.2.1⟩
  | _=>exact False.elim ty
noncomputable def tBM (K:W.Frag) (T:String) (r:V→List V→Hp→VK→Prop) (to:TE) (t:TA):TE:=fun σ H Q=>to σ H fun x H1=>tyV K T x H1∧t σ H1 fun xs H2=>r x xs H2 Q
variable {o e:Expr} {es:List Expr} {to:TE} {t:TA} {name:Str} {apos cpos:Pos} {T id:String} {r:V→List V→Hp→VK→Prop}
theorem qPk (pa:PlainAttrs T) (slot:Slot T name id) (hty:typeOf (.builtin id)=pure (.type "method_descriptor")) (hm:MtR X id r) (ho:PE X o to) (ha:PA X (e::es) t)
    (hbase:attributeBase o name X.env (eval o X.env)=eval o X.env:=by rfl)
    (hfew:((backTo cpos (starEach (e::es) X.env)).all (fun x=>!x.1)&&(backToKw cpos (keywordEach [] X.env)).all (fun x=>x.1.isSome)
      && decide ((e::es).length+([]:List Keyword).length+(if ([]:List Keyword).isEmpty then 0 else 1)<30))=true:=by rfl)
    (hline:(apos.endLine==cpos.line)=true:=by rfl) (hs:starEach (e::es) X.env=(false,eval e X.env)::starEach es X.env:=by rfl) (hplain:(backTo cpos (starEach es X.env)).any (·.1)=false:=by rfl) :
    PE X (.Call (.Attribute o name apos) (e::es) [] cpos) (tBM X.K T r to t):=by
  k_dat 0"r1"
  refine wpAny_Call_method_late hbase hfew hline rfl (thn (ho pins s σ H _ I h) fun v s1 ⟨x,H1,I1,r1,ty,q1⟩=>?_)
  obtain⟨h1,h2⟩:=qN2 I1 r1 ty
  refine⟨T,id,pa,slot,hty,h1,h2,?_⟩
  have hA:=ha cpos pins s1 σ H1 _ I1 q1
  rw [hs] at hA ⊢
  refine Calls.callWith_builtin (by show (false || (backTo cpos (starEach es X.env)).any (·.1))=false;rw [hplain]<;>rfl) (Calls.evalArgs_plain ?_)
  exact thn hA fun us s2 ⟨vs,H2,I2,r2,q2⟩=>hm pins s2 σ H2 x vs v us Q I2 r1 r2 q2
end
end L2
namespace L2
open PySem PySem.Spec PyProof.Rows
def MtM (X:Cx) (id:String) (r:V→List V→Hp→VK→Prop):Prop :=
  ∀ (pins:List (Addr×Obj)) (s:Shared) (σ:St) (H:Hp) (x:V) (xs:List V) (v:Value) (us:List Value) (Q:VK),Inv X pins σ H s→RelV x v→Vals xs us→r x xs H Q →
    wpAny (model X.prog X.w) X.A (call (.builtin id) (v::us)) (EP X pins σ Q) X.xe s
theorem Vals.one:∀ {x:V} {us:List Value},Vals [x] us→∃ u,us=[u]∧RelV x u
  | _,_,.cons r .nil=>⟨_,rfl,r⟩
theorem Vals.zero:∀ {us:List Value},Vals [] us→us=[]
  | _,.nil=>rfl
theorem Vals.rep {xs:List V} {us:List Value} (h:Vals xs us):∀ k:Nat,Vals (List.replicate k xs).flatten (List.replicate k us).flatten
  | 0=>.nil
  | k+1=>by
    rw [List.replicate_succ,List.replicate_succ,List.flatten_cons,List.flatten_cons]
    exact Vals.append h (Vals.rep h k)
theorem foldl_rep (its:List Value):∀ (k:Nat) (acc:List Value),
    List.foldl (fun x1 x2=>x1++x2) acc.toArray (List.replicate k its.toArray)=(acc++(List.replicate k its).flatten).toArray
  | 0,acc=>by simp
  | k + 1,acc=>by
    have e:acc.toArray++its.toArray=(acc++its).toArray:=by simp
    have e2:(acc++its)++(List.replicate k its).flatten=acc++(List.replicate (k+1) its).flatten:=by
      rw [List.replicate_succ,List.flatten_cons,List.append_assoc]
    rw [← e2,← foldl_rep its k (acc++its),← e,List.replicate_succ,List.foldl_cons]
section
variable {X:Cx} {pins:List (Addr×Obj)} {σ:St} {H:Hp} {s:Shared} {l b:Addr} {xs ys zs:List V}
theorem Inv.qQS {its its':List Value} {n:Nat} {f:Array Value→Array Value} {t':Nat} (I:Inv X pins σ H s) (hH:H l=some (.lst xs))
    (e:s.heap.get? l=some { cls:=.type "list",data:=.seq its.toArray n }) (hf:f its.toArray=its'.toArray) (hv:Vals ys its') (hz:ys.length≤sizeLine) :
    Inv X pins σ (upd H l (.lst ys)) { s with heap:=s.heap.update l (Obj.mapSeq f),toks:=t' }:=by
  have q:=PySem.IsL.update e f
  rw [hf] at q
  refine I.write (x:=l) (e:=l) (by rw [hH];exact trivial) (.inl rfl) (fun b' u hb hu=>(Heap.get?_update_other s.heap (Obj.mapSeq f) (Ne.symm hb)).trans hu) ⟨_,q⟩ ?_
  exact⟨hz,its',_,hv,q⟩
theorem Inv.qPl {its:List Value} {t':Nat} (I:Inv X pins σ H s) (hv:Vals ys its) (hz:ys.length≤sizeLine) :
    Inv X pins σ (upd H s.heap.objs.size (.lst ys)) { s with heap:=s.heap.push { cls:=.type "list",data:=.seq its.toArray },toks:=t' } :=
  I.laid (fun _ _ q=>Heap.get?_push_of_some _ q) (Nat.le_refl _) ⟨hz,its,0,hv,Heap.get?_push_size _ rfl⟩
theorem Inv.fresh (I:Inv X pins σ H s):H s.heap.objs.size=none:=I.hok.fresh (Nat.le_refl _)
theorem Inv.qLD (I:Inv X pins σ H s) (hH:H l=some (.lst xs)):xs.length≤sizeLine∧∃ (its:List Value) (n:Nat),Vals xs its∧xs.length=its.length∧s.heap.get? l=some { cls:=.type "list",data:=.seq its.toArray n }:=by
  obtain⟨z,its,n,r,e⟩:=I.hok l _ hH
  exact⟨z,its,n,r,r.length,e⟩
theorem qKf {n:Nat} (h:n≤sizeLine):Builtin.List.listTooLong n=false:=by
  unfold Builtin.List.listTooLong
  exact decide_eq_false (by omega)
end
section
variable {X:Cx}
noncomputable def qMD:V→List V→Hp→VK→Prop:=fun x vs H Q=>∃ l xs y,x = .ref l∧vs=[y]∧H l=some (.lst xs)∧xs.length<sizeLine∧Q .non (upd H l (.lst (xs++[y])))
theorem qIw:MtM X "list.append" qMD:=by
  intro pins s σ H x vs v us Q I rx rv h
  obtain⟨l,xs,y,rfl,rfl,hH,hz,q⟩:=h
  cases rx
  obtain⟨u,rfl,ru⟩:=rv.one
  obtain⟨z,its,n,r,hl,e⟩:=I.qLD hH
  refine call_meets F.slot_list_append ⟨_,e,rfl⟩ F.entry_list_append (F.args_list_append_2 _ _) (PySem.list_append l its.toArray n u (by rw [List.size_toArray];omega)) ⟨e,?_⟩
  refine⟨.non,_,I.qQS (its':=its++[u]) hH e (by simp) (r.append (.cons ru .nil)) ?_,rfl,q⟩
  rw [List.length_append,List.length_singleton]
  omega
noncomputable def qQG:R2:=fun x y H Q=>∃ l b xs zs,x = .ref l∧y = .ref b∧H l=some (.lst xs)∧H b=some (.lst zs)∧xs.length+zs.length≤sizeLine∧∀ p,H p=none→Q (.ref p) (upd H p (.lst (xs++zs)))
theorem qNA:OpR X (binaryOp .Add) qQG:=by
  k_dat 0"r4"
  obtain⟨l,b,xs,zs,rfl,rfl,hH,hB,hz,q⟩:=h
  cases rx
  cases ry
  obtain⟨z,its,n,r,hl,e⟩:=I.qLD hH
  obtain⟨z2,its2,n2,r2,hl2,e2⟩:=I.qLD hB
  refine PySem.P.add_list e e2 ?_ (by rw [List.size_toArray,List.size_toArray];omega)
  have ea:its.toArray++its2.toArray=(its++its2).toArray:=by simp
  rw [ea]
  exact⟨.ref _,_,I.qPl (t':=s.toks) (r.append r2) (by rw [List.length_append];omega),rfl,q _ I.fresh⟩
noncomputable def qQQ:R2:=fun x y H Q=>∃ l k xs,x = .ref l∧y = .int k∧H l=some (.lst xs)∧-(2 ^ 63)≤k∧k<2 ^ 63∧xs.length * k.toNat≤sizeLine ∧
  ∀ p,H p=none→Q (.ref p) (upd H p (.lst (List.replicate k.toNat xs).flatten))
theorem len_rep {α:Type} (xs:List α) (k:Nat):(List.replicate k xs).flatten.length=k * xs.length:=by
  induction k with
  | zero=>simp
  | succ k ih=>rw [List.replicate_succ,List.flatten_cons,List.length_append,ih,Nat.succ_mul,Nat.add_comm]
theorem qN8:OpR X (binaryOp .Mult) qQQ:=by
  k_dat 0"r4"
  obtain⟨l,k,xs,rfl,rfl,hH,h1,h2,hz,q⟩:=h
  cases rx
  obtain⟨t,rfl⟩:=ry
  obtain⟨z,its,n,r,hl,e⟩:=I.qLD hH
  have hlen:its.toArray.size * k.toNat≤sizeLine:=by rw [List.size_toArray,← hl];exact hz
  have hcap:¬ its.toArray.size * k.toNat > (2 ^ 63 - 1) / 8:=by
    have:(sizeLine:Nat)≤(2 ^ 63 - 1) / 8:=by decide
    omega
  have hfit:¬ (!Builtin.List.listFitsIndex k)=true:=by
    rw [fitsIndex_both h1 h2]
    exact Bool.false_ne_true
  have hlong:¬ Builtin.List.listTooLong (its.toArray.size * k.toNat)=true:=by
    rw [qKf hlen]
    exact Bool.false_ne_true
  have hnew:List.foldl (fun x1 x2=>x1++x2) #[] (List.replicate (if its.toArray.isEmpty=true then 0 else k.toNat) its.toArray)=(List.replicate k.toNat its).flatten.toArray:=by
    have f0:∀ m:Nat,List.foldl (fun x1 x2=>x1++x2) #[] (List.replicate m its.toArray)=(List.replicate m its).flatten.toArray:=fun m=>by
      have:=foldl_rep its m []
      rw [List.nil_append] at this
      exact this
    rw [f0]
    cases its with
    | nil=>simp
    | cons a r'=>rw [if_neg (by simp)]
  refine wpAny_binaryOp_repeat_ref (T:= "list") (U:= "int") (by decide) ⟨_,e,rfl⟩ (fun s'=>typeIs_int s' k t) noFill_list_mul F.fills_int_mul F.slot_int_rmul repeat_list F.slot_int_index.lookup
    (call_meets F.slot_int_rmul (typeIs_int s k t) F.entry_int_rmul (F.args_int_rmul_2 _ _) (int___rmul___int_list k t l its.toArray n)
      ⟨e,rfl,⟨_,e,rfl⟩,call_meets F.slot_list_mul ⟨_,e,rfl⟩ F.entry_list_mul (F.args_list_mul_2 _ _) (AutoListH.list___mul___list_int_3 l its.toArray n k t hfit hcap hlong) ⟨e,?_⟩⟩)
  rw [hnew]
  exact⟨.ref _,_,I.qPl (t':=s.toks) (r.rep k.toNat) (by rw [len_rep,Nat.mul_comm];exact hz),rfl,q _ I.fresh⟩
end
end L2
namespace Att
open PySem PySem.W PySem.Calls PyProof.Rows
theorem qDZ {P:Params} {h:Heap}:∀ (ns:List Int) (vs:List Value),WellAll P h vs (ns.map WData.int)→IntsAre vs ns:=by
  intro ns
  induction ns with
  | nil =>
    intro vs w
    rw [List.map_nil] at w
    cases w
    exact .nil
  | cons n ns ih =>
    intro vs w
    rw [List.map_cons] at w
    cases w with
    | cons a b =>
      cases a
      exact .cons _ _ (ih _ b)
theorem qIq {l:OpenLaw} {n:Nat} (hn:l.most=some n) {P:Params} {h:Heap} {args:List WData} {vals:List Value}
    (hpre:l.row.toRowW.claim.pre args=true) (hwl:WellAll P h vals args) :
    ∃ a vs ns,vals=[Value.ref a]∧args=[WData.list (ns.map WData.int)]∧h.get? a=some { cls:=.type "list",data:=.seq vs.toArray }∧IntsAre vs ns∧ns.length≤n:=by
  have hsh:WShape.hasAll [] args [.list .int]=true:=(pre_splitW hpre).1
  have hc:l.pre.holds [] { args:=args }=true:=(pre_splitW hpre).2
  obtain⟨d,r,rfl,h1,h2⟩:=hasAllW_cons hsh
  obtain rfl:=hasAllW_nil h2
  obtain⟨xs,rfl,h3⟩:=hasW_list h1
  obtain⟨ns,rfl⟩:=items_int h3
  have hlen:ns.length≤n:=by
    unfold OpenLaw.pre at hc
    have h4:(WTm.not (.lt (.lit (.int (n:Int))) (.len (.arg 0)))).holds [] { args:=[.list (ns.map .int)] }=true:=by
      have h4:=(holds_andW hc).1
      rw [hn] at h4
      exact h4
    have h5:=condW_of h4 (w_not (w_lt w_lit (w_len_list (w_arg rfl))))
    rw [List.length_map] at h5
    refine Nat.le_of_not_lt fun q=>?_
    have q':(n:Int)<((ns.length:Nat):Int):=by omega
    first
      | (rw [decide_eq_true q'] at h5;exact absurd h5 (by decide))
      | (simp at h5;omega)
  cases hwl with
  | cons w1 w2 =>
    cases w2
    cases w1 with
    | list ho hall=>exact⟨_,_,ns,rfl,rfl,ho,qDZ ns _ hall,hlen⟩
theorem qIg (l:OpenLaw) (args:List WData):l.row.toRowW.claim.post args (.bool true) args=true :=
  postW_of (r:=l.row.toRowW) (X:=(true==true))
    (show WShape.has [] (.bool true) .bool=true by first | rfl | decide | simp [WShape.has,WShape.arms,WShape.armsAll])
    (show (WTm.eq .res (.lit (.bool true))).value [] { args:=args,res:=some (.bool true),after:=args }=some (.bool (true==true)) from w_eq_bool (w_res rfl) w_lit) rfl
theorem qG2 {l:OpenLaw} {n:Nat} {q:Program} {loose:List Str} {XP:(Str→Option Value)→Heap→Prop} {YP:World→Heap→Prop} {d:DefRec}
    (hn:l.most=some n) (hdf:d.params.defaults=[])
    (call:∀ (w:World) (s₀ s₁:Shared) (mg mb:Str→Option Value) (fa:Addr) (o:Obj) (pm cd doc:Value) (a:Addr) (vs:List Value) (ns:List Int),
      Ground q loose [] XP w s₀ mg mb s₁.heap→YP w s₁.heap →
      s₁.heap.get? fa=some o→o.data = .func (docDef d.name d.params d.body d.scope pm cd doc)→s₁.heap.CodeRec cd d.name→mg d.name=some (.ref fa) →
      s₁.heap.get? a=some { cls:=.type "list",data:=.seq vs.toArray }→IntsAre vs ns→ns.length≤n→s₁.gens=#[] →
      codeAny (model l.prog w) callerA (.call (.ref fa) ⟨[.ref a],[]⟩) (fun r s'=>r = .ok (.ret (.bool true))∧OldK s₁.heap s'.heap∧s'.os=s₁.os∧AllBare s'.gens) s₁) :
    WalkO q loose XP YP l.row.toRowW d [] (fun f vs=>PySem.call f vs):=by
  intro w s₀ s₁ mg mb G Y fa o pm cd doc dV kV ho hd hcd hD hmg hg args vals as hpre hlay hrd hwl hlo
  obtain rfl:dV = .none:=Dflts.none hD hdf
  obtain rfl:kV = .none:=Dflts.noKw hD
  obtain⟨a,vs,ns,rfl,rfl,hobj,hints,hlen⟩:=qIq hn hpre hwl
  refine enter_call (codeAny_mono (call w s₀ s₁ mg mb fa o pm cd doc a vs ns G Y ho (fd_plain hd) hcd hmg hobj hints hlen hg) fun r s' hq=>?_)
  obtain⟨rfl,h2,h3,h4⟩:=hq
  exact⟨.inl ⟨.bool true,.bool true,[],rfl,fun _=>rfl,.bool true,qIg l _,fun _=>⟨List.Pairwise.nil,fun _ hm=>(nomatch hm)⟩⟩,h2,h3,h4⟩
end Att
namespace L2
open PySem PySem.Spec PyProof.Rows
theorem qEy:∀ {vs:List Value} {ns:List Int},IntsAre vs ns→Vals (ns.map V.int) vs
  | _,_,.nil=>.nil
  | _,_,.cons n t h=>.cons ⟨t,rfl⟩ (qEy h)
def qNa (H:Hp):Prop:=∀ b,H b=none∨∃ o xs,H b=some (.frz o (.lst xs))
theorem qJm {P:Program} {w:World} {K:W.Frag} {mg mb:Str→Option Value} {CX:CXT} {k:Nat} {fa a:Addr} {fd:FuncData} {x:Str} {sp:Sp} {s₁:Shared} {vs:List Value} {ns:List Int}
    (KX:K.In s₁.heap) (hns:s₁.heap.Ns mainGlobals mg) (hb:s₁.heap.Ns builtinsNs mb) (hbb:∀ x:Str,x ≠ "__name__" → mb x=bootBuiltins x) (hlim:s₁.heap.NoLimit) (hg:s₁.gens=#[])
    (ha:s₁.heap.get? a=some { cls:=.type "list",data:=.seq vs.toArray }) (hi:IntsAre vs ns) (hl:ns.length≤sizeLine) (hr:qAh k callerA)
    (F:∀ base:Heap,K.In base→base.Ns mainGlobals mg→qv P w K mg base CX k fa fd [x] sp) (hbind:∀ (s:Shared) (u:Value),BindsTo s fd ⟨[u],[]⟩ [(x,u)])
    (hsp:∀ H:Hp,qNa H→SqL K H a (ns.map V.int)→sp [.ref a] H (fun v _=>v = .bl true) fun _ _ _=>False)
    (hCX:∀ H e s',CX [] H s₁ (fun _ _ _=>False) e s'→False) :
    codeAny (model P w) callerA (.call (.ref fa) ⟨[.ref a],[]⟩) (fun r s'=>r = .ok (.ret (.bool true))∧OldK s₁.heap s'.heap∧s'.os=s₁.os∧AllBare s'.gens) s₁:=by
  have rv:=qEy hi
  have lenV:=hi.length
  -- from an abstract heap in which nothing but the script may be tracked
  have core : ∀ H:Hp,qNa H→SqL K H a (ns.map V.int)→HOk P w H s₁.heap→(∀ b,H b≠none→b=a)→(H a≠none→K.lookup a=none) →
      codeAny (model P w) callerA (.call (.ref fa) ⟨[.ref a],[]⟩) (fun r s'=>r = .ok (.ret (.bool true))∧OldK s₁.heap s'.heap∧s'.os=s₁.os∧AllBare s'.gens) s₁:=by
    intro H hO hS hok hA hK
    have base_of:∀ {b:Addr} {o:Obj},s₁.heap.get? b=some o→H b=none→(qFk s₁.heap H).get? b=some o:=fun e n=>qKz e n
    have noA:∀ {b:Addr} {o:Obj} {es:Array DictEntry} {ep:Nat},s₁.heap.get? b=some o→o.data = .dict es ep→H b=none:=fun {b o es ep} e d=>by
      cases q:H b with
      | none=>rfl
      | some u =>
        have e':b=a:=hA b (by rw [q];simp)
        subst e'
        rw [ha] at e;cases e
        have d':Data.seq vs.toArray _=Data.dict es ep:=d
        cases d'
    have nsK:∀ {b:Addr} {m:Str→Option Value},s₁.heap.Ns b m→(qFk s₁.heap H).Ns b m:=fun {b m} ⟨o,es,ep,e,d,r⟩=>⟨o,es,ep,base_of e (noA e d),d,r⟩
    have hKb:K.In (qFk s₁.heap H):=fun b o e=>base_of (KX b o e) (by
      cases q:H b with
      | none=>rfl
      | some u =>
        have e':b=a:=hA b (by rw [q];simp)
        subst e'
        rw [hK (by rw [q];simp)] at e;cases e)
    have hM:Mod K mg (qFk s₁.heap H):=⟨hKb,nsK hns,⟨mb,nsK hb,hbb⟩,let ⟨mc,h1,h2⟩:=hlim;⟨mc,nsK h1,h2⟩⟩
    have e0:qHh P w K mg (qFk s₁.heap H) callerA [] s₁ H:=⟨rfl,hM,fun b o e=>qLq e,Nat.le_of_eq (qI9 _ _),trivial,fun b hb=>absurd (show b∈([]:List Addr) from hb) (by simp),hok,.of_eq hg⟩
    refine codeAny_mono ((F _ hKb (nsK hns)).run callerA [] s₁ H ⟨[.ref a],[]⟩ [.ref a] [.ref a] _ _ hr e0 (hbind s₁ (.ref a)) (.cons rfl .nil) (hsp H hO hS)) fun r s' h=>?_
    cases r with
    | error e=>exact (hCX H e s' h).elim
    | ok fl =>
      cases fl with
      | next=>exact False.elim h
      | brk=>exact False.elim h
      | cont=>exact False.elim h
      | ret u =>
        obtain⟨v,H',os,bare,un,hok',r',q⟩:=h
        have q':v = .bl true:=q
        subst q'
        obtain rfl:u=Value.bool true:=r'
        refine⟨rfl,OldK.of_keep fun b o e=>?_,os,bare⟩
        cases q:H b with
        | none=>exact un.keep b o e q (by intro z;exact absurd (show b∈([]:List Addr) from z) (by simp)) (by simp)
        | some u =>
          rcases hO b with z | ⟨ob,xs,z⟩
          · rw [q] at z;cases z
          · have z2:=un.frzs b ob _ z
            obtain⟨e1,_⟩:=hok b _ z
            obtain⟨e2,_⟩:=hok' b _ z2
            rw [e] at e1;cases e1
            exact e2
  cases hk:K.lookup a with
  | some o =>
    -- the script is one of the module's own objects
    have e:=KX a o hk
    rw [ha] at e
    cases e
    refine core (fun _=>none) (fun _=>.inl rfl) (.inr ⟨_,vs.toArray,_,hk,rfl,rfl,rfl,by rw [List.size_toArray,lenV];exact hl,by simpa using rv⟩) (fun b u z=>by have z':(none:Option HO)=some u:=z;cases z') (fun b z=>absurd rfl z) fun z=>absurd rfl z
  | none =>
    refine core (fun b=>if b=a then some (.frz { cls:=.type "list",data:=.seq vs.toArray } (.lst (ns.map V.int))) else none) (fun b=>?_) (.inl (.inr ⟨{ cls:=.type "list",data:=.seq vs.toArray },if_pos rfl⟩)) (fun b u z=>?_) (fun b z=>?_) fun _=>hk
    · by_cases hb:b=a
      · exact .inr ⟨_,_,if_pos hb⟩
      · exact .inl (if_neg hb)
    · by_cases hb:b=a
      · have z':=(if_pos hb).symm.trans z
        cases z'
        subst hb
        exact⟨ha,by rw [List.length_map];exact hl,vs,_,rv,ha⟩
      · have z':=(if_neg hb).symm.trans z
        cases z'
    · by_cases hb:b=a
      · exact hb
      · exact absurd (if_neg hb) z
end L2
namespace L2
open PySem PySem.Spec PyProof.Rows
theorem qMC {l:W.OpenLaw} {n k:Nat} {q:Program} {loose:List Str} {XP:(Str→Option Value)→Heap→Prop} {YP:World→Heap→Prop} {d:DefRec} {K:Params→W.Frag} {CX:World→CXT} {sp:World→Sp} {x:Str}
    (hn:l.most=some n) (hn2:n≤sizeLine) (hdf:d.params.defaults=[]) (hr:qAh k callerA)
    (hY:∀ (w:World) (h:Heap),YP w h→(K w.params).In h)
    (F:∀ (w:World) (mg:Str→Option Value) (fa:Addr) (h:Heap),(K w.params).In h→h.Ns mainGlobals mg→mg d.name=some (.ref fa) →
      ∃ fd:FuncData,(∀ (s:Shared) (u:Value),BindsTo s fd ⟨[u],[]⟩ [(x,u)]) ∧
        ∀ base:Heap,(K w.params).In base→base.Ns mainGlobals mg→qv l.prog w (K w.params) mg base (CX w) k fa fd [x] (sp w))
    (hsp:∀ (w:World) (H:Hp) (a:Addr) (ns:List Int),ns.length≤n→qNa H→SqL (K w.params) H a (ns.map V.int)→sp w [.ref a] H (fun v _=>v = .bl true) fun _ _ _=>False)
    (hCX:∀ (w:World) (H:Hp) (s:Shared) (e:Value) (s':Shared),CX w [] H s (fun _ _ _=>False) e s'→False) :
    W.WalkO q loose XP YP l.row.toRowW d [] (fun f vs=>PySem.call f vs):=by
  refine Att.qG2 hn hdf fun w s₀ s₁ mg mb fa o pm cd doc a vs ns G Y ho hd hcd hmg hobj hints hlen hg=>?_
  have KX:=hY w _ Y
  obtain⟨fd,hb,hF⟩:=F w mg fa _ KX G.T.g hmg
  exact qJm KX G.T.g G.T.b G.T.builtins G.T.nolimit hg hobj hints (Nat.le_trans hlen hn2) hr hF hb (fun H hO hS=>hsp w H a ns hlen hO hS) fun H e s'=>hCX w H s₁ e s'
end L2
namespace L2
open PySem PySem.Spec PyProof.Rows
noncomputable def qAZ (s:Stmt):Arguments:=match s with
  | .FunctionDef _ a _ _ _ _ _ _ _ _=>a
  | _=>{ posonlyargs:=[],args:=[],vararg:=none,kwonlyargs:=[],kw_defaults:=[],kwarg:=none,defaults:=[] }
noncomputable def qAJ (s:Stmt):List Stmt:=match s with
  | .FunctionDef _ _ b _ _ _ _ _ _ _=>b
  | _=>[]
noncomputable def qL (s:Stmt):Scope:=match s with
  | .FunctionDef _ _ _ _ _ _ sc _ _ _=>sc
  | _=>{ kind:=.function,names:=[],isGenerator:=false,isCoroutine:=false }
noncomputable abbrev CX0:CXT:=fun _ _ _ _ _ _=>False
noncomputable abbrev E0:XK:=fun _ _ _=>False
theorem qMM {X:Cx}:Passes CX0 X E0:=fun _ _ _ _ _ _ _ h=>h.elim
structure Fun (K:W.Frag) (x qual:Str) (st:Stmt) (f:Addr) (fd:FuncData):Prop where
  ex:∃ (oc:Value) (od:Option Addr) (kV doc pm:Value) (an:Option Addr) (cdv ct:Value) (osl:Array (Option Value)),
    fd=W.fnOf x qual (qAZ st) (qAJ st) (qL st) .none kV doc pm an cdv ct∧K.lookup f=some ⟨oc,od,.func fd,osl⟩∧W.codeIn K cdv qual=true
  kp:W.keepIn K (.ref f)=true
section
variable {P:Program} {w:World} {K:W.Frag} {mg:Str→Option Value} {base:Heap}
theorem Fun.ok {x qual:Str} {st:Stmt} {f:Addr} {fd:FuncData} {N ps:List Str} {k:Nat} {sp:Sp} (F:Fun K x qual st f fd) (S:qR N ps (qL st)) (len:∀ vs H Q E,sp vs H Q E→vs.length=ps.length)
    (hbody:∀ (cdv:Value) (A:Around) (outer:List Env) (s:Shared) (H:Hp) (vs:List V) (Q:VK) (E:XK),qAh k (A.deeper (envOfC qual (qL st) s.heap.objs.size f cdv))→sp vs H Q E →
      ∃ t,PSs (qF4 CX0 P w K mg base N qual (qL st) f cdv A outer s H E).nox (qAJ st) t∧t { nx:=fun _ H'=>Q .non H',rt:=Q } (start N vs) H):qv P w K mg base CX0 (k+1) f fd ps sp:=by
  k_dat 0"r36"
  refine qMg lk hcd S len fun A outer s H vs Q E hr hsp=>?_
  obtain⟨t,h,q⟩:=hbody cdv A outer s H vs Q E hr hsp
  exact⟨t,h.nox,q⟩
theorem Fun.binds {x qual:Str} {st:Stmt} {f:Addr} {fd:FuncData} {ps:List Str} (F:Fun K x qual st f fd)
    (h:∀ (kV doc pm:Value) (an:Option Addr) (cdv ct:Value) (us:List Value),us.length=ps.length→bindArgs (W.fnOf x qual (qAZ st) (qAJ st) (qL st) .none kV doc pm an cdv ct) ⟨us,[]⟩=pure (ps.zip us)):Binds K fd ps []:=by
  k_dat 0"r36"
  exact .all (h kV doc pm an cdv ct)
theorem qJi {x qual:Str} {st:Stmt} {f:Addr} {oc:Value} {od an:Option Addr} {osl:Array (Option Value)} {kV doc pm cdv ct:Value} (l:K.lookup f=some ⟨oc,od,.func (W.fnOf x qual (qAZ st) (qAJ st) (qL st) .none kV doc pm an cdv ct),osl⟩)
    (c:W.codeIn K cdv qual=true) (k:W.keepIn K (.ref f)=true):Fun K x qual st f (W.fnOf x qual (qAZ st) (qAJ st) (qL st) .none kV doc pm an cdv ct):=⟨⟨oc,od,kV,doc,pm,an,cdv,ct,osl,rfl,l,c⟩,k⟩
end
theorem qAS {n:Nat} (h:n≤1000):n<sizeLine:=Nat.lt_of_le_of_lt h (by decide)
theorem qAt {A B:Prop} (h:B):if false=true then A else B:=by
  rw [if_neg Bool.false_ne_true]
  exact h
theorem qAo {A B:Prop} (h:A):if true=true then A else B:=by
  rw [if_pos rfl]
  exact h
def qPS (H H':Hp):Prop:=∀ b o,H b=some o→H' b=some o
theorem qPS.free {H H':Hp} (e:qPS H H') {l:Addr} (h:H' l=Option.none):H l=Option.none:=by
  cases q:H l with
  | none=>rfl
  | some o =>
    rw [e l o q] at h
    cases h
end L2
namespace L2
open PySem PySem.Spec PyProof.Rows
section
variable {κ:Type} [DecidableEq κ]
noncomputable def qBG (kvs:List (κ×V)) (k:κ):Option V:=(kvs.find? fun kv=>decide (kv.1=k)).map (·.2)
noncomputable def putK (kvs:List (κ×V)) (k:κ) (v:V):List (κ×V) :=
  if (kvs.any fun kv=>decide (kv.1=k))=true then kvs.map (fun kv=>if kv.1=k then (kv.1,v) else kv) else kvs++[(k,v)]
theorem qKj {k:κ}:qBG ([]:List (κ×V)) k=none:=rfl
theorem qGX {p:κ×V} {r:List (κ×V)} {k:κ} (e:p.1=k):qBG (p::r) k=some p.2:=by simp [qBG,List.find?_cons,e]
theorem qGN {p:κ×V} {r:List (κ×V)} {k:κ} (e:¬ p.1=k):qBG (p::r) k=qBG r k:=by simp [qBG,List.find?_cons,e]
theorem qGe (kvs:List (κ×V)) (k:κ) (v:V):(putK kvs k v).length≤kvs.length+1:=by
  unfold putK
  split
  · rw [List.length_map];omega
  · rw [List.length_append,List.length_cons,List.length_nil];omega
theorem qEY.getD {o:Option V} {u:Option Value} {d:V} {d':Value} (r:qEY o u) (rd:RelV d d'):RelV (o.getD d) (u.getD d'):=by
  cases o with
  | none=>cases u with
    | none=>exact rd
    | some _=>exact (show False from r).elim
  | some _=>cases u with
    | none=>exact (show False from r).elim
    | some _=>exact r
theorem KV.val {kvs:List (κ×V)} {vs:List (κ×Value)} (r:KV kvs vs) (k:κ):qEY (qBG kvs k) (valueAt vs k):=by
  unfold KV at r
  induction r with
  | nil=>exact True.intro
  | @cons p q ps qs h t ih =>
    obtain⟨h1,h2⟩:=h
    by_cases e:p.1=k
    · have e':q.1=k:=h1.symm.trans e
      have b:valueAt (q::qs) k=some q.2:=by simp [valueAt,List.find?_cons,e']
      rw [qGX e,b];exact h2
    · have e':¬ q.1=k:=fun z=>e (h1.trans z)
      have b:valueAt (q::qs) k=valueAt qs k:=by simp [valueAt,List.find?_cons,e']
      rw [qGN e,b];exact ih
theorem KV.any {kvs:List (κ×V)} {vs:List (κ×Value)} (r:KV kvs vs) (k:κ):(kvs.any fun kv=>decide (kv.1=k))=vs.any fun kv=>decide (kv.1=k):=by
  unfold KV at r
  induction r with
  | nil=>rfl
  | cons h t ih=>rw [List.any_cons,List.any_cons,ih,h.1]
theorem KV.repl {kvs:List (κ×V)} {vs:List (κ×Value)} (r:KV kvs vs) (k:κ) {y:V} {u:Value} (ry:RelV y u) :
    KV (kvs.map fun kv=>if kv.1=k then (kv.1,y) else kv) (vs.map fun kv=>if kv.1=k then (kv.1,u) else kv):=by
  unfold KV at r ⊢
  induction r with
  | nil=>exact .nil
  | @cons p q ps qs h t ih =>
    rw [List.map_cons,List.map_cons]
    refine .cons ?_ ih
    obtain⟨h1,h2⟩:=h
    by_cases e:p.1=k
    · rw [if_pos e,if_pos (h1.symm.trans e)];exact⟨h1,ry⟩
    · rw [if_neg e,if_neg (fun z=>e (h1.trans z))];exact⟨h1,h2⟩
theorem KV.put {kvs:List (κ×V)} {vs:List (κ×Value)} (r:KV kvs vs) (k:κ) {y:V} {u:Value} (ry:RelV y u):KV (putK kvs k y) (stored vs k u):=by
  unfold putK stored
  rw [r.any k]
  by_cases e:(vs.any fun kv=>decide (kv.1=k))=true
  · rw [if_pos e,if_pos e];exact r.repl k ry
  · rw [if_neg e,if_neg e];exact Paired.snoc r ⟨rfl,ry⟩
end
theorem qKp {P:Program} {w:World} {k:Key} {u:Value} (r:RelV (kV k) u):(qAW P w).is k u=true:=by
  cases k with
  | inl i=>obtain⟨t,e⟩:=(show ∃ t,u=Value.int i t from r);subst e;exact qGW P w i t
  | inr x=>obtain⟨t,e⟩:=(show ∃ t,u=Value.str x t from r);subst e;exact qGK P w x t
theorem qEq {P:Program} {w:World}:∀ {ks:List Key} {us:List Value},Vals (ks.map kV) us→ItemsAre (qAW P w) ks us
  | [],_,r=>by rw [List.map_nil] at r;cases r;exact .nil
  | k::ks,_,r=>by
    rw [List.map_cons] at r
    cases r with
    | cons h t=>exact .cons (qKp h) (qEq t)
noncomputable abbrev KT (H:Hp):List (List Key×V)→List (List Key×Addr×Value)→Prop:=Paired fun p q=>p.1=q.1∧H q.2.1=some (.tup (p.1.map kV))∧RelV p.2 q.2.2
theorem KT.val {H:Hp} {kvs:List (List Key×V)} {xs:List (List Key×Addr×Value)} (r:KT H kvs xs) (k:List Key):qEY (qBG kvs k) ((atKey xs k).map (·.2)):=by
  induction r with
  | nil=>exact True.intro
  | @cons p q ps qs h t ih =>
    obtain⟨h1,_,h2⟩:=h
    by_cases e:p.1=k
    · have e':q.1=k:=h1.symm.trans e
      have b:atKey (q::qs) k=some q.2:=by simp [atKey,List.find?_cons,e']
      rw [qGX e,b];exact h2
    · have e':¬ q.1=k:=fun z=>e (h1.trans z)
      have b:atKey (q::qs) k=atKey qs k:=by simp [atKey,List.find?_cons,e']
      rw [qGN e,b];exact ih
theorem KT.keeps {H H':Hp} {kvs:List (List Key×V)} {xs:List (List Key×Addr×Value)} (r:KT H kvs xs) (ht:∀ b ys,H b=some (.tup ys)→H' b=some (.tup ys)):KT H' kvs xs :=
  Paired.qNR r fun _ _ z=>⟨z.1,ht _ _ z.2.1,z.2.2⟩
section
variable {P:Program} {w:World} {H:Hp} {h:Heap} {a:Addr}
theorem qMY {u:HO} (ok:HOk P w H h) (e:Rd H a u):qAc P w H h a u:=e.ok ok
theorem qKI {kvs:List (Key×V)} (ok:HOk P w H h) (e:Rd H a (.dK kvs)):kvs.length≤sizeLine∧(a==sysModules)=false∧∃ vs,KV kvs vs∧h.DictOf (qAW P w) a vs :=
  show qAc P w H h a (.dK kvs) from qMY ok e
theorem qO3 {kvs:List (Key×V)} (ok:HOk P w H h) (e:H a=some (.dK kvs)):kvs.length≤sizeLine∧(a==sysModules)=false∧∃ vs,KV kvs vs∧h.DictOf (qAW P w) a vs:=qKI ok (.inl e)
theorem qFp {ks:List Key} (ok:HOk P w H h) (e:H a=some (.tup (ks.map kV))):(tupleKind (qAW P w)).is h ks a:=by
  obtain⟨_,its,r,o,h1,⟨h2,_⟩,n,h3⟩:=(show qAc P w H h a (.tup (ks.map kV)) from ok a _ e)
  exact⟨o,its.toArray,n,h1,h2,h3,by simpa using qEq r⟩
theorem qMk {kvs:List (List Key×V)} (ok:HOk P w H h) (e:Rd H a (.dT kvs)):kvs.length≤sizeLine∧(a==sysModules)=false ∧
    ∃ xs,KT H kvs xs∧h.DictOfH (tupleKind (qAW P w)) a xs:=by
  obtain⟨z,y,xs,r,o,es,ep,h1,h2,h3,h4,h5⟩:=(show qAc P w H h a (.dT kvs) from qMY ok e)
  refine⟨z,y,xs,r,o,es,ep,h1,h2,h3,h4,fun x hx=>?_,h5⟩
  have all:∀ {l:List (List Key×V)} {m:List (List Key×Addr×Value)},KT H l m→∀ x∈m,(tupleKind (qAW P w)).is h x.1 x.2.1:=by
    intro l m q
    induction q with
    | nil=>intro x hx;exact nomatch hx
    | @cons p q ps qs hq t ih =>
      intro x hx
      rcases List.mem_cons.mp hx with e | hx
      · subst e
        exact qFp ok (by rw [← hq.1];exact hq.2.1)
      · exact ih x hx
  exact all r x hx
end
def qGv (H:Hp) (a:Addr) (y:V) (r:Option V):Prop :=
  (∃ kvs k,Rd H a (.dK kvs)∧y=kV k∧r=qBG kvs k)∨∃ kvs k b,Rd H a (.dT kvs)∧y = .ref b∧H b=some (.tup (k.map kV))∧r=qBG kvs k
def qPN (H:Hp) (a:Addr) (y v:V) (H':Hp):Prop :=
  (∃ kvs k,H a=some (.dK kvs)∧y=kV k∧kvs.length<sizeLine∧H'=upd H a (.dK (putK kvs k v))) ∨
  ∃ kvs k b,H a=some (.dT kvs)∧y = .ref b∧H b=some (.tup (k.map kV))∧kvs.length<sizeLine∧H'=upd H a (.dT (putK kvs k v))
theorem qGv.k {H:Hp} {a:Addr} {kvs:List (Key×V)} {k:Key} (e:H a=some (.dK kvs)):qGv H a (kV k) (qBG kvs k):=.inl ⟨kvs,k,.inl e,rfl,rfl⟩
theorem qGv.t {H:Hp} {a b:Addr} {kvs:List (List Key×V)} {k:List Key} (e:H a=some (.dT kvs)) (eb:H b=some (.tup (k.map kV))):qGv H a (.ref b) (qBG kvs k):=.inr ⟨kvs,k,b,.inl e,rfl,eb,rfl⟩
theorem qPN.t {H:Hp} {a b:Addr} {kvs:List (List Key×V)} {k:List Key} {v:V} (e:H a=some (.dT kvs)) (eb:H b=some (.tup (k.map kV))) (hl:kvs.length<sizeLine) :
    qPN H a (.ref b) v (upd H a (.dT (putK kvs k v))):=.inr ⟨kvs,k,b,e,rfl,eb,hl,rfl⟩
section
variable {X:Cx} {pins:List (Addr×Obj)} {σ:St} {H:Hp} {s:Shared} {a:Addr} {y v:V} {u r:Value} {o:Option V} {A:Around} {E:Value→Shared→Prop}
theorem Inv.big (I:Inv X pins σ H s):sysModules<s.heap.objs.size:=by
  have h:mainGlobals<s.heap.objs.size:=(I.mod.glob.keeps I.bk).lt
  exact Nat.lt_trans (by decide) h
theorem qIm {Q:Value→Shared→Prop} (hu:A.units+1<cLine) (I:Inv X pins σ H s) (g:qGv H a y (some v)) (ry:RelV y u) (h:∀ w' s',Inv X pins σ H s'→RelV v w'→Q w' s') :
    wpAny (model X.prog X.w) A (getItem (.ref a) u) Q E s:=by
  rcases g with ⟨kvs,k,e,ey,l⟩ | ⟨kvs,k,b,e,ey,eb,l⟩
  · subst ey
    obtain⟨z,hd,vs,rel,dd⟩:=qKI I.hok e
    obtain⟨w',hw,rw'⟩:=qEY.some_of (v:=v) (o:=valueAt vs k) (by rw [l];exact rel.val k)
    exact wpAny_getItem_of (qKp ry) dd.mapOf hw (h w' _ (I.tok _) rw')
  · subst ey
    cases (show u=Value.ref b from ry)
    obtain⟨z,hd,xs,rel,dd⟩:=qMk I.hok e
    obtain⟨w',hw,rw'⟩:=qEY.some_of (v:=v) (o:=(atKey xs k).map (·.2)) (by rw [l];exact rel.val k)
    obtain⟨p,hp,hp2⟩:=Option.map_eq_some_iff.mp hw
    refine wpAny_getItem_heap (tupleKind_room_in1 hu) (qFp I.hok eb) dd hp ?_
    rw [hp2]
    exact h w' _ (I.tok _) rw'
theorem qLE {h':Heap} {t':Nat} {ob:HO} (I:Inv X pins σ H s) (mu:Mut (H a)) (hs:Heap.SameBut a s.heap h') (he:∃ q,h'.get? a=some q) (new:qAc X.prog X.w (upd H a ob) h' a ob) :
    Inv X pins σ (upd H a ob) { s with heap:=h',toks:=t' } :=
  I.write (x:=a) (e:=a) mu (.inl rfl) (fun b q hb z=>(hs.2 b hb).trans z) he new
theorem qOc {P:Program} {w:World} {H':Hp} {h':Heap} {kvs:List (Key×V)} {vs:List (Key×Value)} (z:kvs.length≤sizeLine) (hd:(a==sysModules)=false) (rel:KV kvs vs) (dd:h'.DictOf (qAW P w) a vs) :
    qAc P w H' h' a (.dK kvs):=⟨z,hd,vs,rel,dd⟩
end
def qIn (i:Expr):Prop:=∀ ov iv,subscripted i false ov iv=operate [ov,iv] (getItem ov iv)
theorem qIS {prog:Program} {w:World} {A:Around} {E:Value→Shared→Prop} {s:Shared} {env:Env} {value slice:Expr} {pos:Pos} {T id:String} {Q:Value→Shared→Prop}
    (hl:typeLookup (.type T) "__getitem__" = pure (some (.builtin id))) (hs:qIn slice)
    (h:wpAny (model prog w) A (eval value env) (fun o s₁=>wpAny (model prog w) A (eval slice env) (fun i s₂=>s₂.TypeIs o T∧wpAny (model prog w) A (getItem o i) Q E s₂) E s₁) E s) :
    wpAny (model prog w) A (eval (.Subscript value slice pos) env) Q E s:=by
  refine Subscript_ (wpAny_mono h (fun o s₁ h₁=>wpAny_mono h₁ (fun i s₂ h₂=>?_) fun _ _ x=>x) fun _ _ x=>x)
  obtain⟨hT,h₂⟩:=h₂
  unfold subscriptTail
  refine wpAny_bind ?_
  rw [getitemInPython_of_ne hT.not_modules]
  refine wpAny_bind (wpAny_specialOf hT hl ?_)
  have fin:wpAny (model prog w) A (subscripted slice false o i) (fun r s₃=>wpAny (model prog w) A (letTemporaryGo value o r >>= fun _=>pure r) Q E s₃) E s₂:=by
    rw [hs o i]
    exact wpAny_operating (wpAny_mono h₂ (fun r s₃ h₃=>wpAny_bind (wpAny_letTemporaryGo (wpAny_pure h₃))) fun _ _ x=>x)
  first
    | exact wpAny_pure (wpAny_bind fin)
    | exact wpAny_bind (wpAny_pure (wpAny_bind fin))
    | exact wpAny_bind fin
theorem qGP {X:Cx} {pins:List (Addr×Obj)} {σ:St} {H:Hp} {s:Shared} {a:Addr} {y:V} {o:Option V} (I:Inv X pins σ H s) (g:qGv H a y o):s.TypeIs (.ref a) "dict":=by
  rcases g with ⟨kvs,k,e,_,_⟩ | ⟨kvs,k,b,e,_,_,_⟩
  · obtain⟨_,_,vs,_,dd⟩:=qKI I.hok e
    exact dd.typeIs
  · obtain⟨_,_,xs,_,dd⟩:=qMk I.hok e
    exact dd.typeIs
noncomputable def qP0 (td ty:TE):TE:=fun σ H Q=>td σ H fun x H1=>ty σ H1 fun y H2=>∃ a v,x = .ref a∧qGv H2 a y (some v)∧Q v H2
section
variable {X:Cx} {o i e value:Expr} {pos pos' tpos:Pos} {td ty tv:TE}
theorem qLX (hu:X.A.units+1<cLine) (ho:PE X o td) (hi:PE X i ty) (hs:qIn i):PE X (.Subscript o i pos) (qP0 td ty):=by
  k_dat 0"r1"
  refine qIS PySem.F.slot_dict_getitem.lookup hs (thn (ho pins s σ H _ I h) fun u s1 ⟨x,H1,I1,rx,q1⟩=>thn (hi pins s1 σ H1 _ I1 q1) fun iv s2 ⟨y,H2,I2,ry,a,v,ex,g,q2⟩=>?_)
  subst ex
  obtain rfl:u=Value.ref a:=rx
  exact⟨qGP I2 g,qIm hu I2 g ry fun w' s3 I3 rw'=>⟨v,H2,I3,rw',q2⟩⟩
end
theorem qJR {P:Program} {w:World} {H:Hp} (h:Heap) (hb:sysModules<h.objs.size):qAc P w H (h.push { cls:=.type "dict",data:=.dict #[] }) h.objs.size (.dK []) :=
  ⟨Nat.zero_le _,beq_eq_false_iff_ne.mpr (Ne.symm (Nat.ne_of_lt hb)),[],.nil,Heap.DictOf.new h⟩
noncomputable def qFO:List (TE×TE)→St→Hp→(List (V×V)→Hp→Prop)→Prop
  | [],_,H,Q=>Q [] H
  | (tk,tv)::r,σ,H,Q=>tk σ H fun x H1=>tv σ H1 fun y H2=>qFO r σ H2 fun ps H3=>Q ((x,y)::ps) H3
noncomputable abbrev VV:List (V×V)→List (Value×Value)→Prop:=Paired fun p q=>RelV p.1 q.1∧RelV p.2 q.2
def PPs (X:Cx) (pos:Pos) (keys:List (Option Expr)) (values:List Expr) (trs:List (TE×TE)):Prop :=
  ∀ (pins:List (Addr×Obj)) (s:Shared) (σ:St) (H:Hp) (Q:List (V×V)→Hp→Prop),Inv X pins σ H s→qFO trs σ H Q →
    wpAny (model X.prog X.w) X.A (evalPairs (pairTrees keys values X.env pos)) (fun vs s'=>∃ ps H',Inv X pins σ H' s'∧VV ps vs∧Q ps H') X.xe s
theorem qMI {X:Cx} {pos:Pos}:PPs X pos [] [] []:=fun pins s σ H Q I h=>pairTrees_nil_walk ⟨[],H,I,.nil,h⟩
theorem qKn {X:Cx} {pos:Pos} {k v:Expr} {ks:List (Option Expr)} {vs:List Expr} {tk tv:TE} {trs:List (TE×TE)} (hk:PE X k tk) (hv:PE X v tv) (hr:PPs X pos ks vs trs) :
    PPs X pos (some k::ks) (v::vs) ((tk,tv)::trs):=fun pins s σ H Q I h =>
  pairTrees_cons_walk (thn (hk pins s σ H _ I h) fun u s1 ⟨x,H1,I1,rx,q1⟩=>thn (hv pins s1 σ H1 _ I1 q1) fun w2 s2 ⟨y,H2,I2,ry,q2⟩ =>
    thn (hr pins s2 σ H2 _ I2 q2) fun ws s3 ⟨ps,H3,I3,rel,q3⟩=>⟨(x,y)::ps,H3,I3,.cons ⟨rx,ry⟩ rel,q3⟩)
noncomputable def qCS (kvs more:List (Key×V)):List (Key×V):=more.foldl (fun acc kv=>putK acc kv.1 kv.2) kvs
theorem KV.merge:∀ {more:List (Key×V)} {rs:List (Key×Value)} {kvs:List (Key×V)} {vs:List (Key×Value)},KV more rs→KV kvs vs→KV (qCS kvs more) (merged vs rs):=by
  intro more rs kvs vs r
  unfold KV at r
  induction r generalizing kvs vs with
  | nil=>intro q;exact q
  | @cons p q ps qs h t ih =>
    intro r0
    have e:KV (putK kvs p.1 p.2) (stored vs q.1 q.2):=by
      have:=r0.put p.1 h.2
      rw [← h.1];exact this
    exact ih e
theorem qCG:∀ (more kvs:List (Key×V)),(qCS kvs more).length≤kvs.length+more.length
  | [],kvs=>by show kvs.length≤kvs.length+0;omega
  | p::r,kvs=>by
    have h1:=qCG r (putK kvs p.1 p.2)
    have h2:=qGe kvs p.1 p.2
    show (qCS (putK kvs p.1 p.2) r).length≤_
    rw [List.length_cons];omega
theorem qD1 {P:Program} {w:World}:∀ {kvs:List (Key×V)} {ws:List (Value×Value)},VV (kvs.map fun kv=>(kV kv.1,kv.2)) ws→∃ rs,Carries (qAW P w) ws rs∧KV kvs rs
  | [],_,r=>by rw [List.map_nil] at r;cases r;exact⟨[],True.intro,.nil⟩
  | p :: kvs,_,r=>by
    rw [List.map_cons] at r
    cases r with
    | @cons a b as bs h t =>
      obtain⟨rs,c,q⟩:=qD1 (P:=P) (w:=w) t
      obtain⟨b1,b2⟩:=b
      exact⟨(p.1,b2)::rs,⟨qKp h.1,rfl,c⟩,.cons ⟨rfl,h.2⟩ q⟩
noncomputable def qQA (K:W.Frag) (trs:List (TE×TE)):TE:=fun σ H Q=>∀ p,H p=none→K.lookup p=none→qFO trs σ (upd H p (.dK [])) fun ps H2=>H2 p=some (.dK [])∧∃ kvs:List (Key×V),ps=kvs.map (fun kv=>(kV kv.1,kv.2))∧kvs.length≤15∧Q (.ref p) (upd H2 p (.dK (qCS [] kvs)))
theorem qLp {X:Cx} {pos:Pos} {keys:List (Option Expr)} {values:List Expr} {trs:List (TE×TE)} (h:PPs X pos keys values trs) (hall:keys.all (·.isSome)=true) (hl:keys.length=values.length) (h0:keys≠[])
    (h15:keys.length≤15):PE X (.Dict keys values pos) (qQA X.K trs):=by
  intro pins s σ H Q I q
  have hn:=I.hok.fresh (Nat.le_refl s.heap.objs.size)
  have I1:=I.laid (a:=s.heap.objs.size) (o:=.dK []) (h':=s.heap.push { cls:=.type "dict",data:=.dict #[] }) (t':=s.toks) (fun _ _ q=>Heap.get?_push_of_some _ q) (Nat.le_refl _) (qJR s.heap I.big)
  refine wpAny_Dict_walk (knd:=qAW X.prog X.w) hall hl h0 h15 (thn (h pins _ σ _ _ I1 (q _ hn (by cases e:X.K.lookup s.heap.objs.size with | none=>rfl | some o=>exact absurd (Heap.lt_size (I.kIn _ o e)) (Nat.lt_irrefl _)))) fun ws s2 ⟨ps,H2,I2,rel,e,kvs,ep,lk,q2⟩=>?_)
  subst ep
  obtain⟨rs,c,rk⟩:=qD1 (P:=X.prog) (w:=X.w) rel
  obtain⟨z,hd,vs0,r0,dd⟩:=qO3 I2.hok e
  cases r0
  refine⟨rs,c,dd,fun h' dd' hs=>⟨.ref s.heap.objs.size,_,?_,rfl,q2⟩⟩
  have hz:(qCS [] kvs).length≤sizeLine:=by
    have h1:=qCG kvs []
    rw [List.length_nil] at h1
    rw [sizeLine_eq];omega
  have he:∃ q,h'.get? s.heap.objs.size=some q:=let ⟨q,_,_,hq,_⟩:=dd';⟨q,hq⟩
  exact qLE I2 (by rw [e];exact True.intro) hs he (qOc hz hd (rk.merge .nil) dd')
end L2
set_option maxHeartbeats 4000000
namespace L2
open PySem PySem.Spec PyProof.Rows
noncomputable def qDJ (cells:List (Str×Addr)):List (Str×NameKind)→List (Str×Addr)→List (Str×Addr)
  | [],acc=>acc
  | (n,k)::r,acc=>qDJ cells r (if k = .free then (n,(cells.lookup n).getD 0)::acc else acc)
theorem qDp {env:Env} {f:(Str×NameKind)→List (Str×Addr)→Sem (ForInStep (List (Str×Addr)))}
    (h1:∀ n k acc,k≠.free→f (n,k) acc=pure (.yield acc)) (h2:∀ n acc c,env.cells.lookup n=some c→f (n,.free) acc=pure (.yield ((n,c)::acc))) :
    ∀ (names:List (Str×NameKind)) (acc:List (Str×Addr)),(∀ x∈names,x.2 = .free→∃ c,env.cells.lookup x.1=some c)→forIn names acc f=(pure (qDJ env.cells names acc):Sem (List (Str×Addr)))
  | [],acc,_=>by simp [qDJ]
  | (n,k)::r,acc,h=>by
    rw [List.forIn_cons]
    by_cases hk:k = .free
    · subst hk
      obtain⟨c,hc⟩:=h (n,.free) List.mem_cons_self rfl
      rw [h2 n acc c hc,pure_bind]
      show forIn r ((n,c)::acc) f=_
      rw [qDp h1 h2 r ((n,c)::acc) fun x hx=>h x (List.mem_cons_of_mem _ hx)]
      show _=pure (qDJ env.cells r (if NameKind.free = .free then (n,(env.cells.lookup n).getD 0)::acc else acc))
      rw [if_pos rfl,hc]
      rfl
    · rw [h1 n k acc hk,pure_bind]
      show forIn r acc f=_
      rw [qDp h1 h2 r acc fun x hx=>h x (List.mem_cons_of_mem _ hx)]
      show _=pure (qDJ env.cells r (if k = .free then (n,(env.cells.lookup n).getD 0)::acc else acc))
      rw [if_neg hk]
theorem qIA {env:Env} {sc:Scope} (h:∀ x∈sc.names,x.2 = .free→∃ c,env.cells.lookup x.1=some c):closureFor sc env=pure (qDJ env.cells sc.names []):=by
  simp only [closureFor]
  rw [qDp (env:=env) ?h1 ?h2 sc.names [] h,pure_bind]
  case h1 =>
    intro n k acc hk
    have:(k==NameKind.free)=false:=by simpa using hk
    simp only [this,Bool.false_eq_true,if_false]
  case h2 =>
    intro n acc c hc
    simp only [beq_self_eq_true,if_true,cellOf,hc]
    rfl
theorem qGY {cells:List (Str×Addr)} {x:Str} {c:Addr}:∀ (names:List (Str×NameKind)) (acc:List (Str×Addr)),(∀ y∈names,y.2 = .free→∃ c,cells.lookup y.1=some c)→(qDJ cells names acc).lookup x=some c→acc.lookup x=some c∨cells.lookup x=some c
  | [],acc,_,h=>.inl h
  | (n, k)::r,acc,hf,h=>by
    rcases qGY r _ (fun y hy=>hf y (List.mem_cons_of_mem _ hy)) h with h | h
    · by_cases hk:k = .free
      · rw [if_pos hk] at h
        obtain⟨c',hc'⟩:=hf (n,k) List.mem_cons_self hk
        have hc2:cells.lookup n=some c':=hc'
        rw [hc2] at h
        by_cases e:x=n
        · subst e
          simp at h
          subst h
          exact .inr hc2
        · have:(x==n)=false:=by simpa using e
          rw [List.lookup_cons,this] at h
          exact .inl h
      · rw [if_neg hk] at h
        exact .inl h
    · exact .inr h
theorem qCw {cells:List (Str×Addr)} {x:Str}:∀ (names:List (Str×NameKind)) (acc:List (Str×Addr)),((∃ c,acc.lookup x=some c)∨(x,NameKind.free)∈names)→∃ c,(qDJ cells names acc).lookup x=some c
  | [],acc,h=>by
    rcases h with h | h
    · exact h
    · cases h
  | (n, k)::r,acc,h=>by
    refine qCw r _ ?_
    rcases h with ⟨c,h⟩ | h
    · refine .inl ?_
      by_cases hk:k = .free
      · rw [if_pos hk,List.lookup_cons]
        by_cases e:(x==n)=true
        · rw [e];exact⟨_,rfl⟩
        · have e':(x==n)=false:=by simpa using e
          rw [e'];exact⟨c,h⟩
      · rw [if_neg hk];exact⟨c,h⟩
    · rcases List.mem_cons.mp h with e | h
      · injection e with e1 e2
        subst e1;subst e2
        refine .inl ?_
        rw [if_pos rfl,List.lookup_cons]
        simp
      · exact .inr h
theorem qB3 {α:Type}:∀ {l:List (Str×α)} {x:Str} {k:α},l.lookup x=some k→(x,k)∈l
  | [],_,_,h=>by simp at h
  | (n,a)::r,x,k,h=>by
    rw [List.lookup_cons] at h
    by_cases e:x=n
    · subst e
      simp at h
      subst h
      exact List.mem_cons_self
    · have:(x==n)=false:=by simpa using e
      rw [this] at h
      exact List.mem_cons_of_mem _ (qB3 h)
theorem qBf {env:Env}:∀ {names:List (Str×NameKind)} {x:Str} {k:NameKind},
    (names.map fun (n,k)=>if (k==NameKind.free&&env.scope.kind == .function&&env.kindOf n==some .cell) then (n,NameKind.cell) else (n,k)).lookup x=some k →
    ∃ k0,names.lookup x=some k0∧(k=k0∨k0 = .free)
  | [],_,_,h=>by simp at h
  | (n, k0)::r,x,k,h=>by
    rw [List.map_cons] at h
    by_cases e:x=n
    · subst e
      refine⟨k0,by simp,?_⟩
      by_cases hc:(k0==NameKind.free&&env.scope.kind == .function&&env.kindOf x==some .cell)=true
      · right
        simp at hc
        exact hc.1.1
      · left
        dsimp only at h
        rw [if_neg hc] at h
        simp at h
        exact h.symm
    · have e':(x==n)=false:=by simpa using e
      rw [List.lookup_cons,e']
      dsimp only at h
      split at h
      · rw [List.lookup_cons,e'] at h
        exact qBf h
      · rw [List.lookup_cons,e'] at h
        exact qBf h
theorem qBr {env:Env} (hk:env.scope.kind = .function):∀ {names:List (Str×NameKind)} {x:Str},names.lookup x=some .free→env.kindOf x=some .cell →
    (names.map fun (n,k)=>if (k==NameKind.free&&env.scope.kind == .function&&env.kindOf n==some .cell) then (n,NameKind.cell) else (n,k)).lookup x=some .cell
  | [],_,h,_=>by simp at h
  | (n,k0)::r,x,h,hx=>by
    rw [List.map_cons]
    by_cases e:x=n
    · subst e
      simp at h
      subst h
      have hc:(NameKind.free==NameKind.free&&env.scope.kind == .function&&env.kindOf x==some .cell)=true:=by simp [hk,hx]
      dsimp only
      rw [if_pos hc]
      simp
    · have e':(x==n)=false:=by simpa using e
      rw [List.lookup_cons,e'] at h
      dsimp only
      split
      · rw [List.lookup_cons,e'];exact qBr hk h hx
      · rw [List.lookup_cons,e'];exact qBr hk h hx
structure qAC (so:Scope) (N:List Str) (caps:List (Nat×Str)) (sc:Scope):Prop where
  kind:sc.kind = .function
  nocell:∀ y∈sc.names,y.2≠.cell
  names:∀ y∈sc.names,y.2 = .local→sc.names.lookup y.1=some .local
  free:∀ y∈sc.names,y.2 = .free→so.names.lookup y.1=some .cell
  caps:∀ p∈caps,N[p.1]? = some p.2∧so.names.lookup p.2=some .cell∧sc.names.lookup p.2=some .free
noncomputable def qFd (caps:List (Nat×Str)) (σ:St):St:=caps.map fun p=>(σ[p.1]?).join
noncomputable abbrev qw (X:Cx) (L:List Str) (caps:List (Nat×Str)) (sc:Scope) (C:Addr) (s:Shared) (H:Hp) (fp:List Addr):Cx :=
  { X with N:=L++caps.map (·.2),s₀:=s,H₀:=H,env:=compEnvC sc (qDJ X.env.cells sc.names []) C X.env,outer:=X.stack,stack:=X.stack,ex:=fp,fn:=fun _=>false,pn:=[],xe:=fun _ _=>False }
theorem qD4 {a b:Addr} {n:Nat} (h:a<n) (h2:n≤b):a≠b:=Nat.ne_of_lt (Nat.lt_of_lt_of_le h h2)
section
variable {X:Cx} {pins:List (Addr×Obj)} {σ:St} {H:Hp} {s:Shared} {L:List Str} {caps:List (Nat×Str)} {sc:Scope} {C D:Addr} {fp:List Addr}
theorem Inv.qHP (I:Inv X pins σ H s) (S:qAC X.env.scope X.N caps sc):∀ x∈sc.names,x.2 = .free→∃ c,X.env.cells.lookup x.1=some c:=fun x hx hf =>
  I.ok.has x.1 (.inl (S.free x hx hf))
theorem Inv.qDK (I:Inv X pins σ H s) (S:qAC X.env.scope X.N caps sc) {x:Str} {c:Addr} (h:(qDJ X.env.cells sc.names []).lookup x=some c):X.env.cells.lookup x=some c:=by
  rcases qGY sc.names [] (I.qHP S) h with h | h
  · simp at h
  · exact h
theorem qHN {h₁:Heap} {tk:Nat} {m:Str→Option Value} {oD:Obj} (I:Inv X pins σ H s) (S:qAC X.env.scope X.N caps sc) (hfp:∀ b∈fp,qEX X pins H b) (hfo:∀ b∈fp,∃ o,s.heap.get? b=some o)
    (hC:s.heap.objs.size≤C) (hn:h₁.Ns C m) (old:∀ b o,s.heap.get? b=some o→h₁.get? b=some o) (hD:s.heap.objs.size≤D) (hDC:D≠C) (eD:h₁.get? D=some oD) (dD:∀ v,oD.data≠.cell v) :
    Inv (qw X L caps sc C s H fp) [(D,oD)] (List.replicate L.length none++qFd caps σ) H { s with heap:=h₁,toks:=tk }:=by
  have hcells:∀ x c,(qDJ X.env.cells sc.names []).lookup x=some c→∃ v,s.heap.IsCell c v:=fun x c e=>I.cell x c (I.qDK S e)
  refine⟨⟨I.ok.mod,S.kind,I.ok.glob,I.ok.blt,hC,fun x y c h1 h2=>I.ok.inj x y c (I.qDK S h1) (I.qDK S h2),fun x hx=>?_,fun _ _ h=>(Bool.false_ne_true h).elim,I.ok.hd,I.ok.frames,.inl rfl,fun b hb=>⟨?_,fun x c e=>(hfp b hb).2.2.2.2.1 x c (I.qDK S e)⟩,I.bs,Nat.le_trans I.ok.bsz I.sz,fun b o e hb=>?_,fun b hb hz=>?_,I.stack,I.qFb⟩,
    rfl,I.bare,Un.kept old,⟨m,hn,fun i x v e1 e2 e3=>?_⟩,fun x c e=>?_,I.hok.fresh hC,fun x c e=>I.freeC x c (I.qDK S e),fun p hp=>?_,I.hok.kept old,?_⟩
  · -- has
    have key:∀ k,(relabel sc X.env).names.lookup x=some k→(k = .cell∨k = .free)→(x,NameKind.free)∈sc.names:=fun k e hk=>by
      obtain⟨k0,e0,h0⟩:=qBf e
      have hm:=qB3 e0
      rcases h0 with h0 | h0
      · subst h0
        rcases hk with hk | hk
        · exact absurd hk (S.nocell _ hm)
        · rw [hk] at hm;exact hm
      · rw [h0] at hm;exact hm
    have hm:(x,NameKind.free)∈sc.names:=by
      rcases hx with hx | hx
      · exact key _ hx (.inl rfl)
      · exact key _ hx (.inr rfl)
    exact qCw sc.names [] (.inr hm)
  · obtain⟨o,e⟩:=hfo b hb
    exact Nat.ne_of_lt (Nat.lt_of_lt_of_le (Heap.lt_size e) hC)
  · rcases (hfp b hb).2.2.2.1 with z | z
    · exact I.ok.noex b o e z
    · exact absurd (Nat.lt_of_lt_of_le (Heap.lt_size e) (Nat.le_trans I.ok.bsz z)) (Nat.lt_irrefl _)
  · rcases List.mem_cons.mp (I.qGH b hz) with z | z
    · exact (hfp b hb).2.1 z
    · exact (hfp b hb).2.2.1 z
  · -- loc
    have e1':(L++caps.map (·.2))[i]? = some x:=e1
    by_cases hi:i<L.length
    · rw [List.getElem?_append_left (by simpa using hi),List.getElem?_replicate] at e2
      split at e2<;>cases e2
    · rw [List.getElem?_append_right (by simpa using Nat.not_lt.mp hi),List.length_replicate] at e2
      rw [List.getElem?_append_right (Nat.not_lt.mp hi)] at e1'
      unfold qFd at e2
      rw [List.getElem?_map] at e1' e2
      cases hp:caps[i - L.length]? with
      | none=>rw [hp] at e1';cases e1'
      | some p =>
        rw [hp] at e1' e2
        have ex:p.2=x:=Option.some.inj e1'
        have ev:(σ[p.1]?).join=some v:=Option.some.inj e2
        have ev':σ[p.1]? = some (some v):=by
          cases q:σ[p.1]? with
          | none=>rw [q] at ev;cases ev
          | some o=>rw [q] at ev;exact congrArg some ev
        obtain⟨c1,c2,c3⟩:=S.caps p (List.mem_of_getElem? hp)
        obtain⟨m0,hn0,hl⟩:=I.loc
        rw [ex] at c1 c2 c3
        obtain⟨u,r,l⟩:=hl p.1 x v c1 ev' (.inr (.inl c2))
        refine⟨u,r,.inr ⟨.inl (qBr I.ok.kind c3 c2),?_⟩⟩
        rcases l with ⟨hk,_⟩ | ⟨_,c,hc,hcell⟩
        · have:X.env.scope.names.lookup x=some .local:=hk
          rw [c2] at this;cases this
        · obtain⟨c',hc'⟩:=qCw (cells:=X.env.cells) sc.names [] (.inr (qB3 c3))
          have:=I.qDK S hc'
          rw [hc] at this
          cases this
          obtain⟨o,ho,hd⟩:=hcell
          exact⟨c,hc',o,old _ _ ho,hd⟩
  · obtain⟨v,o,ho,hd⟩:=hcells x c e
    exact⟨v,o,old _ _ ho,hd⟩
  · have:p∈[(D,oD)]:=hp
    have ep:p=(D,oD):=by simpa using this
    subst ep
    refine⟨eD,I.hok.fresh hD,hDC,fun z=>?_,dD⟩
    have zz:H D=none:=I.hok.fresh hD
    obtain⟨_,o,ho,_⟩:=(I.stack).mem z
    exact absurd (Nat.lt_of_lt_of_le (Heap.lt_size ho) hD) (Nat.lt_irrefl _)
  · show (List.replicate L.length none++qFd caps σ).length=(L++caps.map (·.2)).length
    unfold qFd
    simp
def PIf (X:Cx) (ifs:List Expr) (t:TT):Prop :=
  ∀ (pins:List (Addr×Obj)) (s:Shared) (σ:St) (H:Hp) (Q:Bool→Hp→Prop),Inv X pins σ H s→t σ H Q →
    wpAny (model X.prog X.w) X.A (forIn ifs true fun c r=>if r=true then do let ok ← isTrue c X.env (eval c X.env);pure (ForInStep.yield ok) else pure (ForInStep.yield r)) (TP X pins σ Q) X.xe s
theorem qK7:PIf X [] (fun _ H Q=>Q true H):=fun pins s σ H Q I h=>wpAny_tests_nil ⟨H,I,h⟩
theorem qLF {c:Expr} {t:TT} (h:PT X c t):PIf X [c] t:=fun pins s σ H Q I hq=>wpAny_tests_one (h pins s σ H Q I hq)
theorem qFn {prog:Program} {w:World} {A:Around} {R:Result→Shared→Prop} {s:Shared} {elt target iter:Expr} {ifs:List Expr} {scope:Scope} {pos:Pos} {it acc:Value} {env:Env} (I:Nat→Shared→Prop)
    (turn : ∀ n s,I n s→wpAny (model prog w) A (pyNext it) (fun r s₁=>match r with
      | none=>R (.ok .next) s₁
      | some v=>wpAny (model prog w) A (letOwnedTupleGo target it v) (fun _ s1'=>wpAny (model prog w) A (assign target env v) (fun _ s₂ =>
          wpAny (model prog w) A (forIn ifs true fun c r=>if r=true then do let ok ← isTrue c env (eval c env);pure (ForInStep.yield ok) else pure (ForInStep.yield r)) (fun ok s₃ =>
            if ok=true then wpAny (model prog w) A (eval elt env) (fun x s₄ =>
              wpAny (model prog w) A (call (.builtin "list.append") [acc,x]) (fun _ s₅=>∃ m,m<n∧I m s₅) (fun _ _=>False) s₄) (fun _ _=>False) s₃
            else ∃ m,m<n∧I m s₃) (fun _ _=>False) s₂) (fun _ _=>False) s1') (fun _ _=>False) s₁) (fun _ _=>False) s)
    (n:Nat) (h:I n s):codeAny (model prog w) A (.compLoop (.ListComp elt [⟨target,iter,ifs,0⟩] scope pos) 0 it acc env) R s:=by
  refine codeAny_loop rfl I (fun n s hI=>?_) n h
  show wpAny _ A ((compTurn (.ListComp elt [⟨target,iter,ifs,0⟩] scope pos) 0 it acc env).onRaise (fun x=>do noteFrame x env;theTreesLotGoes x)) _ _ s
  refine wpAny_noted ?_
  rw [compTurn_list]
  refine wpAny_bind (wpAny_standAt (wpAny_bind (wpAny_mono (turn n s hI) (fun r s₁ h₁=>?_) fun _ _ h'=>h'.elim)))
  cases r with
  | none=>exact wpAny_pure h₁
  | some v =>
    refine wpAny_bind (wpAny_mono h₁ (fun _ s1' h1'=>?_) fun _ _ h'=>h'.elim)
    refine wpAny_bind (wpAny_mono h1' (fun _ s₂ h₂=>wpAny_bind (wpAny_mono h₂ (fun ok s₃ h₃=>?_) fun _ _ h'=>h'.elim)) fun _ _ h'=>h'.elim)
    cases ok with
    | false=>exact wpAny_pure ⟨rfl,h₃⟩
    | true =>
      exact wpAny_bind (wpAny_bind (wpAny_mono h₃ (fun x s₄ h₄=>wpAny_bind (wpAny_mono h₄ (fun _ s₅ h₅=>wpAny_pure (wpAny_pure ⟨rfl,h₅⟩)) fun _ _ h'=>h'.elim)) fun _ _ h'=>h'.elim))
def qIT (J:It) (g:TG) (tc:TT) (te:TE) (σ0:St) (H1:Hp) (Fin:List V→Hp→Prop):Prop :=
  ∃ W : Nat→Nat→St→List V→Hp→Prop,(∃ m,W 0 m σ0 [] H1)∧∀ i m σ ys H,W i m σ ys H →
    (J.stop i H∧Fin ys H)∨(J.go i H∧ys.length<sizeLine∧∀ x H',J.yld i H x H'→g x σ H' fun σ2 H2=>tc σ2 H2 fun b H3 =>
      if b=true then te σ2 H3 fun y H4=>∃ m',m'<m∧W (i+1) m' σ2 (ys++[y]) H4 else ∃ m',m'<m∧W (i+1) m' σ2 ys H3)
theorem qDq {elt iter tg:Expr} {ifs:List Expr} {pos:Pos} {g:TG} {tc:TT} {te:TE} {J:It} {it:Addr} {tn:Nat→Heap→Prop} {Fin:List V→Hp→Prop} {RR:Value→Addr→Result→Shared→Prop} {E:Value→Shared→Prop} {s₂:Shared}
    (hc:X.calm=true) (S:qAC X.env.scope X.N caps sc) (I:Inv X pins σ H s₂) (T:Turn X.prog X.w X.K tg J fp it tn) (st:tn 0 s₂.heap) (hfp:∀ b∈fp,qEX X pins H b)
    (hg:∀ C,PG (qw X L caps sc C s₂ H fp) tg g) (hif:∀ C,PIf (qw X L caps sc C s₂ H fp) ifs tc) (he:∀ C,PE (qw X L caps sc C s₂ H fp) elt te)
    (hW:qIT J g tc te (List.replicate L.length none++qFd caps σ) H Fin)
    (hRR:∀ C D s' m ys H',Inv X pins σ (upd H' D (.lst ys)) s'→s'.heap.Ns C m→qEX X pins (upd H' D (.lst ys)) C→H' D=none→Fin ys H'→RR (.ref D) C (.ok .next) s') :
    wpAny (model X.prog X.w) X.A (newList []) (fun acc s₃=>wpAny (model X.prog X.w) X.A (newFunctionEnv sc X.env.globals (qDJ X.env.cells sc.names []) [] X.env.qual none .none (some X.env)) (fun cenv s₄ =>
      codeAny (model X.prog X.w) X.A (.compStart (.ListComp elt [⟨tg,iter,ifs,0⟩] sc pos) 0 (.ref it) acc { cenv with scope:=relabel sc X.env }) (RR acc cenv.locals) s₄) E s₃) E s₂:=by
  refine wpAny_newObj_type (wpAny_newFunctionEnv S.nocell (by intro y hy;simp at hy) (fun h₁ hns₁ hsb₁=>?_) S.kind)
  dsimp only at hns₁ hsb₁ ⊢
  generalize hH2:s₂.heap.push { cls:=.type "list",dict:=none,data:=.seq ([]:List Value).toArray }=H2 at hns₁ hsb₁ ⊢
  have hCs:H2.objs.size=s₂.heap.objs.size+1:=by rw [← hH2,Heap.size_push]
  have hDC:s₂.heap.objs.size≠H2.objs.size:=by rw [hCs];exact Nat.ne_of_lt (Nat.lt_succ_self _)
  have hCle:s₂.heap.objs.size≤H2.objs.size:=by rw [hCs];exact Nat.le_succ _
  have below:∀ b,b<s₂.heap.objs.size→b≠H2.objs.size∧b≠s₂.heap.objs.size:=fun b hb=>⟨by rw [hCs];exact Nat.ne_of_lt (Nat.lt_succ_of_lt hb),Nat.ne_of_lt hb⟩
  have old:∀ b o,s₂.heap.get? b=some o→h₁.get? b=some o:=fun b o e=>hsb₁.extBut b o (below b (Heap.lt_size e)).1 (Heap.get?_push_of_some _ (hH2 ▸ Heap.get?_push_of_some _ e))
  have hacc:h₁.get? s₂.heap.objs.size=some { cls:=.type "list",data:=.seq ([]:List Value).toArray }:=hsb₁.extBut _ _ hDC (Heap.get?_push_of_some _ (hH2 ▸ Heap.get?_push_size _ rfl))
  generalize hCn:H2.objs.size=C at hns₁ hsb₁ hDC hCle below ⊢
  generalize hDn:s₂.heap.objs.size=D at hacc hDC ⊢
  have hDle:s₂.heap.objs.size≤D:=Nat.le_of_eq hDn
  have fo:∀ b∈fp,∃ o,s₂.heap.get? b=some o:=fun b hb=>let ⟨o,e,_⟩:=T.obj 0 _ st b hb;⟨o,e⟩
  have bD:∀ b∈fp,D≠b:=fun b hb z=>by
    obtain⟨o,e⟩:=fo b hb
    exact qD4 (Heap.lt_size e) hDle z.symm
  have cD:∀ x c,X.env.cells.lookup x=some c→c≠D:=fun x c e=>by
    obtain⟨v,o,ho,_⟩:=I.cell x c e
    exact qD4 (Heap.lt_size ho) hDle
  have cC:∀ x c,X.env.cells.lookup x=some c→c≠C:=fun x c e=>by
    obtain⟨v,o,ho,_⟩:=I.cell x c e
    exact qD4 (Heap.lt_size ho) hCle
  have start:=fun tk=>qHN (L:=L) (fp:=fp) (tk:=tk) I S hfp fo hCle hns₁ old hDle hDC hacc (fun v z=>by
    have z':Data.seq _ _=Data.cell v:=z
    cases z')
  obtain⟨W,⟨m0,w0⟩,turn⟩:=hW
  -- the static facts of the iterator's records in the block
  have stat:∀ {pl:List (Addr×Obj)} {H':Hp},(∀ b∈fp,H' b=none)→(∀ p∈pl,p.1=D)→∀ b∈fp,qEX (qw X L caps sc C s₂ H fp) pl H' b:=fun {pl H'} hn hpl b hb=>by
    obtain⟨f0,f1,f2,f3,f4,f5⟩:=hfp b hb
    obtain⟨o,e⟩:=fo b hb
    refine⟨hn b hb,(below b (Heap.lt_size e)).1,fun z=>?_,.inl hb,fun x c e'=>f4 x c (I.qDK S e'),fun p hp z=>?_⟩
    · rcases List.mem_cons.mp (I.qGH b z) with z | z
      · exact f1 z
      · exact f2 z
    · have hp':p∈pl:=hp
      exact bD b hb ((hpl p hp').symm.trans z)
  have fin:∀ (s':Shared) (σ':St) (H':Hp) (ys:List V) (its:List Value) (n:Nat),Inv (qw X L caps sc C s₂ H fp) [(D,{ cls:=.type "list",data:=.seq its.toArray n })] σ' H' s'→Vals ys its→ys.length≤sizeLine→Fin ys H'→RR (.ref D) C (.ok .next) s':=fun s' σ' H' ys its n I' rv hz hF=>by
    obtain⟨m,hm,_⟩:=I'.loc
    obtain⟨eD,hDn',_,_,_⟩:=I'.pin (D,{ cls:=.type "list",data:=.seq its.toArray n }) (by simp)
    have eD':s'.heap.get? D=some { cls:=.type "list",data:=.seq its.toArray n }:=eD
    have hDnone:H' D=none:=hDn'
    have hCnone:H' C=none:=I'.free
    have neD:∀ b o,s₂.heap.get? b=some o→b≠D:=fun b o e=>qD4 (Heap.lt_size e) hDle
    have neH:∀ b u,H b=some u→b≠D:=fun b u e=>qD4 (I.hok.lt e) hDle
    have ub:=I'.base
    have hok:HOk X.prog X.w (upd H' D (.lst ys)) s'.heap:=fun b u e=>by
      by_cases hb:b=D
      · subst hb
        rw [qu] at e
        cases e
        exact⟨hz,its,n,rv,eD'⟩
      · rw [qZ hb] at e
        exact (I'.hok b u e).stay (fun c v _ q=>q) (fun c q=>by rw [qZ (qk q hDnone)];exact q) fun c xs q=>by rw [qZ (qk q hDnone)];exact q
    have un:Un (frs X.stack) fp H (upd H' D (.lst ys)) s₂.heap s'.heap:=⟨ub.keep,ub.slot,fun b o e n hx=>by rw [qZ (neD b o e)];exact ub.free b o e n hx,ub.there,fun b xs e=>by rw [qZ (neH b _ e)];exact ub.tups b xs e,
      fun b o u e=>by rw [qZ (neH b _ e)];exact ub.frzs b o u e,fun b ps e=>by rw [qZ (neH b _ e)];exact ub.tbls b ps e⟩
    have IX:Inv X pins σ (upd H' D (.lst ys)) s':=I.qMN (ch:=fp) I'.os un hok I'.bare fun b hb=>by
      obtain⟨f0,f1,f2,f3,f4,f5⟩:=hfp b hb
      exact⟨f3,f1,f4,f5⟩
    refine hRR C D s' m ys H' IX hm ⟨by rw [qZ (Ne.symm hDC)];exact hCnone,?_,?_,.inr (Nat.le_trans I.sz hCle),cC,fun p hp=>?_⟩ hDnone hF
    · exact Ne.symm (qD4 I.lt hCle)
    · exact I.qOw hCle
    · exact qD4 (Heap.lt_size (I.pin p hp).1) hCle
  have loop:∀ s₃:Shared,s₃={ s₂ with heap:=h₁,toks:=s₂.toks+([]:List (Str×Value)).length } →
      codeAny (model X.prog X.w) X.A (.compLoop (.ListComp elt [⟨tg,iter,ifs,0⟩] sc pos) 0 (.ref it) (.ref D) (compEnvC sc (qDJ X.env.cells sc.names []) C X.env)) (RR (.ref D) C) s₃:=by
    rintro s₃ rfl
    refine qFn (fun k s'=>∃ i σ' H' ys its n,Inv (qw X L caps sc C s₂ H fp) [(D,{ cls:=.type "list",data:=.seq its.toArray n })] σ' H' s'∧tn i s'.heap∧(∀ b∈fp,H' b=none)∧Vals ys its∧ys.length≤sizeLine∧W i k σ' ys H') ?_ m0
      ⟨0,_,H,[],[],0,start _,T.keep 0 _ _ st (fun b hb o e=>old b o e),fun b hb=>(hfp b hb).1,.nil,Nat.zero_le _,w0⟩
    rintro k s' ⟨i,σ',H',ys,its,n,I',st',fr',rv,hz,w'⟩
    have hpl:∀ p∈[(D,({ cls:=.type "list",data:=.seq its.toArray n }:Obj))],p.1=D:=fun p hp=>by
      rcases List.mem_cons.mp hp with e | e
      · rw [e]
      · cases e
    rcases turn i k σ' ys H' w' with ⟨stop,hF⟩ | ⟨go,hlen,step⟩
    · refine thn (T.done (qw X L caps sc C s₂ H fp) rfl rfl rfl hc i _ s' σ' H' _ I' (stat fr' hpl) st' stop) fun r s4 ⟨hr,I4⟩=>?_
      subst hr
      exact fin s4 σ' H' ys its n I4 rv hz hF
    · refine thn (T.item (qw X L caps sc C s₂ H fp) rfl rfl rfl hc i _ s' σ' H' _ I' (stat fr' hpl) st' go) fun r s4 ⟨u,hr,h4⟩=>?_
      subst hr
      refine thn h4 fun _ s5 ⟨x,H5,I5,r5,y5,st5,fr5⟩=>?_
      have I5':=I5.pinned (stat fr5 hpl) (T.obj _ _ st5)
      refine thn (hg C _ s5 σ' H5 x u _ I5' r5 (step x H5 y5)) fun _ s6 ⟨σ6,H6,I6,q6⟩=>?_
      refine thn (hif C _ s6 σ6 H6 _ I6 q6) fun ok s7 ⟨H7,I7,q7⟩=>?_
      have back:∀ {σ8:St} {H8:Hp} {s8:Shared},Inv (qw X L caps sc C s₂ H fp) ([(D,{ cls:=.type "list",data:=.seq its.toArray n })]++qEQ fp s5.heap) σ8 H8 s8 →
          tn (i+1) s8.heap∧∀ b∈fp,H8 b=none:=fun {σ8 H8 s8} I8=>by
        refine⟨T.keep _ _ _ st5 fun b hb o e=>(I8.pin (b,o) (List.mem_append_right _ (List.mem_append_right _ (qBn hb e)))).1,fun b hb=>?_⟩
        obtain⟨o,e,d⟩:=T.obj _ _ st5 b hb
        exact (I8.pin (b,o) (List.mem_append_right _ (List.mem_append_right _ (qBn hb e)))).2.1
      cases ok with
      | false =>
        rw [if_neg Bool.false_ne_true] at q7
        rw [if_neg Bool.false_ne_true]
        obtain⟨m',hm',w7⟩:=q7
        obtain⟨b1,b2⟩:=back I7
        exact⟨m',hm',i+1,σ6,H7,ys,its,n,I7.qCf,b1,b2,rv,hz,w7⟩
      | true =>
        rw [if_pos rfl] at q7
        rw [if_pos rfl]
        refine thn (he C _ s7 σ6 H7 _ I7 q7) fun yv s8 ⟨y,H8,I8,r8,m',hm',w8⟩=>?_
        obtain⟨b1,b2⟩:=back I8
        obtain⟨eD,hDn8,neL8,nf8,_⟩:=I8.pin (D,{ cls:=.type "list",data:=.seq its.toArray n }) (by simp)
        have hl:=rv.length
        refine append_at (s:=s8) eD (fun h9 sb e9=>?_) (by simp only [List.size_toArray];omega)
        have I8':Inv (qw X L caps sc C s₂ H fp) [] σ6 H8 s8:=I8.qDm fun p hp=>nomatch hp
        have I9:Inv (qw X L caps sc C s₂ H fp) [] σ6 H8 { s8 with heap:=h9 }:=I8'.turned (t':=s8.toks) (it:=D) (fun b o hb e=>(sb.2 b hb).trans e) hDn8 neL8 (.inr hDle) (fun x c e=>cD x c (I.qDK S e)) fun p hp=>nomatch (show p∈([]:List (Addr×Obj)) from hp)
        have ep:its.toArray.push yv=(its++[yv]).toArray:=by simp
        rw [ep] at e9
        refine⟨m',hm',i+1,σ6,H8,ys++[y],its++[yv],n+1,I9.qDm fun p hp=>?_,T.keep _ _ _ b1 fun b hb o e=>(sb.2 b (Ne.symm (bD b hb))).trans e,b2,Vals.append rv (.cons r8 .nil),by rw [List.length_append];exact hlen,w8⟩
        obtain rfl:p=(D,({ cls:=.type "list",data:=.seq (its++[yv]).toArray (n+1) }:Obj)):=by
          rcases List.mem_cons.mp hp with e | e
          · exact e
          · cases e
        exact⟨e9,hDn8,neL8,nf8,fun v z=>by
          have z':Data.seq _ _=Data.cell v:=z
          cases z'⟩
  exact codeAny_compStart_list (loop _ rfl) (T.self X.A 0 _ _ _ (T.keep 0 _ _ st fun b hb o e=>old b o e) (loop _ rfl))
noncomputable def qH8 (wi:TI) (g:TG) (tc:TT) (te:TE) (nL:Nat) (caps:List (Nat×Str)):TE:=fun σ H Q=>wi σ H fun J H1 =>
  qIT J g tc te (List.replicate nL none++qFd caps σ) H1 fun ys H2=>∀ p,H2 p=none→Q (.ref p) (upd H2 p (.lst ys))
theorem qLQ {elt iter tg:Expr} {ifs:List Expr} {pos:Pos} {wi:TI} {g:TG} {tc:TT} {te:TE} (L:List Str) (caps:List (Nat×Str)) (hc:X.calm=true) (S:qAC X.env.scope X.N caps sc) (hi:PI X tg iter wi)
    (hg:∀ C s H fp,PG (qw X L caps sc C s H fp) tg g) (hif:∀ C s H fp,PIf (qw X L caps sc C s H fp) ifs tc) (he:∀ C s H fp,PE (qw X L caps sc C s H fp) elt te)
    (hs:∀ x,foldedSetIterable iter X.env x=pure x:=by intro _;rfl):PE X (.ListComp elt [⟨tg,iter,ifs,0⟩] sc pos) (qH8 wi g tc te L.length caps):=by
  k_dat 0"r1"
  rw [eval_ListComp]
  refine wpAny_comprehension_free (use:=none) rfl hs (qIA (I.qHP S)) S.kind S.names (thn (hi pins s σ H _ I h) fun v s1 h1=>thn h1 fun itv s2 h2=>?_)
  obtain⟨it,fp,tn,J,H2,e,I2,T,st2,f2,hW⟩:=h2
  subst e
  refine qDq (L:=L) (RR:=fun acc C=>compPost (model X.prog X.w) X.A X.xe none (EP X pins σ Q) acc C) hc S I2 T st2 f2 (fun C=>hg C _ _ _) (fun C=>hif C _ _ _) (fun C=>he C _ _ _) hW ?_
  intro C D s' m ys H' I' hn hC hDn hF
  refine⟨m,hn,fun h' sb=>?_⟩
  obtain⟨f0,f1,f2,f3,f4,f5⟩:=hC
  exact⟨.ref D,_,I'.turned (t':=s'.toks) (it:=C) (fun b o hb e=>(sb.2 b hb).trans e) f0 f1 f3 f4 f5,rfl,hF D hDn⟩
theorem qIK {elt iter tg:Expr} {ifs:List Expr} {pos py spos:Pos} {wi:TI} {g:TG} {tc:TT} {te:TE} {i:Nat} {y:Str} (L:List Str) (caps:List (Nat×Str)) (hc:X.calm=true) (hN:X.N.Nodup) (hy:X.N[i]? = some y) (hyl:X.env.scope.names.lookup y=some .local)
    (S:qAC X.env.scope X.N caps sc) (hi:PI X tg iter wi)
    (hg:∀ C s H fp,PG (qw X L caps sc C s H fp) tg g) (hif:∀ C s H fp,PIf (qw X L caps sc C s H fp) ifs tc) (he:∀ C s H fp,PE (qw X L caps sc C s H fp) elt te)
    (hsw:swapsWith (.ListComp elt [⟨tg,iter,ifs,0⟩] sc pos) (some (.Name y py)) spos.line X.env=pure true:=by rfl)
    (hs:∀ x,foldedSetIterable iter X.env x=pure x:=by intro _;rfl):PS X (.Assign [.Name y py] (.ListComp elt [⟨tg,iter,ifs,0⟩] sc pos) spos) (qLg (qH8 wi g tc te L.length caps) (qDv i)):=by
  k_dat 0"r10"
  rw [exec_Assign_Name_used _ _ _ _ hsw]
  refine wpAny_bind (wpAny_standAt (wpAny_bind ?_))
  show wpAny _ X.A (do let _ ← comprehension (.ListComp elt [⟨tg,iter,ifs,0⟩] sc pos) sc X.env _ (newList []) false (eval iter X.env) (some (assign (.Name y py) X.env))) _ _ s
  refine wpAny_bind (wpAny_mono (wpAny_comprehension_free (use:=some (assign (.Name y py) X.env)) (Q:=fun _ s'=>SP X pins D .next s') rfl hs (qIA (I.qHP S)) S.kind S.names
    (thn (hi pins s σ H _ I h) fun v s1 h1=>thn h1 fun itv s2 h2=>?_)) (fun _ s' hq=>wpAny_pure (wpAny_pure hq)) fun _ _ e=>e)
  obtain⟨it,fp,tn,J,H2,e,I2,T,st2,f2,hW⟩:=h2
  subst e
  refine qDq (L:=L) (RR:=fun acc C=>compPost (model X.prog X.w) X.A X.xe (some (assign (.Name y py) X.env)) (fun _ s'=>SP X pins D .next s') acc C) hc S I2 T st2 f2 (fun C=>hg C _ _ _) (fun C=>hif C _ _ _) (fun C=>he C _ _ _) hW ?_
  intro C Dd s' m ys H' I' hn hC hDn hF
  obtain⟨f0,f1,f2,f3,f4,f5⟩:=hC
  show wpAny _ X.A (assign (.Name y py) X.env (.ref Dd)) _ _ _
  refine wpAny_assign_Name (qEx (v:=.ref Dd) I' hN hy (.inl hyl) rfl (fun s'' I'' hsb=>?_) (.inr hyl))
  obtain⟨a,hsb,ha⟩:=hsb
  have hL:a≠C:=by
    rcases ha with z | z
    · rw [z];exact Ne.symm f1
    · exact f4 y a z
  refine⟨m,hn.sameBut hsb (Ne.symm hL),fun h' sb=>?_⟩
  exact⟨_,_,I''.turned (t':=s''.toks) (it:=C) (fun b o hb e=>(sb.2 b hb).trans e) f0 f1 f3 f4 f5,hF Dd hDn⟩
end
end L2
namespace L3
open PySem PySem.Spec PyProof.Rows L2
inductive Dt where
  | non | bl (b:Bool) | int (i:Int) | str (x:Str) | tup (xs:List Dt) | lst (n:Nat) | ty (n:String) | dic (n:Nat) | ins (n:Nat)
inductive SO where
  | ro (xs:List Dt) | rw (xs:List Dt) | dc (kvs:List (Key×Dt)) | ob (C:Str) (fs:List (Str×Dt))
noncomputable def SO.items:SO→List Dt
  | .ro xs=>xs
  | .rw xs=>xs
  | .dc _=>[]
  | .ob _ _=>[]
def IsL (K:W.Frag) (H:Hp) (a:Addr):Prop:=∃ vs,SqL K H a vs
def IsD (H:Hp) (a:Addr):Prop:=∃ kvs,H a=some (.dK kvs)
def IsO (H:Hp) (a:Addr):Prop:=∃ C dx fs,H a=some (.ins C dx fs)
noncomputable abbrev Sto:=List SO
noncomputable abbrev Rho:=List (Option Dt)
mutual
noncomputable def D (K:W.Frag) (φ:Nat→Addr) (N:Nat) (H:Hp):Dt→V→Prop
  | .non,v=>v = .non
  | .bl b,v=>v = .bl b
  | .int i,v=>v = .int i
  | .str x,v=>v = .str x
  | .ty n,v=>v = .ty n
  | .tup ds,v=>∃ a vs,v = .ref a∧SqT K H a vs∧DL K φ N H ds vs
  | .lst n,v=>n<N∧v = .ref (φ n)∧IsL K H (φ n)
  | .dic n,v=>n<N∧v = .ref (φ n)∧IsD H (φ n)
  | .ins n,v=>n<N∧v = .ref (φ n)∧IsO H (φ n)
noncomputable def DL (K:W.Frag) (φ:Nat→Addr) (N:Nat) (H:Hp):List Dt→List V→Prop
  | [],vs=>vs=[]
  | d::ds,vs=>∃ v r,vs=v::r∧D K φ N H d v∧DL K φ N H ds r
end
structure Evo (K:W.Frag) (φ:Nat→Addr) (N:Nat) (H:Hp) (φ':Nat→Addr) (N':Nat) (H':Hp):Prop where
  le:N≤N'
  ext:∀ i,i<N→φ' i=φ i
  tup:∀ a vs,SqT K H a vs→SqT K H' a vs
  lst:∀ i,i<N→IsL K H (φ i)→IsL K H' (φ i)
  dic:∀ i,i<N→IsD H (φ i)→IsD H' (φ i)
  ins:∀ i,i<N→IsO H (φ i)→IsO H' (φ i)
section
variable {K:W.Frag} {φ φ' φ1 φ2:Nat→Addr} {N N' N1 N2:Nat} {H H' H1 H2:Hp}
theorem Evo.refl:Evo K φ N H φ N H:=⟨Nat.le_refl _,fun _ _=>rfl,fun _ _ h=>h,fun _ _ h=>h,fun _ _ h=>h,fun _ _ h=>h⟩
theorem Evo.trans (a:Evo K φ N H φ1 N1 H1) (b:Evo K φ1 N1 H1 φ2 N2 H2):Evo K φ N H φ2 N2 H2 :=
  ⟨Nat.le_trans a.le b.le,fun i hi=>(b.ext i (Nat.lt_of_lt_of_le hi a.le)).trans (a.ext i hi),fun x vs h=>b.tup x vs (a.tup x vs h), 
    fun i hi h=>(fun q:IsL K H1 (φ1 i)→IsL K H2 (φ1 i)=>a.ext i hi ▸ q (a.ext i hi ▸ a.lst i hi h)) (b.lst i (Nat.lt_of_lt_of_le hi a.le)),
    fun i hi h=>(fun q:IsD H1 (φ1 i)→IsD H2 (φ1 i)=>a.ext i hi ▸ q (a.ext i hi ▸ a.dic i hi h)) (b.dic i (Nat.lt_of_lt_of_le hi a.le)),
    fun i hi h=>(fun q:IsO H1 (φ1 i)→IsO H2 (φ1 i)=>a.ext i hi ▸ q (a.ext i hi ▸ a.ins i hi h)) (b.ins i (Nat.lt_of_lt_of_le hi a.le))⟩
mutual
theorem D.evo (e:Evo K φ N H φ' N' H'):∀ {d:Dt} {v:V},D K φ N H d v→D K φ' N' H' d v
  | .non,_,h=>by simpa [D] using h
  | .bl _,_,h=>by simpa [D] using h
  | .int _,_,h=>by simpa [D] using h
  | .str _,_,h=>by simpa [D] using h
  | .ty _,_,h=>by simpa [D] using h
  | .tup ds,v,h=>by
    simp only [D] at h ⊢
    obtain⟨a,vs,h1,h2,h3⟩:=h
    exact⟨a,vs,h1,e.tup a vs h2,DL.evo e h3⟩
  | .lst n,v,h=>by
    simp only [D] at h ⊢
    obtain⟨h1,h2,h3⟩:=h
    exact⟨Nat.lt_of_lt_of_le h1 e.le,by rw [e.ext n h1];exact h2,by rw [e.ext n h1];exact e.lst n h1 h3⟩
  | .dic n,v,h=>by
    simp only [D] at h ⊢
    obtain⟨h1,h2,h3⟩:=h
    exact⟨Nat.lt_of_lt_of_le h1 e.le,by rw [e.ext n h1];exact h2,by rw [e.ext n h1];exact e.dic n h1 h3⟩
  | .ins n,v,h=>by
    simp only [D] at h ⊢
    obtain⟨h1,h2,h3⟩:=h
    exact⟨Nat.lt_of_lt_of_le h1 e.le,by rw [e.ext n h1];exact h2,by rw [e.ext n h1];exact e.ins n h1 h3⟩
theorem DL.evo (e:Evo K φ N H φ' N' H'):∀ {ds:List Dt} {vs:List V},DL K φ N H ds vs→DL K φ' N' H' ds vs
  | [],vs,h=>by simpa [DL] using h
  | d::ds,vs,h=>by
    simp only [DL] at h ⊢
    obtain⟨v,r,h1,h2,h3⟩:=h
    exact⟨v,r,h1,D.evo e h2,DL.evo e h3⟩
end
theorem DL.length:∀ {ds:List Dt} {vs:List V},DL K φ N H ds vs→ds.length=vs.length
  | [],vs,h=>by simp only [DL] at h;rw [h];rfl
  | d::ds,vs,h=>by
    k_dat 0"r6"
    obtain⟨v,r,h1,_,h3⟩:=h
    rw [h1,List.length_cons,List.length_cons,DL.length h3]
theorem DL.get:∀ {ds:List Dt} {vs:List V} {i:Nat} {d:Dt},DL K φ N H ds vs→ds[i]? = some d→∃ v,vs[i]? = some v∧D K φ N H d v
  | [],_,_,_,_,e=>by simp at e
  | d::ds,vs,0,d',h,e=>by
    k_dat 0"r6"
    obtain⟨v,r,h1,h2,_⟩:=h
    simp at e
    subst e;subst h1
    exact⟨v,rfl,h2⟩
  | d::ds,vs,i+1,d',h,e=>by
    k_dat 0"r6"
    obtain⟨v,r,h1,_,h3⟩:=h
    subst h1
    obtain⟨w,e1,e2⟩:=DL.get (i:=i) h3 (by simpa using e)
    exact⟨w,by simpa using e1,e2⟩
theorem DL.nil:DL K φ N H [] []:=by simp [DL]
theorem DL.cons {d:Dt} {v:V} {ds:List Dt} {vs:List V} (h:D K φ N H d v) (t:DL K φ N H ds vs):DL K φ N H (d::ds) (v::vs):=by
  simp only [DL];exact⟨v,vs,rfl,h,t⟩
theorem DL.qHC {d:Dt} {v:V} {ds:List Dt} {vs:List V} (h:DL K φ N H (d::ds) (v::vs)):D K φ N H d v∧DL K φ N H ds vs:=by
  k_dat 0"r6"
  obtain⟨v',r,h1,h2,h3⟩:=h
  cases h1
  exact⟨h2,h3⟩
theorem DL.append:∀ {ds es:List Dt} {vs ws:List V},DL K φ N H ds vs→DL K φ N H es ws→DL K φ N H (ds++es) (vs++ws)
  | [],_,vs,_,h,h'=>by simp only [DL] at h;rw [h];exact h'
  | d::ds,es,vs,ws,h,h'=>by
    k_dat 0"r6"
    obtain⟨v,r,h1,h2,h3⟩:=h
    subst h1
    exact DL.cons h2 (DL.append h3 h')
theorem DL.drop:∀ {ds:List Dt} {vs:List V} (n:Nat),DL K φ N H ds vs→DL K φ N H (ds.drop n) (vs.drop n)
  | ds,vs,0,h=>h
  | [],vs,n+1,h=>by simp only [DL] at h;rw [h];simpa using DL.nil
  | d::ds,vs,n+1,h=>by
    k_dat 0"r6"
    obtain⟨v,r,h1,h2,h3⟩:=h
    subst h1
    exact DL.drop n h3
theorem DL.take:∀ {ds:List Dt} {vs:List V} (n:Nat),DL K φ N H ds vs→DL K φ N H (ds.take n) (vs.take n)
  | ds,vs,0,h=>by simpa using DL.nil
  | [],vs,n+1,h=>by simp only [DL] at h;rw [h];simpa using DL.nil
  | d::ds,vs,n+1,h=>by
    k_dat 0"r6"
    obtain⟨v,r,h1,h2,h3⟩:=h
    subst h1
    exact DL.cons h2 (DL.take n h3)
theorem DL.set {d:Dt} {v:V} (hd:D K φ N H d v):∀ {ds:List Dt} {vs:List V} (n:Nat),DL K φ N H ds vs→DL K φ N H (ds.set n d) (vs.set n v)
  | [],vs,n,h=>by simp only [DL] at h;rw [h];simpa using DL.nil
  | e::ds,vs,0,h=>by
    k_dat 0"r6"
    obtain⟨w,r,h1,h2,h3⟩:=h
    subst h1
    exact DL.cons hd h3
  | e::ds,vs,n+1,h=>by
    k_dat 0"r6"
    obtain⟨w,r,h1,h2,h3⟩:=h
    subst h1
    exact DL.cons h2 (DL.set hd n h3)
theorem DL.one {d:Dt} {vs:List V} (h:DL K φ N H [d] vs):∃ v,vs=[v]∧D K φ N H d v:=by
  k_dat 0"r6"
  obtain⟨v,r,h1,h2,h3⟩:=h
  subst h3
  exact⟨v,h1,h2⟩
theorem DL.two {d e:Dt} {vs:List V} (h:DL K φ N H [d,e] vs):∃ v w,vs=[v,w]∧D K φ N H d v∧D K φ N H e w:=by
  k_dat 0"r6"
  obtain⟨v,r,h1,h2,w,r',h3,h4,h5⟩:=h
  subst h5;subst h3
  exact⟨v,w,h1,h2,h4⟩
theorem D.int {i:Int} {v:V} (h:D K φ N H (.int i) v):v = .int i:=by simpa [D] using h
theorem D.bl {i:Bool} {v:V} (h:D K φ N H (.bl i) v):v = .bl i:=by simpa [D] using h
theorem D.str {i:Str} {v:V} (h:D K φ N H (.str i) v):v = .str i:=by simpa [D] using h
theorem D.non {v:V} (h:D K φ N H .non v):v = .non:=by simpa [D] using h
theorem D.ty {n:String} {v:V} (h:D K φ N H (.ty n) v):v = .ty n:=by simpa [D] using h
theorem D.tup {ds:List Dt} {v:V} (h:D K φ N H (.tup ds) v):∃ a vs,v = .ref a∧SqT K H a vs∧DL K φ N H ds vs:=by simpa [D] using h
theorem D.lst {n:Nat} {v:V} (h:D K φ N H (.lst n) v):n<N∧v = .ref (φ n):=by simp only [D] at h;exact⟨h.1,h.2.1⟩
theorem D.isL {n:Nat} {v:V} (h:D K φ N H (.lst n) v):IsL K H (φ n):=by simp only [D] at h;exact h.2.2
theorem D.dic {n:Nat} {v:V} (h:D K φ N H (.dic n) v):n<N∧v = .ref (φ n):=by simp only [D] at h;exact⟨h.1,h.2.1⟩
theorem D.ins {n:Nat} {v:V} (h:D K φ N H (.ins n) v):n<N∧v = .ref (φ n):=by simp only [D] at h;exact⟨h.1,h.2.1⟩
theorem D.mkInt {i:Int}:D K φ N H (.int i) (.int i):=by simp [D]
theorem D.qBk {i:Bool}:D K φ N H (.bl i) (.bl i):=by simp [D]
theorem D.mkStr {i:Str}:D K φ N H (.str i) (.str i):=by simp [D]
theorem D.qIF:D K φ N H .non .non:=by simp [D]
theorem D.qPW {n:String}:D K φ N H (.ty n) (.ty n):=by simp [D]
theorem D.qCO {ds:List Dt} {a:Addr} {vs:List V} (h:SqT K H a vs) (t:DL K φ N H ds vs):D K φ N H (.tup ds) (.ref a):=by simp only [D];exact⟨a,vs,rfl,h,t⟩
theorem D.qMU {n:Nat} (h:n<N) (hl:IsL K H (φ n)):D K φ N H (.lst n) (.ref (φ n)):=by simp only [D];exact⟨h,trivial,hl⟩
theorem D.qOx {n:Nat} (h:n<N) (hl:IsD H (φ n)):D K φ N H (.dic n) (.ref (φ n)):=by simp only [D];exact⟨h,trivial,hl⟩
end
def SqR (K:W.Frag) (H:Hp) (a:Addr) (xs:List V):Prop :=
  (∃ o,H a=some (.frz o (.lst xs))) ∨
    ∃ (o:Obj) (its:Array Value) (n:Nat),K.lookup a=some o∧o.cls = .type "list" ∧ o.dict=none∧o.data = .seq its n∧its.size≤sizeLine∧Vals xs its.toList
theorem SqR.sq {K:W.Frag} {H:Hp} {a:Addr} {xs:List V} (h:SqR K H a xs):SqL K H a xs:=by
  rcases h with h | h
  · exact .inl (.inr h)
  · exact .inr h
noncomputable def Holds (K:W.Frag) (φ:Nat→Addr) (N:Nat) (H:Hp):SO→Addr→Prop
  | .ro xs,a=>∃ vs,SqR K H a vs∧DL K φ N H xs vs
  | .rw xs,a=>∃ vs,H a=some (.lst vs)∧DL K φ N H xs vs
  | .dc kvs,a=>∃ vs:List (Key×V),H a=some (.dK vs)∧K.lookup a=none∧kvs.map (·.1)=vs.map (·.1)∧DL K φ N H (kvs.map (·.2)) (vs.map (·.2))
  | .ob C fs,a=>∃ (c dx:Addr) (vs:List (Str×V)),H a=some (.ins c dx vs)∧K.lookup a=none∧W.nsIn K mainGlobals C=some (some (.ref c))∧fs.map (·.1)=vs.map (·.1)∧DL K φ N H (fs.map (·.2)) (vs.map (·.2))
noncomputable def SO.wr:SO→Bool
  | .ro _=>false
  | _=>true
structure Rep (K:W.Frag) (φ:Nat→Addr) (st:Sto) (H:Hp):Prop where
  injA:∀ (i j:Nat) a b,st[i]? = some a→st[j]? = some b→a.wr=true→b.wr=true→φ i=φ j→i=j
  all:∀ (i:Nat) o,st[i]? = some o→Holds K φ st.length H o (φ i)
section
variable {K:W.Frag} {φ φ':Nat→Addr} {N N':Nat} {st:Sto} {H H':Hp} {p:Addr}
theorem Rep.ro (R:Rep K φ st H):∀ (i:Nat) xs,st[i]? = some (.ro xs)→∃ vs,SqR K H (φ i) vs∧DL K φ st.length H xs vs:=fun i _ e=>R.all i _ e
theorem Rep.rw (R:Rep K φ st H):∀ (i:Nat) xs,st[i]? = some (.rw xs)→∃ vs,H (φ i)=some (.lst vs)∧DL K φ st.length H xs vs:=fun i _ e=>R.all i _ e
theorem Rep.seq (R:Rep K φ st H) {i:Nat} {o:SO} (e:st[i]? = some o) (hl:IsL K H (φ i)):∃ vs,SqL K H (φ i) vs∧DL K φ st.length H o.items vs:=by
  have no:∀ {u:HO},H (φ i)=some u→K.lookup (φ i)=none→(∀ vs,u≠.lst vs)→(∀ ob vs,u≠.frz ob vs)→False:=by
    intro u h hk h1 h2
    obtain⟨vs,(h3 | ⟨ob,h3⟩) | ⟨ob,_,_,h3,_⟩⟩:=hl
    · rw [h] at h3;exact h1 _ (Option.some.inj h3)
    · rw [h] at h3;exact h2 _ _ (Option.some.inj h3)
    · rw [hk] at h3;cases h3
  cases o with
  | ro xs =>
    obtain⟨vs,h1,h2⟩:=R.ro i xs e
    exact⟨vs,h1.sq,h2⟩
  | rw xs =>
    obtain⟨vs,h1,h2⟩:=R.rw i xs e
    exact⟨vs,SqL.of h1,h2⟩
  | dc kvs =>
    obtain⟨vs,h1,h2,_⟩:=R.all i _ e
    exact (no h1 h2 (fun _ z=>by cases z) (fun _ _ z=>by cases z)).elim
  | ob C fs =>
    obtain⟨c,dx,vs,h1,h2,_⟩:=R.all i _ e
    exact (no h1 h2 (fun _ z=>by cases z) (fun _ _ z=>by cases z)).elim
theorem qIL {a:Addr} {vs:List V} {o:HO} (h:SqT K H a vs) (hp:H p=none):SqT K (upd H p o) a vs:=by
  rcases h with (h | ⟨ob,h⟩) | h
  · exact .inl (.inl (by rw [qZ (qk h hp)];exact h))
  · exact .inl (.inr ⟨ob,by rw [qZ (qk h hp)];exact h⟩)
  · exact .inr h
theorem qHw {a:Addr} {vs:List V} {o:HO} (h:SqR K H a vs) (hp:H p=none):SqR K (upd H p o) a vs:=by
  rcases h with ⟨ob,h⟩ | h
  · exact .inl ⟨ob,by rw [qZ (qk h hp)];exact h⟩
  · exact .inr h
theorem qJU {a:Addr} {vs ws:List V} {o:HO} (h:SqT K H a vs) (hp:H p=some (.lst ws)):SqT K (upd H p o) a vs:=by
  rcases h with (h | ⟨ob,h⟩) | h
  · exact .inl (.inl (by rw [qZ (qGw h hp (by intro z;cases z))];exact h))
  · exact .inl (.inr ⟨ob,by rw [qZ (qGw h hp (by intro z;cases z))];exact h⟩)
  · exact .inr h
theorem qLR {a:Addr} {vs:List V} {o:HO} (h:SqL K H a vs) (hp:H p=none):SqL K (upd H p o) a vs:=by
  rcases h with (h | ⟨ob,h⟩) | h
  · exact .inl (.inl (by rw [qZ (qk h hp)];exact h))
  · exact .inl (.inr ⟨ob,by rw [qZ (qk h hp)];exact h⟩)
  · exact .inr h
theorem qHx {a:Addr} {o:HO} (h:IsL K H a) (hp:H p=none):IsL K (upd H p o) a:=let ⟨vs,h⟩:=h;⟨vs,qLR h hp⟩
theorem qH6 {a:Addr} {o:HO} (h:IsD H a) (hp:H p=none):IsD (upd H p o) a:=let ⟨vs,h⟩:=h;⟨vs,by rw [qZ (qk h hp)];exact h⟩
theorem qHt {a:Addr} {o:HO} (h:IsO H a) (hp:H p=none):IsO (upd H p o) a:=let ⟨c,d,f,h⟩:=h;⟨c,d,f,by rw [qZ (qk h hp)];exact h⟩
theorem qBp {o:HO} (hp:H p=none):Evo K φ N H φ N (upd H p o):=⟨Nat.le_refl _,fun _ _=>rfl,fun _ _ h=>qIL h hp,fun _ _ h=>qHx h hp,fun _ _ h=>qH6 h hp,fun _ _ h=>qHt h hp⟩
theorem Holds.stay {o:SO} {a:Addr} (h:Holds K φ N H o a) (e:Evo K φ N H φ' N' H') (hr:∀ vs,SqR K H a vs→SqR K H' a vs) (hw:o.wr=true→H' a=H a):Holds K φ' N' H' o a:=by
  cases o with
  | ro xs=>obtain⟨vs,h1,h2⟩:=h;exact⟨vs,hr vs h1,h2.evo e⟩
  | rw xs=>obtain⟨vs,h1,h2⟩:=h;exact⟨vs,by rw [hw rfl];exact h1,h2.evo e⟩
  | dc kvs=>obtain⟨vs,h1,h2,h3,h4⟩:=h;exact⟨vs,by rw [hw rfl];exact h1,h2,h3,h4.evo e⟩
  | ob C fs=>obtain⟨c,dx,vs,h1,h2,h3,h4,h5⟩:=h;exact⟨c,dx,vs,by rw [hw rfl];exact h1,h2,h3,h4,h5.evo e⟩
theorem Holds.qMl {o:SO} {a:Addr} (h:Holds K φ N H o a) (hw:o.wr=true):∃ u,H a=some u:=by
  cases o with
  | ro xs=>cases hw
  | rw xs=>obtain⟨vs,h1,_⟩:=h;exact⟨_,h1⟩
  | dc kvs=>obtain⟨vs,h1,_⟩:=h;exact⟨_,h1⟩
  | ob C fs=>obtain⟨c,dx,vs,h1,_⟩:=h;exact⟨_,h1⟩
theorem Rep.laid {o:HO} (R:Rep K φ st H) (hp:H p=none):Rep K φ st (upd H p o) :=
  ⟨R.injA,fun i x e=>(R.all i x e).stay (qBp hp) (fun _ h=>qHw h hp) fun w=>by
    obtain⟨u,h⟩:=(R.all i x e).qMl w
    exact qZ (qk h hp)⟩
noncomputable def qAm (φ:Nat→Addr) (n:Nat) (p:Addr):Nat→Addr:=fun i=>if i=n then p else φ i
theorem qDF {n:Nat}:qAm φ n p n=p:=by unfold qAm;rw [if_pos rfl]
theorem qC2 {n i:Nat} (h:i<n):qAm φ n p i=φ i:=by unfold qAm;rw [if_neg (Nat.ne_of_lt h)]
theorem qCq {o:SO} {u:HO} (hp:H p=none):Evo K φ st.length H (qAm φ st.length p) (st++[o]).length (upd H p u) :=
  ⟨by rw [List.length_append];exact Nat.le_add_right _ _,fun i hi=>qC2 hi,fun _ _ h=>qIL h hp,fun _ _ h=>qHx h hp,fun _ _ h=>qH6 h hp,fun _ _ h=>qHt h hp⟩
theorem qLy {vs:List V} {xs:List Dt} (hp:H p=none):Evo K φ st.length H (qAm φ st.length p) (st++[SO.rw xs]).length (upd H p (.lst vs)):=qCq hp
theorem qCo {α:Type} {l:List α} {x y:α} {i:Nat} (e:(l++[x])[i]? = some y):(i<l.length∧l[i]? = some y)∨(i=l.length∧y=x):=by
  by_cases h:i<l.length
  · left
    rw [List.getElem?_append_left h] at e
    exact⟨h,e⟩
  · right
    rw [List.getElem?_append_right (Nat.not_lt.mp h)] at e
    have h0:i - l.length=0:=by
      cases q:i - l.length with
      | zero=>rfl
      | succ n=>rw [q] at e;simp at e
    rw [h0] at e
    have:x=y:=by simpa using e
    exact⟨by omega,this.symm⟩
theorem qX {α:Type} {l:List α} {y:α} {i:Nat} (e:l[i]? = some y):i<l.length:=(List.getElem?_eq_some_iff.mp e).1
theorem Rep.add {o:SO} {u:HO} (R:Rep K φ st H) (hp:H p=none) (hd:Holds K (qAm φ st.length p) (st++[o]).length (upd H p u) o p):Rep K (qAm φ st.length p) (st++[o]) (upd H p u):=by
  have ev:Evo K φ st.length H (qAm φ st.length p) (st++[o]).length (upd H p u):=qCq hp
  have notp:∀ (i:Nat) x,st[i]? = some x→x.wr=true→φ i≠p:=fun i x e w z=>by
    obtain⟨v,h⟩:=(R.all i x e).qMl w
    rw [z,hp] at h;cases h
  refine⟨fun i j a b e1 e2 w1 w2 h=>?_,fun i x e=>?_⟩
  · rcases qCo e1 with ⟨l1,e1⟩ | ⟨l1,e1⟩
    · rcases qCo e2 with ⟨l2,e2⟩ | ⟨l2,e2⟩
      · rw [qC2 l1,qC2 l2] at h
        exact R.injA i j _ _ e1 e2 w1 w2 h
      · rw [qC2 l1,l2,qDF] at h
        exact absurd h (notp i _ e1 w1)
    · rcases qCo e2 with ⟨l2,e2⟩ | ⟨l2,e2⟩
      · rw [qC2 l2,l1,qDF] at h
        exact absurd h.symm (notp j _ e2 w2)
      · rw [l1,l2]
  · rcases qCo e with ⟨l1,e1⟩ | ⟨l1,e1⟩
    · rw [qC2 l1]
      exact (R.all i x e1).stay ev (fun _ h=>qHw h hp) fun w=>qZ (notp i x e1 w)
    · rw [l1,qDF,e1];exact hd
theorem Rep.newL {vs:List V} {xs:List Dt} (R:Rep K φ st H) (hp:H p=none) (hd:DL K φ st.length H xs vs):Rep K (qAm φ st.length p) (st++[.rw xs]) (upd H p (.lst vs)) :=
  R.add hp ⟨vs,qu,hd.evo (qCq hp)⟩
theorem qJf {a:Addr} {vs:List V} {u w:HO} (h:SqT K H a vs) (hp:H p=some u) (h1:∀ xs,u≠.tup xs) (h2:∀ o x,u≠.frz o x):SqT K (upd H p w) a vs:=by
  rcases h with (h | ⟨ob,h⟩) | h
  · exact .inl (.inl (by rw [qZ (qGw h hp (fun z=>h1 _ z.symm))];exact h))
  · exact .inl (.inr ⟨ob,by rw [qZ (qGw h hp (fun z=>h2 _ _ z.symm))];exact h⟩)
  · exact .inr h
theorem qKJ {a:Addr} {vs:List V} {u w:HO} (h:SqR K H a vs) (hp:H p=some u) (h2:∀ o x,u≠.frz o x):SqR K (upd H p w) a vs:=by
  rcases h with ⟨ob,h⟩ | h
  · exact .inl ⟨ob,by rw [qZ (qGw h hp (fun z=>h2 _ _ z.symm))];exact h⟩
  · exact .inr h
noncomputable def qFB:HO→HO→Prop
  | .lst _,.lst _=>True
  | .dK _,.dK _=>True
  | .ins _ _ _,.ins _ _ _=>True
  | _,_=>False
theorem qGk {a:Addr} {u w:HO} (h:IsL K H a) (hp:H p=some u) (hk:qFB u w):IsL K (upd H p w) a:=by
  by_cases e:a=p
  · subst e
    cases u<;>cases w<;>first | exact hk.elim | skip
    · exact⟨_,SqL.of qu⟩
    · obtain⟨vs,(h | ⟨ob,h⟩) | h⟩:=h
      · rw [hp] at h;cases h
      · rw [hp] at h;cases h
      · exact⟨vs,.inr h⟩
    · obtain⟨vs,(h | ⟨ob,h⟩) | h⟩:=h
      · rw [hp] at h;cases h
      · rw [hp] at h;cases h
      · exact⟨vs,.inr h⟩
  · obtain⟨vs,(h | ⟨ob,h⟩) | h⟩:=h
    · exact⟨vs,.inl (.inl (by rw [qZ e];exact h))⟩
    · exact⟨vs,.inl (.inr ⟨ob,by rw [qZ e];exact h⟩)⟩
    · exact⟨vs,.inr h⟩
theorem qGy {a:Addr} {u w:HO} (h:IsD H a) (hp:H p=some u) (hk:qFB u w):IsD (upd H p w) a:=by
  by_cases e:a=p
  · subst e
    obtain⟨vs,h⟩:=h
    rw [hp] at h
    cases h
    cases w<;>first | exact hk.elim | exact⟨_,qu⟩
  · obtain⟨vs,h⟩:=h
    exact⟨vs,by rw [qZ e];exact h⟩
theorem qGr {a:Addr} {u w:HO} (h:IsO H a) (hp:H p=some u) (hk:qFB u w):IsO (upd H p w) a:=by
  by_cases e:a=p
  · subst e
    obtain⟨c,d,f,h⟩:=h
    rw [hp] at h
    cases h
    cases w<;>first | exact hk.elim | exact⟨_,_,_,qu⟩
  · obtain⟨c,d,f,h⟩:=h
    exact⟨c,d,f,by rw [qZ e];exact h⟩
theorem qEI {u w:HO} (hk:qFB u w):(∀ xs,u≠.tup xs)∧∀ o x,u≠.frz o x:=by
  cases u<;>first | exact hk.elim | exact⟨(fun _ z=>nomatch z),(fun _ _ z=>nomatch z)⟩
theorem qDz {n:Nat} {u w:HO} {o:SO} (hn:n<st.length) (h:H (φ n)=some u) (hk:qFB u w):Evo K φ st.length H φ (st.set n o).length (upd H (φ n) w) :=
  ⟨by rw [List.length_set];exact Nat.le_refl _,fun _ _=>rfl,fun _ _ hh=>qJf hh h (qEI hk).1 (qEI hk).2,fun _ _ hh=>qGk hh h hk,fun _ _ hh=>qGy hh h hk,fun _ _ hh=>qGr hh h hk⟩
theorem qFN {n:Nat} {vs ws:List V} {o:SO} (h:H (φ n)=some (.lst ws)):Evo K φ st.length H φ (st.set n o).length (upd H (φ n) (.lst vs)) :=
  ⟨by rw [List.length_set];exact Nat.le_refl _,fun _ _=>rfl,fun _ _ hh=>qJU hh h,fun _ _ hh=>qGk hh h trivial,fun _ _ hh=>qGy hh h trivial,fun _ _ hh=>qGr hh h trivial⟩
theorem Rep.put {n:Nat} {u w:HO} {o q:SO} (R:Rep K φ st H) (hn:st[n]? = some q) (hq:q.wr=true) (ho:o.wr=true) (h:H (φ n)=some u) (hk:qFB u w) (hd:Holds K φ (st.set n o).length (upd H (φ n) w) o (φ n)):Rep K φ (st.set n o) (upd H (φ n) w):=by
  have hlt:=qX hn
  have ev:Evo K φ st.length H φ (st.set n o).length (upd H (φ n) w):=qDz hlt h hk
  have get:∀ {i:Nat} {x:SO},(st.set n o)[i]? = some x→(i=n∧x=o)∨(i≠n∧st[i]? = some x):=fun {i x} e=>by
    by_cases h:i=n
    · left
      subst h
      rw [List.getElem?_set_self hlt] at e
      exact⟨rfl,(Option.some.inj e).symm⟩
    · right
      rw [List.getElem?_set_ne (Ne.symm h)] at e
      exact⟨h,e⟩
  refine⟨fun i j a b e1 e2 w1 w2 hh=>?_,fun i x e=>?_⟩
  · have g:∀ {i:Nat} {a:SO},(st.set n o)[i]? = some a→a.wr=true→∃ a',st[i]? = some a'∧a'.wr=true:=fun {i a} e w=>by
      rcases get e with ⟨h,_⟩ | ⟨_,h⟩
      · rw [h];exact⟨q,hn,hq⟩
      · exact⟨a,h,w⟩
    obtain⟨z1,g1,y1⟩:=g e1 w1
    obtain⟨z2,g2,y2⟩:=g e2 w2
    exact R.injA i j z1 z2 g1 g2 y1 y2 hh
  · rcases get e with ⟨h1,h2⟩ | ⟨h1,h2⟩
    · rw [h1,h2];exact hd
    · exact (R.all i x h2).stay ev (fun _ hh=>qKJ hh h (qEI hk).2) fun w=>qZ fun z=>h1 (R.injA i n x q h2 hn w hq z)
theorem Rep.qPw {n:Nat} {vs:List V} {xs ys:List Dt} (R:Rep K φ st H) (hn:st[n]? = some (.rw ys)) (hd:DL K φ st.length H xs vs):Rep K φ (st.set n (.rw xs)) (upd H (φ n) (.lst vs)):=by
  obtain⟨ws,hw,_⟩:=R.rw n ys hn
  exact R.put hn rfl rfl hw trivial ⟨vs,qu,hd.evo (qFN hw)⟩
end
noncomputable abbrev VD:=Dt→Sto→Prop
noncomputable abbrev TD:=Rho→Sto→VD→Prop
noncomputable abbrev TBD:=Rho→Sto→(Bool→Sto→Prop)→Prop
noncomputable abbrev TAD:=Rho→Sto→(List Dt→Sto→Prop)→Prop
structure qAq where
  nx:Rho→Sto→Prop
  rt:VD
  bk:Rho→Sto→Prop:=fun _ _=>False
  ct:Rho→Sto→Prop:=fun _ _=>False
noncomputable abbrev TSD:=qAq→Rho→Sto→Prop
def DR (K:W.Frag) (φ:Nat→Addr) (N:Nat) (H:Hp) (ρ:Rho) (σ:L2.St):Prop :=
  ρ.length=σ.length∧∀ (i:Nat) d,ρ[i]? = some (some d)→∃ v,σ[i]? = some (some v)∧D K φ N H d v
section
variable {K:W.Frag} {φ φ':Nat→Addr} {N N':Nat} {H H':Hp} {ρ:Rho} {σ:L2.St}
theorem DR.evo (h:DR K φ N H ρ σ) (e:Evo K φ N H φ' N' H'):DR K φ' N' H' ρ σ :=
  ⟨h.1,fun i d q=>let ⟨v,h1,h2⟩:=h.2 i d q;⟨v,h1,h2.evo e⟩⟩
theorem DR.set {d:Dt} {v:V} (h:DR K φ N H ρ σ) (hd:D K φ N H d v) (i:Nat):DR K φ N H (ρ.set i (some d)) (σ.set i (some v)):=by
  refine⟨by rw [List.length_set,List.length_set];exact h.1,fun j e q=>?_⟩
  by_cases hj:j=i
  · subst hj
    have hl:j<ρ.length:=by
      have:=qX q
      rwa [List.length_set] at this
    rw [List.getElem?_set_self hl] at q
    cases q
    exact⟨v,by rw [List.getElem?_set_self (by rw [← h.1];exact hl)],hd⟩
  · rw [List.getElem?_set_ne (Ne.symm hj)] at q
    rw [List.getElem?_set_ne (Ne.symm hj)]
    exact h.2 j e q
end
def Pre (K:W.Frag) (φ:Nat→Addr) (st:Sto) (H:Hp) (ρ:Rho) (σ:L2.St):Prop:=Rep K φ st H∧DR K φ st.length H ρ σ
def Bhd (K:W.Frag) (φ:Nat→Addr) (st:Sto) (H:Hp) (φ':Nat→Addr) (st':Sto) (H':Hp):Prop:=Rep K φ' st' H'∧Evo K φ st.length H φ' st'.length H'
noncomputable def qAR (K:W.Frag) (t:TD):TE:=fun σ H Q=>∃ φ st ρ P,Pre K φ st H ρ σ∧t ρ st P ∧
  ∀ d st',P d st'→∀ φ' H' v,Bhd K φ st H φ' st' H'→D K φ' st'.length H' d v→Q v H'
noncomputable def liftT (K:W.Frag) (t:TBD):TT:=fun σ H Q=>∃ φ st ρ P,Pre K φ st H ρ σ∧t ρ st P ∧
  ∀ b st',P b st'→∀ φ' H',Bhd K φ st H φ' st' H'→Q b H'
noncomputable def qJx (K:W.Frag) (t:TAD):TA:=fun σ H Q=>∃ φ st ρ P,Pre K φ st H ρ σ∧t ρ st P ∧
  ∀ ds st',P ds st'→∀ φ' H' vs,Bhd K φ st H φ' st' H'→DL K φ' st'.length H' ds vs→Q vs H'
noncomputable def qEr (K:W.Frag) (t:TSD):TS:=fun E σ H=>∃ φ st ρ P,Pre K φ st H ρ σ∧t P ρ st ∧
  (∀ ρ' st',P.nx ρ' st'→∀ φ' H' σ',Bhd K φ st H φ' st' H'→DR K φ' st'.length H' ρ' σ'→E.nx σ' H') ∧
  (∀ ρ' st',P.bk ρ' st'→∀ φ' H' σ',Bhd K φ st H φ' st' H'→DR K φ' st'.length H' ρ' σ'→E.bk σ' H') ∧
  (∀ ρ' st',P.ct ρ' st'→∀ φ' H' σ',Bhd K φ st H φ' st' H'→DR K φ' st'.length H' ρ' σ'→E.ct σ' H') ∧
  (∀ d st',P.rt d st'→∀ φ' H' v,Bhd K φ st H φ' st' H'→D K φ' st'.length H' d v→E.rt v H')
def DE (X:Cx) (e:Expr) (t:TD):Prop:=PE X e (qAR X.K t)
def DT (X:Cx) (e:Expr) (t:TBD):Prop:=PT X e (liftT X.K t)
def DA (X:Cx) (es:List Expr) (t:TAD):Prop:=PA X es (qJx X.K t)
def DS (X:Cx) (s:Stmt) (t:TSD):Prop:=PS X s (qEr X.K t)
def DSs (X:Cx) (s:List Stmt) (t:TSD):Prop:=PSs X s (qEr X.K t)
section
variable {K:W.Frag} {φ φ1 φ2:Nat→Addr} {st st1 st2:Sto} {H H1 H2:Hp} {ρ:Rho} {σ:L2.St}
theorem Bhd.refl (h:Rep K φ st H):Bhd K φ st H φ st H:=⟨h,.refl⟩
theorem Bhd.trans (a:Bhd K φ st H φ1 st1 H1) (b:Bhd K φ1 st1 H1 φ2 st2 H2):Bhd K φ st H φ2 st2 H2:=⟨b.1,a.2.trans b.2⟩
theorem Pre.on (p:Pre K φ st H ρ σ) (b:Bhd K φ st H φ1 st1 H1):Pre K φ1 st1 H1 ρ σ:=⟨b.1,p.2.evo b.2⟩
end
theorem _root_.L2.PE.imp {X:Cx} {e:Expr} {t t':TE} (h:PE X e t) (i:∀ σ H Q,t' σ H Q→t σ H Q):PE X e t':=fun pins s σ H Q I q=>h pins s σ H Q I (i σ H Q q)
theorem _root_.L2.PT.imp {X:Cx} {e:Expr} {t t':TT} (h:PT X e t) (i:∀ σ H Q,t' σ H Q→t σ H Q):PT X e t':=fun pins s σ H Q I q=>h pins s σ H Q I (i σ H Q q)
theorem _root_.L2.PA.imp {X:Cx} {es:List Expr} {t t':TA} (h:PA X es t) (i:∀ σ H Q,t' σ H Q→t σ H Q):PA X es t':=fun pos pins s σ H Q I q=>h pos pins s σ H Q I (i σ H Q q)
theorem _root_.L2.PS.imp {X:Cx} {e:Stmt} {t t':TS} (h:PS X e t) (i:∀ D σ H,t' D σ H→t D σ H):PS X e t':=fun pins s σ H Dn I q=>h pins s σ H Dn I (i Dn σ H q)
theorem _root_.L2.PSs.imp {X:Cx} {e:List Stmt} {t t':TS} (h:PSs X e t) (i:∀ D σ H,t' D σ H→t D σ H):PSs X e t':=fun pins s σ H Dn I q=>h pins s σ H Dn I (i Dn σ H q)
end L3
namespace L3
open PySem PySem.Spec PyProof.Rows L2
open AutoSeq1 (wpAny_loadPart')
section
variable {prog:Program} {w:World} {A:Around} {E:Value→Shared→Prop} {s:Shared}
theorem qJk {t b:Addr} {vs ws:List Value} {Q:Value→Shared→Prop} (ht:IsTup s.heap t vs.toArray) (hb:IsTup s.heap b ws.toArray)
    (h0:vs=[]→Q (.ref b) s) (h1:vs≠[]→ws=[]→Q (.ref t) s) (h2:vs≠[]→ws≠[]→Q (.ref s.heap.objs.size) { s with heap:=s.heap.push { cls:=.type "tuple",data:=.seq (vs++ws).toArray } })
    (hsz:vs.length+ws.length≤sizeLine):wpAny (model prog w) A (binaryOp .Add (.ref t) (.ref b)) Q E s:=by
  by_cases hv:vs=[]
  · obtain⟨⟨cls,dd,data,sl⟩,ho,hc,n,hd⟩:=id ht
    obtain⟨⟨cls2,dd2,data2,sl2⟩,ho2,hc2,n2,hd2⟩:=id hb
    simp only at hc hd hc2 hd2
    subst hc hd hc2 hd2
    exact concat_meets ⟨_,ho,rfl⟩ ⟨_,ho2,rfl⟩ noFill_tuple_add seq_tuple_add PySem.F.slot_tuple_add PySem.F.entry_tuple_add (PySem.F.args_tuple_add_2 _ _)
      (tuple_addW0 t b vs.toArray ws.toArray n n2 dd dd2 sl sl2 (by simp [hv])) ⟨ho,ho2,h0 hv⟩
  · exact HT.qLY ht hb hv (h1 hv) (h2 hv) hsz
end
theorem qC6:fillsNumberSlot (.type "tuple") "mul" = pure false :=
  PySem.fillsNumberSlot_seq (id:= "tuple.__mul__") (r:=some (.builtin "tuple.__rmul__")) F.slot_tuple_mul.lookup (by decide +kernel) F.slot_tuple_rmul.lookup (by decide +kernel)
theorem qGD:seqRepeat? (.type "tuple")=pure (some (.builtin "tuple.__mul__")):=by
  unfold seqRepeat?
  rw [PySem.seqSlot_of (T:= "tuple") (name:= "__mul__") (id:= "tuple.__mul__") F.slot_tuple_mul.lookup (by decide +kernel),PySem.seqSlot_of (T:= "tuple") (name:= "__rmul__") (id:= "tuple.__rmul__") F.slot_tuple_rmul.lookup (by decide +kernel)]
  rfl
theorem qEG (a:Int) (t:Tok) (l:Addr) (items:Array Value) (n:Nat) (d:Option Addr) (sl:Array (Option Value)) :
    Meets (Builtin.«int.__rmul__» ⟨[.int a t,.ref l],[]⟩) (fun _ R s=>s.heap.get? l=some { cls:=.type "tuple",dict:=d,data:=.seq items n,slots:=sl }∧R (.ok (.ret Value.notImplemented)) s) :=
  .of_wp fun prog w A R s h=>by obtain⟨hp,g,d,tk,os⟩:=s;obtain⟨hl,h⟩:=h;wp_walk;exact⟨_,rfl,h⟩
theorem qHX (l:Addr) (items:Array Value) (n:Nat) (d:Option Addr) (sl:Array (Option Value)) (x:Int) (u:Tok) (h0:items.isEmpty=false) (h1:2≤x) (h2:x<2 ^ 20) (h3:items.size * x.toNat≤sizeLine) :
    Meets (Builtin.«tuple.__mul__» ⟨[.ref l,.int x u],[]⟩) (fun _ R s=>s.heap.get? l=some { cls:=.type "tuple",dict:=d,data:=.seq items n,slots:=sl } ∧
      R (.ok (.ret (Value.ref s.heap.objs.size))) { s with heap:=s.heap.push { cls:=Value.type "tuple",data:=Data.seq (List.foldl (fun x1 x2=>x1++x2) #[] (List.replicate x.toNat items)) },toks:=s.toks }) :=
  .of_wp fun prog w A R s h=>by
    obtain⟨hp,g,d,tk,os⟩:=s;obtain⟨hl,h⟩:=h
    have f1:=AutoSeq1.idx_int
    have e1:(decide (x < -(2 ^ 63)) || decide (x ≥ 2 ^ 63))=false:=by
      rw [decide_eq_false (by omega),decide_eq_false (by omega)];rfl
    have e2:(items.isEmpty || x==1)=false:=by
      rw [h0,Bool.false_or];exact beq_eq_false_iff_ne.mpr (by omega)
    have e3:(decide (x≤0) || items.isEmpty)=false:=by
      rw [h0,Bool.or_false];exact decide_eq_false (by omega)
    have e4:¬ ((items.size:Int) * x > (2 ^ 63 - 1) / 8):=by
      have hb:items.size * x.toNat≤16777216:=by rw [← sizeLine_eq];exact h3
      have:(items.size:Int) * x=((items.size * x.toNat:Nat):Int):=by
        rw [Int.natCast_mul,Int.toNat_of_nonneg (by omega)]
      rw [this]
      omega
    wp_walk using wpAny_loadPart' hl
    rw [if_neg (fun q=>Bool.false_ne_true (e1.symm.trans q))]
    wp_walk using wpAny_loadPart' hl
    rw [if_neg (fun q=>Bool.false_ne_true (e2.symm.trans q))]
    wp_walk using wpAny_loadPart' hl
    rw [if_neg (fun q=>Bool.false_ne_true (e3.symm.trans q))]
    wp_walk using wpAny_loadPart' hl
    rw [if_neg e4]
    wp_walk using wpAny_loadPart' hl
    have hx:(items.size:Int) * x=((items.size * x.toNat:Nat):Int):=by
      rw [Int.natCast_mul,Int.toNat_of_nonneg (by omega)]
    have e5:Builtin.Tuple.tupleTooMany ((items.size:Int) * x)=false:=by
      unfold Builtin.Tuple.tupleTooMany
      rw [hx]
      exact decide_eq_false (by omega)
    rw [if_neg (fun q=>Bool.false_ne_true (e5.symm.trans q))]
    have f0:List.foldl (fun x1 x2=>x1++x2) #[] (List.replicate x.toNat items)=(List.replicate x.toNat items.toList).flatten.toArray:=by
      have:=foldl_rep items.toList x.toNat []
      rw [List.nil_append,Array.toArray_toList] at this
      exact this
    have hsz:sizeOk (.seq (List.foldl (fun x1 x2=>x1++x2) #[] (List.replicate x.toNat items))):=by
      show (List.foldl (fun x1 x2=>x1++x2) #[] (List.replicate x.toNat items)).size≤sizeLine
      rw [f0,List.size_toArray,len_rep,Array.length_toList,Nat.mul_comm]
      exact h3
    unfold Builtin.Tuple.tupleExact
    exact wpAny_bind (wpAny_newObj_type (wpAny_pure ⟨_,rfl,h⟩) hsz)
section
variable {X:Cx}
theorem qLi:OpR X (binaryOp .Add) (fun x y H Q=>∃ a b xs ys,x = .ref a∧y = .ref b∧SqT X.K H a xs∧SqT X.K H b ys∧xs.length+ys.length≤sizeLine ∧
    (xs=[]→Q (.ref b) H)∧(xs≠[]→ys=[]→Q (.ref a) H)∧(xs≠[]→ys≠[]→∀ p,H p=none→Q (.ref p) (upd H p (.tup (xs++ys))))):=by
  k_dat 0"r4"
  obtain⟨a,b,xs,ys,rfl,rfl,ha,hb,hz,q0,q1,q2⟩:=h
  cases rx
  cases ry
  obtain⟨its,r1,p1,_⟩:=I.tuple ha
  obtain⟨its2,r2,p2,_⟩:=I.tuple hb
  refine qJk p1 p2 (fun z=>⟨.ref b,H,I,rfl,q0 (r1.qCt.mp z)⟩) (fun z1 z=>⟨.ref a,H,I,rfl,q1 (fun w=>z1 (r1.qCt.mpr w)) (r2.qCt.mp z)⟩) (fun z1 z=>?_) (by rw [← r1.length,← r2.length];exact hz)
  refine⟨.ref s.heap.objs.size,_,I.laid (t':=s.toks) (o:=.tup (xs++ys)) (fun b ob q=>Heap.get?_push_of_some _ q) (Nat.le_refl _) ?_,rfl,q2 (fun w=>z1 (r1.qCt.mpr w)) (fun w=>z (r2.qCt.mpr w)) _ (I.hok.fresh (Nat.le_refl _))⟩
  exact⟨by rw [List.length_append];exact hz,_,r1.append r2,qA7.new _ _⟩
theorem qLC:OpR X (binaryOp .Mult) (fun x y H Q=>∃ a k xs,x = .ref a∧y = .int k∧SqT X.K H a xs∧xs≠[]∧2≤k∧k<2 ^ 20∧xs.length * k.toNat≤sizeLine ∧
    ∀ p,H p=none→Q (.ref p) (upd H p (.tup (List.replicate k.toNat xs).flatten))):=by
  k_dat 0"r4"
  obtain⟨a,k,xs,rfl,rfl,ha,hne,h2,h3,hz,q⟩:=h
  cases rx
  obtain⟨t,rfl⟩:=ry
  obtain⟨its,r1,p1,_⟩:=I.tuple ha
  have hl:=r1.length
  obtain⟨⟨cls,dd,data,sl⟩,ho,hc,n,hd⟩:=id p1
  simp only at hc hd
  subst hc hd
  have f0:List.foldl (fun x1 x2=>x1++x2) #[] (List.replicate k.toNat its.toArray)=(List.replicate k.toNat its).flatten.toArray:=by
    have:=foldl_rep its k.toNat []
    rw [List.nil_append] at this
    exact this
  have hz':its.toArray.size * k.toNat≤sizeLine:=by rw [List.size_toArray,← hl];exact hz
  have he:its.toArray.isEmpty=false:=by
    cases its with
    | nil=>exact absurd (List.length_eq_zero_iff.mp hl) hne
    | cons _ _=>rfl
  refine wpAny_binaryOp_repeat_ref (T:= "tuple") (U:= "int") (by decide) ⟨_,ho,rfl⟩ (fun s'=>typeIs_int s' k t) qC6 F.fills_int_mul F.slot_int_rmul qGD F.slot_int_index.lookup
    (call_meets F.slot_int_rmul (typeIs_int s k t) F.entry_int_rmul (F.args_int_rmul_2 _ _) (qEG k t a its.toArray n dd sl)
      ⟨ho,rfl,⟨_,ho,rfl⟩,call_meets F.slot_tuple_mul ⟨_,ho,rfl⟩ F.entry_tuple_mul (F.args_tuple_mul_2 _ _) (qHX a its.toArray n dd sl k t he h2 h3 hz') ⟨ho,?_⟩⟩)
  rw [f0]
  refine⟨.ref s.heap.objs.size,_,I.laid (t':=s.toks) (o:=.tup (List.replicate k.toNat xs).flatten) (fun b ob q=>Heap.get?_push_of_some _ q) (Nat.le_refl _) ?_,rfl,q _ (I.hok.fresh (Nat.le_refl _))⟩
  exact⟨by rw [len_rep,Nat.mul_comm];exact hz,_,Vals.rep r1 _,qA7.new _ _⟩
end
theorem qEf (l:Addr) (items:Array Value) (n:Nat) (dd:Option Addr) (sl:Array (Option Value)) (x:Value) (e:Value→Bool) (j:Nat) (hj:j<items.size) (hit:e items[j]=true) (hno:∀ m (hm:m<items.size),m<j→e items[m]=false) :
    Meets (Builtin.«tuple.index» ⟨[.ref l,x],[]⟩)
      (fun A R s=>s.heap.get? l=some { cls:=.type "tuple",dict:=dd,data:=.seq items n,slots:=sl }∧(∀ y,y∈items→SeqAt.EqAt A.in1 s y x (e y))∧R (.ok (.ret (.int j s.toks))) { s with toks:=s.toks+1 }) :=
  .of_wp fun prog w A R s h=>by
    obtain⟨hp,g,d,tk,os⟩:=s;obtain⟨hl,he,h⟩:=h
    unfold Builtin.«tuple.index»
    simp only [Std.Legacy.Range.forIn_eq_forIn_range']
    wp_walk using wpAny_loadPart' hl,wpAny_forIn_list _ (fun rest b s'=>b.1=none∧s'=⟨hp,g,d,tk,os⟩∧∃ i,rest=List.range' i (items.size - i) 1∧i≤j) _
    case turn =>
      rintro k rest b s' ⟨hb',rfl,i,hz,hij⟩
      obtain⟨q,hq⟩:∃ q,items.size - i=q+1:=⟨items.size - i - 1,by omega⟩
      rw [hq,List.range'_succ] at hz
      injection hz with hk hr
      subst hk
      have hlt:k<items.size:=by omega
      have hget:items[k]? = some items[k]:=by simp [hlt]
      rw [hget]
      refine wpAny_bind (he _ (Array.getElem_mem hlt) prog w _ _ ?_)
      by_cases hji:k=j
      · subst hji
        rw [hit]
        wp_walk
        exact⟨_,rfl,h⟩
      · rw [hno k hlt (by omega)]
        wp_walk
        exact⟨rfl,rfl,k+1,by rw [hr];congr 1;omega,by omega⟩
    case fin =>
      rintro b s' ⟨hb',rfl,i,hz,hij⟩
      obtain⟨q,hq⟩:∃ q,items.size - i=q+1:=⟨items.size - i - 1,by omega⟩
      rw [hq,List.range'_succ] at hz
      cases hz
    case h =>
      exact⟨rfl,rfl,0,by simp [Std.Legacy.Range.size],Nat.zero_le _⟩
end L3
namespace L3
open PySem PySem.Spec PyProof.Rows L2
noncomputable def okD:Nat→Dt→Bool
  | 0,.tup _=>false
  | n+1,.tup xs=>xs.all (okD n)
  | _,.lst _=>false
  | _,.ty _=>false
  | _,.dic _=>false
  | _,.ins _=>false
  | _,_=>true
noncomputable def eqL (f:Dt→Dt→Bool):List Dt→List Dt→Bool
  | [],[]=>true
  | x::xs,y::ys=>f x y&&eqL f xs ys
  | _,_=>false
noncomputable def eqD:Nat→Dt→Dt→Bool
  | _,.non,.non=>true
  | _,.bl a,.bl b=>a==b
  | _,.bl a,.int b=>(if a then 1 else 0)==b
  | _,.int a,.bl b=>a==(if b then 1 else 0)
  | _,.int a,.int b=>a==b
  | _,.str a,.str b=>a==b
  | n+1,.tup a,.tup b=>eqL (eqD n) a b
  | _,_,_=>false
theorem qGn {f:Dt→Dt→Bool}:∀ {xs:List Dt},(∀ x∈xs,f x x=true)→eqL f xs xs=true
  | [],_=>rfl
  | x::xs,h=>by
    unfold eqL
    rw [h x List.mem_cons_self,qGn fun y hy=>h y (List.mem_cons_of_mem _ hy)]
    rfl
theorem qGd:∀ {n:Nat} {d:Dt},okD n d=true→eqD n d d=true
  | 0,.tup _,h=>by simp [okD] at h
  | n+1,.tup xs,h=>by
    simp only [okD] at h
    simp only [eqD]
    exact qGn fun x hx=>qGd (List.all_eq_true.mp h x hx)
  | n,.non,_=>by cases n<;>rfl
  | n,.bl b,_=>by cases n<;>simp [eqD]
  | n,.int b,_=>by cases n<;>simp [eqD]
  | n,.str b,_=>by cases n<;>simp [eqD]
  | n,.lst _,h=>by cases n<;>simp [okD] at h
  | n,.ty _,h=>by cases n<;>simp [okD] at h
  | n,.dic _,h=>by cases n<;>simp [okD] at h
  | n,.ins _,h=>by cases n<;>simp [okD] at h
theorem qA4 {f:Dt→Dt→Bool}:∀ (xs ys:List Dt),eqL f xs ys=((List.range (min xs.length ys.length)).all (fun j=>f (xs.getD j .non) (ys.getD j .non))&&xs.length==ys.length)
  | [],[]=>rfl
  | [],_::_=>by simp [eqL]
  | _::_,[]=>by simp [eqL]
  | x :: xs,y::ys=>by
    unfold eqL
    rw [qA4 xs ys]
    have e:min (x::xs).length (y::ys).length=min xs.length ys.length+1:=by simp [Nat.succ_min_succ]
    rw [e,List.range_succ_eq_map,List.all_cons,List.all_map]
    simp only [List.getD_cons_zero,List.length_cons]
    have e2:((xs.length+1==ys.length+1):Bool)=(xs.length==ys.length):=by
      rw [Bool.eq_iff_iff];simp
    rw [e2,Bool.and_assoc]
    rfl
section
variable {X:Cx} {pins:List (Addr×Obj)} {σ:L2.St} {H:Hp} {s:Shared} {φ:Nat→Addr} {N:Nat}
theorem qDa {xs:List Dt} {j:Nat} {d:Dt} (h:xs[j]? = some d):xs.getD j .non=d:=by simp [List.getD,h]
theorem qFv {f:Dt→Bool} (hf:∀ {d e:Dt} {v:V},f d=true→f e=true→D X.K φ N H d v→D X.K φ N H e v→d=e):∀ {a b:List Dt} {vs:List V},DL X.K φ N H a vs→DL X.K φ N H b vs→a.all f=true→b.all f=true→a=b
  | [],[],_,_,_,_,_=>rfl
  | [],y::b,vs,h1,h2,_,_=>by
    have:=h1.length;have:=h2.length;simp at *;omega
  | x::a,[],vs,h1,h2,_,_=>by
    have:=h1.length;have:=h2.length;simp at *;omega
  | x::a,y::b,vs,h1,h2,o1,o2=>by
    rw [List.all_cons,Bool.and_eq_true] at o1 o2
    simp only [DL] at h1 h2
    obtain⟨v,r,rfl,p1,p2⟩:=h1
    obtain⟨v',r',e,q1,q2⟩:=h2
    cases e
    rw [hf o1.1 o2.1 p1 q1,qFv hf p2 q2 o1.2 o2.2]
theorem qMW (I:Inv X pins σ H s):∀ (n:Nat) {d e:Dt} {v:V},okD n d=true→okD n e=true→D X.K φ N H d v→D X.K φ N H e v→d=e:=by
  intro n
  induction n with
  | zero =>
    intro d e v o1 o2 h1 h2
    cases d<;>cases e<;>first
      | (exfalso;revert o1;simp [okD];done)
      | (exfalso;revert o2;simp [okD];done)
      | (simp only [D] at h1 h2;subst h1;first | (cases h2;rfl) | (cases h2))
  | succ n ih =>
    intro d e v o1 o2 h1 h2
    cases d<;>cases e<;>first
      | (exfalso;revert o1;simp [okD];done)
      | (exfalso;revert o2;simp [okD];done)
      | (simp only [D] at h1 h2;subst h1;first | (cases h2;rfl) | (cases h2;done) | (obtain⟨_,_,z,_⟩:=h2;cases z))
      | (simp only [D] at h1 h2;subst h2;obtain⟨_,_,z,_⟩:=h1;cases z)
      | (simp only [okD] at o1 o2
         obtain⟨p,vs,e1,hs,hd⟩:=h1.tup
         obtain⟨q,ws,e2,hs2,hd2⟩:=h2.tup
         rw [e1] at e2
         cases e2
         have:=I.qFJ hs hs2
         subst this
         rw [qFv (f:=okD n) (fun a b c d=>ih a b c d) hd hd2 o1 o2])
theorem qN6 (I:Inv X pins σ H s) {n:Nat} {a b:List Dt} {vs:List V} (h1:DL X.K φ N H a vs) (h2:DL X.K φ N H b vs) (o1:a.all (okD n)=true) (o2:b.all (okD n)=true):a=b :=
  qFv (fun a b c d=>qMW I n a b c d) h1 h2 o1 o2
theorem qHJ (I:Inv X pins σ H s):∀ (n:Nat) {A:Around} {d e:Dt} {v w:V} {u1 u2:Value},A.units+n<cLine→okD n d=true→okD n e=true→D X.K φ N H d v→D X.K φ N H e w→RelV v u1→RelV w u2→SeqAt.EqAt A s u1 u2 (eqD n d e)
  | n,A,.non,.non,v,w,u1,u2,hu,_,_,h1,h2,r1,r2=>by cases h1.non;cases h2.non;cases r1;cases r2;cases n<;>exact SeqAt.EqAt.same _
  | n,A,.non,.bl b,v,w,u1,u2,hu,_,_,h1,h2,r1,r2=>by cases h1.non;cases h2.bl;cases r1;cases r2;cases n<;>exact SeqAt.EqAt.none_bool b
  | n,A,.non,.int b,v,w,u1,u2,hu,_,_,h1,h2,r1,r2=>by cases h1.non;cases h2.int;cases r1;obtain⟨t,rfl⟩:=r2;cases n<;>exact SeqAt.EqAt.none_int b t
  | n,A,.non,.str b,v,w,u1,u2,hu,_,_,h1,h2,r1,r2=>by cases h1.non;cases h2.str;cases r1;obtain⟨t,rfl⟩:=r2;cases n<;>exact SeqAt.EqAt.none_str b t
  | n,A,.bl a,.non,v,w,u1,u2,hu,_,_,h1,h2,r1,r2=>by cases h1.bl;cases h2.non;cases r1;cases r2;cases n<;>exact SeqAt.EqAt.bool_none a
  | n,A,.bl a,.bl b,v,w,u1,u2,hu,_,_,h1,h2,r1,r2=>by cases h1.bl;cases h2.bl;cases r1;cases r2;cases n<;>exact SeqAt.EqAt.bool_bool a b
  | n,A,.bl a,.int b,v,w,u1,u2,hu,_,_,h1,h2,r1,r2=>by cases h1.bl;cases h2.int;cases r1;obtain⟨t,rfl⟩:=r2;cases n<;>exact SeqAt.EqAt.bool_int a b t
  | n,A,.bl a,.str b,v,w,u1,u2,hu,_,_,h1,h2,r1,r2=>by cases h1.bl;cases h2.str;cases r1;obtain⟨t,rfl⟩:=r2;cases n<;>exact SeqAt.EqAt.bool_str a b t
  | n,A,.int a,.non,v,w,u1,u2,hu,_,_,h1,h2,r1,r2=>by cases h1.int;cases h2.non;obtain⟨t,rfl⟩:=r1;cases r2;cases n<;>exact SeqAt.EqAt.int_none a t
  | n,A,.int a,.bl b,v,w,u1,u2,hu,_,_,h1,h2,r1,r2=>by cases h1.int;cases h2.bl;obtain⟨t,rfl⟩:=r1;cases r2;cases n<;>exact SeqAt.EqAt.int_bool a t b
  | n,A,.int a,.int b,v,w,u1,u2,hu,_,_,h1,h2,r1,r2=>by cases h1.int;cases h2.int;obtain⟨t,rfl⟩:=r1;obtain⟨t',rfl⟩:=r2;cases n<;>exact SeqAt.EqAt.int_int a t b t'
  | n,A,.int a,.str b,v,w,u1,u2,hu,_,_,h1,h2,r1,r2=>by cases h1.int;cases h2.str;obtain⟨t,rfl⟩:=r1;obtain⟨t',rfl⟩:=r2;cases n<;>exact SeqAt.EqAt.int_str a t b t'
  | n,A,.str a,.non,v,w,u1,u2,hu,_,_,h1,h2,r1,r2=>by cases h1.str;cases h2.non;obtain⟨t,rfl⟩:=r1;cases r2;cases n<;>exact SeqAt.EqAt.str_none a t
  | n,A,.str a,.bl b,v,w,u1,u2,hu,_,_,h1,h2,r1,r2=>by cases h1.str;cases h2.bl;obtain⟨t,rfl⟩:=r1;cases r2;cases n<;>exact SeqAt.EqAt.str_bool a t b
  | n,A,.str a,.int b,v,w,u1,u2,hu,_,_,h1,h2,r1,r2=>by cases h1.str;cases h2.int;obtain⟨t,rfl⟩:=r1;obtain⟨t',rfl⟩:=r2;cases n<;>exact SeqAt.EqAt.str_int a t b t'
  | n,A,.str a,.str b,v,w,u1,u2,hu,_,_,h1,h2,r1,r2=>by cases h1.str;cases h2.str;obtain⟨t,rfl⟩:=r1;obtain⟨t',rfl⟩:=r2;cases n<;>exact SeqAt.EqAt.str_str a t b t'
  | n,A,.tup a,.non,v,w,u1,u2,hu,_,_,h1,h2,r1,r2=>by
    obtain⟨p,vs,rfl,hs,hd⟩:=h1.tup;cases h2.non;cases r1;cases r2;obtain⟨its,_,ht,_⟩:=I.tuple hs;cases n<;>exact SeqAt.EqAt.tuple_none ht (by omega)
  | n,A,.tup a,.bl b,v,w,u1,u2,hu,_,_,h1,h2,r1,r2=>by
    obtain⟨p,vs,rfl,hs,hd⟩:=h1.tup;cases h2.bl;cases r1;cases r2;obtain⟨its,_,ht,_⟩:=I.tuple hs;cases n<;>exact SeqAt.EqAt.tuple_bool b ht (by omega)
  | n,A,.tup a,.int b,v,w,u1,u2,hu,_,_,h1,h2,r1,r2=>by
    obtain⟨p,vs,rfl,hs,hd⟩:=h1.tup;cases h2.int;cases r1;obtain⟨t',rfl⟩:=r2;obtain⟨its,_,ht,_⟩:=I.tuple hs;cases n<;>exact SeqAt.EqAt.tuple_int b t' ht (by omega)
  | n,A,.tup a,.str b,v,w,u1,u2,hu,_,_,h1,h2,r1,r2=>by
    obtain⟨p,vs,rfl,hs,hd⟩:=h1.tup;cases h2.str;cases r1;obtain⟨t',rfl⟩:=r2;obtain⟨its,_,ht,_⟩:=I.tuple hs;cases n<;>exact SeqAt.EqAt.tuple_str b t' ht (by omega)
  | n,A,.non,.tup b,v,w,u1,u2,hu,_,_,h1,h2,r1,r2=>by
    obtain⟨p,vs,rfl,hs,hd⟩:=h2.tup;cases h1.non;cases r1;cases r2;obtain⟨its,_,ht,_⟩:=I.tuple hs;cases n<;>exact SeqAt.EqAt.none_tuple ht (by omega)
  | n,A,.bl a,.tup b,v,w,u1,u2,hu,_,_,h1,h2,r1,r2=>by
    obtain⟨p,vs,rfl,hs,hd⟩:=h2.tup;cases h1.bl;cases r1;cases r2;obtain⟨its,_,ht,_⟩:=I.tuple hs;cases n<;>exact SeqAt.EqAt.bool_tuple a ht (by omega)
  | n,A,.int a,.tup b,v,w,u1,u2,hu,_,_,h1,h2,r1,r2=>by
    obtain⟨p,vs,rfl,hs,hd⟩:=h2.tup;cases h1.int;obtain⟨t',rfl⟩:=r1;cases r2;obtain⟨its,_,ht,_⟩:=I.tuple hs;cases n<;>exact SeqAt.EqAt.int_tuple a t' ht (by omega)
  | n,A,.str a,.tup b,v,w,u1,u2,hu,_,_,h1,h2,r1,r2=>by
    obtain⟨p,vs,rfl,hs,hd⟩:=h2.tup;cases h1.str;obtain⟨t',rfl⟩:=r1;cases r2;obtain⟨its,_,ht,_⟩:=I.tuple hs;cases n<;>exact SeqAt.EqAt.str_tuple a t' ht (by omega)
  | 0,A,.tup a,.tup b,v,w,u1,u2,hu,o1,_,h1,h2,r1,r2=>by simp [okD] at o1
  | n + 1,A,.tup a,.tup b,v,w,u1,u2,hu,o1,o2,h1,h2,r1,r2=>by
    simp only [okD] at o1 o2
    obtain⟨p,vs,rfl,hs,hd⟩:=h1.tup
    obtain⟨q,ws,rfl,hs2,hd2⟩:=h2.tup
    cases r1;cases r2
    obtain⟨its,rv,ht,_⟩:=I.tuple hs
    obtain⟨its2,rv2,ht2,_⟩:=I.tuple hs2
    k_dat 0"r28"
    k_dat 0"r29"
    have hu':A.in1.units+n<cLine:=by show A.units+1+n<cLine;omega
    have rc:SeqAt.RcAt A s (.ref p) (.ref q) (eqD (n+1) (.tup a) (.tup b)):=by
      have:=SeqAt.RcAt.tuples (A:=A) (s:=s) (e:=fun j=>eqD n (a.getD j .non) (b.getD j .non)) ht ht2 (by omega) (fun j h1 h2=>by
        have hj1:j<a.length:=by rw [← l1];exact h1
        have hj2:j<b.length:=by rw [← l2];exact h2
        have ea:a[j]? = some a[j]:=by simp [hj1]
        have eb:b[j]? = some b[j]:=by simp [hj2]
        obtain⟨x,ex,dx⟩:=hd.get ea
        obtain⟨y,ey,dy⟩:=hd2.get eb
        obtain⟨ux,eux,rx⟩:=rv.get ex
        obtain⟨uy,euy,ry⟩:=rv2.get ey
        have gx:its.toArray[j]=ux:=by
          have:its[j]? = some its[j]:=by simp at h1;simp [h1]
          rw [eux] at this
          k_dat 0"r30"
        have gy:its2.toArray[j]=uy:=by
          have:its2[j]? = some its2[j]:=by simp at h2;simp [h2]
          rw [euy] at this
          k_dat 0"r30"
        rw [gx,gy,qDa ea,qDa eb]
        exact qHJ I n hu' (List.all_eq_true.mp o1 _ (List.getElem_mem hj1)) (List.all_eq_true.mp o2 _ (List.getElem_mem hj2)) dx dy rx ry)
      rw [l1,l2] at this
      simp only [eqD]
      rw [qA4]
      exact this
    by_cases hpq:p=q
    · subst hpq
      have:eqD (n+1) (.tup a) (.tup b)=true∨eqD (n+1) (.tup a) (.tup b)=false:=by cases eqD (n+1) (.tup a) (.tup b)<;>simp
      have e1:its=its2:=by
        obtain⟨o,e,_,m,d⟩:=ht
        obtain⟨o',e',_,m',d'⟩:=ht2
        rw [e] at e';cases e'
        rw [d] at d'
        injection d' with d1 _
        simpa using congrArg Array.toList d1
      have ev:vs=ws:=by subst e1;exact rv.inj rv2
      have eab:a=b:=by
        subst ev
        exact qN6 I hd hd2 o1 o2
      subst eab
      rw [qGd (by simp only [okD];exact o1)]
      exact SeqAt.EqAt.same _
    · exact SeqAt.EqAt.of_refs hpq rc
  | n,A,.lst _,_,v,w,u1,u2,hu,o1,_,h1,h2,r1,r2=>by cases n<;>simp [okD] at o1
  | n,A,.ty _,_,v,w,u1,u2,hu,o1,_,h1,h2,r1,r2=>by cases n<;>simp [okD] at o1
  | n,A,.dic _,_,v,w,u1,u2,hu,o1,_,h1,h2,r1,r2=>by cases n<;>simp [okD] at o1
  | n,A,.ins _,_,v,w,u1,u2,hu,o1,_,h1,h2,r1,r2=>by cases n<;>simp [okD] at o1
  | n,A,.non,.lst _,v,w,u1,u2,hu,_,o1,h1,h2,r1,r2=>by cases n<;>simp [okD] at o1
  | n,A,.non,.ty _,v,w,u1,u2,hu,_,o1,h1,h2,r1,r2=>by cases n<;>simp [okD] at o1
  | n,A,.non,.dic _,v,w,u1,u2,hu,_,o1,h1,h2,r1,r2=>by cases n<;>simp [okD] at o1
  | n,A,.non,.ins _,v,w,u1,u2,hu,_,o1,h1,h2,r1,r2=>by cases n<;>simp [okD] at o1
  | n,A,.bl _,.lst _,v,w,u1,u2,hu,_,o1,h1,h2,r1,r2=>by cases n<;>simp [okD] at o1
  | n,A,.bl _,.ty _,v,w,u1,u2,hu,_,o1,h1,h2,r1,r2=>by cases n<;>simp [okD] at o1
  | n,A,.bl _,.dic _,v,w,u1,u2,hu,_,o1,h1,h2,r1,r2=>by cases n<;>simp [okD] at o1
  | n,A,.bl _,.ins _,v,w,u1,u2,hu,_,o1,h1,h2,r1,r2=>by cases n<;>simp [okD] at o1
  | n,A,.int _,.lst _,v,w,u1,u2,hu,_,o1,h1,h2,r1,r2=>by cases n<;>simp [okD] at o1
  | n,A,.int _,.ty _,v,w,u1,u2,hu,_,o1,h1,h2,r1,r2=>by cases n<;>simp [okD] at o1
  | n,A,.int _,.dic _,v,w,u1,u2,hu,_,o1,h1,h2,r1,r2=>by cases n<;>simp [okD] at o1
  | n,A,.int _,.ins _,v,w,u1,u2,hu,_,o1,h1,h2,r1,r2=>by cases n<;>simp [okD] at o1
  | n,A,.str _,.lst _,v,w,u1,u2,hu,_,o1,h1,h2,r1,r2=>by cases n<;>simp [okD] at o1
  | n,A,.str _,.ty _,v,w,u1,u2,hu,_,o1,h1,h2,r1,r2=>by cases n<;>simp [okD] at o1
  | n,A,.str _,.dic _,v,w,u1,u2,hu,_,o1,h1,h2,r1,r2=>by cases n<;>simp [okD] at o1
  | n,A,.str _,.ins _,v,w,u1,u2,hu,_,o1,h1,h2,r1,r2=>by cases n<;>simp [okD] at o1
  | n,A,.tup _,.lst _,v,w,u1,u2,hu,_,o1,h1,h2,r1,r2=>by cases n<;>simp [okD] at o1
  | n,A,.tup _,.ty _,v,w,u1,u2,hu,_,o1,h1,h2,r1,r2=>by cases n<;>simp [okD] at o1
  | n,A,.tup _,.dic _,v,w,u1,u2,hu,_,o1,h1,h2,r1,r2=>by cases n<;>simp [okD] at o1
  | n,A,.tup _,.ins _,v,w,u1,u2,hu,_,o1,h1,h2,r1,r2=>by cases n<;>simp [okD] at o1
end
end L3
namespace L3
open PySem PySem.Spec PyProof.Rows L2
noncomputable abbrev RD2:=Dt→Dt→Sto→VD→Prop
noncomputable abbrev RDL:=List Dt→Sto→VD→Prop
noncomputable def qKU (K:W.Frag) (r:RD2):R2:=fun v w H Q=>∃ φ st x y P,Rep K φ st H∧D K φ st.length H x v∧D K φ st.length H y w∧r x y st P ∧
  ∀ d st',P d st'→∀ φ' H' u,Bhd K φ st H φ' st' H'→D K φ' st'.length H' d u→Q u H'
noncomputable def qKZ (K:W.Frag) (r:RDL):List V→Hp→VK→Prop:=fun vs H Q=>∃ φ st ds P,Rep K φ st H∧DL K φ st.length H ds vs∧r ds st P ∧
  ∀ d st',P d st'→∀ φ' H' u,Bhd K φ st H φ' st' H'→D K φ' st'.length H' d u→Q u H'
def OpD (X:Cx) (f:Value→Value→Sem Value) (r:RD2):Prop:=OpR X f (qKU X.K r)
def qDL (X:Cx) (f:Value) (r:RDL):Prop:=qDM X f (qKZ X.K r)
def qC (i:Nat):TD:=fun ρ st P=>match ρ[i]? with
  | some (some d)=>P d st
  | _=>False
def qD (d:Dt):TD:=fun _ st P=>P d st
def qE (r:RD2) (ta tb:TD):TD:=fun ρ st P=>ta ρ st fun x st1=>tb ρ st1 fun y st2=>r x y st2 P
def qJ (r:RDL) (t:TAD):TD:=fun ρ st P=>t ρ st fun ds st1=>r ds st1 P
section
variable {K:W.Frag} {r:RD2} {ta tb:TD} {σ:L2.St} {H:Hp} {Q:VK} {R:RDL} {t:TAD}
theorem qCr (h:qAR K (qE r ta tb) σ H Q):tOp (qKU K r) (qAR K ta) (qAR K tb) σ H Q:=by
  k_dat 0"r0"
  k_dat 0"r17"
  k_dat 0"r37"
  exact⟨φ2,st2,x,y,P,b2.1,dx.evo b2.2,dy,h2,fun d st' hp φ' H' u b3 du=>hq d st' hp φ' H' u (b1.trans (b2.trans b3)) du⟩
theorem qDB (h:qAR K (qJ R t) σ H Q):tCB (qKZ K R) (qJx K t) σ H Q:=by
  k_dat 0"r0"
  refine⟨φ,st,ρ,_,pre,ht,fun ds st1 h1 φ1 H1 vs b1 dx=>?_⟩
  exact⟨φ1,st1,ds,P,b1.1,dx,h1,fun d st' hp φ' H' u b3 du=>hq d st' hp φ' H' u (b1.trans b3) du⟩
end
section
variable {X:Cx} {a b c e:Expr} {es:List Expr} {ta tb tc t:TD} {tas:TAD} {pos:Pos}
theorem qM9 (i:Nat) {x:Str} (hN:X.N[i]? = some x:=by rfl) (hv:Vis X.env.scope x:=by first | exact Or.inl rfl | exact Or.inr (Or.inl rfl) | exact Or.inr (Or.inr rfl)) (hd:(x==("__debug__" : Str))=false:=by decide)
    (hcd:(x==("__classdict__" : Str))=false:=by decide):DE X (.Name x pos) (qC i):=(qNo hN hv hd hcd).imp fun σ H Q h=>by
  k_dat 0"r0"
  unfold qC at ht
  split at ht
  · rename_i d e
    obtain⟨v,e1,e2⟩:=pre.2.2 i d e
    exact⟨v,e1,hq d st ht φ H v (.refl pre.1) e2⟩
  · exact ht.elim
theorem qBS {d:Dt} {v:V} {K:W.Frag} (h:∀ φ N H,D K φ N H d v):∀ (σ:L2.St) H Q,qAR K (qD d) σ H Q→tC v σ H Q:=fun σ H Q h'=>by
  obtain⟨φ,st,ρ,P,pre,ht,hq⟩:=h'
  exact hq d st ht φ H v (.refl pre.1) (h _ _ _)
theorem qMr {i j pos}:DE X (.Constant (.int i) j pos) (qD (.int i)):=(qNb).imp (qBS fun _ _ _=>D.mkInt)
theorem qOq {i j pos}:DE X (.Constant (.bool i) j pos) (qD (.bl i)):=(qPP).imp (qBS fun _ _ _=>D.qBk)
theorem qNw {j pos}:DE X (.Constant .none j pos) (qD .non):=(qNn).imp (qBS fun _ _ _=>D.qIF)
theorem qOg {i j pos}:DE X (.Constant (.str i) j pos) (qD (.str i)):=(qFu).imp (qBS fun _ _ _=>D.mkStr)
theorem qKi {x:Str} {T:String} (hm:X.mg x=none) (hv:bootBuiltins x=some (.type T)) (hg:Gl X x:=by rfl) (hn:x ≠ "__name__":=by decide) (hd:(x==("__debug__" : Str))=false:=by decide):DE X (.Name x pos) (qD (.ty T)) :=
  (qLk (v:=.ty T) hg hm hv rfl hn hd).imp (qBS fun _ _ _=>D.qPW)
theorem qL1 {x:Str} {d:Dt} {v:V} {u:Value} (hm:X.mg x=some u) (r:RelV v u) (hD:∀ φ N H,D X.K φ N H d v) (hg:Gl X x:=by rfl) (hd:(x==("__debug__" : Str))=false:=by decide):DE X (.Name x pos) (qD d) :=
  (qLu hg hm r hd).imp (qBS hD)
theorem qG4 {op:Operator} {r:RD2} (ho:OpD X (binaryOp op) r) (ha:DE X a ta) (hb:DE X b tb):DE X (.BinOp a op b pos) (qE r ta tb):=(qOr ho ha hb).imp fun _ _ _=>qCr
theorem qEC {op:CmpOp} {r:RD2} (ho:OpD X (compareOp op) r) (ha:DE X a ta) (hb:DE X b tb) (hm:behindInMarks op b=false:=by first | exact qHg _ | with_unfolding_all rfl):DE X (.Compare a [op] [b] pos) (qE r ta tb):=(qLM ho ha hb hm).imp fun _ _ _=>qCr
def qI (t:TD):TBD:=fun ρ st P=>t ρ st fun x st1=>match x with
  | .bl k=>P k st1
  | _=>False
theorem qB5 {K:W.Frag} {t:TD} {σ:L2.St} {H:Hp} {Q:Bool→Hp→Prop} (h:liftT K (qI t) σ H Q):qAR K t σ H fun x H'=>∃ k,x = .bl k∧Q k H':=by
  k_dat 0"r0"
  k_dat 0"r14"
  cases d with
  | bl k=>exact⟨k,dx.bl,hq k st1 h1 φ1 H1 b1⟩
  | _=>exact h1.elim
theorem qBj {op:CmpOp} {r:RD2} (ho:OpD X (compareOp op) r) (ha:DE X a ta) (hb:DE X b tb) (hm:behindInMarks op b=false:=by first | exact qHg _ | with_unfolding_all rfl):DT X (.Compare a [op] [b] pos) (qI (qE r ta tb)) :=
  (qLf ho ha hb hm).imp fun σ H Q h=>qCr (qB5 h)
theorem qNp (h:DE X e t) (he:∀ whole,isTrue e X.env whole=(do let v ← whole;standAt e.pos;holding [v] (truthy v)):=by intro _;rfl):DT X e (qI t):=(qM6 h he).imp fun σ H Q h=>qB5 h
def qCJ (t:TBD):TBD:=fun ρ st P=>t ρ st fun k st1=>P (!k) st1
theorem qOH {t:TBD} (h:DT X a t):DT X (.UnaryOp .Not a pos) (qCJ t):=(qOk h).imp fun σ H Q h=>by
  k_dat 0"r0"
  exact⟨φ,st,ρ,_,pre,ht,fun k st1 h1 φ1 H1 b1=>hq _ st1 h1 φ1 H1 b1⟩
def DW (X:Cx) (e:Expr) (t:TBD):Prop:=PW X e (liftT X.K t)
theorem PW.imp {X:Cx} {e:Expr} {t t':TT} (h:PW X e t) (i:∀ σ H Q,t' σ H Q→t σ H Q):PW X e t':=fun wh pins s σ H Q I q=>h wh pins s σ H Q I (i σ H Q q)
def qAr (t u:TBD):TBD:=fun ρ st P=>t ρ st fun k st1=>if k=true then u ρ st1 P else P false st1
def qBv (t u:TBD):TBD:=fun ρ st P=>t ρ st fun k st1=>if k=true then P true st1 else u ρ st1 P
variable {tA tB':TBD} {rest:List Expr}
theorem qLO (h:DT X a tA):DW X (.BoolOp .And [a] pos) tA:=qK1 h
theorem qOi (h:DT X a tA):DW X (.BoolOp .Or [a] pos) tA:=qNh h
theorem qJg (ha:DT X a tA) (hb:DW X (.BoolOp .And (b::rest) pos) tB'):DW X (.BoolOp .And (a::b::rest) pos) (qAr tA tB'):=PW.imp (qNZ ha hb) fun σ H Q h=>by
  k_dat 0"r0"
  k_dat 0"r22"
  cases k with
  | true =>
    rw [if_pos rfl] at h1 ⊢
    k_dat 0"r42"
  | false =>
    rw [if_neg Bool.false_ne_true] at h1 ⊢
    exact hq false st1 h1 φ1 H1 b1
theorem qMj (ha:DT X a tA) (hb:DW X (.BoolOp .Or (b::rest) pos) tB'):DW X (.BoolOp .Or (a::b::rest) pos) (qBv tA tB'):=PW.imp (qPe ha hb) fun σ H Q h=>by
  k_dat 0"r0"
  k_dat 0"r22"
  cases k with
  | false =>
    rw [if_neg Bool.false_ne_true] at h1 ⊢
    k_dat 0"r42"
  | true =>
    rw [if_pos rfl] at h1 ⊢
    exact hq true st1 h1 φ1 H1 b1
theorem qMV {tA:TBD} (h:DW X e tA):DT X e tA:=h _
def qBt (t u:TD):TD:=fun ρ st P=>t ρ st fun x st1=>match x with
  | .bl k=>if k=true then u ρ st1 P else P (.bl false) st1
  | _=>False
def qMX (t:TD):TD:=fun ρ st P=>t ρ st fun x st1=>match x with
  | .bl k=>P (.bl (!k)) st1
  | _=>False
theorem qOL {op} (h:DE X a t):DE X (.BoolOp op [a] pos) t:=qNm h
theorem qOm (ha:DE X a ta) (hb:DE X (.BoolOp .And (b::rest) pos) tb):DE X (.BoolOp .And (a::b::rest) pos) (qBt ta tb):=(qNc ha hb).imp fun σ H Q h=>by
  k_dat 0"r0"
  k_dat 0"r14"
  cases d with
  | bl k =>
    refine⟨k,dx.bl,?_⟩
    cases k with
    | true=>exact qAo ⟨φ1,st1,ρ,P,pre.on b1,h1,fun k st2 h2 φ2 H2 v2 b2=>hq k st2 h2 φ2 H2 v2 (b1.trans b2)⟩
    | false=>exact qAt (hq _ st1 h1 φ1 H1 _ b1 D.qBk)
  | _=>exact h1.elim
theorem qOZ (ha:DE X a ta):DE X (.UnaryOp .Not a pos) (qMX ta):=(qNG ha).imp fun σ H Q h=>by
  k_dat 0"r0"
  k_dat 0"r14"
  cases d with
  | bl k=>exact⟨k,dx.bl,hq _ st1 h1 φ1 H1 _ b1 D.qBk⟩
  | _=>exact h1.elim
def qCT (c:TBD) (t u:TD):TD:=fun ρ st P=>c ρ st fun k st1=>if k=true then t ρ st1 P else u ρ st1 P
theorem qPx {tC:TBD} (hc:DT X c tC) (ha:DE X a ta) (hb:DE X b tb):DE X (.IfExp c a b pos) (qCT tC ta tb):=(qKe hc ha hb).imp fun σ H Q h=>by
  k_dat 0"r0"
  k_dat 0"r22"
  cases k with
  | true=>exact qAo ⟨φ1,st1,ρ,P,pre.on b1,(by rw [if_pos rfl] at h1;exact h1),fun k st2 h2 φ2 H2 v2 b2=>hq k st2 h2 φ2 H2 v2 (b1.trans b2)⟩
  | false=>exact qAt ⟨φ1,st1,ρ,P,pre.on b1,(by rw [if_neg Bool.false_ne_true] at h1;exact h1),fun k st2 h2 φ2 H2 v2 b2=>hq k st2 h2 φ2 H2 v2 (b1.trans b2)⟩
def qB2 (p q:Int→Int→Bool) (ta tb tc:TD):TD:=fun ρ st P=>ta ρ st fun x st1=>tb ρ st1 fun y st2=>match x,y with
  | .int i,.int j=>if p i j=true then tc ρ st2 fun z st3=>(match z with
      | .int k=>P (.bl (q j k)) st3
      | _=>False) else P (.bl false) st2
  | _,_=>False
theorem qEH {K:W.Frag} {p q:Int→Int→Bool} {σ:L2.St} {H:Hp} {Q:VK} (h:qAR K (qB2 p q ta tb tc) σ H Q) :
    qHS (rI0 fun i j=>.bl (p i j)) (rI0 fun i j=>.bl (q i j)) (qAR K ta) (qAR K tb) (qAR K tc) σ H Q:=by
  k_dat 0"r0"
  k_dat 0"r17"
  k_dat 0"r37"
  cases x with
  | int i =>
    cases y with
    | int j =>
      refine⟨i,j,dx.int,dy.int,p i j,rfl,?_⟩
      have h2':if p i j=true then tc ρ st2 fun z st3=>(match z with
        | .int k=>P (.bl (q j k)) st3
        | _=>False) else P (.bl false) st2:=h2
      cases hp:p i j with
      | true =>
        rw [hp,if_pos rfl] at h2'
        refine qAo ⟨φ2,st2,ρ,_,(pre.on b1).on b2,h2',fun z st3 h3 φ3 H3 w3 b3 dz=>?_⟩
        cases z with
        | int k=>exact⟨j,k,dy.int,dz.int,hq _ st3 h3 φ3 H3 _ (b1.trans (b2.trans b3)) D.qBk⟩
        | _=>exact h3.elim
      | false =>
        rw [hp,if_neg Bool.false_ne_true] at h2'
        exact qAt (hq _ st2 h2' φ2 H2 _ (b1.trans b2) D.qBk)
    | _=>exact h2.elim
  | _=>cases y<;>exact h2.elim
theorem qKA {op op':CmpOp} {p q:Int→Int→Bool} (ho:OpR X (compareOp op) (rI0 fun i j=>.bl (p i j))) (ho':OpR X (compareOp op') (rI0 fun i j=>.bl (q i j))) (ha:DE X a ta) (hb:DE X b tb) (hc:DE X c tc)
    (hm:lastMarks [op,op'] [b,c]=false:=by with_unfolding_all rfl):DE X (.Compare a [op,op'] [b,c] pos) (qB2 p q ta tb tc):=(qKX ho ho' ha hb hc hm).imp fun σ H Q h=>qEH h
theorem qKQ {op op':CmpOp} {p q:Int→Int→Bool} (ho:OpR X (compareOp op) (rI0 fun i j=>.bl (p i j))) (ho':OpR X (compareOp op') (rI0 fun i j=>.bl (q i j))) (ha:DE X a ta) (hb:DE X b tb) (hc:DE X c tc)
    (hm:lastMarks [op,op'] [b,c]=false:=by with_unfolding_all rfl):DT X (.Compare a [op,op'] [b,c] pos) (qI (qB2 p q ta tb tc)):=(qKu ho ho' ha hb hc hm).imp fun σ H Q h=>qEH (qB5 h)
noncomputable def qG:TAD:=fun _ st P=>P [] st
noncomputable def qA (t:TD) (u:TAD):TAD:=fun ρ st P=>t ρ st fun x st1=>u ρ st1 fun xs st2=>P (x::xs) st2
theorem qF2:DA X [] qG:=(qMq).imp fun σ H Q h=>by
  k_dat 0"r0"
  exact hq [] st ht φ H [] (.refl pre.1) .nil
theorem qDb (ha:DE X e t) (hr:DA X es tas) (hs:starEach (e::es) X.env=(false,eval e X.env)::starEach es X.env:=by rfl):DA X (e::es) (qA t tas):=(qL5 ha hr hs).imp fun σ H Q h=>by
  k_dat 0"r0"
  k_dat 0"r17"
  refine⟨φ1,st1,ρ,_,pre.on b1,h1,fun xs st2 h2 φ2 H2 vs b2 dxs=>?_⟩
  exact hq _ st2 h2 φ2 H2 _ (b1.trans b2) (.cons (dx.evo b2.2) dxs)
def qAM (t:TAD):TD:=fun ρ st P=>t ρ st fun ds st1=>ds.length≤sizeLine∧P (.tup ds) st1
def qAw (t:TAD):TD:=fun ρ st P=>t ρ st fun ds st1=>ds.length≤sizeLine∧P (.lst st1.length) (st1++[.rw ds])
theorem qCs {K:W.Frag} {φ:Nat→Addr} {st:Sto} {H:Hp} {p:Addr} {o:HO} (R:Rep K φ st H) (hp:H p=none):Bhd K φ st H φ st (upd H p o):=⟨R.laid hp,qBp hp⟩
theorem qBa {K:W.Frag} {φ:Nat→Addr} {st:Sto} {H:Hp} {p:Addr} {ds:List Dt} {vs:List V} (R:Rep K φ st H) (hp:H p=none) (hd:DL K φ st.length H ds vs) :
    Bhd K φ st H (qAm φ st.length p) (st++[.rw ds]) (upd H p (.lst vs)):=⟨R.newL hp hd,qLy hp⟩
theorem qDs {K:W.Frag} {φ:Nat→Addr} {st:Sto} {H:Hp} {p:Addr} {ds:List Dt} {vs:List V}:D K (qAm φ st.length p) (st++[SO.rw ds]).length (upd H p (.lst vs)) (.lst st.length) (.ref p):=by
  have:=D.qMU (K:=K) (φ:=qAm φ st.length p) (H:=upd H p (.lst vs)) (n:=st.length) (N:=(st++[SO.rw ds]).length) (by simp) (by rw [qDF];exact⟨vs,SqL.of qu⟩)
  rw [qDF] at this
  exact this
theorem qN7 {x1} (h:DA X es tas):DE X (.Tuple es x1 pos) (qAM tas):=(qNQ h).imp fun σ H Q h=>by
  k_dat 0"r0"
  k_dat 0"r43"
  exact hq _ st1 h1.2 φ1 _ _ (b1.trans (qCs b1.1 hp)) (.qCO (SqT.of qu) (dx.evo (qBp hp)))
theorem qOo (h:DA X es tas):DE X (.List es pos) (qAw tas):=(qOl h).imp fun σ H Q h=>by
  k_dat 0"r0"
  k_dat 0"r43"
  exact hq _ _ h1.2 _ _ _ (b1.trans (qBa b1.1 hp dx)) qDs
end
end L3
namespace L3
open PySem PySem.Spec PyProof.Rows L2
def qBW:RD2:=fun x y st P=>match x,y with
  | .int i,.int j=>P (.int (i+j)) st
  | .str i,.str j=>i.length+j.length≤sizeLine∧P (.str (i++j)) st
  | .tup i,.tup j=>i.length+j.length≤sizeLine∧P (.tup (i++j)) st
  | .lst n,.lst m=>match st[n]?,st[m]? with
    | some (.rw xs),some (.rw ys)=>xs.length+ys.length≤sizeLine∧P (.lst st.length) (st++[.rw (xs++ys)])
    | _,_=>False
  | _,_=>False
def qGm:RD2:=fun x y st P=>match x,y with
  | .int i,.int j=>P (.int (i - j)) st
  | _,_=>False
def qCX:RD2:=fun x y st P=>match x,y with
  | .int i,.int j=>qGA i j∧P (.int (i * j)) st
  | .tup xs,.int k=>xs≠[]∧2≤k∧k<2 ^ 20∧xs.length * k.toNat≤sizeLine∧P (.tup (List.replicate k.toNat xs).flatten) st
  | .lst n,.int k=>match st[n]? with
    | some (.rw xs)=>0≤k∧k<2 ^ 20∧xs.length * k.toNat≤sizeLine∧P (.lst st.length) (st++[.rw (List.replicate k.toNat xs).flatten])
    | _=>False
  | _,_=>False
def qEP:RD2:=fun x y st P=>match x,y with
  | .int i,.int j=>qPK i j∧P (.int (i / j)) st
  | _,_=>False
def qAF:RD2:=fun x y st P=>match x,y with
  | .int i,.int j=>0<j∧P (.int (i%j)) st
  | _,_=>False
def qAN (p:Int→Int→Bool):RD2:=fun x y st P=>match x,y with
  | .int i,.int j=>P (.bl (p i j)) st
  | _,_=>False
def qU (neg:Bool):RD2:=fun x y st P=>match x,y with
  | .lst n,.lst m=>match st[n]?,st[m]? with
    | some a,some b=>a.items.all (okD 8)=true∧b.items.all (okD 8)=true∧P (.bl (eqL (eqD 8) a.items b.items != neg)) st
    | _,_=>False
  | x,y=>okD 8 x=true∧okD 8 y=true∧P (.bl (eqD 8 x y != neg)) st
def qC5 (neg:Bool):RD2:=fun x y st P=>match x,y with
  | .bl a,.bl b=>P (.bl ((a==b) != neg)) st
  | .non,.non=>P (.bl (true != neg)) st
  | .bl _,.non=>P (.bl (false != neg)) st
  | .int _,.non=>P (.bl (false != neg)) st
  | .str _,.non=>P (.bl (false != neg)) st
  | .tup _,.non=>P (.bl (false != neg)) st
  | .lst _,.non=>P (.bl (false != neg)) st
  | _,_=>False
noncomputable def qc (st:Sto):Dt→Option (List Dt)
  | .tup xs=>some xs
  | .lst n=>(st[n]?).map SO.items
  | _=>none
def qAe (neg:Bool):RD2:=fun x y st P=>match x,y with
  | .str i,.str j=>P (.bl ((!(Builtin.Str.occurrences j i 0 j.length 1).isEmpty) != neg)) st
  | x,y=>match qc st y with
    | some xs=>okD 0 x=true∧xs.all (okD 0)=true∧P (.bl (xs.any (fun z=>eqD 0 z x) != neg)) st
    | none=>False
section
variable {X:Cx} {K:W.Frag} {φ:Nat→Addr} {st:Sto} {H:Hp} {P:VD} {Q:VK} {d:Dt} {v:V}
abbrev Go (K:W.Frag) (φ:Nat→Addr) (st:Sto) (H:Hp) (P:VD) (Q:VK):Prop:=∀ d st',P d st'→∀ φ' H' u,Bhd K φ st H φ' st' H'→D K φ' st'.length H' d u→Q u H'
theorem Go.here (g:Go K φ st H P Q) (R:Rep K φ st H) (hp:P d st) (hd:D K φ st.length H d v):Q v H:=g d st hp φ H v (.refl R) hd
theorem qNL:OpD X (binaryOp .Add) qBW:=by
  k_dat 0"r7"
  k_dat 0"r5"
  cases x with
  | int i =>
    cases y with
    | int j=>exact qM3 pins s σ H v w u1 u2 Q I r1 r2 ⟨i,j,dx.int,dy.int,Go.here hq R hr D.mkInt⟩
    | _=>exact hr.elim
  | str i =>
    cases y with
    | str j=>exact qHn pins s σ H v w u1 u2 Q I r1 r2 ⟨i,j,dx.str,dy.str,hr.1,Go.here hq R hr.2 D.mkStr⟩
    | _=>exact hr.elim
  | tup i =>
    cases y with
    | tup j =>
      obtain⟨a,vs,e1,s1,d1⟩:=dx.tup
      obtain⟨b,ws,e2,s2,d2⟩:=dy.tup
      have l1:=d1.length
      have l2:=d2.length
      have hr1:i.length+j.length≤sizeLine:=hr.1
      have hr2:P (.tup (i++j)) st:=hr.2
      refine qLi pins s σ H v w u1 u2 Q I r1 r2 ⟨a,b,vs,ws,e1,e2,s1,s2,by omega,fun z=>?_,fun z1 z2=>?_,fun z1 z2 p hp=>?_⟩
      · rw [z] at l1
        have:i=[]:=List.length_eq_zero_iff.mp l1
        rw [this,List.nil_append] at hr2
        exact Go.here hq R hr2 (.qCO s2 d2)
      · rw [z2] at l2
        have:j=[]:=List.length_eq_zero_iff.mp l2
        rw [this,List.append_nil] at hr2
        exact Go.here hq R hr2 (.qCO s1 d1)
      · exact hq _ st hr2 φ _ _ (qCs R hp) (.qCO (SqT.of qu) ((d1.append d2).evo (qBp hp)))
    | _=>exact hr.elim
  | lst n =>
    cases y with
    | lst m =>
      have hr':match st[n]?,st[m]? with
        | some (.rw xs),some (.rw ys)=>xs.length+ys.length≤sizeLine∧P (.lst st.length) (st++[.rw (xs++ys)])
        | _,_=>False:=hr
      split at hr'
      · rename_i xs ys e1 e2
        obtain⟨vs,h1,d1⟩:=R.rw n xs e1
        obtain⟨ws,h2,d2⟩:=R.rw m ys e2
        have l1:=d1.length
        have l2:=d2.length
        have z:=hr'.1
        exact qNA pins s σ H v w u1 u2 Q I r1 r2 ⟨φ n,φ m,vs,ws,dx.lst.2,dy.lst.2,h1,h2,by omega,fun p hp=>hq _ _ hr'.2 _ _ _ (qBa R hp (d1.append d2)) qDs⟩
      · exact hr'.elim
    | _=>exact hr.elim
  | _=>cases y<;>exact hr.elim
theorem qOj:OpD X (binaryOp .Sub) qGm:=by
  k_dat 0"r7"
  k_dat 0"r5"
  cases x with
  | int i =>
    cases y with
    | int j=>exact qN4 pins s σ H v w u1 u2 Q I r1 r2 ⟨i,j,dx.int,dy.int,Go.here hq R hr D.mkInt⟩
    | _=>exact hr.elim
  | _=>cases y<;>exact hr.elim
theorem qOF:OpD X (binaryOp .Mult) qCX:=by
  k_dat 0"r7"
  k_dat 0"r5"
  cases x with
  | int i =>
    cases y with
    | int j=>exact qNx pins s σ H v w u1 u2 Q I r1 r2 ⟨i,j,dx.int,dy.int,hr.1,Go.here hq R hr.2 D.mkInt⟩
    | _=>exact hr.elim
  | tup xs =>
    cases y with
    | int k =>
      obtain⟨a,vs,e1,s1,d1⟩:=dx.tup
      obtain⟨h1,h2,h3,h4,h5⟩:xs≠[]∧2≤k∧k<2 ^ 20∧xs.length * k.toNat≤sizeLine∧P (.tup (List.replicate k.toNat xs).flatten) st:=hr
      have rep:∀ m:Nat,DL X.K φ st.length H (List.replicate m xs).flatten (List.replicate m vs).flatten:=fun m=>by
        induction m with
        | zero=>exact .nil
        | succ m ih=>rw [List.replicate_succ,List.replicate_succ,List.flatten_cons,List.flatten_cons];exact d1.append ih
      refine qLC pins s σ H v w u1 u2 Q I r1 r2 ⟨a,k,vs,e1,dy.int,s1,fun z=>?_,h2,h3,by rw [← d1.length];exact h4,fun p hp=>?_⟩
      · have:=d1.length
        rw [z] at this
        exact h1 (List.length_eq_zero_iff.mp this)
      · exact hq _ st h5 φ _ _ (qCs R hp) (.qCO (SqT.of qu) ((rep _).evo (qBp hp)))
    | _=>exact hr.elim
  | lst n =>
    cases y with
    | int k =>
      have hr':match st[n]? with
        | some (.rw xs)=>0≤k∧k<2 ^ 20∧xs.length * k.toNat≤sizeLine∧P (.lst st.length) (st++[.rw (List.replicate k.toNat xs).flatten])
        | _=>False:=hr
      split at hr'
      · rename_i xs e1
        obtain⟨vs,h1,d1⟩:=R.rw n xs e1
        obtain⟨g1,g2,g3,g4⟩:=hr'
        have rep:∀ m:Nat,DL X.K φ st.length H (List.replicate m xs).flatten (List.replicate m vs).flatten:=fun m=>by
          induction m with
          | zero=>exact .nil
          | succ m ih=>rw [List.replicate_succ,List.replicate_succ,List.flatten_cons,List.flatten_cons];exact d1.append ih
        exact qN8 pins s σ H v w u1 u2 Q I r1 r2 ⟨φ n,k,vs,dx.lst.2,dy.int,h1,by omega,by omega,by rw [← d1.length];exact g3,fun p hp=>hq _ _ g4 _ _ _ (qBa R hp (rep _)) qDs⟩
      · exact hr'.elim
    | _=>exact hr.elim
  | _=>cases y<;>exact hr.elim
theorem qOB:OpD X (binaryOp .FloorDiv) qEP:=by
  k_dat 0"r7"
  k_dat 0"r5"
  cases x with
  | int i =>
    cases y with
    | int j=>exact qMB pins s σ H v w u1 u2 Q I r1 r2 ⟨i,j,dx.int,dy.int,hr.1,Go.here hq R hr.2 D.mkInt⟩
    | _=>exact hr.elim
  | _=>cases y<;>exact hr.elim
theorem qM4:OpD X (binaryOp .Mod) qAF:=by
  k_dat 0"r7"
  k_dat 0"r5"
  cases x with
  | int i =>
    cases y with
    | int j=>exact qNW pins s σ H v w u1 u2 Q I r1 r2 ⟨i,j,dx.int,dy.int,hr.1,Go.here hq R hr.2 D.mkInt⟩
    | _=>exact hr.elim
  | _=>cases y<;>exact hr.elim
theorem qFg {op:CmpOp} {p:Int→Int→Bool} (ho:OpR X (compareOp op) (rI0 fun i j=>.bl (p i j))):OpD X (compareOp op) (qAN p):=by
  k_dat 0"r7"
  k_dat 0"r5"
  cases x with
  | int i =>
    cases y with
    | int j=>exact ho pins s σ H v w u1 u2 Q I r1 r2 ⟨i,j,dx.int,dy.int,Go.here hq R hr D.qBk⟩
    | _=>exact hr.elim
  | _=>cases y<;>exact hr.elim
theorem qMa:OpD X (compareOp .Lt) (qAN fun i j=>decide (i<j)):=qFg qJQ
theorem qMS:OpD X (compareOp .Gt) (qAN fun i j=>decide (j<i)):=qFg qPy
theorem qPs:OpD X (compareOp .GtE) (qAN fun i j=>decide (j≤i)):=qFg qP9
theorem qAX (k:Bool):(k != false)=k:=by cases k<;>rfl
theorem qBO (k:Bool):(k != true) = !k:=by cases k<;>rfl
theorem qAv {pins:List (Addr×Obj)} {σ:L2.St} {s:Shared} (I:Inv X pins σ H s) (g:Go X.K φ st H P Q) (R:Rep X.K φ st H) {k k':Bool} (hp:P (.bl k) st) (e:k=k'):EP X pins σ Q (.bool k') s:=by
  subst e
  exact⟨.bl k,H,I,rfl,Go.here g R hp D.qBk⟩
end
section
variable {X:Cx} {pins:List (Addr×Obj)} {σ:L2.St} {H:Hp} {s:Shared} {φ:Nat→Addr} {N:Nat}
theorem qIP (I:Inv X pins σ H s) {n:Nat} {A:Around} {a b:List Dt} {vs ws:List V} {its its2:List Value} (hu:A.units+n+1<cLine) (hd:DL X.K φ N H a vs) (hd2:DL X.K φ N H b ws) (rv:Vals vs its) (rv2:Vals ws its2)
    (o1:a.all (okD n)=true) (o2:b.all (okD n)=true) {j:Nat} (h1:j<its.toArray.size) (h2:j<its2.toArray.size):SeqAt.EqAt A.in1 s its.toArray[j] its2.toArray[j] (eqD n (a.getD j .non) (b.getD j .non)):=by
  k_dat 0"r28"
  k_dat 0"r29"
  have hj1:j<a.length:=by rw [← l1];exact h1
  have hj2:j<b.length:=by rw [← l2];exact h2
  have ea:a[j]? = some a[j]:=by simp [hj1]
  have eb:b[j]? = some b[j]:=by simp [hj2]
  obtain⟨x,ex,dx⟩:=hd.get ea
  obtain⟨y,ey,dy⟩:=hd2.get eb
  obtain⟨ux,eux,rx⟩:=rv.get ex
  obtain⟨uy,euy,ry⟩:=rv2.get ey
  have gx:its.toArray[j]=ux:=by
    have:its[j]? = some its[j]:=by simp at h1;simp [h1]
    rw [eux] at this
    k_dat 0"r30"
  have gy:its2.toArray[j]=uy:=by
    have:its2[j]? = some its2[j]:=by simp at h2;simp [h2]
    rw [euy] at this
    k_dat 0"r30"
  rw [gx,gy,qDa ea,qDa eb]
  exact qHJ I n (by show A.units+1+n<cLine;omega) (List.all_eq_true.mp o1 _ (List.getElem_mem hj1)) (List.all_eq_true.mp o2 _ (List.getElem_mem hj2)) dx dy rx ry
theorem qNl (I:Inv X pins σ H s) (n:Nat) {A:Around}:∀ {d e:Dt} {v w:V} {u1 u2:Value},A.units+n+1<cLine→okD (n+1) d=true→okD (n+1) e=true→D X.K φ N H d v→D X.K φ N H e w→RelV v u1→RelV w u2→SeqAt.RcAt A s u1 u2 (eqD (n+1) d e)
  | .non,.non,v,w,u1,u2,hu,_,_,h1,h2,r1,r2=>by cases h1.non;cases h2.non;cases r1;cases r2;exact SeqAt.RcAt.none_none
  | .non,.bl b,v,w,u1,u2,hu,_,_,h1,h2,r1,r2=>by cases h1.non;cases h2.bl;cases r1;cases r2;exact SeqAt.RcAt.none_bool b
  | .non,.int b,v,w,u1,u2,hu,_,_,h1,h2,r1,r2=>by cases h1.non;cases h2.int;cases r1;obtain⟨t',rfl⟩:=r2;exact SeqAt.RcAt.none_int b t'
  | .non,.str b,v,w,u1,u2,hu,_,_,h1,h2,r1,r2=>by cases h1.non;cases h2.str;cases r1;obtain⟨t',rfl⟩:=r2;exact SeqAt.RcAt.none_str b t'
  | .bl a,.non,v,w,u1,u2,hu,_,_,h1,h2,r1,r2=>by cases h1.bl;cases h2.non;cases r1;cases r2;exact SeqAt.RcAt.bool_none a
  | .bl a,.bl b,v,w,u1,u2,hu,_,_,h1,h2,r1,r2=>by cases h1.bl;cases h2.bl;cases r1;cases r2;exact SeqAt.RcAt.bool_bool a b
  | .bl a,.int b,v,w,u1,u2,hu,_,_,h1,h2,r1,r2=>by cases h1.bl;cases h2.int;cases r1;obtain⟨t',rfl⟩:=r2;exact SeqAt.RcAt.bool_int a b t'
  | .bl a,.str b,v,w,u1,u2,hu,_,_,h1,h2,r1,r2=>by cases h1.bl;cases h2.str;cases r1;obtain⟨t',rfl⟩:=r2;exact SeqAt.RcAt.bool_str a b t'
  | .int a,.non,v,w,u1,u2,hu,_,_,h1,h2,r1,r2=>by cases h1.int;cases h2.non;obtain⟨t,rfl⟩:=r1;cases r2;exact SeqAt.RcAt.int_none a t
  | .int a,.bl b,v,w,u1,u2,hu,_,_,h1,h2,r1,r2=>by cases h1.int;cases h2.bl;obtain⟨t,rfl⟩:=r1;cases r2;exact SeqAt.RcAt.int_bool a t b
  | .int a,.int b,v,w,u1,u2,hu,_,_,h1,h2,r1,r2=>by cases h1.int;cases h2.int;obtain⟨t,rfl⟩:=r1;obtain⟨t',rfl⟩:=r2;exact SeqAt.RcAt.int_int a t b t'
  | .int a,.str b,v,w,u1,u2,hu,_,_,h1,h2,r1,r2=>by cases h1.int;cases h2.str;obtain⟨t,rfl⟩:=r1;obtain⟨t',rfl⟩:=r2;exact SeqAt.RcAt.int_str a t b t'
  | .str a,.non,v,w,u1,u2,hu,_,_,h1,h2,r1,r2=>by cases h1.str;cases h2.non;obtain⟨t,rfl⟩:=r1;cases r2;exact SeqAt.RcAt.str_none a t
  | .str a,.bl b,v,w,u1,u2,hu,_,_,h1,h2,r1,r2=>by cases h1.str;cases h2.bl;obtain⟨t,rfl⟩:=r1;cases r2;exact SeqAt.RcAt.str_bool a t b
  | .str a,.int b,v,w,u1,u2,hu,_,_,h1,h2,r1,r2=>by cases h1.str;cases h2.int;obtain⟨t,rfl⟩:=r1;obtain⟨t',rfl⟩:=r2;exact SeqAt.RcAt.str_int a t b t'
  | .str a,.str b,v,w,u1,u2,hu,_,_,h1,h2,r1,r2=>by cases h1.str;cases h2.str;obtain⟨t,rfl⟩:=r1;obtain⟨t',rfl⟩:=r2;exact SeqAt.RcAt.str_str a t b t'
  | .tup a,.non,v,w,u1,u2,hu,_,_,h1,h2,r1,r2=>by
    obtain⟨p,vs,rfl,hs,hd⟩:=h1.tup;cases h2.non;cases r1;cases r2;obtain⟨its,_,ht,_⟩:=I.tuple hs;exact SeqAt.RcAt.tuple_none ht (by omega)
  | .non,.tup a,v,w,u1,u2,hu,_,_,h1,h2,r1,r2=>by
    obtain⟨p,vs,rfl,hs,hd⟩:=h2.tup;cases h1.non;cases r2;cases r1;obtain⟨its,_,ht,_⟩:=I.tuple hs;exact SeqAt.RcAt.none_tuple ht (by omega)
  | .tup a,.bl b,v,w,u1,u2,hu,_,_,h1,h2,r1,r2=>by
    obtain⟨p,vs,rfl,hs,hd⟩:=h1.tup;cases h2.bl;cases r1;cases r2;obtain⟨its,_,ht,_⟩:=I.tuple hs;exact SeqAt.RcAt.tuple_bool b ht (by omega)
  | .bl b,.tup a,v,w,u1,u2,hu,_,_,h1,h2,r1,r2=>by
    obtain⟨p,vs,rfl,hs,hd⟩:=h2.tup;cases h1.bl;cases r2;cases r1;obtain⟨its,_,ht,_⟩:=I.tuple hs;exact SeqAt.RcAt.bool_tuple b ht (by omega)
  | .tup a,.int b,v,w,u1,u2,hu,_,_,h1,h2,r1,r2=>by
    obtain⟨p,vs,rfl,hs,hd⟩:=h1.tup;cases h2.int;cases r1;obtain⟨t',rfl⟩:=r2;obtain⟨its,_,ht,_⟩:=I.tuple hs;exact SeqAt.RcAt.tuple_int b t' ht (by omega)
  | .int b,.tup a,v,w,u1,u2,hu,_,_,h1,h2,r1,r2=>by
    obtain⟨p,vs,rfl,hs,hd⟩:=h2.tup;cases h1.int;cases r2;obtain⟨t',rfl⟩:=r1;obtain⟨its,_,ht,_⟩:=I.tuple hs;exact SeqAt.RcAt.int_tuple b t' ht (by omega)
  | .tup a,.str b,v,w,u1,u2,hu,_,_,h1,h2,r1,r2=>by
    obtain⟨p,vs,rfl,hs,hd⟩:=h1.tup;cases h2.str;cases r1;obtain⟨t',rfl⟩:=r2;obtain⟨its,_,ht,_⟩:=I.tuple hs;exact SeqAt.RcAt.tuple_str b t' ht (by omega)
  | .str b,.tup a,v,w,u1,u2,hu,_,_,h1,h2,r1,r2=>by
    obtain⟨p,vs,rfl,hs,hd⟩:=h2.tup;cases h1.str;cases r2;obtain⟨t',rfl⟩:=r1;obtain⟨its,_,ht,_⟩:=I.tuple hs;exact SeqAt.RcAt.str_tuple b t' ht (by omega)
  | .tup a,.tup b,v,w,u1,u2,hu,o1,o2,h1,h2,r1,r2=>by
    simp only [okD] at o1 o2
    obtain⟨p,vs,rfl,hs,hd⟩:=h1.tup
    obtain⟨q,ws,rfl,hs2,hd2⟩:=h2.tup
    cases r1;cases r2
    obtain⟨its,rv,ht,_⟩:=I.tuple hs
    obtain⟨its2,rv2,ht2,_⟩:=I.tuple hs2
    k_dat 0"r28"
    k_dat 0"r29"
    have:=SeqAt.RcAt.tuples (A:=A) (s:=s) (e:=fun j=>eqD n (a.getD j .non) (b.getD j .non)) ht ht2 (by omega) (fun j h1 h2=>qIP I hu hd hd2 rv rv2 o1 o2 h1 h2)
    rw [l1,l2] at this
    simp only [eqD]
    rw [qA4]
    exact this
  | .lst _,_,v,w,u1,u2,hu,o1,_,h1,h2,r1,r2=>by simp [okD] at o1
  | .non,.lst _,v,w,u1,u2,hu,_,o1,h1,h2,r1,r2=>by simp [okD] at o1
  | .bl _,.lst _,v,w,u1,u2,hu,_,o1,h1,h2,r1,r2=>by simp [okD] at o1
  | .int _,.lst _,v,w,u1,u2,hu,_,o1,h1,h2,r1,r2=>by simp [okD] at o1
  | .str _,.lst _,v,w,u1,u2,hu,_,o1,h1,h2,r1,r2=>by simp [okD] at o1
  | .tup _,.lst _,v,w,u1,u2,hu,_,o1,h1,h2,r1,r2=>by simp [okD] at o1
  | .ty _,_,v,w,u1,u2,hu,o1,_,h1,h2,r1,r2=>by simp [okD] at o1
  | .dic _,_,v,w,u1,u2,hu,o1,_,h1,h2,r1,r2=>by simp [okD] at o1
  | .ins _,_,v,w,u1,u2,hu,o1,_,h1,h2,r1,r2=>by simp [okD] at o1
  | .non,.ty _,v,w,u1,u2,hu,_,o1,h1,h2,r1,r2=>by simp [okD] at o1
  | .non,.dic _,v,w,u1,u2,hu,_,o1,h1,h2,r1,r2=>by simp [okD] at o1
  | .non,.ins _,v,w,u1,u2,hu,_,o1,h1,h2,r1,r2=>by simp [okD] at o1
  | .bl _,.ty _,v,w,u1,u2,hu,_,o1,h1,h2,r1,r2=>by simp [okD] at o1
  | .bl _,.dic _,v,w,u1,u2,hu,_,o1,h1,h2,r1,r2=>by simp [okD] at o1
  | .bl _,.ins _,v,w,u1,u2,hu,_,o1,h1,h2,r1,r2=>by simp [okD] at o1
  | .int _,.ty _,v,w,u1,u2,hu,_,o1,h1,h2,r1,r2=>by simp [okD] at o1
  | .int _,.dic _,v,w,u1,u2,hu,_,o1,h1,h2,r1,r2=>by simp [okD] at o1
  | .int _,.ins _,v,w,u1,u2,hu,_,o1,h1,h2,r1,r2=>by simp [okD] at o1
  | .str _,.ty _,v,w,u1,u2,hu,_,o1,h1,h2,r1,r2=>by simp [okD] at o1
  | .str _,.dic _,v,w,u1,u2,hu,_,o1,h1,h2,r1,r2=>by simp [okD] at o1
  | .str _,.ins _,v,w,u1,u2,hu,_,o1,h1,h2,r1,r2=>by simp [okD] at o1
  | .tup _,.ty _,v,w,u1,u2,hu,_,o1,h1,h2,r1,r2=>by simp [okD] at o1
  | .tup _,.dic _,v,w,u1,u2,hu,_,o1,h1,h2,r1,r2=>by simp [okD] at o1
  | .tup _,.ins _,v,w,u1,u2,hu,_,o1,h1,h2,r1,r2=>by simp [okD] at o1
theorem qOa (I:Inv X pins σ H s) (n:Nat) {A:Around}:∀ {d e:Dt} {v w:V} {u1 u2:Value},A.units+n+1<cLine→okD (n+1) d=true→okD (n+1) e=true→D X.K φ N H d v→D X.K φ N H e w→RelV v u1→RelV w u2→SeqAt.RcNeAt A s u1 u2 (!(eqD (n+1) d e))
  | .non,.non,v,w,u1,u2,hu,_,_,h1,h2,r1,r2=>by cases h1.non;cases h2.non;cases r1;cases r2;exact SeqAt.RcNeAt.none_none
  | .non,.bl b,v,w,u1,u2,hu,_,_,h1,h2,r1,r2=>by cases h1.non;cases h2.bl;cases r1;cases r2;exact SeqAt.RcNeAt.none_bool b
  | .non,.int b,v,w,u1,u2,hu,_,_,h1,h2,r1,r2=>by cases h1.non;cases h2.int;cases r1;obtain⟨t',rfl⟩:=r2;exact SeqAt.RcNeAt.none_int b t'
  | .non,.str b,v,w,u1,u2,hu,_,_,h1,h2,r1,r2=>by cases h1.non;cases h2.str;cases r1;obtain⟨t',rfl⟩:=r2;exact SeqAt.RcNeAt.none_str b t'
  | .bl a,.non,v,w,u1,u2,hu,_,_,h1,h2,r1,r2=>by cases h1.bl;cases h2.non;cases r1;cases r2;exact SeqAt.RcNeAt.bool_none a
  | .bl a,.bl b,v,w,u1,u2,hu,_,_,h1,h2,r1,r2=>by cases h1.bl;cases h2.bl;cases r1;cases r2;exact SeqAt.RcNeAt.bool_bool a b
  | .bl a,.int b,v,w,u1,u2,hu,_,_,h1,h2,r1,r2=>by cases h1.bl;cases h2.int;cases r1;obtain⟨t',rfl⟩:=r2;exact SeqAt.RcNeAt.bool_int a b t'
  | .bl a,.str b,v,w,u1,u2,hu,_,_,h1,h2,r1,r2=>by cases h1.bl;cases h2.str;cases r1;obtain⟨t',rfl⟩:=r2;exact SeqAt.RcNeAt.bool_str a b t'
  | .int a,.non,v,w,u1,u2,hu,_,_,h1,h2,r1,r2=>by cases h1.int;cases h2.non;obtain⟨t,rfl⟩:=r1;cases r2;exact SeqAt.RcNeAt.int_none a t
  | .int a,.bl b,v,w,u1,u2,hu,_,_,h1,h2,r1,r2=>by cases h1.int;cases h2.bl;obtain⟨t,rfl⟩:=r1;cases r2;exact SeqAt.RcNeAt.int_bool a t b
  | .int a,.int b,v,w,u1,u2,hu,_,_,h1,h2,r1,r2=>by cases h1.int;cases h2.int;obtain⟨t,rfl⟩:=r1;obtain⟨t',rfl⟩:=r2;exact SeqAt.RcNeAt.int_int a t b t'
  | .int a,.str b,v,w,u1,u2,hu,_,_,h1,h2,r1,r2=>by cases h1.int;cases h2.str;obtain⟨t,rfl⟩:=r1;obtain⟨t',rfl⟩:=r2;exact SeqAt.RcNeAt.int_str a t b t'
  | .str a,.non,v,w,u1,u2,hu,_,_,h1,h2,r1,r2=>by cases h1.str;cases h2.non;obtain⟨t,rfl⟩:=r1;cases r2;exact SeqAt.RcNeAt.str_none a t
  | .str a,.bl b,v,w,u1,u2,hu,_,_,h1,h2,r1,r2=>by cases h1.str;cases h2.bl;obtain⟨t,rfl⟩:=r1;cases r2;exact SeqAt.RcNeAt.str_bool a t b
  | .str a,.int b,v,w,u1,u2,hu,_,_,h1,h2,r1,r2=>by cases h1.str;cases h2.int;obtain⟨t,rfl⟩:=r1;obtain⟨t',rfl⟩:=r2;exact SeqAt.RcNeAt.str_int a t b t'
  | .str a,.str b,v,w,u1,u2,hu,_,_,h1,h2,r1,r2=>by cases h1.str;cases h2.str;obtain⟨t,rfl⟩:=r1;obtain⟨t',rfl⟩:=r2;exact SeqAt.RcNeAt.str_str a t b t'
  | .tup a,.non,v,w,u1,u2,hu,_,_,h1,h2,r1,r2=>by
    obtain⟨p,vs,rfl,hs,hd⟩:=h1.tup;cases h2.non;cases r1;cases r2;obtain⟨its,_,ht,_⟩:=I.tuple hs;exact SeqAt.RcNeAt.tuple_none ht (by omega)
  | .non,.tup a,v,w,u1,u2,hu,_,_,h1,h2,r1,r2=>by
    obtain⟨p,vs,rfl,hs,hd⟩:=h2.tup;cases h1.non;cases r2;cases r1;obtain⟨its,_,ht,_⟩:=I.tuple hs;exact SeqAt.RcNeAt.none_tuple ht (by omega)
  | .tup a,.bl b,v,w,u1,u2,hu,_,_,h1,h2,r1,r2=>by
    obtain⟨p,vs,rfl,hs,hd⟩:=h1.tup;cases h2.bl;cases r1;cases r2;obtain⟨its,_,ht,_⟩:=I.tuple hs;exact SeqAt.RcNeAt.tuple_bool b ht (by omega)
  | .bl b,.tup a,v,w,u1,u2,hu,_,_,h1,h2,r1,r2=>by
    obtain⟨p,vs,rfl,hs,hd⟩:=h2.tup;cases h1.bl;cases r2;cases r1;obtain⟨its,_,ht,_⟩:=I.tuple hs;exact SeqAt.RcNeAt.bool_tuple b ht (by omega)
  | .tup a,.int b,v,w,u1,u2,hu,_,_,h1,h2,r1,r2=>by
    obtain⟨p,vs,rfl,hs,hd⟩:=h1.tup;cases h2.int;cases r1;obtain⟨t',rfl⟩:=r2;obtain⟨its,_,ht,_⟩:=I.tuple hs;exact SeqAt.RcNeAt.tuple_int b t' ht (by omega)
  | .int b,.tup a,v,w,u1,u2,hu,_,_,h1,h2,r1,r2=>by
    obtain⟨p,vs,rfl,hs,hd⟩:=h2.tup;cases h1.int;cases r2;obtain⟨t',rfl⟩:=r1;obtain⟨its,_,ht,_⟩:=I.tuple hs;exact SeqAt.RcNeAt.int_tuple b t' ht (by omega)
  | .tup a,.str b,v,w,u1,u2,hu,_,_,h1,h2,r1,r2=>by
    obtain⟨p,vs,rfl,hs,hd⟩:=h1.tup;cases h2.str;cases r1;obtain⟨t',rfl⟩:=r2;obtain⟨its,_,ht,_⟩:=I.tuple hs;exact SeqAt.RcNeAt.tuple_str b t' ht (by omega)
  | .str b,.tup a,v,w,u1,u2,hu,_,_,h1,h2,r1,r2=>by
    obtain⟨p,vs,rfl,hs,hd⟩:=h2.tup;cases h1.str;cases r2;obtain⟨t',rfl⟩:=r1;obtain⟨its,_,ht,_⟩:=I.tuple hs;exact SeqAt.RcNeAt.str_tuple b t' ht (by omega)
  | .tup a,.tup b,v,w,u1,u2,hu,o1,o2,h1,h2,r1,r2=>by
    simp only [okD] at o1 o2
    obtain⟨p,vs,rfl,hs,hd⟩:=h1.tup
    obtain⟨q,ws,rfl,hs2,hd2⟩:=h2.tup
    cases r1;cases r2
    obtain⟨its,rv,ht,_⟩:=I.tuple hs
    obtain⟨its2,rv2,ht2,_⟩:=I.tuple hs2
    k_dat 0"r28"
    k_dat 0"r29"
    have:=SeqAt.RcNeAt.tuples (A:=A) (s:=s) (e:=fun j=>eqD n (a.getD j .non) (b.getD j .non)) ht ht2 (by omega) (fun j h1 h2=>qIP I hu hd hd2 rv rv2 o1 o2 h1 h2)
    rw [l1,l2] at this
    simp only [eqD]
    rw [qA4]
    exact this
  | .lst _,_,v,w,u1,u2,hu,o1,_,h1,h2,r1,r2=>by simp [okD] at o1
  | .non,.lst _,v,w,u1,u2,hu,_,o1,h1,h2,r1,r2=>by simp [okD] at o1
  | .bl _,.lst _,v,w,u1,u2,hu,_,o1,h1,h2,r1,r2=>by simp [okD] at o1
  | .int _,.lst _,v,w,u1,u2,hu,_,o1,h1,h2,r1,r2=>by simp [okD] at o1
  | .str _,.lst _,v,w,u1,u2,hu,_,o1,h1,h2,r1,r2=>by simp [okD] at o1
  | .tup _,.lst _,v,w,u1,u2,hu,_,o1,h1,h2,r1,r2=>by simp [okD] at o1
  | .ty _,_,v,w,u1,u2,hu,o1,_,h1,h2,r1,r2=>by simp [okD] at o1
  | .dic _,_,v,w,u1,u2,hu,o1,_,h1,h2,r1,r2=>by simp [okD] at o1
  | .ins _,_,v,w,u1,u2,hu,o1,_,h1,h2,r1,r2=>by simp [okD] at o1
  | .non,.ty _,v,w,u1,u2,hu,_,o1,h1,h2,r1,r2=>by simp [okD] at o1
  | .non,.dic _,v,w,u1,u2,hu,_,o1,h1,h2,r1,r2=>by simp [okD] at o1
  | .non,.ins _,v,w,u1,u2,hu,_,o1,h1,h2,r1,r2=>by simp [okD] at o1
  | .bl _,.ty _,v,w,u1,u2,hu,_,o1,h1,h2,r1,r2=>by simp [okD] at o1
  | .bl _,.dic _,v,w,u1,u2,hu,_,o1,h1,h2,r1,r2=>by simp [okD] at o1
  | .bl _,.ins _,v,w,u1,u2,hu,_,o1,h1,h2,r1,r2=>by simp [okD] at o1
  | .int _,.ty _,v,w,u1,u2,hu,_,o1,h1,h2,r1,r2=>by simp [okD] at o1
  | .int _,.dic _,v,w,u1,u2,hu,_,o1,h1,h2,r1,r2=>by simp [okD] at o1
  | .int _,.ins _,v,w,u1,u2,hu,_,o1,h1,h2,r1,r2=>by simp [okD] at o1
  | .str _,.ty _,v,w,u1,u2,hu,_,o1,h1,h2,r1,r2=>by simp [okD] at o1
  | .str _,.dic _,v,w,u1,u2,hu,_,o1,h1,h2,r1,r2=>by simp [okD] at o1
  | .str _,.ins _,v,w,u1,u2,hu,_,o1,h1,h2,r1,r2=>by simp [okD] at o1
  | .tup _,.ty _,v,w,u1,u2,hu,_,o1,h1,h2,r1,r2=>by simp [okD] at o1
  | .tup _,.dic _,v,w,u1,u2,hu,_,o1,h1,h2,r1,r2=>by simp [okD] at o1
  | .tup _,.ins _,v,w,u1,u2,hu,_,o1,h1,h2,r1,r2=>by simp [okD] at o1
end
theorem qMe {X:Cx} (hu:X.A.units+16<cLine):OpD X (compareOp .Eq) (qU false):=by
  k_dat 0"r7"
  k_dat 0"r5"
  have gen:okD 8 x=true→okD 8 y=true→P (.bl (eqD 8 x y != false)) st→wpAny (model X.prog X.w) X.A (compareOp .Eq u1 u2) (EP X pins σ Q) X.xe s:=fun o1 o2 hp=>by
    rw [qAX] at hp
    exact qNl I 7 (by omega) o1 o2 dx dy r1 r2 _ _ _ _ (qAv I hq R hp rfl)
  cases x with
  | lst n =>
    cases y with
    | lst m =>
      have hr':match st[n]?,st[m]? with
        | some a,some b=>a.items.all (okD 8)=true∧b.items.all (okD 8)=true∧P (.bl (eqL (eqD 8) a.items b.items != false)) st
        | _,_=>False:=hr
      split at hr'
      · rename_i a b e1 e2
        obtain⟨o1,o2,hp⟩:=hr'
        rw [qAX] at hp
        obtain⟨vs,s1,d1⟩:=R.seq e1 dx.isL
        obtain⟨ws,s2,d2⟩:=R.seq e2 dy.isL
        obtain⟨its,rv,pl,_⟩:=I.list s1
        obtain⟨its2,rv2,pl2,_⟩:=I.list s2
        have e1':=dx.lst.2
        have e2':=dy.lst.2
        subst e1';subst e2'
        cases r1;cases r2
        k_dat 0"r44"
        k_dat 0"r45"
        rw [qA4] at hp
        by_cases hl:its.toArray.size=its2.toArray.size
        · have:=SeqAt.RcAt.lists (A:=X.A) (s:=s) (e:=fun j=>eqD 8 (a.items.getD j .non) (b.items.getD j .non)) pl.isList pl2.isList hl (by omega) (fun j h1 h2=>qIP I (by omega) d1 d2 rv rv2 o1 o2 h1 h2)
          refine this _ _ _ _ (qAv I hq R hp ?_)
          rw [← l1,← l2,← hl,Nat.min_self]
          simp
        · have hl':(its.toArray.size != its2.toArray.size)=true:=by simpa using hl
          refine SeqAt.RcAt.lists_lengths (A:=X.A) pl.isList pl2.isList hl' (by omega) _ _ _ _ (qAv I hq R hp ?_)
          rw [← l1,← l2]
          have:(its.toArray.size==its2.toArray.size)=false:=by simpa using hl
          rw [this,Bool.and_false]
      · exact hr'.elim
    | _=>exact absurd (show okD 8 (.lst n)=true from hr.1) (by simp [okD])
  | _=>cases y<;>exact gen hr.1 hr.2.1 hr.2.2
theorem qMJ {X:Cx} (hu:X.A.units+16<cLine):OpD X (compareOp .NotEq) (qU true):=by
  k_dat 0"r7"
  k_dat 0"r5"
  have gen:okD 8 x=true→okD 8 y=true→P (.bl (eqD 8 x y != true)) st→wpAny (model X.prog X.w) X.A (compareOp .NotEq u1 u2) (EP X pins σ Q) X.xe s:=fun o1 o2 hp=>by
    rw [qBO] at hp
    exact qOa I 7 (by omega) o1 o2 dx dy r1 r2 _ _ _ _ (qAv I hq R hp rfl)
  cases x with
  | lst n =>
    cases y with
    | lst m =>
      have hr':match st[n]?,st[m]? with
        | some a,some b=>a.items.all (okD 8)=true∧b.items.all (okD 8)=true∧P (.bl (eqL (eqD 8) a.items b.items != true)) st
        | _,_=>False:=hr
      split at hr'
      · rename_i a b e1 e2
        obtain⟨o1,o2,hp⟩:=hr'
        rw [qBO] at hp
        obtain⟨vs,s1,d1⟩:=R.seq e1 dx.isL
        obtain⟨ws,s2,d2⟩:=R.seq e2 dy.isL
        obtain⟨its,rv,pl,_⟩:=I.list s1
        obtain⟨its2,rv2,pl2,_⟩:=I.list s2
        have e1':=dx.lst.2
        have e2':=dy.lst.2
        subst e1';subst e2'
        cases r1;cases r2
        k_dat 0"r44"
        k_dat 0"r45"
        rw [qA4] at hp
        by_cases hl:its.toArray.size=its2.toArray.size
        · have:=SeqAt.RcNeAt.lists (A:=X.A) (s:=s) (e:=fun j=>eqD 8 (a.items.getD j .non) (b.items.getD j .non)) pl.isList pl2.isList hl (by omega) (fun j h1 h2=>qIP I (by omega) d1 d2 rv rv2 o1 o2 h1 h2)
          refine this _ _ _ _ (qAv I hq R hp ?_)
          rw [← l1,← l2,← hl,Nat.min_self]
          simp
        · have hl':(its.toArray.size != its2.toArray.size)=true:=by simpa using hl
          refine SeqAt.RcNeAt.lists_lengths (A:=X.A) pl.isList pl2.isList hl' (by omega) _ _ _ _ (qAv I hq R hp ?_)
          rw [← l1,← l2]
          have:(its.toArray.size==its2.toArray.size)=false:=by simpa using hl
          rw [this,Bool.and_false]
          rfl
      · exact hr'.elim
    | _=>exact absurd (show okD 8 (.lst n)=true from hr.1) (by simp [okD])
  | _=>cases y<;>exact gen hr.1 hr.2.1 hr.2.2
end L3
namespace L3
open PySem PySem.Spec PyProof.Rows L2
section
variable {X:Cx}
theorem qPn:OpD X (compareOp .Is) (qC5 false):=by
  k_dat 0"r7"
  k_dat 0"r5"
  have nn:y = .non→v≠.non→P (.bl (false != false)) st→wpAny (model X.prog X.w) X.A (compareOp .Is u1 u2) (EP X pins σ Q) X.xe s:=fun e hv hp=>by
    subst e
    have:=dy.non
    exact qKB pins s σ H v w u1 u2 Q I r1 r2 ⟨this,by rw [decide_eq_false hv];exact Go.here hq R hp D.qBk⟩
  cases x with
  | bl a =>
    cases y with
    | bl b =>
      cases dx.bl;cases dy.bl;cases r1;cases r2
      exact is_bool (qAv I hq R hr (by rw [qAX]))
    | non=>exact nn rfl (by rw [dx.bl];intro z;cases z) hr
    | _=>exact hr.elim
  | non =>
    cases y with
    | non=>exact qKB pins s σ H v w u1 u2 Q I r1 r2 ⟨dy.non,by rw [decide_eq_true dx.non];exact Go.here hq R hr D.qBk⟩
    | _=>exact hr.elim
  | int a =>
    cases y with
    | non=>exact nn rfl (by rw [dx.int];intro z;cases z) hr
    | _=>exact hr.elim
  | str a =>
    cases y with
    | non=>exact nn rfl (by rw [dx.str];intro z;cases z) hr
    | _=>exact hr.elim
  | tup a =>
    cases y with
    | non=>exact nn rfl (by obtain⟨_,_,e,_⟩:=dx.tup;rw [e];intro z;cases z) hr
    | _=>exact hr.elim
  | lst a =>
    cases y with
    | non=>exact nn rfl (by rw [dx.lst.2];intro z;cases z) hr
    | _=>exact hr.elim
  | _=>cases y<;>exact hr.elim
theorem qKl:OpD X (compareOp .IsNot) (qC5 true):=by
  k_dat 0"r7"
  k_dat 0"r5"
  have nn:y = .non→v≠.non→P (.bl (false != true)) st→wpAny (model X.prog X.w) X.A (compareOp .IsNot u1 u2) (EP X pins σ Q) X.xe s:=fun e hv hp=>by
    subst e
    exact qH7 pins s σ H v w u1 u2 Q I r1 r2 ⟨dy.non,by rw [decide_eq_false hv];exact Go.here hq R hp D.qBk⟩
  cases x with
  | bl a =>
    cases y with
    | bl b =>
      cases dx.bl;cases dy.bl;cases r1;cases r2
      exact isnot_bool (qAv I hq R hr (by rw [qBO];rfl))
    | non=>exact nn rfl (by rw [dx.bl];intro z;cases z) hr
    | _=>exact hr.elim
  | non =>
    cases y with
    | non=>exact qH7 pins s σ H v w u1 u2 Q I r1 r2 ⟨dy.non,by rw [decide_eq_true dx.non];exact Go.here hq R hr D.qBk⟩
    | _=>exact hr.elim
  | int a =>
    cases y with
    | non=>exact nn rfl (by rw [dx.int];intro z;cases z) hr
    | _=>exact hr.elim
  | str a =>
    cases y with
    | non=>exact nn rfl (by rw [dx.str];intro z;cases z) hr
    | _=>exact hr.elim
  | tup a =>
    cases y with
    | non=>exact nn rfl (by obtain⟨_,_,e,_⟩:=dx.tup;rw [e];intro z;cases z) hr
    | _=>exact hr.elim
  | lst a =>
    cases y with
    | non=>exact nn rfl (by rw [dx.lst.2];intro z;cases z) hr
    | _=>exact hr.elim
  | _=>cases y<;>exact hr.elim
end
end L3
namespace L3
open PySem PySem.Spec PyProof.Rows L2
section
variable {X:Cx}
theorem qFj {K:W.Frag} {φ:Nat→Addr} {N:Nat} {H:Hp} {d:Dt} {v:V} (h:D K φ N H d v) (o:okD 0 d=true):qCM v=true:=by
  cases d with
  | non=>cases h.non;rfl
  | bl _=>cases h.bl;rfl
  | int _=>cases h.int;rfl
  | str _=>cases h.str;rfl
  | _=>exact absurd o (by simp [okD])
theorem qEJ {K:W.Frag} {φ:Nat→Addr} {N:Nat} {H:Hp}:∀ {ds:List Dt} {vs:List V},DL K φ N H ds vs→ds.all (okD 0)=true→vs.all qCM=true
  | [],vs,h,_=>by simp only [DL] at h;rw [h];rfl
  | d::ds,vs,h,o=>by
    k_dat 0"r6"
    obtain⟨v,r,rfl,h2,h3⟩:=h
    rw [List.all_cons,Bool.and_eq_true] at o ⊢
    exact⟨qFj h2 o.1,qEJ h3 o.2⟩
theorem qOE {K:W.Frag} {φ:Nat→Addr} {N:Nat} {H:Hp} {d e:Dt} {v w:V} (h:D K φ N H d v) (h':D K φ N H e w) (o:okD 0 d=true) (o':okD 0 e=true):eqV v w=eqD 0 d e:=by
  cases d<;>(try (exfalso;revert o;simp [okD];done))<;>cases e<;>(try (exfalso;revert o';simp [okD];done))<;>(simp only [D] at h h';subst h;subst h';rfl)
theorem qFM {K:W.Frag} {φ:Nat→Addr} {N:Nat} {H:Hp} {d:Dt} {v:V} (h':D K φ N H d v) (o':okD 0 d=true):∀ {ds:List Dt} {vs:List V},DL K φ N H ds vs→ds.all (okD 0)=true→inV v vs=ds.any (fun z=>eqD 0 z d)
  | [],vs,h,_=>by simp only [DL] at h;rw [h];rfl
  | e::ds,vs,h,o=>by
    k_dat 0"r6"
    obtain⟨w,r,rfl,h2,h3⟩:=h
    rw [List.all_cons,Bool.and_eq_true] at o
    have ih:=qFM h' o' h3 o.2
    unfold inV at ih ⊢
    rw [List.any_cons,List.any_cons,ih,qOE h2 h' o.1 o']
theorem qBH {K:W.Frag} {φ:Nat→Addr} {st:Sto} {H:Hp} {y:Dt} {w:V} {xs:List Dt} (R:Rep K φ st H) (dy:D K φ st.length H y w) (e:qc st y=some xs) :
    ∃ p vs,w = .ref p∧((SqL K H p vs∧∃ n,y = .lst n)∨(SqT K H p vs∧y = .tup xs))∧DL K φ st.length H xs vs:=by
  cases y with
  | tup zs =>
    have e':zs=xs:=Option.some.inj e
    subst e'
    obtain⟨a,vs,e1,s1,d1⟩:=dy.tup
    exact⟨a,vs,e1,.inr ⟨s1,rfl⟩,d1⟩
  | lst n =>
    have e':(st[n]?).map SO.items=some xs:=e
    cases q:st[n]? with
    | none=>rw [q] at e';cases e'
    | some o =>
      rw [q] at e'
      have e2:o.items=xs:=Option.some.inj e'
      obtain⟨vs,h1,h2⟩:=R.seq q dy.isL
      rw [e2] at h2
      exact⟨φ n,vs,dy.lst.2,.inl ⟨h1,n,rfl⟩,h2⟩
  | _=>cases e
theorem qPH:OpD X (compareOp .In) (qAe false):=by
  k_dat 0"r7"
  k_dat 0"r5"
  have gen:(match qc st y with
    | some xs=>okD 0 x=true∧xs.all (okD 0)=true∧P (.bl (xs.any (fun z=>eqD 0 z x) != false)) st
    | none=>False)→wpAny (model X.prog X.w) X.A (compareOp .In u1 u2) (EP X pins σ Q) X.xe s:=fun hg=>by
    split at hg
    · rename_i xs e
      obtain⟨o1,o2,hp⟩:=hg
      obtain⟨p,vs,e1,hs,hd⟩:=qBH R dy e
      refine qJE pins s σ H v w u1 u2 Q I r1 r2 ⟨p,vs,e1,hs.elim (fun z=>.inl z.1) fun z=>.inr z.1,qFj dx o1,qEJ hd o2,?_⟩
      rw [if_neg Bool.false_ne_true,qFM dx o1 hd o2]
      rw [qAX] at hp
      exact Go.here hq R hp D.qBk
    · exact hg.elim
  cases x with
  | str i =>
    cases y with
    | str j =>
      have hr':P (.bl ((!(Builtin.Str.occurrences j i 0 j.length 1).isEmpty) != false)) st:=hr
      rw [qAX] at hr'
      exact qIe pins s σ H v w u1 u2 Q I r1 r2 ⟨i,j,dx.str,dy.str,Go.here hq R hr' D.qBk⟩
    | _=>exact gen hr
  | _=>exact gen hr
theorem qJZ:OpD X (compareOp .NotIn) (qAe true):=by
  k_dat 0"r7"
  k_dat 0"r5"
  have gen:(match qc st y with
    | some xs=>okD 0 x=true∧xs.all (okD 0)=true∧P (.bl (xs.any (fun z=>eqD 0 z x) != true)) st
    | none=>False)→wpAny (model X.prog X.w) X.A (compareOp .NotIn u1 u2) (EP X pins σ Q) X.xe s:=fun hg=>by
    split at hg
    · rename_i xs e
      obtain⟨o1,o2,hp⟩:=hg
      obtain⟨p,vs,e1,hs,hd⟩:=qBH R dy e
      refine qFm pins s σ H v w u1 u2 Q I r1 r2 ⟨p,vs,e1,hs.elim (fun z=>.inl z.1) fun z=>.inr z.1,qFj dx o1,qEJ hd o2,?_⟩
      rw [if_pos rfl,qFM dx o1 hd o2]
      rw [qBO] at hp
      exact Go.here hq R hp D.qBk
    · exact hg.elim
  cases x with
  | str i =>
    cases y with
    | str j =>
      have hr':P (.bl ((!(Builtin.Str.occurrences j i 0 j.length 1).isEmpty) != true)) st:=hr
      rw [qBO] at hr'
      exact qFP pins s σ H v w u1 u2 Q I r1 r2 ⟨i,j,dx.str,dy.str,Go.here hq R hr' D.qBk⟩
    | _=>exact gen hr
  | _=>exact gen hr
end
end L3
namespace L3
open PySem PySem.Spec PyProof.Rows L2
section
variable {X:Cx}
def qM:RD2:=fun x y st P=>match y with
  | .int i=>(match x with
    | .str z=>z.length≤sizeLine∧(match atI z.cps.toList i with
      | some c=>P (.str ⟨#[c]⟩) st
      | none=>False)
    | x => match qc st x with
      | some xs=>(match atI xs i with
        | some d=>P d st
        | none=>False)
      | none=>False)
  | _=>False
theorem DL.atI {K:W.Frag} {φ:Nat→Addr} {N:Nat} {H:Hp} {ds:List Dt} {vs:List V} {i:Int} {d:Dt} (h:DL K φ N H ds vs) (e:L2.atI ds i=some d):∃ v,L2.atI vs i=some v∧D K φ N H d v:=by
  unfold L2.atI at e ⊢
  rw [← h.length]
  cases q:ixN ds.length i with
  | none=>rw [q] at e;cases e
  | some j =>
    rw [q] at e
    exact h.get e
theorem qP5 {a b:Expr} {ta tb:TD} {pos:Pos} (ha:DE X a ta) (hb:DE X b tb) (hs:qHz b:=by exact fun _ _=>rfl):DE X (.Subscript a b pos) (qE qM ta tb):=by
  have key:IxR X (qKU X.K qM):=by
    intro value slice pins s σ H v w u1 u2 Q I r1 r2 h hsub
    k_dat 0"r5"
    cases y with
    | int i =>
      have gen:(match qc st x with
        | some xs=>(match atI xs i with
          | some d=>P d st
          | none=>False)
        | none=>False)→wpAny (model X.prog X.w) X.A (subscriptTail value slice u1 u2) (EP X pins σ Q) X.xe s:=fun hg=>by
        split at hg
        · rename_i xs e
          split at hg
          · rename_i d ed
            obtain⟨p,vs,e1,hs,hd⟩:=qBH R dx e
            obtain⟨z,ez,dz⟩:=hd.atI ed
            refine qKb value slice pins s σ H v w u1 u2 Q I r1 r2 ?_ hsub
            rcases hs with ⟨hs,_⟩ | ⟨hs,_⟩
            · exact .inl ⟨p,vs,i,z,e1,dy.int,hs,ez,Go.here hq R hg dz⟩
            · exact .inr (.inl ⟨p,vs,i,z,e1,dy.int,hs,ez,Go.here hq R hg dz⟩)
          · exact hg.elim
        · exact hg.elim
      cases x with
      | str z =>
        have hr':z.length≤sizeLine∧(match atI z.cps.toList i with
          | some c=>P (.str ⟨#[c]⟩) st
          | none=>False):=hr
        obtain⟨h1,h2⟩:=hr'
        split at h2
        · rename_i c ec
          exact qKb value slice pins s σ H v w u1 u2 Q I r1 r2 (.inr (.inr ⟨z,i,c,dx.str,dy.int,h1,ec,Go.here hq R h2 D.mkStr⟩)) hsub
        · exact h2.elim
      | _=>exact gen hr
    | _=>exact hr.elim
  exact (qO5 key ha hb hs).imp fun _ _ _=>qCr
noncomputable abbrev TOD:=Rho→Sto→(Option Int→Sto→Prop)→Prop
noncomputable def qPA (K:W.Frag) (t:TOD):TO:=fun σ H Q=>∃ φ st ρ P,Pre K φ st H ρ σ∧t ρ st P∧∀ o st',P o st'→∀ φ' H',Bhd K φ st H φ' st' H'→Q o H'
def DO (X:Cx) (e:Option Expr) (t:TOD):Prop:=PO X e (qPA X.K t)
noncomputable def qC4:TOD:=fun _ st P=>P none st
noncomputable def qBK (t:TD):TOD:=fun ρ st P=>t ρ st fun x st1=>match x with
  | .int i=>P (some i) st1
  | _=>False
theorem qL6:DO X none qC4:=fun pins s σ H Q I h=>by
  k_dat 0"r0"
  exact qLn pins s σ H Q I (hq none st ht φ H (.refl pre.1))
theorem qL3 {e:Expr} {t:TD} (he:DE X e t):DO X (some e) (qBK t):=fun pins s σ H Q I h=>by
  refine qLK he pins s σ H Q I ?_
  k_dat 0"r0"
  k_dat 0"r14"
  cases d with
  | int i=>exact⟨i,dx.int,hq _ st1 h1 φ1 H1 b1⟩
  | _=>exact h1.elim
noncomputable def cutD (xs:List Dt) (lo hi:Option Int):List Dt:=(xs.drop (HT.sIx xs.length 0 lo)).take (HT.sIx xs.length xs.length hi - HT.sIx xs.length 0 lo)
end
end L3
namespace L3
open PySem PySem.Spec PyProof.Rows L2
noncomputable def qT (K:W.Frag) (sp:RDL):Sp:=fun vs H Q _=>qKZ K sp vs H Q
section
variable {X:Cx} {e:Expr} {es:List Expr} {t:TAD} {pos p:Pos} {x:Str}
theorem qK9 {k:Nat} {f:Addr} {fd:FuncData} {ps:List Str} {sp:RDL} (F:qv X.prog X.w X.K X.mg X.base CX0 k f fd ps (qT X.K sp)) (hr:qAh k X.A) (hm:X.mg x=some (.ref f)) (hk:W.keepIn X.K (.ref f)=true)
    (hb:Binds X.K fd ps []) (ha:DA X (e::es) t) (hg:Gl X x:=by rfl) (hdb:(x==("__debug__" : Str))=false:=by decide) (he:starEach (e::es) X.env=(false,eval e X.env)::starEach es X.env:=by rfl)
    (hpl:(backTo pos (starEach es X.env)).any (·.1)=false:=by rfl):DE X (.Call (.Name x p) (e::es) [] pos) (qJ sp t):=by
  refine PE.imp (qLP F hr hg hm hk hb .nil qMM ha hdb he hpl) fun σ H Q h=>?_
  have:=qDB h
  obtain⟨φ,st,ρ,P,pre,ht,hq⟩:=this
  refine⟨φ,st,ρ,P,pre,ht,fun ds st' hp φ' H' vs b d=>?_⟩
  show qT X.K sp (vs++[]) H' Q E0
  rw [List.append_nil]
  exact hq ds st' hp φ' H' vs b d
theorem qDy {id:String} {r:RDL} (hc:qDL X (.builtin id) r) (hm:X.mg x=none) (hv:bootBuiltins x=some (.builtin id)) (ha:DA X (e::es) t) (hg:Gl X x:=by rfl) (hn:x ≠ "__name__":=by decide) (hdb:(x==("__debug__" : Str))=false:=by decide)
    (he:starEach (e::es) X.env=(false,eval e X.env)::starEach es X.env:=by rfl) (hpl:(backTo pos (starEach es X.env)).any (·.1)=false:=by rfl):DE X (.Call (.Name x p) (e::es) [] pos) (qJ r t) :=
  PE.imp (qKG hc hg hm hv ha hn hdb he hpl) fun σ H Q h=>qDB h
theorem qDE {T:String} {r:RDL} (hc:qDL X (.type T) r) (hm:X.mg x=none) (hv:bootBuiltins x=some (.type T)) (ha:DA X (e::es) t) (hg:Gl X x:=by rfl) (hn:x ≠ "__name__":=by decide) (hdb:(x==("__debug__" : Str))=false:=by decide)
    (he:starEach (e::es) X.env=(false,eval e X.env)::starEach es X.env:=by rfl) (hpl:(backTo pos (starEach es X.env)).any (·.1)=false:=by rfl):DE X (.Call (.Name x p) (e::es) [] pos) (qJ r t) :=
  PE.imp (qIi hc hg hm hv ha hn hdb he hpl) fun σ H Q h=>qDB h
def qAd:RDL:=fun ds st P=>match ds with
  | [.str z]=>z.length≤sizeLine∧P (.int z.length) st
  | [x]=>(match qc st x with
    | some xs=>P (.int xs.length) st
    | none=>False)
  | _=>False
theorem qM8:qDL X (.builtin "len") qAd:=by
  k_dat 0"r18"
  k_dat 0"r19"
  k_dat 0"r23"
  · exact hr.elim
  rotate_left
  · cases x<;>exact hr.elim
  · obtain⟨v,rfl,dx⟩:=dl.one
    have gen:(match qc st x with
      | some xs=>P (.int xs.length) st
      | none=>False)→wpAny (model X.prog X.w) X.A (call (.builtin "len") us) (EP X pins σ Q) X.xe s:=fun hg=>by
      split at hg
      · rename_i xs e
        obtain⟨p,ws,e1,hs,hd⟩:=qBH R dx e
        refine qGG pins s σ H [v] us Q I rv ⟨p,ws,by rw [e1],hs.elim (fun z=>.inl z.1) fun z=>.inr z.1,?_⟩
        rw [← hd.length]
        exact Go.here hq R hg D.mkInt
      · exact hg.elim
    cases x with
    | str z=>exact qGE pins s σ H [v] us Q I rv ⟨z,by rw [dx.str],hr.1,Go.here hq R hr.2 D.mkInt⟩
    | _=>exact gen hr
def qFq:RDL:=fun ds st P=>match ds with
  | [x]=>(match qc st x with
    | some xs=>P (.tup xs) st
    | none=>False)
  | _=>False
theorem qJp:qDL X (.type "tuple") qFq:=by
  k_dat 0"r18"
  k_dat 0"r19"
  k_dat 0"r23"
  · exact hr.elim
  rotate_left
  · cases x<;>exact hr.elim
  · obtain⟨v,rfl,dx⟩:=dl.one
    have hr':(match qc st x with
      | some xs=>P (.tup xs) st
      | none=>False):=hr
    split at hr'
    · rename_i xs e
      obtain⟨p,ws,e1,hs,hd⟩:=qBH R dx e
      refine qEi pins s σ H [v] us Q I rv ⟨p,ws,by rw [e1],?_⟩
      rcases hs with ⟨hs,_⟩ | ⟨hs,ex⟩
      · exact .inl ⟨hs,fun l hl=>hq _ st hr' φ _ _ (qCs R hl) (.qCO (SqT.of qu) (hd.evo (qBp hl)))⟩
      · exact .inr ⟨hs,Go.here hq R hr' (.qCO hs hd)⟩
    · exact hr'.elim
def qJ6:RDL:=fun ds st P=>match ds with
  | [x]=>(match qc st x with
    | some xs=>P (.lst st.length) (st++[.rw xs])
    | none=>False)
  | _=>False
theorem qLo:qDL X (.type "list") qJ6:=by
  k_dat 0"r18"
  k_dat 0"r19"
  k_dat 0"r23"
  · exact hr.elim
  rotate_left
  · cases x<;>exact hr.elim
  · obtain⟨v,rfl,dx⟩:=dl.one
    have hr':(match qc st x with
      | some xs=>P (.lst st.length) (st++[.rw xs])
      | none=>False):=hr
    split at hr'
    · rename_i xs e
      obtain⟨p,ws,e1,hs,hd⟩:=qBH R dx e
      exact qFs pins s σ H [v] us Q I rv ⟨p,ws,by rw [e1],hs.elim (fun z=>.inl z.1) fun z=>.inr z.1,fun l hl=>hq _ _ hr' _ _ _ (qBa R hl hd) qDs⟩
    · exact hr'.elim
end
end L3
namespace L3
open PySem PySem.Spec PyProof.Rows L2
section
variable {X:Cx}
noncomputable def tyN:Dt→Option String
  | .non=>some "NoneType"
  | .bl _=>some "bool"
  | .int _=>some "int"
  | .str _=>some "str"
  | .tup _=>some "tuple"
  | .lst _=>some "list"
  | .ty _=>none
  | .dic _=>none
  | .ins _=>none
noncomputable def isT (t c:String):Bool:=t==c || (t == "bool" && c == "int")
theorem qC8 (K:W.Frag) {t c:String} (ht:t = "NoneType" ∨ t = "bool" ∨ t = "int" ∨ t = "str" ∨ t = "tuple" ∨ t = "list") (hc:c = "bool" ∨ c = "int" ∨ c = "str" ∨ c = "tuple" ∨ c = "list"):W.kitOne K (.type t) (.type c)=some (isT t c):=by
  rcases ht with rfl | rfl | rfl | rfl | rfl | rfl<;>rcases hc with rfl | rfl | rfl | rfl | rfl<;>kernel_rfl
def qAU:RDL:=fun ds st P=>match ds with
  | [x,.ty c]=>(c = "bool" ∨ c = "int" ∨ c = "str" ∨ c = "tuple" ∨ c = "list")∧(match tyN x with
    | some t=>P (.bl (isT t c)) st
    | none=>False)
  | _=>False
theorem qIa:qDL X (.builtin "isinstance") qAU:=by
  k_dat 0"r18"
  k_dat 0"r19"
  rcases ds with _ | ⟨x,_ | ⟨y,_ | ⟨z,r⟩⟩⟩
  · exact hr.elim
  · exact hr.elim
  rotate_left
  · cases y<;>exact hr.elim
  · cases y<;>first
      | exact hr.elim
      | skip
    rename_i c
    obtain⟨v,w,rfl,dx,dy⟩:=dl.two
    obtain⟨u,u',rfl,ru,ru'⟩:=vals2 rv
    have:=dy.ty
    subst this
    have:=(show u'=Value.type c from ru')
    subst this
    obtain⟨hc,hr⟩:=hr
    have fin:∀ {t:String},P (.bl (isT t c)) st→∀ tk,EP X pins σ Q (.bool (isT t c)) { s with toks:=tk }:=fun {t} hp tk=>⟨.bl _,H,I.tok tk,rfl,Go.here hq R hp D.qBk⟩
    cases x with
    | non=>cases dx.non;cases ru;exact W.kia_one W.kitx_none I.kIn True.intro (qC8 _ (.inl rfl) hc) (fun z=>nomatch z) (fin hr)
    | bl k=>cases dx.bl;cases ru;exact W.kia_one W.kitx_bool I.kIn True.intro (qC8 _ (.inr (.inl rfl)) hc) (fun z=>nomatch z) (fin hr)
    | int k=>cases dx.int;obtain⟨t,rfl⟩:=ru;exact W.kia_one W.kitx_int I.kIn True.intro (qC8 _ (.inr (.inr (.inl rfl))) hc) (fun z=>nomatch z) (fin hr)
    | str k=>cases dx.str;obtain⟨t,rfl⟩:=ru;exact W.kia_one W.kitx_str I.kIn True.intro (qC8 _ (.inr (.inr (.inr (.inl rfl)))) hc) (fun z=>nomatch z) (fin hr)
    | tup xs =>
      obtain⟨a,ws,e1,s1,d1⟩:=dx.tup
      subst e1
      cases ru
      obtain⟨its,_,⟨o,h1,h2,_⟩,_⟩:=I.tuple s1
      exact W.kia_one W.kitx_tuple I.kIn ⟨o,h1,h2⟩ (qC8 _ (.inr (.inr (.inr (.inr (.inl rfl))))) hc) (fun z=>nomatch z) (fin hr)
    | lst n =>
      obtain⟨ws,s1⟩:=dx.isL
      obtain⟨hn,e1⟩:=dx.lst
      subst e1
      cases ru
      obtain⟨its,_,pl,_⟩:=I.list s1
      obtain⟨ob,h1,h2,_⟩:=pl.isList
      exact W.kia_one W.kitx_list I.kIn ⟨ob,h1,h2⟩ (qC8 _ (.inr (.inr (.inr (.inr (.inr rfl))))) hc) (fun z=>nomatch z) (fin hr)
    | ty _=>exact hr.elim
    | dic _=>exact hr.elim
    | ins _=>exact hr.elim
end
end L3
namespace L3
open PySem PySem.Spec PyProof.Rows L2
section
variable {X:Cx} {s:Stmt} {rest:List Stmt} {t u:TSD} {e:Expr} {te:TD} {pos:Pos}
def qH:TSD:=fun E ρ st=>E.nx ρ st
def tseq (t u:TSD):TSD:=fun E ρ st=>t { E with nx:=u E } ρ st
theorem qLZ:DSs X [] qH:=(qIB).imp fun E σ H h=>by
  k_dat 0"r3"
  exact n ρ st ht φ H σ (.refl pre.1) pre.2
theorem qGx (h1:DS X s t) (h2:DSs X rest u):DSs X (s::rest) (tseq t u):=(qGb h1 h2).imp fun E σ H h=>by
  k_dat 0"r3"
  k_dat 0"r46"
  exact⟨φ',st',ρ',P,⟨bh.1,dr⟩,hu,fun ρ2 st2 h2 φ2 H2 σ2 b2 d2=>n ρ2 st2 h2 φ2 H2 σ2 (bh.trans b2) d2,fun ρ2 st2 h2 φ2 H2 σ2 b2 d2=>b ρ2 st2 h2 φ2 H2 σ2 (bh.trans b2) d2,
    fun ρ2 st2 h2 φ2 H2 σ2 b2 d2=>c ρ2 st2 h2 φ2 H2 σ2 (bh.trans b2) d2,fun d st2 h2 φ2 H2 v b2 d2=>r d st2 h2 φ2 H2 v (bh.trans b2) d2⟩
def qCN (te:TD):TSD:=fun E ρ st=>te ρ st fun _ st1=>E.nx ρ st1
theorem qL8 (he:DE X e te) (hs:swapsWith e none pos.line X.env=pure false:=by rfl):DS X (.Expr e pos) (qCN te):=(qLT he hs).imp fun E σ H h=>by
  k_dat 0"r3"
  exact⟨φ,st,ρ,_,pre,ht,fun d st1 h1 φ1 H1 v b1 dx=>n ρ st1 h1 φ1 H1 σ b1 (pre.on b1).2⟩
def qV (te:TD):TSD:=fun E ρ st=>te ρ st E.rt
theorem qNt (he:DE X e te):DS X (.Return (some e) pos) (qV te):=(qJ5 he).imp fun E σ H h=>by
  k_dat 0"r3"
  exact⟨φ,st,ρ,P.rt,pre,ht,r⟩
def qi (c:TBD) (t u:TSD):TSD:=fun E ρ st=>c ρ st fun k st1=>if k=true then t E ρ st1 else u E ρ st1
theorem qPd {c:Expr} {a b:List Stmt} {tc:TBD} (hc:DT X c tc) (ha:DSs X a t) (hb:DSs X b u):DS X (.If c a b pos) (qi tc t u):=(qMO hc ha hb).imp fun E σ H h=>by
  k_dat 0"r3"
  k_dat 0"r22"
  have on:∀ {v:TSD},v P ρ st1→qEr X.K v E σ H1:=fun {v} hv=>⟨φ1,st1,ρ,P,pre.on b1,hv,fun ρ2 st2 h2 φ2 H2 σ2 b2 d2=>n ρ2 st2 h2 φ2 H2 σ2 (b1.trans b2) d2,fun ρ2 st2 h2 φ2 H2 σ2 b2 d2=>b ρ2 st2 h2 φ2 H2 σ2 (b1.trans b2) d2,
    fun ρ2 st2 h2 φ2 H2 σ2 b2 d2=>c ρ2 st2 h2 φ2 H2 σ2 (b1.trans b2) d2,fun d st2 h2 φ2 H2 v b2 d2=>r d st2 h2 φ2 H2 v (b1.trans b2) d2⟩
  cases k with
  | true=>exact qAo (on (by rw [if_pos rfl] at h1;exact h1))
  | false=>exact qAt (on (by rw [if_neg Bool.false_ne_true] at h1;exact h1))
noncomputable abbrev TGD:=Dt→Rho→Sto→(Rho→Sto→Prop)→Prop
noncomputable abbrev qGl:=List Dt→Rho→Sto→(Rho→Sto→Prop)→Prop
noncomputable def qE1 (K:W.Frag) (g:TGD):TG:=fun v σ H Q=>∃ φ st ρ d P,Pre K φ st H ρ σ∧D K φ st.length H d v∧g d ρ st P∧∀ ρ' st',P ρ' st'→∀ φ' H' σ',Bhd K φ st H φ' st' H'→DR K φ' st'.length H' ρ' σ'→Q σ' H'
noncomputable def qNC (K:W.Frag) (g:qGl):TGs:=fun vs σ H Q=>∃ φ st ρ ds P,Pre K φ st H ρ σ∧DL K φ st.length H ds vs∧g ds ρ st P∧∀ ρ' st',P ρ' st'→∀ φ' H' σ',Bhd K φ st H φ' st' H'→DR K φ' st'.length H' ρ' σ'→Q σ' H'
def DG (X:Cx) (tg:Expr) (g:TGD):Prop:=PG X tg (qE1 X.K g)
def DGs (X:Cx) (tg:List Expr) (g:qGl):Prop:=PGs X tg (qNC X.K g)
theorem _root_.L2.PG.imp {X:Cx} {e:Expr} {t t':TG} (h:PG X e t) (i:∀ v σ H Q,t' v σ H Q→t v σ H Q):PG X e t':=fun pins s σ H v u Q I r q=>h pins s σ H v u Q I r (i v σ H Q q)
theorem _root_.L2.PGs.imp {X:Cx} {e:List Expr} {t t':TGs} (h:PGs X e t) (i:∀ v σ H Q,t' v σ H Q→t v σ H Q):PGs X e t':=fun pins s σ H v u Q I r q=>h pins s σ H v u Q I r (i v σ H Q q)
noncomputable def qO (i:Nat):TGD:=fun d ρ st P=>P (ρ.set i (some d)) st
theorem qDh (i:Nat) {x:Str} (hN:X.N.Nodup) (hi:X.N[i]? = some x:=by rfl) (hx:Loc X.env.scope x:=by first | exact Or.inl rfl | exact Or.inr rfl) (hf:X.fn x=true∨X.env.scope.names.lookup x=some .local:=by first | exact .inl rfl | exact .inr rfl | assumption):DG X (.Name x pos) (qO i) :=
  (qFc hN hi hx hf).imp fun v σ H Q h=>by
    obtain⟨φ,st,ρ,d,P,pre,hd,hg,hq⟩:=h
    exact hq _ st hg φ H _ (.refl pre.1) (pre.2.set hd i)
noncomputable def qFK:qGl:=fun ds ρ st P=>match ds with
  | []=>P ρ st
  | _=>False
noncomputable def qAi (g:TGD) (gs:qGl):qGl:=fun ds ρ st P=>match ds with
  | d::r=>g d ρ st fun ρ1 st1=>gs r ρ1 st1 P
  | _=>False
theorem qIO:DGs X [] qFK:=(qLc).imp fun v σ H Q h=>by
  obtain⟨φ,st,ρ,ds,P,pre,hd,hg,hq⟩:=h
  cases ds with
  | nil =>
    have:v=[]:=by simpa [DL] using hd
    exact⟨this,hq _ st hg φ H _ (.refl pre.1) pre.2⟩
  | cons _ _=>exact hg.elim
theorem qCj {es:List Expr} {g:TGD} {gs:qGl} (h1:DG X e g) (h2:DGs X es gs) (hs:(assignEach (e::es) X.env).map (·.2)=assign e X.env::(assignEach es X.env).map (·.2):=by rfl):DGs X (e::es) (qAi g gs):=(qKy h1 h2 hs).imp fun v σ H Q h=>by
  obtain⟨φ,st,ρ,ds,P,pre,hd,hg,hq⟩:=h
  cases ds with
  | nil=>exact hg.elim
  | cons d r =>
    simp only [DL] at hd
    obtain⟨w,ws,rfl,dw,dws⟩:=hd
    refine⟨w,ws,rfl,φ,st,ρ,d,_,pre,dw,hg,fun ρ1 st1 h1 φ1 H1 σ1 b1 dr1=>?_⟩
    exact⟨φ1,st1,ρ1,r,P,⟨b1.1,dr1⟩,dws.evo b1.2,h1,fun ρ2 st2 h2 φ2 H2 σ2 b2 d2=>hq ρ2 st2 h2 φ2 H2 σ2 (b1.trans b2) d2⟩
noncomputable def qBc (n:Nat) (gs:qGl):TGD:=fun d ρ st P=>match qc st d with
  | some xs=>xs.length=n∧gs xs ρ st P
  | none=>False
theorem qEv {prog:Program} {w:World} {A:Around} {E:Value→Shared→Prop} {it l:Addr} {items:Array Value} (hne:l≠it):∀ (n i:Nat) (s:Shared) (Q:List Value→Shared→Prop),s.heap.IsListIter it l i→s.heap.IsList l items→i+n≤items.size →
    (∀ h',h'.IsListIter it l (i+n)→Heap.SameBut it s.heap h'→Q ((items.toList.drop i).take n) { s with heap:=h' })→wpAny (model prog w) A (draw (.ref it) n) Q E s
  | 0,i,s,Q,hit,hl,hn,h=>by
    unfold draw
    have:=h s.heap (by simpa using hit) (.refl ..)
    simpa using wpAny_pure this
  | n + 1,i,s,Q,hit,hl,hn,h=>by
    unfold draw
    have hi:i<items.size:=by omega
    refine wpAny_bind (wpAny_pyNext_list_item hit hl (x:=items[i]) (by simp [hi]) fun h1 hit1 sb1=>?_)
    dsimp only
    refine wpAny_bind (wpAny_holding ?_)
    refine qEv hne n (i+1) { s with heap:=h1 } _ hit1 (hl.extBut sb1.extBut hne) (by omega) fun h2 hit2 sb2=>?_
    refine wpAny_pure ?_
    have e:(items.toList.drop i).take (n+1)=items[i]::(items.toList.drop (i+1)).take n:=by
      rw [List.drop_eq_getElem_cons (by simpa using hi),List.take_succ_cons]
      simp
    have:=h h2 (by rw [show i+(n+1)=i+1+n by omega];exact hit2) (sb1.trans sb2)
    rw [e] at this
    exact this
end
end L3
namespace L3
open PySem PySem.Spec PyProof.Rows L2
section
variable {prog:Program} {w:World} {A:Around} {E:Value→Shared→Prop} {s:Shared}
theorem qC1 {l:Addr} {items:Array Value} {Q:List Value→Shared→Prop} (hh:A.handled=none) (hl:s.heap.IsList l items)
    (hQ:∀ h',Heap.ExtBut s.heap.objs.size s.heap h'→Q items.toList { s with heap:=h' }):wpAny (model prog w) A (unpackItems (.ref l) items.size none) Q E s:=by
  have hlt:l≠s.heap.objs.size:=by obtain⟨o,ho,_⟩:=hl;exact Nat.ne_of_lt (Heap.lt_size ho)
  unfold unpackItems
  refine wpAny_bind ?_
  unfold notIterableAtAll
  refine wpAny_bind (wpAny_specialOf hl.typeIs slot_list_iter.lookup ?_)
  refine wpAny_pure ?_
  simp only [Bool.false_eq_true,if_false]
  refine wpAny_bind (wpAny_holding (wpAny_pyIter_list hl ?_))
  refine wpAny_bind (wpAny_holding (qEv hlt items.size 0 _ _ ⟨_,Heap.get?_push_size _ rfl,rfl,rfl⟩ (hl.push _) (by omega) fun h₁ hit₁ hs₁=>?_))
  have hall:List.take items.size (List.drop 0 items.toList)=items.toList:=by
    rw [List.drop_zero];exact List.take_of_length_le (by simp)
  rw [hall]
  rw [if_neg (by simp)]
  have hl₁:h₁.IsList l items:=(hl.push _).extBut hs₁.extBut hlt
  refine wpAny_bind (wpAny_holding (wpAny_pyNext_list_end hh hit₁ hl₁ (by simp) fun h₂ he₂=>?_))
  simp only [Option.isSome_none,Bool.false_eq_true,if_false]
  exact wpAny_pure (hQ h₂ fun b o hb e=>he₂ b o hb (hs₁.extBut b o hb (Heap.get?_push_of_some _ e)))
theorem qCn {env:Env} {elts:List Expr} {x1} {pos:Pos} {t:Addr} {items:Array Value} {Q:Unit→Shared→Prop} (hh:A.handled=none) (ht:s.heap.IsList t items)
    (hn:(assignEach elts env).length=items.size) (hstar:(assignEach elts env).findIdx? (·.1)=none)
    (h:∀ h',Heap.ExtBut s.heap.objs.size s.heap h'→wpAny (model prog w) A (assignInOrder ((assignEach elts env).map (·.2)) items.toList) Q E { s with heap:=h' }) :
    wpAny (model prog w) A (assign (.Tuple elts x1 pos) env (.ref t)) Q E s:=by
  rw [assign_Tuple]
  refine wpAny_bind (wpAny_standAt ?_)
  unfold unpack
  rw [hn,hstar]
  exact wpAny_bind (wpAny_holding (qC1 hh ht h))
end
section
variable {X:Cx} {pos:Pos} {e:Expr} {te:TD}
theorem qEt {es:List Expr} {k:Nat} {gs:qGl} (n:Nat) (hc:X.calm=true) (h:DGs X es gs) (hn:(assignEach es X.env).length=n:=by rfl) (hst:(assignEach es X.env).findIdx? (·.1)=none:=by rfl):DG X (.Tuple es k pos) (qBc n gs):=by
  intro pins s σ H v u Q I r hw
  obtain⟨φ,st,ρ,d,P,pre,hd,hg,hq⟩:=hw
  unfold qBc at hg
  split at hg
  · rename_i xs ex
    obtain⟨hl,hg⟩:=hg
    obtain⟨p,vs,e1,hs,dl⟩:=qBH pre.1 hd ex
    subst e1
    cases r
    have hlen:=dl.length
    rcases hs with ⟨hs,_⟩ | ⟨hs,_⟩
    · obtain⟨its,rv,pl,_⟩:=I.list hs
      have:=rv.length
      refine qCn (I.ok.hd hc) pl.isList (by rw [hn,List.size_toArray];omega) hst fun h' hx=>?_
      k_dat 0"r47"
      exact h pins _ σ H vs _ Q I1 (by simpa using rv) ⟨φ,st,ρ,xs,P,pre,dl,hg,hq⟩
    · obtain⟨its,rv,ht,_⟩:=I.tuple hs
      have:=rv.length
      refine assign_Tuple_tuple (I.ok.hd hc) ht (by rw [hn,List.size_toArray];omega) hst fun h' hx=>?_
      k_dat 0"r47"
      exact h pins _ σ H vs _ Q I1 (by simpa using rv) ⟨φ,st,ρ,xs,P,pre,dl,hg,hq⟩
  · exact hg.elim
def qb (te:TD) (g:TGD):TSD:=fun E ρ st=>te ρ st fun d st1=>g d ρ st1 E.nx
theorem qJO {K:W.Frag} {te:TD} {g:TGD} {E:Ends} {σ:L2.St} {H:Hp} (h:qEr K (qb te g) E σ H):qLg (qAR K te) (qE1 K g) E σ H:=by
  k_dat 0"r3"
  k_dat 0"r14"
  exact⟨φ1,st1,ρ,d,P.nx,pre.on b1,dx,h1,fun ρ2 st2 h2 φ2 H2 σ2 b2 d2=>n ρ2 st2 h2 φ2 H2 σ2 (b1.trans b2) d2⟩
theorem qN5 {tg:Expr} {g:TGD} (he:DE X e te) (hg:DG X tg g) (hs:swapsWithSole [tg] e pos.line X.env=pure false:=by rfl) (hw:swappedStores [tg] e X.env=pure none:=by rfl)
    (h1:(assignEach [tg] X.env).map (·.2)=[assign tg X.env]:=by rfl):DS X (.Assign [tg] e pos) (qb te g):=(qMw he hg hs hw h1).imp fun _ _ _=>qJO
theorem qOU (i:Nat) {x:Str} {pos':Pos} (hN:X.N.Nodup) (he:DE X e te) (hi:X.N[i]? = some x:=by rfl) (hx:Loc X.env.scope x:=by first | exact Or.inl rfl | exact Or.inr rfl) (hs:swapsWith e (some (.Name x pos')) pos.line X.env=pure false:=by rfl)
    (hf:X.fn x=true∨X.env.scope.names.lookup x=some .local:=by first | exact .inl rfl | exact .inr rfl | assumption):DS X (.Assign [.Name x pos'] e pos) (qb te (qO i)):=(qMn hN hi hx he hs hf).imp fun E σ H h=>by
  k_dat 0"r3"
  exact⟨φ,st,ρ,_,pre,ht,fun d st1 h1 φ1 H1 v b1 dx=>n _ st1 h1 φ1 H1 _ b1 ((pre.on b1).2.set dx i)⟩
noncomputable def qOv (to ti:TD):TGD:=fun d ρ st P=>to ρ st fun o st1=>ti ρ st1 fun i st2=>match o,i with
  | .lst n,.int k=>(match st2[n]? with
    | some (.rw xs)=>(match ixN xs.length k with
      | some j=>P ρ (st2.set n (.rw (xs.set j d)))
      | none=>False)
    | _=>False)
  | _,_=>False
theorem qNz {o i:Expr} {to ti:TD} (ho:DE X o to) (hi:DE X i ti)
    (ha:∀ v,assign (.Subscript o i pos) X.env v=(do
      let ov ← holding [v] (eval o X.env)
      let iv ← holding [v,ov] (eval i X.env)
      standAt pos
      holding [v,ov,iv] (setItem ov iv v)
      release [v,ov,iv] []):=by intro _;rfl):DG X (.Subscript o i pos) (qOv to ti):=(qNY ho hi set_list ha).imp fun v σ H Q h=>by
  obtain⟨φ,st,ρ,d,P,pre,hd,hg,hq⟩:=h
  refine⟨φ,st,ρ,_,pre,hg,fun x st1 h1 φ1 H1 w b1 dx=>?_⟩
  refine⟨φ1,st1,ρ,_,pre.on b1,h1,fun y st2 h2 φ2 H2 z b2 dy=>?_⟩
  cases x with
  | lst n =>
    cases y with
    | int k =>
      have h2':(match st2[n]? with
        | some (.rw xs)=>(match ixN xs.length k with
          | some j=>P ρ (st2.set n (.rw (xs.set j d)))
          | none=>False)
        | _=>False):=h2
      split at h2'
      · rename_i xs ex
        split at h2'
        · rename_i j ej
          obtain⟨vs,hv,dl⟩:=b2.1.rw n xs ex
          have dx2:=dx.evo b2.2
          have hd2:=(hd.evo b1.2).evo b2.2
          refine⟨φ2 n,vs,k,j,dx2.lst.2,dy.int,hv,by rw [← dl.length];exact ej,?_⟩
          have bb:Bhd X.K φ2 st2 H2 φ2 (st2.set n (.rw (xs.set j d))) (upd H2 (φ2 n) (.lst (vs.set j v))):=⟨b2.1.qPw ex (dl.set hd2 j),qFN hv⟩
          exact hq _ _ h2' φ2 _ σ (b1.trans (b2.trans bb)) (((pre.on b1).on b2).on bb).2
        · exact h2'.elim
      · exact h2'.elim
    | _=>exact h2.elim
  | _=>cases y<;>exact h2.elim
def qAV (to te:TD):TD:=fun ρ st P=>to ρ st fun o st1=>match o with
  | .lst n=>te ρ st1 fun d st2=>(match st2[n]? with
    | some (.rw xs)=>xs.length<sizeLine∧P .non (st2.set n (.rw (xs++[d])))
    | _=>False)
  | _=>False
theorem qIx {o:Expr} {to:TD} {apos cpos:Pos} (ho:DE X o to) (he:DE X e te)
    (hbase:attributeBase o "append" X.env (eval o X.env)=eval o X.env:=by rfl)
    (hfew:((backTo cpos (starEach [e] X.env)).all (fun x=>!x.1)&&(backToKw cpos (keywordEach [] X.env)).all (fun x=>x.1.isSome)
      && decide (([e]:List Expr).length+([]:List Keyword).length+(if ([]:List Keyword).isEmpty then 0 else 1)<30))=true:=by rfl)
    (hline:(apos.endLine==cpos.line)=true:=by rfl) (hs:starEach [e] X.env=(false,eval e X.env)::starEach [] X.env:=by rfl) (hplain:(backTo cpos (starEach ([]:List Expr) X.env)).any (·.1)=false:=by rfl) :
    DE X (.Call (.Attribute o "append" apos) [e] [] cpos) (qAV to te):=by
  refine PE.imp (qPk PySem.F.plainAttrs_list PySem.F.slot_list_append PySem.F.type_list_append qIw ho (qDb he qF2 hs) hbase hfew hline hs hplain) fun σ H Q h=>?_
  k_dat 0"r0"
  k_dat 0"r17"
  cases x with
  | lst n =>
    have hn:=dx.lst.1
    obtain⟨so,eo⟩:∃ so,st1[n]? = some so:=⟨st1[n],by simp [hn]⟩
    obtain⟨ws,hws,_⟩:=b1.1.seq eo dx.isL
    refine⟨?_,?_⟩
    · rw [dx.lst.2]
      exact .inl ⟨rfl,ws,hws⟩
    refine⟨φ1,st1,ρ,(fun ds st2=>match ds with
      | [d]=>(match st2[n]? with
        | some (.rw xs)=>xs.length<sizeLine∧P .non (st2.set n (.rw (xs++[d])))
        | _=>False)
      | _=>False),pre.on b1,h1,fun ds st2 h2 φ2 H2 zs b2 dz=>?_⟩
    rcases ds with _ | ⟨d,_ | ⟨d2,r⟩⟩
    · exact h2.elim
    rotate_left
    · exact h2.elim
    · have h2:(match st2[n]? with
        | some (.rw xs)=>xs.length<sizeLine∧P .non (st2.set n (.rw (xs++[d])))
        | _=>False):=h2
      split at h2
      · rename_i xs ex
        obtain⟨y,rfl,dy⟩:=dz.one
        obtain⟨vs,hv,dl⟩:=b2.1.rw n xs ex
        have dx2:=dx.evo b2.2
        have bb:Bhd X.K φ2 st2 H2 φ2 (st2.set n (.rw (xs++[d]))) (upd H2 (φ2 n) (.lst (vs++[y]))):=⟨b2.1.qPw ex (dl.append (.cons dy .nil)),qFN hv⟩
        exact⟨φ2 n,vs,y,dx2.lst.2,rfl,hv,by rw [← dl.length];exact h2.1,hq _ _ h2.2 φ2 _ _ (b1.trans (b2.trans bb)) D.qIF⟩
      · exact h2.elim
  | _=>exact h1.elim
end
end L3
namespace L3
open PySem PySem.Spec PyProof.Rows L2
def qGO (items:List Dt) (ok:Sto→Prop) (g:TGD) (tb:TSD):TSD:=fun E ρ st=>∃ Inv:Nat→Rho→Sto→Prop,Inv 0 ρ st∧(∀ i ρ' st',i≤items.length→Inv i ρ' st'→ok st') ∧
  (∀ (i:Nat) d ρ' st',items[i]? = some d→Inv i ρ' st'→g d ρ' st' fun ρ2 st2=>tb { E with nx:=Inv (i+1),ct:=Inv (i+1),bk:=E.nx } ρ2 st2)∧∀ ρ' st',Inv items.length ρ' st'→E.nx ρ' st'
def qEA (K:W.Frag) (φ1:Nat→Addr) (st1:Sto) (H1:Hp) (J:It) (items:List Dt) (ok:Sto→Prop):Prop :=
  ∀ (i:Nat) φ' st' H',Bhd K φ1 st1 H1 φ' st' H'→ok st'→i≤items.length→(i=items.length→J.stop i H') ∧
    (∀ d,items[i]? = some d→J.go i H'∧∀ y H2,J.yld i H' y H2→Bhd K φ' st' H' φ' st' H2∧D K φ' st'.length H2 d y)
section
variable {K:W.Frag} {φ1:Nat→Addr} {st1:Sto} {H1:Hp} {ρ1:Rho} {σ1:L2.St} {J:It} {items:List Dt} {ok:Sto→Prop} {g:TGD} {tb:TSD}
theorem qLx {E:qAq} {E':Ends} (pre:Pre K φ1 st1 H1 ρ1 σ1) (hJ:qEA K φ1 st1 H1 J items ok) (hf:qGO items ok g tb E ρ1 st1)
    (n:∀ ρ' st',E.nx ρ' st'→∀ φ' H' σ',Bhd K φ1 st1 H1 φ' st' H'→DR K φ' st'.length H' ρ' σ'→E'.nx σ' H')
    (r:∀ d st',E.rt d st'→∀ φ' H' v,Bhd K φ1 st1 H1 φ' st' H'→D K φ' st'.length H' d v→E'.rt v H') :
    ∃ W:Nat→Nat→L2.St→Hp→Prop,(∃ m,W 0 m σ1 H1)∧∀ i m σ H,W i m σ H →
      (J.stop i H∧E'.nx σ H)∨(J.go i H∧∃ N:L2.St→Hp→Prop,(∀ σ' H',N σ' H'→∃ m',m'<m∧W (i+1) m' σ' H')∧∀ x H',J.yld i H x H'→qE1 K g x σ H' fun σ2 H2=>qEr K tb { E' with nx:=N,ct:=N,bk:=E'.nx } σ2 H2):=by
  obtain⟨Inv,h0,hok,step,fin⟩:=hf
  refine⟨fun i m σ H=>m=items.length - i∧i≤items.length∧∃ φ' st' ρ',Pre K φ' st' H ρ' σ∧Bhd K φ1 st1 H1 φ' st' H∧Inv i ρ' st',⟨items.length,by simp,Nat.zero_le _,φ1,st1,ρ1,pre,.refl pre.1,h0⟩,?_⟩
  rintro i m σ H ⟨rfl,hi,φ',st',ρ',pre',bh,hI⟩
  obtain⟨js,jg⟩:=hJ i φ' st' H bh (hok i ρ' st' hi hI) hi
  by_cases hlt:i<items.length
  · have ed:items[i]? = some items[i]:=by simp [hlt]
    obtain⟨go,yl⟩:=jg _ ed
    refine .inr ⟨go,fun σ3 H3=>∃ φ3 st3 ρ3,Pre K φ3 st3 H3 ρ3 σ3∧Bhd K φ1 st1 H1 φ3 st3 H3∧Inv (i+1) ρ3 st3,fun σ3 H3 h3=>⟨items.length - (i+1),by omega,rfl,hlt,h3⟩,fun y H2 hy=>?_⟩
    obtain⟨b2,dy⟩:=yl y H2 hy
    refine⟨φ',st',ρ',items[i],_,pre'.on b2,dy,step i _ ρ' st' ed hI,fun ρ3 st3 h3 φ3 H3 σ3 b3 d3=>?_⟩
    have b13:=bh.trans (b2.trans b3)
    refine⟨φ3,st3,ρ3,_,⟨b3.1,d3⟩,h3,fun ρ4 st4 h4 φ4 H4 σ4 b4 d4=>⟨φ4,st4,ρ4,⟨b4.1,d4⟩,b13.trans b4,h4⟩,fun ρ4 st4 h4 φ4 H4 σ4 b4 d4=>n ρ4 st4 h4 φ4 H4 σ4 (b13.trans b4) d4,
      fun ρ4 st4 h4 φ4 H4 σ4 b4 d4=>⟨φ4,st4,ρ4,⟨b4.1,d4⟩,b13.trans b4,h4⟩,fun d st4 h4 φ4 H4 v b4 d4=>r d st4 h4 φ4 H4 v (b13.trans b4) d4⟩
  · have e:i=items.length:=by omega
    subst e
    exact .inl ⟨js rfl,n ρ' st' (fin ρ' st' hI) φ' H σ bh pre'.2⟩
end
noncomputable abbrev TID:=Rho→Sto→(List Dt→(Sto→Prop)→Sto→Prop)→Prop
noncomputable def qJu (K:W.Frag) (t:TID):TI:=fun σ H R=>∃ φ st ρ P,Pre K φ st H ρ σ∧t ρ st P∧∀ items ok st',P items ok st'→∀ φ' H' J,Bhd K φ st H φ' st' H'→qEA K φ' st' H' J items ok→R J H'
def DI (X:Cx) (tg it:Expr) (t:TID):Prop:=PI X tg it (qJu X.K t)
def qD3 (ti:TID) (g:TGD) (tb:TSD):TSD:=fun E ρ st=>ti ρ st fun items ok st1=>qGO items ok g tb E ρ st1
section
variable {X:Cx} {tg iter:Expr} {body:List Stmt} {pos:Pos} {ti:TID} {g:TGD} {tb:TSD}
theorem qOM (hp:PassesOwn (model X.prog X.w) X.A X.env X.xe) (hc:X.calm=true) (hi:DI X tg iter ti) (hg:DG X tg g) (hb:DSs X body tb) (hs:∀ x,foldedSetIterable iter X.env x=pure x:=by intro _;rfl):DS X (.For tg iter body [] pos) (qD3 ti g tb) :=
  (qNK hp hc hi hg hb hs).imp fun E σ H h=>by
    k_dat 0"r3"
    k_dat 0"r38"
    exact qLx (pre.on b1) hJ h1 (fun ρ2 st2 h2 φ2 H2 σ2 b2 d2=>n ρ2 st2 h2 φ2 H2 σ2 (b1.trans b2) d2) fun d st2 h2 φ2 H2 v b2 d2=>r d st2 h2 φ2 H2 v (b1.trans b2) d2
def qDU (te:TD):TID:=fun ρ st P=>te ρ st fun x st1=>match qc st1 x with
  | some xs=>P xs (fun st'=>qc st' x=some xs) st1
  | none=>False
theorem qMy {te:TD} (he:DE X iter te):DI X tg iter (qDU te):=by
  intro pins s σ H R I h
  k_dat 0"r0"
  refine thn (he pins s σ H _ I ⟨φ,st,ρ,_,pre,ht,fun x st1 h1 φ1 H1 v b1 dx=>(show ∃ φ1 st1 x,Bhd X.K φ st H φ1 st1 H1∧D X.K φ1 st1.length H1 x v∧(match qc st1 x with
    | some xs=>P xs (fun st'=>qc st' x=some xs) st1
    | none=>False) from⟨φ1,st1,x,b1,dx,h1⟩)⟩) fun u s1 ⟨v,H1,I1,ru,φ1,st1,x,b1,dx,h1⟩=>?_
  split at h1
  · rename_i xs ex
    obtain⟨a,vs,e1,hs,dl⟩:=qBH b1.1 dx ex
    subst e1
    cases ru
    rcases hs with ⟨hs,n,exn⟩ | ⟨hs,_⟩
    · obtain⟨its,rv,pl,hz⟩:=I1.list hs
      refine wpAny_pyIter_list pl.isList ?_
      refine⟨s1.heap.objs.size,[s1.heap.objs.size],_,_,H1,rfl,I1.kept (t':=s1.toks) fun b o e=>Heap.get?_push_of_some _ e,qJI a _,⟨_,Heap.get?_push_size _ rfl,rfl,rfl⟩,fun b hb=>?_,hq xs _ st1 h1 φ1 H1 _ b1 ?_⟩
      · have e:b=s1.heap.objs.size:=by simpa using hb
        subst e
        k_dat 0"r33"
      · intro i φ' st' H' bh hok hi
        obtain⟨a',ws,e2,hs',dl'⟩:=qBH bh.1 (dx.evo bh.2) hok
        cases e2
        have hsl:SqL X.K H' a ws:=by
          rcases hs' with z | ⟨_,z⟩
          · exact z.1
          · rw [exn] at z;cases z
        have hlen:=dl'.length
        refine⟨fun e=>⟨ws,hsl,by omega⟩,fun d ed=>?_⟩
        obtain⟨y,ey,dy⟩:=dl'.get ed
        refine⟨⟨ws,y,hsl,ey⟩,fun y' H2 hy=>?_⟩
        obtain⟨rfl,hy⟩:=hy
        have:=hy ws hsl
        rw [ey] at this
        cases this
        exact⟨.refl bh.1,dy⟩
    · obtain⟨its,rv,pl,hz⟩:=I1.tuple hs
      refine wpAny_pyIter_tuple (show s1.heap.IsTuple a its.toArray from pl) ?_
      refine⟨s1.heap.objs.size,[s1.heap.objs.size],_,_,H1,rfl,I1.kept (t':=s1.toks) fun b o e=>Heap.get?_push_of_some _ e,qHe a _,⟨_,Heap.get?_push_size _ rfl,rfl,rfl⟩,fun b hb=>?_,hq xs _ st1 h1 φ1 H1 _ b1 ?_⟩
      · have e:b=s1.heap.objs.size:=by simpa using hb
        subst e
        k_dat 0"r33"
      · intro i φ' st' H' bh hok hi
        have hsl:SqT X.K H' a vs:=bh.2.tup a vs hs
        have dl':=dl.evo bh.2
        have hlen:=dl'.length
        refine⟨fun e=>⟨vs,hsl,by omega⟩,fun d ed=>?_⟩
        obtain⟨y,ey,dy⟩:=dl'.get ed
        refine⟨⟨vs,y,hsl,ey⟩,fun y' H2 hy=>?_⟩
        obtain⟨rfl,hy⟩:=hy
        have:=hy vs hsl
        rw [ey] at this
        cases this
        exact⟨.refl bh.1,dy⟩
  · exact h1.elim
noncomputable def qA1 (lo:Int) (n:Nat):List Dt:=(List.range n).map fun k=>.int (lo+(k:Nat))
theorem qAT {lo:Int} {n i:Nat} {d:Dt} (h:(qA1 lo n)[i]? = some d):i<n∧d = .int (lo+(i:Nat)):=by
  unfold qA1 at h
  rw [List.getElem?_map] at h
  cases q:(List.range n)[i]? with
  | none=>rw [q] at h;cases h
  | some k =>
    rw [q] at h
    have:=List.getElem?_eq_some_iff.mp q
    obtain⟨h1,h2⟩:=this
    rw [List.getElem_range] at h2
    subst h2
    rw [List.length_range] at h1
    exact⟨h1,(Option.some.inj h).symm⟩
theorem qAa {lo:Int} {n:Nat}:(qA1 lo n).length=n:=by unfold qA1;simp
theorem qFe {K:W.Frag} {φ:Nat→Addr} {st:Sto} {H:Hp} {lo:Int} {n:Nat}:qEA K φ st H (Itr lo n) (qA1 lo n) (fun _=>True):=fun i φ' st' H' bh _ hi=>by
  rw [qAa] at hi
  refine⟨fun e=>by rw [qAa] at e;exact Nat.le_of_eq e.symm,fun d ed=>?_⟩
  obtain⟨h1,rfl⟩:=qAT ed
  refine⟨h1,fun y H2 hy=>?_⟩
  obtain⟨rfl,rfl⟩:=hy
  exact⟨.refl bh.1,D.mkInt⟩
def qAx (ta:TD):TID:=fun ρ st P=>ta ρ st fun x st1=>match x with
  | .int j=>-(2 ^ 62)≤j∧j<2 ^ 62∧P (qA1 0 j.toNat) (fun _=>True) st1
  | _=>False
theorem qI2 {a:Expr} {ta:TD} {p:Pos} (hm:X.mg "range" = none) (ha:DE X a ta) (hg:Gl X "range":=by rfl) (hs:starEach [a] X.env=[(false,eval a X.env)]:=by rfl):DI X tg (.Call (.Name "range" p) [a] [] pos) (qAx ta):=by
  intro pins s σ H R I h
  refine qIp hg hm (qDb ha qF2 hs) hs pins s σ H R I ?_
  k_dat 0"r0"
  refine⟨φ,st,ρ,(fun ds st1=>match ds with
    | [x]=>(match x with
      | .int j=>-(2 ^ 62)≤j∧j<2 ^ 62∧P (qA1 0 j.toNat) (fun _=>True) st1
      | _=>False)
    | _=>False),pre,?_,fun ds st1 h1 φ1 H1 vs b1 dl=>?_⟩
  · exact ht
  · rcases ds with _ | ⟨d,_ | ⟨d2,r⟩⟩
    · exact h1.elim
    rotate_left
    · exact h1.elim
    · cases d<;>first
        | exact h1.elim
        | skip
      rename_i j
      obtain⟨v,rfl,dv⟩:=dl.one
      obtain⟨h2,h3,h4⟩:=h1
      exact⟨j,by rw [dv.int],h2,h3,hq _ _ st1 h4 φ1 H1 _ b1 qFe⟩
def qFD (items:List Dt) (ok:Sto→Prop) (tc:TBD) (te:TD) (cρ:Rho) (st:Sto) (Fin:List Dt→Sto→Prop):Prop:=∃ Inv:Nat→List Dt→Sto→Prop,Inv 0 [] st∧(∀ i ys st',i≤items.length→Inv i ys st'→ok st') ∧
  (∀ (i:Nat) d ys st',items[i]? = some d→Inv i ys st'→ys.length<sizeLine∧tc (some d::cρ) st' fun k st1=>if k=true then te (some d::cρ) st1 fun y st2=>Inv (i+1) (ys++[y]) st2 else Inv (i+1) ys st1) ∧
  ∀ ys st',Inv items.length ys st'→Fin ys st'
noncomputable def qHH (caps:List (Nat×Str)) (ρ:Rho):Rho:=caps.map fun p=>(ρ[p.1]?).join
theorem qJV {K:W.Frag} {φ:Nat→Addr} {N:Nat} {H:Hp} {ρ:Rho} {σ:L2.St} (h:DR K φ N H ρ σ) (caps:List (Nat×Str)):DR K φ N H (qHH caps ρ) (qFd caps σ):=by
  refine⟨by unfold qHH qFd;simp,fun i d e=>?_⟩
  unfold qHH at e
  rw [List.getElem?_map] at e
  unfold qFd
  rw [List.getElem?_map]
  cases q:caps[i]? with
  | none=>rw [q] at e;cases e
  | some p =>
    rw [q] at e
    have e':(ρ[p.1]?).join=some d:=Option.some.inj e
    have e2:ρ[p.1]? = some (some d):=by
      cases q:ρ[p.1]? with
      | none=>rw [q] at e';cases e'
      | some o=>rw [q] at e';exact congrArg some e'
    obtain⟨v,ev,dv⟩:=h.2 p.1 d e2
    exact⟨v,by show some ((σ[p.1]?).join)=_;rw [ev];rfl,dv⟩
theorem qK3 {K:W.Frag} {φ:Nat→Addr} {N:Nat} {H:Hp} {ρ:Rho} {σ:L2.St} {o:Option V} {d:Dt} {v:V} (h:DR K φ N H ρ σ) (hd:D K φ N H d v):DR K φ N H (some d::ρ) (some v::σ):=by
  refine⟨by rw [List.length_cons,List.length_cons,h.1],fun i e q=>?_⟩
  cases i with
  | zero=>simp at q;subst q;exact⟨v,rfl,hd⟩
  | succ i=>exact h.2 i e (by simpa using q)
def DIf (X:Cx) (ifs:List Expr) (t:TBD):Prop:=PIf X ifs (liftT X.K t)
theorem qLB:DIf X [] (fun _ st P=>P true st):=fun pins s σ H Q I h=>by
  k_dat 0"r0"
  exact qK7 pins s σ H Q I (hq true st ht φ H (.refl pre.1))
theorem qLa {c:Expr} {t:TBD} (h:DT X c t):DIf X [c] t:=qLF h
theorem qJr {K:W.Frag} {φ1:Nat→Addr} {st1:Sto} {H1:Hp} {cρ:Rho} {cσ:L2.St} {J:It} {items:List Dt} {ok:Sto→Prop} {tc:TBD} {te:TD} {Fin:List Dt→Sto→Prop} {Fin':List V→Hp→Prop}
    (R:Rep K φ1 st1 H1) (dr:DR K φ1 st1.length H1 cρ cσ) (hJ:qEA K φ1 st1 H1 J items ok) (hc:qFD items ok tc te cρ st1 Fin)
    (hF:∀ ys st' φ' H' vs,Fin ys st'→Bhd K φ1 st1 H1 φ' st' H'→DL K φ' st'.length H' ys vs→Fin' vs H') :
    qIT J (qDv 0) (liftT K tc) (qAR K te) (List.replicate 1 none++cσ) H1 Fin':=by
  obtain⟨Inv,h0,hok,step,fin⟩:=hc
  refine⟨fun i m σ vs H=>m=items.length - i∧i≤items.length∧∃ φ' st' ys o,σ=o::cσ∧Bhd K φ1 st1 H1 φ' st' H∧DL K φ' st'.length H ys vs∧Inv i ys st',
    ⟨items.length,by simp,Nat.zero_le _,φ1,st1,[],none,rfl,.refl R,.nil,h0⟩,?_⟩
  rintro i m σ vs H ⟨rfl,hi,φ',st',ys,o,rfl,bh,dl,hI⟩
  obtain⟨js,jg⟩:=hJ i φ' st' H bh (hok i ys st' hi hI) hi
  by_cases hlt:i<items.length
  · have ed:items[i]? = some items[i]:=by simp [hlt]
    obtain⟨go,yl⟩:=jg _ ed
    obtain⟨hz,hstep⟩:=step i _ ys st' ed hI
    refine .inr ⟨go,by rw [← dl.length];exact hz,fun y H2 hy=>?_⟩
    obtain⟨b2,dy⟩:=yl y H2 hy
    have b12:=bh.trans b2
    have pre2:Pre K φ' st' H2 (some items[i]::cρ) (some y::cσ):=⟨b2.1,qK3 (o:=none) (dr.evo b12.2) dy⟩
    show liftT K tc (some y::cσ) H2 _
    refine⟨φ',st',_,_,pre2,hstep,fun k st3 h3 φ3 H3 b3=>?_⟩
    cases k with
    | false =>
      rw [if_neg Bool.false_ne_true] at h3 ⊢
      exact⟨items.length - (i+1),by omega,rfl,hlt,φ3,st3,ys,some y,rfl,b12.trans b3,dl.evo (b2.2.trans b3.2),h3⟩
    | true =>
      rw [if_pos rfl] at h3 ⊢
      refine⟨φ3,st3,_,_,pre2.on b3,h3,fun z st4 h4 φ4 H4 w b4 dz=>?_⟩
      exact⟨items.length - (i+1),by omega,rfl,hlt,φ4,st4,ys++[z],some y,rfl,b12.trans (b3.trans b4),(dl.evo (b2.2.trans (b3.2.trans b4.2))).append (.cons dz .nil),h4⟩
  · have e:i=items.length:=by omega
    subst e
    exact .inl ⟨js rfl,hF ys st' φ' H vs (fin ys st' hI) bh dl⟩
def qB4 (ti:TID) (tc:TBD) (te:TD) (caps:List (Nat×Str)):TD:=fun ρ st P=>ti ρ st fun items ok st1=>qFD items ok tc te (qHH caps ρ) st1 fun ys st2=>P (.lst st2.length) (st2++[.rw ys])
theorem qE8 {K:W.Frag} {tc:TBD} {te:TD} {caps:List (Nat×Str)} {σ:L2.St} {H:Hp} {Q:VK} (h:qAR K (qB4 ti tc te caps) σ H Q):qH8 (qJu K ti) (qDv 0) (liftT K tc) (qAR K te) 1 caps σ H Q:=by
  k_dat 0"r0"
  k_dat 0"r38"
  refine qJr b1.1 (qJV (pre.on b1).2 caps) hJ h1 fun ys st2 φ2 H2 vs hF b2 dl p hp=>?_
  exact hq _ _ hF _ _ _ (b1.trans (b2.trans (qBa b2.1 hp dl))) qDs
variable {elt:Expr} {ifs:List Expr} {sc:Scope} {x:Str} {px:Pos} {tc:TBD} {te:TD}
theorem qFW (caps:List (Nat×Str)) (hc:X.calm=true) (S:qAC X.env.scope X.N caps sc) (hx:sc.names.lookup x=some .local) (hnd:([x]++caps.map (·.2)).Nodup) (hi:DI X (.Name x px) iter ti)
    (hif:∀ C s H fp,DIf (qw X [x] caps sc C s H fp) ifs tc) (he:∀ C s H fp,DE (qw X [x] caps sc C s H fp) elt te)
    (hs:∀ x,foldedSetIterable iter X.env x=pure x:=by intro _;rfl):DE X (.ListComp elt [⟨.Name x px,iter,ifs,0⟩] sc pos) (qB4 ti tc te caps) :=
  PE.imp (qLQ (g:=qDv 0) (tc:=liftT X.K tc) (te:=qAR X.K te) [x] caps hc S hi (fun C s H fp=>qFc hnd rfl (.inl (lookup_relabel_local hx)) (.inr (lookup_relabel_local hx))) hif he hs) fun σ H Q h=>qE8 h
theorem qGB (i:Nat) {y:Str} {py spos:Pos} (caps:List (Nat×Str)) (hc:X.calm=true) (hN:X.N.Nodup) (S:qAC X.env.scope X.N caps sc) (hx:sc.names.lookup x=some .local) (hnd:([x]++caps.map (·.2)).Nodup) (hi:DI X (.Name x px) iter ti)
    (hif:∀ C s H fp,DIf (qw X [x] caps sc C s H fp) ifs tc) (he:∀ C s H fp,DE (qw X [x] caps sc C s H fp) elt te)
    (hy:X.N[i]? = some y:=by rfl) (hyl:X.env.scope.names.lookup y=some .local:=by rfl)
    (hsw:swapsWith (.ListComp elt [⟨.Name x px,iter,ifs,0⟩] sc pos) (some (.Name y py)) spos.line X.env=pure true:=by rfl)
    (hs:∀ x,foldedSetIterable iter X.env x=pure x:=by intro _;rfl):DS X (.Assign [.Name y py] (.ListComp elt [⟨.Name x px,iter,ifs,0⟩] sc pos) spos) (qb (qB4 ti tc te caps) (qO i)) :=
  PS.imp (qIK (g:=qDv 0) (tc:=liftT X.K tc) (te:=qAR X.K te) [x] caps hc hN hy hyl S hi (fun C s H fp=>qFc hnd rfl (.inl (lookup_relabel_local hx)) (.inr (lookup_relabel_local hx))) hif he hsw hs) fun E σ H h=>by
    k_dat 0"r3"
    refine qE8 (ti:=ti) (tc:=tc) (te:=te) (caps:=caps) ⟨φ,st,ρ,_,pre,ht,fun d st1 h1 φ1 H1 v b1 dx=>?_⟩
    exact n _ st1 h1 φ1 H1 _ b1 ((pre.on b1).2.set dx i)
noncomputable def qW (N:List Str) (ds:List Dt):Rho:=ds.map some++List.replicate (N.length - ds.length) none
theorem qGS {K:W.Frag} {φ:Nat→Addr} {n:Nat} {H:Hp} {ds:List Dt} {vs:List V} (h:DL K φ n H ds vs) (N:List Str):DR K φ n H (qW N ds) (L2.start N vs):=by
  refine⟨by unfold qW L2.start;simp [h.length],fun i d e=>?_⟩
  unfold qW at e
  unfold L2.start
  by_cases hi:i<ds.length
  · rw [List.getElem?_append_left (by simpa using hi),List.getElem?_map] at e
    cases q:ds[i]? with
    | none=>rw [q] at e;cases e
    | some d' =>
      rw [q] at e
      have:d'=d:=by
        have e':some (some d')=some (some d):=e
        injection e' with e1;injection e1
      subst this
      obtain⟨v,ev,dv⟩:=h.get q
      refine⟨v,?_,dv⟩
      rw [List.getElem?_append_left (by simp;rw [← h.length];exact hi),List.getElem?_map,ev]
      rfl
  · rw [List.getElem?_append_right (by simpa using Nat.not_lt.mp hi),List.getElem?_replicate] at e
    split at e<;>cases e
theorem qOT {P:Program} {w:World} {K:W.Frag} {mg:Str→Option Value} {base:Heap} {x qual:Str} {stt:Stmt} {f:Addr} {fd:FuncData} {N ps:List Str} {k:Nat} {sp:RDL} (F:Fun K x qual stt f fd) (S:qR N ps (qL stt))
    (len:∀ ds st Pd,sp ds st Pd→ds.length=ps.length)
    (hbody:∀ (cdv:Value) (A:Around) (outer:List Env) (s:Shared) (H:Hp) (E:XK),qAh k (A.deeper (envOfC qual (qL stt) s.heap.objs.size f cdv)) →
      ∃ t,DSs (qF4 CX0 P w K mg base N qual (qL stt) f cdv A outer s H E).nox (qAJ stt) t∧∀ ds st Pd,sp ds st Pd→t { nx:=fun _ st'=>Pd .non st',rt:=Pd } (qW N ds) st):qv P w K mg base CX0 (k+1) f fd ps (qT K sp):=by
  refine F.ok S (fun vs H Q E h=>?_) fun cdv A outer s H vs Q E hr h=>?_
  · k_dat 0"r31"
    rw [← dl.length]
    exact len ds st Pd hs
  · obtain⟨t,ht,hb⟩:=hbody cdv A outer s H E hr
    k_dat 0"r31"
    refine⟨_,ht,φ,st,qW N ds,_,⟨R,qGS dl N⟩,hb ds st Pd hs,fun ρ' st' h' φ' H' σ' b' d'=>hq _ st' h' φ' H' _ b' D.qIF,fun ρ' st' h'=>h'.elim,fun ρ' st' h'=>h'.elim,fun d st' h' φ' H' v b' d'=>hq d st' h' φ' H' v b' d'⟩
end
end L3
namespace L3
open PySem PySem.Spec PyProof.Rows L2
structure qj (P:Program) (w:World) (K:W.Frag) (mg:Str→Option Value) (base:Heap) (x:Str) (k:Nat) (sp:RDL):Prop where
  ex:∃ f fd ps,qv P w K mg base CX0 k f fd ps (qT K sp)∧mg x=some (.ref f)∧W.keepIn K (.ref f)=true∧Binds K fd ps []
section
variable {X:Cx} {e:Expr} {es:List Expr} {t:TAD} {pos p:Pos} {x:Str}
theorem qJe {k:Nat} {sp:RDL} (F:qj X.prog X.w X.K X.mg X.base x k sp) (hr:qAh k X.A) (ha:DA X (e::es) t) (hg:Gl X x) (hdb:(x==("__debug__" : Str))=false) (he:starEach (e::es) X.env=(false,eval e X.env)::starEach es X.env)
    (hpl:(backTo pos (starEach es X.env)).any (·.1)=false):DE X (.Call (.Name x p) (e::es) [] pos) (qJ sp t):=by
  obtain⟨f,fd,ps,h1,h2,h3,h4⟩:=F.ex
  exact qK9 h1 hr h2 h3 h4 ha hg hdb he hpl
theorem qQP {A:Around} {k:Nat} (hr:qAh k A):A.units+16<cLine:=Nat.lt_of_le_of_lt (Nat.add_le_add_left (by decide:16≤64) _) hr.units
structure qMh (K:W.Frag) (mg:Str→Option Value) (x:Str) (d:Dt):Prop where
  ex:∃ v u,mg x=some u∧RelV v u∧∀ φ N H,D K φ N H d v
theorem qNH {d:Dt} (h:qMh X.K X.mg x d) (hg:Gl X x) (hd:(x==("__debug__" : Str))=false):DE X (.Name x pos) (qD d):=by
  obtain⟨v,u,h1,h2,h3⟩:=h.ex
  exact qL1 h1 h2 h3 hg hd
structure Hint (caps:List (Nat×Str)):Prop where
  ok:True
end
section
variable {X:Cx} {a b c:Expr} {ta tb tc:TD} {pos:Pos}
theorem qOA (ha:DE X a ta) (hb:DE X b tb):DE X (.BinOp a .Add b pos) (qE L3.qBW ta tb):=qG4 qNL ha hb
theorem qNv (ha:DE X a ta) (hb:DE X b tb):DE X (.BinOp a .Sub b pos) (qE qGm ta tb):=qG4 qOj ha hb
theorem qMu (ha:DE X a ta) (hb:DE X b tb):DE X (.BinOp a .Mult b pos) (qE qCX ta tb):=qG4 qOF ha hb
theorem qM2 (ha:DE X a ta) (hb:DE X b tb):DE X (.BinOp a .FloorDiv b pos) (qE qEP ta tb):=qG4 qOB ha hb
theorem qNJ (ha:DE X a ta) (hb:DE X b tb):DE X (.BinOp a .Mod b pos) (qE qAF ta tb):=qG4 qM4 ha hb
theorem qPD (hu:X.A.units+16<cLine) (ha:DE X a ta) (hb:DE X b tb) (hm:behindInMarks .Eq b=false):DE X (.Compare a [.Eq] [b] pos) (qE (qU false) ta tb):=qEC (qMe hu) ha hb hm
theorem qNi (hu:X.A.units+16<cLine) (ha:DE X a ta) (hb:DE X b tb) (hm:behindInMarks .Eq b=false):DT X (.Compare a [.Eq] [b] pos) (qI (qE (qU false) ta tb)):=qBj (qMe hu) ha hb hm
theorem qO6 (hu:X.A.units+16<cLine) (ha:DE X a ta) (hb:DE X b tb) (hm:behindInMarks .NotEq b=false):DE X (.Compare a [.NotEq] [b] pos) (qE (qU true) ta tb):=qEC (qMJ hu) ha hb hm
theorem qMz (hu:X.A.units+16<cLine) (ha:DE X a ta) (hb:DE X b tb) (hm:behindInMarks .NotEq b=false):DT X (.Compare a [.NotEq] [b] pos) (qI (qE (qU true) ta tb)):=qBj (qMJ hu) ha hb hm
theorem qPF (ha:DE X a ta) (hb:DE X b tb) (hm:behindInMarks .Lt b=false):DE X (.Compare a [.Lt] [b] pos) (qE (qAN fun i j=>decide (i<j)) ta tb):=qEC qMa ha hb hm
theorem qOP (ha:DE X a ta) (hb:DE X b tb) (hm:behindInMarks .Lt b=false):DT X (.Compare a [.Lt] [b] pos) (qI (qE (qAN fun i j=>decide (i<j)) ta tb)):=qBj qMa ha hb hm
theorem qPq (ha:DE X a ta) (hb:DE X b tb) (hm:behindInMarks .Gt b=false):DE X (.Compare a [.Gt] [b] pos) (qE (qAN fun i j=>decide (j<i)) ta tb):=qEC qMS ha hb hm
theorem qOW (ha:DE X a ta) (hb:DE X b tb) (hm:behindInMarks .Gt b=false):DT X (.Compare a [.Gt] [b] pos) (qI (qE (qAN fun i j=>decide (j<i)) ta tb)):=qBj qMS ha hb hm
theorem qOz (ha:DE X a ta) (hb:DE X b tb) (hm:behindInMarks .GtE b=false):DE X (.Compare a [.GtE] [b] pos) (qE (qAN fun i j=>decide (j≤i)) ta tb):=qEC qPs ha hb hm
theorem qNy (ha:DE X a ta) (hb:DE X b tb) (hm:behindInMarks .In b=false):DT X (.Compare a [.In] [b] pos) (qI (qE (qAe false) ta tb)):=qBj qPH ha hb hm
theorem qIy (ha:DE X a ta) (hb:DE X b tb) (hm:behindInMarks .NotIn b=false):DT X (.Compare a [.NotIn] [b] pos) (qI (qE (qAe true) ta tb)):=qBj qJZ ha hb hm
theorem qOR (ha:DE X a ta) (hb:DE X b tb) (hm:behindInMarks .Is b=false):DT X (.Compare a [.Is] [b] pos) (qI (qE (qC5 false) ta tb)):=qBj qPn ha hb hm
theorem qJM (ha:DE X a ta) (hb:DE X b tb) (hm:behindInMarks .IsNot b=false):DT X (.Compare a [.IsNot] [b] pos) (qI (qE (qC5 true) ta tb)):=qBj qKl ha hb hm
theorem qK0 (ha:DE X a ta) (hb:DE X b tb) (hc:DE X c tc) (hm:lastMarks [.LtE,.Lt] [b,c]=false):DE X (.Compare a [.LtE,.Lt] [b,c] pos) (qB2 (fun i j=>decide (i≤j)) (fun i j=>decide (i<j)) ta tb tc):=qKA qMZ qJQ ha hb hc hm
theorem qI1 (ha:DE X a ta) (hb:DE X b tb) (hc:DE X c tc) (hm:lastMarks [.LtE,.Lt] [b,c]=false):DT X (.Compare a [.LtE,.Lt] [b,c] pos) (qI (qB2 (fun i j=>decide (i≤j)) (fun i j=>decide (i<j)) ta tb tc)):=qKQ qMZ qJQ ha hb hc hm
theorem qOJ {e:Expr} {es:List Expr} {t:TAD} {p:Pos} (hm:X.mg "len" = none) (ha:DA X (e::es) t) (hg:Gl X "len") (he:starEach (e::es) X.env=(false,eval e X.env)::starEach es X.env) (hpl:(backTo pos (starEach es X.env)).any (·.1)=false):DE X (.Call (.Name "len" p) (e::es) [] pos) (qJ qAd t):=qDy qM8 hm PySem.boot_len ha hg (by decide) (by decide) he hpl
theorem qIh {e:Expr} {es:List Expr} {t:TAD} {p:Pos} (hm:X.mg "isinstance" = none) (ha:DA X (e::es) t) (hg:Gl X "isinstance") (he:starEach (e::es) X.env=(false,eval e X.env)::starEach es X.env) (hpl:(backTo pos (starEach es X.env)).any (·.1)=false):DE X (.Call (.Name "isinstance" p) (e::es) [] pos) (qJ qAU t):=qDy qIa hm boot_isinstance ha hg (by decide) (by decide) he hpl
theorem qKF {e:Expr} {es:List Expr} {t:TAD} {p:Pos} (hm:X.mg "tuple" = none) (ha:DA X (e::es) t) (hg:Gl X "tuple") (he:starEach (e::es) X.env=(false,eval e X.env)::starEach es X.env) (hpl:(backTo pos (starEach es X.env)).any (·.1)=false):DE X (.Call (.Name "tuple" p) (e::es) [] pos) (qJ qFq t):=qDE qJp hm PyProof.Rows.boot_tuple ha hg (by decide) (by decide) he hpl
theorem qL7 {e:Expr} {es:List Expr} {t:TAD} {p:Pos} (hm:X.mg "list" = none) (ha:DA X (e::es) t) (hg:Gl X "list") (he:starEach (e::es) X.env=(false,eval e X.env)::starEach es X.env) (hpl:(backTo pos (starEach es X.env)).any (·.1)=false):DE X (.Call (.Name "list" p) (e::es) [] pos) (qJ qJ6 t):=qDE qLo hm PyProof.Rows.boot_list ha hg (by decide) (by decide) he hpl
theorem qJc (hm:X.mg "int" = none) (hg:Gl X "int"):DE X (.Name "int" pos) (qD (.ty "int")):=qKi hm PyProof.Rows.boot_int hg
theorem qIz (hm:X.mg "bool" = none) (hg:Gl X "bool"):DE X (.Name "bool" pos) (qD (.ty "bool")):=qKi hm PyProof.Rows.boot_bool hg
theorem qHR (hm:X.mg "tuple" = none) (hg:Gl X "tuple"):DE X (.Name "tuple" pos) (qD (.ty "tuple")):=qKi hm PyProof.Rows.boot_tuple hg
end
noncomputable def qDl (so:Scope) (N:List Str) (caps:List (Nat×Str)) (sc:Scope):Bool :=
  decide (sc.kind = .function)&&(sc.names.all fun y=>decide (y.2≠.cell))&&(sc.names.all fun y=>decide (y.2 = .local→sc.names.lookup y.1=some .local))&&(sc.names.all fun y=>decide (y.2 = .free→so.names.lookup y.1=some .cell)) &&
    (caps.all fun p=>decide (N[p.1]? = some p.2∧so.names.lookup p.2=some .cell∧sc.names.lookup p.2=some .free))
theorem qGT {so:Scope} {N:List Str} {caps:List (Nat×Str)} {sc:Scope} (h:qDl so N caps sc=true):qAC so N caps sc:=by
  unfold qDl at h
  simp only [Bool.and_eq_true] at h
  obtain⟨⟨⟨⟨h1,h2⟩,h3⟩,h4⟩,h5⟩:=h
  exact⟨of_decide_eq_true h1,fun y hy=>of_decide_eq_true (List.all_eq_true.mp h2 y hy),fun y hy=>of_decide_eq_true (List.all_eq_true.mp h3 y hy),fun y hy=>of_decide_eq_true (List.all_eq_true.mp h4 y hy),fun y hy=>of_decide_eq_true (List.all_eq_true.mp h5 y hy)⟩
theorem qFU {so:Scope} {N:List Str} {caps:List (Nat×Str)} {sc:Scope} (_:Hint caps) (h:qDl so N caps sc=true):qAC so N caps sc:=qGT h
def qGZ:RDL:=fun ds st P=>∃ ns:List Int,ds=[.lst 0]∧st=[.ro (ns.map .int)]∧ns.length≤63∧∀ st',P (.bl true) st'
theorem DL.ints {K:W.Frag} {φ:Nat→Addr} {N:Nat} {H:Hp}:∀ ns:List Int,DL K φ N H (ns.map .int) (ns.map V.int)
  | []=>.nil
  | n::ns=>.cons D.mkInt (DL.ints ns)
theorem qKY {l:W.OpenLaw} {q:Program} {loose:List Str} {XP:(Str→Option Value)→Heap→Prop} {YP:World→Heap→Prop} {d:DefRec} {K:Params→W.Frag} (k:Nat) (hn:l.most=some 63) (hdf:d.params.defaults=[]) (hr:qAh k callerA)
    (hY:∀ (w:World) (h:Heap),YP w h→(K w.params).In h)
    (F:∀ (w:World) (mg:Str→Option Value) (fa:Addr) (h:Heap),(K w.params).In h→h.Ns mainGlobals mg→mg d.name=some (.ref fa) →
      ∃ fd:FuncData,(∀ (s:Shared) (u:Value),BindsTo s fd ⟨[u],[]⟩ [("script",u)])∧∀ base:Heap,(K w.params).In base→base.Ns mainGlobals mg→qv l.prog w (K w.params) mg base CX0 k fa fd ["script"] (qT (K w.params) qGZ)) :
    W.WalkO q loose XP YP l.row.toRowW d [] (fun f vs=>PySem.call f vs):=by
  refine L2.qMC (n:=63) (k:=k) (x:= "script") (CX:=fun _=>CX0) (sp:=fun w=>qT (K w.params) qGZ) hn (by decide) hdf hr hY F (fun w H a ns hl hO hS=>?_) fun _ _ _ _ _ z=>z
  have hR:SqR (K w.params) H a (ns.map V.int):=by
    rcases hS with (h | h) | h
    · rcases hO a with z | ⟨o,xs,z⟩
      · rw [h] at z;cases z
      · rw [h] at z;cases z
    · exact .inl h
    · exact .inr h
  refine⟨fun _=>a,[.ro (ns.map .int)],[.lst 0],fun d st'=>d = .bl true,⟨fun i j x y e _ hw=>?_,fun i x e=>?_⟩,.cons (D.qMU (by show 0<1;decide) ⟨_,hR.sq⟩) .nil,⟨ns,rfl,rfl,hl,fun _=>rfl⟩,fun d st' hd φ' H' u b du=>by rw [hd] at du;exact du.bl⟩
  · cases i with
    | zero=>simp at e;subst e;cases hw
    | succ i=>simp at e
  · cases i with
    | zero =>
      simp at e
      subst e
      exact⟨ns.map V.int,hR,DL.ints ns⟩
    | succ i=>simp at e
end L3
namespace L3
open PySem PySem.Spec PyProof.Rows L2
section
variable {X:Cx} {a:Expr} {elts:List Expr} {x1:Nat} {tpos pos p:Pos} {te:TD}
structure qKO (K:W.Frag) (mg:Str→Option Value) (x:Str) (ds:List Dt):Prop where
  ex:∃ a o vs its n,mg x=some (.ref a)∧K.lookup a=some o∧o.cls = .type "tuple" ∧ o.dict=none∧o.data = .seq its n∧its.size≤sizeLine∧Vals vs its.toList∧∀ φ N H,DL K φ N H ds vs
theorem qKO.con {K:W.Frag} {mg:Str→Option Value} {x:Str} {ds:List Dt} (h:qKO K mg x ds):qMh K mg x (.tup ds):=by
  obtain⟨a,o,vs,its,n,h1,h2,h3,h4,h5,h6,h7,h8⟩:=h.ex
  exact⟨.ref a,_,h1,rfl,fun φ N H=>.qCO (.inr ⟨o,its,n,h2,⟨h3,h4⟩,h5,h6,h7⟩) (h8 φ N H)⟩
theorem find_spec {α:Type} {p:α→Bool}:∀ {xs:List α} {j:Nat},xs.findIdx? p=some j→∃ h:j<xs.length,p xs[j]=true∧∀ m (hm:m<xs.length),m<j→p xs[m]=false:=fun {xs j} h=>by
  obtain⟨h1,h2,h3⟩:=List.findIdx?_eq_some_iff_getElem.mp h
  exact⟨h1,h2,fun m hm hmj=>by simpa using h3 m hmj⟩
end
noncomputable def qBB:List Value→List Str→Bool
  | [],[]=>true
  | .str x _::us,s::ss=>x==s&&qBB us ss
  | _,_=>false
theorem qEo:∀ {us:List Value} {ss:List Str},qBB us ss=true→Vals (ss.map V.str) us
  | [],[],_=>.nil
  | [],_::_,h=>by simp [qBB] at h
  | u::us,[],h=>by cases u<;>simp [qBB] at h
  | u :: us,s::ss,h=>by
    cases u with
    | str x t =>
      rw [qBB,Bool.and_eq_true] at h
      have e:x=s:=eq_of_beq h.1
      subst e
      exact .cons ⟨t,rfl⟩ (qEo h.2)
    | _=>simp [qBB] at h
theorem DL.strs {K:W.Frag} {φ:Nat→Addr} {N:Nat} {H:Hp}:∀ ss:List Str,DL K φ N H (ss.map .str) (ss.map V.str)
  | []=>.nil
  | n::ns=>.cons D.mkStr (DL.strs ns)
theorem qJL {K:W.Frag} {mg:Str→Option Value} {x:Str} {a:Addr} {its:Array Value} {n:Nat} {sl:Array (Option Value)} {ss:List Str} (hm:mg x=some (.ref a)) (l:K.lookup a=some ⟨.type "tuple",none,.seq its n,sl⟩) (v:qBB its.toList ss=true) (sz:its.size≤sizeLine) :
    qKO K mg x (ss.map .str):=⟨a,_,ss.map V.str,its,n,hm,l,rfl,rfl,rfl,sz,qEo v,fun _ _ _=>DL.strs ss⟩
def qFC:RDL:=fun ds st P=>match ds with
  | [x]=>(match x with
    | .bl k=>P (.int (if k then 1 else 0)) st
    | .int i=>P (.int i) st
    | _=>False)
  | _=>False
theorem qMs {X:Cx}:qDL X (.type "int") qFC:=by
  k_dat 0"r18"
  k_dat 0"r19"
  k_dat 0"r23"
  · exact hr.elim
  rotate_left
  · exact hr.elim
  · obtain⟨v,rfl,dx⟩:=dl.one
    cases x with
    | bl k=>exact qE0 pins s σ H [v] us Q I rv (.inr ⟨k,by rw [dx.bl],Go.here hq R hr D.mkInt⟩)
    | int k=>exact qE0 pins s σ H [v] us Q I rv (.inl ⟨k,by rw [dx.int],Go.here hq R hr D.mkInt⟩)
    | _=>exact hr.elim
theorem qNF {X:Cx} {pos:Pos} {e:Expr} {es:List Expr} {t:TAD} {p:Pos} (hm:X.mg "int" = none) (ha:DA X (e::es) t) (hg:Gl X "int") (he:starEach (e::es) X.env=(false,eval e X.env)::starEach es X.env) (hpl:(backTo pos (starEach es X.env)).any (·.1)=false):DE X (.Call (.Name "int" p) (e::es) [] pos) (qJ qFC t):=qDE qMs hm PyProof.Rows.boot_int ha hg (by decide) (by decide) he hpl
structure qPQ (caps:List (Nat×Str)):Prop where
  ok:True
theorem qGg {so:Scope} {N:List Str} {caps:List (Nat×Str)} {sc:Scope} (_:qPQ caps) (h:qDl so N caps sc=true):qAC so N caps sc:=qGT h
theorem qLJ {st:Sto} {i:Nat} {o x:SO} (h:st[i]? = some o):(st++[x])[i]? = some o:=by
  rw [List.getElem?_append_left (qX h)];exact h
theorem q9 {st:Sto} {i j:Nat} {o x:SO} (h:st[i]? = some o) (hne:j≠i):(st.set j x)[i]? = some o:=by
  rw [List.getElem?_set_ne hne];exact h
theorem qA2 {st:Sto} {i:Nat} {o x:SO} (h:st[i]? = some o):(st.set i x)[i]? = some x:=by
  rw [List.getElem?_set_self (qX h)]
theorem q8 {st:Sto} {x:SO}:(st++[x])[st.length]? = some x:=by simp
def qg (st st':Sto):Prop:=∀ (i:Nat) o,st[i]? = some o→st'[i]? = some o
theorem qg.refl (st:Sto):qg st st:=fun _ _ h=>h
theorem qg.trans {a b c:Sto} (h:qg a b) (h':qg b c):qg a c:=fun i o q=>h' i o (h i o q)
theorem qg.app (st:Sto) (x:SO):qg st (st++[x]):=fun _ _ h=>qLJ h
noncomputable abbrev Ed (Pd:VD):qAq:={ nx:=fun _ st'=>Pd .non st',rt:=Pd }
theorem qGI {i j:Int} (h1:0≤i) (h2:i<4294967296):qGA i j:=.inl ⟨by omega,by omega⟩
theorem small {n:Nat} (h:n<1000):n<sizeLine:=Nat.lt_trans h (by decide)
end L3
namespace L3
open PySem PySem.Spec PyProof.Rows L2
theorem hu1 {k:Nat} {A:Around} (r:qAh k A):A.units+1<cLine:=by have:=r.units;omega
end L3
namespace L3
open PySem PySem.Spec PyProof.Rows L2
def qKs:RDL:=fun ds st P=>match ds with
  | [.lst n]=>(match st[n]? with
    | some o=>∃ bs:List Bool,o.items=bs.map .bl∧P (.bl (bs.all id)) st
    | none=>False)
  | _=>False
theorem qEp {K:W.Frag} {φ:Nat→Addr} {N:Nat} {H:Hp}:∀ {bs:List Bool} {ws:List V} {us:List Value},DL K φ N H (bs.map .bl) ws→Vals ws us→LSm.BoolsAre us bs
  | [],ws,us,dl,rv=>by
    have e:ws=[]:=by simpa [DL] using dl
    subst e
    cases rv
    exact .nil
  | b :: bs,ws,us,dl,rv=>by
    obtain⟨v,r,rfl,h1,h2⟩:=dl
    cases rv with
    | @cons a u as us' h t =>
      have e:v = .bl b:=h1.bl
      subst e
      have e2:u=Value.bool b:=h
      subst e2
      exact .cons b (qEp h2 t)
section
variable {X:Cx}
theorem qNq (hc:X.calm=true):qDL X (.builtin "all") qKs:=by
  k_dat 0"r18"
  k_dat 0"r19"
  k_dat 0"r23"
  · exact hr.elim
  rotate_left
  · cases x<;>exact hr.elim
  · obtain⟨v,rfl,dx⟩:=dl.one
    obtain⟨u,rfl,ru⟩:=vals1 rv
    cases x with
    | lst n =>
      have hr:(match st[n]? with
        | some o=>∃ bs:List Bool,o.items=bs.map .bl∧P (.bl (bs.all id)) st
        | none=>False):=hr
      split at hr
      · rename_i o eo
        obtain⟨bs,eb,hp⟩:=hr
        obtain⟨ws,hs1,dws⟩:=R.seq eo dx.isL
        rw [eb] at dws
        have ev:=dx.lst.2
        subst ev
        cases ru
        obtain⟨its,rvs,pl,hz⟩:=I.list hs1
        have hb:LSm.BoolsAre its bs:=qEp dws rvs
        have hl:s.heap.IsList (φ n) its.toArray:=pl.isList
        have hlt:φ n<s.heap.objs.size:=by obtain⟨_,e,_⟩:=hl;exact Heap.lt_size e
        refine call_all_walk (wpAny_pyIter_list hl ?_)
        refine⟨s.heap.objs.size,[s.heap.objs.size,φ n],[s.heap.objs.size],its.toArray.size,_,_,fun i=>(bs[i]?).getD true,rfl,Walks.list (A:=X.A.in1) (I.ok.hd hc) _ (φ n) (Nat.ne_of_lt hlt) its.toArray,
          ⟨⟨_,Heap.get?_push_size _ rfl,rfl,rfl⟩,hl.push _⟩,fun i v s' Q' E' hP hQ=>?_,fun h' tk hk=>?_⟩
        · obtain⟨b,e,rfl⟩:=hb.get i v (by simpa using hP)
          simp only [e,Option.getD_some] at hQ
          exact wpAny_truthy_bool hQ
        · have e:((List.range its.toArray.size).all fun i=>(bs[i]?).getD true)=bs.all id:=by
            rw [List.size_toArray,hb.length];exact LSm.range_all bs
          rw [e]
          exact⟨.bl (bs.all id),H,I.kept (t':=tk) (LSm.kept_iter hk),rfl,Go.here hq R hp D.qBk⟩
      · exact hr.elim
    | _=>exact hr.elim
theorem qOI {pos:Pos} {e:Expr} {es:List Expr} {t:TAD} {p:Pos} (hc:X.calm=true) (hm:X.mg "all" = none) (ha:DA X (e::es) t) (hg:Gl X "all") (he:starEach (e::es) X.env=(false,eval e X.env)::starEach es X.env) (hpl:(backTo pos (starEach es X.env)).any (·.1)=false):DE X (.Call (.Name "all" p) (e::es) [] pos) (qJ qKs t):=qDy (qNq hc) hm PyProof.Rows.boot_all ha hg (by decide) (by decide) he hpl
end
end L3
namespace L3
open PySem PySem.Spec PyProof.Rows L2
section
variable {X:Cx} {a b c:Expr} {ta tb tc:TD} {pos:Pos}
def qKg (ta:TD):TD:=fun ρ st P=>ta ρ st fun d st1=>match d with
  | .int i=>P (.int (-i)) st1
  | _=>False
theorem qON (ha:DE X a ta):DE X (.UnaryOp .USub a pos) (qKg ta):=(qOt qMo ha).imp fun σ H Q h=>by
  k_dat 0"r0"
  k_dat 0"r14"
  cases d with
  | int i=>exact⟨i,dx.int,hq _ st1 h1 φ1 H1 _ b1 D.mkInt⟩
  | _=>exact h1.elim
end
end L3
namespace L3
open PySem PySem.Spec PyProof.Rows L2
open AutoSeq1 (wpAny_loadPart')
end L3
namespace HT
open PySem PySem.Spec PyProof.Rows
section
variable {prog:Program} {w:World} {A:Around} {E:Value→Shared→Prop} {s:Shared}
theorem qCC {t sl:Addr} {items:Array Value} {vl vu:Value} {lo hi:Option Int} {Q:Value→Shared→Prop} (ht:IsTup s.heap t items) (hs:s.heap.IsSliceOf sl vl vu .none) (pl:IsPart vl lo) (pu:IsPart vu hi)
    (hw:sIx items.size 0 lo=0∧sIx items.size items.size hi=items.size) (h:Q (.ref t) s):wpAny (model prog w) A (getItem (.ref t) (.ref sl)) Q E s:=by
  obtain⟨os,hos,hcs,hds⟩:=id hs
  have hTs:s.TypeIs (.ref sl) "slice":=⟨os,hos,hcs⟩
  unfold getItem
  try with_reducible refine wpAny_holding ?_
  first | refine wpAny_bind (wpAny_pure ?_) | skip
  refine wpAny_bind (wpAny_sequenceKey ht.typeIs (by decide) ?_)
  refine wpAny_bind (wpAny_callSpecial?_slot (name:=Str.ofString "__getitem__") ht.typeIs PyProof.Rows.slot_tuple_getitem
    (wpAny_call_entry PyProof.Rows.slot_tuple_getitem ht.typeIs entry_tuple_getitem ?_ (args_tuple_getitem _ _)))
  show wpAny _ _ (Builtin.Tuple.tupleItemsOf (.ref t) >>= _) _ _ s
  refine wpAny_bind (tupleItemsOf_ ht ?_)
  refine wpAny_bind (wpAny_typeOf hTs ?_)
  rw [if_pos (by decide)]
  refine wpAny_bind (qBV hs pl pu ?_)
  have hyes:(((sIx items.size 0 lo:Nat):Int)==0&&(1:Int)==1&&(sIx items.size items.size hi - sIx items.size 0 lo)==items.size)=true:=by
    rw [hw.1,hw.2];simp
  k_dat 0"r41"
  rw [if_pos hyes]
  unfold Builtin.Tuple.tupleIsExact
  refine wpAny_bind (wpAny_bind (wpAny_typeOf ht.typeIs (wpAny_pure ?_)))
  rw [if_pos (by decide)]
  first
    | exact wpAny_bind (wpAny_pure (wpAny_pure ⟨_,rfl,wpAny_pure h⟩))
    | exact wpAny_bind (wpAny_rule (wpAny_bind (wpAny_pure (wpAny_pure ⟨_,rfl,wpAny_pure h⟩))))
    | exact wpAny_bind (wpAny_rule (wpAny_bind (wpAny_pure ⟨_,rfl,wpAny_pure h⟩)))
    | exact wpAny_pure ⟨_,rfl,wpAny_pure h⟩
    | exact wpAny_bind (wpAny_pure ⟨_,rfl,wpAny_pure h⟩)
end
end HT
namespace L3
open PySem PySem.Spec PyProof.Rows L2
noncomputable def qQI (K:W.Frag):V→Option Int→Option Int→Hp→VK→Prop:=fun x lo hi H Q=>∃ a xs,x = .ref a∧SqT K H a xs∧(HT.sIx xs.length 0 lo=0∧HT.sIx xs.length xs.length hi=xs.length)∧Q (.ref a) H
section
variable {X:Cx}
theorem qJX:SlR X (qQI X.K):=by
  k_dat 0"r34"
  obtain⟨a,xs,rfl,hx,hw,q⟩:=h
  cases rx
  obtain⟨its,r,ht,hz⟩:=I.tuple hx
  have hlen:its.toArray.size=xs.length:=by rw [List.size_toArray];exact r.length.symm
  refine⟨"tuple",_,PyProof.Rows.slot_tuple_getitem.lookup,ht.typeIs,?_⟩
  exact HT.qCC ht hs pl pu (by rw [hlen];exact hw) ⟨.ref a,H,I,rfl,q⟩
def qBD (te:TD) (tl th:TOD):TD:=fun ρ st P=>te ρ st fun x st1=>tl ρ st1 fun lo st2=>th ρ st2 fun hi st3=>match x with
  | .tup xs=>P (.tup (cutD xs lo hi)) st3
  | .lst n=>(match st3[n]? with
    | some o=>P (.lst st3.length) (st3++[.rw (cutD o.items lo hi)])
    | none=>False)
  | _=>False
theorem qIl {xs:List Dt} {lo hi:Option Int} (h:HT.sIx xs.length 0 lo=0∧HT.sIx xs.length xs.length hi=xs.length):cutD xs lo hi=xs:=by
  unfold cutD
  rw [h.1,h.2]
  simp
theorem qI6 {e:Expr} {lo hi:Option Expr} {te:TD} {tl th:TOD} {pos p2:Pos} (he:DE X e te) (hl:DO X lo tl) (hu:DO X hi th):DE X (.Subscript e (.Slice lo hi none p2) pos) (qBD te tl th):=by
  refine PE.imp (qJ2 ((qNf.or qLs).or qJX) he hl hu) fun σ H Q h=>?_
  k_dat 0"r0"
  k_dat 0"r17"
  refine⟨φ1,st1,ρ,_,pre.on b1,h1,fun l st2 h2 φ2 H2 b2=>?_⟩
  refine⟨φ2,st2,ρ,_,(pre.on b1).on b2,h2,fun u st3 h3 φ3 H3 b3=>?_⟩
  have b:=b1.trans (b2.trans b3)
  have dx3:=(dx.evo b2.2).evo b3.2
  cases x with
  | tup xs =>
    obtain⟨a,vs,e1,s1,d1⟩:=dx3.tup
    have h3':P (.tup (cutD xs l u)) st3:=h3
    by_cases hw:HT.sIx xs.length 0 l=0∧HT.sIx xs.length xs.length u=xs.length
    · rw [qIl hw] at h3'
      exact .inr ⟨a,vs,e1,s1,by rw [← d1.length];exact hw,hq _ st3 h3' φ3 _ _ b (by rw [← e1];exact dx3)⟩
    refine .inl (.inl ⟨a,vs,e1,s1,by rw [← d1.length];exact hw,fun p hp=>hq _ st3 h3' φ3 _ _ (b.trans (qCs b3.1 hp)) (.qCO (SqT.of qu) ?_)⟩)
    unfold cutD qFx
    rw [← d1.length]
    exact ((d1.drop _).take _).evo (qBp hp)
  | lst n =>
    have h3':(match st3[n]? with
      | some o=>P (.lst st3.length) (st3++[.rw (cutD o.items l u)])
      | none=>False):=h3
    split at h3'
    · rename_i o eo
      obtain⟨vs,s1,d1⟩:=b3.1.seq eo dx3.isL
      refine .inl (.inr ⟨φ3 n,vs,dx3.lst.2,s1,fun p hp=>?_⟩)
      have:DL X.K φ3 st3.length H3 (cutD o.items l u) (qFx vs l u):=by
        unfold cutD qFx
        rw [← d1.length]
        exact (d1.drop _).take _
      exact hq _ _ h3' _ _ _ (b.trans (qBa b3.1 hp this)) qDs
    · exact h3'.elim
  | _=>exact h3.elim
end
end L3
namespace L3
open PySem PySem.Spec PyProof.Rows L2
end L3
namespace L3
open PySem PySem.Spec PyProof.Rows L2
end L3
namespace L3
open PySem PySem.Spec PyProof.Rows L2
theorem qD7 {K:W.Frag} {sp sp':RDL} (h:∀ ds st P,sp ds st P→sp' ds st P) {vs:List V} {H:Hp} {Q:VK} {E:XK} (q:qT K sp vs H Q E):qT K sp' vs H Q E:=by
  obtain⟨φ,st,ds,P,R,dl,hs,hq⟩:=q
  exact⟨φ,st,ds,P,R,dl,h _ _ _ hs,hq⟩
theorem qj.imp {P:Program} {w:World} {K:W.Frag} {mg:Str→Option Value} {base:Heap} {x:Str} {k:Nat} {sp sp':RDL} (F:qj P w K mg base x k sp') (h:∀ ds st P,sp ds st P→sp' ds st P):qj P w K mg base x k sp:=by
  obtain⟨f,fd,ps,h1,h2,h3,h4⟩:=F.ex
  exact⟨⟨f,fd,ps,⟨fun vs H Q E q=>h1.len vs H Q E (qD7 h q),fun A outer s H args us vs Q E r e b v q=>h1.run A outer s H args us vs Q E r e b v (qD7 h q)⟩,h2,h3,h4⟩⟩
end L3
namespace HT
open PySem PySem.Spec PyProof.Rows
end HT
namespace L3
open PySem PySem.Spec PyProof.Rows L2
end L3
namespace L3
open PySem PySem.Spec PyProof.Rows L2
end L3
namespace L3
open PySem PySem.Spec PyProof.Rows L2
end L3
namespace L3
open PySem PySem.Spec PyProof.Rows L2
end L3
namespace L3
open PySem PySem.Spec PyProof.Rows L2
end L3
namespace L3
open PySem PySem.Spec PyProof.Rows L2
end L3
namespace L3
open PySem PySem.Spec PyProof.Rows L2
noncomputable def qJW:Dt→Option Key
  | .int i=>some (.inl i)
  | .str x=>some (.inr x)
  | _=>none
noncomputable def qD9 (kvs:List (Key×Dt)) (k:Key):Option Dt:=(kvs.find? fun kv=>decide (kv.1=k)).map (·.2)
def KD (K:W.Frag) (φ:Nat→Addr) (N:Nat) (H:Hp) (kvs:List (Key×Dt)) (vs:List (Key×V)):Prop:=kvs.map (·.1)=vs.map (·.1)∧DL K φ N H (kvs.map (·.2)) (vs.map (·.2))
section
variable {K:W.Frag} {φ:Nat→Addr} {N:Nat} {H:Hp}
theorem qFp {y:Dt} {k:Key} {v:V} (e:qJW y=some k) (d:D K φ N H y v):v=kV k:=by
  cases y with
  | int i=>cases e;exact d.int
  | str x=>cases e;exact d.str
  | _=>cases e
theorem KD.qHC {k:Key} {d:Dt} {r:List (Key×Dt)} {vs:List (Key×V)} (h:KD K φ N H ((k,d)::r) vs):∃ v r',vs=(k,v)::r'∧D K φ N H d v∧KD K φ N H r r':=by
  obtain⟨h1,h2⟩:=h
  cases vs with
  | nil=>cases h1
  | cons p r' =>
    obtain⟨k',v⟩:=p
    rw [List.map_cons,List.map_cons] at h1
    injection h1 with e1 e2
    have e1:k=k':=e1
    subst e1
    obtain⟨a,b⟩:=DL.qHC (d:=d) (v:=v) h2
    exact⟨v,r',rfl,a,e2,b⟩
theorem KD.nil:KD K φ N H [] []:=⟨rfl,.nil⟩
theorem KD.qO7 {vs:List (Key×V)} (h:KD K φ N H [] vs):vs=[]:=by
  cases vs with
  | nil=>rfl
  | cons p r=>cases h.1
theorem KD.val:∀ {kvs:List (Key×Dt)} {vs:List (Key×V)} (k:Key),KD K φ N H kvs vs→(qD9 kvs k=none∧qBG vs k=none)∨∃ d v,qD9 kvs k=some d∧qBG vs k=some v∧D K φ N H d v
  | [],vs,k,h=>by rw [h.qO7];exact .inl ⟨rfl,rfl⟩
  | (k',d)::r,vs,k,h=>by
    obtain⟨v,r',rfl,dv,h'⟩:=h.qHC
    by_cases e:k'=k
    · exact .inr ⟨d,v,by simp [qD9,List.find?_cons,e],by simp [qBG,List.find?_cons,e],dv⟩
    · have e1:qD9 ((k',d)::r) k=qD9 r k:=by simp [qD9,List.find?_cons,e]
      have e2:qBG ((k',v)::r') k=qBG r' k:=by simp [qBG,List.find?_cons,e]
      rw [e1,e2]
      exact h'.val k
theorem Rep.dc {st:Sto} (R:Rep K φ st H) {n:Nat} {kvs:List (Key×Dt)} (e:st[n]? = some (.dc kvs)):∃ vs,H (φ n)=some (.dK vs)∧K.lookup (φ n)=none∧KD K φ st.length H kvs vs:=by
  obtain⟨vs,h1,h2,h3,h4⟩:=R.all n _ e
  exact⟨vs,h1,h2,h3,h4⟩
theorem qKP {st:Sto} {p:Addr} {kvs:List (Key×Dt)} {vs:List (Key×V)} (R:Rep K φ st H) (hp:H p=none) (hk:K.lookup p=none) (hd:KD K φ st.length H kvs vs):Bhd K φ st H (qAm φ st.length p) (st++[.dc kvs]) (upd H p (.dK vs)) :=
  ⟨R.add hp ⟨vs,qu,hk,hd.1,hd.2.evo (qCq hp)⟩,qCq hp⟩
theorem qKm {st:Sto} {n:Nat} {kvs kvs':List (Key×Dt)} {vs':List (Key×V)} (R:Rep K φ st H) (e:st[n]? = some (.dc kvs)) (hd:KD K φ st.length H kvs' vs'):Bhd K φ st H φ (st.set n (.dc kvs')) (upd H (φ n) (.dK vs')):=by
  obtain⟨vs,h1,h2,h3⟩:=R.dc e
  exact⟨R.put e rfl rfl h1 trivial ⟨vs',qu,h2,hd.1,hd.2.evo (qDz (o:=.dc kvs') (w:=.dK vs') (qX e) h1 trivial)⟩,qDz (w:=.dK vs') (qX e) h1 trivial⟩
end
section
variable {X:Cx} {o i:Expr} {to ti:TD} {pos:Pos}
def qD6:RD2:=fun x y st P=>match x with
  | .dic n=>(match st[n]?,qJW y with
    | some (.dc kvs),some k=>(match qD9 kvs k with
      | some d=>P d st
      | none=>False)
    | _,_=>False)
  | _=>False
theorem qLm (hu:X.A.units+1<cLine) (ho:DE X o to) (hi:DE X i ti) (hs:qIn i):DE X (.Subscript o i pos) (qE qD6 to ti):=(qLX hu ho hi hs).imp fun σ H Q h=>by
  k_dat 0"r0"
  k_dat 0"r17"
  k_dat 0"r37"
  cases x with
  | dic n =>
    have h2:(match st2[n]?,qJW y with
      | some (.dc kvs),some k=>(match qD9 kvs k with
        | some d=>P d st2
        | none=>False)
      | _,_=>False):=h2
    split at h2
    · rename_i kvs k e1 e2
      split at h2
      · rename_i d ed
        obtain⟨vs,hv,_,hk⟩:=b2.1.dc e1
        rcases hk.val k with ⟨z,_⟩ | ⟨d',v2,ed',ev,dv⟩
        · rw [ed] at z;cases z
        · rw [ed] at ed'
          cases ed'
          refine⟨φ2 n,v2,(dx.evo b2.2).dic.2,?_,hq d st2 h2 φ2 H2 v2 (b1.trans b2) dv⟩
          rw [qFp e2 dy,← ev]
          exact qGv.k hv
      · exact h2.elim
    · exact h2.elim
  | _=>exact h2.elim
noncomputable def tvK:List (Key×TD)→TAD
  | []=>fun _ st P=>P [] st
  | (_,t)::r=>fun ρ st P=>t ρ st fun x st1=>tvK r ρ st1 fun xs st2=>P (x::xs) st2
def qE4 (kts:List (Key×TD)):TD:=fun ρ st P=>tvK kts ρ (st++[.dc []]) fun ds st1=>st1[st.length]? = some (.dc [])∧P (.dic st.length) (st1.set st.length (.dc ((kts.map (·.1)).zip ds)))
def DPK (X:Cx) (pos:Pos) (keys:List (Option Expr)) (values:List Expr) (kts:List (Key×TD)):Prop:=PPs X pos keys values (kts.map fun q=>(tC (kV q.1),qAR X.K q.2))
theorem qL9:DPK X pos [] [] []:=qMI
theorem qL4 {k:Str} {j:Nat} {p:Pos} {v:Expr} {t:TD} {ks:List (Option Expr)} {vs:List Expr} {kts:List (Key×TD)} (hv:DE X v t) (hr:DPK X pos ks vs kts):DPK X pos (some (.Constant (.str k) j p)::ks) (v::vs) ((.inr k,t)::kts):=qKn qFu hv hr
theorem qKr {K:W.Frag}:∀ {kts:List (Key×TD)} {σ:L2.St} {H:Hp} {φ:Nat→Addr} {st:Sto} {ρ:Rho} {P:List Dt→Sto→Prop} {Q:List (V×V)→Hp→Prop},Pre K φ st H ρ σ→tvK kts ρ st P →
    (∀ ds st',P ds st'→∀ φ' H' (vs:List V),Bhd K φ st H φ' st' H'→DL K φ' st'.length H' ds vs→ds.length=kts.length→Q (((kts.map (·.1)).zip vs).map fun kv=>(kV kv.1,kv.2)) H')→qFO (kts.map fun q=>(tC (kV q.1),qAR K q.2)) σ H Q
  | [],σ,H,φ,st,ρ,P,Q,pre,ht,hq=>hq [] st ht φ H [] (.refl pre.1) .nil rfl
  | (k,t)::r,σ,H,φ,st,ρ,P,Q,pre,ht,hq=>by
    k_dat 0"r14"
    refine qKr (pre.on b1) h1 fun ds st2 h2 φ2 H2 vs b2 dl hl=>?_
    exact hq (d::ds) st2 h2 φ2 H2 (v::vs) (b1.trans b2) (.cons (dx.evo b2.2) dl) (by rw [List.length_cons,hl,List.length_cons])
theorem qIo:∀ {more acc:List (Key×V)},(∀ kv∈more,qBG acc kv.1=none)→(more.map (·.1)).Nodup→qCS acc more=acc++more:=by
  intro more
  induction more with
  | nil=>intro acc _ _;show acc=_;rw [List.append_nil]
  | cons p r ih =>
    intro acc h nd
    rw [List.map_cons,List.nodup_cons] at nd
    have hp:putK acc p.1 p.2=acc++[p]:=by
      unfold putK
      have hn:¬ (acc.any fun kv=>decide (kv.1=p.1))=true:=by
        intro ha
        obtain⟨kv,hm,he⟩:=List.any_eq_true.mp ha
        have hv:=h p (List.mem_cons_self ..)
        unfold qBG at hv
        rw [Option.map_eq_none_iff,List.find?_eq_none] at hv
        exact hv kv hm he
      rw [if_neg hn]
    show qCS (putK acc p.1 p.2) r=_
    rw [hp,ih (fun kv hk=>?_) nd.2,List.append_assoc];rfl
    have h1:=h kv (List.mem_cons_of_mem _ hk)
    unfold qBG at h1 ⊢
    rw [Option.map_eq_none_iff,List.find?_eq_none] at h1 ⊢
    intro q hq
    rcases List.mem_append.mp hq with z | z
    · exact h1 q z
    · rw [List.mem_singleton.mp z]
      have:p.1≠kv.1:=fun e=>nd.1 (by rw [e];exact List.mem_map.mpr ⟨kv,hk,rfl⟩)
      simpa using this
theorem qK5 {keys:List (Option Expr)} {values:List Expr} {kts:List (Key×TD)} (h:DPK X pos keys values kts) (hall:keys.all (·.isSome)=true) (hl:keys.length=values.length) (h0:keys≠[]) (h15:keys.length≤15) (hk:kts.length≤15) (nd:(kts.map (·.1)).Nodup):DE X (.Dict keys values pos) (qE4 kts):=by
  refine PE.imp (qLp h hall hl h0 h15) fun σ H Q q=>?_
  obtain⟨φ,st,ρ,P,pre,ht,hq⟩:=q
  intro a hn kf
  have b0:=qKP (kvs:=[]) (vs:=[]) pre.1 hn kf .nil
  have ht:tvK kts ρ (st++[.dc []]) fun ds st1=>st1[st.length]? = some (.dc [])∧P (.dic st.length) (st1.set st.length (.dc ((kts.map (·.1)).zip ds))):=ht
  refine qKr (pre.on b0) ht fun ds st1 h1 φ1 H1 vs b1 dl hlen=>?_
  have ep:φ1 st.length=a:=by
    rw [b1.2.ext st.length (by simp),qDF]
  obtain⟨vs0,e0,_,k0⟩:=b1.1.dc h1.1
  rw [k0.qO7,ep] at e0
  have hvl:vs.length=kts.length:=by rw [← dl.length];exact hlen
  have kn:((kts.map (·.1)).zip vs).map (·.1)=kts.map (·.1):=List.map_fst_zip (by rw [List.length_map];omega)
  refine⟨e0,(kts.map (·.1)).zip vs,rfl,by rw [List.length_zip,List.length_map];omega,?_⟩
  rw [qIo (fun kv _=>qKj) (by rw [kn];exact nd),List.nil_append]
  have kd:KD X.K φ1 st1.length H1 ((kts.map (·.1)).zip ds) ((kts.map (·.1)).zip vs):=by
    refine⟨?_,?_⟩
    · rw [kn,List.map_fst_zip (by rw [List.length_map];omega)]
    · rw [List.map_snd_zip (by rw [List.length_map];omega),List.map_snd_zip (by rw [List.length_map];omega)];exact dl
  have bb:=qKm b1.1 h1.1 kd
  rw [ep] at bb
  refine hq _ _ h1.2 φ1 _ _ ((b0.trans b1).trans bb) ?_
  have:=D.qOx (K:=X.K) (φ:=φ1) (H:=upd H1 a (.dK ((kts.map (·.1)).zip vs))) (n:=st.length) (N:=(st1.set st.length (.dc ((kts.map (·.1)).zip ds))).length) (by rw [List.length_set];exact qX h1.1) (by rw [ep];exact⟨_,qu⟩)
  rw [ep] at this
  exact this
end
end L3
namespace L3
open PySem PySem.Spec PyProof.Rows L2
end L3
namespace L3
open PySem PySem.Spec PyProof.Rows L2
end L3
namespace L3
open PySem PySem.Spec PyProof.Rows L2
end L3
namespace HT
open PySem PySem.Spec PyProof.Rows
end HT
namespace L3
open PySem PySem.Spec PyProof.Rows L2
end L3
namespace L3
open PySem PySem.Spec PyProof.Rows L2
end L3
namespace L3
open PySem PySem.Spec PyProof.Rows L2
end L3
namespace L3
open PySem PySem.Spec PyProof.Rows L2
end L3
namespace HT
open PySem PySem.Spec PyProof.Rows
end HT
namespace L3
open PySem PySem.Spec PyProof.Rows L2
end L3
namespace L3
open PySem PySem.Spec PyProof.Rows L2
noncomputable def g2:TGD:=qBc 2 (qAi (qO 0) (qAi (qO 1) qFK))
end L3
namespace HT
open PySem PySem.Spec PyProof.Rows
end HT
namespace HT
open PySem PySem.Spec PyProof.Rows
end HT
namespace L3
open PySem PySem.Spec PyProof.Rows L2
end L3
namespace L3
open PySem PySem.Spec PyProof.Rows L2
end L3
namespace L3
open PySem PySem.Spec PyProof.Rows L2
end L3
namespace L3
open PySem PySem.Spec PyProof.Rows L2
structure qe (K:W.Frag) (n:Str) (st:Stmt):Prop where
  ex:∃ f fd,W.nsIn K mainGlobals n=some (some (.ref f))∧Fun K n n st f fd
structure qJt (K:W.Frag) (C:Addr) (n q:Str) (st:Stmt):Prop where
  ex:∃ f fd,W.findIn K (.ref C) n=some (some (.ref f))∧W.isFn K (.ref f)=true∧Fun K n q st f fd
section
variable {K:W.Frag} {n q:Str} {st:Stmt} {f C:Addr} {oc:Value} {od an:Option Addr} {osl:Array (Option Value)} {kV doc pm cdv ct:Value}
theorem qe.of (a:W.nsIn K mainGlobals n=some (some (.ref f))) (l:K.lookup f=some ⟨oc,od,.func (W.fnOf n n (qAZ st) (qAJ st) (qL st) .none kV doc pm an cdv ct),osl⟩) (c:W.codeIn K cdv n=true) (k:W.keepIn K (.ref f)=true):qe K n st:=⟨f,_,a,qJi l c k⟩
theorem qJt.of (a:W.findIn K (.ref C) n=some (some (.ref f))) (i:W.isFn K (.ref f)=true) (l:K.lookup f=some ⟨oc,od,.func (W.fnOf n q (qAZ st) (qAJ st) (qL st) .none kV doc pm an cdv ct),osl⟩) (c:W.codeIn K cdv q=true) (k:W.keepIn K (.ref f)=true):qJt K C n q st:=⟨f,_,a,i,qJi l c k⟩
end
def Bnd (n q:Str) (st:Stmt) (ps:List Str):Prop:=∀ (kV doc pm:Value) (an:Option Addr) (cdv ct:Value) (us:List Value),us.length=ps.length→bindArgs (W.fnOf n q (qAZ st) (qAJ st) (qL st) .none kV doc pm an cdv ct) ⟨us,[]⟩=pure (ps.zip us)
section
variable {P:Program} {w:World} {K:W.Frag} {mg:Str→Option Value} {base h:Heap} {n q nm:Str} {st:Stmt} {k:Nat} {sp:RDL} {ps flds:List Str} {C:Addr}
theorem qe.ok (X:K.In h) (G:h.Ns mainGlobals mg) (a:qe K n st) (ok:∀ {f fd},Fun K n n st f fd→qv P w K mg base CX0 k f fd ps (qT K sp)) (hb:Bnd n n st ps):qj P w K mg base n k sp:=by
  obtain⟨f,fd,h1,F⟩:=a.ex
  exact⟨f,fd,ps,ok F,W.mg_of X G h1,F.kp,F.binds hb⟩
theorem qe.zero (X:K.In h) (G:h.Ns mainGlobals mg) (a:qe K n st) (z:∀ {vs H Q E},qT K sp vs H Q E→False) (hb:Bnd n n st ps):qj P w K mg base n k sp:=by
  obtain⟨f,fd,h1,F⟩:=a.ex
  exact⟨f,fd,ps,⟨fun vs H Q E h=>(z h).elim,fun A outer s H args us vs Q E hr he hb hv h=>(z h).elim⟩,W.mg_of X G h1,F.kp,F.binds hb⟩
end
section
variable {n q:Str} {st:Stmt} {ps:List Str}
theorem b1 (hp:ps.length=1) (h:∀ kV doc pm an cdv ct a,bindArgs (W.fnOf n q (qAZ st) (qAJ st) (qL st) .none kV doc pm an cdv ct) ⟨[a],[]⟩=pure (ps.zip [a])):Bnd n q st ps:=fun _ _ _ _ _ _ us hl=>by
  rw [hp] at hl
  match us,hl with
  | [a],_=>exact h _ _ _ _ _ _ _
theorem b2 (hp:ps.length=2) (h:∀ kV doc pm an cdv ct a b,bindArgs (W.fnOf n q (qAZ st) (qAJ st) (qL st) .none kV doc pm an cdv ct) ⟨[a,b],[]⟩=pure (ps.zip [a,b])):Bnd n q st ps:=fun _ _ _ _ _ _ us hl=>by
  rw [hp] at hl
  match us,hl with
  | [a,b],_=>exact h _ _ _ _ _ _ _ _
theorem b3 (hp:ps.length=3) (h:∀ kV doc pm an cdv ct a b c,bindArgs (W.fnOf n q (qAZ st) (qAJ st) (qL st) .none kV doc pm an cdv ct) ⟨[a,b,c],[]⟩=pure (ps.zip [a,b,c])):Bnd n q st ps:=fun _ _ _ _ _ _ us hl=>by
  rw [hp] at hl
  match us,hl with
  | [a,b,c],_=>exact h _ _ _ _ _ _ _ _ _
theorem b4 (hp:ps.length=4) (h:∀ kV doc pm an cdv ct a b c d,bindArgs (W.fnOf n q (qAZ st) (qAJ st) (qL st) .none kV doc pm an cdv ct) ⟨[a,b,c,d],[]⟩=pure (ps.zip [a,b,c,d])):Bnd n q st ps:=fun _ _ _ _ _ _ us hl=>by
  rw [hp] at hl
  match us,hl with
  | [a,b,c,d],_=>exact h _ _ _ _ _ _ _ _ _ _
theorem b5 (hp:ps.length=5) (h:∀ kV doc pm an cdv ct a b c d e,bindArgs (W.fnOf n q (qAZ st) (qAJ st) (qL st) .none kV doc pm an cdv ct) ⟨[a,b,c,d,e],[]⟩=pure (ps.zip [a,b,c,d,e])):Bnd n q st ps:=fun _ _ _ _ _ _ us hl=>by
  rw [hp] at hl
  match us,hl with
  | [a,b,c,d,e],_=>exact h _ _ _ _ _ _ _ _ _ _ _
end
end L3
namespace L3
open PySem PySem.Spec PyProof.Rows L2
end L3
namespace L3
open PySem PySem.Spec PyProof.Rows L2
end L3
namespace L3
open PySem PySem.Spec PyProof.Rows L2
end L3
namespace L3
open PySem PySem.Spec PyProof.Rows L2
end L3
namespace L3
open PySem PySem.Spec PyProof.Rows L2
theorem qFL {P:Program} {w:World} {H:Hp} {h:Heap} {a:Addr} {o:HO} (x:qAc P w H h a o):∃ ob,h.get? a=some ob:=by
  cases o with
  | lst xs=>obtain⟨_,_,_,_,e⟩:=x;exact⟨_,e⟩
  | tup xs=>obtain⟨_,_,_,ob,e,_⟩:=x;exact⟨_,e⟩
  | dK kvs=>obtain⟨_,_,_,_,ob,_,_,e,_⟩:=x;exact⟨_,e⟩
  | dT kvs=>obtain⟨_,_,_,_,ob,_,_,e,_⟩:=x;exact⟨_,e⟩
  | set S n=>obtain⟨ob,_,_,_,e,_⟩:=x;exact⟨_,e⟩
  | ins C dx fs=>obtain⟨_,_,_,e,_⟩:=x;exact⟨_,e⟩
  | own y=>obtain⟨ob,e⟩:=x;exact⟨_,e⟩
  | xd fs=>obtain⟨_,⟨_,_,_,e,_⟩,_⟩:=x;exact⟨_,e⟩
  | rng lo hi=>obtain⟨_,_,_,e⟩:=x;exact⟨_,e⟩
  | frz ob u=>obtain⟨e,_⟩:=x;exact⟨_,e⟩
  | tbl ps=>exact⟨_,show h.get? a=some _ from x⟩
  | met f y=>exact⟨_,show h.get? a=some _ from x⟩
  | ext φ=>obtain⟨_,⟨ob,e⟩,_⟩:=x;exact⟨_,e⟩
structure Out (P:Program) (w:World) (outer:List Env) (H H':Hp) (s:Shared) (ea C:Addr) (B:Heap) (a0:Value) (s':Shared):Prop where
  os:s'.os=s.os
  bare:AllBare s'.gens
  un:Un (frs outer) [] H H' s.heap s'.heap
  hok:HOk P w H' s'.heap
  fly:Heap.FlyingW B outer ea (.ref C) a0 s'.heap
  inB:∀ b o,s'.heap.get? b=some o→(H' b≠none∨∃ u,s.heap.get? b=some u)→b ∉ frs outer→B.get? b=some o
  fr:∀ b∈frs outer,H' b=none
noncomputable def CXE (P:Program) (w:World):CXT:=fun outer H s E e s'=>∃ ea C H' B a0,e = .ref ea∧Out P w outer H H' s ea C B a0 s'∧E (.ref C) none H'
section
variable {P:Program} {w:World} {outer:List Env} {H H':Hp} {s s':Shared} {ea C:Addr} {B h2:Heap} {a0:Value} {fs:List Addr} {h h1:Heap}
theorem qMc (un:Un fs [] H H' h h1) (k:∀ b o,h1.get? b=some o→(H' b≠none∨∃ u,h.get? b=some u)→b ∉ fs→h2.get? b=some o) (sm:h1.UpToSlots h2)
    (fr:∀ b∈fs,∃ o,h1.get? b=some o∧∀ vs,o.data≠.fields vs):Un fs [] H H' h h2 where
  keep b o e n hb hx:=k b o (un.keep b o e n hb hx) (.inr ⟨o,e⟩) hb
  slot b o e n hb hx:=by
    obtain⟨sl,e1⟩:=un.slot b o e n hb hx
    obtain⟨o1,e2,hd⟩:=fr b hb
    rw [e1] at e2
    cases e2
    obtain⟨sl2,e3⟩:=sm b _ e1 hd
    exact⟨sl2,e3⟩
  free:=un.free
  there b o e hx:=by
    obtain⟨o1,e1⟩:=un.there b o e hx
    by_cases hb:b∈fs
    · obtain⟨o2,e2,hd⟩:=fr b hb
      obtain⟨sl2,e3⟩:=sm b _ e2 hd
      exact⟨_,e3⟩
    · exact⟨o1,k b o1 e1 (.inr ⟨o,e⟩) hb⟩
  tups:=un.tups
  frzs:=un.frzs
  tbls:=un.tbls
theorem qJN (x:HOk P w H' h1) (fr:∀ b∈fs,H' b=none) (k:∀ b o,h1.get? b=some o→H' b≠none→b ∉ fs→h2.get? b=some o):HOk P w H' h2:=fun a o e =>
  (x a o e).stay (fun b u hb q=>by
    have hn:H' b≠none:=by
      rcases hb with z | z
      · rw [z,e];exact fun y=>nomatch y
      · rw [z];exact fun y=>nomatch y
    exact k b u q hn fun z=>hn (fr b z)) (fun _ q=>q) fun _ _ q=>q
theorem Out.on (O:Out P w outer H H' s ea C B a0 s') (f2:Heap.FlyingW B outer ea (.ref C) a0 h2) (sm:s'.heap.UpToSlots h2):Out P w outer H H' s ea C B a0 { s' with heap:=h2 }:=by
  have k:∀ b o,s'.heap.get? b=some o→(H' b≠none∨∃ u,s.heap.get? b=some u)→b ∉ frs outer→h2.get? b=some o:=fun b o e c nb=>f2.1 b o (O.inB b o e c nb)
  have fr:∀ b∈frs outer,∃ o,s'.heap.get? b=some o∧∀ vs,o.data≠.fields vs:=fun b hb=>(O.fly.2.2.1.mem hb).2
  refine⟨O.os,O.bare,qMc O.un k sm fr,qJN O.hok O.fr fun b o e c nb=>k b o e (.inl c) nb,f2,fun b o e c nb=>?_,O.fr⟩
  have ex:∃ o1,s'.heap.get? b=some o1:=by
    rcases c with c | ⟨u,eu⟩
    · cases q:H' b with
      | none=>exact absurd q c
      | some ho=>exact qFL (O.hok b ho q)
    · exact O.un.there b u eu fun z=>nomatch z
  obtain⟨o1,e1⟩:=ex
  have hB:=O.inB b o1 e1 c nb
  have:=f2.1 b o1 hB
  have e':h2.get? b=some o:=e
  rw [e'] at this
  cases this
  exact hB
end
section
variable {X:Cx} {pins:List (Addr×Obj)} {σ:L2.St} {H H':Hp} {s s':Shared} {ea C:Addr} {B:Heap} {a0:Value}
theorem Out.inv (O:Out X.prog X.w X.stack H H' s ea C B a0 s') (I:Inv X pins σ H s):Inv X pins σ H' s':=I.qMN (ch:=[]) O.os O.un O.hok O.bare fun b z=>nomatch z
def Raises (X:Cx) (E:XK):Prop:=∀ (pins:List (Addr×Obj)) (σ:L2.St) (H:Hp) (s:Shared) (C:Addr) (vs:List Value) (h':Heap) (e:Addr),Inv X pins σ H s→Heap.MadeExcOf s.heap h' e (.ref C) vs→E (.ref C) none H→X.xe (.ref e) { s with heap:=h' }
end
theorem qIk {P:Program} {w:World} {K:W.Frag} {mg:Str→Option Value} {base:Heap} {N:List Str} {qual:Str} {scope:Scope} {f:Addr} {cd:Value} {A:Around} {outer:List Env} {s:Shared} {H:Hp} {E:XK} :
    Raises (qF4 (CXE P w) P w K mg base N qual scope f cd A outer s H E) E:=by
  intro pins σ H1 s1 C vs h' e I hx hE
  have hin:∀ env∈(envOfC qual scope s.heap.objs.size f cd::outer),∀ b,env.frame=some b→b∈frs (envOfC qual scope s.heap.objs.size f cd::outer):=fun env he b hb=>List.mem_filterMap.mpr ⟨env,he,hb⟩
  have I2:Un (frs outer) [] H H1 s.heap s1.heap:=I.base
  have st:s1.heap.FunFrames base (envOfC qual scope s.heap.objs.size f cd::outer):=I.stack
  have sf:∀ b∈frs (envOfC qual scope s.heap.objs.size f cd::outer),H1 b=none:=I.qFb
  have sub:∀ b∈frs outer,b∈frs (envOfC qual scope s.heap.objs.size f cd::outer):=fun b hb=>by
    obtain⟨env,he,hf⟩:=List.mem_filterMap.mp hb
    exact List.mem_filterMap.mpr ⟨env,List.mem_cons_of_mem _ he,hf⟩
  have inv:∀ b,b∈frs (envOfC qual scope s.heap.objs.size f cd::outer)→b ∉ frs outer→b=s.heap.objs.size:=fun b hb nb=>by
    obtain⟨env,he,hf⟩:=List.mem_filterMap.mp hb
    rcases List.mem_cons.mp he with z | z
    · subst z;exact (Option.some.inj hf).symm
    · exact absurd (List.mem_filterMap.mpr ⟨env,z,hf⟩) nb
  refine wpAny_leaves_madeW (base:=W.hideAll s1.heap (frs (envOfC qual scope s.heap.objs.size f cd::outer))) (h:=s1.heap) I.ok.frames rfl (fun b o q=>W.of_hideAll _ q) (W.funFrames_hide st hin) hx fun h2 t fl _ _ sm=>?_
  have nf:∀ b,(H1 b≠none∨∃ u,s.heap.get? b=some u)→b ∉ frs outer→b ∉ frs (envOfC qual scope s.heap.objs.size f cd::outer):=fun b c nb hb=>by
    have z:=inv b hb nb
    rcases c with c | ⟨u,eu⟩
    · exact c (sf b hb)
    · rw [z] at eu
      exact absurd (Heap.lt_size eu) (Nat.lt_irrefl _)
  have k:∀ b o,s1.heap.get? b=some o→(H1 b≠none∨∃ u,s.heap.get? b=some u)→b ∉ frs outer→(W.hideAll s1.heap (frs (envOfC qual scope s.heap.objs.size f cd::outer))).get? b=some o:=fun b o e c nb=>W.hideAll_get _ e (nf b c nb)
  have fr:∀ b∈frs outer,∃ o,s1.heap.get? b=some o∧∀ vs,o.data≠.fields vs:=fun b hb=>(st.mem (sub b hb)).2
  have sm1:s1.heap.UpToSlots h2:=(Heap.UpToSlots.of_keeps hx.keeps).trans sm
  refine⟨e,C,H1,_,_,rfl,⟨I.os,I.bare,qMc I2 (fun b o e c nb=>fl.1 b o (k b o e c nb)) sm1 fr,qJN I.hok (fun b hb=>sf b (sub b hb)) fun b o e c nb=>fl.1 b o (k b o e (.inl c) nb),fl,fun b o e c nb=>?_,fun b hb=>sf b (sub b hb)⟩,hE⟩
  have ex:∃ o1,s1.heap.get? b=some o1:=by
    rcases c with c | ⟨u,eu⟩
    · cases q:H1 b with
      | none=>exact absurd q c
      | some ho=>exact qFL (I.hok b ho q)
    · exact I2.there b u eu fun z=>nomatch z
  obtain⟨o1,e1⟩:=ex
  have hB:=k b o1 e1 c nb
  have:=fl.1 b o1 hB
  have e':h2.get? b=some o:=e
  rw [e'] at this
  cases this
  exact hB
end L3
namespace L3
open PySem PySem.Spec PyProof.Rows L2
noncomputable abbrev bmV:List Value:=[.type "ValueError",.type "Exception",.type "BaseException",.type "object"]
structure qGc (K:W.Frag) (x:Str) (C:Addr):Prop where
  ns:W.nsIn K mainGlobals x=some (some (.ref C))
  ok:W.excIn K C bmV "ValueError.__new__" = true
theorem qF8 {K:W.Frag} {h:Heap} {C:Addr} {bmB:List Value} {newId:String} (X:K.In h) (q:W.excIn K C bmB newId=true) :
    ∃ nm qn N bs bm hdct sn sub ab col dd k0 k1 k2 k3 k5 mN,K.lookup C=some (excClassObj nm qn C N bs bm hdct sn sub ab col dd k0 k1 k2 k3 k5 newId)∧h.Ns N mN∧mN "__init__" = none∧OwnTail h bmB bm:=by
  unfold W.excIn at q
  split at q
  case h_2=>exact absurd q Bool.false_ne_true
  rename_i dd cd sl ho
  split at q
  case h_2=>exact absurd q Bool.false_ne_true
  rename_i C' bm k0 k1 k2 k3 n k5 hm hs
  rw [Bool.and_eq_true,Bool.and_eq_true,Bool.and_eq_true,Bool.and_eq_true,Bool.and_eq_true] at q
  obtain⟨⟨⟨⟨⟨q1,q2⟩,q3⟩,q4⟩,q5⟩,q6⟩:=q
  have e1:C'=C:=beq_iff_eq.mp q1
  have e2:n=newId:=beq_iff_eq.mp q2
  subst e1 e2
  have e3:cd.hasDel=false:=by simpa using q3
  have es:sl=#[k0,k1,k2,k3,some (.builtin n),k5]:=by
    cases sl with
    | mk l=>exact congrArg Array.mk hs
  subst es
  cases cd with
  | mk nm bs mro ns qn hd sn sub ab col del =>
    have hm':mro = .ref C'::bm:=hm
    have e3':del=false:=e3
    subst hm' e3'
    exact⟨nm,qn,ns,bs,bm,hd,sn,sub,ab,col,dd,k0,k1,k2,k3,k5,_,ho,.of_isNs (W.isNs_of_in X q5),W.nsMap_none_of_in X q5 (beq_iff_eq.mp q6),W.tail_of_in X q4⟩
noncomputable def qMv (C:Addr) (E:XK) (t:TA):TS:=fun _ σ H=>t σ H fun vs H1=>vs.length≤sizeLine∧E (.ref C) none H1
section
variable {X:Cx} {E:XK} {x:Str} {C:Addr} {t:TA} {e:Expr} {es:List Expr} {np cpos pos:Pos}
theorem qJo (hx:qGc X.K x C) (hm:X.mg x=some (.ref C)) (hc:X.calm=true) (hE:Raises X E) (ha:PA X (e::es) t) (hg:Gl X x) (hd:(x==("__debug__" : Str))=false) (he:starEach (e::es) X.env=(false,eval e X.env)::starEach es X.env)
    (hpl:(backTo cpos (starEach es X.env)).any (·.1)=false):PS X (.Raise (some (.Call (.Name x np) (e::es) [] cpos)) none pos) (qMv C E t):=by
  k_dat 0"r10"
  obtain⟨nm,qn,N,bs,bm,hdct,sn,sub,ab,col,dd,k0,k1,k2,k3,k5,mN,hC,hN,hni,T⟩:=qF8 I.ok.mod.kin hx.ok
  refine wpAny_Raise_call_subT (nm:=nm) (q:=qn) (N:=N) (bs:=bs) (hdct:=hdct) (sn:=sn) (sub:=sub) (ab:=ab) (col:=col) (dd:=dd) (k0:=k0) (k1:=k1) (k2:=k2) (k3:=k3) (k5:=k5) PySem.F.excBase_ValueError (T.hasType PySem.F.excBase_ValueError.hasBase) (I.ok.hd hc) (by rw [he];show (false || (backTo cpos (starEach es X.env)).any (·.1))=false;rw [hpl];rfl) hni (qBC I hg hm ⟨rfl,?_⟩ hd)
  have h2:=ha cpos pins s σ H _ I h
  rw [he] at h2 ⊢
  refine Calls.evalArgs_plain (wpAny_mono h2 (fun us s2 ⟨vs,H2,I2,r,q1,q2⟩=>?_) fun _ _ y=>y)
  exact⟨rfl,by rw [← r.length];exact q1,I2.bk _ _ (I.ok.mod.kin _ _ hC),hN.keeps I2.bk,T.keeps I2.bk,fun h' e' hm'=>hE pins σ H2 s2 C us h' e' I2 hm' q2⟩
end
noncomputable abbrev _root_.L2.Cx.qDt (X:Cx) (e:Addr):Cx:={ X with A:=X.A.mark (some (.ref e)),calm:=false,xe:=fun _ _=>False }
section
variable {X:Cx} {pins:List (Addr×Obj)} {σ:L2.St} {H:Hp} {s:Shared} {e:Addr}
theorem Inv.inE (I:Inv X pins σ H s):Inv (X.qDt e) pins σ H s :=
  ⟨⟨I.ok.mod,I.ok.kind,I.ok.glob,I.ok.blt,I.ok.above,I.ok.inj,I.ok.has,I.ok.cab,fun z=>absurd z Bool.false_ne_true,I.ok.frames,I.ok.stk,I.ok.exf,I.ok.bs,I.ok.bsz,I.ok.noex,I.ok.exfs,I.ok.qC3,I.ok.frf⟩,I.os,I.bare,I.base,I.loc,I.cell,I.free,I.freeC,I.pin,I.hok,I.len⟩
theorem Inv.qLN (ok:X.Ok) (I:Inv (X.qDt e) pins σ H s):Inv X pins σ H s:=⟨ok,I.os,I.bare,I.base,I.loc,I.cell,I.free,I.freeC,I.pin,I.hok,I.len⟩
theorem qOV {D:Ends} {f:Flow} (ok:X.Ok) (h:SP (X.qDt e) pins D f s):SP X pins D f s:=by
  cases f with
  | next=>obtain⟨σ',H',I,q⟩:=h;exact⟨σ',H',Inv.qLN ok I,q⟩
  | brk=>obtain⟨σ',H',I,q⟩:=h;exact⟨σ',H',Inv.qLN ok I,q⟩
  | cont=>obtain⟨σ',H',I,q⟩:=h;exact⟨σ',H',Inv.qLN ok I,q⟩
  | ret u=>obtain⟨v,σ',H',I,q⟩:=h;exact⟨v,σ',H',Inv.qLN ok I,q⟩
end
noncomputable def subIn (K:W.Frag) (C D:Addr):Bool:=match K.lookup C with
  | some ⟨_,_,.cls cd,_⟩=>cd.mro.contains (.ref D)
  | _=>false
section
variable {M:Model} {A:Around} {E:Value→Shared→Prop} {h:Heap} {g:Array GenState} {d:Drawn} {t:Nat} {os:OsState}
variable {nm q nm' q':Str} {C N C' N':Addr} {bs bm bs' bm':List Value} {hdct hdct':Bool} {sn sn':List Str} {sub sub':List Value} {ab ab':Bool} {col col':Option Bool} {dd dd':Option Addr} {k0 k1 k2 k3 k5 k0' k1' k2' k3' k5':Option Value} {newId newId':String}
theorem qIb {e:Addr} {oe:Obj} {Q:Bool→Shared→Prop} (hC:h.get? C=some (excClassObj nm q C N bs bm hdct sn sub ab col dd k0 k1 k2 k3 k5 newId)) (hD:h.get? C'=some (excClassObj nm' q' C' N' bs' bm' hdct' sn' sub' ab' col' dd' k0' k1' k2' k3' k5' newId'))
    (he:h.get? e=some oe) (hcls:oe.cls = .ref C) (hbase:bm'.contains (.type "BaseException")=true) (hs:(Value.ref C::bm).contains (.ref C')=true) (hq:Q true ⟨h,g,d,t,os⟩):wpAny M A (excMatches (.ref e) (.ref C')) Q E ⟨h,g,d,t,os⟩:=by
  have b1:(Value.ref C'::bm').contains (.type "BaseException")=true:=by rw [List.contains_cons,hbase];exact Bool.or_true _
  have f:=tc_notTuple
  unfold excMatches
  repeat (first
    | (with_reducible refine wpAny_loadPart_at he ?_;rw [hcls])
    | with_reducible refine wpAny_loadPart_at hD ?_
    | (with_reducible refine wpAny_isSubtype_exc hC ?_;rw [hs])
    | (with_reducible refine wpAny_isSubtype_exc hD ?_;rw [b1])
    | wp_step)
  exact hq
end
end L3
namespace L3
open PySem PySem.Spec PyProof.Rows L2
structure Catch (K:W.Frag) (C Z:Addr):Prop where
  ok:W.excIn K C bmV "ValueError.__new__" = true
  sub:subIn K C Z=true
section
variable {X:Cx} {pins:List (Addr×Obj)} {σ:L2.St} {H H':Hp} {s s1:Shared} {ea C Z:Addr} {B:Heap} {a0:Value} {D:Ends} {ts:TS} {z:Str} {p5 p6:Pos} {b0:Stmt} {suite:List Stmt} {E:Value→Shared→Prop}
theorem qNN (I:L2.Inv X pins σ H s) (O:Out X.prog X.w X.stack H H' s ea C B a0 s1) (hst:X.stack=X.env::X.outer) (hfr:X.env.frame=some X.env.locals) (hz:qGc X.K z Z) (hmz:X.mg z=some (.ref Z)) (hgz:Gl X z) (hdz:(z==("__debug__" : Str))=false)
    (hC:Catch X.K C Z) (hs:PSs (X.qDt ea) (b0::suite) ts) (h:ts D σ H') :
    wpAny (model X.prog X.w) X.A (noteFrame (.ref ea) X.env) (fun _ s₂=>wpAny (model X.prog X.w) X.A (setFlight (.ref ea) none) (fun _ s₃=>wpAny (model X.prog X.w) X.A (handleBy (.ref ea) X.env [.ExceptHandler (some (.Name z p5)) none (b0::suite) p6]) (SP X pins D) E s₃) E s₂) E s1:=by
  have hfr':X.A.frames=some (X.env::X.outer):=by rw [← hst];exact I.ok.frames
  have fl1:Heap.FlyingW B (X.env::X.outer) ea (.ref C) a0 s1.heap:=by rw [← hst];exact O.fly
  refine wpAny_looks_onW hfr' hfr fl1 fun h4 hheld sm4=>?_
  refine wpAny_landsW hheld fun h5 hfl sm5=>?_
  have O5:=O.on (by rw [hst];exact hfl) (sm4.trans sm5)
  have I5:=O5.inv I
  refine wpAny_handleBy_cons (codeAny_handlers_test (qBC (X:=X.qDt ea) (Inv.inE I5) hgz hmz ?_ hdz)) (by intro q;cases q)
  obtain⟨nm,qn,N,bs,bm,hdct,sn,sub,ab,col,dd,k0,k1,k2,k3,k5,mN,eC,hN,hni,T⟩:=qF8 I5.kIn hC.ok
  obtain⟨nm',qn',N',bs',bm',hdct',sn',sub',ab',col',dd',k0',k1',k2',k3',k5',mN',eZ,hN',hni',T'⟩:=qF8 I5.kIn hz.ok
  obtain⟨oe,he,hcls⟩:=hfl.there
  have hsub:(Value.ref C::bm).contains (.ref Z)=true:=by
    have:=hC.sub
    unfold subIn at this
    rw [eC] at this
    exact this
  refine qIb (I5.kIn _ _ eC) (I5.kIn _ _ eZ) he hcls (T'.hasType PySem.F.excBase_ValueError.hasBase) hsub ?_
  refine codeAny_handlers_suite ?_
  refine lands_againW hfl fun h6 hfl6 sm6=>?_
  have O6:=O5.on (by rw [hst];exact hfl6) sm6
  exact wpAny_mono (hs pins _ σ H' D (Inv.inE (O6.inv I)) h) (fun f s' q=>qOV I.ok q) fun _ _ z=>False.elim z
end
noncomputable def qQf (K:W.Frag) (Z:Addr) (i:Nat) (sp:Sp) (t:TA) (ts:TS):TS:=fun D σ H=>t σ H fun vs H1=>sp vs H1 (fun v H2=>D.nx (σ.set i (some v)) H2) fun c _ H2=>(∃ C,c = .ref C∧Catch K C Z)∧ts D σ H2
section
variable {X:Cx} {k i:Nat} {f Z:Addr} {fd:FuncData} {ps:List Str} {sp:Sp} {x y z:Str} {t:TA} {ts:TS} {e:Expr} {es:List Expr} {b0:Stmt} {suite:List Stmt} {p1 p2 p3 p4 p5 p6 p7:Pos}
theorem qNk (F:qv X.prog X.w X.K X.mg X.base (CXE X.prog X.w) k f fd ps sp) (hr:qAh k X.A) (hg:Gl X y) (hm:X.mg y=some (.ref f)) (hk:W.keepIn X.K (.ref f)=true) (hb:Binds X.K fd ps []) (ha:PA X.nox (e::es) t) (hdb:(y==("__debug__" : Str))=false)
    (he:starEach (e::es) X.env=(false,eval e X.env)::starEach es X.env) (hpl:(backTo p3 (starEach es X.env)).any (·.1)=false)
    (nd:X.N.Nodup) (hi:X.N[i]? = some x) (hx:Loc X.env.scope x) (hsw:swapsWith (.Call (.Name y p2) (e::es) [] p3) (some (.Name x p1)) p4.line X.env=pure false) (hf:X.fn x=true∨X.env.scope.names.lookup x=some .local)
    (hst:X.stack=X.env::X.outer) (hfr:X.env.frame=some X.env.locals) (hz:qGc X.K z Z) (hmz:X.mg z=some (.ref Z)) (hgz:Gl X z) (hdz:(z==("__debug__" : Str))=false) (hs:∀ ea,PSs (X.qDt ea) (b0::suite) ts) :
    PS X (.Try [.Assign [.Name x p1] (.Call (.Name y p2) (e::es) [] p3) p4] [.ExceptHandler (some (.Name z p5)) none (b0::suite) p6] [] [] p7) (qQf X.K Z i sp t ts):=by
  k_dat 0"r10"
  refine wpAny_Try_except ?_
  refine wpAny_execs_cons (wpAny_Assign_Name ?_ hsw)
  refine wpAny_Call_Name_kw (qBC I hg hm ?_ hdb)
  refine W.callWith_K (h₀:=X.base) I.ok.mod.kin hk (wpAny_mono (ha p3 pins s σ H _ (I.qDx _) h) (fun us s1 ⟨vs,H1,I1,r,q⟩=>⟨I1.kIn,?_⟩) fun _ _ z=>False.elim z) he hpl
  have I1':L2.Inv X pins σ H1 s1:=I1.qBm
  have hl:us.length=ps.length:=by rw [← r.length];exact F.len _ _ _ _ q
  have hb':=hb s1 us I1'.kIn (by rw [List.append_nil];exact hl)
  rw [List.append_nil] at hb'
  refine wpAny_call (codeAny_mono (F.run X.A X.stack s1 H1 ⟨us,[]⟩ us vs _ _ hr I1'.qPX hb' r q) fun r s' hq=>?_)
  cases r with
  | error e1 =>
    obtain⟨ea,C,H2,B,a0,rfl,O,⟨C',ec,hC⟩,q2⟩:=hq
    cases ec
    exact qNN I1' O hst hfr hz hmz hgz hdz hC (hs ea) q2
  | ok fl =>
    cases fl with
    | ret u =>
      obtain⟨v,H2,I2,r2,q2⟩:=I1'.after hq
      exact qDw I2 nd hi hx r2 (fun s2 I3=>wpAny_execs_nil (wpAny_execs_nil ⟨_,H2,I3,q2⟩)) hf
    | next=>exact False.elim hq
    | brk=>exact False.elim hq
    | cont=>exact False.elim hq
end
end L3
namespace L3
open PySem PySem.Spec PyProof.Rows L2
noncomputable def qQX:List String:=["BadRow", "NoTurning", "NoPaper", "NoAsk", "NoStep"]
noncomputable def isX:Dt→Option String
  | .ty s=>if qQX.contains s then some s else none
  | _=>none
def QX (K:W.Frag) (E:XK) (n:String) (H:Hp):Prop:=∀ C,W.nsIn K mainGlobals (Str.ofString n)=some (some (.ref C))→E (.ref C) none H
noncomputable def qDg (K:W.Frag) (sp:RDL):Sp:=fun vs H Q E=>∃ φ st ds P,Rep K φ st H∧DL K φ st.length H ds vs∧sp ds st P ∧
  ∀ d st',P d st'→∀ φ' H' u,Bhd K φ st H φ' st' H'→D K φ' st'.length H' d u→(isX d=none→Q u H')∧∀ n,isX d=some n→QX K E n H'
noncomputable def qHV (K:W.Frag) (E:XK) (t:TSD):TS:=fun D σ H=>∃ φ st ρ P,Pre K φ st H ρ σ∧t P ρ st ∧
  (∀ ρ' st',P.nx ρ' st'→∀ φ' H' σ',Bhd K φ st H φ' st' H'→DR K φ' st'.length H' ρ' σ'→D.nx σ' H') ∧
  (∀ ρ' st',P.bk ρ' st'→∀ φ' H' σ',Bhd K φ st H φ' st' H'→DR K φ' st'.length H' ρ' σ'→D.bk σ' H') ∧
  (∀ ρ' st',P.ct ρ' st'→∀ φ' H' σ',Bhd K φ st H φ' st' H'→DR K φ' st'.length H' ρ' σ'→D.ct σ' H') ∧
  ∀ d st',P.rt d st'→∀ φ' H' v,Bhd K φ st H φ' st' H'→L3.D K φ' st'.length H' d v→(isX d=none→D.rt v H')∧∀ n,isX d=some n→QX K E n H'
def DQ (X:Cx) (E:XK) (s:Stmt) (t:TSD):Prop:=PS X s (qHV X.K E t)
def DQs (X:Cx) (E:XK) (s:List Stmt) (t:TSD):Prop:=PSs X s (qHV X.K E t)
def qEM (n:String) (t:TAD):TSD:=fun E ρ st=>t ρ st fun ds st1=>ds.length≤sizeLine∧E.rt (.ty n) st1
def qJ4 (te:TD):TSD:=fun E ρ st=>te ρ st fun d st1=>isX d=none∧E.rt d st1
section
variable {X:Cx} {E:XK} {s:Stmt} {rest:List Stmt} {t u:TSD} {pos:Pos} {e:Expr} {te:TD}
theorem qLv:DQs X E [] qH:=(qIB).imp fun D σ H h=>by
  k_dat 0"r3"
  exact n ρ st ht φ H σ (.refl pre.1) pre.2
theorem qG1 (h1:DQ X E s t) (h2:DQs X E rest u):DQs X E (s::rest) (tseq t u):=(qGb h1 h2).imp fun D σ H h=>by
  k_dat 0"r3"
  k_dat 0"r46"
  exact⟨φ',st',ρ',P,⟨bh.1,dr⟩,hu,fun ρ2 st2 h2 φ2 H2 σ2 b2 d2=>n ρ2 st2 h2 φ2 H2 σ2 (bh.trans b2) d2,fun ρ2 st2 h2 φ2 H2 σ2 b2 d2=>b ρ2 st2 h2 φ2 H2 σ2 (bh.trans b2) d2,
    fun ρ2 st2 h2 φ2 H2 σ2 b2 d2=>c ρ2 st2 h2 φ2 H2 σ2 (bh.trans b2) d2,fun d st2 h2 φ2 H2 v b2 d2=>r d st2 h2 φ2 H2 v (bh.trans b2) d2⟩
theorem qO4 {c:Expr} {a b:List Stmt} {tc:TBD} (hc:DT X c tc) (ha:DQs X E a t) (hb:DQs X E b u):DQ X E (.If c a b pos) (qi tc t u):=(qMO hc ha hb).imp fun D σ H h=>by
  k_dat 0"r3"
  k_dat 0"r22"
  have on:∀ {v:TSD},v P ρ st1→qHV X.K E v D σ H1:=fun {v} hv=>⟨φ1,st1,ρ,P,pre.on b1,hv,fun ρ2 st2 h2 φ2 H2 σ2 b2 d2=>n ρ2 st2 h2 φ2 H2 σ2 (b1.trans b2) d2,fun ρ2 st2 h2 φ2 H2 σ2 b2 d2=>b ρ2 st2 h2 φ2 H2 σ2 (b1.trans b2) d2,
    fun ρ2 st2 h2 φ2 H2 σ2 b2 d2=>c ρ2 st2 h2 φ2 H2 σ2 (b1.trans b2) d2,fun d st2 h2 φ2 H2 v b2 d2=>r d st2 h2 φ2 H2 v (b1.trans b2) d2⟩
  cases k with
  | true=>exact qAo (on (by rw [if_pos rfl] at h1;exact h1))
  | false=>exact qAt (on (by rw [if_neg Bool.false_ne_true] at h1;exact h1))
theorem qNM (he:DE X e te):DQ X E (.Return (some e) pos) (qJ4 te):=(qJ5 he).imp fun D σ H h=>by
  k_dat 0"r3"
  exact⟨φ,st,ρ,_,pre,ht,fun d st1 h1 φ1 H1 v b1 dv=>(r d st1 h1.2 φ1 H1 v b1 dv).1 h1.1⟩
theorem qPa (h:DS X s t) (hn:∀ P ρ st,t P ρ st→t { P with rt:=fun _ _=>False } ρ st):DQ X E s t:=fun pins s' σ H D I hw=>by
  obtain⟨φ,st,ρ,P,pre,ht,n,b,c,r⟩:=hw
  refine thn (h pins s' σ H { D with rt:=fun _ _=>False } I ⟨φ,st,ρ,{ P with rt:=fun _ _=>False },pre,hn P ρ st ht,n,b,c,fun _ _ z=>z.elim⟩) fun f s2 q=>?_
  cases f with
  | next=>exact q
  | brk=>exact q
  | cont=>exact q
  | ret v=>obtain⟨_,_,_,_,_,z⟩:=q;exact False.elim z
end
structure qII (K:W.Frag) (mg:Str→Option Value) (n:String):Prop where
  ex:∃ C,qGc K (Str.ofString n) C∧mg (Str.ofString n)=some (.ref C)
section
variable {X:Cx} {E:XK} {n:String} {t:TAD} {e:Expr} {es:List Expr} {np cpos pos:Pos}
theorem qJ0 (hx:qII X.K X.mg n) (hi:isX (.ty n)=some n) (hc:X.calm=true) (hE:Raises X E) (ha:DA X (e::es) t) (hg:Gl X (Str.ofString n)) (hd:(Str.ofString n==("__debug__" : Str))=false) (he:starEach (e::es) X.env=(false,eval e X.env)::starEach es X.env)
    (hpl:(backTo cpos (starEach es X.env)).any (·.1)=false):DQ X E (.Raise (some (.Call (.Name (Str.ofString n) np) (e::es) [] cpos)) none pos) (qEM n t):=by
  obtain⟨C,hx,hm⟩:=hx.ex
  refine (qJo hx hm hc hE ha hg hd he hpl).imp fun D σ H h=>?_
  obtain⟨φ,st,ρ,P,pre,ht,n',b,c,r⟩:=h
  refine⟨φ,st,ρ,_,pre,ht,fun ds st1 h1 φ1 H1 vs b1 dl=>⟨by rw [← dl.length];exact h1.1,?_⟩⟩
  exact (r (.ty n) st1 h1.2 φ1 H1 (.ty n) b1 L3.D.qPW).2 n hi C hx.ns
end
structure qHU (P:Program) (w:World) (K:W.Frag) (mg:Str→Option Value) (base:Heap) (x:Str) (k:Nat) (sp:RDL):Prop where
  ex:∃ f fd ps,qv P w K mg base (CXE P w) k f fd ps (qDg K sp)∧mg x=some (.ref f)∧W.keepIn K (.ref f)=true∧Binds K fd ps []
theorem qL2 {P:Program} {w:World} {K:W.Frag} {mg:Str→Option Value} {base:Heap} {x qual:Str} {stt:Stmt} {f:Addr} {fd:FuncData} {N ps:List Str} {k:Nat} {sp:RDL} (F:Fun K x qual stt f fd) (S:qR N ps (qL stt))
    (len:∀ ds st Pd,sp ds st Pd→ds.length=ps.length)
    (hbody:∀ (cdv:Value) (A:Around) (outer:List Env) (s:Shared) (H:Hp) (E:XK),qAh k (A.deeper (envOfC qual (qL stt) s.heap.objs.size f cdv)) →
      ∃ t,DQs (qF4 (CXE P w) P w K mg base N qual (qL stt) f cdv A outer s H E) E (qAJ stt) t∧∀ ds st Pd,sp ds st Pd→t { nx:=fun _ st'=>Pd .non st',rt:=Pd } (qW N ds) st):qv P w K mg base (CXE P w) (k+1) f fd ps (qDg K sp):=by
  k_dat 0"r36"
  refine qMg lk hcd S (fun vs H Q E h=>?_) fun A outer s H vs Q E hr h=>?_
  · k_dat 0"r31"
    rw [← dl.length]
    exact len ds st Pd hs
  · obtain⟨t,ht,hb⟩:=hbody cdv A outer s H E hr
    k_dat 0"r31"
    exact⟨_,ht,φ,st,qW N ds,_,⟨R,qGS dl N⟩,hb ds st Pd hs,fun ρ' st' h' φ' H' σ' b' d'=>(hq _ st' h' φ' H' _ b' D.qIF).1 rfl,fun ρ' st' h'=>h'.elim,fun ρ' st' h'=>h'.elim,fun d st' h' φ' H' v b' d'=>hq d st' h' φ' H' v b' d'⟩
structure qIU (K:W.Frag) (mg:Str→Option Value) (z:Str) (ns:List String):Prop where
  ex:∃ Z,qGc K z Z∧mg z=some (.ref Z)∧∀ n∈ns,∀ C,W.nsIn K mainGlobals (Str.ofString n)=some (some (.ref C))→Catch K C Z
def qO0 (ns:List String) (i:Nat) (sp:RDL) (t:TAD) (ts:TSD):TSD:=fun E ρ st=>t ρ st fun ds st1=>sp ds st1 fun d st2=>match isX d with
  | some n=>n∈ns∧ts E ρ st2
  | none=>E.nx (ρ.set i (some d)) st2
section
variable {X:Cx} {k:Nat} {sp:RDL} {x y z:Str} {ns:List String} {t:TAD} {ts:TSD} {e:Expr} {es:List Expr} {b0:Stmt} {suite:List Stmt} {p1 p2 p3 p4 p5 p6 p7:Pos}
theorem qMx (i:Nat) (F:qHU X.prog X.w X.K X.mg X.base y k sp) (hr:qAh k X.A) (hz:qIU X.K X.mg z ns) (nd:X.N.Nodup) (ha:DA X.nox (e::es) t) (hs:∀ ea,DSs (X.qDt ea) (b0::suite) ts) (hg:Gl X y) (hdb:(y==("__debug__" : Str))=false)
    (he:starEach (e::es) X.env=(false,eval e X.env)::starEach es X.env) (hpl:(backTo p3 (starEach es X.env)).any (·.1)=false)
    (hi:X.N[i]? = some x) (hx:Loc X.env.scope x) (hsw:swapsWith (.Call (.Name y p2) (e::es) [] p3) (some (.Name x p1)) p4.line X.env=pure false) (hf:X.fn x=true∨X.env.scope.names.lookup x=some .local)
    (hst:X.stack=X.env::X.outer) (hfr:X.env.frame=some X.env.locals) (hgz:Gl X z) (hdz:(z==("__debug__" : Str))=false) :
    DS X (.Try [.Assign [.Name x p1] (.Call (.Name y p2) (e::es) [] p3) p4] [.ExceptHandler (some (.Name z p5)) none (b0::suite) p6] [] [] p7) (qO0 ns i sp t ts):=by
  obtain⟨f,fd,ps,h1,h2,h3,h4⟩:=F.ex
  obtain⟨Z,hz1,hz2,hz3⟩:=hz.ex
  refine (qNk h1 hr hg h2 h3 h4 ha hdb he hpl nd hi hx hsw hf hst hfr hz1 hz2 hgz hdz (ts:=qEr X.K ts) (t:=qJx X.K t) (fun ea=>hs ea)).imp fun D σ H h=>?_
  k_dat 0"r3"
  refine⟨φ,st,ρ,_,pre,ht,fun ds st1 h1 φ1 H1 vs b1 dl=>⟨φ1,st1,ds,_,b1.1,dl,h1,fun d st2 h2 φ2 H2 u b2 du=>⟨fun hx=>?_,fun m hx C hC=>?_⟩⟩⟩
  · rw [hx] at h2
    exact n _ st2 h2 φ2 H2 _ (b1.trans b2) ((pre.on (b1.trans b2)).2.set du i)
  · rw [hx] at h2
    refine⟨⟨C,rfl,hz3 m h2.1 C hC⟩,φ2,st2,ρ,P,pre.on (b1.trans b2),h2.2,fun ρ3 st3 h3 φ3 H3 σ3 b3 d3=>n ρ3 st3 h3 φ3 H3 σ3 ((b1.trans b2).trans b3) d3,fun ρ3 st3 h3 φ3 H3 σ3 b3 d3=>b ρ3 st3 h3 φ3 H3 σ3 ((b1.trans b2).trans b3) d3,
      fun ρ3 st3 h3 φ3 H3 σ3 b3 d3=>c ρ3 st3 h3 φ3 H3 σ3 ((b1.trans b2).trans b3) d3,fun d3 st3 h3 φ3 H3 v b3 d3'=>r d3 st3 h3 φ3 H3 v ((b1.trans b2).trans b3) d3'⟩
end
end L3
namespace L3
open PySem PySem.Spec PyProof.Rows L2
def qMb (a:Str) (te:TD) (b:Str):TD:=fun ρ st P=>te ρ st fun x st1=>∃ y:Str,(x = .str y∨∃ i:Int,x = .int i∧i.natAbs.log2<1920∧y=toString i)∧a.length+y.length+b.length≤sizeLine∧∀ z,P (.str z) st1
section
variable {X:Cx} {e:Expr} {te:TD} {a b:Str} {pos p1 p2 p3:Pos} {k1 k3:Nat}
theorem qME (he:DE X e te) (ha:a.length≤sizeLine):DE X (.JoinedStr [.Constant (.str a) k1 p1,.FormattedValue e (-1) none p2,.Constant (.str b) k3 p3] pos) (qMb a te b):=by
  k_dat 0"r1"
  k_dat 0"r0"
  have l0:∀ x:Str,(Str.empty++x).length=x.length:=fun x=>by rw [strLen_append];show 0+x.length=x.length;omega
  refine wpAny_JoinedStr ?_
  refine thn ((qFu (X:=X) (x:=a)) pins s σ H (fun v H'=>v = .str a∧H'=H) I ⟨rfl,rfl⟩) fun u s1 ⟨v,H1,I1,r1,ev,eH⟩=>?_
  subst ev eH
  obtain⟨t1,rfl⟩:=r1
  have mid:wpAny (model X.prog X.w) X.A (eval (.FormattedValue e (-1) none p2) X.env) (fun v s2=>∃ y t,v = .str y t∧a.length+y.length+b.length≤sizeLine∧∃ H2,L2.Inv X pins σ H2 s2∧∀ z,Q (.str z) H2) X.xe s1:=by
    refine wpAny_FormattedValue_plain (thn (he pins s1 σ H1 (fun v H'=>∃ y:Str,(v = .str y∨∃ i:Int,v = .int i∧i.natAbs.log2<1920∧y=toString i)∧a.length+y.length+b.length≤sizeLine∧∀ z,Q (.str z) H') I1 ⟨φ,st,ρ,_,pre,ht,fun x st1 h1 φ1 H1' v b1 dx=>?_⟩) fun u s2 ⟨v,H2,I2,r2,y,q1,q2,q3⟩=>?_)
    · obtain⟨y,c,h2,h3⟩:=h1
      refine⟨y,?_,h2,fun z=>hq _ st1 (h3 z) φ1 H1' _ b1 D.mkStr⟩
      rcases c with c | ⟨i,c,c2,c3⟩
      · subst c;exact .inl dx.str
      · subst c;exact .inr ⟨i,dx.int,c2,c3⟩
    · rcases q1 with e1 | ⟨i,e1,e2,e3⟩
      · subst e1
        obtain⟨t2,rfl⟩:=r2
        exact wpAny_formatField_str ⟨y,_,rfl,q2,H2,I2,q3⟩ ⟨y,_,rfl,q2,H2,I2.tok _,q3⟩ (by omega)
      · subst e1 e3
        obtain⟨t2,rfl⟩:=r2
        exact wpAny_formatField_int e2 ⟨_,_,rfl,q2,H2,I2.tok _,q3⟩
  refine⟨a,t1,rfl,by rw [l0];exact ha,?_⟩
  refine thn mid fun u s2 ⟨y,t2,e2,q2,H2,I2,q3⟩=>⟨y,t2,e2,by rw [strLen_append,l0];omega,?_⟩
  refine thn ((qFu (X:=X) (x:=b)) pins s2 σ H2 (fun v H'=>v = .str b∧∀ z,Q (.str z) H') I2 ⟨rfl,q3⟩) fun u s3 ⟨v,H3,I3,r3,ev,q4⟩=>?_
  subst ev
  obtain⟨t3,rfl⟩:=r3
  refine⟨b,t3,rfl,by rw [strLen_append,strLen_append,l0];exact q2,by rw [strLen_append,strLen_append,l0];exact q2,?_⟩
  exact⟨.str _,H3,I3.tok _,⟨_,rfl⟩,q4 _⟩
end
end L3
namespace L3
open PySem PySem.Spec PyProof.Rows L2
noncomputable def qAj {γ:Type} (R:γ→Value→Prop) (P:Params):List DictEntry→List (Str×γ)→Prop
  | [],[]=>True
  | e::r,kv::q=>(∃ t,e.key = .str kv.1 t∧R kv.2 e.val∧e.hash=PyData.keyHash P kv.1)∧qAj R P r q
  | _,_=>False
section
variable {γ:Type} {R:γ→Value→Prop} {P:Params}
theorem qAj.lit:∀ {l:List DictEntry} {kvs:List (Str×γ)},qAj R P l kvs→W.KeysLit P l
  | [],[],_=>trivial
  | _::_,_::_,⟨⟨t,h1,_,h3⟩,r⟩=>⟨⟨_,t,h1,h3⟩,r.lit⟩
  | [],_::_,h=>h.elim
  | _::_,[],h=>h.elim
theorem qAj.find (y:Str):∀ {l:List DictEntry} {kvs:List (Str×γ)},qAj R P l kvs→(kvs.lookup y=none∧(l.find? fun e=>Value.isStrOf y e.key).map (·.val)=none)∨∃ z u,kvs.lookup y=some z∧(l.find? fun e=>Value.isStrOf y e.key).map (·.val)=some u∧R z u
  | [],[],_=>.inl ⟨rfl,rfl⟩
  | e :: r,(k,v)::q,⟨⟨t,h1,h2,h3⟩,hr⟩=>by
    have ih:=qAj.find y hr
    have hk:Value.isStrOf y e.key=(k==y):=by rw [h1];rfl
    rw [List.find?_cons,hk,List.lookup_cons]
    have hs:(y==k)=(k==y):=by
      by_cases q:y=k
      · subst q;rfl
      · rw [beq_eq_false_iff_ne.mpr q,beq_eq_false_iff_ne.mpr (Ne.symm q)]
    rw [hs]
    cases k==y with
    | true=>exact .inr ⟨v,e.val,rfl,rfl,h2⟩
    | false=>exact ih
  | [],_::_,h=>h.elim
  | _::_,[],h=>h.elim
theorem qAj.imp {R':γ→Value→Prop} (i:∀ z u,R z u→R' z u):∀ {l:List DictEntry} {kvs:List (Str×γ)},qAj R P l kvs→qAj R' P l kvs
  | [],[],_=>trivial
  | _::_,_::_,⟨⟨t,h1,h2,h3⟩,r⟩=>⟨⟨t,h1,i _ _ h2,h3⟩,r.imp i⟩
  | [],_::_,h=>h.elim
  | _::_,[],h=>h.elim
end
structure qCQ (w:World) (K:W.Frag) (mg:Str→Option Value) (x:Str) {γ:Type} (R:γ→Value→Prop) (kvs:List (Str×γ)):Prop where
  ex:∃ a es n,mg x=some (.ref a)∧K.lookup a=some ⟨.type "dict",none,.dict es n,#[]⟩∧(a==sysModules)=false∧qAj R w.params es.toList kvs
section
variable {X:Cx} {i:Expr} {ti:TD} {pos p:Pos} {x:Str} {γ:Type} {R:γ→Value→Prop} {kvs:List (Str×γ)}
noncomputable def qHW {γ:Type} (neg:Bool) (kvs:List (Str×γ)) (ti:TE):TE:=fun σ H Q=>ti σ H fun y H1=>∃ z,y = .str z∧Q (.bl ((kvs.lookup z).isSome != neg)) H1
theorem find_some {es:Array DictEntry} {P:Params} (he:qAj R P es.toList kvs) (z:Str):(findBy Value.isStrOf es z).isSome=(kvs.lookup z).isSome:=by
  obtain⟨l⟩:=es
  unfold findBy
  rw [List.find?_toArray]
  rcases he.find z with ⟨e1,e2⟩ | ⟨z',u',e1,e2,_⟩<;>rw [e1,e2]<;>rfl
theorem qI5 {ty:TE} (T:qCQ X.w X.K X.mg x R kvs) (hi:PE X i ty) (hg:Gl X x) (hd:(x==("__debug__" : Str))=false):PC X .In i (.Name x p) (qHW false kvs ty):=by
  obtain⟨a,es,n,hm,hl,hy,he⟩:=T.ex
  k_dat 0"r1"
  refine thn (hi pins s σ H _ I h) fun iv s1 ⟨y,H1,I1,ry,z,ey,q1⟩=>?_
  refine qBC I1 hg hm ?_ hd
  subst ey
  obtain⟨t,rfl⟩:=ry
  have hmap:=W.mapOf_K (prog:=X.prog) I1.kIn hl he.lit
  refine wpAny_in_of (strKind_is X.prog X.w z t) hy hmap ?_
  rw [find_some he z]
  exact⟨.bl _,H1,I1.tok _,rfl,by rw [Bool.bne_false] at q1;exact q1⟩
theorem qFl {ty:TE} (T:qCQ X.w X.K X.mg x R kvs) (hi:PE X i ty) (hg:Gl X x) (hd:(x==("__debug__" : Str))=false):PC X .NotIn i (.Name x p) (qHW true kvs ty):=by
  obtain⟨a,es,n,hm,hl,hy,he⟩:=T.ex
  k_dat 0"r1"
  refine thn (hi pins s σ H _ I h) fun iv s1 ⟨y,H1,I1,ry,z,ey,q1⟩=>?_
  refine qBC I1 hg hm ?_ hd
  subst ey
  obtain⟨t,rfl⟩:=ry
  have hmap:=W.mapOf_K (prog:=X.prog) I1.kIn hl he.lit
  refine wpAny_notIn_of (strKind_is X.prog X.w z t) hy hmap ?_
  rw [find_some he z]
  exact⟨.bl _,H1,I1.tok _,rfl,by rw [Bool.bne_true] at q1;exact q1⟩
theorem qHy (T:qCQ X.w X.K X.mg x R kvs) (hi:DE X i ti) (hg:Gl X x) (hd:(x==("__debug__" : Str))=false) (hs:qIn i) {pins:List (Addr×Obj)} {s:Shared} {σ:L2.St} {H:Hp} {Qv:Value→Shared→Prop} (I:L2.Inv X pins σ H s)
    {φ:Nat→Addr} {st:Sto} {ρ:Rho} {P:VD} (pre:Pre X.K φ st H ρ σ) (ht:ti ρ st P) (hQ:∀ y st1,P y st1→∀ φ1 H1,Bhd X.K φ st H φ1 st1 H1→∃ z c,y = .str z∧kvs.lookup z=some c∧∀ u s2,R c u→L2.Inv X pins σ H1 s2→Qv u s2) :
    wpAny (model X.prog X.w) X.A (eval (.Subscript (.Name x p) i pos) X.env) Qv X.xe s:=by
  obtain⟨a,es,n,hm,hl,hy,he⟩:=T.ex
  refine qIS PySem.F.slot_dict_getitem.lookup hs (qBC I hg hm ?_ hd)
  refine thn (hi pins s σ H (fun v H'=>∃ z c,v = .str z∧kvs.lookup z=some c∧∀ u s2,R c u→L2.Inv X pins σ H' s2→Qv u s2) I ⟨φ,st,ρ,P,pre,ht,fun y st1 h1 φ1 H1 v b1 dy=>?_⟩) fun iv s2 ⟨y,H2,I2,ry,z,c,ey,hc,q2⟩=>?_
  · obtain⟨z,c,ey,hc,q⟩:=hQ y st1 h1 φ1 H1 b1
    subst ey
    exact⟨z,c,dy.str,hc,q⟩
  · subst ey
    obtain⟨t,rfl⟩:=ry
    have hmap:=W.mapOf_K (prog:=X.prog) I2.kIn hl he.lit
    refine⟨hmap.typeIs,?_⟩
    rcases he.find z with ⟨e1,_⟩ | ⟨z',u,e1,e2,hR⟩
    · rw [hc] at e1;cases e1
    · rw [hc] at e1
      cases e1
      refine wpAny_getItem_of (strKind_is X.prog X.w z t) hmap (v:=u) ?_ (q2 u _ hR (I2.tok _))
      obtain⟨l⟩:=es
      unfold findBy
      rw [List.find?_toArray]
      exact e2
end
def RDt (K:W.Frag) (d:Dt) (u:Value):Prop:=∃ v,RelV v u∧∀ φ N H,D K φ N H d v
def qCh (kvs:List (Str×Dt)) (ti:TD):TD:=fun ρ st P=>ti ρ st fun y st1=>∃ z d,y = .str z∧kvs.lookup z=some d∧P d st1
def RFn (P:Program) (w:World) (K:W.Frag) (mg:Str→Option Value) (base:Heap) (k:Nat) (sp:RDL) (u:Value):Prop:=∃ f fd ps,u = .ref f∧qv P w K mg base CX0 k f fd ps (qT K sp)∧W.keepIn K (.ref f)=true∧Binds K fd ps []
section
variable {X:Cx} {i e:Expr} {es:List Expr} {ti:TD} {t:TAD} {pos p p2:Pos} {x:Str}
theorem qHl {kvs:List (Str×Dt)} (T:qCQ X.w X.K X.mg x (RDt X.K) kvs) (hi:DE X i ti) (hg:Gl X x) (hd:(x==("__debug__" : Str))=false) (hs:qIn i):DE X (.Subscript (.Name x p) i pos) (qCh kvs ti):=by
  k_dat 0"r1"
  k_dat 0"r0"
  refine qHy T hi hg hd hs I pre ht fun y st1 ⟨z,d,ey,hz,hp⟩ φ1 H1 b1=>⟨z,d,ey,hz,fun u s2 ⟨v,rv,hD⟩ I2=>?_⟩
  exact⟨v,H1,I2,rv,hq d st1 hp φ1 H1 v b1 (hD _ _ _)⟩
end
end L3
namespace L3
open PySem PySem.Spec PyProof.Rows L2
theorem qKo {v w:V} {u:Value} (h:RelV v u) (h':RelV w u):v=w:=by
  cases v<;>cases w<;>simp only [L2.RelV] at h h'<;>first
    | rfl
    | (subst h;first | (cases h';rfl) | (cases h';done) | (obtain⟨_,z⟩:=h';cases z;done))
    | (obtain⟨t,rfl⟩:=h;first | (cases h';done) | (obtain⟨t',z⟩:=h';cases z;first | rfl | done))
section
variable {X:Cx} {pins:List (Addr×Obj)} {σ:L2.St} {H:Hp} {s:Shared} {φ:Nat→Addr} {N:Nat}
open Classical in
noncomputable def isIn (xs:List Dt) (its:List Value) (x:Dt) (u:Value):Bool:=decide (∃ (j:Nat) (d:Dt),its[j]? = some u∧xs[j]? = some d∧eqD 8 d x=true)
open Classical in
theorem qDe (I:L2.Inv X pins σ H s) {xs:List Dt} {vs:List V} {its:List Value} {x:Dt} (hd:DL X.K φ N H xs vs) (rv:Vals vs its) (ho:xs.all (okD 8)=true) {j:Nat} {u:Value} {d:Dt} (e1:its[j]? = some u) (e2:xs[j]? = some d):isIn xs its x u=eqD 8 d x:=by
  have key:∀ (i:Nat) (d':Dt),its[i]? = some u→xs[i]? = some d'→d'=d:=fun i d' a1 a2=>by
    obtain⟨v,ev,dv⟩:=hd.get e2
    obtain⟨v',ev',dv'⟩:=hd.get a2
    obtain⟨u1,eu1,r1⟩:=rv.get ev
    obtain⟨u2,eu2,r2⟩:=rv.get ev'
    rw [e1] at eu1
    rw [a1] at eu2
    cases eu1
    cases eu2
    have:=qKo r1 r2
    subst this
    exact qMW I 8 (List.all_eq_true.mp ho _ (List.mem_of_getElem? a2)) (List.all_eq_true.mp ho _ (List.mem_of_getElem? e2)) dv' dv
  unfold isIn
  cases h:eqD 8 d x with
  | true=>exact decide_eq_true ⟨j,d,e1,e2,h⟩
  | false =>
    refine decide_eq_false fun ⟨i,d',a1,a2,a3⟩=>?_
    rw [key i d' a1 a2,h] at a3
    cases a3
theorem qF0 (I:L2.Inv X pins σ H s) {xs:List Dt} {vs:List V} {its:List Value} {x:Dt} {v:V} {ux:Value} {A:Around} (hu:A.units+8<cLine) (hd:DL X.K φ N H xs vs) (rv:Vals vs its) (ho:xs.all (okD 8)=true) (dx:D X.K φ N H x v) (rx:RelV v ux) (ox:okD 8 x=true) :
    ∀ u∈its,SeqAt.EqAt A s u ux (isIn xs its x u):=fun u hm=>by
  obtain⟨j,hj,e⟩:=List.mem_iff_getElem.mp hm
  have e1:its[j]? = some u:=by rw [List.getElem?_eq_getElem hj,e]
  have hl:j<vs.length:=by rw [rv.length];exact hj
  have hx:j<xs.length:=by rw [hd.length];exact hl
  have e2:xs[j]? = some xs[j]:=List.getElem?_eq_getElem hx
  obtain⟨v',ev',dv'⟩:=hd.get e2
  obtain⟨u1,eu1,r1⟩:=rv.get ev'
  rw [e1] at eu1
  cases eu1
  rw [qDe I hd rv ho e1 e2]
  exact qHJ I 8 hu (List.all_eq_true.mp ho _ (List.getElem_mem hx)) ox dv' dx r1 rx
theorem qGp (I:L2.Inv X pins σ H s) {xs:List Dt} {vs:List V} {its:List Value} {x:Dt} (hd:DL X.K φ N H xs vs) (rv:Vals vs its) (ho:xs.all (okD 8)=true):its.any (isIn xs its x)=xs.any fun z=>eqD 8 z x:=by
  have hl:its.length=xs.length:=by rw [← rv.length,← hd.length]
  rw [Bool.eq_iff_iff,List.any_eq_true,List.any_eq_true]
  constructor
  · rintro⟨u,hm,h⟩
    obtain⟨j,hj,e⟩:=List.mem_iff_getElem.mp hm
    have hx:j<xs.length:=by omega
    rw [qDe I hd rv ho (by rw [List.getElem?_eq_getElem hj,e]) (List.getElem?_eq_getElem hx)] at h
    exact⟨xs[j],List.getElem_mem hx,h⟩
  · rintro⟨d,hm,h⟩
    obtain⟨j,hj,e⟩:=List.mem_iff_getElem.mp hm
    have hi:j<its.length:=by omega
    refine⟨its[j],List.getElem_mem hi,?_⟩
    rw [qDe I hd rv ho (List.getElem?_eq_getElem hi) (List.getElem?_eq_getElem hj),e]
    exact h
end
def qK4 (neg:Bool):RD2:=fun x y st P=>match qc st y with
  | some xs=>okD 8 x=true∧xs.all (okD 8)=true∧P (.bl (xs.any (fun z=>eqD 8 z x) != neg)) st
  | none=>False
section
variable {X:Cx} {a b:Expr} {ta tb:TD} {pos:Pos}
theorem qOX (hu:X.A.units+16<cLine):OpD X (compareOp .In) (qK4 false):=by
  k_dat 0"r7"
  k_dat 0"r5"
  unfold qK4 at hr
  split at hr
  · rename_i xs e
    obtain⟨o1,o2,hp⟩:=hr
    rw [qAX] at hp
    obtain⟨p,vs,e1,hs,hd⟩:=qBH R dy e
    subst e1
    cases r2
    have hu1:X.A.in1.units+8<cLine:=by show X.A.units+1+8<cLine;omega
    have hp2:=Go.here hq R hp D.qBk
    rcases hs with ⟨hs,_⟩ | ⟨hs,_⟩
    · obtain⟨its,rv,pl,_⟩:=I.list hs
      refine SeqAt.in_listAt (isIn xs its x) pl.isList (fun z hz=>qF0 I hu1 hd rv o2 dx r1 o1 z (by simpa using hz)) ⟨.bl _,H,I,rfl,?_⟩
      k_dat 0"r48"
      exact hp2
    · obtain⟨its,rv,pl,_⟩:=I.tuple hs
      refine SeqAt.in_tupleAt (isIn xs its x) pl (fun z hz=>qF0 I hu1 hd rv o2 dx r1 o1 z (by simpa using hz)) ⟨.bl _,H,I,rfl,?_⟩
      k_dat 0"r48"
      exact hp2
  · exact hr.elim
theorem qLH (hu:X.A.units+16<cLine) (ha:DE X a ta) (hb:DE X b tb) (hm:behindInMarks .In b=false):DT X (.Compare a [.In] [b] pos) (qI (qE (qK4 false) ta tb)):=qBj (qOX hu) ha hb hm
end
end L3
namespace L3
open PySem PySem.Spec PyProof.Rows L2
structure qCd (w:World) (K:W.Frag) (mg:Str→Option Value) (x:Str) (keys:List Str):Prop where
  ex:∃ kvs:List (Str×Str),qCQ w K mg x (fun _ _=>True) kvs∧∀ z,(kvs.lookup z).isSome=keys.contains z
theorem qEu {γ:Type}:∀ (kvs:List (Str×γ)) (z:Str),(kvs.lookup z).isSome=(kvs.map (·.1)).contains z
  | [],z=>rfl
  | (k,v)::r,z=>by
    rw [List.lookup_cons,List.map_cons,List.contains_cons]
    cases h:z==k with
    | true=>rfl
    | false=>exact qEu r z
theorem qAj.keys {γ:Type} {R:γ→Value→Prop} {P:Params}:∀ {l:List DictEntry} {kvs:List (Str×γ)},qAj R P l kvs→qAj (fun (_:Str) _=>True) P l (kvs.map fun p=>(p.1,p.1))
  | [],[],_=>trivial
  | _::_,_::_,⟨⟨t,h1,h2,h3⟩,r⟩=>⟨⟨t,h1,trivial,h3⟩,r.keys⟩
  | [],_::_,h=>h.elim
  | _::_,[],h=>h.elim
theorem qCQ.keyOk {w:World} {K:W.Frag} {mg:Str→Option Value} {x:Str} {γ:Type} {R:γ→Value→Prop} {kvs:List (Str×γ)} (T:qCQ w K mg x R kvs):qCd w K mg x (kvs.map (·.1)):=by
  obtain⟨a,es,n,h1,h2,h3,h4⟩:=T.ex
  refine⟨kvs.map fun p=>(p.1,p.1),⟨a,es,n,h1,h2,h3,h4.keys⟩,fun z=>?_⟩
  rw [qEu,List.map_map]
  rfl
def qBM (neg:Bool) (keys:List Str) (ti:TD):TD:=fun ρ st P=>ti ρ st fun y st1=>∃ z,y = .str z∧P (.bl (keys.contains z != neg)) st1
section
variable {X:Cx} {i:Expr} {ti:TD} {pos p:Pos} {x:Str} {keys:List Str}
theorem qNS {neg:Bool} {kvs:List (Str×Str)} (hk:∀ z,(kvs.lookup z).isSome=keys.contains z) {ρ:Rho} {st:Sto} {P:VD} (h:qBM neg keys ti ρ st P):∃ P',ti ρ st P'∧∀ y st1,P' y st1→∃ z,y = .str z∧P (.bl ((kvs.lookup z).isSome != neg)) st1 :=
  ⟨_,h,fun y st1 ⟨z,e,q⟩=>⟨z,e,by rw [hk];exact q⟩⟩
theorem qE2 {K:W.Frag} {neg:Bool} {kvs:List (Str×Str)} (hk:∀ z,(kvs.lookup z).isSome=keys.contains z) {σ:L2.St} {H:Hp} {Q:VK} (h:qAR K (qBM neg keys ti) σ H Q):qHW neg kvs (qAR K ti) σ H Q:=by
  k_dat 0"r0"
  obtain⟨P',h1,h2⟩:=qNS hk ht
  refine⟨φ,st,ρ,P',pre,h1,fun y st1 hy φ1 H1 v b1 dy=>?_⟩
  obtain⟨z,ez,hp⟩:=h2 y st1 hy
  subst ez
  exact⟨z,dy.str,hq _ _ hp _ _ _ b1 D.qBk⟩
theorem qJA (T:qCd X.w X.K X.mg x keys) (hi:DE X i ti) (hg:Gl X x) (hd:(x==("__debug__" : Str))=false) (hm:behindInMarks .In (.Name x p)=false):DE X (.Compare i [.In] [.Name x p] pos) (qBM false keys ti):=by
  obtain⟨kvs,T,hk⟩:=T.ex
  exact (qNV (qI5 T hi hg hd) hm).imp fun _ _ _ h=>qE2 hk h
theorem qEn (T:qCd X.w X.K X.mg x keys) (hi:DE X i ti) (hg:Gl X x) (hd:(x==("__debug__" : Str))=false) (hm:behindInMarks .NotIn (.Name x p)=false):DT X (.Compare i [.NotIn] [.Name x p] pos) (qI (qBM true keys ti)):=by
  obtain⟨kvs,T,hk⟩:=T.ex
  exact (qOf (qFl T hi hg hd) hm).imp fun _ _ _ h=>qE2 hk (qB5 h)
end
structure qK6 (P:Program) (w:World) (K:W.Frag) (mg:Str→Option Value) (base:Heap) (x:Str) (keys:List Str) (k:Nat) (f:Str→RDL):Prop where
  ex:∃ kvs:List (Str×RDL),qCQ w K mg x (RFn P w K mg base k) kvs∧∀ z,z∈keys→kvs.lookup z=some (f z)
def qH3 (f:Str→RDL) (keys:List Str) (ti:TD) (t:TAD):TD:=fun ρ st P=>ti ρ st fun y st1=>∃ z,y = .str z∧z∈keys∧t ρ st1 fun ds st2=>f z ds st2 P
theorem qGQ {γ δ:Type} (f:Str→δ):∀ (kvs:List (Str×γ)) (z:Str),z∈kvs.map (·.1)→(kvs.map fun p=>(p.1,f p.1)).lookup z=some (f z)
  | [],z,h=>by cases h
  | (k,v)::r,z,h=>by
    rw [List.map_cons,List.lookup_cons]
    cases e:z==k with
    | true =>
      have:z=k:=eq_of_beq e
      subst this
      rfl
    | false =>
      rw [List.map_cons] at h
      rcases List.mem_cons.mp h with q | q
      · rw [q] at e;simp at e
      · exact qGQ f r z q
theorem qAj.toF {P:Program} {w:World} {K:W.Frag} {mg:Str→Option Value} {base:Heap} {k:Nat} {f:Str→RDL} {Pa:Params}:∀ {l:List DictEntry} {kvs:List (Str×Str)},qAj (fun (n:Str) u=>mg n=some u) Pa l kvs→(∀ q∈kvs,qj P w K mg base q.2 k (f q.1))→qAj (RFn P w K mg base k) Pa l (kvs.map fun p=>(p.1,f p.1))
  | [],[],_,_=>trivial
  | _ :: _,_::_,⟨⟨t,h1,h2,h3⟩,r⟩,h=>⟨⟨t,h1,by
      obtain⟨g,fd,ps,F,hm,hk,hb⟩:=(h _ List.mem_cons_self).ex
      exact⟨g,fd,ps,(Option.some.inj (hm.symm.trans h2)).symm,F,hk,hb⟩,h3⟩,r.toF fun q hq=>h q (List.mem_cons_of_mem _ hq)⟩
  | [],_::_,h,_=>h.elim
  | _::_,[],h,_=>h.elim
theorem qCQ.toF {P:Program} {w:World} {K:W.Frag} {mg:Str→Option Value} {base:Heap} {x:Str} {k:Nat} {f:Str→RDL} {kvs:List (Str×Str)} (T:qCQ w K mg x (fun (n:Str) u=>mg n=some u) kvs) (h:∀ q∈kvs,qj P w K mg base q.2 k (f q.1)):qK6 P w K mg base x (kvs.map (·.1)) k f:=by
  obtain⟨a,es,n,h1,h2,h3,h4⟩:=T.ex
  exact⟨_,⟨a,es,n,h1,h2,h3,h4.toF h⟩,fun z hz=>qGQ f kvs z hz⟩
section
variable {X:Cx} {i e:Expr} {es:List Expr} {ti te to:TD} {t:TAD} {pos p p2:Pos} {x:Str}
theorem qIj {k:Nat} {keys:List Str} {f:Str→RDL} (T:qK6 X.prog X.w X.K X.mg X.base x keys k f) (hr:qAh k X.A) (hi:DE X i ti) (ha:DA X (e::es) t) (hg:Gl X x) (hd:(x==("__debug__" : Str))=false) (hs:qIn i)
    (he:starEach (e::es) X.env=(false,eval e X.env)::starEach es X.env) (hpl:(backTo pos (starEach es X.env)).any (·.1)=false)
    (hev:eval (.Call (.Subscript (.Name x p) i p2) (e::es) [] pos) X.env=(do let f ← eval (.Subscript (.Name x p) i p2) X.env;callWith pos f [] (backTo pos (starEach (e::es) X.env)) (backToKw pos (keywordEach [] X.env)))) :
    DE X (.Call (.Subscript (.Name x p) i p2) (e::es) [] pos) (qH3 f keys ti t):=by
  obtain⟨kvs,T,hk⟩:=T.ex
  k_dat 0"r1"
  k_dat 0"r0"
  rw [hev]
  refine wpAny_bind (qHy T hi hg hd hs I pre ht fun y st1 ⟨z,ey,hz,hp⟩ φ1 H1 b1=>⟨z,f z,ey,hk z hz,fun u s2 ⟨g,fd,ps,eu,F,hk',hb⟩ I2=>?_⟩)
  subst eu
  refine W.callWith_K (h₀:=X.base) I.ok.mod.kin hk' (thn (ha pos pins s2 σ H1 _ I2 ⟨φ1,st1,ρ,_,pre.on b1,hp,fun ds st2 h2 φ2 H2 vs b2 dl=>(show qT X.K (f z) (vs++[]) H2 Q E0 from ?_)⟩) fun us s3 ⟨vs,H3,I3,r,q⟩=>⟨I3.kIn,?_⟩) he hpl
  · rw [List.append_nil]
    exact⟨φ2,st2,ds,P,b2.1,dl,h2,fun d st' hp φ' H' u b d'=>hq d st' hp φ' H' u ((b1.trans b2).trans b) d'⟩
  · exact qJw F hr hb .nil qMM I3 r q
def qIE (to te:TD):TD:=fun ρ st P=>to ρ st fun o st1=>∃ xs,o = .tup xs∧te ρ st1 fun y st2=>okD 8 y=true∧xs.all (okD 8)=true∧∃ j:Nat,xs.findIdx? (fun z=>eqD 8 z y)=some j∧P (.int (j:Nat)) st2
theorem qIs {o:Expr} {apos cpos:Pos} (hu:X.A.units+16<cLine) (ho:DE X o to) (he:DE X e te)
    (hbase:attributeBase o "index" X.env (eval o X.env)=eval o X.env)
    (hfew:((backTo cpos (starEach [e] X.env)).all (fun x=>!x.1)&&(backToKw cpos (keywordEach [] X.env)).all (fun x=>x.1.isSome)
      && decide (([e]:List Expr).length+([]:List Keyword).length+(if ([]:List Keyword).isEmpty then 0 else 1)<30))=true)
    (hline:(apos.endLine==cpos.line)=true) (hs:starEach [e] X.env=(false,eval e X.env)::starEach [] X.env) (hplain:(backTo cpos (starEach ([]:List Expr) X.env)).any (·.1)=false) :
    DE X (.Call (.Attribute o "index" apos) [e] [] cpos) (qIE to te):=by
  k_dat 0"r1"
  k_dat 0"r0"
  refine wpAny_Call_method_late hbase hfew hline rfl ?_
  refine thn (ho pins s σ H (fun v H1=>∃ φ1 st1 xs,Bhd X.K φ st H φ1 st1 H1∧D X.K φ1 st1.length H1 (.tup xs) v∧te ρ st1 fun y st2=>okD 8 y=true∧xs.all (okD 8)=true∧∃ j:Nat,xs.findIdx? (fun z=>eqD 8 z y)=some j∧P (.int (j:Nat)) st2) I ⟨φ,st,ρ,_,pre,ht,fun d st1 ⟨xs,ed,h1⟩ φ1 H1 v b1 dv=>⟨φ1,st1,xs,b1,by rw [← ed];exact dv,h1⟩⟩) fun u s1 ⟨v,H1,I1,r1,φ1,st1,xs,b1,dv,h1⟩=>?_
  obtain⟨a,vs,ev,hs1,hd⟩:=dv.tup
  subst ev
  cases r1
  obtain⟨its,rv,pl,_⟩:=I1.tuple hs1
  refine⟨"tuple", "tuple.index",PySem.F.plainAttrs_tuple,PySem.F.slot_tuple_index,PySem.F.type_tuple_index,(let ⟨o,e,c,_⟩:=pl;⟨o,e,c⟩),fun b eb=>?_,?_⟩
  · cases eb;exact I1.qOG hs1
  have hA:=(qDb he qF2 hs) cpos pins s1 σ H1 (fun ws H2=>∃ φ2 st2 y w,ws=[w]∧Bhd X.K φ st H φ2 st2 H2∧D X.K φ2 st2.length H2 y w∧DL X.K φ2 st2.length H2 xs vs∧SqT X.K H2 a vs∧okD 8 y=true∧xs.all (okD 8)=true∧∃ j:Nat,xs.findIdx? (fun z=>eqD 8 z y)=some j∧P (.int (j:Nat)) st2) I1 ⟨φ1,st1,ρ,(fun ys st2=>match ys with
    | [y]=>okD 8 y=true∧xs.all (okD 8)=true∧∃ j:Nat,xs.findIdx? (fun z=>eqD 8 z y)=some j∧P (.int (j:Nat)) st2
    | _=>False),pre.on b1,h1,fun ys st2 h2 φ2 H2 ws b2 dl=>?_⟩
  rotate_left
  · rcases ys with _ | ⟨y,_ | ⟨y2,r⟩⟩
    · exact h2.elim
    rotate_left
    · exact h2.elim
    obtain⟨q1,q2,j,q3,q4⟩:=h2
    obtain⟨w,e2,dw⟩:=dl.one
    exact⟨φ2,st2,y,w,e2,b1.trans b2,dw,hd.evo b2.2,b2.2.tup a vs hs1,q1,q2,j,q3,q4⟩
  rw [hs] at hA ⊢
  refine Calls.callWith_builtin (by show (false || (backTo cpos (starEach ([]:List Expr) X.env)).any (·.1))=false;rw [hplain]<;>rfl) (Calls.evalArgs_plain ?_)
  refine thn hA fun us s2 ⟨ws,H2,I2,r2,φ2,st2,y,w,e2,b2,dw,dl2,sq2,q1,q2,j,q3,q4⟩=>?_
  subst e2
  obtain⟨uy,eu,ry⟩:=r2.one
  subst eu
  obtain⟨its2,rv2,⟨o,ho2,hc2,n2,hd2⟩,_⟩:=I2.tuple sq2
  obtain⟨cls,dd,data,sl⟩:=o
  simp only at hc2 hd2
  subst hc2 hd2
  have hl2:its2.length=xs.length:=by rw [← rv2.length,← dl2.length]
  obtain⟨hj,hit,hno⟩:=find_spec q3
  have hu1:X.A.in1.units+8<cLine:=by show X.A.units+1+8<cLine;omega
  have ev:∀ m (hm:m<its2.toArray.size),isIn xs its2 y its2.toArray[m]=eqD 8 (xs[m]'(by rw [← hl2];simpa using hm)) y:=fun m hm=>by
    have hm1:m<its2.length:=by simpa using hm
    exact qDe I2 dl2 rv2 q2 (j:=m) (by rw [List.getElem?_eq_getElem hm1];rfl) (List.getElem?_eq_getElem (by omega))
  refine call_meets PySem.F.slot_tuple_index ⟨_,ho2,rfl⟩ PySem.F.entry_tuple_index (PySem.F.args_tuple_index_2 _ _) (qEf a its2.toArray n2 dd sl uy (isIn xs its2 y) j (by simp;omega) (by rw [ev];exact hit) (fun m hm hmj=>by rw [ev m hm];exact hno m (by simp at hm;omega) hmj))
    ⟨ho2,fun z hz=>qF0 I2 hu1 dl2 rv2 q2 dw ry q1 z (by simpa using hz),⟨.int (j:Nat),H2,I2.tok _,⟨_,rfl⟩,hq _ st2 q4 φ2 H2 _ b2 D.mkInt⟩⟩
end
end L3
namespace L3
open PySem PySem.Spec PyProof.Rows L2
def qKc (items:List Dt) (ok:Sto→Prop) (tc:TBD) (te:TD) (cρ:Rho) (st:Sto) (Fin:List Dt→Sto→Prop):Prop:=∃ Inv:Nat→List Dt→Sto→Prop,Inv 0 [] st∧(∀ i ys st',i≤items.length→Inv i ys st'→ok st') ∧
  (∀ (i:Nat) d ys st',items[i]? = some d→Inv i ys st'→ys.length<sizeLine∧∃ a b c,d = .tup [a,b,c]∧tc (some a::some b::some c::cρ) st' fun k st1=>if k=true then te (some a::some b::some c::cρ) st1 fun y st2=>Inv (i+1) (ys++[y]) st2 else Inv (i+1) ys st1) ∧
  ∀ ys st',Inv items.length ys st'→Fin ys st'
noncomputable def g3:TGD:=qBc 3 (qAi (qO 0) (qAi (qO 1) (qAi (qO 2) qFK)))
theorem qG0 {K:W.Frag} {φ:Nat→Addr} {N:Nat} {H:Hp} {ρ:Rho} {σ:L2.St} {a b c:Option Dt} (h:DR K φ N H (a::b::c::ρ) σ):DR K φ N H (none::none::none::ρ) σ:=by
  refine⟨h.1,fun i d q=>?_⟩
  rcases i with _ | _ | _ | i
  · cases q
  · cases q
  · cases q
  · exact h.2 (i+3) d q
theorem qI3 {K:W.Frag} {φ1:Nat→Addr} {st1:Sto} {H1:Hp} {cρ:Rho} {σ0:L2.St} {J:It} {items:List Dt} {ok:Sto→Prop} {tc:TBD} {te:TD} {Fin:List Dt→Sto→Prop} {Fin':List V→Hp→Prop}
    (R:Rep K φ1 st1 H1) (dr:DR K φ1 st1.length H1 (none::none::none::cρ) σ0) (hJ:qEA K φ1 st1 H1 J items ok) (hc:qKc items ok tc te cρ st1 Fin)
    (hF:∀ ys st' φ' H' vs,Fin ys st'→Bhd K φ1 st1 H1 φ' st' H'→DL K φ' st'.length H' ys vs→Fin' vs H') :
    qIT J (qE1 K g3) (liftT K tc) (qAR K te) σ0 H1 Fin':=by
  obtain⟨Inv,h0,hok,step,fin⟩:=hc
  refine⟨fun i m σ vs H=>m=items.length - i∧i≤items.length∧∃ φ' st' ys,Bhd K φ1 st1 H1 φ' st' H∧DL K φ' st'.length H ys vs∧DR K φ' st'.length H (none::none::none::cρ) σ∧Inv i ys st',
    ⟨items.length,by simp,Nat.zero_le _,φ1,st1,[],.refl R,.nil,dr,h0⟩,?_⟩
  rintro i m σ vs H ⟨rfl,hi,φ',st',ys,bh,dl,drs,hI⟩
  obtain⟨js,jg⟩:=hJ i φ' st' H bh (hok i ys st' hi hI) hi
  by_cases hlt:i<items.length
  · have ed:items[i]? = some items[i]:=by simp [hlt]
    obtain⟨go,yl⟩:=jg _ ed
    obtain⟨hz,a,b,c,ed2,hstep⟩:=step i _ ys st' ed hI
    refine .inr ⟨go,by rw [← dl.length];exact hz,fun y H2 hy=>?_⟩
    obtain⟨b2,dy⟩:=yl y H2 hy
    have b12:=bh.trans b2
    refine⟨φ',st',none::none::none::cρ,_,(fun ρ2 st2=>ρ2=some a::some b::some c::cρ∧st2=st'),⟨b2.1,drs.evo b2.2⟩,dy,?_,fun ρ2 st2 hp φ3 H3 σ2 b3 dr3=>?_⟩
    · rw [ed2];exact⟨rfl,rfl,rfl⟩
    obtain⟨rfl,rfl⟩:=hp
    refine⟨φ3,st2,_,_,⟨b3.1,dr3⟩,hstep,fun k st3 h3 φ4 H4 b4=>?_⟩
    cases k with
    | false =>
      rw [if_neg Bool.false_ne_true] at h3 ⊢
      exact⟨items.length - (i+1),by omega,rfl,hlt,φ4,st3,ys,b12.trans (b3.trans b4),dl.evo (b2.2.trans (b3.2.trans b4.2)),(qG0 dr3).evo b4.2,h3⟩
    | true =>
      rw [if_pos rfl] at h3 ⊢
      refine⟨φ4,st3,_,_,⟨b4.1,dr3.evo b4.2⟩,h3,fun z st4 h4 φ5 H5 w b5 dz=>?_⟩
      exact⟨items.length - (i+1),by omega,rfl,hlt,φ5,st4,ys++[z],b12.trans (b3.trans (b4.trans b5)),(dl.evo (b2.2.trans (b3.2.trans (b4.2.trans b5.2)))).append (.cons dz .nil),(qG0 dr3).evo (b4.2.trans b5.2),h4⟩
  · have e:i=items.length:=by omega
    subst e
    exact .inl ⟨js rfl,hF ys st' φ' H vs (fin ys st' hI) bh dl⟩
def qG8 (ti:TID) (tc:TBD) (te:TD) (caps:List (Nat×Str)):TD:=fun ρ st P=>ti ρ st fun items ok st1=>qKc items ok tc te (qHH caps ρ) st1 fun ys st2=>P (.lst st2.length) (st2++[.rw ys])
section
variable {X:Cx} {pos:Pos} {ti:TID} {iter:Expr}
theorem qHb {K:W.Frag} {tc:TBD} {te:TD} {caps:List (Nat×Str)} {σ:L2.St} {H:Hp} {Q:VK} (h:qAR K (qG8 ti tc te caps) σ H Q):qH8 (qJu K ti) (qE1 K g3) (liftT K tc) (qAR K te) 3 caps σ H Q:=by
  k_dat 0"r0"
  k_dat 0"r38"
  refine qI3 b1.1 ?_ hJ h1 fun ys st2 φ2 H2 vs hF b2 dl p hp=>?_
  · have hd:=qJV (pre.on b1).2 caps
    refine⟨by simp [hd.1,List.replicate],fun i d q=>?_⟩
    rcases i with _ | _ | _ | i
    · cases q
    · cases q
    · cases q
    · exact hd.2 i d q
  · exact hq _ _ hF _ _ _ (b1.trans (b2.trans (qBa b2.1 hp dl))) qDs
variable {elt:Expr} {ifs:List Expr} {sc:Scope} {x y z:Str} {px py pz tp:Pos} {kt:Nat} {tc:TBD} {te:TD}
theorem qGV (i:Nat) {y0:Str} {py0 spos:Pos} (caps:List (Nat×Str)) (hc:X.calm=true) (hN:X.N.Nodup) (S:qAC X.env.scope X.N caps sc) (hx:sc.names.lookup x=some .local) (hy:sc.names.lookup y=some .local) (hz:sc.names.lookup z=some .local) (hnd:([x,y,z]++caps.map (·.2)).Nodup) (hi:DI X (.Tuple [.Name x px,.Name y py,.Name z pz] kt tp) iter ti)
    (hif:∀ C s H fp,DIf (qw X [x,y,z] caps sc C s H fp) ifs tc) (he:∀ C s H fp,DE (qw X [x,y,z] caps sc C s H fp) elt te)
    (hy0:X.N[i]? = some y0) (hyl:X.env.scope.names.lookup y0=some .local)
    (hsw:swapsWith (.ListComp elt [⟨.Tuple [.Name x px,.Name y py,.Name z pz] kt tp,iter,ifs,0⟩] sc pos) (some (.Name y0 py0)) spos.line X.env=pure true)
    (hs:∀ x,foldedSetIterable iter X.env x=pure x):DS X (.Assign [.Name y0 py0] (.ListComp elt [⟨.Tuple [.Name x px,.Name y py,.Name z pz] kt tp,iter,ifs,0⟩] sc pos) spos) (qb (qG8 ti tc te caps) (qO i)) :=
  PS.imp (qIK (g:=qE1 X.K g3) (tc:=liftT X.K tc) (te:=qAR X.K te) [x,y,z] caps hc hN hy0 hyl S hi (fun C s H fp=>qEt (X:=qw X [x,y,z] caps sc C s H fp) 3 hc (qCj (qDh 0 hnd rfl (.inl (lookup_relabel_local hx)) (.inr (lookup_relabel_local hx))) (qCj (qDh 1 hnd rfl (.inl (lookup_relabel_local hy)) (.inr (lookup_relabel_local hy))) (qCj (qDh 2 hnd rfl (.inl (lookup_relabel_local hz)) (.inr (lookup_relabel_local hz))) qIO rfl) rfl) rfl) rfl) hif he hsw hs) fun E σ H h=>by
    k_dat 0"r3"
    refine qHb (ti:=ti) (tc:=tc) (te:=te) (caps:=caps) ⟨φ,st,ρ,_,pre,ht,fun d st1 h1 φ1 H1 v b1 dx=>?_⟩
    exact n _ st1 h1 φ1 H1 _ b1 ((pre.on b1).2.set dx i)
end
end L3
namespace L3
open PySem PySem.Spec PyProof.Rows L2
theorem qAQ {K:W.Frag} {i:Int} {t:Tok}:RDt K (.int i) (.int i t):=⟨.int i,⟨t,rfl⟩,fun _ _ _=>D.mkInt⟩
noncomputable def qBg:List Value→List Int→Bool
  | [],[]=>true
  | .int x _::us,s::ss=>x==s&&qBg us ss
  | _,_=>false
theorem qED:∀ {us:List Value} {ss:List Int},qBg us ss=true→Vals (ss.map V.int) us
  | [],[],_=>.nil
  | [],_::_,h=>by simp [qBg] at h
  | u::us,[],h=>by cases u<;>simp [qBg] at h
  | u :: us,s::ss,h=>by
    cases u with
    | int x t =>
      rw [qBg,Bool.and_eq_true] at h
      have e:x=s:=eq_of_beq h.1
      subst e
      exact .cons ⟨t,rfl⟩ (qED h.2)
    | _=>simp [qBg] at h
theorem qGM {K:W.Frag} {φ:Nat→Addr} {N:Nat} {H:Hp}:∀ ss:List Int,DL K φ N H (ss.map .int) (ss.map V.int)
  | []=>.nil
  | n::ns=>.cons D.mkInt (qGM ns)
theorem qCk {K:W.Frag} {a:Addr} {its:Array Value} {n:Nat} {sl:Array (Option Value)} (ss:List Int) (l:K.lookup a=some ⟨.type "tuple",none,.seq its n,sl⟩) (v:qBg its.toList ss=true) (sz:its.size≤sizeLine):RDt K (.tup (ss.map .int)) (.ref a):=⟨.ref a,rfl,fun φ N H=>.qCO (.inr ⟨_,its,n,l,⟨rfl,rfl⟩,rfl,sz,qED v⟩) (qGM ss)⟩
section
variable {P:Program} {w:World} {K:W.Frag} {mg:Str→Option Value} {base h:Heap} {n:Str} {st:Stmt} {k:Nat} {sp:RDL} {ps:List Str} {C:Addr}
theorem qe.okR (X:K.In h) (G:h.Ns mainGlobals mg) (a:qe K n st) (ok:∀ {f fd},Fun K n n st f fd→qv P w K mg base (CXE P w) k f fd ps (qDg K sp)) (hb:Bnd n n st ps):qHU P w K mg base n k sp:=by
  obtain⟨f,fd,h1,F⟩:=a.ex
  exact⟨f,fd,ps,ok F,W.mg_of X G h1,F.kp,F.binds hb⟩
theorem qMt (X:K.In h) (G:h.Ns mainGlobals mg) {n:String} (a:W.nsIn K mainGlobals (Str.ofString n)=some (some (.ref C))) (e:W.excIn K C bmV "ValueError.__new__" = true):qII K mg n:=⟨C,⟨a,e⟩,W.mg_of X G a⟩
theorem qM0 {Z:Addr} {oc:Value} {od:Option Addr} {cd:ClassData} {sl:Array (Option Value)} (l:K.lookup C=some ⟨oc,od,.cls cd,sl⟩) (m:cd.mro.contains (.ref Z)=true):subIn K C Z=true:=by
  unfold subIn
  rw [l];exact m
theorem qNu (X:K.In h) (G:h.Ns mainGlobals mg) {n:String} (a:W.nsIn K mainGlobals (Str.ofString n)=some (some (.ref C))) (e:W.excIn K C bmV "ValueError.__new__" = true) (s:subIn K C C=true):qIU K mg (Str.ofString n) [n]:=⟨C,⟨a,e⟩,W.mg_of X G a,fun m hm D hD=>by
  rw [List.mem_singleton.mp hm,a] at hD
  cases hD
  exact⟨e,s⟩⟩
end
end L3
namespace KH
open PySem L2 L3
end KH
namespace K19
open PySem L2 L3 KH
noncomputable def qEV:List Str:=["add", "sub", "mul", "nought", "high", "over", "under", "wide", "rest"]
noncomputable def qJq:List Dt:=qEV.map .str
noncomputable def qBI (w:Str) (ns:List Dt):List Dt:=if qEV.contains w=true then ns else []
def qB9:RDL:=fun ds st P=>∃ (w:Str) (ns:List Dt),ds=[.tup (.str w::ns)]∧P (.tup (qBI w ns)) st
end K19
namespace KH
open PySem PySem.Spec PyProof.Rows L2 L3
theorem qEc {b:Bool} {A B:Prop} (h:b=true) (a:A):if b=true then A else B:=by rw [if_pos h];exact a
theorem qAO {b:Bool} {A B:Prop} (h:b=false) (a:B):if b=true then A else B:=by rw [if_neg (by rw [h];exact Bool.false_ne_true)];exact a
end KH
namespace K01
open PySem L2 L3
end K01
namespace K01
open PySem PySem.Spec PyProof.Rows L2 L3
end K01
namespace KS
end KS
namespace KS
open PySem L2 L3 KH
end KS
namespace K15
open PySem L2 L3 KH KS
end K15
namespace KS
open PySem PySem.Spec PyProof.Rows L2 L3 KH
theorem qDA {st:Sto} {m:Nat} {xs:List Dt} {v:Int} {d:Dt} {P:VD} (e:st[m]? = some (.rw xs)) (a:atI xs v=some d) (h:P d st):qM (.lst m) (.int v) st P:=by
  simp only [qM,qc,e,Option.map_some,SO.items,a]
  exact h
theorem qH9 {st:Sto} {m:Nat} {xs:List Dt} {v:Int} {d:Dt} {P:VD} (e:qc st (.lst m)=some xs) (a:atI xs v=some d) (h:P d st):qM (.lst m) (.int v) st P:=by
  simp only [qM,e,a]
  exact h
theorem qIG {st:Sto} {x y:SO}:(st++[x]).set st.length y=st++[y]:=by simp
end KS
namespace KW
inductive Op2 | add | sub | mul | over | under | wide | rest
inductive Nd where
  | num (n:Int) | box (k:Nat) | mark (k:Nat) | item (i:Nat) | two (w:Op2) (x y:Nat) | nought (x:Nat) | high (x:Nat) | yes | no
inductive Vl where
  | n (i:Int) | b (k:Bool) | non
noncomputable def two (w:Op2) (x y:Int):Vl:=match w with
  | .add=>.n ((x+y)%65536)
  | .sub=>.n ((x - y)%65536)
  | .mul=>.n (x * y%65536)
  | .over=>.b (decide (65536≤x+y))
  | .under=>.b (decide (x<y))
  | .wide=>.b (decide (65536≤x * y))
  | .rest=>.b (decide (y≠0)&&decide (x%y≠0))
noncomputable def worth (nd:Nd) (f:List Vl) (bx:List Int) (mk:List Bool) (br:List (Option Int)):Vl:=match nd with
  | .num n=>.n n
  | .box k=>.n (bx.getD k 0)
  | .mark k=>.b (mk.getD k false)
  | .item i=>(match br[i]? with
    | some (some v)=>.n v
    | _=>.non)
  | .two w x y=>(match f[x]?,f[y]? with
    | some (.n a),some (.n c)=>two w a c
    | _,_=>.non)
  | .nought x=>(match f[x]? with
    | some (.n a)=>.b (decide (a=0))
    | _=>.non)
  | .high x=>(match f[x]? with
    | some (.n a)=>.b (decide (32768≤a))
    | _=>.non)
  | .yes=>.b true
  | .no=>.b false
noncomputable def go (bx:List Int) (mk:List Bool) (br:List (Option Int)):List Vl→List Nd→List Vl
  | f,[]=>f
  | f,nd::r=>go bx mk br (f++[worth nd f bx mk br]) r
noncomputable def qd (nds:List Nd) (bx:List Int) (mk:List Bool) (br:List (Option Int)):List Vl:=go bx mk br [] nds
theorem qHp (bx:List Int) (mk:List Bool) (br:List (Option Int)):∀ (a b:List Nd) (f:List Vl),go bx mk br f (a++b)=go bx mk br (go bx mk br f a) b
  | [],b,f=>rfl
  | x::a,b,f=>by simp only [List.cons_append,go];exact qHp bx mk br a b _
theorem qJ3 (bx:List Int) (mk:List Bool) (br:List (Option Int)):∀ (a:List Nd) (f:List Vl),(go bx mk br f a).length=f.length+a.length
  | [],f=>rfl
  | x::a,f=>by simp only [go];rw [qJ3 bx mk br a];simp;omega
theorem qA9 (a:List Nd) (x:Nd) (bx:List Int) (mk:List Bool) (br:List (Option Int)):qd (a++[x]) bx mk br=qd a bx mk br++[worth x (qd a bx mk br) bx mk br]:=by
  unfold qd;rw [qHp];rfl
theorem qAH (a:List Nd) (bx:List Int) (mk:List Bool) (br:List (Option Int)):(qd a bx mk br).length=a.length:=by
  unfold qd;rw [qJ3];simp
theorem qIQ (bx:List Int) (mk:List Bool) (br:List (Option Int)):∀ (a:List Nd) (f:List Vl),(go bx mk br f a).take f.length=f
  | [],f=>by simp [go]
  | x::a,f=>by
    simp only [go]
    have:=qIQ bx mk br a (f++[worth x f bx mk br])
    have h2:((go bx mk br (f++[worth x f bx mk br]) a).take (f++[worth x f bx mk br]).length).take f.length=f:=by rw [this];simp
    rw [List.take_take] at h2
    rw [show min f.length (f++[worth x f bx mk br]).length=f.length by simp] at h2
    exact h2
theorem qDR (a:List Nd) (c:Nat) (bx:List Int) (mk:List Bool) (br:List (Option Int)):qd (a.take c) bx mk br=(qd a bx mk br).take c:=by
  by_cases h:c≤a.length
  · have e:qd a bx mk br=go bx mk br (qd (a.take c) bx mk br) (a.drop c):=by
      unfold qd;rw [← qHp,List.take_append_drop]
    have l:(qd (a.take c) bx mk br).length=c:=by rw [qAH];simp;omega
    rw [e]
    conv=>rhs;arg 1;rw [← l]
    rw [qIQ]
  · rw [List.take_of_length_le (by omega),List.take_of_length_le (by rw [qAH];omega)]
def OkN (ss:List Nat) (m:Nat) (nd:Nd) (s:Nat):Prop:=match nd with
  | .num n=>0≤n∧n<65536∧s=0
  | .box k=>k<8∧s=0
  | .mark k=>k<3∧s=1
  | .item i=>i<m∧s=0
  | .two w x y=>ss[x]? = some 0∧ss[y]? = some 0∧s=(match w with | .add=>0 | .sub=>0 | .mul=>0 | _=>1)
  | .nought x=>ss[x]? = some 0∧s=1
  | .high x=>ss[x]? = some 0∧s=1
  | .yes=>s=1
  | .no=>s=1
inductive OkT (m:Nat):List Nd→List Nat→Prop
  | nil:OkT m [] []
  | snoc {a:List Nd} {ss:List Nat} {x:Nd} {s:Nat}:OkT m a ss→OkN ss m x s→OkT m (a++[x]) (ss++[s])
theorem OkT.len {m:Nat} {a:List Nd} {ss:List Nat} (h:OkT m a ss):a.length=ss.length:=by
  induction h with
  | nil=>rfl
  | snoc _ _ ih=>simp [ih]
theorem OkT.take {m:Nat} {a:List Nd} {ss:List Nat} (h:OkT m a ss):∀ i,OkT m (a.take i) (ss.take i):=by
  induction h with
  | nil=>intro i;simpa using OkT.nil
  | @snoc a ss x s h o ih =>
    intro i
    have hl:=h.len
    by_cases hi:i≤a.length
    · rw [List.take_append_of_le_length hi,List.take_append_of_le_length (by omega)];exact ih i
    · rw [List.take_of_length_le (by simp;omega),List.take_of_length_le (by simp;omega)];exact .snoc h o
theorem OkT.at_ {m:Nat} {a:List Nd} {ss:List Nat} (h:OkT m a ss):∀ {i:Nat} (hi:i<a.length),∃ s,OkN (ss.take i) m a[i] s:=by
  induction h with
  | nil=>intro i hi;simp at hi
  | @snoc a ss x s h o ih =>
    intro i hi
    have hl:=h.len
    by_cases h2:i<a.length
    · rw [List.getElem_append_left h2,List.take_append_of_le_length (by omega)]
      exact ih h2
    · have e:i=a.length:=by simp at hi;omega
      subst e
      have e1:(a++[x])[a.length]'hi=x:=by simp
      have e2:(ss++[s]).take a.length=ss:=by rw [hl];simp
      rw [e1,e2]
      exact⟨s,o⟩
def IsS (s:Nat) (v:Vl):Prop:=match v with
  | .n i=>s=0∧0≤i∧i<65536
  | .b _=>s=1
  | .non=>False
def qPZ (s:Nat) (v:Vl):Prop:=v = .non∨IsS s v
structure Env (bx:List Int) (mk:List Bool) (br:List (Option Int)):Prop where
  b8:∀ i,0≤bx.getD i 0∧bx.getD i 0<65536
  br:∀ (i:Nat) v,br[i]? = some (some v)→0≤v∧v<65536
def qJh (ss:List Nat) (f:List Vl):Prop:=f.length=ss.length∧∀ (i:Nat) v s,f[i]? = some v→ss[i]? = some s→qPZ s v
theorem qCu (w:Op2) (x y:Int):IsS (match w with | .add=>0 | .sub=>0 | .mul=>0 | _=>1) (two w x y):=by
  cases w<;>simp only [two,IsS]<;>first | rfl | (refine⟨trivial,?_,?_⟩<;>omega)
theorem qBQ {α:Type} {l:List α} {x y:α} {i:Nat} (e:(l++[x])[i]? = some y):(i<l.length∧l[i]? = some y)∨(i=l.length∧y=x):=by
  by_cases h:i<l.length
  · rw [List.getElem?_append_left h] at e;exact .inl ⟨h,e⟩
  · rw [List.getElem?_append_right (by omega)] at e
    by_cases h2:i=l.length
    · subst h2;simp at e;exact .inr ⟨rfl,e.symm⟩
    · rw [List.getElem?_eq_none (by simp;omega)] at e;cases e
theorem qHL {ss:List Nat} {m:Nat} {x:Nd} {s:Nat} {f:List Vl} {bx:List Int} {mk:List Bool} {br:List (Option Int)} (g:Env bx mk br) (o:OkN ss m x s) (hf:qJh ss f):qPZ s (worth x f bx mk br):=by
  cases x with
  | num n=>exact .inr ⟨o.2.2,o.1,o.2.1⟩
  | box k=>exact .inr ⟨o.2,g.b8 k⟩
  | mark k=>exact .inr o.2
  | item i =>
    simp only [worth]
    split
    · rename_i v e;exact .inr ⟨o.2,g.br i v e⟩
    · exact .inl rfl
  | two w x y =>
    simp only [worth]
    split
    · rename_i a c e1 e2;right;rw [o.2.2];exact qCu w a c
    · exact .inl rfl
  | nought x =>
    simp only [worth]
    split
    · exact .inr o.2
    · exact .inl rfl
  | high x =>
    simp only [worth]
    split
    · exact .inr o.2
    · exact .inl rfl
  | yes=>exact .inr o
  | no=>exact .inr o
theorem qE9 {m:Nat} {a:List Nd} {ss:List Nat} {bx:List Int} {mk:List Bool} {br:List (Option Int)} (g:Env bx mk br) (h:OkT m a ss):qJh ss (qd a bx mk br):=by
  induction h with
  | nil=>exact⟨rfl,fun i v s e=>by simp [qd,go] at e⟩
  | @snoc a ss x s h o ih =>
    rw [qA9]
    refine⟨by simp [ih.1],fun i v s' e1 e2=>?_⟩
    rcases qBQ e1 with ⟨hi,e1⟩ | ⟨hi,e1⟩
    · rcases qBQ e2 with ⟨_,e2⟩ | ⟨hj,_⟩
      · exact ih.2 i v s' e1 e2
      · have:=ih.1;omega
    · rcases qBQ e2 with ⟨hj,_⟩ | ⟨_,e2⟩
      · have:=ih.1;omega
      · subst e1 e2;exact qHL g o ih
theorem qLG {m:Nat} {a:List Nd} {ss:List Nat} {bx:List Int} {mk:List Bool} {br:List (Option Int)} (g:Env bx mk br) (hb:∀ i,i<m→∃ v,br[i]? = some (some v)) (h:OkT m a ss) :
    ∀ v∈qd a bx mk br,v≠.non:=by
  induction h with
  | nil=>intro v hv;simp [qd,go] at hv
  | @snoc a ss x s h o ih =>
    intro v hv
    rw [qA9] at hv
    rcases List.mem_append.mp hv with hv | hv
    · exact ih v hv
    · have S:=qE9 g h
      have num:∀ i,ss[i]? = some 0→∃ c:Int,(qd a bx mk br)[i]? = some (Vl.n c):=fun i e=>by
        have hi:i<ss.length:=(List.getElem?_eq_some_iff.mp e).1
        have hi':i<(qd a bx mk br).length:=by rw [S.1];exact hi
        have e2:(qd a bx mk br)[i]? = some (qd a bx mk br)[i]:=by simp [hi']
        have hne:=ih _ (List.getElem_mem hi')
        rcases S.2 i _ 0 e2 e with h0 | h0
        · exact absurd h0 hne
        · cases q:(qd a bx mk br)[i] with
          | n c=>exact⟨c,by rw [e2,q]⟩
          | b k=>rw [q] at h0;exact absurd h0 (by simp [IsS])
          | non=>rw [q] at h0;exact h0.elim
      simp only [List.mem_singleton] at hv
      subst hv
      cases x with
      | num n=>simp [worth]
      | box k=>simp [worth]
      | mark k=>simp [worth]
      | item i=>obtain⟨v,e⟩:=hb i o.1;simp [worth,e]
      | two w x y =>
        obtain⟨c,e1⟩:=num x o.1
        obtain⟨d,e2⟩:=num y o.2.1
        simp only [worth,e1,e2]
        cases w<;>simp [two]
      | nought x=>obtain⟨c,e⟩:=num x o.1;simp [worth,e]
      | high x=>obtain⟨c,e⟩:=num x o.1;simp [worth,e]
      | yes=>simp [worth]
      | no=>simp [worth]
end KW
namespace K20
open PySem L2 L3 KH KW
noncomputable def nm:Op2→Str
  | .add => "add" | .sub => "sub" | .mul => "mul" | .over => "over" | .under => "under" | .wide => "wide" | .rest => "rest"
noncomputable def nD:Nd→Dt
  | .num n=>.tup [.str "num",.int n]
  | .box k=>.tup [.str "box",.int k]
  | .mark k=>.tup [.str "mark",.int k]
  | .item i=>.tup [.str "item",.int i]
  | .two w x y=>.tup [.str (nm w),.int x,.int y]
  | .nought x=>.tup [.str "nought",.int x]
  | .high x=>.tup [.str "high",.int x]
  | .yes=>.tup [.str "yes"]
  | .no=>.tup [.str "no"]
noncomputable def vD:Vl→Dt
  | .n i=>.int i
  | .b k=>.bl k
  | .non=>.non
noncomputable def oD:Option Int→Dt
  | some i=>.int i
  | none=>.non
noncomputable def tab (a:List Nd):Dt:=.tup (a.map nD)
def Has (st:Sto) (n:Nat) (xs:List Dt):Prop:=∃ o,st[n]? = some o∧o.items=xs
theorem Has.ext {st st':Sto} {n:Nat} {xs:List Dt} (h:Has st n xs) (e:qg st st'):Has st' n xs:=by
  obtain⟨o,a,b⟩:=h;exact⟨o,e _ _ a,b⟩
def qDf:RDL:=fun ds st P=>∃ (w:Op2) (x y:Int),ds=[.str (nm w),.int x,.int y]∧(w = .add∨w = .sub∨w = .mul)∧0≤x∧x<65536∧P (.int (match w with | .add=>x+y | .sub=>x - y | _=>x * y)) st
def qDI:RDL:=fun ds st P=>∃ (w:Str) (n:Nat),ds=[.str w,.lst n] ∧
  ((w = "yes" ∧ P (.bl true) st)∨(w = "no" ∧ P (.bl false) st)∨(∃ x:Int,Has st n [.int x]∧((w = "nought" ∧ P (.bl (decide (x=0))) st)∨(w = "high" ∧ P (.bl (decide (32768≤x))) st))) ∨
   ∃ (o:Op2) (x y:Int),w=nm o∧Has st n [.int x,.int y]∧0≤x∧x<65536∧0≤y∧y<65536∧P (vD (two o x y)) st)
end K20
namespace K20
open PySem PySem.Spec PyProof.Rows L2 L3 KH KS KW
abbrev qBs:TSD:=(tseq (qi (qI (qE (qU false) (qC 0) (qD (Dt.str "add")))) (tseq (qV (qE L3.qBW (qC 1) (qC 2))) qH) qH) (tseq (qi (qI (qE (qU false) (qC 0) (qD (Dt.str "sub")))) (tseq (qV (qE L3.qGm (qC 1) (qC 2))) qH) qH) (tseq (qV (qE qCX (qC 1) (qC 2))) qH)))
abbrev qEL:TSD:=(tseq (qb (qE qM (qC 1) (qD (Dt.int 0))) (qO 2)) (tseq (qi (qI (qE (qU false) (qC 0) (qD (Dt.str "nought")))) (tseq (qV (qE (qU false) (qC 2) (qD (Dt.int 0)))) qH) qH) (tseq (qi (qI (qE (qU false) (qC 0) (qD (Dt.str "high")))) (tseq (qV (qE (qAN fun i j=>decide (j≤i)) (qC 2) (qD (Dt.int 32768)))) qH) qH) (tseq (qb (qE qM (qC 1) (qD (Dt.int 1))) (qO 3)) (tseq (qi (qI (qE (qU false) (qC 0) (qD (Dt.str "over")))) (tseq (qV (qE (qAN fun i j=>decide (j≤i)) (qE L3.qBW (qC 2) (qC 3)) (qD (Dt.int 65536)))) qH) qH) (tseq (qi (qI (qE (qU false) (qC 0) (qD (Dt.str "under")))) (tseq (qV (qE (qAN fun i j=>decide (i<j)) (qC 2) (qC 3))) qH) qH) (tseq (qi (qI (qE (qU false) (qC 0) (qD (Dt.str "wide")))) (tseq (qV (qE (qAN fun i j=>decide (j≤i)) (qE qCX (qC 2) (qC 3)) (qD (Dt.int 65536)))) qH) qH) (tseq (qi (qI (qE (qU false) (qC 0) (qD (Dt.str "rest")))) (tseq (qV (qBt (qE (qU true) (qC 3) (qD (Dt.int 0))) (qE (qU true) (qE qAF (qC 2) (qC 3)) (qD (Dt.int 0))))) qH) qH) (tseq (qV (qE qAF (qJ qDf (qA (qC 0) (qA (qC 2) (qA (qC 3) qG)))) (qD (Dt.int 65536)))) qH)))))))))
abbrev qFE:TSD:=(tseq (qi (qI (qE (qAe false) (qC 0) (qAM (qA (qD (Dt.str "yes")) (qA (qD (Dt.str "no")) qG))))) (tseq (qV (qE (qU false) (qC 0) (qD (Dt.str "yes")))) qH) qH) qEL)
theorem qp {st:Sto} {n:Nat} {xs:List Dt} (h:Has st n xs):qc st (.lst n)=some xs:=by
  obtain⟨o,a,b⟩:=h
  show (st[n]?).map SO.items=_
  rw [a,← b];rfl
theorem qC0 {ds:List Dt} {st:Sto} {Pd:VD} (h:qDf ds st Pd):qBs (Ed Pd) (qW ["word", "x", "y"] ds) st:=by
  obtain⟨w,x,y,rfl,hw,x0,x1,hP⟩:=h
  rcases hw with rfl | rfl | rfl
  · refine⟨rfl,rfl,qEc (by decide +kernel) hP⟩
  · k_dat 0"r2"
    exact⟨rfl,rfl,qEc (by decide +kernel) hP⟩
  · k_dat 0"r2"
    k_dat 0"r2"
    exact⟨qGI x0 (by omega),hP⟩
theorem qNd {E:qAq} {st:Sto} {w:Str} {n:Nat} {a3:Option Dt} {x:Int} {r:List Dt} (hx:Has st n (.int x::r)) (h:(w = "nought" ∧ E.rt (.bl (decide (x=0))) st)∨(w = "high" ∧ E.rt (.bl (decide (32768≤x))) st)) :
    qEL E [some (.str w),some (.lst n),none,a3] st:=by
  k_dat 0"r49"
  refine qH9 (qp hx) (d:=.int x) (by simp [atI,ixN]) ?_
  rcases h with ⟨rfl,h⟩ | ⟨rfl,h⟩
  · refine⟨rfl,rfl,qEc (by decide +kernel) ?_⟩
    refine⟨rfl,rfl,?_⟩
    have e:(eqD 8 (Dt.int x) (Dt.int 0) != false)=decide (x=0):=by
      rw [qAX]
      rfl
    show E.rt (.bl (eqD 8 (Dt.int x) (Dt.int 0) != false)) st
    rw [e];exact h
  · k_dat 0"r2"
    refine⟨rfl,rfl,qEc (by decide +kernel) ?_⟩
    exact h
theorem qNs {E:qAq} {st:Sto} {o:Op2} {n:Nat} {a3:Option Dt} {x y:Int} (hx:Has st n [.int x,.int y]) (x0:0≤x) (x1:x<65536) (y0:0≤y) (y1:y<65536) (h:E.rt (vD (two o x y)) st) :
    qEL E [some (.str (nm o)),some (.lst n),none,a3] st:=by
  k_dat 0"r49"
  refine qH9 (qp hx) (d:=.int x) rfl ?_
  have n1:(eqD 8 (Dt.str (nm o)) (Dt.str "nought") != false)=false:=by cases o<;>decide +kernel
  have n2:(eqD 8 (Dt.str (nm o)) (Dt.str "high") != false)=false:=by cases o<;>decide +kernel
  refine⟨rfl,rfl,qAO n1 ?_⟩
  refine⟨rfl,rfl,qAO n2 ?_⟩
  refine qH9 (qp hx) (d:=.int y) rfl ?_
  cases o with
  | add =>
    k_dat 0"r2"
    k_dat 0"r2"
    k_dat 0"r2"
    k_dat 0"r2"
    exact⟨.add,x,y,rfl,.inl rfl,x0,x1,by decide,h⟩
  | sub =>
    k_dat 0"r2"
    k_dat 0"r2"
    k_dat 0"r2"
    k_dat 0"r2"
    exact⟨.sub,x,y,rfl,.inr (.inl rfl),x0,x1,by decide,h⟩
  | mul =>
    k_dat 0"r2"
    k_dat 0"r2"
    k_dat 0"r2"
    k_dat 0"r2"
    exact⟨.mul,x,y,rfl,.inr (.inr rfl),x0,x1,by decide,h⟩
  | over=>exact⟨rfl,rfl,qEc (by decide +kernel) h⟩
  | under =>
    k_dat 0"r2"
    exact⟨rfl,rfl,qEc (by decide +kernel) h⟩
  | wide =>
    k_dat 0"r2"
    k_dat 0"r2"
    exact⟨rfl,rfl,qEc (by decide +kernel) ⟨qGI x0 (by omega),h⟩⟩
  | rest =>
    k_dat 0"r2"
    k_dat 0"r2"
    k_dat 0"r2"
    refine⟨rfl,rfl,qEc (by decide +kernel) ?_⟩
    refine⟨rfl,rfl,?_⟩
    by_cases hy:y=0
    · subst hy
      exact h
    · have e:(eqD 8 (Dt.int y) (Dt.int 0) != true)=true:=by
        show ((y==0) != true)=true
        rw [beq_eq_false_iff_ne.mpr hy];rfl
      rw [e]
      refine⟨by omega,rfl,rfl,?_⟩
      have e2:(eqD 8 (Dt.int (x%y)) (Dt.int 0) != true)=(decide (y≠0)&&decide (x%y≠0)):=by
        rw [decide_eq_true hy,Bool.true_and]
        show ((x%y==0) != true)=_
        by_cases hr:x%y=0
        · rw [hr];rfl
        · rw [beq_eq_false_iff_ne.mpr hr,decide_eq_true hr];rfl
      rw [e2]
      exact h
theorem qHi {ds:List Dt} {st:Sto} {Pd:VD} (h:qDI ds st Pd):qFE (Ed Pd) (qW ["word", "named", "x", "y"] ds) st:=by
  obtain⟨w,n,rfl,h⟩:=h
  refine⟨by show 2≤sizeLine;decide,rfl,by decide,?_⟩
  rcases h with ⟨rfl,h⟩ | ⟨rfl,h⟩ | ⟨x,hx,h⟩ | ⟨o,x,y,rfl,hx,x0,x1,y0,y1,h⟩
  · exact qEc (by decide +kernel) ⟨rfl,rfl,h⟩
  · exact qEc (by decide +kernel) ⟨rfl,rfl,h⟩
  · refine qAO (by rcases h with ⟨rfl,_⟩ | ⟨rfl,_⟩<;>decide +kernel) ?_
    exact qNd (E:=Ed Pd) hx h
  · refine qAO (by cases o<;>decide +kernel) ?_
    exact qNs (E:=Ed Pd) hx x0 x1 y0 y1 h
end K20
namespace K20
open PySem PySem.Spec PyProof.Rows L2 L3 KH KS KW
end K20
namespace KW
theorem qHs {a:List Nd} {bx:List Int} {mk:List Bool} {br:List (Option Int)} {k:Nat} (h:k<a.length):(qd a bx mk br)[k]? = some (worth a[k] (qd (a.take k) bx mk br) bx mk br):=by
  have e:=qDR a (k+1) bx mk br
  rw [List.take_add_one,List.getElem?_eq_getElem h] at e
  have e:qd (a.take k++[a[k]]) bx mk br=(qd a bx mk br).take (k+1):=e
  rw [qA9] at e
  have q:((qd a bx mk br).take (k+1))[k]? = (qd a bx mk br)[k]?:=List.getElem?_take_of_lt (by omega)
  rw [← q,← e]
  have l:(qd (a.take k) bx mk br).length=k:=by rw [qAH];simp;omega
  rw [List.getElem?_append_right (by omega),l]
  simp
end KW
namespace K19
open PySem PySem.Spec PyProof.Rows L2 L3 KH
abbrev qIW:TSD:=(tseq (qV (qCT (qI (qE (qAe false) (qE qM (qC 0) (qD (Dt.int 0))) (qD (Dt.tup qJq)))) (qBD (qC 0) (qBK (qD (Dt.int 1))) qC4) (qAM qG))) qH)
theorem qM5:qJq.all (okD 0)=true:=by decide +kernel
theorem qNr (w:Str):(qJq.any (fun z=>eqD 0 z (.str w)) != false)=qEV.contains w:=by
  unfold qJq
  rw [List.any_map]
  have e:(qEV.any ((fun z=>eqD 0 z (.str w)) ∘ Dt.str))=qEV.any (fun s=>s==w):=rfl
  rw [e,qAX]
  rw [List.contains_eq_any_beq]
  congr 1
  funext s
  exact Bool.eq_iff_iff.mpr ⟨fun h=>by rw [eq_of_beq h];exact beq_self_eq_true _,fun h=>by rw [eq_of_beq h];exact beq_self_eq_true _⟩
theorem qQd (d:Dt) (ns:List Dt):L3.cutD (d::ns) (some 1) none=ns:=by
  unfold L3.cutD
  have e:HT.sIx (d::ns).length 0 (some 1)=1:=by simp [HT.sIx]
  rw [e,HT.qJs]
  simp
theorem qKa {ds:List Dt} {st:Sto} {Pd:VD} (h:qB9 ds st Pd):qIW (Ed Pd) (qW ["node"] ds) st:=by
  obtain⟨w,ns,rfl,h⟩:=h
  have a0:atI (Dt.str w::ns) 0=some (.str w):=by simp [atI,ixN]
  show (match atI (Dt.str w::ns) 0 with | some d=>_ | none=>_)
  rw [a0]
  refine⟨rfl,qM5,?_⟩
  unfold qBI at h
  rw [qNr w]
  cases hc:qEV.contains w with
  | true =>
    rw [hc,if_pos rfl] at h
    refine qAo ?_
    show Pd (.tup (L3.cutD (.str w::ns) (some 1) none)) st
    rw [qQd]
    exact h
  | false =>
    rw [hc,if_neg Bool.false_ne_true] at h
    refine qAt ⟨Nat.zero_le _,h⟩
end K19
namespace K20
open PySem PySem.Spec PyProof.Rows L2 L3 KH KS KW
end K20
namespace K20
open PySem PySem.Spec PyProof.Rows L2 L3 KH KS KW
end K20
namespace K18
open PySem L2 L3 KH KW K20
end K18
namespace KR
open PySem L2 L3 KH KW K20
inductive Rl | swap | group | ungroup | subnum | zero | one | nil | self | count | sure | never
noncomputable def rn:Rl→Str
  | .swap => "swap" | .group => "group" | .ungroup => "ungroup" | .subnum => "subnum" | .zero => "zero" | .one => "one" | .nil => "nil" | .self => "self" | .count => "count" | .sure => "sure" | .never => "never"
noncomputable def keys:List Str:=["swap", "group", "ungroup", "subnum", "zero", "one", "nil", "self", "count", "sure", "never"]
theorem qIH {z:Str} (h:z∈keys):∃ r,z=rn r:=by
  simp only [keys,List.mem_cons,List.not_mem_nil,or_false] at h
  rcases h with h | h | h | h | h | h | h | h | h | h | h
  · exact⟨.swap,h⟩
  · exact⟨.group,h⟩
  · exact⟨.ungroup,h⟩
  · exact⟨.subnum,h⟩
  · exact⟨.zero,h⟩
  · exact⟨.one,h⟩
  · exact⟨.nil,h⟩
  · exact⟨.self,h⟩
  · exact⟨.count,h⟩
  · exact⟨.sure,h⟩
  · exact⟨.never,h⟩
theorem qK2 (r:Rl):rn r∈keys:=by cases r<;>decide
theorem qN1 (r:Rl):(rn r).length≤10:=by cases r<;>decide
noncomputable def qJK:Nd→Option Int
  | .num k=>some k
  | _=>none
noncomputable def numAt (ns:List Nd) (i:Nat):Option Int:=match ns[i]? with
  | some x=>qJK x
  | none=>none
noncomputable def InT (m:Nat):Nd→Prop
  | .two _ x y=>x<m∧y<m
  | .nought x=>x<m
  | .high x=>x<m
  | _=>True
inductive Res | nd (x:Nd) | at_ (i:Nat)
noncomputable def qAu:Res→Dt
  | .nd x=>nD x
  | .at_ i=>.int (i:Nat)
noncomputable def orD:Option Res→Dt
  | none=>.non
  | some r=>qAu r
noncomputable def qHf:Op2→Bool
  | .add=>true | .mul=>true | _=>false
noncomputable def qQH:Op2→Bool
  | .add=>true | .mul=>true | .over=>true | .wide=>true | _=>false
noncomputable def qCB:Op2→Bool
  | .add=>true | .sub=>true | .mul=>true | _=>false
noncomputable def qES:Op2→List Int
  | .over=>[0] | .under=>[0] | .wide=>[0,1] | .rest=>[0,1] | _=>[]
noncomputable def yn (b:Bool):Nd:=if b then .yes else .no
open Classical in
noncomputable def qP (ns:List Nd) (n:Nat):Rl→Nd→Option Res
  | .swap,.two w x y=>if qQH w then some (.nd (.two w y x)) else none
  | .group,.two w x y=>(match ns[x]? with
    | some (.two v s t)=>if qHf w=true∧v=w∧ns[n]? = some (.two w t y) then some (.nd (.two w s n)) else none
    | _=>none)
  | .ungroup,.two w x y=>(match ns[y]? with
    | some (.two v s t)=>if qHf w=true∧v=w∧ns[n]? = some (.two w x s) then some (.nd (.two w n t)) else none
    | _=>none)
  | .subnum,.two .sub x y=>(match numAt ns y with
    | some k=>if numAt ns n=some ((0 - k)%65536) then some (.nd (.two .add x n)) else none
    | none=>none)
  | .zero,.two .add x y=>if numAt ns y=some 0 then some (.at_ x) else none
  | .one,.two .mul x y=>if numAt ns y=some 1 then some (.at_ x) else none
  | .nil,.two .mul x y=>if numAt ns y=some 0 then some (.at_ y) else none
  | .self,.two .sub x y=>if x=y then some (.nd (.num 0)) else none
  | .count,.two w x y=>if qCB w then (match numAt ns x,numAt ns y with
    | some a,some b=>(match two w a b with | .n v=>some (.nd (.num v)) | _=>none)
    | _,_=>none) else none
  | .sure,.two w x y=>if qCB w then none else (match numAt ns x,numAt ns y with
    | some a,some b=>(match two w a b with | .b v=>some (.nd (yn v)) | _=>none)
    | _,_=>none)
  | .sure,.nought x=>(match numAt ns x with
    | some a=>some (.nd (yn (decide (a=0))))
    | none=>none)
  | .sure,.high x=>(match numAt ns x with
    | some a=>some (.nd (yn (decide (32768≤a))))
    | none=>none)
  | .never,.two w x y=>if qCB w then none else if (∃ k∈qES w,numAt ns y=some k)∨(w = .under∧x=y) then some (.nd .no) else none
  | _,_=>none
def Nums (ns:List Nd):Prop:=∀ k,Nd.num k∈ns→0≤k∧k<65536
theorem qH0 {ns:List Nd} (h:Nums ns) {i:Nat} {k:Int} (e:numAt ns i=some k):0≤k∧k<65536:=by
  unfold numAt at e
  split at e
  · rename_i x ex
    cases x with
    | num a =>
      have:a=k:=Option.some.inj e
      subst this
      exact h a (List.mem_of_getElem? ex)
    | _=>cases e
  · cases e
def qz (st:Sto) (d:Dt) (ns:List Nd):Prop:=qc st d=some (ns.map nD)
def qDj:RDL:=fun ds st P=>∃ x:Dt,ds=[x]∧((∃ i,x = .int i∧P (.bl true) st)∨((∃ b,x = .bl b)∨x = .non∨(∃ s,x = .str s)∨∃ l,x = .tup l)∧P (.bl false) st)
def qBd:RDL:=fun ds st P=>∃ (i b:Int),ds=[.int i,.int b]∧P (.bl (decide (0≤i)&&decide (i<b))) st
def qCm:RDL:=fun ds st P=>∃ (l:List Dt) (b:Int),ds=[.tup l,.int b]∧P (.bl (decide ((l.length:Int)=b))) st
noncomputable def qI8:Str→Nat:=fun w=>if w = "yes" ∨ w = "no" then 0 else if w = "num" ∨ w = "box" ∨ w = "mark" ∨ w = "item" ∨ w = "nought" ∨ w = "high" then 1 else 2
noncomputable def cntK:List Str:=["num", "box", "mark", "item", "add", "sub", "mul", "nought", "high", "over", "under", "wide", "rest", "yes", "no"]
noncomputable def qJ8:List (Str×Dt):=[("num",.int 1),("box",.int 1),("mark",.int 1),("item",.int 1),("add",.int 2),("sub",.int 2),("mul",.int 2),("nought",.int 1),("high",.int 1),("over",.int 2),("under",.int 2),("wide",.int 2),("rest",.int 2),("yes",.int 0),("no",.int 0)]
noncomputable def qIv:List Str:=["over", "under", "wide", "rest"]
noncomputable def qJD:List (Str×Dt):=[("over",.tup [.int 0]),("under",.tup [.int 0]),("wide",.tup [.int 0,.int 1]),("rest",.tup [.int 0,.int 1])]
def Frm (w:Str) (xs:List Int):Prop:=w∈cntK∧xs.length=qI8 w
def qCW:RDL:=fun ds st P=>∃ (w:Str) (xs:List Int),ds=[.tup (.str w::xs.map .int)]∧Frm w xs∧P (.bl true) st
def qAD:RDL:=fun ds st P=>∃ (d:Dt) (ns:List Nd) (i:Nat) (x:Nd),ds=[d,.int (i:Nat)]∧qz st d ns∧ns[i]? = some x∧P (oD (qJK x)) st
def qCx:RDL:=fun ds st P=>∃ (d:Dt) (ns:List Nd) (sd:Nd),ds=[d,nD sd]∧qz st d ns∧Nums ns∧InT ns.length sd∧((∃ w x y,sd = .two w x y∧∀ st',qg st st'→P (match numAt ns x,numAt ns y with | some a,some b=>vD (two w a b) | _,_=>.non) st') ∨
  (∃ x,sd = .nought x∧∀ st',qg st st'→P (match numAt ns x with | some a=>.bl (decide (a=0)) | _=>.non) st')∨∃ x,sd = .high x∧∀ st',qg st st'→P (match numAt ns x with | some a=>.bl (decide (32768≤a)) | _=>.non) st')
def spR (r:Rl):RDL:=fun ds st P=>∃ (d:Dt) (ns:List Nd) (sd:Nd) (n:Nat),ds=[d,nD sd,.int (n:Nat)]∧qz st d ns∧Nums ns∧InT ns.length sd∧n<ns.length∧∀ st',qg st st'→P (orD (qP ns n r sd)) st'
def qFi (z:Str):RDL:=fun ds st P=>∃ r,z=rn r∧spR r ds st P
noncomputable def inR (m:Nat) (w:Str) (xs:List Int):Bool:=(if K19.qEV.contains w=true then xs else []).all fun x=>decide (0≤x)&&decide (x<(m:Int))
def qCl:RDL:=fun ds st P=>∃ (d:Dt) (ns:List Dt) (w:Str) (xs:List Int),ds=[d,.tup (.str w::xs.map .int)]∧qc st d=some ns∧Frm w xs∧∀ st',qg st st'→P (.bl (inR ns.length w xs)) st'
def qCV:RDL:=fun ds st P=>∃ (d:Dt) (ns:List Nd) (w:Str) (xs:List Int) (rule:Str) (n:Int),ds=[d,.tup (.str w::xs.map .int),.tup [.str rule,.int n]]∧qz st d ns∧Nums ns∧Frm w xs ∧
  ((inR ns.length w xs=false∨rule ∉ keys∨n<0∨(ns.length:Int)≤n)→∀ st',qg st st'→P (.ty "NoTurning") st') ∧
  (inR ns.length w xs=true→∀ (r:Rl) (m:Nat),rule=rn r→n=(m:Int)→m<ns.length→∃ sd,Dt.tup (.str w::xs.map .int)=nD sd∧InT ns.length sd∧∀ st',qg st st'→P (match qP ns m r sd with | none=>.ty "NoTurning" | some x=>qAu x) st')
end KR
namespace KR
open PySem PySem.Spec PyProof.Rows L2 L3 KH KS KW K20
abbrev qET:TSD:=(tseq (qV (qBt (qJ qAU (qA (qC 0) (qA (qD (Dt.ty "int")) qG))) (qMX (qJ qAU (qA (qC 0) (qA (qD (Dt.ty "bool")) qG)))))) qH)
abbrev qD2:TSD:=(tseq (qV (qBt (qJ KR.qDj (qA (qC 0) qG)) (qB2 (fun i j=>decide (i≤j)) (fun i j=>decide (i<j)) (qD (Dt.int 0)) (qC 0) (qC 1)))) qH)
abbrev qCD:TSD:=(tseq (qV (qBt (qJ qAU (qA (qC 0) (qA (qD (Dt.ty "tuple")) qG))) (qE (qU false) (qJ qAd (qA (qC 0) qG)) (qC 1)))) qH)
abbrev qEw:TSD:=(tseq (qV (qBt (qJ qAU (qA (qC 0) (qA (qD (Dt.ty "tuple")) qG))) (qBt (qE (qAN fun i j=>decide (j<i)) (qJ qAd (qA (qC 0) qG)) (qD (Dt.int 0))) (qBt (qBM false KR.cntK (qE qM (qC 0) (qD (Dt.int 0)))) (qE (qU false) (qJ qAd (qA (qC 0) qG)) (qE L3.qBW (qD (Dt.int 1)) (qCh KR.qJ8 (qE qM (qC 0) (qD (Dt.int 0)))))))))) qH)
abbrev qGt:TSD:=(tseq (qb (qE qM (qC 0) (qC 1)) (qO 2)) (tseq (qV (qCT (qI (qE (qU false) (qE qM (qC 2) (qD (Dt.int 0))) (qD (Dt.str "num")))) (qE qM (qC 2) (qD (Dt.int 1))) (qD Dt.non))) qH))
abbrev qAf:TSD:=(tseq (qb (qB4 (qDU (qJ K19.qB9 (qA (qC 1) qG))) (fun x st P=>P true st) (qJ KR.qAD (qA (qC 1) (qA (qC 0) qG))) [(0, "nodes")]) (qO 2)) (tseq (qV (qCT (qI (qE (qAe false) (qD Dt.non) (qC 2))) (qD Dt.non) (qJ K20.qDI (qA (qE qM (qC 1) (qD (Dt.int 0))) (qA (qC 2) qG))))) qH))
abbrev qHZ:TSD:=(tseq (qV (qCT (qI (qE (qAe false) (qE qM (qC 1) (qD (Dt.int 0))) (qAM (qA (qD (Dt.str "add")) (qA (qD (Dt.str "mul")) (qA (qD (Dt.str "over")) (qA (qD (Dt.str "wide")) qG))))))) (qAM (qA (qE qM (qC 1) (qD (Dt.int 0))) (qA (qE qM (qC 1) (qD (Dt.int 2))) (qA (qE qM (qC 1) (qD (Dt.int 1))) qG)))) (qD Dt.non))) qH)
abbrev g1:TSD:=(tseq (qi (qI (qE (qAe true) (qC 3) (qAM (qA (qD (Dt.str "add")) (qA (qD (Dt.str "mul")) qG))))) (tseq (qV (qD Dt.non)) qH) qH) (tseq (qb (qE qM (qC 0) (qE qM (qC 1) (qD (Dt.int 1)))) (qO 4)) (tseq (qi (qBv (qI (qE (qU true) (qE qM (qC 4) (qD (Dt.int 0))) (qC 3))) (qI (qE (qU true) (qE qM (qC 0) (qC 2)) (qAM (qA (qC 3) (qA (qE qM (qC 4) (qD (Dt.int 2))) (qA (qE qM (qC 1) (qD (Dt.int 2))) qG))))))) (tseq (qV (qD Dt.non)) qH) qH) (tseq (qV (qAM (qA (qC 3) (qA (qE qM (qC 4) (qD (Dt.int 1))) (qA (qC 2) qG))))) qH))))
abbrev qH5:TSD:=(tseq (qb (qE qM (qC 1) (qD (Dt.int 0))) (qO 3)) g1)
abbrev u1:TSD:=(tseq (qi (qI (qE (qAe true) (qC 3) (qAM (qA (qD (Dt.str "add")) (qA (qD (Dt.str "mul")) qG))))) (tseq (qV (qD Dt.non)) qH) qH) (tseq (qb (qE qM (qC 0) (qE qM (qC 1) (qD (Dt.int 2)))) (qO 4)) (tseq (qi (qBv (qI (qE (qU true) (qE qM (qC 4) (qD (Dt.int 0))) (qC 3))) (qI (qE (qU true) (qE qM (qC 0) (qC 2)) (qAM (qA (qC 3) (qA (qE qM (qC 1) (qD (Dt.int 1))) (qA (qE qM (qC 4) (qD (Dt.int 1))) qG))))))) (tseq (qV (qD Dt.non)) qH) qH) (tseq (qV (qAM (qA (qC 3) (qA (qC 2) (qA (qE qM (qC 4) (qD (Dt.int 2))) qG))))) qH))))
abbrev qE6:TSD:=(tseq (qb (qE qM (qC 1) (qD (Dt.int 0))) (qO 3)) u1)
abbrev qGs:TSD:=(tseq (qi (qI (qE (qU true) (qE qM (qC 1) (qD (Dt.int 0))) (qD (Dt.str "sub")))) (tseq (qV (qD Dt.non)) qH) qH) (tseq (qb (qJ KR.qAD (qA (qC 0) (qA (qE qM (qC 1) (qD (Dt.int 2))) qG))) (qO 3)) (tseq (qi (qBv (qI (qE (qC5 false) (qC 3) (qD Dt.non))) (qI (qE (qU true) (qJ KR.qAD (qA (qC 0) (qA (qC 2) qG))) (qE qAF (qE L3.qGm (qD (Dt.int 0)) (qC 3)) (qD (Dt.int 65536)))))) (tseq (qV (qD Dt.non)) qH) qH) (tseq (qV (qAM (qA (qD (Dt.str "add")) (qA (qE qM (qC 1) (qD (Dt.int 1))) (qA (qC 2) qG))))) qH))))
abbrev qKE:TSD:=(tseq (qV (qCT (qAr (qI (qE (qU false) (qE qM (qC 1) (qD (Dt.int 0))) (qD (Dt.str "add")))) (qI (qE (qU false) (qJ KR.qAD (qA (qC 0) (qA (qE qM (qC 1) (qD (Dt.int 2))) qG))) (qD (Dt.int 0))))) (qE qM (qC 1) (qD (Dt.int 1))) (qD Dt.non))) qH)
abbrev qMR:TSD:=(tseq (qV (qCT (qAr (qI (qE (qU false) (qE qM (qC 1) (qD (Dt.int 0))) (qD (Dt.str "mul")))) (qI (qE (qU false) (qJ KR.qAD (qA (qC 0) (qA (qE qM (qC 1) (qD (Dt.int 2))) qG))) (qD (Dt.int 1))))) (qE qM (qC 1) (qD (Dt.int 1))) (qD Dt.non))) qH)
abbrev qMK:TSD:=(tseq (qV (qCT (qAr (qI (qE (qU false) (qE qM (qC 1) (qD (Dt.int 0))) (qD (Dt.str "mul")))) (qI (qE (qU false) (qJ KR.qAD (qA (qC 0) (qA (qE qM (qC 1) (qD (Dt.int 2))) qG))) (qD (Dt.int 0))))) (qE qM (qC 1) (qD (Dt.int 2))) (qD Dt.non))) qH)
abbrev qCH:TSD:=(tseq (qV (qCT (qAr (qI (qE (qU false) (qE qM (qC 1) (qD (Dt.int 0))) (qD (Dt.str "sub")))) (qI (qE (qU false) (qE qM (qC 1) (qD (Dt.int 1))) (qE qM (qC 1) (qD (Dt.int 2)))))) (qAM (qA (qD (Dt.str "num")) (qA (qD (Dt.int 0)) qG))) (qD Dt.non))) qH)
abbrev c1:TSD:=(tseq (qb (qJ KR.qCx (qA (qC 0) (qA (qC 1) qG))) (qO 3)) (tseq (qV (qCT (qI (qE (qC5 false) (qC 3) (qD Dt.non))) (qD Dt.non) (qAM (qA (qD (Dt.str "num")) (qA (qC 3) qG))))) qH))
abbrev qIC:TSD:=(tseq (qi (qI (qE (qAe true) (qE qM (qC 1) (qD (Dt.int 0))) (qAM (qA (qD (Dt.str "add")) (qA (qD (Dt.str "sub")) (qA (qD (Dt.str "mul")) qG)))))) (tseq (qV (qD Dt.non)) qH) qH) c1)
abbrev qG3:TSD:=(tseq (qi (qI (qE (qC5 false) (qC 3) (qD Dt.non))) (tseq (qV (qD Dt.non)) qH) qH) (tseq (qV (qCT (qI (qC 3)) (qAM (qA (qD (Dt.str "yes")) qG)) (qAM (qA (qD (Dt.str "no")) qG)))) qH))
abbrev s1:TSD:=(tseq (qb (qJ KR.qCx (qA (qC 0) (qA (qC 1) qG))) (qO 3)) qG3)
abbrev qJb:TSD:=(tseq (qi (qI (qE (qAe true) (qE qM (qC 1) (qD (Dt.int 0))) (qAM (qA (qD (Dt.str "nought")) (qA (qD (Dt.str "high")) (qA (qD (Dt.str "over")) (qA (qD (Dt.str "under")) (qA (qD (Dt.str "wide")) (qA (qD (Dt.str "rest")) qG))))))))) (tseq (qV (qD Dt.non)) qH) qH) s1)
abbrev v1:TSD:=(tseq (qi (qI (qBM true KR.qIv (qC 3))) (tseq (qV (qD Dt.non)) qH) qH) (tseq (qi (qBv (qI (qE (qAe false) (qJ KR.qAD (qA (qC 0) (qA (qE qM (qC 1) (qD (Dt.int 2))) qG))) (qCh KR.qJD (qC 3)))) (qAr (qI (qE (qU false) (qC 3) (qD (Dt.str "under")))) (qI (qE (qU false) (qE qM (qC 1) (qD (Dt.int 1))) (qE qM (qC 1) (qD (Dt.int 2))))))) (tseq (qV (qAM (qA (qD (Dt.str "no")) qG))) qH) qH) (tseq (qV (qD Dt.non)) qH)))
abbrev qH2:TSD:=(tseq (qb (qE qM (qC 1) (qD (Dt.int 0))) (qO 3)) v1)
abbrev qFF:TSD:=(tseq (qV (qBt (qJ KR.qCW (qA (qC 1) qG)) (qJ qKs (qA (qB4 (qDU (qJ K19.qB9 (qA (qC 1) qG))) (fun x st P=>P true st) (qJ KR.qBd (qA (qC 0) (qA (qJ qAd (qA (qC 1) qG)) qG))) [(0, "nodes")]) qG)))) qH)
abbrev tC:TSD:=(tseq (qi (qI (qE (qC5 false) (qC 4) (qD Dt.non))) (tseq (qEM "NoTurning" (qA (qMb (Str.ofString "the rule ") (qC 3) (Str.ofString " does not turn this node")) qG)) qH) qH) (tseq (qJ4 (qC 4)) qH))
abbrev tB:TSD:=(tseq (qb (qE qM (qC 2) (qD (Dt.int 0))) (qO 3)) (tseq (qb (qH3 KR.qFi KR.keys (qC 3) (qA (qC 0) (qA (qC 1) (qA (qE qM (qC 2) (qD (Dt.int 1))) qG)))) (qO 4)) tC))
abbrev tA:TSD:=(tseq (qi (qBv (qCJ (qI (qJ KR.qCm (qA (qC 2) (qA (qD (Dt.int 2)) qG))))) (qBv (qI (qBM true KR.keys (qE qM (qC 2) (qD (Dt.int 0))))) (qCJ (qI (qJ KR.qBd (qA (qE qM (qC 2) (qD (Dt.int 1))) (qA (qJ qAd (qA (qC 0) qG)) qG))))))) (tseq (qEM "NoTurning" (qA (qD (Dt.str "no step of a known rule and a node of the table")) qG)) qH) qH) tB)
abbrev qGU:TSD:=(tseq (qi (qCJ (qI (qJ KR.qCl (qA (qC 0) (qA (qC 1) qG))))) (tseq (qEM "NoTurning" (qA (qD (Dt.str "no node of the table is seen")) qG)) qH) qH) tA)
abbrev Ev (te:TD) (ρ:Rho) (st:Sto) (d:Dt):Prop:=∀ P:VD,P d st→te ρ st P
abbrev EvB (c:TBD) (ρ:Rho) (st:Sto) (b:Bool):Prop:=∀ P:Bool→Sto→Prop,P b st→c ρ st P
section
variable {E:qAq} {ρ:Rho} {st st':Sto} {A C N:TSD} {te ta tb:TD} {c c1 c2:TBD} {b b1 b2:Bool} {i j:Nat} {d:Dt}
theorem qB (h:ρ[i]? = some (some d)):Ev (qC i) ρ st d:=fun P hp=>by unfold qC;rw [h];exact hp
theorem qK:Ev (qD d) ρ st d:=fun P hp=>hp
theorem qQ {xs:List Dt} (h:Ev te ρ st (.tup xs)) (e:xs[j]? = some d):Ev (qE qM te (qD (.int (j:Int)))) ρ st d:=fun P hp=>h _ (by
  show (match atI xs (j:Int) with | some d=>P d st | none=>False)
  rw [qB8 e];exact hp)
theorem seq1 (h:A { E with nx:=N E } ρ st):tseq A N E ρ st:=h
theorem qh {te:TD} {i:Nat} (h:te ρ st fun d s1=>N E (ρ.set i (some d)) s1):tseq (qb te (qO i)) N E ρ st:=h
theorem ifS (h1:EvB c ρ st b) (qt:b=true→A E ρ st) (qf:b=false→C E ρ st):qi c A C E ρ st:=by
  refine h1 _ ?_
  cases b with
  | true=>exact qAo (qt rfl)
  | false=>exact qAt (qf rfl)
theorem qS (h1:EvB c ρ st b) (qt:b=true→A { E with nx:=N E } ρ st) (qf:b=false→N E ρ st):tseq (qi c A qH) N E ρ st:=seq1 (ifS h1 qt qf)
theorem evb (h:Ev te ρ st (.bl b)):EvB (qI te) ρ st b:=fun P hp=>h _ hp
theorem qCY (h:EvB c ρ st b):EvB (qCJ c) ρ st (!b):=fun P hp=>h _ hp
theorem qm (h1:EvB c1 ρ st b1) (h2:b1=false→EvB c2 ρ st b2):EvB (qBv c1 c2) ρ st (b1 || b2):=fun P hp=>h1 _ (by
  cases b1 with
  | true=>exact qAo hp
  | false=>exact qAt (h2 rfl P hp))
theorem qq (h1:EvB c1 ρ st b1) (h2:b1=true→EvB c2 ρ st b2):EvB (qAr c1 c2) ρ st (b1&&b2):=fun P hp=>h1 _ (by
  cases b1 with
  | true=>exact qAo (h2 rfl P hp)
  | false=>exact qAt hp)
theorem qAn (h1:Ev ta ρ st (.bl b1)) (h2:b1=true→Ev tb ρ st (.bl b2)):Ev (qBt ta tb) ρ st (.bl (b1&&b2)):=fun P hp=>h1 _ (by
  cases b1 with
  | true=>exact qAo (h2 rfl P hp)
  | false=>exact qAt hp)
theorem qCK {d1 d2:Dt} (h:EvB c ρ st b) (q1:b=true→Ev ta ρ st d1) (q2:b=false→Ev tb ρ st d2):Ev (qCT c ta tb) ρ st (if b=true then d1 else d2):=fun P hp=>h _ (by
  cases b with
  | true=>exact qAo (q1 rfl P hp)
  | false=>exact qAt (q2 rfl P hp))
theorem qo {a s:Str} (h:Ev te ρ st (.str a)):Ev (qE (qU false) te (qD (.str s))) ρ st (.bl (a==s)):=fun P hp=>h _ ⟨rfl,rfl,by
  have e:(eqD 8 (.str a) (.str s) != false)=(a==s):=by show ((a==s) != false)=_;rw [Bool.bne_false]
  rw [e];exact hp⟩
theorem qJn {a s:Str} (h:Ev te ρ st (.str a)):Ev (qE (qU true) te (qD (.str s))) ρ st (.bl (!(a==s))):=fun P hp=>h _ ⟨rfl,rfl,by
  k_dat 0"r50"
  rw [e];exact hp⟩
theorem qDc {a s:Str} (h:Ev ta ρ st (.str a)) (h2:Ev tb ρ st (.str s)):Ev (qE (qU true) ta tb) ρ st (.bl (!(a==s))):=fun P hp=>h _ (h2 _ ⟨rfl,rfl,by
  k_dat 0"r50"
  rw [e];exact hp⟩)
theorem qAA {x y:Int} (h:Ev ta ρ st (.int x)) (h2:Ev tb ρ st (.int y)):Ev (qE (qU false) ta tb) ρ st (.bl (decide (x=y))):=fun P hp=>h _ (h2 _ ⟨rfl,rfl,by
  have e:(eqD 8 (.int x) (.int y) != false)=decide (x=y):=by show ((x==y) != false)=_;rw [Bool.bne_false];rfl
  rw [e];exact hp⟩)
theorem qAL {w:Str}:∀ ss:List Str,(ss.map Dt.str).any (fun z=>eqD 0 z (.str w))=ss.contains w
  | []=>rfl
  | s :: r=>by
    rw [List.map_cons,List.any_cons,qAL r,List.contains_cons]
    show (s==w || _)=_
    have:(s==w)=(w==s):=by
      by_cases q:s=w
      · subst q;rfl
      · rw [beq_eq_false_iff_ne.mpr q,beq_eq_false_iff_ne.mpr (Ne.symm q)]
    rw [this]
theorem qAg (ss:List Str):(ss.map Dt.str).all (okD 0)=true:=by
  rw [List.all_eq_true]
  intro d hd
  obtain⟨s,_,rfl⟩:=List.mem_map.mp hd
  rfl
theorem qAk {neg:Bool} {w:Str} {ss:List Str} (h:Ev ta ρ st (.str w)) (h2:Ev tb ρ st (.tup (ss.map .str))):Ev (qE (qAe neg) ta tb) ρ st (.bl (ss.contains w != neg)):=fun P hp=>h _ (h2 _ (by
  refine⟨rfl,qAg ss,?_⟩
  rw [qAL];exact hp))
theorem qAK {sp:RDL} {t:TAD} {ds:List Dt} (h:∀ P:List Dt→Sto→Prop,P ds st→t ρ st P) (hs:∀ P:VD,P d st→sp ds st P):Ev (qJ sp t) ρ st d:=fun P hp=>h _ (hs P hp)
theorem qN:∀ P:List Dt→Sto→Prop,P [] st→qG ρ st P:=fun P hp=>hp
theorem qF {t:TAD} {ds:List Dt} (h:Ev te ρ st d) (h2:∀ P:List Dt→Sto→Prop,P ds st→t ρ st P):∀ P:List Dt→Sto→Prop,P (d::ds) st→qA te t ρ st P:=fun P hp=>h _ (h2 _ hp)
theorem qY {t:TAD} {ds:List Dt} (h:∀ P:List Dt→Sto→Prop,P ds st→t ρ st P) (hl:ds.length≤sizeLine):Ev (qAM t) ρ st (.tup ds):=fun P hp=>h _ ⟨hl,hp⟩
theorem qKM {l:List Dt} (h:Ev te ρ st (.tup l)):Ev (qJ qAU (qA te (qA (qD (Dt.ty "tuple")) qG))) ρ st (.bl true):=fun P hp=>h _ ⟨by decide,hp⟩
theorem qAp {l:List Dt} (h:Ev te ρ st (.tup l)):Ev (qJ qAd (qA te qG)) ρ st (.int (l.length:Int)):=fun P hp=>h _ hp
theorem rdR (h:Ev te ρ st d) (hp:E.rt d st):tseq (qV te) N E ρ st:=h _ hp
theorem rdX (h:Ev te ρ st d) (hx:isX d=none) (hp:E.rt d st):tseq (qJ4 te) N E ρ st:=h _ ⟨hx,hp⟩
theorem qAY {x y:Int} (h:Ev ta ρ st (.int x)) (h2:Ev tb ρ st (.int y)):Ev (qE (qAN fun i j=>decide (j<i)) ta tb) ρ st (.bl (decide (y<x))):=fun P hp=>h _ (h2 _ hp)
theorem qAb {x y:Int} (h:Ev ta ρ st (.int x)) (h2:Ev tb ρ st (.int y)):Ev (qE L3.qBW ta tb) ρ st (.int (x+y)):=fun P hp=>h _ (h2 _ hp)
theorem qMA {x y:Int} (h:Ev ta ρ st (.int x)) (h2:Ev tb ρ st (.int y)):Ev (qE L3.qGm ta tb) ρ st (.int (x - y)):=fun P hp=>h _ (h2 _ hp)
theorem qDd {neg:Bool} {keys:List Str} {w:Str} (h:Ev te ρ st (.str w)):Ev (qBM neg keys te) ρ st (.bl (keys.contains w != neg)):=fun P hp=>h _ ⟨w,rfl,hp⟩
theorem qIR {kvs:List (Str×Dt)} {w:Str} (h:Ev te ρ st (.str w)) (e:kvs.lookup w=some d):Ev (qCh kvs te) ρ st d:=fun P hp=>h _ ⟨w,d,rfl,e,hp⟩
theorem qAI {l:List Dt} (h:Ev te ρ st d) (hs:qc st d=some l):Ev (qJ qAd (qA te qG)) ρ st (.int (l.length:Int)):=fun P hp=>h _ (by
  cases d with
  | tup xs=>have:xs=l:=Option.some.inj hs;subst this;exact hp
  | lst n=>show (match qc st (.lst n) with | some xs=>_ | none=>_);rw [hs];exact hp
  | _=>cases hs)
theorem ql {l:List Dt} {d2:Dt} (h:Ev ta ρ st d) (hs:qc st d=some l) (h2:Ev tb ρ st (.int (i:Int))) (e:l[i]? = some d2):Ev (qE qM ta tb) ρ st d2:=fun P hp=>h _ (h2 _ (by
  cases d with
  | tup xs =>
    have:xs=l:=Option.some.inj hs
    subst this
    show (match atI xs (i:Int) with | some d=>P d st | none=>False)
    rw [qB8 e];exact hp
  | lst n=>exact qH9 hs (qB8 e) hp
  | _=>cases hs))
end
theorem qz.at_ {st:Sto} {d:Dt} {ns:List Nd} {i:Nat} {x:Nd} (h:qz st d ns) (e:ns[i]? = some x):(ns.map nD)[i]? = some (nD x):=by rw [List.getElem?_map,e];rfl
theorem qz.ext {st st':Sto} {d:Dt} {ns:List Nd} (h:qz st d ns) (x:qg st st'):qz st' d ns:=by
  unfold qz at h ⊢
  cases d with
  | lst n =>
    have h':(st[n]?).map SO.items=some (ns.map nD):=h
    cases q:st[n]? with
    | none=>rw [q] at h';cases h'
    | some o =>
      rw [q] at h'
      show (st'[n]?).map SO.items=_
      rw [x n o q];exact h'
  | _=>exact h
theorem qG5 {ds:List Dt} {st:Sto} {Pd:VD} (h:qDj ds st Pd):qET (Ed Pd) (qW ["value"] ds) st:=by
  obtain⟨x,rfl,h⟩:=h
  rcases h with ⟨i,rfl,h⟩ | ⟨h1,h⟩
  · exact⟨by decide,qAo ⟨by decide,h⟩⟩
  · rcases h1 with ⟨b,rfl⟩ | rfl | ⟨s,rfl⟩ | ⟨l,rfl⟩
    · exact⟨by decide,qAo ⟨by decide,h⟩⟩
    · exact⟨by decide,qAt h⟩
    · exact⟨by decide,qAt h⟩
    · exact⟨by decide,qAt h⟩
theorem qGq {ds:List Dt} {st:Sto} {Pd:VD} (h:qBd ds st Pd):qD2 (Ed Pd) (qW ["value", "bound"] ds) st:=by
  obtain⟨i,b,rfl,h⟩:=h
  refine⟨_,rfl,.inl ⟨i,rfl,qAo ?_⟩⟩
  show if decide (0≤i)=true then Pd (.bl (decide (i<b))) st else Pd (.bl false) st
  cases e:decide (0≤i) with
  | true=>rw [e] at h;exact qAo h
  | false=>rw [e] at h;exact qAt h
theorem qDn {ds:List Dt} {st:Sto} {Pd:VD} (h:qCm ds st Pd):qCD (Ed Pd) (qW ["value", "many"] ds) st:=by
  obtain⟨l,b,rfl,h⟩:=h
  refine rdR (d:=.bl (true&&decide ((l.length:Int)=b))) ?_ (by rw [Bool.true_and];exact h)
  refine qAn (qKM (qB (i:=0) rfl)) fun _=>?_
  exact qAA (qAp (qB (i:=0) rfl)) (qB (i:=1) rfl)
theorem qHa {ds:List Dt} {st:Sto} {Pd:VD} (h:qCW ds st Pd):qEw (Ed Pd) (qW ["node"] ds) st:=by
  obtain⟨w,xs,rfl,⟨hw,hl⟩,h⟩:=h
  have hv:qJ8.lookup w=some (.int (qI8 w:Int)):=by
    simp only [cntK,List.mem_cons,List.not_mem_nil,or_false] at hw
    rcases hw with rfl | rfl | rfl | rfl | rfl | rfl | rfl | rfl | rfl | rfl | rfl | rfl | rfl | rfl | rfl<;>rfl
  refine rdR (d:=.bl (true&&(decide ((0:Int)<((Dt.str w::xs.map Dt.int).length:Nat))&&((cntK.contains w != false)&&decide ((((Dt.str w::xs.map Dt.int).length:Nat):Int)=1+(qI8 w:Int)))))) ?_ ?_
  · refine qAn (qKM (qB (i:=0) rfl)) fun _=>?_
    refine qAn (qAY (qAp (qB (i:=0) rfl)) qK) fun _=>?_
    refine qAn (qDd (qQ (j:=0) (qB (i:=0) rfl) rfl)) fun _=>?_
    exact qAA (qAp (qB (i:=0) rfl)) (qAb qK (qIR (qQ (j:=0) (qB (i:=0) rfl) rfl) hv))
  · have e1:decide ((0:Int)<((Dt.str w::xs.map Dt.int).length:Nat))=true:=decide_eq_true (by rw [List.length_cons];omega)
    have e2:decide ((((Dt.str w::xs.map Dt.int).length:Nat):Int)=1+(qI8 w:Int))=true:=decide_eq_true (by rw [List.length_cons,List.length_map,hl];omega)
    rw [e1,e2,show cntK.contains w=true from List.contains_iff_mem.mpr hw]
    exact h
end KR
namespace KR
open PySem PySem.Spec PyProof.Rows L2 L3 KH KS KW K20
noncomputable def wd:Nd→Str
  | .num _ => "num" | .box _ => "box" | .mark _ => "mark" | .item _ => "item" | .two w _ _=>nm w | .nought _ => "nought" | .high _ => "high" | .yes => "yes" | .no => "no"
noncomputable def ag:Nd→List Dt
  | .num n=>[.int n] | .box k=>[.int k] | .mark k=>[.int k] | .item i=>[.int i] | .two _ x y=>[.int x,.int y] | .nought x=>[.int x] | .high x=>[.int x] | .yes=>[] | .no=>[]
theorem qAB (x:Nd):nD x = .tup (.str (wd x)::ag x):=by cases x<;>rfl
theorem qKt (x:Nd):(wd x == "num")=(qJK x).isSome:=by
  cases x with
  | two w _ _=>cases w<;>rfl
  | _=>rfl
theorem qIf {ds:List Dt} {st:Sto} {Pd:VD} (h:qAD ds st Pd):qGt (Ed Pd) (qW ["nodes", "number", "node"] ds) st:=by
  obtain⟨d,ns,i,x,rfl,hs,hx,hP⟩:=h
  refine qh (ql (qB (i:=0) rfl) hs (qB (i:=1) rfl) (hs.at_ hx) _ ?_)
  show tseq (qV _) qH (Ed Pd) [some d,some (.int (i:Nat)),some (nD x)] st
  have h0:Ev (qE qM (qC 2) (qD (Dt.int 0))) [some d,some (.int (i:Nat)),some (nD x)] st (.str (wd x)):=qQ (j:=0) (qB (i:=2) (by rw [qAB];rfl)) rfl
  refine rdR (d:=oD (qJK x)) ?_ hP
  intro P hp
  refine qCK (b:=wd x == "num") (d1:=oD (qJK x)) (d2:=.non) (evb (qo h0)) (fun e=>?_) (fun _=>qK) P ?_
  · rw [qKt] at e
    cases x with
    | num k=>exact qQ (j:=1) (qB (i:=2) rfl) rfl
    | _=>cases e
  · rw [qKt]
    cases x<;>exact hp
theorem qJj {ns:List Nd} {i:Nat} (h:i<ns.length):∃ x,ns[i]? = some x∧numAt ns i=qJK x:=⟨ns[i],List.getElem?_eq_getElem h,by unfold numAt;rw [List.getElem?_eq_getElem h]⟩
theorem qCP {ρ:Rho} {st:Sto} {d:Dt} {ns:List Nd} {i:Nat} {ta tb:TD} (hs:qz st d ns) (hi:i<ns.length) (ha:Ev ta ρ st d) (hb:Ev tb ρ st (.int (i:Int))):Ev (qJ KR.qAD (qA ta (qA tb qG))) ρ st (oD (numAt ns i)):=by
  obtain⟨x,e1,e2⟩:=qJj hi
  refine qAK (qF ha (qF hb qN)) fun P hp=>⟨d,ns,i,x,rfl,hs,e1,?_⟩
  rw [e2] at hp;exact hp
theorem qCb {ρ:Rho} {st:Sto} {te:TD} {o:Option Int} (h:Ev te ρ st (oD o)):Ev (qE (qC5 false) te (qD Dt.non)) ρ st (.bl o.isNone):=fun P hp=>h _ (by cases o<;>exact hp)
theorem qG7 {ρ:Rho} {st:Sto} {te:TD} {o:Option Int} {k:Int} (h:Ev te ρ st (oD o)):Ev (qE (qU false) te (qD (Dt.int k))) ρ st (.bl (decide (o=some k))):=fun P hp=>h _ (by
  cases o with
  | none=>exact⟨rfl,rfl,hp⟩
  | some a =>
    refine⟨rfl,rfl,?_⟩
    have e:(eqD 8 (.int a) (.int k) != false)=decide (some a=some k):=by
      rw [Bool.bne_false]
      show (a==k)=_
      by_cases q:a=k
      · subst q;simp
      · rw [beq_eq_false_iff_ne.mpr q,decide_eq_false (fun z=>q (Option.some.inj z))]
    show P (.bl (eqD 8 (.int a) (.int k) != false)) st
    rw [e];exact hp)
theorem qNe {ρ:Rho} {st:Sto} {ta tb:TD} {o:Option Int} {k:Int} (h:Ev ta ρ st (oD o)) (h2:Ev tb ρ st (.int k)):Ev (qE (qU true) ta tb) ρ st (.bl (!decide (o=some k))):=fun P hp=>h _ (h2 _ (by
  cases o with
  | none=>exact⟨rfl,rfl,hp⟩
  | some a =>
    refine⟨rfl,rfl,?_⟩
    have e:(eqD 8 (.int a) (.int k) != true) = !decide (some a=some k):=by
      rw [Bool.bne_true]
      show (!(a==k))=_
      by_cases q:a=k
      · subst q;simp
      · rw [beq_eq_false_iff_ne.mpr q,decide_eq_false (fun z=>q (Option.some.inj z))]
    show P (.bl (eqD 8 (.int a) (.int k) != true)) st
    rw [e];exact hp))
section
variable {st:Sto} {Pd:VD} {d:Dt} {ns:List Nd} {sd:Nd} {n:Nat}
theorem qLV {w:Str} {l:List Dt} {o:Option Dt} (hc:(["add", "mul", "over", "wide"]:List Str).contains w=false) (hp:Pd .non st):qHZ (Ed Pd) [some d,some (.tup (.str w::l)),o] st:=by
  refine rdR (d:=if ((["add", "mul", "over", "wide"]:List Str).contains w != false)=true then .non else .non) ?_ (by rw [hc];exact hp)
  k_dat 0"r51"
  rw [hc] at e;cases e
theorem qMH {ds:List Dt} (h:spR .swap ds st Pd):qHZ (Ed Pd) (qW ["nodes", "seen", "n"] ds) st:=by
  k_dat 0"r9"
  k_dat 0"r12"
  cases sd with
  | two w x y =>
    refine rdR (d:=if ((["add", "mul", "over", "wide"]:List Str).contains (nm w) != false)=true then .tup [.str (nm w),.int y,.int x] else .non) ?_ ?_
    · k_dat 0"r51"
      exact qY (qF (qQ (j:=0) (qB (i:=1) rfl) rfl) (qF (qQ (j:=2) (qB (i:=1) rfl) rfl) (qF (qQ (j:=1) (qB (i:=1) rfl) rfl) qN))) (by show 3≤sizeLine;decide)
    · cases w<;>exact hP
  | _=>exact qLV (by decide +kernel) hP
theorem qB0 {w s:Str} {l:List Dt} {o:Option Dt} {c2:TBD} {ta:TD} (hc:(w==s)=false) (hp:Pd .non st):tseq (qV (qCT (qAr (qI (qE (qU false) (qE qM (qC 1) (qD (Dt.int 0))) (qD (Dt.str s)))) c2) ta (qD Dt.non))) qH (Ed Pd) [some d,some (.tup (.str w::l)),o] st:=by
  refine rdR (d:=.non) ?_ hp
  intro P hp
  refine qCK (b:=(w==s)&&false) (d1:=.non) (d2:=.non) (qq (evb (qo (qQ (j:=0) (qB (i:=1) rfl) rfl))) (fun e=>?_)) (fun e=>?_) (fun _=>qK) P ?_
  · rw [hc] at e;cases e
  · rw [hc] at e;cases e
  · rw [hc];exact hp
theorem qBu {w:Op2} {x y:Nat} {o:Option Dt} {j:Nat} {e:Dt} (h:[Dt.str (nm w),.int x,.int y][j]? = some e):Ev (qE qM (qC 1) (qD (Dt.int (j:Int)))) [some d,some (nD (.two w x y)),o] st e:=qQ (qB (i:=1) rfl) h
theorem qLA {ds:List Dt} (h:spR .zero ds st Pd):qKE (Ed Pd) (qW ["nodes", "seen", "n"] ds) st:=by
  k_dat 0"r9"
  k_dat 0"r12"
  cases sd with
  | two w x y =>
    cases w with
    | add =>
      refine rdR (d:=if (true&&decide (numAt ns y=some 0))=true then .int x else .non) ?_ ?_
      · exact qCK (qq (evb (qo (s:= "add") (a:= "add") (qBu (w:=.add) (j:=0) rfl))) fun _=>evb (qG7 (qCP hs hi.2 (qB (i:=0) rfl) (qBu (w:=.add) (j:=2) rfl)))) (fun _=>qBu (w:=.add) (j:=1) rfl) (fun _=>qK)
      · rw [Bool.true_and]
        have:orD (qP ns n .zero (.two .add x y))=if decide (numAt ns y=some 0)=true then .int x else .non:=by
          show orD (if numAt ns y=some 0 then some (.at_ x) else none)=_
          by_cases q:numAt ns y=some 0
          · rw [if_pos q,if_pos (decide_eq_true q)];rfl
          · k_dat 0"r39"
        rw [this] at hP;exact hP
    | _=>exact qB0 (by decide +kernel) hP
  | _=>exact qB0 (by decide +kernel) hP
theorem qOh {ds:List Dt} (h:spR .one ds st Pd):qMR (Ed Pd) (qW ["nodes", "seen", "n"] ds) st:=by
  k_dat 0"r9"
  k_dat 0"r12"
  cases sd with
  | two w x y =>
    cases w with
    | mul =>
      refine rdR (d:=if (true&&decide (numAt ns y=some 1))=true then .int x else .non) ?_ ?_
      · exact qCK (qq (evb (qo (s:= "mul") (a:= "mul") (qBu (w:=.mul) (j:=0) rfl))) fun _=>evb (qG7 (qCP hs hi.2 (qB (i:=0) rfl) (qBu (w:=.mul) (j:=2) rfl)))) (fun _=>qBu (w:=.mul) (j:=1) rfl) (fun _=>qK)
      · rw [Bool.true_and]
        have:orD (qP ns n .one (.two .mul x y))=if decide (numAt ns y=some 1)=true then .int x else .non:=by
          show orD (if numAt ns y=some 1 then some (.at_ x) else none)=_
          by_cases q:numAt ns y=some 1
          · rw [if_pos q,if_pos (decide_eq_true q)];rfl
          · k_dat 0"r39"
        rw [this] at hP;exact hP
    | _=>exact qB0 (by decide +kernel) hP
  | _=>exact qB0 (by decide +kernel) hP
theorem qOd {ds:List Dt} (h:spR .nil ds st Pd):qMK (Ed Pd) (qW ["nodes", "seen", "n"] ds) st:=by
  k_dat 0"r9"
  k_dat 0"r12"
  cases sd with
  | two w x y =>
    cases w with
    | mul =>
      refine rdR (d:=if (true&&decide (numAt ns y=some 0))=true then .int y else .non) ?_ ?_
      · exact qCK (qq (evb (qo (s:= "mul") (a:= "mul") (qBu (w:=.mul) (j:=0) rfl))) fun _=>evb (qG7 (qCP hs hi.2 (qB (i:=0) rfl) (qBu (w:=.mul) (j:=2) rfl)))) (fun _=>qBu (w:=.mul) (j:=2) rfl) (fun _=>qK)
      · rw [Bool.true_and]
        have:orD (qP ns n .nil (.two .mul x y))=if decide (numAt ns y=some 0)=true then .int y else .non:=by
          show orD (if numAt ns y=some 0 then some (.at_ y) else none)=_
          by_cases q:numAt ns y=some 0
          · rw [if_pos q,if_pos (decide_eq_true q)];rfl
          · k_dat 0"r39"
        rw [this] at hP;exact hP
    | _=>exact qB0 (by decide +kernel) hP
  | _=>exact qB0 (by decide +kernel) hP
theorem qEK {ds:List Dt} (h:spR .self ds st Pd):qCH (Ed Pd) (qW ["nodes", "seen", "n"] ds) st:=by
  k_dat 0"r9"
  k_dat 0"r12"
  cases sd with
  | two w x y =>
    cases w with
    | sub =>
      refine rdR (d:=if (true&&decide ((x:Int)=(y:Int)))=true then .tup [.str "num",.int 0] else .non) ?_ ?_
      · exact qCK (qq (evb (qo (s:= "sub") (a:= "sub") (qBu (w:=.sub) (j:=0) rfl))) fun _=>evb (qAA (qBu (w:=.sub) (j:=1) rfl) (qBu (w:=.sub) (j:=2) rfl))) (fun _=>qY (fun _ h=>h) (by show 2≤sizeLine;decide)) (fun _=>qK)
      · rw [Bool.true_and]
        have:orD (qP ns n .self (.two .sub x y))=if decide ((x:Int)=(y:Int))=true then .tup [.str "num",.int 0] else .non:=by
          show orD (if x=y then some (.nd (.num 0)) else none)=_
          by_cases q:x=y
          · rw [if_pos q,if_pos (decide_eq_true (by rw [q]))];rfl
          · rw [if_neg q,if_neg (by rw [decide_eq_true_eq];omega)];rfl
        rw [this] at hP;exact hP
    | _=>exact qB0 (by decide +kernel) hP
  | _=>exact qB0 (by decide +kernel) hP
end
end KR
namespace KR
open PySem PySem.Spec PyProof.Rows L2 L3 KH KS KW K20
theorem qPT {items ys:List Dt} {ok:Sto→Prop} {te:TD} {cρ:Rho} {st:Sto} {Fin:List Dt→Sto→Prop} (hok:ok st) (hl:items.length≤1000) (hlen:ys.length=items.length)
    (h:∀ (i:Nat) d,items[i]? = some d→∃ y,ys[i]? = some y∧Ev te (some d::cρ) st y) (hF:Fin ys st):qFD items ok (fun x st P=>P true st) te cρ st Fin:=by
  refine⟨fun i zs s=>zs=ys.take i∧s=st,⟨rfl,rfl⟩,fun _ _ _ _ q=>by rw [q.2];exact hok,?_,?_⟩
  · rintro i d zs s hd ⟨rfl,rfl⟩
    obtain⟨y,hy,ev⟩:=h i d hd
    have:=List.length_take_le' i ys
    refine⟨qAS (by omega),qAo (ev _ ⟨?_,rfl⟩)⟩
    rw [List.take_add_one,hy];rfl
  · rintro zs s ⟨rfl,rfl⟩
    rw [← hlen,List.take_length];exact hF
theorem qML {ρ:Rho} {st:Sto} {ti te:TD} {caps:List (Nat×Str)} {x:Dt} {items ys:List Dt} {P:VD} (hx:Ev ti ρ st x) (hs:qc st x=some items) (hl:items.length≤1000) (hlen:ys.length=items.length)
    (h:∀ (i:Nat) d,items[i]? = some d→∃ y,ys[i]? = some y∧Ev te (some d::qHH caps ρ) st y) (hP:P (.lst st.length) (st++[.rw ys])):qB4 (qDU ti) (fun x st P=>P true st) te caps ρ st P:=by
  refine hx _ ?_
  show (match qc st x with | some xs=>_ | none=>_)
  rw [hs]
  exact qPT hs hl hlen h hP
theorem qP2 {ρ:Rho} {st:Sto} {te:TD} {r:RDL} {P:VD} (h:te ρ st fun x st1=>r [x] st1 P):qJ r (qA te qG) ρ st P:=h
theorem qN9 {w:Op2} {x y:Nat}:K19.qBI (nm w) [.int x,.int y]=[.int x,.int y]:=by cases w<;>rfl
theorem qHu {st:Sto} {n:Nat} {os:List (Option Int)} {P:VD} (h:Has st n (os.map oD)) (hp:P (.bl (os.any (·.isNone))) st):qAe false .non (.lst n) st P:=by
  show (match qc st (.lst n) with | some xs=>_ | none=>_)
  rw [qp h]
  have e:(os.map oD).any (fun z=>eqD 0 z .non)=os.any (·.isNone):=by
    rw [List.any_map]
    congr 1
    funext o
    cases o<;>rfl
  refine⟨rfl,?_,?_⟩
  · rw [List.all_eq_true]
    intro d hd
    obtain⟨o,_,rfl⟩:=List.mem_map.mp hd
    cases o<;>rfl
  · rw [e,Bool.bne_false];exact hp
theorem qC9 {ds:List Dt} {st:Sto} {Pd:VD} (h:qCx ds st Pd):qAf (Ed Pd) (qW ["nodes", "seen", "nums"] ds) st:=by
  obtain⟨d,ns,sd,rfl,hs,hn,hi,h⟩:=h
  have gen:∀ (w:Str) (is:List Nat),nD sd = .tup (.str w::is.map fun i=>Dt.int ((i:Nat):Int))→K19.qBI w (is.map fun i=>Dt.int ((i:Nat):Int))=is.map (fun i=>Dt.int ((i:Nat):Int))→(∀ i∈is,i<ns.length)→is.length≤2 →
      (∀ st1 n,qg st st1→Has st1 n ((is.map (numAt ns)).map oD)→qCT (qI (qE (qAe false) (qD Dt.non) (qC 2))) (qD Dt.non) (qJ K20.qDI (qA (qE qM (qC 1) (qD (Dt.int 0))) (qA (qC 2) qG))) [some d,some (nD sd),some (.lst n)] st1 Pd) →
      qAf (Ed Pd) (qW ["nodes", "seen", "nums"] [d,nD sd]) st:=by
    intro w is e1 e2 hb hl hk
    refine qh ?_
    refine qML (x:=.tup (is.map fun i=>Dt.int ((i:Nat):Int))) (items:=is.map fun i=>Dt.int ((i:Nat):Int)) (ys:=(is.map (numAt ns)).map oD) ?_ rfl (by rw [List.length_map];omega) (by simp) ?_ ?_
    · refine qAK (ds:=[nD sd]) (qF (qB (i:=1) rfl) qN) fun P hp=>?_
      rw [e1]
      exact⟨w,_,rfl,by rw [e2];exact hp⟩
    · intro i y hy
      rw [List.getElem?_map] at hy
      cases q:is[i]? with
      | none=>rw [q] at hy;cases hy
      | some j =>
        rw [q] at hy
        have:y = .int ((j:Nat):Int):=(Option.some.inj hy).symm
        subst this
        refine⟨oD (numAt ns j),by rw [List.getElem?_map,List.getElem?_map,q];rfl,?_⟩
        exact qCP hs (hb j (List.mem_of_getElem? q)) (qB (i:=1) rfl) (qB (i:=0) rfl)
    · exact hk _ _ (.app _ _) ⟨_,q8,rfl⟩
  have e0:∀ (w:Str) (l:List Dt) (n:Nat) (st1:Sto),nD sd = .tup (.str w::l)→Ev (qE qM (qC 1) (qD (Dt.int 0))) [some d,some (nD sd),some (.lst n)] st1 (.str w):=fun w l n st1 e=>qQ (j:=0) (qB (i:=1) (by rw [e];rfl)) rfl
  have one:∀ (w:Str) (x:Nat),nD sd = .tup [.str w,.int ((x:Nat):Int)]→K19.qBI w [.int ((x:Nat):Int)]=[.int ((x:Nat):Int)]→x<ns.length →
      (∀ st',qg st st'→numAt ns x=none→Pd .non st')→(∀ st' n a,qg st st'→numAt ns x=some a→Has st' n [.int a]→K20.qDI [.str w,.lst n] st' Pd)→qAf (Ed Pd) (qW ["nodes", "seen", "nums"] [d,nD sd]) st:=by
    intro w x e1 e2 hx q1 q2
    refine gen w [x] e1 e2 (by simpa using hx) (Nat.le_succ 1) fun st1 n x1 hh=>?_
    have hb:EvB (qI (qE (qAe false) (qD Dt.non) (qC 2))) [some d,some (nD sd),some (.lst n)] st1 _:=fun P hp=>qHu (P:=fun x st=>match x with | .bl k=>P k st | _=>False) hh hp
    refine hb _ ?_
    cases q:numAt ns x with
    | none=>rw [List.map_cons,List.map_nil,q];exact qAo (q1 st1 x1 q)
    | some a =>
      rw [List.map_cons,List.map_nil,q] at hh ⊢
      exact qAt (qF (e0 w _ n st1 e1) (qF (qB (i:=2) rfl) qN) _ (q2 st1 n a x1 q hh))
  rcases h with ⟨w,x,y,rfl,hP⟩ | ⟨x,rfl,hP⟩ | ⟨x,rfl,hP⟩
  · refine gen (nm w) [x,y] rfl qN9 (by intro i h;simp only [List.mem_cons,List.not_mem_nil,or_false] at h;rcases h with rfl | rfl;exact hi.1;exact hi.2) (Nat.le_refl 2) fun st1 n x1 hh=>?_
    have hb:EvB (qI (qE (qAe false) (qD Dt.non) (qC 2))) [some d,some (nD (.two w x y)),some (.lst n)] st1 _:=fun P hp=>qHu (P:=fun x st=>match x with | .bl k=>P k st | _=>False) hh hp
    refine hb _ ?_
    have hP:=hP st1 x1
    simp only [List.map_cons,List.map_nil] at hh ⊢
    cases qx:numAt ns x with
    | none=>rw [qx] at hP;exact qAo hP
    | some a =>
      cases qy:numAt ns y with
      | none=>rw [qx,qy] at hP;exact qAo hP
      | some b =>
        rw [qx,qy] at hP hh
        refine qAt (qF (e0 (nm w) _ n st1 rfl) (qF (qB (i:=2) rfl) qN) _ ?_)
        obtain⟨a0,a1⟩:=qH0 hn qx
        obtain⟨b0,b1⟩:=qH0 hn qy
        exact⟨nm w,n,rfl,.inr (.inr (.inr ⟨w,a,b,rfl,hh,a0,a1,b0,b1,hP⟩))⟩
  · refine one "nought" x rfl rfl hi (fun st' x' q=>by have:=hP st' x';rw [q] at this;exact this) fun st' n a x' q hh=>?_
    have hP:=hP st' x'
    rw [q] at hP
    exact⟨"nought",n,rfl,.inr (.inr (.inl ⟨a,hh,.inl ⟨rfl,hP⟩⟩))⟩
  · refine one "high" x rfl rfl hi (fun st' x' q=>by have:=hP st' x';rw [q] at this;exact this) fun st' n a x' q hh=>?_
    have hP:=hP st' x'
    rw [q] at hP
    exact⟨"high",n,rfl,.inr (.inr (.inl ⟨a,hh,.inr ⟨rfl,hP⟩⟩))⟩
theorem qG9 {ds:List Dt} {st:Sto} {Pd:VD} (h:qCl ds st Pd):qFF (Ed Pd) (qW ["nodes", "seen"] ds) st:=by
  obtain⟨d,ns,w,xs,rfl,hs,hf,hP⟩:=h
  show qBt _ _ [some d,some (.tup (.str w::xs.map .int))] st Pd
  refine⟨w,xs,rfl,hf,qAo ?_⟩
  refine qP2 ?_
  refine qML (x:=.tup (K19.qBI w (xs.map .int))) (items:=K19.qBI w (xs.map .int)) (ys:=((if K19.qEV.contains w=true then xs else []).map fun x=>decide (0≤x)&&decide (x<(ns.length:Int))).map .bl) ?_ rfl ?_ ?_ ?_ ?_
  · refine qAK (ds:=[.tup (.str w::xs.map .int)]) (qF (qB (i:=1) rfl) qN) fun P hp=>⟨w,_,rfl,hp⟩
  · have:=hf.2
    unfold K19.qBI
    split
    · rw [List.length_map,this];have:qI8 w≤2:=by unfold qI8;split;decide;split<;>decide
      omega
    · decide
  · unfold K19.qBI
    split<;>simp
  · intro i y hy
    unfold K19.qBI at hy
    split at hy
    · rename_i hc
      rw [List.getElem?_map] at hy
      cases q:xs[i]? with
      | none=>rw [q] at hy;cases hy
      | some x =>
        rw [q] at hy
        have:y = .int x:=(Option.some.inj hy).symm
        subst this
        refine⟨.bl (decide (0≤x)&&decide (x<(ns.length:Int))),by rw [if_pos hc,List.getElem?_map,List.getElem?_map,q];rfl,?_⟩
        refine qAK (ds:=[.int x,.int (ns.length:Int)]) (qF (qB (i:=0) rfl) (qF (qAI (qB (i:=1) rfl) hs) qN)) fun P hp=>⟨x,_,rfl,hp⟩
    · cases hy
  · show (match (st++[SO.rw _])[st.length]? with | some o=>_ | none=>_)
    rw [q8]
    refine⟨_,rfl,?_⟩
    have:=hP (st++[SO.rw (((if K19.qEV.contains w=true then xs else []).map fun x=>decide (0≤x)&&decide (x<(ns.length:Int))).map .bl)]) (.app _ _)
    unfold inR at this
    rw [List.all_map]
    exact this
end KR
namespace KR
open PySem PySem.Spec PyProof.Rows L2 L3 KH KS KW K20
theorem qEO {x:Nd} {w:Op2} (h:(wd x==nm w)=true):∃ s t,x = .two w s t:=by
  cases x with
  | two v s t =>
    have:v=w:=by
      revert h
      cases v<;>cases w<;>first | (intro _;rfl) | (intro h;exact Bool.noConfusion (show false=true from h))
    subst this
    exact⟨s,t,rfl⟩
  | _=>revert h;cases w<;>(intro h;exact Bool.noConfusion (show false=true from h))
theorem eq1 (s:Str) (p q:Int):eqD 8 (.tup [.str s,.int p]) (.tup [.str s,.int q])=decide (p=q):=by
  show (s==s&&((p==q)&&true))=_
  rw [beq_self_eq_true,Bool.true_and,Bool.and_true];rfl
open Classical in
theorem qP6 (a b:Nd):eqD 8 (nD a) (nD b)=decide (a=b):=by
  cases a with
  | two v x y =>
    cases b with
    | two w x' y' =>
      show (nm v==nm w&&((((x:Nat):Int)==((x':Nat):Int))&&((((y:Nat):Int)==((y':Nat):Int))&&true)))=_
      by_cases q:Nd.two v x y=Nd.two w x' y'
      · cases q
        rw [decide_eq_true rfl]
        simp
      · rw [decide_eq_false q]
        by_cases q1:v=w
        · subst q1
          by_cases q2:x=x'
          · subst q2
            have q3:y≠y':=fun e=>q (by rw [e])
            have:(((y:Nat):Int)==((y':Nat):Int))=false:=beq_eq_false_iff_ne.mpr (by omega)
            rw [this];simp
          · have:(((x:Nat):Int)==((x':Nat):Int))=false:=beq_eq_false_iff_ne.mpr (by omega)
            rw [this];simp
        · have:(nm v==nm w)=false:=by
            revert q1
            cases v<;>cases w<;>first | (intro h;exact absurd rfl h) | (intro _;rfl)
          rw [this];rfl
    | _=>rw [decide_eq_false (fun z=>nomatch z)];cases v<;>rfl
  | _ =>
    cases b with
    | two w x' y'=>rw [decide_eq_false (fun z=>nomatch z)];cases w<;>rfl
    | _ =>
      first
        | (rw [decide_eq_false (fun z=>nomatch z)];rfl)
        | (rw [decide_eq_true rfl];rfl)
        | exact (eq1 _ _ _).trans (decide_eq_decide.mpr ⟨fun e=>by rw [e],fun e=>by cases e;rfl⟩)
        | (rename_i p q;exact (eq1 _ _ _).trans (decide_eq_decide.mpr ⟨fun e=>by have:p=q:=Int.ofNat.inj e;rw [this],fun e=>by cases e;rfl⟩))
open Classical in
theorem qKW {ρ:Rho} {st:Sto} {ta tb:TD} {a b:Nd} (h:Ev ta ρ st (nD a)) (h2:Ev tb ρ st (nD b)):Ev (qE (qU true) ta tb) ρ st (.bl (!decide (a=b))):=fun P hp=>h _ (h2 _ (by
  have ok:∀ x:Nd,okD 8 (nD x)=true:=fun x=>by cases x<;>rfl
  have e:∀ x:Nd,∃ l,nD x = .tup l:=fun x=>⟨_,qAB x⟩
  obtain⟨l1,e1⟩:=e a
  obtain⟨l2,e2⟩:=e b
  have q:qU true (nD a) (nD b) st P=(okD 8 (nD a)=true∧okD 8 (nD b)=true∧P (.bl (eqD 8 (nD a) (nD b) != true)) st):=by rw [e1,e2];rfl
  rw [q]
  refine⟨ok a,ok b,?_⟩
  rw [qP6,Bool.bne_true];exact hp))
section
variable {st:Sto} {Pd:VD} {d:Dt} {ns:List Nd} {sd:Nd} {n:Nat}
theorem qIM {w:Str} {l:List Dt} {o:Option Dt} {N:TSD} (hc:(["add", "mul"]:List Str).contains w=false) (hp:Pd .non st):tseq (qb (qE qM (qC 1) (qD (Dt.int 0))) (qO 3)) (tseq (qi (qI (qE (qAe true) (qC 3) (qAM (qA (qD (Dt.str "add")) (qA (qD (Dt.str "mul")) qG))))) (tseq (qV (qD Dt.non)) qH) qH) N) (Ed Pd) [some d,some (.tup (.str w::l)),o,none,none] st:=by
  k_dat 0"r24"
  refine qS (evb (qAk (ss:=["add", "mul"]) (qB (i:=3) rfl) (qY (fun _ h=>h) (by show 2≤sizeLine;decide)))) (fun _=>hp) (fun e=>?_)
  rw [show (["add", "mul"]:List Str).contains w=false from hc] at e;cases e
theorem qHv {w:Op2}:(["add", "mul"]:List Str).contains (nm w)=qHf w:=by cases w<;>rfl
theorem qID {w:Op2}:(nm w==nm w)=true:=beq_self_eq_true _
theorem qHm {x y:Nat} {xn:Nd} {w:Op2} (hx:ns[x]? = some xn) (h:(wd xn==nm w)=false):qP ns n .group (.two w x y)=none:=by
  simp only [qP,hx]
  cases xn with
  | two v s t=>exact if_neg fun ⟨_,e,_⟩=>by subst e;rw [show (wd (Nd.two v s t)==nm v)=true from qID] at h;cases h
  | _=>rfl
theorem qFa {x y:Nat} {yn:Nd} {w:Op2} (hx:ns[y]? = some yn) (h:(wd yn==nm w)=false):qP ns n .ungroup (.two w x y)=none:=by
  simp only [qP,hx]
  cases yn with
  | two v s t=>exact if_neg fun ⟨_,e,_⟩=>by subst e;rw [show (wd (Nd.two v s t)==nm v)=true from qID] at h;cases h
  | _=>rfl
open Classical in
theorem qKv {ds:List Dt} (h:spR .group ds st Pd):qH5 (Ed Pd) (qW ["nodes", "seen", "n", "v", "x"] ds) st:=by
  k_dat 0"r9"
  k_dat 0"r12"
  cases sd with
  | two w x y =>
    cases hw:qHf w with
    | false =>
      refine qIM (by rw [qHv];exact hw) ?_
      have:qP ns n .group (.two w x y)=none:=by
        simp only [qP]
        split
        · exact if_neg fun h=>by rw [hw] at h;exact Bool.false_ne_true h.1
        · rfl
      rw [this] at hP;exact hP
    | true =>
      obtain⟨hx,hy⟩:=hi
      have ex:ns[x]? = some ns[x]:=List.getElem?_eq_getElem hx
      have en:ns[n]? = some ns[n]:=List.getElem?_eq_getElem hl
      k_dat 0"r24"
      k_dat 0"r52"
      · rw [qHv,hw] at e;cases e
      refine qh (ql (qB (i:=0) rfl) hs (qQ (j:=1) (qB (i:=1) rfl) rfl) (hs.at_ ex) _ ?_)
      generalize hxn:ns[x]=xn at ex
      have h4:Ev (qE qM (qC 4) (qD (Dt.int 0))) [some d,some (nD (.two w x y)),some (.int (n:Nat)),some (.str (nm w)),some (nD xn)] st (.str (wd xn)):=qQ (j:=0) (qB (i:=4) (by rw [qAB xn];rfl)) rfl
      show tseq _ _ (Ed Pd) [some d,some (nD (.two w x y)),some (.int (n:Nat)),some (.str (nm w)),some (nD xn)] st
      cases c:(wd xn==nm w) with
      | false =>
        rw [qHm ex c] at hP
        k_dat 0"r53"
      | true =>
        obtain⟨s,u,rfl⟩:=qEO c
        have hr:qP ns n .group (.two w x y)=if ns[n] = .two w u y then some (.nd (.two w s n)) else none:=by
          simp only [qP,ex,en]
          by_cases q:ns[n] = .two w u y
          · rw [if_pos ⟨hw,trivial,by rw [q]⟩,if_pos q]
          · rw [if_neg (fun z=>q (Option.some.inj z.2.2)),if_neg q]
        rw [hr] at hP
        refine qS (b:=!decide (ns[n] = .two w u y)) (fun P hp=>qm (b2:=!decide (ns[n] = .two w u y)) (evb (qDc h4 (qB (i:=3) rfl))) (fun _=>evb (qKW (ql (qB (i:=0) rfl) hs (qB (i:=2) rfl) (hs.at_ en)) ?_)) P (by rw [c];exact hp)) (fun e=>?_) (fun e=>?_)
        · exact qY (qF (qB (i:=3) rfl) (qF (qQ (j:=2) (qB (i:=4) rfl) rfl) (qF (qQ (j:=2) (qB (i:=1) rfl) rfl) qN))) (by show 3≤sizeLine;decide)
        · rw [if_neg (by simpa using e)] at hP;exact hP
        · rw [if_pos (by simpa using e)] at hP
          exact rdR (qY (qF (qB (i:=3) rfl) (qF (qQ (j:=1) (qB (i:=4) rfl) rfl) (qF (qB (i:=2) rfl) qN))) (by show 3≤sizeLine;decide)) hP
  | _=>exact qIM (by decide +kernel) hP
open Classical in
theorem qHA {ds:List Dt} (h:spR .ungroup ds st Pd):qE6 (Ed Pd) (qW ["nodes", "seen", "n", "v", "y"] ds) st:=by
  k_dat 0"r9"
  k_dat 0"r12"
  cases sd with
  | two w x y =>
    cases hw:qHf w with
    | false =>
      refine qIM (by rw [qHv];exact hw) ?_
      have:qP ns n .ungroup (.two w x y)=none:=by
        simp only [qP]
        split
        · exact if_neg fun h=>by rw [hw] at h;exact Bool.false_ne_true h.1
        · rfl
      rw [this] at hP;exact hP
    | true =>
      obtain⟨hx,hy⟩:=hi
      have ey:ns[y]? = some ns[y]:=List.getElem?_eq_getElem hy
      have en:ns[n]? = some ns[n]:=List.getElem?_eq_getElem hl
      k_dat 0"r24"
      k_dat 0"r52"
      · rw [qHv,hw] at e;cases e
      refine qh (ql (qB (i:=0) rfl) hs (qQ (j:=2) (qB (i:=1) rfl) rfl) (hs.at_ ey) _ ?_)
      generalize hyn:ns[y]=yn at ey
      have h4:Ev (qE qM (qC 4) (qD (Dt.int 0))) [some d,some (nD (.two w x y)),some (.int (n:Nat)),some (.str (nm w)),some (nD yn)] st (.str (wd yn)):=qQ (j:=0) (qB (i:=4) (by rw [qAB yn];rfl)) rfl
      show tseq _ _ (Ed Pd) [some d,some (nD (.two w x y)),some (.int (n:Nat)),some (.str (nm w)),some (nD yn)] st
      cases c:(wd yn==nm w) with
      | false =>
        rw [qFa ey c] at hP
        k_dat 0"r53"
      | true =>
        obtain⟨s,u,rfl⟩:=qEO c
        have hr:qP ns n .ungroup (.two w x y)=if ns[n] = .two w x s then some (.nd (.two w n u)) else none:=by
          simp only [qP,ey,en]
          by_cases q:ns[n] = .two w x s
          · rw [if_pos ⟨hw,trivial,by rw [q]⟩,if_pos q]
          · rw [if_neg (fun z=>q (Option.some.inj z.2.2)),if_neg q]
        rw [hr] at hP
        refine qS (b:=!decide (ns[n] = .two w x s)) (fun P hp=>qm (b2:=!decide (ns[n] = .two w x s)) (evb (qDc h4 (qB (i:=3) rfl))) (fun _=>evb (qKW (ql (qB (i:=0) rfl) hs (qB (i:=2) rfl) (hs.at_ en)) ?_)) P (by rw [c];exact hp)) (fun e=>?_) (fun e=>?_)
        · exact qY (qF (qB (i:=3) rfl) (qF (qQ (j:=1) (qB (i:=1) rfl) rfl) (qF (qQ (j:=1) (qB (i:=4) rfl) rfl) qN))) (by show 3≤sizeLine;decide)
        · rw [if_neg (by simpa using e)] at hP;exact hP
        · rw [if_pos (by simpa using e)] at hP
          exact rdR (qY (qF (qB (i:=3) rfl) (qF (qB (i:=2) rfl) (qF (qQ (j:=2) (qB (i:=4) rfl) rfl) qN))) (by show 3≤sizeLine;decide)) hP
  | _=>exact qIM (by decide +kernel) hP
end
end KR
namespace KR
open PySem PySem.Spec PyProof.Rows L2 L3 KH KS KW K20
section
variable {st:Sto} {Pd:VD} {d:Dt} {ns:List Nd} {sd:Nd} {n:Nat} {ρ:Rho}
theorem qa {ta tb:TD} {x y:Int} (h:Ev ta ρ st (.int x)) (h2:Ev tb ρ st (.int y)) (h0:0<y):Ev (qE qAF ta tb) ρ st (.int (x%y)):=fun P hp=>h _ (h2 _ ⟨h0,hp⟩)
theorem qOe {ta tb:TD} {o:Option Int} {is:List Int} (h:Ev ta ρ st (oD o)) (h2:Ev tb ρ st (.tup (is.map .int))):Ev (qE (qAe false) ta tb) ρ st (.bl (decide (∃ k∈is,o=some k))):=fun P hp=>h _ (h2 _ (by
  have e:(is.map Dt.int).any (fun z=>eqD 0 z (oD o))=decide (∃ k∈is,o=some k):=by
    rw [Bool.eq_iff_iff,List.any_eq_true,decide_eq_true_eq]
    constructor
    · rintro⟨z,hz,e⟩
      obtain⟨k,hk,rfl⟩:=List.mem_map.mp hz
      cases o with
      | none=>cases e
      | some a=>exact⟨k,hk,congrArg some (eq_of_beq (show (k==a)=true from e)).symm⟩
    · rintro⟨k,hk,rfl⟩
      exact⟨.int k,List.mem_map_of_mem hk,beq_self_eq_true k⟩
  have ok:(is.map Dt.int).all (okD 0)=true:=by
    rw [List.all_eq_true]
    intro z hz
    obtain⟨k,_,rfl⟩:=List.mem_map.mp hz
    rfl
  cases o with
  | none=>exact⟨rfl,ok,by rw [e,Bool.bne_false];exact hp⟩
  | some a=>exact⟨rfl,ok,by rw [e,Bool.bne_false];exact hp⟩))
theorem qJa {w:Str} {l:List Dt} {o:Option Dt} {N:TSD} (hc:(w == "sub")=false) (hp:Pd .non st):tseq (qi (qI (qE (qU true) (qE qM (qC 1) (qD (Dt.int 0))) (qD (Dt.str "sub")))) (tseq (qV (qD Dt.non)) qH) qH) N (Ed Pd) [some d,some (.tup (.str w::l)),o,none] st :=
  qS (evb (qJn (qQ (j:=0) (qB (i:=1) rfl) rfl))) (fun _=>hp) (fun e=>by rw [show (w==Str.ofString "sub")=false from hc] at e;cases e)
theorem qIY {ds:List Dt} (h:spR .subnum ds st Pd):qGs (Ed Pd) (qW ["nodes", "seen", "n", "k"] ds) st:=by
  k_dat 0"r9"
  k_dat 0"r12"
  cases sd with
  | two w x y =>
    cases w with
    | sub =>
      refine qS (b:=false) (evb (qJn (a:= "sub") (qQ (j:=0) (qB (i:=1) rfl) rfl))) (fun e=>nomatch e) (fun _=>?_)
      refine qh (qCP hs hi.2 (qB (i:=0) rfl) (qQ (j:=2) (qB (i:=1) rfl) rfl) _ ?_)
      show tseq _ _ (Ed Pd) [some d,some (nD (.two .sub x y)),some (.int (n:Nat)),some (oD (numAt ns y))] st
      cases q:numAt ns y with
      | none =>
        have:qP ns n .subnum (.two .sub x y)=none:=by simp only [qP,q]
        rw [this] at hP
        exact qS (b:=true) (fun P hp=>qm (b2:=true) (evb (qCb (o:=none) (qB (i:=3) rfl))) (fun e=>nomatch e) P hp) (fun _=>hP) (fun e=>nomatch e)
      | some k =>
        have hr:qP ns n .subnum (.two .sub x y)=if numAt ns n=some ((0 - k)%65536) then some (.nd (.two .add x n)) else none:=by
          simp only [qP,q]
        rw [hr] at hP
        refine qS (b:=!decide (numAt ns n=some ((0 - k)%65536))) (fun P hp=>qm (b1:=false) (evb (qCb (o:=some k) (qB (i:=3) rfl))) (fun _=>evb (qNe (qCP hs hl (qB (i:=0) rfl) (qB (i:=2) rfl)) (qa (qMA qK (qB (i:=3) rfl)) qK (by decide)))) P hp) (fun e=>?_) (fun e=>?_)
        · rw [if_neg (by simpa using e)] at hP;exact hP
        · rw [if_pos (by simpa using e)] at hP
          exact rdR (qY (qF qK (qF (qQ (j:=1) (qB (i:=1) rfl) rfl) (qF (qB (i:=2) rfl) qN))) (by show 3≤sizeLine;decide)) hP
    | _=>exact qJa (by decide +kernel) hP
  | _=>exact qJa (by decide +kernel) hP
theorem qIN {w:Op2}:(["add", "sub", "mul"]:List Str).contains (nm w)=qCB w:=by cases w<;>rfl
theorem qMf {w:Str} {l:List Dt} {o:Option Dt} {N:TSD} (hc:(["add", "sub", "mul"]:List Str).contains w=false) (hp:Pd .non st):tseq (qi (qI (qE (qAe true) (qE qM (qC 1) (qD (Dt.int 0))) (qAM (qA (qD (Dt.str "add")) (qA (qD (Dt.str "sub")) (qA (qD (Dt.str "mul")) qG)))))) (tseq (qV (qD Dt.non)) qH) qH) N (Ed Pd) [some d,some (.tup (.str w::l)),o,none] st :=
  qS (evb (qAk (ss:=["add", "sub", "mul"]) (qQ (j:=0) (qB (i:=1) rfl) rfl) (qY (fun _ h=>h) (by show 3≤sizeLine;decide)))) (fun _=>hp) (fun e=>by rw [hc] at e;cases e)
theorem qPL {w:Op2} (h:qCB w=true) (a b:Int):∃ v,two w a b = .n v:=by cases w<;>first | exact⟨_,rfl⟩ | cases h
theorem qND {w:Op2} (h:qCB w=false) (a b:Int):∃ v,two w a b = .b v:=by cases w<;>first | exact⟨_,rfl⟩ | cases h
theorem qJz {ds:List Dt} (h:spR .count ds st Pd):qIC (Ed Pd) (qW ["nodes", "seen", "n", "found"] ds) st:=by
  k_dat 0"r9"
  cases sd with
  | two w x y =>
    cases hw:qCB w with
    | false =>
      have:qP ns n .count (.two w x y)=none:=by simp only [qP,hw];rfl
      rw [this] at hP
      exact qMf (by rw [qIN];exact hw) (hP st (.refl _))
    | true =>
      refine qS (evb (qAk (ss:=["add", "sub", "mul"]) (qQ (j:=0) (qB (i:=1) rfl) rfl) (qY (fun _ h=>h) (by show 3≤sizeLine;decide)))) (fun e=>by rw [qIN,hw] at e;cases e) (fun _=>?_)
      k_dat 0"r54"
      have hP:=hP st1 x1
      have none':(qP ns n .count (.two w x y)=none)→tseq (qV (qCT (qI (qE (qC5 false) (qC 3) (qD Dt.non))) (qD Dt.non) (qAM (qA (qD (Dt.str "num")) (qA (qC 3) qG))))) qH (Ed Pd) [some d,some (nD (.two w x y)),some (.int (n:Nat)),some .non] st1:=fun e=>by rw [e] at hP;exact hP
      cases qx:numAt ns x with
      | none=>exact none' (by simp only [qP,hw,qx];rfl)
      | some a =>
        cases qy:numAt ns y with
        | none=>exact none' (by simp only [qP,hw,qx,qy];rfl)
        | some b =>
          obtain⟨v,ev⟩:=qPL hw a b
          have:qP ns n .count (.two w x y)=some (.nd (.num v)):=by simp only [qP,hw,qx,qy,ev];rfl
          rw [this] at hP
          show tseq _ _ (Ed Pd) [some d,some (nD (.two w x y)),some (.int (n:Nat)),some (vD (two w a b))] st1
          rw [ev]
          exact rdR (d:=.tup [.str "num",.int v]) (fun P hp=>qCK (b:=false) (d1:=.non) (d2:=.tup [.str "num",.int v]) (evb (qCb (o:=some v) (qB (i:=3) rfl))) (fun e=>nomatch e) (fun _=>qY (qF qK (qF (qB (i:=3) rfl) qN)) (by show 2≤sizeLine;decide)) P hp) hP
  | _=>exact qMf (by decide +kernel) (hP st (.refl _))
theorem qMm {w:Op2}:(["nought", "high", "over", "under", "wide", "rest"]:List Str).contains (nm w) = !qCB w:=by cases w<;>rfl
theorem qMP {w:Str} {l:List Dt} {o:Option Dt} {N:TSD} (hc:(["nought", "high", "over", "under", "wide", "rest"]:List Str).contains w=false) (hp:Pd .non st):tseq (qi (qI (qE (qAe true) (qE qM (qC 1) (qD (Dt.int 0))) (qAM (qA (qD (Dt.str "nought")) (qA (qD (Dt.str "high")) (qA (qD (Dt.str "over")) (qA (qD (Dt.str "under")) (qA (qD (Dt.str "wide")) (qA (qD (Dt.str "rest")) qG))))))))) (tseq (qV (qD Dt.non)) qH) qH) N (Ed Pd) [some d,some (.tup (.str w::l)),o,none] st :=
  qS (evb (qAk (ss:=["nought", "high", "over", "under", "wide", "rest"]) (qQ (j:=0) (qB (i:=1) rfl) rfl) (qY (fun _ h=>h) (by show 6≤sizeLine;decide)))) (fun _=>hp) (fun e=>by rw [hc] at e;cases e)
theorem qJl {w:Str} {l:List Dt} {o:Option Dt} {N:TSD} (hc:(["nought", "high", "over", "under", "wide", "rest"]:List Str).contains w=true) (hp:N (Ed Pd) [some d,some (.tup (.str w::l)),o,none] st):tseq (qi (qI (qE (qAe true) (qE qM (qC 1) (qD (Dt.int 0))) (qAM (qA (qD (Dt.str "nought")) (qA (qD (Dt.str "high")) (qA (qD (Dt.str "over")) (qA (qD (Dt.str "under")) (qA (qD (Dt.str "wide")) (qA (qD (Dt.str "rest")) qG))))))))) (tseq (qV (qD Dt.non)) qH) qH) N (Ed Pd) [some d,some (.tup (.str w::l)),o,none] st :=
  qS (evb (qAk (ss:=["nought", "high", "over", "under", "wide", "rest"]) (qQ (j:=0) (qB (i:=1) rfl) rfl) (qY (fun _ h=>h) (by show 6≤sizeLine;decide)))) (fun e=>by rw [hc] at e;cases e) (fun _=>hp)
noncomputable def obD:Option Bool→Dt
  | some b=>.bl b
  | none=>.non
noncomputable def obN:Option Bool→Dt
  | some b=>nD (yn b)
  | none=>.non
theorem qA5 {ρ1:Rho} {o:Option Bool} {P:VD} (h3:ρ1[3]? = some (some (obD o))) (hp:P (obN o) st):qG3 (Ed P) ρ1 st:=by
  have hv:Ev (qC 3) ρ1 st (obD o):=qB h3
  cases o with
  | none=>exact qS (b:=true) (evb fun Q hq=>hv _ hq) (fun _=>hp) (fun e=>nomatch e)
  | some b =>
    refine qS (b:=false) (evb fun Q hq=>hv _ hq) (fun e=>nomatch e) (fun _=>?_)
    refine rdR (d:=if b=true then .tup [.str "yes"] else .tup [.str "no"]) (qCK (evb hv) (fun _=>qY (fun _ h=>h) (by show 1≤sizeLine;decide)) (fun _=>qY (fun _ h=>h) (by show 1≤sizeLine;decide))) ?_
    cases b<;>exact hp
theorem qLb {ds:List Dt} (h:spR .sure ds st Pd):qJb (Ed Pd) (qW ["nodes", "seen", "n", "found"] ds) st:=by
  k_dat 0"r9"
  cases sd with
  | two w x y =>
    cases hw:qCB w with
    | true =>
      have:qP ns n .sure (.two w x y)=none:=by simp only [qP,hw];rfl
      rw [this] at hP
      exact qMP (by rw [qMm,hw];rfl) (hP st (.refl _))
    | false =>
      refine qJl (by rw [qMm,hw];rfl) ?_
      k_dat 0"r54"
      have hP:=hP st1 x1
      show qG3 (Ed Pd) [some d,some (nD (.two w x y)),some (.int (n:Nat)),some (match numAt ns x,numAt ns y with | some a,some b=>vD (two w a b) | _,_=>.non)] st1
      cases qx:numAt ns x with
      | none =>
        have:qP ns n .sure (.two w x y)=none:=by simp only [qP,hw,qx];rfl
        rw [this] at hP
        exact qA5 (o:=none) rfl hP
      | some a =>
        cases qy:numAt ns y with
        | none =>
          have:qP ns n .sure (.two w x y)=none:=by simp only [qP,hw,qx,qy];rfl
          rw [this] at hP
          exact qA5 (o:=none) rfl hP
        | some b =>
          obtain⟨v,ev⟩:=qND hw a b
          have:qP ns n .sure (.two w x y)=some (.nd (yn v)):=by simp only [qP,hw,qx,qy,ev];rfl
          rw [this] at hP
          simp only [ev]
          exact qA5 (o:=some v) rfl hP
  | nought x =>
    refine qJl (by decide +kernel) ?_
    refine qh (qF (qB (i:=0) rfl) (qF (qB (i:=1) rfl) qN) _ ⟨d,ns,.nought x,rfl,hs,hn,hi,.inr (.inl ⟨x,rfl,fun st1 x1=>?_⟩)⟩)
    have hP:=hP st1 x1
    show qG3 (Ed Pd) [some d,some (nD (.nought x)),some (.int (n:Nat)),some (match numAt ns x with | some a=>.bl (decide (a=0)) | _=>.non)] st1
    cases qx:numAt ns x with
    | none =>
      have:qP ns n .sure (.nought x)=none:=by simp only [qP,qx]
      rw [this] at hP
      exact qA5 (o:=none) rfl hP
    | some a =>
      have:qP ns n .sure (.nought x)=some (.nd (yn (decide (a=0)))):=by simp only [qP,qx]
      rw [this] at hP
      exact qA5 (o:=some (decide (a=0))) rfl hP
  | high x =>
    refine qJl (by decide +kernel) ?_
    refine qh (qF (qB (i:=0) rfl) (qF (qB (i:=1) rfl) qN) _ ⟨d,ns,.high x,rfl,hs,hn,hi,.inr (.inr ⟨x,rfl,fun st1 x1=>?_⟩)⟩)
    have hP:=hP st1 x1
    show qG3 (Ed Pd) [some d,some (nD (.high x)),some (.int (n:Nat)),some (match numAt ns x with | some a=>.bl (decide (32768≤a)) | _=>.non)] st1
    cases qx:numAt ns x with
    | none =>
      have:qP ns n .sure (.high x)=none:=by simp only [qP,qx]
      rw [this] at hP
      exact qA5 (o:=none) rfl hP
    | some a =>
      have:qP ns n .sure (.high x)=some (.nd (yn (decide (32768≤a)))):=by simp only [qP,qx]
      rw [this] at hP
      exact qA5 (o:=some (decide (32768≤a))) rfl hP
  | _=>exact qMP (by decide +kernel) (hP st (.refl _))
end
end KR
namespace KR
open PySem PySem.Spec PyProof.Rows L2 L3 KH KS KW K20
section
variable {st:Sto} {Pd:VD} {d:Dt} {ns:List Nd} {sd:Nd} {n:Nat} {ρ:Rho}
theorem ne_in {w:Op2}:qIv.contains (nm w) = !qCB w:=by cases w<;>rfl
theorem qQj {w:Op2} (h:qCB w=false):qJD.lookup (nm w)=some (.tup ((qES w).map .int)):=by cases w<;>first | rfl | cases h
theorem qQJ {w:Op2}:(nm w == "under")=true↔w = .under:=by
  constructor
  · cases w<;>first | (intro _;rfl) | (intro h;exact Bool.noConfusion (show false=true from h))
  · rintro rfl;rfl
theorem qKD {w:Str} {l:List Dt} {o:Option Dt} {N:TSD} (hc:qIv.contains w=false) (hp:Pd .non st):tseq (qb (qE qM (qC 1) (qD (Dt.int 0))) (qO 3)) (tseq (qi (qI (qBM true KR.qIv (qC 3))) (tseq (qV (qD Dt.non)) qH) qH) N) (Ed Pd) [some d,some (.tup (.str w::l)),o,none] st:=by
  k_dat 0"r24"
  exact qS (evb (qDd (qB (i:=3) rfl))) (fun _=>hp) (fun e=>by rw [hc] at e;cases e)
theorem qJY {ds:List Dt} (h:spR .never ds st Pd):qH2 (Ed Pd) (qW ["nodes", "seen", "n", "word"] ds) st:=by
  k_dat 0"r9"
  k_dat 0"r12"
  cases sd with
  | two w x y =>
    cases hw:qCB w with
    | true =>
      have:qP ns n .never (.two w x y)=none:=by simp only [qP,hw];rfl
      rw [this] at hP
      exact qKD (by rw [ne_in,hw];rfl) hP
    | false =>
      k_dat 0"r24"
      refine qS (evb (qDd (qB (i:=3) rfl))) (fun e=>by rw [ne_in,hw] at e;cases e) (fun _=>?_)
      have hb:EvB (qBv (qI (qE (qAe false) (qJ KR.qAD (qA (qC 0) (qA (qE qM (qC 1) (qD (Dt.int 2))) qG))) (qCh KR.qJD (qC 3)))) (qAr (qI (qE (qU false) (qC 3) (qD (Dt.str "under")))) (qI (qE (qU false) (qE qM (qC 1) (qD (Dt.int 1))) (qE qM (qC 1) (qD (Dt.int 2))))))) [some d,some (nD (.two w x y)),some (.int (n:Nat)),some (.str (nm w))] st
          (decide (∃ k∈qES w,numAt ns y=some k) || ((nm w == "under")&&decide ((x:Int)=(y:Int)))) :=
        qm (evb (qOe (qCP hs hi.2 (qB (i:=0) rfl) (qQ (j:=2) (qB (i:=1) rfl) rfl)) (qIR (qB (i:=3) rfl) (qQj hw)))) fun _=>qq (evb (qo (qB (i:=3) rfl))) fun _=>evb (qAA (qQ (j:=1) (qB (i:=1) rfl) rfl) (qQ (j:=2) (qB (i:=1) rfl) rfl))
      have hr:orD (qP ns n .never (.two w x y))=if (decide (∃ k∈qES w,numAt ns y=some k) || ((nm w == "under")&&decide ((x:Int)=(y:Int))))=true then .tup [.str "no"] else .non:=by
        simp only [qP,hw]
        have key:((∃ k∈qES w,numAt ns y=some k)∨(w = .under∧x=y))↔(decide (∃ k∈qES w,numAt ns y=some k) || ((nm w == "under")&&decide ((x:Int)=(y:Int))))=true:=by
          rw [Bool.or_eq_true,Bool.and_eq_true,qQJ,decide_eq_true_eq,decide_eq_true_eq]
          constructor
          · rintro (h | ⟨h1,h2⟩)
            · exact .inl h
            · exact .inr ⟨h1,by omega⟩
          · rintro (h | ⟨h1,h2⟩)
            · exact .inl h
            · exact .inr ⟨h1,by omega⟩
        rw [if_neg Bool.false_ne_true]
        by_cases q:(∃ k∈qES w,numAt ns y=some k)∨(w = .under∧x=y)
        · rw [if_pos q,if_pos (key.mp q)];rfl
        · rw [if_neg q,if_neg (fun z=>q (key.mpr z))];rfl
      rw [hr] at hP
      refine qS hb (fun e=>?_) (fun e=>?_)
      · rw [if_pos e] at hP
        exact rdR (qY (fun _ h=>h) (by show 1≤sizeLine;decide)) hP
      · rw [if_neg (by rw [e];exact Bool.false_ne_true)] at hP
        exact hP
  | _=>exact qKD (by decide +kernel) hP
end
theorem qJy {E:qAq} {ρ:Rho} {st:Sto} {N:TSD} {s:Str} (h:E.rt (.ty "NoTurning") st):tseq (qEM "NoTurning" (qA (qD (Dt.str s)) qG)) N E ρ st:=⟨by show 1≤sizeLine;decide,h⟩
theorem qI4 {ds:List Dt} {st:Sto} {Pd:VD} (h:qCV ds st Pd):qGU (Ed Pd) (qW ["nodes", "seen", "step", "rule", "found"] ds) st:=by
  obtain⟨d,ns,w,xs,rule,n,rfl,hs,hn,hf,h1,h2⟩:=h
  show tseq _ tA (Ed Pd) [some d,some (.tup (.str w::xs.map .int)),some (.tup [.str rule,.int n]),none,none] st
  refine seq1 ?_
  refine⟨d,ns.map nD,w,xs,rfl,hs,hf,fun st1 x1=>?_⟩
  show if (!inR (ns.map nD).length w xs)=true then _ else _
  rw [List.length_map]
  cases hr:inR ns.length w xs with
  | false=>exact qAo (qJy (h1 (.inl hr) st1 x1))
  | true =>
    refine qAt ?_
    have hs1:=hs.ext x1
    show tA (Ed Pd) [some d,some (.tup (.str w::xs.map .int)),some (.tup [.str rule,.int n]),none,none] st1
    have hb:EvB (qBv (qCJ (qI (qJ KR.qCm (qA (qC 2) (qA (qD (Dt.int 2)) qG))))) (qBv (qI (qBM true KR.keys (qE qM (qC 2) (qD (Dt.int 0))))) (qCJ (qI (qJ KR.qBd (qA (qE qM (qC 2) (qD (Dt.int 1))) (qA (qJ qAd (qA (qC 0) qG)) qG))))))) [some d,some (.tup (.str w::xs.map .int)),some (.tup [.str rule,.int n]),none,none] st1
        (!decide ((([Dt.str rule,.int n]:List Dt).length:Int)=2) || ((keys.contains rule != true) || !(decide (0≤n)&&decide (n<((ns.map nD).length:Int))))) :=
      qm (qCY (evb (qAK (qF (qB (i:=2) rfl) (qF qK qN)) fun P hp=>⟨_,2,rfl,hp⟩))) fun _=>qm (evb (qDd (qQ (j:=0) (qB (i:=2) rfl) rfl))) fun _=>qCY (evb (qAK (qF (qQ (j:=1) (qB (i:=2) rfl) rfl) (qF (qAI (qB (i:=0) rfl) hs1) qN)) fun P hp=>⟨n,_,rfl,hp⟩))
    refine qS hb (fun e=>?_) (fun e=>?_)
    · refine qJy (h1 ?_ st1 x1)
      right
      by_cases k:rule∈keys
      · right
        rw [List.length_map] at e
        simp only [show keys.contains rule=true from List.contains_iff_mem.mpr k] at e
        by_cases n0:n<0
        · exact .inl n0
        · right
          by_cases n1:n<(ns.length:Int)
          · rw [decide_eq_true (show 0≤n by omega),decide_eq_true n1] at e;cases e
          · omega
      · exact .inl k
    · have k:rule∈keys:=by
        by_cases k:rule∈keys
        · exact k
        · rw [show keys.contains rule=false by rw [← Bool.not_eq_true,List.contains_iff_mem];exact k] at e;cases e
      obtain⟨r,rfl⟩:=qIH k
      have hn0:0≤n∧n<(ns.length:Int):=by
        rw [List.length_map,show keys.contains (rn r)=true from List.contains_iff_mem.mpr k] at e
        have e':(!(decide (0≤n)&&decide (n<(ns.length:Int))))=false:=e
        rw [Bool.not_eq_false',Bool.and_eq_true,decide_eq_true_eq,decide_eq_true_eq] at e'
        exact e'
      obtain⟨m,rfl⟩:∃ m:Nat,n=(m:Int):=⟨n.toNat,by omega⟩
      have hm:m<ns.length:=by omega
      obtain⟨sd,esd,hin,hP⟩:=h2 hr r m rfl rfl hm
      show tB (Ed Pd) [some d,some (.tup (.str w::xs.map .int)),some (.tup [.str (rn r),.int (m:Nat)]),none,none] st1
      refine qh (qQ (j:=0) (qB (i:=2) rfl) rfl _ ?_)
      refine qh ?_
      refine qB (i:=3) rfl _ ⟨rn r,rfl,k,?_⟩
      refine qF (qB (i:=0) rfl) (qF (qB (i:=1) rfl) (qF (qQ (j:=1) (qB (i:=2) rfl) rfl) qN)) _ ?_
      rw [esd]
      refine⟨r,rfl,d,ns,sd,m,rfl,hs1,hn,hin,hm,fun st2 x2=>?_⟩
      have hP:=hP st2 (x1.trans x2)
      show tC (Ed Pd) [some d,some _,some (.tup [.str (rn r),.int (m:Nat)]),some (.str (rn r)),some (orD (qP ns m r sd))] st2
      cases q:qP ns m r sd with
      | none =>
        rw [q] at hP
        refine qS (b:=true) (evb (qCb (o:=none) (qB (i:=4) rfl))) (fun _=>?_) (fun e=>nomatch e)
        refine seq1 ?_
        refine⟨rn r,.inl rfl,?_,fun z=>⟨by show 1≤sizeLine;decide,hP⟩⟩
        have:=qN1 r
        exact Nat.le_trans (show _ ≤ 43 by show (Str.ofString "the rule ").length+(rn r).length+(Str.ofString " does not turn this node").length≤43;have h1:(Str.ofString "the rule ").length=9:=by decide
                                           have h2:(Str.ofString " does not turn this node").length=24:=by decide
                                           omega) (by decide)
      | some z =>
        rw [q] at hP
        refine qS (b:=false) (evb fun Q hq=>qB (i:=4) rfl _ ?_) (fun e=>nomatch e) (fun _=>?_)
        · cases z with
          | nd x=>show qC5 false (qAu (.nd x)) .non st2 _;rw [show qAu (.nd x) = .tup (.str (wd x)::ag x) from qAB x];exact hq
          | at_ i=>exact hq
        · refine rdX (qB (i:=4) rfl) ?_ hP
          cases z with
          | nd x=>show isX (nD x)=none;rw [qAB];rfl
          | at_ i=>rfl
end KR
namespace K31
open PySem L2 L3 KH KW K20 KR
theorem at2 {m:Nat} {a:List Nd} {ss:List Nat} (h:OkT m a ss):∀ {i:Nat} {nd:Nd},a[i]? = some nd→∃ s,ss[i]? = some s∧OkN (ss.take i) m nd s:=by
  induction h with
  | nil=>intro i nd hi;simp at hi
  | @snoc a ss x s h o ih =>
    intro i nd hi
    have hl:=h.len
    rcases qBQ hi with ⟨h1,h2⟩ | ⟨rfl,rfl⟩
    · obtain⟨s',e1,e2⟩:=ih h2
      refine⟨s',?_,?_⟩
      · rw [List.getElem?_append_left (by omega)];exact e1
      · rw [List.take_append_of_le_length (by omega)];exact e2
    · refine⟨s,?_,?_⟩
      · rw [hl];simp
      · rw [hl];simpa using o
theorem qBT {ss:List Nat} {i x s:Nat} (h:(ss.take i)[x]? = some s):ss[x]? = some s∧x<i:=by
  have hx:=(List.getElem?_eq_some_iff.mp h).1
  have:=List.length_take_le i ss
  have hi:x<i:=by omega
  rw [List.getElem?_take_of_lt hi] at h
  exact⟨h,hi⟩
theorem qBX {ss:List Nat} {m i:Nat} {nd:Nd} {s:Nat} (o:OkN (ss.take i) m nd s):OkN ss m nd s:=by
  cases nd with
  | two w x y=>exact⟨(qBT o.1).1,(qBT o.2.1).1,o.2.2⟩
  | nought x=>exact⟨(qBT o.1).1,o.2⟩
  | high x=>exact⟨(qBT o.1).1,o.2⟩
  | _=>exact o
theorem qHF {ss:List Nat} {m i:Nat} {nd:Nd} {s:Nat} {W:List Vl} {bx:List Int} {mk:List Bool} {br:List (Option Int)} (o:OkN (ss.take i) m nd s):worth nd (W.take i) bx mk br=worth nd W bx mk br:=by
  have t:∀ x,(ss.take i)[x]? = some 0→(W.take i)[x]? = W[x]?:=fun x h=>List.getElem?_take_of_lt (qBT h).2
  cases nd with
  | two w x y=>simp only [worth];rw [t x o.1,t y o.2.1]
  | nought x=>simp only [worth];rw [t x o.1]
  | high x=>simp only [worth];rw [t x o.1]
  | _=>rfl
structure Wd (ns:List Nd) (ss:List Nat) (W:List Vl) (bx:List Int) (mk:List Bool) (br:List (Option Int)):Prop where
  len:W.length=ns.length
  slen:ss.length=ns.length
  num:∀ i:Nat,ss[i]? = some 0→∃ v:Int,W[i]? = some (Vl.n v)∧0≤v∧v<65536
  at_:∀ (i:Nat) nd,ns[i]? = some nd→W[i]? = some (worth nd W bx mk br)
  ok:∀ (i:Nat) nd,ns[i]? = some nd→∃ s,ss[i]? = some s∧OkN ss 3 nd s
theorem qPr {ns:List Nd} {ss:List Nat} {bx:List Int} {mk:List Bool} {br:List (Option Int)} (g:Env bx mk br) (hb:∀ i,i<3→∃ v,br[i]? = some (some v)) (h:OkT 3 ns ss):Wd ns ss (qd ns bx mk br) bx mk br:=by
  have hf:=qLG g hb h
  refine⟨qAH _ _ _ _,h.len.symm,fun i hi=>?_,fun i nd hi=>?_,fun i nd hi=>?_⟩
  · have hs:=qE9 g h
    have hl:i<(qd ns bx mk br).length:=by rw [qAH,h.len];exact (List.getElem?_eq_some_iff.mp hi).1
    have e:=List.getElem?_eq_getElem hl
    have hv:=hf _ (List.getElem_mem hl)
    have iss:=hs.2 i _ 0 e hi
    generalize (qd ns bx mk br)[i]=v at e iss hv
    rcases iss with iss | iss
    · exact absurd iss hv
    cases v with
    | n z=>exact⟨z,e,iss.2.1,iss.2.2⟩
    | b k=>exact absurd iss (by show ¬ (0=1);decide)
    | non=>exact iss.elim
  · have hl:=(List.getElem?_eq_some_iff.mp hi).1
    have e:ns[i]=nd:=Option.some.inj ((List.getElem?_eq_getElem hl).symm.trans hi)
    rw [qHs hl,e,qDR]
    obtain⟨s,_,o⟩:=at2 h hi
    rw [qHF o]
  · obtain⟨s,e,o⟩:=at2 h hi
    exact⟨s,e,qBX o⟩
noncomputable def qPG (W:List Vl) (bx:List Int) (mk:List Bool) (br:List (Option Int)):Res→Vl
  | .nd x=>worth x W bx mk br
  | .at_ i=>W.getD i .non
noncomputable def OkR (ss:List Nat) (s:Nat):Res→Prop
  | .nd x=>OkN ss 3 x s
  | .at_ i=>ss[i]? = some s
section
variable {ns:List Nd} {ss:List Nat} {W:List Vl} {bx:List Int} {mk:List Bool} {br:List (Option Int)} {n x y:Nat}
theorem qAz (h:Wd ns ss W bx mk br) {i:Nat} {k:Int} (e:KR.numAt ns i=some k):W[i]? = some (.n k)∧ss[i]? = some 0:=by
  unfold KR.numAt at e
  split at e
  · rename_i nd en
    cases nd with
    | num a =>
      have:a=k:=Option.some.inj e
      subst this
      refine⟨h.at_ i _ en,?_⟩
      obtain⟨s,e1,o⟩:=h.ok i _ en
      rw [e1,o.2.2]
    | _=>cases e
  · cases e
theorem qBo (h:Wd ns ss W bx mk br) {w:Op2} {vx vy:Int} (ex:W[x]? = some (.n vx)) (ey:W[y]? = some (.n vy)):worth (.two w x y) W bx mk br=two w vx vy:=by simp only [worth,ex,ey]
theorem qPv (a b c:Int):(a * b%65536) * c%65536=a * b * c%65536:=by rw [Int.mul_emod,Int.emod_emod_of_dvd _ (Int.dvd_refl _),← Int.mul_emod]
theorem mul_r (a b c:Int):a * (b * c%65536)%65536=a * b * c%65536:=by rw [Int.mul_emod,Int.emod_emod_of_dvd _ (Int.dvd_refl _),← Int.mul_emod,Int.mul_assoc]
theorem qFG {w:Op2} (hw:qHf w=true) (a b c:Int):∃ u v z,two w a b = .n u∧two w b c = .n v∧two w u c = .n z∧two w a v = .n z:=by
  cases w with
  | add=>exact⟨_,_,_,rfl,rfl,rfl,by show Vl.n _=Vl.n _;congr 1;omega⟩
  | mul=>exact⟨_,_,_,rfl,rfl,rfl,by show Vl.n _=Vl.n _;rw [qPv,mul_r]⟩
  | _=>cases hw
theorem am0 {w:Op2} {s x y:Nat} (hw:qHf w=true) (h:OkN ss 3 (.two w x y) s):s=0:=by
  cases w with
  | add=>exact h.2.2
  | mul=>exact h.2.2
  | _=>cases hw
theorem sound (h:Wd ns ss W bx mk br) {sd:Nd} {s:Nat} {r:Rl} {res:Res} (o:OkN ss 3 sd s) (hn:n<ns.length) (e:qP ns n r sd=some res):OkR ss s res∧qPG W bx mk br res=worth sd W bx mk br:=by
  cases sd with
  | two w x y =>
    obtain⟨ox,oy,os⟩:=o
    obtain⟨vx,ex,x0,x1⟩:=h.num x ox
    obtain⟨vy,ey,y0,y1⟩:=h.num y oy
    have hw:=qBo h (w:=w) ex ey
    cases r with
    | swap =>
      k_dat 0"r8"
      split at e
      · rename_i c
        cases e
        refine⟨⟨oy,ox,os⟩,?_⟩
        show worth (.two w y x) W bx mk br=_
        rw [hw,qBo h ey ex]
        cases w with
        | add=>show Vl.n _=Vl.n _;rw [Int.add_comm]
        | mul=>show Vl.n _=Vl.n _;rw [Int.mul_comm]
        | over=>show Vl.b _=Vl.b _;rw [Int.add_comm]
        | wide=>show Vl.b _=Vl.b _;rw [Int.mul_comm]
        | _=>cases c
      · cases e
    | group =>
      k_dat 0"r8"
      split at e
      · rename_i v p q en
        split at e
        · rename_i c
          obtain⟨c1,rfl,c3⟩:=c
          cases e
          obtain⟨_,_,⟨op,oq,oz⟩⟩:=h.ok x _ en
          obtain⟨sn,esn,osn⟩:=h.ok n _ c3
          have:=am0 c1 osn
          subst this
          obtain⟨vp,ep,_⟩:=h.num p op
          obtain⟨vq,eq,_⟩:=h.num q oq
          obtain⟨u,t,z,e1,e2,e3,e4⟩:=qFG c1 vp vq vy
          have wx:=h.at_ x _ en
          rw [qBo h ep eq,e1,ex] at wx
          cases wx
          have wn:=h.at_ n _ c3
          rw [qBo h eq ey,e2] at wn
          refine⟨⟨op,esn,os⟩,?_⟩
          show worth (.two v p n) W bx mk br=_
          rw [qBo h ep wn,hw,e3,e4]
        · cases e
      · cases e
    | ungroup =>
      k_dat 0"r8"
      split at e
      · rename_i v p q en
        split at e
        · rename_i c
          obtain⟨c1,rfl,c3⟩:=c
          cases e
          obtain⟨_,_,⟨op,oq,oz⟩⟩:=h.ok y _ en
          obtain⟨sn,esn,osn⟩:=h.ok n _ c3
          have:=am0 c1 osn
          subst this
          obtain⟨vp,ep,_⟩:=h.num p op
          obtain⟨vq,eq,_⟩:=h.num q oq
          obtain⟨u,t,z,e1,e2,e3,e4⟩:=qFG c1 vx vp vq
          have wy:=h.at_ y _ en
          rw [qBo h ep eq,e2,ey] at wy
          cases wy
          have wn:=h.at_ n _ c3
          rw [qBo h ex ep,e1] at wn
          refine⟨⟨esn,oq,os⟩,?_⟩
          show worth (.two v n q) W bx mk br=_
          rw [qBo h wn eq,hw,e3,e4]
        · cases e
      · cases e
    | subnum =>
      cases w with
      | sub =>
        k_dat 0"r8"
        split at e
        · rename_i k ek
          split at e
          · rename_i c
            cases e
            obtain⟨wk,_⟩:=qAz h ek
            rw [ey] at wk
            cases wk
            obtain⟨wn,sn⟩:=qAz h c
            refine⟨⟨ox,sn,os⟩,?_⟩
            show worth (.two .add x n) W bx mk br=_
            rw [qBo h ex wn,hw]
            show Vl.n _=Vl.n _
            congr 1
            omega
          · cases e
        · cases e
      | _=>cases e
    | zero =>
      cases w with
      | add =>
        k_dat 0"r8"
        split at e
        · rename_i c
          cases e
          obtain⟨wk,_⟩:=qAz h c
          rw [ey] at wk
          cases wk
          have os:s=0:=os
          refine⟨by rw [os];exact ox,?_⟩
          show W.getD x .non=_
          rw [hw,List.getD_eq_getElem?_getD,ex]
          show Vl.n _=Vl.n _
          congr 1
          omega
        · cases e
      | _=>cases e
    | one =>
      cases w with
      | mul =>
        k_dat 0"r8"
        split at e
        · rename_i c
          cases e
          obtain⟨wk,_⟩:=qAz h c
          rw [ey] at wk
          cases wk
          have os:s=0:=os
          refine⟨by rw [os];exact ox,?_⟩
          show W.getD x .non=_
          rw [hw,List.getD_eq_getElem?_getD,ex]
          show Vl.n _=Vl.n _
          congr 1
          omega
        · cases e
      | _=>cases e
    | nil =>
      cases w with
      | mul =>
        k_dat 0"r8"
        split at e
        · rename_i c
          cases e
          obtain⟨wk,_⟩:=qAz h c
          rw [ey] at wk
          cases wk
          have os:s=0:=os
          refine⟨by rw [os];exact oy,?_⟩
          show W.getD y .non=_
          rw [hw,List.getD_eq_getElem?_getD,ey]
          show Vl.n _=Vl.n _
          congr 1
          omega
        · cases e
      | _=>cases e
    | self =>
      cases w with
      | sub =>
        k_dat 0"r8"
        split at e
        · rename_i c
          subst c
          cases e
          rw [ex] at ey
          cases ey
          refine⟨⟨by decide,by decide,os⟩,?_⟩
          rw [hw]
          show Vl.n _=Vl.n _
          congr 1
          omega
        · cases e
      | _=>cases e
    | count =>
      k_dat 0"r8"
      split at e
      · rename_i c
        split at e
        · rename_i a b ea eb
          obtain⟨wa,_⟩:=qAz h ea
          obtain⟨wb,_⟩:=qAz h eb
          rw [ex] at wa
          rw [ey] at wb
          cases wa
          cases wb
          obtain⟨v,ev⟩:=qPL c vx vy
          rw [ev] at e hw
          cases e
          have hv:=qCu w vx vy
          rw [ev] at hv
          exact⟨⟨hv.2.1,hv.2.2,os.trans hv.1⟩,hw.symm⟩
        · cases e
      · cases e
    | sure =>
      k_dat 0"r8"
      split at e
      · cases e
      · rename_i c
        split at e
        · rename_i a b ea eb
          obtain⟨wa,_⟩:=qAz h ea
          obtain⟨wb,_⟩:=qAz h eb
          rw [ex] at wa
          rw [ey] at wb
          cases wa
          cases wb
          obtain⟨v,ev⟩:=qND (by simpa using c) vx vy
          rw [ev] at e hw
          cases e
          have hv:=qCu w vx vy
          rw [ev] at hv
          have s1:s=1:=os.trans hv
          rw [hw]
          cases v
          · exact⟨s1,rfl⟩
          · exact⟨s1,rfl⟩
        · cases e
    | never =>
      k_dat 0"r8"
      split at e
      · cases e
      · rename_i c
        split at e
        · rename_i c2
          cases e
          have hv:=qCu w vx vy
          obtain⟨v,ev⟩:=qND (by simpa using c) vx vy
          rw [ev] at hv
          have s1:s=1:=os.trans hv
          refine⟨s1,?_⟩
          rw [hw]
          show Vl.b false=_
          rcases c2 with ⟨k,hk,ek⟩ | ⟨rfl,rfl⟩
          · obtain⟨wk,_⟩:=qAz h ek
            rw [ey] at wk
            cases wk
            cases w with
            | over =>
              k_dat 0"r32"
              subst hk
              show _=Vl.b (decide (65536≤vx+0))
              k_dat 0"r25"
            | under =>
              k_dat 0"r32"
              subst hk
              show _=Vl.b (decide (vx<0))
              k_dat 0"r25"
            | wide =>
              k_dat 0"r32"
              show _=Vl.b (decide (65536≤vx * vy))
              rcases hk with rfl | rfl
              · k_dat 0"r25"
              · k_dat 0"r25"
            | rest =>
              k_dat 0"r32"
              show _=Vl.b (decide (vy≠0)&&decide (vx%vy≠0))
              rcases hk with rfl | rfl
              · rfl
              · rw [decide_eq_false (p:=vx%1≠0) (by omega)];rfl
            | _=>exact absurd rfl c
          · rw [ex] at ey
            cases ey
            show _=Vl.b (decide (vx<vx))
            k_dat 0"r25"
        · cases e
  | nought x =>
    cases r with
    | sure =>
      k_dat 0"r8"
      split at e
      · rename_i a ea
        cases e
        obtain⟨wa,_⟩:=qAz h ea
        refine⟨?_,?_⟩
        · show OkN ss 3 (yn _) s
          unfold yn;split<;>exact o.2
        · have:worth (.nought x) W bx mk br = .b (decide (a=0)):=by simp only [worth,wa]
          rw [this]
          show worth (yn _) W bx mk br=_
          cases decide (a=0)<;>rfl
      · cases e
    | _=>cases e
  | high x =>
    cases r with
    | sure =>
      k_dat 0"r8"
      split at e
      · rename_i a ea
        cases e
        obtain⟨wa,_⟩:=qAz h ea
        refine⟨?_,?_⟩
        · show OkN ss 3 (yn _) s
          unfold yn;split<;>exact o.2
        · have:worth (.high x) W bx mk br = .b (decide (32768≤a)):=by simp only [worth,wa]
          rw [this]
          show worth (yn _) W bx mk br=_
          cases decide (32768≤a)<;>rfl
      · cases e
    | _=>cases e
  | _=>cases r<;>cases e
end
end K31
namespace K31
open PySem PySem.Spec PyProof.Rows L2 L3 KH KS KW K20
open KR (Ev EvB qB qK qQ seq1 qh qS ifS evb qAk qY qF qN rdR qo qAA qAL qAg qz rn Rl InT Res qAu orD qP Nums wd ag qAB ql qAK qAI qAb qAY qa)
def qAG (st:Sto) (k e c:Nat):Prop:=∃ (a:Nat) (o:SO) (xs:List Int),st[k]? = some (.rw [.lst e,.int (a:Nat)])∧e≠k∧st[e]? = some o∧o.items=xs.map .int∧xs.length≤63∧a≤c
def KD (k:Nat) (st st':Sto):Prop:=∀ i o,i≠k→st[i]? = some o→st'[i]? = some o
theorem KD.refl {k:Nat} (st:Sto):KD k st st:=fun _ _ _ h=>h
theorem KD.trans {k:Nat} {a b c:Sto} (h:KD k a b) (h':KD k b c):KD k a c:=fun i o n q=>h' i o n (h i o n q)
theorem KD.of {k:Nat} {a b:Sto} (h:qg a b):KD k a b:=fun i o _ q=>h i o q
theorem KD.ext {k:Nat} {a b c:Sto} (h:KD k a b) (h':qg b c):KD k a c:=h.trans (.of h')
theorem qAG.ext {st st':Sto} {k e c:Nat} (h:qAG st k e c) (x:qg st st'):qAG st' k e c:=by
  obtain⟨a,o,xs,h1,h2,h3,r⟩:=h
  exact⟨a,o,xs,x _ _ h1,h2,x _ _ h3,r⟩
theorem qAG.mono {st:Sto} {k e c c':Nat} (h:qAG st k e c) (l:c≤c'):qAG st k e c':=by
  obtain⟨a,o,xs,h1,h2,h3,h4,h5,h6⟩:=h
  exact⟨a,o,xs,h1,h2,h3,h4,h5,Nat.le_trans h6 l⟩
def qAP:RDL:=fun ds st P=>∃ k e c:Nat,ds=[.lst k]∧qAG st k e c∧c<1000000∧∀ (v:Int) st',KD k st st'→qAG st' k e (c+1)→P (.int v) st'
def qPU (p:Op2→Prop):RDL:=fun ds st P=>∃ (w:Str) (x y:Int),ds=[.str w,.int x,.int y]∧0≤x∧x<65536∧0≤y∧y<65536∧((w = "nought" ∧ ∀ st',qg st st'→P (.bl (decide (x=0))) st')∨(w = "high" ∧ ∀ st',qg st st'→P (.bl (decide (32768≤x))) st')∨∃ o,p o∧w=nm o∧∀ st',qg st st'→P (vD (two o x y)) st')
def qCi:RDL:=qPU fun o=>KR.qCB o=false
def qBP:RDL:=qPU fun _=>True
def qQc (ss:List Nat) (vs:List Vl):Prop:=∀ i:Nat,ss[i]? = some 0→∃ v:Int,vs[i]? = some (Vl.n v)∧0≤v∧v<65536
structure Tim where
  bx:List Int
  mr:List Bool
  br:List Int
structure qEF (e:Tim):Prop where
  l8:e.bx.length=8
  l3:e.mr.length=3
  m3:e.br.length=3
  b:∀ v∈e.bx,0≤v∧v<65536
  r:∀ v∈e.br,0≤v∧v<65536
structure qHq (st:Sto) (b m r:Nat) (e:Tim):Prop where
  b:st[b]? = some (.rw (e.bx.map .int))
  m:st[m]? = some (.rw (e.mr.map .bl))
  r:st[r]? = some (.rw (e.br.map .int))
theorem qHq.ext {st st':Sto} {b m r:Nat} {e:Tim} (h:qHq st b m r e) (x:qg st st'):qHq st' b m r e:=⟨x _ _ h.b,x _ _ h.m,x _ _ h.r⟩
noncomputable abbrev Tim.w (e:Tim) (nd:Nd) (vs:List Vl):Vl:=worth nd vs e.bx e.mr (e.br.map some)
noncomputable abbrev Tim.ws (e:Tim) (ns:List Nd):List Vl:=qd ns e.bx e.mr (e.br.map some)
def qBZ:RDL:=fun ds st P=>∃ (nd:Nd) (s f b m r:Nat) (ss:List Nat) (vs:List Vl) (e:Tim),ds=[nD nd,.lst f,.lst b,.lst m,.lst r]∧Has st f (vs.map vD)∧qHq st b m r e∧qEF e∧OkN ss 3 nd s∧qQc ss vs∧vs.length≤1000∧∀ st',qg st st'→P (vD (e.w nd vs)) st'
def qCa:RDL:=fun ds st P=>∃ (ns:List Nd) (ss:List Nat) (b m r:Nat) (e:Tim),ds=[tab ns,.lst b,.lst m,.lst r]∧qHq st b m r e∧qEF e∧OkT 3 ns ss∧ns.length≤500∧∀ st' n,qg st st'→st'[n]? = some (.rw ((e.ws ns).map vD))→st.length≤n→P (.lst n) st'
abbrev EvX (te:TD) (ρ:Rho) (st:Sto) (d:Dt):Prop:=∀ P:VD,(∀ st',qg st st'→P d st')→te ρ st P
abbrev qHT (c:TBD) (ρ:Rho) (st:Sto) (b:Bool):Prop:=∀ P:Bool→Sto→Prop,(∀ st',qg st st'→P b st')→c ρ st P
section
variable {E:qAq} {ρ:Rho} {st st':Sto} {A C N:TSD} {te ta tb:TD} {c c1 c2:TBD} {b b1 b2:Bool} {i j:Nat} {d:Dt}
theorem qGJ (h:Ev te ρ st d):EvX te ρ st d:=fun P hp=>h P (hp st (.refl _))
theorem qOs (h:EvB c ρ st b):qHT c ρ st b:=fun P hp=>h P (hp st (.refl _))
theorem xb (h:EvX te ρ st (.bl b)):qHT (qI te) ρ st b:=fun P hp=>h _ hp
theorem qM7 (h1:qHT c1 ρ st b1) (h2:b1=true→∀ st',qg st st'→qHT c2 ρ st' b2):qHT (qAr c1 c2) ρ st (b1&&b2):=fun P hp=>h1 _ fun st1 x1=>by
  cases b1 with
  | true=>exact qAo (h2 rfl st1 x1 P fun st2 x2=>hp st2 (x1.trans x2))
  | false=>exact qAt (hp st1 x1)
theorem xIf (h1:qHT c ρ st b) (qt:b=true→∀ st',qg st st'→A { E with nx:=N E } ρ st') (qf:b=false→∀ st',qg st st'→N E ρ st'):tseq (qi c A qH) N E ρ st:=by
  refine seq1 (h1 _ fun st1 x1=>?_)
  cases b with
  | true=>exact qAo (qt rfl st1 x1)
  | false=>exact qAt (qf rfl st1 x1)
theorem qHE {x y:Int} (h:Ev ta ρ st (.int x)) (h2:Ev tb ρ st (.int y)):Ev (qE (qAN fun i j=>decide (i<j)) ta tb) ρ st (.bl (decide (x<y))):=fun P hp=>h _ (h2 _ hp)
theorem qCI {neg:Bool} {w:Str} {ss:List Str} {t:TAD} (h:Ev ta ρ st (.str w)) (h2:∀ P:List Dt→Sto→Prop,P (ss.map .str) st→t ρ st P) (hl:ss.length≤1000):EvX (qE (qAe neg) ta (qAw t)) ρ st (.bl (ss.contains w != neg)):=fun P hp=>h _ (h2 _ ⟨by rw [List.length_map];exact Nat.le_of_lt (qAS hl),by
  show (match qc (st++[SO.rw (ss.map .str)]) (.lst st.length) with | some xs=>_ | none=>_)
  rw [show qc (st++[SO.rw (ss.map .str)]) (.lst st.length)=some (ss.map .str) from qp ⟨_,q8,rfl⟩]
  refine⟨rfl,qAg ss,?_⟩
  rw [qAL];exact hp _ (.app _ _)⟩)
theorem qE7 {t:TAD} {ds:List Dt} {v:Int} (h:∀ P:List Dt→Sto→Prop,P ds st→t ρ st P) (hl:ds.length≤1000) (h2:∀ st',qg st st'→EvX tb ρ st' (.int v)) (e:atI ds v=some d):EvX (qE qM (qAw t) tb) ρ st d:=fun P hp=>h _ ⟨Nat.le_of_lt (qAS hl),h2 _ (.app _ _) _ fun st1 x1=>qDA (x1 _ _ q8) e (hp st1 ((qg.app _ _).trans x1))⟩
end
abbrev n3:TSD:=(tseq (qi (qI (qE (qAN fun i j=>decide (i<j)) (qC 2) (qJ qAd (qA (qC 1) qG)))) (tseq (qV (qE qM (qC 1) (qC 2))) qH) qH) (tseq (qi (qI (qE (qU false) (qJ qAd (qA (qC 1) qG)) (qD (Dt.int 0)))) (tseq (qV (qE L3.qBW (qE qCX (qE qCX (qC 2) (qC 2)) (qD (Dt.int 3))) (qC 2))) qH) qH) (tseq (qb (qE qAF (qE qCX (qE L3.qBW (qE L3.qBW (qE qAF (qE qM (qC 1) (qE qAF (qC 2) (qJ qAd (qA (qC 1) qG)))) (qD (Dt.int 2147483629))) (qE qCX (qC 2) (qD (Dt.int 7919)))) (qD (Dt.int 5))) (qD (Dt.int 50021))) (qD (Dt.int 2147483587))) (qO 3)) (tseq (qV (qE qAF (qE qCX (qC 3) (qC 3)) (qD (Dt.int 2147483563)))) qH))))
abbrev qDS:TSD:=(tseq (qb (qE qM (qC 0) (qD (Dt.int 0))) (qO 1)) (tseq (qb (qE qM (qC 0) (qD (Dt.int 1))) (qO 2)) (tseq (qb (qE L3.qBW (qC 2) (qD (Dt.int 1))) (qOv (qC 0) (qD (Dt.int 1)))) n3)))
abbrev tr1:TSD:=(tseq (qi (qBv (qI (qE (qU false) (qC 0) (qD (Dt.str "over")))) (qI (qE (qU false) (qC 0) (qD (Dt.str "wide"))))) (tseq (qV (qE qM (qAw (qA (qE (qAN fun i j=>decide (j<i)) (qE L3.qBW (qC 1) (qC 2)) (qD (Dt.int 65535))) (qA (qE (qAN fun i j=>decide (j<i)) (qE qCX (qC 1) (qC 2)) (qD (Dt.int 65535))) qG))) (qJ qFC (qA (qE (qU false) (qC 0) (qD (Dt.str "wide"))) qG)))) qH) qH) (tseq (qi (qI (qE (qU false) (qC 0) (qD (Dt.str "under")))) (tseq (qV (qE (qAN fun i j=>decide (i<j)) (qC 1) (qC 2))) qH) qH) (tseq (qV (qBt (qE (qAN fun i j=>decide (j<i)) (qC 2) (qD (Dt.int 0))) (qE (qAN fun i j=>decide (j<i)) (qE qAF (qC 1) (qC 2)) (qD (Dt.int 0))))) qH)))
abbrev qBi:TSD:=(tseq (qi (qBv (qI (qE (qU false) (qC 0) (qD (Dt.str "nought")))) (qI (qE (qU false) (qC 0) (qD (Dt.str "high"))))) (tseq (qV (qE qM (qAw (qA (qE (qU false) (qC 1) (qD (Dt.int 0))) (qA (qE (qAN fun i j=>decide (j<i)) (qC 1) (qD (Dt.int 32767))) qG))) (qJ qFC (qA (qE (qU false) (qC 0) (qD (Dt.str "high"))) qG)))) qH) qH) tr1)
abbrev qA6:TSD:=(tseq (qi (qI (qE (qAe false) (qC 0) (qAw (qA (qD (Dt.str "add")) (qA (qD (Dt.str "sub")) (qA (qD (Dt.str "mul")) qG)))))) (tseq (qV (qE qAF (qE qD6 (qE4 [(Sum.inr (Str.ofString "add"),(qE L3.qBW (qC 1) (qC 2))),(Sum.inr (Str.ofString "sub"),(qE L3.qGm (qC 1) (qC 2))),(Sum.inr (Str.ofString "mul"),(qE qCX (qC 1) (qC 2)))]) (qC 0)) (qD (Dt.int 65536)))) qH) qH) (tseq (qV (qJ K31.qCi (qA (qC 0) (qA (qC 1) (qA (qC 2) qG))))) qH))
abbrev w3:TSD:=(tseq (qV (qJ K31.qBP (qA (qE qM (qC 0) (qD (Dt.int 0))) (qA (qE qM (qC 1) (qE qM (qC 0) (qD (Dt.int 1)))) (qA (qE qM (qC 1) (qE qM (qC 0) (qKg (qD (Dt.int 1))))) qG))))) qH)
abbrev w2:TSD:=(tseq (qi (qI (qE (qAe false) (qE qM (qC 0) (qD (Dt.int 0))) (qAw (qA (qD (Dt.str "box")) (qA (qD (Dt.str "mark")) (qA (qD (Dt.str "item")) qG)))))) (tseq (qV (qE qM (qE qD6 (qE4 [(Sum.inr (Str.ofString "box"),(qC 2)),(Sum.inr (Str.ofString "mark"),(qC 3)),(Sum.inr (Str.ofString "item"),(qC 4))]) (qE qM (qC 0) (qD (Dt.int 0)))) (qE qM (qC 0) (qD (Dt.int 1))))) qH) qH) w3)
abbrev w1:TSD:=(tseq (qi (qI (qE (qAe false) (qE qM (qC 0) (qD (Dt.int 0))) (qAw (qA (qD (Dt.str "yes")) (qA (qD (Dt.str "no")) qG))))) (tseq (qV (qE (qU false) (qE qM (qC 0) (qD (Dt.int 0))) (qD (Dt.str "yes")))) qH) qH) w2)
abbrev qBb:TSD:=(tseq (qi (qI (qE (qU false) (qE qM (qC 0) (qD (Dt.int 0))) (qD (Dt.str "num")))) (tseq (qV (qE qM (qC 0) (qD (Dt.int 1)))) qH) qH) w1)
abbrev qCF:TSD:=(tseq (qb (qAw qG) (qO 4)) (tseq (qD3 (qDU (qC 0)) (qO 5) (tseq (qCN (qAV (qC 4) (qJ K31.qBZ (qA (qC 5) (qA (qC 4) (qA (qC 1) (qA (qC 2) (qA (qC 3) qG)))))))) qH)) (tseq (qV (qC 4)) qH)))
theorem qFt {ds:List Dt} {st:Sto} {Pd:VD} (h:qAP ds st Pd):qDS (Ed Pd) (qW ["deck", "cells", "at", "mixed"] ds) st:=by
  obtain⟨k,e,c,rfl,⟨a,o,xs,h1,h2,h3,h4,h5,h6⟩,hc,hP⟩:=h
  refine qh (ql (i:=0) (qB (i:=0) rfl) (show qc st (.lst k)=some [.lst e,.int (a:Nat)] from qp ⟨_,h1,rfl⟩) qK rfl _ ?_)
  refine qh (ql (i:=1) (qB (i:=0) rfl) (show qc st (.lst k)=some [.lst e,.int (a:Nat)] from qp ⟨_,h1,rfl⟩) qK rfl _ ?_)
  show (match st[k]? with | some (.rw xs)=>(match ixN xs.length 1 with | some j=>_ | none=>_) | _=>_)
  rw [h1]
  show n3 (Ed Pd) [some (.lst k),some (.lst e),some (.int (a:Nat)),none] (st.set k (.rw [.lst e,.int ((a:Nat)+1)]))
  generalize hs:st.set k (.rw [.lst e,.int ((a:Nat)+1)])=s1
  have g1:s1[k]? = some (.rw [.lst e,.int ((a+1:Nat):Int)]):=by
    rw [← hs,List.getElem?_set_self (List.getElem?_eq_some_iff.mp h1).1];rfl
  have g2:KD k st s1:=fun i o' n q=>by rw [← hs,List.getElem?_set_ne (Ne.symm n)];exact q
  have g3:=g2 e o h2 h3
  have dk:qAG s1 k e (c+1):=⟨a+1,o,xs,g1,h2,g3,h4,h5,by omega⟩
  have hq:∀ v:Int,Pd (.int v) s1:=fun v=>hP v s1 g2 dk
  have hseq:qc s1 (.lst e)=some (xs.map .int):=qp ⟨o,g3,h4⟩
  have hl:Ev (qJ qAd (qA (qC 1) qG)) [some (.lst k),some (.lst e),some (.int (a:Nat)),none] s1 (.int (xs.length:Int)):=by
    have:=qAI (te:=qC 1) (ρ:=[some (.lst k),some (.lst e),some (.int (a:Nat)),none]) (qB (i:=1) rfl) hseq
    k_dat 0"r20"
    exact this
  have at_:∀ j:Nat,j<xs.length→∃ v:Int,(xs.map Dt.int)[j]? = some (.int v):=fun j hj=>⟨xs[j],by rw [List.getElem?_map,List.getElem?_eq_getElem hj];rfl⟩
  refine qS (b:=decide ((a:Int)<(xs.length:Int))) (evb (qHE (qB (i:=2) rfl) hl)) (fun z=>?_) (fun z=>?_)
  · obtain⟨v,ev⟩:=at_ a (by have:=of_decide_eq_true z;omega)
    exact rdR (ql (qB (i:=1) rfl) hseq (qB (i:=2) rfl) ev) (hq v)
  refine qS (b:=decide ((xs.length:Int)=0)) (evb (qAA hl qK)) (fun z=>?_) (fun z=>?_)
  · refine⟨.inl ⟨by omega,by omega⟩,.inr ⟨by decide,by decide⟩,hq _⟩
  · have x0:0<xs.length:=by have:=of_decide_eq_false z;omega
    obtain⟨v,ev⟩:=at_ (a%xs.length) (Nat.mod_lt _ x0)
    refine qh ?_
    have hm:Ev (qE qAF (qC 2) (qJ qAd (qA (qC 1) qG))) [some (.lst k),some (.lst e),some (.int (a:Nat)),none] s1 (.int ((a%xs.length:Nat):Int)):=fun P hp=>by
      exact qa (qB (i:=2) rfl) hl (by omega) P hp
    refine ql (qB (i:=1) rfl) hseq hm ev _ ⟨by decide,.inr ⟨by decide,by decide⟩,.inr ⟨by decide,by decide⟩,by decide,?_⟩
    generalize ((v%2147483629+(a:Int) * 7919+5) * 50021)=z1
    have m0:0≤z1%2147483587:=Int.emod_nonneg _ (by decide)
    have m1:z1%2147483587<2147483587:=Int.emod_lt_of_pos _ (by decide)
    exact⟨.inl ⟨by omega,by omega⟩,by decide,hq _⟩
end K31
namespace K18
open PySem PySem.Spec PyProof.Rows L2 L3 KH KS KW K20
def j3:TSD:=(tseq (qV (qE qAF (qE qD6 (qE4 [(Sum.inr (Str.ofString "add"),(qE L3.qBW (qC 1) (qC 2))),(Sum.inr (Str.ofString "sub"),(qE L3.qGm (qC 1) (qC 2))),(Sum.inr (Str.ofString "mul"),(qE qCX (qC 1) (qC 2)))]) (qC 0)) (qD (Dt.int 65536)))) qH)
section
variable {E:qAq} {st:Sto} {x y:Int}
noncomputable abbrev RJ (o:Op2) (x y:Int):Rho:=[some (.str (nm o)),some (.int x),some (.int y)]
theorem qMF {w:Op2} (hw:w = .add∨w = .sub∨w = .mul) (cm:qGA x y) (hP:∀ st',qg st st'→E.rt (vD (two w x y)) st'):j3 E (RJ w x y) st:=by
  simp only [j3,tseq,qV,qE,qE4,tvK,qC,qD,L3.qBW,L3.qGm,qCX,List.getElem?_cons_zero,List.getElem?_cons_succ,List.map_cons,List.map_nil,List.zip_cons_cons,List.zip_nil_right,q8]
  refine⟨cm,trivial,?_⟩
  rw [qIG]
  simp only [qD6,q8,qJW]
  have e:∀ kvs,qg st (st++[SO.dc kvs]):=fun kvs=>.app _ _
  rcases hw with rfl | rfl | rfl
  · rw [show qD9 [(Sum.inr (Str.ofString "add"),Dt.int (x+y)),(Sum.inr (Str.ofString "sub"),Dt.int (x - y)),(Sum.inr (Str.ofString "mul"),Dt.int (x * y))] (Sum.inr (nm .add))=some (.int (x+y)) from rfl]
    exact⟨by decide,hP _ (e _)⟩
  · rw [show qD9 [(Sum.inr (Str.ofString "add"),Dt.int (x+y)),(Sum.inr (Str.ofString "sub"),Dt.int (x - y)),(Sum.inr (Str.ofString "mul"),Dt.int (x * y))] (Sum.inr (nm .sub))=some (.int (x - y)) from rfl]
    exact⟨by decide,hP _ (e _)⟩
  · rw [show qD9 [(Sum.inr (Str.ofString "add"),Dt.int (x+y)),(Sum.inr (Str.ofString "sub"),Dt.int (x - y)),(Sum.inr (Str.ofString "mul"),Dt.int (x * y))] (Sum.inr (nm .mul))=some (.int (x * y)) from rfl]
    exact⟨by decide,hP _ (e _)⟩
end
end K18
namespace K31
open PySem PySem.Spec PyProof.Rows L2 L3 KH KS KW K20
open KR (Ev EvB qB qK qQ seq1 qh qS ifS evb qAk qY qF qN rdR qo qAA qAL qAg qz rn Rl InT Res qAu orD qP Nums wd ag qAB ql qAK qAI qAb qAY qa qm qAn)
section
variable {E:qAq} {ρ:Rho} {st st':Sto} {A C N:TSD} {te ta tb:TD} {c c1 c2:TBD} {b b1 b2:Bool} {i j:Nat} {d:Dt}
theorem qFY (h:Ev te ρ st (.bl b)):Ev (qJ qFC (qA te qG)) ρ st (.int (if b=true then 1 else 0)):=fun P hp=>h _ (by cases b<;>exact hp)
theorem qLe {x y:Int} (h:Ev ta ρ st (.int x)) (h2:Ev tb ρ st (.int y)) (hc:qGA x y):Ev (qE qCX ta tb) ρ st (.int (x * y)):=fun P hp=>h _ (h2 _ ⟨hc,hp⟩)
theorem qLd (h:EvX te ρ st d) (hp:∀ st',qg st st'→E.rt d st'):tseq (qV te) N E ρ st:=h _ hp
end
theorem qEb {ds:List Dt} {st:Sto} {Pd:VD} (h:qCi ds st Pd):qBi (Ed Pd) (qW ["word", "x", "y"] ds) st:=by
  obtain⟨w,x,y,rfl,x0,x1,y0,y1,h⟩:=h
  have cm:qGA x y:=qGI x0 (by omega)
  have eqW:∀ (s:Str) (st:Sto),Ev (qE (qU false) (qC 0) (qD (.str s))) [some (.str w),some (.int x),some (.int y)] st (.bl (w==s)):=fun s st=>qo (qB (i:=0) rfl)
  show tseq _ _ (Ed Pd) [some (.str w),some (.int x),some (.int y)] st
  have one:(w == "nought" || w == "high")=true→(∀ st',qg st st'→Pd (if (w == "high")=true then .bl (decide (32767<x)) else .bl (decide (x=0))) st')→qBi (Ed Pd) [some (.str w),some (.int x),some (.int y)] st:=fun e q=>by
    refine qS (b:=w == "nought" || w == "high") (qm (evb (eqW _ _)) fun _=>evb (eqW _ _)) (fun _=>?_) (fun z=>by rw [e] at z;cases z)
    refine qLd (d:=if (w == "high")=true then .bl (decide (32767<x)) else .bl (decide (x=0))) ?_ q
    refine qE7 (ds:=[.bl (decide (x=0)),.bl (decide (32767<x))]) (v:=if (w == "high")=true then 1 else 0) (qF (qAA (qB (i:=1) rfl) qK) (qF (qAY (qB (i:=1) rfl) qK) qN)) (by show 2≤1000;decide) (fun st1 _=>qGJ (qFY (eqW _ _))) ?_
    cases (w == "high")<;>rfl
  rcases h with ⟨rfl,h⟩ | ⟨rfl,h⟩ | ⟨o,ho,rfl,h⟩
  · exact one rfl h
  · refine one rfl fun st' x'=>?_
    have:=h st' x'
    rw [show decide (32768≤x)=decide (32767<x) from decide_eq_decide.mpr (by omega)] at this
    exact this
  · have n1:(nm o == "nought" || nm o == "high")=false:=by cases o<;>rfl
    refine qS (b:=nm o == "nought" || nm o == "high") (qm (evb (eqW _ _)) fun _=>evb (eqW _ _)) (fun z=>by rw [n1] at z;cases z) (fun _=>?_)
    show tr1 (Ed Pd) [some (.str (nm o)),some (.int x),some (.int y)] st
    have two':(nm o == "over" || nm o == "wide")=true→(∀ st',qg st st'→Pd (if (nm o == "wide")=true then .bl (decide (65535<x * y)) else .bl (decide (65535<x+y))) st')→tr1 (Ed Pd) [some (.str (nm o)),some (.int x),some (.int y)] st:=fun e q=>by
      refine qS (b:=nm o == "over" || nm o == "wide") (qm (evb (eqW _ _)) fun _=>evb (eqW _ _)) (fun _=>?_) (fun z=>by rw [e] at z;cases z)
      refine qLd (d:=if (nm o == "wide")=true then .bl (decide (65535<x * y)) else .bl (decide (65535<x+y))) ?_ q
      refine qE7 (ds:=[.bl (decide (65535<x+y)),.bl (decide (65535<x * y))]) (v:=if (nm o == "wide")=true then 1 else 0) (qF (qAY (qAb (qB (i:=1) rfl) (qB (i:=2) rfl)) qK) (qF (qAY (qLe (qB (i:=1) rfl) (qB (i:=2) rfl) cm) qK) qN)) (by show 2≤1000;decide) (fun st1 _=>qGJ (qFY (eqW _ _))) ?_
      cases (nm o == "wide")<;>rfl
    cases o with
    | over =>
      refine two' rfl fun st' x'=>?_
      have:=h st' x'
      rw [show two .over x y = .b (decide (65535<x+y)) from congrArg Vl.b (decide_eq_decide.mpr (by omega))] at this
      exact this
    | wide =>
      refine two' rfl fun st' x'=>?_
      have:=h st' x'
      rw [show two .wide x y = .b (decide (65535<x * y)) from congrArg Vl.b (decide_eq_decide.mpr (by omega))] at this
      exact this
    | under =>
      k_dat 0"r55"
      refine qS (b:=true) (evb (eqW _ _)) (fun _=>?_) (fun z=>nomatch z)
      exact rdR (qHE (qB (i:=1) rfl) (qB (i:=2) rfl)) (h st (.refl _))
    | rest =>
      k_dat 0"r55"
      refine qS (b:=false) (evb (eqW _ _)) (fun z=>nomatch z) (fun _=>?_)
      refine rdR (d:=.bl (decide (0<y)&&decide (0<x%y))) (qAn (qAY (qB (i:=2) rfl) qK) fun z=>qAY (qa (qB (i:=1) rfl) (qB (i:=2) rfl) (of_decide_eq_true z)) qK) ?_
      have:=h st (.refl _)
      have e:two .rest x y = .b (decide (0<y)&&decide (0<x%y)):=by
        show Vl.b (decide (y≠0)&&decide (x%y≠0))=_
        rw [show decide (y≠0)=decide (0<y) from decide_eq_decide.mpr (by omega)]
        by_cases hy:0<y
        · rw [show decide (x%y≠0)=decide (0<x%y) from decide_eq_decide.mpr (by have:=Int.emod_nonneg x (show y≠0 by omega);omega)]
        · rw [decide_eq_false hy];rfl
      rw [e] at this
      exact this
    | _=>cases ho
theorem qDV {ds:List Dt} {st:Sto} {Pd:VD} (h:qBP ds st Pd):qA6 (Ed Pd) (qW ["word", "x", "y"] ds) st:=by
  obtain⟨w,x,y,rfl,x0,x1,y0,y1,h⟩:=h
  have cm:qGA x y:=qGI x0 (by omega)
  have no:(["add", "sub", "mul"]:List Str).contains w=false→(∀ st',qg st st'→qCi [.str w,.int x,.int y] st' Pd)→qA6 (Ed Pd) [some (.str w),some (.int x),some (.int y)] st:=fun e q=>by
    refine xIf (xb (qCI (ss:=["add", "sub", "mul"]) (qB (i:=0) rfl) (fun _ h=>h) (by decide))) (fun z=>by rw [e] at z;cases z) (fun _ st1 x1=>?_)
    exact q st1 x1
  rcases h with ⟨rfl,h⟩ | ⟨rfl,h⟩ | ⟨o,_,rfl,h⟩
  · exact no rfl fun st' x'=>⟨_,x,y,rfl,x0,x1,y0,y1,.inl ⟨rfl,fun st2 x2=>h st2 (x'.trans x2)⟩⟩
  · exact no rfl fun st' x'=>⟨_,x,y,rfl,x0,x1,y0,y1,.inr (.inl ⟨rfl,fun st2 x2=>h st2 (x'.trans x2)⟩)⟩
  · cases ho:KR.qCB o with
    | false=>exact no (by rw [KR.qIN];exact ho) fun st' x'=>⟨_,x,y,rfl,x0,x1,y0,y1,.inr (.inr ⟨o,ho,rfl,fun st2 x2=>h st2 (x'.trans x2)⟩)⟩
    | true =>
      refine xIf (xb (qCI (ss:=["add", "sub", "mul"]) (qB (i:=0) rfl) (fun _ h=>h) (by decide))) (fun _ st1 x1=>?_) (fun z=>by rw [KR.qIN,ho] at z;cases z)
      exact K18.qMF (E:={ Ed Pd with nx:=_ }) (w:=o) (by cases o<;>first | exact .inl rfl | exact .inr (.inl rfl) | exact .inr (.inr rfl) | cases ho) cm fun st2 x2=>h st2 (x1.trans x2)
end K31
namespace K31
open PySem PySem.Spec PyProof.Rows L2 L3 KH KS KW K20
open KR (Ev EvB qB qK qQ seq1 qh qS ifS evb qAk qY qF qN rdR qo qAA qAL qAg qz rn Rl InT Res qAu orD qP Nums wd ag qAB ql qAK qAI qAb qAY qa qm qAn)
section
variable {st:Sto} {Pd:VD} {f b m r:Nat} {nd:Nd}
noncomputable abbrev RW (nd:Nd) (f b m r:Nat):Rho:=[some (nD nd),some (.lst f),some (.lst b),some (.lst m),some (.lst r)]
theorem w0 (st:Sto):Ev (qE qM (qC 0) (qD (Dt.int 0))) (RW nd f b m r) st (.str (wd nd)):=qQ (j:=0) (qB (i:=0) (congrArg (fun z=>some (some z)) (qAB nd))) rfl
theorem qHY {k:Nat} {xs:List Dt} {d:Dt} {L:Nat} {w:Str} (hn:nD nd = .tup [.str w,.int (k:Nat)]) (hw:(w = "box" ∧ L=b)∨(w = "mark" ∧ L=m)∨(w = "item" ∧ L=r)) (hL:st[L]? = some (.rw xs)) (hd:xs[k]? = some d) (hP:∀ st',qg st st'→Pd d st'):w2 (Ed Pd) (RW nd f b m r) st:=by
  have hb:(["box", "mark", "item"]:List Str).contains (wd nd)=true:=by
    have:wd nd=w:=by have:=hn;rw [qAB] at this;injection this with this;injection this with this _;injection this
    rw [this]
    rcases hw with ⟨rfl,_⟩ | ⟨rfl,_⟩ | ⟨rfl,_⟩<;>rfl
  refine xIf (xb (qCI (ss:=["box", "mark", "item"]) (w0 st) (fun _ h=>h) (by decide))) (fun _ st1 x1=>?_) (fun z=>by rw [hb] at z;cases z)
  have e0:∀ st,Ev (qE qM (qC 0) (qD (Dt.int 0))) (RW nd f b m r) st (.str w):=fun st=>qQ (j:=0) (qB (i:=0) (congrArg (fun z=>some (some z)) hn)) rfl
  have e1:∀ st,Ev (qE qM (qC 0) (qD (Dt.int 1))) (RW nd f b m r) st (.int (k:Nat)):=fun st=>qQ (j:=1) (qB (i:=0) (congrArg (fun z=>some (some z)) hn)) rfl
  have step:∀ P:VD,(∀ st',qg st1 st'→P (.lst L) st')→qE qD6 (qE4 [(Sum.inr (Str.ofString "box"),(qC 2)),(Sum.inr (Str.ofString "mark"),(qC 3)),(Sum.inr (Str.ofString "item"),(qC 4))]) (qE qM (qC 0) (qD (Dt.int 0))) (RW nd f b m r) st1 P:=fun P hp=>by
    show tvK _ _ (st1++[.dc []]) _
    simp only [tvK,qC,List.getElem?_cons_zero,List.getElem?_cons_succ]
    refine⟨q8,?_⟩
    rw [qIG]
    refine e0 _ _ ?_
    simp only [qD6,q8,qJW,List.map_cons,List.map_nil,List.zip_cons_cons,List.zip_nil_right]
    have:=hp (st1++[SO.dc [(Sum.inr (Str.ofString "box"),.lst b),(Sum.inr (Str.ofString "mark"),.lst m),(Sum.inr (Str.ofString "item"),.lst r)]]) (.app _ _)
    rcases hw with ⟨rfl,rfl⟩ | ⟨rfl,rfl⟩ | ⟨rfl,rfl⟩<;>exact this
  refine seq1 ?_
  refine step _ fun st2 x2=>?_
  refine e1 st2 _ ?_
  exact qDA (x2 _ _ (x1 _ _ hL)) (qB8 hd) (hP _ (x1.trans x2))
theorem qHk {w:Str} {x y:Nat} {l:List Dt} {a c:Int} {vs:List Vl} (hn:nD nd = .tup (.str w :: .int (x:Nat)::l)) (hl:atI (Dt.str w :: .int (x:Nat)::l) (-1)=some (.int (y:Nat))) (hw:(["box", "mark", "item"]:List Str).contains w=false)
    (hf:Has st f (vs.map vD)) (hx:vs[x]? = some (Vl.n a)) (hy:vs[y]? = some (Vl.n c)) (hP:∀ st',qg st st'→qBP [.str w,.int a,.int c] st' Pd):w2 (Ed Pd) (RW nd f b m r) st:=by
  have hwd:wd nd=w:=by have:=hn;rw [qAB] at this;injection this with this;injection this with this _;injection this
  refine xIf (xb (qCI (ss:=["box", "mark", "item"]) (w0 st) (fun _ h=>h) (by decide))) (fun z=>by rw [hwd,hw] at z;cases z) (fun _ st1 x1=>?_)
  have e0:Ev (qC 0) (RW nd f b m r) st1 (.tup (.str w :: .int (x:Nat)::l)):=qB (congrArg (fun z=>some (some z)) hn)
  have hs:=qp (hf.ext x1)
  have g:∀ (i:Nat) (v:Int),vs[i]? = some (Vl.n v)→(vs.map vD)[i]? = some (.int v):=fun i v h=>by rw [List.getElem?_map,h];rfl
  refine (qF (qQ (j:=0) e0 rfl) (qF (ql (qB (i:=1) rfl) hs (qQ (j:=1) e0 rfl) (g x a hx)) (qF (ql (qB (i:=1) rfl) hs (i:=y) ?_ (g y c hy)) qN))) (fun ds st'=>qBP ds st' Pd) (hP st1 x1)
  intro P hp
  refine e0 _ ?_
  show (match atI (Dt.str w :: .int (x:Nat)::l) (-1) with | some d=>P d st1 | none=>False)
  rw [hl];exact hp
theorem qEg {ds:List Dt} (h:qBZ ds st Pd):qBb (Ed Pd) (qW ["node", "known", "boxes", "marks", "brought"] ds) st:=by
  obtain⟨nd,s,f,b,m,r,ss,vs,e,rfl,hf,ht,hk,ho,hnum,hl,hP⟩:=h
  show qBb (Ed Pd) (RW nd f b m r) st
  by_cases hn:(wd nd == "num")=true
  · refine qS (evb (qo (w0 st))) (fun _=>?_) (fun z=>by rw [show (wd nd==Str.ofString "num")=true from hn] at z;cases z)
    cases nd with
    | num k=>exact rdR (qQ (j:=1) (qB (i:=0) rfl) rfl) (hP st (.refl _))
    | two o x y=>revert hn;cases o<;>(intro h;exact Bool.noConfusion (show false=true from h))
    | _=>exact Bool.noConfusion (show false=true from hn)
  refine qS (evb (qo (w0 st))) (fun z=>absurd z hn) (fun _=>?_)
  by_cases hy:(["yes", "no"]:List Str).contains (wd nd)=true
  · refine xIf (xb (qCI (ss:=["yes", "no"]) (w0 st) (fun _ h=>h) (by decide))) (fun _ st1 x1=>?_) (fun z=>by rw [hy] at z;cases z)
    refine rdR (qo (w0 st1)) ?_
    have:=hP st1 x1
    cases nd with
    | yes=>exact this
    | no=>exact this
    | two o x y=>revert hy;cases o<;>(intro h;exact Bool.noConfusion (show false=true from h))
    | _=>exact Bool.noConfusion (show false=true from hy)
  refine xIf (xb (qCI (ss:=["yes", "no"]) (w0 st) (fun _ h=>h) (by decide))) (fun z=>absurd (by rw [Bool.bne_false] at z;exact z) hy) (fun _ st1 x1=>?_)
  have ht:=ht.ext x1
  have hf:=hf.ext x1
  have hP:∀ st',qg st1 st'→Pd (vD (e.w nd vs)) st':=fun st' x'=>hP st' (x1.trans x')
  show w2 (Ed Pd) (RW nd f b m r) st1
  cases nd with
  | num k=>exact absurd rfl hn
  | box k =>
    have hb:k<e.bx.length:=by rw [hk.l8];exact ho.1
    refine qHY (k:=k) (w:= "box") rfl (.inl ⟨rfl,rfl⟩) ht.b (d:=.int (e.bx.getD k 0)) ?_ hP
    rw [List.getElem?_map,List.getD_eq_getElem?_getD,List.getElem?_eq_getElem hb];rfl
  | mark k =>
    have hb:k<e.mr.length:=by rw [hk.l3];exact ho.1
    refine qHY (k:=k) (w:= "mark") rfl (.inr (.inl ⟨rfl,rfl⟩)) ht.m (d:=.bl (e.mr.getD k false)) ?_ hP
    rw [List.getElem?_map,List.getD_eq_getElem?_getD,List.getElem?_eq_getElem hb];rfl
  | item k =>
    have hb:k<e.br.length:=by rw [hk.m3];exact ho.1
    refine qHY (k:=k) (w:= "item") rfl (.inr (.inr ⟨rfl,rfl⟩)) ht.r (d:=.int e.br[k]) ?_ fun st' x'=>?_
    · rw [List.getElem?_map,List.getElem?_eq_getElem hb];rfl
    · have:=hP st' x'
      have q:e.w (.item k) vs = .n e.br[k]:=by
        show worth _ _ _ _ _=_
        simp only [worth]
        rw [List.getElem?_map,List.getElem?_eq_getElem hb];rfl
      rw [q] at this;exact this
  | two o x y =>
    obtain⟨a,hx,a0,a1⟩:=hnum x ho.1
    obtain⟨c,hy',c0,c1⟩:=hnum y ho.2.1
    refine qHk (w:=nm o) (x:=x) (y:=y) rfl rfl (by cases o<;>rfl) hf hx hy' fun st' x'=>?_
    refine⟨nm o,a,c,rfl,a0,a1,c0,c1,.inr (.inr ⟨o,trivial,rfl,fun st2 x2=>?_⟩)⟩
    have:=hP st2 (x'.trans x2)
    have q:e.w (.two o x y) vs=two o a c:=by show worth _ _ _ _ _=_;simp only [worth,hx,hy']
    rw [q] at this;exact this
  | nought x =>
    obtain⟨a,hx,a0,a1⟩:=hnum x ho.1
    refine qHk (w:= "nought") (x:=x) (y:=x) rfl rfl rfl hf hx hx fun st' x'=>?_
    refine⟨"nought",a,a,rfl,a0,a1,a0,a1,.inl ⟨rfl,fun st2 x2=>?_⟩⟩
    have:=hP st2 (x'.trans x2)
    have q:e.w (.nought x) vs = .b (decide (a=0)):=by show worth _ _ _ _ _=_;simp only [worth,hx]
    rw [q] at this;exact this
  | high x =>
    obtain⟨a,hx,a0,a1⟩:=hnum x ho.1
    refine qHk (w:= "high") (x:=x) (y:=x) rfl rfl rfl hf hx hx fun st' x'=>?_
    refine⟨"high",a,a,rfl,a0,a1,a0,a1,.inr (.inl ⟨rfl,fun st2 x2=>?_⟩)⟩
    have:=hP st2 (x'.trans x2)
    have q:e.w (.high x) vs = .b (decide (32768≤a)):=by show worth _ _ _ _ _=_;simp only [worth,hx]
    rw [q] at this;exact this
  | yes=>exact absurd rfl hy
  | no=>exact absurd rfl hy
end
end K31
namespace K31
open PySem PySem.Spec PyProof.Rows L2 L3 KH KS KW K20
open KR (Ev EvB qB qK qQ seq1 qh qS ifS evb qAk qY qF qN rdR qo qAA qAL qAg qz rn Rl InT Res qAu orD qP Nums wd ag qAB ql qAK qAI qAb qAY qa qm qAn)
theorem qEF.env {e:Tim} (h:qEF e):Env e.bx e.mr (e.br.map some):=by
  refine⟨fun i=>?_,fun i v hv=>?_⟩
  · rw [List.getD_eq_getElem?_getD]
    cases q:e.bx[i]? with
    | none=>exact⟨by decide,by decide⟩
    | some v=>exact h.b v (List.mem_of_getElem? q)
  · rw [List.getElem?_map] at hv
    cases q:e.br[i]? with
    | none=>rw [q] at hv;cases hv
    | some z =>
      rw [q] at hv
      have:z=v:=Option.some.inj (Option.some.inj hv)
      subst this
      exact h.r z (List.mem_of_getElem? q)
theorem qEF.full {e:Tim} (h:qEF e):∀ i,i<3→∃ v,(e.br.map some)[i]? = some (some v):=fun i hi=>by
  have hl:i<e.br.length:=by rw [h.m3];exact hi
  exact⟨e.br[i],by rw [List.getElem?_map,List.getElem?_eq_getElem hl];rfl⟩
theorem qEF.wd {e:Tim} (h:qEF e) {ns:List Nd} {ss:List Nat} (ok:OkT 3 ns ss):Wd ns ss (e.ws ns) e.bx e.mr (e.br.map some):=qPr h.env h.full ok
theorem qEE {ds:List Dt} {st:Sto} {Pd:VD} (h:qCa ds st Pd):qCF (Ed Pd) (qW ["nodes", "boxes", "marks", "brought", "known", "node"] ds) st:=by
  obtain⟨ns,ss,b,m,r,e,rfl,ht,hk,hT,hl,hP⟩:=h
  refine⟨Nat.zero_le _,?_⟩
  refine⟨fun i ρ s'=>(∃ a5,ρ=[some (tab ns),some (.lst b),some (.lst m),some (.lst r),some (.lst st.length),a5])∧qg st s'∧s'[st.length]? = some (.rw ((e.ws (ns.take i)).map vD)),?_,fun _ _ _ _ _=>rfl,?_,?_⟩
  · exact⟨⟨_,rfl⟩,.app _ _,q8⟩
  · rintro i d ρ s' hd ⟨⟨a5,rfl⟩,ext,gs⟩
    have hi:=qX hd
    rw [List.length_map] at hi
    rw [List.getElem?_map,List.getElem?_eq_getElem hi] at hd
    have hd:d=nD ns[i]:=(Option.some.inj hd).symm
    subst hd
    have hT2:=OkT.take hT i
    obtain⟨s,hs⟩:=OkT.at_ hT hi
    refine⟨ns[i],s,st.length,b,m,r,ss.take i,e.ws (ns.take i),e,rfl,⟨_,gs,rfl⟩,ht.ext ext,hk,hs,(hk.wd hT2).num,by rw [qAH];have:=List.length_take_le' i ns;omega,fun s2 e2=>?_⟩
    show (match s2[st.length]? with | some (.rw xs)=>_ | _=>_)
    rw [e2 _ _ gs]
    refine⟨by rw [List.length_map,qAH];exact small (by have:=List.length_take_le' i ns;omega),⟨_,rfl⟩,fun k o q=>q9 ((ext.trans e2) k o q) (by have:=qX q;omega),?_⟩
    rw [qA2 (e2 _ _ gs)]
    rw [List.take_add_one,List.getElem?_eq_getElem hi]
    show _=some (SO.rw ((qd (ns.take i++[ns[i]]) e.bx e.mr (e.br.map some)).map vD))
    rw [qA9,List.map_append]
    rfl
  · rintro ρ s' ⟨⟨a5,rfl⟩,ext,gs⟩
    rw [List.length_map,List.take_length] at gs
    exact hP _ _ ext gs (Nat.le_refl _)
def qD8:RDL:=fun ds st P=>∃ (k e c:Nat) (d:Dt) (ns:List Nd) (ss:List Nat),ds=[.lst k,d,.int 3]∧d≠.lst k∧qz st d ns∧OkT 3 ns ss∧ns.length≤300∧qAG st k e c∧c<900000∧∀ nd s st',OkN ss 3 nd s→KD k st st'→qAG st' k e (c+1)→P (nD nd) st'
theorem qz.kd {k:Nat} {st st':Sto} {d:Dt} {ns:List Nd} (h:qz st d ns) (hk:d≠.lst k) (x:KD k st st'):qz st' d ns:=by
  unfold KR.qz at h ⊢
  cases d with
  | lst n =>
    have h':(st[n]?).map SO.items=some (ns.map nD):=h
    cases q:st[n]? with
    | none=>rw [q] at h';cases h'
    | some o =>
      rw [q] at h'
      show (st'[n]?).map SO.items=_
      rw [x n o (fun e=>hk (by rw [e])) q];exact h'
  | _=>exact h
abbrev mb:TSD:=(tseq (qi (qI (qE (qAe false) (qC 6) (qAw (qA (qD (Dt.str "nought")) (qA (qD (Dt.str "high")) qG))))) (tseq (qV (qAM (qA (qC 6) (qA (qC 7) qG)))) qH) qH) (tseq (qV (qAM (qA (qC 6) (qA (qC 7) (qA (qC 8) qG))))) qH))
abbrev m9:TSD:=(tseq (qb (qE qM (qC 5) (qE qAF (qC 4) (qJ qAd (qA (qC 5) qG)))) (qO 7)) (tseq (qb (qE qM (qC 5) (qE qAF (qE qEP (qC 4) (qJ qAd (qA (qC 5) qG))) (qJ qAd (qA (qC 5) qG)))) (qO 8)) mb))
abbrev m5:TSD:=(tseq (qi (qAr (qI (qE (qU false) (qC 6) (qD (Dt.str "item")))) (qI (qE (qAN fun i j=>decide (j<i)) (qC 2) (qD (Dt.int 0))))) (tseq (qV (qAM (qA (qD (Dt.str "item")) (qA (qE qAF (qC 4) (qC 2)) qG)))) qH) qH) (tseq (qi (qI (qE (qAe false) (qC 6) (qAw (qA (qD (Dt.str "yes")) (qA (qD (Dt.str "no")) qG))))) (tseq (qV (qAM (qA (qC 6) qG))) qH) qH) (tseq (qi (qBv (qI (qE (qU false) (qC 6) (qD (Dt.str "box")))) (qI (qE (qU false) (qC 6) (qD (Dt.str "mark"))))) (tseq (qV (qAM (qA (qC 6) (qA (qE qAF (qC 4) (qE qM (qAw (qA (qD (Dt.int 8)) (qA (qD (Dt.int 3)) qG))) (qJ qFC (qA (qE (qU false) (qC 6) (qD (Dt.str "mark"))) qG)))) qG)))) qH) qH) (tseq (qi (qBv (qI (qE (qU false) (qC 6) (qD (Dt.str "num")))) (qBv (qI (qE (qU false) (qC 6) (qD (Dt.str "item")))) (qI (qE (qU false) (qJ qAd (qA (qC 5) qG)) (qD (Dt.int 0)))))) (tseq (qV (qAM (qA (qD (Dt.str "num")) (qA (qE qM (qAw (qA (qD (Dt.int 0)) (qA (qD (Dt.int 1)) (qA (qD (Dt.int 2)) (qA (qE qAF (qE qEP (qC 4) (qD (Dt.int 9))) (qD (Dt.int 65536))) (qA (qD (Dt.int 65535)) (qA (qD (Dt.int 32768)) (qA (qD (Dt.int 65534)) (qA (qD (Dt.int 256)) (qA (qD (Dt.int 0)) qG)))))))))) (qE qAF (qC 4) (qD (Dt.int 9)))) qG)))) qH) qH) m9))))
abbrev m3:TSD:=(tseq (qb (qE qM (qAw (qA (qD (Dt.str "num")) (qA (qD (Dt.str "num")) (qA (qD (Dt.str "box")) (qA (qD (Dt.str "add")) (qA (qD (Dt.str "sub")) (qA (qD (Dt.str "mul")) (qA (qD (Dt.str "add")) (qA (qD (Dt.str "mul")) (qA (qD (Dt.str "over")) (qA (qD (Dt.str "under")) (qA (qD (Dt.str "wide")) (qA (qD (Dt.str "rest")) qG))))))))))))) (qE qAF (qC 3) (qD (Dt.int 12)))) (qO 6)) (tseq (qi (qI (qE (qU false) (qE qAF (qC 3) (qD (Dt.int 12))) (qD (Dt.int 2)))) (tseq (qb (qE qM (qAw (qA (qD (Dt.str "box")) (qA (qD (Dt.str "box")) (qA (qD (Dt.str "mark")) (qA (qD (Dt.str "nought")) (qA (qD (Dt.str "high")) (qA (qD (Dt.str "yes")) (qA (qD (Dt.str "no")) (qA (qD (Dt.str "item")) qG))))))))) (qE qAF (qE qEP (qC 3) (qD (Dt.int 12))) (qD (Dt.int 8)))) (qO 6)) qH) qH) m5))
abbrev m2:TSD:=(tseq (qb (qB4 (qAx (qJ qAd (qA (qC 1) qG))) (qI (qE (qAe false) (qE qM (qE qM (qC 1) (qC 0)) (qD (Dt.int 0))) (qAw (qA (qD (Dt.str "num")) (qA (qD (Dt.str "box")) (qA (qD (Dt.str "item")) (qA (qD (Dt.str "add")) (qA (qD (Dt.str "sub")) (qA (qD (Dt.str "mul")) qG))))))))) (qC 0) [(1, "nodes")]) (qO 5)) m3)
abbrev qBR:TSD:=(tseq (qb (qJ K31.qAP (qA (qC 0) qG)) (qO 3)) (tseq (qb (qE qEP (qC 3) (qD (Dt.int 16))) (qO 4)) m2))
noncomputable def qOp:List Str:=["num", "box", "item", "add", "sub", "mul"]
theorem qKC {ss:List Nat} {nd:Nd} {s:Nat} (o:OkN ss 3 nd s):qOp.contains (wd nd)=decide (s=0):=by
  cases nd with
  | num k=>rw [o.2.2];rfl
  | box k=>rw [o.2];rfl
  | mark k=>rw [o.2];rfl
  | item k=>rw [o.2];rfl
  | two w x y =>
    have:=o.2.2
    cases w<;>(simp only at this;rw [this];rfl)
  | nought x=>rw [o.2];rfl
  | high x=>rw [o.2];rfl
  | yes=>rw [show s=1 from o];rfl
  | no=>rw [show s=1 from o];rfl
theorem qJF {st:Sto} {d:Dt} {ns:List Nd} {ss:List Nat} {cρ:Rho} {Fin:List Dt→Sto→Prop} (hs:qz st d ns) (hT:OkT 3 ns ss) (hl:ns.length≤300) (hv:cρ[0]? = some (some d))
    (hF:∀ (is:List Nat) st',qg st st'→(∀ i∈is,ss[i]? = some 0)→is.length≤300→Fin (is.map fun i=>Dt.int ((i:Nat):Int)) st') :
    qFD (qA1 0 ns.length) (fun _=>True) (qI (qE (qAe false) (qE qM (qE qM (qC 1) (qC 0)) (qD (Dt.int 0))) (qAw (qA (qD (Dt.str "num")) (qA (qD (Dt.str "box")) (qA (qD (Dt.str "item")) (qA (qD (Dt.str "add")) (qA (qD (Dt.str "sub")) (qA (qD (Dt.str "mul")) qG))))))))) (qC 0) cρ st Fin:=by
  refine⟨fun i ys s'=>qg st s'∧∃ is:List Nat,ys=is.map (fun i=>Dt.int ((i:Nat):Int))∧(∀ j∈is,ss[j]? = some 0)∧is.length≤i,⟨.refl _,[],rfl,(fun j h=>by cases h),Nat.le_refl _⟩,fun _ _ _ _ _=>trivial,?_,?_⟩
  · rintro i v ys s' hd ⟨x1,is,rfl,hi,hle⟩
    have hil:=qX hd
    rw [qAa] at hil
    have hv':v = .int ((i:Nat):Int):=by
      have:=(qAT hd).2
      rw [this];congr 1;omega
    subst hv'
    obtain⟨s,es,os⟩:=at2 hT (List.getElem?_eq_getElem hil)
    refine⟨by rw [List.length_map];exact qAS (by omega),?_⟩
    have e1:Ev (qE qM (qE qM (qC 1) (qC 0)) (qD (Dt.int 0))) (some (.int ((i:Nat):Int))::cρ) s' (.str (wd ns[i])):=by
      refine qQ (j:=0) (xs:=.str (wd ns[i])::ag ns[i]) ?_ rfl
      rw [← qAB]
      exact ql (qB (i:=1) hv) (qz.ext hs x1) (qB (i:=0) rfl) (KR.qz.at_ hs (List.getElem?_eq_getElem hil))
    refine xb (qCI (ss:=qOp) e1 (fun _ h=>h) (by decide)) _ fun s2 x2=>?_
    rw [qKC (qBX os),Bool.bne_false]
    by_cases h0:s=0
    · rw [decide_eq_true h0]
      refine qAo ⟨x1.trans x2,is++[i],by rw [List.map_append];rfl,fun j hj=>?_,by rw [List.length_append];show is.length+1≤i+1;omega⟩
      rcases List.mem_append.mp hj with hj | hj
      · exact hi j hj
      · have:j=i:=by simpa using hj
        rw [this,es,h0]
    · rw [decide_eq_false h0]
      exact qAt ⟨x1.trans x2,is,rfl,hi,by omega⟩
  · rintro ys s' ⟨x1,is,rfl,hi,hle⟩
    rw [qAa] at hle
    exact hF is s' x1 hi (by omega)
end K31
namespace K31
open PySem PySem.Spec PyProof.Rows L2 L3 KH KS KW K20
open KR (Ev EvB qB qK qQ seq1 qh qS ifS evb qAk qY qF qN rdR qo qAA qAL qAg qz rn Rl InT Res qAu orD qP Nums wd ag qAB ql qAK qAI qAb qAY qa qm qq qAn)
theorem qA3 {v:Int} {n:Nat} (h:0<n):∃ m:Nat,v%(n:Int)=(m:Int)∧m<n:=by
  have h1:=Int.emod_nonneg v (show (n:Int)≠0 by omega)
  have h2:=Int.emod_lt_of_pos v (show (0:Int)<n by omega)
  exact⟨(v%n).toNat,by omega,by omega⟩
theorem qDi {xs:List Dt} (v:Int) (h:0<xs.length):∃ d,atI xs (v%(xs.length:Int))=some d∧d∈xs:=by
  obtain⟨m,e,hm⟩:=qA3 (v:=v) h
  exact⟨xs[m],by rw [e];exact qB8 (List.getElem?_eq_getElem hm),List.getElem_mem hm⟩
theorem qB6 {ρ:Rho} {st:Sto} {ta tb:TD} {x y:Int} (h:Ev ta ρ st (.int x)) (h2:Ev tb ρ st (.int y)) (h0:0<y) (h1:y<1073741824):Ev (qE qEP ta tb) ρ st (.int (x / y)):=fun P hp=>h _ (h2 _ ⟨⟨h0,h1⟩,hp⟩)
theorem qKd {ρ:Rho} {st:Sto} {ta tb:TD} {x y:Dt} (h:Ev ta ρ st x) (h2:EvX tb ρ st y):EvX (qAM (qA ta (qA tb qG))) ρ st (.tup [x,y]):=fun P hp=>h _ (h2 _ fun st' x'=>⟨by show 2≤sizeLine;decide,hp st' x'⟩)
theorem qP7 {ρ:Rho} {st:Sto} {ta tb:TD} {x y:Int} (h:Ev ta ρ st (.int x)) (h2:EvX tb ρ st (.int y)) (h0:0<y):EvX (qE qAF ta tb) ρ st (.int (x%y)):=fun P hp=>h _ (h2 _ fun st' x'=>⟨h0,hp st' x'⟩)
theorem qBU {ρ:Rho} {st:Sto} {sp:RDL} {t:TAD} {ds:List Dt} {P:VD} (h:∀ P:List Dt→Sto→Prop,P ds st→t ρ st P) (hs:sp ds st P):qJ sp t ρ st P:=h _ hs
theorem qH4 {ρ:Rho} {st:Sto} {ta te:TD} {tc:TBD} {caps:List (Nat×Str)} {n:Nat} {P:VD} (h:Ev ta ρ st (.int (n:Nat))) (hn:n≤1000) (q:qFD (qA1 0 n) (fun _=>True) tc te (qHH caps ρ) st fun ys s2=>P (.lst s2.length) (s2++[.rw ys])):qB4 (qAx ta) tc te caps ρ st P:=h _ (by
  refine⟨by omega,by omega,?_⟩
  rw [Int.toNat_natCast];exact q)
theorem qEN {ss:List Str} {d:Dt} (h:d∈ss.map Dt.str):∃ w∈ss,d = .str w:=by
  obtain⟨w,h1,rfl⟩:=List.mem_map.mp h
  exact⟨w,h1,rfl⟩
section
variable {ss:List Nat} {is:List Nat} {L:Nat} {w:Str} {st:Sto} {Pd:VD} {a0 a1 a3:Option Dt} {more:Int}
theorem qPt (hw:w∈KR.cntK) (h1:(w == "item")=false) (h2:(["yes", "no"]:List Str).contains w=false) (h3:(w == "box" || w == "mark")=false) (h4:(w == "num")=false) {x y:Nat} (hx:ss[x]? = some 0) (hy:ss[y]? = some 0) (hP:∀ nd s st',OkN ss 3 nd s→qg st st'→Pd (nD nd) st') {a4 a5:Option Dt}:mb (Ed Pd) [a0,a1,some (.int 3),a3,a4,a5,some (.str w),some (.int (x:Nat)),some (.int (y:Nat))] st:=by
  refine xIf (xb (qCI (ss:=["nought", "high"]) (qB (i:=6) rfl) (fun _ h=>h) (by decide))) (fun z st1 x1=>?_) (fun z st1 x1=>?_)
  · refine rdR (qY (ds:=[.str w,.int (x:Nat)]) (qF (qB (i:=6) rfl) (qF (qB (i:=7) rfl) qN)) (by show 2≤sizeLine;decide)) ?_
    rw [Bool.bne_false,List.contains_iff_mem] at z
    simp only [List.mem_cons,List.not_mem_nil,or_false] at z
    rcases z with rfl | rfl
    · exact hP (.nought x) 1 st1 ⟨hx,rfl⟩ x1
    · exact hP (.high x) 1 st1 ⟨hx,rfl⟩ x1
  · refine rdR (qY (ds:=[.str w,.int (x:Nat),.int (y:Nat)]) (qF (qB (i:=6) rfl) (qF (qB (i:=7) rfl) (qF (qB (i:=8) rfl) qN))) (by show 3≤sizeLine;decide)) ?_
    simp only [KR.cntK,List.mem_cons,List.not_mem_nil,or_false] at hw
    rcases hw with rfl | rfl | rfl | rfl | rfl | rfl | rfl | rfl | rfl | rfl | rfl | rfl | rfl | rfl | rfl
    · cases h4
    · cases h3
    · cases h3
    · cases h1
    · exact hP (.two .add x y) 0 st1 ⟨hx,hy,rfl⟩ x1
    · exact hP (.two .sub x y) 0 st1 ⟨hx,hy,rfl⟩ x1
    · exact hP (.two .mul x y) 0 st1 ⟨hx,hy,rfl⟩ x1
    · cases z
    · cases z
    · exact hP (.two .over x y) 1 st1 ⟨hx,hy,rfl⟩ x1
    · exact hP (.two .under x y) 1 st1 ⟨hx,hy,rfl⟩ x1
    · exact hP (.two .wide x y) 1 st1 ⟨hx,hy,rfl⟩ x1
    · exact hP (.two .rest x y) 1 st1 ⟨hx,hy,rfl⟩ x1
    · cases h2
    · cases h2
theorem qO9 (hw:w∈KR.cntK) (hL:st[L]? = some (.rw (is.map fun i=>Dt.int ((i:Nat):Int)))) (hi:∀ i∈is,ss[i]? = some 0) (hl:is.length≤300) (hP:∀ nd s st',OkN ss 3 nd s→qg st st'→Pd (nD nd) st'):m5 (Ed Pd) [a0,a1,some (.int 3),a3,some (.int more),some (.lst L),some (.str w),none,none] st:=by
  have eqW:∀ (s:Str) (st:Sto),Ev (qE (qU false) (qC 6) (qD (.str s))) [a0,a1,some (.int 3),a3,some (.int more),some (.lst L),some (.str w),none,none] st (.bl (w==s)):=fun s st=>qo (qB (i:=6) rfl)
  refine qS (b:=(w == "item")&&decide ((0:Int)<3)) (qq (evb (eqW _ _)) fun _=>evb (qAY (qB (i:=2) rfl) qK)) (fun z=>?_) (fun z1=>?_)
  · obtain⟨m,e,hm⟩:=qA3 (v:=more) (n:=3) (by decide)
    refine rdR (qY (ds:=[.str "item",.int (m:Nat)]) (qF qK (qF (by rw [← e];exact qa (qB (i:=4) rfl) (qB (i:=2) rfl) (by decide)) qN)) (by show 2≤sizeLine;decide)) ?_
    exact hP (.item m) 0 st ⟨hm,rfl⟩ (.refl _)
  have z1:(w == "item")=false:=by rw [← z1];cases (w == "item")<;>rfl
  refine xIf (xb (qCI (ss:=["yes", "no"]) (qB (i:=6) rfl) (fun _ h=>h) (by decide))) (fun z st1 x1=>?_) (fun z2 st1 x1=>?_)
  · refine rdR (qY (ds:=[.str w]) (qF (qB (i:=6) rfl) qN) (by show 1≤sizeLine;decide)) ?_
    rw [Bool.bne_false,List.contains_iff_mem] at z
    simp only [List.mem_cons,List.not_mem_nil,or_false] at z
    rcases z with rfl | rfl
    · exact hP .yes 1 st1 rfl x1
    · exact hP .no 1 st1 rfl x1
  rw [Bool.bne_false] at z2
  refine qS (b:=(w == "box") || (w == "mark")) (qm (evb (eqW _ _)) fun _=>evb (eqW _ _)) (fun z=>?_) (fun z3=>?_)
  · refine qLd (qKd (qB (i:=6) rfl) (qP7 (qB (i:=4) rfl) (qE7 (d:=.int (if (w == "mark")=true then 3 else 8)) (ds:=[.int 8,.int 3]) (v:=if (w == "mark")=true then 1 else 0) (qF qK (qF qK qN)) (by show 2≤1000;decide) (fun st1 _=>qGJ (qFY (eqW _ _))) (by cases (w == "mark")<;>rfl)) (by cases (w == "mark")<;>decide))) fun st2 x2=>?_
    rw [Bool.or_eq_true,beq_iff_eq,beq_iff_eq] at z
    rcases z with rfl | rfl
    · obtain⟨m,e,hm⟩:=qA3 (v:=more) (n:=8) (by decide)
      show Pd (.tup [.str "box",.int (more%((8:Nat):Int))]) st2
      rw [e]
      exact hP (.box m) 0 st2 ⟨hm,rfl⟩ (x1.trans x2)
    · obtain⟨m,e,hm⟩:=qA3 (v:=more) (n:=3) (by decide)
      show Pd (.tup [.str "mark",.int (more%((3:Nat):Int))]) st2
      rw [e]
      exact hP (.mark m) 1 st2 ⟨hm,rfl⟩ (x1.trans x2)
  have hL1:=x1 _ _ hL
  have hseq:qc st1 (.lst L)=some (is.map fun i=>Dt.int ((i:Nat):Int)):=qp ⟨_,hL1,rfl⟩
  have hlen:∀ ρ:Rho,ρ[5]? = some (some (.lst L))→Ev (qJ qAd (qA (qC 5) qG)) ρ st1 (.int (is.length:Int)):=fun ρ hρ=>by
    have:=qAI (te:=qC 5) (ρ:=ρ) (qB (i:=5) hρ) hseq
    k_dat 0"r20"
    exact this
  refine qS (b:=(w == "num") || ((w == "item") || decide ((is.length:Int)=0))) (qm (evb (eqW _ _)) fun _=>qm (evb (eqW _ _)) fun _=>evb (qAA (hlen _ rfl) qK)) (fun z=>?_) (fun z4=>?_)
  · have hv:=Int.emod_nonneg (more / 9) (show (65536:Int)≠0 by decide)
    have hv2:=Int.emod_lt_of_pos (more / 9) (show (0:Int)<65536 by decide)
    obtain⟨d,ed,md⟩:=qDi (xs:=[Dt.int 0,.int 1,.int 2,.int (more / 9%65536),.int 65535,.int 32768,.int 65534,.int 256,.int 0]) more (by show 0<9;decide)
    refine qLd (qKd qK (qE7 (d:=d) (ds:=[.int 0,.int 1,.int 2,.int (more / 9%65536),.int 65535,.int 32768,.int 65534,.int 256,.int 0]) (v:=more%9) (qF qK (qF qK (qF qK (qF (qa (qB6 (qB (i:=4) rfl) qK (by decide) (by decide)) qK (by decide)) (qF qK (qF qK (qF qK (qF qK (qF qK qN))))))))) (by show 9≤1000;decide) (fun st1 _=>qGJ (qa (qB (i:=4) rfl) qK (by decide))) ed)) fun st2 x2=>?_
    have hk:∃ k:Int,d = .int k∧0≤k∧k<65536:=by
      simp only [List.mem_cons,List.not_mem_nil,or_false] at md
      rcases md with rfl | rfl | rfl | rfl | rfl | rfl | rfl | rfl | rfl
      · k_dat 0"r13"
      · k_dat 0"r13"
      · k_dat 0"r13"
      · exact⟨_,rfl,hv,hv2⟩
      · k_dat 0"r13"
      · k_dat 0"r13"
      · k_dat 0"r13"
      · k_dat 0"r13"
      · k_dat 0"r13"
    obtain⟨k,rfl,k0,k1⟩:=hk
    exact hP (.num k) 0 st2 ⟨k0,k1,rfl⟩ (x1.trans x2)
  rw [Bool.or_eq_false_iff,Bool.or_eq_false_iff,decide_eq_false_iff_not] at z4
  obtain⟨z4,_,z5⟩:=z4
  have il:0<is.length:=by omega
  have at_:∀ m:Nat,m<is.length→∃ x:Nat,(is.map fun i=>Dt.int ((i:Nat):Int))[m]? = some (.int (x:Nat))∧ss[x]? = some 0:=fun m hm=>⟨is[m],by rw [List.getElem?_map,List.getElem?_eq_getElem hm];rfl,hi _ (List.getElem_mem hm)⟩
  obtain⟨mx,ex,hmx⟩:=qA3 (v:=more) il
  obtain⟨x,gx,sx⟩:=at_ mx hmx
  obtain⟨my,ey,hmy⟩:=qA3 (v:=more / (is.length:Int)) il
  obtain⟨y,gy,sy⟩:=at_ my hmy
  show m9 (Ed Pd) [a0,a1,some (.int 3),a3,some (.int more),some (.lst L),some (.str w),none,none] st1
  refine qh (ql (qB (i:=5) rfl) hseq (by rw [← ex];exact qa (qB (i:=4) rfl) (hlen _ rfl) (by omega)) gx _ ?_)
  refine qh (ql (qB (i:=5) rfl) hseq (by rw [← ey];exact qa (qB6 (qB (i:=4) rfl) (hlen _ rfl) (by omega) (by omega)) (hlen _ rfl) (by omega)) gy _ ?_)
  exact qPt hw z1 z2 z3 z4 sx sy fun nd s st' o x'=>hP nd s st' o (x1.trans x')
end
theorem qCp {ds:List Dt} {st:Sto} {Pd:VD} (h:qD8 ds st Pd):qBR (Ed Pd) (qW ["deck", "nodes", "items", "cell", "more", "numbers", "word", "x", "y"] ds) st:=by
  obtain⟨k,e,c,d,ns,ss,rfl,hk,hs,hT,hl,hd,hc,hP⟩:=h
  refine qh ?_
  refine qBU (qF (qB (i:=0) rfl) qN) ⟨k,e,c,rfl,hd,by omega,fun v s1 kd dk=>?_⟩
  refine qh (qB6 (qB (i:=3) rfl) qK (by decide) (by decide) _ ?_)
  show m2 (Ed Pd) [some (.lst k),some d,some (.int 3),some (.int v),some (.int (v / 16)),none,none,none,none] s1
  have hs1:=qz.kd hs hk kd
  refine qh ?_
  have hlen:=qAI (te:=qC 1) (ρ:=[some (.lst k),some d,some (.int 3),some (.int v),some (.int (v / 16)),none,none,none,none]) (qB (i:=1) rfl) hs1
  rw [List.length_map] at hlen
  refine qH4 hlen (by omega) ?_
  refine qJF hs1 hT hl rfl fun is s2 x2 hi hil=>?_
  generalize eL:s2.length=L
  have hL:(s2++[SO.rw (is.map fun i=>Dt.int ((i:Nat):Int))])[L]? = some (.rw (is.map fun i=>Dt.int ((i:Nat):Int))):=by rw [← eL];exact q8
  have x3:=x2.trans (qg.app s2 (SO.rw (is.map fun i=>Dt.int ((i:Nat):Int))))
  generalize s2++[SO.rw (is.map fun i=>Dt.int ((i:Nat):Int))]=s3 at hL x3
  show m3 (Ed Pd) [some (.lst k),some d,some (.int 3),some (.int v),some (.int (v / 16)),some (.lst L),none,none,none] s3
  have fin:∀ (w:Str) s4,w∈KR.cntK→qg s3 s4→m5 (Ed Pd) [some (.lst k),some d,some (.int 3),some (.int v),some (.int (v / 16)),some (.lst L),some (.str w),none,none] s4:=fun w s4 hw x4=>qO9 hw (x4 _ _ hL) hi hil fun nd s st' o x5=>hP nd s st' o (kd.ext (x3.trans (x4.trans x5))) (dk.ext (x3.trans (x4.trans x5)))
  obtain⟨d1,e1,m1⟩:=qDi (xs:=(["num", "num", "box", "add", "sub", "mul", "add", "mul", "over", "under", "wide", "rest"]:List Str).map Dt.str) v (by decide)
  obtain⟨w1,hw1,rfl⟩:=qEN m1
  refine qh ?_
  refine qE7 (d:=.str w1) (ds:=(["num", "num", "box", "add", "sub", "mul", "add", "mul", "over", "under", "wide", "rest"]:List Str).map Dt.str) (v:=v%12) (fun _ h=>h) (by decide) (fun st1 _=>qGJ (qa (qB (i:=3) rfl) qK (by decide))) e1 _ fun s4 x4=>?_
  have c1:w1∈KR.cntK:=List.all_eq_true.mp (show (["num", "num", "box", "add", "sub", "mul", "add", "mul", "over", "under", "wide", "rest"]:List Str).all (fun w=>KR.cntK.contains w)=true by decide) w1 hw1 |> List.contains_iff_mem.mp
  refine qS (b:=decide (v%12=2)) (evb (qAA (qa (qB (i:=3) rfl) qK (by decide)) qK)) (fun _=>?_) (fun _=>fin w1 s4 c1 x4)
  obtain⟨d2,e2,m2⟩:=qDi (xs:=(["box", "box", "mark", "nought", "high", "yes", "no", "item"]:List Str).map Dt.str) (v / 12) (by decide)
  obtain⟨w2,hw2,rfl⟩:=qEN m2
  have c2:w2∈KR.cntK:=List.all_eq_true.mp (show (["box", "box", "mark", "nought", "high", "yes", "no", "item"]:List Str).all (fun w=>KR.cntK.contains w)=true by decide) w2 hw2 |> List.contains_iff_mem.mp
  refine qh ?_
  refine qE7 (d:=.str w2) (ds:=(["box", "box", "mark", "nought", "high", "yes", "no", "item"]:List Str).map Dt.str) (v:=v / 12%8) (fun _ h=>h) (by decide) (fun st1 _=>qGJ (qa (qB6 (qB (i:=3) rfl) qK (by decide) (by decide)) qK (by decide))) e2 _ fun s5 x5=>?_
  exact fin w2 s5 c2 (x4.trans x5)
end K31
namespace K31
open PySem PySem.Spec PyProof.Rows L2 L3 KH KS KW K20
open KR (Ev EvB qB qK qQ seq1 qh qS ifS evb qAk qY qF qN rdR qo qAA qAL qAg qz rn Rl InT Res qAu orD qP Nums wd ag qAB ql qAK qAI qAb qAY qa qm qq qAn)
abbrev f3:TSD:=(tseq (qi (qI (qE (qU false) (qE qM (qE qM (qC 1) (qC 6)) (qD (Dt.int 0))) (qD (Dt.str "num")))) (tseq (qCN (qAV (qC 2) (qAM (qA (qD (Dt.str "num")) (qA (qE qAF (qKg (qE qM (qE qM (qC 1) (qC 6)) (qD (Dt.int 1)))) (qD (Dt.int 65536))) qG))))) qH) qH) qH)
abbrev f2:TSD:=(tseq (qi (qI (qE (qU false) (qE qM (qE qM (qC 1) (qC 6)) (qD (Dt.int 0))) (qC 4))) (tseq (qCN (qAV (qC 2) (qAM (qA (qC 4) (qA (qC 5) (qA (qE qM (qE qM (qC 1) (qC 6)) (qD (Dt.int 1))) qG)))))) qH) qH) f3)
abbrev f1:TSD:=(tseq (qi (qI (qE (qU false) (qE qM (qE qM (qC 1) (qC 5)) (qD (Dt.int 0))) (qC 4))) (tseq (qCN (qAV (qC 2) (qAM (qA (qC 4) (qA (qE qM (qE qM (qC 1) (qC 5)) (qD (Dt.int 2))) (qA (qC 6) qG)))))) qH) qH) f2)
abbrev f0:TSD:=(tseq (qb (qC 3) (qBc 3 (qAi (qO 4) (qAi (qO 5) (qAi (qO 6) qFK))))) f1)
abbrev fa:TSD:=(tseq (qi (qAr (qI (qE (qAN fun i j=>decide (i<j)) (qJ qAd (qA (qC 2) qG)) (qD (Dt.int 70)))) (qAr (qI (qE (qAe false) (qE qM (qC 3) (qD (Dt.int 0))) (qAw (qA (qD (Dt.str "add")) (qA (qD (Dt.str "mul")) (qA (qD (Dt.str "sub")) qG)))))) (qI (qE (qAN fun i j=>decide (i<j)) (qE qAF (qJ K31.qAP (qA (qC 0) qG)) (qD (Dt.int 3))) (qD (Dt.int 2)))))) f0 qH) qH)
abbrev ff:TSD:=(tseq (qD3 (qDU (qC 1)) (qO 3) fa) (tseq (qV (qJ qFq (qA (qC 2) qG))) qH))
abbrev qDO:TSD:=(tseq (qb (qJ qJ6 (qA (qC 1) qG)) (qO 2)) ff)
theorem qAG.set {st:Sto} {k e c f:Nat} {x:SO} (h:qAG st k e c) (h1:f≠k) (h2:f≠e):qAG (st.set f x) k e c:=by
  obtain⟨a,o,xs,q1,q2,q3,r⟩:=h
  exact⟨a,o,xs,q9 q1 h1,q2,q9 q3 h2,r⟩
theorem qAG.ek {st:Sto} {k e c:Nat} (h:qAG st k e c):e<st.length∧k<st.length:=by
  obtain⟨a,o,xs,q1,q2,q3,r⟩:=h
  exact⟨qX q3,qX q1⟩
section
variable {E:qAq} {ρ:Rho} {st st':Sto} {N:TSD} {te:TD} {v f:Nat} {xs:List Dt} {d:Dt}
theorem qPg (hl:Ev (qC v) ρ st (.lst f)) (he:EvX te ρ st d) (h:st[f]? = some (.rw xs)) (hn:xs.length<sizeLine) (q:∀ st1,qg st st1→N E ρ (st1.set f (.rw (xs++[d])))):tseq (qCN (qAV (qC v) te)) N E ρ st:=by
  show qAV (qC v) te ρ st fun _ st1=>N E ρ st1
  unfold qAV
  refine hl _ ?_
  refine he _ fun st1 x1=>?_
  show (match st1[f]? with | some (.rw xs)=>_ | _=>_)
  rw [x1 _ _ h]
  exact⟨hn,q st1 x1⟩
theorem qPM {a b c:Dt} {i j l:Nat} (h:Ev te ρ st (.tup [a,b,c])) (q:N E (((ρ.set i (some a)).set j (some b)).set l (some c)) st):tseq (qb te (qBc 3 (qAi (qO i) (qAi (qO j) (qAi (qO l) qFK))))) N E ρ st:=h _ ⟨rfl,q⟩
theorem qQR {g:TGD} {tb:TSD} {l:List Dt} (h:Ev te ρ st d) (hs:qc st d=some l) (q:qGO l (fun st'=>qc st' d=some l) g tb { E with nx:=N E } ρ st):tseq (qD3 (qDU te) g tb) N E ρ st:=by
  show qDU te ρ st fun items ok st1=>qGO items ok g tb { E with nx:=N E } ρ st1
  unfold qDU
  refine h _ ?_
  rw [hs];exact q
theorem forR {g:TGD} {tb:TSD} {n:Nat} (h:Ev te ρ st (.int (n:Nat))) (hn:n≤1000) (q:qGO (qA1 0 n) (fun _=>True) g tb { E with nx:=N E } ρ st):tseq (qD3 (qAx te) g tb) N E ρ st:=by
  show qAx te ρ st fun items ok st1=>qGO items ok g tb { E with nx:=N E } ρ st1
  unfold qAx
  refine h _ ⟨by omega,by omega,?_⟩
  rw [Int.toNat_natCast];exact q
theorem qQK {sp:RDL} {t:TAD} {ds:List Dt} (h:∀ P:List Dt→Sto→Prop,P ds st→t ρ st P) (q:sp ds st E.rt):tseq (qV (qJ sp t)) N E ρ st:=h _ q
theorem qIJ {x:Int} (h:Ev te ρ st (.int x)):Ev (qKg te) ρ st (.int (-x)):=fun P hp=>h _ hp
end
structure FI (st:Sto) (k e f:Nat) (ns xs:List Nd) (ss ts:List Nat) (c:Nat) (st':Sto):Prop where
  f:st'[f]? = some (.rw ((ns++xs).map nD))
  t:OkT 3 (ns++xs) (ss++ts)
  kd:KD k st st'
  dk:qAG st' k e c
theorem FI.ext {st:Sto} {k e f c:Nat} {ns xs:List Nd} {ss ts:List Nat} {s1 s2:Sto} (h:FI st k e f ns xs ss ts c s1) (x:qg s1 s2):FI st k e f ns xs ss ts c s2:=⟨x _ _ h.f,h.t,h.kd.ext x,h.dk.ext x⟩
theorem FI.app {st:Sto} {k e f c:Nat} {ns xs:List Nd} {ss ts:List Nat} {s1:Sto} {nd:Nd} {s:Nat} (h:FI st k e f ns xs ss ts c s1) (hf:st.length≤f) (hk:f≠k) (he:f≠e) (o:OkN (ss++ts) 3 nd s):FI st k e f ns (xs++[nd]) ss (ts++[s]) c (s1.set f (.rw ((ns++xs).map nD++[nD nd]))):=by
  refine⟨?_,?_,fun i o' n q=>?_,h.dk.set hk he⟩
  · rw [qA2 h.f,← List.append_assoc,List.map_append (l₂:=[nd])];rfl
  · rw [← List.append_assoc,← List.append_assoc];exact h.t.snoc o
  · exact q9 (h.kd i o' n q) (by have:=qX q;omega)
def qFw:RDL:=fun ds st P=>∃ (k e n c:Nat) (ns:List Nd) (ss:List Nat),ds=[.lst k,.lst n]∧n≠k∧st[n]? = some (.rw (ns.map nD))∧OkT 3 ns ss∧0<ns.length∧ns.length≤60∧qAG st k e c∧c<800000∧∀ ns' ss' st',OkT 3 ns' ss'→0<ns'.length→ns'.length≤300→KD k st st'→qAG st' k e (c+100)→P (tab ns') st'
theorem qEO {nd:Nd} {w:Op2} (h:(wd nd==nm w)=true):∃ x y,nd = .two w x y:=by
  cases nd with
  | two v x y=>exact⟨x,y,by cases v<;>cases w<;>first | rfl | cases h⟩
  | _=>cases w<;>cases h
theorem qKq {nd:Nd} (h:(wd nd == "num")=true):∃ k,nd = .num k:=by
  cases nd with
  | two v x y=>cases v<;>cases h
  | num k=>exact⟨k,rfl⟩
  | _=>cases h
section
variable {st:Sto} {k e n f c:Nat} {ns:List Nd} {ss:List Nat} {E:qAq} {w:Op2} {x y:Nat} {a0 a3:Option Dt}
noncomputable abbrev fρ (a0:Option Dt) (n f:Nat) (a3:Option Dt) (w:Op2) (x y:Nat):Rho:=[a0,some (.lst n),some (.lst f),a3,some (.str (nm w)),some (.int (x:Nat)),some (.int (y:Nat))]
theorem qBA {ρ:Rho} {st1:Sto} {d:Dt} {te:TD} {x:Nat} {nx:Nd} (h:Ev te ρ st1 (.int (x:Nat))) (hv:ρ[1]? = some (some d)) (hs:qz st1 d ns) (hx:ns[x]? = some nx):Ev (qE qM (qC 1) te) ρ st1 (.tup (.str (wd nx)::ag nx)):=by
  rw [← qAB]
  exact ql (qB (i:=1) hv) hs h (KR.qz.at_ hs hx)
theorem qHG {C:TBD} {N:TSD} {b:Bool} {ρ:Rho} {xs:List Nd} {ts:List Nat} {s1:Sto} {te:TD} (g:FI st k e f ns xs ss ts c s1) (hf:st.length≤f) (hk:f≠k) (he:f≠e) (hl:(ns++xs).length<400) (hv:ρ[2]? = some (some (.lst f))) (hb:EvB C ρ s1 b) (ht:b=true→∃ nd s,OkN (ss++ts) 3 nd s∧Ev te ρ s1 (nD nd))
    (q:∀ xs' ts' s2,FI st k e f ns xs' ss ts' c s2→xs'.length≤xs.length+1→N E ρ s2):tseq (qi C (tseq (qCN (qAV (qC 2) te)) qH) qH) N E ρ s1:=by
  refine qS hb (fun z=>?_) (fun _=>q xs ts s1 g (by omega))
  obtain⟨nd,s,o,ev⟩:=ht z
  refine qPg (qB (i:=2) hv) (qGJ ev) g.f (by rw [List.length_map];exact qAS (by omega)) fun s2 x2=>?_
  exact q _ _ _ ((g.ext x2).app hf hk he o) (by rw [List.length_append];exact Nat.le_refl _)
theorem qPh {xs:List Nd} {ts:List Nat} {s1:Sto} (g:FI st k e f ns xs ss ts c s1) (hT:OkT 3 ns ss) (hn:st[n]? = some (.rw (ns.map nD))) (hnk:n≠k) (hf:st.length≤f) (hk:f≠k) (he:f≠e) (hl:(ns++xs).length≤300) (hw:KR.qCB w=true) (ox:ss[x]? = some 0) (oy:ss[y]? = some 0)
    (q:∀ xs' ts' s2,FI st k e f ns xs' ss ts' c s2→xs'.length≤xs.length+3→E.nx (fρ a0 n f a3 w x y) s2):f1 E (fρ a0 n f a3 w x y) s1:=by
  have lx:x<ns.length:=by rw [hT.len];exact (List.getElem?_eq_some_iff.mp ox).1
  have ly:y<ns.length:=by rw [hT.len];exact (List.getElem?_eq_some_iff.mp oy).1
  have gx:=List.getElem?_eq_getElem lx
  have gy:=List.getElem?_eq_getElem ly
  obtain⟨sx,_,okx⟩:=at2 hT gx
  obtain⟨sy,_,oky⟩:=at2 hT gy
  have okx:=qBX okx
  have oky:=qBX oky
  generalize ns[x]=nx at gx okx
  generalize ns[y]=ny at gy oky
  have app:∀ {ts:List Nat} {i:Nat},ss[i]? = some 0→(ss++ts)[i]? = some 0:=fun h=>by rw [List.getElem?_append_left (List.getElem?_eq_some_iff.mp h).1];exact h
  have hs:∀ {s2:Sto} {xs':List Nd} {ts':List Nat},FI st k e f ns xs' ss ts' c s2→qz s2 (.lst n) ns:=fun g=>qp ⟨_,g.kd n _ hnk hn,rfl⟩
  have srt:∀ i j:Nat,ss[i]? = some 0→ss[j]? = some 0→∀ ts,OkN (ss++ts) 3 (.two w i j) 0:=fun i j hi hj ts=>⟨app hi,app hj,by cases w<;>first | rfl | cases hw⟩
  have v4:∀ s2,Ev (qC 4) (fρ a0 n f a3 w x y) s2 (.str (nm w)):=fun s2=>qB (i:=4) rfl
  have v5:∀ s2,Ev (qC 5) (fρ a0 n f a3 w x y) s2 (.int (x:Nat)):=fun s2=>qB (i:=5) rfl
  have v6:∀ s2,Ev (qC 6) (fρ a0 n f a3 w x y) s2 (.int (y:Nat)):=fun s2=>qB (i:=6) rfl
  have eqSS:∀ {s2:Sto} {te:TD} {u:Str},Ev te (fρ a0 n f a3 w x y) s2 (.str u)→Ev (qE (qU false) te (qC 4)) (fρ a0 n f a3 w x y) s2 (.bl (u==nm w)):=fun h P hp=>h _ (v4 _ _ ⟨rfl,rfl,by
    rw [show (eqD 8 (.str _) (.str (nm w)) != false)=(_==nm w) from Bool.bne_false _];exact hp⟩)
  rw [List.length_append] at hl
  refine qHG g hf hk he (by rw [List.length_append];omega) rfl (evb (eqSS (qQ (j:=0) (qBA (v5 _) rfl (hs g) gx) rfl))) (fun z=>?_) fun xs1 ts1 s2 g1 l1=>?_
  · obtain⟨s,t,rfl⟩:=qEO z
    refine⟨.two w t y,0,srt t y okx.2.1 oy _,?_⟩
    exact qY (ds:=[.str (nm w),.int (t:Nat),.int (y:Nat)]) (qF (v4 _) (qF (qQ (j:=2) (qBA (v5 _) rfl (hs g) gx) rfl) (qF (v6 _) qN))) (by show 3≤sizeLine;decide)
  refine qHG g1 hf hk he (by rw [List.length_append];omega) rfl (evb (eqSS (qQ (j:=0) (qBA (v6 _) rfl (hs g1) gy) rfl))) (fun z=>?_) fun xs2 ts2 s3 g2 l2=>?_
  · obtain⟨s,t,rfl⟩:=qEO z
    refine⟨.two w x s,0,srt x s ox oky.1 _,?_⟩
    exact qY (ds:=[.str (nm w),.int (x:Nat),.int (s:Nat)]) (qF (v4 _) (qF (v5 _) (qF (qQ (j:=1) (qBA (v6 _) rfl (hs g1) gy) rfl) qN))) (by show 3≤sizeLine;decide)
  refine qHG g2 hf hk he (by rw [List.length_append];omega) rfl (evb (qo (qQ (j:=0) (qBA (v6 _) rfl (hs g2) gy) rfl))) (fun z=>?_) fun xs3 ts3 s4 g3 l3=>?_
  · obtain⟨a,rfl⟩:=qKq z
    refine⟨.num (-a%65536),0,⟨Int.emod_nonneg _ (by decide),Int.emod_lt_of_pos _ (by decide),rfl⟩,?_⟩
    exact qY (ds:=[.str "num",.int (-a%65536)]) (qF qK (qF (qa (qIJ (qQ (j:=1) (qBA (v6 _) rfl (hs g2) gy) rfl)) qK (by decide)) qN)) (by show 2≤sizeLine;decide)
  exact q xs3 ts3 s4 g3 (by omega)
end
theorem qLh {nd:Nd} (h:(["add", "mul", "sub"]:List Str).contains (wd nd)=true):∃ w x y,nd = .two w x y∧KR.qCB w=true:=by
  cases nd with
  | two w x y=>exact⟨w,x,y,rfl,by cases w<;>first | rfl | cases h⟩
  | _=>cases h
theorem qFR {ds:List Dt} {st:Sto} {Pd:VD} (h:qFw ds st Pd):qDO (Ed Pd) (qW ["deck", "nodes", "found", "node", "word", "x", "y"] ds) st:=by
  obtain⟨k,e,n,c,ns,ss,rfl,hnk,hn,hT,h0,h60,hd,hc,hP⟩:=h
  have hfe:st.length≠e:=by have:=hd.ek.1;omega
  have hfk:st.length≠k:=by have:=hd.ek.2;omega
  refine qh (qBU (qF (qB (i:=1) rfl) qN) ?_)
  show (match qc st (.lst n) with | some xs=>_ | none=>_)
  rw [show qc st (.lst n)=some (ns.map nD) from qp ⟨_,hn,rfl⟩]
  have sq:∀ s',KD k st s'→qc s' (.lst n)=some (ns.map nD):=fun s' kd=>qp ⟨_,kd n _ hnk hn,rfl⟩
  have g0:FI st k e st.length ns [] ss [] c (st++[.rw (ns.map nD)]):=⟨by rw [List.append_nil];exact q8,by rw [List.append_nil,List.append_nil];exact hT,.of (.app _ _),hd.ext (.app _ _)⟩
  show ff (Ed Pd) [some (.lst k),some (.lst n),some (.lst st.length),none,none,none,none] (st++[SO.rw (ns.map nD)])
  generalize st++[SO.rw (ns.map nD)]=s0 at g0
  generalize ef:st.length=f at g0 hfe hfk
  refine qQR (qB (i:=1) rfl) (sq _ g0.kd) ?_
  refine⟨fun i ρ s'=>(∃ a3 a4 a5 a6,ρ=[some (.lst k),some (.lst n),some (.lst f),a3,a4,a5,a6])∧∃ xs ts,FI st k e f ns xs ss ts (c+i) s'∧xs.length≤3 * i,⟨⟨_,_,_,_,rfl⟩,[],[],g0,Nat.zero_le _⟩,?_,?_,?_⟩
  · rintro i ρ s' _ ⟨_,xs,ts,g,_⟩
    exact sq _ g.kd
  · rintro i d ρ s' hi ⟨⟨a3,a4,a5,a6,rfl⟩,xs,ts,g,hx⟩
    have hil:=qX hi
    rw [List.length_map] at hil
    rw [List.getElem?_map,List.getElem?_eq_getElem hil] at hi
    have hi:d=nD ns[i]:=(Option.some.inj hi).symm
    obtain⟨s,es,os⟩:=at2 hT (List.getElem?_eq_getElem hil)
    have os:=qBX os
    generalize ns[i]=nd at hi os
    rw [qAB] at hi
    subst hi
    show fa _ [some (.lst k),some (.lst n),some (.lst f),some (.tup (.str (wd nd)::ag nd)),a4,a5,a6] s'
    have nxt:∀ s2,qg s' s2→∀ a4 a5 a6,(∃ a3' a4' a5' a6',[some (.lst k),some (.lst n),some (.lst f),some (.tup (.str (wd nd)::ag nd)),a4,a5,a6]=[some (Dt.lst k),some (.lst n),some (.lst f),a3',a4',a5',a6'])∧∃ xs ts,FI st k e f ns xs ss ts (c+(i+1)) s2∧xs.length≤3 * (i+1):=fun s2 x2 a4 a5 a6=>⟨⟨_,_,_,_,rfl⟩,xs,ts,⟨(g.ext x2).f,g.t,(g.ext x2).kd,(g.ext x2).dk.mono (by omega)⟩,by omega⟩
    have hlen:Ev (qJ qAd (qA (qC 2) qG)) [some (.lst k),some (.lst n),some (.lst f),some (.tup (.str (wd nd)::ag nd)),a4,a5,a6] s' (.int ((ns++xs).length:Nat)):=by
      have:=qAI (te:=qC 2) (ρ:=[some (.lst k),some (.lst n),some (.lst f),some (.tup (.str (wd nd)::ag nd)),a4,a5,a6]) (qB (i:=2) rfl) (show qc s' (.lst f)=some ((ns++xs).map nD) from qp ⟨_,g.f,rfl⟩)
      k_dat 0"r20"
      exact this
    refine seq1 ?_
    refine qHE hlen qK _ ?_
    by_cases b1:(((ns++xs).length:Nat):Int)<70
    rotate_left
    · rw [decide_eq_false b1]
      exact qAt (qAt (nxt s' (.refl _) _ _ _))
    rw [decide_eq_true b1]
    refine qAo ?_
    refine xb (qCI (ss:=["add", "mul", "sub"]) (qQ (j:=0) (qB (i:=3) rfl) rfl) (fun _ h=>h) (by decide)) _ fun s2 x2=>?_
    rw [Bool.bne_false]
    cases b2:(["add", "mul", "sub"]:List Str).contains (wd nd) with
    | false=>exact qAt (qAt (nxt s2 x2 _ _ _))
    | true =>
    refine qAo ?_
    obtain⟨w,x,y,rfl,hw⟩:=qLh b2
    have g2:=g.ext x2
    refine qBU (qF (qB (i:=0) rfl) qN) ⟨k,e,c+i,rfl,g2.dk,by omega,fun v s3 kd dk=>?_⟩
    have g3:FI st k e f ns xs ss ts (c+(i+1)) s3:=⟨kd f _ hfk g2.f,g2.t,g2.kd.trans kd,dk⟩
    refine⟨by decide,?_⟩
    show (if decide (v%3<2)=true then _ else _)
    by_cases b3:v%3<2
    rotate_left
    · rw [decide_eq_false b3]
      exact qAt ⟨⟨_,_,_,_,rfl⟩,xs,ts,g3,by omega⟩
    rw [decide_eq_true b3]
    refine qAo ?_
    obtain⟨ox,oy,_⟩:=os
    refine qPM (a:=.str (nm w)) (b:=.int (x:Nat)) (c:=.int (y:Nat)) (qB (i:=3) rfl) ?_
    refine qPh (w:=w) (x:=x) (y:=y) g3 hT hn hnk (by omega) hfk hfe (by omega) hw ox oy fun xs' ts' s4 g4 l4=>?_
    exact⟨⟨_,_,_,_,rfl⟩,xs',ts',g4,by omega⟩
  · rintro ρ s' ⟨⟨a3,a4,a5,a6,rfl⟩,xs,ts,g,hx⟩
    rw [List.length_map] at g hx
    show tseq (qV (qJ qFq (qA (qC 2) qG))) qH (Ed Pd) [some (.lst k),some (.lst n),some (.lst f),a3,a4,a5,a6] s'
    refine qQK (qF (qB (i:=2) rfl) qN) ?_
    show (match qc s' (.lst f) with | some xs=>_ | none=>_)
    rw [show qc s' (.lst f)=some ((ns++xs).map nD) from qp ⟨_,g.f,rfl⟩]
    exact hP (ns++xs) (ss++ts) s' g.t (by rw [List.length_append];omega) (by rw [List.length_append];omega) g.kd (g.dk.mono (by omega))
end K31
namespace K31
open PySem PySem.Spec PyProof.Rows L2 L3 KH KS KW K20
open KR (Ev EvB qB qK qQ seq1 qh qS ifS evb qAk qY qF qN rdR qo qAA qAL qAg qz rn Rl InT Res qAu orD qP Nums wd ag qAB ql qAK qAI qAp qAb qAY qa qm qq qAn)
abbrev u8:TSD:=(tseq (qi (qI (qE (qK4 false) (qC 7) (qC 1))) (tseq (qb (qIE (qC 1) (qC 7)) (qO 6)) qH) qH) (tseq (qV (qAM (qA (qC 5) (qA (qC 6) qG)))) qH))
abbrev u7:TSD:=(tseq (qi (qAr (qI (qE (qU false) (qE qM (qC 2) (qD (Dt.int 0))) (qD (Dt.str "sub")))) (qAr (qI (qE (qU false) (qC 5) (qD (Dt.str "subnum")))) (qI (qE (qU false) (qE qM (qE qM (qC 1) (qE qM (qC 2) (qD (Dt.int 2)))) (qD (Dt.int 0))) (qD (Dt.str "num")))))) (tseq (qb (qAM (qA (qD (Dt.str "num")) (qA (qE qAF (qKg (qE qM (qE qM (qC 1) (qE qM (qC 2) (qD (Dt.int 2)))) (qD (Dt.int 1)))) (qD (Dt.int 65536))) qG))) (qO 7)) qH) qH) u8)
abbrev u6:TSD:=(tseq (qi (qAr (qI (qE (qU false) (qJ qAd (qA (qC 2) qG)) (qD (Dt.int 3)))) (qI (qE (qU false) (qC 5) (qD (Dt.str "ungroup"))))) (tseq (qb (qE L3.qBW (qAM (qA (qE qM (qC 2) (qD (Dt.int 0))) (qA (qE qM (qC 2) (qD (Dt.int 1))) qG))) (qBD (qE qM (qC 1) (qE qM (qC 2) (qD (Dt.int 2)))) (qBK (qD (Dt.int 1))) (qBK (qD (Dt.int 2))))) (qO 7)) qH) qH) u7)
abbrev u5:TSD:=(tseq (qi (qAr (qI (qE (qU false) (qJ qAd (qA (qC 2) qG)) (qD (Dt.int 3)))) (qI (qE (qU false) (qC 5) (qD (Dt.str "group"))))) (tseq (qb (qE L3.qBW (qE L3.qBW (qAM (qA (qE qM (qC 2) (qD (Dt.int 0))) qG)) (qBD (qE qM (qC 1) (qE qM (qC 2) (qD (Dt.int 1)))) (qBK (qD (Dt.int 2))) qC4)) (qBD (qC 2) (qBK (qD (Dt.int 2))) qC4)) (qO 7)) qH) qH) u6)
abbrev u3:TSD:=(tseq (qb (qE qAF (qE qEP (qC 3) (qD (Dt.int 11))) (qJ qAd (qA (qC 1) qG))) (qO 6)) (tseq (qb (qD Dt.non) (qO 7)) u5))
abbrev qDN:TSD:=(tseq (qb (qJ K31.qAP (qA (qC 0) qG)) (qO 3)) (tseq (qb (qAw (qA (qD (Dt.str "swap")) (qA (qD (Dt.str "group")) (qA (qD (Dt.str "ungroup")) (qA (qD (Dt.str "subnum")) (qA (qD (Dt.str "zero")) (qA (qD (Dt.str "one")) (qA (qD (Dt.str "nil")) (qA (qD (Dt.str "self")) (qA (qD (Dt.str "count")) (qA (qD (Dt.str "sure")) (qA (qD (Dt.str "never")) qG)))))))))))) (qO 4)) (tseq (qb (qE qM (qC 4) (qE qAF (qC 3) (qD (Dt.int 11)))) (qO 5)) u3)))
def qFX:RDL:=fun ds st P=>∃ (k e c:Nat) (ns:List Nd) (ss:List Nat) (sd:Nd) (s:Nat),ds=[.lst k,tab ns,nD sd]∧OkT 3 ns ss∧0<ns.length∧ns.length≤300∧OkN ss 3 sd s∧qAG st k e c∧c<900000∧∀ (r:Rl) (m:Nat) st',m<ns.length→KD k st st'→qAG st' k e (c+1)→P (.tup [.str (rn r),.int (m:Nat)]) st'
section
variable {ρ:Rho} {st:Sto} {ta tb:TD} {a b:List Dt}
theorem qF6 (h:Ev ta ρ st (.tup a)) (h2:Ev tb ρ st (.tup b)) (hl:a.length+b.length≤1000):Ev (qE L3.qBW ta tb) ρ st (.tup (a++b)):=fun P hp=>h _ (h2 _ ⟨Nat.le_of_lt (qAS hl),hp⟩)
theorem qIX {i:Int} (h:Ev ta ρ st (.tup a)):Ev (qBD ta (qBK (qD (.int i))) qC4) ρ st (.tup (cutD a (some i) none)):=fun P hp=>h _ hp
theorem qLU {i j:Int} (h:Ev ta ρ st (.tup a)):Ev (qBD ta (qBK (qD (.int i))) (qBK (qD (.int j)))) ρ st (.tup (cutD a (some i) (some j))):=fun P hp=>h _ hp
theorem qBq {lo hi:Option Int}:(∀ x∈cutD a lo hi,x∈a)∧(cutD a lo hi).length≤a.length:=by
  unfold L3.cutD
  refine⟨fun x h=>List.mem_of_mem_drop (List.mem_of_mem_take h),?_⟩
  rw [List.length_take,List.length_drop];omega
end
theorem qFQ {ρ:Rho} {st:Sto} {c:TBD} {b b':Bool} (e:b=b') (h:EvB c ρ st b):EvB c ρ st b':=e ▸ h
theorem qBE (nd:Nd):(∀ x∈Dt.str (wd nd)::ag nd,okD 7 x=true)∧(Dt.str (wd nd)::ag nd).length≤3:=by
  cases nd with
  | two w x y=>exact⟨by intro d h;simp only [ag,List.mem_cons,List.not_mem_nil,or_false] at h;rcases h with rfl | rfl | rfl<;>rfl,Nat.le_refl _⟩
  | yes=>exact⟨by intro d h;simp only [ag,List.mem_cons,List.not_mem_nil,or_false] at h;subst h;rfl,by decide⟩
  | no=>exact⟨by intro d h;simp only [ag,List.mem_cons,List.not_mem_nil,or_false] at h;subst h;rfl,by decide⟩
  | _=>exact⟨by intro d h;simp only [ag,List.mem_cons,List.not_mem_nil,or_false] at h;rcases h with rfl | rfl<;>rfl,Nat.le_succ _⟩
theorem qPf (nd:Nd):okD 8 (nD nd)=true:=by
  rw [qAB]
  show (Dt.str (wd nd)::ag nd).all (okD 7)=true
  exact List.all_eq_true.mpr (qBE nd).1
theorem qKS (ns:List Nd):(ns.map nD).all (okD 8)=true:=List.all_eq_true.mpr fun d h=>by
  obtain⟨nd,_,rfl⟩:=List.mem_map.mp h
  exact qPf nd
section
variable {ns:List Nd} {ss:List Nat} {sd:Nd} {r:Rl} {m:Nat} {st:Sto} {Pd:VD} {a0 a3 a4:Option Dt} {due:Dt}
noncomputable abbrev uρ (a0:Option Dt) (ns:List Nd) (sd:Nd) (a3 a4:Option Dt) (r:Rl) (m:Nat) (due:Dt):Rho:=[a0,some (tab ns),some (.tup (.str (wd sd)::ag sd)),a3,a4,some (.str (rn r)),some (.int (m:Nat)),some due]
theorem qJd (hd:okD 8 due=true) (hm:m<ns.length) (hP:∀ m:Nat,m<ns.length→Pd (.tup [.str (rn r),.int (m:Nat)]) st):u8 (Ed Pd) (uρ a0 ns sd a3 a4 r m due) st:=by
  have rt:∀ m:Nat,m<ns.length→tseq (qV (qAM (qA (qC 5) (qA (qC 6) qG)))) qH (Ed Pd) (uρ a0 ns sd a3 a4 r m due) st:=fun m hm=>rdR (qY (ds:=[.str (rn r),.int (m:Nat)]) (qF (qB (i:=5) rfl) (qF (qB (i:=6) rfl) qN)) (by show 2≤sizeLine;decide)) (hP m hm)
  refine qS (b:=(ns.map nD).any (fun z=>eqD 8 z due)) (evb fun P hp=>?_) (fun z=>?_) (fun _=>rt m hm)
  · refine qB (i:=7) rfl _ ?_
    refine qB (i:=1) rfl _ ?_
    refine⟨hd,qKS ns,?_⟩
    rw [Bool.bne_false];exact hp
  · cases q:(ns.map nD).findIdx? (fun z=>eqD 8 z due) with
    | none =>
      rw [List.findIdx?_eq_none_iff] at q
      rw [List.any_eq_true] at z
      obtain⟨x,hx,ex⟩:=z
      rw [q x hx] at ex;cases ex
    | some j =>
      have hj:j<ns.length:=by
        have:=(List.findIdx?_eq_some_iff_getElem.mp q).1
        k_dat 0"r20"
        exact this
      refine qh ?_
      refine qB (i:=1) rfl _ ?_
      refine⟨_,rfl,?_⟩
      refine qB (i:=7) rfl _ ?_
      exact⟨hd,qKS ns,j,q,rt j hj⟩
theorem qOy (hT:OkT 3 ns ss) {s:Nat} (o:OkN ss 3 sd s) (hm:m<ns.length) (hP:∀ m:Nat,m<ns.length→Pd (.tup [.str (rn r),.int (m:Nat)]) st):u5 (Ed Pd) (uρ a0 ns sd a3 a4 r m .non) st:=by
  have vl:∀ due,Ev (qJ qAd (qA (qC 2) qG)) (uρ a0 ns sd a3 a4 r m due) st (.int ((Dt.str (wd sd)::ag sd).length:Nat)):=fun due=>qAp (qB (i:=2) rfl)
  have vr:∀ (s:Str) due,Ev (qE (qU false) (qC 5) (qD (.str s))) (uρ a0 ns sd a3 a4 r m due) st (.bl (rn r==s)):=fun s due=>qo (qB (i:=5) rfl)
  have v0:∀ due,Ev (qE qM (qC 2) (qD (Dt.int 0))) (uρ a0 ns sd a3 a4 r m due) st (.str (wd sd)):=fun due=>qQ (j:=0) (qB (i:=2) rfl) rfl
  by_cases h2:∃ w x y,sd = .two w x y
  · obtain⟨w,x,y,rfl⟩:=h2
    obtain⟨ox,oy,_⟩:=o
    have lx:x<ns.length:=by rw [hT.len];exact (List.getElem?_eq_some_iff.mp ox).1
    have ly:y<ns.length:=by rw [hT.len];exact (List.getElem?_eq_some_iff.mp oy).1
    have gx:=List.getElem?_eq_getElem lx
    have gy:=List.getElem?_eq_getElem ly
    generalize ns[x]=nx at gx
    generalize ns[y]=ny at gy
    have nx_:∀ due,Ev (qE qM (qC 1) (qE qM (qC 2) (qD (Dt.int 1)))) (uρ a0 ns (.two w x y) a3 a4 r m due) st (.tup (.str (wd nx)::ag nx)):=fun due=>qBA (qQ (j:=1) (qB (i:=2) rfl) rfl) rfl rfl gx
    have ny_:∀ due,Ev (qE qM (qC 1) (qE qM (qC 2) (qD (Dt.int 2)))) (uρ a0 ns (.two w x y) a3 a4 r m due) st (.tup (.str (wd ny)::ag ny)):=fun due=>qBA (qQ (j:=2) (qB (i:=2) rfl) rfl) rfl rfl gy
    have k7:∀ due,okD 8 due=true→u7 (Ed Pd) (uρ a0 ns (.two w x y) a3 a4 r m due) st:=fun due hd=>by
      refine qS (qq (evb (qo (v0 due))) fun _=>qq (evb (vr _ due)) fun _=>evb (qo (qQ (j:=0) (ny_ due) rfl))) (fun z=>?_) (fun _=>qJd hd hm hP)
      rw [Bool.and_eq_true,Bool.and_eq_true] at z
      obtain⟨a,rfl⟩:=qKq z.2.2
      refine qh (qY (ds:=[.str "num",.int (-a%65536)]) (qF qK (qF (qa (qIJ (qQ (j:=1) (ny_ due) rfl)) qK (by decide)) qN)) (by show 2≤sizeLine;decide) _ ?_)
      exact qJd (due:=.tup [.str "num",.int (-a%65536)]) rfl hm hP
    have all7:∀ xs:List Dt,(∀ x∈xs,okD 7 x=true)→okD 8 (.tup xs)=true:=fun xs h=>List.all_eq_true.mpr h
    have k6:∀ due,okD 8 due=true→u6 (Ed Pd) (uρ a0 ns (.two w x y) a3 a4 r m due) st:=fun due hd=>by
      refine qS (qq (evb (qAA (vl due) qK)) fun _=>evb (vr _ due)) (fun z=>?_) (fun _=>k7 due hd)
      refine qh (qF6 (qY (ds:=[.str (nm w),.int (x:Nat)]) (qF (v0 due) (qF (qQ (j:=1) (qB (i:=2) rfl) rfl) qN)) (by show 2≤sizeLine;decide)) (qLU (ny_ due)) ?_ _ ?_)
      · have:=(qBq (a:=Dt.str (wd ny)::ag ny) (lo:=some 1) (hi:=some 2)).2
        have:=(qBE ny).2
        show 2+_≤1000;omega
      · refine k7 _ (all7 _ fun x h=>?_)
        rcases List.mem_append.mp h with h | h
        · simp only [List.mem_cons,List.not_mem_nil,or_false] at h
          rcases h with rfl | rfl<;>rfl
        · exact (qBE ny).1 x (qBq.1 x h)
    refine qS (qq (evb (qAA (vl .non) qK)) fun _=>evb (vr _ .non)) (fun z=>?_) (fun _=>k6 .non rfl)
    refine qh (qF6 (qF6 (qY (ds:=[.str (nm w)]) (qF (v0 .non) qN) (by show 1≤sizeLine;decide)) (qIX (nx_ .non)) ?_) (qIX (a:=.str (wd (.two w x y))::ag (.two w x y)) (qB (i:=2) rfl)) ?_ _ ?_)
    · have:=(qBq (a:=Dt.str (wd nx)::ag nx) (lo:=some 2) (hi:=none)).2
      have:=(qBE nx).2
      show 1+_≤1000;omega
    · have:=(qBq (a:=Dt.str (wd nx)::ag nx) (lo:=some 2) (hi:=none)).2
      have:=(qBE nx).2
      have:=(qBq (a:=Dt.str (wd (.two w x y))::ag (.two w x y)) (lo:=some 2) (hi:=none)).2
      have:=(qBE (.two w x y)).2
      rw [List.length_append]
      show 1+_+_≤1000;omega
    · refine k6 _ (all7 _ fun x h=>?_)
      rcases List.mem_append.mp h with h | h
      · rcases List.mem_append.mp h with h | h
        · simp only [List.mem_cons,List.not_mem_nil,or_false] at h
          subst h;rfl
        · exact (qBE nx).1 x (qBq.1 x h)
      · exact (qBE _).1 x (qBq.1 x h)
  · have e3:decide ((((Dt.str (wd sd)::ag sd).length:Nat):Int)=3)=false:=by
      cases sd with
      | two w x y=>exact absurd ⟨w,x,y,rfl⟩ h2
      | _=>rfl
    have es:(wd sd == "sub")=false:=by
      cases sd with
      | two w x y=>exact absurd ⟨w,x,y,rfl⟩ h2
      | _=>rfl
    k_dat 0"r56"
    k_dat 0"r56"
    refine qS (b:=false) (qq (b1:=false) (b2:=false) (qFQ es (evb (qo (v0 .non)))) (fun z=>nomatch z)) (fun z=>nomatch z) (fun _=>?_)
    exact qJd rfl hm hP
end
theorem qGF {ds:List Dt} {st:Sto} {Pd:VD} (h:qFX ds st Pd):qDN (Ed Pd) (qW ["deck", "nodes", "seen", "cell", "rules", "rule", "n", "due"] ds) st:=by
  obtain⟨k,e,c,ns,ss,sd,s,rfl,hT,h0,hl,o,hd,hc,hP⟩:=h
  rw [qAB]
  refine qh ?_
  refine qBU (qF (qB (i:=0) rfl) qN) ⟨k,e,c,rfl,hd,by omega,fun v s1 kd dk=>?_⟩
  refine qh ⟨by decide,?_⟩
  have hg:(s1++[SO.rw (KR.keys.map .str)])[s1.length]? = some (.rw (KR.keys.map .str)):=q8
  have x1:qg s1 (s1++[SO.rw (KR.keys.map .str)]):=.app _ _
  obtain⟨d,ed,md⟩:=qDi (xs:=KR.keys.map Dt.str) v (by decide)
  obtain⟨w,hw,rfl⟩:=qEN md
  obtain⟨r,rfl⟩:=KR.qIH hw
  refine qh ?_
  refine qB (i:=4) (d:=.lst s1.length) rfl _ ?_
  refine qa (qB (i:=3) rfl) qK (by decide) _ ?_
  refine qDA hg ed ?_
  show u3 (Ed Pd) [some (.lst k),some (tab ns),some (.tup (.str (wd sd)::ag sd)),some (.int v),some (.lst s1.length),some (.str (rn r)),none,none] (s1++[SO.rw (KR.keys.map .str)])
  generalize s1++[SO.rw (KR.keys.map .str)]=s2 at hg x1
  obtain⟨m,em,hm⟩:=qA3 (v:=v / 11) h0
  have hlen:∀ ρ:Rho,ρ[1]? = some (some (tab ns))→Ev (qJ qAd (qA (qC 1) qG)) ρ s2 (.int (ns.length:Nat)):=fun ρ hρ=>by
    have:=qAp (st:=s2) (te:=qC 1) (ρ:=ρ) (l:=ns.map nD) (qB (i:=1) hρ)
    k_dat 0"r20"
    exact this
  have em':∀ ρ:Rho,ρ[1]? = some (some (tab ns))→ρ[3]? = some (some (.int v))→Ev (qE qAF (qE qEP (qC 3) (qD (Dt.int 11))) (qJ qAd (qA (qC 1) qG))) ρ s2 (.int (m:Nat)):=fun ρ h1 h3=>by
    rw [← em]
    exact qa (qB6 (qB (i:=3) h3) qK (by decide) (by decide)) (hlen ρ h1) (by omega)
  refine qh (em' _ rfl rfl _ ?_)
  refine qh (qK _ ?_)
  exact qOy hT o hm fun m' hm'=>hP r m' s2 hm' (kd.ext x1) (dk.ext x1)
end K31
namespace K31
open PySem PySem.Spec PyProof.Rows L2 L3 KH KS KW K20
open KR (Ev EvB qB qK qQ seq1 qh qS ifS evb qAk qY qF qN rdR qo qAA qAL qAg qz rn Rl InT Res qAu orD qP Nums wd ag qAB ql qAK qAI qAp qAb qAY qa qm qq qAn Frm inR keys)
abbrev qCL:TSD:=(tseq (qb (qD Dt.non) (qO 3)) (tseq (qO0 ["NoTurning"] 3 KR.qCV (qA (qC 0) (qA (qC 1) (qA (qC 2) qG))) (tseq (qb (qD Dt.non) (qO 3)) qH)) (tseq (qV (qC 3)) qH)))
abbrev tD:TSD:=(tseq (qCN (qAV (qC 1) (qAM (qA (qC 4) (qA (qC 5) (qA (qC 6) qG)))))) qH)
abbrev tC:TSD:=(tseq (qb (qB4 (qAx (qD (Dt.int 3))) (fun x st P=>P true st) (qE qM (qAw (qA (qE qAF (qJ K31.qAP (qA (qC 1) qG)) (qD (Dt.int 65536))) (qA (qE qM (qC 2) (qE qAF (qJ K31.qAP (qA (qC 1) qG)) (qD (Dt.int 8)))) qG))) (qE qAF (qC 3) (qD (Dt.int 2)))) [(0, "deck"),(3, "ends"),(2, "k")]) (qO 6)) tD)
abbrev tB:TSD:=(tseq (qb (qB4 (qAx (qD (Dt.int 3))) (fun x st P=>P true st) (qE (qU false) (qE qAF (qJ K31.qAP (qA (qC 1) qG)) (qD (Dt.int 2))) (qD (Dt.int 1))) [(0, "deck")]) (qO 5)) tC)
abbrev tA:TSD:=(tseq (qb (qB4 (qAx (qD (Dt.int 8))) (fun x st P=>P true st) (qE qM (qAw (qA (qE qM (qC 2) (qE qAF (qJ K31.qAP (qA (qC 1) qG)) (qD (Dt.int 8)))) (qA (qE qAF (qJ K31.qAP (qA (qC 1) qG)) (qD (Dt.int 65536))) qG))) (qE qAF (qE L3.qBW (qC 3) (qC 0)) (qD (Dt.int 2)))) [(0, "deck"),(3, "ends"),(2, "k")]) (qO 4)) tB)
abbrev qCc:TSD:=(tseq (qb (qAw qG) (qO 1)) (tseq (qD3 (qAx (qD (Dt.int 4))) (qO 2) (tseq (qb (qAw (qA (qD (Dt.int 0)) (qA (qD (Dt.int 1)) (qA (qD (Dt.int 65535)) (qA (qD (Dt.int 32768)) (qA (qD (Dt.int 2)) (qA (qD (Dt.int 65534)) (qA (qD (Dt.int 256)) (qA (qD (Dt.int 32767)) qG))))))))) (qO 3)) tA)) (tseq (qV (qC 1)) qH)))
def qB7:RDL:=fun ds st P=>∃ (ns:List Nd) (ss:List Nat) (sd:Nd) (s:Nat) (r:Rl) (m:Nat),ds=[tab ns,nD sd,.tup [.str (rn r),.int (m:Nat)]]∧OkT 3 ns ss∧OkN ss 3 sd s∧m<ns.length∧∀ st',qg st st'→P (orD (qP ns m r sd)) st'
noncomputable def agI:Nd→List Int
  | .num n=>[n]
  | .box k=>[(k:Int)]
  | .mark k=>[(k:Int)]
  | .item k=>[(k:Int)]
  | .two _ x y=>[(x:Int),(y:Int)]
  | .nought x=>[(x:Int)]
  | .high x=>[(x:Int)]
  | .yes=>[]
  | .no=>[]
theorem qKH (nd:Nd):ag nd=(agI nd).map .int:=by cases nd<;>rfl
theorem qOQ (nd:Nd):Frm (wd nd) (agI nd):=by
  cases nd with
  | two w x y=>cases w<;>exact⟨List.contains_iff_mem.mp rfl,rfl⟩
  | _=>exact⟨List.contains_iff_mem.mp rfl,rfl⟩
theorem qOb {ss:List Nat} {nd:Nd} {s:Nat} (o:OkN ss 3 nd s):InT ss.length nd:=by
  have t:∀ {x:Nat},ss[x]? = some 0→x<ss.length:=fun h=>(List.getElem?_eq_some_iff.mp h).1
  cases nd with
  | two w x y=>exact⟨t o.1,t o.2.1⟩
  | nought x=>exact t o.1
  | high x=>exact t o.1
  | _=>trivial
theorem qOO {m:Nat} {nd:Nd} (h:InT m nd):inR m (wd nd) (agI nd)=true:=by
  have b:∀ x:Nat,x<m→(decide ((0:Int)≤(x:Nat))&&decide (((x:Nat):Int)<(m:Int)))=true:=fun x h=>by
    rw [decide_eq_true (show (0:Int)≤(x:Nat) by omega),decide_eq_true (show ((x:Nat):Int)<(m:Int) by omega)];rfl
  unfold KR.inR
  cases nd with
  | two w x y =>
    rw [List.all_eq_true]
    intro z hz
    have hz:z=(x:Int)∨z=(y:Int):=by
      split at hz
      · simpa [agI] using hz
      · cases hz
    rcases hz with rfl | rfl
    · exact b x h.1
    · exact b y h.2
  | nought x =>
    rw [List.all_eq_true]
    intro z hz
    have hz:z=(x:Int):=by
      split at hz
      · simpa [agI] using hz
      · cases hz
    subst hz;exact b x h
  | high x =>
    rw [List.all_eq_true]
    intro z hz
    have hz:z=(x:Int):=by
      split at hz
      · simpa [agI] using hz
      · cases hz
    subst hz;exact b x h
  | _=>rfl
theorem qLI {ns:List Nd} {ss:List Nat} (h:OkT 3 ns ss):Nums ns:=fun k hk=>by
  obtain⟨i,hi,e⟩:=List.getElem_of_mem hk
  obtain⟨s,_,o⟩:=at2 h (show ns[i]? = some (.num k) by rw [List.getElem?_eq_getElem hi,e])
  exact⟨o.1,o.2.1⟩
theorem qKK {r r':Rl} (h:rn r=rn r'):r=r':=by
  cases r<;>cases r'<;>first | rfl | (exact absurd h (by decide))
theorem qDu {ds:List Dt} {st:Sto} {Pd:VD} (h:qB7 ds st Pd):qCL (Ed Pd) (qW ["nodes", "seen", "step", "found"] ds) st:=by
  obtain⟨ns,ss,sd,s,r,m,rfl,hT,o,hm,hP⟩:=h
  have hin:InT ns.length sd:=by rw [hT.len];exact qOb o
  have hR:=qOO hin
  refine qh (qK _ ?_)
  refine seq1 ?_
  refine qF (qB (i:=0) rfl) (qF (qB (i:=1) rfl) (qF (qB (i:=2) rfl) qN)) _ ?_
  refine⟨tab ns,ns,wd sd,agI sd,rn r,(m:Nat),by rw [qAB,qKH],rfl,qLI hT,qOQ sd,fun h=>?_,fun _ r' m' e1 e2 hm'=>?_⟩
  · rcases h with h | h | h | h
    · rw [hR] at h;cases h
    · exact absurd (KR.qK2 r) h
    · omega
    · omega
  · have:r=r':=qKK e1
    subst this
    have:m=m':=by omega
    subst this
    refine⟨sd,by rw [qAB,qKH],hin,fun st' x'=>?_⟩
    have hP:=hP st' x'
    cases q:qP ns m r sd with
    | none =>
      rw [q] at hP
      exact⟨List.mem_singleton.mpr rfl,hP⟩
    | some z =>
      rw [q] at hP
      have hx:isX (qAu z)=none:=by
        cases z with
        | nd x=>show isX (nD x)=none;rw [qAB];rfl
        | at_ i=>rfl
      show (match isX (qAu z) with | some n=>_ | none=>_)
      rw [hx]
      exact hP
def qGu (te:TD) (ρ:Rho) (st:Sto) (k e c j:Nat) (M:Int):Prop:=∀ Q:VD,(∀ v st',0≤v→v<M→KD k st st'→qAG st' k e (c+j)→Q (.int v) st')→te ρ st Q
section
variable {ρ:Rho} {st:Sto} {k e c:Nat} {v:Nat} {ta tb ti:TD}
theorem qBx {M:Int} (hv:ρ[v]? = some (some (.lst k))) (hd:qAG st k e c) (hc:c<900000) (hM:0<M):qGu (qE qAF (qJ qAP (qA (qC v) qG)) (qD (.int M))) ρ st k e c 1 M:=fun Q hq=>qBU (qF (qB hv) qN) ⟨k,e,c,rfl,hd,by omega,fun v s1 kd dk=>⟨hM,hq _ s1 (Int.emod_nonneg _ (by omega)) (Int.emod_lt_of_pos _ hM) kd dk⟩⟩
noncomputable def qCE:List Int:=[0,1,65535,32768,2,65534,256,32767]
theorem qGi {w n:Nat} (hw:ρ[w]? = some (some (.lst n))) (hn:st[n]? = some (.rw (qCE.map .int))) (hnk:n≠k) (hv:ρ[v]? = some (some (.lst k))) (hd:qAG st k e c) (hc:c<900000):qGu (qE qM (qC w) (qE qAF (qJ qAP (qA (qC v) qG)) (qD (.int 8)))) ρ st k e c 1 65536:=fun Q hq=>qB hw _ (qBx hv hd hc (by decide) _ fun z s1 z0 z1 kd dk=>by
  obtain⟨m,rfl⟩:∃ m:Nat,z=(m:Int):=⟨z.toNat,by omega⟩
  have hm:m<qCE.length:=by show m<8;omega
  refine qDA (kd n _ hnk hn) (d:=.int qCE[m]) (qB8 (by rw [List.getElem?_map,List.getElem?_eq_getElem hm];rfl)) ?_
  have:=List.all_eq_true.mp (show qCE.all (fun v=>decide (0≤v)&&decide (v<65536))=true by decide) _ (List.getElem_mem hm)
  rw [Bool.and_eq_true,decide_eq_true_eq,decide_eq_true_eq] at this
  exact hq _ s1 this.1 this.2 kd dk)
theorem qEz {j:Int} (h1:qGu ta ρ st k e c 1 65536) (h2:∀ st',KD k st st'→qAG st' k e (c+1)→qGu tb ρ st' k e (c+1) 1 65536) (h3:∀ st',Ev ti ρ st' (.int j)):qGu (qE qM (qAw (qA ta (qA tb qG))) (qE qAF ti (qD (.int 2)))) ρ st k e c 2 65536:=fun Q hq=>h1 _ fun x s1 x0 x1 kd1 dk1=>h2 s1 kd1 dk1 _ fun y s2 y0 y1 kd2 dk2=>⟨by show 2≤sizeLine;decide,qa (h3 _) qK (by decide) _ (by
  obtain⟨m,em,hm⟩:=qA3 (v:=j) (n:=2) (by decide)
  have g:(s2++[SO.rw [.int x,.int y]])[s2.length]? = some (.rw [.int x,.int y]):=q8
  have xx:qg s2 (s2++[SO.rw [.int x,.int y]]):=.app _ _
  show qM (.lst s2.length) (.int (j%((2:Nat):Int))) _ Q
  rw [em]
  rcases m with _ | _ | m
  · exact qDA g rfl (hq x _ x0 x1 ((kd1.trans kd2).ext xx) (dk2.ext xx))
  · exact qDA g rfl (hq y _ y0 y1 ((kd1.trans kd2).ext xx) (dk2.ext xx))
  · omega)⟩
theorem qCv {n j:Nat} {te:TD} {cρ:Rho} {good:Dt→Prop} {Fin:List Dt→Sto→Prop} (hd:qAG st k e c) (hn:n≤100)
    (step:∀ (i:Nat) s',i<n→KD k st s'→qAG s' k e (c+j * i)→∀ Q:VD,(∀ d s2,good d→KD k s' s2→qAG s2 k e (c+j * i+j)→Q d s2)→te (some (.int (i:Nat))::cρ) s' Q)
    (fin:∀ ys s',ys.length=n→(∀ y∈ys,good y)→KD k st s'→qAG s' k e (c+j * n)→Fin ys s'):qFD (qA1 0 n) (fun _=>True) (fun x st P=>P true st) te cρ st Fin:=by
  refine⟨fun i ys s'=>ys.length=i∧(∀ y∈ys,good y)∧KD k st s'∧qAG s' k e (c+j * i),⟨rfl,(fun y h=>by cases h),.refl _,hd⟩,fun _ _ _ _ _=>trivial,?_,?_⟩
  · rintro i d ys s' hi ⟨hl,hg,kd,dk⟩
    have hil:=qX hi
    rw [qAa] at hil
    have hv':d = .int ((i:Nat):Int):=by
      have:=(qAT hi).2
      rw [this];congr 1;omega
    subst hv'
    refine⟨by rw [hl];exact qAS (by omega),qAo ?_⟩
    refine step i s' hil kd dk _ fun d s2 gd kd2 dk2=>⟨by rw [List.length_append,hl];rfl,fun y hy=>?_,kd.trans kd2,by rw [Nat.mul_add,Nat.mul_one,← Nat.add_assoc];exact dk2⟩
    rcases List.mem_append.mp hy with h | h
    · exact hg y h
    · rw [List.mem_singleton.mp h];exact gd
  · rintro ys s' ⟨hl,hg,kd,dk⟩
    rw [qAa] at hl dk
    exact fin ys s' hl hg kd dk
theorem qFy {M:Int}:∀ (ys:List Dt),(∀ y∈ys,∃ v,y = .int v∧0≤v∧v<M)→∃ bx:List Int,ys=bx.map .int∧∀ v∈bx,0≤v∧v<M
  | [],_=>⟨[],rfl,fun v h=>by cases h⟩
  | y::r,h=>by
    obtain⟨bx,e,hb⟩:=qFy r fun y hy=>h y (List.mem_cons_of_mem _ hy)
    obtain⟨v,rfl,hv⟩:=h y List.mem_cons_self
    refine⟨v::bx,by rw [e];rfl,fun z hz=>?_⟩
    rcases List.mem_cons.mp hz with rfl | hz
    · exact hv
    · exact hb z hz
theorem qJ9:∀ (ys:List Dt),(∀ y∈ys,∃ b,y = .bl b)→∃ bx:List Bool,ys=bx.map .bl
  | [],_=>⟨[],rfl⟩
  | y::r,h=>by
    obtain⟨bx,e⟩:=qJ9 r fun y hy=>h y (List.mem_cons_of_mem _ hy)
    obtain⟨v,rfl⟩:=h y List.mem_cons_self
    exact⟨v::bx,by rw [e];rfl⟩
end
structure Tq where
  b:Nat
  m:Nat
  r:Nat
  e:Tim
noncomputable def Tq.d (q:Tq):Dt:=.tup [.lst q.b,.lst q.m,.lst q.r]
structure Tms (st:Sto) (k t:Nat) (L:List Tq):Prop where
  row:st[t]? = some (.rw (L.map Tq.d))
  ne:t≠k
  all:∀ q∈L,qHq st q.b q.m q.r q.e∧qEF q.e∧q.b≠k∧q.m≠k∧q.r≠k
theorem Tms.kd {st st':Sto} {k t:Nat} {L:List Tq} (h:Tms st k t L) (x:KD k st st'):Tms st' k t L:=⟨x _ _ h.ne h.row,h.ne,fun q hq=>by
  obtain⟨a,o,n1,n2,n3⟩:=h.all q hq
  exact⟨⟨x _ _ n1 a.b,x _ _ n2 a.m,x _ _ n3 a.r⟩,o,n1,n2,n3⟩⟩
def qDk:RDL:=fun ds st P=>∃ (k e c:Nat),ds=[.lst k]∧qAG st k e c∧c<800000∧∀ (L:List Tq) t st',L.length=4→Tms st' k t L→KD k st st'→qAG st' k e (c+200)→P (.lst t) st'
structure TI (st:Sto) (k e f c:Nat) (L:List Tq) (s':Sto):Prop where
  fr:s'[f]? = some (.rw (L.map Tq.d))
  all:∀ q∈L,qHq s' q.b q.m q.r q.e∧qEF q.e∧f<q.b∧f<q.m∧f<q.r
  kd:KD k st s'
  dk:qAG s' k e c
theorem TI.mv {st s1 s2:Sto} {k e f c c':Nat} {L:List Tq} (h:TI st k e f c L s1) (hk:k<f) (x:KD k s1 s2) (dk:qAG s2 k e c'):TI st k e f c' L s2:=⟨x _ _ (by omega) h.fr,fun q hq=>by
  obtain⟨a,o,n1,n2,n3⟩:=h.all q hq
  exact⟨⟨x _ _ (by omega) a.b,x _ _ (by omega) a.m,x _ _ (by omega) a.r⟩,o,n1,n2,n3⟩,h.kd.trans x,dk⟩
theorem qEZ {ds:List Dt} {st:Sto} {Pd:VD} (h:qDk ds st Pd):qCc (Ed Pd) (qW ["deck", "found", "k", "ends", "boxes", "marks", "brought"] ds) st:=by
  obtain⟨k,e,c,rfl,hd,hc,hP⟩:=h
  have hk:=hd.ek.2
  have he:=hd.ek.1
  refine qh ⟨Nat.zero_le _,?_⟩
  have g0:TI st k e st.length c [] (st++[.rw []]):=⟨q8,(fun q h=>by cases h),.of (.app _ _),hd.ext (.app _ _)⟩
  refine forR (n:=4) qK (by decide) ?_
  refine⟨fun i ρ s'=>(∃ a2 a3 a4 a5 a6,ρ=[some (.lst k),some (.lst st.length),a2,a3,a4,a5,a6])∧∃ L,L.length=i∧TI st k e st.length (c+50 * i) L s',⟨⟨_,_,_,_,_,rfl⟩,[],rfl,g0⟩,fun _ _ _ _ _=>trivial,?_,?_⟩
  · rintro i d ρ s' hi ⟨⟨a2,a3,a4,a5,a6,rfl⟩,L,hL,g⟩
    have hil:=(qAT hi).1
    have hv':d = .int ((i:Nat):Int):=by
      have:=(qAT hi).2
      rw [this];congr 1;omega
    subst hv'
    refine qh ⟨by show 8≤sizeLine;decide,?_⟩
    have ge:(s'++[SO.rw (qCE.map .int)])[s'.length]? = some (.rw (qCE.map .int)):=q8
    have g1:=g.mv hk (.of (.app s' (SO.rw (qCE.map .int)))) (g.dk.ext (.app s' (SO.rw (qCE.map .int))))
    have fl:=qX g.fr
    show tA _ [some (.lst k),some (.lst st.length),some (.int (i:Nat)),some (.lst s'.length),a4,a5,a6] (s'++[SO.rw (qCE.map .int)])
    generalize eE:s'.length=en at ge fl
    generalize s'++[SO.rw (qCE.map .int)]=s1 at ge g1
    have nk:en≠k:=by omega
    refine qh (qH4 (n:=8) qK (by decide) ?_)
    refine qCv (j:=2) (good:=fun y=>∃ v,y = .int v∧0≤v∧v<65536) g1.dk (by decide) (fun j s2 hj kd dk Q hq=>?_) fun ys s2 hl hg kd dk=>?_
    · refine qEz (j:=(i:Nat)+(j:Nat)) (qGi (w:=2) (v:=1) (n:=en) rfl (kd _ _ nk ge) nk rfl dk (by omega)) (fun s3 kd3 dk3=>qBx (v:=1) rfl dk3 (by omega) (by decide)) (fun s3=>qAb (qB (i:=3) rfl) (qB (i:=0) rfl)) Q fun v s3 v0 v1 kd3 dk3=>hq _ s3 ⟨v,rfl,v0,v1⟩ kd3 dk3
    obtain⟨bx,rfl,hb⟩:=qFy ys hg
    rw [List.length_map] at hl
    have gb:(s2++[SO.rw (bx.map .int)])[s2.length]? = some (.rw (bx.map .int)):=q8
    have g2:=(g1.mv hk kd dk).mv hk (.of (.app s2 (SO.rw (bx.map .int)))) (dk.ext (.app s2 (SO.rw (bx.map .int))))
    have ge:=(KD.of (k:=k) (.app s2 (SO.rw (bx.map .int)))) _ _ nk (kd _ _ nk ge)
    have fb:en<s2.length:=qX (kd _ _ nk ‹s1[en]? = _›)
    show tB _ [some (.lst k),some (.lst st.length),some (.int (i:Nat)),some (.lst en),some (.lst s2.length),a5,a6] (s2++[SO.rw (bx.map .int)])
    generalize eB:s2.length=bn at gb fb
    generalize s2++[SO.rw (bx.map .int)]=s3 at gb g2 ge
    refine qh (qH4 (n:=3) qK (by decide) ?_)
    refine qCv (j:=1) (good:=fun y=>∃ b,y = .bl b) g2.dk (by decide) (fun j s2 hj kd dk Q hq=>?_) fun ys s4 hl3 hg kd dk=>?_
    · refine qBx (M:=2) (v:=1) rfl dk (by omega) (by decide) _ fun v s3 _ _ kd3 dk3=>?_
      exact⟨rfl,rfl,hq _ s3 ⟨_,rfl⟩ kd3 dk3⟩
    obtain⟨mr,rfl⟩:=qJ9 ys hg
    rw [List.length_map] at hl3
    have nbk:bn≠k:=by omega
    have gm:(s4++[SO.rw (mr.map .bl)])[s4.length]? = some (.rw (mr.map .bl)):=q8
    have g3:=(g2.mv hk kd dk).mv hk (.of (.app s4 (SO.rw (mr.map .bl)))) (dk.ext (.app s4 (SO.rw (mr.map .bl))))
    have fm:bn<s4.length:=qX (kd _ _ nbk gb)
    have ge:=(KD.of (k:=k) (.app s4 (SO.rw (mr.map .bl)))) _ _ nk (kd _ _ nk ge)
    have gb:=(KD.of (k:=k) (.app s4 (SO.rw (mr.map .bl)))) _ _ nbk (kd _ _ nbk gb)
    show tC _ [some (.lst k),some (.lst st.length),some (.int (i:Nat)),some (.lst en),some (.lst bn),some (.lst s4.length),a6] (s4++[SO.rw (mr.map .bl)])
    generalize eM:s4.length=mn at gm fm
    generalize s4++[SO.rw (mr.map .bl)]=s5 at gm g3 ge gb
    have nmk:mn≠k:=by omega
    refine qh (qH4 (n:=3) qK (by decide) ?_)
    refine qCv (j:=2) (good:=fun y=>∃ v,y = .int v∧0≤v∧v<65536) g3.dk (by decide) (fun j s2 hj kd dk Q hq=>?_) fun ys s6 hl6 hg kd dk=>?_
    · refine qEz (j:=(i:Nat)) (qBx (v:=1) rfl dk (by omega) (by decide)) (fun s3 kd3 dk3=>qGi (w:=2) (v:=1) (n:=en) rfl (kd3 _ _ nk (kd _ _ nk ge)) nk rfl dk3 (by omega)) (fun s3=>qB (i:=3) rfl) Q fun v s3 v0 v1 kd3 dk3=>hq _ s3 ⟨v,rfl,v0,v1⟩ kd3 dk3
    obtain⟨br,rfl,hr⟩:=qFy ys hg
    rw [List.length_map] at hl6
    have gr:(s6++[SO.rw (br.map .int)])[s6.length]? = some (.rw (br.map .int)):=q8
    have g4:=(g3.mv hk kd dk).mv hk (.of (.app s6 (SO.rw (br.map .int)))) (dk.ext (.app s6 (SO.rw (br.map .int))))
    have fr:mn<s6.length:=qX (kd _ _ nmk gm)
    have gb:=(KD.of (k:=k) (.app s6 (SO.rw (br.map .int)))) _ _ nbk (kd _ _ nbk gb)
    have gm:=(KD.of (k:=k) (.app s6 (SO.rw (br.map .int)))) _ _ nmk (kd _ _ nmk gm)
    show tD _ [some (.lst k),some (.lst st.length),some (.int (i:Nat)),some (.lst en),some (.lst bn),some (.lst mn),some (.lst s6.length)] (s6++[SO.rw (br.map .int)])
    generalize eR:s6.length=rn' at gr fr
    generalize s6++[SO.rw (br.map .int)]=s7 at gr g4 gb gm
    refine qPg (d:=(Tq.mk bn mn rn' ⟨bx,mr,br⟩).d) (qB (i:=1) rfl) (qGJ (qY (ds:=[.lst bn,.lst mn,.lst rn']) (qF (qB (i:=4) rfl) (qF (qB (i:=5) rfl) (qF (qB (i:=6) rfl) qN))) (by show 3≤sizeLine;decide))) g4.fr (by rw [List.length_map,hL];exact qAS (by omega)) fun s8 x8=>?_
    have g5:=g4.mv hk (.of x8) (g4.dk.ext x8)
    refine⟨⟨_,_,_,_,_,rfl⟩,L++[Tq.mk bn mn rn' ⟨bx,mr,br⟩],by rw [List.length_append,hL];rfl,?_,fun q hq=>?_,fun i o n q=>?_,?_⟩
    · rw [qA2 g5.fr,List.map_append];rfl
    · rcases List.mem_append.mp hq with h | h
      · obtain⟨a,o,n1,n2,n3⟩:=g5.all q h
        exact⟨⟨q9 a.b (by omega),q9 a.m (by omega),q9 a.r (by omega)⟩,o,n1,n2,n3⟩
      · rw [List.mem_singleton.mp h]
        exact⟨⟨q9 (x8 _ _ gb) (by show st.length≠bn;omega),q9 (x8 _ _ gm) (by show st.length≠mn;omega),q9 (x8 _ _ gr) (by show st.length≠rn';omega)⟩,⟨hl,hl3,hl6,hb,hr⟩,by show st.length<bn;omega,by show st.length<mn;omega,by show st.length<rn';omega⟩
    · exact q9 (g5.kd i o n q) (by have:=qX q;omega)
    · exact (g5.dk.mono (by omega)).set (by omega) (by omega)
  · rintro ρ s' ⟨⟨a2,a3,a4,a5,a6,rfl⟩,L,hL,g⟩
    rw [qAa] at hL g
    refine hP L st.length s' hL ⟨g.fr,by omega,fun q hq=>?_⟩ g.kd (g.dk.mono (by omega))
    obtain⟨a,o,n1,n2,n3⟩:=g.all q hq
    exact⟨a,o,by omega,by omega,by omega⟩
end K31
namespace K31
open PySem PySem.Spec PyProof.Rows L2 L3 KH KS KW K20
open KR (Ev EvB qB qK qQ seq1 qh qS ifS evb qCY qAk qY qF qN rdR qo qAA qAL qAg qz rn Rl InT Res qAu orD qP Nums wd ag qAB ql qAK qAI qAp qAb qAY qa qm qq qAn Frm inR keys)
abbrev l3:TSD:=(tseq (qi (qBv (qI (qE (qU true) (qC 10) (qC 9))) (qI (qE (qU true) (qJ qAU (qA (qC 10) (qA (qD (Dt.ty "bool")) qG))) (qJ qAU (qA (qC 9) (qA (qD (Dt.ty "bool")) qG)))))) (tseq (qV (qD (Dt.bl false))) qH) qH) qH)
abbrev l2:TSD:=(tseq (qi (qI (qJ qAU (qA (qC 2) (qA (qD (Dt.ty "int")) qG)))) (tseq (qi (qBv (qI (qJ qAU (qA (qC 2) (qA (qD (Dt.ty "bool")) qG)))) (qCJ (qI (qB2 (fun i j=>decide (i≤j)) (fun i j=>decide (i<j)) (qD (Dt.int 0)) (qC 2) (qJ qAd (qA (qC 0) qG)))))) (tseq (qV (qD (Dt.bl false))) qH) qH) (tseq (qb (qE qM (qE qM (qC 3) (qC 5)) (qC 2)) (qO 10)) qH)) (tseq (qb (qJ K31.qBZ (qA (qC 2) (qA (qE qM (qC 3) (qC 5)) (qA (qC 6) (qA (qC 7) (qA (qC 8) qG)))))) (qO 10)) qH)) l3)
abbrev l1:TSD:=(tseq (qb (qJ K31.qBZ (qA (qC 1) (qA (qE qM (qC 3) (qC 5)) (qA (qC 6) (qA (qC 7) (qA (qC 8) qG)))))) (qO 9)) l2)
abbrev qCe:TSD:=(tseq (qD3 (qAx (qD (Dt.int 4))) (qO 5) (tseq (qb (qE qM (qC 4) (qC 5)) (qBc 3 (qAi (qO 6) (qAi (qO 7) (qAi (qO 8) qFK))))) l1)) (tseq (qV (qD (Dt.bl true))) qH))
structure Tbl (st:Sto) (tb:Nat) (L:List Tq) (F:List Nat) (ns:List Nd):Prop where
  row:st[tb]? = some (.rw (F.map .lst))
  len:F.length=L.length
  all:∀ (i:Nat) q f,L[i]? = some q→F[i]? = some f→st[f]? = some (.rw ((q.e.ws ns).map vD))
def qCA:RDL:=fun ds st P=>∃ (ns:List Nd) (ss:List Nat) (sd:Nd) (s:Nat) (res:Res) (tb t k:Nat) (L:List Tq) (F:List Nat),ds=[tab ns,nD sd,qAu res,.lst tb,.lst t]∧OkT 3 ns ss∧ns.length≤300∧OkN ss 3 sd s∧OkR ss s res∧L.length=4∧Tms st k t L∧Tbl st tb L F ns∧(∀ e,qEF e→qPG (e.ws ns) e.bx e.mr (e.br.map some) res=e.w sd (e.ws ns))∧∀ st',qg st st'→P (.bl true) st'
theorem qPz (v:Vl):eqD 8 (vD v) (vD v)=true∧okD 8 (vD v)=true:=by
  cases v with
  | n i=>exact⟨beq_self_eq_true i,rfl⟩
  | b k=>exact⟨beq_self_eq_true k,rfl⟩
  | non=>exact⟨rfl,rfl⟩
section
variable {ρ:Rho} {st:Sto} {ta tb:TD} {v:Vl}
theorem qKw (h:Ev ta ρ st (vD v)) (h2:Ev tb ρ st (vD v)):Ev (qE (qU true) ta tb) ρ st (.bl false):=fun P hp=>h _ (h2 _ (by
  have e:=qPz v
  cases v with
  | n i=>exact⟨rfl,rfl,by rw [e.1];exact hp⟩
  | b k=>exact⟨rfl,rfl,by rw [e.1];exact hp⟩
  | non=>exact⟨rfl,rfl,hp⟩))
theorem qDQ {d:Dt} {c u:String} (h:Ev ta ρ st d) (hc:c = "bool" ∨ c = "int" ∨ c = "str" ∨ c = "tuple" ∨ c = "list") (hu:tyN d=some u):Ev (qJ qAU (qA ta (qA (qD (Dt.ty c)) qG))) ρ st (.bl (isT u c)):=fun P hp=>h _ ⟨hc,by
  show (match tyN d with | some t=>_ | none=>_)
  rw [hu];exact hp⟩
theorem qJH {tc:TD} {p q:Int→Int→Bool} {x y z:Int} (h1:Ev ta ρ st (.int x)) (h2:Ev tb ρ st (.int y)) (h3:Ev tc ρ st (.int z)) (hp:p x y=true):Ev (qB2 p q ta tb tc) ρ st (.bl (q y z)):=fun P hp'=>h1 _ (h2 _ (by
  show (if p x y=true then _ else _)
  rw [if_pos hp];exact h3 _ hp'))
noncomputable def qQO:Vl→String
  | .n _ => "int" | .b _ => "bool" | .non => "NoneType"
theorem qMd (v:Vl):tyN (vD v)=some (qQO v):=by cases v<;>rfl
theorem qOS {a b:Bool} (h:Ev ta ρ st (.bl a)) (h2:Ev tb ρ st (.bl b)) (e:a=b):Ev (qE (qU true) ta tb) ρ st (.bl false):=qKw (v:=.b a) h (by rw [e];exact h2)
end
theorem qMQ {ρ:Rho} {s:Sto} {E:qAq} {v:Vl} (h9:ρ[9]? = some (some (vD v))) (h10:ρ[10]? = some (some (vD v))) (hn:E.nx ρ s):l3 E ρ s:=by
  refine qS (b:=false) (qm (b1:=false) (b2:=false) (evb (qKw (qB (i:=10) h10) (qB (i:=9) h9))) fun _=>evb (qOS (qDQ (qB (i:=10) h10) (.inl rfl) (qMd v)) (qDQ (qB (i:=9) h9) (.inl rfl) (qMd v)) rfl)) (fun z=>nomatch z) (fun _=>hn)
theorem qEh {ds:List Dt} {st:Sto} {Pd:VD} (h:qCA ds st Pd):qCe (Ed Pd) (qW ["nodes", "seen", "other", "tables", "times", "k", "boxes", "marks", "brought", "worth", "found"] ds) st:=by
  obtain⟨ns,ss,sd,s,res,tb,t,k,L,F,rfl,hT,hl,o,oR,h4,hL,hF,hval,hP⟩:=h
  refine forR (n:=4) qK (by decide) ?_
  refine⟨fun i ρ s'=>(∃ a5 a6 a7 a8 a9 a10,ρ=[some (tab ns),some (nD sd),some (qAu res),some (.lst tb),some (.lst t),a5,a6,a7,a8,a9,a10])∧qg st s',⟨⟨_,_,_,_,_,_,rfl⟩,.refl _⟩,fun _ _ _ _ _=>trivial,?_,?_⟩
  · rintro i d ρ s' hi ⟨⟨a5,a6,a7,a8,a9,a10,rfl⟩,x⟩
    have hil:=(qAT hi).1
    have hv':d = .int ((i:Nat):Int):=by
      have:=(qAT hi).2
      rw [this];congr 1;omega
    subst hv'
    have hiL:i<L.length:=by omega
    have hiF:i<F.length:=by rw [hF.len];omega
    have eL:=List.getElem?_eq_getElem hiL
    have eF:=List.getElem?_eq_getElem hiF
    have hq:=hL.all _ (List.getElem_mem hiL)
    generalize L[i]=q at eL hq
    generalize F[i]=f at eF
    have hf:=hF.all i q f eL eF
    obtain⟨ht,hk,_⟩:=hq
    have row:(L.map Tq.d)[i]? = some (.tup [.lst q.b,.lst q.m,.lst q.r]):=by rw [List.getElem?_map,eL];rfl
    have rowF:(F.map Dt.lst)[i]? = some (.lst f):=by rw [List.getElem?_map,eF];rfl
    refine qPM (a:=.lst q.b) (b:=.lst q.m) (c:=.lst q.r) (ql (qB (i:=4) rfl) (qp ⟨_,x _ _ hL.row,rfl⟩) (qB (i:=5) rfl) row) ?_
    show l1 _ [some (tab ns),some (nD sd),some (qAu res),some (.lst tb),some (.lst t),some (.int (i:Nat)),some (.lst q.b),some (.lst q.m),some (.lst q.r),a9,a10] s'
    have wl:(q.e.ws ns).length≤1000:=by rw [qAH];omega
    have wd_:=hk.wd hT
    have tbI:∀ (ρ:Rho) (s2:Sto),qg st s2→ρ[3]? = some (some (.lst tb))→ρ[5]? = some (some (.int (i:Nat)))→Ev (qE qM (qC 3) (qC 5)) ρ s2 (.lst f):=fun ρ s2 x2 h3 h5=>ql (qB (i:=3) h3) (qp ⟨_,x2 _ _ hF.row,rfl⟩) (qB (i:=5) h5) rowF
    refine qh (qBU (qF (qB (i:=1) rfl) (qF (tbI _ s' x rfl rfl) (qF (qB (i:=6) rfl) (qF (qB (i:=7) rfl) (qF (qB (i:=8) rfl) qN))))) ?_)
    refine⟨sd,s,f,q.b,q.m,q.r,ss,q.e.ws ns,q.e,rfl,⟨_,x _ _ hf,rfl⟩,ht.ext x,hk,o,wd_.num,wl,fun s2 x2=>?_⟩
    have hv:=hval q.e hk
    show l2 _ [some (tab ns),some (nD sd),some (qAu res),some (.lst tb),some (.lst t),some (.int (i:Nat)),some (.lst q.b),some (.lst q.m),some (.lst q.r),some (vD (q.e.w sd (q.e.ws ns))),a10] s2
    have x':=x.trans x2
    cases res with
    | at_ j =>
      have hj:j<(q.e.ws ns).length:=by rw [qAH,hT.len];exact (List.getElem?_eq_some_iff.mp oR).1
      have hv:(q.e.ws ns)[j]=q.e.w sd (q.e.ws ns):=by
        have:(q.e.ws ns).getD j .non=_:=hv
        rw [List.getD_eq_getElem?_getD,List.getElem?_eq_getElem hj] at this
        exact this
      rw [qAH] at hj
      refine seq1 (ifS (b:=true) (evb (qDQ (u:= "int") (qB (i:=2) rfl) (.inr (.inl rfl)) rfl)) (fun _=>?_) (fun z=>nomatch z))
      refine qS (b:=false) (qm (b1:=false) (b2:=false) (evb (qDQ (u:= "int") (qB (i:=2) rfl) (.inl rfl) rfl)) fun _=>qCY (b:=true) (qFQ (b:=decide (((j:Nat):Int)<(((ns.map nD).length:Nat):Int))) (decide_eq_true (by rw [List.length_map];omega)) (evb (qJH (x:=0) (y:=(j:Nat)) qK (qB (i:=2) rfl) (qAp (l:=ns.map nD) (qB (i:=0) rfl)) (decide_eq_true (by omega)))))) (fun z=>nomatch z) (fun _=>?_)
      · refine qh (ql (tbI _ s2 x' rfl rfl) (qp ⟨_,x' _ _ hf,rfl⟩) (qB (i:=2) (d:=.int (j:Nat)) rfl) (i:=j) (d2:=vD (q.e.ws ns)[j]) ?_ _ ?_)
        · show ((q.e.ws ns).map vD)[j]? = _
          rw [List.getElem?_map,List.getElem?_eq_getElem];rfl
        · rw [hv]
          show l3 _ [some (tab ns),some (nD sd),some (qAu (.at_ j)),some (.lst tb),some (.lst t),some (.int (i:Nat)),some (.lst q.b),some (.lst q.m),some (.lst q.r),some (vD (q.e.w sd (q.e.ws ns))),some (vD (q.e.w sd (q.e.ws ns)))] s2
          exact qMQ rfl rfl ⟨⟨_,_,_,_,_,_,rfl⟩,x'⟩
    | nd y =>
      have isI:EvB (qI (qJ qAU (qA (qC 2) (qA (qD (Dt.ty "int")) qG)))) [some (tab ns),some (nD sd),some (qAu (.nd y)),some (.lst tb),some (.lst t),some (.int (i:Nat)),some (.lst q.b),some (.lst q.m),some (.lst q.r),some (vD (q.e.w sd (q.e.ws ns))),a10] s2 false:=evb (qDQ (u:= "tuple") (qB (i:=2) rfl) (.inr (.inl rfl)) (by show tyN (nD y)=_;rw [qAB];rfl))
      refine seq1 (ifS isI (fun z=>nomatch z) (fun _=>?_))
      refine qh (qBU (qF (qB (i:=2) rfl) (qF (tbI _ s2 x' rfl rfl) (qF (qB (i:=6) rfl) (qF (qB (i:=7) rfl) (qF (qB (i:=8) rfl) qN))))) ?_)
      refine⟨y,s,f,q.b,q.m,q.r,ss,q.e.ws ns,q.e,rfl,⟨_,x' _ _ hf,rfl⟩,ht.ext x',hk,oR,wd_.num,wl,fun s3 x3=>?_⟩
      have hv:q.e.w y (q.e.ws ns)=q.e.w sd (q.e.ws ns):=hv
      rw [hv]
      show l3 _ [some (tab ns),some (nD sd),some (qAu (.nd y)),some (.lst tb),some (.lst t),some (.int (i:Nat)),some (.lst q.b),some (.lst q.m),some (.lst q.r),some (vD (q.e.w sd (q.e.ws ns))),some (vD (q.e.w sd (q.e.ws ns)))] s3
      exact qMQ rfl rfl ⟨⟨_,_,_,_,_,_,rfl⟩,x'.trans x3⟩
  · rintro ρ s' ⟨⟨a5,a6,a7,a8,a9,a10,rfl⟩,x⟩
    exact hP s' x
end K31
namespace K31
open PySem PySem.Spec PyProof.Rows L2 L3 KH KS KW K20
open KR (Ev EvB qB qK qQ seq1 qh qS ifS evb qCY qAk qY qF qN rdR qo qAA qAL qAg qz rn Rl InT Res qAu orD qP Nums wd ag qAB ql qAK qAI qAp qAb qAY qa qm qq qAn Frm inR keys)
abbrev Lwi:TSD:=(tseq (qi (qAr (qI (qE (qC5 true) (qC 9) (qD Dt.non))) (qCJ (qI (qJ K31.qCA (qA (qC 2) (qA (qC 7) (qA (qC 9) (qA (qC 5) (qA (qC 4) qG))))))))) (tseq (qV (qD (Dt.bl false))) qH) qH) (tseq (qi (qI (qJ qAU (qA (qC 9) (qA (qD (Dt.ty "tuple")) qG)))) (tseq (qb (qC 9) (qO 7)) qH) qH) qH))
abbrev Lwj:TSD:=(tseq (qD3 (qAx (qD (Dt.int 4))) (qO 8) (tseq (qb (qJ K31.qB7 (qA (qC 2) (qA (qC 7) (qA (qJ K31.qFX (qA (qC 1) (qA (qC 2) (qA (qC 7) qG)))) qG)))) (qO 9)) Lwi)) qH)
abbrev Lwk:TSD:=(tseq (qb (qE qM (qC 2) (qE qAF (qE qEP (qC 6) (qD (Dt.int 2))) (qJ qAd (qA (qC 2) qG)))) (qO 7)) (tseq (qi (qI (qE (qU false) (qE qAF (qC 6) (qD (Dt.int 2))) (qD (Dt.int 1)))) (tseq (qb (qJ K31.qD8 (qA (qC 1) (qA (qC 2) (qA (qD (Dt.int 3)) qG)))) (qO 7)) qH) qH) Lwj))
abbrev Lw6:TSD:=(tseq (qD3 (qAx (qD (Dt.int 30))) (qO 3) (tseq (qb (qJ K31.qAP (qA (qC 1) qG)) (qO 6)) Lwk)) (tseq (qV (qD (Dt.bl true))) qH))
abbrev Lw5:TSD:=(tseq (qb (qG8 (qDU (qC 4)) (fun x st P=>P true st) (qJ K31.qCa (qA (qC 3) (qA (qC 0) (qA (qC 1) (qA (qC 2) qG))))) [(2, "nodes")]) (qO 5)) Lw6)
abbrev Lw4:TSD:=(tseq (qb (qJ K31.qDk (qA (qC 1) qG)) (qO 4)) Lw5)
abbrev Lw3:TSD:=(tseq (qb (qJ K31.qFw (qA (qC 1) (qA (qC 2) qG))) (qO 2)) Lw4)
abbrev Lw2:TSD:=(tseq (qD3 (qAx (qE L3.qBW (qD (Dt.int 4)) (qE qAF (qJ K31.qAP (qA (qC 1) qG)) (qD (Dt.int 37))))) (qO 3) (tseq (qCN (qAV (qC 2) (qJ K31.qD8 (qA (qC 1) (qA (qC 2) (qA (qD (Dt.int 3)) qG)))))) qH)) Lw3)
abbrev Lw1:TSD:=(tseq (qb (qAw qG) (qO 2)) Lw2)
abbrev qMi:TSD:=(tseq (qb (qAw (qA (qBD (qC 0) qC4 (qBK (qD (Dt.int 63)))) (qA (qD (Dt.int 0)) qG))) (qO 1)) Lw1)
theorem Tbl.kd {st st':Sto} {k tb:Nat} {L:List Tq} {F:List Nat} {ns:List Nd} (h:Tbl st tb L F ns) (x:KD k st st') (h1:k<tb) (h2:∀ f∈F,k<f):Tbl st' tb L F ns:=⟨x _ _ (by omega) h.row,h.len,fun i q f e1 e2=>x _ _ (by have:=h2 f (List.mem_of_getElem? e2);omega) (h.all i q f e1 e2)⟩
theorem qJT (ns:List Int) (lo hi:Option Int):∃ ys:List Int,L3.cutD (ns.map Dt.int) lo hi=ys.map .int∧ys.length≤ns.length:=by
  unfold L3.cutD
  refine⟨(ns.drop (HT.sIx (ns.map Dt.int).length 0 lo)).take (HT.sIx (ns.map Dt.int).length (ns.map Dt.int).length hi - HT.sIx (ns.map Dt.int).length 0 lo),by rw [List.map_take,List.map_drop],?_⟩
  rw [List.length_take,List.length_drop];omega
theorem qPI {ρ:Rho} {st:Sto} {sp:RDL} {t:TAD} {P:VD} (h:t ρ st fun ds st1=>sp ds st1 P):qJ sp t ρ st P:=h
theorem ea2 {ρ:Rho} {st:Sto} {te:TD} {t:TAD} {d:Dt} {Q:List Dt→Sto→Prop} (h:Ev te ρ st d) (q:t ρ st fun ds s1=>Q (d::ds) s1):qA te t ρ st Q:=h _ q
theorem qQD {ρ:Rho} {st:Sto} {sp:RDL} {t t':TAD} {ds:List Dt} {Q:List Dt→Sto→Prop} (h:∀ P:List Dt→Sto→Prop,P ds st→t' ρ st P) (q:sp ds st fun d s1=>t ρ s1 fun ds s2=>Q (d::ds) s2):qA (qJ sp t') t ρ st Q:=h _ q
theorem qAG.get {st:Sto} {k e c:Nat} (h:qAG st k e c):∃ o,st[k]? = some o:=by
  obtain⟨a,o,xs,q1,_⟩:=h
  exact⟨_,q1⟩
theorem qQL {E:qAq} {N:TSD} {ρ:Rho} {st:Sto} {te:TD} {g:TGD} {tb:TSD} {k e c lo hi:Nat} (h:∀ Q:VD,(∀ (n:Nat) s1,lo≤n→n≤hi→KD k st s1→qAG s1 k e c→Q (.int (n:Nat)) s1)→te ρ st Q) (hh:hi≤1000) (q:∀ (n:Nat) s1,lo≤n→n≤hi→KD k st s1→qAG s1 k e c→qGO (qA1 0 n) (fun _=>True) g tb { E with nx:=N E } ρ s1):tseq (qD3 (qAx te) g tb) N E ρ st:=by
  show qAx te ρ st fun items ok st1=>qGO items ok g tb { E with nx:=N E } ρ st1
  unfold qAx
  refine h _ fun n s1 h1 h2 kd dk=>⟨by omega,by omega,?_⟩
  rw [Int.toNat_natCast];exact q n s1 h1 h2 kd dk
theorem qQM {E:qAq} {N:TSD} {ρ:Rho} {st:Sto} {sp:RDL} {t:TAD} {v f:Nat} {ds:List Dt} (hl:Ev (qC v) ρ st (.lst f)) (h:∀ P:List Dt→Sto→Prop,P ds st→t ρ st P) (q:sp ds st fun d st2=>match st2[f]? with | some (.rw xs)=>xs.length<sizeLine∧N E ρ (st2.set f (.rw (xs++[d]))) | _=>False):tseq (qCN (qAV (qC v) (qJ sp t))) N E ρ st:=by
  show qAV (qC v) (qJ sp t) ρ st fun _ st1=>N E ρ st1
  unfold qAV
  exact hl _ (h _ q)
structure WI (c t tb:Nat) (ns:List Nd) (ss:List Nat) (L:List Tq) (F:List Nat) (s:Sto):Prop where
  dk:qAG s 2 1 c
  tm:Tms s 2 t L
  tl:Tbl s tb L F ns
theorem WI.kd {c c' t tb:Nat} {ns:List Nd} {ss:List Nat} {L:List Tq} {F:List Nat} {s s':Sto} (h:WI c t tb ns ss L F s) (x:KD 2 s s') (d:qAG s' 2 1 c') (h1:2<tb) (h2:∀ f∈F,2<f):WI c' t tb ns ss L F s':=⟨d,h.tm.kd x,h.tl.kd x h1 h2⟩
section
variable {t tb:Nat} {ns:List Nd} {ss:List Nat} {L:List Tq} {F:List Nat}
noncomputable abbrev wρ (ns:List Nd) (t tb:Nat) (a3 a6 a7 a8 a9:Option Dt):Rho:=[some (.lst 0),some (.lst 2),some (tab ns),a3,some (.lst t),some (.lst tb),a6,a7,a8,a9]
structure WC (tb:Nat) (ns:List Nd) (ss:List Nat) (L:List Tq) (F:List Nat):Prop where
  ok:OkT 3 ns ss
  n0:0<ns.length
  n3:ns.length≤300
  l4:L.length=4
  t2:2<tb
  f2:∀ f∈F,2<f
theorem qPj {c m:Nat} {E:qAq} {a3 a6 a8:Option Dt} {sd:Nd} {sv:Nat} {r:Rl} {s:Sto} (C:WC tb ns ss L F) (g:WI c t tb ns ss L F s) (o:OkN ss 3 sd sv) (hm:m<ns.length) (hn:∀ sd' s' a9,OkN ss 3 sd' sv→WI c t tb ns ss L F s'→E.nx (wρ ns t tb a3 a6 (some (nD sd')) a8 a9) s'):Lwi E (wρ ns t tb a3 a6 (some (nD sd)) a8 (some (orD (qP ns m r sd)))) s:=by
  cases q:qP ns m r sd with
  | none =>
    refine qS (b:=false) (qq (b1:=false) (b2:=false) (evb fun P hp=>?_) (fun z=>nomatch z)) (fun z=>nomatch z) (fun _=>?_)
    · have:Ev (qC 9) (wρ ns t tb a3 a6 (some (nD sd)) a8 (some (orD none))) s .non:=qB (i:=9) rfl
      exact this _ hp
    refine qS (b:=false) (evb (qDQ (u:= "NoneType") (qB (i:=9) rfl) (.inr (.inr (.inr (.inl rfl)))) rfl)) (fun z=>nomatch z) (fun _=>?_)
    exact hn sd s _ o g
  | some res =>
    have oR:OkR ss sv res:=by
      obtain⟨_,hk,_⟩:=g.tm.all (L[0]'(by have:=C.l4;omega)) (List.getElem_mem _)
      exact (sound (hk.wd C.ok) o hm q).1
    have al:∀ (s:Sto) (ρ:Rho),WI c t tb ns ss L F s→ρ=wρ ns t tb a3 a6 (some (nD sd)) a8 (some (qAu res))→qHT (qCJ (qI (qJ qCA (qA (qC 2) (qA (qC 7) (qA (qC 9) (qA (qC 5) (qA (qC 4) qG)))))))) ρ s false:=fun s ρ g e P hp=>by
      subst e
      refine qBU (sp:=qCA) (P:=fun d st1=>match d with | .bl k=>P (!k) st1 | _=>False) (qF (qB (i:=2) rfl) (qF (qB (i:=7) rfl) (qF (qB (i:=9) rfl) (qF (qB (i:=5) rfl) (qF (qB (i:=4) rfl) qN))))) ?_
      exact⟨ns,ss,sd,sv,res,tb,t,2,L,F,rfl,C.ok,C.n3,o,oR,C.l4,g.tm,g.tl,fun e he=>(sound (he.wd C.ok) o hm q).2,fun s' x'=>hp s' x'⟩
    refine xIf (b:=true&&false) (qM7 (b1:=true) (qOs (evb fun P hp=>?_)) fun _ s1 x1=>al s1 _ (g.kd (.of x1) (g.dk.ext x1) C.t2 C.f2) rfl) (fun z=>nomatch z) (fun _ s1 x1=>?_)
    · have:Ev (qC 9) (wρ ns t tb a3 a6 (some (nD sd)) a8 (some (qAu res))) s (qAu res):=qB (i:=9) rfl
      refine this _ ?_
      cases res with
      | nd x=>show qC5 true (nD x) .non s _;rw [qAB];exact hp
      | at_ i=>exact hp
    have g1:=g.kd (.of x1) (g.dk.ext x1) C.t2 C.f2
    cases res with
    | nd x =>
      refine qS (b:=true) (evb (qDQ (u:= "tuple") (qB (i:=9) rfl) (.inr (.inr (.inr (.inl rfl)))) (by show tyN (nD x)=_;rw [qAB];rfl))) (fun _=>?_) (fun z=>nomatch z)
      refine qh (qB (i:=9) (d:=nD x) rfl _ ?_)
      exact hn x s1 _ oR g1
    | at_ i =>
      refine qS (b:=false) (evb (qDQ (u:= "int") (qB (i:=9) rfl) (.inr (.inr (.inr (.inl rfl)))) rfl)) (fun z=>nomatch z) (fun _=>?_)
      exact hn sd s1 _ o g1
theorem qP8 {c:Nat} {E:qAq} {a3 a6 a8 a9:Option Dt} {sd:Nd} {sv:Nat} {s:Sto} (C:WC tb ns ss L F) (g:WI c t tb ns ss L F s) (hc:c<800000) (o:OkN ss 3 sd sv) (hn:∀ s' a7 a8 a9,WI (c+4) t tb ns ss L F s'→E.nx (wρ ns t tb a3 a6 a7 a8 a9) s'):Lwj E (wρ ns t tb a3 a6 (some (nD sd)) a8 a9) s:=by
  refine forR (n:=4) qK (by decide) ?_
  refine⟨fun i ρ s'=>(∃ sd' a8 a9,ρ=wρ ns t tb a3 a6 (some (nD sd')) a8 a9∧OkN ss 3 sd' sv)∧WI (c+i) t tb ns ss L F s',⟨⟨_,_,_,rfl,o⟩,g⟩,fun _ _ _ _ _=>trivial,?_,?_⟩
  · rintro i d ρ s' hi ⟨⟨sd',a8,a9,rfl,o'⟩,g'⟩
    have hil:=(qAT hi).1
    refine qh (qPI (ea2 (qB (i:=2) rfl) (ea2 (qB (i:=7) rfl) (qQD (qF (qB (i:=1) rfl) (qF (qB (i:=2) rfl) (qF (qB (i:=7) rfl) qN))) ?_))))
    refine⟨2,1,c+i,ns,ss,sd',sv,rfl,C.ok,C.n0,C.n3,o',g'.dk,by omega,fun r m s2 hm kd dk=>?_⟩
    refine⟨ns,ss,sd',sv,r,m,rfl,C.ok,o',hm,fun s3 x3=>?_⟩
    have g2:=g'.kd (kd.ext x3) (dk.ext x3) C.t2 C.f2
    exact qPj (a8:=some d) (a6:=a6) (a3:=a3) C g2 o' hm fun sd2 s4 a9' o2 g4=>⟨⟨sd2,_,_,rfl,o2⟩,g4⟩
  · rintro ρ s' ⟨⟨sd',a8,a9,rfl,o'⟩,g'⟩
    rw [qAa] at g'
    exact hn s' _ _ _ g'
theorem qO8 {c:Nat} {E:qAq} {a3 a7 a8 a9:Option Dt} {v:Int} {s:Sto} (C:WC tb ns ss L F) (g:WI c t tb ns ss L F s) (hc:c<700000) (hn:∀ s' a6 a7 a8 a9,WI (c+5) t tb ns ss L F s'→E.nx (wρ ns t tb a3 a6 a7 a8 a9) s'):Lwk E (wρ ns t tb a3 (some (.int v)) a7 a8 a9) s:=by
  obtain⟨m,em,hm⟩:=qA3 (v:=v / 2) C.n0
  have gm:=List.getElem?_eq_getElem hm
  obtain⟨sv,_,o⟩:=at2 C.ok gm
  have o:=qBX o
  generalize ns[m]=nd at gm o
  have hlen:Ev (qJ qAd (qA (qC 2) qG)) (wρ ns t tb a3 (some (.int v)) a7 a8 a9) s (.int (ns.length:Nat)):=by
    have:=qAp (st:=s) (te:=qC 2) (ρ:=wρ ns t tb a3 (some (.int v)) a7 a8 a9) (l:=ns.map nD) (qB (i:=2) rfl)
    k_dat 0"r20"
    exact this
  have em':Ev (qE qAF (qE qEP (qC 6) (qD (Dt.int 2))) (qJ qAd (qA (qC 2) qG))) (wρ ns t tb a3 (some (.int v)) a7 a8 a9) s (.int (m:Nat)):=by
    rw [← em]
    exact qa (qB6 (qB (i:=6) rfl) qK (by decide) (by decide)) hlen (by have:=C.n0;omega)
  refine qh (ql (l:=ns.map nD) (qB (i:=2) rfl) rfl em' (by rw [List.getElem?_map,gm];rfl) _ ?_)
  have rest:∀ (nd:Nd) (sv c':Nat) (s':Sto),OkN ss 3 nd sv→WI c' t tb ns ss L F s'→c'≤c+1→Lwj E (wρ ns t tb a3 (some (.int v)) (some (nD nd)) a8 a9) s':=fun nd sv c' s' o' g' hc'=>qP8 C g' (by omega) o' fun s2 a7 a8 a9 g2=>hn s2 _ _ _ _ ⟨g2.dk.mono (by omega),g2.tm,g2.tl⟩
  refine qS (b:=decide (v%2=1)) (evb (qAA (qa (qB (i:=6) rfl) qK (by decide)) qK)) (fun _=>?_) (fun _=>rest nd sv c s o g (by omega))
  refine qh (qBU (qF (qB (i:=1) rfl) (qF (qB (i:=2) rfl) (qF qK qN))) ?_)
  refine⟨2,1,c,tab ns,ns,ss,rfl,(fun h=>by cases h),rfl,C.ok,C.n3,g.dk,by omega,fun nd' s' st' o' kd dk=>?_⟩
  exact rest nd' s' (c+1) st' o' (g.kd kd dk C.t2 C.f2) (Nat.le_refl _)
theorem qPC {c:Nat} {Pd:VD} {a3 a6 a7 a8 a9:Option Dt} {s:Sto} (C:WC tb ns ss L F) (g:WI c t tb ns ss L F s) (hc:c<10000) (hP:∀ s',Pd (.bl true) s'):Lw6 (Ed Pd) (wρ ns t tb a3 a6 a7 a8 a9) s:=by
  refine forR (n:=30) qK (by decide) ?_
  refine⟨fun i ρ s'=>(∃ a3 a6 a7 a8 a9,ρ=wρ ns t tb a3 a6 a7 a8 a9)∧WI (c+10 * i) t tb ns ss L F s',⟨⟨_,_,_,_,_,rfl⟩,g⟩,fun _ _ _ _ _=>trivial,?_,?_⟩
  · rintro i d ρ s' hi ⟨⟨a3,a6,a7,a8,a9,rfl⟩,g'⟩
    have hil:=(qAT hi).1
    refine qh (qBU (qF (qB (i:=1) rfl) qN) ⟨2,1,c+10 * i,rfl,g'.dk,by omega,fun v s2 kd dk=>?_⟩)
    have g2:=g'.kd kd dk C.t2 C.f2
    exact qO8 (a3:=some d) (v:=v) C g2 (by omega) fun s3 a6 a7 a8 a9 g3=>⟨⟨_,_,_,_,_,rfl⟩,g3.dk.mono (by omega),g3.tm,g3.tl⟩
  · rintro ρ s' ⟨⟨a3,a6,a7,a8,a9,rfl⟩,g'⟩
    exact hP s'
end
theorem qP1 {c t:Nat} {ns:List Nd} {ss:List Nat} {L:List Tq} {Pd:VD} {a3 a5 a6 a7 a8 a9:Option Dt} {s:Sto} (hT:OkT 3 ns ss) (h0:0<ns.length) (h3:ns.length≤300) (h4:L.length=4) (hd:qAG s 2 1 c) (ht:Tms s 2 t L) (hc:c<10000) (hP:∀ s',Pd (.bl true) s'):Lw5 (Ed Pd) [some (.lst 0),some (.lst 2),some (tab ns),a3,some (.lst t),a5,a6,a7,a8,a9] s:=by
  refine qh ?_
  have iq:∀ (P:List Dt→(Sto→Prop)→Sto→Prop),P (L.map Tq.d) (fun st'=>qc st' (.lst t)=some (L.map Tq.d)) s→qDU (qC 4) [some (.lst 0),some (.lst 2),some (tab ns),a3,some (.lst t),a5,a6,a7,a8,a9] s P:=fun P hp=>by
    unfold qDU
    refine qB (i:=4) (d:=.lst t) rfl _ ?_
    rw [show qc s (.lst t)=some (L.map Tq.d) from qp ⟨_,ht.row,rfl⟩]
    exact hp
  refine iq _ ?_
  have sl:=hd.ek.2
  refine⟨fun i ys s'=>qg s s'∧∃ F:List Nat,ys=F.map .lst∧F.length=i∧(∀ f∈F,2<f)∧∀ (j:Nat) q f,L[j]? = some q→F[j]? = some f→s'[f]? = some (.rw ((q.e.ws ns).map vD)),⟨.refl _,[],rfl,rfl,(fun f h=>by cases h),fun j q f _ h=>by simp at h⟩,?_,?_,?_⟩
  · rintro i ys s' _ ⟨x,_⟩
    exact qp ⟨_,x _ _ ht.row,rfl⟩
  · rintro i d ys s' hi ⟨x,F,rfl,hF,f2,hA⟩
    have hil:=qX hi
    rw [List.length_map] at hil
    have eL:=List.getElem?_eq_getElem hil
    have hq:=ht.all _ (List.getElem_mem hil)
    rw [List.getElem?_map,eL] at hi
    have hi:d=Tq.d L[i]:=(Option.some.inj hi).symm
    generalize L[i]=q at eL hq hi
    obtain⟨ha,hk,_⟩:=hq
    refine⟨by rw [List.length_map,hF];exact qAS (by omega),.lst q.b,.lst q.m,.lst q.r,hi,qAo ?_⟩
    refine qBU (qF (qB (i:=3) rfl) (qF (qB (i:=0) rfl) (qF (qB (i:=1) rfl) (qF (qB (i:=2) rfl) qN)))) ?_
    refine⟨ns,ss,q.b,q.m,q.r,q.e,rfl,ha.ext x,hk,hT,by omega,fun s2 n x2 gn ln=>?_⟩
    refine⟨x.trans x2,F++[n],by rw [List.map_append];rfl,by rw [List.length_append,hF];rfl,fun f hf=>?_,fun j q' f h1 h2=>?_⟩
    · rcases List.mem_append.mp hf with hf | hf
      · exact f2 f hf
      · have:f=n:=by simpa using hf
        have:=qX (x _ _ ht.row)
        obtain⟨o,ho⟩:=hd.get
        have:=qX (x _ _ ho)
        omega
    · rcases qBQ h2 with ⟨_,h2⟩ | ⟨rfl,rfl⟩
      · exact x2 _ _ (hA j q' f h1 h2)
      · rw [hF] at h1
        have:q=q':=Option.some.inj (eL.symm.trans h1)
        subst this
        exact gn
  · rintro ys s' ⟨x,F,rfl,hF,f2,hA⟩
    rw [List.length_map] at hF
    have x2:qg s (s'++[SO.rw (F.map .lst)]):=x.trans (.app _ _)
    obtain⟨o,ho⟩:=hd.get
    have ht2:2<s'.length:=qX (x _ _ ho)
    have C:WC s'.length ns ss L F:=⟨hT,h0,h3,h4,ht2,f2⟩
    exact qPC C ⟨hd.ext x2,ht.kd (.of x2),q8,hF,fun i q f h1 h2=>(qg.app s' _) _ _ (hA i q f h1 h2)⟩ hc hP
theorem qNE {ds:List Dt} {st:Sto} {Pd:VD} (h:qGZ ds st Pd):qMi (Ed Pd) (qW ["script", "deck", "nodes", "k", "times", "tables", "cell", "seen", "turn", "other"] ds) st:=by
  obtain⟨ns,rfl,rfl,hl,hP⟩:=h
  obtain⟨ys,ey,hy⟩:=qJT ns none (some 63)
  refine qh ⟨by show 2≤sizeLine;decide,?_⟩
  show Lw1 (Ed Pd) [some (.lst 0),some (.lst 2),none,none,none,none,none,none,none,none] [SO.ro (ns.map .int),.rw (L3.cutD (ns.map .int) none (some 63)),.rw [.lst 1,.int 0]]
  rw [ey]
  refine qh ⟨Nat.zero_le _,?_⟩
  have hd:qAG [SO.ro (ns.map .int),.rw (ys.map .int),.rw [.lst 1,.int 0],.rw []] 2 1 0:=⟨0,.rw (ys.map .int),ys,rfl,by decide,rfl,rfl,by omega,Nat.le_refl _⟩
  have h3:([SO.ro (ns.map .int),.rw (ys.map .int),.rw [.lst 1,.int 0],.rw []]:Sto)[3]? = some (.rw []):=rfl
  show Lw2 (Ed Pd) [some (.lst 0),some (.lst 2),some (.lst 3),none,none,none,none,none,none,none] [SO.ro (ns.map .int),.rw (ys.map .int),.rw [.lst 1,.int 0],.rw []]
  generalize ([SO.ro (ns.map .int),.rw (ys.map .int),.rw [.lst 1,.int 0],.rw []]:Sto)=s0 at hd h3
  refine qQL (k:=2) (e:=1) (c:=1) (lo:=4) (hi:=40) (fun Q hq=>?_) (by decide) fun n s1 n4 n40 kd dk=>?_
  · have:=qBx (M:=37) (v:=1) (ρ:=[some (.lst 0),some (.lst 2),some (.lst 3),none,none,none,none,none,none,none]) rfl hd (by decide) (by decide)
    refine qK _ (this _ fun v s1 v0 v1 kd dk=>?_)
    obtain⟨m,rfl⟩:∃ m:Nat,v=(m:Int):=⟨v.toNat,by omega⟩
    exact hq (4+m) s1 (by omega) (by omega) kd dk
  have h3:=kd 3 _ (by decide) h3
  refine⟨fun i ρ s'=>(∃ a3,ρ=[some (.lst 0),some (.lst 2),some (.lst 3),a3,none,none,none,none,none,none])∧∃ nds ss,nds.length=i∧OkT 3 nds ss∧s'[3]? = some (.rw (nds.map nD))∧qAG s' 2 1 (1+i),⟨⟨_,rfl⟩,[],[],rfl,.nil,h3,dk⟩,fun _ _ _ _ _=>trivial,?_,?_⟩
  · rintro i d ρ s' hi ⟨⟨a3,rfl⟩,nds,ss,hl,hT,g3,dk⟩
    have hil:=(qAT hi).1
    refine qQM (f:=3) (ds:=[.lst 2,.lst 3,.int 3]) (qB (i:=2) rfl) (qF (qB (i:=1) rfl) (qF (qB (i:=2) rfl) (qF qK qN))) ?_
    refine⟨2,1,1+i,.lst 3,nds,ss,rfl,(fun h=>by cases h),qp ⟨_,g3,rfl⟩,hT,by omega,dk,by omega,fun nd s st' o kd dk=>?_⟩
    show (match (st':List SO)[3]? with | some (SO.rw xs)=>_ | _=>_)
    rw [kd 3 _ (by decide) g3]
    refine⟨by rw [List.length_map];exact qAS (by omega),⟨_,rfl⟩,nds++[nd],ss++[s],by rw [List.length_append,hl];rfl,hT.snoc o,?_,dk.set (by decide) (by decide)⟩
    rw [qA2 (kd 3 _ (by decide) g3),List.map_append];rfl
  · rintro ρ s' ⟨⟨a3,rfl⟩,nds,ss,hl,hT,g3,dk⟩
    rw [qAa] at hl dk
    show Lw3 (Ed Pd) [some (.lst 0),some (.lst 2),some (.lst 3),a3,none,none,none,none,none,none] s'
    refine qh (qBU (qF (qB (i:=1) rfl) (qF (qB (i:=2) rfl) qN)) ?_)
    refine⟨2,1,3,1+n,nds,ss,rfl,by decide,g3,hT,by omega,by omega,dk,by omega,fun ns' ss' s2 hT' h0 h300 kd dk=>?_⟩
    refine qh (qBU (qF (qB (i:=1) rfl) qN) ?_)
    refine⟨2,1,1+n+100,rfl,dk,by omega,fun L t s3 h4 tm kd dk=>?_⟩
    exact qP1 hT' h0 h300 h4 dk tm (by omega) hP
end K31
namespace K06
open PySem L2 L3
end K06
namespace KD
open PySem L2 L3 KH KS KW K20 K06
end KD
namespace K22
open PySem L2 L3 KH KS
namespace LS
end LS
end K22
namespace K22
open PySem L2 L3 KH KS
end K22
namespace K22
open PySem PySem.Spec PyProof.Rows L2 L3 KH KS
end K22
namespace K22
open PySem PySem.Spec PyProof.Rows L2 L3 KH KS
end K22
namespace K06
open PySem PySem.Spec PyProof.Rows L2 L3
end K06
namespace K06
open PySem PySem.Spec PyProof.Rows L2 L3
end K06
namespace K22
open PySem PySem.Spec PyProof.Rows L2 L3 KH KS
end K22
namespace K22
open PySem PySem.Spec PyProof.Rows L2 L3 KH KS
end K22
namespace K22
open PySem PySem.Spec PyProof.Rows L2 L3 KH KS
end K22
namespace KD
open PySem PySem.Spec PyProof.Rows L2 L3 KH KS KW K20 K06
end KD
namespace KD
open PySem PySem.Spec PyProof.Rows L2 L3 KH KS KW K20 K06
end KD
namespace KD
open PySem L2 L3 KH KS KW K20 K06
end KD
set_option maxHeartbeats 1000000
namespace K02
open PySem L2 L3
end K02
namespace K85
open PySem L2 L3 K02
end K85
namespace KL
open PySem L2 L3 K02 K85 K06
end KL
namespace KM
open PySem L2 L3 K02 K85 K06
end KM
namespace KT
open PySem L2 L3 K02 K85 K06 KM
end KT
namespace KU
open PySem L2 L3 K02 K85 K06 KM KT
end KU
namespace K02
open PySem L2 L3
end K02
namespace K02
open PySem PySem.Spec PyProof.Rows L2 L3
end K02
namespace K02
open PySem PySem.Spec PyProof.Rows L2 L3
end K02
namespace K85
open PySem PySem.Spec PyProof.Rows L2 L3 K02
end K85
namespace K85
open PySem PySem.Spec PyProof.Rows L2 L3 K02
end K85
namespace K02
open PySem L2 L3
end K02
namespace K02
open PySem PySem.Spec PyProof.Rows L2 L3
end K02
namespace K02
open PySem PySem.Spec PyProof.Rows L2 L3
end K02
namespace K85
open PySem PySem.Spec PyProof.Rows L2 L3 K02
end K85
namespace K85
open PySem PySem.Spec PyProof.Rows L2 L3 K02
end K85
namespace K85
open PySem PySem.Spec PyProof.Rows L2 L3 K02
end K85
namespace K85
open PySem PySem.Spec PyProof.Rows L2 L3 K02
end K85
namespace K85
open PySem PySem.Spec PyProof.Rows L2 L3 K02
end K85
namespace KL
open PySem PySem.Spec PyProof.Rows L2 L3 KS K02 K85 K06
end KL
namespace KT
open PySem PySem.Spec PyProof.Rows L2 L3 K02 K85 KM
end KT
namespace KM
open PySem PySem.Spec PyProof.Rows L2 L3 KS K02 K85 K06
end KM
namespace KM
open PySem PySem.Spec PyProof.Rows L2 L3 KS K02 K85 K06
end KM
namespace KM
open PySem PySem.Spec PyProof.Rows L2 L3 KS K02 K85 K06
end KM
namespace KM
open PySem PySem.Spec PyProof.Rows L2 L3 KS K02 K85 K06
end KM
namespace KM
open PySem PySem.Spec PyProof.Rows L2 L3 KS K02 K85 K06
end KM
namespace K85
open PySem PySem.Spec PyProof.Rows L2 L3 K02
end K85
namespace KL
open PySem PySem.Spec PyProof.Rows L2 L3 KS K02 K85 K06
end KL
namespace KT
open PySem PySem.Spec PyProof.Rows L2 L3 K02 K85 KM
end KT
namespace K85
open PySem PySem.Spec PyProof.Rows L2 L3 K02
end K85
namespace KT
open PySem PySem.Spec PyProof.Rows L2 L3 K02 K85 KM
end KT
namespace K85
open PySem PySem.Spec PyProof.Rows L2 L3 K02
end K85
namespace K85
open PySem PySem.Spec PyProof.Rows L2 L3 K02
end K85
namespace KT
open PySem PySem.Spec PyProof.Rows L2 L3 K02 K85 KM
end KT
namespace KU
open PySem PySem.Spec PyProof.Rows L2 L3 K02 K85 K06 KM KT
end KU
namespace K62
open PySem L2 L3 K02 K85 K06 KM
end K62
namespace K62
open PySem L2 L3 K02 K85 K06 KM
end K62
namespace K62
open PySem PySem.Spec PyProof.Rows L2 L3 KS K02 K85 K06 KM KL
end K62
namespace K62
open PySem PySem.Spec PyProof.Rows L2 L3 KS K02 K85 K06 KM KL
end K62
namespace K62
open PySem PySem.Spec PyProof.Rows L2 L3 KS K02 K85 K06 KM KL
end K62
namespace KU
open PySem PySem.Spec PyProof.Rows L2 L3 K02 K85 K06 KM KT
end KU
namespace KU
open PySem PySem.Spec PyProof.Rows L2 L3 K02 K85 K06 KM KT
end KU
namespace KU
open PySem PySem.Spec PyProof.Rows L2 L3 K02 K85 K06 KM KT
end KU
namespace KU
open PySem PySem.Spec PyProof.Rows L2 L3 K02 K85 K06 KM KT
end KU
namespace KU
open PySem PySem.Spec PyProof.Rows L2 L3 K02 K85 K06 KM KT
end KU
namespace KU
open PySem L2 L3 K02 K85 K06 KM KT
end KU
namespace KU
open PySem L2 L3 K02 K85 K06 KM KT
end KU
namespace K25
open PySem L2 L3 KH KS KW K20 K06 KD
namespace Tq
end Tq
end K25
namespace K25
open PySem L2 L3 KH KS KW K20 K06 KD
end K25
namespace K25
open PySem L2 L3 KH KS KW K20 K06 KD
end K25
namespace K25
open PySem L2 L3 KH KS KW K20 K06 KD
end K25
namespace K25
open PySem L2 L3 KH KS KW K20 K06 KD
end K25
namespace K25
open PySem L2 L3 KH KS KW K20 K06 KD
end K25
namespace K25
open PySem L2 L3 KH KS KW K20 K06 KD
end K25
namespace K25
open PySem L2 L3 KH KS KW K20 K06 KD
end K25
namespace K22
open PySem PySem.Spec PyProof.Rows L2 L3 KH KS
end K22
namespace K22
open PySem PySem.Spec PyProof.Rows L2 L3 KH KS
end K22
namespace K25
open PySem PySem.Spec PyProof.Rows L2 L3 KH KS K22
end K25
namespace KD
open PySem PySem.Spec PyProof.Rows L2 L3 KH KS KW K20 K06
end KD
namespace K25
open PySem PySem.Spec PyProof.Rows L2 L3 KH KS KW K20 K06 KD
end K25
namespace K25
open PySem L2 L3 KH KS KW K20 K06 KD
end K25
namespace K25
open PySem PySem.Spec PyProof.Rows L2 L3 KH KS KW K20 K06 KD
end K25
namespace K25
open PySem PySem.Spec PyProof.Rows L2 L3 KH KS KW K20 K06 KD
end K25
namespace K22S
open L3
end K22S
namespace L3
open PySem PySem.Spec PyProof.Rows L2
end L3
namespace KR
open L3
theorem qAl {r:Rl} {ds:List Dt} {st:Sto} {P:VD} (h:qFi (rn r) ds st P):spR r ds st P:=by
  obtain⟨r',e,h⟩:=h
  have:=K31.qKK e
  subst this
  exact h
end KR
namespace K31
open PySem PySem.Spec PyProof.Rows L2 L3
local macro_rules | `(tactic| k_dat $x:ident "e")=>`(tactic| (case $x:ident=>walk_at "d_e"))
local macro_rules | `(tactic| k_dat $x:ident "r")=>`(tactic| (case $x:ident=>rfl))
local macro_rules | `(tactic| k_dat $x:ident "m")=>`(tactic| (case $x:ident=>assumption))
local macro_rules | `(tactic| k_dat $x:ident "d")=>`(tactic| (case $x:ident=>decide))
local macro_rules | `(tactic| k_dat $x:ident "a")=>`(tactic| (case $x:ident=>walk_at "d_a"))
local macro_rules | `(tactic| k_dat $x:ident "t")=>`(tactic| (case $x:ident=>walk_at "d_t"))
local macro_rules | `(tactic| k_dat $x:ident "s")=>`(tactic| (case $x:ident=>walk_at "d_ss"))
local macro_rules | `(tactic| k_dat $x:ident "i")=>`(tactic| (case $x:ident=>walk_at "d_i"))
local macro_rules | `(tactic| k_dat $x:ident "n")=>`(tactic| (case $x:ident=>first | exact qHg _ | with_unfolding_all rfl))
local macro_rules | `(tactic| k_dat $n:num "zv0")=>`(tactic| ((with_reducible refine' qM9 $n ?n ?v ?d ?c);k_dat n "r";(case v=>first | exact Or.inl rfl | exact Or.inr (Or.inl rfl));k_dat d "d";k_dat c "d"))
local macro_rules | `(tactic| k_dat $n:num "zc0")=>`(tactic| ((with_reducible refine' qGB $n _ ?hc ?N ?S ?hx ?nd ?i ?f ?e ?y ?yl ?sw ?hs);k_dat y "r";k_dat hc "r";k_dat N "m";(case S=>exact qFU (by assumption) (by rfl));k_dat hx "r";(case nd=>decide +kernel);k_dat sw "r";k_dat yl "r";k_dat i "i";(case f=>(intro _ _ _ _;walk_at "d_if"));(case e=>(intro _ _ _ _;walk_at "d_e"));(case hs=>(intro _;rfl))))
local macro_rules | `(tactic| k_dat $n:num "zc1")=>`(tactic| ((with_reducible refine' qGB $n _ ?hc ?N ?S ?hx ?nd ?i ?f ?e ?y ?yl ?sw ?hs);k_dat y "r";k_dat hc "r";k_dat N "m";(case S=>exact qGg (by assumption) (by rfl));k_dat hx "r";(case nd=>decide +kernel);k_dat sw "r";k_dat yl "r";k_dat i "i";(case f=>(intro _ _ _ _;walk_at "d_if"));(case e=>(intro _ _ _ _;walk_at "d_e"));(case hs=>(intro _;rfl))))
local macro_rules | `(tactic| k_dat $n:num "zc2")=>`(tactic| ((with_reducible refine' qGB $n [] ?hc ?N ?S ?hx ?nd ?i ?f ?e ?y ?yl ?sw ?hs);k_dat y "r";k_dat hc "r";k_dat N "m";(case S=>exact qGT (by rfl));k_dat hx "r";(case nd=>decide +kernel);k_dat sw "r";k_dat yl "r";k_dat i "i";(case f=>(intro _ _ _ _;walk_at "d_if"));(case e=>(intro _ _ _ _;walk_at "d_e"));(case hs=>(intro _;rfl))))
local macro_rules | `(tactic| k_dat $n:num "zs0")=>`(tactic| ((with_reducible refine' qOU $n ?N ?e ?i ?x ?s ?f);k_dat i "r";k_dat s "r";k_dat N "m";(case x=>first | exact Or.inl rfl | exact Or.inr rfl);(case f=>first | exact .inl rfl | exact .inr rfl);k_dat e "e"))
local macro_rules | `(tactic| k_dat $n:num "zg0")=>`(tactic| ((with_reducible refine' qDh $n ?nd ?n ?x ?f);k_dat n "r";k_dat nd "m";(case x=>first | exact Or.inl rfl | exact Or.inr rfl);(case f=>first | exact .inl rfl | exact .inr rfl)))
local macro_rules | `(tactic| k_dat $n:num "zu0")=>`(tactic| ((with_reducible refine' qEt $n ?c ?g ?n ?s);k_dat n "r";k_dat c "r";(case g=>walk_at "d_gs");k_dat s "r"))
local macro_rules | `(tactic| k_dat $l:ident "s0")=>`(tactic| ((with_reducible refine' $l ?v ?r);k_dat v "e";(case r=>walk_at "d_pk")))
local macro_rules | `(tactic| k_dat $l:ident "s1")=>`(tactic| ((with_reducible refine' $l ?a ?b);k_dat a "e";k_dat b "e"))
local macro_rules | `(tactic| k_dat $l:ident "s2")=>`(tactic| ((with_reducible refine' $l ?a);k_dat a "e"))
local macro_rules | `(tactic| k_dat $l:ident "s3")=>`(tactic| ((with_reducible refine' $l ?a ?b ?h1 ?h2 ?h3 ?h4 ?h5);k_dat a "e";k_dat b "e";k_dat h1 "r";k_dat h2 "r";k_dat h3 "r";k_dat h4 "r";k_dat h5 "r"))
local macro_rules | `(tactic| k_dat $l:ident "s4")=>`(tactic| ((with_reducible refine' $l ?f ?n ?r ?a ?g ?db ?he ?hpl);k_dat f "m";k_dat n "r";(case r=>walk_at "d_room");k_dat a "a";k_dat g "r";k_dat db "d";k_dat he "r";k_dat hpl "r"))
local macro_rules | `(tactic| k_dat $l:ident "s5")=>`(tactic| ((with_reducible refine' $l ?hu ?a ?b ?m);(case hu=>walk_at "d_hu");k_dat a "e";k_dat b "e";k_dat m "n"))
local macro_rules | `(tactic| k_dat $l:ident "s6")=>`(tactic| ((with_reducible refine' $l ?a ?b ?m);k_dat a "e";k_dat b "e";k_dat m "n"))
local macro_rules | `(tactic| k_dat $l:ident "s7")=>`(tactic| ((with_reducible refine' $l ?c ?m ?a ?g ?he ?hpl);k_dat c "r";k_dat m "m";k_dat a "a";k_dat g "r";k_dat he "r";k_dat hpl "r"))
local macro_rules | `(tactic| k_dat $l:ident "s8")=>`(tactic| ((with_reducible refine' $l ?a);k_dat a "a"))
local macro_rules | `(tactic| k_dat $l:ident "s9")=>`(tactic| ((with_reducible refine' $l ?a ?l ?h);k_dat a "e";(case l=>walk_at "d_o");(case h=>walk_at "d_o")))
local macro_rules | `(tactic| k_dat $l:ident "s10")=>`(tactic| ((with_reducible refine' $l ?m ?a ?g ?he ?hpl);k_dat m "m";k_dat a "a";k_dat g "r";k_dat he "r";k_dat hpl "r"))
local macro_rules | `(tactic| k_dat $l:ident "s11")=>`(tactic| ((with_reducible refine' $l ?m ?g);k_dat m "m";k_dat g "r"))
local macro_rules | `(tactic| k_dat $l:ident "s12")=>`(tactic| ((with_reducible refine' $l ?a ?b ?c ?m);k_dat a "e";k_dat b "e";k_dat c "e";(case m=>with_unfolding_all rfl)))
local macro_rules | `(tactic| k_dat $l:ident "s13")=>`(tactic| ((with_reducible refine' $l ?hu ?a ?b ?m);(case hu=>exact hu1 (by assumption));k_dat a "e";k_dat b "e";k_dat m "n"))
local macro_rules | `(tactic| k_dat $l:ident "s14")=>`(tactic| ((with_reducible refine' $l ?T ?i ?g ?d ?m);k_dat T "m";k_dat g "r";k_dat d "d";k_dat i "e";k_dat m "n"))
local macro_rules | `(tactic| k_dat $l:ident "s15")=>`(tactic| ((with_reducible refine' $l ?a);k_dat a "t"))
local macro_rules | `(tactic| k_dat $l:ident "s16")=>`(tactic| ((with_reducible refine' $l ?a ?b);k_dat a "t";(case b=>walk_at "d_w")))
local macro_rules | `(tactic| k_dat $l:ident "s17")=>`(tactic| ((with_reducible refine' $l ?m ?a ?g ?s);k_dat m "m";k_dat a "e";k_dat g "r";k_dat s "r"))
local macro_rules | `(tactic| walk_at "d_room")=>`(tactic| first
  | exact qAh.mono (by assumption) (by decide))
local macro_rules | `(tactic| walk_at "d_hu")=>`(tactic| first
  | exact qQP (by assumption))
local macro_rules | `(tactic| walk_at "d_ps")=>`(tactic| first
  | (with_reducible exact dps_nil)
  | ((with_reducible refine' dps_cons ?v ?r);k_dat v "e";(case r=>walk_at "d_ps")))
local macro_rules | `(tactic| walk_at "d_pk")=>`(tactic| first
  | (with_reducible exact qL9)
  | (k_dat qL4 "s0"))
local macro_rules | `(tactic| walk_at "d_e")=>`(tactic| first
  | (with_reducible exact qMr)
  | (with_reducible exact qOg)
  | (with_reducible exact qOq)
  | (with_reducible exact qNw)
  | ((with_reducible show DE _ (.Name _ _) _);first
      | (k_dat 0 "zv0")
      | (k_dat 1 "zv0")
      | (k_dat 2 "zv0")
      | (k_dat 3 "zv0")
      | (k_dat 4 "zv0")
      | (k_dat 5 "zv0")
      | (k_dat 6 "zv0")
      | (k_dat 7 "zv0")
      | (k_dat 8 "zv0")
      | (k_dat 9 "zv0")
      | (k_dat 10 "zv0")
      | (k_dat 11 "zv0")
      | (k_dat 12 "zv0")
      | (k_dat 13 "zv0")
      | (k_dat 14 "zv0")
      | (k_dat 15 "zv0"))
  | (k_dat qON "s2")
  | (k_dat qOA "s1")
  | (k_dat qNv "s1")
  | (k_dat qMu "s1")
  | (k_dat qM2 "s1")
  | (k_dat qNJ "s1")
  | (k_dat qPD "s5")
  | (k_dat qO6 "s5")
  | (k_dat qPF "s6")
  | (k_dat qPq "s6")
  | (k_dat qOz "s6")
  | (k_dat qOI "s7")
  | (k_dat qN7 "s8")
  | (k_dat qOo "s8")
  | (k_dat qI6 "s9")
  | ((with_reducible refine' qP5 ?a ?b ?s);k_dat a "e";k_dat b "e";(case s=>exact fun _ _=>rfl))
  | ((with_reducible refine' qJe ?f ?r ?a ?g ?db ?he ?hpl);k_dat f "m";(case r=>walk_at "d_room");k_dat a "a";k_dat g "r";k_dat db "d";k_dat he "r";k_dat hpl "r")
  | (k_dat qOJ "s10")
  | (k_dat qIh "s10")
  | (k_dat qKF "s10")
  | (k_dat qL7 "s10")
  | (k_dat qNF "s10")
  | (k_dat qJc "s11")
  | (k_dat qIz "s11")
  | (k_dat qHR "s11")
  | ((with_reducible refine' qNH ?f ?g ?db);(case f=>first | assumption | exact qKO.con (by assumption));k_dat g "r";k_dat db "d")
  | (k_dat qIx "s3")
  | (k_dat qOZ "s2")
  | (k_dat qOm "s1")
  | (k_dat qOL "s2")
  | ((with_reducible refine' qPx ?c ?a ?b);k_dat c "t";k_dat a "e";k_dat b "e")
  | (k_dat qK0 "s12")
  | ((with_reducible refine' qFW _ ?hc ?S ?hx ?nd ?i ?f ?e ?hs);k_dat hc "r";(case S=>exact qFU (by assumption) (by rfl));k_dat hx "r";(case nd=>decide +kernel);k_dat i "i";(case f=>(intro _ _ _ _;walk_at "d_if"));(case e=>(intro _ _ _ _;walk_at "d_e"));(case hs=>(intro _;rfl)))
  | ((with_reducible refine' qFW _ ?hc ?S ?hx ?nd ?i ?f ?e ?hs);k_dat hc "r";(case S=>exact qGg (by assumption) (by rfl));k_dat hx "r";(case nd=>decide +kernel);k_dat i "i";(case f=>(intro _ _ _ _;walk_at "d_if"));(case e=>(intro _ _ _ _;walk_at "d_e"));(case hs=>(intro _;rfl)))
  | ((with_reducible refine' qFW [] ?hc ?S ?hx ?nd ?i ?f ?e ?hs);k_dat hc "r";(case S=>exact qGT (by rfl));k_dat hx "r";(case nd=>decide +kernel);k_dat i "i";(case f=>(intro _ _ _ _;walk_at "d_if"));(case e=>(intro _ _ _ _;walk_at "d_e"));(case hs=>(intro _;rfl)))
  | ((with_reducible refine' qK5 ?h ?hall ?hl ?h0 ?h15 ?hk ?nd);(case h=>walk_at "d_pk");k_dat hall "r";k_dat hl "r";(case h0=>exact List.cons_ne_nil _ _);k_dat h15 "d";k_dat hk "d";k_dat nd "d")
  | ((with_reducible refine' qLm ?hu ?a ?b ?s);(case hu=>exact hu1 (by assumption));k_dat a "e";k_dat b "e";(case s=>exact fun _ _=>rfl))
  | (k_dat qJA "s14")
  | ((with_reducible refine' qHl ?T ?i ?g ?d ?s);k_dat T "m";k_dat g "r";k_dat d "d";(case s=>exact fun _ _=>rfl);k_dat i "e")
  | ((with_reducible refine' qIj ?T ?r ?i ?a ?g ?d ?s ?he ?hpl ?hev);k_dat T "m";(case r=>walk_at "d_room");k_dat g "r";k_dat d "d";(case s=>exact fun _ _=>rfl);k_dat he "r";k_dat hpl "r";k_dat hev "r";k_dat i "e";k_dat a "a")
  | ((with_reducible refine' qIs ?hu ?a ?b ?h1 ?h2 ?h3 ?h4 ?h5);(case hu=>walk_at "d_hu");k_dat a "e";k_dat b "e";k_dat h1 "r";k_dat h2 "r";k_dat h3 "r";k_dat h4 "r";k_dat h5 "r")
  | ((with_reducible refine' qME ?a ?h);k_dat a "e";k_dat h "d"))
local macro_rules | `(tactic| walk_at "d_a")=>`(tactic| first
  | (with_reducible exact qF2)
  | ((with_reducible refine' qDb ?a ?b ?h);k_dat a "e";k_dat b "a";k_dat h "r"))
local macro_rules | `(tactic| walk_at "d_o")=>`(tactic| first
  | (with_reducible exact qL6)
  | (k_dat qL3 "s2"))
local macro_rules | `(tactic| walk_at "d_t")=>`(tactic| first
  | (k_dat qOH "s15")
  | ((with_reducible refine' qMV (qJg ?a ?b));k_dat a "t";(case b=>walk_at "d_w"))
  | ((with_reducible refine' qMV (qMj ?a ?b));k_dat a "t";(case b=>walk_at "d_w"))
  | (k_dat qNi "s5")
  | (k_dat qMz "s5")
  | (k_dat qOP "s6")
  | (k_dat qOW "s6")
  | (k_dat qNy "s6")
  | (k_dat qIy "s6")
  | (k_dat qOR "s6")
  | (k_dat qJM "s6")
  | (k_dat qI1 "s12")
  | (k_dat qEn "s14")
  | (k_dat qLH "s5")
  | ((with_reducible refine' qNp ?a ?h);k_dat a "e";(case h=>(intro _;rfl))))
local macro_rules | `(tactic| walk_at "d_w")=>`(tactic| first
  | (k_dat qJg "s16")
  | (k_dat qMj "s16")
  | (k_dat qLO "s15")
  | (k_dat qOi "s15"))
local macro_rules | `(tactic| walk_at "d_if")=>`(tactic| first
  | (with_reducible exact qLB)
  | (k_dat qLa "s15"))
local macro_rules | `(tactic| walk_at "d_i")=>`(tactic| first
  | (k_dat qI2 "s17")
  | (k_dat qMy "s2"))
local macro_rules | `(tactic| walk_at "d_g")=>`(tactic| first
  | (k_dat 0 "zg0")
  | (k_dat 1 "zg0")
  | (k_dat 2 "zg0")
  | (k_dat 3 "zg0")
  | (k_dat 4 "zg0")
  | (k_dat 5 "zg0")
  | (k_dat 6 "zg0")
  | (k_dat 7 "zg0")
  | (k_dat 8 "zg0")
  | (k_dat 9 "zg0")
  | (k_dat 10 "zg0")
  | (k_dat 11 "zg0")
  | (k_dat 12 "zg0")
  | (k_dat 13 "zg0")
  | (k_dat 14 "zg0")
  | (k_dat 15 "zg0")
  | (k_dat 1 "zu0")
  | (k_dat 2 "zu0")
  | (k_dat 3 "zu0")
  | (k_dat 4 "zu0")
  | (k_dat 5 "zu0")
  | (k_dat 6 "zu0")
  | (k_dat 7 "zu0")
  | (k_dat 8 "zu0")
  | ((with_reducible refine' qNz ?a ?b ?h);k_dat a "e";k_dat b "e";(case h=>(intro _;rfl))))
local macro_rules | `(tactic| walk_at "d_gs")=>`(tactic| first
  | (with_reducible exact qIO)
  | ((with_reducible refine' qCj ?a ?b ?h);(case a=>walk_at "d_g");(case b=>walk_at "d_gs");k_dat h "r"))
local macro_rules | `(tactic| walk_at "d_s")=>`(tactic| first
  | (k_dat qNt "s2")
  | ((with_reducible refine' qPd ?c ?a ?b);k_dat c "t";k_dat a "s";k_dat b "s")
  | ((with_reducible refine' qL8 ?a ?h);k_dat h "r";k_dat a "e")
  | ((with_reducible refine' qOM ?p ?c ?i ?g ?b ?h);(case p=>exact PassesOwn.never);k_dat c "r";k_dat i "i";(case g=>walk_at "d_g");k_dat b "s";(case h=>(intro _;rfl)))
  | ((with_reducible show DS _ (.Assign [.Name _ _] (.ListComp _ _ _ _) _) _);first
      | (k_dat 0 "zc0")
      | (k_dat 0 "zc1")
      | (k_dat 0 "zc2")
      | (k_dat 1 "zc0")
      | (k_dat 1 "zc1")
      | (k_dat 1 "zc2")
      | (k_dat 2 "zc0")
      | (k_dat 2 "zc1")
      | (k_dat 2 "zc2")
      | (k_dat 3 "zc0")
      | (k_dat 3 "zc1")
      | (k_dat 3 "zc2")
      | (k_dat 4 "zc0")
      | (k_dat 4 "zc1")
      | (k_dat 4 "zc2")
      | (k_dat 5 "zc0")
      | (k_dat 5 "zc1")
      | (k_dat 5 "zc2")
      | (k_dat 6 "zc0")
      | (k_dat 6 "zc1")
      | (k_dat 6 "zc2")
      | (k_dat 7 "zc0")
      | (k_dat 7 "zc1")
      | (k_dat 7 "zc2")
      | (k_dat 8 "zc0")
      | (k_dat 8 "zc1")
      | (k_dat 8 "zc2")
      | (k_dat 9 "zc0")
      | (k_dat 9 "zc1")
      | (k_dat 9 "zc2")
      | (k_dat 10 "zc0")
      | (k_dat 10 "zc1")
      | (k_dat 10 "zc2")
      | (k_dat 11 "zc0")
      | (k_dat 11 "zc1")
      | (k_dat 11 "zc2")
      | (k_dat 12 "zc0")
      | (k_dat 12 "zc1")
      | (k_dat 12 "zc2")
      | (k_dat 13 "zc0")
      | (k_dat 13 "zc1")
      | (k_dat 13 "zc2")
      | (k_dat 14 "zc0")
      | (k_dat 14 "zc1")
      | (k_dat 14 "zc2")
      | (k_dat 15 "zc0")
      | (k_dat 15 "zc1")
      | (k_dat 15 "zc2"))
  | ((with_reducible show DS _ (.Assign [.Name _ _] _ _) _);first
      | (k_dat 0 "zs0")
      | (k_dat 1 "zs0")
      | (k_dat 2 "zs0")
      | (k_dat 3 "zs0")
      | (k_dat 4 "zs0")
      | (k_dat 5 "zs0")
      | (k_dat 6 "zs0")
      | (k_dat 7 "zs0")
      | (k_dat 8 "zs0")
      | (k_dat 9 "zs0")
      | (k_dat 10 "zs0")
      | (k_dat 11 "zs0")
      | (k_dat 12 "zs0")
      | (k_dat 13 "zs0")
      | (k_dat 14 "zs0")
      | (k_dat 15 "zs0"))
  | ((with_reducible refine' qN5 ?e ?g ?s ?w ?h);k_dat s "r";k_dat w "r";k_dat h "r";k_dat e "e";(case g=>walk_at "d_g"))
  | ((with_reducible show DS _ (.AugAssign (.Name _ _) _ _ _) _);first
      | (k_dat 15 "za0"))
  | ((with_reducible refine' qMx 3 ?F ?r ?z ?nd ?a ?s ?g ?db ?he ?hpl ?i ?x ?sw ?f ?st ?fr ?gz ?dz);k_dat F "m";(case r=>walk_at "d_room");k_dat z "m";k_dat nd "m";k_dat g "r";k_dat db "d";k_dat he "r";k_dat hpl "r";k_dat i "r";(case x=>first | exact Or.inl rfl | exact Or.inr rfl);k_dat sw "r";(case f=>first | exact .inl rfl | exact .inr rfl);k_dat st "r";k_dat fr "r";k_dat gz "r";k_dat dz "d";k_dat a "a";(case s=>(intro _;walk_at "d_ss")))
  | ((with_reducible refine' qGV 5 _ ?hc ?N ?S ?hx ?hy ?hz ?nd ?i ?f ?e ?y ?yl ?sw ?hs);k_dat y "r";k_dat hc "r";k_dat N "m";(case S=>exact qFU (by assumption) (by rfl));k_dat hx "r";k_dat hy "r";k_dat hz "r";(case nd=>decide +kernel);k_dat sw "r";k_dat yl "r";k_dat i "i";(case f=>(intro _ _ _ _;walk_at "d_if"));(case e=>(intro _ _ _ _;walk_at "d_e"));(case hs=>(intro _;rfl)))
  | ((with_reducible refine' qGV 5 [] ?hc ?N ?S ?hx ?hy ?hz ?nd ?i ?f ?e ?y ?yl ?sw ?hs);k_dat y "r";k_dat hc "r";k_dat N "m";(case S=>exact qGT (by rfl));k_dat hx "r";k_dat hy "r";k_dat hz "r";(case nd=>decide +kernel);k_dat sw "r";k_dat yl "r";k_dat i "i";(case f=>(intro _ _ _ _;walk_at "d_if"));(case e=>(intro _ _ _ _;walk_at "d_e"));(case hs=>(intro _;rfl))))
local macro_rules | `(tactic| walk_at "dq_s")=>`(tactic| first
  | ((with_reducible refine' qJ0 ?h ?i ?c ?E ?a ?g ?d ?he ?hpl);k_dat h "m";k_dat i "r";k_dat c "r";(case E=>exact qIk);k_dat a "a";k_dat g "r";k_dat d "d";k_dat he "r";k_dat hpl "r")
  | (k_dat qNM "s2")
  | ((with_reducible refine' qO4 ?c ?a ?b);k_dat c "t";(case a=>walk_at "dq_ss");(case b=>walk_at "dq_ss"))
  | ((with_reducible refine' qPa ?a ?h);(case h=>exact fun _ _ _ h=>h);(case a=>walk_at "d_s")))
local macro_rules | `(tactic| walk_at "dq_ss")=>`(tactic| first
  | (with_reducible exact qLv)
  | ((with_reducible refine' qG1 ?a ?b);(case a=>walk_at "dq_s");(case b=>walk_at "dq_ss")))
local macro_rules | `(tactic| walk_at "d_ss")=>`(tactic| first
  | (with_reducible exact qLZ)
  | ((with_reducible refine' qGx ?a ?b);(case a=>walk_at "d_s");k_dat b "s"))
set_option hygiene false in
local macro_rules | `(tactic| k_dat ($a,$t,$r) "k")=>`(tactic| (have nd:=($a).nd;refine qOT F $a (fun ds st Pd h=>by first | (obtain⟨_,rfl,_⟩:=h;rfl) | (obtain⟨_,_,rfl,_⟩:=h;rfl) | (obtain⟨_,_,_,rfl,_⟩:=h;rfl) | (obtain⟨_,_,_,_,rfl,_⟩:=h;rfl) | (obtain⟨_,_,_,_,_,rfl,_⟩:=h;rfl) | (obtain⟨_,_,_,_,_,_,rfl,_⟩:=h;rfl) | (obtain⟨_,_,_,_,_,_,_,rfl,_⟩:=h;rfl) | (obtain⟨_,_,_,_,_,_,_,_,rfl,_⟩:=h;rfl) | (obtain⟨_,_,_,_,_,_,_,_,_,rfl,_⟩:=h;rfl) | (obtain⟨_,_,_,_,_,_,_,_,_,_,rfl,_⟩:=h;rfl) | (obtain⟨_,_,_,_,_,_,_,_,_,_,_,rfl,_⟩:=h;rfl) | (obtain⟨_,_,_,_,_,_,_,_,_,_,_,_,rfl,_⟩:=h;rfl) | (obtain⟨_,_,_,_,_,_,_,_,_,_,_,_,_,rfl,_⟩:=h;rfl) | (obtain⟨_,_,_,_,_,_,_,_,_,_,_,_,_,_,rfl,_⟩:=h;rfl) | (obtain⟨_,_,_,_,_,_,_,_,_,_,_,_,_,_,_,rfl,_⟩:=h;rfl) | (obtain⟨_,_,_,_,_,_,_,_,_,_,_,_,_,_,_,_,rfl,_⟩:=h;rfl) | (obtain⟨_,_,_,_,_,_,_,_,_,_,_,_,_,_,_,_,_,rfl,_⟩:=h;rfl) | (obtain⟨_,_,_,_,_,_,_,_,_,_,_,_,_,_,_,_,_,_,rfl,_⟩:=h;rfl) | (obtain⟨_,_,_,_,_,_,_,_,_,_,_,_,_,_,_,_,_,_,_,rfl,_⟩:=h;rfl) | (obtain⟨_,_,_,_,_,_,_,_,_,_,_,_,_,_,_,_,_,_,_,_,rfl,_⟩:=h;rfl) | (obtain⟨_,_,_,_,_,_,_,_,_,_,_,_,_,_,_,_,_,_,_,_,_,rfl,_⟩:=h;rfl)) fun cdv A outer s H E hr=>?_;refine⟨$t,?t,fun ds st Pd h=>$r h⟩;(case t=>(refine' qGx ?a ?b;(case a=>walk_at "d_s");(case b=>walk_at "d_ss")))))
local macro_rules | `(tactic| k_dat 0 "c")=>`(tactic| exact⟨rfl,rfl,rfl,by decide +kernel,rfl,by decide +kernel,by decide +kernel⟩)
set_option hygiene false in
local macro_rules | `(tactic| k_dat ($a,$t,$r) "kr")=>`(tactic| (have nd:=($a).nd;refine qL2 F $a (fun ds st Pd h=>by first | (obtain⟨_,rfl,_⟩:=h;rfl) | (obtain⟨_,_,rfl,_⟩:=h;rfl) | (obtain⟨_,_,_,rfl,_⟩:=h;rfl) | (obtain⟨_,_,_,_,rfl,_⟩:=h;rfl) | (obtain⟨_,_,_,_,_,rfl,_⟩:=h;rfl) | (obtain⟨_,_,_,_,_,_,rfl,_⟩:=h;rfl) | (obtain⟨_,_,_,_,_,_,_,rfl,_⟩:=h;rfl) | (obtain⟨_,_,_,_,_,_,_,_,rfl,_⟩:=h;rfl) | (obtain⟨_,_,_,_,_,_,_,_,_,rfl,_⟩:=h;rfl) | (obtain⟨_,_,_,_,_,_,_,_,_,_,rfl,_⟩:=h;rfl) | (obtain⟨_,_,_,_,_,_,_,_,_,_,_,rfl,_⟩:=h;rfl) | (obtain⟨_,_,_,_,_,_,_,_,_,_,_,_,rfl,_⟩:=h;rfl) | (obtain⟨_,_,_,_,_,_,_,_,_,_,_,_,_,rfl,_⟩:=h;rfl) | (obtain⟨_,_,_,_,_,_,_,_,_,_,_,_,_,_,rfl,_⟩:=h;rfl) | (obtain⟨_,_,_,_,_,_,_,_,_,_,_,_,_,_,_,rfl,_⟩:=h;rfl) | (obtain⟨_,_,_,_,_,_,_,_,_,_,_,_,_,_,_,_,rfl,_⟩:=h;rfl) | (obtain⟨_,_,_,_,_,_,_,_,_,_,_,_,_,_,_,_,_,rfl,_⟩:=h;rfl) | (obtain⟨_,_,_,_,_,_,_,_,_,_,_,_,_,_,_,_,_,_,rfl,_⟩:=h;rfl) | (obtain⟨_,_,_,_,_,_,_,_,_,_,_,_,_,_,_,_,_,_,_,rfl,_⟩:=h;rfl) | (obtain⟨_,_,_,_,_,_,_,_,_,_,_,_,_,_,_,_,_,_,_,_,rfl,_⟩:=h;rfl) | (obtain⟨_,_,_,_,_,_,_,_,_,_,_,_,_,_,_,_,_,_,_,_,_,rfl,_⟩:=h;rfl)) fun cdv A outer s H E hr=>?_;refine⟨$t,?t,fun ds st Pd h=>$r h⟩;(case t=>(refine' qG1 ?a ?b;(case a=>walk_at "dq_s");(case b=>walk_at "dq_ss")))))
noncomputable def top (i:Nat):Stmt:=PySem.Challenge.pw_asitruns_k31_whole_turnings_keep.main.body.getD i (.Pass ⟨0,0,0,0⟩)
noncomputable abbrev qAy:Stmt:=top 4
noncomputable abbrev qFz:Stmt:=top 7
noncomputable abbrev qDC:Stmt:=top 8
noncomputable abbrev qCR:Stmt:=top 11
noncomputable abbrev qCU:Stmt:=top 12
noncomputable abbrev qBN:Stmt:=top 13
noncomputable abbrev qDH:Stmt:=top 14
noncomputable abbrev qDo:Stmt:=top 17
noncomputable abbrev qA0:Stmt:=top 18
noncomputable abbrev qHQ:Stmt:=top 19
noncomputable abbrev qFS:Stmt:=top 20
noncomputable abbrev qDG:Stmt:=top 21
noncomputable abbrev qD5:Stmt:=top 22
noncomputable abbrev qHD:Stmt:=top 23
noncomputable abbrev qKN:Stmt:=top 24
noncomputable abbrev qJ7:Stmt:=top 25
noncomputable abbrev qBL:Stmt:=top 26
noncomputable abbrev qF3:Stmt:=top 27
noncomputable abbrev qHd:Stmt:=top 28
noncomputable abbrev qF9:Stmt:=top 29
noncomputable abbrev qC7:Stmt:=top 31
noncomputable abbrev qDr:Stmt:=top 32
noncomputable abbrev qBz:Stmt:=top 34
noncomputable abbrev qBY:Stmt:=top 35
noncomputable abbrev qA8:Stmt:=top 36
noncomputable abbrev qBh:Stmt:=top 37
noncomputable abbrev qBJ:Stmt:=top 38
noncomputable abbrev qAs:Stmt:=top 39
noncomputable abbrev qBy:Stmt:=top 40
noncomputable abbrev qB1:Stmt:=top 41
noncomputable abbrev qBF:Stmt:=top 42
noncomputable abbrev qBe:Stmt:=top 43
noncomputable abbrev qBl:Stmt:=top 44
noncomputable abbrev qEs:Stmt:=top 45
section
variable {P:Program} {w:World} {K:W.Frag} {mg:Str→Option Value} {base:Heap} {f:Addr} {fd:FuncData}
theorem qDX:qR ["word", "x", "y"] ["word", "x", "y"] (qL qAy):=by k_dat 0 "c"
theorem qDY (F:Fun K "plain_outcome" "plain_outcome" qAy f fd)  : qv P w K mg base CX0 1 f fd ["word", "x", "y"] (qT K K20.qDf):=by
  k_dat (qDX,K20.qBs,K20.qC0) "k"
theorem qLw:qR ["node"] ["node"] (qL qFz):=by k_dat 0 "c"
theorem qL0 (F:Fun K "under" "under" qFz f fd) (gT0:qKO K mg "NAMING" K19.qJq):qv P w K mg base CX0 1 f fd ["node"] (qT K K19.qB9):=by
  k_dat (qLw,K19.qIW,K19.qKa) "k"
theorem qJJ:qR ["word", "named", "x", "y"] ["word", "named"] (qL qDC):=by k_dat 0 "c"
theorem qIt (F:Fun K "made_of" "made_of" qDC f fd) (dplain_outcome:qj P w K mg base "plain_outcome" 1 K20.qDf):qv P w K mg base CX0 2 f fd ["word", "named"] (qT K K20.qDI):=by
  k_dat (qJJ,K20.qFE,K20.qHi) "k"
theorem qHc:qR ["value"] ["value"] (qL qCR):=by k_dat 0 "c"
theorem qHK (F:Fun K "is_whole" "is_whole" qCR f fd) (m2:mg "isinstance" = none) (m4:mg "int" = none) (m5:mg "bool" = none):qv P w K mg base CX0 1 f fd ["value"] (qT K KR.qDj):=by
  k_dat (qHc,KR.qET,KR.qG5) "k"
theorem qHO:qR ["value", "bound"] ["value", "bound"] (qL qCU):=by k_dat 0 "c"
theorem qHI (F:Fun K "is_below" "is_below" qCU f fd) (dis_whole:qj P w K mg base "is_whole" 1 KR.qDj):qv P w K mg base CX0 2 f fd ["value", "bound"] (qT K KR.qBd):=by
  k_dat (qHO,KR.qD2,KR.qGq) "k"
theorem qEj:qR ["value", "many"] ["value", "many"] (qL qBN):=by k_dat 0 "c"
theorem qEU (F:Fun K "is_tuple_of" "is_tuple_of" qBN f fd) (m1:mg "tuple" = none) (m2:mg "isinstance" = none) (m3:mg "len" = none):qv P w K mg base CX0 1 f fd ["value", "many"] (qT K KR.qCm):=by
  k_dat (qEj,KR.qCD,KR.qDn) "k"
theorem qId:qR ["node"] ["node"] (qL qDH):=by k_dat 0 "c"
theorem qI0 (F:Fun K "is_node" "is_node" qDH f fd) (m1:mg "tuple" = none) (m2:mg "isinstance" = none) (m3:mg "len" = none) (kKCOUNTS:qCd w K mg "COUNTS" KR.cntK) (kVCOUNTS:qCQ w K mg "COUNTS" (RDt K) KR.qJ8):qv P w K mg base CX0 1 f fd ["node"] (qT K KR.qCW):=by
  k_dat (qId,KR.qEw,KR.qHa) "k"
theorem qKk:qR ["nodes", "number", "node"] ["nodes", "number"] (qL qDo):=by k_dat 0 "c"
theorem qJS (F:Fun K "num_of" "num_of" qDo f fd)  : qv P w K mg base CX0 1 f fd ["nodes", "number"] (qT K KR.qAD):=by
  k_dat (qKk,KR.qGt,KR.qIf) "k"
theorem qDW:qR ["nodes", "seen", "nums"] ["nodes", "seen"] (qL qA0):=by k_dat 0 "c"
theorem qDT (F:Fun K "worth_of_nums" "worth_of_nums" qA0 f fd) (dunder:qj P w K mg base "under" 1 K19.qB9) (dmade_of:qj P w K mg base "made_of" 2 K20.qDI) (dnum_of:qj P w K mg base "num_of" 1 KR.qAD):qv P w K mg base CX0 3 f fd ["nodes", "seen"] (qT K KR.qCx):=by
  have hint0:Hint [(0, "nodes")]:=⟨trivial⟩
  k_dat (qDW,KR.qAf,KR.qC9) "k"
theorem qM1:qR ["nodes", "seen", "n"] ["nodes", "seen", "n"] (qL qHQ):=by k_dat 0 "c"
theorem qMp (F:Fun K "swap" "swap" qHQ f fd)  : qv P w K mg base CX0 4 f fd ["nodes", "seen", "n"] (qT K (KR.spR .swap)):=by
  k_dat (qM1,KR.qHZ,KR.qMH) "k"
theorem qLS:qR ["nodes", "seen", "n", "v", "x"] ["nodes", "seen", "n"] (qL qFS):=by k_dat 0 "c"
theorem qLj (F:Fun K "group" "group" qFS f fd)  : qv P w K mg base CX0 4 f fd ["nodes", "seen", "n"] (qT K (KR.spR .group)):=by
  k_dat (qLS,KR.qH5,KR.qKv) "k"
theorem qIZ:qR ["nodes", "seen", "n", "v", "y"] ["nodes", "seen", "n"] (qL qDG):=by k_dat 0 "c"
theorem qIu (F:Fun K "ungroup" "ungroup" qDG f fd)  : qv P w K mg base CX0 4 f fd ["nodes", "seen", "n"] (qT K (KR.spR .ungroup)):=by
  k_dat (qIZ,KR.qE6,KR.qHA) "k"
theorem qJP:qR ["nodes", "seen", "n", "k"] ["nodes", "seen", "n"] (qL qD5):=by k_dat 0 "c"
theorem qJv (F:Fun K "subnum" "subnum" qD5 f fd) (dnum_of:qj P w K mg base "num_of" 1 KR.qAD):qv P w K mg base CX0 4 f fd ["nodes", "seen", "n"] (qT K (KR.spR .subnum)):=by
  k_dat (qJP,KR.qGs,KR.qIY) "k"
theorem qN0:qR ["nodes", "seen", "n"] ["nodes", "seen", "n"] (qL qHD):=by k_dat 0 "c"
theorem qOn (F:Fun K "zero" "zero" qHD f fd) (dnum_of:qj P w K mg base "num_of" 1 KR.qAD):qv P w K mg base CX0 4 f fd ["nodes", "seen", "n"] (qT K (KR.spR .zero)):=by
  k_dat (qN0,KR.qKE,KR.qLA) "k"
theorem qPi:qR ["nodes", "seen", "n"] ["nodes", "seen", "n"] (qL qKN):=by k_dat 0 "c"
theorem qQB (F:Fun K "one" "one" qKN f fd) (dnum_of:qj P w K mg base "num_of" 1 KR.qAD):qv P w K mg base CX0 4 f fd ["nodes", "seen", "n"] (qT K (KR.spR .one)):=by
  k_dat (qPi,KR.qMR,KR.qOh) "k"
theorem qPb:qR ["nodes", "seen", "n"] ["nodes", "seen", "n"] (qL qJ7):=by k_dat 0 "c"
theorem qQC (F:Fun K "nil" "nil" qJ7 f fd) (dnum_of:qj P w K mg base "num_of" 1 KR.qAD):qv P w K mg base CX0 4 f fd ["nodes", "seen", "n"] (qT K (KR.spR .nil)):=by
  k_dat (qPb,KR.qMK,KR.qOd) "k"
theorem qEk:qR ["nodes", "seen", "n"] ["nodes", "seen", "n"] (qL qBL):=by k_dat 0 "c"
theorem qEW (F:Fun K "less_itself" "less_itself" qBL f fd)  : qv P w K mg base CX0 4 f fd ["nodes", "seen", "n"] (qT K (KR.spR .self)):=by
  k_dat (qEk,KR.qCH,KR.qEK) "k"
theorem qLr:qR ["nodes", "seen", "n", "found"] ["nodes", "seen", "n"] (qL qF3):=by k_dat 0 "c"
theorem qK8 (F:Fun K "count" "count" qF3 f fd) (dworth_of_nums:qj P w K mg base "worth_of_nums" 3 KR.qCx):qv P w K mg base CX0 4 f fd ["nodes", "seen", "n"] (qT K (KR.spR .count)):=by
  k_dat (qLr,KR.qIC,KR.qJz) "k"
theorem qN3:qR ["nodes", "seen", "n", "found"] ["nodes", "seen", "n"] (qL qHd):=by k_dat 0 "c"
theorem qNB (F:Fun K "sure" "sure" qHd f fd) (dworth_of_nums:qj P w K mg base "worth_of_nums" 3 KR.qCx):qv P w K mg base CX0 4 f fd ["nodes", "seen", "n"] (qT K (KR.spR .sure)):=by
  k_dat (qN3,KR.qJb,KR.qLb) "k"
theorem qMG:qR ["nodes", "seen", "n", "word"] ["nodes", "seen", "n"] (qL qF9):=by k_dat 0 "c"
theorem qLt (F:Fun K "never" "never" qF9 f fd) (kKNEVER:qCd w K mg "NEVER" KR.qIv) (kVNEVER:qCQ w K mg "NEVER" (RDt K) KR.qJD) (dnum_of:qj P w K mg base "num_of" 1 KR.qAD):qv P w K mg base CX0 4 f fd ["nodes", "seen", "n"] (qT K (KR.spR .never)):=by
  k_dat (qMG,KR.qH2,KR.qJY) "k"
theorem qJB:qR ["nodes", "seen"] ["nodes", "seen"] (qL qC7):=by k_dat 0 "c"
theorem qJC (F:Fun K "is_seen" "is_seen" qC7 f fd) (m0:mg "all" = none) (m3:mg "len" = none) (dunder:qj P w K mg base "under" 1 K19.qB9) (dis_below:qj P w K mg base "is_below" 2 KR.qBd) (dis_node:qj P w K mg base "is_node" 1 KR.qCW):qv P w K mg base CX0 3 f fd ["nodes", "seen"] (qT K KR.qCl):=by
  have hint0:Hint [(0, "nodes")]:=⟨trivial⟩
  k_dat (qJB,KR.qFF,KR.qG9) "k"
theorem qKx:qR ["nodes", "seen", "step", "rule", "found"] ["nodes", "seen", "step"] (qL qDr):=by k_dat 0 "c"
theorem qKh (F:Fun K "turned" "turned" qDr f fd) (m3:mg "len" = none) (kKRULES:qCd w K mg "RULES" KR.keys) (kFRULES:qK6 P w K mg base "RULES" KR.keys 4 KR.qFi) (rN:qII K mg "NoTurning") (dis_below:qj P w K mg base "is_below" 2 KR.qBd) (dis_tuple_of:qj P w K mg base "is_tuple_of" 1 KR.qCm) (dis_seen:qj P w K mg base "is_seen" 3 KR.qCl):qv P w K mg base (CXE P w) 5 f fd ["nodes", "seen", "step"] (qDg K KR.qCV):=by
  k_dat (qKx,KR.qGU,KR.qI4) "kr"
theorem qG6:qR ["deck", "cells", "at", "mixed"] ["deck"] (qL qBz):=by k_dat 0 "c"
theorem qGa (F:Fun K "_law_next" "_law_next" qBz f fd) (m3:mg "len" = none):qv P w K mg base CX0 1 f fd ["deck"] (qT K K31.qAP):=by
  k_dat (qG6,K31.qDS,K31.qFt) "k"
theorem qFZ:qR ["word", "x", "y"] ["word", "x", "y"] (qL qBY):=by k_dat 0 "c"
theorem qFh (F:Fun K "_law_truth" "_law_truth" qBY f fd) (m4:mg "int" = none):qv P w K mg base CX0 1 f fd ["word", "x", "y"] (qT K K31.qCi):=by
  k_dat (qFZ,K31.qBi,K31.qEb) "k"
theorem qD0:qR ["word", "x", "y"] ["word", "x", "y"] (qL qA8):=by k_dat 0 "c"
theorem qER (F:Fun K "_law_made_of" "_law_made_of" qA8 f fd) (d_law_truth:qj P w K mg base "_law_truth" 1 K31.qCi):qv P w K mg base CX0 2 f fd ["word", "x", "y"] (qT K K31.qBP):=by
  k_dat (qD0,K31.qA6,K31.qDV) "k"
theorem qFV:qR ["node", "known", "boxes", "marks", "brought"] ["node", "known", "boxes", "marks", "brought"] (qL qBh):=by k_dat 0 "c"
theorem qF1 (F:Fun K "_law_worth" "_law_worth" qBh f fd) (d_law_made_of:qj P w K mg base "_law_made_of" 2 K31.qBP):qv P w K mg base CX0 3 f fd ["node", "known", "boxes", "marks", "brought"] (qT K K31.qBZ):=by
  k_dat (qFV,K31.qBb,K31.qEg) "k"
theorem qEm:qR ["nodes", "boxes", "marks", "brought", "known", "node"] ["nodes", "boxes", "marks", "brought"] (qL qBJ):=by k_dat 0 "c"
theorem qEd (F:Fun K "_law_worths" "_law_worths" qBJ f fd) (d_law_worth:qj P w K mg base "_law_worth" 3 K31.qBZ):qv P w K mg base CX0 4 f fd ["nodes", "boxes", "marks", "brought"] (qT K K31.qCa):=by
  k_dat (qEm,K31.qCF,K31.qEE) "k"
theorem qDD:qR ["deck", "nodes", "items", "cell", "more", "numbers", "word", "x", "y"] ["deck", "nodes", "items"] (qL qAs):=by k_dat 0 "c"
theorem qCy (F:Fun K "_law_some_node" "_law_some_node" qAs f fd) (m3:mg "len" = none) (m4:mg "int" = none) (m6:mg "range" = none) (d_law_next:qj P w K mg base "_law_next" 1 K31.qAP):qv P w K mg base CX0 2 f fd ["deck", "nodes", "items"] (qT K K31.qD8):=by
  have hint0:Hint [(1, "nodes")]:=⟨trivial⟩
  k_dat (qDD,K31.qBR,K31.qCp) "k"
theorem qGo:qR ["deck", "nodes", "found", "node", "word", "x", "y"] ["deck", "nodes"] (qL qBy):=by k_dat 0 "c"
theorem qGR (F:Fun K "_law_full" "_law_full" qBy f fd) (m1:mg "tuple" = none) (m3:mg "len" = none) (m7:mg "list" = none) (d_law_next:qj P w K mg base "_law_next" 1 K31.qAP):qv P w K mg base CX0 2 f fd ["deck", "nodes"] (qT K K31.qFw):=by
  k_dat (qGo,K31.qDO,K31.qFR) "k"
theorem qGL:qR ["deck", "nodes", "seen", "cell", "rules", "rule", "n", "due"] ["deck", "nodes", "seen"] (qL qB1):=by k_dat 0 "c"
theorem qGz (F:Fun K "_law_step" "_law_step" qB1 f fd) (m3:mg "len" = none) (d_law_next:qj P w K mg base "_law_next" 1 K31.qAP):qv P w K mg base CX0 2 f fd ["deck", "nodes", "seen"] (qT K K31.qFX):=by
  k_dat (qGL,K31.qDN,K31.qGF) "k"
theorem qEl:qR ["nodes", "seen", "step", "found"] ["nodes", "seen", "step"] (qL qBF):=by k_dat 0 "c"
theorem qEa (F:Fun K "_law_turned" "_law_turned" qBF f fd) (cN:qIU K mg "NoTurning" ["NoTurning"]) (dturned:qHU P w K mg base "turned" 5 KR.qCV):qv P w K mg base CX0 6 f fd ["nodes", "seen", "step"] (qT K K31.qB7):=by
  k_dat (qEl,K31.qCL,K31.qDu) "k"
theorem qFT:qR ["deck", "found", "k", "ends", "boxes", "marks", "brought"] ["deck"] (qL qBe):=by k_dat 0 "c"
theorem qGC (F:Fun K "_law_times" "_law_times" qBe f fd) (m6:mg "range" = none) (d_law_next:qj P w K mg base "_law_next" 1 K31.qAP):qv P w K mg base CX0 2 f fd ["deck"] (qT K K31.qDk):=by
  have hint0:Hint [(0, "deck"),(3, "ends"),(2, "k")]:=⟨trivial⟩
  have hint1:Hint [(0, "deck")]:=⟨trivial⟩
  k_dat (qFT,K31.qCc,K31.qEZ) "k"
theorem qF5:qR ["nodes", "seen", "other", "tables", "times", "k", "boxes", "marks", "brought", "worth", "found"] ["nodes", "seen", "other", "tables", "times"] (qL qBl):=by k_dat 0 "c"
theorem qFr (F:Fun K "_law_alike" "_law_alike" qBl f fd) (m2:mg "isinstance" = none) (m3:mg "len" = none) (m4:mg "int" = none) (m5:mg "bool" = none) (m6:mg "range" = none) (d_law_worth:qj P w K mg base "_law_worth" 3 K31.qBZ):qv P w K mg base CX0 4 f fd ["nodes", "seen", "other", "tables", "times"] (qT K K31.qCA):=by
  k_dat (qF5,K31.qCe,K31.qEh) "k"
theorem qPE:qR ["script", "deck", "nodes", "k", "times", "tables", "cell", "seen", "turn", "other"] ["script"] (qL qEs):=by k_dat 0 "c"
theorem qPc (F:Fun K "law" "law" qEs f fd) (m1:mg "tuple" = none) (m2:mg "isinstance" = none) (m3:mg "len" = none) (m6:mg "range" = none) (d_law_next:qj P w K mg base "_law_next" 1 K31.qAP) (d_law_worths:qj P w K mg base "_law_worths" 4 K31.qCa) (d_law_some_node:qj P w K mg base "_law_some_node" 2 K31.qD8) (d_law_full:qj P w K mg base "_law_full" 2 K31.qFw) (d_law_step:qj P w K mg base "_law_step" 2 K31.qFX) (d_law_turned:qj P w K mg base "_law_turned" 6 K31.qB7) (d_law_times:qj P w K mg base "_law_times" 2 K31.qDk) (d_law_alike:qj P w K mg base "_law_alike" 4 K31.qCA):qv P w K mg base CX0 20 f fd ["script"] (qT K qGZ):=by
  have hint0:Hint [(2, "nodes")]:=⟨trivial⟩
  k_dat (qPE,qMi,qNE) "k"
end
@[elab_as_elim] theorem len1 {C:List Value→Prop} (us:List Value) (hl:us.length=1) (h:∀ a0,C [a0]):C us:=by
  match us,hl with
  | [a0],_=>exact h _
@[elab_as_elim] theorem len2 {C:List Value→Prop} (us:List Value) (hl:us.length=2) (h:∀ a0 a1,C [a0,a1]):C us:=by
  match us,hl with
  | [a0,a1],_=>exact h _ _
@[elab_as_elim] theorem len3 {C:List Value→Prop} (us:List Value) (hl:us.length=3) (h:∀ a0 a1 a2,C [a0,a1,a2]):C us:=by
  match us,hl with
  | [a0,a1,a2],_=>exact h _ _ _
@[elab_as_elim] theorem len4 {C:List Value→Prop} (us:List Value) (hl:us.length=4) (h:∀ a0 a1 a2 a3,C [a0,a1,a2,a3]):C us:=by
  match us,hl with
  | [a0,a1,a2,a3],_=>exact h _ _ _ _
@[elab_as_elim] theorem len5 {C:List Value→Prop} (us:List Value) (hl:us.length=5) (h:∀ a0 a1 a2 a3 a4,C [a0,a1,a2,a3,a4]):C us:=by
  match us,hl with
  | [a0,a1,a2,a3,a4],_=>exact h _ _ _ _ _
@[elab_as_elim] theorem len6 {C:List Value→Prop} (us:List Value) (hl:us.length=6) (h:∀ a0 a1 a2 a3 a4 a5,C [a0,a1,a2,a3,a4,a5]):C us:=by
  match us,hl with
  | [a0,a1,a2,a3,a4,a5],_=>exact h _ _ _ _ _ _
@[elab_as_elim] theorem len7 {C:List Value→Prop} (us:List Value) (hl:us.length=7) (h:∀ a0 a1 a2 a3 a4 a5 a6,C [a0,a1,a2,a3,a4,a5,a6]):C us:=by
  match us,hl with
  | [a0,a1,a2,a3,a4,a5,a6],_=>exact h _ _ _ _ _ _ _
@[elab_as_elim] theorem len8 {C:List Value→Prop} (us:List Value) (hl:us.length=8) (h:∀ a0 a1 a2 a3 a4 a5 a6 a7,C [a0,a1,a2,a3,a4,a5,a6,a7]):C us:=by
  match us,hl with
  | [a0,a1,a2,a3,a4,a5,a6,a7],_=>exact h _ _ _ _ _ _ _ _
@[elab_as_elim] theorem len9 {C:List Value→Prop} (us:List Value) (hl:us.length=9) (h:∀ a0 a1 a2 a3 a4 a5 a6 a7 a8,C [a0,a1,a2,a3,a4,a5,a6,a7,a8]):C us:=by
  match us,hl with
  | [a0,a1,a2,a3,a4,a5,a6,a7,a8],_=>exact h _ _ _ _ _ _ _ _ _
theorem all_mk {l:W.OpenLaw} {w:World} {K:W.Frag} {h:Heap} {mg:Str→Option Value} {fa:Addr} (X:K.In h) (G:h.Ns mainGlobals mg) (hfa:mg "law" = some (.ref fa))
    (h0:qe K "plain_outcome" qAy)
    (h1:qe K "under" qFz)
    (h2:qe K "made_of" qDC)
    (h3:qe K "is_whole" qCR)
    (h4:qe K "is_below" qCU)
    (h5:qe K "is_tuple_of" qBN)
    (h6:qe K "is_node" qDH)
    (h7:qe K "num_of" qDo)
    (h8:qe K "worth_of_nums" qA0)
    (h9:qe K "swap" qHQ)
    (h10:qe K "group" qFS)
    (h11:qe K "ungroup" qDG)
    (h12:qe K "subnum" qD5)
    (h13:qe K "zero" qHD)
    (h14:qe K "one" qKN)
    (h15:qe K "nil" qJ7)
    (h16:qe K "less_itself" qBL)
    (h17:qe K "count" qF3)
    (h18:qe K "sure" qHd)
    (h19:qe K "never" qF9)
    (h20:qe K "is_seen" qC7)
    (h21:qe K "turned" qDr)
    (h22:qe K "_law_next" qBz)
    (h23:qe K "_law_truth" qBY)
    (h24:qe K "_law_made_of" qA8)
    (h25:qe K "_law_worth" qBh)
    (h26:qe K "_law_worths" qBJ)
    (h27:qe K "_law_some_node" qAs)
    (h28:qe K "_law_full" qBy)
    (h29:qe K "_law_step" qB1)
    (h30:qe K "_law_turned" qBF)
    (h31:qe K "_law_times" qBe)
    (h32:qe K "_law_alike" qBl)
    (h33:qe K "law" qEs)
    {aT0:Addr} {iT0:Array Value} {nT0:Nat} {sT0:Array (Option Value)} (b0:W.nsIn K mainGlobals "NAMING" = some (some (.ref aT0))) (e0:K.lookup aT0=some ⟨.type "tuple",none,.seq iT0 nT0,sT0⟩) (v0:qBB iT0.toList K19.qEV=true) (w0:iT0.size≤sizeLine)
    {aVCOUNTS:Addr} {esVCOUNTS:Array DictEntry} {nVCOUNTS:Nat} (bVCOUNTS:W.nsIn K mainGlobals "COUNTS" = some (some (.ref aVCOUNTS))) (eVCOUNTS:K.lookup aVCOUNTS=some ⟨.type "dict",none,.dict esVCOUNTS nVCOUNTS,#[]⟩) (yVCOUNTS:(aVCOUNTS==sysModules)=false) (uVCOUNTS:qAj (RDt K) w.params esVCOUNTS.toList KR.qJ8)
    {aVNEVER:Addr} {esVNEVER:Array DictEntry} {nVNEVER:Nat} (bVNEVER:W.nsIn K mainGlobals "NEVER" = some (some (.ref aVNEVER))) (eVNEVER:K.lookup aVNEVER=some ⟨.type "dict",none,.dict esVNEVER nVNEVER,#[]⟩) (yVNEVER:(aVNEVER==sysModules)=false) (uVNEVER:qAj (RDt K) w.params esVNEVER.toList KR.qJD)
    {aFRULES:Addr} {esFRULES:Array DictEntry} {nFRULES:Nat} (bFRULES:W.nsIn K mainGlobals "RULES" = some (some (.ref aFRULES))) (eFRULES:K.lookup aFRULES=some ⟨.type "dict",none,.dict esFRULES nFRULES,#[]⟩) (yFRULES:(aFRULES==sysModules)=false) (uFRULES:qAj (fun (n:Str) u=>W.nsIn K mainGlobals n=some (some u)) w.params esFRULES.toList [("swap", "swap"),("group", "group"),("ungroup", "ungroup"),("subnum", "subnum"),("zero", "zero"),("one", "one"),("nil", "nil"),("self", "less_itself"),("count", "count"),("sure", "sure"),("never", "never")])
    {CE:Addr} (xa:W.nsIn K mainGlobals "NoTurning" = some (some (.ref CE))) (xe:W.excIn K CE [.type "ValueError",.type "Exception",.type "BaseException",.type "object"] "ValueError.__new__" = true) {ocE:Value} {odE:Option Addr} {cdE:ClassData} {slE:Array (Option Value)} (xl:K.lookup CE=some ⟨ocE,odE,.cls cdE,slE⟩) (xm:cdE.mro.contains (.ref CE)=true)
    (z0:W.nsIn K mainGlobals "all" = some none)
    (z1:W.nsIn K mainGlobals "tuple" = some none)
    (z2:W.nsIn K mainGlobals "isinstance" = some none)
    (z3:W.nsIn K mainGlobals "len" = some none)
    (z4:W.nsIn K mainGlobals "int" = some none)
    (z5:W.nsIn K mainGlobals "bool" = some none)
    (z6:W.nsIn K mainGlobals "range" = some none)
    (z7:W.nsIn K mainGlobals "list" = some none)
    : ∃ fd:FuncData,(∀ (s:Shared) (v:Value),BindsTo s fd ⟨[v],[]⟩ [("script",v)])∧∀ base:Heap,K.In base→base.Ns mainGlobals mg→qv l.prog w K mg base CX0 20 fa fd ["script"] (qT K qGZ):=by
  obtain⟨f9,fd9,a9,F9⟩:=h33.ex
  have e:=hfa.symm.trans (W.mg_of X G a9)
  cases e
  have gT0:=qJL (mg:=mg) (x:= "NAMING") (W.mg_of X G b0) e0 v0 w0
  have m0:=W.mg_none_of X G z0
  have m1:=W.mg_none_of X G z1
  have m2:=W.mg_none_of X G z2
  have m3:=W.mg_none_of X G z3
  have m4:=W.mg_none_of X G z4
  have m5:=W.mg_none_of X G z5
  have m6:=W.mg_none_of X G z6
  have m7:=W.mg_none_of X G z7
  have kVCOUNTS:qCQ w K mg "COUNTS" (RDt K) KR.qJ8:=⟨_,_,_,W.mg_of X G bVCOUNTS,eVCOUNTS,yVCOUNTS,uVCOUNTS⟩
  have kKCOUNTS:qCd w K mg "COUNTS" KR.cntK:=kVCOUNTS.keyOk
  have kVNEVER:qCQ w K mg "NEVER" (RDt K) KR.qJD:=⟨_,_,_,W.mg_of X G bVNEVER,eVNEVER,yVNEVER,uVNEVER⟩
  have kKNEVER:qCd w K mg "NEVER" KR.qIv:=kVNEVER.keyOk
  have kRRULES:qCQ w K mg "RULES" (fun (n:Str) u=>mg n=some u) [("swap", "swap"),("group", "group"),("ungroup", "ungroup"),("subnum", "subnum"),("zero", "zero"),("one", "one"),("nil", "nil"),("self", "less_itself"),("count", "count"),("sure", "sure"),("never", "never")]:=⟨_,_,_,W.mg_of X G bFRULES,eFRULES,yFRULES,uFRULES.imp fun _ _ h=>W.mg_of X G h⟩
  have kKRULES:qCd w K mg "RULES" KR.keys:=kRRULES.keyOk
  have rN:qII K mg "NoTurning":=qMt X G xa xe
  have cN:qIU K mg "NoTurning" ["NoTurning"]:=qNu X G xa xe (qM0 xl xm)
  have F9':=F9
  obtain⟨oc,od,kV,dc,pm,an,cd,ct,sl,rfl,-,-⟩:=F9'.ex
  refine⟨W.fnOf "law" "law" (qAZ qEs) (qAJ qEs) (qL qEs) .none kV dc pm an cd ct,fun s v=>.of_eq rfl,fun base _ _=>?_⟩
  have Dplain_outcome:=h0.ok (P:=l.prog) (w:=w) (base:=base) X G (fun F=>qDY F ) (L3.b3 rfl fun _ _ _ _ _ _ _ _ _=>rfl)
  have Dunder:=h1.ok (P:=l.prog) (w:=w) (base:=base) X G (fun F=>qL0 F gT0) (L3.b1 rfl fun _ _ _ _ _ _ _=>rfl)
  have Dmade_of:=h2.ok (P:=l.prog) (w:=w) (base:=base) X G (fun F=>qIt F Dplain_outcome) (L3.b2 rfl fun _ _ _ _ _ _ _ _=>rfl)
  have Dis_whole:=h3.ok (P:=l.prog) (w:=w) (base:=base) X G (fun F=>qHK F m2 m4 m5) (L3.b1 rfl fun _ _ _ _ _ _ _=>rfl)
  have Dis_below:=h4.ok (P:=l.prog) (w:=w) (base:=base) X G (fun F=>qHI F Dis_whole) (L3.b2 rfl fun _ _ _ _ _ _ _ _=>rfl)
  have Dis_tuple_of:=h5.ok (P:=l.prog) (w:=w) (base:=base) X G (fun F=>qEU F m1 m2 m3) (L3.b2 rfl fun _ _ _ _ _ _ _ _=>rfl)
  have Dis_node:=h6.ok (P:=l.prog) (w:=w) (base:=base) X G (fun F=>qI0 F m1 m2 m3 kKCOUNTS kVCOUNTS) (L3.b1 rfl fun _ _ _ _ _ _ _=>rfl)
  have Dnum_of:=h7.ok (P:=l.prog) (w:=w) (base:=base) X G (fun F=>qJS F ) (L3.b2 rfl fun _ _ _ _ _ _ _ _=>rfl)
  have Dworth_of_nums:=h8.ok (P:=l.prog) (w:=w) (base:=base) X G (fun F=>qDT F Dunder Dmade_of Dnum_of) (L3.b2 rfl fun _ _ _ _ _ _ _ _=>rfl)
  have Dswap:=h9.ok (P:=l.prog) (w:=w) (base:=base) X G (fun F=>qMp F ) (L3.b3 rfl fun _ _ _ _ _ _ _ _ _=>rfl)
  have Dgroup:=h10.ok (P:=l.prog) (w:=w) (base:=base) X G (fun F=>qLj F ) (L3.b3 rfl fun _ _ _ _ _ _ _ _ _=>rfl)
  have Dungroup:=h11.ok (P:=l.prog) (w:=w) (base:=base) X G (fun F=>qIu F ) (L3.b3 rfl fun _ _ _ _ _ _ _ _ _=>rfl)
  have Dsubnum:=h12.ok (P:=l.prog) (w:=w) (base:=base) X G (fun F=>qJv F Dnum_of) (L3.b3 rfl fun _ _ _ _ _ _ _ _ _=>rfl)
  have Dzero:=h13.ok (P:=l.prog) (w:=w) (base:=base) X G (fun F=>qOn F Dnum_of) (L3.b3 rfl fun _ _ _ _ _ _ _ _ _=>rfl)
  have Done:=h14.ok (P:=l.prog) (w:=w) (base:=base) X G (fun F=>qQB F Dnum_of) (L3.b3 rfl fun _ _ _ _ _ _ _ _ _=>rfl)
  have Dnil:=h15.ok (P:=l.prog) (w:=w) (base:=base) X G (fun F=>qQC F Dnum_of) (L3.b3 rfl fun _ _ _ _ _ _ _ _ _=>rfl)
  have Dless_itself:=h16.ok (P:=l.prog) (w:=w) (base:=base) X G (fun F=>qEW F ) (L3.b3 rfl fun _ _ _ _ _ _ _ _ _=>rfl)
  have Dcount:=h17.ok (P:=l.prog) (w:=w) (base:=base) X G (fun F=>qK8 F Dworth_of_nums) (L3.b3 rfl fun _ _ _ _ _ _ _ _ _=>rfl)
  have Dsure:=h18.ok (P:=l.prog) (w:=w) (base:=base) X G (fun F=>qNB F Dworth_of_nums) (L3.b3 rfl fun _ _ _ _ _ _ _ _ _=>rfl)
  have Dnever:=h19.ok (P:=l.prog) (w:=w) (base:=base) X G (fun F=>qLt F kKNEVER kVNEVER Dnum_of) (L3.b3 rfl fun _ _ _ _ _ _ _ _ _=>rfl)
  have Dis_seen:=h20.ok (P:=l.prog) (w:=w) (base:=base) X G (fun F=>qJC F m0 m3 Dunder Dis_below Dis_node) (L3.b2 rfl fun _ _ _ _ _ _ _ _=>rfl)
  have kFRULES:qK6 l.prog w K mg base "RULES" KR.keys 4 KR.qFi:=kRRULES.toF fun p hp=>by
    simp only [List.mem_cons,List.not_mem_nil,or_false] at hp
    rcases hp with rfl | rfl | rfl | rfl | rfl | rfl | rfl | rfl | rfl | rfl | rfl
    · exact (Dswap.imp fun ds st Q h=>KR.qAl (r:=.swap) h)
    · exact (Dgroup.imp fun ds st Q h=>KR.qAl (r:=.group) h)
    · exact (Dungroup.imp fun ds st Q h=>KR.qAl (r:=.ungroup) h)
    · exact (Dsubnum.imp fun ds st Q h=>KR.qAl (r:=.subnum) h)
    · exact (Dzero.imp fun ds st Q h=>KR.qAl (r:=.zero) h)
    · exact (Done.imp fun ds st Q h=>KR.qAl (r:=.one) h)
    · exact (Dnil.imp fun ds st Q h=>KR.qAl (r:=.nil) h)
    · exact (Dless_itself.imp fun ds st Q h=>KR.qAl (r:=.self) h)
    · exact (Dcount.imp fun ds st Q h=>KR.qAl (r:=.count) h)
    · exact (Dsure.imp fun ds st Q h=>KR.qAl (r:=.sure) h)
    · exact (Dnever.imp fun ds st Q h=>KR.qAl (r:=.never) h)
  have Dturned:=h21.okR (P:=l.prog) (w:=w) (base:=base) X G (fun F=>qKh F m3 kKRULES kFRULES rN Dis_below Dis_tuple_of Dis_seen) (L3.b3 rfl fun _ _ _ _ _ _ _ _ _=>rfl)
  have D_law_next:=h22.ok (P:=l.prog) (w:=w) (base:=base) X G (fun F=>qGa F m3) (L3.b1 rfl fun _ _ _ _ _ _ _=>rfl)
  have D_law_truth:=h23.ok (P:=l.prog) (w:=w) (base:=base) X G (fun F=>qFh F m4) (L3.b3 rfl fun _ _ _ _ _ _ _ _ _=>rfl)
  have D_law_made_of:=h24.ok (P:=l.prog) (w:=w) (base:=base) X G (fun F=>qER F D_law_truth) (L3.b3 rfl fun _ _ _ _ _ _ _ _ _=>rfl)
  have D_law_worth:=h25.ok (P:=l.prog) (w:=w) (base:=base) X G (fun F=>qF1 F D_law_made_of) (L3.b5 rfl fun _ _ _ _ _ _ _ _ _ _ _=>rfl)
  have D_law_worths:=h26.ok (P:=l.prog) (w:=w) (base:=base) X G (fun F=>qEd F D_law_worth) (L3.b4 rfl fun _ _ _ _ _ _ _ _ _ _=>rfl)
  have D_law_some_node:=h27.ok (P:=l.prog) (w:=w) (base:=base) X G (fun F=>qCy F m3 m4 m6 D_law_next) (L3.b3 rfl fun _ _ _ _ _ _ _ _ _=>rfl)
  have D_law_full:=h28.ok (P:=l.prog) (w:=w) (base:=base) X G (fun F=>qGR F m1 m3 m7 D_law_next) (L3.b2 rfl fun _ _ _ _ _ _ _ _=>rfl)
  have D_law_step:=h29.ok (P:=l.prog) (w:=w) (base:=base) X G (fun F=>qGz F m3 D_law_next) (L3.b3 rfl fun _ _ _ _ _ _ _ _ _=>rfl)
  have D_law_turned:=h30.ok (P:=l.prog) (w:=w) (base:=base) X G (fun F=>qEa F cN Dturned) (L3.b3 rfl fun _ _ _ _ _ _ _ _ _=>rfl)
  have D_law_times:=h31.ok (P:=l.prog) (w:=w) (base:=base) X G (fun F=>qGC F m6 D_law_next) (L3.b1 rfl fun _ _ _ _ _ _ _=>rfl)
  have D_law_alike:=h32.ok (P:=l.prog) (w:=w) (base:=base) X G (fun F=>qFr F m2 m3 m4 m5 m6 D_law_worth) (L3.b5 rfl fun _ _ _ _ _ _ _ _ _ _ _=>rfl)
  exact qPc F9 m1 m2 m3 m6 D_law_next D_law_worths D_law_some_node D_law_full D_law_step D_law_turned D_law_times D_law_alike
end K31
local macro_rules | `(tactic| k_dat 0 "h")=>`(tactic| (refine' L3.qe.of ?a ?l ?c ?k;(case a=>k_is);(case l=>k_is);(case c=>k_is);(case k=>k_is)))
local macro_rules | `(tactic| k_dat 0 "i")=>`(tactic| (refine' L3.qJt.of ?a ?i ?l ?c ?k;(case a=>k_is);(case i=>k_is);(case l=>k_is);(case c=>k_is);(case k=>k_is)))
def PySem.W.Fast.tw8597460144101373867 : Nat := 0
def PySem.W.Fast.tw7153638197374772906 : Nat := 0
def PySem.W.Fast.tw11731606291164192363 : Nat := 0
def PySem.W.Fast.tw1774936141446399743 : Nat := 0
def PySem.W.Fast.tw11268088308532148991 : Nat := 0
def PySem.W.Fast.tw3928568189124776478 : Nat := 0
def PySem.W.Fast.tw11415734437368538363 : Nat := 0
def PySem.W.Fast.tw9650869938940776734 : Nat := 0
def PySem.W.Fast.tw6812206762426109847 : Nat := 0
def PySem.W.Fast.tw14526688451848318832 : Nat := 0
def PySem.W.Fast.tw11376889236499578539 : Nat := 0
def PySem.W.Fast.tw8051289541964703939 : Nat := 0
def PySem.W.Fast.tw3869700019233042853 : Nat := 0
def PySem.W.Fast.tw9124843662554321181 : Nat := 0
def PySem.W.Fast.tw6861959464213152428 : Nat := 0
def PySem.W.Fast.tw6106747137691721698 : Nat := 0
def PySem.W.Fast.tw5560645438301832435 : Nat := 0
def PySem.W.Fast.tw10949780222664786453 : Nat := 0
def PySem.W.Fast.tw13256297355845018025 : Nat := 0
def PySem.W.Fast.tw7608007253789688517 : Nat := 0
def PySem.W.Fast.tw4390948995438751066 : Nat := 0
def PySem.W.Fast.tw4969512412088692782 : Nat := 0
def PySem.W.Fast.tw433470208613926667 : Nat := 0
def PySem.W.Fast.tw16853922674167517342 : Nat := 0
def PySem.W.Fast.tw2440899513512524303 : Nat := 0
def PySem.W.Fast.tw606780684240002667 : Nat := 0
def PySem.W.Fast.tw1466737878506183144 : Nat := 0
def PySem.W.Fast.tw13907103752661709890 : Nat := 0
def PySem.W.Fast.tw9448320475153491580 : Nat := 0
def PySem.W.Fast.tw15146675510896426279 : Nat := 0
def PySem.W.Fast.tw4641569511521292516 : Nat := 0
def PySem.W.Fast.tw15752009088548866063 : Nat := 0
def PySem.W.Fast.tw10761685069021214470 : Nat := 0
def PySem.W.Fast.tw6397430638106509001 : Nat := 0
def PySem.W.Fast.tw6325798909452064050 : Nat := 0
def PySem.W.Fast.tw13649897087245219210 : Nat := 0
def PySem.W.Fast.tw3645707223351382189 : Nat := 0
def PySem.W.Fast.tw14095697278534365238 : Nat := 0
def PySem.W.Fast.tw10854080592690952077 : Nat := 0
def PySem.W.Fast.tw3215926077501572115 : Nat := 0
def PySem.W.Fast.tw4144310674811833075 : Nat := 0
def PySem.W.Fast.tw11417643322745895946 : Nat := 0
def PySem.W.Fast.tw16211656475267397808 : Nat := 0
def PySem.W.Fast.tw9213590151307786601 : Nat := 0
def PySem.W.Fast.tw17382722335716817612 : Nat := 0
def PySem.W.Fast.tw1093229739730204537 : Nat := 0
def PySem.W.Fast.tw10443939812978665176 : Nat := 0
def PySem.W.Fast.tw253264040460446282 : Nat := 0
def PySem.W.Fast.tw3972940817978535939 : Nat := 0
def PySem.W.Fast.tw6215885385556354440 : Nat := 0
def PySem.W.Fast.tw1868966142123252160 : Nat := 0
def PySem.W.Fast.tw5286308482817394791 : Nat := 0
def PySem.W.Fast.tw17460880305319433789 : Nat := 0
def PySem.W.Fast.tw8179309497654635135 : Nat := 0
def PySem.W.Fast.tw15521664016246118131 : Nat := 0
def PySem.W.Fast.tw15390160241360360980 : Nat := 0
def PySem.W.Fast.tw1525268141412393275 : Nat := 0
def PySem.W.Fast.tw14095431388795165169 : Nat := 0
def PySem.W.Fast.tw7524006049285929006 : Nat := 0
def PySem.W.Fast.tw11217667686993721288 : Nat := 0
def PySem.W.Fast.tw997209076859825888 : Nat := 0
def PySem.W.Fast.tw7990356750097128845 : Nat := 0
def PySem.W.Fast.tw18316979645329325937 : Nat := 0
def PySem.W.Fast.tw4682252775603909114 : Nat := 0
def PySem.W.Fast.tw1498622932748732330 : Nat := 0
def PySem.W.Fast.tw9605775103769578746 : Nat := 0
def PySem.W.Fast.tw5189594509940272121 : Nat := 0
def PySem.W.Fast.tw17988815439198325696 : Nat := 0
def PySem.W.Fast.tw14530729130801666970 : Nat := 0
def PySem.W.Fast.tw1024713883115321621 : Nat := 0
def PySem.W.Fast.tw1045681193954750987 : Nat := 0
def PySem.W.Fast.tw11409395347741962271 : Nat := 0
def PySem.W.Fast.tw16256300675920300357 : Nat := 0
def PySem.W.Fast.tw9641679156976232817 : Nat := 0
def PySem.W.Fast.tw11759316135472898021 : Nat := 0
def PySem.W.Fast.tw13993697007750782636 : Nat := 0
def PySem.W.Fast.tw15264901962317412650 : Nat := 0
def PySem.W.Fast.tw13495016582099639166 : Nat := 0
def PySem.W.Fast.tw1175621031552545295 : Nat := 0
def PySem.W.Fast.tw4596604355263189220 : Nat := 0
open PySem PySem.W PyProof.Rows
set_option maxRecDepth 100000 in
set_option maxHeartbeats 0 in
theorem PySem.Challenge.cw_asitruns_k31_whole_turnings_keep_holds : PySem.Challenge.rw_asitruns_k31_whole_turnings_keep.Holds := by
  w_on;o_law;k_head;(case hw=>w_witness2)
  k_fill
  refine L3.qKY (l:=PySem.Challenge.rw_asitruns_k31_whole_turnings_keep) 20 rfl rfl ⟨rfl,by decide,by decide⟩ (fun w h Y=>W.kIn_of Y) ?F
  case F =>
    intro w mg fa h KX G hmg
    refine' K31.all_mk KX G hmg ?h0 ?h1 ?h2 ?h3 ?h4 ?h5 ?h6 ?h7 ?h8 ?h9 ?h10 ?h11 ?h12 ?h13 ?h14 ?h15 ?h16 ?h17 ?h18 ?h19 ?h20 ?h21 ?h22 ?h23 ?h24 ?h25 ?h26 ?h27 ?h28 ?h29 ?h30 ?h31 ?h32 ?h33 ?b0 ?e0 ?v0 ?w0 ?bVCOUNTS ?eVCOUNTS ?yVCOUNTS ?uVCOUNTS ?bVNEVER ?eVNEVER ?yVNEVER ?uVNEVER ?bFRULES ?eFRULES ?yFRULES ?uFRULES ?xa ?xe ?xl ?xm ?z0 ?z1 ?z2 ?z3 ?z4 ?z5 ?z6 ?z7
    (case h0=>k_dat 0 "h")
    (case h1=>k_dat 0 "h")
    (case h2=>k_dat 0 "h")
    (case h3=>k_dat 0 "h")
    (case h4=>k_dat 0 "h")
    (case h5=>k_dat 0 "h")
    (case h6=>k_dat 0 "h")
    (case h7=>k_dat 0 "h")
    (case h8=>k_dat 0 "h")
    (case h9=>k_dat 0 "h")
    (case h10=>k_dat 0 "h")
    (case h11=>k_dat 0 "h")
    (case h12=>k_dat 0 "h")
    (case h13=>k_dat 0 "h")
    (case h14=>k_dat 0 "h")
    (case h15=>k_dat 0 "h")
    (case h16=>k_dat 0 "h")
    (case h17=>k_dat 0 "h")
    (case h18=>k_dat 0 "h")
    (case h19=>k_dat 0 "h")
    (case h20=>k_dat 0 "h")
    (case h21=>k_dat 0 "h")
    (case h22=>k_dat 0 "h")
    (case h23=>k_dat 0 "h")
    (case h24=>k_dat 0 "h")
    (case h25=>k_dat 0 "h")
    (case h26=>k_dat 0 "h")
    (case h27=>k_dat 0 "h")
    (case h28=>k_dat 0 "h")
    (case h29=>k_dat 0 "h")
    (case h30=>k_dat 0 "h")
    (case h31=>k_dat 0 "h")
    (case h32=>k_dat 0 "h")
    (case h33=>k_dat 0 "h")
    (case b0=>k_is)
    (case e0=>k_is)
    (case v0=>rfl)
    (case w0=>decide)
    (case bVCOUNTS=>k_is)
    (case eVCOUNTS=>k_is)
    (case yVCOUNTS=>decide)
    (case uVCOUNTS=>exact⟨⟨_,rfl,L3.qAQ,rfl⟩,⟨_,rfl,L3.qAQ,rfl⟩,⟨_,rfl,L3.qAQ,rfl⟩,⟨_,rfl,L3.qAQ,rfl⟩,⟨_,rfl,L3.qAQ,rfl⟩,⟨_,rfl,L3.qAQ,rfl⟩,⟨_,rfl,L3.qAQ,rfl⟩,⟨_,rfl,L3.qAQ,rfl⟩,⟨_,rfl,L3.qAQ,rfl⟩,⟨_,rfl,L3.qAQ,rfl⟩,⟨_,rfl,L3.qAQ,rfl⟩,⟨_,rfl,L3.qAQ,rfl⟩,⟨_,rfl,L3.qAQ,rfl⟩,⟨_,rfl,L3.qAQ,rfl⟩,⟨_,rfl,L3.qAQ,rfl⟩,trivial⟩)
    (case bVNEVER=>k_is)
    (case eVNEVER=>k_is)
    (case yVNEVER=>decide)
    (case uVNEVER=>(refine' ⟨⟨_,rfl,L3.qCk [0] ?n1 ?v1 ?s1,rfl⟩,⟨_,rfl,L3.qCk [0] ?n2 ?v2 ?s2,rfl⟩,⟨_,rfl,L3.qCk [0,1] ?n3 ?v3 ?s3,rfl⟩,⟨_,rfl,L3.qCk [0,1] ?n4 ?v4 ?s4,rfl⟩,trivial⟩;(case n1=>k_is);(case v1=>rfl);(case s1=>decide);(case n2=>k_is);(case v2=>rfl);(case s2=>decide);(case n3=>k_is);(case v3=>rfl);(case s3=>decide);(case n4=>k_is);(case v4=>rfl);(case s4=>decide)))
    (case bFRULES=>k_is)
    (case eFRULES=>k_is)
    (case yFRULES=>decide)
    (case uFRULES=>refine⟨⟨_,rfl,?_,rfl⟩,⟨_,rfl,?_,rfl⟩,⟨_,rfl,?_,rfl⟩,⟨_,rfl,?_,rfl⟩,⟨_,rfl,?_,rfl⟩,⟨_,rfl,?_,rfl⟩,⟨_,rfl,?_,rfl⟩,⟨_,rfl,?_,rfl⟩,⟨_,rfl,?_,rfl⟩,⟨_,rfl,?_,rfl⟩,⟨_,rfl,?_,rfl⟩,trivial⟩<;>(dsimp only;k_is))
    (case xa=>k_is)
    (case xe=>k_exc)
    (case xl=>k_is)
    (case xm=>rfl)
    (case z0=>k_is)
    (case z1=>k_is)
    (case z2=>k_is)
    (case z3=>k_is)
    (case z4=>k_is)
    (case z5=>k_is)
    (case z6=>k_is)
    (case z7=>k_is)

