import PyProof.Rows.All
import Wide.All
import OpenK.AllK
import Wide.FinOn
import Lean
import PyProof.EqAt
import PyProof.EqKinds
import PyProof.TupleCall
import PyProof.NeKinds
import KE.LcSums
import KE.KRevSl
import OpenK.KTop
import PyProof.Draws
import PyProof.EnumMake
import KE.KIntText
import KE.KxText
import PyProof.StrLawsTight
import PyProof.StrLawsChain
import PyProof.StrLawsIn
import PyProof.StrLawsJoin
import PyProof.CallStr
import PyProof.MeetsStr
import PyProof.MeetsStr2
import PyProof.StrCalls2
import PyProof.StrLoop
import PyProof.ConsumeWalk
import PyProof.ExcBaseAll.ValueError
import PyProof.NsDelKeeps
import KE.KIsAll
import PyProof.ExcAttrAll.ValueError
import KE.RegKIsAll
import PySem.Challenge.RW_asitruns_k30_turned
set_option Elab.async false
set_option linter.all false
set_option maxRecDepth 100000
set_option hygiene false
local macro_rules|`(tactic|k_dat 0"r0")=>`(tactic|(obtain⟨φ,st,ρ,P,pre,ht,hq⟩:=h))
local macro_rules|`(tactic|k_dat 0"r1")=>`(tactic|(intro pins s σ H Q I h))
local macro_rules|`(tactic|k_dat 0"r2")=>`(tactic|(refine⟨rfl,rfl,qAi (by decide +kernel) ?_⟩))
local macro_rules|`(tactic|k_dat 0"r3")=>`(tactic|(obtain⟨φ,st,x,y,P,R,dx,dy,hr,hq⟩:=h))
local macro_rules|`(tactic|k_dat 0"r4")=>`(tactic|(intro pins s σ H x y v u Q I rx ry h))
local macro_rules|`(tactic|k_dat 0"r5")=>`(tactic|(intro pins s σ H v w u1 u2 Q I r1 r2 h))
local macro_rules|`(tactic|k_dat 0"r6")=>`(tactic|(obtain⟨φ,st,ρ,P,pre,ht,n,b,c,r⟩:=h))
local macro_rules|`(tactic|k_dat 0"r7")=>`(tactic|(simp only [DL] at h))
local macro_rules|`(tactic|k_dat 0"r8")=>`(tactic|(obtain⟨d,ns,sd,n,rfl,hs,hn,hi,hl,hP⟩:=h))
local macro_rules|`(tactic|k_dat 0"r9")=>`(tactic|(intro pins s σ H D I h))
local macro_rules|`(tactic|k_dat 0"r10")=>`(tactic|(obtain⟨t',rfl⟩:=ry))
local macro_rules|`(tactic|k_dat 0"r11")=>`(tactic|(have hP:=hP st (.refl _)))
local macro_rules|`(tactic|k_dat 0"r12")=>`(tactic|(rw [List.length_map] at this))
local macro_rules|`(tactic|k_dat 0"r13")=>`(tactic|(exact⟨_,rfl,by decide,by decide⟩))
local macro_rules|`(tactic|k_dat 0"r14")=>`(tactic|(refine⟨φ,st,ρ,_,pre,ht,fun d st1 h1 φ1 H1 v b1 dx=>?_⟩))
local macro_rules|`(tactic|k_dat 0"r15")=>`(tactic|(intro pins s σ H vs us Q I rv h))
local macro_rules|`(tactic|k_dat 0"r16")=>`(tactic|(obtain⟨φ,st,ds,P,R,dl,hr,hq⟩:=h))
local macro_rules|`(tactic|k_dat 0"r17")=>`(tactic|(intro X hP hw hK hc i pins s σ H E I hf st hg))
local macro_rules|`(tactic|k_dat 0"r18")=>`(tactic|(obtain⟨f0,f1,f2,f3,f4,f5⟩:=hf it (by simp)))
local macro_rules|`(tactic|k_dat 0"r19")=>`(tactic|(intro pins s σ H xs us Q I r h))
local macro_rules|`(tactic|k_dat 0"r20")=>`(tactic|(refine⟨φ,st,ρ,_,pre,ht,fun x st1 h1 φ1 H1 v b1 dx=>?_⟩))
local macro_rules|`(tactic|k_dat 0"r21")=>`(tactic|(rw [qBd ⟨by decide,by decide,by decide,by decide,by decide⟩]))
local macro_rules|`(tactic|k_dat 0"r22")=>`(tactic|(obtain⟨o',e1⟩:=I.base.there b o e hx))
local macro_rules|`(tactic|k_dat 0"r23")=>`(tactic|(refine⟨φ,st,ρ,_,pre,ht,fun k st1 h1 φ1 H1 b1=>?_⟩))
local macro_rules|`(tactic|k_dat 0"r24")=>`(tactic|(rcases ds with _ | ⟨x,_ | ⟨y,r⟩⟩))
local macro_rules|`(tactic|k_dat 0"r25")=>`(tactic|(refine qz (qQ (j:=0) (qC (i:=1) rfl) rfl _ ?_)))
local macro_rules|`(tactic|k_dat 0"r26")=>`(tactic|(obtain⟨sl,e1⟩:=I.base.slot b o e n hb hx))
local macro_rules|`(tactic|k_dat 0"r27")=>`(tactic|(rw [show its.toArray.any (eqU x)=its.any (eqU x) by simp,qDY r fs]))
local macro_rules|`(tactic|k_dat 0"r28")=>`(tactic|(have l1:its.toArray.size=a.length:=by rw [List.size_toArray,← rv.length,hd.length]))
local macro_rules|`(tactic|k_dat 0"r29")=>`(tactic|(have l2:its2.toArray.size=b.length:=by rw [List.size_toArray,← rv2.length,hd2.length]))
local macro_rules|`(tactic|k_dat 0"r30")=>`(tactic|(simpa using (Option.some.inj this).symm))
local macro_rules|`(tactic|k_dat 0"r31")=>`(tactic|(obtain⟨φ,st,ds,Pd,R,dl,hs,hq⟩:=h))
local macro_rules|`(tactic|k_dat 0"r32")=>`(tactic|(exact I1.qOh (Nat.le_refl _) (I1.hok.fresh (Nat.le_refl _))))
local macro_rules|`(tactic|k_dat 0"r33")=>`(tactic|(intro pins s σ H x v vl vu lo hi sl Q I rx hs pl pu h))
local macro_rules|`(tactic|k_dat 0"r34")=>`(tactic|(intro value slice pins s σ H x y v u Q I rx ry h hs))
local macro_rules|`(tactic|k_dat 0"r35")=>`(tactic|(obtain⟨oc,od,kV,doc,pm,an,cdv,ct,osl,rfl,lk,hcd⟩:=F.ex))
local macro_rules|`(tactic|k_dat 0"r36")=>`(tactic|(refine⟨φ1,st1,ρ,_,pre.on b1,h1,fun y st2 h2 φ2 H2 w b2 dy=>?_⟩))
local macro_rules|`(tactic|k_dat 0"r37")=>`(tactic|(rw [beq_eq_false_iff_ne.mpr q,beq_eq_false_iff_ne.mpr (Ne.symm q)]))
local macro_rules|`(tactic|k_dat 0"r38")=>`(tactic|(rw [if_neg q,if_neg (by rw [decide_eq_true_eq];exact q)];rfl))
local macro_rules|`(tactic|k_dat 0"r39")=>`(tactic|(obtain⟨m,rfl⟩:∃ m:Nat,n=(m:Int):=⟨n.toNat,by omega⟩))
local macro_rules|`(tactic|k_dat 0"r40")=>`(tactic|(refine qC6 (a:=.str (nm w)) (b:=.int (x:Nat)) (c:=.int (y:Nat)) (qC (i:=1) rfl) ?_))
local macro_rules|`(tactic|k_dat 0"r41")=>`(tactic|(refine (I.hok b ob e).stay (fun c w' hc q=>(hs.2 c ?_).trans q) (fun _ q=>q) fun _ _ q=>q))
local macro_rules|`(tactic|k_dat 0"r42")=>`(tactic|(have I1:Inv X pins σ H { s with heap:=h' }:=I.turned (t':=s.toks) (fun b o hb e=>(sb.2 b hb).trans e) f0 f1 f3 f4 f5))
local macro_rules|`(tactic|k_dat 0"r43")=>`(tactic|(show wpAny _ _ (if (((sIx items.size 0 lo:Nat):Int)==0&&(1:Int)==1&&(sIx items.size items.size hi - sIx items.size 0 lo)==items.size)=true then _ else _) _ _ s))
local macro_rules|`(tactic|k_dat 0"r44")=>`(tactic|(exact⟨φ1,st1,ρ,P,pre.on b1,h1,fun k st2 h2 φ2 H2 b2=>hq k st2 h2 φ2 H2 (b1.trans b2)⟩))
local macro_rules|`(tactic|k_dat 0"r45")=>`(tactic|(refine⟨φ,st,ρ,_,pre,ht,fun ds st1 h1 φ1 H1 vs b1 dx=>⟨by rw [← dx.length];exact h1.1,fun p hp=>?_⟩⟩))
local macro_rules|`(tactic|k_dat 0"r46")=>`(tactic|(have l1:its.toArray.size=a.items.length:=by rw [List.size_toArray,← rv.length,d1.length]))
local macro_rules|`(tactic|k_dat 0"r47")=>`(tactic|(have l2:its2.toArray.size=b.items.length:=by rw [List.size_toArray,← rv2.length,d2.length]))
local macro_rules|`(tactic|k_dat 0"r48")=>`(tactic|(refine⟨φ,st,ρ,{ P with nx:=u P },pre,ht,fun ρ' st' hu φ' H' σ' bh dr=>?_,b,c,r⟩))
local macro_rules|`(tactic|k_dat 0"r49")=>`(tactic|(have I1:Inv X pins σ H { s with heap:=h' }:=I.kept (t':=s.toks) fun b o e=>hx b o (Nat.ne_of_lt (Heap.lt_size e)) e))
local macro_rules|`(tactic|k_dat 0"r50")=>`(tactic|(have fl1:Heap.FlyingW B (X.env::X.outer) ea (.ref C) a0 s1.heap:=by rw [← hst];exact O.fly))
local macro_rules|`(tactic|k_dat 0"r51")=>`(tactic|(refine wpAny_handleBy_cons (codeAny_handlers_test (qBR (X:=X.qCn ea) (Inv.inE I5) hgz hmz ?_ hdz)) (by intro q;cases q)))
local macro_rules|`(tactic|k_dat 0"r52")=>`(tactic|(obtain⟨nm,qn,N,bs,bm,hdct,sn,sub,ab,col,dd,k0,k1,k2,k3,k5,mN,eC,hN,hni,T⟩:=qDU I5.kIn hC.ok))
local macro_rules|`(tactic|k_dat 0"r53")=>`(tactic|(obtain⟨nm',qn',N',bs',bm',hdct',sn',sub',ab',col',dd',k0',k1',k2',k3',k5',mN',eZ,hN',hni',T'⟩:=qDU I5.kIn hz.ok))
local macro_rules|`(tactic|k_dat 0"r54")=>`(tactic|(refine qFc (I5.kIn _ _ eC) (I5.kIn _ _ eZ) he hcls (T'.hasType PySem.F.excBase_ValueError.hasBase) hsub ?_))
local macro_rules|`(tactic|k_dat 0"r55")=>`(tactic|(rw [show its.toArray.any (isIn xs its x)=its.any (isIn xs its x) by simp,qHY I hd rv o2]))
local macro_rules|`(tactic|k_dat 0"r56")=>`(tactic|(simp only [qE5,tseq,qAE,qG,qD,qE,qU,List.getElem?_cons_zero,List.getElem?_cons_succ,List.set_cons_zero,List.set_cons_succ]))
local macro_rules|`(tactic|k_dat 0"r57")=>`(tactic|(have e:(eqD 8 (.str a) (.str s) != false)=(a==s):=by show ((a==s) != false)=_;rw [Bool.bne_false]))
local macro_rules|`(tactic|k_dat 0"r58")=>`(tactic|(have e:(eqD 8 (.str a) (.str s) != true) = !(a==s):=by show ((a==s) != true)=_;rw [Bool.bne_true]))
local macro_rules|`(tactic|k_dat 0"r59")=>`(tactic|(refine qCq (evb (qAR (qQ (j:=0) (qC (i:=1) rfl) rfl) (qR (fun _ h=>h) (by show 4≤sizeLine;decide)))) (fun e=>?_) (fun _=>qJ)))
local macro_rules|`(tactic|k_dat 0"r60")=>`(tactic|(refine qT (evb (qAR (ss:=["add", "mul"]) (qC (i:=3) rfl) (qR (fun _ h=>h) (by show 2≤sizeLine;decide)))) (fun e=>?_) (fun _=>?_)))
local macro_rules|`(tactic|k_dat 0"r61")=>`(tactic|(exact qT (b:=true) (fun P hp=>qe (b2:=true) (evb (qER h4 (qC (i:=3) rfl))) (fun e=>by rw [c] at e;cases e) P (by rw [c];exact hp)) (fun _=>hP) (fun e=>nomatch e)))
local macro_rules|`(tactic|k_dat 0"r62")=>`(tactic|(refine qz (qF (qC (i:=0) rfl) (qF (qC (i:=1) rfl) qL) _ ⟨d,ns,.two w x y,rfl,hs,hn,hi,.inl ⟨w,x,y,rfl,fun st1 x1=>?_⟩⟩)))
local macro_rules|`(tactic|k_dat 0"r63")=>`(tactic|(show (match qo (st++[SO.rw (ss.map .str)]) (.lst st.length) with | some xs=>_ | none=>_)))
local macro_rules|`(tactic|k_dat 0"r64")=>`(tactic|(rw [show qo (st++[SO.rw (ss.map .str)]) (.lst st.length)=some (ss.map .str) from qAC ⟨_,qAZ,rfl⟩]))
local macro_rules|`(tactic|k_dat 0"r65")=>`(tactic|(refine qT (b:=false) (qe (b1:=false) (b2:=false) (evb (eqW _ _)) fun _=>evb (eqW _ _)) (fun z=>nomatch z) (fun _=>?_)))
set_option hygiene true
namespace L2
open PySem PySem.Spec PyProof.Rows
noncomputable abbrev Key:=Sum Int Str
noncomputable def qFk:Key→Value→Bool
  | .inl k,v=>Value.isInt k v
  | .inr x,v=>Value.isStrOf x v
noncomputable def qQy (w:World):Key→Int
  | .inl k=>hashInt k
  | .inr x=>hashStr w x
theorem qAY:∀ {k:Key} {v:Value},qFk k v=true→(∃ i t,k=Sum.inl i∧v=Value.int i t)∨(∃ x t,k=Sum.inr x∧v=Value.str x t)
  | .inl i,v,h=>by
    obtain⟨t,e⟩:=Value.isInt_shape (k:=i) (v:=v) h
    exact .inl ⟨i,t,rfl,e⟩
  | .inr x,v,h=>by
    obtain⟨t,e⟩:=Value.isStrOf_shape (x:=x) (v:=v) h
    exact .inr ⟨x,t,rfl,e⟩
theorem qJZ (i:Int) (t:Tok):qFk (.inl i) (.int i t)=true:=by simp [qFk,Value.isInt]
theorem qJL (x:Str) (t:Tok):qFk (.inr x) (.str x t)=true:=by simp [qFk,Value.isStrOf]
theorem qNy (a b:Int):decide ((Sum.inl a:Key)=Sum.inl b)=(a==b):=by
  by_cases e:a=b
  · subst e;simp
  · have h:¬ (Sum.inl a:Key)=Sum.inl b:=fun q=>e (Sum.inl.inj q)
    rw [decide_eq_false h]
    exact (beq_eq_false_iff_ne.mpr e).symm
theorem qNg (a b:Str):decide ((Sum.inr a:Key)=Sum.inr b)=decide (a=b):=by
  by_cases e:a=b
  · subst e;simp
  · have h:¬ (Sum.inr a:Key)=Sum.inr b:=fun q=>e (Sum.inr.inj q)
    rw [decide_eq_false h,decide_eq_false e]
theorem qO8 (a:Int) (b:Str):decide ((Sum.inl a:Key)=Sum.inr b)=false:=decide_eq_false (fun q=>nomatch q)
theorem qO7 (a:Str) (b:Int):decide ((Sum.inr a:Key)=Sum.inl b)=false:=decide_eq_false (fun q=>nomatch q)
noncomputable def qAo (prog:Program) (w:World):PySem.KeyKind prog w Key where
  is:=qFk
  hash:=qQy w
  inj :=fun v a b ha hb=>by
    rcases qAY ha with ⟨i,t,rfl,rfl⟩ | ⟨x,t,rfl,rfl⟩
    · rcases qAY hb with ⟨j,u,rfl,e⟩ | ⟨y,u,rfl,e⟩
      · injection e with e1 _;rw [e1]
      · exact nomatch e
    · rcases qAY hb with ⟨j,u,rfl,e⟩ | ⟨y,u,rfl,e⟩
      · exact nomatch e
      · injection e with e1 _;rw [e1]
  byValue:=fun k v h=>by
    rcases qAY h with ⟨i,t,rfl,rfl⟩ | ⟨x,t,rfl,rfl⟩<;>rfl
  pyHash:=fun hv h=>by
    rcases qAY hv with ⟨i,t,rfl,rfl⟩ | ⟨x,t,rfl,rfl⟩
    · exact wpAny_pyHash_int h
    · exact wpAny_pyHash_str h
  eqBool:=fun hu hv h=>by
    rcases qAY hu with ⟨i,t,rfl,rfl⟩ | ⟨x,t,rfl,rfl⟩
    · rcases qAY hv with ⟨j,u,rfl,rfl⟩ | ⟨y,u,rfl,rfl⟩
      · rw [qNy] at h;exact wpAny_eqBool_int h
      · rw [qO8] at h;exact SeqAt.EqAt.int_str i t y u _ _ _ _ h
    · rcases qAY hv with ⟨j,u,rfl,rfl⟩ | ⟨y,u,rfl,rfl⟩
      · rw [qO7] at h;exact SeqAt.EqAt.str_int x t j u _ _ _ _ h
      · rw [qNg] at h;exact wpAny_eqBool_str h
  «strs»:=fun k x t v h=>by
    rcases qAY h with ⟨i,u,rfl,e⟩ | ⟨y,u,rfl,e⟩
    · exact nomatch e
    · injection e with e1 _
      subst e1
      cases v<;>rfl
theorem qHA (prog:Program) (w:World) (i:Int) (t:Tok):(qAo prog w).is (.inl i) (.int i t)=true:=qJZ i t
theorem qGm (prog:Program) (w:World) (x:Str) (t:Tok):(qAo prog w).is (.inr x) (.str x t)=true:=qJL x t
end L2
namespace L2
open PySem PySem.Spec PyProof.Rows
inductive V where
  | non | bl (b:Bool) | int (i:Int) | str (x:Str) | byt (b:Array UInt8) | flt (b:UInt64) | ref (a:Addr) | ty (n:String)
  deriving DecidableEq
noncomputable def RelV:V→Value→Prop
  | .non,u=>u=Value.none
  | .bl b,u=>u=Value.bool b
  | .int i,u=>∃ t,u=Value.int i t
  | .str x,u=>∃ t,u=Value.str x t
  | .byt b,u=>∃ t,u=Value.bytes b t
  | .flt b,u=>∃ t,u=Value.float b t
  | .ref a,u=>u=Value.ref a
  | .ty n,u=>u=Value.type n
noncomputable abbrev Vals:List V→List Value→Prop:=Paired RelV
theorem Vals.length {xs:List V} {us:List Value} (r:Vals xs us):xs.length=us.length:=Paired.length r
theorem Vals.get:∀ {xs:List V} {us:List Value} {i:Nat} {x:V},Vals xs us→xs[i]? = some x→∃ u,us[i]? = some u∧RelV x u
  | _,_,_,_,.nil,e=>by simp at e
  | _,_,0,_,.cons r _,e=>by simp at e;subst e;exact⟨_,rfl,r⟩
  | _,_,i+1,x,.cons _ t,e=>by
    obtain⟨u,h1,h2⟩:=Vals.get (i:=i) (x:=x) t (by simpa using e)
    exact⟨u,by simpa using h1,h2⟩
theorem Vals.set {x:V} {u:Value} (r:RelV x u):∀ {xs:List V} {us:List Value} (i:Nat),Vals xs us→Vals (xs.set i x) (us.set i u)
  | _,_,_,.nil=>.nil
  | _,_,0,.cons _ t=>.cons r t
  | _,_,i+1,.cons q t=>.cons q (Vals.set r i t)
theorem Vals.append:∀ {xs ys:List V} {us ws:List Value},Vals xs us→Vals ys ws→Vals (xs++ys) (us++ws)
  | _,_,_,_,.nil,s=>s
  | _,_,_,_,.cons r t,s=>.cons r (Vals.append t s)
theorem Vals.take:∀ {xs:List V} {us:List Value} (n:Nat),Vals xs us→Vals (xs.take n) (us.take n)
  | _,_,0,_=>.nil
  | _,_,_+1,.nil=>.nil
  | _,_,n+1,.cons r t=>.cons r (Vals.take n t)
theorem Vals.drop:∀ {xs:List V} {us:List Value} (n:Nat),Vals xs us→Vals (xs.drop n) (us.drop n)
  | _,_,0,r=>r
  | _,_,_+1,.nil=>.nil
  | _,_,n+1,.cons _ t=>Vals.drop n t
noncomputable def qFK:Option V→Option Value→Prop
  | some v,some u=>RelV v u
  | none,none=>True
  | _,_=>False
noncomputable def KV {κ:Type}:List (κ×V)→List (κ×Value)→Prop:=Paired fun (p:κ×V) (q:κ×Value)=>p.1=q.1∧RelV p.2 q.2
noncomputable def kV:Key→V
  | .inl i=>.int i
  | .inr x=>.str x
inductive HO where
  /-- a list -/
  | lst (xs:List V)
  /-- a tuple (never changes) -/
  | tup (xs:List V)
  /-- a dict whose keys are ints and texts;one whose keys are tuples of ints and texts (the empty one is both) -/
  | dK (kvs:List (Key×V)) | dT (kvs:List (List Key×V))
  /-- a set of ints: its members,its size -/
  | set (S:Int→Bool) (n:Nat)
  /-- an instance of the class at C,its dict at dx,its attributes -/
  | ins (C dx:Addr) (fs:List (Str×V))
  /-- the dict of the instance at x -/
  | own (x:Addr)
  /-- the dict of an exception -/
  | xd (fs:List (Str×V))
  /-- a bound method,f of x -/
  | met (f x:Addr)
  /-- a range object lo,lo+1,.. below hi -/
  | rng (lo hi:Int)
  /-- a thing that is known to the object (the script;a dict while a loop walks it): read,never written while it is so -/
  | frz (o:Obj) (u:HO)
  /-- a code object's table -/
  | tbl (ps:Array Value)
  /-- any other thing,by what is true of its one object (a def of one's own: SetO a S n:=HO.ext fun h=>..) -/
  | ext (φ:Heap→Prop)
noncomputable abbrev Hp:=Addr→Option HO
noncomputable def upd (H:Hp) (a:Addr) (o:HO):Hp:=fun b=>if b=a then some o else H b
theorem qAF {H:Hp} {a:Addr} {o:HO}:upd H a o a=some o:=by unfold upd;rw [if_pos rfl]
theorem qb {H:Hp} {a b:Addr} {o:HO} (h:b≠a):upd H a o b=H b:=by unfold upd;rw [if_neg h]
theorem qEe {H:Hp} {a b:Addr} {o u:HO} (h:H a=some o) (h':H b=some u) (d:o≠u):a≠b:=by
  intro e;subst e;rw [h] at h';exact d (Option.some.inj h')
theorem qp {H:Hp} {a b:Addr} {o:HO} (h:H a=some o) (h':H b=none):a≠b:=by
  intro e;subst e;rw [h] at h';cases h'
def qBc (h:Heap) (a:Addr) (items:Array Value):Prop:=∃ o,h.get? a=some o∧(o.cls = .type "tuple" ∧ o.dict=none)∧∃ n,o.data = .seq items n
theorem qBc.tup {h:Heap} {a:Addr} {items:Array Value} (x:qBc h a items):IsTup h a items:=let ⟨o,e,c,n,d⟩:=x;⟨o,e,c.1,n,d⟩
theorem qBc.lt {h:Heap} {a:Addr} {items:Array Value} (x:qBc h a items):a<h.objs.size:=x.tup.lt
theorem qBc.new (h:Heap) (items:Array Value):qBc (h.push { cls:=.type "tuple",data:=.seq items }) h.objs.size items:=⟨_,Heap.get?_push_size _ rfl,⟨rfl,rfl⟩,_,rfl⟩
section
variable (P:Program) (w:World)
noncomputable def qAw (H:Hp) (h:Heap) (a:Addr):HO→Prop
  | .lst xs=>xs.length≤sizeLine∧∃ (its:List Value) (n:Nat),Vals xs its∧h.get? a=some { cls:=.type "list",data:=.seq its.toArray n }
  | .tup xs=>xs.length≤sizeLine∧∃ its:List Value,Vals xs its∧qBc h a its.toArray
  | .dK kvs=>kvs.length≤sizeLine∧(a==sysModules)=false∧∃ vs,KV kvs vs∧h.DictOf (qAo P w) a vs
  | .dT kvs=>kvs.length≤sizeLine∧(a==sysModules)=false∧∃ xs:List (List Key×Addr×Value),
      Paired (fun (p:List Key×V) (q:List Key×Addr×Value)=>p.1=q.1∧H q.2.1=some (.tup (p.1.map kV))∧RelV p.2 q.2.2) kvs xs ∧
      ∃ o es ep,h.get? a=some o∧o.ExactDict∧o.data = .dict es ep∧es.toList=xs.map (entryOfKey (tupleKind (qAo P w)))∧(xs.map (·.1)).Nodup
  | .set S n=>h.SetOf (intKind P w) a S n
  | .ins C dx fs=>H dx=some (.own a)∧fs.length≤1000∧dx≠a∧h.get? a=some (W.instObj C dx) ∧
      ∃ mA,h.Ns1 dx mA∧(∀ f,qFK (fs.lookup f) (mA f))∧PySem.Within mA (fs.map (·.1))
  | .own _=>∃ o,h.get? a=some o
  | .xd fs=>∃ mA,h.Ns1 a mA∧∀ f,qFK (fs.lookup f) (mA f)
  | .rng lo hi=>∃ t u v,h.get? a=some { cls:=.type "range",data:=.fields #[.int lo t,.int hi u,.int 1 v] }
  | .frz o u=>h.get? a=some o∧qAw H h a u
  | .tbl ps=>h.get? a=some { cls:=.none,data:=.fields ps }
  | .met f x=>h.get? a=some (W.methodObj (.ref f) (.ref x))
  | .ext φ=>φ h∧(∃ o,h.get? a=some o)∧∀ h1 h2:Heap,φ h1→(∀ o,h1.get? a=some o→h2.get? a=some o)→φ h2
def HOk (H:Hp) (h:Heap):Prop:=∀ a o,H a=some o→qAw P w H h a o
end
section
variable {P:Program} {w:World} {H H':Hp} {h h':Heap} {a:Addr} {o:HO}
theorem qAw.lt (x:qAw P w H h a o):a<h.objs.size:=by
  cases o with
  | lst xs=>obtain⟨_,_,_,_,e⟩:=x;exact Heap.lt_size e
  | tup xs=>obtain⟨_,_,_,p⟩:=x;exact p.lt
  | dK kvs=>obtain⟨_,_,_,_,o,_,_,e,_⟩:=x;exact Heap.lt_size e
  | dT kvs=>obtain⟨_,_,_,_,o,_,_,e,_⟩:=x;exact Heap.lt_size e
  | set S n=>obtain⟨o,_,_,_,e,_⟩:=x;exact Heap.lt_size e
  | ins C dx fs=>obtain⟨_,_,_,e,_⟩:=x;exact Heap.lt_size e
  | own y=>obtain⟨_,e⟩:=x;exact Heap.lt_size e
  | xd fs=>obtain⟨_,⟨_,_,_,e,_⟩,_⟩:=x;exact Heap.lt_size e
  | rng lo hi=>obtain⟨_,_,_,e⟩:=x;exact Heap.lt_size e
  | frz ob u=>obtain⟨e,_⟩:=x;exact Heap.lt_size e
  | tbl ps=>exact Heap.lt_size (show h.get? a=some _ from x)
  | met f y=>exact Heap.lt_size (show h.get? a=some _ from x)
  | ext φ=>obtain⟨_,⟨_,e⟩,_⟩:=x;exact Heap.lt_size e
theorem Paired.qOl {α β:Type} {F G:α→β→Prop}:∀ {l₁:List α} {l₂:List β},Paired F l₁ l₂→(∀ a b,F a b→G a b)→Paired G l₁ l₂
  | _,_,.nil,_=>.nil
  | _,_,.cons r t,f=>.cons (f _ _ r) (Paired.qOl t f)
theorem qAw.stay (x:qAw P w H h a o) (k:∀ b u,(b=a∨H b=some (.own a))→h.get? b=some u→h'.get? b=some u)
    (ho:∀ b,H b=some (.own a)→H' b=some (.own a)) (ht:∀ b xs,H b=some (.tup xs)→H' b=some (.tup xs)):qAw P w H' h' a o:=by
  induction o with
  | lst xs=>obtain⟨z,its,n,r,e⟩:=x;exact⟨z,its,n,r,k _ _ (.inl rfl) e⟩
  | tup xs=>obtain⟨z,its,r,ob,e,c⟩:=x;exact⟨z,its,r,ob,k _ _ (.inl rfl) e,c⟩
  | dK kvs=>obtain⟨z,y,vs,r,ob,es,ep,e,c⟩:=x;exact⟨z,y,vs,r,ob,es,ep,k _ _ (.inl rfl) e,c⟩
  | dT kvs =>
    obtain⟨z,y,xs,r,ob,es,ep,e,c⟩:=x
    exact⟨z,y,xs,Paired.qOl r fun p q z=>⟨z.1,ht _ _ z.2.1,z.2.2⟩,ob,es,ep,k _ _ (.inl rfl) e,c⟩
  | set S n=>obtain⟨ob,es,ep,t,e,c⟩:=x;exact⟨ob,es,ep,t,k _ _ (.inl rfl) e,c⟩
  | ins C dx fs =>
    obtain⟨d,z,ne,e,mA,⟨od,es,ep,e2,c⟩,r⟩:=x
    exact⟨ho _ d,z,ne,k _ _ (.inl rfl) e,mA,⟨od,es,ep,k _ _ (.inr d) e2,c⟩,r⟩
  | own y=>obtain⟨ob,e⟩:=x;exact⟨ob,k _ _ (.inl rfl) e⟩
  | xd fs=>obtain⟨mA,⟨od,es,ep,e,c⟩,r⟩:=x;exact⟨mA,⟨od,es,ep,k _ _ (.inl rfl) e,c⟩,r⟩
  | rng lo hi=>obtain⟨t,u,v,e⟩:=x;exact⟨t,u,v,k _ _ (.inl rfl) e⟩
  | frz ob u ih=>obtain⟨e,q⟩:=x;exact⟨k _ _ (.inl rfl) e,ih q⟩
  | tbl ps =>
    have e:h.get? a=some { cls:=.none,data:=.fields ps }:=x
    show h'.get? a=some { cls:=.none,data:=.fields ps }
    exact k a _ (.inl rfl) e
  | met f y =>
    have e:h.get? a=some (W.methodObj (.ref f) (.ref y)):=x
    show h'.get? a=some (W.methodObj (.ref f) (.ref y))
    exact k a _ (.inl rfl) e
  | ext φ=>obtain⟨p,⟨o,e⟩,st⟩:=x;exact⟨st _ _ p fun o q=>k _ _ (.inl rfl) q,⟨o,k _ _ (.inl rfl) e⟩,st⟩
theorem HOk.lt (x:HOk P w H h) (e:H a=some o):a<h.objs.size:=(x a o e).lt
theorem HOk.fresh (x:HOk P w H h) (e:h.objs.size≤a):H a=none:=by
  cases q:H a with
  | none=>rfl
  | some u=>exact absurd (Nat.lt_of_lt_of_le (x.lt q) e) (Nat.lt_irrefl _)
theorem HOk.kept (x:HOk P w H h) (k:∀ b u,h.get? b=some u→h'.get? b=some u):HOk P w H h':=fun a o e =>
  (x a o e).stay (fun b u _ q=>k b u q) (fun _ q=>q) fun _ _ q=>q
theorem HOk.laid (x:HOk P w H h) (k:∀ b u,h.get? b=some u→h'.get? b=some u) (hp:h.objs.size≤a) (new:qAw P w (upd H a o) h' a o):HOk P w (upd H a o) h':=fun b u e=>by
  have hn:=x.fresh hp
  by_cases hb:b=a
  · subst hb;rw [qAF] at e;cases e;exact new
  · rw [qb hb] at e
    exact (x b u e).stay (fun c v _ q=>k c v q) (fun c q=>by rw [qb (qp q hn)];exact q) fun c xs q=>by rw [qb (qp q hn)];exact q
end
def Rd (H:Hp) (a:Addr) (u:HO):Prop:=H a=some u∨∃ o,H a=some (.frz o u)
theorem Rd.ok {P:Program} {w:World} {H:Hp} {h:Heap} {a:Addr} {u:HO} (r:Rd H a u) (x:HOk P w H h):qAw P w H h a u:=by
  rcases r with r | ⟨o,r⟩
  · exact x a u r
  · obtain⟨_,q⟩:=x a _ r
    exact q
noncomputable def Mut:Option HO→Prop
  | some (.lst _)=>True
  | some (.dK _)=>True
  | some (.dT _)=>True
  | some (.set _ _)=>True
  | some (.ins _ _ _)=>True
  | some (.ext _)=>True
  | _=>False
section
variable {P:Program} {w:World} {H:Hp} {h h':Heap} {x e:Addr} {o':HO}
theorem HOk.write (ok:HOk P w H h) (mu:Mut (H x)) (he:e=x∨H e=some (.own x)) (k:∀ b u,b≠e→h.get? b=some u→h'.get? b=some u) (heo:∃ u,h'.get? e=some u)
    (new:qAw P w (upd H x o') h' x o'):HOk P w (upd H x o') h':=fun b u q=>by
  have nown:∀ c y,H c=some (.own y)→c≠x:=fun c y r z=>by subst z;rw [r] at mu;exact mu
  have ntup:∀ c xs,H c=some (.tup xs)→c≠x:=fun c xs r z=>by subst z;rw [r] at mu;exact mu
  by_cases hb:b=x
  · subst hb;rw [qAF] at q;cases q;exact new
  · rw [qb hb] at q
    by_cases hbe:b=e
    · have q':H b=some (.own x):=by
        rcases he with z | z
        · exact absurd (hbe.trans z) hb
        · rw [hbe];exact z
      rw [q] at q';cases q'
      obtain⟨v,hv⟩:=heo
      exact⟨v,by rw [hbe];exact hv⟩
    · refine (ok b u q).stay (fun c v hc r=>k c v ?_ r) (fun c r=>by rw [qb (nown c b r)];exact r) fun c xs r=>by rw [qb (ntup c xs r)];exact r
      rcases hc with rfl | hc
      · exact hbe
      · rintro rfl
        rcases he with z | z
        · exact nown c b hc z
        · rw [hc] at z;cases z;exact hb rfl
end
structure Un (fs ex:List Addr) (H H':Hp) (h h':Heap):Prop where
  keep:∀ b o,h.get? b=some o→H b=none→b ∉ fs→b ∉ ex→h'.get? b=some o
  slot:∀ b o,h.get? b=some o→H b=none→b∈fs→b ∉ ex→∃ sl,h'.get? b=some { o with slots:=sl }
  free:∀ b o,h.get? b=some o→H b=none→b ∉ ex→H' b=none
  there:∀ b o,h.get? b=some o→b ∉ ex→∃ o',h'.get? b=some o'
  tups:∀ b xs,H b=some (.tup xs)→H' b=some (.tup xs)
  frzs:∀ b o u,H b=some (.frz o u)→H' b=some (.frz o u)
  tbls:∀ b ps,H b=some (.tbl ps)→∃ more,H' b=some (.tbl (ps++more))
section
variable {fs fs' ex ex':List Addr} {H H1 H2:Hp} {h h1 h2 h':Heap} {a x e:Addr} {o:HO}
theorem Un.any (u:Un fs ex H H1 h h1) {b:Addr} {ob:Obj} (q:h.get? b=some ob) (n:H b=none) (hx:b ∉ ex):∃ sl,h1.get? b=some { ob with slots:=sl }:=by
  by_cases hb:b∈fs
  · exact u.slot b ob q n hb hx
  · exact⟨ob.slots,u.keep b ob q n hb hx⟩
theorem Un.kept (k:∀ b u,h.get? b=some u→h'.get? b=some u):Un fs ex H H h h' :=
  ⟨fun b ob q _ _ _=>k b ob q,fun b ob q _ _ _=>⟨ob.slots,k b ob q⟩,fun _ _ _ n _=>n,fun b ob q _=>⟨ob,k b ob q⟩,fun _ _ q=>q,fun _ _ _ q=>q,fun _ ps q=>⟨#[],by rw [q];simp⟩⟩
theorem Un.refl:Un fs ex H H h h:=Un.kept fun _ _ q=>q
theorem Un.laid (k:∀ b u,h.get? b=some u→h'.get? b=some u) (hp:h.objs.size≤a) (hn:H a=none):Un fs ex H (upd H a o) h h' where
  keep:=fun b u q _ _ _=>k b u q
  slot:=fun b u q _ _ _=>⟨u.slots,k b u q⟩
  free:=fun b u q n _=>by rw [qb (Nat.ne_of_lt (Nat.lt_of_lt_of_le (Heap.lt_size q) hp))];exact n
  there:=fun b u q _=>⟨u,k b u q⟩
  tups:=fun b xs q=>by rw [qb (qp q hn)];exact q
  frzs:=fun b u xs q=>by rw [qb (qp q hn)];exact q
  tbls:=fun b ps q=>⟨#[],by rw [qb (qp q hn),q];simp⟩
theorem Un.write (mu:Mut (H x)) (he:e=x∨H e=some (.own x)) (k:∀ b u,b≠e→h.get? b=some u→h'.get? b=some u) (heo:∃ u,h'.get? e=some u):Un fs ex H (upd H x o) h h':=by
  have hx:∀ b,H b=none→b≠x:=fun b n z=>by subst z;rw [n] at mu;exact mu
  have hb:∀ b,H b=none→b≠e:=fun b n z=>by
    subst z
    rcases he with r | r
    · exact hx b n r
    · rw [n] at r;cases r
  have hm:∀ b u,H b=some u→¬ Mut (some u)→b≠x:=fun b u q nm z=>by subst z;rw [q] at mu;exact nm mu
  refine⟨fun b u q n _ _=>k b u (hb b n) q,fun b u q n _ _=>⟨u.slots,k b u (hb b n) q⟩,fun b u q n _=>by rw [qb (hx b n)];exact n,fun b u q _=>?_,
    fun b xs q=>by rw [qb (hm b _ q fun z=>z)];exact q,fun b u xs q=>by rw [qb (hm b _ q fun z=>z)];exact q,fun b ps q=>⟨#[],by rw [qb (hm b _ q fun z=>z),q];simp⟩⟩
  by_cases hbe:b=e
  · subst hbe;exact heo
  · exact⟨u,k b u hbe q⟩
end
noncomputable def trk (h:Heap) (H:Hp):List Addr:=(List.range h.objs.size).filter fun a=>(H a).isSome
noncomputable def qGg (h:Heap) (H:Hp):Heap:=W.hideAll h (trk h H)
theorem qJg (h:Heap) (H:Hp):(qGg h H).objs.size=h.objs.size:=W.hideAll_size _ _
theorem qLD {h:Heap} {H:Hp} {b:Addr} {o:Obj} (e:h.get? b=some o) (n:H b=none):(qGg h H).get? b=some o :=
  W.hideAll_get _ e fun hm=>by
    have q:(H b).isSome=true:=(List.mem_filter.mp hm).2
    rw [n] at q;simp at q
theorem qLy {h:Heap} {H:Hp} {b:Addr} {o:Obj} (e:(qGg h H).get? b=some o):h.get? b=some o∧H b=none:=by
  have e':h.get? b=some o:=W.of_hideAll (trk h H) e
  refine⟨e',?_⟩
  cases q:H b with
  | none=>rfl
  | some x =>
    have hm:b∈trk h H:=List.mem_filter.mpr ⟨List.mem_range.mpr (Heap.lt_size e'),by simp [q]⟩
    have z:(qGg h H).get? b=none:=W.hideAll_none (trk h H) hm
    rw [z] at e;cases e
noncomputable def qMQ (g h:Heap) (L:Addr):List (Addr×Obj):=(List.range h.objs.size).filterMap fun a=>if a=L∨(g.get? a).isSome=true then none else (h.get? a).map fun o=>(a,o)
noncomputable def rest (g h:Heap) (L d:Addr):List (Addr×Obj):=(qMQ g h L).filter fun p=>decide (p.1≠d)
end L2
namespace L2
open PySem PySem.Spec PyProof.Rows
structure Mod (K:W.Frag) (mg:Str→Option Value) (base:Heap):Prop where
  kin:K.In base
  glob:base.Ns mainGlobals mg
  blt:∃ mb,base.Ns builtinsNs mb∧∀ x:Str,x ≠ "__name__" → mb x=bootBuiltins x
  nolimit:base.NoLimit
structure Cx where
  prog:Program
  w:World
  K:W.Frag
  mg:Str→Option Value
  base:Heap
  A:Around
  N:List Str
  s₀:Shared
  H₀:Hp
  env:Env
  outer:List Env
  stack:List Env
  ex:List Addr
  fn:Str→Bool
  calm:Bool
  pn:List (Addr×Obj)
  xe:Value→Shared→Prop
noncomputable def frs (l:List Env):List Addr:=l.filterMap (·.frame)
noncomputable abbrev Cx.fs (X:Cx):List Addr:=frs X.outer
def Vis (sc:Scope) (x:Str):Prop:=sc.names.lookup x=some .local∨sc.names.lookup x=some .cell∨sc.names.lookup x=some .free
def Loc (sc:Scope) (x:Str):Prop:=sc.names.lookup x=some .local∨sc.names.lookup x=some .cell
def Look (env:Env) (h:Heap) (m:Str→Option Value) (x:Str) (u:Value):Prop :=
  (env.kindOf x=some .local∧m x=some u)∨((env.kindOf x=some .cell∨env.kindOf x=some .free)∧∃ c,env.cells.lookup x=some c∧h.IsCell c (some u))
structure Cx.Ok (X:Cx):Prop where
  mod:Mod X.K X.mg X.base
  kind:X.env.scope.kind = .function
  glob:X.env.globals=mainGlobals
  blt:X.env.builtins=builtinsNs
  above:X.s₀.heap.objs.size≤X.env.locals
  inj:∀ x y c,X.env.cells.lookup x=some c→X.env.cells.lookup y=some c→x=y
  has:∀ x,(X.env.kindOf x=some .cell∨X.env.kindOf x=some .free)→∃ c,X.env.cells.lookup x=some c
  cab:∀ x c,X.fn x=true→X.env.cells.lookup x=some c→X.s₀.heap.objs.size≤c
  hd:X.calm=true→X.A.handled=none
  frames:X.A.frames=some X.stack
  stk:X.stack=X.outer∨(X.stack=X.env::X.outer∧X.env.frame=some X.env.locals)
  exf:∀ b∈X.ex,b≠X.env.locals∧∀ x c,X.env.cells.lookup x=some c→c≠b
  bs:∀ b o,X.base.get? b=some o→X.s₀.heap.get? b=some o∧X.H₀ b=none
  bsz:X.base.objs.size≤X.s₀.heap.objs.size
  noex:∀ b o,X.base.get? b=some o→b ∉ X.ex
  exfs:∀ b∈X.ex,b ∉ X.fs
  qDj:X.s₀.heap.FunFrames X.base X.outer
  frf:∀ b∈X.fs,X.H₀ b=none
structure Inv (X:Cx) (pins:List (Addr×Obj)) (σ:List (Option V)) (H:Hp) (s:Shared):Prop where
  ok:X.Ok
  os:s.os=X.s₀.os
  bare:AllBare s.gens
  base:Un X.fs X.ex X.H₀ H X.s₀.heap s.heap
  loc:∃ m,s.heap.Ns X.env.locals m∧∀ (i:Nat) (x:Str) (v:V),X.N[i]? = some x→σ[i]? = some (some v)→Vis X.env.scope x→∃ u,RelV v u∧Look X.env s.heap m x u
  cell:∀ x c,X.env.cells.lookup x=some c→∃ v,s.heap.IsCell c v
  free:H X.env.locals=none
  freeC:∀ x c,X.env.cells.lookup x=some c→H c=none
  pin:∀ p∈X.pn++pins,s.heap.get? p.1=some p.2∧H p.1=none∧p.1≠X.env.locals∧p.1 ∉ X.fs∧∀ v,p.2.data≠.cell v
  hok:HOk X.prog X.w H s.heap
  len:σ.length=X.N.length
section
variable {X:Cx} {pins:List (Addr×Obj)} {σ:List (Option V)} {H H':Hp} {s:Shared} {h':Heap}
theorem Cx.Ok.qQw (ok:X.Ok) {b:Addr} {o:Obj} (e:X.base.get? b=some o):b ∉ X.fs:=fun hb=>by
  have:=(ok.qDj.mem hb).1
  rw [e] at this;cases this
theorem Inv.bs (I:Inv X pins σ H s):∀ b o,X.base.get? b=some o→s.heap.get? b=some o∧H b=none:=fun b o e =>
  ⟨I.base.keep b o (I.ok.bs b o e).1 (I.ok.bs b o e).2 (I.ok.qQw e) (I.ok.noex b o e),I.base.free b o (I.ok.bs b o e).1 (I.ok.bs b o e).2 (I.ok.noex b o e)⟩
theorem Inv.bk (I:Inv X pins σ H s):∀ b o,X.base.get? b=some o→s.heap.get? b=some o:=fun b o e=>(I.bs b o e).1
theorem Inv.mod (I:Inv X pins σ H s):Mod X.K X.mg X.base:=I.ok.mod
theorem Inv.kIn (I:Inv X pins σ H s):X.K.In s.heap:=I.ok.mod.kin.keeps I.bk
theorem Inv.nolimit (I:Inv X pins σ H s):s.heap.NoLimit:=I.ok.mod.nolimit.keeps I.bk
theorem Inv.fr (I:Inv X pins σ H s):∃ m,Fr X.base X.env.locals s.heap m :=
  let ⟨m,hn,_⟩:=I.loc
  ⟨m,hn,I.bk,Nat.le_trans I.ok.bsz I.ok.above⟩
theorem Inv.lt (I:Inv X pins σ H s):X.env.locals<s.heap.objs.size:=let ⟨_,hn,_⟩:=I.loc;hn.lt
theorem Inv.sz (I:Inv X pins σ H s):X.s₀.heap.objs.size≤s.heap.objs.size:=Nat.le_trans I.ok.above (Nat.le_of_lt I.lt)
theorem Inv.qQH (I:Inv X pins σ H s) {a:Addr} (h:s.heap.objs.size≤a):a ∉ X.fs:=fun hb=>by
  obtain⟨_,o,ho,_⟩:=I.ok.qDj.mem hb
  exact absurd (Nat.lt_of_lt_of_le (Heap.lt_size ho) (Nat.le_trans I.sz h)) (Nat.lt_irrefl _)
theorem Inv.cne (I:Inv X pins σ H s):∀ x c,X.env.cells.lookup x=some c→c≠X.env.locals:=fun x c e z=>by
  obtain⟨v,o,ho,hd⟩:=I.cell x c e
  obtain⟨m,⟨o',es,ep,ho',hd',_⟩,_⟩:=I.loc
  rw [z,ho'] at ho;cases ho;rw [hd'] at hd;cases hd
theorem Inv.qDj (I:Inv X pins σ H s):s.heap.FunFrames X.base X.outer:=by
  have all:∀ (l:List Env),(∀ b∈frs l,b∈X.fs)→X.s₀.heap.FunFrames X.base l→s.heap.FunFrames X.base l:=by
    intro l
    induction l with
    | nil=>intro _ _;trivial
    | cons env r ih =>
      intro hs hl
      obtain⟨hk,⟨L,o,hf,hn,ho,hd⟩,hr⟩:=hl
      have hL:L∈X.fs:=hs L (by unfold frs;rw [List.filterMap_cons,hf];exact List.mem_cons_self)
      obtain⟨sl,e⟩:=I.base.slot L o ho (I.ok.frf L hL) hL fun z=>I.ok.exfs L z hL
      exact⟨hk,⟨L,_,hf,hn,e,hd⟩,ih (fun b hb=>hs b (by unfold frs;rw [List.filterMap_cons,hf];exact List.mem_cons_of_mem _ hb)) hr⟩
  exact all X.outer (fun _ hb=>hb) I.ok.qDj
theorem Inv.stack (I:Inv X pins σ H s):s.heap.FunFrames X.base X.stack:=by
  rcases I.ok.stk with e | ⟨e,hf⟩
  · rw [e];exact I.qDj
  · rw [e]
    obtain⟨m,hn,_⟩:=I.loc
    refine .cons (by rw [I.ok.kind];decide) hf hn ?_ I.qDj
    exact Heap.get?_none_of_le (Nat.le_trans I.ok.bsz I.ok.above)
theorem Inv.qF7 (I:Inv X pins σ H s):∀ b∈frs X.stack,b∈X.env.locals::X.fs:=fun b hb=>by
  rcases I.ok.stk with e | ⟨e,hf⟩
  · rw [e] at hb;exact List.mem_cons_of_mem _ hb
  · rw [e] at hb
    unfold frs at hb
    rw [List.filterMap_cons,hf] at hb
    exact hb
theorem Inv.qGL (I:Inv X pins σ H s):∀ b∈frs X.stack,H b=none:=fun b hb=>by
  rcases List.mem_cons.mp (I.qF7 b hb) with e | hb
  · rw [e];exact I.free
  · obtain⟨_,o,ho,_⟩:=I.ok.qDj.mem hb
    exact I.base.free b o ho (I.ok.frf b hb) fun z=>I.ok.exfs b z hb
theorem Inv.step {g':Array GenState} {t':Nat} {d':Drawn} {ch:List Addr} (I:Inv X pins σ H s)
    (hch:∀ b∈ch,(b∈X.ex∨X.s₀.heap.objs.size≤b)∧b≠X.env.locals∧(∀ x c,X.env.cells.lookup x=some c→c≠b)∧∀ p∈X.pn++pins,p.1≠b)
    (keep:∀ b o,b≠X.env.locals→b ∉ X.fs→b ∉ ch→s.heap.get? b=some o→H b=none→h'.get? b=some o)
    (slot:∀ b o,b≠X.env.locals→b∈X.fs→b ∉ ch→s.heap.get? b=some o→H b=none→∃ sl,h'.get? b=some { o with slots:=sl }) (free:∀ b o,b ∉ ch→s.heap.get? b=some o→H b=none→H' b=none)
    (there:∀ b o,b ∉ ch→s.heap.get? b=some o→∃ o',h'.get? b=some o')
    (tups:∀ b xs,H b=some (.tup xs)→H' b=some (.tup xs)) (frzs:∀ b o u,H b=some (.frz o u)→H' b=some (.frz o u)) (tbls:∀ b ps,H b=some (.tbl ps)→∃ more,H' b=some (.tbl (ps++more)))
    (ns:∀ m,s.heap.Ns X.env.locals m→h'.Ns X.env.locals m) (hok:HOk X.prog X.w H' h') (hg:AllBare g') :
    Inv X pins σ H' { s with heap:=h',gens:=g',drawn:=d',toks:=t' }:=by
  have neL:∀ b o,X.s₀.heap.get? b=some o→b≠X.env.locals:=fun b o e=>Nat.ne_of_lt (Nat.lt_of_lt_of_le (Heap.lt_size e) I.ok.above)
  have neC:∀ b o,X.s₀.heap.get? b=some o→b ∉ X.ex→b ∉ ch:=fun b o e hx hb=>by
    rcases (hch b hb).1 with z | z
    · exact hx z
    · exact absurd (Nat.lt_of_lt_of_le (Heap.lt_size e) z) (Nat.lt_irrefl _)
  have cellK:∀ x c,X.env.cells.lookup x=some c→∀ v,s.heap.IsCell c v→h'.IsCell c v:=fun x c e v ⟨o,ho,hd⟩=>by
    have nch:c ∉ ch:=fun z=>(hch c z).2.2.1 x c e rfl
    by_cases hc:c∈X.fs
    · obtain⟨sl,q⟩:=slot c o (I.cne x c e) hc nch ho (I.freeC x c e)
      exact⟨_,q,hd⟩
    · exact⟨o,keep c o (I.cne x c e) hc nch ho (I.freeC x c e),hd⟩
  refine⟨I.ok,I.os,hg,⟨fun b o e n hb hx=>?_,fun b o e n hb hx=>?_,fun b o e n hx=>?_,fun b o e hx=>?_,fun b xs e=>tups b xs (I.base.tups b xs e),fun b o xs e=>frzs b o xs (I.base.frzs b o xs e),fun b ps e=>?_⟩,?_,fun x c e=>?_,?_,fun x c e=>?_,fun p hp=>?_,hok,I.len⟩
  · exact keep b o (neL b o e) hb (neC b o e hx) (I.base.keep b o e n hb hx) (I.base.free b o e n hx)
  · k_dat 0"r26"
    obtain⟨sl',e2⟩:=slot b _ (neL b o e) hb (neC b o e hx) e1 (I.base.free b o e n hx)
    exact⟨sl',e2⟩
  · k_dat 0"r22"
    exact free b o' (neC b o e hx) e1 (I.base.free b o e n hx)
  · k_dat 0"r22"
    exact there b o' (neC b o e hx) e1
  · obtain⟨m1,e1⟩:=I.base.tbls b ps e
    obtain⟨m2,e2⟩:=tbls b _ e1
    exact⟨m1++m2,by rw [e2,Array.append_assoc]⟩
  · obtain⟨m,hn,hl⟩:=I.loc
    refine⟨m,ns m hn,fun i x v e1 e2 e3=>?_⟩
    obtain⟨u,r,l⟩:=hl i x v e1 e2 e3
    refine⟨u,r,?_⟩
    rcases l with l | ⟨k,c,e,z⟩
    · exact .inl l
    · exact .inr ⟨k,c,e,cellK x c e _ z⟩
  · obtain⟨v,z⟩:=I.cell x c e
    exact⟨v,cellK x c e v z⟩
  · obtain⟨m,⟨o,_,_,ho,_⟩,_⟩:=I.loc
    exact free _ o (fun z=>(hch _ z).2.1 rfl) ho I.free
  · obtain⟨v,o,ho,hd⟩:=I.cell x c e
    exact free c o (fun z=>(hch c z).2.2.1 x c e rfl) ho (I.freeC x c e)
  · obtain⟨e,n,ne,nf,d⟩:=I.pin p hp
    have nch:p.1 ∉ ch:=fun z=>(hch p.1 z).2.2.2 p hp rfl
    exact⟨keep p.1 p.2 ne nf nch e n,free p.1 p.2 nch e n,ne,nf,d⟩
theorem Inv.un {t':Nat} (I:Inv X pins σ H s) (u:Un X.fs [] H H' s.heap h') (hok:HOk X.prog X.w H' h'):Inv X pins σ H' { s with heap:=h',toks:=t' }:=by
  obtain⟨m,⟨o,es,ep,ho,r⟩,_⟩:=id I.loc
  obtain⟨sl,hL⟩:=u.any ho I.free (by simp)
  exact I.step (g':=s.gens) (d':=s.drawn) (ch:=[]) (fun _ z=>nomatch z) (fun b o _ hb _ e n=>u.keep b o e n hb (by simp)) (fun b o _ hb _ e n=>u.slot b o e n hb (by simp)) (fun b o _ e n=>u.free b o e n (by simp)) (fun b o _ e=>u.there b o e (by simp)) u.tups u.frzs u.tbls (fun m' hm=>by
    obtain⟨o',es',ep',ho',r'⟩:=hm
    rw [ho] at ho';cases ho'
    exact⟨_,es',ep',hL,r'⟩) hok I.bare
theorem Inv.call {g':Array GenState} {t':Nat} {d':Drawn} {ch:List Addr} (I:Inv X pins σ H s) (u:Un (frs X.stack) ch H H' s.heap h') (hok:HOk X.prog X.w H' h') (hg:AllBare g')
    (hch:∀ b∈ch,(b∈X.ex∨X.s₀.heap.objs.size≤b)∧b≠X.env.locals∧(∀ x c,X.env.cells.lookup x=some c→c≠b)∧∀ p∈X.pn++pins,p.1≠b) :
    Inv X pins σ H' { s with heap:=h',gens:=g',drawn:=d',toks:=t' }:=by
  obtain⟨m,⟨o,es,ep,ho,r⟩,_⟩:=id I.loc
  obtain⟨sl,hL⟩:=u.any ho I.free fun z=>(hch _ z).2.1 rfl
  exact I.step (ch:=ch) hch (fun b o hL hb hc e n=>u.keep b o e n (fun z=>(List.mem_cons.mp (I.qF7 b z)).elim hL hb) hc) (fun b o _ _ hc e n=>u.any e n hc) (fun b o hc e n=>u.free b o e n hc) (fun b o hc e=>u.there b o e hc) u.tups u.frzs u.tbls (fun m' hm=>by
    obtain⟨o',es',ep',ho',r'⟩:=hm
    rw [ho] at ho';cases ho'
    exact⟨_,es',ep',hL,r'⟩) hok hg
theorem Inv.turned {t':Nat} {it:Addr} (I:Inv X pins σ H s) (k:∀ b o,b≠it→s.heap.get? b=some o→h'.get? b=some o) (hn:H it=none) (hL:it≠X.env.locals)
    (h1:it∈X.ex∨X.s₀.heap.objs.size≤it) (h2:∀ x c,X.env.cells.lookup x=some c→c≠it) (h3:∀ p∈X.pn++pins,p.1≠it):Inv X pins σ H { s with heap:=h',toks:=t' }:=by
  have nit:∀ b u,H b=some u→b≠it:=fun b u e z=>by rw [z,hn] at e;cases e
  refine I.step (g':=s.gens) (d':=s.drawn) (ch:=[it]) (fun b hb=>?_) (fun b o _ _ hc e _=>k b o (fun z=>hc (by simp [z])) e) (fun b o _ _ hc e _=>⟨o.slots,k b o (fun z=>hc (by simp [z])) e⟩) (fun _ _ _ _ n=>n)
    (fun b o hc e=>⟨o,k b o (fun z=>hc (by simp [z])) e⟩) (fun _ _ e=>e) (fun _ _ _ e=>e) (fun b ps e=>⟨#[],by rw [e];simp⟩) (fun m hm=>?_) (fun b u e=>?_) I.bare
  · have e:b=it:=by simpa using hb
    subst e
    exact⟨h1,hL,h2,h3⟩
  · obtain⟨o,es,ep,ho,r⟩:=hm
    exact⟨o,es,ep,k _ o (Ne.symm hL) ho,r⟩
  · refine (I.hok b u e).stay (fun c v hc q=>k c v ?_ q) (fun _ q=>q) fun _ _ q=>q
    rcases hc with z | z
    · rw [z];exact nit b u e
    · exact nit c _ z
theorem Inv.tok (I:Inv X pins σ H s) (t:Nat):Inv X pins σ H { s with toks:=t }:=I.un (h':=s.heap) (t':=t) Un.refl I.hok
theorem Inv.kept {t':Nat} (I:Inv X pins σ H s) (k:∀ b u,s.heap.get? b=some u→h'.get? b=some u):Inv X pins σ H { s with heap:=h',toks:=t' }:=I.un (Un.kept k) (I.hok.kept k)
theorem Inv.laid {a:Addr} {o:HO} {t':Nat} (I:Inv X pins σ H s) (k:∀ b u,s.heap.get? b=some u→h'.get? b=some u) (hp:s.heap.objs.size≤a) (new:qAw X.prog X.w (upd H a o) h' a o) :
    Inv X pins σ (upd H a o) { s with heap:=h',toks:=t' }:=I.un (Un.laid k hp (I.hok.fresh hp)) (I.hok.laid k hp new)
theorem Inv.write {x e:Addr} {o:HO} {t':Nat} (I:Inv X pins σ H s) (mu:Mut (H x)) (he:e=x∨H e=some (.own x)) (k:∀ b u,b≠e→s.heap.get? b=some u→h'.get? b=some u) (heo:∃ u,h'.get? e=some u)
    (new:qAw X.prog X.w (upd H x o) h' x o):Inv X pins σ (upd H x o) { s with heap:=h',toks:=t' }:=I.un (Un.write mu he k heo) (I.hok.write mu he k heo new)
theorem Inv.qEQ {pins':List (Addr×Obj)} (I:Inv X pins σ H s) (h:∀ p∈pins',s.heap.get? p.1=some p.2∧H p.1=none∧p.1≠X.env.locals∧p.1 ∉ X.fs∧∀ v,p.2.data≠.cell v):Inv X pins' σ H s :=
  ⟨I.ok,I.os,I.bare,I.base,I.loc,I.cell,I.free,I.freeC,fun p hp=>(List.mem_append.mp hp).elim (fun z=>I.pin p (List.mem_append_left _ z)) (h p),I.hok,I.len⟩
theorem qEv {N:List Str} (hN:N.Nodup) {i j:Nat} {x:Str} (a:N[i]? = some x) (b:N[j]? = some x):i=j:=by
  obtain⟨h1,e1⟩:=List.getElem?_eq_some_iff.mp a
  obtain⟨h2,e2⟩:=List.getElem?_eq_some_iff.mp b
  exact (List.getElem_inj hN).mp (e1.trans e2.symm)
theorem qDt {M:Model} {A:Around} {E:Value→Shared→Prop} {i:Nat} {x:Str} {v:V} {u:Value} {Q:Unit→Shared→Prop} (I:Inv X pins σ H s) (hN:X.N.Nodup) (hi:X.N[i]? = some x) (hx:Loc X.env.scope x) (r:RelV v u)
    (h:∀ s',Inv X pins (σ.set i (some v)) H s'→(∃ a,Heap.SameBut a s.heap s'.heap∧(a=X.env.locals∨X.env.cells.lookup x=some a))→Q () s') (hf:X.fn x=true∨X.env.scope.names.lookup x=some .local:=by first | exact .inl rfl | exact .inr rfl | assumption):wpAny M A (storeName X.env x u) Q E s:=by
  obtain⟨m,hn,hl⟩:=id I.loc
  have hcls:(X.env.scope.kind == .class || (X.env.scope.kind == .module&&X.env.locals != X.env.globals))=false:=by rw [I.ok.kind];rfl
  have hiσ:i<σ.length:=by rw [I.len];exact (List.getElem?_eq_some_iff.mp hi).1
  have cne:=I.cne
  have tracked:∀ {a:Addr} {h':Heap},(∃ o,s.heap.get? a=some o∧H a=none)→Heap.SameBut a s.heap h'→HOk X.prog X.w H h':=fun {a h'} ha hs b ob e=>by
    obtain⟨_,_,hfree⟩:=ha
    k_dat 0"r41"
    rintro rfl
    rcases hc with rfl | hc
    · rw [hfree] at e;cases e
    · rw [hfree] at hc;cases hc
  rcases hx with hk | hk
  · refine wpAny_storeName_local hk hn (fun h' hn' hs=>?_) hcls
    obtain⟨oL,_,_,hoL,_⟩:=id hn
    refine h _ ⟨I.ok,I.os,I.bare,⟨fun b o e n hb hx=>?_,fun b o e n hb hx=>?_,I.base.free,fun b o e hx=>?_,I.base.tups,I.base.frzs,I.base.tbls⟩,⟨_,hn',fun j y v' e1 e2 e3=>?_⟩,fun y c e=>?_,I.free,I.freeC,fun p hp=>?_,tracked ⟨oL,hoL,I.free⟩ hs,by simpa using I.len⟩ ⟨_,hs,.inl rfl⟩
    · exact (hs.2 b (Nat.ne_of_lt (Nat.lt_of_lt_of_le (Heap.lt_size e) I.ok.above))).trans (I.base.keep b o e n hb hx)
    · k_dat 0"r26"
      exact⟨sl,(hs.2 b (Nat.ne_of_lt (Nat.lt_of_lt_of_le (Heap.lt_size e) I.ok.above))).trans e1⟩
    · k_dat 0"r22"
      exact⟨o',(hs.2 b (Nat.ne_of_lt (Nat.lt_of_lt_of_le (Heap.lt_size e) I.ok.above))).trans e1⟩
    · by_cases hj:j=i
      · subst hj
        rw [hi] at e1;cases e1
        rw [List.getElem?_set_self hiσ] at e2
        cases e2
        exact⟨u,r,.inl ⟨hk,by simp⟩⟩
      · rw [List.getElem?_set_ne (Ne.symm hj)] at e2
        obtain⟨u',r',q⟩:=hl j y v' e1 e2 e3
        refine⟨u',r',?_⟩
        rcases q with ⟨k,e⟩ | ⟨k,c,e,z⟩
        · refine .inl ⟨k,?_⟩
          have:y≠x:=fun e=>hj (qEv hN e1 (e ▸ hi))
          simp [this,e]
        · exact .inr ⟨k,c,e,z.sameBut hs (cne y c e)⟩
    · obtain⟨w',z⟩:=I.cell y c e
      exact⟨w',z.sameBut hs (cne y c e)⟩
    · obtain⟨e,n,ne,nf,d⟩:=I.pin p hp
      exact⟨(hs.2 p.1 ne).trans e,n,ne,nf,d⟩
  · have hfn:X.fn x=true:=by
      rcases hf with z | z
      · exact z
      · rw [z] at hk;cases hk
    obtain⟨c,hc⟩:=I.ok.has x (.inl hk)
    obtain⟨w',z⟩:=I.cell x c hc
    refine wpAny_storeName_cell I.ok.kind hk hc z (fun h' hc' hs=>?_)
    obtain⟨oc,hoc,hocd⟩:=id z
    refine h { s with heap:=h' } ⟨I.ok,I.os,I.bare,⟨fun b o e n hb hx=>?_,fun b o e n hb hx=>?_,I.base.free,fun b o e hx=>?_,I.base.tups,I.base.frzs,I.base.tbls⟩,⟨m,hn.sameBut hs (Ne.symm (cne x c hc)),fun j y v' e1 e2 e3=>?_⟩,fun y c' e=>?_,I.free,I.freeC,fun p hp=>?_,tracked ⟨oc,hoc,I.freeC x c hc⟩ hs,by simpa using I.len⟩ ⟨c,hs,.inr hc⟩
    · exact (hs.2 b (Nat.ne_of_lt (Nat.lt_of_lt_of_le (Heap.lt_size e) (I.ok.cab x c hfn hc)))).trans (I.base.keep b o e n hb hx)
    · k_dat 0"r26"
      exact⟨sl,(hs.2 b (Nat.ne_of_lt (Nat.lt_of_lt_of_le (Heap.lt_size e) (I.ok.cab x c hfn hc)))).trans e1⟩
    · k_dat 0"r22"
      exact⟨o',(hs.2 b (Nat.ne_of_lt (Nat.lt_of_lt_of_le (Heap.lt_size e) (I.ok.cab x c hfn hc)))).trans e1⟩
    · by_cases hj:j=i
      · subst hj
        rw [hi] at e1;cases e1
        rw [List.getElem?_set_self hiσ] at e2
        cases e2
        exact⟨u,r,.inr ⟨.inl hk,c,hc,hc'⟩⟩
      · rw [List.getElem?_set_ne (Ne.symm hj)] at e2
        obtain⟨u',r',q⟩:=hl j y v' e1 e2 e3
        refine⟨u',r',?_⟩
        rcases q with q | ⟨k,c',e,z'⟩
        · exact .inl q
        · refine .inr ⟨k,c',e,z'.sameBut hs ?_⟩
          rintro rfl
          exact hj (qEv hN e1 (I.ok.inj _ _ _ e hc ▸ hi))
    · by_cases hcc:c'=c
      · subst hcc;exact⟨_,hc'⟩
      · obtain⟨w2,z2⟩:=I.cell y c' e
        exact⟨w2,z2.sameBut hs hcc⟩
    · obtain⟨e,n,ne,nf,d⟩:=I.pin p hp
      refine⟨(hs.2 p.1 ?_).trans e,n,ne,nf,d⟩
      intro q
      rw [q,hoc] at e
      have q':oc=p.2:=Option.some.inj e
      exact d w' (by rw [← q'];exact hocd)
theorem qEt {M:Model} {A:Around} {E:Value→Shared→Prop} {i:Nat} {x:Str} {v:V} {u:Value} {Q:Unit→Shared→Prop} (I:Inv X pins σ H s) (hN:X.N.Nodup) (hi:X.N[i]? = some x) (hx:Loc X.env.scope x) (r:RelV v u)
    (h:∀ s',Inv X pins (σ.set i (some v)) H s'→Q () s') (hf:X.fn x=true∨X.env.scope.names.lookup x=some .local:=by first | exact .inl rfl | exact .inr rfl | assumption):wpAny M A (storeName X.env x u) Q E s :=
  qDt I hN hi hx r (fun s' I' _=>h s' I') hf
theorem Inv.qM0 {s':Shared} {ch:List Addr} (I:Inv X pins σ H s) (ho:s'.os=s.os) (u:Un (frs X.stack) ch H H' s.heap s'.heap) (hok:HOk X.prog X.w H' s'.heap) (hg:AllBare s'.gens)
    (hch:∀ b∈ch,(b∈X.ex∨X.s₀.heap.objs.size≤b)∧b≠X.env.locals∧(∀ x c,X.env.cells.lookup x=some c→c≠b)∧∀ p∈X.pn++pins,p.1≠b):Inv X pins σ H' s':=by
  obtain⟨h',g',d',t',o'⟩:=s'
  have e:o'=s.os:=ho
  subst e
  exact I.call (g':=g') (t':=t') (d':=d') u hok hg hch
end
noncomputable abbrev XK:=Value→Option Addr→Hp→Prop
noncomputable abbrev St:=List (Option V)
noncomputable abbrev VK:=V→Hp→Prop
noncomputable abbrev TE:=St→Hp→VK→Prop
noncomputable abbrev TT:=St→Hp→(Bool→Hp→Prop)→Prop
noncomputable abbrev TA:=St→Hp→(List V→Hp→Prop)→Prop
structure Ends where
  nx:St→Hp→Prop
  rt:VK
  bk:St→Hp→Prop:=fun _ _=>False
  ct:St→Hp→Prop:=fun _ _=>False
noncomputable abbrev TS:=Ends→St→Hp→Prop
def EP (X:Cx) (pins:List (Addr×Obj)) (σ:St) (Q:VK) (u:Value) (s':Shared):Prop:=∃ v H',Inv X pins σ H' s'∧RelV v u∧Q v H'
def TP (X:Cx) (pins:List (Addr×Obj)) (σ:St) (Q:Bool→Hp→Prop) (b:Bool) (s':Shared):Prop:=∃ H',Inv X pins σ H' s'∧Q b H'
def AP (X:Cx) (pins:List (Addr×Obj)) (σ:St) (Q:List V→Hp→Prop) (us:List Value) (s':Shared):Prop:=∃ vs H',Inv X pins σ H' s'∧Vals vs us∧Q vs H'
def SP (X:Cx) (pins:List (Addr×Obj)) (D:Ends) (f:Flow) (s':Shared):Prop :=
  match f with
  | .next=>∃ σ' H',Inv X pins σ' H' s'∧D.nx σ' H'
  | .brk=>∃ σ' H',Inv X pins σ' H' s'∧D.bk σ' H'
  | .cont=>∃ σ' H',Inv X pins σ' H' s'∧D.ct σ' H'
  | .ret u=>∃ v σ' H',Inv X pins σ' H' s'∧RelV v u∧D.rt v H'
def PE (X:Cx) (e:Expr) (t:TE):Prop :=
  ∀ (pins:List (Addr×Obj)) (s:Shared) (σ:St) (H:Hp) (Q:VK),Inv X pins σ H s→t σ H Q→wpAny (model X.prog X.w) X.A (eval e X.env) (EP X pins σ Q) X.xe s
def PT (X:Cx) (e:Expr) (t:TT):Prop :=
  ∀ (pins:List (Addr×Obj)) (s:Shared) (σ:St) (H:Hp) (Q:Bool→Hp→Prop),Inv X pins σ H s→t σ H Q→wpAny (model X.prog X.w) X.A (isTrue e X.env (eval e X.env)) (TP X pins σ Q) X.xe s
def PW (X:Cx) (e:Expr) (t:TT):Prop :=
  ∀ (whole:Sem Value) (pins:List (Addr×Obj)) (s:Shared) (σ:St) (H:Hp) (Q:Bool→Hp→Prop),Inv X pins σ H s→t σ H Q→wpAny (model X.prog X.w) X.A (isTrue e X.env whole) (TP X pins σ Q) X.xe s
def PA (X:Cx) (es:List Expr) (t:TA):Prop :=
  ∀ (pos:Pos) (pins:List (Addr×Obj)) (s:Shared) (σ:St) (H:Hp) (Q:List V→Hp→Prop),Inv X pins σ H s→t σ H Q→wpAny (model X.prog X.w) X.A (spliced (backTo pos (starEach es X.env))) (AP X pins σ Q) X.xe s
def PS (X:Cx) (st:Stmt) (t:TS):Prop :=
  ∀ (pins:List (Addr×Obj)) (s:Shared) (σ:St) (H:Hp) (D:Ends),Inv X pins σ H s→t D σ H→wpAny (model X.prog X.w) X.A (exec st X.env) (SP X pins D) X.xe s
def PSs (X:Cx) (st:List Stmt) (t:TS):Prop :=
  ∀ (pins:List (Addr×Obj)) (s:Shared) (σ:St) (H:Hp) (D:Ends),Inv X pins σ H s→t D σ H→wpAny (model X.prog X.w) X.A (execs st X.env) (SP X pins D) X.xe s
theorem thn {α:Type} {t:Sem α} {Q Q':α→Shared→Prop} {M:Model} {A:Around} {E:Value→Shared→Prop} {s:Shared} (h:wpAny M A t Q E s) (hQ:∀ a s,Q a s→Q' a s):wpAny M A t Q' E s:=wpAny_mono h hQ fun _ _ x=>x
end L2
namespace L2
open PySem PySem.Spec PyProof.Rows
section
variable {X:Cx}
noncomputable def qQk (i:Nat):TE:=fun σ H Q=>∃ v,σ[i]? = some (some v)∧Q v H
noncomputable def tC (v:V):TE:=fun _ H Q=>Q v H
theorem qNl {i:Nat} {x:Str} {pos:Pos} (hN:X.N[i]? = some x) (hv:Vis X.env.scope x) (hd:(x==("__debug__" : Str))=false:=by decide) (hcd:(x==("__classdict__" : Str))=false:=by decide):PE X (.Name x pos) (qQk i):=by
  k_dat 0"r1"
  obtain⟨v,e,h⟩:=h
  obtain⟨m,hn,hl⟩:=I.loc
  obtain⟨u,r,l⟩:=hl i x v hN e hv
  have fin:EP X pins σ Q u s:=⟨v,H,I,r,h⟩
  rcases l with ⟨hk,hm⟩ | ⟨hk,c,hc,hcell⟩
  · exact wpAny_Name (wpAny_loadName_local I.ok.kind hk hn hm fin) hd
  · rcases hk with hk | hk
    · exact wpAny_Name (wpAny_loadName_cell I.ok.kind hk hc hcell fin) hd
    · exact wpAny_Name (wpAny_loadName_free I.ok.kind hk hc hcell fin hcd) hd
theorem qOV {i j pos}:PE X (.Constant (.int i) j pos) (tC (.int i)):=fun _ _ _ H _ I h=>wpAny_Constant_int ⟨.int i,H,I.tok _,⟨_,rfl⟩,h⟩
theorem qPq {b j pos}:PE X (.Constant (.bool b) j pos) (tC (.bl b)):=fun _ _ _ H _ I h=>Constant_bool ⟨.bl b,H,I,rfl,h⟩
theorem qOm {j pos}:PE X (.Constant .none j pos) (tC .non):=fun _ _ _ H _ I h=>Constant_none ⟨.non,H,I,rfl,h⟩
theorem qGW {x j pos}:PE X (.Constant (.str x) j pos) (tC (.str x)):=fun _ _ _ H _ I h=>Calls.Constant_str ⟨.str x,H,I.tok _,⟨_,rfl⟩,h⟩
def Gl (X:Cx) (x:Str):Prop:=X.env.kindOf x=some .globalImplicit
theorem qBR {E:Value→Shared→Prop} {pins:List (Addr×Obj)} {s:Shared} {σ:St} {H:Hp} {x:Str} {u:Value} {pos:Pos} {Q:Value→Shared→Prop} (I:Inv X pins σ H s) (hg:Gl X x) (hm:X.mg x=some u) (h:Q u s)
    (hd:(x==("__debug__" : Str))=false:=by decide):wpAny (model X.prog X.w) X.A (eval (.Name x pos) X.env) Q E s :=
  Calls.Name_function_global I.ok.kind hg (Calls.loadGlobal_global (by rw [I.ok.glob];exact I.mod.glob.keeps I.bk) hm h) hd
theorem qDu {E:Value→Shared→Prop} {pins:List (Addr×Obj)} {s:Shared} {σ:St} {H:Hp} {x:Str} {u:Value} {pos:Pos} {Q:Value→Shared→Prop} (I:Inv X pins σ H s) (hg:Gl X x) (hm:X.mg x=none) (hv:bootBuiltins x=some u) (h:Q u s)
    (hn:x ≠ "__name__":=by decide) (hd:(x==("__debug__" : Str))=false:=by decide):wpAny (model X.prog X.w) X.A (eval (.Name x pos) X.env) Q E s:=by
  obtain⟨mb,h1,h2⟩:=I.mod.blt
  exact Calls.Name_function_global I.ok.kind hg (Calls.loadGlobal_builtin (by rw [I.ok.glob];exact I.mod.glob.keeps I.bk) hm (by rw [I.ok.blt];exact h1.keeps I.bk) ((h2 x hn).trans hv) h) hd
theorem qCc {x:Str} {v:V} {u:Value} {pos:Pos} (hg:Gl X x) (hm:X.mg x=some u) (r:RelV v u) (hd:(x==("__debug__" : Str))=false:=by decide):PE X (.Name x pos) (tC v) :=
  fun _ _ _ H _ I h=>qBR I hg hm ⟨v,H,I,r,h⟩ hd
theorem qIY {x:Str} {v:V} {u:Value} {pos:Pos} (hg:Gl X x) (hm:X.mg x=none) (hv:bootBuiltins x=some u) (r:RelV v u) (hn:x ≠ "__name__":=by decide) (hd:(x==("__debug__" : Str))=false:=by decide):PE X (.Name x pos) (tC v) :=
  fun _ _ _ H _ I h=>qDu I hg hm hv ⟨v,H,I,r,h⟩ hn hd
variable {a b:Expr} {ta tb:TE} {pos:Pos}
def PC (X:Cx) (op:CmpOp) (a b:Expr) (t:TE):Prop :=
  ∀ (pins:List (Addr×Obj)) (s:Shared) (σ:St) (H:Hp) (Q:VK),Inv X pins σ H s→t σ H Q →
    wpAny (model X.prog X.w) X.A (eval a X.env) (fun v s₁=>wpAny (model X.prog X.w) X.A (eval b X.env) (fun u s₂=>wpAny (model X.prog X.w) X.A (compareOp op v u) (EP X pins σ Q) X.xe s₂) X.xe s₁) X.xe s
theorem qGy (b:Expr) {op:CmpOp} (h:op≠.In) (h2:op≠.NotIn):behindInMarks op b=false:=by
  have e1:(op==CmpOp.In)=false:=by cases op<;>first | rfl | exact absurd rfl h
  have e2:(op==CmpOp.NotIn)=false:=by cases op<;>first | rfl | exact absurd rfl h2
  cases b<;>simp [behindInMarks,e1,e2]
noncomputable def tB (t:TE):TT:=fun σ H Q=>t σ H fun x H1=>∃ c,x = .bl c∧Q c H1
theorem qPZ {op:CmpOp} {t:TE} (h:PC X op a b t) (h1:behindInMarks op b=false:=by first | exact qGy _ (by decide) (by decide) | rfl):PE X (.Compare a [op] [b] pos) t:=fun pins s σ H Q I hw=>wpAny_Compare1 (h pins s σ H Q I hw) h1
theorem qPM {op:CmpOp} {t:TE} (h:PC X op a b t) (h1:behindInMarks op b=false:=by first | exact qGy _ (by decide) (by decide) | rfl):PT X (.Compare a [op] [b] pos) (tB t):=by
  intro pins s σ H Q I hw
  refine wpAny_isTrue_Compare1 (thn (h pins s σ H _ I hw) fun v s1 h1=>thn h1 fun u s2 h2=>thn h2 fun c s3 ⟨x,H1,I1,r1,q1⟩=>?_) h1
  obtain⟨d,rfl,q⟩:=q1
  cases r1
  exact wpAny_truthy_bool ⟨H1,I1,q⟩
theorem qOJ {e:Expr} {t:TE} (h:PE X e t) (he:∀ whole,isTrue e X.env whole=(do let v ← whole;standAt e.pos;holding [v] (truthy v)):=by intro _;rfl):PT X e (tB t):=by
  intro pins s σ H Q I hw
  refine isTrue_plain (thn (h pins s σ H _ I hw) fun v s1 ⟨x,H1,I1,r1,q1⟩=>?_) (he _)
  obtain⟨d,rfl,q⟩:=q1
  cases r1
  exact wpAny_truthy_bool ⟨H1,I1,q⟩
variable {tA tB':TT} {rest:List Expr}
noncomputable def qQ6 (t u:TT):TT:=fun σ H Q=>t σ H fun c H1=>if c=true then u σ H1 Q else Q false H1
noncomputable def tOr (t u:TT):TT:=fun σ H Q=>t σ H fun c H1=>if c=true then Q true H1 else u σ H1 Q
noncomputable def qRA (t:TT):TT:=fun σ H Q=>t σ H fun c H1=>Q (!c) H1
theorem qL0 (ha:PT X a tA):PW X (.BoolOp .And [a] pos) tA:=by
  intro wh pins s σ H Q I h
  refine isTrue_and (thn (ha pins s σ H Q I h) fun c s1 e=>?_)
  cases c with
  | true=>exact isTrue_and_nil e
  | false=>exact e
theorem qOa (ha:PT X a tA):PW X (.BoolOp .Or [a] pos) tA:=by
  intro wh pins s σ H Q I h
  refine isTrue_or (thn (ha pins s σ H Q I h) fun c s1 e=>?_)
  cases c with
  | false=>exact isTrue_or_nil e
  | true=>exact e
theorem qNN (ha:PT X a tA) (hb:PW X (.BoolOp .And (b::rest) pos) tB'):PW X (.BoolOp .And (a::b::rest) pos) (qQ6 tA tB'):=by
  intro wh pins s σ H Q I h
  refine isTrue_and (thn (ha pins s σ H _ I h) fun c s1 ⟨H1,I1,q1⟩=>?_)
  cases c with
  | true=>exact hb wh pins s1 σ H1 Q I1 q1
  | false=>exact⟨H1,I1,q1⟩
theorem qPr (ha:PT X a tA) (hb:PW X (.BoolOp .Or (b::rest) pos) tB'):PW X (.BoolOp .Or (a::b::rest) pos) (tOr tA tB'):=by
  intro wh pins s σ H Q I h
  refine isTrue_or (thn (ha pins s σ H _ I h) fun c s1 ⟨H1,I1,q1⟩=>?_)
  cases c with
  | true=>exact⟨H1,I1,q1⟩
  | false=>exact hb wh pins s1 σ H1 Q I1 q1
theorem qNP (ha:PT X a tA):PT X (.UnaryOp .Not a pos) (qRA tA):=by
  k_dat 0"r1"
  exact isTrue_not (ha pins s σ H (fun c H1=>Q (!c) H1) I h)
noncomputable def qQD (ta tb:TE):TE:=fun σ H Q=>ta σ H fun x H1=>∃ c,x = .bl c∧if c=true then tb σ H1 Q else Q (.bl false) H1
noncomputable def qQb (ta:TE):TE:=fun σ H Q=>ta σ H fun x H1=>∃ c,x = .bl c∧Q (.bl (!c)) H1
theorem qOP {op} {t:TE} (h:PE X a t):PE X (.BoolOp op [a] pos) t:=fun pins s σ H Q I hw=>BoolOp_one (h pins s σ H Q I hw)
theorem qOp (ha:PE X a ta) (hb:PE X (.BoolOp .And (b::rest) pos) tb):PE X (.BoolOp .And (a::b::rest) pos) (qQD ta tb):=by
  k_dat 0"r1"
  refine BoolOp_and (thn (ha pins s σ H _ I h) fun v s1 ⟨x,H1,I1,r1,q1⟩=>?_)
  obtain⟨c,rfl,q1⟩:=q1
  cases r1
  refine wpAny_truthy_bool ?_
  cases c with
  | true=>exact hb pins s1 σ H1 Q I1 q1
  | false=>exact⟨.bl false,H1,I1,rfl,q1⟩
theorem qOH (ha:PE X a ta):PE X (.UnaryOp .Not a pos) (qQb ta):=by
  k_dat 0"r1"
  refine UnaryOp_ (thn (ha pins s σ H _ I h) fun v s1 ⟨x,H1,I1,r1,q1⟩=>?_)
  obtain⟨c,rfl,q1⟩:=q1
  cases r1
  exact not_of (wpAny_truthy_bool ⟨.bl (!c),H1,I1,rfl,q1⟩)
noncomputable def tIf (t:TT) (ta tb:TE):TE:=fun σ H Q=>t σ H fun c H1=>if c=true then ta σ H1 Q else tb σ H1 Q
theorem qK6 {c:Expr} (hc:PT X c tA) (ha:PE X a ta) (hb:PE X b tb):PE X (.IfExp c a b pos) (tIf tA ta tb):=by
  k_dat 0"r1"
  refine wpAny_IfExp (thn (hc pins s σ H _ I h) fun d s1 ⟨H1,I1,q1⟩=>?_)
  cases d with
  | true=>exact ha pins s1 σ H1 Q I1 q1
  | false=>exact hb pins s1 σ H1 Q I1 q1
end
end L2
namespace L2
open PySem PySem.Spec PyProof.Rows
def SqL (K:W.Frag) (H:Hp) (a:Addr) (xs:List V):Prop :=
  Rd H a (.lst xs) ∨
    ∃ (o:Obj) (its:Array Value) (n:Nat),K.lookup a=some o∧o.cls = .type "list" ∧ o.dict=none∧o.data = .seq its n∧its.size≤sizeLine∧Vals xs its.toList
def SqT (K:W.Frag) (H:Hp) (a:Addr) (xs:List V):Prop :=
  Rd H a (.tup xs) ∨
    ∃ (o:Obj) (its:Array Value) (n:Nat),K.lookup a=some o∧(o.cls = .type "tuple" ∧ o.dict=none)∧o.data = .seq its n∧its.size≤sizeLine∧Vals xs its.toList
noncomputable def qQl:Value→Option V
  | .none=>some .non
  | .bool b=>some (.bl b)
  | .int i _=>some (.int i)
  | .str x _=>some (.str x)
  | .bytes b _=>some (.byt b)
  | .float b _=>some (.flt b)
  | .ref a=>some (.ref a)
  | .type n=>some (.ty n)
  | _=>none
theorem RelV.abs {x:V} {u:Value} (r:RelV x u):qQl u=some x:=by
  cases x with
  | non=>cases r;rfl
  | bl _=>cases r;rfl
  | int _=>obtain⟨t,rfl⟩:=r;rfl
  | str _=>obtain⟨t,rfl⟩:=r;rfl
  | byt _=>obtain⟨t,rfl⟩:=r;rfl
  | flt _=>obtain⟨t,rfl⟩:=r;rfl
  | ref _=>cases r;rfl
  | ty _=>cases r;rfl
theorem RelV.inj {x y:V} {u:Value} (r:RelV x u) (q:RelV y u):x=y:=Option.some.inj (r.abs.symm.trans q.abs)
theorem Vals.inj:∀ {xs ys:List V} {us:List Value},Vals xs us→Vals ys us→xs=ys
  | _,_,_,.nil,.nil=>rfl
  | _,_,_,.cons r t,.cons r' t'=>by rw [r.inj r',Vals.inj t t']
section
variable {X:Cx} {pins:List (Addr×Obj)} {σ:St} {H:Hp} {s:Shared} {a:Addr} {xs ys:List V}
theorem SqL.of {K:W.Frag} (h:H a=some (.lst xs)):SqL K H a xs:=.inl (.inl h)
theorem SqT.of {K:W.Frag} (h:H a=some (.tup xs)):SqT K H a xs:=.inl (.inl h)
theorem Inv.list (I:Inv X pins σ H s) (h:SqL X.K H a xs):∃ its:List Value,Vals xs its∧PlainL s.heap a its.toArray∧xs.length≤sizeLine:=by
  rcases h with h | ⟨o,its,n,hk,hc,hd,hs,hz,r⟩
  · obtain⟨z,its,n,r,e⟩:=h.ok I.hok
    exact⟨its,r,⟨_,n,e,rfl,rfl,rfl⟩,z⟩
  · refine⟨its.toList,r,⟨o,n,I.kIn a o hk,hc,hd,by simpa using hs⟩,?_⟩
    have e:=r.length
    simp only [Array.length_toList] at e
    omega
theorem Inv.tuple (I:Inv X pins σ H s) (h:SqT X.K H a xs):∃ its:List Value,Vals xs its∧IsTup s.heap a its.toArray∧xs.length≤sizeLine:=by
  rcases h with h | ⟨o,its,n,hk,hc,hs,hz,r⟩
  · obtain⟨z,its,r,p⟩:=h.ok I.hok
    exact⟨its,r,p.tup,z⟩
  · refine⟨its.toList,r,⟨o,I.kIn a o hk,hc.1,n,by simpa using hs⟩,?_⟩
    have e:=r.length
    simp only [Array.length_toList] at e
    omega
theorem Inv.qK5 (I:Inv X pins σ H s) (h:SqL X.K H a xs) (h':SqL X.K H a ys):xs=ys:=by
  obtain⟨its,r,⟨o,n,e,_,_,d⟩,_⟩:=I.list h
  obtain⟨its',r',⟨o',n',e',_,_,d'⟩,_⟩:=I.list h'
  rw [e] at e';cases e'
  rw [d] at d'
  injection d' with d1 _
  have:its=its':=by simpa using congrArg Array.toList d1
  subst this
  exact r.inj r'
theorem Inv.qFZ (I:Inv X pins σ H s) (h:SqT X.K H a xs) (h':SqT X.K H a ys):xs=ys:=by
  obtain⟨its,r,⟨o,e,_,n,d⟩,_⟩:=I.tuple h
  obtain⟨its',r',⟨o',e',_,n',d'⟩,_⟩:=I.tuple h'
  rw [e] at e';cases e'
  rw [d] at d'
  injection d' with d1 _
  have:its=its':=by simpa using congrArg Array.toList d1
  subst this
  exact r.inj r'
end
noncomputable abbrev Cx.qEf (X:Cx) (E:Value→Shared→Prop):Cx:={ X with xe:=E }
noncomputable abbrev Cx.nox (X:Cx):Cx:=X.qEf fun _ _=>False
theorem Cx.Ok.qEf {X:Cx} (ok:X.Ok) (E:Value→Shared→Prop):(X.qEf E).Ok :=
  ⟨ok.mod,ok.kind,ok.glob,ok.blt,ok.above,ok.inj,ok.has,ok.cab,ok.hd,ok.frames,ok.stk,ok.exf,ok.bs,ok.bsz,ok.noex,ok.exfs,ok.qDj,ok.frf⟩
theorem Cx.Ok.qB6 {X:Cx} {E:Value→Shared→Prop} (ok:(X.qEf E).Ok):X.Ok :=
  ⟨ok.mod,ok.kind,ok.glob,ok.blt,ok.above,ok.inj,ok.has,ok.cab,ok.hd,ok.frames,ok.stk,ok.exf,ok.bs,ok.bsz,ok.noex,ok.exfs,ok.qDj,ok.frf⟩
section
variable {X:Cx} {pins:List (Addr×Obj)} {σ:St} {H:Hp} {s:Shared} {E:Value→Shared→Prop}
theorem Inv.qEf (I:Inv X pins σ H s) (E:Value→Shared→Prop):Inv (X.qEf E) pins σ H s:=⟨I.ok.qEf E,I.os,I.bare,I.base,I.loc,I.cell,I.free,I.freeC,I.pin,I.hok,I.len⟩
theorem Inv.qB6 (I:Inv (X.qEf E) pins σ H s):Inv X pins σ H s:=⟨I.ok.qB6,I.os,I.bare,I.base,I.loc,I.cell,I.free,I.freeC,I.pin,I.hok,I.len⟩
theorem SP.qB6 {D:Ends} {f:Flow} {s':Shared} (h:SP (X.qEf E) pins D f s'):SP X pins D f s':=by
  cases f with
  | next=>obtain⟨σ',H',I,q⟩:=h;exact⟨σ',H',I.qB6,q⟩
  | brk=>obtain⟨σ',H',I,q⟩:=h;exact⟨σ',H',I.qB6,q⟩
  | cont=>obtain⟨σ',H',I,q⟩:=h;exact⟨σ',H',I.qB6,q⟩
  | ret u=>obtain⟨v,σ',H',I,r,q⟩:=h;exact⟨v,σ',H',I.qB6,r,q⟩
theorem PSs.nox {st:List Stmt} {t:TS} (h:PSs X.nox st t):PSs X st t:=fun pins s σ H D I hw =>
  wpAny_mono (h pins s σ H D (I.qEf _) hw) (fun _ _ q=>q.qB6) fun _ _ z=>False.elim z
end
section
variable {X:Cx} {st:Stmt} {rest:List Stmt} {t u:TS} {e:Expr} {te:TE} {pos:Pos}
noncomputable def qPf:TS:=fun D σ H=>D.nx σ H
noncomputable def qQz (t u:TS):TS:=fun D σ H=>t { D with nx:=u D } σ H
theorem qIU:PSs X [] qPf:=fun _ _ σ H _ I h=>wpAny_execs_nil ⟨σ,H,I,h⟩
theorem qHG (h1:PS X st t) (h2:PSs X rest u):PSs X (st::rest) (qQz t u):=by
  k_dat 0"r9"
  refine wpAny_execs_cons (thn (h1 pins s σ H { D with nx:=u D } I h) fun f s1 q=>?_)
  cases f with
  | next =>
    obtain⟨σ',H',I',q⟩:=q
    exact h2 pins s1 σ' H' D I' q
  | ret v=>exact q
  | brk=>exact q
  | cont=>exact q
theorem Inv.quiet {pins:List (Addr×Obj)} {σ:St} {H:Hp} {s:Shared} (I:Inv X pins σ H s):interactive X.env=false:=by simp [interactive,I.ok.kind]
noncomputable def qP9 (te:TE):TS:=fun D σ H=>te σ H fun _ H1=>D.nx σ H1
theorem qL3 (he:PE X e te) (hs:swapsWith e none pos.line X.env=pure false:=by rfl):PS X (.Expr e pos) (qP9 te):=by
  k_dat 0"r9"
  exact wpAny_Expr_any (thn (he pins s σ H _ I h) fun v s1 ⟨x,H1,I1,r1,q1⟩=>⟨σ,H1,I1,q1⟩) I.quiet hs
noncomputable def qQj (te:TE):TS:=fun D σ H=>te σ H D.rt
theorem qLE (he:PE X e te):PS X (.Return (some e) pos) (qQj te):=by
  k_dat 0"r9"
  exact wpAny_Return_some (thn (he pins s σ H _ I h) fun v s1 ⟨x,H1,I1,r1,q1⟩=>⟨x,σ,H1,I1,r1,q1⟩)
noncomputable def qRD (c:TT) (t u:TS):TS:=fun D σ H=>c σ H fun b H1=>if b=true then t D σ H1 else u D σ H1
theorem qMw {c:Expr} {a b:List Stmt} {tc:TT} (hc:PT X c tc) (ha:PSs X a t) (hb:PSs X b u):PS X (.If c a b pos) (qRD tc t u):=by
  k_dat 0"r9"
  refine wpAny_If (thn (hc pins s σ H _ I h) fun d s1 ⟨H1,I1,q1⟩=>?_)
  cases d with
  | true=>exact ha pins s1 σ H1 D I1 q1
  | false=>exact hb pins s1 σ H1 D I1 q1
end
noncomputable abbrev TG:=V→St→Hp→(St→Hp→Prop)→Prop
noncomputable abbrev TGs:=List V→St→Hp→(St→Hp→Prop)→Prop
def PG (X:Cx) (target:Expr) (t:TG):Prop :=
  ∀ (pins:List (Addr×Obj)) (s:Shared) (σ:St) (H:Hp) (v:V) (u:Value) (Q:St→Hp→Prop),Inv X pins σ H s→RelV v u→t v σ H Q →
    wpAny (model X.prog X.w) X.A (assign target X.env u) (fun _ s'=>∃ σ' H',Inv X pins σ' H' s'∧Q σ' H') X.xe s
def PGs (X:Cx) (ts:List Expr) (t:TGs):Prop :=
  ∀ (pins:List (Addr×Obj)) (s:Shared) (σ:St) (H:Hp) (vs:List V) (us:List Value) (Q:St→Hp→Prop),Inv X pins σ H s→Vals vs us→t vs σ H Q →
    wpAny (model X.prog X.w) X.A (assignInOrder ((assignEach ts X.env).map (·.2)) us) (fun _ s'=>∃ σ' H',Inv X pins σ' H' s'∧Q σ' H') X.xe s
noncomputable abbrev qNq:=V→V→V→Hp→(Hp→Prop)→Prop
def qPl (X:Cx) (t:qNq):Prop :=
  ∀ (pins:List (Addr×Obj)) (s:Shared) (σ:St) (H:Hp) (o i v:V) (ov iv u:Value) (Q:Hp→Prop),Inv X pins σ H s→RelV o ov→RelV i iv→RelV v u→t o i v H Q →
    wpAny (model X.prog X.w) X.A (setItem ov iv u) (fun _ s'=>∃ H',Inv X pins σ H' s'∧Q H') X.xe s
section
variable {X:Cx} {pos:Pos}
noncomputable def qE1 (i:Nat):TG:=fun v σ H Q=>Q (σ.set i (some v)) H
theorem qGD {i:Nat} {x:Str} (hN:X.N.Nodup) (hi:X.N[i]? = some x) (hx:Loc X.env.scope x) (hf:X.fn x=true∨X.env.scope.names.lookup x=some .local:=by first | exact .inl rfl | exact .inr rfl | assumption):PG X (.Name x pos) (qE1 i):=by
  intro pins s σ H v u Q I r h
  exact wpAny_assign_Name (qEt I hN hi hx r (fun s' I'=>⟨_,H,I',h⟩) hf)
noncomputable def qQm:TGs:=fun vs σ H Q=>vs=[]∧Q σ H
noncomputable def qPv (t:TG) (u:TGs):TGs:=fun vs σ H Q=>∃ v r,vs=v::r∧t v σ H fun σ' H'=>u r σ' H' Q
theorem qL8:PGs X [] qQm:=by
  intro pins s σ H vs us Q I r h
  obtain⟨e,h⟩:=h
  subst e
  cases r
  exact assignInOrder_nil ⟨σ,H,I,h⟩
theorem qLM {e:Expr} {es:List Expr} {t:TG} {u:TGs} (h1:PG X e t) (h2:PGs X es u)
    (hs:(assignEach (e::es) X.env).map (·.2)=assign e X.env::(assignEach es X.env).map (·.2):=by rfl):PGs X (e::es) (qPv t u):=by
  intro pins s σ H vs us Q I r h
  obtain⟨v,vr,e1,h⟩:=h
  subst e1
  cases r with
  | cons r rr =>
    rw [hs]
    refine assignInOrder_cons (thn (h1 pins s σ H _ _ _ I r h) fun _ s1 ⟨σ1,H1,I1,q1⟩=>?_)
    exact h2 pins s1 σ1 H1 _ _ Q I1 rr q1
noncomputable def qQ3 (to ti:TE) (t:qNq):TG:=fun v σ H Q=>to σ H fun o H1=>ti σ H1 fun i H2=>t o i v H2 fun H3=>Q σ H3
theorem qNU {o i:Expr} {to ti:TE} {t:qNq} (ho:PE X o to) (hi:PE X i ti) (hs:qPl X t)
    (ha:∀ v,assign (.Subscript o i pos) X.env v=(do
      let ov ← holding [v] (eval o X.env)
      let iv ← holding [v,ov] (eval i X.env)
      standAt pos
      holding [v,ov,iv] (setItem ov iv v)
      release [v,ov,iv] []):=by intro _;rfl):PG X (.Subscript o i pos) (qQ3 to ti t):=by
  intro pins s σ H v u Q I r h
  rw [ha]
  refine wpAny_bind (wpAny_holding (thn (ho pins s σ H _ I h) fun ov s1 ⟨x,H1,I1,r1,q1⟩=>?_))
  refine wpAny_bind (wpAny_holding (thn (hi pins s1 σ H1 _ I1 q1) fun iv s2 ⟨y,H2,I2,r2,q2⟩=>?_))
  refine wpAny_bind (wpAny_standAt (wpAny_bind (wpAny_holding (thn (hs pins s2 σ H2 x y v ov iv u _ I2 r1 r2 r q2) fun _ s3 ⟨H3,I3,q3⟩=>?_))))
  exact wpAny_release ⟨σ,H3,I3,q3⟩
noncomputable def qMY (te:TE) (g:TG):TS:=fun D σ H=>te σ H fun x H1=>g x σ H1 D.nx
theorem qOU {tg e:Expr} {te:TE} {g:TG} (he:PE X e te) (hg:PG X tg g) (hs:swapsWithSole [tg] e pos.line X.env=pure false:=by rfl) (hw:swappedStores [tg] e X.env=pure none:=by rfl)
    (h1:(assignEach [tg] X.env).map (·.2)=[assign tg X.env]:=by rfl):PS X (.Assign [tg] e pos) (qMY te g):=by
  k_dat 0"r9"
  refine wpAny_Assign_stores (thn (he pins s σ H _ I h) fun v s1 ⟨x,H1,I1,r1,q1⟩=>?_) hs hw
  rw [h1]
  exact thn (hg pins s1 σ H1 x v _ I1 r1 q1) fun _ s2 q=>q
theorem qPJ {i:Nat} {x:Str} {e:Expr} {te:TE} {pos':Pos} (hN:X.N.Nodup) (hi:X.N[i]? = some x) (hx:Loc X.env.scope x) (he:PE X e te) (hs:swapsWith e (some (.Name x pos')) pos.line X.env=pure false:=by rfl) (hf:X.fn x=true∨X.env.scope.names.lookup x=some .local:=by first | exact .inl rfl | exact .inr rfl | assumption) :
    PS X (.Assign [.Name x pos'] e pos) (qMY te (qE1 i)):=by
  k_dat 0"r9"
  refine wpAny_Assign_Name (thn (he pins s σ H _ I h) fun v s1 ⟨y,H1,I1,r1,q1⟩=>?_) hs
  exact qEt I1 hN hi hx r1 (fun s2 I2=>⟨_,H1,I2,q1⟩) hf
end
structure It where
  go:Nat→Hp→Prop
  yld:Nat→Hp→V→Hp→Prop
  stop:Nat→Hp→Prop
def qFC (X:Cx) (pins:List (Addr×Obj)) (H:Hp) (b:Addr):Prop :=
  H b=none∧b≠X.env.locals∧b ∉ X.fs∧(b∈X.ex∨X.s₀.heap.objs.size≤b)∧(∀ x c,X.env.cells.lookup x=some c→c≠b)∧∀ p∈X.pn++pins,p.1≠b
theorem Inv.qOh {X:Cx} {pins:List (Addr×Obj)} {σ:St} {H H':Hp} {s:Shared} {b:Addr} (I:Inv X pins σ H s) (hb:s.heap.objs.size≤b) (hn:H' b=none):qFC X pins H' b:=by
  refine⟨hn,Nat.ne_of_gt (Nat.lt_of_lt_of_le I.lt hb),I.qQH hb,.inr (Nat.le_trans I.sz hb),fun x c e z=>?_,fun p hp z=>?_⟩
  · obtain⟨v,q⟩:=I.cell x c e
    exact absurd (Nat.lt_of_lt_of_le q.lt (by rw [z];exact hb)) (Nat.lt_irrefl _)
  · exact absurd (Nat.lt_of_lt_of_le (Heap.lt_size (I.pin p hp).1) (by rw [z];exact hb)) (Nat.lt_irrefl _)
structure Turn (P:Program) (w:World) (K:W.Frag) (tg:Expr) (J:It) (fp:List Addr) (it:Addr) (tn:Nat→Heap→Prop):Prop where
  mem:it∈fp
  obj:∀ i h,tn i h→∀ b∈fp,∃ o,h.get? b=some o∧∀ v,o.data≠.cell v
  keep:∀ i h h',tn i h→(∀ b∈fp,∀ o,h.get? b=some o→h'.get? b=some o)→tn i h'
  item:∀ (X:Cx),X.prog=P→X.w=w→X.K=K→X.calm=true→∀ (i:Nat) (pins:List (Addr×Obj)) (s:Shared) (σ:St) (H:Hp) (E:Value→Shared→Prop),Inv X pins σ H s→(∀ b∈fp,qFC X pins H b)→tn i s.heap→J.go i H →
    wpAny (model P w) X.A (pyNext (.ref it)) (fun r s1=>∃ u,r=some u ∧
      wpAny (model P w) X.A (letOwnedTupleGo tg (.ref it) u) (fun _ s2=>∃ x H',Inv X pins σ H' s2∧RelV x u∧J.yld i H x H'∧tn (i+1) s2.heap∧∀ b∈fp,H' b=none) E s1) E s
  done:∀ (X:Cx),X.prog=P→X.w=w→X.K=K→X.calm=true→∀ (i:Nat) (pins:List (Addr×Obj)) (s:Shared) (σ:St) (H:Hp) (E:Value→Shared→Prop),Inv X pins σ H s→(∀ b∈fp,qFC X pins H b)→tn i s.heap→J.stop i H →
    wpAny (model P w) X.A (pyNext (.ref it)) (fun r s1=>r=none∧Inv X pins σ H s1) E s
  self:∀ (A:Around) (i:Nat) (s:Shared) (Q:Value→Shared→Prop) (E:Value→Shared→Prop),tn i s.heap→Q (.ref it) s→wpAny (model P w) A (pyIter (.ref it)) Q E s
noncomputable abbrev TI:=St→Hp→(It→Hp→Prop)→Prop
def PIE (X:Cx) (pins:List (Addr×Obj)) (σ:St) (tg:Expr) (R:It→Hp→Prop) (itv:Value) (s2:Shared):Prop :=
  ∃ (it:Addr) (fp:List Addr) (tn:Nat→Heap→Prop) (J:It) (H':Hp),itv = .ref it∧Inv X pins σ H' s2∧Turn X.prog X.w X.K tg J fp it tn∧tn 0 s2.heap∧(∀ b∈fp,qFC X pins H' b)∧R J H'
def PI (X:Cx) (tg iter:Expr) (wi:TI):Prop :=
  ∀ (pins:List (Addr×Obj)) (s:Shared) (σ:St) (H:Hp) (R:It→Hp→Prop),Inv X pins σ H s→wi σ H R →
    wpAny (model X.prog X.w) X.A (eval iter X.env) (fun v s1=>wpAny (model X.prog X.w) X.A (pyIter v) (PIE X pins σ tg R) X.xe s1) X.xe s
theorem qKA {M:Model} {A:Around} {E:Value→Shared→Prop} {s:Shared} {tg:Expr} {it:Addr} {u:Value} {o:Obj} {n:String} {vs:Array Value} {Q:Unit→Shared→Prop} (ho:s.heap.get? it=some o) (hc:o.cls = .type n) (hd:o.data = .fields vs)
    (hn:["enumerate", "zip", "dict_itemiterator", "dict_reverseitemiterator", "odict_iterator", "itertools.zip_longest", "itertools.pairwise"].contains n=false) (hQ:Q () s):wpAny M A (letOwnedTupleGo tg (.ref it) u) Q E s:=by
  unfold letOwnedTupleGo
  cases tg <;> first
    | exact wpAny_pure hQ
    | (cases u<;>first
        | exact wpAny_pure hQ
        | (refine wpAny_bind (wpAny_load ho ?_)
           rw [hc,hd]
           show wpAny M A (if (["enumerate", "zip", "dict_itemiterator", "dict_reverseitemiterator", "odict_iterator", "itertools.zip_longest", "itertools.pairwise"].contains n&&vs[0]? == some (rawInt _))=true then _ else _) Q E s
           rw [if_neg (by intro h;rw [hn,Bool.false_and] at h;cases h)]
           exact wpAny_pure hQ))
noncomputable def Itl (K:W.Frag) (a:Addr):It :=
  ⟨fun i H=>∃ xs x,SqL K H a xs∧xs[i]? = some x,fun i H x H'=>H'=H∧∀ xs,SqL K H a xs→xs[i]? = some x,fun i H=>∃ xs,SqL K H a xs∧xs.length≤i⟩
noncomputable def Itt (K:W.Frag) (a:Addr):It :=
  ⟨fun i H=>∃ xs x,SqT K H a xs∧xs[i]? = some x,fun i H x H'=>H'=H∧∀ xs,SqT K H a xs→xs[i]? = some x,fun i H=>∃ xs,SqT K H a xs∧xs.length≤i⟩
noncomputable def Itr (lo:Int) (n:Nat):It:=⟨fun i _=>i<n,fun i H x H'=>H'=H∧x = .int (lo+i),fun i _=>n≤i⟩
theorem qI3 {P:Program} {w:World} {K:W.Frag} {tg:Expr} (a it:Addr):Turn P w K tg (Itl K a) [it] it (fun i h=>h.IsListIter it a i) where
  mem:=by simp
  obj:=fun i h st b hb=>by
    have e:b=it:=by simpa using hb
    subst e
    obtain⟨o,e,c,d⟩:=st
    exact⟨o,e,fun v z=>by rw [d] at z;cases z⟩
  keep:=fun i h h' st k=>st.at fun o e=>k it (by simp) o e
  item:=by
    k_dat 0"r17"
    subst hP hw hK
    obtain⟨xs,x,hq,hx⟩:=hg
    obtain⟨its,rv,p,hz⟩:=I.list hq
    obtain⟨u,hu,ru⟩:=rv.get hx
    k_dat 0"r18"
    refine wpAny_pyNext_list_item st p.isList (x:=u) (by simpa using hu) fun h' st' sb=>?_
    k_dat 0"r42"
    obtain⟨o,e,c,d⟩:=id st'
    exact⟨u,rfl,qKA (s:={ s with heap:=h' }) e c d (by decide) ⟨x,H,I1,ru,⟨rfl,fun ys hy=>by rw [I.qK5 hy hq];exact hx⟩,st',fun b hb=>(hf b hb).1⟩⟩
  done:=by
    k_dat 0"r17"
    subst hP hw hK
    obtain⟨xs,hq,hx⟩:=hg
    obtain⟨its,rv,p,hz⟩:=I.list hq
    k_dat 0"r18"
    have hl:=rv.length
    exact wpAny_pyNext_list_end (I.ok.hd hc) st p.isList (by simp;omega) fun h' eb=>⟨rfl,I.turned (t':=s.toks) (fun b o hb e=>eb b o hb e) f0 f1 f3 f4 f5⟩
  self:=fun _ _ _ _ _ st h=>wpAny_pyIter_listiter st h
theorem qHs {P:Program} {w:World} {K:W.Frag} {tg:Expr} (a it:Addr):Turn P w K tg (Itt K a) [it] it (fun i h=>h.IsTupleIter it a i) where
  mem:=by simp
  obj:=fun i h st b hb=>by
    have e:b=it:=by simpa using hb
    subst e
    obtain⟨o,e,c,d⟩:=st
    exact⟨o,e,fun v z=>by rw [d] at z;cases z⟩
  keep:=fun i h h' st k=>st.at fun o e=>k it (by simp) o e
  item:=by
    k_dat 0"r17"
    subst hP hw hK
    obtain⟨xs,x,hq,hx⟩:=hg
    obtain⟨its,rv,p,hz⟩:=I.tuple hq
    obtain⟨u,hu,ru⟩:=rv.get hx
    k_dat 0"r18"
    refine wpAny_pyNext_tuple_item st (show s.heap.IsTuple a its.toArray from p) (x:=u) (by simpa using hu) fun h' st' sb=>?_
    k_dat 0"r42"
    obtain⟨o,e,c,d⟩:=id st'
    exact⟨u,rfl,qKA (s:={ s with heap:=h' }) e c d (by decide) ⟨x,H,I1,ru,⟨rfl,fun ys hy=>by rw [I.qFZ hy hq];exact hx⟩,st',fun b hb=>(hf b hb).1⟩⟩
  done:=by
    k_dat 0"r17"
    subst hP hw hK
    obtain⟨xs,hq,hx⟩:=hg
    obtain⟨its,rv,p,hz⟩:=I.tuple hq
    k_dat 0"r18"
    have hl:=rv.length
    exact wpAny_pyNext_tuple_end (I.ok.hd hc) st (show s.heap.IsTuple a its.toArray from p) (by simp;omega) fun h' eb=>⟨rfl,I.turned (t':=s.toks) (fun b o hb e=>eb b o hb e) f0 f1 f3 f4 f5⟩
  self:=fun _ _ _ _ _ st h=>wpAny_pyIter_tupleiter st h
theorem qHm {P:Program} {w:World} {K:W.Frag} {tg:Expr} (it:Addr) (lo:Int) (n:Nat):Turn P w K tg (Itr lo n) [it] it (fun i h=>IsRangeIter h it (lo+(i:Nat) * 1) ((n:Int) - (i:Nat)) 1) where
  mem:=by simp
  obj :=fun i h st b hb=>by
    have e:b=it:=by simpa using hb
    subst e
    exact⟨_,st,fun v z=>by
      have z':Data.fields _=Data.cell v:=z
      cases z'⟩
  keep:=fun i h h' st k=>k it (by simp) _ st
  item:=by
    k_dat 0"r17"
    subst hP hw hK
    k_dat 0"r18"
    have W:=Walks.range (prog:=X.prog) (w:=X.w) (I.ok.hd hc) it lo 1 n
    refine W.item i s _ _ hg st fun v h' tk hv st' kk=>?_
    obtain⟨t,rfl⟩:=hv
    have I1:Inv X pins σ H { s with heap:=h',toks:=tk }:=I.turned (fun b o hb e=>kk b o (by simpa using hb) e) f0 f1 f3 f4 f5
    refine⟨_,rfl,qKA (s:={ s with heap:=h',toks:=tk }) (n:= "range_iterator") st' rfl rfl (by decide) ⟨.int (lo+i),H,I1,⟨t,?_⟩,⟨rfl,rfl⟩,st',fun b hb=>(hf b hb).1⟩⟩
    rw [Int.mul_one]
  done:=by
    k_dat 0"r17"
    subst hP hw hK
    k_dat 0"r18"
    exact wpAny_pyNext_range_end (I.ok.hd hc) st (by have:n≤i:=hg;omega) fun h' eb=>⟨rfl,I.turned (t':=s.toks) (fun b o hb e=>eb b o hb e) f0 f1 f3 f4 f5⟩
  self:=fun _ _ _ _ _ st h=>wpAny_pyIter_rangeiter st h
end L2
namespace L2
open PySem PySem.Spec PyProof.Rows
section
variable {X:Cx} {tg:Expr}
theorem qKR {pins:List (Addr×Obj)} {σ:St} {H:Hp} {s:Shared} {R:It→Hp→Prop} {E:Value→Shared→Prop} {lo hi:Int} {t u v:Tok} {tk:Nat} (I:Inv X pins σ H s) (h1:-(2 ^ 62)≤lo) (h2:lo<2 ^ 62) (h3:-(2 ^ 62)≤hi) (h4:hi<2 ^ 62)
    (q:R (Itr lo (hi - lo).toNat) H):wpAny (model X.prog X.w) X.A (pyIter (.ref s.heap.objs.size)) (PIE X pins σ tg R) E { s with heap:=s.heap.push { cls:=.type "range",data:=.fields #[.int lo t,.int hi u,.int 1 v] },toks:=tk }:=by
  refine wpAny_pyIter_range (IsRange.new ..) (small_one h1 h2 h3 h4) ?_
  have I1:Inv X pins σ H { s with heap:=s.heap.push { cls:=.type "range",data:=.fields #[.int lo t,.int hi u,.int 1 v] },toks:=tk }:=I.kept fun b o e=>Heap.get?_push_of_some _ e
  refine⟨(s.heap.push { cls:=.type "range",data:=.fields #[.int lo t,.int hi u,.int 1 v] }).objs.size,[(s.heap.push { cls:=.type "range",data:=.fields #[.int lo t,.int hi u,.int 1 v] }).objs.size],_,_,H,rfl,
    I1.kept (t':=tk) fun b o e=>Heap.get?_push_of_some _ e,qHm _ lo (hi - lo).toNat,?_,fun b hb=>?_,q⟩
  · have e1:lo+((0:Nat):Int) * 1=lo:=by simp
    have e2:(((hi - lo).toNat:Nat):Int) - ((0:Nat):Int)=Builtin.Range.rangeSize lo hi 1:=by rw [rangeSize_one];split<;>omega
    show IsRangeIter _ _ (lo+((0:Nat):Int) * 1) ((((hi - lo).toNat:Nat):Int) - ((0:Nat):Int)) 1
    rw [e1,e2]
    exact Heap.get?_push_size _ rfl
  · have e:b=(s.heap.push { cls:=.type "range",data:=.fields #[.int lo t,.int hi u,.int 1 v] }).objs.size:=by simpa using hb
    subst e
    k_dat 0"r32"
noncomputable def qPe (ta:TA):TI:=fun σ H R=>ta σ H fun vs H1=>∃ j:Int,vs=[.int j]∧-(2 ^ 62)≤j∧j<2 ^ 62∧R (Itr 0 j.toNat) H1
theorem qI0 {a:Expr} {ta:TA} {p pos:Pos} (hg:Gl X "range") (hm:X.mg "range" = none) (ha:PA X [a] ta) (hs:starEach [a] X.env=[(false,eval a X.env)]:=by rfl):PI X tg (.Call (.Name "range" p) [a] [] pos) (qPe ta):=by
  intro pins s σ H R I h
  refine Call_ (qDu I hg hm boot_range (PyProof.Rows.callWith_type1 (thn (ha pos pins s σ H _ I h) fun us s1 ⟨vs,H1,I1,r1,q1⟩=>?_) hs rfl))
  obtain⟨j,e,q1,q2,q⟩:=q1
  subst e
  cases r1 with
  | cons r rr =>
    cases rr
    obtain⟨t,rfl⟩:=r
    exact call_range_1 (qKR I1 (by omega) (by omega) q1 q2 (by simpa using q))
noncomputable def qQ4 (wi:TI) (g:TG) (tb:TS):TS:=fun D σ H=>wi σ H fun J H1=>∃ W:Nat→Nat→St→Hp→Prop,(∃ m,W 0 m σ H1)∧∀ i m σ H,W i m σ H →
  (J.stop i H∧D.nx σ H)∨(J.go i H∧∃ N:St→Hp→Prop,(∀ σ' H',N σ' H'→∃ m',m'<m∧W (i+1) m' σ' H')∧∀ x H',J.yld i H x H'→g x σ H' fun σ2 H2=>tb { D with nx:=N,ct:=N,bk:=D.nx } σ2 H2)
noncomputable def qEb (fp:List Addr) (h:Heap):List (Addr×Obj):=fp.filterMap fun b=>(h.get? b).map fun o=>(b,o)
theorem qCC {fp:List Addr} {h:Heap} {b:Addr} {o:Obj} (hb:b∈fp) (e:h.get? b=some o):(b,o)∈qEb fp h:=List.mem_filterMap.mpr ⟨b,hb,by rw [e];rfl⟩
theorem qJD {fp:List Addr} {h:Heap} {p:Addr×Obj} (hp:p∈qEb fp h):p.1∈fp∧h.get? p.1=some p.2:=by
  obtain⟨b,hb,e⟩:=List.mem_filterMap.mp hp
  cases q:h.get? b with
  | none=>rw [q] at e;cases e
  | some o =>
    rw [q] at e
    have e':(b,o)=p:=Option.some.inj e
    subst e'
    exact⟨hb,q⟩
theorem Inv.pinned {pins:List (Addr×Obj)} {σ:St} {H:Hp} {s:Shared} {fp:List Addr} (I:Inv X pins σ H s) (hf:∀ b∈fp,qFC X pins H b) (ho:∀ b∈fp,∃ o,s.heap.get? b=some o∧∀ v,o.data≠.cell v):Inv X (pins++qEb fp s.heap) σ H s :=
  I.qEQ fun p hp=>(List.mem_append.mp hp).elim (fun z=>I.pin p (List.mem_append_right _ z)) fun z=>by
    obtain⟨hb,e⟩:=qJD z
    obtain⟨f0,f1,f2,_⟩:=hf p.1 hb
    obtain⟨o,e',d⟩:=ho p.1 hb
    rw [e] at e';cases e'
    exact⟨e,f0,f1,f2,d⟩
theorem Inv.qDX {pins pl:List (Addr×Obj)} {σ:St} {H:Hp} {s:Shared} (I:Inv X (pins++pl) σ H s):Inv X pins σ H s:=I.qEQ fun p hp=>I.pin p (List.mem_append_right _ (List.mem_append_left _ hp))
theorem qN5 {iter:Expr} {body:List Stmt} {wi:TI} {g:TG} {tb:TS} {pos:Pos} (hp:PassesOwn (model X.prog X.w) X.A X.env X.xe) (hc:X.calm=true) (hi:PI X tg iter wi) (hg:PG X tg g) (hb:PSs X body tb)
    (hs:∀ x,foldedSetIterable iter X.env x=pure x:=by intro _;rfl):PS X (.For tg iter body [] pos) (qQ4 wi g tb):=by
  k_dat 0"r9"
  refine wpAny_For (thn (hi pins s σ H _ I h) fun v s1 h1=>thn h1 fun itv s2 h2=>?_) hs
  obtain⟨it,fp,tn,J,H2,e,I2,T,st2,f2,W,⟨m0,w0⟩,turn⟩:=h2
  subst e
  -- what stays true of the iterator's objects through the loop
  have stat:∀ {H':Hp},(∀ b∈fp,H' b=none)→∀ b∈fp,qFC X pins H' b:=fun hn b hb=>⟨hn b hb,(f2 b hb).2⟩
  refine codeAny_forLoop_any (fun n s'=>∃ i σ' H',Inv X pins σ' H' s'∧tn i s'.heap∧(∀ b∈fp,H' b=none)∧W i n σ' H') ?_ m0 ⟨0,σ,H2,I2,st2,fun b hb=>(f2 b hb).1,w0⟩
  rintro n s3 ⟨i,σ3,H3,I3,st3,fr3,w3⟩
  rcases turn i n σ3 H3 w3 with ⟨stop,qn⟩ | ⟨go,N,hN,step⟩
  · refine wpAny_passesOwn hp (thn (T.done X rfl rfl rfl hc i pins s3 σ3 H3 X.xe I3 (stat fr3) st3 stop) fun r s4 ⟨hr,I4⟩=>?_)
    subst hr
    exact wpAny_execs_nil ⟨σ3,H3,I4,qn⟩
  · refine wpAny_passesOwn hp (thn (T.item X rfl rfl rfl hc i pins s3 σ3 H3 X.xe I3 (stat fr3) st3 go) fun r s4 ⟨u,hr,h4⟩=>?_)
    subst hr
    refine wpAny_passesOwn hp (thn h4 fun _ s5 ⟨x,H5,I5,r5,y5,st5,fr5⟩=>?_)
    have I5':=I5.pinned (stat fr5) (T.obj _ _ st5)
    refine wpAny_passesOwn hp (thn (hg _ s5 σ3 H5 x u _ I5' r5 (step x H5 y5)) fun _ s6 ⟨σ6,H6,I6,q6⟩=>?_)
    refine wpAny_passesOwn hp (thn (hb _ s6 σ6 H6 _ I6 q6) fun f s7 q7=>?_)
    have again:∀ {σ7:St} {H7:Hp},Inv X (pins++qEb fp s5.heap) σ7 H7 s7→N σ7 H7→∃ m,m<n∧∃ i σ' H',Inv X pins σ' H' s7∧tn i s7.heap∧(∀ b∈fp,H' b=none)∧W i m σ' H':=fun {σ7 H7} I7 n7=>by
      obtain⟨m',hm,w7⟩:=hN σ7 H7 n7
      refine⟨m',hm,i+1,σ7,H7,I7.qDX,T.keep _ _ _ st5 fun b hb o e=>(I7.pin (b,o) (List.mem_append_right _ (List.mem_append_right _ (qCC hb e)))).1,fun b hb=>?_,w7⟩
      obtain⟨o,e,d⟩:=T.obj _ _ st5 b hb
      exact (I7.pin (b,o) (List.mem_append_right _ (List.mem_append_right _ (qCC hb e)))).2.1
    cases f with
    | next=>obtain⟨σ7,H7,I7,n7⟩:=q7;exact again I7 n7
    | cont=>obtain⟨σ7,H7,I7,n7⟩:=q7;exact again I7 n7
    | brk=>obtain⟨σ7,H7,I7,q7⟩:=q7;exact⟨σ7,H7,I7.qDX,q7⟩
    | ret v=>obtain⟨x7,σ7,H7,I7,r7,q7⟩:=q7;exact⟨x7,σ7,H7,I7.qDX,r7,q7⟩
end
end L2
namespace L2
open PySem PySem.Spec PyProof.Rows
noncomputable abbrev R2:=V→V→Hp→VK→Prop
def OpR (X:Cx) (f:Value→Value→Sem Value) (r:R2):Prop :=
  ∀ (pins:List (Addr×Obj)) (s:Shared) (σ:St) (H:Hp) (x y:V) (v u:Value) (Q:VK),Inv X pins σ H s→RelV x v→RelV y u→r x y H Q →
    wpAny (model X.prog X.w) X.A (f v u) (EP X pins σ Q) X.xe s
def UnR (X:Cx) (f:Value→Sem Value) (r:V→Hp→VK→Prop):Prop :=
  ∀ (pins:List (Addr×Obj)) (s:Shared) (σ:St) (H:Hp) (x:V) (v:Value) (Q:VK),Inv X pins σ H s→RelV x v→r x H Q →
    wpAny (model X.prog X.w) X.A (f v) (EP X pins σ Q) X.xe s
def qDR (X:Cx) (f:Value) (r:List V→Hp→VK→Prop):Prop :=
  ∀ (pins:List (Addr×Obj)) (s:Shared) (σ:St) (H:Hp) (xs:List V) (us:List Value) (Q:VK),Inv X pins σ H s→Vals xs us→r xs H Q →
    wpAny (model X.prog X.w) X.A (call f us) (EP X pins σ Q) X.xe s
noncomputable def tOp (r:R2) (ta tb:TE):TE:=fun σ H Q=>ta σ H fun x H1=>tb σ H1 fun y H2=>r x y H2 Q
noncomputable def tUn (r:V→Hp→VK→Prop) (ta:TE):TE:=fun σ H Q=>ta σ H fun x H1=>r x H1 Q
noncomputable def rI (C:Int→Int→Prop) (g:Int→Int→V):R2:=fun x y H Q=>∃ i j,x = .int i∧y = .int j∧C i j∧Q (g i j) H
noncomputable def rI0 (g:Int→Int→V):R2:=fun x y H Q=>∃ i j,x = .int i∧y = .int j∧Q (g i j) H
noncomputable def rU (g:Int→V):V→Hp→VK→Prop:=fun x H Q=>∃ i,x = .int i∧Q (g i) H
section
variable {X:Cx} {a b c:Expr} {ta tb tc:TE} {pos:Pos}
theorem qOQ (ha:PE X a ta) (hb:PE X b tb) {pins:List (Addr×Obj)} {s:Shared} {σ:St} {H:Hp} {R:V→V→Hp→Prop} (I:Inv X pins σ H s)
    (h:ta σ H fun x H1=>tb σ H1 fun y H2=>R x y H2) {Q:Value→Shared→Prop} {f:Value→Value→Sem Value}
    (hf:∀ v u s2 x y H2,Inv X pins σ H2 s2→RelV x v→RelV y u→R x y H2→wpAny (model X.prog X.w) X.A (f v u) Q X.xe s2) :
    wpAny (model X.prog X.w) X.A (eval a X.env) (fun v s₁=>wpAny (model X.prog X.w) X.A (eval b X.env) (fun u s₂=>wpAny (model X.prog X.w) X.A (f v u) Q X.xe s₂) X.xe s₁) X.xe s:=by
  refine thn (ha pins s σ H _ I h) fun v s1 ⟨x,H1,I1,r1,q1⟩=>?_
  refine thn (hb pins s1 σ H1 _ I1 q1) fun u s2 ⟨y,H2,I2,r2,q2⟩=>?_
  exact hf v u s2 x y H2 I2 r1 r2 q2
theorem qPz {op:Operator} {r:R2} (ho:OpR X (binaryOp op) r) (ha:PE X a ta) (hb:PE X b tb):PE X (.BinOp a op b pos) (tOp r ta tb):=by
  k_dat 0"r1"
  exact wpAny_BinOp (qOQ ha hb I h fun v u s2 x y H2 I2 rx ry q=>ho pins s2 σ H2 x y v u Q I2 rx ry q)
theorem qQP {op:UnaryOp} {r:V→Hp→VK→Prop} (ho:UnR X (unaryOp op) r) (ha:PE X a ta):PE X (.UnaryOp op a pos) (tUn r ta):=by
  k_dat 0"r1"
  exact UnaryOp_ (thn (ha pins s σ H _ I h) fun v s1 ⟨x,H1,I1,r1,q1⟩=>ho pins s1 σ H1 x v Q I1 r1 q1)
theorem opI {f:Value→Value→Sem Value} {C:Int→Int→Prop} {g:Int→Int→Int}
    (rule:∀ (i j:Int) (t u:Tok) (s:Shared) (Q:Value→Shared→Prop) (E:Value→Shared→Prop),C i j→Q (.int (g i j) s.toks) { s with toks:=s.toks+1 }→wpAny (model X.prog X.w) X.A (f (.int i t) (.int j u)) Q E s) :
    OpR X f (rI C fun i j=>.int (g i j)):=by
  k_dat 0"r4"
  obtain⟨i,j,rfl,rfl,hc,q⟩:=h
  obtain⟨t,rfl⟩:=rx
  k_dat 0"r10"
  exact rule i j t t' s _ _ hc ⟨.int (g i j),H,I.tok _,⟨_,rfl⟩,q⟩
theorem qPj {f:Value→Value→Sem Value} {g:Int→Int→Int}
    (rule:∀ (i j:Int) (t u:Tok) (s:Shared) (Q:Value→Shared→Prop) (E:Value→Shared→Prop),Q (.int (g i j) s.toks) { s with toks:=s.toks+1 }→wpAny (model X.prog X.w) X.A (f (.int i t) (.int j u)) Q E s) :
    OpR X f (rI0 fun i j=>.int (g i j)):=by
  k_dat 0"r4"
  obtain⟨i,j,rfl,rfl,q⟩:=h
  obtain⟨t,rfl⟩:=rx
  k_dat 0"r10"
  exact rule i j t t' s _ _ ⟨.int (g i j),H,I.tok _,⟨_,rfl⟩,q⟩
theorem qLl {f:Value→Value→Sem Value} {g:Int→Int→Bool}
    (rule:∀ (i j:Int) (t u:Tok) (s:Shared) (Q:Value→Shared→Prop) (E:Value→Shared→Prop),Q (.bool (g i j)) s→wpAny (model X.prog X.w) X.A (f (.int i t) (.int j u)) Q E s) :
    OpR X f (rI0 fun i j=>.bl (g i j)):=by
  k_dat 0"r4"
  obtain⟨i,j,rfl,rfl,q⟩:=h
  obtain⟨t,rfl⟩:=rx
  k_dat 0"r10"
  exact rule i j t t' s _ _ ⟨.bl (g i j),H,I,rfl,q⟩
def qQB (i j:Int):Prop:=0<j∧j<1073741824
def qQU (i j:Int):Prop:=0≤j∧j≤1000000∧i.natAbs<2 ^ 64
def qHJ (i j:Int):Prop:=(-(2 ^ 64)<i∧i<2 ^ 64)∨(-(2 ^ 64)<j∧j<2 ^ 64)
theorem qHJ.ok {i j:Int} (h:qHJ i j):IntMulOk i j:=by
  rcases h with ⟨h1,h2⟩ | ⟨h1,h2⟩
  · exact .of_left (intBits_le_64 h1 h2)
  · exact .of_right (intBits_le_64 h1 h2)
theorem qOn:OpR X (binaryOp .Add) (rI0 fun i j=>.int (i+j)):=qPj fun _ _ _ _ _ _ _ q=>add_int q
theorem qNi:OpR X (binaryOp .Sub) (rI0 fun i j=>.int (i - j)):=qPj fun _ _ _ _ _ _ _ q=>sub_int q
theorem qPP:OpR X (binaryOp .Mult) (rI qHJ fun i j=>.int (i * j)):=opI fun _ _ _ _ _ _ _ hc q=>mul_int q hc.ok
theorem qLT:OpR X (binaryOp .FloorDiv) (rI qQB fun i j=>.int (i / j)):=opI fun i j _ _ _ _ _ hc q=>by
  have h1:(0:Int)<j:=hc.1
  have h2:j<1073741824:=hc.2
  exact floordiv_int (by omega) (by rw [Int.fdiv_eq_ediv_of_nonneg i (by omega)];exact q) (.inl (PyProof.noPylong_small (by omega)))
theorem qN6:OpR X (binaryOp .Mod) (rI (fun _ j=>0<j) fun i j=>.int (i%j)):=opI fun i j _ _ _ _ _ hc q=>by
  have h1:(0:Int)<j:=hc
  exact mod_int' (by omega) (by rw [Int.fmod_eq_emod_of_nonneg i (by omega)];exact q)
theorem qNh:OpR X (binaryOp .Pow) (rI qQU fun i j=>.int (i ^ j.toNat)):=opI fun _ _ _ _ _ _ _ hc q=>pow_int_small hc.1 hc.2.1 hc.2.2 q
theorem unI {f:Value→Sem Value} {g:Int→Int}
    (rule:∀ (i:Int) (t:Tok) (s:Shared) (Q:Value→Shared→Prop) (E:Value→Shared→Prop),Q (.int (g i) s.toks) { s with toks:=s.toks+1 }→wpAny (model X.prog X.w) X.A (f (.int i t)) Q E s) :
    UnR X f (rU fun i=>.int (g i)):=by
  intro pins s σ H x v Q I rx h
  obtain⟨i,rfl,q⟩:=h
  obtain⟨t,rfl⟩:=rx
  exact rule i t s _ _ ⟨.int (g i),H,I.tok _,⟨_,rfl⟩,q⟩
theorem qO2:UnR X (unaryOp .USub) (rU fun i=>.int (-i)):=unI fun _ _ _ _ _ q=>neg_int q
end
section
variable {X:Cx} {a b c:Expr} {ta tb tc:TE} {pos:Pos}
theorem qH6 {pins:List (Addr×Obj)} {σ:St} {H:Hp} {s:Shared} {Q:VK} {k k':Bool} (I:Inv X pins σ H s) (q:Q (.bl k) H) (e:k=k'):EP X pins σ Q (.bool k') s:=by
  subst e
  exact⟨.bl k,H,I,rfl,q⟩
theorem qNE:OpR X (compareOp .Lt) (rI0 fun i j=>.bl (decide (i<j))):=qLl fun _ _ _ _ _ _ _ q=>lt_int q
theorem qQd:OpR X (compareOp .LtE) (rI0 fun i j=>.bl (decide (i≤j))):=qLl fun _ _ _ _ _ _ _ q=>le_int q
theorem qQX:OpR X (compareOp .Gt) (rI0 fun i j=>.bl (decide (j<i))):=qLl fun _ _ _ _ _ _ _ q=>gt_int q
theorem qP1:OpR X (compareOp .GtE) (rI0 fun i j=>.bl (decide (j≤i))):=qLl fun _ _ _ _ _ _ _ q=>ge_int q
theorem qIz:OpR X (compareOp .In) (fun x y H Q=>∃ i j,x = .str i∧y = .str j∧Q (.bl (!(Builtin.Str.occurrences j i 0 j.length 1).isEmpty)) H):=by
  k_dat 0"r4"
  obtain⟨i,j,rfl,rfl,q⟩:=h
  obtain⟨t,rfl⟩:=rx
  k_dat 0"r10"
  exact in_str (qH6 I q rfl)
theorem qKV:OpR X (compareOp .Is) (fun x y H Q=>y = .non∧Q (.bl (decide (x = .non))) H):=by
  k_dat 0"r4"
  obtain⟨rfl,q⟩:=h
  cases ry
  refine is_none_gen (qH6 I q ?_)
  cases x<;>first
    | (cases rx;rfl)
    | (obtain⟨t,rfl⟩:=rx;rfl)
theorem qIb:OpR X (compareOp .IsNot) (fun x y H Q=>y = .non∧Q (.bl (!decide (x = .non))) H):=by
  k_dat 0"r4"
  obtain⟨rfl,q⟩:=h
  cases ry
  refine isnot_none_gen (qH6 I q ?_)
  cases x<;>first
    | (cases rx;rfl)
    | (obtain⟨t,rfl⟩:=rx;rfl)
theorem qIC (b:Expr) {op:CmpOp} (h:op≠.In:=by decide) (h2:op≠.NotIn:=by decide):behindInMarks op b=false:=by
  have e1:(op==CmpOp.In)=false:=by cases op<;>first | rfl | exact absurd rfl h
  have e2:(op==CmpOp.NotIn)=false:=by cases op<;>first | rfl | exact absurd rfl h2
  cases b<;>simp [behindInMarks,e1,e2]
theorem qMN {op:CmpOp} {r:R2} (ho:OpR X (compareOp op) r) (ha:PE X a ta) (hb:PE X b tb) (hm:behindInMarks op b=false):PE X (.Compare a [op] [b] pos) (tOp r ta tb):=by
  k_dat 0"r1"
  exact wpAny_Compare1 (qOQ ha hb I h fun v u s2 x y H2 I2 rx ry q=>ho pins s2 σ H2 x y v u Q I2 rx ry q) hm
noncomputable def qPd (t:TE):TT:=fun σ H Q=>t σ H fun x H'=>∃ k,x = .bl k∧Q k H'
theorem qMH {op:CmpOp} {r:R2} (ho:OpR X (compareOp op) r) (ha:PE X a ta) (hb:PE X b tb) (hm:behindInMarks op b=false):PT X (.Compare a [op] [b] pos) (qPd (tOp r ta tb)):=by
  k_dat 0"r1"
  refine wpAny_isTrue_Compare1 (thn (ha pins s σ H _ I h) fun v s1 ⟨x,H1,I1,r1,q1⟩=>thn (hb pins s1 σ H1 _ I1 q1) fun u s2 ⟨y,H2,I2,r2,q2⟩ =>
    thn (ho pins s2 σ H2 x y v u _ I2 r1 r2 q2) fun c s3 ⟨z,H3,I3,r3,k,e,q3⟩=>?_) hm
  subst e
  cases r3
  exact wpAny_truthy_bool ⟨H3,I3,q3⟩
noncomputable def qJu (r r':R2) (ta tb tc:TE):TE:=fun σ H Q=>ta σ H fun x H1=>tb σ H1 fun y H2=>r x y H2 fun z H3=>∃ k,z = .bl k ∧
  (if k=true then tc σ H3 fun w' H4=>r' y w' H4 Q else Q (.bl false) H3)
theorem qKo {op op':CmpOp} {r r':R2} (ho:OpR X (compareOp op) r) (ho':OpR X (compareOp op') r') (ha:PE X a ta) (hb:PE X b tb) (hc:PE X c tc)
    (hm:lastMarks [op,op'] [b,c]=false:=by with_unfolding_all rfl):PE X (.Compare a [op,op'] [b,c] pos) (qJu r r' ta tb tc):=by
  k_dat 0"r1"
  refine Compare_chain (thn (ha pins s σ H _ I h) fun v s1 ⟨x,H1,I1,r1,q1⟩=>chain_link (thn (hb pins s1 σ H1 _ I1 q1) fun u s2 ⟨y,H2,I2,r2,q2⟩ =>
    thn (ho pins s2 σ H2 x y v u _ I2 r1 r2 q2) fun d s3 ⟨z,H3,I3,r3,k,e,q3⟩=>?_)) hm
  subst e
  cases r3
  refine wpAny_truthy_bool ?_
  cases k with
  | false=>exact ite_ff ⟨.bl false,H3,I3,rfl,q3⟩
  | true=>exact ite_tt (chain_last (thn (hc pins s3 σ H3 _ I3 q3) fun w' s4 ⟨z',H4,I4,r4,q4⟩=>ho' pins s4 σ H4 y z' u w' Q I4 r2 r4 q4))
theorem qDk:(sizeLine:Nat)<2 ^ 63:=by rw [sizeLine_eq];decide
theorem qH7:OpR X (binaryOp .Add) (fun x y H Q=>∃ i j,x = .str i∧y = .str j∧i.length+j.length≤sizeLine∧Q (.str (i++j)) H):=by
  k_dat 0"r4"
  obtain⟨i,j,rfl,rfl,hz,q⟩:=h
  obtain⟨t,rfl⟩:=rx
  k_dat 0"r10"
  exact add_str (fun t' tk=>⟨.str (i++j),H,I.tok _,⟨_,rfl⟩,q⟩) hz
theorem vals1 {x:V} {us:List Value} (r:Vals [x] us):∃ u,us=[u]∧RelV x u:=by
  cases r with
  | cons r1 r2=>cases r2;exact⟨_,rfl,r1⟩
theorem vals2 {x y:V} {us:List Value} (r:Vals [x,y] us):∃ u w',us=[u,w']∧RelV x u∧RelV y w':=by
  cases r with
  | cons r1 r2 =>
    cases r2 with
    | cons r3 r4=>cases r4;exact⟨_,_,rfl,r1,r3⟩
theorem qI5 (hc:X.calm=true):qDR X (.builtin "max") (fun xs H Q=>∃ i j,xs=[.int i,.int j]∧Q (.int (if j > i then j else i)) H):=by
  k_dat 0"r19"
  obtain⟨i,j,rfl,q⟩:=h
  obtain⟨u,w',rfl,⟨t,rfl⟩,⟨t',rfl⟩⟩:=vals2 r
  refine max_two_ints (I.ok.hd hc) fun h' tk k=>⟨_,H,I.kept k,?_,q⟩
  by_cases hj:j > i
  · rw [if_pos hj,if_pos hj];exact⟨_,rfl⟩
  · rw [if_neg hj,if_neg hj];exact⟨_,rfl⟩
theorem qFa:qDR X (.type "int") (fun xs H Q=>(∃ i,xs=[.int i]∧Q (.int i) H)∨∃ k,xs=[.bl k]∧Q (.int (if k then 1 else 0)) H):=by
  k_dat 0"r19"
  rcases h with ⟨i,rfl,q⟩ | ⟨k,rfl,q⟩
  · obtain⟨u,rfl,t,rfl⟩:=vals1 r
    exact call_int_int ⟨.int i,H,I,⟨_,rfl⟩,q⟩
  · obtain⟨u,rfl,r1⟩:=vals1 r
    cases r1
    exact call_int_bool ⟨.int (if k then 1 else 0),H,I.tok _,⟨_,rfl⟩,q⟩
end
end L2
namespace L2
open PySem PySem.Spec PyProof.Rows
theorem qFK.some_of {v:V} {o:Option Value} (r:qFK (some v) o):∃ u,o=some u∧RelV v u:=by
  cases o with
  | none=>exact (show False from r).elim
  | some u=>exact⟨u,rfl,r⟩
end L2
namespace L2
open PySem PySem.Spec PyProof.Rows
structure qA4 (k:Nat) (A:Around):Prop where
  hd:A.handled=none
  dp:A.depth+3 * k+5<recursionLimit
  un:A.units+16 * k+200<cLine
theorem qA4.mono {j k:Nat} {A:Around} (r:qA4 k A) (h:j≤k):qA4 j A:=⟨r.hd,by have:=r.dp;omega,by have:=r.un;omega⟩
theorem qA4.deeper {k:Nat} {A:Around} (r:qA4 (k+1) A) (env:Env):qA4 k (A.deeper env) :=
  ⟨r.hd,by have:=r.dp;show A.depth+1+3 * k+5<_;omega,by have:=r.un;show A.units+3+16 * k+200<_;omega⟩
theorem qA4.in1 {k:Nat} {A:Around} (r:qA4 (k+1) A):qA4 k A.in1 :=
  ⟨r.hd,by have:=r.dp;show A.depth+3 * k+5<_;omega,by have:=r.un;show A.units+1+16 * k+200<_;omega⟩
theorem qA4.depth {k:Nat} {A:Around} (r:qA4 k A):A.depth<recursionLimit:=by have:=r.dp;omega
theorem qA4.units {k:Nat} {A:Around} (r:qA4 k A):A.units+64<cLine:=by have:=r.un;omega
noncomputable def qQ9:TA:=fun _ H Q=>Q [] H
noncomputable def qPb (ta:TE) (tr:TA):TA:=fun σ H Q=>ta σ H fun x H1=>tr σ H1 fun xs H2=>Q (x::xs) H2
section
variable {X:Cx} {e:Expr} {es:List Expr} {te:TE} {t:TA} {pos:Pos}
theorem qGI:PA X [] qQ9:=fun _ _ _ _ H Q I h=>Calls.spliced_nil ⟨[],H,I,.nil,h⟩
theorem qCg (ha:PE X e te) (hr:PA X es t) (hs:starEach (e::es) X.env=(false,eval e X.env)::starEach es X.env:=by rfl):PA X (e::es) (qPb te t):=by
  intro pos pins s σ H Q I h
  rw [hs]
  show wpAny _ _ (spliced ((false,eval e X.env)::backTo pos (starEach es X.env))) _ _ s
  refine Calls.spliced_cons (thn (ha pins s σ H _ I h) fun u s1 ⟨x,H1,I1,r1,q1⟩=>?_)
  exact thn (hr pos pins s1 σ H1 _ I1 q1) fun us s2 ⟨xs,H2,I2,r2,q2⟩=>⟨x::xs,H2,I2,.cons r1 r2,q2⟩
noncomputable def qQ0 (t:TA):TE:=fun σ H Q=>t σ H fun xs H1=>xs.length≤sizeLine∧∀ p,H1 p=none→Q (.ref p) (upd H1 p (.tup xs))
noncomputable def qQs (t:TA):TE:=fun σ H Q=>t σ H fun xs H1=>xs.length≤sizeLine∧∀ p,H1 p=none→Q (.ref p) (upd H1 p (.lst xs))
theorem qK7 {x1} (h:PA X es t):PE X (.Tuple es x1 pos) (qQ0 t):=by
  intro pins s σ H Q I hq
  refine wpAny_Tuple_spliced (thn (h pos pins s σ H _ I hq) fun us s1 ⟨xs,H1,I1,r,z,q⟩=>⟨by rw [← r.length];exact z,?_⟩)
  have hf:H1 s1.heap.objs.size=none:=I1.hok.fresh (Nat.le_refl _)
  refine⟨.ref s1.heap.objs.size,upd H1 s1.heap.objs.size (.tup xs),I1.laid (t':=s1.toks) (fun b u e=>Heap.get?_push_of_some _ e) (Nat.le_refl _) ?_,rfl,q _ hf⟩
  exact⟨z,us,r,⟨_,Heap.get?_push_size _ rfl,⟨rfl,rfl⟩,_,rfl⟩⟩
theorem qPR (h:PA X es t):PE X (.List es pos) (qQs t):=by
  intro pins s σ H Q I hq
  refine wpAny_List_spliced (thn (h pos pins s σ H _ I hq) fun us s1 ⟨xs,H1,I1,r,z,q⟩=>⟨by rw [← r.length];exact z,?_⟩)
  have hf:H1 s1.heap.objs.size=none:=I1.hok.fresh (Nat.le_refl _)
  refine⟨.ref s1.heap.objs.size,upd H1 s1.heap.objs.size (.lst xs),I1.laid (t':=s1.toks) (fun b u e=>Heap.get?_push_of_some _ e) (Nat.le_refl _) ?_,rfl,q _ hf⟩
  exact⟨z,us,0,r,Heap.get?_push_size _ rfl⟩
end
noncomputable abbrev Sp:=List V→Hp→VK→XK→Prop
noncomputable abbrev CXT:=List Env→Hp→Shared→XK→Value→Shared→Prop
structure qHd (P:Program) (w:World) (K:W.Frag) (mg:Str→Option Value) (base:Heap) (A:Around) (outer:List Env) (s:Shared) (H:Hp):Prop where
  frames:A.frames=some outer
  mod:Mod K mg base
  bs:∀ b o,base.get? b=some o→s.heap.get? b=some o∧H b=none
  bsz:base.objs.size≤s.heap.objs.size
  qDj:s.heap.FunFrames base outer
  frf:∀ b∈frs outer,H b=none
  hok:HOk P w H s.heap
  bare:AllBare s.gens
def CE (outer:List Env) (P:Program) (w:World) (H:Hp) (s:Shared) (Q:VK) (u:Value) (s':Shared):Prop :=
  ∃ v H',s'.os=s.os∧AllBare s'.gens∧Un (frs outer) [] H H' s.heap s'.heap∧HOk P w H' s'.heap∧RelV v u∧Q v H'
def CR (CX:CXT) (outer:List Env) (P:Program) (w:World) (H:Hp) (s:Shared) (Q:VK) (E:XK) (r:Result) (s':Shared):Prop :=
  match r with
  | .ok (.ret u)=>CE outer P w H s Q u s'
  | .ok _=>False
  | .error e=>CX outer H s E e s'
structure qAM (P:Program) (w:World) (K:W.Frag) (mg:Str→Option Value) (base:Heap) (CX:CXT) (k:Nat) (f:Addr) (fd:FuncData) (ps:List Str) (sp:Sp):Prop where
  len:∀ vs H Q E,sp vs H Q E→vs.length=ps.length
  run:∀ (A:Around) (outer:List Env) (s:Shared) (H:Hp) (args:Args) (us:List Value) (vs:List V) (Q:VK) (E:XK),qA4 k A→qHd P w K mg base A outer s H→BindsTo s fd args (ps.zip us)→Vals vs us→sp vs H Q E →
    codeAny (model P w) A (.call (.ref f) args) (CR CX outer P w H s Q E) s
theorem qHd.in1 {P:Program} {w:World} {K:W.Frag} {mg:Str→Option Value} {base:Heap} {A:Around} {outer:List Env} {s:Shared} {H:Hp} (e:qHd P w K mg base A outer s H) :
    qHd P w K mg base A.in1 outer s H:=⟨e.frames,e.mod,e.bs,e.bsz,e.qDj,e.frf,e.hok,e.bare⟩
section
variable {X:Cx} {pins:List (Addr×Obj)} {σ:St} {H:Hp} {s s':Shared}
theorem Inv.qPo (I:Inv X pins σ H s):qHd X.prog X.w X.K X.mg X.base X.A X.stack s H :=
  ⟨I.ok.frames,I.ok.mod,I.bs,Nat.le_trans I.ok.bsz I.sz,I.stack,I.qGL,I.hok,I.bare⟩
theorem Inv.after {Q:VK} {u:Value} (I:Inv X pins σ H s) (h:CE X.stack X.prog X.w H s Q u s'):EP X pins σ Q u s':=by
  obtain⟨v,H',os,bare,un,hok,r,q⟩:=h
  obtain⟨hh,g,d,t,os'⟩:=s'
  obtain rfl:os'=s.os:=os
  exact⟨v,H',I.call (h':=hh) (g':=g) (d':=d) (t':=t) (ch:=[]) un hok bare (fun b z=>absurd z (by simp)),r,q⟩
end
noncomputable def qPy (sp:Sp) (dvs:List V) (E:XK) (t:TA):TE:=fun σ H Q=>t σ H fun vs H1=>sp (vs++dvs) H1 Q E
def Binds (K:W.Frag) (fd:FuncData) (ps:List Str) (ds:List Value):Prop :=
  ∀ (s:Shared) (us:List Value),K.In s.heap→(us++ds).length=ps.length→BindsTo s fd ⟨us,[]⟩ (ps.zip (us++ds))
theorem Binds.all {K:W.Frag} {fd:FuncData} {ps:List Str} (h:∀ us:List Value,us.length=ps.length→bindArgs fd ⟨us,[]⟩=pure (ps.zip us)):Binds K fd ps []:=fun s us _ hl=>by
  rw [List.append_nil] at hl ⊢
  exact .of_eq (h us hl)
def Passes (CX:CXT) (X:Cx) (E:XK):Prop:=∀ (pins:List (Addr×Obj)) (σ:St) (H:Hp) (s:Shared) (e:Value) (s':Shared),Inv X pins σ H s→CX X.stack H s E e s'→X.xe e s'
section
variable {X:Cx} {CX:CXT} {k:Nat} {f C:Addr} {fd:FuncData} {ps:List Str} {sp:Sp} {dvs:List V} {ds:List Value} {E:XK} {x m:Str} {p pos apos:Pos} {e o:Expr} {es:List Expr} {ta:TE} {t:TA}
theorem qK8 {pins:List (Addr×Obj)} {σ:St} {H:Hp} {s:Shared} {Q:VK} {us:List Value} {vs:List V} (F:qAM X.prog X.w X.K X.mg X.base CX k f fd ps sp) (hr:qA4 k X.A) (hb:Binds X.K fd ps ds) (hd:Vals dvs ds) (hx:Passes CX X E)
    (I:Inv X pins σ H s) (r:Vals vs us) (h:sp (vs++dvs) H Q E):wpAny (model X.prog X.w) X.A (call (.ref f) us) (EP X pins σ Q) X.xe s:=by
  have r2:Vals (vs++dvs) (us++ds):=r.append hd
  have hl:(us++ds).length=ps.length:=by rw [← r2.length];exact F.len _ _ _ _ h
  refine wpAny_call (codeAny_mono (F.run X.A X.stack s H ⟨us,[]⟩ (us++ds) (vs++dvs) Q E hr I.qPo (hb s us I.kIn hl) r2 h) fun r s' hq=>?_)
  cases r with
  | error e=>exact hx pins σ H s e s' I hq
  | ok fl =>
    cases fl with
    | ret u=>exact I.after hq
    | next=>exact False.elim hq
    | brk=>exact False.elim hq
    | cont=>exact False.elim hq
theorem qLW (F:qAM X.prog X.w X.K X.mg X.base CX k f fd ps sp) (hr:qA4 k X.A) (hg:Gl X x) (hm:X.mg x=some (.ref f)) (hk:W.keepIn X.K (.ref f)=true) (hb:Binds X.K fd ps ds) (hd:Vals dvs ds) (hx:Passes CX X E)
    (ha:PA X (e::es) t) (hdb:(x==("__debug__" : Str))=false:=by decide) (he:starEach (e::es) X.env=(false,eval e X.env)::starEach es X.env:=by rfl) (hpl:(backTo pos (starEach es X.env)).any (·.1)=false:=by rfl) :
    PE X (.Call (.Name x p) (e::es) [] pos) (qPy sp dvs E t):=by
  k_dat 0"r1"
  refine wpAny_Call_Name_kw (qBR I hg hm ?_ hdb)
  refine W.callWith_K (h₀:=X.base) I.ok.mod.kin hk (thn (ha pos pins s σ H _ I h) fun us s1 ⟨vs,H1,I1,r,q⟩=>⟨I1.kIn,?_⟩) he hpl
  exact qK8 F hr hb hd hx I1 r q
end
structure qZ (N P:List Str) (sc:Scope):Prop where
  kind:sc.kind = .function
  co:sc.isCoroutine=false
  gen:sc.isGenerator=false
  nd:N.Nodup
  pre:N.take P.length=P
  par:∀ x∈P,sc.names.lookup x=some .local∨sc.names.lookup x=some .cell
  nofree:∀ y∈sc.names,y.2≠.free
theorem qFW {kindOf:Str→Option NameKind} {x:Str}:∀ {binds:List (Str×Value)} {m:Str→Option Value},(∀ v,(x,v) ∉ binds)→bindL kindOf binds m x=m x
  | [],_,_=>rfl
  | (n,v)::r,m,h=>by
    unfold bindL
    rw [qFW fun w hw=>h w (List.mem_cons_of_mem _ hw)]
    split
    · have:x≠n:=by rintro rfl;exact h v List.mem_cons_self
      simp [this]
    · rfl
theorem qFb {kindOf:Str→Option NameKind} {x:Str}:∀ {binds:List (Str×Value)} {m:Str→Option Value},(∀ v,(x,v) ∉ binds)→bindC kindOf binds m x=m x
  | [],_,_=>rfl
  | (n,v)::r,m,h=>by
    unfold bindC
    rw [qFb fun w hw=>h w (List.mem_cons_of_mem _ hw)]
    split
    · rfl
    · have:x≠n:=by rintro rfl;exact h v List.mem_cons_self
      simp [this]
theorem qFj {kindOf:Str→Option NameKind} {x:Str} {v:Value}:∀ {P:List Str} {vs:List Value} {i:Nat} {m:Str→Option Value},P.Nodup→P[i]? = some x→vs[i]? = some v→kindOf x=some .local →
    bindL kindOf (P.zip vs) m x=some v
  | [],_,_,_,_,h,_,_=>by simp at h
  | _::_,[],_,_,_,_,h,_=>by simp at h
  | p::P,w::vs,0,m,nd,h1,h2,hk=>by
    simp at h1 h2;subst h1;subst h2
    show bindL kindOf ((p,w)::P.zip vs) m p=_
    unfold bindL
    rw [qFW fun v hv=>(List.nodup_cons.mp nd).1 (List.of_mem_zip hv).1,if_pos hk]
    simp
  | p::P,w::vs,i+1,m,nd,h1,h2,hk=>by
    show bindL kindOf ((p,w)::P.zip vs) m x=_
    unfold bindL
    exact qFj (i:=i) (List.nodup_cons.mp nd).2 (by simpa using h1) (by simpa using h2) hk
theorem qFS {kindOf:Str→Option NameKind} {x:Str} {v:Value}:∀ {P:List Str} {vs:List Value} {i:Nat} {m:Str→Option Value},P.Nodup→P[i]? = some x→vs[i]? = some v→kindOf x≠some .local →
    bindC kindOf (P.zip vs) m x=some v
  | [],_,_,_,_,h,_,_=>by simp at h
  | _::_,[],_,_,_,_,h,_=>by simp at h
  | p::P,w::vs,0,m,nd,h1,h2,hk=>by
    simp at h1 h2;subst h1;subst h2
    show bindC kindOf ((p,w)::P.zip vs) m p=_
    unfold bindC
    rw [qFb fun v hv=>(List.nodup_cons.mp nd).1 (List.of_mem_zip hv).1,if_neg hk]
    simp
  | p::P,w::vs,i+1,m,nd,h1,h2,hk=>by
    show bindC kindOf ((p,w)::P.zip vs) m x=_
    unfold bindC
    exact qFS (i:=i) (List.nodup_cons.mp nd).2 (by simpa using h1) (by simpa using h2) hk
noncomputable def start (N:List Str) (vs:List V):St:=vs.map some++List.replicate (N.length - vs.length) none
noncomputable def qGA (CX:CXT) (P:Program) (w:World) (K:W.Frag) (mg:Str→Option Value) (base:Heap) (N:List Str) (qual:Str) (scope:Scope) (f:Addr) (cd:Value) (A:Around) (outer:List Env) (s:Shared) (H:Hp) (E:XK):Cx where
  prog:=P
  w:=w
  K:=K
  mg:=mg
  base:=base
  A:=A.deeper (envOfC qual scope s.heap.objs.size f cd)
  N:=N
  s₀:=s
  H₀:=H
  env:=envOfC qual scope s.heap.objs.size f cd
  outer:=outer
  stack:=envOfC qual scope s.heap.objs.size f cd::outer
  ex:=[]
  calm:=true
  fn:=fun _=>true
  pn:=[]
  xe:=fun e s'=>wpAny (model P w) (A.deeper (envOfC qual scope s.heap.objs.size f cd)) (leaving (envOfC qual scope s.heap.objs.size f cd) e) (fun _ s''=>CX outer H s E e s'') (fun e' s''=>CX outer H s E e' s'') s'
theorem qHT {sc:Scope} {n:Nat} {x:Str} (h:sc.names.lookup x=some .cell):∃ c,(cellsFrom n sc.names []).lookup x=some c:=by
  have q:=W.cellsFrom_some sc.names n [] (.inl h)
  exact Option.isSome_iff_exists.mp q
theorem qJa {CX:CXT} {P:Program} {w:World} {K:W.Frag} {mg:Str→Option Value} {base:Heap} {N ps:List Str} {qual:Str} {scope:Scope} {f:Addr} {cd:Value} {A:Around} {outer:List Env} {s s1:Shared} {H:Hp} {E:XK} {us:List Value} {vs:List V}
    (S:qZ N ps scope) (hd:A.handled=none) (e0:qHd P w K mg base A outer s H) (hl:vs.length=ps.length) (r:Vals vs us)
    (x:InCallC s s.heap.objs.size (bindL (envOfC qual scope s.heap.objs.size f cd).kindOf (ps.zip us) fun _=>none) (cellsFrom (s.heap.objs.size+1) scope.names []) (bindC (envOfC qual scope s.heap.objs.size f cd).kindOf (ps.zip us) fun _=>none) s1) :
    Inv (qGA CX P w K mg base N qual scope f cd A outer s H E) [] (start N vs) H s1:=by
  have hpl:ps.length≤N.length:=by have:=congrArg List.length S.pre;rw [List.length_take] at this;omega
  obtain⟨h1,tk,rfl,hk⟩:=x.done
  have noA:∀ b:Addr,b ∉ (qGA CX P w K mg base N qual scope f cd A outer s H E).ex:=fun b z=>absurd (show b∈([]:List Addr) from z) (by simp)
  refine⟨⟨e0.mod,S.kind,rfl,rfl,Nat.le_refl _,fun y z c h1 h2=>?_,fun y hy=>?_,fun y c _ h=>?_,fun _=>hd,Around.frames_deeper e0.frames,.inr ⟨rfl,rfl⟩,fun b z=>absurd z (noA b),e0.bs,e0.bsz,fun b _ _=>noA b,fun b z=>absurd z (noA b),e0.qDj,e0.frf⟩,
    rfl,e0.bare,Un.kept hk,⟨_,x.toInCall.ns,fun i y v h1 h2 h3=>?_⟩,fun y c h=>⟨_,x.cell y c h⟩,e0.hok.fresh (Nat.le_refl _),fun y c h=>?_,fun p hp=>absurd (show p∈([]:List (Addr×Obj)) from hp) (by simp),e0.hok.kept hk,?_⟩
  · exact name_of_addr x.apart (PySem.mem_of_lookup h1) (PySem.mem_of_lookup h2)
  · have hy:scope.names.lookup y=some .cell∨scope.names.lookup y=some .free:=hy
    rcases hy with hy | hy
    · exact qHT hy
    · exact absurd rfl (S.nofree _ (PySem.mem_of_lookup hy))
  · exact Nat.le_of_lt (x.above y c (PySem.mem_of_lookup h))
  · have hi:i<vs.length:=by
      unfold start at h2
      by_cases hi:i<vs.length
      · exact hi
      · rw [List.getElem?_append_right (by simpa using hi)] at h2
        rw [List.getElem?_replicate] at h2
        split at h2<;>cases h2
    have ha:vs[i]? = some v:=by
      unfold start at h2
      rw [List.getElem?_append_left (by simpa using hi),List.getElem?_map] at h2
      cases e:vs[i]? with
      | none=>rw [e] at h2;cases h2
      | some a=>rw [e] at h2;cases h2;rfl
    obtain⟨u,hu,rv⟩:=r.get ha
    have hp:ps[i]? = some y:=by
      rw [← S.pre,List.getElem?_take_of_lt (by omega)];exact h1
    have ndP:ps.Nodup:=by rw [← S.pre];exact S.nd.sublist (List.take_sublist _ _)
    refine⟨u,rv,?_⟩
    rcases S.par y (List.mem_of_getElem? hp) with k | k
    · exact .inl ⟨k,qFj ndP hp hu k⟩
    · obtain⟨c,e⟩:=qHT (n:=s.heap.objs.size+1) k
      refine .inr ⟨.inl k,c,e,?_⟩
      have q:=x.cell y c e
      rw [qFS ndP hp hu (by show scope.names.lookup y≠_;rw [k];decide)] at q
      exact q
  · exact e0.hok.fresh (Nat.le_of_lt (x.above y c (PySem.mem_of_lookup h)))
  · unfold start
    show _=N.length
    rw [List.length_append,List.length_map,List.length_replicate]
    omega
theorem qMz {CX:CXT} {P:Program} {w:World} {K:W.Frag} {mg:Str→Option Value} {base:Heap} {k:Nat} {f:Addr} {name qual:Str} {params:Arguments} {body:List Stmt} {scope:Scope} {dV kV doc pm cdv ct oc:Value} {an od:Option Addr}
    {osl:Array (Option Value)} {N ps:List Str} {sp:Sp} (lk:K.lookup f=some ⟨oc,od,.func (W.fnOf name qual params body scope dV kV doc pm an cdv ct),osl⟩) (hcd:W.codeIn K cdv qual=true) (S:qZ N ps scope)
    (len:∀ vs H Q E,sp vs H Q E→vs.length=ps.length)
    (hbody:∀ (A:Around) (outer:List Env) (s:Shared) (H:Hp) (vs:List V) (Q:VK) (E:XK),qA4 k (A.deeper (envOfC qual scope s.heap.objs.size f cdv))→sp vs H Q E →
      ∃ t,PSs (qGA CX P w K mg base N qual scope f cdv A outer s H E) body t∧t { nx:=fun _ H'=>Q .non H',rt:=Q } (start N vs) H) :
    qAM P w K mg base CX (k+1) f (W.fnOf name qual params body scope dV kV doc pm an cdv ct) ps sp:=by
  refine⟨len,fun A outer s H args us vs Q E hr e0 hb r hsp=>?_⟩
  have hl:=len _ _ _ _ hsp
  have KX:K.In s.heap:=e0.mod.kin.keeps fun b o e=>(e0.bs b o e).1
  have lim:s.heap.NoLimit:=e0.mod.nolimit.keeps fun b o e=>(e0.bs b o e).1
  have hkind:∀ y∈ps.zip us,scope.names.lookup y.1=some .local∨(scope.names.lookup y.1=some .cell∧((cellsFrom (s.heap.objs.size+1) scope.names []).lookup y.1).isSome=true):=fun ⟨n,v⟩ hy=>by
    rcases S.par n (List.of_mem_zip hy).1 with q | q
    · exact .inl q
    · exact .inr ⟨q,W.cellsFrom_some _ _ _ (.inl q)⟩
  refine codeAny_call_function hr.depth (KX _ _ lk) rfl S.co S.gen rfl (W.codeRec_of KX hcd) (hb _ _ _ _ ?_)
  refine wpAny_newFunctionEnv_cells S.kind hkind fun env he s1 x=>?_
  subst he
  refine⟨lim.keeps x.toInCall.keep,codeAny_func ?_⟩
  obtain⟨t,ht,hq⟩:=hbody A outer s H vs Q E (hr.deeper _) hsp
  have I:Inv (qGA CX P w K mg base N qual scope f cdv A outer s H E) [] (start N vs) H s1:=qJa S hr.hd e0 hl r x
  refine wpAny_mono (ht [] s1 (start N vs) H _ I hq) (fun fl s' hs=>?_) fun e s' hs=>hs
  have fin:∀ {σ':St} {H':Hp} {v:V} {u:Value},Inv (qGA CX P w K mg base N qual scope f cdv A outer s H E) [] σ' H' s'→RelV v u→Q v H'→CE outer P w H s Q u s' :=
    fun {σ' H' v u} J rv q=>⟨v,H',J.os,J.bare,J.base,J.hok,rv,q⟩
  cases fl with
  | ret u =>
    obtain⟨v,σ',H',J,rv,q⟩:=hs
    exact fin J rv q
  | next =>
    obtain⟨σ',H',J,q⟩:=hs
    exact fin (v:=V.non) (u:=Value.none) J rfl q
  | brk =>
    obtain⟨_,_,_,q⟩:=hs
    exact False.elim q
  | cont =>
    obtain⟨_,_,_,q⟩:=hs
    exact False.elim q
end L2
namespace L2
open PySem PySem.Spec PyProof.Rows
section
variable {X:Cx} {x:Str} {p pos:Pos} {e:Expr} {es:List Expr} {t:TA} {id T:String} {r:List V→Hp→VK→Prop}
noncomputable def tCB (r:List V→Hp→VK→Prop) (t:TA):TE:=fun σ H Q=>t σ H fun vs H1=>r vs H1 Q
theorem qJw (hc:qDR X (.builtin id) r) (hg:Gl X x) (hm:X.mg x=none) (hv:bootBuiltins x=some (.builtin id)) (ha:PA X (e::es) t) (hn:x ≠ "__name__":=by decide) (hdb:(x==("__debug__" : Str))=false:=by decide)
    (he:starEach (e::es) X.env=(false,eval e X.env)::starEach es X.env:=by rfl) (hpl:(backTo pos (starEach es X.env)).any (·.1)=false:=by rfl):PE X (.Call (.Name x p) (e::es) [] pos) (tCB r t):=by
  k_dat 0"r1"
  refine wpAny_Call_Name_kw (qDu I hg hm hv ?_ hn hdb)
  exact PyProof.Rows.callWith_builtin1 (thn (ha pos pins s σ H _ I h) fun us s1 ⟨vs,H1,I1,r1,q1⟩=>hc pins s1 σ H1 vs us Q I1 r1 q1) he hpl
theorem qJf (hc:qDR X (.type T) r) (hg:Gl X x) (hm:X.mg x=none) (hv:bootBuiltins x=some (.type T)) (ha:PA X (e::es) t) (hn:x ≠ "__name__":=by decide) (hdb:(x==("__debug__" : Str))=false:=by decide)
    (he:starEach (e::es) X.env=(false,eval e X.env)::starEach es X.env:=by rfl) (hpl:(backTo pos (starEach es X.env)).any (·.1)=false:=by rfl):PE X (.Call (.Name x p) (e::es) [] pos) (tCB r t):=by
  k_dat 0"r1"
  refine wpAny_Call_Name_kw (qDu I hg hm hv ?_ hn hdb)
  exact PyProof.Rows.callWith_type1 (thn (ha pos pins s σ H _ I h) fun us s1 ⟨vs,H1,I1,r1,q1⟩=>hc pins s1 σ H1 vs us Q I1 r1 q1) he hpl
end
end L2
namespace HT
open PySem PyProof.Rows
section
variable {prog:Program} {w:World} {A:Around} {E:Value→Shared→Prop} {s:Shared}
theorem qLO {t b:Addr} {vs ws:List Value} {Q:Value→Shared→Prop} (ht:IsTup s.heap t vs.toArray) (hb:IsTup s.heap b ws.toArray) (hv:vs≠[])
    (h1:ws=[]→Q (.ref t) s) (h2:ws≠[]→Q (.ref s.heap.objs.size) { s with heap:=s.heap.push { cls:=.type "tuple",data:=.seq (vs++ws).toArray } })
    (hsz:vs.length+ws.length≤sizeLine):wpAny (model prog w) A (binaryOp .Add (.ref t) (.ref b)) Q E s:=by
  obtain⟨⟨cls,dd,data,sl⟩,ho,hc,n,hd⟩:=id ht
  obtain⟨⟨cls2,dd2,data2,sl2⟩,ho2,hc2,n2,hd2⟩:=id hb
  simp only at hc hd hc2 hd2
  subst hc hd hc2 hd2
  have e:vs.toArray++ws.toArray=(vs++ws).toArray:=by simp
  by_cases hw:ws=[]
  · exact concat_meets ⟨_,ho,rfl⟩ ⟨_,ho2,rfl⟩ noFill_tuple_add seq_tuple_add PySem.F.slot_tuple_add PySem.F.entry_tuple_add (PySem.F.args_tuple_add_2 _ _)
      (tuple_addW1 t b vs.toArray ws.toArray n n2 dd dd2 sl sl2 (by simpa using hv) (by simp [hw])) ⟨ho,ho2,h1 hw⟩
  · refine concat_meets ⟨_,ho,rfl⟩ ⟨_,ho2,rfl⟩ noFill_tuple_add seq_tuple_add PySem.F.slot_tuple_add PySem.F.entry_tuple_add (PySem.F.args_tuple_add_2 _ _)
      (tuple_addW2 t b vs.toArray ws.toArray n n2 dd dd2 sl sl2 (by simpa using hv) (by simpa using hw) (by rw [List.size_toArray,List.size_toArray];exact hsz)) ⟨ho,ho2,?_⟩
    rw [e]
    exact h2 hw
noncomputable def sIx (n d:Nat):Option Int→Nat
  | none=>d
  | some v=>if v<0 then (v+(n:Int)).toNat else min v.toNat n
theorem qHF (n d:Nat):sIx n d none=d:=rfl
theorem qMB (n d k:Nat):sIx n d (some (k:Int))=min k n:=by
  show (if (k:Int)<0 then ((k:Int)+(n:Int)).toNat else min (k:Int).toNat n)=min k n
  rw [if_neg (by omega),Int.toNat_natCast]
theorem qNv (n d:Nat) (hd:d≤n) (o:Option Int):sIx n d o≤n:=by
  cases o with
  | none=>exact hd
  | some v =>
    show (if v<0 then (v+(n:Int)).toNat else min v.toNat n)≤n
    by_cases hv:v<0
    · rw [if_pos hv];omega
    · rw [if_neg hv];exact Nat.min_le_right _ _
theorem qIL (v:Int) (n d:Nat):(if v<0 then max (v+(n:Int)) 0 else min v (n:Int))=((sIx n d (some v):Nat):Int):=by
  show (if v<0 then max (v+(n:Int)) 0 else min v (n:Int))=(((if v<0 then (v+(n:Int)).toNat else min v.toNat n):Nat):Int)
  by_cases hv:v<0
  · simp only [if_pos hv];omega
  · simp only [if_neg hv];omega
theorem qHz (lo hi:Option Int) (n:Nat):Builtin.Slice.sliceAdjust lo hi 1 (n:Int)=(((sIx n 0 lo:Nat):Int),((sIx n n hi:Nat):Int)):=by
  have h1:¬ ((1:Int)<0):=by omega
  unfold Builtin.Slice.sliceAdjust
  simp only [h1,if_false]
  refine Prod.ext ?_ ?_
  · cases lo with
    | none=>rfl
    | some v=>exact qIL v n 0
  · cases hi with
    | none=>rfl
    | some v=>exact qIL v n n
theorem qIA (i j:Nat):Builtin.Slice.slicePlaces (i:Int) (j:Int) 1=j - i:=by
  unfold Builtin.Slice.slicePlaces
  have h1:(1:Int) > 0:=by omega
  simp only [h1,if_true,Int.ediv_one]
  split<;>omega
theorem qEZ {v:Value} {o:Option Int} {Q:Option Int→Shared→Prop} (p:IsPart v o) (h:Q o s):wpAny (model prog w) A (Builtin.Slice.slicePartIndex v) Q E s:=by
  cases p with
  | none=>exact slicePart_none h
  | int i t=>exact slicePart_int h
theorem qBx {sl:Addr} {vl vu:Value} {lo hi:Option Int} {n:Nat} {Q:Int×Int×Nat→Shared→Prop} (hs:s.heap.IsSliceOf sl vl vu .none) (pl:IsPart vl lo) (pu:IsPart vu hi)
    (h:Q (((sIx n 0 lo:Nat):Int),1,sIx n n hi - sIx n 0 lo) s):wpAny (model prog w) A (Builtin.Slice.sliceApplied (.ref sl) (pure (n:Int))) Q E s:=by
  obtain⟨os,hos,hcs,hds⟩:=id hs
  unfold Builtin.Slice.sliceApplied Builtin.Slice.sliceFields
  refine wpAny_bind (wpAny_bind (wpAny_field hos hds (x:=vl) rfl (wpAny_bind (wpAny_field hos hds (x:=vu) rfl (wpAny_bind (wpAny_field hos hds (x:=.none) rfl (wpAny_pure ?_)))))))
  refine wpAny_bind (slicePart_none ?_)
  show wpAny _ _ (if ((1:Int)==0)=true then _ else _) _ _ s
  rw [if_neg (by decide)]
  refine wpAny_bind (qEZ pl (wpAny_bind (qEZ pu (wpAny_bind (wpAny_pure ?_)))))
  show wpAny _ _ (match Builtin.Slice.sliceAdjust lo hi 1 (n:Int) with | (lo,hi)=>pure (lo,(1:Int),Builtin.Slice.slicePlaces lo hi 1)) _ _ s
  rw [qHz lo hi n]
  show wpAny _ _ (pure (((sIx n 0 lo:Nat):Int),(1:Int),Builtin.Slice.slicePlaces ((sIx n 0 lo:Nat):Int) ((sIx n n hi:Nat):Int) 1)) _ _ s
  rw [qIA]
  exact wpAny_pure h
theorem qJ3 (xs:Array Value) (i k:Nat):((List.range k).filterMap fun (m:Nat)=>xs[((i:Int)+(m:Int) * 1).toNat]?).toArray=((xs.toList.drop i).take k).toArray:=by
  have e:(fun (m:Nat)=>xs[((i:Int)+(m:Int) * 1).toNat]?)=fun m=>xs[i+m]?:=by
    funext m
    have:((i:Int)+(m:Int) * 1).toNat=i+m:=by omega
    rw [this]
  rw [e]
  have:=pick_run xs i k
  rw [List.filterMap_map] at this
  have e2:((fun x=>xs[x]?) ∘ fun x=>i+x)=fun m=>xs[i+m]?:=rfl
  rw [e2] at this
  rw [this]
theorem qDQ {t sl:Addr} {items:Array Value} {vl vu:Value} {lo hi:Option Int} {Q:Value→Shared→Prop} (ht:IsTup s.heap t items) (hs:s.heap.IsSliceOf sl vl vu .none) (pl:IsPart vl lo) (pu:IsPart vu hi)
    (hw:¬ (sIx items.size 0 lo=0∧sIx items.size items.size hi=items.size))
    (h:Q (.ref s.heap.objs.size) { s with heap:=s.heap.push { cls:=.type "tuple",data:=.seq ((items.toList.drop (sIx items.size 0 lo)).take (sIx items.size items.size hi - sIx items.size 0 lo)).toArray } })
    (hsz:items.size≤sizeLine):wpAny (model prog w) A (getItem (.ref t) (.ref sl)) Q E s:=by
  have htake:sizeOk (.seq ((items.toList.drop (sIx items.size 0 lo)).take (sIx items.size items.size hi - sIx items.size 0 lo)).toArray):=by
    show ((items.toList.drop (sIx items.size 0 lo)).take (sIx items.size items.size hi - sIx items.size 0 lo)).toArray.size≤sizeLine
    rw [List.size_toArray,List.length_take,List.length_drop,Array.length_toList]
    omega
  have hj:sIx items.size items.size hi≤items.size:=qNv _ _ (Nat.le_refl _) hi
  obtain⟨os,hos,hcs,hds⟩:=id hs
  have hTs:s.TypeIs (.ref sl) "slice":=⟨os,hos,hcs⟩
  unfold getItem
  try with_reducible refine wpAny_holding ?_
  first | refine wpAny_bind (wpAny_pure ?_) | skip
  refine wpAny_bind (wpAny_sequenceKey ht.typeIs (by decide) ?_)
  refine wpAny_bind (wpAny_callSpecial?_slot (name:=Str.ofString "__getitem__") ht.typeIs PyProof.Rows.slot_tuple_getitem
    (wpAny_call_entry PyProof.Rows.slot_tuple_getitem ht.typeIs entry_tuple_getitem ?_ (args_tuple_getitem _ _)))
  show wpAny _ _ (Builtin.Tuple.tupleItemsOf (.ref t) >>= _) _ _ s
  refine wpAny_bind (tupleItemsOf_ ht ?_)
  refine wpAny_bind (wpAny_typeOf hTs ?_)
  rw [if_pos (by decide)]
  refine wpAny_bind (qBx hs pl pu ?_)
  have hno:¬ ((((sIx items.size 0 lo:Nat):Int)==0&&(1:Int)==1&&(sIx items.size items.size hi - sIx items.size 0 lo)==items.size)=true):=by
    intro q
    rw [Bool.and_eq_true,Bool.and_eq_true] at q
    have q1:((sIx items.size 0 lo:Nat):Int)=0:=eq_of_beq q.1.1
    have q2:sIx items.size items.size hi - sIx items.size 0 lo=items.size:=eq_of_beq q.2
    exact hw ⟨by omega,by omega⟩
  k_dat 0"r43"
  rw [if_neg hno,qJ3]
  first
    | exact wpAny_bind (m:=Builtin.Tuple.tupleExact _) (wpAny_newObj_type (wpAny_pure ⟨_,rfl,wpAny_pure h⟩) htake)
    | exact wpAny_bind (m:=Builtin.Tuple.tupleExact _) (wpAny_newObj_type (wpAny_bind (wpAny_pure (wpAny_pure ⟨_,rfl,wpAny_pure h⟩))) htake)
    | exact wpAny_bind (wpAny_bind (m:=Builtin.Tuple.tupleExact _) (wpAny_newObj_type (wpAny_pure (wpAny_pure ⟨_,rfl,wpAny_pure h⟩)) htake))
    | exact wpAny_bind (wpAny_bind (m:=Builtin.Tuple.tupleExact _) (wpAny_newObj_type (wpAny_pure ⟨_,rfl,wpAny_pure h⟩) htake))
end
end HT
namespace L2
open PySem PySem.Spec PyProof.Rows
noncomputable abbrev TO:=St→Hp→(Option Int→Hp→Prop)→Prop
def PO (X:Cx) (e:Option Expr) (t:TO):Prop :=
  ∀ (pins:List (Addr×Obj)) (s:Shared) (σ:St) (H:Hp) (Q:Option Int→Hp→Prop),Inv X pins σ H s→t σ H Q →
    wpAny (model X.prog X.w) X.A (evalPart e X.env) (fun u s'=>∃ o H',Inv X pins σ H' s'∧IsPart u o∧Q o H') X.xe s
noncomputable def qMS:TO:=fun _ H Q=>Q none H
noncomputable def qQN (t:TE):TO:=fun σ H Q=>t σ H fun x H1=>∃ i,x = .int i∧Q (some i) H1
section
variable {X:Cx} {e:Expr} {te:TE} {lo hi:Option Expr} {tl th:TO} {pos p2:Pos}
theorem qMJ:PO X none qMS:=by
  k_dat 0"r1"
  rw [evalPart_none]
  exact wpAny_pure ⟨none,H,I,.none,h⟩
theorem qMd (h:PE X e te):PO X (some e) (qQN te):=by
  intro pins s σ H Q I hw
  rw [evalPart_some]
  refine thn (h pins s σ H _ I hw) fun u s1 ⟨x,H1,I1,r1,q1⟩=>?_
  obtain⟨i,rfl,q⟩:=q1
  obtain⟨t,rfl⟩:=r1
  exact⟨some i,H1,I1,.int i t,q⟩
def SlR (X:Cx) (r:V→Option Int→Option Int→Hp→VK→Prop):Prop :=
  ∀ (pins:List (Addr×Obj)) (s:Shared) (σ:St) (H:Hp) (x:V) (v vl vu:Value) (lo hi:Option Int) (sl:Addr) (Q:VK),Inv X pins σ H s→RelV x v→s.heap.IsSliceOf sl vl vu .none→IsPart vl lo→IsPart vu hi→r x lo hi H Q →
    ∃ T id,typeLookup (.type T) "__getitem__" = pure (some (.builtin id))∧s.TypeIs v T∧wpAny (model X.prog X.w) X.A (getItem v (.ref sl)) (EP X pins σ Q) X.xe s
theorem SlR.or {r r':V→Option Int→Option Int→Hp→VK→Prop} (h:SlR X r) (h':SlR X r'):SlR X (fun x lo hi H Q=>r x lo hi H Q∨r' x lo hi H Q):=by
  intro pins s σ H x v vl vu lo hi sl Q I rx hs pl pu q
  rcases q with q | q
  · exact h pins s σ H x v vl vu lo hi sl Q I rx hs pl pu q
  · exact h' pins s σ H x v vl vu lo hi sl Q I rx hs pl pu q
noncomputable def tSl (r:V→Option Int→Option Int→Hp→VK→Prop) (te:TE) (tl th:TO):TE:=fun σ H Q=>te σ H fun x H1=>tl σ H1 fun l H2=>th σ H2 fun u H3=>r x l u H3 Q
theorem qKv {r:V→Option Int→Option Int→Hp→VK→Prop} (hr:SlR X r) (he:PE X e te) (hl:PO X lo tl) (hu:PO X hi th):PE X (.Subscript e (.Slice lo hi none p2) pos) (tSl r te tl th):=by
  k_dat 0"r1"
  refine Subscript_ (thn (he pins s σ H _ I h) fun v s1 ⟨x,H1,I1,r1,q1⟩=>?_)
  refine wpAny_Slice (thn (hl pins s1 σ H1 _ I1 q1) fun vl s2 ⟨l,H2,I2,pl,q2⟩=>thn (hu pins s2 σ H2 _ I2 q2) fun vu s3 ⟨u,H3,I3,pu,q3⟩=>?_)
  rw [evalPart_none]
  refine wpAny_pure ?_
  have I4:Inv X pins σ H3 { s3 with heap:=s3.heap.push { cls:=.type "slice",data:=.fields #[vl,vu,.none] } }:=I3.kept (t':=s3.toks) fun b ob q=>Heap.get?_push_of_some _ q
  obtain⟨T,id,hT,ht,hg⟩:=hr pins { s3 with heap:=s3.heap.push { cls:=.type "slice",data:=.fields #[vl,vu,.none] } } σ H3 x v vl vu l u s3.heap.objs.size Q I4 r1 (Heap.IsSliceOf.new ..) pl pu q3
  show wpAny (model X.prog X.w) X.A (subscriptTail e (.Slice lo hi none p2) v (.ref s3.heap.objs.size)) (EP X pins σ Q) X.xe { s3 with heap:=s3.heap.push { cls:=.type "slice",data:=.fields #[vl,vu,.none] } }
  exact tail_any (ops:=[.ref s3.heap.objs.size,v]) ht hT hg (by with_unfolding_all rfl)
noncomputable def qGa (xs:List V) (lo hi:Option Int):List V:=(xs.drop (HT.sIx xs.length 0 lo)).take (HT.sIx xs.length xs.length hi - HT.sIx xs.length 0 lo)
theorem qD3 (xs:List V) (lo hi:Option Int):(qGa xs lo hi).length≤xs.length:=by
  unfold qGa
  rw [List.length_take,List.length_drop]
  omega
noncomputable def qQu (K:W.Frag):V→Option Int→Option Int→Hp→VK→Prop:=fun x lo hi H Q=>∃ a xs,x = .ref a∧SqT K H a xs ∧
  ¬ (HT.sIx xs.length 0 lo=0∧HT.sIx xs.length xs.length hi=xs.length)∧∀ p,H p=none→Q (.ref p) (upd H p (.tup (qGa xs lo hi)))
theorem qNO:SlR X (qQu X.K):=by
  k_dat 0"r33"
  obtain⟨a,xs,rfl,hx,hw,q⟩:=h
  cases rx
  obtain⟨its,r,ht,hz⟩:=I.tuple hx
  have hlen:its.toArray.size=xs.length:=by rw [List.size_toArray];exact r.length.symm
  refine⟨"tuple",_,PyProof.Rows.slot_tuple_getitem.lookup,ht.typeIs,?_⟩
  refine HT.qDQ ht hs pl pu (by rw [hlen];exact hw) ?_ (by rw [hlen];exact hz)
  rw [hlen]
  refine⟨.ref s.heap.objs.size,_,I.laid (t':=s.toks) (o:=.tup (qGa xs lo hi)) (fun b ob q=>Heap.get?_push_of_some _ q) (Nat.le_refl _) ?_,rfl,q _ (I.hok.fresh (Nat.le_refl _))⟩
  exact⟨Nat.le_trans (qD3 xs lo hi) hz,_,(r.drop (HT.sIx xs.length 0 lo)).take (HT.sIx xs.length xs.length hi - HT.sIx xs.length 0 lo),qBc.new _ _⟩
theorem Vals.qDO {xs:List V} {us:List Value} (r:Vals xs us):us=[]↔xs=[]:=by
  cases r with
  | nil=>simp
  | cons _ _=>simp
end
end L2
namespace L2
open PySem PySem.Spec PyProof.Rows
noncomputable def ixN (n:Nat) (i:Int):Option Nat:=if 0≤i then (if i<n then some i.toNat else none) else if -(n:Int)≤i then some (i+n).toNat else none
noncomputable def atI {α:Type} (xs:List α) (i:Int):Option α:=(ixN xs.length i).bind fun j=>xs[j]?
theorem qIk {n:Nat} {i:Int} {j:Nat} (h:ixN n i=some j):seqIndex? i n=some j∧j<n∧-(n:Int)≤i∧i<n:=by
  unfold ixN at h
  by_cases h0:0≤i
  · rw [if_pos h0] at h
    by_cases h1:i<n
    · rw [if_pos h1] at h
      have e:i.toNat=j:=Option.some.inj h
      exact⟨by rw [seqIndex_of h0 h1,e],by omega,by omega,h1⟩
    · rw [if_neg h1] at h;cases h
  · rw [if_neg h0] at h
    by_cases h1:-(n:Int)≤i
    · rw [if_pos h1] at h
      have e:(i+n).toNat=j:=Option.some.inj h
      exact⟨by rw [seqIndex_neg (by omega) h1,e],by omega,h1,by omega⟩
    · rw [if_neg h1] at h;cases h
theorem qFt {α:Type} {xs:List α} {i:Int} {v:α} (h:atI xs i=some v):∃ j,seqIndex? i xs.length=some j∧xs[j]? = some v∧j<xs.length∧-(xs.length:Int)≤i∧i<xs.length:=by
  unfold atI at h
  cases e:ixN xs.length i with
  | none=>rw [e] at h;cases h
  | some j =>
    rw [e] at h
    obtain⟨h1,h2,h3,h4⟩:=qIk e
    exact⟨j,h1,h,h2,h3,h4⟩
theorem qEU {α:Type} {xs:List α} {j:Nat} {v:α} (h:xs[j]? = some v):atI xs (j:Int)=some v:=by
  have hj:j<xs.length:=(List.getElem?_eq_some_iff.mp h).1
  have e:ixN xs.length (j:Int)=some j:=by
    unfold ixN
    rw [if_pos (by omega),if_pos (by omega)];simp
  unfold atI;rw [e];exact h
def qIp (b:Expr):Prop:=∀ o i,subscripted b false o i=operate [o,i] (getItem o i)
def IxR (X:Cx) (r:R2):Prop :=
  ∀ (value slice:Expr) (pins:List (Addr×Obj)) (s:Shared) (σ:St) (H:Hp) (x y:V) (v u:Value) (Q:VK),Inv X pins σ H s→RelV x v→RelV y u→r x y H Q →
    subscripted slice false v u=operate [v,u] (getItem v u)→wpAny (model X.prog X.w) X.A (subscriptTail value slice v u) (EP X pins σ Q) X.xe s
def MtR (X:Cx) (id:String) (r:V→List V→Hp→VK→Prop):Prop :=
  ∀ (pins:List (Addr×Obj)) (s:Shared) (σ:St) (H:Hp) (x:V) (xs:List V) (v:Value) (us:List Value) (Q:VK),Inv X pins σ H s→RelV x v→Vals xs us→r x xs H Q →
    wpAny (model X.prog X.w) X.A (call (.builtin id) (v::us)) (EP X pins σ Q) X.xe s
section
variable {X:Cx} {a b:Expr} {ta tb:TE} {pos:Pos}
theorem IxR.or {r r':R2} (h:IxR X r) (h':IxR X r'):IxR X (fun x y H Q=>r x y H Q∨r' x y H Q):=by
  intro value slice pins s σ H x y v u Q I rx ry q hs
  rcases q with q | q
  · exact h value slice pins s σ H x y v u Q I rx ry q hs
  · exact h' value slice pins s σ H x y v u Q I rx ry q hs
theorem qQW {r:R2} (hr:IxR X r) (ha:PE X a ta) (hb:PE X b tb) (hs:qIp b):PE X (.Subscript a b pos) (tOp r ta tb):=by
  k_dat 0"r1"
  exact Subscript_ (qOQ ha hb I h fun v u s2 x y H2 I2 rx ry q=>hr a b pins s2 σ H2 x y v u Q I2 rx ry q (hs _ _))
noncomputable def qPg (K:W.Frag):R2:=fun x y H Q=>∃ p xs i v,x = .ref p∧y = .int i∧SqL K H p xs∧atI xs i=some v∧Q v H
noncomputable def qPw (K:W.Frag):R2:=fun x y H Q=>∃ p xs i v,x = .ref p∧y = .int i∧SqT K H p xs∧atI xs i=some v∧Q v H
noncomputable def qQV:R2:=fun x y H Q=>∃ z i c,x = .str z∧y = .int i∧z.length≤sizeLine∧atI z.cps.toList i=some c∧Q (.str ⟨#[c]⟩) H
theorem qMg:IxR X (qPg X.K):=by
  k_dat 0"r34"
  obtain⟨p,xs,i,z,rfl,rfl,hq,he,q⟩:=h
  cases rx
  obtain⟨t,rfl⟩:=ry
  obtain⟨its,r,pl,hz⟩:=I.list hq
  obtain⟨j,h1,h2,h3,h4,h5⟩:=qFt he
  obtain⟨w,ew,rw'⟩:=r.get h2
  have hl:=r.length
  have hn:=qDk
  have fin:EP X pins σ Q w s:=⟨z,H,I,rw',q⟩
  by_cases h0:0≤i
  · have hj:i.toNat=j:=by
      rw [seqIndex_of h0 h5] at h1
      exact Option.some.inj h1
    exact item_listR pl.isList h0 (by omega) (by rw [hj];simpa using ew) fin hs
  · have hj:(i+(its.toArray.size:Int)).toNat=j:=by
      rw [seqIndex_neg (by omega) h4] at h1
      rw [List.size_toArray,← hl]
      exact Option.some.inj h1
    exact subscriptTail_builtinR (x:=w) pl.isList.typeIs slot_list_getitem.lookup
      (wpAny_getItem_list_neg (Q:=fun r s'=>r=w∧EP X pins σ Q r s') pl.isList (by omega) (by rw [List.size_toArray]<;>omega) (by omega) (by rw [hj];simpa using ew) ⟨rfl,fin⟩) hs
theorem qOr:IxR X (qPw X.K):=by
  k_dat 0"r34"
  obtain⟨p,xs,i,z,rfl,rfl,hq,he,q⟩:=h
  cases rx
  obtain⟨t,rfl⟩:=ry
  obtain⟨its,r,pl,hz⟩:=I.tuple hq
  obtain⟨j,h1,h2,h3,h4,h5⟩:=qFt he
  obtain⟨w,ew,rw'⟩:=r.get h2
  have hl:=r.length
  have hn:=qDk
  have fin:EP X pins σ Q w s:=⟨z,H,I,rw',q⟩
  exact subscriptTail_builtinR (x:=w) pl.typeIs slot_tuple_getitem.lookup
    (getItem_tuple (j:=j) (Q:=fun r s'=>r=w∧EP X pins σ Q r s') pl (by omega) (by omega) (by rw [List.size_toArray,← hl];exact h1) (by simpa using ew) ⟨rfl,fin⟩) hs
theorem qPN:IxR X qQV:=by
  k_dat 0"r34"
  obtain⟨z,i,c,rfl,rfl,hz,he,q⟩:=h
  obtain⟨t,rfl⟩:=rx
  k_dat 0"r10"
  obtain⟨j,h1,h2,h3,h4,h5⟩:=qFt he
  have hl:z.cps.toList.length=z.length:=by simp [Str.length]
  rw [hl] at h1 h4 h5
  have hn:=qDk
  exact tail_any (typeIs_str s z t) slot_str_getitem.lookup (getItem_str (c:=c) (by
    have e1:decide (i < -(2 ^ 63:Int))=false:=decide_eq_false (by omega)
    have e2:decide (i ≥ 2 ^ 63)=false:=decide_eq_false (by omega)
    rw [e1,e2,Bool.or_false]) (by rw [h1];simpa using h2) ⟨.str ⟨#[c]⟩,H,I.tok _,⟨_,rfl⟩,q⟩) hs
noncomputable def rIx (K:W.Frag):R2:=fun x y H Q=>qPg K x y H Q∨qPw K x y H Q∨qQV x y H Q
theorem qJr:IxR X (rIx X.K):=qMg.or (qOr.or qPN)
theorem qHZ (its:List Value) (n j:Nat) (u:Value):Obj.mapSeq (·.setIfInBounds j u) { cls:=.type "list",data:=.seq its.toArray n }={ cls:=.type "list",data:=.seq (its.set j u).toArray n }:=by
  simp [Obj.mapSeq]
theorem Inv.lst {pins:List (Addr×Obj)} {σ:St} {H:Hp} {s:Shared} {p:Addr} {xs:List V} (I:Inv X pins σ H s) (h:H p=some (.lst xs)) :
    ∃ (its:List Value) (n:Nat),Vals xs its∧s.heap.get? p=some { cls:=.type "list",data:=.seq its.toArray n }∧xs.length≤sizeLine:=by
  obtain⟨z,its,n,r,e⟩:=I.hok p _ h
  exact⟨its,n,r,e,z⟩
theorem Inv.qPA {pins:List (Addr×Obj)} {σ:St} {H:Hp} {s:Shared} {p:Addr} {xs ys:List V} {its its':List Value} {n n':Nat} {f:Obj→Obj} (I:Inv X pins σ H s) (h:H p=some (.lst xs))
    (ho:s.heap.get? p=some { cls:=.type "list",data:=.seq its.toArray n }) (hf:f { cls:=.type "list",data:=.seq its.toArray n }={ cls:=.type "list",data:=.seq its'.toArray n' }) (r:Vals ys its') (hz:ys.length≤sizeLine) (t:Nat) :
    Inv X pins σ (upd H p (.lst ys)) { s with heap:=s.heap.update p f,toks:=t }:=by
  have e:(s.heap.update p f).get? p=some { cls:=.type "list",data:=.seq its'.toArray n' }:=by
    rw [Heap.get?_update_self f ho (by rw [hf]<;>rfl),hf]
  refine I.write (x:=p) (e:=p) (by rw [h];trivial) (.inl rfl) (fun b u hb q=>(Heap.get?_update_other _ _ (Ne.symm hb)).trans q) ⟨_,e⟩ ?_
  exact⟨hz,its',n',r,e⟩
noncomputable def qQC:V→V→V→Hp→(Hp→Prop)→Prop:=fun o i v H Q=>∃ p xs k j,o = .ref p∧i = .int k∧H p=some (.lst xs)∧ixN xs.length k=some j∧Q (upd H p (.lst (xs.set j v)))
theorem set_list:qPl X qQC:=by
  intro pins s σ H o i v ov iv u Q I ro ri rv h
  obtain⟨p,xs,k,j,rfl,rfl,hp,hj,q⟩:=h
  cases ro
  obtain⟨t,rfl⟩:=ri
  obtain⟨its,n,r,ho,hz⟩:=I.lst hp
  obtain⟨h1,h2,h3,h4⟩:=qIk hj
  have hl:=r.length
  have hn:=qDk
  have I':Inv X pins σ (upd H p (.lst (xs.set j v))) { s with heap:=s.heap.update p (Obj.mapSeq (·.setIfInBounds j u)) } :=
    I.qPA hp ho (qHZ its n j u) (r.set rv j) (by rw [List.length_set];exact hz) s.toks
  by_cases h0:0≤k
  · have hk:k.toNat=j:=by
      rw [seqIndex_of h0 h4] at h1
      exact Option.some.inj h1
    exact W.ki_setAt ho h0 (by omega) (by rw [List.size_toArray,← hl];exact h4) (by rw [hk];exact⟨_,I',q⟩)
  · have hk:(k+(its.toArray.size:Int)).toNat=j:=by
      rw [seqIndex_neg (by omega) h3] at h1
      rw [List.size_toArray,← hl]
      exact Option.some.inj h1
    exact W.ki_setBack ho (by omega) (by rw [List.size_toArray,← hl];exact h3) (by omega) (by rw [hk];exact⟨_,I',q⟩)
theorem qGN (lo hi:Option Int) (n:Nat):(sliceBounds lo hi none n).1=((HT.sIx n 0 lo:Nat):Int)∧(sliceBounds lo hi none n).2.1=((HT.sIx n n hi:Nat):Int)∧(sliceBounds lo hi none n).2.2=1:=by
  refine⟨?_,?_,rfl⟩
  · cases lo with
    | none=>simp [sliceBounds,HT.sIx]
    | some i =>
      simp only [sliceBounds,HT.sIx,Option.getD_none,show (1:Int) > 0 by decide,if_true]
      by_cases h:i<0
      · simp only [h,if_true]<;>omega
      · simp only [h,if_false]<;>omega
  · cases hi with
    | none=>simp [sliceBounds,HT.sIx]
    | some i =>
      simp only [sliceBounds,HT.sIx,Option.getD_none,show (1:Int) > 0 by decide,if_true]
      by_cases h:i<0
      · simp only [h,if_true]<;>omega
      · simp only [h,if_false]<;>omega
theorem qFD (its:List Value) (lo hi:Option Int):slicePick its.toArray lo hi none=((its.drop (HT.sIx its.length 0 lo)).take (HT.sIx its.length its.length hi - HT.sIx its.length 0 lo)).toArray:=by
  obtain⟨h1,h2,h3⟩:=qGN lo hi its.toArray.size
  unfold slicePick
  rw [h1,h2,h3]
  simp only [sliceRange_one,pick_run,List.size_toArray]<;>rfl
noncomputable def qQx (K:W.Frag):V→Option Int→Option Int→Hp→VK→Prop:=fun x lo hi H Q=>∃ a xs,x = .ref a∧SqL K H a xs∧∀ p,H p=none→Q (.ref p) (upd H p (.lst (qGa xs lo hi)))
theorem qLf:SlR X (qQx X.K):=by
  k_dat 0"r33"
  obtain⟨a,xs,rfl,hx,q⟩:=h
  cases rx
  obtain⟨its,r,ht,hz⟩:=I.list hx
  have hlen:=r.length
  refine⟨"list",_,slot_list_getitem.lookup,ht.isList.typeIs,?_⟩
  refine wpAny_getItem_list_slice ht.isList hs pl pu .none (by simp) ?_ (by rw [List.size_toArray]<;>omega)
  rw [qFD,← hlen]
  refine⟨.ref s.heap.objs.size,_,I.laid (t':=s.toks) (o:=.lst (qGa xs lo hi)) (fun b ob q=>Heap.get?_push_of_some _ q) (Nat.le_refl _) ?_,rfl,q _ (I.hok.fresh (Nat.le_refl _))⟩
  exact⟨Nat.le_trans (qD3 xs lo hi) hz,_,0,(r.drop (HT.sIx xs.length 0 lo)).take (HT.sIx xs.length xs.length hi - HT.sIx xs.length 0 lo),Heap.get?_push_size _ rfl⟩
noncomputable def qCt:V→Bool
  | .non=>true
  | .bl _=>true
  | .int _=>true
  | .str _=>true
  | _=>false
noncomputable def eqV:V→V→Bool
  | .non,.non=>true
  | .bl a,.bl b=>a==b
  | .bl a,.int b=>(if a then 1 else 0)==b
  | .int a,.bl b=>a==(if b then 1 else 0)
  | .int a,.int b=>a==b
  | .str a,.str b=>a==b
  | _,_=>false
theorem qOu {A:Around} {s:Shared} {y x:V} {u v:Value} (ry:RelV y u) (rx:RelV x v) (fy:qCt y=true) (fx:qCt x=true):SeqAt.EqAt A s u v (eqV y x):=by
  cases y with
  | non =>
    cases ry
    cases x with
    | non=>cases rx;exact SeqAt.EqAt.same _
    | bl b=>cases rx;exact SeqAt.EqAt.none_bool b
    | int b=>obtain⟨t,rfl⟩:=rx;exact SeqAt.EqAt.none_int b t
    | str b=>obtain⟨t,rfl⟩:=rx;exact SeqAt.EqAt.none_str b t
    | _=>exact absurd (show false=true from fx) Bool.false_ne_true
  | bl a =>
    cases ry
    cases x with
    | non=>cases rx;exact SeqAt.EqAt.bool_none a
    | bl b=>cases rx;exact SeqAt.EqAt.bool_bool a b
    | int b=>obtain⟨t,rfl⟩:=rx;exact SeqAt.EqAt.bool_int a b t
    | str b=>obtain⟨t,rfl⟩:=rx;exact SeqAt.EqAt.bool_str a b t
    | _=>exact absurd (show false=true from fx) Bool.false_ne_true
  | int a =>
    k_dat 0"r10"
    cases x with
    | non=>cases rx;exact SeqAt.EqAt.int_none a t'
    | bl b=>cases rx;exact SeqAt.EqAt.int_bool a t' b
    | int b=>obtain⟨t,rfl⟩:=rx;exact SeqAt.EqAt.int_int a t' b t
    | str b=>obtain⟨t,rfl⟩:=rx;exact SeqAt.EqAt.int_str a t' b t
    | _=>exact absurd (show false=true from fx) Bool.false_ne_true
  | str a =>
    k_dat 0"r10"
    cases x with
    | non=>cases rx;exact SeqAt.EqAt.str_none a t'
    | bl b=>cases rx;exact SeqAt.EqAt.str_bool a t' b
    | int b=>obtain⟨t,rfl⟩:=rx;exact SeqAt.EqAt.str_int a t' b t
    | str b=>obtain⟨t,rfl⟩:=rx;exact SeqAt.EqAt.str_str a t' b t
    | _=>exact absurd (show false=true from fx) Bool.false_ne_true
  | _=>exact absurd (show false=true from fy) Bool.false_ne_true
noncomputable def eqU (x:V) (u:Value):Bool:=match u with
  | .none=>eqV .non x
  | .bool b=>eqV (.bl b) x
  | .int i _=>eqV (.int i) x
  | .str z _=>eqV (.str z) x
  | _=>false
theorem qKT {x y:V} {u:Value} (r:RelV y u) (f:qCt y=true):eqU x u=eqV y x:=by
  cases y with
  | non=>cases r;rfl
  | bl b=>cases r;rfl
  | int i=>obtain⟨t,rfl⟩:=r;rfl
  | str z=>obtain⟨t,rfl⟩:=r;rfl
  | _=>exact absurd (show false=true from f) Bool.false_ne_true
theorem qDY {x:V}:∀ {xs:List V} {us:List Value},Vals xs us→xs.all qCt=true→us.any (eqU x)=xs.any fun y=>eqV y x
  | _,_,.nil,_=>rfl
  | y::xs,u::us,.cons r t,f=>by
    rw [List.all_cons,Bool.and_eq_true] at f
    rw [List.any_cons,List.any_cons,qKT r f.1,qDY t f.2]
theorem qCT {A:Around} {s:Shared} {x:V} {v:Value} (rx:RelV x v) (fx:qCt x=true):∀ {xs:List V} {us:List Value},Vals xs us→xs.all qCt=true→∀ u∈us,SeqAt.EqAt A s u v (eqU x u)
  | _,_,.nil,_=>fun u hu=>by cases hu
  | y::xs,u::us,.cons r t,f=>fun u' hu=>by
    rw [List.all_cons,Bool.and_eq_true] at f
    rcases List.mem_cons.mp hu with rfl | hu
    · rw [qKT r f.1];exact qOu r rx f.1 fx
    · exact qCT rx fx t f.2 u' hu
noncomputable def inV (x:V) (xs:List V):Bool:=xs.any fun y=>eqV y x
noncomputable def rIn (K:W.Frag) (neg:Bool):R2:=fun x y H Q=>∃ p xs,y = .ref p∧(SqL K H p xs∨SqT K H p xs)∧qCt x=true∧xs.all qCt=true∧Q (.bl (if neg then !inV x xs else inV x xs)) H
theorem qJP:OpR X (compareOp .In) (rIn X.K false):=by
  k_dat 0"r4"
  obtain⟨p,xs,rfl,hq,fx,fs,q⟩:=h
  cases ry
  rcases hq with hq | hq
  · obtain⟨its,r,pl,hz⟩:=I.list hq
    refine SeqAt.in_listAt (eqU x) pl.isList (fun w hw=>qCT rx fx r fs w (by simpa using hw)) ⟨.bl _,H,I,rfl,?_⟩
    k_dat 0"r27"
    exact q
  · obtain⟨its,r,pl,hz⟩:=I.tuple hq
    refine SeqAt.in_tupleAt (eqU x) pl (fun w hw=>qCT rx fx r fs w (by simpa using hw)) ⟨.bl _,H,I,rfl,?_⟩
    k_dat 0"r27"
    exact q
theorem qGF:OpR X (compareOp .NotIn) (rIn X.K true):=by
  k_dat 0"r4"
  obtain⟨p,xs,rfl,hq,fx,fs,q⟩:=h
  cases ry
  rcases hq with hq | hq
  · obtain⟨its,r,pl,hz⟩:=I.list hq
    refine SeqAt.notIn_listAt (eqU x) pl.isList (fun w hw=>qCT rx fx r fs w (by simpa using hw)) ⟨.bl _,H,I,rfl,?_⟩
    k_dat 0"r27"
    exact q
  · obtain⟨its,r,pl,hz⟩:=I.tuple hq
    refine SeqAt.notIn_tupleAt (eqU x) pl (fun w hw=>qCT rx fx r fs w (by simpa using hw)) ⟨.bl _,H,I,rfl,?_⟩
    k_dat 0"r27"
    exact q
theorem qF5:OpR X (compareOp .NotIn) (fun x y H Q=>∃ i j,x = .str i∧y = .str j∧Q (.bl (!(!(Builtin.Str.occurrences j i 0 j.length 1).isEmpty))) H):=by
  k_dat 0"r4"
  obtain⟨i,j,rfl,rfl,q⟩:=h
  obtain⟨t,rfl⟩:=rx
  k_dat 0"r10"
  exact notIn_str ⟨.bl _,H,I,rfl,q⟩
theorem qGj:qDR X (.builtin "len") (fun xs H Q=>∃ p ys,xs=[.ref p]∧(SqL X.K H p ys∨SqT X.K H p ys)∧Q (.int ys.length) H):=by
  k_dat 0"r19"
  obtain⟨p,ys,rfl,hq,q⟩:=h
  obtain⟨u,rfl,rx⟩:=vals1 r
  cases rx
  have hn:=qDk
  rcases hq with hq | hq
  · obtain⟨its,r',pl,hz⟩:=I.list hq
    have hlen:=r'.length
    exact Calls.call_len_list pl.isList (by simp only [List.size_toArray]<;>omega) ⟨.int ys.length,H,I.tok _,⟨s.toks+1,by rw [List.size_toArray,hlen]⟩,q⟩
  · obtain⟨its,r',pl,hz⟩:=I.tuple hq
    have hlen:=r'.length
    exact len_tuple pl (by simp only [List.size_toArray]<;>omega) ⟨.int ys.length,H,I.tok _,⟨s.toks+1,by rw [List.size_toArray,hlen]⟩,q⟩
theorem qGJ:qDR X (.builtin "len") (fun xs H Q=>∃ z,xs=[.str z]∧z.length≤sizeLine∧Q (.int z.length) H):=by
  k_dat 0"r19"
  obtain⟨z,rfl,hz,q⟩:=h
  obtain⟨u,rfl,t,rfl⟩:=vals1 r
  have hn:=qDk
  exact len_str (by omega) ⟨.int z.length,H,I.tok _,⟨_,rfl⟩,q⟩
theorem qGB:qDR X (.type "list") (fun xs H Q=>∃ p ys,xs=[.ref p]∧(SqL X.K H p ys∨SqT X.K H p ys)∧∀ l,H l=none→Q (.ref l) (upd H l (.lst ys))):=by
  k_dat 0"r19"
  obtain⟨p,ys,rfl,hq,q⟩:=h
  obtain⟨u,rfl,rx⟩:=vals1 r
  cases rx
  have fin:∀ (its:List Value),Vals ys its→ys.length≤sizeLine→∀ (h':Heap) (c':Nat),(∀ b o',s.heap.get? b=some o'→h'.get? b=some o') →
      h'.get? s.heap.objs.size=some { cls:=.type "list",dict:=none,data:=.seq its.toArray c',slots:=#[] }→EP X pins σ Q (.ref s.heap.objs.size) { s with heap:=h' }:=fun its r' hz h' c' kp e =>
    ⟨.ref s.heap.objs.size,_,I.laid (t':=s.toks) kp (Nat.le_refl _) (show qAw X.prog X.w _ h' _ (.lst ys) from⟨hz,its,c',r',e⟩),rfl,q _ (I.hok.fresh (Nat.le_refl _))⟩
  rcases hq with hq | hq
  · obtain⟨its,r',pl,hz⟩:=I.list hq
    have hlen:=r'.length
    obtain⟨o,ho,hc,n,hd⟩:=pl.isList
    exact call_list_seq p (.inl rfl) ho hc hd (fun h' c' kp e=>fin its r' hz h' c' kp e) (by simp only [List.size_toArray]<;>omega)
  · obtain⟨its,r',pl,hz⟩:=I.tuple hq
    have hlen:=r'.length
    obtain⟨o,ho,hc,n,hd⟩:=pl
    exact call_list_seq p (.inr rfl) ho hc hd (fun h' c' kp e=>fin its r' hz h' c' kp e) (by simp only [List.size_toArray]<;>omega)
theorem qFA:qDR X (.type "tuple") (fun xs H Q=>∃ p ys,xs=[.ref p]∧((SqL X.K H p ys∧∀ l,H l=none→Q (.ref l) (upd H l (.tup ys)))∨(SqT X.K H p ys∧Q (.ref p) H))):=by
  k_dat 0"r19"
  obtain⟨p,ys,rfl,h⟩:=h
  obtain⟨u,rfl,rx⟩:=vals1 r
  cases rx
  rcases h with ⟨hq,q⟩ | ⟨hq,q⟩
  · obtain⟨its,r',pl,hz⟩:=I.list hq
    have hlen:=r'.length
    refine call_tuple_list pl.isList (fun h' kp=>?_) (by simp only [List.size_toArray]<;>omega)
    have I1:Inv X pins σ H { s with heap:=h' }:=I.kept (t':=s.toks) kp
    have I2:Inv X pins σ (upd H h'.objs.size (.tup ys)) { s with heap:=h'.push { cls:=.type "tuple",data:=.seq its.toArray } } :=
      I1.laid (t':=s.toks) (fun b o e=>Heap.get?_push_of_some _ e) (Nat.le_refl _) (show qAw X.prog X.w _ _ _ (.tup ys) from⟨hz,its,r',qBc.new _ _⟩)
    exact⟨.ref h'.objs.size,_,I2,rfl,q _ (I1.hok.fresh (Nat.le_refl _))⟩
  · obtain⟨its,r',pl,hz⟩:=I.tuple hq
    exact call_tuple_same pl ⟨.ref p,H,I,rfl,q⟩
def tyV (K:W.Frag) (T:String) (x:V) (H:Hp):Prop:=match x with
  | .str _=>T = "str"
  | .int _=>T = "int"
  | .ref p=>(T = "list" ∧ ∃ xs,SqL K H p xs)∨(T = "tuple" ∧ ∃ o,K.lookup p=some o∧o.cls = .type "tuple" ∧ o.dict=none) ∨
      (T = "dict" ∧ ((∃ kvs,H p=some (.dK kvs))∨∃ kvs,H p=some (.dT kvs)))∨(T = "set" ∧ ∃ S n,H p=some (.set S n))
  | _=>False
theorem qOE {pins:List (Addr×Obj)} {σ:St} {H:Hp} {s:Shared} {T:String} {x:V} {v:Value} (I:Inv X pins σ H s) (r:RelV x v) (ty:tyV X.K T x H) :
    s.TypeIs v T∧∀ a,v = .ref a→∃ ob,s.heap.get? a=some ob∧ob.dict=none:=by
  cases x with
  | str z =>
    obtain⟨t,rfl⟩:=r
    cases (show T = "str" from ty)
    exact⟨typeIs_str s z t,fun _ e=>nomatch e⟩
  | int i =>
    obtain⟨t,rfl⟩:=r
    cases (show T = "int" from ty)
    exact⟨typeIs_int s i t,fun _ e=>nomatch e⟩
  | ref p =>
    cases r
    rcases ty with ⟨rfl,xs,hq⟩ | ⟨rfl,o,hk,hc,hd⟩ | ⟨rfl,hk⟩ | ⟨rfl,S,n,hk⟩
    · obtain⟨its,_,pl,_⟩:=I.list hq
      refine⟨pl.isList.typeIs,fun a e=>?_⟩
      cases e
      obtain⟨o,n,e,c,hd,_⟩:=pl
      exact⟨o,e,hd⟩
    · refine⟨⟨o,I.kIn p o hk,hc⟩,fun a e=>?_⟩
      cases e
      exact⟨o,I.kIn _ o hk,hd⟩
    · have z:∃ o,s.heap.get? p=some o∧o.ExactDict:=by
        rcases hk with ⟨kvs,hk⟩ | ⟨kvs,hk⟩
        · obtain⟨_,_,_,_,o,_,_,e,ex,_⟩:=I.hok p _ hk
          exact⟨o,e,ex⟩
        · obtain⟨_,_,_,_,o,_,_,e,ex,_⟩:=I.hok p _ hk
          exact⟨o,e,ex⟩
      obtain⟨o,e,ex⟩:=z
      refine⟨⟨o,e,ex.1⟩,fun a e2=>?_⟩
      cases e2
      exact⟨o,e,ex.2.1⟩
    · obtain⟨o,_,_,_,e,ex,_⟩:=I.hok p _ hk
      refine⟨⟨o,e,ex.1⟩,fun a e2=>?_⟩
      cases e2
      exact⟨o,e,ex.2.1⟩
  | _=>exact False.elim ty
noncomputable def tBM (K:W.Frag) (T:String) (r:V→List V→Hp→VK→Prop) (to:TE) (t:TA):TE:=fun σ H Q=>to σ H fun x H1=>tyV K T x H1∧t σ H1 fun xs H2=>r x xs H2 Q
variable {o e:Expr} {es:List Expr} {to:TE} {t:TA} {name:Str} {apos cpos:Pos} {T id:String} {r:V→List V→Hp→VK→Prop}
theorem qP8 (pa:PlainAttrs T) (slot:Slot T name id) (hty:typeOf (.builtin id)=pure (.type "method_descriptor")) (hm:MtR X id r) (ho:PE X o to) (ha:PA X (e::es) t)
    (hbase:attributeBase o name X.env (eval o X.env)=eval o X.env:=by rfl)
    (hfew:((backTo cpos (starEach (e::es) X.env)).all (fun x=>!x.1)&&(backToKw cpos (keywordEach [] X.env)).all (fun x=>x.1.isSome)
      && decide ((e::es).length+([]:List Keyword).length+(if ([]:List Keyword).isEmpty then 0 else 1)<30))=true:=by rfl)
    (hline:(apos.endLine==cpos.line)=true:=by rfl) (hs:starEach (e::es) X.env=(false,eval e X.env)::starEach es X.env:=by rfl) (hplain:(backTo cpos (starEach es X.env)).any (·.1)=false:=by rfl) :
    PE X (.Call (.Attribute o name apos) (e::es) [] cpos) (tBM X.K T r to t):=by
  k_dat 0"r1"
  refine wpAny_Call_method_late hbase hfew hline rfl (thn (ho pins s σ H _ I h) fun v s1 ⟨x,H1,I1,r1,ty,q1⟩=>?_)
  obtain⟨h1,h2⟩:=qOE I1 r1 ty
  refine⟨T,id,pa,slot,hty,h1,h2,?_⟩
  have hA:=ha cpos pins s1 σ H1 _ I1 q1
  rw [hs] at hA ⊢
  refine Calls.callWith_builtin (by show (false || (backTo cpos (starEach es X.env)).any (·.1))=false;rw [hplain]<;>rfl) (Calls.evalArgs_plain ?_)
  exact thn hA fun us s2 ⟨vs,H2,I2,r2,q2⟩=>hm pins s2 σ H2 x vs v us Q I2 r1 r2 q2
end
end L2
namespace L2
open PySem PySem.Spec PyProof.Rows
def MtM (X:Cx) (id:String) (r:V→List V→Hp→VK→Prop):Prop :=
  ∀ (pins:List (Addr×Obj)) (s:Shared) (σ:St) (H:Hp) (x:V) (xs:List V) (v:Value) (us:List Value) (Q:VK),Inv X pins σ H s→RelV x v→Vals xs us→r x xs H Q →
    wpAny (model X.prog X.w) X.A (call (.builtin id) (v::us)) (EP X pins σ Q) X.xe s
theorem Vals.one:∀ {x:V} {us:List Value},Vals [x] us→∃ u,us=[u]∧RelV x u
  | _,_,.cons r .nil=>⟨_,rfl,r⟩
theorem Vals.zero:∀ {us:List Value},Vals [] us→us=[]
  | _,.nil=>rfl
theorem Vals.rep {xs:List V} {us:List Value} (h:Vals xs us):∀ k:Nat,Vals (List.replicate k xs).flatten (List.replicate k us).flatten
  | 0=>.nil
  | k+1=>by
    rw [List.replicate_succ,List.replicate_succ,List.flatten_cons,List.flatten_cons]
    exact Vals.append h (Vals.rep h k)
theorem foldl_rep (its:List Value):∀ (k:Nat) (acc:List Value),
    List.foldl (fun x1 x2=>x1++x2) acc.toArray (List.replicate k its.toArray)=(acc++(List.replicate k its).flatten).toArray
  | 0,acc=>by simp
  | k + 1,acc=>by
    have e:acc.toArray++its.toArray=(acc++its).toArray:=by simp
    have e2:(acc++its)++(List.replicate k its).flatten=acc++(List.replicate (k+1) its).flatten:=by
      rw [List.replicate_succ,List.flatten_cons,List.append_assoc]
    rw [← e2,← foldl_rep its k (acc++its),← e,List.replicate_succ,List.foldl_cons]
section
variable {X:Cx} {pins:List (Addr×Obj)} {σ:St} {H:Hp} {s:Shared} {l b:Addr} {xs ys zs:List V}
theorem Inv.qQ5 {its its':List Value} {n:Nat} {f:Array Value→Array Value} {t':Nat} (I:Inv X pins σ H s) (hH:H l=some (.lst xs))
    (e:s.heap.get? l=some { cls:=.type "list",data:=.seq its.toArray n }) (hf:f its.toArray=its'.toArray) (hv:Vals ys its') (hz:ys.length≤sizeLine) :
    Inv X pins σ (upd H l (.lst ys)) { s with heap:=s.heap.update l (Obj.mapSeq f),toks:=t' }:=by
  have q:=PySem.IsL.update e f
  rw [hf] at q
  refine I.write (x:=l) (e:=l) (by rw [hH];exact trivial) (.inl rfl) (fun b' u hb hu=>(Heap.get?_update_other s.heap (Obj.mapSeq f) (Ne.symm hb)).trans hu) ⟨_,q⟩ ?_
  exact⟨hz,its',_,hv,q⟩
theorem Inv.qPu {its:List Value} {t':Nat} (I:Inv X pins σ H s) (hv:Vals ys its) (hz:ys.length≤sizeLine) :
    Inv X pins σ (upd H s.heap.objs.size (.lst ys)) { s with heap:=s.heap.push { cls:=.type "list",data:=.seq its.toArray },toks:=t' } :=
  I.laid (fun _ _ q=>Heap.get?_push_of_some _ q) (Nat.le_refl _) ⟨hz,its,0,hv,Heap.get?_push_size _ rfl⟩
theorem Inv.fresh (I:Inv X pins σ H s):H s.heap.objs.size=none:=I.hok.fresh (Nat.le_refl _)
theorem Inv.qLr (I:Inv X pins σ H s) (hH:H l=some (.lst xs)):xs.length≤sizeLine∧∃ (its:List Value) (n:Nat),Vals xs its∧xs.length=its.length∧s.heap.get? l=some { cls:=.type "list",data:=.seq its.toArray n }:=by
  obtain⟨z,its,n,r,e⟩:=I.hok l _ hH
  exact⟨z,its,n,r,r.length,e⟩
theorem qKP {n:Nat} (h:n≤sizeLine):Builtin.List.listTooLong n=false:=by
  unfold Builtin.List.listTooLong
  exact decide_eq_false (by omega)
end
section
variable {X:Cx}
noncomputable def qMF:V→List V→Hp→VK→Prop:=fun x vs H Q=>∃ l xs y,x = .ref l∧vs=[y]∧H l=some (.lst xs)∧xs.length<sizeLine∧Q .non (upd H l (.lst (xs++[y])))
theorem qJC:MtM X "list.append" qMF:=by
  intro pins s σ H x vs v us Q I rx rv h
  obtain⟨l,xs,y,rfl,rfl,hH,hz,q⟩:=h
  cases rx
  obtain⟨u,rfl,ru⟩:=rv.one
  obtain⟨z,its,n,r,hl,e⟩:=I.qLr hH
  refine call_meets F.slot_list_append ⟨_,e,rfl⟩ F.entry_list_append (F.args_list_append_2 _ _) (PySem.list_append l its.toArray n u (by rw [List.size_toArray];omega)) ⟨e,?_⟩
  refine⟨.non,_,I.qQ5 (its':=its++[u]) hH e (by simp) (r.append (.cons ru .nil)) ?_,rfl,q⟩
  rw [List.length_append,List.length_singleton]
  omega
noncomputable def qQv:R2:=fun x y H Q=>∃ l b xs zs,x = .ref l∧y = .ref b∧H l=some (.lst xs)∧H b=some (.lst zs)∧xs.length+zs.length≤sizeLine∧∀ p,H p=none→Q (.ref p) (upd H p (.lst (xs++zs)))
theorem qO9:OpR X (binaryOp .Add) qQv:=by
  k_dat 0"r4"
  obtain⟨l,b,xs,zs,rfl,rfl,hH,hB,hz,q⟩:=h
  cases rx
  cases ry
  obtain⟨z,its,n,r,hl,e⟩:=I.qLr hH
  obtain⟨z2,its2,n2,r2,hl2,e2⟩:=I.qLr hB
  refine PySem.P.add_list e e2 ?_ (by rw [List.size_toArray,List.size_toArray];omega)
  have ea:its.toArray++its2.toArray=(its++its2).toArray:=by simp
  rw [ea]
  exact⟨.ref _,_,I.qPu (t':=s.toks) (r.append r2) (by rw [List.length_append];omega),rfl,q _ I.fresh⟩
noncomputable def qQr:R2:=fun x y H Q=>∃ l k xs,x = .ref l∧y = .int k∧H l=some (.lst xs)∧-(2 ^ 63)≤k∧k<2 ^ 63∧xs.length * k.toNat≤sizeLine ∧
  ∀ p,H p=none→Q (.ref p) (upd H p (.lst (List.replicate k.toNat xs).flatten))
theorem len_rep {α:Type} (xs:List α) (k:Nat):(List.replicate k xs).flatten.length=k * xs.length:=by
  induction k with
  | zero=>simp
  | succ k ih=>rw [List.replicate_succ,List.flatten_cons,List.length_append,ih,Nat.succ_mul,Nat.add_comm]
theorem qOC:OpR X (binaryOp .Mult) qQr:=by
  k_dat 0"r4"
  obtain⟨l,k,xs,rfl,rfl,hH,h1,h2,hz,q⟩:=h
  cases rx
  obtain⟨t,rfl⟩:=ry
  obtain⟨z,its,n,r,hl,e⟩:=I.qLr hH
  have hlen:its.toArray.size * k.toNat≤sizeLine:=by rw [List.size_toArray,← hl];exact hz
  have hcap:¬ its.toArray.size * k.toNat > (2 ^ 63 - 1) / 8:=by
    have:(sizeLine:Nat)≤(2 ^ 63 - 1) / 8:=by decide
    omega
  have hfit:¬ (!Builtin.List.listFitsIndex k)=true:=by
    rw [fitsIndex_both h1 h2]
    exact Bool.false_ne_true
  have hlong:¬ Builtin.List.listTooLong (its.toArray.size * k.toNat)=true:=by
    rw [qKP hlen]
    exact Bool.false_ne_true
  have hnew:List.foldl (fun x1 x2=>x1++x2) #[] (List.replicate (if its.toArray.isEmpty=true then 0 else k.toNat) its.toArray)=(List.replicate k.toNat its).flatten.toArray:=by
    have f0:∀ m:Nat,List.foldl (fun x1 x2=>x1++x2) #[] (List.replicate m its.toArray)=(List.replicate m its).flatten.toArray:=fun m=>by
      have:=foldl_rep its m []
      rw [List.nil_append] at this
      exact this
    rw [f0]
    cases its with
    | nil=>simp
    | cons a r'=>rw [if_neg (by simp)]
  refine wpAny_binaryOp_repeat_ref (T:= "list") (U:= "int") (by decide) ⟨_,e,rfl⟩ (fun s'=>typeIs_int s' k t) noFill_list_mul F.fills_int_mul F.slot_int_rmul repeat_list F.slot_int_index.lookup
    (call_meets F.slot_int_rmul (typeIs_int s k t) F.entry_int_rmul (F.args_int_rmul_2 _ _) (int___rmul___int_list k t l its.toArray n)
      ⟨e,rfl,⟨_,e,rfl⟩,call_meets F.slot_list_mul ⟨_,e,rfl⟩ F.entry_list_mul (F.args_list_mul_2 _ _) (AutoListH.list___mul___list_int_3 l its.toArray n k t hfit hcap hlong) ⟨e,?_⟩⟩)
  rw [hnew]
  exact⟨.ref _,_,I.qPu (t':=s.toks) (r.rep k.toNat) (by rw [len_rep,Nat.mul_comm];exact hz),rfl,q _ I.fresh⟩
end
end L2
namespace Att
open PySem PySem.W PySem.Calls PyProof.Rows
theorem qEG {P:Params} {h:Heap}:∀ (ns:List Int) (vs:List Value),WellAll P h vs (ns.map WData.int)→IntsAre vs ns:=by
  intro ns
  induction ns with
  | nil =>
    intro vs w
    rw [List.map_nil] at w
    cases w
    exact .nil
  | cons n ns ih =>
    intro vs w
    rw [List.map_cons] at w
    cases w with
    | cons a b =>
      cases a
      exact .cons _ _ (ih _ b)
theorem qI1 {l:OpenLaw} {n:Nat} (hn:l.most=some n) {P:Params} {h:Heap} {args:List WData} {vals:List Value}
    (hpre:l.row.toRowW.claim.pre args=true) (hwl:WellAll P h vals args) :
    ∃ a vs ns,vals=[Value.ref a]∧args=[WData.list (ns.map WData.int)]∧h.get? a=some { cls:=.type "list",data:=.seq vs.toArray }∧IntsAre vs ns∧ns.length≤n:=by
  have hsh:WShape.hasAll [] args [.list .int]=true:=(pre_splitW hpre).1
  have hc:l.pre.holds [] { args:=args }=true:=(pre_splitW hpre).2
  obtain⟨d,r,rfl,h1,h2⟩:=hasAllW_cons hsh
  obtain rfl:=hasAllW_nil h2
  obtain⟨xs,rfl,h3⟩:=hasW_list h1
  obtain⟨ns,rfl⟩:=items_int h3
  have hlen:ns.length≤n:=by
    unfold OpenLaw.pre at hc
    have h4:(WTm.not (.lt (.lit (.int (n:Int))) (.len (.arg 0)))).holds [] { args:=[.list (ns.map .int)] }=true:=by
      have h4:=(holds_andW hc).1
      rw [hn] at h4
      exact h4
    have h5:=condW_of h4 (w_not (w_lt w_lit (w_len_list (w_arg rfl))))
    rw [List.length_map] at h5
    refine Nat.le_of_not_lt fun q=>?_
    have q':(n:Int)<((ns.length:Nat):Int):=by omega
    first
      | (rw [decide_eq_true q'] at h5;exact absurd h5 (by decide))
      | (simp at h5;omega)
  cases hwl with
  | cons w1 w2 =>
    cases w2
    cases w1 with
    | list ho hall=>exact⟨_,_,ns,rfl,rfl,ho,qEG ns _ hall,hlen⟩
theorem qJK (l:OpenLaw) (args:List WData):l.row.toRowW.claim.post args (.bool true) args=true :=
  postW_of (r:=l.row.toRowW) (X:=(true==true))
    (show WShape.has [] (.bool true) .bool=true by first | rfl | decide | simp [WShape.has,WShape.arms,WShape.armsAll])
    (show (WTm.eq .res (.lit (.bool true))).value [] { args:=args,res:=some (.bool true),after:=args }=some (.bool (true==true)) from w_eq_bool (w_res rfl) w_lit) rfl
theorem qGl {l:OpenLaw} {n:Nat} {q:Program} {loose:List Str} {XP:(Str→Option Value)→Heap→Prop} {YP:World→Heap→Prop} {d:DefRec}
    (hn:l.most=some n) (hdf:d.params.defaults=[])
    (call:∀ (w:World) (s₀ s₁:Shared) (mg mb:Str→Option Value) (fa:Addr) (o:Obj) (pm cd doc:Value) (a:Addr) (vs:List Value) (ns:List Int),
      Ground q loose [] XP w s₀ mg mb s₁.heap→YP w s₁.heap →
      s₁.heap.get? fa=some o→o.data = .func (docDef d.name d.params d.body d.scope pm cd doc)→s₁.heap.CodeRec cd d.name→mg d.name=some (.ref fa) →
      s₁.heap.get? a=some { cls:=.type "list",data:=.seq vs.toArray }→IntsAre vs ns→ns.length≤n→s₁.gens=#[] →
      codeAny (model l.prog w) callerA (.call (.ref fa) ⟨[.ref a],[]⟩) (fun r s'=>r = .ok (.ret (.bool true))∧OldK s₁.heap s'.heap∧s'.os=s₁.os∧AllBare s'.gens) s₁) :
    WalkO q loose XP YP l.row.toRowW d [] (fun f vs=>PySem.call f vs):=by
  intro w s₀ s₁ mg mb G Y fa o pm cd doc dV kV ho hd hcd hD hmg hg args vals as hpre hlay hrd hwl hlo
  obtain rfl:dV = .none:=Dflts.none hD hdf
  obtain rfl:kV = .none:=Dflts.noKw hD
  obtain⟨a,vs,ns,rfl,rfl,hobj,hints,hlen⟩:=qI1 hn hpre hwl
  refine enter_call (codeAny_mono (call w s₀ s₁ mg mb fa o pm cd doc a vs ns G Y ho (fd_plain hd) hcd hmg hobj hints hlen hg) fun r s' hq=>?_)
  obtain⟨rfl,h2,h3,h4⟩:=hq
  exact⟨.inl ⟨.bool true,.bool true,[],rfl,fun _=>rfl,.bool true,qJK l _,fun _=>⟨List.Pairwise.nil,fun _ hm=>(nomatch hm)⟩⟩,h2,h3,h4⟩
end Att
namespace L2
open PySem PySem.Spec PyProof.Rows
theorem qFQ:∀ {vs:List Value} {ns:List Int},IntsAre vs ns→Vals (ns.map V.int) vs
  | _,_,.nil=>.nil
  | _,_,.cons n t h=>.cons ⟨t,rfl⟩ (qFQ h)
def qOD (H:Hp):Prop:=∀ b,H b=none∨∃ o xs,H b=some (.frz o (.lst xs))
theorem qLG {P:Program} {w:World} {K:W.Frag} {mg mb:Str→Option Value} {CX:CXT} {k:Nat} {fa a:Addr} {fd:FuncData} {x:Str} {sp:Sp} {s₁:Shared} {vs:List Value} {ns:List Int}
    (KX:K.In s₁.heap) (hns:s₁.heap.Ns mainGlobals mg) (hb:s₁.heap.Ns builtinsNs mb) (hbb:∀ x:Str,x ≠ "__name__" → mb x=bootBuiltins x) (hlim:s₁.heap.NoLimit) (hg:s₁.gens=#[])
    (ha:s₁.heap.get? a=some { cls:=.type "list",data:=.seq vs.toArray }) (hi:IntsAre vs ns) (hl:ns.length≤sizeLine) (hr:qA4 k callerA)
    (F:∀ base:Heap,K.In base→base.Ns mainGlobals mg→qAM P w K mg base CX k fa fd [x] sp) (hbind:∀ (s:Shared) (u:Value),BindsTo s fd ⟨[u],[]⟩ [(x,u)])
    (hsp:∀ H:Hp,qOD H→SqL K H a (ns.map V.int)→sp [.ref a] H (fun v _=>v = .bl true) fun _ _ _=>False)
    (hCX:∀ H e s',CX [] H s₁ (fun _ _ _=>False) e s'→False) :
    codeAny (model P w) callerA (.call (.ref fa) ⟨[.ref a],[]⟩) (fun r s'=>r = .ok (.ret (.bool true))∧OldK s₁.heap s'.heap∧s'.os=s₁.os∧AllBare s'.gens) s₁:=by
  have rv:=qFQ hi
  have lenV:=hi.length
  -- from an abstract heap in which nothing but the script may be tracked
  have core : ∀ H:Hp,qOD H→SqL K H a (ns.map V.int)→HOk P w H s₁.heap→(∀ b,H b≠none→b=a)→(H a≠none→K.lookup a=none) →
      codeAny (model P w) callerA (.call (.ref fa) ⟨[.ref a],[]⟩) (fun r s'=>r = .ok (.ret (.bool true))∧OldK s₁.heap s'.heap∧s'.os=s₁.os∧AllBare s'.gens) s₁:=by
    intro H hO hS hok hA hK
    have base_of:∀ {b:Addr} {o:Obj},s₁.heap.get? b=some o→H b=none→(qGg s₁.heap H).get? b=some o:=fun e n=>qLD e n
    have noA:∀ {b:Addr} {o:Obj} {es:Array DictEntry} {ep:Nat},s₁.heap.get? b=some o→o.data = .dict es ep→H b=none:=fun {b o es ep} e d=>by
      cases q:H b with
      | none=>rfl
      | some u =>
        have e':b=a:=hA b (by rw [q];simp)
        subst e'
        rw [ha] at e;cases e
        have d':Data.seq vs.toArray _=Data.dict es ep:=d
        cases d'
    have nsK:∀ {b:Addr} {m:Str→Option Value},s₁.heap.Ns b m→(qGg s₁.heap H).Ns b m:=fun {b m} ⟨o,es,ep,e,d,r⟩=>⟨o,es,ep,base_of e (noA e d),d,r⟩
    have hKb:K.In (qGg s₁.heap H):=fun b o e=>base_of (KX b o e) (by
      cases q:H b with
      | none=>rfl
      | some u =>
        have e':b=a:=hA b (by rw [q];simp)
        subst e'
        rw [hK (by rw [q];simp)] at e;cases e)
    have hM:Mod K mg (qGg s₁.heap H):=⟨hKb,nsK hns,⟨mb,nsK hb,hbb⟩,let ⟨mc,h1,h2⟩:=hlim;⟨mc,nsK h1,h2⟩⟩
    have e0:qHd P w K mg (qGg s₁.heap H) callerA [] s₁ H:=⟨rfl,hM,fun b o e=>qLy e,Nat.le_of_eq (qJg _ _),trivial,fun b hb=>absurd (show b∈([]:List Addr) from hb) (by simp),hok,.of_eq hg⟩
    refine codeAny_mono ((F _ hKb (nsK hns)).run callerA [] s₁ H ⟨[.ref a],[]⟩ [.ref a] [.ref a] _ _ hr e0 (hbind s₁ (.ref a)) (.cons rfl .nil) (hsp H hO hS)) fun r s' h=>?_
    cases r with
    | error e=>exact (hCX H e s' h).elim
    | ok fl =>
      cases fl with
      | next=>exact False.elim h
      | brk=>exact False.elim h
      | cont=>exact False.elim h
      | ret u =>
        obtain⟨v,H',os,bare,un,hok',r',q⟩:=h
        have q':v = .bl true:=q
        subst q'
        obtain rfl:u=Value.bool true:=r'
        refine⟨rfl,OldK.of_keep fun b o e=>?_,os,bare⟩
        cases q:H b with
        | none=>exact un.keep b o e q (by intro z;exact absurd (show b∈([]:List Addr) from z) (by simp)) (by simp)
        | some u =>
          rcases hO b with z | ⟨ob,xs,z⟩
          · rw [q] at z;cases z
          · have z2:=un.frzs b ob _ z
            obtain⟨e1,_⟩:=hok b _ z
            obtain⟨e2,_⟩:=hok' b _ z2
            rw [e] at e1;cases e1
            exact e2
  cases hk:K.lookup a with
  | some o =>
    -- the script is one of the module's own objects
    have e:=KX a o hk
    rw [ha] at e
    cases e
    refine core (fun _=>none) (fun _=>.inl rfl) (.inr ⟨_,vs.toArray,_,hk,rfl,rfl,rfl,by rw [List.size_toArray,lenV];exact hl,by simpa using rv⟩) (fun b u z=>by have z':(none:Option HO)=some u:=z;cases z') (fun b z=>absurd rfl z) fun z=>absurd rfl z
  | none =>
    refine core (fun b=>if b=a then some (.frz { cls:=.type "list",data:=.seq vs.toArray } (.lst (ns.map V.int))) else none) (fun b=>?_) (.inl (.inr ⟨{ cls:=.type "list",data:=.seq vs.toArray },if_pos rfl⟩)) (fun b u z=>?_) (fun b z=>?_) fun _=>hk
    · by_cases hb:b=a
      · exact .inr ⟨_,_,if_pos hb⟩
      · exact .inl (if_neg hb)
    · by_cases hb:b=a
      · have z':=(if_pos hb).symm.trans z
        cases z'
        subst hb
        exact⟨ha,by rw [List.length_map];exact hl,vs,_,rv,ha⟩
      · have z':=(if_neg hb).symm.trans z
        cases z'
    · by_cases hb:b=a
      · exact hb
      · exact absurd (if_neg hb) z
end L2
namespace L2
open PySem PySem.Spec PyProof.Rows
theorem qLw {l:W.OpenLaw} {n k:Nat} {q:Program} {loose:List Str} {XP:(Str→Option Value)→Heap→Prop} {YP:World→Heap→Prop} {d:DefRec} {K:Params→W.Frag} {CX:World→CXT} {sp:World→Sp} {x:Str}
    (hn:l.most=some n) (hn2:n≤sizeLine) (hdf:d.params.defaults=[]) (hr:qA4 k callerA)
    (hY:∀ (w:World) (h:Heap),YP w h→(K w.params).In h)
    (F:∀ (w:World) (mg:Str→Option Value) (fa:Addr) (h:Heap),(K w.params).In h→h.Ns mainGlobals mg→mg d.name=some (.ref fa) →
      ∃ fd:FuncData,(∀ (s:Shared) (u:Value),BindsTo s fd ⟨[u],[]⟩ [(x,u)]) ∧
        ∀ base:Heap,(K w.params).In base→base.Ns mainGlobals mg→qAM l.prog w (K w.params) mg base (CX w) k fa fd [x] (sp w))
    (hsp:∀ (w:World) (H:Hp) (a:Addr) (ns:List Int),ns.length≤n→qOD H→SqL (K w.params) H a (ns.map V.int)→sp w [.ref a] H (fun v _=>v = .bl true) fun _ _ _=>False)
    (hCX:∀ (w:World) (H:Hp) (s:Shared) (e:Value) (s':Shared),CX w [] H s (fun _ _ _=>False) e s'→False) :
    W.WalkO q loose XP YP l.row.toRowW d [] (fun f vs=>PySem.call f vs):=by
  refine Att.qGl hn hdf fun w s₀ s₁ mg mb fa o pm cd doc a vs ns G Y ho hd hcd hmg hobj hints hlen hg=>?_
  have KX:=hY w _ Y
  obtain⟨fd,hb,hF⟩:=F w mg fa _ KX G.T.g hmg
  exact qLG KX G.T.g G.T.b G.T.builtins G.T.nolimit hg hobj hints (Nat.le_trans hlen hn2) hr hF hb (fun H hO hS=>hsp w H a ns hlen hO hS) fun H e s'=>hCX w H s₁ e s'
end L2
namespace L2
open PySem PySem.Spec PyProof.Rows
noncomputable def qA1 (s:Stmt):Arguments:=match s with
  | .FunctionDef _ a _ _ _ _ _ _ _ _=>a
  | _=>{ posonlyargs:=[],args:=[],vararg:=none,kwonlyargs:=[],kw_defaults:=[],kwarg:=none,defaults:=[] }
noncomputable def qAj (s:Stmt):List Stmt:=match s with
  | .FunctionDef _ _ b _ _ _ _ _ _ _=>b
  | _=>[]
noncomputable def qO (s:Stmt):Scope:=match s with
  | .FunctionDef _ _ _ _ _ _ sc _ _ _=>sc
  | _=>{ kind:=.function,names:=[],isGenerator:=false,isCoroutine:=false }
noncomputable abbrev CX0:CXT:=fun _ _ _ _ _ _=>False
noncomputable abbrev E0:XK:=fun _ _ _=>False
theorem qMo {X:Cx}:Passes CX0 X E0:=fun _ _ _ _ _ _ _ h=>h.elim
structure Fun (K:W.Frag) (x qual:Str) (st:Stmt) (f:Addr) (fd:FuncData):Prop where
  ex:∃ (oc:Value) (od:Option Addr) (kV doc pm:Value) (an:Option Addr) (cdv ct:Value) (osl:Array (Option Value)),
    fd=W.fnOf x qual (qA1 st) (qAj st) (qO st) .none kV doc pm an cdv ct∧K.lookup f=some ⟨oc,od,.func fd,osl⟩∧W.codeIn K cdv qual=true
  kp:W.keepIn K (.ref f)=true
section
variable {P:Program} {w:World} {K:W.Frag} {mg:Str→Option Value} {base:Heap}
theorem Fun.ok {x qual:Str} {st:Stmt} {f:Addr} {fd:FuncData} {N ps:List Str} {k:Nat} {sp:Sp} (F:Fun K x qual st f fd) (S:qZ N ps (qO st)) (len:∀ vs H Q E,sp vs H Q E→vs.length=ps.length)
    (hbody:∀ (cdv:Value) (A:Around) (outer:List Env) (s:Shared) (H:Hp) (vs:List V) (Q:VK) (E:XK),qA4 k (A.deeper (envOfC qual (qO st) s.heap.objs.size f cdv))→sp vs H Q E →
      ∃ t,PSs (qGA CX0 P w K mg base N qual (qO st) f cdv A outer s H E).nox (qAj st) t∧t { nx:=fun _ H'=>Q .non H',rt:=Q } (start N vs) H):qAM P w K mg base CX0 (k+1) f fd ps sp:=by
  k_dat 0"r35"
  refine qMz lk hcd S len fun A outer s H vs Q E hr hsp=>?_
  obtain⟨t,h,q⟩:=hbody cdv A outer s H vs Q E hr hsp
  exact⟨t,h.nox,q⟩
theorem Fun.binds {x qual:Str} {st:Stmt} {f:Addr} {fd:FuncData} {ps:List Str} (F:Fun K x qual st f fd)
    (h:∀ (kV doc pm:Value) (an:Option Addr) (cdv ct:Value) (us:List Value),us.length=ps.length→bindArgs (W.fnOf x qual (qA1 st) (qAj st) (qO st) .none kV doc pm an cdv ct) ⟨us,[]⟩=pure (ps.zip us)):Binds K fd ps []:=by
  k_dat 0"r35"
  exact .all (h kV doc pm an cdv ct)
theorem qK0 {x qual:Str} {st:Stmt} {f:Addr} {oc:Value} {od an:Option Addr} {osl:Array (Option Value)} {kV doc pm cdv ct:Value} (l:K.lookup f=some ⟨oc,od,.func (W.fnOf x qual (qA1 st) (qAj st) (qO st) .none kV doc pm an cdv ct),osl⟩)
    (c:W.codeIn K cdv qual=true) (k:W.keepIn K (.ref f)=true):Fun K x qual st f (W.fnOf x qual (qA1 st) (qAj st) (qO st) .none kV doc pm an cdv ct):=⟨⟨oc,od,kV,doc,pm,an,cdv,ct,osl,rfl,l,c⟩,k⟩
end
theorem qAh {n:Nat} (h:n≤1000):n<sizeLine:=Nat.lt_of_le_of_lt h (by decide)
theorem qBB {A B:Prop} (h:B):if false=true then A else B:=by
  rw [if_neg Bool.false_ne_true]
  exact h
theorem qBA {A B:Prop} (h:A):if true=true then A else B:=by
  rw [if_pos rfl]
  exact h
def qP4 (H H':Hp):Prop:=∀ b o,H b=some o→H' b=some o
theorem qP4.free {H H':Hp} (e:qP4 H H') {l:Addr} (h:H' l=Option.none):H l=Option.none:=by
  cases q:H l with
  | none=>rfl
  | some o =>
    rw [e l o q] at h
    cases h
end L2
namespace L2
open PySem PySem.Spec PyProof.Rows
section
variable {κ:Type} [DecidableEq κ]
noncomputable def qBr (kvs:List (κ×V)) (k:κ):Option V:=(kvs.find? fun kv=>decide (kv.1=k)).map (·.2)
noncomputable def putK (kvs:List (κ×V)) (k:κ) (v:V):List (κ×V) :=
  if (kvs.any fun kv=>decide (kv.1=k))=true then kvs.map (fun kv=>if kv.1=k then (kv.1,v) else kv) else kvs++[(k,v)]
theorem qK4 {k:κ}:qBr ([]:List (κ×V)) k=none:=rfl
theorem qGz {p:κ×V} {r:List (κ×V)} {k:κ} (e:p.1=k):qBr (p::r) k=some p.2:=by simp [qBr,List.find?_cons,e]
theorem qHX {p:κ×V} {r:List (κ×V)} {k:κ} (e:¬ p.1=k):qBr (p::r) k=qBr r k:=by simp [qBr,List.find?_cons,e]
theorem qGo (kvs:List (κ×V)) (k:κ) (v:V):(putK kvs k v).length≤kvs.length+1:=by
  unfold putK
  split
  · rw [List.length_map];omega
  · rw [List.length_append,List.length_cons,List.length_nil];omega
theorem qFK.getD {o:Option V} {u:Option Value} {d:V} {d':Value} (r:qFK o u) (rd:RelV d d'):RelV (o.getD d) (u.getD d'):=by
  cases o with
  | none=>cases u with
    | none=>exact rd
    | some _=>exact (show False from r).elim
  | some _=>cases u with
    | none=>exact (show False from r).elim
    | some _=>exact r
theorem KV.val {kvs:List (κ×V)} {vs:List (κ×Value)} (r:KV kvs vs) (k:κ):qFK (qBr kvs k) (valueAt vs k):=by
  unfold KV at r
  induction r with
  | nil=>exact True.intro
  | @cons p q ps qs h t ih =>
    obtain⟨h1,h2⟩:=h
    by_cases e:p.1=k
    · have e':q.1=k:=h1.symm.trans e
      have b:valueAt (q::qs) k=some q.2:=by simp [valueAt,List.find?_cons,e']
      rw [qGz e,b];exact h2
    · have e':¬ q.1=k:=fun z=>e (h1.trans z)
      have b:valueAt (q::qs) k=valueAt qs k:=by simp [valueAt,List.find?_cons,e']
      rw [qHX e,b];exact ih
theorem KV.any {kvs:List (κ×V)} {vs:List (κ×Value)} (r:KV kvs vs) (k:κ):(kvs.any fun kv=>decide (kv.1=k))=vs.any fun kv=>decide (kv.1=k):=by
  unfold KV at r
  induction r with
  | nil=>rfl
  | cons h t ih=>rw [List.any_cons,List.any_cons,ih,h.1]
theorem KV.repl {kvs:List (κ×V)} {vs:List (κ×Value)} (r:KV kvs vs) (k:κ) {y:V} {u:Value} (ry:RelV y u) :
    KV (kvs.map fun kv=>if kv.1=k then (kv.1,y) else kv) (vs.map fun kv=>if kv.1=k then (kv.1,u) else kv):=by
  unfold KV at r ⊢
  induction r with
  | nil=>exact .nil
  | @cons p q ps qs h t ih =>
    rw [List.map_cons,List.map_cons]
    refine .cons ?_ ih
    obtain⟨h1,h2⟩:=h
    by_cases e:p.1=k
    · rw [if_pos e,if_pos (h1.symm.trans e)];exact⟨h1,ry⟩
    · rw [if_neg e,if_neg (fun z=>e (h1.trans z))];exact⟨h1,h2⟩
theorem KV.put {kvs:List (κ×V)} {vs:List (κ×Value)} (r:KV kvs vs) (k:κ) {y:V} {u:Value} (ry:RelV y u):KV (putK kvs k y) (stored vs k u):=by
  unfold putK stored
  rw [r.any k]
  by_cases e:(vs.any fun kv=>decide (kv.1=k))=true
  · rw [if_pos e,if_pos e];exact r.repl k ry
  · rw [if_neg e,if_neg e];exact Paired.snoc r ⟨rfl,ry⟩
end
theorem qKj {P:Program} {w:World} {k:Key} {u:Value} (r:RelV (kV k) u):(qAo P w).is k u=true:=by
  cases k with
  | inl i=>obtain⟨t,e⟩:=(show ∃ t,u=Value.int i t from r);subst e;exact qHA P w i t
  | inr x=>obtain⟨t,e⟩:=(show ∃ t,u=Value.str x t from r);subst e;exact qGm P w x t
theorem qFO {P:Program} {w:World}:∀ {ks:List Key} {us:List Value},Vals (ks.map kV) us→ItemsAre (qAo P w) ks us
  | [],_,r=>by rw [List.map_nil] at r;cases r;exact .nil
  | k::ks,_,r=>by
    rw [List.map_cons] at r
    cases r with
    | cons h t=>exact .cons (qKj h) (qFO t)
noncomputable abbrev KT (H:Hp):List (List Key×V)→List (List Key×Addr×Value)→Prop:=Paired fun p q=>p.1=q.1∧H q.2.1=some (.tup (p.1.map kV))∧RelV p.2 q.2.2
theorem KT.val {H:Hp} {kvs:List (List Key×V)} {xs:List (List Key×Addr×Value)} (r:KT H kvs xs) (k:List Key):qFK (qBr kvs k) ((atKey xs k).map (·.2)):=by
  induction r with
  | nil=>exact True.intro
  | @cons p q ps qs h t ih =>
    obtain⟨h1,_,h2⟩:=h
    by_cases e:p.1=k
    · have e':q.1=k:=h1.symm.trans e
      have b:atKey (q::qs) k=some q.2:=by simp [atKey,List.find?_cons,e']
      rw [qGz e,b];exact h2
    · have e':¬ q.1=k:=fun z=>e (h1.trans z)
      have b:atKey (q::qs) k=atKey qs k:=by simp [atKey,List.find?_cons,e']
      rw [qHX e,b];exact ih
theorem KT.keeps {H H':Hp} {kvs:List (List Key×V)} {xs:List (List Key×Addr×Value)} (r:KT H kvs xs) (ht:∀ b ys,H b=some (.tup ys)→H' b=some (.tup ys)):KT H' kvs xs :=
  Paired.qOl r fun _ _ z=>⟨z.1,ht _ _ z.2.1,z.2.2⟩
section
variable {P:Program} {w:World} {H:Hp} {h:Heap} {a:Addr}
theorem qNB {u:HO} (ok:HOk P w H h) (e:Rd H a u):qAw P w H h a u:=e.ok ok
theorem qJp {kvs:List (Key×V)} (ok:HOk P w H h) (e:Rd H a (.dK kvs)):kvs.length≤sizeLine∧(a==sysModules)=false∧∃ vs,KV kvs vs∧h.DictOf (qAo P w) a vs :=
  show qAw P w H h a (.dK kvs) from qNB ok e
theorem qQh {kvs:List (Key×V)} (ok:HOk P w H h) (e:H a=some (.dK kvs)):kvs.length≤sizeLine∧(a==sysModules)=false∧∃ vs,KV kvs vs∧h.DictOf (qAo P w) a vs:=qJp ok (.inl e)
theorem qF8 {ks:List Key} (ok:HOk P w H h) (e:H a=some (.tup (ks.map kV))):(tupleKind (qAo P w)).is h ks a:=by
  obtain⟨_,its,r,o,h1,⟨h2,_⟩,n,h3⟩:=(show qAw P w H h a (.tup (ks.map kV)) from ok a _ e)
  exact⟨o,its.toArray,n,h1,h2,h3,by simpa using qFO r⟩
theorem qMr {kvs:List (List Key×V)} (ok:HOk P w H h) (e:Rd H a (.dT kvs)):kvs.length≤sizeLine∧(a==sysModules)=false ∧
    ∃ xs,KT H kvs xs∧h.DictOfH (tupleKind (qAo P w)) a xs:=by
  obtain⟨z,y,xs,r,o,es,ep,h1,h2,h3,h4,h5⟩:=(show qAw P w H h a (.dT kvs) from qNB ok e)
  refine⟨z,y,xs,r,o,es,ep,h1,h2,h3,h4,fun x hx=>?_,h5⟩
  have all:∀ {l:List (List Key×V)} {m:List (List Key×Addr×Value)},KT H l m→∀ x∈m,(tupleKind (qAo P w)).is h x.1 x.2.1:=by
    intro l m q
    induction q with
    | nil=>intro x hx;exact nomatch hx
    | @cons p q ps qs hq t ih =>
      intro x hx
      rcases List.mem_cons.mp hx with e | hx
      · subst e
        exact qF8 ok (by rw [← hq.1];exact hq.2.1)
      · exact ih x hx
  exact all r x hx
end
def qGx (H:Hp) (a:Addr) (y:V) (r:Option V):Prop :=
  (∃ kvs k,Rd H a (.dK kvs)∧y=kV k∧r=qBr kvs k)∨∃ kvs k b,Rd H a (.dT kvs)∧y = .ref b∧H b=some (.tup (k.map kV))∧r=qBr kvs k
def qQG (H:Hp) (a:Addr) (y v:V) (H':Hp):Prop :=
  (∃ kvs k,H a=some (.dK kvs)∧y=kV k∧kvs.length<sizeLine∧H'=upd H a (.dK (putK kvs k v))) ∨
  ∃ kvs k b,H a=some (.dT kvs)∧y = .ref b∧H b=some (.tup (k.map kV))∧kvs.length<sizeLine∧H'=upd H a (.dT (putK kvs k v))
theorem qGx.k {H:Hp} {a:Addr} {kvs:List (Key×V)} {k:Key} (e:H a=some (.dK kvs)):qGx H a (kV k) (qBr kvs k):=.inl ⟨kvs,k,.inl e,rfl,rfl⟩
theorem qGx.t {H:Hp} {a b:Addr} {kvs:List (List Key×V)} {k:List Key} (e:H a=some (.dT kvs)) (eb:H b=some (.tup (k.map kV))):qGx H a (.ref b) (qBr kvs k):=.inr ⟨kvs,k,b,.inl e,rfl,eb,rfl⟩
theorem qQG.t {H:Hp} {a b:Addr} {kvs:List (List Key×V)} {k:List Key} {v:V} (e:H a=some (.dT kvs)) (eb:H b=some (.tup (k.map kV))) (hl:kvs.length<sizeLine) :
    qQG H a (.ref b) v (upd H a (.dT (putK kvs k v))):=.inr ⟨kvs,k,b,e,rfl,eb,hl,rfl⟩
section
variable {X:Cx} {pins:List (Addr×Obj)} {σ:St} {H:Hp} {s:Shared} {a:Addr} {y v:V} {u r:Value} {o:Option V} {A:Around} {E:Value→Shared→Prop}
theorem Inv.big (I:Inv X pins σ H s):sysModules<s.heap.objs.size:=by
  have h:mainGlobals<s.heap.objs.size:=(I.mod.glob.keeps I.bk).lt
  exact Nat.lt_trans (by decide) h
theorem qJO {Q:Value→Shared→Prop} (hu:A.units+1<cLine) (I:Inv X pins σ H s) (g:qGx H a y (some v)) (ry:RelV y u) (h:∀ w' s',Inv X pins σ H s'→RelV v w'→Q w' s') :
    wpAny (model X.prog X.w) A (getItem (.ref a) u) Q E s:=by
  rcases g with ⟨kvs,k,e,ey,l⟩ | ⟨kvs,k,b,e,ey,eb,l⟩
  · subst ey
    obtain⟨z,hd,vs,rel,dd⟩:=qJp I.hok e
    obtain⟨w',hw,rw'⟩:=qFK.some_of (v:=v) (o:=valueAt vs k) (by rw [l];exact rel.val k)
    exact wpAny_getItem_of (qKj ry) dd.mapOf hw (h w' _ (I.tok _) rw')
  · subst ey
    cases (show u=Value.ref b from ry)
    obtain⟨z,hd,xs,rel,dd⟩:=qMr I.hok e
    obtain⟨w',hw,rw'⟩:=qFK.some_of (v:=v) (o:=(atKey xs k).map (·.2)) (by rw [l];exact rel.val k)
    obtain⟨p,hp,hp2⟩:=Option.map_eq_some_iff.mp hw
    refine wpAny_getItem_heap (tupleKind_room_in1 hu) (qF8 I.hok eb) dd hp ?_
    rw [hp2]
    exact h w' _ (I.tok _) rw'
theorem qLv {h':Heap} {t':Nat} {ob:HO} (I:Inv X pins σ H s) (mu:Mut (H a)) (hs:Heap.SameBut a s.heap h') (he:∃ q,h'.get? a=some q) (new:qAw X.prog X.w (upd H a ob) h' a ob) :
    Inv X pins σ (upd H a ob) { s with heap:=h',toks:=t' } :=
  I.write (x:=a) (e:=a) mu (.inl rfl) (fun b q hb z=>(hs.2 b hb).trans z) he new
theorem qOx {P:Program} {w:World} {H':Hp} {h':Heap} {kvs:List (Key×V)} {vs:List (Key×Value)} (z:kvs.length≤sizeLine) (hd:(a==sysModules)=false) (rel:KV kvs vs) (dd:h'.DictOf (qAo P w) a vs) :
    qAw P w H' h' a (.dK kvs):=⟨z,hd,vs,rel,dd⟩
end
def qJF (i:Expr):Prop:=∀ ov iv,subscripted i false ov iv=operate [ov,iv] (getItem ov iv)
theorem qIj {prog:Program} {w:World} {A:Around} {E:Value→Shared→Prop} {s:Shared} {env:Env} {value slice:Expr} {pos:Pos} {T id:String} {Q:Value→Shared→Prop}
    (hl:typeLookup (.type T) "__getitem__" = pure (some (.builtin id))) (hs:qJF slice)
    (h:wpAny (model prog w) A (eval value env) (fun o s₁=>wpAny (model prog w) A (eval slice env) (fun i s₂=>s₂.TypeIs o T∧wpAny (model prog w) A (getItem o i) Q E s₂) E s₁) E s) :
    wpAny (model prog w) A (eval (.Subscript value slice pos) env) Q E s:=by
  refine Subscript_ (wpAny_mono h (fun o s₁ h₁=>wpAny_mono h₁ (fun i s₂ h₂=>?_) fun _ _ x=>x) fun _ _ x=>x)
  obtain⟨hT,h₂⟩:=h₂
  unfold subscriptTail
  refine wpAny_bind ?_
  rw [getitemInPython_of_ne hT.not_modules]
  refine wpAny_bind (wpAny_specialOf hT hl ?_)
  have fin:wpAny (model prog w) A (subscripted slice false o i) (fun r s₃=>wpAny (model prog w) A (letTemporaryGo value o r >>= fun _=>pure r) Q E s₃) E s₂:=by
    rw [hs o i]
    exact wpAny_operating (wpAny_mono h₂ (fun r s₃ h₃=>wpAny_bind (wpAny_letTemporaryGo (wpAny_pure h₃))) fun _ _ x=>x)
  first
    | exact wpAny_pure (wpAny_bind fin)
    | exact wpAny_bind (wpAny_pure (wpAny_bind fin))
    | exact wpAny_bind fin
theorem qG7 {X:Cx} {pins:List (Addr×Obj)} {σ:St} {H:Hp} {s:Shared} {a:Addr} {y:V} {o:Option V} (I:Inv X pins σ H s) (g:qGx H a y o):s.TypeIs (.ref a) "dict":=by
  rcases g with ⟨kvs,k,e,_,_⟩ | ⟨kvs,k,b,e,_,_,_⟩
  · obtain⟨_,_,vs,_,dd⟩:=qJp I.hok e
    exact dd.typeIs
  · obtain⟨_,_,xs,_,dd⟩:=qMr I.hok e
    exact dd.typeIs
noncomputable def qQJ (td ty:TE):TE:=fun σ H Q=>td σ H fun x H1=>ty σ H1 fun y H2=>∃ a v,x = .ref a∧qGx H2 a y (some v)∧Q v H2
section
variable {X:Cx} {o i e value:Expr} {pos pos' tpos:Pos} {td ty tv:TE}
theorem qMC (hu:X.A.units+1<cLine) (ho:PE X o td) (hi:PE X i ty) (hs:qJF i):PE X (.Subscript o i pos) (qQJ td ty):=by
  k_dat 0"r1"
  refine qIj PySem.F.slot_dict_getitem.lookup hs (thn (ho pins s σ H _ I h) fun u s1 ⟨x,H1,I1,rx,q1⟩=>thn (hi pins s1 σ H1 _ I1 q1) fun iv s2 ⟨y,H2,I2,ry,a,v,ex,g,q2⟩=>?_)
  subst ex
  obtain rfl:u=Value.ref a:=rx
  exact⟨qG7 I2 g,qJO hu I2 g ry fun w' s3 I3 rw'=>⟨v,H2,I3,rw',q2⟩⟩
end
theorem qK9 {P:Program} {w:World} {H:Hp} (h:Heap) (hb:sysModules<h.objs.size):qAw P w H (h.push { cls:=.type "dict",data:=.dict #[] }) h.objs.size (.dK []) :=
  ⟨Nat.zero_le _,beq_eq_false_iff_ne.mpr (Ne.symm (Nat.ne_of_lt hb)),[],.nil,Heap.DictOf.new h⟩
noncomputable def qF2:List (TE×TE)→St→Hp→(List (V×V)→Hp→Prop)→Prop
  | [],_,H,Q=>Q [] H
  | (tk,tv)::r,σ,H,Q=>tk σ H fun x H1=>tv σ H1 fun y H2=>qF2 r σ H2 fun ps H3=>Q ((x,y)::ps) H3
noncomputable abbrev VV:List (V×V)→List (Value×Value)→Prop:=Paired fun p q=>RelV p.1 q.1∧RelV p.2 q.2
def PPs (X:Cx) (pos:Pos) (keys:List (Option Expr)) (values:List Expr) (trs:List (TE×TE)):Prop :=
  ∀ (pins:List (Addr×Obj)) (s:Shared) (σ:St) (H:Hp) (Q:List (V×V)→Hp→Prop),Inv X pins σ H s→qF2 trs σ H Q →
    wpAny (model X.prog X.w) X.A (evalPairs (pairTrees keys values X.env pos)) (fun vs s'=>∃ ps H',Inv X pins σ H' s'∧VV ps vs∧Q ps H') X.xe s
theorem qMj {X:Cx} {pos:Pos}:PPs X pos [] [] []:=fun pins s σ H Q I h=>pairTrees_nil_walk ⟨[],H,I,.nil,h⟩
theorem qKX {X:Cx} {pos:Pos} {k v:Expr} {ks:List (Option Expr)} {vs:List Expr} {tk tv:TE} {trs:List (TE×TE)} (hk:PE X k tk) (hv:PE X v tv) (hr:PPs X pos ks vs trs) :
    PPs X pos (some k::ks) (v::vs) ((tk,tv)::trs):=fun pins s σ H Q I h =>
  pairTrees_cons_walk (thn (hk pins s σ H _ I h) fun u s1 ⟨x,H1,I1,rx,q1⟩=>thn (hv pins s1 σ H1 _ I1 q1) fun w2 s2 ⟨y,H2,I2,ry,q2⟩ =>
    thn (hr pins s2 σ H2 _ I2 q2) fun ws s3 ⟨ps,H3,I3,rel,q3⟩=>⟨(x,y)::ps,H3,I3,.cons ⟨rx,ry⟩ rel,q3⟩)
noncomputable def qCx (kvs more:List (Key×V)):List (Key×V):=more.foldl (fun acc kv=>putK acc kv.1 kv.2) kvs
theorem KV.merge:∀ {more:List (Key×V)} {rs:List (Key×Value)} {kvs:List (Key×V)} {vs:List (Key×Value)},KV more rs→KV kvs vs→KV (qCx kvs more) (merged vs rs):=by
  intro more rs kvs vs r
  unfold KV at r
  induction r generalizing kvs vs with
  | nil=>intro q;exact q
  | @cons p q ps qs h t ih =>
    intro r0
    have e:KV (putK kvs p.1 p.2) (stored vs q.1 q.2):=by
      have:=r0.put p.1 h.2
      rw [← h.1];exact this
    exact ih e
theorem qCu:∀ (more kvs:List (Key×V)),(qCx kvs more).length≤kvs.length+more.length
  | [],kvs=>by show kvs.length≤kvs.length+0;omega
  | p::r,kvs=>by
    have h1:=qCu r (putK kvs p.1 p.2)
    have h2:=qGo kvs p.1 p.2
    show (qCx (putK kvs p.1 p.2) r).length≤_
    rw [List.length_cons];omega
theorem qEc {P:Program} {w:World}:∀ {kvs:List (Key×V)} {ws:List (Value×Value)},VV (kvs.map fun kv=>(kV kv.1,kv.2)) ws→∃ rs,Carries (qAo P w) ws rs∧KV kvs rs
  | [],_,r=>by rw [List.map_nil] at r;cases r;exact⟨[],True.intro,.nil⟩
  | p :: kvs,_,r=>by
    rw [List.map_cons] at r
    cases r with
    | @cons a b as bs h t =>
      obtain⟨rs,c,q⟩:=qEc (P:=P) (w:=w) t
      obtain⟨b1,b2⟩:=b
      exact⟨(p.1,b2)::rs,⟨qKj h.1,rfl,c⟩,.cons ⟨rfl,h.2⟩ q⟩
noncomputable def qQK (K:W.Frag) (trs:List (TE×TE)):TE:=fun σ H Q=>∀ p,H p=none→K.lookup p=none→qF2 trs σ (upd H p (.dK [])) fun ps H2=>H2 p=some (.dK [])∧∃ kvs:List (Key×V),ps=kvs.map (fun kv=>(kV kv.1,kv.2))∧kvs.length≤15∧Q (.ref p) (upd H2 p (.dK (qCx [] kvs)))
theorem qL4 {X:Cx} {pos:Pos} {keys:List (Option Expr)} {values:List Expr} {trs:List (TE×TE)} (h:PPs X pos keys values trs) (hall:keys.all (·.isSome)=true) (hl:keys.length=values.length) (h0:keys≠[])
    (h15:keys.length≤15):PE X (.Dict keys values pos) (qQK X.K trs):=by
  intro pins s σ H Q I q
  have hn:=I.hok.fresh (Nat.le_refl s.heap.objs.size)
  have I1:=I.laid (a:=s.heap.objs.size) (o:=.dK []) (h':=s.heap.push { cls:=.type "dict",data:=.dict #[] }) (t':=s.toks) (fun _ _ q=>Heap.get?_push_of_some _ q) (Nat.le_refl _) (qK9 s.heap I.big)
  refine wpAny_Dict_walk (knd:=qAo X.prog X.w) hall hl h0 h15 (thn (h pins _ σ _ _ I1 (q _ hn (by cases e:X.K.lookup s.heap.objs.size with | none=>rfl | some o=>exact absurd (Heap.lt_size (I.kIn _ o e)) (Nat.lt_irrefl _)))) fun ws s2 ⟨ps,H2,I2,rel,e,kvs,ep,lk,q2⟩=>?_)
  subst ep
  obtain⟨rs,c,rk⟩:=qEc (P:=X.prog) (w:=X.w) rel
  obtain⟨z,hd,vs0,r0,dd⟩:=qQh I2.hok e
  cases r0
  refine⟨rs,c,dd,fun h' dd' hs=>⟨.ref s.heap.objs.size,_,?_,rfl,q2⟩⟩
  have hz:(qCx [] kvs).length≤sizeLine:=by
    have h1:=qCu kvs []
    rw [List.length_nil] at h1
    rw [sizeLine_eq];omega
  have he:∃ q,h'.get? s.heap.objs.size=some q:=let ⟨q,_,_,hq,_⟩:=dd';⟨q,hq⟩
  exact qLv I2 (by rw [e];exact True.intro) hs he (qOx hz hd (rk.merge .nil) dd')
end L2
set_option maxHeartbeats 4000000
namespace L2
open PySem PySem.Spec PyProof.Rows
noncomputable def qDv (cells:List (Str×Addr)):List (Str×NameKind)→List (Str×Addr)→List (Str×Addr)
  | [],acc=>acc
  | (n,k)::r,acc=>qDv cells r (if k = .free then (n,(cells.lookup n).getD 0)::acc else acc)
theorem qEy {env:Env} {f:(Str×NameKind)→List (Str×Addr)→Sem (ForInStep (List (Str×Addr)))}
    (h1:∀ n k acc,k≠.free→f (n,k) acc=pure (.yield acc)) (h2:∀ n acc c,env.cells.lookup n=some c→f (n,.free) acc=pure (.yield ((n,c)::acc))) :
    ∀ (names:List (Str×NameKind)) (acc:List (Str×Addr)),(∀ x∈names,x.2 = .free→∃ c,env.cells.lookup x.1=some c)→forIn names acc f=(pure (qDv env.cells names acc):Sem (List (Str×Addr)))
  | [],acc,_=>by simp [qDv]
  | (n,k)::r,acc,h=>by
    rw [List.forIn_cons]
    by_cases hk:k = .free
    · subst hk
      obtain⟨c,hc⟩:=h (n,.free) List.mem_cons_self rfl
      rw [h2 n acc c hc,pure_bind]
      show forIn r ((n,c)::acc) f=_
      rw [qEy h1 h2 r ((n,c)::acc) fun x hx=>h x (List.mem_cons_of_mem _ hx)]
      show _=pure (qDv env.cells r (if NameKind.free = .free then (n,(env.cells.lookup n).getD 0)::acc else acc))
      rw [if_pos rfl,hc]
      rfl
    · rw [h1 n k acc hk,pure_bind]
      show forIn r acc f=_
      rw [qEy h1 h2 r acc fun x hx=>h x (List.mem_cons_of_mem _ hx)]
      show _=pure (qDv env.cells r (if k = .free then (n,(env.cells.lookup n).getD 0)::acc else acc))
      rw [if_neg hk]
theorem qIO {env:Env} {sc:Scope} (h:∀ x∈sc.names,x.2 = .free→∃ c,env.cells.lookup x.1=some c):closureFor sc env=pure (qDv env.cells sc.names []):=by
  simp only [closureFor]
  rw [qEy (env:=env) ?h1 ?h2 sc.names [] h,pure_bind]
  case h1 =>
    intro n k acc hk
    have:(k==NameKind.free)=false:=by simpa using hk
    simp only [this,Bool.false_eq_true,if_false]
  case h2 =>
    intro n acc c hc
    simp only [beq_self_eq_true,if_true,cellOf,hc]
    rfl
theorem qG8 {cells:List (Str×Addr)} {x:Str} {c:Addr}:∀ (names:List (Str×NameKind)) (acc:List (Str×Addr)),(∀ y∈names,y.2 = .free→∃ c,cells.lookup y.1=some c)→(qDv cells names acc).lookup x=some c→acc.lookup x=some c∨cells.lookup x=some c
  | [],acc,_,h=>.inl h
  | (n, k)::r,acc,hf,h=>by
    rcases qG8 r _ (fun y hy=>hf y (List.mem_cons_of_mem _ hy)) h with h | h
    · by_cases hk:k = .free
      · rw [if_pos hk] at h
        obtain⟨c',hc'⟩:=hf (n,k) List.mem_cons_self hk
        have hc2:cells.lookup n=some c':=hc'
        rw [hc2] at h
        by_cases e:x=n
        · subst e
          simp at h
          subst h
          exact .inr hc2
        · have:(x==n)=false:=by simpa using e
          rw [List.lookup_cons,this] at h
          exact .inl h
      · rw [if_neg hk] at h
        exact .inl h
    · exact .inr h
theorem qDl {cells:List (Str×Addr)} {x:Str}:∀ (names:List (Str×NameKind)) (acc:List (Str×Addr)),((∃ c,acc.lookup x=some c)∨(x,NameKind.free)∈names)→∃ c,(qDv cells names acc).lookup x=some c
  | [],acc,h=>by
    rcases h with h | h
    · exact h
    · cases h
  | (n, k)::r,acc,h=>by
    refine qDl r _ ?_
    rcases h with ⟨c,h⟩ | h
    · refine .inl ?_
      by_cases hk:k = .free
      · rw [if_pos hk,List.lookup_cons]
        by_cases e:(x==n)=true
        · rw [e];exact⟨_,rfl⟩
        · have e':(x==n)=false:=by simpa using e
          rw [e'];exact⟨c,h⟩
      · rw [if_neg hk];exact⟨c,h⟩
    · rcases List.mem_cons.mp h with e | h
      · injection e with e1 e2
        subst e1;subst e2
        refine .inl ?_
        rw [if_pos rfl,List.lookup_cons]
        simp
      · exact .inr h
theorem qCU {α:Type}:∀ {l:List (Str×α)} {x:Str} {k:α},l.lookup x=some k→(x,k)∈l
  | [],_,_,h=>by simp at h
  | (n,a)::r,x,k,h=>by
    rw [List.lookup_cons] at h
    by_cases e:x=n
    · subst e
      simp at h
      subst h
      exact List.mem_cons_self
    · have:(x==n)=false:=by simpa using e
      rw [this] at h
      exact List.mem_cons_of_mem _ (qCU h)
theorem qCD {env:Env}:∀ {names:List (Str×NameKind)} {x:Str} {k:NameKind},
    (names.map fun (n,k)=>if (k==NameKind.free&&env.scope.kind == .function&&env.kindOf n==some .cell) then (n,NameKind.cell) else (n,k)).lookup x=some k →
    ∃ k0,names.lookup x=some k0∧(k=k0∨k0 = .free)
  | [],_,_,h=>by simp at h
  | (n, k0)::r,x,k,h=>by
    rw [List.map_cons] at h
    by_cases e:x=n
    · subst e
      refine⟨k0,by simp,?_⟩
      by_cases hc:(k0==NameKind.free&&env.scope.kind == .function&&env.kindOf x==some .cell)=true
      · right
        simp at hc
        exact hc.1.1
      · left
        dsimp only at h
        rw [if_neg hc] at h
        simp at h
        exact h.symm
    · have e':(x==n)=false:=by simpa using e
      rw [List.lookup_cons,e']
      dsimp only at h
      split at h
      · rw [List.lookup_cons,e'] at h
        exact qCD h
      · rw [List.lookup_cons,e'] at h
        exact qCD h
theorem qB4 {env:Env} (hk:env.scope.kind = .function):∀ {names:List (Str×NameKind)} {x:Str},names.lookup x=some .free→env.kindOf x=some .cell →
    (names.map fun (n,k)=>if (k==NameKind.free&&env.scope.kind == .function&&env.kindOf n==some .cell) then (n,NameKind.cell) else (n,k)).lookup x=some .cell
  | [],_,h,_=>by simp at h
  | (n,k0)::r,x,h,hx=>by
    rw [List.map_cons]
    by_cases e:x=n
    · subst e
      simp at h
      subst h
      have hc:(NameKind.free==NameKind.free&&env.scope.kind == .function&&env.kindOf x==some .cell)=true:=by simp [hk,hx]
      dsimp only
      rw [if_pos hc]
      simp
    · have e':(x==n)=false:=by simpa using e
      rw [List.lookup_cons,e'] at h
      dsimp only
      split
      · rw [List.lookup_cons,e'];exact qB4 hk h hx
      · rw [List.lookup_cons,e'];exact qB4 hk h hx
structure qAg (so:Scope) (N:List Str) (caps:List (Nat×Str)) (sc:Scope):Prop where
  kind:sc.kind = .function
  nocell:∀ y∈sc.names,y.2≠.cell
  names:∀ y∈sc.names,y.2 = .local→sc.names.lookup y.1=some .local
  free:∀ y∈sc.names,y.2 = .free→so.names.lookup y.1=some .cell
  caps:∀ p∈caps,N[p.1]? = some p.2∧so.names.lookup p.2=some .cell∧sc.names.lookup p.2=some .free
noncomputable def qFy (caps:List (Nat×Str)) (σ:St):St:=caps.map fun p=>(σ[p.1]?).join
noncomputable abbrev qAV (X:Cx) (L:List Str) (caps:List (Nat×Str)) (sc:Scope) (C:Addr) (s:Shared) (H:Hp) (fp:List Addr):Cx :=
  { X with N:=L++caps.map (·.2),s₀:=s,H₀:=H,env:=compEnvC sc (qDv X.env.cells sc.names []) C X.env,outer:=X.stack,stack:=X.stack,ex:=fp,fn:=fun _=>false,pn:=[],xe:=fun _ _=>False }
theorem qEW {a b:Addr} {n:Nat} (h:a<n) (h2:n≤b):a≠b:=Nat.ne_of_lt (Nat.lt_of_lt_of_le h h2)
section
variable {X:Cx} {pins:List (Addr×Obj)} {σ:St} {H:Hp} {s:Shared} {L:List Str} {caps:List (Nat×Str)} {sc:Scope} {C D:Addr} {fp:List Addr}
theorem Inv.qHg (I:Inv X pins σ H s) (S:qAg X.env.scope X.N caps sc):∀ x∈sc.names,x.2 = .free→∃ c,X.env.cells.lookup x.1=some c:=fun x hx hf =>
  I.ok.has x.1 (.inl (S.free x hx hf))
theorem Inv.qD2 (I:Inv X pins σ H s) (S:qAg X.env.scope X.N caps sc) {x:Str} {c:Addr} (h:(qDv X.env.cells sc.names []).lookup x=some c):X.env.cells.lookup x=some c:=by
  rcases qG8 sc.names [] (I.qHg S) h with h | h
  · simp at h
  · exact h
theorem qHv {h₁:Heap} {tk:Nat} {m:Str→Option Value} {oD:Obj} (I:Inv X pins σ H s) (S:qAg X.env.scope X.N caps sc) (hfp:∀ b∈fp,qFC X pins H b) (hfo:∀ b∈fp,∃ o,s.heap.get? b=some o)
    (hC:s.heap.objs.size≤C) (hn:h₁.Ns C m) (old:∀ b o,s.heap.get? b=some o→h₁.get? b=some o) (hD:s.heap.objs.size≤D) (hDC:D≠C) (eD:h₁.get? D=some oD) (dD:∀ v,oD.data≠.cell v) :
    Inv (qAV X L caps sc C s H fp) [(D,oD)] (List.replicate L.length none++qFy caps σ) H { s with heap:=h₁,toks:=tk }:=by
  have hcells:∀ x c,(qDv X.env.cells sc.names []).lookup x=some c→∃ v,s.heap.IsCell c v:=fun x c e=>I.cell x c (I.qD2 S e)
  refine⟨⟨I.ok.mod,S.kind,I.ok.glob,I.ok.blt,hC,fun x y c h1 h2=>I.ok.inj x y c (I.qD2 S h1) (I.qD2 S h2),fun x hx=>?_,fun _ _ h=>(Bool.false_ne_true h).elim,I.ok.hd,I.ok.frames,.inl rfl,fun b hb=>⟨?_,fun x c e=>(hfp b hb).2.2.2.2.1 x c (I.qD2 S e)⟩,I.bs,Nat.le_trans I.ok.bsz I.sz,fun b o e hb=>?_,fun b hb hz=>?_,I.stack,I.qGL⟩,
    rfl,I.bare,Un.kept old,⟨m,hn,fun i x v e1 e2 e3=>?_⟩,fun x c e=>?_,I.hok.fresh hC,fun x c e=>I.freeC x c (I.qD2 S e),fun p hp=>?_,I.hok.kept old,?_⟩
  · -- has
    have key:∀ k,(relabel sc X.env).names.lookup x=some k→(k = .cell∨k = .free)→(x,NameKind.free)∈sc.names:=fun k e hk=>by
      obtain⟨k0,e0,h0⟩:=qCD e
      have hm:=qCU e0
      rcases h0 with h0 | h0
      · subst h0
        rcases hk with hk | hk
        · exact absurd hk (S.nocell _ hm)
        · rw [hk] at hm;exact hm
      · rw [h0] at hm;exact hm
    have hm:(x,NameKind.free)∈sc.names:=by
      rcases hx with hx | hx
      · exact key _ hx (.inl rfl)
      · exact key _ hx (.inr rfl)
    exact qDl sc.names [] (.inr hm)
  · obtain⟨o,e⟩:=hfo b hb
    exact Nat.ne_of_lt (Nat.lt_of_lt_of_le (Heap.lt_size e) hC)
  · rcases (hfp b hb).2.2.2.1 with z | z
    · exact I.ok.noex b o e z
    · exact absurd (Nat.lt_of_lt_of_le (Heap.lt_size e) (Nat.le_trans I.ok.bsz z)) (Nat.lt_irrefl _)
  · rcases List.mem_cons.mp (I.qF7 b hz) with z | z
    · exact (hfp b hb).2.1 z
    · exact (hfp b hb).2.2.1 z
  · -- loc
    have e1':(L++caps.map (·.2))[i]? = some x:=e1
    by_cases hi:i<L.length
    · rw [List.getElem?_append_left (by simpa using hi),List.getElem?_replicate] at e2
      split at e2<;>cases e2
    · rw [List.getElem?_append_right (by simpa using Nat.not_lt.mp hi),List.length_replicate] at e2
      rw [List.getElem?_append_right (Nat.not_lt.mp hi)] at e1'
      unfold qFy at e2
      rw [List.getElem?_map] at e1' e2
      cases hp:caps[i - L.length]? with
      | none=>rw [hp] at e1';cases e1'
      | some p =>
        rw [hp] at e1' e2
        have ex:p.2=x:=Option.some.inj e1'
        have ev:(σ[p.1]?).join=some v:=Option.some.inj e2
        have ev':σ[p.1]? = some (some v):=by
          cases q:σ[p.1]? with
          | none=>rw [q] at ev;cases ev
          | some o=>rw [q] at ev;exact congrArg some ev
        obtain⟨c1,c2,c3⟩:=S.caps p (List.mem_of_getElem? hp)
        obtain⟨m0,hn0,hl⟩:=I.loc
        rw [ex] at c1 c2 c3
        obtain⟨u,r,l⟩:=hl p.1 x v c1 ev' (.inr (.inl c2))
        refine⟨u,r,.inr ⟨.inl (qB4 I.ok.kind c3 c2),?_⟩⟩
        rcases l with ⟨hk,_⟩ | ⟨_,c,hc,hcell⟩
        · have:X.env.scope.names.lookup x=some .local:=hk
          rw [c2] at this;cases this
        · obtain⟨c',hc'⟩:=qDl (cells:=X.env.cells) sc.names [] (.inr (qCU c3))
          have:=I.qD2 S hc'
          rw [hc] at this
          cases this
          obtain⟨o,ho,hd⟩:=hcell
          exact⟨c,hc',o,old _ _ ho,hd⟩
  · obtain⟨v,o,ho,hd⟩:=hcells x c e
    exact⟨v,o,old _ _ ho,hd⟩
  · have:p∈[(D,oD)]:=hp
    have ep:p=(D,oD):=by simpa using this
    subst ep
    refine⟨eD,I.hok.fresh hD,hDC,fun z=>?_,dD⟩
    have zz:H D=none:=I.hok.fresh hD
    obtain⟨_,o,ho,_⟩:=(I.stack).mem z
    exact absurd (Nat.lt_of_lt_of_le (Heap.lt_size ho) hD) (Nat.lt_irrefl _)
  · show (List.replicate L.length none++qFy caps σ).length=(L++caps.map (·.2)).length
    unfold qFy
    simp
def PIf (X:Cx) (ifs:List Expr) (t:TT):Prop :=
  ∀ (pins:List (Addr×Obj)) (s:Shared) (σ:St) (H:Hp) (Q:Bool→Hp→Prop),Inv X pins σ H s→t σ H Q →
    wpAny (model X.prog X.w) X.A (forIn ifs true fun c r=>if r=true then do let ok ← isTrue c X.env (eval c X.env);pure (ForInStep.yield ok) else pure (ForInStep.yield r)) (TP X pins σ Q) X.xe s
theorem qLp:PIf X [] (fun _ H Q=>Q true H):=fun pins s σ H Q I h=>wpAny_tests_nil ⟨H,I,h⟩
theorem qLt {c:Expr} {t:TT} (h:PT X c t):PIf X [c] t:=fun pins s σ H Q I hq=>wpAny_tests_one (h pins s σ H Q I hq)
theorem qFs {prog:Program} {w:World} {A:Around} {R:Result→Shared→Prop} {s:Shared} {elt target iter:Expr} {ifs:List Expr} {scope:Scope} {pos:Pos} {it acc:Value} {env:Env} (I:Nat→Shared→Prop)
    (turn : ∀ n s,I n s→wpAny (model prog w) A (pyNext it) (fun r s₁=>match r with
      | none=>R (.ok .next) s₁
      | some v=>wpAny (model prog w) A (letOwnedTupleGo target it v) (fun _ s1'=>wpAny (model prog w) A (assign target env v) (fun _ s₂ =>
          wpAny (model prog w) A (forIn ifs true fun c r=>if r=true then do let ok ← isTrue c env (eval c env);pure (ForInStep.yield ok) else pure (ForInStep.yield r)) (fun ok s₃ =>
            if ok=true then wpAny (model prog w) A (eval elt env) (fun x s₄ =>
              wpAny (model prog w) A (call (.builtin "list.append") [acc,x]) (fun _ s₅=>∃ m,m<n∧I m s₅) (fun _ _=>False) s₄) (fun _ _=>False) s₃
            else ∃ m,m<n∧I m s₃) (fun _ _=>False) s₂) (fun _ _=>False) s1') (fun _ _=>False) s₁) (fun _ _=>False) s)
    (n:Nat) (h:I n s):codeAny (model prog w) A (.compLoop (.ListComp elt [⟨target,iter,ifs,0⟩] scope pos) 0 it acc env) R s:=by
  refine codeAny_loop rfl I (fun n s hI=>?_) n h
  show wpAny _ A ((compTurn (.ListComp elt [⟨target,iter,ifs,0⟩] scope pos) 0 it acc env).onRaise (fun x=>do noteFrame x env;theTreesLotGoes x)) _ _ s
  refine wpAny_noted ?_
  rw [compTurn_list]
  refine wpAny_bind (wpAny_standAt (wpAny_bind (wpAny_mono (turn n s hI) (fun r s₁ h₁=>?_) fun _ _ h'=>h'.elim)))
  cases r with
  | none=>exact wpAny_pure h₁
  | some v =>
    refine wpAny_bind (wpAny_mono h₁ (fun _ s1' h1'=>?_) fun _ _ h'=>h'.elim)
    refine wpAny_bind (wpAny_mono h1' (fun _ s₂ h₂=>wpAny_bind (wpAny_mono h₂ (fun ok s₃ h₃=>?_) fun _ _ h'=>h'.elim)) fun _ _ h'=>h'.elim)
    cases ok with
    | false=>exact wpAny_pure ⟨rfl,h₃⟩
    | true =>
      exact wpAny_bind (wpAny_bind (wpAny_mono h₃ (fun x s₄ h₄=>wpAny_bind (wpAny_mono h₄ (fun _ s₅ h₅=>wpAny_pure (wpAny_pure ⟨rfl,h₅⟩)) fun _ _ h'=>h'.elim)) fun _ _ h'=>h'.elim))
def qK3 (J:It) (g:TG) (tc:TT) (te:TE) (σ0:St) (H1:Hp) (Fin:List V→Hp→Prop):Prop :=
  ∃ W : Nat→Nat→St→List V→Hp→Prop,(∃ m,W 0 m σ0 [] H1)∧∀ i m σ ys H,W i m σ ys H →
    (J.stop i H∧Fin ys H)∨(J.go i H∧ys.length<sizeLine∧∀ x H',J.yld i H x H'→g x σ H' fun σ2 H2=>tc σ2 H2 fun b H3 =>
      if b=true then te σ2 H3 fun y H4=>∃ m',m'<m∧W (i+1) m' σ2 (ys++[y]) H4 else ∃ m',m'<m∧W (i+1) m' σ2 ys H3)
theorem qEw {elt iter tg:Expr} {ifs:List Expr} {pos:Pos} {g:TG} {tc:TT} {te:TE} {J:It} {it:Addr} {tn:Nat→Heap→Prop} {Fin:List V→Hp→Prop} {RR:Value→Addr→Result→Shared→Prop} {E:Value→Shared→Prop} {s₂:Shared}
    (hc:X.calm=true) (S:qAg X.env.scope X.N caps sc) (I:Inv X pins σ H s₂) (T:Turn X.prog X.w X.K tg J fp it tn) (st:tn 0 s₂.heap) (hfp:∀ b∈fp,qFC X pins H b)
    (hg:∀ C,PG (qAV X L caps sc C s₂ H fp) tg g) (hif:∀ C,PIf (qAV X L caps sc C s₂ H fp) ifs tc) (he:∀ C,PE (qAV X L caps sc C s₂ H fp) elt te)
    (hW:qK3 J g tc te (List.replicate L.length none++qFy caps σ) H Fin)
    (hRR:∀ C D s' m ys H',Inv X pins σ (upd H' D (.lst ys)) s'→s'.heap.Ns C m→qFC X pins (upd H' D (.lst ys)) C→H' D=none→Fin ys H'→RR (.ref D) C (.ok .next) s') :
    wpAny (model X.prog X.w) X.A (newList []) (fun acc s₃=>wpAny (model X.prog X.w) X.A (newFunctionEnv sc X.env.globals (qDv X.env.cells sc.names []) [] X.env.qual none .none (some X.env)) (fun cenv s₄ =>
      codeAny (model X.prog X.w) X.A (.compStart (.ListComp elt [⟨tg,iter,ifs,0⟩] sc pos) 0 (.ref it) acc { cenv with scope:=relabel sc X.env }) (RR acc cenv.locals) s₄) E s₃) E s₂:=by
  refine wpAny_newObj_type (wpAny_newFunctionEnv S.nocell (by intro y hy;simp at hy) (fun h₁ hns₁ hsb₁=>?_) S.kind)
  dsimp only at hns₁ hsb₁ ⊢
  generalize hH2:s₂.heap.push { cls:=.type "list",dict:=none,data:=.seq ([]:List Value).toArray }=H2 at hns₁ hsb₁ ⊢
  have hCs:H2.objs.size=s₂.heap.objs.size+1:=by rw [← hH2,Heap.size_push]
  have hDC:s₂.heap.objs.size≠H2.objs.size:=by rw [hCs];exact Nat.ne_of_lt (Nat.lt_succ_self _)
  have hCle:s₂.heap.objs.size≤H2.objs.size:=by rw [hCs];exact Nat.le_succ _
  have below:∀ b,b<s₂.heap.objs.size→b≠H2.objs.size∧b≠s₂.heap.objs.size:=fun b hb=>⟨by rw [hCs];exact Nat.ne_of_lt (Nat.lt_succ_of_lt hb),Nat.ne_of_lt hb⟩
  have old:∀ b o,s₂.heap.get? b=some o→h₁.get? b=some o:=fun b o e=>hsb₁.extBut b o (below b (Heap.lt_size e)).1 (Heap.get?_push_of_some _ (hH2 ▸ Heap.get?_push_of_some _ e))
  have hacc:h₁.get? s₂.heap.objs.size=some { cls:=.type "list",data:=.seq ([]:List Value).toArray }:=hsb₁.extBut _ _ hDC (Heap.get?_push_of_some _ (hH2 ▸ Heap.get?_push_size _ rfl))
  generalize hCn:H2.objs.size=C at hns₁ hsb₁ hDC hCle below ⊢
  generalize hDn:s₂.heap.objs.size=D at hacc hDC ⊢
  have hDle:s₂.heap.objs.size≤D:=Nat.le_of_eq hDn
  have fo:∀ b∈fp,∃ o,s₂.heap.get? b=some o:=fun b hb=>let ⟨o,e,_⟩:=T.obj 0 _ st b hb;⟨o,e⟩
  have bD:∀ b∈fp,D≠b:=fun b hb z=>by
    obtain⟨o,e⟩:=fo b hb
    exact qEW (Heap.lt_size e) hDle z.symm
  have cD:∀ x c,X.env.cells.lookup x=some c→c≠D:=fun x c e=>by
    obtain⟨v,o,ho,_⟩:=I.cell x c e
    exact qEW (Heap.lt_size ho) hDle
  have cC:∀ x c,X.env.cells.lookup x=some c→c≠C:=fun x c e=>by
    obtain⟨v,o,ho,_⟩:=I.cell x c e
    exact qEW (Heap.lt_size ho) hCle
  have start:=fun tk=>qHv (L:=L) (fp:=fp) (tk:=tk) I S hfp fo hCle hns₁ old hDle hDC hacc (fun v z=>by
    have z':Data.seq _ _=Data.cell v:=z
    cases z')
  obtain⟨W,⟨m0,w0⟩,turn⟩:=hW
  -- the static facts of the iterator's records in the block
  have stat:∀ {pl:List (Addr×Obj)} {H':Hp},(∀ b∈fp,H' b=none)→(∀ p∈pl,p.1=D)→∀ b∈fp,qFC (qAV X L caps sc C s₂ H fp) pl H' b:=fun {pl H'} hn hpl b hb=>by
    obtain⟨f0,f1,f2,f3,f4,f5⟩:=hfp b hb
    obtain⟨o,e⟩:=fo b hb
    refine⟨hn b hb,(below b (Heap.lt_size e)).1,fun z=>?_,.inl hb,fun x c e'=>f4 x c (I.qD2 S e'),fun p hp z=>?_⟩
    · rcases List.mem_cons.mp (I.qF7 b z) with z | z
      · exact f1 z
      · exact f2 z
    · have hp':p∈pl:=hp
      exact bD b hb ((hpl p hp').symm.trans z)
  have fin:∀ (s':Shared) (σ':St) (H':Hp) (ys:List V) (its:List Value) (n:Nat),Inv (qAV X L caps sc C s₂ H fp) [(D,{ cls:=.type "list",data:=.seq its.toArray n })] σ' H' s'→Vals ys its→ys.length≤sizeLine→Fin ys H'→RR (.ref D) C (.ok .next) s':=fun s' σ' H' ys its n I' rv hz hF=>by
    obtain⟨m,hm,_⟩:=I'.loc
    obtain⟨eD,hDn',_,_,_⟩:=I'.pin (D,{ cls:=.type "list",data:=.seq its.toArray n }) (by simp)
    have eD':s'.heap.get? D=some { cls:=.type "list",data:=.seq its.toArray n }:=eD
    have hDnone:H' D=none:=hDn'
    have hCnone:H' C=none:=I'.free
    have neD:∀ b o,s₂.heap.get? b=some o→b≠D:=fun b o e=>qEW (Heap.lt_size e) hDle
    have neH:∀ b u,H b=some u→b≠D:=fun b u e=>qEW (I.hok.lt e) hDle
    have ub:=I'.base
    have hok:HOk X.prog X.w (upd H' D (.lst ys)) s'.heap:=fun b u e=>by
      by_cases hb:b=D
      · subst hb
        rw [qAF] at e
        cases e
        exact⟨hz,its,n,rv,eD'⟩
      · rw [qb hb] at e
        exact (I'.hok b u e).stay (fun c v _ q=>q) (fun c q=>by rw [qb (qp q hDnone)];exact q) fun c xs q=>by rw [qb (qp q hDnone)];exact q
    have un:Un (frs X.stack) fp H (upd H' D (.lst ys)) s₂.heap s'.heap:=⟨ub.keep,ub.slot,fun b o e n hx=>by rw [qb (neD b o e)];exact ub.free b o e n hx,ub.there,fun b xs e=>by rw [qb (neH b _ e)];exact ub.tups b xs e,
      fun b o u e=>by rw [qb (neH b _ e)];exact ub.frzs b o u e,fun b ps e=>by rw [qb (neH b _ e)];exact ub.tbls b ps e⟩
    have IX:Inv X pins σ (upd H' D (.lst ys)) s':=I.qM0 (ch:=fp) I'.os un hok I'.bare fun b hb=>by
      obtain⟨f0,f1,f2,f3,f4,f5⟩:=hfp b hb
      exact⟨f3,f1,f4,f5⟩
    refine hRR C D s' m ys H' IX hm ⟨by rw [qb (Ne.symm hDC)];exact hCnone,?_,?_,.inr (Nat.le_trans I.sz hCle),cC,fun p hp=>?_⟩ hDnone hF
    · exact Ne.symm (qEW I.lt hCle)
    · exact I.qQH hCle
    · exact qEW (Heap.lt_size (I.pin p hp).1) hCle
  have loop:∀ s₃:Shared,s₃={ s₂ with heap:=h₁,toks:=s₂.toks+([]:List (Str×Value)).length } →
      codeAny (model X.prog X.w) X.A (.compLoop (.ListComp elt [⟨tg,iter,ifs,0⟩] sc pos) 0 (.ref it) (.ref D) (compEnvC sc (qDv X.env.cells sc.names []) C X.env)) (RR (.ref D) C) s₃:=by
    rintro s₃ rfl
    refine qFs (fun k s'=>∃ i σ' H' ys its n,Inv (qAV X L caps sc C s₂ H fp) [(D,{ cls:=.type "list",data:=.seq its.toArray n })] σ' H' s'∧tn i s'.heap∧(∀ b∈fp,H' b=none)∧Vals ys its∧ys.length≤sizeLine∧W i k σ' ys H') ?_ m0
      ⟨0,_,H,[],[],0,start _,T.keep 0 _ _ st (fun b hb o e=>old b o e),fun b hb=>(hfp b hb).1,.nil,Nat.zero_le _,w0⟩
    rintro k s' ⟨i,σ',H',ys,its,n,I',st',fr',rv,hz,w'⟩
    have hpl:∀ p∈[(D,({ cls:=.type "list",data:=.seq its.toArray n }:Obj))],p.1=D:=fun p hp=>by
      rcases List.mem_cons.mp hp with e | e
      · rw [e]
      · cases e
    rcases turn i k σ' ys H' w' with ⟨stop,hF⟩ | ⟨go,hlen,step⟩
    · refine thn (T.done (qAV X L caps sc C s₂ H fp) rfl rfl rfl hc i _ s' σ' H' _ I' (stat fr' hpl) st' stop) fun r s4 ⟨hr,I4⟩=>?_
      subst hr
      exact fin s4 σ' H' ys its n I4 rv hz hF
    · refine thn (T.item (qAV X L caps sc C s₂ H fp) rfl rfl rfl hc i _ s' σ' H' _ I' (stat fr' hpl) st' go) fun r s4 ⟨u,hr,h4⟩=>?_
      subst hr
      refine thn h4 fun _ s5 ⟨x,H5,I5,r5,y5,st5,fr5⟩=>?_
      have I5':=I5.pinned (stat fr5 hpl) (T.obj _ _ st5)
      refine thn (hg C _ s5 σ' H5 x u _ I5' r5 (step x H5 y5)) fun _ s6 ⟨σ6,H6,I6,q6⟩=>?_
      refine thn (hif C _ s6 σ6 H6 _ I6 q6) fun ok s7 ⟨H7,I7,q7⟩=>?_
      have back:∀ {σ8:St} {H8:Hp} {s8:Shared},Inv (qAV X L caps sc C s₂ H fp) ([(D,{ cls:=.type "list",data:=.seq its.toArray n })]++qEb fp s5.heap) σ8 H8 s8 →
          tn (i+1) s8.heap∧∀ b∈fp,H8 b=none:=fun {σ8 H8 s8} I8=>by
        refine⟨T.keep _ _ _ st5 fun b hb o e=>(I8.pin (b,o) (List.mem_append_right _ (List.mem_append_right _ (qCC hb e)))).1,fun b hb=>?_⟩
        obtain⟨o,e,d⟩:=T.obj _ _ st5 b hb
        exact (I8.pin (b,o) (List.mem_append_right _ (List.mem_append_right _ (qCC hb e)))).2.1
      cases ok with
      | false =>
        rw [if_neg Bool.false_ne_true] at q7
        rw [if_neg Bool.false_ne_true]
        obtain⟨m',hm',w7⟩:=q7
        obtain⟨b1,b2⟩:=back I7
        exact⟨m',hm',i+1,σ6,H7,ys,its,n,I7.qDX,b1,b2,rv,hz,w7⟩
      | true =>
        rw [if_pos rfl] at q7
        rw [if_pos rfl]
        refine thn (he C _ s7 σ6 H7 _ I7 q7) fun yv s8 ⟨y,H8,I8,r8,m',hm',w8⟩=>?_
        obtain⟨b1,b2⟩:=back I8
        obtain⟨eD,hDn8,neL8,nf8,_⟩:=I8.pin (D,{ cls:=.type "list",data:=.seq its.toArray n }) (by simp)
        have hl:=rv.length
        refine append_at (s:=s8) eD (fun h9 sb e9=>?_) (by simp only [List.size_toArray];omega)
        have I8':Inv (qAV X L caps sc C s₂ H fp) [] σ6 H8 s8:=I8.qEQ fun p hp=>nomatch hp
        have I9:Inv (qAV X L caps sc C s₂ H fp) [] σ6 H8 { s8 with heap:=h9 }:=I8'.turned (t':=s8.toks) (it:=D) (fun b o hb e=>(sb.2 b hb).trans e) hDn8 neL8 (.inr hDle) (fun x c e=>cD x c (I.qD2 S e)) fun p hp=>nomatch (show p∈([]:List (Addr×Obj)) from hp)
        have ep:its.toArray.push yv=(its++[yv]).toArray:=by simp
        rw [ep] at e9
        refine⟨m',hm',i+1,σ6,H8,ys++[y],its++[yv],n+1,I9.qEQ fun p hp=>?_,T.keep _ _ _ b1 fun b hb o e=>(sb.2 b (Ne.symm (bD b hb))).trans e,b2,Vals.append rv (.cons r8 .nil),by rw [List.length_append];exact hlen,w8⟩
        obtain rfl:p=(D,({ cls:=.type "list",data:=.seq (its++[yv]).toArray (n+1) }:Obj)):=by
          rcases List.mem_cons.mp hp with e | e
          · exact e
          · cases e
        exact⟨e9,hDn8,neL8,nf8,fun v z=>by
          have z':Data.seq _ _=Data.cell v:=z
          cases z'⟩
  exact codeAny_compStart_list (loop _ rfl) (T.self X.A 0 _ _ _ (T.keep 0 _ _ st fun b hb o e=>old b o e) (loop _ rfl))
noncomputable def qKp (wi:TI) (g:TG) (tc:TT) (te:TE) (nL:Nat) (caps:List (Nat×Str)):TE:=fun σ H Q=>wi σ H fun J H1 =>
  qK3 J g tc te (List.replicate nL none++qFy caps σ) H1 fun ys H2=>∀ p,H2 p=none→Q (.ref p) (upd H2 p (.lst ys))
theorem qMU {elt iter tg:Expr} {ifs:List Expr} {pos:Pos} {wi:TI} {g:TG} {tc:TT} {te:TE} (L:List Str) (caps:List (Nat×Str)) (hc:X.calm=true) (S:qAg X.env.scope X.N caps sc) (hi:PI X tg iter wi)
    (hg:∀ C s H fp,PG (qAV X L caps sc C s H fp) tg g) (hif:∀ C s H fp,PIf (qAV X L caps sc C s H fp) ifs tc) (he:∀ C s H fp,PE (qAV X L caps sc C s H fp) elt te)
    (hs:∀ x,foldedSetIterable iter X.env x=pure x:=by intro _;rfl):PE X (.ListComp elt [⟨tg,iter,ifs,0⟩] sc pos) (qKp wi g tc te L.length caps):=by
  k_dat 0"r1"
  rw [eval_ListComp]
  refine wpAny_comprehension_free (use:=none) rfl hs (qIO (I.qHg S)) S.kind S.names (thn (hi pins s σ H _ I h) fun v s1 h1=>thn h1 fun itv s2 h2=>?_)
  obtain⟨it,fp,tn,J,H2,e,I2,T,st2,f2,hW⟩:=h2
  subst e
  refine qEw (L:=L) (RR:=fun acc C=>compPost (model X.prog X.w) X.A X.xe none (EP X pins σ Q) acc C) hc S I2 T st2 f2 (fun C=>hg C _ _ _) (fun C=>hif C _ _ _) (fun C=>he C _ _ _) hW ?_
  intro C D s' m ys H' I' hn hC hDn hF
  refine⟨m,hn,fun h' sb=>?_⟩
  obtain⟨f0,f1,f2,f3,f4,f5⟩:=hC
  exact⟨.ref D,_,I'.turned (t':=s'.toks) (it:=C) (fun b o hb e=>(sb.2 b hb).trans e) f0 f1 f3 f4 f5,rfl,hF D hDn⟩
theorem qL9 {elt iter tg:Expr} {ifs:List Expr} {pos py spos:Pos} {wi:TI} {g:TG} {tc:TT} {te:TE} {i:Nat} {y:Str} (L:List Str) (caps:List (Nat×Str)) (hc:X.calm=true) (hN:X.N.Nodup) (hy:X.N[i]? = some y) (hyl:X.env.scope.names.lookup y=some .local)
    (S:qAg X.env.scope X.N caps sc) (hi:PI X tg iter wi)
    (hg:∀ C s H fp,PG (qAV X L caps sc C s H fp) tg g) (hif:∀ C s H fp,PIf (qAV X L caps sc C s H fp) ifs tc) (he:∀ C s H fp,PE (qAV X L caps sc C s H fp) elt te)
    (hsw:swapsWith (.ListComp elt [⟨tg,iter,ifs,0⟩] sc pos) (some (.Name y py)) spos.line X.env=pure true:=by rfl)
    (hs:∀ x,foldedSetIterable iter X.env x=pure x:=by intro _;rfl):PS X (.Assign [.Name y py] (.ListComp elt [⟨tg,iter,ifs,0⟩] sc pos) spos) (qMY (qKp wi g tc te L.length caps) (qE1 i)):=by
  k_dat 0"r9"
  rw [exec_Assign_Name_used _ _ _ _ hsw]
  refine wpAny_bind (wpAny_standAt (wpAny_bind ?_))
  show wpAny _ X.A (do let _ ← comprehension (.ListComp elt [⟨tg,iter,ifs,0⟩] sc pos) sc X.env _ (newList []) false (eval iter X.env) (some (assign (.Name y py) X.env))) _ _ s
  refine wpAny_bind (wpAny_mono (wpAny_comprehension_free (use:=some (assign (.Name y py) X.env)) (Q:=fun _ s'=>SP X pins D .next s') rfl hs (qIO (I.qHg S)) S.kind S.names
    (thn (hi pins s σ H _ I h) fun v s1 h1=>thn h1 fun itv s2 h2=>?_)) (fun _ s' hq=>wpAny_pure (wpAny_pure hq)) fun _ _ e=>e)
  obtain⟨it,fp,tn,J,H2,e,I2,T,st2,f2,hW⟩:=h2
  subst e
  refine qEw (L:=L) (RR:=fun acc C=>compPost (model X.prog X.w) X.A X.xe (some (assign (.Name y py) X.env)) (fun _ s'=>SP X pins D .next s') acc C) hc S I2 T st2 f2 (fun C=>hg C _ _ _) (fun C=>hif C _ _ _) (fun C=>he C _ _ _) hW ?_
  intro C Dd s' m ys H' I' hn hC hDn hF
  obtain⟨f0,f1,f2,f3,f4,f5⟩:=hC
  show wpAny _ X.A (assign (.Name y py) X.env (.ref Dd)) _ _ _
  refine wpAny_assign_Name (qDt (v:=.ref Dd) I' hN hy (.inl hyl) rfl (fun s'' I'' hsb=>?_) (.inr hyl))
  obtain⟨a,hsb,ha⟩:=hsb
  have hL:a≠C:=by
    rcases ha with z | z
    · rw [z];exact Ne.symm f1
    · exact f4 y a z
  refine⟨m,hn.sameBut hsb (Ne.symm hL),fun h' sb=>?_⟩
  exact⟨_,_,I''.turned (t':=s''.toks) (it:=C) (fun b o hb e=>(sb.2 b hb).trans e) f0 f1 f3 f4 f5,hF Dd hDn⟩
end
end L2
namespace L3
open PySem PySem.Spec PyProof.Rows L2
inductive Dt where
  | non | bl (b:Bool) | int (i:Int) | str (x:Str) | tup (xs:List Dt) | lst (n:Nat) | ty (n:String) | dic (n:Nat) | ins (n:Nat) | exc (n:String)
inductive SO where
  | ro (xs:List Dt) | rw (xs:List Dt) | dc (kvs:List (Key×Dt)) | ob (C:Str) (fs:List (Str×Dt))
noncomputable def SO.items:SO→List Dt
  | .ro xs=>xs
  | .rw xs=>xs
  | .dc _=>[]
  | .ob _ _=>[]
def IsL (K:W.Frag) (H:Hp) (a:Addr):Prop:=∃ vs,SqL K H a vs
def IsD (H:Hp) (a:Addr):Prop:=∃ kvs,H a=some (.dK kvs)
def IsO (H:Hp) (a:Addr):Prop:=∃ C dx fs,H a=some (.ins C dx fs)
noncomputable abbrev Sto:=List SO
noncomputable abbrev Rho:=List (Option Dt)
mutual
noncomputable def D (K:W.Frag) (φ:Nat→Addr) (N:Nat) (H:Hp):Dt→V→Prop
  | .non,v=>v = .non
  | .bl b,v=>v = .bl b
  | .int i,v=>v = .int i
  | .str x,v=>v = .str x
  | .ty n,v=>v = .ty n
  | .tup ds,v=>∃ a vs,v = .ref a∧SqT K H a vs∧DL K φ N H ds vs
  | .lst n,v=>n<N∧v = .ref (φ n)∧IsL K H (φ n)
  | .dic n,v=>n<N∧v = .ref (φ n)∧IsD H (φ n)
  | .ins n,v=>n<N∧v = .ref (φ n)∧IsO H (φ n)
  | .exc n,v=>∃ a o C,v = .ref a∧H a=some (.frz o (.own 0))∧W.nsIn K mainGlobals (Str.ofString n)=some (some (.ref C))∧o.cls = .ref C
noncomputable def DL (K:W.Frag) (φ:Nat→Addr) (N:Nat) (H:Hp):List Dt→List V→Prop
  | [],vs=>vs=[]
  | d::ds,vs=>∃ v r,vs=v::r∧D K φ N H d v∧DL K φ N H ds r
end
structure Evo (K:W.Frag) (φ:Nat→Addr) (N:Nat) (H:Hp) (φ':Nat→Addr) (N':Nat) (H':Hp):Prop where
  le:N≤N'
  ext:∀ i,i<N→φ' i=φ i
  tup:∀ a vs,SqT K H a vs→SqT K H' a vs
  lst:∀ i,i<N→IsL K H (φ i)→IsL K H' (φ i)
  dic:∀ i,i<N→IsD H (φ i)→IsD H' (φ i)
  ins:∀ i,i<N→IsO H (φ i)→IsO H' (φ i)
  frz:∀ a o u,H a=some (.frz o u)→H' a=some (.frz o u)
section
variable {K:W.Frag} {φ φ' φ1 φ2:Nat→Addr} {N N' N1 N2:Nat} {H H' H1 H2:Hp}
theorem Evo.refl:Evo K φ N H φ N H:=⟨Nat.le_refl _,fun _ _=>rfl,fun _ _ h=>h,fun _ _ h=>h,fun _ _ h=>h,fun _ _ h=>h,fun _ _ _ h=>h⟩
theorem Evo.trans (a:Evo K φ N H φ1 N1 H1) (b:Evo K φ1 N1 H1 φ2 N2 H2):Evo K φ N H φ2 N2 H2 :=
  ⟨Nat.le_trans a.le b.le,fun i hi=>(b.ext i (Nat.lt_of_lt_of_le hi a.le)).trans (a.ext i hi),fun x vs h=>b.tup x vs (a.tup x vs h), 
    fun i hi h=>(fun q:IsL K H1 (φ1 i)→IsL K H2 (φ1 i)=>a.ext i hi ▸ q (a.ext i hi ▸ a.lst i hi h)) (b.lst i (Nat.lt_of_lt_of_le hi a.le)),
    fun i hi h=>(fun q:IsD H1 (φ1 i)→IsD H2 (φ1 i)=>a.ext i hi ▸ q (a.ext i hi ▸ a.dic i hi h)) (b.dic i (Nat.lt_of_lt_of_le hi a.le)),
    fun i hi h=>(fun q:IsO H1 (φ1 i)→IsO H2 (φ1 i)=>a.ext i hi ▸ q (a.ext i hi ▸ a.ins i hi h)) (b.ins i (Nat.lt_of_lt_of_le hi a.le)),
    fun x o u h=>b.frz x o u (a.frz x o u h)⟩
mutual
theorem D.evo (e:Evo K φ N H φ' N' H'):∀ {d:Dt} {v:V},D K φ N H d v→D K φ' N' H' d v
  | .non,_,h=>by simpa [D] using h
  | .bl _,_,h=>by simpa [D] using h
  | .int _,_,h=>by simpa [D] using h
  | .str _,_,h=>by simpa [D] using h
  | .ty _,_,h=>by simpa [D] using h
  | .tup ds,v,h=>by
    simp only [D] at h ⊢
    obtain⟨a,vs,h1,h2,h3⟩:=h
    exact⟨a,vs,h1,e.tup a vs h2,DL.evo e h3⟩
  | .lst n,v,h=>by
    simp only [D] at h ⊢
    obtain⟨h1,h2,h3⟩:=h
    exact⟨Nat.lt_of_lt_of_le h1 e.le,by rw [e.ext n h1];exact h2,by rw [e.ext n h1];exact e.lst n h1 h3⟩
  | .dic n,v,h=>by
    simp only [D] at h ⊢
    obtain⟨h1,h2,h3⟩:=h
    exact⟨Nat.lt_of_lt_of_le h1 e.le,by rw [e.ext n h1];exact h2,by rw [e.ext n h1];exact e.dic n h1 h3⟩
  | .ins n,v,h=>by
    simp only [D] at h ⊢
    obtain⟨h1,h2,h3⟩:=h
    exact⟨Nat.lt_of_lt_of_le h1 e.le,by rw [e.ext n h1];exact h2,by rw [e.ext n h1];exact e.ins n h1 h3⟩
  | .exc n,v,h=>by
    simp only [D] at h ⊢
    obtain⟨a,o,C,h1,h2,h3⟩:=h
    exact⟨a,o,C,h1,e.frz _ _ _ h2,h3⟩
theorem DL.evo (e:Evo K φ N H φ' N' H'):∀ {ds:List Dt} {vs:List V},DL K φ N H ds vs→DL K φ' N' H' ds vs
  | [],vs,h=>by simpa [DL] using h
  | d::ds,vs,h=>by
    simp only [DL] at h ⊢
    obtain⟨v,r,h1,h2,h3⟩:=h
    exact⟨v,r,h1,D.evo e h2,DL.evo e h3⟩
end
theorem DL.length:∀ {ds:List Dt} {vs:List V},DL K φ N H ds vs→ds.length=vs.length
  | [],vs,h=>by simp only [DL] at h;rw [h];rfl
  | d::ds,vs,h=>by
    k_dat 0"r7"
    obtain⟨v,r,h1,_,h3⟩:=h
    rw [h1,List.length_cons,List.length_cons,DL.length h3]
theorem DL.get:∀ {ds:List Dt} {vs:List V} {i:Nat} {d:Dt},DL K φ N H ds vs→ds[i]? = some d→∃ v,vs[i]? = some v∧D K φ N H d v
  | [],_,_,_,_,e=>by simp at e
  | d::ds,vs,0,d',h,e=>by
    k_dat 0"r7"
    obtain⟨v,r,h1,h2,_⟩:=h
    simp at e
    subst e;subst h1
    exact⟨v,rfl,h2⟩
  | d::ds,vs,i+1,d',h,e=>by
    k_dat 0"r7"
    obtain⟨v,r,h1,_,h3⟩:=h
    subst h1
    obtain⟨w,e1,e2⟩:=DL.get (i:=i) h3 (by simpa using e)
    exact⟨w,by simpa using e1,e2⟩
theorem DL.nil:DL K φ N H [] []:=by simp [DL]
theorem DL.cons {d:Dt} {v:V} {ds:List Dt} {vs:List V} (h:D K φ N H d v) (t:DL K φ N H ds vs):DL K φ N H (d::ds) (v::vs):=by
  simp only [DL];exact⟨v,vs,rfl,h,t⟩
theorem DL.qHw {d:Dt} {v:V} {ds:List Dt} {vs:List V} (h:DL K φ N H (d::ds) (v::vs)):D K φ N H d v∧DL K φ N H ds vs:=by
  k_dat 0"r7"
  obtain⟨v',r,h1,h2,h3⟩:=h
  cases h1
  exact⟨h2,h3⟩
theorem DL.append:∀ {ds es:List Dt} {vs ws:List V},DL K φ N H ds vs→DL K φ N H es ws→DL K φ N H (ds++es) (vs++ws)
  | [],_,vs,_,h,h'=>by simp only [DL] at h;rw [h];exact h'
  | d::ds,es,vs,ws,h,h'=>by
    k_dat 0"r7"
    obtain⟨v,r,h1,h2,h3⟩:=h
    subst h1
    exact DL.cons h2 (DL.append h3 h')
theorem DL.drop:∀ {ds:List Dt} {vs:List V} (n:Nat),DL K φ N H ds vs→DL K φ N H (ds.drop n) (vs.drop n)
  | ds,vs,0,h=>h
  | [],vs,n+1,h=>by simp only [DL] at h;rw [h];simpa using DL.nil
  | d::ds,vs,n+1,h=>by
    k_dat 0"r7"
    obtain⟨v,r,h1,h2,h3⟩:=h
    subst h1
    exact DL.drop n h3
theorem DL.take:∀ {ds:List Dt} {vs:List V} (n:Nat),DL K φ N H ds vs→DL K φ N H (ds.take n) (vs.take n)
  | ds,vs,0,h=>by simpa using DL.nil
  | [],vs,n+1,h=>by simp only [DL] at h;rw [h];simpa using DL.nil
  | d::ds,vs,n+1,h=>by
    k_dat 0"r7"
    obtain⟨v,r,h1,h2,h3⟩:=h
    subst h1
    exact DL.cons h2 (DL.take n h3)
theorem DL.set {d:Dt} {v:V} (hd:D K φ N H d v):∀ {ds:List Dt} {vs:List V} (n:Nat),DL K φ N H ds vs→DL K φ N H (ds.set n d) (vs.set n v)
  | [],vs,n,h=>by simp only [DL] at h;rw [h];simpa using DL.nil
  | e::ds,vs,0,h=>by
    k_dat 0"r7"
    obtain⟨w,r,h1,h2,h3⟩:=h
    subst h1
    exact DL.cons hd h3
  | e::ds,vs,n+1,h=>by
    k_dat 0"r7"
    obtain⟨w,r,h1,h2,h3⟩:=h
    subst h1
    exact DL.cons h2 (DL.set hd n h3)
theorem DL.one {d:Dt} {vs:List V} (h:DL K φ N H [d] vs):∃ v,vs=[v]∧D K φ N H d v:=by
  k_dat 0"r7"
  obtain⟨v,r,h1,h2,h3⟩:=h
  subst h3
  exact⟨v,h1,h2⟩
theorem DL.two {d e:Dt} {vs:List V} (h:DL K φ N H [d,e] vs):∃ v w,vs=[v,w]∧D K φ N H d v∧D K φ N H e w:=by
  k_dat 0"r7"
  obtain⟨v,r,h1,h2,w,r',h3,h4,h5⟩:=h
  subst h5;subst h3
  exact⟨v,w,h1,h2,h4⟩
theorem D.int {i:Int} {v:V} (h:D K φ N H (.int i) v):v = .int i:=by simpa [D] using h
theorem D.bl {i:Bool} {v:V} (h:D K φ N H (.bl i) v):v = .bl i:=by simpa [D] using h
theorem D.str {i:Str} {v:V} (h:D K φ N H (.str i) v):v = .str i:=by simpa [D] using h
theorem D.non {v:V} (h:D K φ N H .non v):v = .non:=by simpa [D] using h
theorem D.ty {n:String} {v:V} (h:D K φ N H (.ty n) v):v = .ty n:=by simpa [D] using h
theorem D.tup {ds:List Dt} {v:V} (h:D K φ N H (.tup ds) v):∃ a vs,v = .ref a∧SqT K H a vs∧DL K φ N H ds vs:=by simpa [D] using h
theorem D.lst {n:Nat} {v:V} (h:D K φ N H (.lst n) v):n<N∧v = .ref (φ n):=by simp only [D] at h;exact⟨h.1,h.2.1⟩
theorem D.isL {n:Nat} {v:V} (h:D K φ N H (.lst n) v):IsL K H (φ n):=by simp only [D] at h;exact h.2.2
theorem D.dic {n:Nat} {v:V} (h:D K φ N H (.dic n) v):n<N∧v = .ref (φ n):=by simp only [D] at h;exact⟨h.1,h.2.1⟩
theorem D.ins {n:Nat} {v:V} (h:D K φ N H (.ins n) v):n<N∧v = .ref (φ n):=by simp only [D] at h;exact⟨h.1,h.2.1⟩
theorem D.exc {n:String} {v:V} (h:D K φ N H (.exc n) v):∃ a o C,v = .ref a∧H a=some (.frz o (.own 0))∧W.nsIn K mainGlobals (Str.ofString n)=some (some (.ref C))∧o.cls = .ref C:=by simpa [D] using h
theorem D.qQe {n:String} {a:Addr} {o:Obj} {C:Addr} (h1:H a=some (.frz o (.own 0))) (h2:W.nsIn K mainGlobals (Str.ofString n)=some (some (.ref C))) (h3:o.cls = .ref C):D K φ N H (.exc n) (.ref a):=by simp only [D];exact⟨a,o,C,rfl,h1,h2,h3⟩
theorem D.mkInt {i:Int}:D K φ N H (.int i) (.int i):=by simp [D]
theorem D.qBX {i:Bool}:D K φ N H (.bl i) (.bl i):=by simp [D]
theorem D.mkStr {i:Str}:D K φ N H (.str i) (.str i):=by simp [D]
theorem D.qIf:D K φ N H .non .non:=by simp [D]
theorem D.qQE {n:String}:D K φ N H (.ty n) (.ty n):=by simp [D]
theorem D.qCs {ds:List Dt} {a:Addr} {vs:List V} (h:SqT K H a vs) (t:DL K φ N H ds vs):D K φ N H (.tup ds) (.ref a):=by simp only [D];exact⟨a,vs,rfl,h,t⟩
theorem D.qM8 {n:Nat} (h:n<N) (hl:IsL K H (φ n)):D K φ N H (.lst n) (.ref (φ n)):=by simp only [D];exact⟨h,trivial,hl⟩
theorem D.qPs {n:Nat} (h:n<N) (hl:IsD H (φ n)):D K φ N H (.dic n) (.ref (φ n)):=by simp only [D];exact⟨h,trivial,hl⟩
end
def SqR (K:W.Frag) (H:Hp) (a:Addr) (xs:List V):Prop :=
  (∃ o,H a=some (.frz o (.lst xs))) ∨
    ∃ (o:Obj) (its:Array Value) (n:Nat),K.lookup a=some o∧o.cls = .type "list" ∧ o.dict=none∧o.data = .seq its n∧its.size≤sizeLine∧Vals xs its.toList
theorem SqR.sq {K:W.Frag} {H:Hp} {a:Addr} {xs:List V} (h:SqR K H a xs):SqL K H a xs:=by
  rcases h with h | h
  · exact .inl (.inr h)
  · exact .inr h
noncomputable def Holds (K:W.Frag) (φ:Nat→Addr) (N:Nat) (H:Hp):SO→Addr→Prop
  | .ro xs,a=>∃ vs,SqR K H a vs∧DL K φ N H xs vs
  | .rw xs,a=>∃ vs,H a=some (.lst vs)∧DL K φ N H xs vs
  | .dc kvs,a=>∃ vs:List (Key×V),H a=some (.dK vs)∧K.lookup a=none∧kvs.map (·.1)=vs.map (·.1)∧DL K φ N H (kvs.map (·.2)) (vs.map (·.2))
  | .ob C fs,a=>∃ (c dx:Addr) (vs:List (Str×V)),H a=some (.ins c dx vs)∧K.lookup a=none∧W.nsIn K mainGlobals C=some (some (.ref c))∧fs.map (·.1)=vs.map (·.1)∧DL K φ N H (fs.map (·.2)) (vs.map (·.2))
noncomputable def SO.wr:SO→Bool
  | .ro _=>false
  | _=>true
structure Rep (K:W.Frag) (φ:Nat→Addr) (st:Sto) (H:Hp):Prop where
  injA:∀ (i j:Nat) a b,st[i]? = some a→st[j]? = some b→a.wr=true→b.wr=true→φ i=φ j→i=j
  all:∀ (i:Nat) o,st[i]? = some o→Holds K φ st.length H o (φ i)
section
variable {K:W.Frag} {φ φ':Nat→Addr} {N N':Nat} {st:Sto} {H H':Hp} {p:Addr}
theorem Rep.ro (R:Rep K φ st H):∀ (i:Nat) xs,st[i]? = some (.ro xs)→∃ vs,SqR K H (φ i) vs∧DL K φ st.length H xs vs:=fun i _ e=>R.all i _ e
theorem Rep.rw (R:Rep K φ st H):∀ (i:Nat) xs,st[i]? = some (.rw xs)→∃ vs,H (φ i)=some (.lst vs)∧DL K φ st.length H xs vs:=fun i _ e=>R.all i _ e
theorem Rep.seq (R:Rep K φ st H) {i:Nat} {o:SO} (e:st[i]? = some o) (hl:IsL K H (φ i)):∃ vs,SqL K H (φ i) vs∧DL K φ st.length H o.items vs:=by
  have no:∀ {u:HO},H (φ i)=some u→K.lookup (φ i)=none→(∀ vs,u≠.lst vs)→(∀ ob vs,u≠.frz ob vs)→False:=by
    intro u h hk h1 h2
    obtain⟨vs,(h3 | ⟨ob,h3⟩) | ⟨ob,_,_,h3,_⟩⟩:=hl
    · rw [h] at h3;exact h1 _ (Option.some.inj h3)
    · rw [h] at h3;exact h2 _ _ (Option.some.inj h3)
    · rw [hk] at h3;cases h3
  cases o with
  | ro xs =>
    obtain⟨vs,h1,h2⟩:=R.ro i xs e
    exact⟨vs,h1.sq,h2⟩
  | rw xs =>
    obtain⟨vs,h1,h2⟩:=R.rw i xs e
    exact⟨vs,SqL.of h1,h2⟩
  | dc kvs =>
    obtain⟨vs,h1,h2,_⟩:=R.all i _ e
    exact (no h1 h2 (fun _ z=>by cases z) (fun _ _ z=>by cases z)).elim
  | ob C fs =>
    obtain⟨c,dx,vs,h1,h2,_⟩:=R.all i _ e
    exact (no h1 h2 (fun _ z=>by cases z) (fun _ _ z=>by cases z)).elim
theorem qIr {a:Addr} {vs:List V} {o:HO} (h:SqT K H a vs) (hp:H p=none):SqT K (upd H p o) a vs:=by
  rcases h with (h | ⟨ob,h⟩) | h
  · exact .inl (.inl (by rw [qb (qp h hp)];exact h))
  · exact .inl (.inr ⟨ob,by rw [qb (qp h hp)];exact h⟩)
  · exact .inr h
theorem qIa {a:Addr} {vs:List V} {o:HO} (h:SqR K H a vs) (hp:H p=none):SqR K (upd H p o) a vs:=by
  rcases h with ⟨ob,h⟩ | h
  · exact .inl ⟨ob,by rw [qb (qp h hp)];exact h⟩
  · exact .inr h
theorem qKM {a:Addr} {vs ws:List V} {o:HO} (h:SqT K H a vs) (hp:H p=some (.lst ws)):SqT K (upd H p o) a vs:=by
  rcases h with (h | ⟨ob,h⟩) | h
  · exact .inl (.inl (by rw [qb (qEe h hp (by intro z;cases z))];exact h))
  · exact .inl (.inr ⟨ob,by rw [qb (qEe h hp (by intro z;cases z))];exact h⟩)
  · exact .inr h
theorem qMf {a:Addr} {vs:List V} {o:HO} (h:SqL K H a vs) (hp:H p=none):SqL K (upd H p o) a vs:=by
  rcases h with (h | ⟨ob,h⟩) | h
  · exact .inl (.inl (by rw [qb (qp h hp)];exact h))
  · exact .inl (.inr ⟨ob,by rw [qb (qp h hp)];exact h⟩)
  · exact .inr h
theorem qIi {a:Addr} {o:HO} (h:IsL K H a) (hp:H p=none):IsL K (upd H p o) a:=let ⟨vs,h⟩:=h;⟨vs,qMf h hp⟩
theorem qII {a:Addr} {o:HO} (h:IsD H a) (hp:H p=none):IsD (upd H p o) a:=let ⟨vs,h⟩:=h;⟨vs,by rw [qb (qp h hp)];exact h⟩
theorem qIn {a:Addr} {o:HO} (h:IsO H a) (hp:H p=none):IsO (upd H p o) a:=let ⟨c,d,f,h⟩:=h;⟨c,d,f,by rw [qb (qp h hp)];exact h⟩
theorem qBS {o:HO} (hp:H p=none):Evo K φ N H φ N (upd H p o):=⟨Nat.le_refl _,fun _ _=>rfl,fun _ _ h=>qIr h hp,fun _ _ h=>qIi h hp,fun _ _ h=>qII h hp,fun _ _ h=>qIn h hp,fun _ _ _ h=>by rw [qb (qp h hp)];exact h⟩
theorem Holds.stay {o:SO} {a:Addr} (h:Holds K φ N H o a) (e:Evo K φ N H φ' N' H') (hr:∀ vs,SqR K H a vs→SqR K H' a vs) (hw:o.wr=true→H' a=H a):Holds K φ' N' H' o a:=by
  cases o with
  | ro xs=>obtain⟨vs,h1,h2⟩:=h;exact⟨vs,hr vs h1,h2.evo e⟩
  | rw xs=>obtain⟨vs,h1,h2⟩:=h;exact⟨vs,by rw [hw rfl];exact h1,h2.evo e⟩
  | dc kvs=>obtain⟨vs,h1,h2,h3,h4⟩:=h;exact⟨vs,by rw [hw rfl];exact h1,h2,h3,h4.evo e⟩
  | ob C fs=>obtain⟨c,dx,vs,h1,h2,h3,h4,h5⟩:=h;exact⟨c,dx,vs,by rw [hw rfl];exact h1,h2,h3,h4,h5.evo e⟩
theorem Holds.qM2 {o:SO} {a:Addr} (h:Holds K φ N H o a) (hw:o.wr=true):∃ u,H a=some u:=by
  cases o with
  | ro xs=>cases hw
  | rw xs=>obtain⟨vs,h1,_⟩:=h;exact⟨_,h1⟩
  | dc kvs=>obtain⟨vs,h1,_⟩:=h;exact⟨_,h1⟩
  | ob C fs=>obtain⟨c,dx,vs,h1,_⟩:=h;exact⟨_,h1⟩
theorem Rep.laid {o:HO} (R:Rep K φ st H) (hp:H p=none):Rep K φ st (upd H p o) :=
  ⟨R.injA,fun i x e=>(R.all i x e).stay (qBS hp) (fun _ h=>qIa h hp) fun w=>by
    obtain⟨u,h⟩:=(R.all i x e).qM2 w
    exact qb (qp h hp)⟩
noncomputable def qBF (φ:Nat→Addr) (n:Nat) (p:Addr):Nat→Addr:=fun i=>if i=n then p else φ i
theorem qDb {n:Nat}:qBF φ n p n=p:=by unfold qBF;rw [if_pos rfl]
theorem qDg {n i:Nat} (h:i<n):qBF φ n p i=φ i:=by unfold qBF;rw [if_neg (Nat.ne_of_lt h)]
theorem qDW {o:SO} {u:HO} (hp:H p=none):Evo K φ st.length H (qBF φ st.length p) (st++[o]).length (upd H p u) :=
  ⟨by rw [List.length_append];exact Nat.le_add_right _ _,fun i hi=>qDg hi,fun _ _ h=>qIr h hp,fun _ _ h=>qIi h hp,fun _ _ h=>qII h hp,fun _ _ h=>qIn h hp,fun _ _ _ h=>by rw [qb (qp h hp)];exact h⟩
theorem qLX {vs:List V} {xs:List Dt} (hp:H p=none):Evo K φ st.length H (qBF φ st.length p) (st++[SO.rw xs]).length (upd H p (.lst vs)):=qDW hp
theorem qDJ {α:Type} {l:List α} {x y:α} {i:Nat} (e:(l++[x])[i]? = some y):(i<l.length∧l[i]? = some y)∨(i=l.length∧y=x):=by
  by_cases h:i<l.length
  · left
    rw [List.getElem?_append_left h] at e
    exact⟨h,e⟩
  · right
    rw [List.getElem?_append_right (Nat.not_lt.mp h)] at e
    have h0:i - l.length=0:=by
      cases q:i - l.length with
      | zero=>rfl
      | succ n=>rw [q] at e;simp at e
    rw [h0] at e
    have:x=y:=by simpa using e
    exact⟨by omega,this.symm⟩
theorem qm {α:Type} {l:List α} {y:α} {i:Nat} (e:l[i]? = some y):i<l.length:=(List.getElem?_eq_some_iff.mp e).1
theorem Rep.add {o:SO} {u:HO} (R:Rep K φ st H) (hp:H p=none) (hd:Holds K (qBF φ st.length p) (st++[o]).length (upd H p u) o p):Rep K (qBF φ st.length p) (st++[o]) (upd H p u):=by
  have ev:Evo K φ st.length H (qBF φ st.length p) (st++[o]).length (upd H p u):=qDW hp
  have notp:∀ (i:Nat) x,st[i]? = some x→x.wr=true→φ i≠p:=fun i x e w z=>by
    obtain⟨v,h⟩:=(R.all i x e).qM2 w
    rw [z,hp] at h;cases h
  refine⟨fun i j a b e1 e2 w1 w2 h=>?_,fun i x e=>?_⟩
  · rcases qDJ e1 with ⟨l1,e1⟩ | ⟨l1,e1⟩
    · rcases qDJ e2 with ⟨l2,e2⟩ | ⟨l2,e2⟩
      · rw [qDg l1,qDg l2] at h
        exact R.injA i j _ _ e1 e2 w1 w2 h
      · rw [qDg l1,l2,qDb] at h
        exact absurd h (notp i _ e1 w1)
    · rcases qDJ e2 with ⟨l2,e2⟩ | ⟨l2,e2⟩
      · rw [qDg l2,l1,qDb] at h
        exact absurd h.symm (notp j _ e2 w2)
      · rw [l1,l2]
  · rcases qDJ e with ⟨l1,e1⟩ | ⟨l1,e1⟩
    · rw [qDg l1]
      exact (R.all i x e1).stay ev (fun _ h=>qIa h hp) fun w=>qb (notp i x e1 w)
    · rw [l1,qDb,e1];exact hd
theorem Rep.newL {vs:List V} {xs:List Dt} (R:Rep K φ st H) (hp:H p=none) (hd:DL K φ st.length H xs vs):Rep K (qBF φ st.length p) (st++[.rw xs]) (upd H p (.lst vs)) :=
  R.add hp ⟨vs,qAF,hd.evo (qDW hp)⟩
theorem qKU {a:Addr} {vs:List V} {u w:HO} (h:SqT K H a vs) (hp:H p=some u) (h1:∀ xs,u≠.tup xs) (h2:∀ o x,u≠.frz o x):SqT K (upd H p w) a vs:=by
  rcases h with (h | ⟨ob,h⟩) | h
  · exact .inl (.inl (by rw [qb (qEe h hp (fun z=>h1 _ z.symm))];exact h))
  · exact .inl (.inr ⟨ob,by rw [qb (qEe h hp (fun z=>h2 _ _ z.symm))];exact h⟩)
  · exact .inr h
theorem qJ9 {a:Addr} {vs:List V} {u w:HO} (h:SqR K H a vs) (hp:H p=some u) (h2:∀ o x,u≠.frz o x):SqR K (upd H p w) a vs:=by
  rcases h with ⟨ob,h⟩ | h
  · exact .inl ⟨ob,by rw [qb (qEe h hp (fun z=>h2 _ _ z.symm))];exact h⟩
  · exact .inr h
noncomputable def qFe:HO→HO→Prop
  | .lst _,.lst _=>True
  | .dK _,.dK _=>True
  | .ins _ _ _,.ins _ _ _=>True
  | _,_=>False
theorem qG9 {a:Addr} {u w:HO} (h:IsL K H a) (hp:H p=some u) (hk:qFe u w):IsL K (upd H p w) a:=by
  by_cases e:a=p
  · subst e
    cases u<;>cases w<;>first | exact hk.elim | skip
    · exact⟨_,SqL.of qAF⟩
    · obtain⟨vs,(h | ⟨ob,h⟩) | h⟩:=h
      · rw [hp] at h;cases h
      · rw [hp] at h;cases h
      · exact⟨vs,.inr h⟩
    · obtain⟨vs,(h | ⟨ob,h⟩) | h⟩:=h
      · rw [hp] at h;cases h
      · rw [hp] at h;cases h
      · exact⟨vs,.inr h⟩
  · obtain⟨vs,(h | ⟨ob,h⟩) | h⟩:=h
    · exact⟨vs,.inl (.inl (by rw [qb e];exact h))⟩
    · exact⟨vs,.inl (.inr ⟨ob,by rw [qb e];exact h⟩)⟩
    · exact⟨vs,.inr h⟩
theorem qHL {a:Addr} {u w:HO} (h:IsD H a) (hp:H p=some u) (hk:qFe u w):IsD (upd H p w) a:=by
  by_cases e:a=p
  · subst e
    obtain⟨vs,h⟩:=h
    rw [hp] at h
    cases h
    cases w<;>first | exact hk.elim | exact⟨_,qAF⟩
  · obtain⟨vs,h⟩:=h
    exact⟨vs,by rw [qb e];exact h⟩
theorem qHH {a:Addr} {u w:HO} (h:IsO H a) (hp:H p=some u) (hk:qFe u w):IsO (upd H p w) a:=by
  by_cases e:a=p
  · subst e
    obtain⟨c,d,f,h⟩:=h
    rw [hp] at h
    cases h
    cases w<;>first | exact hk.elim | exact⟨_,_,_,qAF⟩
  · obtain⟨c,d,f,h⟩:=h
    exact⟨c,d,f,by rw [qb e];exact h⟩
theorem qC8 {u w:HO} (hk:qFe u w):(∀ xs,u≠.tup xs)∧∀ o x,u≠.frz o x:=by
  cases u<;>first | exact hk.elim | exact⟨(fun _ z=>nomatch z),(fun _ _ z=>nomatch z)⟩
theorem qEX {n:Nat} {u w:HO} {o:SO} (hn:n<st.length) (h:H (φ n)=some u) (hk:qFe u w):Evo K φ st.length H φ (st.set n o).length (upd H (φ n) w) :=
  ⟨by rw [List.length_set];exact Nat.le_refl _,fun _ _=>rfl,fun _ _ hh=>qKU hh h (qC8 hk).1 (qC8 hk).2,fun _ _ hh=>qG9 hh h hk,fun _ _ hh=>qHL hh h hk,fun _ _ hh=>qHH hh h hk,fun _ o x hh=>by rw [qb (qEe hh h fun z=>(qC8 hk).2 o x z.symm)];exact hh⟩
theorem qGd {n:Nat} {vs ws:List V} {o:SO} (h:H (φ n)=some (.lst ws)):Evo K φ st.length H φ (st.set n o).length (upd H (φ n) (.lst vs)) :=
  ⟨by rw [List.length_set];exact Nat.le_refl _,fun _ _=>rfl,fun _ _ hh=>qKM hh h,fun _ _ hh=>qG9 hh h trivial,fun _ _ hh=>qHL hh h trivial,fun _ _ hh=>qHH hh h trivial,fun _ o x hh=>by rw [qb (qEe hh h (by intro z;cases z))];exact hh⟩
theorem Rep.put {n:Nat} {u w:HO} {o q:SO} (R:Rep K φ st H) (hn:st[n]? = some q) (hq:q.wr=true) (ho:o.wr=true) (h:H (φ n)=some u) (hk:qFe u w) (hd:Holds K φ (st.set n o).length (upd H (φ n) w) o (φ n)):Rep K φ (st.set n o) (upd H (φ n) w):=by
  have hlt:=qm hn
  have ev:Evo K φ st.length H φ (st.set n o).length (upd H (φ n) w):=qEX hlt h hk
  have get:∀ {i:Nat} {x:SO},(st.set n o)[i]? = some x→(i=n∧x=o)∨(i≠n∧st[i]? = some x):=fun {i x} e=>by
    by_cases h:i=n
    · left
      subst h
      rw [List.getElem?_set_self hlt] at e
      exact⟨rfl,(Option.some.inj e).symm⟩
    · right
      rw [List.getElem?_set_ne (Ne.symm h)] at e
      exact⟨h,e⟩
  refine⟨fun i j a b e1 e2 w1 w2 hh=>?_,fun i x e=>?_⟩
  · have g:∀ {i:Nat} {a:SO},(st.set n o)[i]? = some a→a.wr=true→∃ a',st[i]? = some a'∧a'.wr=true:=fun {i a} e w=>by
      rcases get e with ⟨h,_⟩ | ⟨_,h⟩
      · rw [h];exact⟨q,hn,hq⟩
      · exact⟨a,h,w⟩
    obtain⟨z1,g1,y1⟩:=g e1 w1
    obtain⟨z2,g2,y2⟩:=g e2 w2
    exact R.injA i j z1 z2 g1 g2 y1 y2 hh
  · rcases get e with ⟨h1,h2⟩ | ⟨h1,h2⟩
    · rw [h1,h2];exact hd
    · exact (R.all i x h2).stay ev (fun _ hh=>qJ9 hh h (qC8 hk).2) fun w=>qb fun z=>h1 (R.injA i n x q h2 hn w hq z)
theorem Rep.qP7 {n:Nat} {vs:List V} {xs ys:List Dt} (R:Rep K φ st H) (hn:st[n]? = some (.rw ys)) (hd:DL K φ st.length H xs vs):Rep K φ (st.set n (.rw xs)) (upd H (φ n) (.lst vs)):=by
  obtain⟨ws,hw,_⟩:=R.rw n ys hn
  exact R.put hn rfl rfl hw trivial ⟨vs,qAF,hd.evo (qGd hw)⟩
end
noncomputable abbrev VD:=Dt→Sto→Prop
noncomputable abbrev TD:=Rho→Sto→VD→Prop
noncomputable abbrev TBD:=Rho→Sto→(Bool→Sto→Prop)→Prop
noncomputable abbrev TAD:=Rho→Sto→(List Dt→Sto→Prop)→Prop
structure qBH where
  nx:Rho→Sto→Prop
  rt:VD
  bk:Rho→Sto→Prop:=fun _ _=>False
  ct:Rho→Sto→Prop:=fun _ _=>False
noncomputable abbrev TSD:=qBH→Rho→Sto→Prop
def DR (K:W.Frag) (φ:Nat→Addr) (N:Nat) (H:Hp) (ρ:Rho) (σ:L2.St):Prop :=
  ρ.length=σ.length∧∀ (i:Nat) d,ρ[i]? = some (some d)→∃ v,σ[i]? = some (some v)∧D K φ N H d v
section
variable {K:W.Frag} {φ φ':Nat→Addr} {N N':Nat} {H H':Hp} {ρ:Rho} {σ:L2.St}
theorem DR.evo (h:DR K φ N H ρ σ) (e:Evo K φ N H φ' N' H'):DR K φ' N' H' ρ σ :=
  ⟨h.1,fun i d q=>let ⟨v,h1,h2⟩:=h.2 i d q;⟨v,h1,h2.evo e⟩⟩
theorem DR.set {d:Dt} {v:V} (h:DR K φ N H ρ σ) (hd:D K φ N H d v) (i:Nat):DR K φ N H (ρ.set i (some d)) (σ.set i (some v)):=by
  refine⟨by rw [List.length_set,List.length_set];exact h.1,fun j e q=>?_⟩
  by_cases hj:j=i
  · subst hj
    have hl:j<ρ.length:=by
      have:=qm q
      rwa [List.length_set] at this
    rw [List.getElem?_set_self hl] at q
    cases q
    exact⟨v,by rw [List.getElem?_set_self (by rw [← h.1];exact hl)],hd⟩
  · rw [List.getElem?_set_ne (Ne.symm hj)] at q
    rw [List.getElem?_set_ne (Ne.symm hj)]
    exact h.2 j e q
end
def Pre (K:W.Frag) (φ:Nat→Addr) (st:Sto) (H:Hp) (ρ:Rho) (σ:L2.St):Prop:=Rep K φ st H∧DR K φ st.length H ρ σ
def Bhd (K:W.Frag) (φ:Nat→Addr) (st:Sto) (H:Hp) (φ':Nat→Addr) (st':Sto) (H':Hp):Prop:=Rep K φ' st' H'∧Evo K φ st.length H φ' st'.length H'
noncomputable def qAz (K:W.Frag) (t:TD):TE:=fun σ H Q=>∃ φ st ρ P,Pre K φ st H ρ σ∧t ρ st P ∧
  ∀ d st',P d st'→∀ φ' H' v,Bhd K φ st H φ' st' H'→D K φ' st'.length H' d v→Q v H'
noncomputable def liftT (K:W.Frag) (t:TBD):TT:=fun σ H Q=>∃ φ st ρ P,Pre K φ st H ρ σ∧t ρ st P ∧
  ∀ b st',P b st'→∀ φ' H',Bhd K φ st H φ' st' H'→Q b H'
noncomputable def qKn (K:W.Frag) (t:TAD):TA:=fun σ H Q=>∃ φ st ρ P,Pre K φ st H ρ σ∧t ρ st P ∧
  ∀ ds st',P ds st'→∀ φ' H' vs,Bhd K φ st H φ' st' H'→DL K φ' st'.length H' ds vs→Q vs H'
noncomputable def qFR (K:W.Frag) (t:TSD):TS:=fun E σ H=>∃ φ st ρ P,Pre K φ st H ρ σ∧t P ρ st ∧
  (∀ ρ' st',P.nx ρ' st'→∀ φ' H' σ',Bhd K φ st H φ' st' H'→DR K φ' st'.length H' ρ' σ'→E.nx σ' H') ∧
  (∀ ρ' st',P.bk ρ' st'→∀ φ' H' σ',Bhd K φ st H φ' st' H'→DR K φ' st'.length H' ρ' σ'→E.bk σ' H') ∧
  (∀ ρ' st',P.ct ρ' st'→∀ φ' H' σ',Bhd K φ st H φ' st' H'→DR K φ' st'.length H' ρ' σ'→E.ct σ' H') ∧
  (∀ d st',P.rt d st'→∀ φ' H' v,Bhd K φ st H φ' st' H'→D K φ' st'.length H' d v→E.rt v H')
def DE (X:Cx) (e:Expr) (t:TD):Prop:=PE X e (qAz X.K t)
def DT (X:Cx) (e:Expr) (t:TBD):Prop:=PT X e (liftT X.K t)
def DA (X:Cx) (es:List Expr) (t:TAD):Prop:=PA X es (qKn X.K t)
def DS (X:Cx) (s:Stmt) (t:TSD):Prop:=PS X s (qFR X.K t)
def DSs (X:Cx) (s:List Stmt) (t:TSD):Prop:=PSs X s (qFR X.K t)
section
variable {K:W.Frag} {φ φ1 φ2:Nat→Addr} {st st1 st2:Sto} {H H1 H2:Hp} {ρ:Rho} {σ:L2.St}
theorem Bhd.refl (h:Rep K φ st H):Bhd K φ st H φ st H:=⟨h,.refl⟩
theorem Bhd.trans (a:Bhd K φ st H φ1 st1 H1) (b:Bhd K φ1 st1 H1 φ2 st2 H2):Bhd K φ st H φ2 st2 H2:=⟨b.1,a.2.trans b.2⟩
theorem Pre.on (p:Pre K φ st H ρ σ) (b:Bhd K φ st H φ1 st1 H1):Pre K φ1 st1 H1 ρ σ:=⟨b.1,p.2.evo b.2⟩
end
theorem _root_.L2.PE.imp {X:Cx} {e:Expr} {t t':TE} (h:PE X e t) (i:∀ σ H Q,t' σ H Q→t σ H Q):PE X e t':=fun pins s σ H Q I q=>h pins s σ H Q I (i σ H Q q)
theorem _root_.L2.PT.imp {X:Cx} {e:Expr} {t t':TT} (h:PT X e t) (i:∀ σ H Q,t' σ H Q→t σ H Q):PT X e t':=fun pins s σ H Q I q=>h pins s σ H Q I (i σ H Q q)
theorem _root_.L2.PA.imp {X:Cx} {es:List Expr} {t t':TA} (h:PA X es t) (i:∀ σ H Q,t' σ H Q→t σ H Q):PA X es t':=fun pos pins s σ H Q I q=>h pos pins s σ H Q I (i σ H Q q)
theorem _root_.L2.PS.imp {X:Cx} {e:Stmt} {t t':TS} (h:PS X e t) (i:∀ D σ H,t' D σ H→t D σ H):PS X e t':=fun pins s σ H Dn I q=>h pins s σ H Dn I (i Dn σ H q)
theorem _root_.L2.PSs.imp {X:Cx} {e:List Stmt} {t t':TS} (h:PSs X e t) (i:∀ D σ H,t' D σ H→t D σ H):PSs X e t':=fun pins s σ H Dn I q=>h pins s σ H Dn I (i Dn σ H q)
end L3
namespace L3
open PySem PySem.Spec PyProof.Rows L2
open AutoSeq1 (wpAny_loadPart')
section
variable {prog:Program} {w:World} {A:Around} {E:Value→Shared→Prop} {s:Shared}
theorem qLC {t b:Addr} {vs ws:List Value} {Q:Value→Shared→Prop} (ht:IsTup s.heap t vs.toArray) (hb:IsTup s.heap b ws.toArray)
    (h0:vs=[]→Q (.ref b) s) (h1:vs≠[]→ws=[]→Q (.ref t) s) (h2:vs≠[]→ws≠[]→Q (.ref s.heap.objs.size) { s with heap:=s.heap.push { cls:=.type "tuple",data:=.seq (vs++ws).toArray } })
    (hsz:vs.length+ws.length≤sizeLine):wpAny (model prog w) A (binaryOp .Add (.ref t) (.ref b)) Q E s:=by
  by_cases hv:vs=[]
  · obtain⟨⟨cls,dd,data,sl⟩,ho,hc,n,hd⟩:=id ht
    obtain⟨⟨cls2,dd2,data2,sl2⟩,ho2,hc2,n2,hd2⟩:=id hb
    simp only at hc hd hc2 hd2
    subst hc hd hc2 hd2
    exact concat_meets ⟨_,ho,rfl⟩ ⟨_,ho2,rfl⟩ noFill_tuple_add seq_tuple_add PySem.F.slot_tuple_add PySem.F.entry_tuple_add (PySem.F.args_tuple_add_2 _ _)
      (tuple_addW0 t b vs.toArray ws.toArray n n2 dd dd2 sl sl2 (by simp [hv])) ⟨ho,ho2,h0 hv⟩
  · exact HT.qLO ht hb hv (h1 hv) (h2 hv) hsz
end
theorem qDp:fillsNumberSlot (.type "tuple") "mul" = pure false :=
  PySem.fillsNumberSlot_seq (id:= "tuple.__mul__") (r:=some (.builtin "tuple.__rmul__")) F.slot_tuple_mul.lookup (by decide +kernel) F.slot_tuple_rmul.lookup (by decide +kernel)
theorem qF1:seqRepeat? (.type "tuple")=pure (some (.builtin "tuple.__mul__")):=by
  unfold seqRepeat?
  rw [PySem.seqSlot_of (T:= "tuple") (name:= "__mul__") (id:= "tuple.__mul__") F.slot_tuple_mul.lookup (by decide +kernel),PySem.seqSlot_of (T:= "tuple") (name:= "__rmul__") (id:= "tuple.__rmul__") F.slot_tuple_rmul.lookup (by decide +kernel)]
  rfl
theorem qEl (a:Int) (t:Tok) (l:Addr) (items:Array Value) (n:Nat) (d:Option Addr) (sl:Array (Option Value)) :
    Meets (Builtin.«int.__rmul__» ⟨[.int a t,.ref l],[]⟩) (fun _ R s=>s.heap.get? l=some { cls:=.type "tuple",dict:=d,data:=.seq items n,slots:=sl }∧R (.ok (.ret Value.notImplemented)) s) :=
  .of_wp fun prog w A R s h=>by obtain⟨hp,g,d,tk,os⟩:=s;obtain⟨hl,h⟩:=h;wp_walk;exact⟨_,rfl,h⟩
theorem qHe (l:Addr) (items:Array Value) (n:Nat) (d:Option Addr) (sl:Array (Option Value)) (x:Int) (u:Tok) (h0:items.isEmpty=false) (h1:2≤x) (h2:x<2 ^ 20) (h3:items.size * x.toNat≤sizeLine) :
    Meets (Builtin.«tuple.__mul__» ⟨[.ref l,.int x u],[]⟩) (fun _ R s=>s.heap.get? l=some { cls:=.type "tuple",dict:=d,data:=.seq items n,slots:=sl } ∧
      R (.ok (.ret (Value.ref s.heap.objs.size))) { s with heap:=s.heap.push { cls:=Value.type "tuple",data:=Data.seq (List.foldl (fun x1 x2=>x1++x2) #[] (List.replicate x.toNat items)) },toks:=s.toks }) :=
  .of_wp fun prog w A R s h=>by
    obtain⟨hp,g,d,tk,os⟩:=s;obtain⟨hl,h⟩:=h
    have f1:=AutoSeq1.idx_int
    have e1:(decide (x < -(2 ^ 63)) || decide (x ≥ 2 ^ 63))=false:=by
      rw [decide_eq_false (by omega),decide_eq_false (by omega)];rfl
    have e2:(items.isEmpty || x==1)=false:=by
      rw [h0,Bool.false_or];exact beq_eq_false_iff_ne.mpr (by omega)
    have e3:(decide (x≤0) || items.isEmpty)=false:=by
      rw [h0,Bool.or_false];exact decide_eq_false (by omega)
    have e4:¬ ((items.size:Int) * x > (2 ^ 63 - 1) / 8):=by
      have hb:items.size * x.toNat≤16777216:=by rw [← sizeLine_eq];exact h3
      have:(items.size:Int) * x=((items.size * x.toNat:Nat):Int):=by
        rw [Int.natCast_mul,Int.toNat_of_nonneg (by omega)]
      rw [this]
      omega
    wp_walk using wpAny_loadPart' hl
    rw [if_neg (fun q=>Bool.false_ne_true (e1.symm.trans q))]
    wp_walk using wpAny_loadPart' hl
    rw [if_neg (fun q=>Bool.false_ne_true (e2.symm.trans q))]
    wp_walk using wpAny_loadPart' hl
    rw [if_neg (fun q=>Bool.false_ne_true (e3.symm.trans q))]
    wp_walk using wpAny_loadPart' hl
    rw [if_neg e4]
    wp_walk using wpAny_loadPart' hl
    have hx:(items.size:Int) * x=((items.size * x.toNat:Nat):Int):=by
      rw [Int.natCast_mul,Int.toNat_of_nonneg (by omega)]
    have e5:Builtin.Tuple.tupleTooMany ((items.size:Int) * x)=false:=by
      unfold Builtin.Tuple.tupleTooMany
      rw [hx]
      exact decide_eq_false (by omega)
    rw [if_neg (fun q=>Bool.false_ne_true (e5.symm.trans q))]
    have f0:List.foldl (fun x1 x2=>x1++x2) #[] (List.replicate x.toNat items)=(List.replicate x.toNat items.toList).flatten.toArray:=by
      have:=foldl_rep items.toList x.toNat []
      rw [List.nil_append,Array.toArray_toList] at this
      exact this
    have hsz:sizeOk (.seq (List.foldl (fun x1 x2=>x1++x2) #[] (List.replicate x.toNat items))):=by
      show (List.foldl (fun x1 x2=>x1++x2) #[] (List.replicate x.toNat items)).size≤sizeLine
      rw [f0,List.size_toArray,len_rep,Array.length_toList,Nat.mul_comm]
      exact h3
    unfold Builtin.Tuple.tupleExact
    exact wpAny_bind (wpAny_newObj_type (wpAny_pure ⟨_,rfl,h⟩) hsz)
section
variable {X:Cx}
theorem qLq:OpR X (binaryOp .Add) (fun x y H Q=>∃ a b xs ys,x = .ref a∧y = .ref b∧SqT X.K H a xs∧SqT X.K H b ys∧xs.length+ys.length≤sizeLine ∧
    (xs=[]→Q (.ref b) H)∧(xs≠[]→ys=[]→Q (.ref a) H)∧(xs≠[]→ys≠[]→∀ p,H p=none→Q (.ref p) (upd H p (.tup (xs++ys))))):=by
  k_dat 0"r4"
  obtain⟨a,b,xs,ys,rfl,rfl,ha,hb,hz,q0,q1,q2⟩:=h
  cases rx
  cases ry
  obtain⟨its,r1,p1,_⟩:=I.tuple ha
  obtain⟨its2,r2,p2,_⟩:=I.tuple hb
  refine qLC p1 p2 (fun z=>⟨.ref b,H,I,rfl,q0 (r1.qDO.mp z)⟩) (fun z1 z=>⟨.ref a,H,I,rfl,q1 (fun w=>z1 (r1.qDO.mpr w)) (r2.qDO.mp z)⟩) (fun z1 z=>?_) (by rw [← r1.length,← r2.length];exact hz)
  refine⟨.ref s.heap.objs.size,_,I.laid (t':=s.toks) (o:=.tup (xs++ys)) (fun b ob q=>Heap.get?_push_of_some _ q) (Nat.le_refl _) ?_,rfl,q2 (fun w=>z1 (r1.qDO.mpr w)) (fun w=>z (r2.qDO.mpr w)) _ (I.hok.fresh (Nat.le_refl _))⟩
  exact⟨by rw [List.length_append];exact hz,_,r1.append r2,qBc.new _ _⟩
theorem qMl:OpR X (binaryOp .Mult) (fun x y H Q=>∃ a k xs,x = .ref a∧y = .int k∧SqT X.K H a xs∧xs≠[]∧2≤k∧k<2 ^ 20∧xs.length * k.toNat≤sizeLine ∧
    ∀ p,H p=none→Q (.ref p) (upd H p (.tup (List.replicate k.toNat xs).flatten))):=by
  k_dat 0"r4"
  obtain⟨a,k,xs,rfl,rfl,ha,hne,h2,h3,hz,q⟩:=h
  cases rx
  obtain⟨t,rfl⟩:=ry
  obtain⟨its,r1,p1,_⟩:=I.tuple ha
  have hl:=r1.length
  obtain⟨⟨cls,dd,data,sl⟩,ho,hc,n,hd⟩:=id p1
  simp only at hc hd
  subst hc hd
  have f0:List.foldl (fun x1 x2=>x1++x2) #[] (List.replicate k.toNat its.toArray)=(List.replicate k.toNat its).flatten.toArray:=by
    have:=foldl_rep its k.toNat []
    rw [List.nil_append] at this
    exact this
  have hz':its.toArray.size * k.toNat≤sizeLine:=by rw [List.size_toArray,← hl];exact hz
  have he:its.toArray.isEmpty=false:=by
    cases its with
    | nil=>exact absurd (List.length_eq_zero_iff.mp hl) hne
    | cons _ _=>rfl
  refine wpAny_binaryOp_repeat_ref (T:= "tuple") (U:= "int") (by decide) ⟨_,ho,rfl⟩ (fun s'=>typeIs_int s' k t) qDp F.fills_int_mul F.slot_int_rmul qF1 F.slot_int_index.lookup
    (call_meets F.slot_int_rmul (typeIs_int s k t) F.entry_int_rmul (F.args_int_rmul_2 _ _) (qEl k t a its.toArray n dd sl)
      ⟨ho,rfl,⟨_,ho,rfl⟩,call_meets F.slot_tuple_mul ⟨_,ho,rfl⟩ F.entry_tuple_mul (F.args_tuple_mul_2 _ _) (qHe a its.toArray n dd sl k t he h2 h3 hz') ⟨ho,?_⟩⟩)
  rw [f0]
  refine⟨.ref s.heap.objs.size,_,I.laid (t':=s.toks) (o:=.tup (List.replicate k.toNat xs).flatten) (fun b ob q=>Heap.get?_push_of_some _ q) (Nat.le_refl _) ?_,rfl,q _ (I.hok.fresh (Nat.le_refl _))⟩
  exact⟨by rw [len_rep,Nat.mul_comm];exact hz,_,Vals.rep r1 _,qBc.new _ _⟩
end
end L3
namespace L3
open PySem PySem.Spec PyProof.Rows L2
noncomputable def okD:Nat→Dt→Bool
  | 0,.tup _=>false
  | n+1,.tup xs=>xs.all (okD n)
  | _,.lst _=>false
  | _,.ty _=>false
  | _,.dic _=>false
  | _,.ins _=>false
  | _,.exc _=>false
  | _,_=>true
noncomputable def eqL (f:Dt→Dt→Bool):List Dt→List Dt→Bool
  | [],[]=>true
  | x::xs,y::ys=>f x y&&eqL f xs ys
  | _,_=>false
noncomputable def eqD:Nat→Dt→Dt→Bool
  | _,.non,.non=>true
  | _,.bl a,.bl b=>a==b
  | _,.bl a,.int b=>(if a then 1 else 0)==b
  | _,.int a,.bl b=>a==(if b then 1 else 0)
  | _,.int a,.int b=>a==b
  | _,.str a,.str b=>a==b
  | n+1,.tup a,.tup b=>eqL (eqD n) a b
  | _,_,_=>false
theorem qGr {f:Dt→Dt→Bool}:∀ {xs:List Dt},(∀ x∈xs,f x x=true)→eqL f xs xs=true
  | [],_=>rfl
  | x::xs,h=>by
    unfold eqL
    rw [h x List.mem_cons_self,qGr fun y hy=>h y (List.mem_cons_of_mem _ hy)]
    rfl
theorem qEg:∀ {n:Nat} {d:Dt},okD n d=true→eqD n d d=true
  | 0,.tup _,h=>by simp [okD] at h
  | n+1,.tup xs,h=>by
    simp only [okD] at h
    simp only [eqD]
    exact qGr fun x hx=>qEg (List.all_eq_true.mp h x hx)
  | n,.non,_=>by cases n<;>rfl
  | n,.bl b,_=>by cases n<;>simp [eqD]
  | n,.int b,_=>by cases n<;>simp [eqD]
  | n,.str b,_=>by cases n<;>simp [eqD]
  | n,.lst _,h=>by cases n<;>simp [okD] at h
  | n,.ty _,h=>by cases n<;>simp [okD] at h
  | n,.dic _,h=>by cases n<;>simp [okD] at h
  | n,.ins _,h=>by cases n<;>simp [okD] at h
  | n,.exc _,h=>by cases n<;>simp [okD] at h
theorem qBV {f:Dt→Dt→Bool}:∀ (xs ys:List Dt),eqL f xs ys=((List.range (min xs.length ys.length)).all (fun j=>f (xs.getD j .non) (ys.getD j .non))&&xs.length==ys.length)
  | [],[]=>rfl
  | [],_::_=>by simp [eqL]
  | _::_,[]=>by simp [eqL]
  | x :: xs,y::ys=>by
    unfold eqL
    rw [qBV xs ys]
    have e:min (x::xs).length (y::ys).length=min xs.length ys.length+1:=by simp [Nat.succ_min_succ]
    rw [e,List.range_succ_eq_map,List.all_cons,List.all_map]
    simp only [List.getD_cons_zero,List.length_cons]
    have e2:((xs.length+1==ys.length+1):Bool)=(xs.length==ys.length):=by
      rw [Bool.eq_iff_iff];simp
    rw [e2,Bool.and_assoc]
    rfl
section
variable {X:Cx} {pins:List (Addr×Obj)} {σ:L2.St} {H:Hp} {s:Shared} {φ:Nat→Addr} {N:Nat}
theorem qEM {xs:List Dt} {j:Nat} {d:Dt} (h:xs[j]? = some d):xs.getD j .non=d:=by simp [List.getD,h]
theorem qGi {f:Dt→Bool} (hf:∀ {d e:Dt} {v:V},f d=true→f e=true→D X.K φ N H d v→D X.K φ N H e v→d=e):∀ {a b:List Dt} {vs:List V},DL X.K φ N H a vs→DL X.K φ N H b vs→a.all f=true→b.all f=true→a=b
  | [],[],_,_,_,_,_=>rfl
  | [],y::b,vs,h1,h2,_,_=>by
    have:=h1.length;have:=h2.length;simp at *;omega
  | x::a,[],vs,h1,h2,_,_=>by
    have:=h1.length;have:=h2.length;simp at *;omega
  | x::a,y::b,vs,h1,h2,o1,o2=>by
    rw [List.all_cons,Bool.and_eq_true] at o1 o2
    simp only [DL] at h1 h2
    obtain⟨v,r,rfl,p1,p2⟩:=h1
    obtain⟨v',r',e,q1,q2⟩:=h2
    cases e
    rw [hf o1.1 o2.1 p1 q1,qGi hf p2 q2 o1.2 o2.2]
theorem qM9 (I:Inv X pins σ H s):∀ (n:Nat) {d e:Dt} {v:V},okD n d=true→okD n e=true→D X.K φ N H d v→D X.K φ N H e v→d=e:=by
  intro n
  induction n with
  | zero =>
    intro d e v o1 o2 h1 h2
    cases d<;>cases e<;>first
      | (exfalso;revert o1;simp [okD];done)
      | (exfalso;revert o2;simp [okD];done)
      | (simp only [D] at h1 h2;subst h1;first | (cases h2;rfl) | (cases h2))
  | succ n ih =>
    intro d e v o1 o2 h1 h2
    cases d<;>cases e<;>first
      | (exfalso;revert o1;simp [okD];done)
      | (exfalso;revert o2;simp [okD];done)
      | (simp only [D] at h1 h2;subst h1;first | (cases h2;rfl) | (cases h2;done) | (obtain⟨_,_,z,_⟩:=h2;cases z))
      | (simp only [D] at h1 h2;subst h2;obtain⟨_,_,z,_⟩:=h1;cases z)
      | (simp only [okD] at o1 o2
         obtain⟨p,vs,e1,hs,hd⟩:=h1.tup
         obtain⟨q,ws,e2,hs2,hd2⟩:=h2.tup
         rw [e1] at e2
         cases e2
         have:=I.qFZ hs hs2
         subst this
         rw [qGi (f:=okD n) (fun a b c d=>ih a b c d) hd hd2 o1 o2])
theorem qN4 (I:Inv X pins σ H s) {n:Nat} {a b:List Dt} {vs:List V} (h1:DL X.K φ N H a vs) (h2:DL X.K φ N H b vs) (o1:a.all (okD n)=true) (o2:b.all (okD n)=true):a=b :=
  qGi (fun a b c d=>qM9 I n a b c d) h1 h2 o1 o2
theorem qHr (I:Inv X pins σ H s):∀ (n:Nat) {A:Around} {d e:Dt} {v w:V} {u1 u2:Value},A.units+n<cLine→okD n d=true→okD n e=true→D X.K φ N H d v→D X.K φ N H e w→RelV v u1→RelV w u2→SeqAt.EqAt A s u1 u2 (eqD n d e)
  | n,A,.non,.non,v,w,u1,u2,hu,_,_,h1,h2,r1,r2=>by cases h1.non;cases h2.non;cases r1;cases r2;cases n<;>exact SeqAt.EqAt.same _
  | n,A,.non,.bl b,v,w,u1,u2,hu,_,_,h1,h2,r1,r2=>by cases h1.non;cases h2.bl;cases r1;cases r2;cases n<;>exact SeqAt.EqAt.none_bool b
  | n,A,.non,.int b,v,w,u1,u2,hu,_,_,h1,h2,r1,r2=>by cases h1.non;cases h2.int;cases r1;obtain⟨t,rfl⟩:=r2;cases n<;>exact SeqAt.EqAt.none_int b t
  | n,A,.non,.str b,v,w,u1,u2,hu,_,_,h1,h2,r1,r2=>by cases h1.non;cases h2.str;cases r1;obtain⟨t,rfl⟩:=r2;cases n<;>exact SeqAt.EqAt.none_str b t
  | n,A,.bl a,.non,v,w,u1,u2,hu,_,_,h1,h2,r1,r2=>by cases h1.bl;cases h2.non;cases r1;cases r2;cases n<;>exact SeqAt.EqAt.bool_none a
  | n,A,.bl a,.bl b,v,w,u1,u2,hu,_,_,h1,h2,r1,r2=>by cases h1.bl;cases h2.bl;cases r1;cases r2;cases n<;>exact SeqAt.EqAt.bool_bool a b
  | n,A,.bl a,.int b,v,w,u1,u2,hu,_,_,h1,h2,r1,r2=>by cases h1.bl;cases h2.int;cases r1;obtain⟨t,rfl⟩:=r2;cases n<;>exact SeqAt.EqAt.bool_int a b t
  | n,A,.bl a,.str b,v,w,u1,u2,hu,_,_,h1,h2,r1,r2=>by cases h1.bl;cases h2.str;cases r1;obtain⟨t,rfl⟩:=r2;cases n<;>exact SeqAt.EqAt.bool_str a b t
  | n,A,.int a,.non,v,w,u1,u2,hu,_,_,h1,h2,r1,r2=>by cases h1.int;cases h2.non;obtain⟨t,rfl⟩:=r1;cases r2;cases n<;>exact SeqAt.EqAt.int_none a t
  | n,A,.int a,.bl b,v,w,u1,u2,hu,_,_,h1,h2,r1,r2=>by cases h1.int;cases h2.bl;obtain⟨t,rfl⟩:=r1;cases r2;cases n<;>exact SeqAt.EqAt.int_bool a t b
  | n,A,.int a,.int b,v,w,u1,u2,hu,_,_,h1,h2,r1,r2=>by cases h1.int;cases h2.int;obtain⟨t,rfl⟩:=r1;obtain⟨t',rfl⟩:=r2;cases n<;>exact SeqAt.EqAt.int_int a t b t'
  | n,A,.int a,.str b,v,w,u1,u2,hu,_,_,h1,h2,r1,r2=>by cases h1.int;cases h2.str;obtain⟨t,rfl⟩:=r1;obtain⟨t',rfl⟩:=r2;cases n<;>exact SeqAt.EqAt.int_str a t b t'
  | n,A,.str a,.non,v,w,u1,u2,hu,_,_,h1,h2,r1,r2=>by cases h1.str;cases h2.non;obtain⟨t,rfl⟩:=r1;cases r2;cases n<;>exact SeqAt.EqAt.str_none a t
  | n,A,.str a,.bl b,v,w,u1,u2,hu,_,_,h1,h2,r1,r2=>by cases h1.str;cases h2.bl;obtain⟨t,rfl⟩:=r1;cases r2;cases n<;>exact SeqAt.EqAt.str_bool a t b
  | n,A,.str a,.int b,v,w,u1,u2,hu,_,_,h1,h2,r1,r2=>by cases h1.str;cases h2.int;obtain⟨t,rfl⟩:=r1;obtain⟨t',rfl⟩:=r2;cases n<;>exact SeqAt.EqAt.str_int a t b t'
  | n,A,.str a,.str b,v,w,u1,u2,hu,_,_,h1,h2,r1,r2=>by cases h1.str;cases h2.str;obtain⟨t,rfl⟩:=r1;obtain⟨t',rfl⟩:=r2;cases n<;>exact SeqAt.EqAt.str_str a t b t'
  | n,A,.tup a,.non,v,w,u1,u2,hu,_,_,h1,h2,r1,r2=>by
    obtain⟨p,vs,rfl,hs,hd⟩:=h1.tup;cases h2.non;cases r1;cases r2;obtain⟨its,_,ht,_⟩:=I.tuple hs;cases n<;>exact SeqAt.EqAt.tuple_none ht (by omega)
  | n,A,.tup a,.bl b,v,w,u1,u2,hu,_,_,h1,h2,r1,r2=>by
    obtain⟨p,vs,rfl,hs,hd⟩:=h1.tup;cases h2.bl;cases r1;cases r2;obtain⟨its,_,ht,_⟩:=I.tuple hs;cases n<;>exact SeqAt.EqAt.tuple_bool b ht (by omega)
  | n,A,.tup a,.int b,v,w,u1,u2,hu,_,_,h1,h2,r1,r2=>by
    obtain⟨p,vs,rfl,hs,hd⟩:=h1.tup;cases h2.int;cases r1;obtain⟨t',rfl⟩:=r2;obtain⟨its,_,ht,_⟩:=I.tuple hs;cases n<;>exact SeqAt.EqAt.tuple_int b t' ht (by omega)
  | n,A,.tup a,.str b,v,w,u1,u2,hu,_,_,h1,h2,r1,r2=>by
    obtain⟨p,vs,rfl,hs,hd⟩:=h1.tup;cases h2.str;cases r1;obtain⟨t',rfl⟩:=r2;obtain⟨its,_,ht,_⟩:=I.tuple hs;cases n<;>exact SeqAt.EqAt.tuple_str b t' ht (by omega)
  | n,A,.non,.tup b,v,w,u1,u2,hu,_,_,h1,h2,r1,r2=>by
    obtain⟨p,vs,rfl,hs,hd⟩:=h2.tup;cases h1.non;cases r1;cases r2;obtain⟨its,_,ht,_⟩:=I.tuple hs;cases n<;>exact SeqAt.EqAt.none_tuple ht (by omega)
  | n,A,.bl a,.tup b,v,w,u1,u2,hu,_,_,h1,h2,r1,r2=>by
    obtain⟨p,vs,rfl,hs,hd⟩:=h2.tup;cases h1.bl;cases r1;cases r2;obtain⟨its,_,ht,_⟩:=I.tuple hs;cases n<;>exact SeqAt.EqAt.bool_tuple a ht (by omega)
  | n,A,.int a,.tup b,v,w,u1,u2,hu,_,_,h1,h2,r1,r2=>by
    obtain⟨p,vs,rfl,hs,hd⟩:=h2.tup;cases h1.int;obtain⟨t',rfl⟩:=r1;cases r2;obtain⟨its,_,ht,_⟩:=I.tuple hs;cases n<;>exact SeqAt.EqAt.int_tuple a t' ht (by omega)
  | n,A,.str a,.tup b,v,w,u1,u2,hu,_,_,h1,h2,r1,r2=>by
    obtain⟨p,vs,rfl,hs,hd⟩:=h2.tup;cases h1.str;obtain⟨t',rfl⟩:=r1;cases r2;obtain⟨its,_,ht,_⟩:=I.tuple hs;cases n<;>exact SeqAt.EqAt.str_tuple a t' ht (by omega)
  | 0,A,.tup a,.tup b,v,w,u1,u2,hu,o1,_,h1,h2,r1,r2=>by simp [okD] at o1
  | n + 1,A,.tup a,.tup b,v,w,u1,u2,hu,o1,o2,h1,h2,r1,r2=>by
    simp only [okD] at o1 o2
    obtain⟨p,vs,rfl,hs,hd⟩:=h1.tup
    obtain⟨q,ws,rfl,hs2,hd2⟩:=h2.tup
    cases r1;cases r2
    obtain⟨its,rv,ht,_⟩:=I.tuple hs
    obtain⟨its2,rv2,ht2,_⟩:=I.tuple hs2
    k_dat 0"r28"
    k_dat 0"r29"
    have hu':A.in1.units+n<cLine:=by show A.units+1+n<cLine;omega
    have rc:SeqAt.RcAt A s (.ref p) (.ref q) (eqD (n+1) (.tup a) (.tup b)):=by
      have:=SeqAt.RcAt.tuples (A:=A) (s:=s) (e:=fun j=>eqD n (a.getD j .non) (b.getD j .non)) ht ht2 (by omega) (fun j h1 h2=>by
        have hj1:j<a.length:=by rw [← l1];exact h1
        have hj2:j<b.length:=by rw [← l2];exact h2
        have ea:a[j]? = some a[j]:=by simp [hj1]
        have eb:b[j]? = some b[j]:=by simp [hj2]
        obtain⟨x,ex,dx⟩:=hd.get ea
        obtain⟨y,ey,dy⟩:=hd2.get eb
        obtain⟨ux,eux,rx⟩:=rv.get ex
        obtain⟨uy,euy,ry⟩:=rv2.get ey
        have gx:its.toArray[j]=ux:=by
          have:its[j]? = some its[j]:=by simp at h1;simp [h1]
          rw [eux] at this
          k_dat 0"r30"
        have gy:its2.toArray[j]=uy:=by
          have:its2[j]? = some its2[j]:=by simp at h2;simp [h2]
          rw [euy] at this
          k_dat 0"r30"
        rw [gx,gy,qEM ea,qEM eb]
        exact qHr I n hu' (List.all_eq_true.mp o1 _ (List.getElem_mem hj1)) (List.all_eq_true.mp o2 _ (List.getElem_mem hj2)) dx dy rx ry)
      rw [l1,l2] at this
      simp only [eqD]
      rw [qBV]
      exact this
    by_cases hpq:p=q
    · subst hpq
      have:eqD (n+1) (.tup a) (.tup b)=true∨eqD (n+1) (.tup a) (.tup b)=false:=by cases eqD (n+1) (.tup a) (.tup b)<;>simp
      have e1:its=its2:=by
        obtain⟨o,e,_,m,d⟩:=ht
        obtain⟨o',e',_,m',d'⟩:=ht2
        rw [e] at e';cases e'
        rw [d] at d'
        injection d' with d1 _
        simpa using congrArg Array.toList d1
      have ev:vs=ws:=by subst e1;exact rv.inj rv2
      have eab:a=b:=by
        subst ev
        exact qN4 I hd hd2 o1 o2
      subst eab
      rw [qEg (by simp only [okD];exact o1)]
      exact SeqAt.EqAt.same _
    · exact SeqAt.EqAt.of_refs hpq rc
  | n,A,.lst _,_,v,w,u1,u2,hu,o1,_,h1,h2,r1,r2=>by cases n<;>simp [okD] at o1
  | n,A,.ty _,_,v,w,u1,u2,hu,o1,_,h1,h2,r1,r2=>by cases n<;>simp [okD] at o1
  | n,A,.dic _,_,v,w,u1,u2,hu,o1,_,h1,h2,r1,r2=>by cases n<;>simp [okD] at o1
  | n,A,.ins _,_,v,w,u1,u2,hu,o1,_,h1,h2,r1,r2=>by cases n<;>simp [okD] at o1
  | n,A,.exc _,_,v,w,u1,u2,hu,o1,_,h1,h2,r1,r2=>by cases n<;>simp [okD] at o1
  | n,A,.non,.lst _,v,w,u1,u2,hu,_,o1,h1,h2,r1,r2=>by cases n<;>simp [okD] at o1
  | n,A,.non,.ty _,v,w,u1,u2,hu,_,o1,h1,h2,r1,r2=>by cases n<;>simp [okD] at o1
  | n,A,.non,.dic _,v,w,u1,u2,hu,_,o1,h1,h2,r1,r2=>by cases n<;>simp [okD] at o1
  | n,A,.non,.ins _,v,w,u1,u2,hu,_,o1,h1,h2,r1,r2=>by cases n<;>simp [okD] at o1
  | n,A,.non,.exc _,v,w,u1,u2,hu,_,o1,h1,h2,r1,r2=>by cases n<;>simp [okD] at o1
  | n,A,.bl _,.lst _,v,w,u1,u2,hu,_,o1,h1,h2,r1,r2=>by cases n<;>simp [okD] at o1
  | n,A,.bl _,.ty _,v,w,u1,u2,hu,_,o1,h1,h2,r1,r2=>by cases n<;>simp [okD] at o1
  | n,A,.bl _,.dic _,v,w,u1,u2,hu,_,o1,h1,h2,r1,r2=>by cases n<;>simp [okD] at o1
  | n,A,.bl _,.ins _,v,w,u1,u2,hu,_,o1,h1,h2,r1,r2=>by cases n<;>simp [okD] at o1
  | n,A,.bl _,.exc _,v,w,u1,u2,hu,_,o1,h1,h2,r1,r2=>by cases n<;>simp [okD] at o1
  | n,A,.int _,.lst _,v,w,u1,u2,hu,_,o1,h1,h2,r1,r2=>by cases n<;>simp [okD] at o1
  | n,A,.int _,.ty _,v,w,u1,u2,hu,_,o1,h1,h2,r1,r2=>by cases n<;>simp [okD] at o1
  | n,A,.int _,.dic _,v,w,u1,u2,hu,_,o1,h1,h2,r1,r2=>by cases n<;>simp [okD] at o1
  | n,A,.int _,.ins _,v,w,u1,u2,hu,_,o1,h1,h2,r1,r2=>by cases n<;>simp [okD] at o1
  | n,A,.int _,.exc _,v,w,u1,u2,hu,_,o1,h1,h2,r1,r2=>by cases n<;>simp [okD] at o1
  | n,A,.str _,.lst _,v,w,u1,u2,hu,_,o1,h1,h2,r1,r2=>by cases n<;>simp [okD] at o1
  | n,A,.str _,.ty _,v,w,u1,u2,hu,_,o1,h1,h2,r1,r2=>by cases n<;>simp [okD] at o1
  | n,A,.str _,.dic _,v,w,u1,u2,hu,_,o1,h1,h2,r1,r2=>by cases n<;>simp [okD] at o1
  | n,A,.str _,.ins _,v,w,u1,u2,hu,_,o1,h1,h2,r1,r2=>by cases n<;>simp [okD] at o1
  | n,A,.str _,.exc _,v,w,u1,u2,hu,_,o1,h1,h2,r1,r2=>by cases n<;>simp [okD] at o1
  | n,A,.tup _,.lst _,v,w,u1,u2,hu,_,o1,h1,h2,r1,r2=>by cases n<;>simp [okD] at o1
  | n,A,.tup _,.ty _,v,w,u1,u2,hu,_,o1,h1,h2,r1,r2=>by cases n<;>simp [okD] at o1
  | n,A,.tup _,.dic _,v,w,u1,u2,hu,_,o1,h1,h2,r1,r2=>by cases n<;>simp [okD] at o1
  | n,A,.tup _,.ins _,v,w,u1,u2,hu,_,o1,h1,h2,r1,r2=>by cases n<;>simp [okD] at o1
  | n,A,.tup _,.exc _,v,w,u1,u2,hu,_,o1,h1,h2,r1,r2=>by cases n<;>simp [okD] at o1
end
end L3
namespace L3
open PySem PySem.Spec PyProof.Rows L2
noncomputable abbrev RD2:=Dt→Dt→Sto→VD→Prop
noncomputable abbrev RDL:=List Dt→Sto→VD→Prop
noncomputable def qKI (K:W.Frag) (r:RD2):R2:=fun v w H Q=>∃ φ st x y P,Rep K φ st H∧D K φ st.length H x v∧D K φ st.length H y w∧r x y st P ∧
  ∀ d st',P d st'→∀ φ' H' u,Bhd K φ st H φ' st' H'→D K φ' st'.length H' d u→Q u H'
noncomputable def qLH (K:W.Frag) (r:RDL):List V→Hp→VK→Prop:=fun vs H Q=>∃ φ st ds P,Rep K φ st H∧DL K φ st.length H ds vs∧r ds st P ∧
  ∀ d st',P d st'→∀ φ' H' u,Bhd K φ st H φ' st' H'→D K φ' st'.length H' d u→Q u H'
def OpD (X:Cx) (f:Value→Value→Sem Value) (r:RD2):Prop:=OpR X f (qKI X.K r)
def qDF (X:Cx) (f:Value) (r:RDL):Prop:=qDR X f (qLH X.K r)
def qD (i:Nat):TD:=fun ρ st P=>match ρ[i]? with
  | some (some d)=>P d st
  | _=>False
def qE (d:Dt):TD:=fun _ st P=>P d st
def qG (r:RD2) (ta tb:TD):TD:=fun ρ st P=>ta ρ st fun x st1=>tb ρ st1 fun y st2=>r x y st2 P
def qN (r:RDL) (t:TAD):TD:=fun ρ st P=>t ρ st fun ds st1=>r ds st1 P
section
variable {K:W.Frag} {r:RD2} {ta tb:TD} {σ:L2.St} {H:Hp} {Q:VK} {R:RDL} {t:TAD}
theorem qDN (h:qAz K (qG r ta tb) σ H Q):tOp (qKI K r) (qAz K ta) (qAz K tb) σ H Q:=by
  k_dat 0"r0"
  k_dat 0"r20"
  k_dat 0"r36"
  exact⟨φ2,st2,x,y,P,b2.1,dx.evo b2.2,dy,h2,fun d st' hp φ' H' u b3 du=>hq d st' hp φ' H' u (b1.trans (b2.trans b3)) du⟩
theorem qDZ (h:qAz K (qN R t) σ H Q):tCB (qLH K R) (qKn K t) σ H Q:=by
  k_dat 0"r0"
  refine⟨φ,st,ρ,_,pre,ht,fun ds st1 h1 φ1 H1 vs b1 dx=>?_⟩
  exact⟨φ1,st1,ds,P,b1.1,dx,h1,fun d st' hp φ' H' u b3 du=>hq d st' hp φ' H' u (b1.trans b3) du⟩
end
section
variable {X:Cx} {a b c e:Expr} {es:List Expr} {ta tb tc t:TD} {tas:TAD} {pos:Pos}
theorem qNk (i:Nat) {x:Str} (hN:X.N[i]? = some x:=by rfl) (hv:Vis X.env.scope x:=by first | exact Or.inl rfl | exact Or.inr (Or.inl rfl) | exact Or.inr (Or.inr rfl)) (hd:(x==("__debug__" : Str))=false:=by decide)
    (hcd:(x==("__classdict__" : Str))=false:=by decide):DE X (.Name x pos) (qD i):=(qNl hN hv hd hcd).imp fun σ H Q h=>by
  k_dat 0"r0"
  unfold qD at ht
  split at ht
  · rename_i d e
    obtain⟨v,e1,e2⟩:=pre.2.2 i d e
    exact⟨v,e1,hq d st ht φ H v (.refl pre.1) e2⟩
  · exact ht.elim
theorem qBy {d:Dt} {v:V} {K:W.Frag} (h:∀ φ N H,D K φ N H d v):∀ (σ:L2.St) H Q,qAz K (qE d) σ H Q→tC v σ H Q:=fun σ H Q h'=>by
  obtain⟨φ,st,ρ,P,pre,ht,hq⟩:=h'
  exact hq d st ht φ H v (.refl pre.1) (h _ _ _)
theorem qNT {i j pos}:DE X (.Constant (.int i) j pos) (qE (.int i)):=(qOV).imp (qBy fun _ _ _=>D.mkInt)
theorem qP5 {i j pos}:DE X (.Constant (.bool i) j pos) (qE (.bl i)):=(qPq).imp (qBy fun _ _ _=>D.qBX)
theorem qPB {j pos}:DE X (.Constant .none j pos) (qE .non):=(qOm).imp (qBy fun _ _ _=>D.qIf)
theorem qO3 {i j pos}:DE X (.Constant (.str i) j pos) (qE (.str i)):=(qGW).imp (qBy fun _ _ _=>D.mkStr)
theorem qJv {x:Str} {T:String} (hm:X.mg x=none) (hv:bootBuiltins x=some (.type T)) (hg:Gl X x:=by rfl) (hn:x ≠ "__name__":=by decide) (hd:(x==("__debug__" : Str))=false:=by decide):DE X (.Name x pos) (qE (.ty T)) :=
  (qIY (v:=.ty T) hg hm hv rfl hn hd).imp (qBy fun _ _ _=>D.qQE)
theorem qLR {x:Str} {d:Dt} {v:V} {u:Value} (hm:X.mg x=some u) (r:RelV v u) (hD:∀ φ N H,D X.K φ N H d v) (hg:Gl X x:=by rfl) (hd:(x==("__debug__" : Str))=false:=by decide):DE X (.Name x pos) (qE d) :=
  (qCc hg hm r hd).imp (qBy hD)
theorem qFT {op:Operator} {r:RD2} (ho:OpD X (binaryOp op) r) (ha:DE X a ta) (hb:DE X b tb):DE X (.BinOp a op b pos) (qG r ta tb):=(qPz ho ha hb).imp fun _ _ _=>qDN
theorem qEu {op:CmpOp} {r:RD2} (ho:OpD X (compareOp op) r) (ha:DE X a ta) (hb:DE X b tb) (hm:behindInMarks op b=false:=by first | exact qIC _ | with_unfolding_all rfl):DE X (.Compare a [op] [b] pos) (qG r ta tb):=(qMN ho ha hb hm).imp fun _ _ _=>qDN
def qK (t:TD):TBD:=fun ρ st P=>t ρ st fun x st1=>match x with
  | .bl k=>P k st1
  | _=>False
theorem qDa {K:W.Frag} {t:TD} {σ:L2.St} {H:Hp} {Q:Bool→Hp→Prop} (h:liftT K (qK t) σ H Q):qAz K t σ H fun x H'=>∃ k,x = .bl k∧Q k H':=by
  k_dat 0"r0"
  k_dat 0"r14"
  cases d with
  | bl k=>exact⟨k,dx.bl,hq k st1 h1 φ1 H1 b1⟩
  | _=>exact h1.elim
theorem qBs {op:CmpOp} {r:RD2} (ho:OpD X (compareOp op) r) (ha:DE X a ta) (hb:DE X b tb) (hm:behindInMarks op b=false:=by first | exact qIC _ | with_unfolding_all rfl):DT X (.Compare a [op] [b] pos) (qK (qG r ta tb)) :=
  (qMH ho ha hb hm).imp fun σ H Q h=>qDN (qDa h)
theorem qNK (h:DE X e t) (he:∀ whole,isTrue e X.env whole=(do let v ← whole;standAt e.pos;holding [v] (truthy v)):=by intro _;rfl):DT X e (qK t):=(qOJ h he).imp fun σ H Q h=>qDa h
def qCJ (t:TBD):TBD:=fun ρ st P=>t ρ st fun k st1=>P (!k) st1
theorem qNX {t:TBD} (h:DT X a t):DT X (.UnaryOp .Not a pos) (qCJ t):=(qNP h).imp fun σ H Q h=>by
  k_dat 0"r0"
  exact⟨φ,st,ρ,_,pre,ht,fun k st1 h1 φ1 H1 b1=>hq _ st1 h1 φ1 H1 b1⟩
def DW (X:Cx) (e:Expr) (t:TBD):Prop:=PW X e (liftT X.K t)
theorem PW.imp {X:Cx} {e:Expr} {t t':TT} (h:PW X e t) (i:∀ σ H Q,t' σ H Q→t σ H Q):PW X e t':=fun wh pins s σ H Q I q=>h wh pins s σ H Q I (i σ H Q q)
def qAD (t u:TBD):TBD:=fun ρ st P=>t ρ st fun k st1=>if k=true then u ρ st1 P else P false st1
def qBN (t u:TBD):TBD:=fun ρ st P=>t ρ st fun k st1=>if k=true then P true st1 else u ρ st1 P
variable {tA tB':TBD} {rest:List Expr}
theorem qLh (h:DT X a tA):DW X (.BoolOp .And [a] pos) tA:=qL0 h
theorem qOI (h:DT X a tA):DW X (.BoolOp .Or [a] pos) tA:=qOa h
theorem qKO (ha:DT X a tA) (hb:DW X (.BoolOp .And (b::rest) pos) tB'):DW X (.BoolOp .And (a::b::rest) pos) (qAD tA tB'):=PW.imp (qNN ha hb) fun σ H Q h=>by
  k_dat 0"r0"
  k_dat 0"r23"
  cases k with
  | true =>
    rw [if_pos rfl] at h1 ⊢
    k_dat 0"r44"
  | false =>
    rw [if_neg Bool.false_ne_true] at h1 ⊢
    exact hq false st1 h1 φ1 H1 b1
theorem qNC (ha:DT X a tA) (hb:DW X (.BoolOp .Or (b::rest) pos) tB'):DW X (.BoolOp .Or (a::b::rest) pos) (qBN tA tB'):=PW.imp (qPr ha hb) fun σ H Q h=>by
  k_dat 0"r0"
  k_dat 0"r23"
  cases k with
  | false =>
    rw [if_neg Bool.false_ne_true] at h1 ⊢
    k_dat 0"r44"
  | true =>
    rw [if_pos rfl] at h1 ⊢
    exact hq true st1 h1 φ1 H1 b1
theorem qNA {tA:TBD} (h:DW X e tA):DT X e tA:=h _
def qB2 (t u:TD):TD:=fun ρ st P=>t ρ st fun x st1=>match x with
  | .bl k=>if k=true then u ρ st1 P else P (.bl false) st1
  | _=>False
def qM7 (t:TD):TD:=fun ρ st P=>t ρ st fun x st1=>match x with
  | .bl k=>P (.bl (!k)) st1
  | _=>False
theorem qNw {op} (h:DE X a t):DE X (.BoolOp op [a] pos) t:=qOP h
theorem qPV (ha:DE X a ta) (hb:DE X (.BoolOp .And (b::rest) pos) tb):DE X (.BoolOp .And (a::b::rest) pos) (qB2 ta tb):=(qOp ha hb).imp fun σ H Q h=>by
  k_dat 0"r0"
  k_dat 0"r14"
  cases d with
  | bl k =>
    refine⟨k,dx.bl,?_⟩
    cases k with
    | true=>exact qBA ⟨φ1,st1,ρ,P,pre.on b1,h1,fun k st2 h2 φ2 H2 v2 b2=>hq k st2 h2 φ2 H2 v2 (b1.trans b2)⟩
    | false=>exact qBB (hq _ st1 h1 φ1 H1 _ b1 D.qBX)
  | _=>exact h1.elim
theorem qNf (ha:DE X a ta):DE X (.UnaryOp .Not a pos) (qM7 ta):=(qOH ha).imp fun σ H Q h=>by
  k_dat 0"r0"
  k_dat 0"r14"
  cases d with
  | bl k=>exact⟨k,dx.bl,hq _ st1 h1 φ1 H1 _ b1 D.qBX⟩
  | _=>exact h1.elim
def qC1 (c:TBD) (t u:TD):TD:=fun ρ st P=>c ρ st fun k st1=>if k=true then t ρ st1 P else u ρ st1 P
theorem qPp {tC:TBD} (hc:DT X c tC) (ha:DE X a ta) (hb:DE X b tb):DE X (.IfExp c a b pos) (qC1 tC ta tb):=(qK6 hc ha hb).imp fun σ H Q h=>by
  k_dat 0"r0"
  k_dat 0"r23"
  cases k with
  | true=>exact qBA ⟨φ1,st1,ρ,P,pre.on b1,(by rw [if_pos rfl] at h1;exact h1),fun k st2 h2 φ2 H2 v2 b2=>hq k st2 h2 φ2 H2 v2 (b1.trans b2)⟩
  | false=>exact qBB ⟨φ1,st1,ρ,P,pre.on b1,(by rw [if_neg Bool.false_ne_true] at h1;exact h1),fun k st2 h2 φ2 H2 v2 b2=>hq k st2 h2 φ2 H2 v2 (b1.trans b2)⟩
def qGf (p q:Int→Int→Bool) (ta tb tc:TD):TD:=fun ρ st P=>ta ρ st fun x st1=>tb ρ st1 fun y st2=>match x,y with
  | .int i,.int j=>if p i j=true then tc ρ st2 fun z st3=>(match z with
      | .int k=>P (.bl (q j k)) st3
      | _=>False) else P (.bl false) st2
  | _,_=>False
theorem qHl {K:W.Frag} {p q:Int→Int→Bool} {σ:L2.St} {H:Hp} {Q:VK} (h:qAz K (qGf p q ta tb tc) σ H Q) :
    qJu (rI0 fun i j=>.bl (p i j)) (rI0 fun i j=>.bl (q i j)) (qAz K ta) (qAz K tb) (qAz K tc) σ H Q:=by
  k_dat 0"r0"
  k_dat 0"r20"
  k_dat 0"r36"
  cases x with
  | int i =>
    cases y with
    | int j =>
      refine⟨i,j,dx.int,dy.int,p i j,rfl,?_⟩
      have h2':if p i j=true then tc ρ st2 fun z st3=>(match z with
        | .int k=>P (.bl (q j k)) st3
        | _=>False) else P (.bl false) st2:=h2
      cases hp:p i j with
      | true =>
        rw [hp,if_pos rfl] at h2'
        refine qBA ⟨φ2,st2,ρ,_,(pre.on b1).on b2,h2',fun z st3 h3 φ3 H3 w3 b3 dz=>?_⟩
        cases z with
        | int k=>exact⟨j,k,dy.int,dz.int,hq _ st3 h3 φ3 H3 _ (b1.trans (b2.trans b3)) D.qBX⟩
        | _=>exact h3.elim
      | false =>
        rw [hp,if_neg Bool.false_ne_true] at h2'
        exact qBB (hq _ st2 h2' φ2 H2 _ (b1.trans b2) D.qBX)
    | _=>exact h2.elim
  | _=>cases y<;>exact h2.elim
theorem qKr {op op':CmpOp} {p q:Int→Int→Bool} (ho:OpR X (compareOp op) (rI0 fun i j=>.bl (p i j))) (ho':OpR X (compareOp op') (rI0 fun i j=>.bl (q i j))) (ha:DE X a ta) (hb:DE X b tb) (hc:DE X c tc)
    (hm:lastMarks [op,op'] [b,c]=false:=by with_unfolding_all rfl):DE X (.Compare a [op,op'] [b,c] pos) (qGf p q ta tb tc):=(qKo ho ho' ha hb hc hm).imp fun σ H Q h=>qHl h
noncomputable def qH:TAD:=fun _ st P=>P [] st
noncomputable def qB (t:TD) (u:TAD):TAD:=fun ρ st P=>t ρ st fun x st1=>u ρ st1 fun xs st2=>P (x::xs) st2
theorem qHp:DA X [] qH:=(qGI).imp fun σ H Q h=>by
  k_dat 0"r0"
  exact hq [] st ht φ H [] (.refl pre.1) .nil
theorem qF0 (ha:DE X e t) (hr:DA X es tas) (hs:starEach (e::es) X.env=(false,eval e X.env)::starEach es X.env:=by rfl):DA X (e::es) (qB t tas):=(qCg ha hr hs).imp fun σ H Q h=>by
  k_dat 0"r0"
  k_dat 0"r20"
  refine⟨φ1,st1,ρ,_,pre.on b1,h1,fun xs st2 h2 φ2 H2 vs b2 dxs=>?_⟩
  exact hq _ st2 h2 φ2 H2 _ (b1.trans b2) (.cons (dx.evo b2.2) dxs)
def qv (t:TAD):TD:=fun ρ st P=>t ρ st fun ds st1=>ds.length≤sizeLine∧P (.tup ds) st1
def qAQ (t:TAD):TD:=fun ρ st P=>t ρ st fun ds st1=>ds.length≤sizeLine∧P (.lst st1.length) (st1++[.rw ds])
theorem qCf {K:W.Frag} {φ:Nat→Addr} {st:Sto} {H:Hp} {p:Addr} {o:HO} (R:Rep K φ st H) (hp:H p=none):Bhd K φ st H φ st (upd H p o):=⟨R.laid hp,qBS hp⟩
theorem qCj {K:W.Frag} {φ:Nat→Addr} {st:Sto} {H:Hp} {p:Addr} {ds:List Dt} {vs:List V} (R:Rep K φ st H) (hp:H p=none) (hd:DL K φ st.length H ds vs) :
    Bhd K φ st H (qBF φ st.length p) (st++[.rw ds]) (upd H p (.lst vs)):=⟨R.newL hp hd,qLX hp⟩
theorem qFi {K:W.Frag} {φ:Nat→Addr} {st:Sto} {H:Hp} {p:Addr} {ds:List Dt} {vs:List V}:D K (qBF φ st.length p) (st++[SO.rw ds]).length (upd H p (.lst vs)) (.lst st.length) (.ref p):=by
  have:=D.qM8 (K:=K) (φ:=qBF φ st.length p) (H:=upd H p (.lst vs)) (n:=st.length) (N:=(st++[SO.rw ds]).length) (by simp) (by rw [qDb];exact⟨vs,SqL.of qAF⟩)
  rw [qDb] at this
  exact this
theorem qN1 {x1} (h:DA X es tas):DE X (.Tuple es x1 pos) (qv tas):=(qK7 h).imp fun σ H Q h=>by
  k_dat 0"r0"
  k_dat 0"r45"
  exact hq _ st1 h1.2 φ1 _ _ (b1.trans (qCf b1.1 hp)) (.qCs (SqT.of qAF) (dx.evo (qBS hp)))
theorem qN8 (h:DA X es tas):DE X (.List es pos) (qAQ tas):=(qPR h).imp fun σ H Q h=>by
  k_dat 0"r0"
  k_dat 0"r45"
  exact hq _ _ h1.2 _ _ _ (b1.trans (qCj b1.1 hp dx)) qFi
end
end L3
namespace L3
open PySem PySem.Spec PyProof.Rows L2
def qB0:RD2:=fun x y st P=>match x,y with
  | .int i,.int j=>P (.int (i+j)) st
  | .str i,.str j=>i.length+j.length≤sizeLine∧P (.str (i++j)) st
  | .tup i,.tup j=>i.length+j.length≤sizeLine∧P (.tup (i++j)) st
  | .lst n,.lst m=>match st[n]?,st[m]? with
    | some (.rw xs),some (.rw ys)=>xs.length+ys.length≤sizeLine∧P (.lst st.length) (st++[.rw (xs++ys)])
    | _,_=>False
  | _,_=>False
def qGp:RD2:=fun x y st P=>match x,y with
  | .int i,.int j=>P (.int (i - j)) st
  | _,_=>False
def qDy:RD2:=fun x y st P=>match x,y with
  | .int i,.int j=>qHJ i j∧P (.int (i * j)) st
  | .tup xs,.int k=>xs≠[]∧2≤k∧k<2 ^ 20∧xs.length * k.toNat≤sizeLine∧P (.tup (List.replicate k.toNat xs).flatten) st
  | .lst n,.int k=>match st[n]? with
    | some (.rw xs)=>0≤k∧k<2 ^ 20∧xs.length * k.toNat≤sizeLine∧P (.lst st.length) (st++[.rw (List.replicate k.toNat xs).flatten])
    | _=>False
  | _,_=>False
def qB7:RD2:=fun x y st P=>match x,y with
  | .int i,.int j=>qQB i j∧P (.int (i / j)) st
  | _,_=>False
def qAP:RD2:=fun x y st P=>match x,y with
  | .int i,.int j=>0<j∧P (.int (i%j)) st
  | _,_=>False
def qAN (p:Int→Int→Bool):RD2:=fun x y st P=>match x,y with
  | .int i,.int j=>P (.bl (p i j)) st
  | _,_=>False
def qW (neg:Bool):RD2:=fun x y st P=>match x,y with
  | .lst n,.lst m=>match st[n]?,st[m]? with
    | some a,some b=>a.items.all (okD 8)=true∧b.items.all (okD 8)=true∧P (.bl (eqL (eqD 8) a.items b.items != neg)) st
    | _,_=>False
  | x,y=>okD 8 x=true∧okD 8 y=true∧P (.bl (eqD 8 x y != neg)) st
def qCA (neg:Bool):RD2:=fun x y st P=>match x,y with
  | .bl a,.bl b=>P (.bl ((a==b) != neg)) st
  | .non,.non=>P (.bl (true != neg)) st
  | .bl _,.non=>P (.bl (false != neg)) st
  | .int _,.non=>P (.bl (false != neg)) st
  | .str _,.non=>P (.bl (false != neg)) st
  | .tup _,.non=>P (.bl (false != neg)) st
  | .lst _,.non=>P (.bl (false != neg)) st
  | .exc _,.non=>P (.bl (false != neg)) st
  | _,_=>False
noncomputable def qo (st:Sto):Dt→Option (List Dt)
  | .tup xs=>some xs
  | .lst n=>(st[n]?).map SO.items
  | _=>none
def qAd (neg:Bool):RD2:=fun x y st P=>match x,y with
  | .str i,.str j=>P (.bl ((!(Builtin.Str.occurrences j i 0 j.length 1).isEmpty) != neg)) st
  | x,y=>match qo st y with
    | some xs=>okD 0 x=true∧xs.all (okD 0)=true∧P (.bl (xs.any (fun z=>eqD 0 z x) != neg)) st
    | none=>False
section
variable {X:Cx} {K:W.Frag} {φ:Nat→Addr} {st:Sto} {H:Hp} {P:VD} {Q:VK} {d:Dt} {v:V}
abbrev Go (K:W.Frag) (φ:Nat→Addr) (st:Sto) (H:Hp) (P:VD) (Q:VK):Prop:=∀ d st',P d st'→∀ φ' H' u,Bhd K φ st H φ' st' H'→D K φ' st'.length H' d u→Q u H'
theorem Go.here (g:Go K φ st H P Q) (R:Rep K φ st H) (hp:P d st) (hd:D K φ st.length H d v):Q v H:=g d st hp φ H v (.refl R) hd
theorem qNe:OpD X (binaryOp .Add) qB0:=by
  k_dat 0"r5"
  k_dat 0"r3"
  cases x with
  | int i =>
    cases y with
    | int j=>exact qOn pins s σ H v w u1 u2 Q I r1 r2 ⟨i,j,dx.int,dy.int,Go.here hq R hr D.mkInt⟩
    | _=>exact hr.elim
  | str i =>
    cases y with
    | str j=>exact qH7 pins s σ H v w u1 u2 Q I r1 r2 ⟨i,j,dx.str,dy.str,hr.1,Go.here hq R hr.2 D.mkStr⟩
    | _=>exact hr.elim
  | tup i =>
    cases y with
    | tup j =>
      obtain⟨a,vs,e1,s1,d1⟩:=dx.tup
      obtain⟨b,ws,e2,s2,d2⟩:=dy.tup
      have l1:=d1.length
      have l2:=d2.length
      have hr1:i.length+j.length≤sizeLine:=hr.1
      have hr2:P (.tup (i++j)) st:=hr.2
      refine qLq pins s σ H v w u1 u2 Q I r1 r2 ⟨a,b,vs,ws,e1,e2,s1,s2,by omega,fun z=>?_,fun z1 z2=>?_,fun z1 z2 p hp=>?_⟩
      · rw [z] at l1
        have:i=[]:=List.length_eq_zero_iff.mp l1
        rw [this,List.nil_append] at hr2
        exact Go.here hq R hr2 (.qCs s2 d2)
      · rw [z2] at l2
        have:j=[]:=List.length_eq_zero_iff.mp l2
        rw [this,List.append_nil] at hr2
        exact Go.here hq R hr2 (.qCs s1 d1)
      · exact hq _ st hr2 φ _ _ (qCf R hp) (.qCs (SqT.of qAF) ((d1.append d2).evo (qBS hp)))
    | _=>exact hr.elim
  | lst n =>
    cases y with
    | lst m =>
      have hr':match st[n]?,st[m]? with
        | some (.rw xs),some (.rw ys)=>xs.length+ys.length≤sizeLine∧P (.lst st.length) (st++[.rw (xs++ys)])
        | _,_=>False:=hr
      split at hr'
      · rename_i xs ys e1 e2
        obtain⟨vs,h1,d1⟩:=R.rw n xs e1
        obtain⟨ws,h2,d2⟩:=R.rw m ys e2
        have l1:=d1.length
        have l2:=d2.length
        have z:=hr'.1
        exact qO9 pins s σ H v w u1 u2 Q I r1 r2 ⟨φ n,φ m,vs,ws,dx.lst.2,dy.lst.2,h1,h2,by omega,fun p hp=>hq _ _ hr'.2 _ _ _ (qCj R hp (d1.append d2)) qFi⟩
      · exact hr'.elim
    | _=>exact hr.elim
  | _=>cases y<;>exact hr.elim
theorem qPQ:OpD X (binaryOp .Sub) qGp:=by
  k_dat 0"r5"
  k_dat 0"r3"
  cases x with
  | int i =>
    cases y with
    | int j=>exact qNi pins s σ H v w u1 u2 Q I r1 r2 ⟨i,j,dx.int,dy.int,Go.here hq R hr D.mkInt⟩
    | _=>exact hr.elim
  | _=>cases y<;>exact hr.elim
theorem qNR:OpD X (binaryOp .Mult) qDy:=by
  k_dat 0"r5"
  k_dat 0"r3"
  cases x with
  | int i =>
    cases y with
    | int j=>exact qPP pins s σ H v w u1 u2 Q I r1 r2 ⟨i,j,dx.int,dy.int,hr.1,Go.here hq R hr.2 D.mkInt⟩
    | _=>exact hr.elim
  | tup xs =>
    cases y with
    | int k =>
      obtain⟨a,vs,e1,s1,d1⟩:=dx.tup
      obtain⟨h1,h2,h3,h4,h5⟩:xs≠[]∧2≤k∧k<2 ^ 20∧xs.length * k.toNat≤sizeLine∧P (.tup (List.replicate k.toNat xs).flatten) st:=hr
      have rep:∀ m:Nat,DL X.K φ st.length H (List.replicate m xs).flatten (List.replicate m vs).flatten:=fun m=>by
        induction m with
        | zero=>exact .nil
        | succ m ih=>rw [List.replicate_succ,List.replicate_succ,List.flatten_cons,List.flatten_cons];exact d1.append ih
      refine qMl pins s σ H v w u1 u2 Q I r1 r2 ⟨a,k,vs,e1,dy.int,s1,fun z=>?_,h2,h3,by rw [← d1.length];exact h4,fun p hp=>?_⟩
      · have:=d1.length
        rw [z] at this
        exact h1 (List.length_eq_zero_iff.mp this)
      · exact hq _ st h5 φ _ _ (qCf R hp) (.qCs (SqT.of qAF) ((rep _).evo (qBS hp)))
    | _=>exact hr.elim
  | lst n =>
    cases y with
    | int k =>
      have hr':match st[n]? with
        | some (.rw xs)=>0≤k∧k<2 ^ 20∧xs.length * k.toNat≤sizeLine∧P (.lst st.length) (st++[.rw (List.replicate k.toNat xs).flatten])
        | _=>False:=hr
      split at hr'
      · rename_i xs e1
        obtain⟨vs,h1,d1⟩:=R.rw n xs e1
        obtain⟨g1,g2,g3,g4⟩:=hr'
        have rep:∀ m:Nat,DL X.K φ st.length H (List.replicate m xs).flatten (List.replicate m vs).flatten:=fun m=>by
          induction m with
          | zero=>exact .nil
          | succ m ih=>rw [List.replicate_succ,List.replicate_succ,List.flatten_cons,List.flatten_cons];exact d1.append ih
        exact qOC pins s σ H v w u1 u2 Q I r1 r2 ⟨φ n,k,vs,dx.lst.2,dy.int,h1,by omega,by omega,by rw [← d1.length];exact g3,fun p hp=>hq _ _ g4 _ _ _ (qCj R hp (rep _)) qFi⟩
      · exact hr'.elim
    | _=>exact hr.elim
  | _=>cases y<;>exact hr.elim
theorem qOO:OpD X (binaryOp .FloorDiv) qB7:=by
  k_dat 0"r5"
  k_dat 0"r3"
  cases x with
  | int i =>
    cases y with
    | int j=>exact qLT pins s σ H v w u1 u2 Q I r1 r2 ⟨i,j,dx.int,dy.int,hr.1,Go.here hq R hr.2 D.mkInt⟩
    | _=>exact hr.elim
  | _=>cases y<;>exact hr.elim
theorem qOK:OpD X (binaryOp .Mod) qAP:=by
  k_dat 0"r5"
  k_dat 0"r3"
  cases x with
  | int i =>
    cases y with
    | int j=>exact qN6 pins s σ H v w u1 u2 Q I r1 r2 ⟨i,j,dx.int,dy.int,hr.1,Go.here hq R hr.2 D.mkInt⟩
    | _=>exact hr.elim
  | _=>cases y<;>exact hr.elim
theorem qGX {op:CmpOp} {p:Int→Int→Bool} (ho:OpR X (compareOp op) (rI0 fun i j=>.bl (p i j))):OpD X (compareOp op) (qAN p):=by
  k_dat 0"r5"
  k_dat 0"r3"
  cases x with
  | int i =>
    cases y with
    | int j=>exact ho pins s σ H v w u1 u2 Q I r1 r2 ⟨i,j,dx.int,dy.int,Go.here hq R hr D.qBX⟩
    | _=>exact hr.elim
  | _=>cases y<;>exact hr.elim
theorem qNG:OpD X (compareOp .Lt) (qAN fun i j=>decide (i<j)):=qGX qNE
theorem qMq:OpD X (compareOp .Gt) (qAN fun i j=>decide (j<i)):=qGX qQX
theorem qMt:OpD X (compareOp .GtE) (qAN fun i j=>decide (j≤i)):=qGX qP1
theorem qAr (k:Bool):(k != false)=k:=by cases k<;>rfl
theorem qB3 (k:Bool):(k != true) = !k:=by cases k<;>rfl
theorem qBM {pins:List (Addr×Obj)} {σ:L2.St} {s:Shared} (I:Inv X pins σ H s) (g:Go X.K φ st H P Q) (R:Rep X.K φ st H) {k k':Bool} (hp:P (.bl k) st) (e:k=k'):EP X pins σ Q (.bool k') s:=by
  subst e
  exact⟨.bl k,H,I,rfl,Go.here g R hp D.qBX⟩
end
section
variable {X:Cx} {pins:List (Addr×Obj)} {σ:L2.St} {H:Hp} {s:Shared} {φ:Nat→Addr} {N:Nat}
theorem qIS (I:Inv X pins σ H s) {n:Nat} {A:Around} {a b:List Dt} {vs ws:List V} {its its2:List Value} (hu:A.units+n+1<cLine) (hd:DL X.K φ N H a vs) (hd2:DL X.K φ N H b ws) (rv:Vals vs its) (rv2:Vals ws its2)
    (o1:a.all (okD n)=true) (o2:b.all (okD n)=true) {j:Nat} (h1:j<its.toArray.size) (h2:j<its2.toArray.size):SeqAt.EqAt A.in1 s its.toArray[j] its2.toArray[j] (eqD n (a.getD j .non) (b.getD j .non)):=by
  k_dat 0"r28"
  k_dat 0"r29"
  have hj1:j<a.length:=by rw [← l1];exact h1
  have hj2:j<b.length:=by rw [← l2];exact h2
  have ea:a[j]? = some a[j]:=by simp [hj1]
  have eb:b[j]? = some b[j]:=by simp [hj2]
  obtain⟨x,ex,dx⟩:=hd.get ea
  obtain⟨y,ey,dy⟩:=hd2.get eb
  obtain⟨ux,eux,rx⟩:=rv.get ex
  obtain⟨uy,euy,ry⟩:=rv2.get ey
  have gx:its.toArray[j]=ux:=by
    have:its[j]? = some its[j]:=by simp at h1;simp [h1]
    rw [eux] at this
    k_dat 0"r30"
  have gy:its2.toArray[j]=uy:=by
    have:its2[j]? = some its2[j]:=by simp at h2;simp [h2]
    rw [euy] at this
    k_dat 0"r30"
  rw [gx,gy,qEM ea,qEM eb]
  exact qHr I n (by show A.units+1+n<cLine;omega) (List.all_eq_true.mp o1 _ (List.getElem_mem hj1)) (List.all_eq_true.mp o2 _ (List.getElem_mem hj2)) dx dy rx ry
theorem qPS (I:Inv X pins σ H s) (n:Nat) {A:Around}:∀ {d e:Dt} {v w:V} {u1 u2:Value},A.units+n+1<cLine→okD (n+1) d=true→okD (n+1) e=true→D X.K φ N H d v→D X.K φ N H e w→RelV v u1→RelV w u2→SeqAt.RcAt A s u1 u2 (eqD (n+1) d e)
  | .non,.non,v,w,u1,u2,hu,_,_,h1,h2,r1,r2=>by cases h1.non;cases h2.non;cases r1;cases r2;exact SeqAt.RcAt.none_none
  | .non,.bl b,v,w,u1,u2,hu,_,_,h1,h2,r1,r2=>by cases h1.non;cases h2.bl;cases r1;cases r2;exact SeqAt.RcAt.none_bool b
  | .non,.int b,v,w,u1,u2,hu,_,_,h1,h2,r1,r2=>by cases h1.non;cases h2.int;cases r1;obtain⟨t',rfl⟩:=r2;exact SeqAt.RcAt.none_int b t'
  | .non,.str b,v,w,u1,u2,hu,_,_,h1,h2,r1,r2=>by cases h1.non;cases h2.str;cases r1;obtain⟨t',rfl⟩:=r2;exact SeqAt.RcAt.none_str b t'
  | .bl a,.non,v,w,u1,u2,hu,_,_,h1,h2,r1,r2=>by cases h1.bl;cases h2.non;cases r1;cases r2;exact SeqAt.RcAt.bool_none a
  | .bl a,.bl b,v,w,u1,u2,hu,_,_,h1,h2,r1,r2=>by cases h1.bl;cases h2.bl;cases r1;cases r2;exact SeqAt.RcAt.bool_bool a b
  | .bl a,.int b,v,w,u1,u2,hu,_,_,h1,h2,r1,r2=>by cases h1.bl;cases h2.int;cases r1;obtain⟨t',rfl⟩:=r2;exact SeqAt.RcAt.bool_int a b t'
  | .bl a,.str b,v,w,u1,u2,hu,_,_,h1,h2,r1,r2=>by cases h1.bl;cases h2.str;cases r1;obtain⟨t',rfl⟩:=r2;exact SeqAt.RcAt.bool_str a b t'
  | .int a,.non,v,w,u1,u2,hu,_,_,h1,h2,r1,r2=>by cases h1.int;cases h2.non;obtain⟨t,rfl⟩:=r1;cases r2;exact SeqAt.RcAt.int_none a t
  | .int a,.bl b,v,w,u1,u2,hu,_,_,h1,h2,r1,r2=>by cases h1.int;cases h2.bl;obtain⟨t,rfl⟩:=r1;cases r2;exact SeqAt.RcAt.int_bool a t b
  | .int a,.int b,v,w,u1,u2,hu,_,_,h1,h2,r1,r2=>by cases h1.int;cases h2.int;obtain⟨t,rfl⟩:=r1;obtain⟨t',rfl⟩:=r2;exact SeqAt.RcAt.int_int a t b t'
  | .int a,.str b,v,w,u1,u2,hu,_,_,h1,h2,r1,r2=>by cases h1.int;cases h2.str;obtain⟨t,rfl⟩:=r1;obtain⟨t',rfl⟩:=r2;exact SeqAt.RcAt.int_str a t b t'
  | .str a,.non,v,w,u1,u2,hu,_,_,h1,h2,r1,r2=>by cases h1.str;cases h2.non;obtain⟨t,rfl⟩:=r1;cases r2;exact SeqAt.RcAt.str_none a t
  | .str a,.bl b,v,w,u1,u2,hu,_,_,h1,h2,r1,r2=>by cases h1.str;cases h2.bl;obtain⟨t,rfl⟩:=r1;cases r2;exact SeqAt.RcAt.str_bool a t b
  | .str a,.int b,v,w,u1,u2,hu,_,_,h1,h2,r1,r2=>by cases h1.str;cases h2.int;obtain⟨t,rfl⟩:=r1;obtain⟨t',rfl⟩:=r2;exact SeqAt.RcAt.str_int a t b t'
  | .str a,.str b,v,w,u1,u2,hu,_,_,h1,h2,r1,r2=>by cases h1.str;cases h2.str;obtain⟨t,rfl⟩:=r1;obtain⟨t',rfl⟩:=r2;exact SeqAt.RcAt.str_str a t b t'
  | .tup a,.non,v,w,u1,u2,hu,_,_,h1,h2,r1,r2=>by
    obtain⟨p,vs,rfl,hs,hd⟩:=h1.tup;cases h2.non;cases r1;cases r2;obtain⟨its,_,ht,_⟩:=I.tuple hs;exact SeqAt.RcAt.tuple_none ht (by omega)
  | .non,.tup a,v,w,u1,u2,hu,_,_,h1,h2,r1,r2=>by
    obtain⟨p,vs,rfl,hs,hd⟩:=h2.tup;cases h1.non;cases r2;cases r1;obtain⟨its,_,ht,_⟩:=I.tuple hs;exact SeqAt.RcAt.none_tuple ht (by omega)
  | .tup a,.bl b,v,w,u1,u2,hu,_,_,h1,h2,r1,r2=>by
    obtain⟨p,vs,rfl,hs,hd⟩:=h1.tup;cases h2.bl;cases r1;cases r2;obtain⟨its,_,ht,_⟩:=I.tuple hs;exact SeqAt.RcAt.tuple_bool b ht (by omega)
  | .bl b,.tup a,v,w,u1,u2,hu,_,_,h1,h2,r1,r2=>by
    obtain⟨p,vs,rfl,hs,hd⟩:=h2.tup;cases h1.bl;cases r2;cases r1;obtain⟨its,_,ht,_⟩:=I.tuple hs;exact SeqAt.RcAt.bool_tuple b ht (by omega)
  | .tup a,.int b,v,w,u1,u2,hu,_,_,h1,h2,r1,r2=>by
    obtain⟨p,vs,rfl,hs,hd⟩:=h1.tup;cases h2.int;cases r1;obtain⟨t',rfl⟩:=r2;obtain⟨its,_,ht,_⟩:=I.tuple hs;exact SeqAt.RcAt.tuple_int b t' ht (by omega)
  | .int b,.tup a,v,w,u1,u2,hu,_,_,h1,h2,r1,r2=>by
    obtain⟨p,vs,rfl,hs,hd⟩:=h2.tup;cases h1.int;cases r2;obtain⟨t',rfl⟩:=r1;obtain⟨its,_,ht,_⟩:=I.tuple hs;exact SeqAt.RcAt.int_tuple b t' ht (by omega)
  | .tup a,.str b,v,w,u1,u2,hu,_,_,h1,h2,r1,r2=>by
    obtain⟨p,vs,rfl,hs,hd⟩:=h1.tup;cases h2.str;cases r1;obtain⟨t',rfl⟩:=r2;obtain⟨its,_,ht,_⟩:=I.tuple hs;exact SeqAt.RcAt.tuple_str b t' ht (by omega)
  | .str b,.tup a,v,w,u1,u2,hu,_,_,h1,h2,r1,r2=>by
    obtain⟨p,vs,rfl,hs,hd⟩:=h2.tup;cases h1.str;cases r2;obtain⟨t',rfl⟩:=r1;obtain⟨its,_,ht,_⟩:=I.tuple hs;exact SeqAt.RcAt.str_tuple b t' ht (by omega)
  | .tup a,.tup b,v,w,u1,u2,hu,o1,o2,h1,h2,r1,r2=>by
    simp only [okD] at o1 o2
    obtain⟨p,vs,rfl,hs,hd⟩:=h1.tup
    obtain⟨q,ws,rfl,hs2,hd2⟩:=h2.tup
    cases r1;cases r2
    obtain⟨its,rv,ht,_⟩:=I.tuple hs
    obtain⟨its2,rv2,ht2,_⟩:=I.tuple hs2
    k_dat 0"r28"
    k_dat 0"r29"
    have:=SeqAt.RcAt.tuples (A:=A) (s:=s) (e:=fun j=>eqD n (a.getD j .non) (b.getD j .non)) ht ht2 (by omega) (fun j h1 h2=>qIS I hu hd hd2 rv rv2 o1 o2 h1 h2)
    rw [l1,l2] at this
    simp only [eqD]
    rw [qBV]
    exact this
  | .lst _,_,v,w,u1,u2,hu,o1,_,h1,h2,r1,r2=>by simp [okD] at o1
  | .non,.lst _,v,w,u1,u2,hu,_,o1,h1,h2,r1,r2=>by simp [okD] at o1
  | .bl _,.lst _,v,w,u1,u2,hu,_,o1,h1,h2,r1,r2=>by simp [okD] at o1
  | .int _,.lst _,v,w,u1,u2,hu,_,o1,h1,h2,r1,r2=>by simp [okD] at o1
  | .str _,.lst _,v,w,u1,u2,hu,_,o1,h1,h2,r1,r2=>by simp [okD] at o1
  | .tup _,.lst _,v,w,u1,u2,hu,_,o1,h1,h2,r1,r2=>by simp [okD] at o1
  | .ty _,_,v,w,u1,u2,hu,o1,_,h1,h2,r1,r2=>by simp [okD] at o1
  | .dic _,_,v,w,u1,u2,hu,o1,_,h1,h2,r1,r2=>by simp [okD] at o1
  | .ins _,_,v,w,u1,u2,hu,o1,_,h1,h2,r1,r2=>by simp [okD] at o1
  | .exc _,_,v,w,u1,u2,hu,o1,_,h1,h2,r1,r2=>by simp [okD] at o1
  | .non,.ty _,v,w,u1,u2,hu,_,o1,h1,h2,r1,r2=>by simp [okD] at o1
  | .non,.dic _,v,w,u1,u2,hu,_,o1,h1,h2,r1,r2=>by simp [okD] at o1
  | .non,.ins _,v,w,u1,u2,hu,_,o1,h1,h2,r1,r2=>by simp [okD] at o1
  | .non,.exc _,v,w,u1,u2,hu,_,o1,h1,h2,r1,r2=>by simp [okD] at o1
  | .bl _,.ty _,v,w,u1,u2,hu,_,o1,h1,h2,r1,r2=>by simp [okD] at o1
  | .bl _,.dic _,v,w,u1,u2,hu,_,o1,h1,h2,r1,r2=>by simp [okD] at o1
  | .bl _,.ins _,v,w,u1,u2,hu,_,o1,h1,h2,r1,r2=>by simp [okD] at o1
  | .bl _,.exc _,v,w,u1,u2,hu,_,o1,h1,h2,r1,r2=>by simp [okD] at o1
  | .int _,.ty _,v,w,u1,u2,hu,_,o1,h1,h2,r1,r2=>by simp [okD] at o1
  | .int _,.dic _,v,w,u1,u2,hu,_,o1,h1,h2,r1,r2=>by simp [okD] at o1
  | .int _,.ins _,v,w,u1,u2,hu,_,o1,h1,h2,r1,r2=>by simp [okD] at o1
  | .int _,.exc _,v,w,u1,u2,hu,_,o1,h1,h2,r1,r2=>by simp [okD] at o1
  | .str _,.ty _,v,w,u1,u2,hu,_,o1,h1,h2,r1,r2=>by simp [okD] at o1
  | .str _,.dic _,v,w,u1,u2,hu,_,o1,h1,h2,r1,r2=>by simp [okD] at o1
  | .str _,.ins _,v,w,u1,u2,hu,_,o1,h1,h2,r1,r2=>by simp [okD] at o1
  | .str _,.exc _,v,w,u1,u2,hu,_,o1,h1,h2,r1,r2=>by simp [okD] at o1
  | .tup _,.ty _,v,w,u1,u2,hu,_,o1,h1,h2,r1,r2=>by simp [okD] at o1
  | .tup _,.dic _,v,w,u1,u2,hu,_,o1,h1,h2,r1,r2=>by simp [okD] at o1
  | .tup _,.ins _,v,w,u1,u2,hu,_,o1,h1,h2,r1,r2=>by simp [okD] at o1
  | .tup _,.exc _,v,w,u1,u2,hu,_,o1,h1,h2,r1,r2=>by simp [okD] at o1
theorem qO0 (I:Inv X pins σ H s) (n:Nat) {A:Around}:∀ {d e:Dt} {v w:V} {u1 u2:Value},A.units+n+1<cLine→okD (n+1) d=true→okD (n+1) e=true→D X.K φ N H d v→D X.K φ N H e w→RelV v u1→RelV w u2→SeqAt.RcNeAt A s u1 u2 (!(eqD (n+1) d e))
  | .non,.non,v,w,u1,u2,hu,_,_,h1,h2,r1,r2=>by cases h1.non;cases h2.non;cases r1;cases r2;exact SeqAt.RcNeAt.none_none
  | .non,.bl b,v,w,u1,u2,hu,_,_,h1,h2,r1,r2=>by cases h1.non;cases h2.bl;cases r1;cases r2;exact SeqAt.RcNeAt.none_bool b
  | .non,.int b,v,w,u1,u2,hu,_,_,h1,h2,r1,r2=>by cases h1.non;cases h2.int;cases r1;obtain⟨t',rfl⟩:=r2;exact SeqAt.RcNeAt.none_int b t'
  | .non,.str b,v,w,u1,u2,hu,_,_,h1,h2,r1,r2=>by cases h1.non;cases h2.str;cases r1;obtain⟨t',rfl⟩:=r2;exact SeqAt.RcNeAt.none_str b t'
  | .bl a,.non,v,w,u1,u2,hu,_,_,h1,h2,r1,r2=>by cases h1.bl;cases h2.non;cases r1;cases r2;exact SeqAt.RcNeAt.bool_none a
  | .bl a,.bl b,v,w,u1,u2,hu,_,_,h1,h2,r1,r2=>by cases h1.bl;cases h2.bl;cases r1;cases r2;exact SeqAt.RcNeAt.bool_bool a b
  | .bl a,.int b,v,w,u1,u2,hu,_,_,h1,h2,r1,r2=>by cases h1.bl;cases h2.int;cases r1;obtain⟨t',rfl⟩:=r2;exact SeqAt.RcNeAt.bool_int a b t'
  | .bl a,.str b,v,w,u1,u2,hu,_,_,h1,h2,r1,r2=>by cases h1.bl;cases h2.str;cases r1;obtain⟨t',rfl⟩:=r2;exact SeqAt.RcNeAt.bool_str a b t'
  | .int a,.non,v,w,u1,u2,hu,_,_,h1,h2,r1,r2=>by cases h1.int;cases h2.non;obtain⟨t,rfl⟩:=r1;cases r2;exact SeqAt.RcNeAt.int_none a t
  | .int a,.bl b,v,w,u1,u2,hu,_,_,h1,h2,r1,r2=>by cases h1.int;cases h2.bl;obtain⟨t,rfl⟩:=r1;cases r2;exact SeqAt.RcNeAt.int_bool a t b
  | .int a,.int b,v,w,u1,u2,hu,_,_,h1,h2,r1,r2=>by cases h1.int;cases h2.int;obtain⟨t,rfl⟩:=r1;obtain⟨t',rfl⟩:=r2;exact SeqAt.RcNeAt.int_int a t b t'
  | .int a,.str b,v,w,u1,u2,hu,_,_,h1,h2,r1,r2=>by cases h1.int;cases h2.str;obtain⟨t,rfl⟩:=r1;obtain⟨t',rfl⟩:=r2;exact SeqAt.RcNeAt.int_str a t b t'
  | .str a,.non,v,w,u1,u2,hu,_,_,h1,h2,r1,r2=>by cases h1.str;cases h2.non;obtain⟨t,rfl⟩:=r1;cases r2;exact SeqAt.RcNeAt.str_none a t
  | .str a,.bl b,v,w,u1,u2,hu,_,_,h1,h2,r1,r2=>by cases h1.str;cases h2.bl;obtain⟨t,rfl⟩:=r1;cases r2;exact SeqAt.RcNeAt.str_bool a t b
  | .str a,.int b,v,w,u1,u2,hu,_,_,h1,h2,r1,r2=>by cases h1.str;cases h2.int;obtain⟨t,rfl⟩:=r1;obtain⟨t',rfl⟩:=r2;exact SeqAt.RcNeAt.str_int a t b t'
  | .str a,.str b,v,w,u1,u2,hu,_,_,h1,h2,r1,r2=>by cases h1.str;cases h2.str;obtain⟨t,rfl⟩:=r1;obtain⟨t',rfl⟩:=r2;exact SeqAt.RcNeAt.str_str a t b t'
  | .tup a,.non,v,w,u1,u2,hu,_,_,h1,h2,r1,r2=>by
    obtain⟨p,vs,rfl,hs,hd⟩:=h1.tup;cases h2.non;cases r1;cases r2;obtain⟨its,_,ht,_⟩:=I.tuple hs;exact SeqAt.RcNeAt.tuple_none ht (by omega)
  | .non,.tup a,v,w,u1,u2,hu,_,_,h1,h2,r1,r2=>by
    obtain⟨p,vs,rfl,hs,hd⟩:=h2.tup;cases h1.non;cases r2;cases r1;obtain⟨its,_,ht,_⟩:=I.tuple hs;exact SeqAt.RcNeAt.none_tuple ht (by omega)
  | .tup a,.bl b,v,w,u1,u2,hu,_,_,h1,h2,r1,r2=>by
    obtain⟨p,vs,rfl,hs,hd⟩:=h1.tup;cases h2.bl;cases r1;cases r2;obtain⟨its,_,ht,_⟩:=I.tuple hs;exact SeqAt.RcNeAt.tuple_bool b ht (by omega)
  | .bl b,.tup a,v,w,u1,u2,hu,_,_,h1,h2,r1,r2=>by
    obtain⟨p,vs,rfl,hs,hd⟩:=h2.tup;cases h1.bl;cases r2;cases r1;obtain⟨its,_,ht,_⟩:=I.tuple hs;exact SeqAt.RcNeAt.bool_tuple b ht (by omega)
  | .tup a,.int b,v,w,u1,u2,hu,_,_,h1,h2,r1,r2=>by
    obtain⟨p,vs,rfl,hs,hd⟩:=h1.tup;cases h2.int;cases r1;obtain⟨t',rfl⟩:=r2;obtain⟨its,_,ht,_⟩:=I.tuple hs;exact SeqAt.RcNeAt.tuple_int b t' ht (by omega)
  | .int b,.tup a,v,w,u1,u2,hu,_,_,h1,h2,r1,r2=>by
    obtain⟨p,vs,rfl,hs,hd⟩:=h2.tup;cases h1.int;cases r2;obtain⟨t',rfl⟩:=r1;obtain⟨its,_,ht,_⟩:=I.tuple hs;exact SeqAt.RcNeAt.int_tuple b t' ht (by omega)
  | .tup a,.str b,v,w,u1,u2,hu,_,_,h1,h2,r1,r2=>by
    obtain⟨p,vs,rfl,hs,hd⟩:=h1.tup;cases h2.str;cases r1;obtain⟨t',rfl⟩:=r2;obtain⟨its,_,ht,_⟩:=I.tuple hs;exact SeqAt.RcNeAt.tuple_str b t' ht (by omega)
  | .str b,.tup a,v,w,u1,u2,hu,_,_,h1,h2,r1,r2=>by
    obtain⟨p,vs,rfl,hs,hd⟩:=h2.tup;cases h1.str;cases r2;obtain⟨t',rfl⟩:=r1;obtain⟨its,_,ht,_⟩:=I.tuple hs;exact SeqAt.RcNeAt.str_tuple b t' ht (by omega)
  | .tup a,.tup b,v,w,u1,u2,hu,o1,o2,h1,h2,r1,r2=>by
    simp only [okD] at o1 o2
    obtain⟨p,vs,rfl,hs,hd⟩:=h1.tup
    obtain⟨q,ws,rfl,hs2,hd2⟩:=h2.tup
    cases r1;cases r2
    obtain⟨its,rv,ht,_⟩:=I.tuple hs
    obtain⟨its2,rv2,ht2,_⟩:=I.tuple hs2
    k_dat 0"r28"
    k_dat 0"r29"
    have:=SeqAt.RcNeAt.tuples (A:=A) (s:=s) (e:=fun j=>eqD n (a.getD j .non) (b.getD j .non)) ht ht2 (by omega) (fun j h1 h2=>qIS I hu hd hd2 rv rv2 o1 o2 h1 h2)
    rw [l1,l2] at this
    simp only [eqD]
    rw [qBV]
    exact this
  | .lst _,_,v,w,u1,u2,hu,o1,_,h1,h2,r1,r2=>by simp [okD] at o1
  | .non,.lst _,v,w,u1,u2,hu,_,o1,h1,h2,r1,r2=>by simp [okD] at o1
  | .bl _,.lst _,v,w,u1,u2,hu,_,o1,h1,h2,r1,r2=>by simp [okD] at o1
  | .int _,.lst _,v,w,u1,u2,hu,_,o1,h1,h2,r1,r2=>by simp [okD] at o1
  | .str _,.lst _,v,w,u1,u2,hu,_,o1,h1,h2,r1,r2=>by simp [okD] at o1
  | .tup _,.lst _,v,w,u1,u2,hu,_,o1,h1,h2,r1,r2=>by simp [okD] at o1
  | .ty _,_,v,w,u1,u2,hu,o1,_,h1,h2,r1,r2=>by simp [okD] at o1
  | .dic _,_,v,w,u1,u2,hu,o1,_,h1,h2,r1,r2=>by simp [okD] at o1
  | .ins _,_,v,w,u1,u2,hu,o1,_,h1,h2,r1,r2=>by simp [okD] at o1
  | .exc _,_,v,w,u1,u2,hu,o1,_,h1,h2,r1,r2=>by simp [okD] at o1
  | .non,.ty _,v,w,u1,u2,hu,_,o1,h1,h2,r1,r2=>by simp [okD] at o1
  | .non,.dic _,v,w,u1,u2,hu,_,o1,h1,h2,r1,r2=>by simp [okD] at o1
  | .non,.ins _,v,w,u1,u2,hu,_,o1,h1,h2,r1,r2=>by simp [okD] at o1
  | .non,.exc _,v,w,u1,u2,hu,_,o1,h1,h2,r1,r2=>by simp [okD] at o1
  | .bl _,.ty _,v,w,u1,u2,hu,_,o1,h1,h2,r1,r2=>by simp [okD] at o1
  | .bl _,.dic _,v,w,u1,u2,hu,_,o1,h1,h2,r1,r2=>by simp [okD] at o1
  | .bl _,.ins _,v,w,u1,u2,hu,_,o1,h1,h2,r1,r2=>by simp [okD] at o1
  | .bl _,.exc _,v,w,u1,u2,hu,_,o1,h1,h2,r1,r2=>by simp [okD] at o1
  | .int _,.ty _,v,w,u1,u2,hu,_,o1,h1,h2,r1,r2=>by simp [okD] at o1
  | .int _,.dic _,v,w,u1,u2,hu,_,o1,h1,h2,r1,r2=>by simp [okD] at o1
  | .int _,.ins _,v,w,u1,u2,hu,_,o1,h1,h2,r1,r2=>by simp [okD] at o1
  | .int _,.exc _,v,w,u1,u2,hu,_,o1,h1,h2,r1,r2=>by simp [okD] at o1
  | .str _,.ty _,v,w,u1,u2,hu,_,o1,h1,h2,r1,r2=>by simp [okD] at o1
  | .str _,.dic _,v,w,u1,u2,hu,_,o1,h1,h2,r1,r2=>by simp [okD] at o1
  | .str _,.ins _,v,w,u1,u2,hu,_,o1,h1,h2,r1,r2=>by simp [okD] at o1
  | .str _,.exc _,v,w,u1,u2,hu,_,o1,h1,h2,r1,r2=>by simp [okD] at o1
  | .tup _,.ty _,v,w,u1,u2,hu,_,o1,h1,h2,r1,r2=>by simp [okD] at o1
  | .tup _,.dic _,v,w,u1,u2,hu,_,o1,h1,h2,r1,r2=>by simp [okD] at o1
  | .tup _,.ins _,v,w,u1,u2,hu,_,o1,h1,h2,r1,r2=>by simp [okD] at o1
  | .tup _,.exc _,v,w,u1,u2,hu,_,o1,h1,h2,r1,r2=>by simp [okD] at o1
end
theorem qM6 {X:Cx} (hu:X.A.units+16<cLine):OpD X (compareOp .Eq) (qW false):=by
  k_dat 0"r5"
  k_dat 0"r3"
  have gen:okD 8 x=true→okD 8 y=true→P (.bl (eqD 8 x y != false)) st→wpAny (model X.prog X.w) X.A (compareOp .Eq u1 u2) (EP X pins σ Q) X.xe s:=fun o1 o2 hp=>by
    rw [qAr] at hp
    exact qPS I 7 (by omega) o1 o2 dx dy r1 r2 _ _ _ _ (qBM I hq R hp rfl)
  cases x with
  | lst n =>
    cases y with
    | lst m =>
      have hr':match st[n]?,st[m]? with
        | some a,some b=>a.items.all (okD 8)=true∧b.items.all (okD 8)=true∧P (.bl (eqL (eqD 8) a.items b.items != false)) st
        | _,_=>False:=hr
      split at hr'
      · rename_i a b e1 e2
        obtain⟨o1,o2,hp⟩:=hr'
        rw [qAr] at hp
        obtain⟨vs,s1,d1⟩:=R.seq e1 dx.isL
        obtain⟨ws,s2,d2⟩:=R.seq e2 dy.isL
        obtain⟨its,rv,pl,_⟩:=I.list s1
        obtain⟨its2,rv2,pl2,_⟩:=I.list s2
        have e1':=dx.lst.2
        have e2':=dy.lst.2
        subst e1';subst e2'
        cases r1;cases r2
        k_dat 0"r46"
        k_dat 0"r47"
        rw [qBV] at hp
        by_cases hl:its.toArray.size=its2.toArray.size
        · have:=SeqAt.RcAt.lists (A:=X.A) (s:=s) (e:=fun j=>eqD 8 (a.items.getD j .non) (b.items.getD j .non)) pl.isList pl2.isList hl (by omega) (fun j h1 h2=>qIS I (by omega) d1 d2 rv rv2 o1 o2 h1 h2)
          refine this _ _ _ _ (qBM I hq R hp ?_)
          rw [← l1,← l2,← hl,Nat.min_self]
          simp
        · have hl':(its.toArray.size != its2.toArray.size)=true:=by simpa using hl
          refine SeqAt.RcAt.lists_lengths (A:=X.A) pl.isList pl2.isList hl' (by omega) _ _ _ _ (qBM I hq R hp ?_)
          rw [← l1,← l2]
          have:(its.toArray.size==its2.toArray.size)=false:=by simpa using hl
          rw [this,Bool.and_false]
      · exact hr'.elim
    | _=>exact absurd (show okD 8 (.lst n)=true from hr.1) (by simp [okD])
  | _=>cases y<;>exact gen hr.1 hr.2.1 hr.2.2
theorem qNH {X:Cx} (hu:X.A.units+16<cLine):OpD X (compareOp .NotEq) (qW true):=by
  k_dat 0"r5"
  k_dat 0"r3"
  have gen:okD 8 x=true→okD 8 y=true→P (.bl (eqD 8 x y != true)) st→wpAny (model X.prog X.w) X.A (compareOp .NotEq u1 u2) (EP X pins σ Q) X.xe s:=fun o1 o2 hp=>by
    rw [qB3] at hp
    exact qO0 I 7 (by omega) o1 o2 dx dy r1 r2 _ _ _ _ (qBM I hq R hp rfl)
  cases x with
  | lst n =>
    cases y with
    | lst m =>
      have hr':match st[n]?,st[m]? with
        | some a,some b=>a.items.all (okD 8)=true∧b.items.all (okD 8)=true∧P (.bl (eqL (eqD 8) a.items b.items != true)) st
        | _,_=>False:=hr
      split at hr'
      · rename_i a b e1 e2
        obtain⟨o1,o2,hp⟩:=hr'
        rw [qB3] at hp
        obtain⟨vs,s1,d1⟩:=R.seq e1 dx.isL
        obtain⟨ws,s2,d2⟩:=R.seq e2 dy.isL
        obtain⟨its,rv,pl,_⟩:=I.list s1
        obtain⟨its2,rv2,pl2,_⟩:=I.list s2
        have e1':=dx.lst.2
        have e2':=dy.lst.2
        subst e1';subst e2'
        cases r1;cases r2
        k_dat 0"r46"
        k_dat 0"r47"
        rw [qBV] at hp
        by_cases hl:its.toArray.size=its2.toArray.size
        · have:=SeqAt.RcNeAt.lists (A:=X.A) (s:=s) (e:=fun j=>eqD 8 (a.items.getD j .non) (b.items.getD j .non)) pl.isList pl2.isList hl (by omega) (fun j h1 h2=>qIS I (by omega) d1 d2 rv rv2 o1 o2 h1 h2)
          refine this _ _ _ _ (qBM I hq R hp ?_)
          rw [← l1,← l2,← hl,Nat.min_self]
          simp
        · have hl':(its.toArray.size != its2.toArray.size)=true:=by simpa using hl
          refine SeqAt.RcNeAt.lists_lengths (A:=X.A) pl.isList pl2.isList hl' (by omega) _ _ _ _ (qBM I hq R hp ?_)
          rw [← l1,← l2]
          have:(its.toArray.size==its2.toArray.size)=false:=by simpa using hl
          rw [this,Bool.and_false]
          rfl
      · exact hr'.elim
    | _=>exact absurd (show okD 8 (.lst n)=true from hr.1) (by simp [okD])
  | _=>cases y<;>exact gen hr.1 hr.2.1 hr.2.2
end L3
namespace L3
open PySem PySem.Spec PyProof.Rows L2
section
variable {X:Cx}
theorem qP6:OpD X (compareOp .Is) (qCA false):=by
  k_dat 0"r5"
  k_dat 0"r3"
  have nn:y = .non→v≠.non→P (.bl (false != false)) st→wpAny (model X.prog X.w) X.A (compareOp .Is u1 u2) (EP X pins σ Q) X.xe s:=fun e hv hp=>by
    subst e
    have:=dy.non
    exact qKV pins s σ H v w u1 u2 Q I r1 r2 ⟨this,by rw [decide_eq_false hv];exact Go.here hq R hp D.qBX⟩
  cases x with
  | bl a =>
    cases y with
    | bl b =>
      cases dx.bl;cases dy.bl;cases r1;cases r2
      exact is_bool (qBM I hq R hr (by rw [qAr]))
    | non=>exact nn rfl (by rw [dx.bl];intro z;cases z) hr
    | _=>exact hr.elim
  | non =>
    cases y with
    | non=>exact qKV pins s σ H v w u1 u2 Q I r1 r2 ⟨dy.non,by rw [decide_eq_true dx.non];exact Go.here hq R hr D.qBX⟩
    | _=>exact hr.elim
  | int a =>
    cases y with
    | non=>exact nn rfl (by rw [dx.int];intro z;cases z) hr
    | _=>exact hr.elim
  | str a =>
    cases y with
    | non=>exact nn rfl (by rw [dx.str];intro z;cases z) hr
    | _=>exact hr.elim
  | tup a =>
    cases y with
    | non=>exact nn rfl (by obtain⟨_,_,e,_⟩:=dx.tup;rw [e];intro z;cases z) hr
    | _=>exact hr.elim
  | lst a =>
    cases y with
    | non=>exact nn rfl (by rw [dx.lst.2];intro z;cases z) hr
    | _=>exact hr.elim
  | exc a =>
    cases y with
    | non=>exact nn rfl (by obtain⟨_,_,_,e,_⟩:=dx.exc;rw [e];intro z;cases z) hr
    | _=>exact hr.elim
  | _=>cases y<;>exact hr.elim
theorem qKE:OpD X (compareOp .IsNot) (qCA true):=by
  k_dat 0"r5"
  k_dat 0"r3"
  have nn:y = .non→v≠.non→P (.bl (false != true)) st→wpAny (model X.prog X.w) X.A (compareOp .IsNot u1 u2) (EP X pins σ Q) X.xe s:=fun e hv hp=>by
    subst e
    exact qIb pins s σ H v w u1 u2 Q I r1 r2 ⟨dy.non,by rw [decide_eq_false hv];exact Go.here hq R hp D.qBX⟩
  cases x with
  | bl a =>
    cases y with
    | bl b =>
      cases dx.bl;cases dy.bl;cases r1;cases r2
      exact isnot_bool (qBM I hq R hr (by rw [qB3];rfl))
    | non=>exact nn rfl (by rw [dx.bl];intro z;cases z) hr
    | _=>exact hr.elim
  | non =>
    cases y with
    | non=>exact qIb pins s σ H v w u1 u2 Q I r1 r2 ⟨dy.non,by rw [decide_eq_true dx.non];exact Go.here hq R hr D.qBX⟩
    | _=>exact hr.elim
  | int a =>
    cases y with
    | non=>exact nn rfl (by rw [dx.int];intro z;cases z) hr
    | _=>exact hr.elim
  | str a =>
    cases y with
    | non=>exact nn rfl (by rw [dx.str];intro z;cases z) hr
    | _=>exact hr.elim
  | tup a =>
    cases y with
    | non=>exact nn rfl (by obtain⟨_,_,e,_⟩:=dx.tup;rw [e];intro z;cases z) hr
    | _=>exact hr.elim
  | lst a =>
    cases y with
    | non=>exact nn rfl (by rw [dx.lst.2];intro z;cases z) hr
    | _=>exact hr.elim
  | exc a =>
    cases y with
    | non=>exact nn rfl (by obtain⟨_,_,_,e,_⟩:=dx.exc;rw [e];intro z;cases z) hr
    | _=>exact hr.elim
  | _=>cases y<;>exact hr.elim
end
end L3
namespace L3
open PySem PySem.Spec PyProof.Rows L2
section
variable {X:Cx}
theorem qGC {K:W.Frag} {φ:Nat→Addr} {N:Nat} {H:Hp} {d:Dt} {v:V} (h:D K φ N H d v) (o:okD 0 d=true):qCt v=true:=by
  cases d with
  | non=>cases h.non;rfl
  | bl _=>cases h.bl;rfl
  | int _=>cases h.int;rfl
  | str _=>cases h.str;rfl
  | _=>exact absurd o (by simp [okD])
theorem qE2 {K:W.Frag} {φ:Nat→Addr} {N:Nat} {H:Hp}:∀ {ds:List Dt} {vs:List V},DL K φ N H ds vs→ds.all (okD 0)=true→vs.all qCt=true
  | [],vs,h,_=>by simp only [DL] at h;rw [h];rfl
  | d::ds,vs,h,o=>by
    k_dat 0"r7"
    obtain⟨v,r,rfl,h2,h3⟩:=h
    rw [List.all_cons,Bool.and_eq_true] at o ⊢
    exact⟨qGC h2 o.1,qE2 h3 o.2⟩
theorem qOG {K:W.Frag} {φ:Nat→Addr} {N:Nat} {H:Hp} {d e:Dt} {v w:V} (h:D K φ N H d v) (h':D K φ N H e w) (o:okD 0 d=true) (o':okD 0 e=true):eqV v w=eqD 0 d e:=by
  cases d<;>(try (exfalso;revert o;simp [okD];done))<;>cases e<;>(try (exfalso;revert o';simp [okD];done))<;>(simp only [D] at h h';subst h;subst h';rfl)
theorem qFr {K:W.Frag} {φ:Nat→Addr} {N:Nat} {H:Hp} {d:Dt} {v:V} (h':D K φ N H d v) (o':okD 0 d=true):∀ {ds:List Dt} {vs:List V},DL K φ N H ds vs→ds.all (okD 0)=true→inV v vs=ds.any (fun z=>eqD 0 z d)
  | [],vs,h,_=>by simp only [DL] at h;rw [h];rfl
  | e::ds,vs,h,o=>by
    k_dat 0"r7"
    obtain⟨w,r,rfl,h2,h3⟩:=h
    rw [List.all_cons,Bool.and_eq_true] at o
    have ih:=qFr h' o' h3 o.2
    unfold inV at ih ⊢
    rw [List.any_cons,List.any_cons,ih,qOG h2 h' o.1 o']
theorem qBp {K:W.Frag} {φ:Nat→Addr} {st:Sto} {H:Hp} {y:Dt} {w:V} {xs:List Dt} (R:Rep K φ st H) (dy:D K φ st.length H y w) (e:qo st y=some xs) :
    ∃ p vs,w = .ref p∧((SqL K H p vs∧∃ n,y = .lst n)∨(SqT K H p vs∧y = .tup xs))∧DL K φ st.length H xs vs:=by
  cases y with
  | tup zs =>
    have e':zs=xs:=Option.some.inj e
    subst e'
    obtain⟨a,vs,e1,s1,d1⟩:=dy.tup
    exact⟨a,vs,e1,.inr ⟨s1,rfl⟩,d1⟩
  | lst n =>
    have e':(st[n]?).map SO.items=some xs:=e
    cases q:st[n]? with
    | none=>rw [q] at e';cases e'
    | some o =>
      rw [q] at e'
      have e2:o.items=xs:=Option.some.inj e'
      obtain⟨vs,h1,h2⟩:=R.seq q dy.isL
      rw [e2] at h2
      exact⟨φ n,vs,dy.lst.2,.inl ⟨h1,n,rfl⟩,h2⟩
  | _=>cases e
theorem qQS:OpD X (compareOp .In) (qAd false):=by
  k_dat 0"r5"
  k_dat 0"r3"
  have gen:(match qo st y with
    | some xs=>okD 0 x=true∧xs.all (okD 0)=true∧P (.bl (xs.any (fun z=>eqD 0 z x) != false)) st
    | none=>False)→wpAny (model X.prog X.w) X.A (compareOp .In u1 u2) (EP X pins σ Q) X.xe s:=fun hg=>by
    split at hg
    · rename_i xs e
      obtain⟨o1,o2,hp⟩:=hg
      obtain⟨p,vs,e1,hs,hd⟩:=qBp R dy e
      refine qJP pins s σ H v w u1 u2 Q I r1 r2 ⟨p,vs,e1,hs.elim (fun z=>.inl z.1) fun z=>.inr z.1,qGC dx o1,qE2 hd o2,?_⟩
      rw [if_neg Bool.false_ne_true,qFr dx o1 hd o2]
      rw [qAr] at hp
      exact Go.here hq R hp D.qBX
    · exact hg.elim
  cases x with
  | str i =>
    cases y with
    | str j =>
      have hr':P (.bl ((!(Builtin.Str.occurrences j i 0 j.length 1).isEmpty) != false)) st:=hr
      rw [qAr] at hr'
      exact qIz pins s σ H v w u1 u2 Q I r1 r2 ⟨i,j,dx.str,dy.str,Go.here hq R hr' D.qBX⟩
    | _=>exact gen hr
  | _=>exact gen hr
theorem qJl:OpD X (compareOp .NotIn) (qAd true):=by
  k_dat 0"r5"
  k_dat 0"r3"
  have gen:(match qo st y with
    | some xs=>okD 0 x=true∧xs.all (okD 0)=true∧P (.bl (xs.any (fun z=>eqD 0 z x) != true)) st
    | none=>False)→wpAny (model X.prog X.w) X.A (compareOp .NotIn u1 u2) (EP X pins σ Q) X.xe s:=fun hg=>by
    split at hg
    · rename_i xs e
      obtain⟨o1,o2,hp⟩:=hg
      obtain⟨p,vs,e1,hs,hd⟩:=qBp R dy e
      refine qGF pins s σ H v w u1 u2 Q I r1 r2 ⟨p,vs,e1,hs.elim (fun z=>.inl z.1) fun z=>.inr z.1,qGC dx o1,qE2 hd o2,?_⟩
      rw [if_pos rfl,qFr dx o1 hd o2]
      rw [qB3] at hp
      exact Go.here hq R hp D.qBX
    · exact hg.elim
  cases x with
  | str i =>
    cases y with
    | str j =>
      have hr':P (.bl ((!(Builtin.Str.occurrences j i 0 j.length 1).isEmpty) != true)) st:=hr
      rw [qB3] at hr'
      exact qF5 pins s σ H v w u1 u2 Q I r1 r2 ⟨i,j,dx.str,dy.str,Go.here hq R hr' D.qBX⟩
    | _=>exact gen hr
  | _=>exact gen hr
end
end L3
namespace L3
open PySem PySem.Spec PyProof.Rows L2
section
variable {X:Cx}
def qM:RD2:=fun x y st P=>match y with
  | .int i=>(match x with
    | .str z=>z.length≤sizeLine∧(match atI z.cps.toList i with
      | some c=>P (.str ⟨#[c]⟩) st
      | none=>False)
    | x => match qo st x with
      | some xs=>(match atI xs i with
        | some d=>P d st
        | none=>False)
      | none=>False)
  | _=>False
theorem DL.atI {K:W.Frag} {φ:Nat→Addr} {N:Nat} {H:Hp} {ds:List Dt} {vs:List V} {i:Int} {d:Dt} (h:DL K φ N H ds vs) (e:L2.atI ds i=some d):∃ v,L2.atI vs i=some v∧D K φ N H d v:=by
  unfold L2.atI at e ⊢
  rw [← h.length]
  cases q:ixN ds.length i with
  | none=>rw [q] at e;cases e
  | some j =>
    rw [q] at e
    exact h.get e
theorem qQQ {a b:Expr} {ta tb:TD} {pos:Pos} (ha:DE X a ta) (hb:DE X b tb) (hs:qIp b:=by exact fun _ _=>rfl):DE X (.Subscript a b pos) (qG qM ta tb):=by
  have key:IxR X (qKI X.K qM):=by
    intro value slice pins s σ H v w u1 u2 Q I r1 r2 h hsub
    k_dat 0"r3"
    cases y with
    | int i =>
      have gen:(match qo st x with
        | some xs=>(match atI xs i with
          | some d=>P d st
          | none=>False)
        | none=>False)→wpAny (model X.prog X.w) X.A (subscriptTail value slice u1 u2) (EP X pins σ Q) X.xe s:=fun hg=>by
        split at hg
        · rename_i xs e
          split at hg
          · rename_i d ed
            obtain⟨p,vs,e1,hs,hd⟩:=qBp R dx e
            obtain⟨z,ez,dz⟩:=hd.atI ed
            refine qJr value slice pins s σ H v w u1 u2 Q I r1 r2 ?_ hsub
            rcases hs with ⟨hs,_⟩ | ⟨hs,_⟩
            · exact .inl ⟨p,vs,i,z,e1,dy.int,hs,ez,Go.here hq R hg dz⟩
            · exact .inr (.inl ⟨p,vs,i,z,e1,dy.int,hs,ez,Go.here hq R hg dz⟩)
          · exact hg.elim
        · exact hg.elim
      cases x with
      | str z =>
        have hr':z.length≤sizeLine∧(match atI z.cps.toList i with
          | some c=>P (.str ⟨#[c]⟩) st
          | none=>False):=hr
        obtain⟨h1,h2⟩:=hr'
        split at h2
        · rename_i c ec
          exact qJr value slice pins s σ H v w u1 u2 Q I r1 r2 (.inr (.inr ⟨z,i,c,dx.str,dy.int,h1,ec,Go.here hq R h2 D.mkStr⟩)) hsub
        · exact h2.elim
      | _=>exact gen hr
    | _=>exact hr.elim
  exact (qQW key ha hb hs).imp fun _ _ _=>qDN
noncomputable abbrev TOD:=Rho→Sto→(Option Int→Sto→Prop)→Prop
noncomputable def qQf (K:W.Frag) (t:TOD):TO:=fun σ H Q=>∃ φ st ρ P,Pre K φ st H ρ σ∧t ρ st P∧∀ o st',P o st'→∀ φ' H',Bhd K φ st H φ' st' H'→Q o H'
def DO (X:Cx) (e:Option Expr) (t:TOD):Prop:=PO X e (qQf X.K t)
noncomputable def qCy:TOD:=fun _ st P=>P none st
noncomputable def qC4 (t:TD):TOD:=fun ρ st P=>t ρ st fun x st1=>match x with
  | .int i=>P (some i) st1
  | _=>False
theorem qMT:DO X none qCy:=fun pins s σ H Q I h=>by
  k_dat 0"r0"
  exact qMJ pins s σ H Q I (hq none st ht φ H (.refl pre.1))
theorem qMc {e:Expr} {t:TD} (he:DE X e t):DO X (some e) (qC4 t):=fun pins s σ H Q I h=>by
  refine qMd he pins s σ H Q I ?_
  k_dat 0"r0"
  k_dat 0"r14"
  cases d with
  | int i=>exact⟨i,dx.int,hq _ st1 h1 φ1 H1 b1⟩
  | _=>exact h1.elim
noncomputable def cutD (xs:List Dt) (lo hi:Option Int):List Dt:=(xs.drop (HT.sIx xs.length 0 lo)).take (HT.sIx xs.length xs.length hi - HT.sIx xs.length 0 lo)
end
end L3
namespace L3
open PySem PySem.Spec PyProof.Rows L2
noncomputable def qc (K:W.Frag) (sp:RDL):Sp:=fun vs H Q _=>qLH K sp vs H Q
section
variable {X:Cx} {e:Expr} {es:List Expr} {t:TAD} {pos p:Pos} {x:Str}
theorem qLP {k:Nat} {f:Addr} {fd:FuncData} {ps:List Str} {sp:RDL} (F:qAM X.prog X.w X.K X.mg X.base CX0 k f fd ps (qc X.K sp)) (hr:qA4 k X.A) (hm:X.mg x=some (.ref f)) (hk:W.keepIn X.K (.ref f)=true)
    (hb:Binds X.K fd ps []) (ha:DA X (e::es) t) (hg:Gl X x:=by rfl) (hdb:(x==("__debug__" : Str))=false:=by decide) (he:starEach (e::es) X.env=(false,eval e X.env)::starEach es X.env:=by rfl)
    (hpl:(backTo pos (starEach es X.env)).any (·.1)=false:=by rfl):DE X (.Call (.Name x p) (e::es) [] pos) (qN sp t):=by
  refine PE.imp (qLW F hr hg hm hk hb .nil qMo ha hdb he hpl) fun σ H Q h=>?_
  have:=qDZ h
  obtain⟨φ,st,ρ,P,pre,ht,hq⟩:=this
  refine⟨φ,st,ρ,P,pre,ht,fun ds st' hp φ' H' vs b d=>?_⟩
  show qc X.K sp (vs++[]) H' Q E0
  rw [List.append_nil]
  exact hq ds st' hp φ' H' vs b d
theorem qDM {id:String} {r:RDL} (hc:qDF X (.builtin id) r) (hm:X.mg x=none) (hv:bootBuiltins x=some (.builtin id)) (ha:DA X (e::es) t) (hg:Gl X x:=by rfl) (hn:x ≠ "__name__":=by decide) (hdb:(x==("__debug__" : Str))=false:=by decide)
    (he:starEach (e::es) X.env=(false,eval e X.env)::starEach es X.env:=by rfl) (hpl:(backTo pos (starEach es X.env)).any (·.1)=false:=by rfl):DE X (.Call (.Name x p) (e::es) [] pos) (qN r t) :=
  PE.imp (qJw hc hg hm hv ha hn hdb he hpl) fun σ H Q h=>qDZ h
theorem qDr {T:String} {r:RDL} (hc:qDF X (.type T) r) (hm:X.mg x=none) (hv:bootBuiltins x=some (.type T)) (ha:DA X (e::es) t) (hg:Gl X x:=by rfl) (hn:x ≠ "__name__":=by decide) (hdb:(x==("__debug__" : Str))=false:=by decide)
    (he:starEach (e::es) X.env=(false,eval e X.env)::starEach es X.env:=by rfl) (hpl:(backTo pos (starEach es X.env)).any (·.1)=false:=by rfl):DE X (.Call (.Name x p) (e::es) [] pos) (qN r t) :=
  PE.imp (qJf hc hg hm hv ha hn hdb he hpl) fun σ H Q h=>qDZ h
def qAW:RDL:=fun ds st P=>match ds with
  | [.str z]=>z.length≤sizeLine∧P (.int z.length) st
  | [x]=>(match qo st x with
    | some xs=>P (.int xs.length) st
    | none=>False)
  | _=>False
theorem qOk:qDF X (.builtin "len") qAW:=by
  k_dat 0"r15"
  k_dat 0"r16"
  k_dat 0"r24"
  · exact hr.elim
  rotate_left
  · cases x<;>exact hr.elim
  · obtain⟨v,rfl,dx⟩:=dl.one
    have gen:(match qo st x with
      | some xs=>P (.int xs.length) st
      | none=>False)→wpAny (model X.prog X.w) X.A (call (.builtin "len") us) (EP X pins σ Q) X.xe s:=fun hg=>by
      split at hg
      · rename_i xs e
        obtain⟨p,ws,e1,hs,hd⟩:=qBp R dx e
        refine qGj pins s σ H [v] us Q I rv ⟨p,ws,by rw [e1],hs.elim (fun z=>.inl z.1) fun z=>.inr z.1,?_⟩
        rw [← hd.length]
        exact Go.here hq R hg D.mkInt
      · exact hg.elim
    cases x with
    | str z=>exact qGJ pins s σ H [v] us Q I rv ⟨z,by rw [dx.str],hr.1,Go.here hq R hr.2 D.mkInt⟩
    | _=>exact gen hr
def qGG:RDL:=fun ds st P=>match ds with
  | [x]=>(match qo st x with
    | some xs=>P (.tup xs) st
    | none=>False)
  | _=>False
theorem qKi:qDF X (.type "tuple") qGG:=by
  k_dat 0"r15"
  k_dat 0"r16"
  k_dat 0"r24"
  · exact hr.elim
  rotate_left
  · cases x<;>exact hr.elim
  · obtain⟨v,rfl,dx⟩:=dl.one
    have hr':(match qo st x with
      | some xs=>P (.tup xs) st
      | none=>False):=hr
    split at hr'
    · rename_i xs e
      obtain⟨p,ws,e1,hs,hd⟩:=qBp R dx e
      refine qFA pins s σ H [v] us Q I rv ⟨p,ws,by rw [e1],?_⟩
      rcases hs with ⟨hs,_⟩ | ⟨hs,ex⟩
      · exact .inl ⟨hs,fun l hl=>hq _ st hr' φ _ _ (qCf R hl) (.qCs (SqT.of qAF) (hd.evo (qBS hl)))⟩
      · exact .inr ⟨hs,Go.here hq R hr' (.qCs hs hd)⟩
    · exact hr'.elim
def qKy:RDL:=fun ds st P=>match ds with
  | [x]=>(match qo st x with
    | some xs=>P (.lst st.length) (st++[.rw xs])
    | none=>False)
  | _=>False
theorem qMX:qDF X (.type "list") qKy:=by
  k_dat 0"r15"
  k_dat 0"r16"
  k_dat 0"r24"
  · exact hr.elim
  rotate_left
  · cases x<;>exact hr.elim
  · obtain⟨v,rfl,dx⟩:=dl.one
    have hr':(match qo st x with
      | some xs=>P (.lst st.length) (st++[.rw xs])
      | none=>False):=hr
    split at hr'
    · rename_i xs e
      obtain⟨p,ws,e1,hs,hd⟩:=qBp R dx e
      exact qGB pins s σ H [v] us Q I rv ⟨p,ws,by rw [e1],hs.elim (fun z=>.inl z.1) fun z=>.inr z.1,fun l hl=>hq _ _ hr' _ _ _ (qCj R hl hd) qFi⟩
    · exact hr'.elim
end
end L3
namespace L3
open PySem PySem.Spec PyProof.Rows L2
section
variable {X:Cx}
noncomputable def tyN:Dt→Option String
  | .non=>some "NoneType"
  | .bl _=>some "bool"
  | .int _=>some "int"
  | .str _=>some "str"
  | .tup _=>some "tuple"
  | .lst _=>some "list"
  | .ty _=>none
  | .dic _=>none
  | .ins _=>none
  | .exc _=>none
noncomputable def isT (t c:String):Bool:=t==c || (t == "bool" && c == "int")
theorem qDc (K:W.Frag) {t c:String} (ht:t = "NoneType" ∨ t = "bool" ∨ t = "int" ∨ t = "str" ∨ t = "tuple" ∨ t = "list") (hc:c = "bool" ∨ c = "int" ∨ c = "str" ∨ c = "tuple" ∨ c = "list"):W.kitOne K (.type t) (.type c)=some (isT t c):=by
  rcases ht with rfl | rfl | rfl | rfl | rfl | rfl<;>rcases hc with rfl | rfl | rfl | rfl | rfl<;>kernel_rfl
def qBD:RDL:=fun ds st P=>match ds with
  | [x,.ty c]=>(c = "bool" ∨ c = "int" ∨ c = "str" ∨ c = "tuple" ∨ c = "list")∧(match tyN x with
    | some t=>P (.bl (isT t c)) st
    | none=>False)
  | _=>False
theorem qJT:qDF X (.builtin "isinstance") qBD:=by
  k_dat 0"r15"
  k_dat 0"r16"
  rcases ds with _ | ⟨x,_ | ⟨y,_ | ⟨z,r⟩⟩⟩
  · exact hr.elim
  · exact hr.elim
  rotate_left
  · cases y<;>exact hr.elim
  · cases y<;>first
      | exact hr.elim
      | skip
    rename_i c
    obtain⟨v,w,rfl,dx,dy⟩:=dl.two
    obtain⟨u,u',rfl,ru,ru'⟩:=vals2 rv
    have:=dy.ty
    subst this
    have:=(show u'=Value.type c from ru')
    subst this
    obtain⟨hc,hr⟩:=hr
    have fin:∀ {t:String},P (.bl (isT t c)) st→∀ tk,EP X pins σ Q (.bool (isT t c)) { s with toks:=tk }:=fun {t} hp tk=>⟨.bl _,H,I.tok tk,rfl,Go.here hq R hp D.qBX⟩
    cases x with
    | non=>cases dx.non;cases ru;exact W.kia_one W.kitx_none I.kIn True.intro (qDc _ (.inl rfl) hc) (fun z=>nomatch z) (fin hr)
    | bl k=>cases dx.bl;cases ru;exact W.kia_one W.kitx_bool I.kIn True.intro (qDc _ (.inr (.inl rfl)) hc) (fun z=>nomatch z) (fin hr)
    | int k=>cases dx.int;obtain⟨t,rfl⟩:=ru;exact W.kia_one W.kitx_int I.kIn True.intro (qDc _ (.inr (.inr (.inl rfl))) hc) (fun z=>nomatch z) (fin hr)
    | str k=>cases dx.str;obtain⟨t,rfl⟩:=ru;exact W.kia_one W.kitx_str I.kIn True.intro (qDc _ (.inr (.inr (.inr (.inl rfl)))) hc) (fun z=>nomatch z) (fin hr)
    | tup xs =>
      obtain⟨a,ws,e1,s1,d1⟩:=dx.tup
      subst e1
      cases ru
      obtain⟨its,_,⟨o,h1,h2,_⟩,_⟩:=I.tuple s1
      exact W.kia_one W.kitx_tuple I.kIn ⟨o,h1,h2⟩ (qDc _ (.inr (.inr (.inr (.inr (.inl rfl))))) hc) (fun z=>nomatch z) (fin hr)
    | lst n =>
      obtain⟨ws,s1⟩:=dx.isL
      obtain⟨hn,e1⟩:=dx.lst
      subst e1
      cases ru
      obtain⟨its,_,pl,_⟩:=I.list s1
      obtain⟨ob,h1,h2,_⟩:=pl.isList
      exact W.kia_one W.kitx_list I.kIn ⟨ob,h1,h2⟩ (qDc _ (.inr (.inr (.inr (.inr (.inr rfl))))) hc) (fun z=>nomatch z) (fin hr)
    | ty _=>exact hr.elim
    | dic _=>exact hr.elim
    | ins _=>exact hr.elim
    | exc _=>exact hr.elim
end
end L3
namespace L3
open PySem PySem.Spec PyProof.Rows L2
section
variable {X:Cx} {s:Stmt} {rest:List Stmt} {t u:TSD} {e:Expr} {te:TD} {pos:Pos}
def qI:TSD:=fun E ρ st=>E.nx ρ st
def tseq (t u:TSD):TSD:=fun E ρ st=>t { E with nx:=u E } ρ st
theorem qMh:DSs X [] qI:=(qIU).imp fun E σ H h=>by
  k_dat 0"r6"
  exact n ρ st ht φ H σ (.refl pre.1) pre.2
theorem qG4 (h1:DS X s t) (h2:DSs X rest u):DSs X (s::rest) (tseq t u):=(qHG h1 h2).imp fun E σ H h=>by
  k_dat 0"r6"
  k_dat 0"r48"
  exact⟨φ',st',ρ',P,⟨bh.1,dr⟩,hu,fun ρ2 st2 h2 φ2 H2 σ2 b2 d2=>n ρ2 st2 h2 φ2 H2 σ2 (bh.trans b2) d2,fun ρ2 st2 h2 φ2 H2 σ2 b2 d2=>b ρ2 st2 h2 φ2 H2 σ2 (bh.trans b2) d2,
    fun ρ2 st2 h2 φ2 H2 σ2 b2 d2=>c ρ2 st2 h2 φ2 H2 σ2 (bh.trans b2) d2,fun d st2 h2 φ2 H2 v b2 d2=>r d st2 h2 φ2 H2 v (bh.trans b2) d2⟩
def qD8 (te:TD):TSD:=fun E ρ st=>te ρ st fun _ st1=>E.nx ρ st1
theorem qLx (he:DE X e te) (hs:swapsWith e none pos.line X.env=pure false:=by rfl):DS X (.Expr e pos) (qD8 te):=(qL3 he hs).imp fun E σ H h=>by
  k_dat 0"r6"
  exact⟨φ,st,ρ,_,pre,ht,fun d st1 h1 φ1 H1 v b1 dx=>n ρ st1 h1 φ1 H1 σ b1 (pre.on b1).2⟩
def qY (te:TD):TSD:=fun E ρ st=>te ρ st E.rt
theorem qNt (he:DE X e te):DS X (.Return (some e) pos) (qY te):=(qLE he).imp fun E σ H h=>by
  k_dat 0"r6"
  exact⟨φ,st,ρ,P.rt,pre,ht,r⟩
def qi (c:TBD) (t u:TSD):TSD:=fun E ρ st=>c ρ st fun k st1=>if k=true then t E ρ st1 else u E ρ st1
theorem qP3 {c:Expr} {a b:List Stmt} {tc:TBD} (hc:DT X c tc) (ha:DSs X a t) (hb:DSs X b u):DS X (.If c a b pos) (qi tc t u):=(qMw hc ha hb).imp fun E σ H h=>by
  k_dat 0"r6"
  k_dat 0"r23"
  have on:∀ {v:TSD},v P ρ st1→qFR X.K v E σ H1:=fun {v} hv=>⟨φ1,st1,ρ,P,pre.on b1,hv,fun ρ2 st2 h2 φ2 H2 σ2 b2 d2=>n ρ2 st2 h2 φ2 H2 σ2 (b1.trans b2) d2,fun ρ2 st2 h2 φ2 H2 σ2 b2 d2=>b ρ2 st2 h2 φ2 H2 σ2 (b1.trans b2) d2,
    fun ρ2 st2 h2 φ2 H2 σ2 b2 d2=>c ρ2 st2 h2 φ2 H2 σ2 (b1.trans b2) d2,fun d st2 h2 φ2 H2 v b2 d2=>r d st2 h2 φ2 H2 v (b1.trans b2) d2⟩
  cases k with
  | true=>exact qBA (on (by rw [if_pos rfl] at h1;exact h1))
  | false=>exact qBB (on (by rw [if_neg Bool.false_ne_true] at h1;exact h1))
noncomputable abbrev TGD:=Dt→Rho→Sto→(Rho→Sto→Prop)→Prop
noncomputable abbrev qHB:=List Dt→Rho→Sto→(Rho→Sto→Prop)→Prop
noncomputable def qKK (K:W.Frag) (g:TGD):TG:=fun v σ H Q=>∃ φ st ρ d P,Pre K φ st H ρ σ∧D K φ st.length H d v∧g d ρ st P∧∀ ρ' st',P ρ' st'→∀ φ' H' σ',Bhd K φ st H φ' st' H'→DR K φ' st'.length H' ρ' σ'→Q σ' H'
noncomputable def qN3 (K:W.Frag) (g:qHB):TGs:=fun vs σ H Q=>∃ φ st ρ ds P,Pre K φ st H ρ σ∧DL K φ st.length H ds vs∧g ds ρ st P∧∀ ρ' st',P ρ' st'→∀ φ' H' σ',Bhd K φ st H φ' st' H'→DR K φ' st'.length H' ρ' σ'→Q σ' H'
def DG (X:Cx) (tg:Expr) (g:TGD):Prop:=PG X tg (qKK X.K g)
def DGs (X:Cx) (tg:List Expr) (g:qHB):Prop:=PGs X tg (qN3 X.K g)
theorem _root_.L2.PG.imp {X:Cx} {e:Expr} {t t':TG} (h:PG X e t) (i:∀ v σ H Q,t' v σ H Q→t v σ H Q):PG X e t':=fun pins s σ H v u Q I r q=>h pins s σ H v u Q I r (i v σ H Q q)
theorem _root_.L2.PGs.imp {X:Cx} {e:List Expr} {t t':TGs} (h:PGs X e t) (i:∀ v σ H Q,t' v σ H Q→t v σ H Q):PGs X e t':=fun pins s σ H v u Q I r q=>h pins s σ H v u Q I r (i v σ H Q q)
noncomputable def qU (i:Nat):TGD:=fun d ρ st P=>P (ρ.set i (some d)) st
theorem qLQ (i:Nat) {x:Str} (hN:X.N.Nodup) (hi:X.N[i]? = some x:=by rfl) (hx:Loc X.env.scope x:=by first | exact Or.inl rfl | exact Or.inr rfl) (hf:X.fn x=true∨X.env.scope.names.lookup x=some .local:=by first | exact .inl rfl | exact .inr rfl | assumption):DG X (.Name x pos) (qU i) :=
  (qGD hN hi hx hf).imp fun v σ H Q h=>by
    obtain⟨φ,st,ρ,d,P,pre,hd,hg,hq⟩:=h
    exact hq _ st hg φ H _ (.refl pre.1) (pre.2.set hd i)
noncomputable def qD4:qHB:=fun ds ρ st P=>match ds with
  | []=>P ρ st
  | _=>False
noncomputable def qAc (g:TGD) (gs:qHB):qHB:=fun ds ρ st P=>match ds with
  | d::r=>g d ρ st fun ρ1 st1=>gs r ρ1 st1 P
  | _=>False
theorem qLs:DGs X [] qD4:=(qL8).imp fun v σ H Q h=>by
  obtain⟨φ,st,ρ,ds,P,pre,hd,hg,hq⟩:=h
  cases ds with
  | nil =>
    have:v=[]:=by simpa [DL] using hd
    exact⟨this,hq _ st hg φ H _ (.refl pre.1) pre.2⟩
  | cons _ _=>exact hg.elim
theorem qJi {es:List Expr} {g:TGD} {gs:qHB} (h1:DG X e g) (h2:DGs X es gs) (hs:(assignEach (e::es) X.env).map (·.2)=assign e X.env::(assignEach es X.env).map (·.2):=by rfl):DGs X (e::es) (qAc g gs):=(qLM h1 h2 hs).imp fun v σ H Q h=>by
  obtain⟨φ,st,ρ,ds,P,pre,hd,hg,hq⟩:=h
  cases ds with
  | nil=>exact hg.elim
  | cons d r =>
    simp only [DL] at hd
    obtain⟨w,ws,rfl,dw,dws⟩:=hd
    refine⟨w,ws,rfl,φ,st,ρ,d,_,pre,dw,hg,fun ρ1 st1 h1 φ1 H1 σ1 b1 dr1=>?_⟩
    exact⟨φ1,st1,ρ1,r,P,⟨b1.1,dr1⟩,dws.evo b1.2,h1,fun ρ2 st2 h2 φ2 H2 σ2 b2 d2=>hq ρ2 st2 h2 φ2 H2 σ2 (b1.trans b2) d2⟩
noncomputable def qBU (n:Nat) (gs:qHB):TGD:=fun d ρ st P=>match qo st d with
  | some xs=>xs.length=n∧gs xs ρ st P
  | none=>False
theorem qFd {prog:Program} {w:World} {A:Around} {E:Value→Shared→Prop} {it l:Addr} {items:Array Value} (hne:l≠it):∀ (n i:Nat) (s:Shared) (Q:List Value→Shared→Prop),s.heap.IsListIter it l i→s.heap.IsList l items→i+n≤items.size →
    (∀ h',h'.IsListIter it l (i+n)→Heap.SameBut it s.heap h'→Q ((items.toList.drop i).take n) { s with heap:=h' })→wpAny (model prog w) A (draw (.ref it) n) Q E s
  | 0,i,s,Q,hit,hl,hn,h=>by
    unfold draw
    have:=h s.heap (by simpa using hit) (.refl ..)
    simpa using wpAny_pure this
  | n + 1,i,s,Q,hit,hl,hn,h=>by
    unfold draw
    have hi:i<items.size:=by omega
    refine wpAny_bind (wpAny_pyNext_list_item hit hl (x:=items[i]) (by simp [hi]) fun h1 hit1 sb1=>?_)
    dsimp only
    refine wpAny_bind (wpAny_holding ?_)
    refine qFd hne n (i+1) { s with heap:=h1 } _ hit1 (hl.extBut sb1.extBut hne) (by omega) fun h2 hit2 sb2=>?_
    refine wpAny_pure ?_
    have e:(items.toList.drop i).take (n+1)=items[i]::(items.toList.drop (i+1)).take n:=by
      rw [List.drop_eq_getElem_cons (by simpa using hi),List.take_succ_cons]
      simp
    have:=h h2 (by rw [show i+(n+1)=i+1+n by omega];exact hit2) (sb1.trans sb2)
    rw [e] at this
    exact this
end
end L3
namespace L3
open PySem PySem.Spec PyProof.Rows L2
section
variable {prog:Program} {w:World} {A:Around} {E:Value→Shared→Prop} {s:Shared}
theorem qDe {l:Addr} {items:Array Value} {Q:List Value→Shared→Prop} (hh:A.handled=none) (hl:s.heap.IsList l items)
    (hQ:∀ h',Heap.ExtBut s.heap.objs.size s.heap h'→Q items.toList { s with heap:=h' }):wpAny (model prog w) A (unpackItems (.ref l) items.size none) Q E s:=by
  have hlt:l≠s.heap.objs.size:=by obtain⟨o,ho,_⟩:=hl;exact Nat.ne_of_lt (Heap.lt_size ho)
  unfold unpackItems
  refine wpAny_bind ?_
  unfold notIterableAtAll
  refine wpAny_bind (wpAny_specialOf hl.typeIs slot_list_iter.lookup ?_)
  refine wpAny_pure ?_
  simp only [Bool.false_eq_true,if_false]
  refine wpAny_bind (wpAny_holding (wpAny_pyIter_list hl ?_))
  refine wpAny_bind (wpAny_holding (qFd hlt items.size 0 _ _ ⟨_,Heap.get?_push_size _ rfl,rfl,rfl⟩ (hl.push _) (by omega) fun h₁ hit₁ hs₁=>?_))
  have hall:List.take items.size (List.drop 0 items.toList)=items.toList:=by
    rw [List.drop_zero];exact List.take_of_length_le (by simp)
  rw [hall]
  rw [if_neg (by simp)]
  have hl₁:h₁.IsList l items:=(hl.push _).extBut hs₁.extBut hlt
  refine wpAny_bind (wpAny_holding (wpAny_pyNext_list_end hh hit₁ hl₁ (by simp) fun h₂ he₂=>?_))
  simp only [Option.isSome_none,Bool.false_eq_true,if_false]
  exact wpAny_pure (hQ h₂ fun b o hb e=>he₂ b o hb (hs₁.extBut b o hb (Heap.get?_push_of_some _ e)))
theorem qC9 {env:Env} {elts:List Expr} {x1} {pos:Pos} {t:Addr} {items:Array Value} {Q:Unit→Shared→Prop} (hh:A.handled=none) (ht:s.heap.IsList t items)
    (hn:(assignEach elts env).length=items.size) (hstar:(assignEach elts env).findIdx? (·.1)=none)
    (h:∀ h',Heap.ExtBut s.heap.objs.size s.heap h'→wpAny (model prog w) A (assignInOrder ((assignEach elts env).map (·.2)) items.toList) Q E { s with heap:=h' }) :
    wpAny (model prog w) A (assign (.Tuple elts x1 pos) env (.ref t)) Q E s:=by
  rw [assign_Tuple]
  refine wpAny_bind (wpAny_standAt ?_)
  unfold unpack
  rw [hn,hstar]
  exact wpAny_bind (wpAny_holding (qDe hh ht h))
end
section
variable {X:Cx} {pos:Pos} {e:Expr} {te:TD}
theorem qJA {es:List Expr} {k:Nat} {gs:qHB} (n:Nat) (hc:X.calm=true) (h:DGs X es gs) (hn:(assignEach es X.env).length=n:=by rfl) (hst:(assignEach es X.env).findIdx? (·.1)=none:=by rfl):DG X (.Tuple es k pos) (qBU n gs):=by
  intro pins s σ H v u Q I r hw
  obtain⟨φ,st,ρ,d,P,pre,hd,hg,hq⟩:=hw
  unfold qBU at hg
  split at hg
  · rename_i xs ex
    obtain⟨hl,hg⟩:=hg
    obtain⟨p,vs,e1,hs,dl⟩:=qBp pre.1 hd ex
    subst e1
    cases r
    have hlen:=dl.length
    rcases hs with ⟨hs,_⟩ | ⟨hs,_⟩
    · obtain⟨its,rv,pl,_⟩:=I.list hs
      have:=rv.length
      refine qC9 (I.ok.hd hc) pl.isList (by rw [hn,List.size_toArray];omega) hst fun h' hx=>?_
      k_dat 0"r49"
      exact h pins _ σ H vs _ Q I1 (by simpa using rv) ⟨φ,st,ρ,xs,P,pre,dl,hg,hq⟩
    · obtain⟨its,rv,ht,_⟩:=I.tuple hs
      have:=rv.length
      refine assign_Tuple_tuple (I.ok.hd hc) ht (by rw [hn,List.size_toArray];omega) hst fun h' hx=>?_
      k_dat 0"r49"
      exact h pins _ σ H vs _ Q I1 (by simpa using rv) ⟨φ,st,ρ,xs,P,pre,dl,hg,hq⟩
  · exact hg.elim
def qAE (te:TD) (g:TGD):TSD:=fun E ρ st=>te ρ st fun d st1=>g d ρ st1 E.nx
theorem qKW {K:W.Frag} {te:TD} {g:TGD} {E:Ends} {σ:L2.St} {H:Hp} (h:qFR K (qAE te g) E σ H):qMY (qAz K te) (qKK K g) E σ H:=by
  k_dat 0"r6"
  k_dat 0"r14"
  exact⟨φ1,st1,ρ,d,P.nx,pre.on b1,dx,h1,fun ρ2 st2 h2 φ2 H2 σ2 b2 d2=>n ρ2 st2 h2 φ2 H2 σ2 (b1.trans b2) d2⟩
theorem qOR {tg:Expr} {g:TGD} (he:DE X e te) (hg:DG X tg g) (hs:swapsWithSole [tg] e pos.line X.env=pure false:=by rfl) (hw:swappedStores [tg] e X.env=pure none:=by rfl)
    (h1:(assignEach [tg] X.env).map (·.2)=[assign tg X.env]:=by rfl):DS X (.Assign [tg] e pos) (qAE te g):=(qOU he hg hs hw h1).imp fun _ _ _=>qKW
theorem qPU (i:Nat) {x:Str} {pos':Pos} (hN:X.N.Nodup) (he:DE X e te) (hi:X.N[i]? = some x:=by rfl) (hx:Loc X.env.scope x:=by first | exact Or.inl rfl | exact Or.inr rfl) (hs:swapsWith e (some (.Name x pos')) pos.line X.env=pure false:=by rfl)
    (hf:X.fn x=true∨X.env.scope.names.lookup x=some .local:=by first | exact .inl rfl | exact .inr rfl | assumption):DS X (.Assign [.Name x pos'] e pos) (qAE te (qU i)):=(qPJ hN hi hx he hs hf).imp fun E σ H h=>by
  k_dat 0"r6"
  exact⟨φ,st,ρ,_,pre,ht,fun d st1 h1 φ1 H1 v b1 dx=>n _ st1 h1 φ1 H1 _ b1 ((pre.on b1).2.set dx i)⟩
noncomputable def qPt (to ti:TD):TGD:=fun d ρ st P=>to ρ st fun o st1=>ti ρ st1 fun i st2=>match o,i with
  | .lst n,.int k=>(match st2[n]? with
    | some (.rw xs)=>(match ixN xs.length k with
      | some j=>P ρ (st2.set n (.rw (xs.set j d)))
      | none=>False)
    | _=>False)
  | _,_=>False
theorem qNa {o i:Expr} {to ti:TD} (ho:DE X o to) (hi:DE X i ti)
    (ha:∀ v,assign (.Subscript o i pos) X.env v=(do
      let ov ← holding [v] (eval o X.env)
      let iv ← holding [v,ov] (eval i X.env)
      standAt pos
      holding [v,ov,iv] (setItem ov iv v)
      release [v,ov,iv] []):=by intro _;rfl):DG X (.Subscript o i pos) (qPt to ti):=(qNU ho hi set_list ha).imp fun v σ H Q h=>by
  obtain⟨φ,st,ρ,d,P,pre,hd,hg,hq⟩:=h
  refine⟨φ,st,ρ,_,pre,hg,fun x st1 h1 φ1 H1 w b1 dx=>?_⟩
  refine⟨φ1,st1,ρ,_,pre.on b1,h1,fun y st2 h2 φ2 H2 z b2 dy=>?_⟩
  cases x with
  | lst n =>
    cases y with
    | int k =>
      have h2':(match st2[n]? with
        | some (.rw xs)=>(match ixN xs.length k with
          | some j=>P ρ (st2.set n (.rw (xs.set j d)))
          | none=>False)
        | _=>False):=h2
      split at h2'
      · rename_i xs ex
        split at h2'
        · rename_i j ej
          obtain⟨vs,hv,dl⟩:=b2.1.rw n xs ex
          have dx2:=dx.evo b2.2
          have hd2:=(hd.evo b1.2).evo b2.2
          refine⟨φ2 n,vs,k,j,dx2.lst.2,dy.int,hv,by rw [← dl.length];exact ej,?_⟩
          have bb:Bhd X.K φ2 st2 H2 φ2 (st2.set n (.rw (xs.set j d))) (upd H2 (φ2 n) (.lst (vs.set j v))):=⟨b2.1.qP7 ex (dl.set hd2 j),qGd hv⟩
          exact hq _ _ h2' φ2 _ σ (b1.trans (b2.trans bb)) (((pre.on b1).on b2).on bb).2
        · exact h2'.elim
      · exact h2'.elim
    | _=>exact h2.elim
  | _=>cases y<;>exact h2.elim
def qA0 (to te:TD):TD:=fun ρ st P=>to ρ st fun o st1=>match o with
  | .lst n=>te ρ st1 fun d st2=>(match st2[n]? with
    | some (.rw xs)=>xs.length<sizeLine∧P .non (st2.set n (.rw (xs++[d])))
    | _=>False)
  | _=>False
theorem qI4 {o:Expr} {to:TD} {apos cpos:Pos} (ho:DE X o to) (he:DE X e te)
    (hbase:attributeBase o "append" X.env (eval o X.env)=eval o X.env:=by rfl)
    (hfew:((backTo cpos (starEach [e] X.env)).all (fun x=>!x.1)&&(backToKw cpos (keywordEach [] X.env)).all (fun x=>x.1.isSome)
      && decide (([e]:List Expr).length+([]:List Keyword).length+(if ([]:List Keyword).isEmpty then 0 else 1)<30))=true:=by rfl)
    (hline:(apos.endLine==cpos.line)=true:=by rfl) (hs:starEach [e] X.env=(false,eval e X.env)::starEach [] X.env:=by rfl) (hplain:(backTo cpos (starEach ([]:List Expr) X.env)).any (·.1)=false:=by rfl) :
    DE X (.Call (.Attribute o "append" apos) [e] [] cpos) (qA0 to te):=by
  refine PE.imp (qP8 PySem.F.plainAttrs_list PySem.F.slot_list_append PySem.F.type_list_append qJC ho (qF0 he qHp hs) hbase hfew hline hs hplain) fun σ H Q h=>?_
  k_dat 0"r0"
  k_dat 0"r20"
  cases x with
  | lst n =>
    have hn:=dx.lst.1
    obtain⟨so,eo⟩:∃ so,st1[n]? = some so:=⟨st1[n],by simp [hn]⟩
    obtain⟨ws,hws,_⟩:=b1.1.seq eo dx.isL
    refine⟨?_,?_⟩
    · rw [dx.lst.2]
      exact .inl ⟨rfl,ws,hws⟩
    refine⟨φ1,st1,ρ,(fun ds st2=>match ds with
      | [d]=>(match st2[n]? with
        | some (.rw xs)=>xs.length<sizeLine∧P .non (st2.set n (.rw (xs++[d])))
        | _=>False)
      | _=>False),pre.on b1,h1,fun ds st2 h2 φ2 H2 zs b2 dz=>?_⟩
    rcases ds with _ | ⟨d,_ | ⟨d2,r⟩⟩
    · exact h2.elim
    rotate_left
    · exact h2.elim
    · have h2:(match st2[n]? with
        | some (.rw xs)=>xs.length<sizeLine∧P .non (st2.set n (.rw (xs++[d])))
        | _=>False):=h2
      split at h2
      · rename_i xs ex
        obtain⟨y,rfl,dy⟩:=dz.one
        obtain⟨vs,hv,dl⟩:=b2.1.rw n xs ex
        have dx2:=dx.evo b2.2
        have bb:Bhd X.K φ2 st2 H2 φ2 (st2.set n (.rw (xs++[d]))) (upd H2 (φ2 n) (.lst (vs++[y]))):=⟨b2.1.qP7 ex (dl.append (.cons dy .nil)),qGd hv⟩
        exact⟨φ2 n,vs,y,dx2.lst.2,rfl,hv,by rw [← dl.length];exact h2.1,hq _ _ h2.2 φ2 _ _ (b1.trans (b2.trans bb)) D.qIf⟩
      · exact h2.elim
  | _=>exact h1.elim
end
end L3
namespace L3
open PySem PySem.Spec PyProof.Rows L2
def qFJ (items:List Dt) (ok:Sto→Prop) (g:TGD) (tb:TSD):TSD:=fun E ρ st=>∃ Inv:Nat→Rho→Sto→Prop,Inv 0 ρ st∧(∀ i ρ' st',i≤items.length→Inv i ρ' st'→ok st') ∧
  (∀ (i:Nat) d ρ' st',items[i]? = some d→Inv i ρ' st'→g d ρ' st' fun ρ2 st2=>tb { E with nx:=Inv (i+1),ct:=Inv (i+1),bk:=E.nx } ρ2 st2)∧∀ ρ' st',Inv items.length ρ' st'→E.nx ρ' st'
def qGZ (K:W.Frag) (φ1:Nat→Addr) (st1:Sto) (H1:Hp) (J:It) (items:List Dt) (ok:Sto→Prop):Prop :=
  ∀ (i:Nat) φ' st' H',Bhd K φ1 st1 H1 φ' st' H'→ok st'→i≤items.length→(i=items.length→J.stop i H') ∧
    (∀ d,items[i]? = some d→J.go i H'∧∀ y H2,J.yld i H' y H2→Bhd K φ' st' H' φ' st' H2∧D K φ' st'.length H2 d y)
section
variable {K:W.Frag} {φ1:Nat→Addr} {st1:Sto} {H1:Hp} {ρ1:Rho} {σ1:L2.St} {J:It} {items:List Dt} {ok:Sto→Prop} {g:TGD} {tb:TSD}
theorem qLk {E:qBH} {E':Ends} (pre:Pre K φ1 st1 H1 ρ1 σ1) (hJ:qGZ K φ1 st1 H1 J items ok) (hf:qFJ items ok g tb E ρ1 st1)
    (n:∀ ρ' st',E.nx ρ' st'→∀ φ' H' σ',Bhd K φ1 st1 H1 φ' st' H'→DR K φ' st'.length H' ρ' σ'→E'.nx σ' H')
    (r:∀ d st',E.rt d st'→∀ φ' H' v,Bhd K φ1 st1 H1 φ' st' H'→D K φ' st'.length H' d v→E'.rt v H') :
    ∃ W:Nat→Nat→L2.St→Hp→Prop,(∃ m,W 0 m σ1 H1)∧∀ i m σ H,W i m σ H →
      (J.stop i H∧E'.nx σ H)∨(J.go i H∧∃ N:L2.St→Hp→Prop,(∀ σ' H',N σ' H'→∃ m',m'<m∧W (i+1) m' σ' H')∧∀ x H',J.yld i H x H'→qKK K g x σ H' fun σ2 H2=>qFR K tb { E' with nx:=N,ct:=N,bk:=E'.nx } σ2 H2):=by
  obtain⟨Inv,h0,hok,step,fin⟩:=hf
  refine⟨fun i m σ H=>m=items.length - i∧i≤items.length∧∃ φ' st' ρ',Pre K φ' st' H ρ' σ∧Bhd K φ1 st1 H1 φ' st' H∧Inv i ρ' st',⟨items.length,by simp,Nat.zero_le _,φ1,st1,ρ1,pre,.refl pre.1,h0⟩,?_⟩
  rintro i m σ H ⟨rfl,hi,φ',st',ρ',pre',bh,hI⟩
  obtain⟨js,jg⟩:=hJ i φ' st' H bh (hok i ρ' st' hi hI) hi
  by_cases hlt:i<items.length
  · have ed:items[i]? = some items[i]:=by simp [hlt]
    obtain⟨go,yl⟩:=jg _ ed
    refine .inr ⟨go,fun σ3 H3=>∃ φ3 st3 ρ3,Pre K φ3 st3 H3 ρ3 σ3∧Bhd K φ1 st1 H1 φ3 st3 H3∧Inv (i+1) ρ3 st3,fun σ3 H3 h3=>⟨items.length - (i+1),by omega,rfl,hlt,h3⟩,fun y H2 hy=>?_⟩
    obtain⟨b2,dy⟩:=yl y H2 hy
    refine⟨φ',st',ρ',items[i],_,pre'.on b2,dy,step i _ ρ' st' ed hI,fun ρ3 st3 h3 φ3 H3 σ3 b3 d3=>?_⟩
    have b13:=bh.trans (b2.trans b3)
    refine⟨φ3,st3,ρ3,_,⟨b3.1,d3⟩,h3,fun ρ4 st4 h4 φ4 H4 σ4 b4 d4=>⟨φ4,st4,ρ4,⟨b4.1,d4⟩,b13.trans b4,h4⟩,fun ρ4 st4 h4 φ4 H4 σ4 b4 d4=>n ρ4 st4 h4 φ4 H4 σ4 (b13.trans b4) d4,
      fun ρ4 st4 h4 φ4 H4 σ4 b4 d4=>⟨φ4,st4,ρ4,⟨b4.1,d4⟩,b13.trans b4,h4⟩,fun d st4 h4 φ4 H4 v b4 d4=>r d st4 h4 φ4 H4 v (b13.trans b4) d4⟩
  · have e:i=items.length:=by omega
    subst e
    exact .inl ⟨js rfl,n ρ' st' (fin ρ' st' hI) φ' H σ bh pre'.2⟩
end
noncomputable abbrev TID:=Rho→Sto→(List Dt→(Sto→Prop)→Sto→Prop)→Prop
noncomputable def qMy (K:W.Frag) (t:TID):TI:=fun σ H R=>∃ φ st ρ P,Pre K φ st H ρ σ∧t ρ st P∧∀ items ok st',P items ok st'→∀ φ' H' J,Bhd K φ st H φ' st' H'→qGZ K φ' st' H' J items ok→R J H'
def DI (X:Cx) (tg it:Expr) (t:TID):Prop:=PI X tg it (qMy X.K t)
def qDo (ti:TID) (g:TGD) (tb:TSD):TSD:=fun E ρ st=>ti ρ st fun items ok st1=>qFJ items ok g tb E ρ st1
section
variable {X:Cx} {tg iter:Expr} {body:List Stmt} {pos:Pos} {ti:TID} {g:TGD} {tb:TSD}
theorem qN7 (hp:PassesOwn (model X.prog X.w) X.A X.env X.xe) (hc:X.calm=true) (hi:DI X tg iter ti) (hg:DG X tg g) (hb:DSs X body tb) (hs:∀ x,foldedSetIterable iter X.env x=pure x:=by intro _;rfl):DS X (.For tg iter body [] pos) (qDo ti g tb) :=
  (qN5 hp hc hi hg hb hs).imp fun E σ H h=>by
    k_dat 0"r6"
    refine⟨φ,st,ρ,_,pre,ht,fun items ok st1 h1 φ1 H1 J b1 hJ=>?_⟩
    exact qLk (pre.on b1) hJ h1 (fun ρ2 st2 h2 φ2 H2 σ2 b2 d2=>n ρ2 st2 h2 φ2 H2 σ2 (b1.trans b2) d2) fun d st2 h2 φ2 H2 v b2 d2=>r d st2 h2 φ2 H2 v (b1.trans b2) d2
def qCl (te:TD):TID:=fun ρ st P=>te ρ st fun x st1=>match qo st1 x with
  | some xs=>P xs (fun st'=>qo st' x=some xs) st1
  | none=>False
theorem qPD {te:TD} (he:DE X iter te):DI X tg iter (qCl te):=by
  intro pins s σ H R I h
  k_dat 0"r0"
  refine thn (he pins s σ H _ I ⟨φ,st,ρ,_,pre,ht,fun x st1 h1 φ1 H1 v b1 dx=>(show ∃ φ1 st1 x,Bhd X.K φ st H φ1 st1 H1∧D X.K φ1 st1.length H1 x v∧(match qo st1 x with
    | some xs=>P xs (fun st'=>qo st' x=some xs) st1
    | none=>False) from⟨φ1,st1,x,b1,dx,h1⟩)⟩) fun u s1 ⟨v,H1,I1,ru,φ1,st1,x,b1,dx,h1⟩=>?_
  split at h1
  · rename_i xs ex
    obtain⟨a,vs,e1,hs,dl⟩:=qBp b1.1 dx ex
    subst e1
    cases ru
    rcases hs with ⟨hs,n,exn⟩ | ⟨hs,_⟩
    · obtain⟨its,rv,pl,hz⟩:=I1.list hs
      refine wpAny_pyIter_list pl.isList ?_
      refine⟨s1.heap.objs.size,[s1.heap.objs.size],_,_,H1,rfl,I1.kept (t':=s1.toks) fun b o e=>Heap.get?_push_of_some _ e,qI3 a _,⟨_,Heap.get?_push_size _ rfl,rfl,rfl⟩,fun b hb=>?_,hq xs _ st1 h1 φ1 H1 _ b1 ?_⟩
      · have e:b=s1.heap.objs.size:=by simpa using hb
        subst e
        k_dat 0"r32"
      · intro i φ' st' H' bh hok hi
        obtain⟨a',ws,e2,hs',dl'⟩:=qBp bh.1 (dx.evo bh.2) hok
        cases e2
        have hsl:SqL X.K H' a ws:=by
          rcases hs' with z | ⟨_,z⟩
          · exact z.1
          · rw [exn] at z;cases z
        have hlen:=dl'.length
        refine⟨fun e=>⟨ws,hsl,by omega⟩,fun d ed=>?_⟩
        obtain⟨y,ey,dy⟩:=dl'.get ed
        refine⟨⟨ws,y,hsl,ey⟩,fun y' H2 hy=>?_⟩
        obtain⟨rfl,hy⟩:=hy
        have:=hy ws hsl
        rw [ey] at this
        cases this
        exact⟨.refl bh.1,dy⟩
    · obtain⟨its,rv,pl,hz⟩:=I1.tuple hs
      refine wpAny_pyIter_tuple (show s1.heap.IsTuple a its.toArray from pl) ?_
      refine⟨s1.heap.objs.size,[s1.heap.objs.size],_,_,H1,rfl,I1.kept (t':=s1.toks) fun b o e=>Heap.get?_push_of_some _ e,qHs a _,⟨_,Heap.get?_push_size _ rfl,rfl,rfl⟩,fun b hb=>?_,hq xs _ st1 h1 φ1 H1 _ b1 ?_⟩
      · have e:b=s1.heap.objs.size:=by simpa using hb
        subst e
        k_dat 0"r32"
      · intro i φ' st' H' bh hok hi
        have hsl:SqT X.K H' a vs:=bh.2.tup a vs hs
        have dl':=dl.evo bh.2
        have hlen:=dl'.length
        refine⟨fun e=>⟨vs,hsl,by omega⟩,fun d ed=>?_⟩
        obtain⟨y,ey,dy⟩:=dl'.get ed
        refine⟨⟨vs,y,hsl,ey⟩,fun y' H2 hy=>?_⟩
        obtain⟨rfl,hy⟩:=hy
        have:=hy vs hsl
        rw [ey] at this
        cases this
        exact⟨.refl bh.1,dy⟩
  · exact h1.elim
noncomputable def qBW (lo:Int) (n:Nat):List Dt:=(List.range n).map fun k=>.int (lo+(k:Nat))
theorem qBz {lo:Int} {n i:Nat} {d:Dt} (h:(qBW lo n)[i]? = some d):i<n∧d = .int (lo+(i:Nat)):=by
  unfold qBW at h
  rw [List.getElem?_map] at h
  cases q:(List.range n)[i]? with
  | none=>rw [q] at h;cases h
  | some k =>
    rw [q] at h
    have:=List.getElem?_eq_some_iff.mp q
    obtain⟨h1,h2⟩:=this
    rw [List.getElem_range] at h2
    subst h2
    rw [List.length_range] at h1
    exact⟨h1,(Option.some.inj h).symm⟩
theorem qBJ {lo:Int} {n:Nat}:(qBW lo n).length=n:=by unfold qBW;simp
theorem qGH {K:W.Frag} {φ:Nat→Addr} {st:Sto} {H:Hp} {lo:Int} {n:Nat}:qGZ K φ st H (Itr lo n) (qBW lo n) (fun _=>True):=fun i φ' st' H' bh _ hi=>by
  rw [qBJ] at hi
  refine⟨fun e=>by rw [qBJ] at e;exact Nat.le_of_eq e.symm,fun d ed=>?_⟩
  obtain⟨h1,rfl⟩:=qBz ed
  refine⟨h1,fun y H2 hy=>?_⟩
  obtain⟨rfl,rfl⟩:=hy
  exact⟨.refl bh.1,D.mkInt⟩
def qCK (ta:TD):TID:=fun ρ st P=>ta ρ st fun x st1=>match x with
  | .int j=>-(2 ^ 62)≤j∧j<2 ^ 62∧P (qBW 0 j.toNat) (fun _=>True) st1
  | _=>False
theorem qJc {a:Expr} {ta:TD} {p:Pos} (hm:X.mg "range" = none) (ha:DE X a ta) (hg:Gl X "range":=by rfl) (hs:starEach [a] X.env=[(false,eval a X.env)]:=by rfl):DI X tg (.Call (.Name "range" p) [a] [] pos) (qCK ta):=by
  intro pins s σ H R I h
  refine qI0 hg hm (qF0 ha qHp hs) hs pins s σ H R I ?_
  k_dat 0"r0"
  refine⟨φ,st,ρ,(fun ds st1=>match ds with
    | [x]=>(match x with
      | .int j=>-(2 ^ 62)≤j∧j<2 ^ 62∧P (qBW 0 j.toNat) (fun _=>True) st1
      | _=>False)
    | _=>False),pre,?_,fun ds st1 h1 φ1 H1 vs b1 dl=>?_⟩
  · exact ht
  · rcases ds with _ | ⟨d,_ | ⟨d2,r⟩⟩
    · exact h1.elim
    rotate_left
    · exact h1.elim
    · cases d<;>first
        | exact h1.elim
        | skip
      rename_i j
      obtain⟨v,rfl,dv⟩:=dl.one
      obtain⟨h2,h3,h4⟩:=h1
      exact⟨j,by rw [dv.int],h2,h3,hq _ _ st1 h4 φ1 H1 _ b1 qGH⟩
def qG0 (items:List Dt) (ok:Sto→Prop) (tc:TBD) (te:TD) (cρ:Rho) (st:Sto) (Fin:List Dt→Sto→Prop):Prop:=∃ Inv:Nat→List Dt→Sto→Prop,Inv 0 [] st∧(∀ i ys st',i≤items.length→Inv i ys st'→ok st') ∧
  (∀ (i:Nat) d ys st',items[i]? = some d→Inv i ys st'→ys.length<sizeLine∧tc (some d::cρ) st' fun k st1=>if k=true then te (some d::cρ) st1 fun y st2=>Inv (i+1) (ys++[y]) st2 else Inv (i+1) ys st1) ∧
  ∀ ys st',Inv items.length ys st'→Fin ys st'
noncomputable def qIB (caps:List (Nat×Str)) (ρ:Rho):Rho:=caps.map fun p=>(ρ[p.1]?).join
theorem qPE {K:W.Frag} {φ:Nat→Addr} {N:Nat} {H:Hp} {ρ:Rho} {σ:L2.St} (h:DR K φ N H ρ σ) (caps:List (Nat×Str)):DR K φ N H (qIB caps ρ) (qFy caps σ):=by
  refine⟨by unfold qIB qFy;simp,fun i d e=>?_⟩
  unfold qIB at e
  rw [List.getElem?_map] at e
  unfold qFy
  rw [List.getElem?_map]
  cases q:caps[i]? with
  | none=>rw [q] at e;cases e
  | some p =>
    rw [q] at e
    have e':(ρ[p.1]?).join=some d:=Option.some.inj e
    have e2:ρ[p.1]? = some (some d):=by
      cases q:ρ[p.1]? with
      | none=>rw [q] at e';cases e'
      | some o=>rw [q] at e';exact congrArg some e'
    obtain⟨v,ev,dv⟩:=h.2 p.1 d e2
    exact⟨v,by show some ((σ[p.1]?).join)=_;rw [ev];rfl,dv⟩
theorem qLn {K:W.Frag} {φ:Nat→Addr} {N:Nat} {H:Hp} {ρ:Rho} {σ:L2.St} {o:Option V} {d:Dt} {v:V} (h:DR K φ N H ρ σ) (hd:D K φ N H d v):DR K φ N H (some d::ρ) (some v::σ):=by
  refine⟨by rw [List.length_cons,List.length_cons,h.1],fun i e q=>?_⟩
  cases i with
  | zero=>simp at q;subst q;exact⟨v,rfl,hd⟩
  | succ i=>exact h.2 i e (by simpa using q)
def DIf (X:Cx) (ifs:List Expr) (t:TBD):Prop:=PIf X ifs (liftT X.K t)
theorem qLZ:DIf X [] (fun _ st P=>P true st):=fun pins s σ H Q I h=>by
  k_dat 0"r0"
  exact qLp pins s σ H Q I (hq true st ht φ H (.refl pre.1))
theorem qMW {c:Expr} {t:TBD} (h:DT X c t):DIf X [c] t:=qLt h
theorem qKG {K:W.Frag} {φ1:Nat→Addr} {st1:Sto} {H1:Hp} {cρ:Rho} {cσ:L2.St} {J:It} {items:List Dt} {ok:Sto→Prop} {tc:TBD} {te:TD} {Fin:List Dt→Sto→Prop} {Fin':List V→Hp→Prop}
    (R:Rep K φ1 st1 H1) (dr:DR K φ1 st1.length H1 cρ cσ) (hJ:qGZ K φ1 st1 H1 J items ok) (hc:qG0 items ok tc te cρ st1 Fin)
    (hF:∀ ys st' φ' H' vs,Fin ys st'→Bhd K φ1 st1 H1 φ' st' H'→DL K φ' st'.length H' ys vs→Fin' vs H') :
    qK3 J (qE1 0) (liftT K tc) (qAz K te) (List.replicate 1 none++cσ) H1 Fin':=by
  obtain⟨Inv,h0,hok,step,fin⟩:=hc
  refine⟨fun i m σ vs H=>m=items.length - i∧i≤items.length∧∃ φ' st' ys o,σ=o::cσ∧Bhd K φ1 st1 H1 φ' st' H∧DL K φ' st'.length H ys vs∧Inv i ys st',
    ⟨items.length,by simp,Nat.zero_le _,φ1,st1,[],none,rfl,.refl R,.nil,h0⟩,?_⟩
  rintro i m σ vs H ⟨rfl,hi,φ',st',ys,o,rfl,bh,dl,hI⟩
  obtain⟨js,jg⟩:=hJ i φ' st' H bh (hok i ys st' hi hI) hi
  by_cases hlt:i<items.length
  · have ed:items[i]? = some items[i]:=by simp [hlt]
    obtain⟨go,yl⟩:=jg _ ed
    obtain⟨hz,hstep⟩:=step i _ ys st' ed hI
    refine .inr ⟨go,by rw [← dl.length];exact hz,fun y H2 hy=>?_⟩
    obtain⟨b2,dy⟩:=yl y H2 hy
    have b12:=bh.trans b2
    have pre2:Pre K φ' st' H2 (some items[i]::cρ) (some y::cσ):=⟨b2.1,qLn (o:=none) (dr.evo b12.2) dy⟩
    show liftT K tc (some y::cσ) H2 _
    refine⟨φ',st',_,_,pre2,hstep,fun k st3 h3 φ3 H3 b3=>?_⟩
    cases k with
    | false =>
      rw [if_neg Bool.false_ne_true] at h3 ⊢
      exact⟨items.length - (i+1),by omega,rfl,hlt,φ3,st3,ys,some y,rfl,b12.trans b3,dl.evo (b2.2.trans b3.2),h3⟩
    | true =>
      rw [if_pos rfl] at h3 ⊢
      refine⟨φ3,st3,_,_,pre2.on b3,h3,fun z st4 h4 φ4 H4 w b4 dz=>?_⟩
      exact⟨items.length - (i+1),by omega,rfl,hlt,φ4,st4,ys++[z],some y,rfl,b12.trans (b3.trans b4),(dl.evo (b2.2.trans (b3.2.trans b4.2))).append (.cons dz .nil),h4⟩
  · have e:i=items.length:=by omega
    subst e
    exact .inl ⟨js rfl,hF ys st' φ' H vs (fin ys st' hI) bh dl⟩
def qCm (ti:TID) (tc:TBD) (te:TD) (caps:List (Nat×Str)):TD:=fun ρ st P=>ti ρ st fun items ok st1=>qG0 items ok tc te (qIB caps ρ) st1 fun ys st2=>P (.lst st2.length) (st2++[.rw ys])
theorem qFf {K:W.Frag} {tc:TBD} {te:TD} {caps:List (Nat×Str)} {σ:L2.St} {H:Hp} {Q:VK} (h:qAz K (qCm ti tc te caps) σ H Q):qKp (qMy K ti) (qE1 0) (liftT K tc) (qAz K te) 1 caps σ H Q:=by
  k_dat 0"r0"
  refine⟨φ,st,ρ,_,pre,ht,fun items ok st1 h1 φ1 H1 J b1 hJ=>?_⟩
  refine qKG b1.1 (qPE (pre.on b1).2 caps) hJ h1 fun ys st2 φ2 H2 vs hF b2 dl p hp=>?_
  exact hq _ _ hF _ _ _ (b1.trans (b2.trans (qCj b2.1 hp dl))) qFi
variable {elt:Expr} {ifs:List Expr} {sc:Scope} {x:Str} {px:Pos} {tc:TBD} {te:TD}
theorem qFv (caps:List (Nat×Str)) (hc:X.calm=true) (S:qAg X.env.scope X.N caps sc) (hx:sc.names.lookup x=some .local) (hnd:([x]++caps.map (·.2)).Nodup) (hi:DI X (.Name x px) iter ti)
    (hif:∀ C s H fp,DIf (qAV X [x] caps sc C s H fp) ifs tc) (he:∀ C s H fp,DE (qAV X [x] caps sc C s H fp) elt te)
    (hs:∀ x,foldedSetIterable iter X.env x=pure x:=by intro _;rfl):DE X (.ListComp elt [⟨.Name x px,iter,ifs,0⟩] sc pos) (qCm ti tc te caps) :=
  PE.imp (qMU (g:=qE1 0) (tc:=liftT X.K tc) (te:=qAz X.K te) [x] caps hc S hi (fun C s H fp=>qGD hnd rfl (.inl (lookup_relabel_local hx)) (.inr (lookup_relabel_local hx))) hif he hs) fun σ H Q h=>qFf h
theorem qGR (i:Nat) {y:Str} {py spos:Pos} (caps:List (Nat×Str)) (hc:X.calm=true) (hN:X.N.Nodup) (S:qAg X.env.scope X.N caps sc) (hx:sc.names.lookup x=some .local) (hnd:([x]++caps.map (·.2)).Nodup) (hi:DI X (.Name x px) iter ti)
    (hif:∀ C s H fp,DIf (qAV X [x] caps sc C s H fp) ifs tc) (he:∀ C s H fp,DE (qAV X [x] caps sc C s H fp) elt te)
    (hy:X.N[i]? = some y:=by rfl) (hyl:X.env.scope.names.lookup y=some .local:=by rfl)
    (hsw:swapsWith (.ListComp elt [⟨.Name x px,iter,ifs,0⟩] sc pos) (some (.Name y py)) spos.line X.env=pure true:=by rfl)
    (hs:∀ x,foldedSetIterable iter X.env x=pure x:=by intro _;rfl):DS X (.Assign [.Name y py] (.ListComp elt [⟨.Name x px,iter,ifs,0⟩] sc pos) spos) (qAE (qCm ti tc te caps) (qU i)) :=
  PS.imp (qL9 (g:=qE1 0) (tc:=liftT X.K tc) (te:=qAz X.K te) [x] caps hc hN hy hyl S hi (fun C s H fp=>qGD hnd rfl (.inl (lookup_relabel_local hx)) (.inr (lookup_relabel_local hx))) hif he hsw hs) fun E σ H h=>by
    k_dat 0"r6"
    refine qFf (ti:=ti) (tc:=tc) (te:=te) (caps:=caps) ⟨φ,st,ρ,_,pre,ht,fun d st1 h1 φ1 H1 v b1 dx=>?_⟩
    exact n _ st1 h1 φ1 H1 _ b1 ((pre.on b1).2.set dx i)
noncomputable def qd (N:List Str) (ds:List Dt):Rho:=ds.map some++List.replicate (N.length - ds.length) none
theorem qHU {K:W.Frag} {φ:Nat→Addr} {n:Nat} {H:Hp} {ds:List Dt} {vs:List V} (h:DL K φ n H ds vs) (N:List Str):DR K φ n H (qd N ds) (L2.start N vs):=by
  refine⟨by unfold qd L2.start;simp [h.length],fun i d e=>?_⟩
  unfold qd at e
  unfold L2.start
  by_cases hi:i<ds.length
  · rw [List.getElem?_append_left (by simpa using hi),List.getElem?_map] at e
    cases q:ds[i]? with
    | none=>rw [q] at e;cases e
    | some d' =>
      rw [q] at e
      have:d'=d:=by
        have e':some (some d')=some (some d):=e
        injection e' with e1;injection e1
      subst this
      obtain⟨v,ev,dv⟩:=h.get q
      refine⟨v,?_,dv⟩
      rw [List.getElem?_append_left (by simp;rw [← h.length];exact hi),List.getElem?_map,ev]
      rfl
  · rw [List.getElem?_append_right (by simpa using Nat.not_lt.mp hi),List.getElem?_replicate] at e
    split at e<;>cases e
theorem qOz {P:Program} {w:World} {K:W.Frag} {mg:Str→Option Value} {base:Heap} {x qual:Str} {stt:Stmt} {f:Addr} {fd:FuncData} {N ps:List Str} {k:Nat} {sp:RDL} (F:Fun K x qual stt f fd) (S:qZ N ps (qO stt))
    (len:∀ ds st Pd,sp ds st Pd→ds.length=ps.length)
    (hbody:∀ (cdv:Value) (A:Around) (outer:List Env) (s:Shared) (H:Hp) (E:XK),qA4 k (A.deeper (envOfC qual (qO stt) s.heap.objs.size f cdv)) →
      ∃ t,DSs (qGA CX0 P w K mg base N qual (qO stt) f cdv A outer s H E).nox (qAj stt) t∧∀ ds st Pd,sp ds st Pd→t { nx:=fun _ st'=>Pd .non st',rt:=Pd } (qd N ds) st):qAM P w K mg base CX0 (k+1) f fd ps (qc K sp):=by
  refine F.ok S (fun vs H Q E h=>?_) fun cdv A outer s H vs Q E hr h=>?_
  · k_dat 0"r31"
    rw [← dl.length]
    exact len ds st Pd hs
  · obtain⟨t,ht,hb⟩:=hbody cdv A outer s H E hr
    k_dat 0"r31"
    refine⟨_,ht,φ,st,qd N ds,_,⟨R,qHU dl N⟩,hb ds st Pd hs,fun ρ' st' h' φ' H' σ' b' d'=>hq _ st' h' φ' H' _ b' D.qIf,fun ρ' st' h'=>h'.elim,fun ρ' st' h'=>h'.elim,fun d st' h' φ' H' v b' d'=>hq d st' h' φ' H' v b' d'⟩
end
end L3
namespace L3
open PySem PySem.Spec PyProof.Rows L2
structure qAB (P:Program) (w:World) (K:W.Frag) (mg:Str→Option Value) (base:Heap) (x:Str) (k:Nat) (sp:RDL):Prop where
  ex:∃ f fd ps,qAM P w K mg base CX0 k f fd ps (qc K sp)∧mg x=some (.ref f)∧W.keepIn K (.ref f)=true∧Binds K fd ps []
section
variable {X:Cx} {e:Expr} {es:List Expr} {t:TAD} {pos p:Pos} {x:Str}
theorem qJ6 {k:Nat} {sp:RDL} (F:qAB X.prog X.w X.K X.mg X.base x k sp) (hr:qA4 k X.A) (ha:DA X (e::es) t) (hg:Gl X x) (hdb:(x==("__debug__" : Str))=false) (he:starEach (e::es) X.env=(false,eval e X.env)::starEach es X.env)
    (hpl:(backTo pos (starEach es X.env)).any (·.1)=false):DE X (.Call (.Name x p) (e::es) [] pos) (qN sp t):=by
  obtain⟨f,fd,ps,h1,h2,h3,h4⟩:=F.ex
  exact qLP h1 hr h2 h3 h4 ha hg hdb he hpl
theorem qQn {A:Around} {k:Nat} (hr:qA4 k A):A.units+16<cLine:=Nat.lt_of_le_of_lt (Nat.add_le_add_left (by decide:16≤64) _) hr.units
structure qMv (K:W.Frag) (mg:Str→Option Value) (x:Str) (d:Dt):Prop where
  ex:∃ v u,mg x=some u∧RelV v u∧∀ φ N H,D K φ N H d v
theorem qNp {d:Dt} (h:qMv X.K X.mg x d) (hg:Gl X x) (hd:(x==("__debug__" : Str))=false):DE X (.Name x pos) (qE d):=by
  obtain⟨v,u,h1,h2,h3⟩:=h.ex
  exact qLR h1 h2 h3 hg hd
structure Hint (caps:List (Nat×Str)):Prop where
  ok:True
end
section
variable {X:Cx} {a b c:Expr} {ta tb tc:TD} {pos:Pos}
theorem qPY (ha:DE X a ta) (hb:DE X b tb):DE X (.BinOp a .Add b pos) (qG L3.qB0 ta tb):=qFT qNe ha hb
theorem qOv (ha:DE X a ta) (hb:DE X b tb):DE X (.BinOp a .Sub b pos) (qG qGp ta tb):=qFT qPQ ha hb
theorem qPG (ha:DE X a ta) (hb:DE X b tb):DE X (.BinOp a .Mult b pos) (qG qDy ta tb):=qFT qNR ha hb
theorem qOZ (ha:DE X a ta) (hb:DE X b tb):DE X (.BinOp a .FloorDiv b pos) (qG qB7 ta tb):=qFT qOO ha hb
theorem qOt (ha:DE X a ta) (hb:DE X b tb):DE X (.BinOp a .Mod b pos) (qG qAP ta tb):=qFT qOK ha hb
theorem qPn (hu:X.A.units+16<cLine) (ha:DE X a ta) (hb:DE X b tb) (hm:behindInMarks .Eq b=false):DE X (.Compare a [.Eq] [b] pos) (qG (qW false) ta tb):=qEu (qM6 hu) ha hb hm
theorem qNz (hu:X.A.units+16<cLine) (ha:DE X a ta) (hb:DE X b tb) (hm:behindInMarks .Eq b=false):DT X (.Compare a [.Eq] [b] pos) (qK (qG (qW false) ta tb)):=qBs (qM6 hu) ha hb hm
theorem qQi (hu:X.A.units+16<cLine) (ha:DE X a ta) (hb:DE X b tb) (hm:behindInMarks .NotEq b=false):DE X (.Compare a [.NotEq] [b] pos) (qG (qW true) ta tb):=qEu (qNH hu) ha hb hm
theorem qNc (hu:X.A.units+16<cLine) (ha:DE X a ta) (hb:DE X b tb) (hm:behindInMarks .NotEq b=false):DT X (.Compare a [.NotEq] [b] pos) (qK (qG (qW true) ta tb)):=qBs (qNH hu) ha hb hm
theorem qPk (ha:DE X a ta) (hb:DE X b tb) (hm:behindInMarks .Lt b=false):DE X (.Compare a [.Lt] [b] pos) (qG (qAN fun i j=>decide (i<j)) ta tb):=qEu qNG ha hb hm
theorem qOF (ha:DE X a ta) (hb:DE X b tb) (hm:behindInMarks .Lt b=false):DT X (.Compare a [.Lt] [b] pos) (qK (qG (qAN fun i j=>decide (i<j)) ta tb)):=qBs qNG ha hb hm
theorem qQM (ha:DE X a ta) (hb:DE X b tb) (hm:behindInMarks .Gt b=false):DE X (.Compare a [.Gt] [b] pos) (qG (qAN fun i j=>decide (j<i)) ta tb):=qEu qMq ha hb hm
theorem qNn (ha:DE X a ta) (hb:DE X b tb) (hm:behindInMarks .Gt b=false):DT X (.Compare a [.Gt] [b] pos) (qK (qG (qAN fun i j=>decide (j<i)) ta tb)):=qBs qMq ha hb hm
theorem qQI (ha:DE X a ta) (hb:DE X b tb) (hm:behindInMarks .GtE b=false):DE X (.Compare a [.GtE] [b] pos) (qG (qAN fun i j=>decide (j≤i)) ta tb):=qEu qMt ha hb hm
theorem qOi (ha:DE X a ta) (hb:DE X b tb) (hm:behindInMarks .GtE b=false):DT X (.Compare a [.GtE] [b] pos) (qK (qG (qAN fun i j=>decide (j≤i)) ta tb)):=qBs qMt ha hb hm
theorem qNW (ha:DE X a ta) (hb:DE X b tb) (hm:behindInMarks .In b=false):DT X (.Compare a [.In] [b] pos) (qK (qG (qAd false) ta tb)):=qBs qQS ha hb hm
theorem qIv (ha:DE X a ta) (hb:DE X b tb) (hm:behindInMarks .NotIn b=false):DT X (.Compare a [.NotIn] [b] pos) (qK (qG (qAd true) ta tb)):=qBs qJl ha hb hm
theorem qNb (ha:DE X a ta) (hb:DE X b tb) (hm:behindInMarks .Is b=false):DT X (.Compare a [.Is] [b] pos) (qK (qG (qCA false) ta tb)):=qBs qP6 ha hb hm
theorem qJU (ha:DE X a ta) (hb:DE X b tb) (hm:behindInMarks .IsNot b=false):DT X (.Compare a [.IsNot] [b] pos) (qK (qG (qCA true) ta tb)):=qBs qKE ha hb hm
theorem qLB (ha:DE X a ta) (hb:DE X b tb) (hc:DE X c tc) (hm:lastMarks [.LtE,.Lt] [b,c]=false):DE X (.Compare a [.LtE,.Lt] [b,c] pos) (qGf (fun i j=>decide (i≤j)) (fun i j=>decide (i<j)) ta tb tc):=qKr qQd qNE ha hb hc hm
theorem qOY {e:Expr} {es:List Expr} {t:TAD} {p:Pos} (hm:X.mg "len" = none) (ha:DA X (e::es) t) (hg:Gl X "len") (he:starEach (e::es) X.env=(false,eval e X.env)::starEach es X.env) (hpl:(backTo pos (starEach es X.env)).any (·.1)=false):DE X (.Call (.Name "len" p) (e::es) [] pos) (qN qAW t):=qDM qOk hm PySem.boot_len ha hg (by decide) (by decide) he hpl
theorem qJJ {e:Expr} {es:List Expr} {t:TAD} {p:Pos} (hm:X.mg "isinstance" = none) (ha:DA X (e::es) t) (hg:Gl X "isinstance") (he:starEach (e::es) X.env=(false,eval e X.env)::starEach es X.env) (hpl:(backTo pos (starEach es X.env)).any (·.1)=false):DE X (.Call (.Name "isinstance" p) (e::es) [] pos) (qN qBD t):=qDM qJT hm boot_isinstance ha hg (by decide) (by decide) he hpl
theorem qJ8 {e:Expr} {es:List Expr} {t:TAD} {p:Pos} (hm:X.mg "tuple" = none) (ha:DA X (e::es) t) (hg:Gl X "tuple") (he:starEach (e::es) X.env=(false,eval e X.env)::starEach es X.env) (hpl:(backTo pos (starEach es X.env)).any (·.1)=false):DE X (.Call (.Name "tuple" p) (e::es) [] pos) (qN qGG t):=qDr qKi hm PyProof.Rows.boot_tuple ha hg (by decide) (by decide) he hpl
theorem qLe {e:Expr} {es:List Expr} {t:TAD} {p:Pos} (hm:X.mg "list" = none) (ha:DA X (e::es) t) (hg:Gl X "list") (he:starEach (e::es) X.env=(false,eval e X.env)::starEach es X.env) (hpl:(backTo pos (starEach es X.env)).any (·.1)=false):DE X (.Call (.Name "list" p) (e::es) [] pos) (qN qKy t):=qDr qMX hm PyProof.Rows.boot_list ha hg (by decide) (by decide) he hpl
theorem qJo (hm:X.mg "int" = none) (hg:Gl X "int"):DE X (.Name "int" pos) (qE (.ty "int")):=qJv hm PyProof.Rows.boot_int hg
theorem qJe (hm:X.mg "bool" = none) (hg:Gl X "bool"):DE X (.Name "bool" pos) (qE (.ty "bool")):=qJv hm PyProof.Rows.boot_bool hg
theorem qH5 (hm:X.mg "tuple" = none) (hg:Gl X "tuple"):DE X (.Name "tuple" pos) (qE (.ty "tuple")):=qJv hm PyProof.Rows.boot_tuple hg
end
noncomputable def qEK (so:Scope) (N:List Str) (caps:List (Nat×Str)) (sc:Scope):Bool :=
  decide (sc.kind = .function)&&(sc.names.all fun y=>decide (y.2≠.cell))&&(sc.names.all fun y=>decide (y.2 = .local→sc.names.lookup y.1=some .local))&&(sc.names.all fun y=>decide (y.2 = .free→so.names.lookup y.1=some .cell)) &&
    (caps.all fun p=>decide (N[p.1]? = some p.2∧so.names.lookup p.2=some .cell∧sc.names.lookup p.2=some .free))
theorem qIm {so:Scope} {N:List Str} {caps:List (Nat×Str)} {sc:Scope} (h:qEK so N caps sc=true):qAg so N caps sc:=by
  unfold qEK at h
  simp only [Bool.and_eq_true] at h
  obtain⟨⟨⟨⟨h1,h2⟩,h3⟩,h4⟩,h5⟩:=h
  exact⟨of_decide_eq_true h1,fun y hy=>of_decide_eq_true (List.all_eq_true.mp h2 y hy),fun y hy=>of_decide_eq_true (List.all_eq_true.mp h3 y hy),fun y hy=>of_decide_eq_true (List.all_eq_true.mp h4 y hy),fun y hy=>of_decide_eq_true (List.all_eq_true.mp h5 y hy)⟩
theorem qIh {so:Scope} {N:List Str} {caps:List (Nat×Str)} {sc:Scope} (_:Hint caps) (h:qEK so N caps sc=true):qAg so N caps sc:=qIm h
def qHC:RDL:=fun ds st P=>∃ ns:List Int,ds=[.lst 0]∧st=[.ro (ns.map .int)]∧ns.length≤63∧∀ st',P (.bl true) st'
theorem DL.ints {K:W.Frag} {φ:Nat→Addr} {N:Nat} {H:Hp}:∀ ns:List Int,DL K φ N H (ns.map .int) (ns.map V.int)
  | []=>.nil
  | n::ns=>.cons D.mkInt (DL.ints ns)
theorem qJy {l:W.OpenLaw} {q:Program} {loose:List Str} {XP:(Str→Option Value)→Heap→Prop} {YP:World→Heap→Prop} {d:DefRec} {K:Params→W.Frag} (k:Nat) (hn:l.most=some 63) (hdf:d.params.defaults=[]) (hr:qA4 k callerA)
    (hY:∀ (w:World) (h:Heap),YP w h→(K w.params).In h)
    (F:∀ (w:World) (mg:Str→Option Value) (fa:Addr) (h:Heap),(K w.params).In h→h.Ns mainGlobals mg→mg d.name=some (.ref fa) →
      ∃ fd:FuncData,(∀ (s:Shared) (u:Value),BindsTo s fd ⟨[u],[]⟩ [("script",u)])∧∀ base:Heap,(K w.params).In base→base.Ns mainGlobals mg→qAM l.prog w (K w.params) mg base CX0 k fa fd ["script"] (qc (K w.params) qHC)) :
    W.WalkO q loose XP YP l.row.toRowW d [] (fun f vs=>PySem.call f vs):=by
  refine L2.qLw (n:=63) (k:=k) (x:= "script") (CX:=fun _=>CX0) (sp:=fun w=>qc (K w.params) qHC) hn (by decide) hdf hr hY F (fun w H a ns hl hO hS=>?_) fun _ _ _ _ _ z=>z
  have hR:SqR (K w.params) H a (ns.map V.int):=by
    rcases hS with (h | h) | h
    · rcases hO a with z | ⟨o,xs,z⟩
      · rw [h] at z;cases z
      · rw [h] at z;cases z
    · exact .inl h
    · exact .inr h
  refine⟨fun _=>a,[.ro (ns.map .int)],[.lst 0],fun d st'=>d = .bl true,⟨fun i j x y e _ hw=>?_,fun i x e=>?_⟩,.cons (D.qM8 (by show 0<1;decide) ⟨_,hR.sq⟩) .nil,⟨ns,rfl,rfl,hl,fun _=>rfl⟩,fun d st' hd φ' H' u b du=>by rw [hd] at du;exact du.bl⟩
  · cases i with
    | zero=>simp at e;subst e;cases hw
    | succ i=>simp at e
  · cases i with
    | zero =>
      simp at e
      subst e
      exact⟨ns.map V.int,hR,DL.ints ns⟩
    | succ i=>simp at e
end L3
namespace L3
open PySem PySem.Spec PyProof.Rows L2
section
variable {X:Cx} {a:Expr} {elts:List Expr} {x1:Nat} {tpos pos p:Pos} {te:TD}
structure qKw (K:W.Frag) (mg:Str→Option Value) (x:Str) (ds:List Dt):Prop where
  ex:∃ a o vs its n,mg x=some (.ref a)∧K.lookup a=some o∧o.cls = .type "tuple" ∧ o.dict=none∧o.data = .seq its n∧its.size≤sizeLine∧Vals vs its.toList∧∀ φ N H,DL K φ N H ds vs
theorem qKw.con {K:W.Frag} {mg:Str→Option Value} {x:Str} {ds:List Dt} (h:qKw K mg x ds):qMv K mg x (.tup ds):=by
  obtain⟨a,o,vs,its,n,h1,h2,h3,h4,h5,h6,h7,h8⟩:=h.ex
  exact⟨.ref a,_,h1,rfl,fun φ N H=>.qCs (.inr ⟨o,its,n,h2,⟨h3,h4⟩,h5,h6,h7⟩) (h8 φ N H)⟩
end
noncomputable def qBi:List Value→List Str→Bool
  | [],[]=>true
  | .str x _::us,s::ss=>x==s&&qBi us ss
  | _,_=>false
theorem qFl:∀ {us:List Value} {ss:List Str},qBi us ss=true→Vals (ss.map V.str) us
  | [],[],_=>.nil
  | [],_::_,h=>by simp [qBi] at h
  | u::us,[],h=>by cases u<;>simp [qBi] at h
  | u :: us,s::ss,h=>by
    cases u with
    | str x t =>
      rw [qBi,Bool.and_eq_true] at h
      have e:x=s:=eq_of_beq h.1
      subst e
      exact .cons ⟨t,rfl⟩ (qFl h.2)
    | _=>simp [qBi] at h
theorem DL.strs {K:W.Frag} {φ:Nat→Addr} {N:Nat} {H:Hp}:∀ ss:List Str,DL K φ N H (ss.map .str) (ss.map V.str)
  | []=>.nil
  | n::ns=>.cons D.mkStr (DL.strs ns)
theorem qJQ {K:W.Frag} {mg:Str→Option Value} {x:Str} {a:Addr} {its:Array Value} {n:Nat} {sl:Array (Option Value)} {ss:List Str} (hm:mg x=some (.ref a)) (l:K.lookup a=some ⟨.type "tuple",none,.seq its n,sl⟩) (v:qBi its.toList ss=true) (sz:its.size≤sizeLine) :
    qKw K mg x (ss.map .str):=⟨a,_,ss.map V.str,its,n,hm,l,rfl,rfl,rfl,sz,qFl v,fun _ _ _=>DL.strs ss⟩
def qD1:RDL:=fun ds st P=>match ds with
  | [x]=>(match x with
    | .bl k=>P (.int (if k then 1 else 0)) st
    | .int i=>P (.int i) st
    | _=>False)
  | _=>False
theorem qNJ {X:Cx}:qDF X (.type "int") qD1:=by
  k_dat 0"r15"
  k_dat 0"r16"
  k_dat 0"r24"
  · exact hr.elim
  rotate_left
  · exact hr.elim
  · obtain⟨v,rfl,dx⟩:=dl.one
    cases x with
    | bl k=>exact qFa pins s σ H [v] us Q I rv (.inr ⟨k,by rw [dx.bl],Go.here hq R hr D.mkInt⟩)
    | int k=>exact qFa pins s σ H [v] us Q I rv (.inl ⟨k,by rw [dx.int],Go.here hq R hr D.mkInt⟩)
    | _=>exact hr.elim
theorem qNM {X:Cx} {pos:Pos} {e:Expr} {es:List Expr} {t:TAD} {p:Pos} (hm:X.mg "int" = none) (ha:DA X (e::es) t) (hg:Gl X "int") (he:starEach (e::es) X.env=(false,eval e X.env)::starEach es X.env) (hpl:(backTo pos (starEach es X.env)).any (·.1)=false):DE X (.Call (.Name "int" p) (e::es) [] pos) (qN qD1 t):=qDr qNJ hm PyProof.Rows.boot_int ha hg (by decide) (by decide) he hpl
structure qQA (caps:List (Nat×Str)):Prop where
  ok:True
theorem qGu {so:Scope} {N:List Str} {caps:List (Nat×Str)} {sc:Scope} (_:qQA caps) (h:qEK so N caps sc=true):qAg so N caps sc:=qIm h
theorem qMZ {st:Sto} {i:Nat} {o x:SO} (h:st[i]? = some o):(st++[x])[i]? = some o:=by
  rw [List.getElem?_append_left (qm h)];exact h
theorem qB8 {st:Sto} {i j:Nat} {o x:SO} (h:st[i]? = some o) (hne:j≠i):(st.set j x)[i]? = some o:=by
  rw [List.getElem?_set_ne hne];exact h
theorem qDS {st:Sto} {i:Nat} {o x:SO} (h:st[i]? = some o):(st.set i x)[i]? = some x:=by
  rw [List.getElem?_set_self (qm h)]
theorem qAZ {st:Sto} {x:SO}:(st++[x])[st.length]? = some x:=by simp
def qj (st st':Sto):Prop:=∀ (i:Nat) o,st[i]? = some o→st'[i]? = some o
theorem qj.refl (st:Sto):qj st st:=fun _ _ h=>h
theorem qj.trans {a b c:Sto} (h:qj a b) (h':qj b c):qj a c:=fun i o q=>h' i o (h i o q)
theorem qj.app (st:Sto) (x:SO):qj st (st++[x]):=fun _ _ h=>qMZ h
noncomputable abbrev Ed (Pd:VD):qBH:={ nx:=fun _ st'=>Pd .non st',rt:=Pd }
theorem qGQ {i j:Int} (h1:0≤i) (h2:i<4294967296):qHJ i j:=.inl ⟨by omega,by omega⟩
end L3
namespace L3
open PySem PySem.Spec PyProof.Rows L2
theorem hu1 {k:Nat} {A:Around} (r:qA4 k A):A.units+1<cLine:=by have:=r.units;omega
def qIH:RDL:=fun ds st P=>match ds with
  | [.int i,.int j]=>P (.int (if j > i then j else i)) st
  | _=>False
theorem qHu {X:Cx} {φ:Nat→Addr} {N:Nat} {H:Hp} {i j:Int} {vs:List V} (dl:DL X.K φ N H [.int i,.int j] vs):vs=[.int i,.int j]:=by
  obtain⟨v,ws,rfl,d1,d2⟩:=dl
  obtain⟨w,us,rfl,e1,e2⟩:=d2
  rw [d1.int,e1.int,show us=[] from e2]
section
variable {X:Cx}
theorem qNd (hc:X.calm=true):qDF X (.builtin "max") qIH:=by
  k_dat 0"r15"
  k_dat 0"r16"
  unfold qIH at hr
  split at hr
  · rename_i i j
    exact qI5 hc pins s σ H vs us Q I rv ⟨i,j,qHu (X:=X) dl,Go.here hq R hr D.mkInt⟩
  · exact hr.elim
variable {pos:Pos}
theorem qOy {e:Expr} {es:List Expr} {t:TAD} {p:Pos} (hc:X.calm=true) (hm:X.mg "max" = none) (ha:DA X (e::es) t) (hg:Gl X "max") (he:starEach (e::es) X.env=(false,eval e X.env)::starEach es X.env) (hpl:(backTo pos (starEach es X.env)).any (·.1)=false):DE X (.Call (.Name "max" p) (e::es) [] pos) (qN qIH t):=qDM (qNd hc) hm PyProof.Rows.boot_max ha hg (by decide) (by decide) he hpl
end
end L3
namespace L3
open PySem PySem.Spec PyProof.Rows L2
def qKx:RDL:=fun ds st P=>match ds with
  | [.lst n]=>(match st[n]? with
    | some o=>∃ bs:List Bool,o.items=bs.map .bl∧P (.bl (bs.all id)) st
    | none=>False)
  | _=>False
theorem qFm {K:W.Frag} {φ:Nat→Addr} {N:Nat} {H:Hp}:∀ {bs:List Bool} {ws:List V} {us:List Value},DL K φ N H (bs.map .bl) ws→Vals ws us→LSm.BoolsAre us bs
  | [],ws,us,dl,rv=>by
    have e:ws=[]:=by simpa [DL] using dl
    subst e
    cases rv
    exact .nil
  | b :: bs,ws,us,dl,rv=>by
    obtain⟨v,r,rfl,h1,h2⟩:=dl
    cases rv with
    | @cons a u as us' h t =>
      have e:v = .bl b:=h1.bl
      subst e
      have e2:u=Value.bool b:=h
      subst e2
      exact .cons b (qFm h2 t)
section
variable {X:Cx}
theorem qO5 (hc:X.calm=true):qDF X (.builtin "all") qKx:=by
  k_dat 0"r15"
  k_dat 0"r16"
  k_dat 0"r24"
  · exact hr.elim
  rotate_left
  · cases x<;>exact hr.elim
  · obtain⟨v,rfl,dx⟩:=dl.one
    obtain⟨u,rfl,ru⟩:=vals1 rv
    cases x with
    | lst n =>
      have hr:(match st[n]? with
        | some o=>∃ bs:List Bool,o.items=bs.map .bl∧P (.bl (bs.all id)) st
        | none=>False):=hr
      split at hr
      · rename_i o eo
        obtain⟨bs,eb,hp⟩:=hr
        obtain⟨ws,hs1,dws⟩:=R.seq eo dx.isL
        rw [eb] at dws
        have ev:=dx.lst.2
        subst ev
        cases ru
        obtain⟨its,rvs,pl,hz⟩:=I.list hs1
        have hb:LSm.BoolsAre its bs:=qFm dws rvs
        have hl:s.heap.IsList (φ n) its.toArray:=pl.isList
        have hlt:φ n<s.heap.objs.size:=by obtain⟨_,e,_⟩:=hl;exact Heap.lt_size e
        refine call_all_walk (wpAny_pyIter_list hl ?_)
        refine⟨s.heap.objs.size,[s.heap.objs.size,φ n],[s.heap.objs.size],its.toArray.size,_,_,fun i=>(bs[i]?).getD true,rfl,Walks.list (A:=X.A.in1) (I.ok.hd hc) _ (φ n) (Nat.ne_of_lt hlt) its.toArray,
          ⟨⟨_,Heap.get?_push_size _ rfl,rfl,rfl⟩,hl.push _⟩,fun i v s' Q' E' hP hQ=>?_,fun h' tk hk=>?_⟩
        · obtain⟨b,e,rfl⟩:=hb.get i v (by simpa using hP)
          simp only [e,Option.getD_some] at hQ
          exact wpAny_truthy_bool hQ
        · have e:((List.range its.toArray.size).all fun i=>(bs[i]?).getD true)=bs.all id:=by
            rw [List.size_toArray,hb.length];exact LSm.range_all bs
          rw [e]
          exact⟨.bl (bs.all id),H,I.kept (t':=tk) (LSm.kept_iter hk),rfl,Go.here hq R hp D.qBX⟩
      · exact hr.elim
    | _=>exact hr.elim
theorem qOw {pos:Pos} {e:Expr} {es:List Expr} {t:TAD} {p:Pos} (hc:X.calm=true) (hm:X.mg "all" = none) (ha:DA X (e::es) t) (hg:Gl X "all") (he:starEach (e::es) X.env=(false,eval e X.env)::starEach es X.env) (hpl:(backTo pos (starEach es X.env)).any (·.1)=false):DE X (.Call (.Name "all" p) (e::es) [] pos) (qN qKx t):=qDM (qO5 hc) hm PyProof.Rows.boot_all ha hg (by decide) (by decide) he hpl
end
end L3
namespace L3
open PySem PySem.Spec PyProof.Rows L2
section
variable {X:Cx} {a b c:Expr} {ta tb tc:TD} {pos:Pos}
def qLb:RD2:=fun x y st P=>match x,y with
  | .int i,.int j=>qQU i j∧P (.int (i ^ j.toNat)) st
  | _,_=>False
theorem qNS:OpD X (binaryOp .Pow) qLb:=by
  k_dat 0"r5"
  k_dat 0"r3"
  cases x with
  | int i =>
    cases y with
    | int j=>exact qNh pins s σ H v w u1 u2 Q I r1 r2 ⟨i,j,dx.int,dy.int,hr.1,Go.here hq R hr.2 D.mkInt⟩
    | _=>exact hr.elim
  | _=>cases y<;>exact hr.elim
theorem qPO (ha:DE X a ta) (hb:DE X b tb):DE X (.BinOp a .Pow b pos) (qG qLb ta tb):=qFT qNS ha hb
def qHI (ta:TD):TD:=fun ρ st P=>ta ρ st fun d st1=>match d with
  | .int i=>P (.int (-i)) st1
  | _=>False
theorem qNY (ha:DE X a ta):DE X (.UnaryOp .USub a pos) (qHI ta):=(qQP qO2 ha).imp fun σ H Q h=>by
  k_dat 0"r0"
  k_dat 0"r14"
  cases d with
  | int i=>exact⟨i,dx.int,hq _ st1 h1 φ1 H1 _ b1 D.mkInt⟩
  | _=>exact h1.elim
end
end L3
namespace L3
open PySem PySem.Spec PyProof.Rows L2
open AutoSeq1 (wpAny_loadPart')
end L3
namespace HT
open PySem PySem.Spec PyProof.Rows
section
variable {prog:Program} {w:World} {A:Around} {E:Value→Shared→Prop} {s:Shared}
theorem qCk {t sl:Addr} {items:Array Value} {vl vu:Value} {lo hi:Option Int} {Q:Value→Shared→Prop} (ht:IsTup s.heap t items) (hs:s.heap.IsSliceOf sl vl vu .none) (pl:IsPart vl lo) (pu:IsPart vu hi)
    (hw:sIx items.size 0 lo=0∧sIx items.size items.size hi=items.size) (h:Q (.ref t) s):wpAny (model prog w) A (getItem (.ref t) (.ref sl)) Q E s:=by
  obtain⟨os,hos,hcs,hds⟩:=id hs
  have hTs:s.TypeIs (.ref sl) "slice":=⟨os,hos,hcs⟩
  unfold getItem
  try with_reducible refine wpAny_holding ?_
  first | refine wpAny_bind (wpAny_pure ?_) | skip
  refine wpAny_bind (wpAny_sequenceKey ht.typeIs (by decide) ?_)
  refine wpAny_bind (wpAny_callSpecial?_slot (name:=Str.ofString "__getitem__") ht.typeIs PyProof.Rows.slot_tuple_getitem
    (wpAny_call_entry PyProof.Rows.slot_tuple_getitem ht.typeIs entry_tuple_getitem ?_ (args_tuple_getitem _ _)))
  show wpAny _ _ (Builtin.Tuple.tupleItemsOf (.ref t) >>= _) _ _ s
  refine wpAny_bind (tupleItemsOf_ ht ?_)
  refine wpAny_bind (wpAny_typeOf hTs ?_)
  rw [if_pos (by decide)]
  refine wpAny_bind (qBx hs pl pu ?_)
  have hyes:(((sIx items.size 0 lo:Nat):Int)==0&&(1:Int)==1&&(sIx items.size items.size hi - sIx items.size 0 lo)==items.size)=true:=by
    rw [hw.1,hw.2];simp
  k_dat 0"r43"
  rw [if_pos hyes]
  unfold Builtin.Tuple.tupleIsExact
  refine wpAny_bind (wpAny_bind (wpAny_typeOf ht.typeIs (wpAny_pure ?_)))
  rw [if_pos (by decide)]
  first
    | exact wpAny_bind (wpAny_pure (wpAny_pure ⟨_,rfl,wpAny_pure h⟩))
    | exact wpAny_bind (wpAny_rule (wpAny_bind (wpAny_pure (wpAny_pure ⟨_,rfl,wpAny_pure h⟩))))
    | exact wpAny_bind (wpAny_rule (wpAny_bind (wpAny_pure ⟨_,rfl,wpAny_pure h⟩)))
    | exact wpAny_pure ⟨_,rfl,wpAny_pure h⟩
    | exact wpAny_bind (wpAny_pure ⟨_,rfl,wpAny_pure h⟩)
end
end HT
namespace L3
open PySem PySem.Spec PyProof.Rows L2
noncomputable def qQ1 (K:W.Frag):V→Option Int→Option Int→Hp→VK→Prop:=fun x lo hi H Q=>∃ a xs,x = .ref a∧SqT K H a xs∧(HT.sIx xs.length 0 lo=0∧HT.sIx xs.length xs.length hi=xs.length)∧Q (.ref a) H
section
variable {X:Cx}
theorem qKL:SlR X (qQ1 X.K):=by
  k_dat 0"r33"
  obtain⟨a,xs,rfl,hx,hw,q⟩:=h
  cases rx
  obtain⟨its,r,ht,hz⟩:=I.tuple hx
  have hlen:its.toArray.size=xs.length:=by rw [List.size_toArray];exact r.length.symm
  refine⟨"tuple",_,PyProof.Rows.slot_tuple_getitem.lookup,ht.typeIs,?_⟩
  exact HT.qCk ht hs pl pu (by rw [hlen];exact hw) ⟨.ref a,H,I,rfl,q⟩
def qCB (te:TD) (tl th:TOD):TD:=fun ρ st P=>te ρ st fun x st1=>tl ρ st1 fun lo st2=>th ρ st2 fun hi st3=>match x with
  | .tup xs=>P (.tup (cutD xs lo hi)) st3
  | .lst n=>(match st3[n]? with
    | some o=>P (.lst st3.length) (st3++[.rw (cutD o.items lo hi)])
    | none=>False)
  | _=>False
theorem qJH {xs:List Dt} {lo hi:Option Int} (h:HT.sIx xs.length 0 lo=0∧HT.sIx xs.length xs.length hi=xs.length):cutD xs lo hi=xs:=by
  unfold cutD
  rw [h.1,h.2]
  simp
theorem qJB {e:Expr} {lo hi:Option Expr} {te:TD} {tl th:TOD} {pos p2:Pos} (he:DE X e te) (hl:DO X lo tl) (hu:DO X hi th):DE X (.Subscript e (.Slice lo hi none p2) pos) (qCB te tl th):=by
  refine PE.imp (qKv ((qNO.or qLf).or qKL) he hl hu) fun σ H Q h=>?_
  k_dat 0"r0"
  k_dat 0"r20"
  refine⟨φ1,st1,ρ,_,pre.on b1,h1,fun l st2 h2 φ2 H2 b2=>?_⟩
  refine⟨φ2,st2,ρ,_,(pre.on b1).on b2,h2,fun u st3 h3 φ3 H3 b3=>?_⟩
  have b:=b1.trans (b2.trans b3)
  have dx3:=(dx.evo b2.2).evo b3.2
  cases x with
  | tup xs =>
    obtain⟨a,vs,e1,s1,d1⟩:=dx3.tup
    have h3':P (.tup (cutD xs l u)) st3:=h3
    by_cases hw:HT.sIx xs.length 0 l=0∧HT.sIx xs.length xs.length u=xs.length
    · rw [qJH hw] at h3'
      exact .inr ⟨a,vs,e1,s1,by rw [← d1.length];exact hw,hq _ st3 h3' φ3 _ _ b (by rw [← e1];exact dx3)⟩
    refine .inl (.inl ⟨a,vs,e1,s1,by rw [← d1.length];exact hw,fun p hp=>hq _ st3 h3' φ3 _ _ (b.trans (qCf b3.1 hp)) (.qCs (SqT.of qAF) ?_)⟩)
    unfold cutD qGa
    rw [← d1.length]
    exact ((d1.drop _).take _).evo (qBS hp)
  | lst n =>
    have h3':(match st3[n]? with
      | some o=>P (.lst st3.length) (st3++[.rw (cutD o.items l u)])
      | none=>False):=h3
    split at h3'
    · rename_i o eo
      obtain⟨vs,s1,d1⟩:=b3.1.seq eo dx3.isL
      refine .inl (.inr ⟨φ3 n,vs,dx3.lst.2,s1,fun p hp=>?_⟩)
      have:DL X.K φ3 st3.length H3 (cutD o.items l u) (qGa vs l u):=by
        unfold cutD qGa
        rw [← d1.length]
        exact (d1.drop _).take _
      exact hq _ _ h3' _ _ _ (b.trans (qCj b3.1 hp this)) qFi
    · exact h3'.elim
  | _=>exact h3.elim
end
end L3
namespace L3
open PySem PySem.Spec PyProof.Rows L2
end L3
namespace L3
open PySem PySem.Spec PyProof.Rows L2
end L3
namespace L3
open PySem PySem.Spec PyProof.Rows L2
theorem qE0 {K:W.Frag} {sp sp':RDL} (h:∀ ds st P,sp ds st P→sp' ds st P) {vs:List V} {H:Hp} {Q:VK} {E:XK} (q:qc K sp vs H Q E):qc K sp' vs H Q E:=by
  obtain⟨φ,st,ds,P,R,dl,hs,hq⟩:=q
  exact⟨φ,st,ds,P,R,dl,h _ _ _ hs,hq⟩
theorem qAB.imp {P:Program} {w:World} {K:W.Frag} {mg:Str→Option Value} {base:Heap} {x:Str} {k:Nat} {sp sp':RDL} (F:qAB P w K mg base x k sp') (h:∀ ds st P,sp ds st P→sp' ds st P):qAB P w K mg base x k sp:=by
  obtain⟨f,fd,ps,h1,h2,h3,h4⟩:=F.ex
  exact⟨⟨f,fd,ps,⟨fun vs H Q E q=>h1.len vs H Q E (qE0 h q),fun A outer s H args us vs Q E r e b v q=>h1.run A outer s H args us vs Q E r e b v (qE0 h q)⟩,h2,h3,h4⟩⟩
end L3
namespace HT
open PySem PySem.Spec PyProof.Rows
end HT
namespace L3
open PySem PySem.Spec PyProof.Rows L2
end L3
namespace L3
open PySem PySem.Spec PyProof.Rows L2
end L3
namespace L3
open PySem PySem.Spec PyProof.Rows L2
end L3
namespace L3
open PySem PySem.Spec PyProof.Rows L2
end L3
namespace L3
open PySem PySem.Spec PyProof.Rows L2
end L3
namespace L3
open PySem PySem.Spec PyProof.Rows L2
end L3
namespace L3
open PySem PySem.Spec PyProof.Rows L2
noncomputable def qMR:Dt→Option Key
  | .int i=>some (.inl i)
  | .str x=>some (.inr x)
  | _=>none
noncomputable def qE3 (kvs:List (Key×Dt)) (k:Key):Option Dt:=(kvs.find? fun kv=>decide (kv.1=k)).map (·.2)
def KD (K:W.Frag) (φ:Nat→Addr) (N:Nat) (H:Hp) (kvs:List (Key×Dt)) (vs:List (Key×V)):Prop:=kvs.map (·.1)=vs.map (·.1)∧DL K φ N H (kvs.map (·.2)) (vs.map (·.2))
section
variable {K:W.Frag} {φ:Nat→Addr} {N:Nat} {H:Hp}
theorem qF8 {y:Dt} {k:Key} {v:V} (e:qMR y=some k) (d:D K φ N H y v):v=kV k:=by
  cases y with
  | int i=>cases e;exact d.int
  | str x=>cases e;exact d.str
  | _=>cases e
theorem KD.qHw {k:Key} {d:Dt} {r:List (Key×Dt)} {vs:List (Key×V)} (h:KD K φ N H ((k,d)::r) vs):∃ v r',vs=(k,v)::r'∧D K φ N H d v∧KD K φ N H r r':=by
  obtain⟨h1,h2⟩:=h
  cases vs with
  | nil=>cases h1
  | cons p r' =>
    obtain⟨k',v⟩:=p
    rw [List.map_cons,List.map_cons] at h1
    injection h1 with e1 e2
    have e1:k=k':=e1
    subst e1
    obtain⟨a,b⟩:=DL.qHw (d:=d) (v:=v) h2
    exact⟨v,r',rfl,a,e2,b⟩
theorem KD.nil:KD K φ N H [] []:=⟨rfl,.nil⟩
theorem KD.qPh {vs:List (Key×V)} (h:KD K φ N H [] vs):vs=[]:=by
  cases vs with
  | nil=>rfl
  | cons p r=>cases h.1
theorem KD.val:∀ {kvs:List (Key×Dt)} {vs:List (Key×V)} (k:Key),KD K φ N H kvs vs→(qE3 kvs k=none∧qBr vs k=none)∨∃ d v,qE3 kvs k=some d∧qBr vs k=some v∧D K φ N H d v
  | [],vs,k,h=>by rw [h.qPh];exact .inl ⟨rfl,rfl⟩
  | (k',d)::r,vs,k,h=>by
    obtain⟨v,r',rfl,dv,h'⟩:=h.qHw
    by_cases e:k'=k
    · exact .inr ⟨d,v,by simp [qE3,List.find?_cons,e],by simp [qBr,List.find?_cons,e],dv⟩
    · have e1:qE3 ((k',d)::r) k=qE3 r k:=by simp [qE3,List.find?_cons,e]
      have e2:qBr ((k',v)::r') k=qBr r' k:=by simp [qBr,List.find?_cons,e]
      rw [e1,e2]
      exact h'.val k
theorem Rep.dc {st:Sto} (R:Rep K φ st H) {n:Nat} {kvs:List (Key×Dt)} (e:st[n]? = some (.dc kvs)):∃ vs,H (φ n)=some (.dK vs)∧K.lookup (φ n)=none∧KD K φ st.length H kvs vs:=by
  obtain⟨vs,h1,h2,h3,h4⟩:=R.all n _ e
  exact⟨vs,h1,h2,h3,h4⟩
theorem qKs {st:Sto} {p:Addr} {kvs:List (Key×Dt)} {vs:List (Key×V)} (R:Rep K φ st H) (hp:H p=none) (hk:K.lookup p=none) (hd:KD K φ st.length H kvs vs):Bhd K φ st H (qBF φ st.length p) (st++[.dc kvs]) (upd H p (.dK vs)) :=
  ⟨R.add hp ⟨vs,qAF,hk,hd.1,hd.2.evo (qDW hp)⟩,qDW hp⟩
theorem qKF {st:Sto} {n:Nat} {kvs kvs':List (Key×Dt)} {vs':List (Key×V)} (R:Rep K φ st H) (e:st[n]? = some (.dc kvs)) (hd:KD K φ st.length H kvs' vs'):Bhd K φ st H φ (st.set n (.dc kvs')) (upd H (φ n) (.dK vs')):=by
  obtain⟨vs,h1,h2,h3⟩:=R.dc e
  exact⟨R.put e rfl rfl h1 trivial ⟨vs',qAF,h2,hd.1,hd.2.evo (qEX (o:=.dc kvs') (w:=.dK vs') (qm e) h1 trivial)⟩,qEX (w:=.dK vs') (qm e) h1 trivial⟩
end
section
variable {X:Cx} {o i:Expr} {to ti:TD} {pos:Pos}
def qIN:RD2:=fun x y st P=>match x with
  | .dic n=>(match st[n]?,qMR y with
    | some (.dc kvs),some k=>(match qE3 kvs k with
      | some d=>P d st
      | none=>False)
    | _,_=>False)
  | _=>False
theorem qMb (hu:X.A.units+1<cLine) (ho:DE X o to) (hi:DE X i ti) (hs:qJF i):DE X (.Subscript o i pos) (qG qIN to ti):=(qMC hu ho hi hs).imp fun σ H Q h=>by
  k_dat 0"r0"
  k_dat 0"r20"
  k_dat 0"r36"
  cases x with
  | dic n =>
    have h2:(match st2[n]?,qMR y with
      | some (.dc kvs),some k=>(match qE3 kvs k with
        | some d=>P d st2
        | none=>False)
      | _,_=>False):=h2
    split at h2
    · rename_i kvs k e1 e2
      split at h2
      · rename_i d ed
        obtain⟨vs,hv,_,hk⟩:=b2.1.dc e1
        rcases hk.val k with ⟨z,_⟩ | ⟨d',v2,ed',ev,dv⟩
        · rw [ed] at z;cases z
        · rw [ed] at ed'
          cases ed'
          refine⟨φ2 n,v2,(dx.evo b2.2).dic.2,?_,hq d st2 h2 φ2 H2 v2 (b1.trans b2) dv⟩
          rw [qF8 e2 dy,← ev]
          exact qGx.k hv
      · exact h2.elim
    · exact h2.elim
  | _=>exact h2.elim
noncomputable def tvK:List (Key×TD)→TAD
  | []=>fun _ st P=>P [] st
  | (_,t)::r=>fun ρ st P=>t ρ st fun x st1=>tvK r ρ st1 fun xs st2=>P (x::xs) st2
def qHQ (kts:List (Key×TD)):TD:=fun ρ st P=>tvK kts ρ (st++[.dc []]) fun ds st1=>st1[st.length]? = some (.dc [])∧P (.dic st.length) (st1.set st.length (.dc ((kts.map (·.1)).zip ds)))
def DPK (X:Cx) (pos:Pos) (keys:List (Option Expr)) (values:List Expr) (kts:List (Key×TD)):Prop:=PPs X pos keys values (kts.map fun q=>(tC (kV q.1),qAz X.K q.2))
theorem qLi:DPK X pos [] [] []:=qMj
theorem qMi {k:Str} {j:Nat} {p:Pos} {v:Expr} {t:TD} {ks:List (Option Expr)} {vs:List Expr} {kts:List (Key×TD)} (hv:DE X v t) (hr:DPK X pos ks vs kts):DPK X pos (some (.Constant (.str k) j p)::ks) (v::vs) ((.inr k,t)::kts):=qKX qGW hv hr
theorem qK2 {K:W.Frag}:∀ {kts:List (Key×TD)} {σ:L2.St} {H:Hp} {φ:Nat→Addr} {st:Sto} {ρ:Rho} {P:List Dt→Sto→Prop} {Q:List (V×V)→Hp→Prop},Pre K φ st H ρ σ→tvK kts ρ st P →
    (∀ ds st',P ds st'→∀ φ' H' (vs:List V),Bhd K φ st H φ' st' H'→DL K φ' st'.length H' ds vs→ds.length=kts.length→Q (((kts.map (·.1)).zip vs).map fun kv=>(kV kv.1,kv.2)) H')→qF2 (kts.map fun q=>(tC (kV q.1),qAz K q.2)) σ H Q
  | [],σ,H,φ,st,ρ,P,Q,pre,ht,hq=>hq [] st ht φ H [] (.refl pre.1) .nil rfl
  | (k,t)::r,σ,H,φ,st,ρ,P,Q,pre,ht,hq=>by
    k_dat 0"r14"
    refine qK2 (pre.on b1) h1 fun ds st2 h2 φ2 H2 vs b2 dl hl=>?_
    exact hq (d::ds) st2 h2 φ2 H2 (v::vs) (b1.trans b2) (.cons (dx.evo b2.2) dl) (by rw [List.length_cons,hl,List.length_cons])
theorem qI8:∀ {more acc:List (Key×V)},(∀ kv∈more,qBr acc kv.1=none)→(more.map (·.1)).Nodup→qCx acc more=acc++more:=by
  intro more
  induction more with
  | nil=>intro acc _ _;show acc=_;rw [List.append_nil]
  | cons p r ih =>
    intro acc h nd
    rw [List.map_cons,List.nodup_cons] at nd
    have hp:putK acc p.1 p.2=acc++[p]:=by
      unfold putK
      have hn:¬ (acc.any fun kv=>decide (kv.1=p.1))=true:=by
        intro ha
        obtain⟨kv,hm,he⟩:=List.any_eq_true.mp ha
        have hv:=h p (List.mem_cons_self ..)
        unfold qBr at hv
        rw [Option.map_eq_none_iff,List.find?_eq_none] at hv
        exact hv kv hm he
      rw [if_neg hn]
    show qCx (putK acc p.1 p.2) r=_
    rw [hp,ih (fun kv hk=>?_) nd.2,List.append_assoc];rfl
    have h1:=h kv (List.mem_cons_of_mem _ hk)
    unfold qBr at h1 ⊢
    rw [Option.map_eq_none_iff,List.find?_eq_none] at h1 ⊢
    intro q hq
    rcases List.mem_append.mp hq with z | z
    · exact h1 q z
    · rw [List.mem_singleton.mp z]
      have:p.1≠kv.1:=fun e=>nd.1 (by rw [e];exact List.mem_map.mpr ⟨kv,hk,rfl⟩)
      simpa using this
theorem qLV {keys:List (Option Expr)} {values:List Expr} {kts:List (Key×TD)} (h:DPK X pos keys values kts) (hall:keys.all (·.isSome)=true) (hl:keys.length=values.length) (h0:keys≠[]) (h15:keys.length≤15) (hk:kts.length≤15) (nd:(kts.map (·.1)).Nodup):DE X (.Dict keys values pos) (qHQ kts):=by
  refine PE.imp (qL4 h hall hl h0 h15) fun σ H Q q=>?_
  obtain⟨φ,st,ρ,P,pre,ht,hq⟩:=q
  intro a hn kf
  have b0:=qKs (kvs:=[]) (vs:=[]) pre.1 hn kf .nil
  have ht:tvK kts ρ (st++[.dc []]) fun ds st1=>st1[st.length]? = some (.dc [])∧P (.dic st.length) (st1.set st.length (.dc ((kts.map (·.1)).zip ds))):=ht
  refine qK2 (pre.on b0) ht fun ds st1 h1 φ1 H1 vs b1 dl hlen=>?_
  have ep:φ1 st.length=a:=by
    rw [b1.2.ext st.length (by simp),qDb]
  obtain⟨vs0,e0,_,k0⟩:=b1.1.dc h1.1
  rw [k0.qPh,ep] at e0
  have hvl:vs.length=kts.length:=by rw [← dl.length];exact hlen
  have kn:((kts.map (·.1)).zip vs).map (·.1)=kts.map (·.1):=List.map_fst_zip (by rw [List.length_map];omega)
  refine⟨e0,(kts.map (·.1)).zip vs,rfl,by rw [List.length_zip,List.length_map];omega,?_⟩
  rw [qI8 (fun kv _=>qK4) (by rw [kn];exact nd),List.nil_append]
  have kd:KD X.K φ1 st1.length H1 ((kts.map (·.1)).zip ds) ((kts.map (·.1)).zip vs):=by
    refine⟨?_,?_⟩
    · rw [kn,List.map_fst_zip (by rw [List.length_map];omega)]
    · rw [List.map_snd_zip (by rw [List.length_map];omega),List.map_snd_zip (by rw [List.length_map];omega)];exact dl
  have bb:=qKF b1.1 h1.1 kd
  rw [ep] at bb
  refine hq _ _ h1.2 φ1 _ _ ((b0.trans b1).trans bb) ?_
  have:=D.qPs (K:=X.K) (φ:=φ1) (H:=upd H1 a (.dK ((kts.map (·.1)).zip vs))) (n:=st.length) (N:=(st1.set st.length (.dc ((kts.map (·.1)).zip ds))).length) (by rw [List.length_set];exact qm h1.1) (by rw [ep];exact⟨_,qAF⟩)
  rw [ep] at this
  exact this
end
end L3
namespace L3
open PySem PySem.Spec PyProof.Rows L2
end L3
namespace L3
open PySem PySem.Spec PyProof.Rows L2
end L3
namespace L3
open PySem PySem.Spec PyProof.Rows L2
end L3
namespace HT
open PySem PySem.Spec PyProof.Rows
end HT
namespace L3
open PySem PySem.Spec PyProof.Rows L2
end L3
namespace L3
open PySem PySem.Spec PyProof.Rows L2
end L3
namespace L3
open PySem PySem.Spec PyProof.Rows L2
end L3
namespace L3
open PySem PySem.Spec PyProof.Rows L2
end L3
namespace HT
open PySem PySem.Spec PyProof.Rows
end HT
namespace L3
open PySem PySem.Spec PyProof.Rows L2
end L3
namespace L3
open PySem PySem.Spec PyProof.Rows L2
noncomputable def g2:TGD:=qBU 2 (qAc (qU 0) (qAc (qU 1) qD4))
end L3
namespace HT
open PySem PySem.Spec PyProof.Rows
end HT
namespace HT
open PySem PySem.Spec PyProof.Rows
end HT
namespace L3
open PySem PySem.Spec PyProof.Rows L2
end L3
namespace L3
open PySem PySem.Spec PyProof.Rows L2
end L3
namespace L3
open PySem PySem.Spec PyProof.Rows L2
end L3
namespace L3
open PySem PySem.Spec PyProof.Rows L2
structure q9 (K:W.Frag) (n:Str) (st:Stmt):Prop where
  ex:∃ f fd,W.nsIn K mainGlobals n=some (some (.ref f))∧Fun K n n st f fd
structure qJm (K:W.Frag) (C:Addr) (n q:Str) (st:Stmt):Prop where
  ex:∃ f fd,W.findIn K (.ref C) n=some (some (.ref f))∧W.isFn K (.ref f)=true∧Fun K n q st f fd
section
variable {K:W.Frag} {n q:Str} {st:Stmt} {f C:Addr} {oc:Value} {od an:Option Addr} {osl:Array (Option Value)} {kV doc pm cdv ct:Value}
theorem q9.of (a:W.nsIn K mainGlobals n=some (some (.ref f))) (l:K.lookup f=some ⟨oc,od,.func (W.fnOf n n (qA1 st) (qAj st) (qO st) .none kV doc pm an cdv ct),osl⟩) (c:W.codeIn K cdv n=true) (k:W.keepIn K (.ref f)=true):q9 K n st:=⟨f,_,a,qK0 l c k⟩
theorem qJm.of (a:W.findIn K (.ref C) n=some (some (.ref f))) (i:W.isFn K (.ref f)=true) (l:K.lookup f=some ⟨oc,od,.func (W.fnOf n q (qA1 st) (qAj st) (qO st) .none kV doc pm an cdv ct),osl⟩) (c:W.codeIn K cdv q=true) (k:W.keepIn K (.ref f)=true):qJm K C n q st:=⟨f,_,a,i,qK0 l c k⟩
end
def Bnd (n q:Str) (st:Stmt) (ps:List Str):Prop:=∀ (kV doc pm:Value) (an:Option Addr) (cdv ct:Value) (us:List Value),us.length=ps.length→bindArgs (W.fnOf n q (qA1 st) (qAj st) (qO st) .none kV doc pm an cdv ct) ⟨us,[]⟩=pure (ps.zip us)
section
variable {P:Program} {w:World} {K:W.Frag} {mg:Str→Option Value} {base h:Heap} {n q nm:Str} {st:Stmt} {k:Nat} {sp:RDL} {ps flds:List Str} {C:Addr}
theorem q9.ok (X:K.In h) (G:h.Ns mainGlobals mg) (a:q9 K n st) (ok:∀ {f fd},Fun K n n st f fd→qAM P w K mg base CX0 k f fd ps (qc K sp)) (hb:Bnd n n st ps):qAB P w K mg base n k sp:=by
  obtain⟨f,fd,h1,F⟩:=a.ex
  exact⟨f,fd,ps,ok F,W.mg_of X G h1,F.kp,F.binds hb⟩
theorem q9.zero (X:K.In h) (G:h.Ns mainGlobals mg) (a:q9 K n st) (z:∀ {vs H Q E},qc K sp vs H Q E→False) (hb:Bnd n n st ps):qAB P w K mg base n k sp:=by
  obtain⟨f,fd,h1,F⟩:=a.ex
  exact⟨f,fd,ps,⟨fun vs H Q E h=>(z h).elim,fun A outer s H args us vs Q E hr he hb hv h=>(z h).elim⟩,W.mg_of X G h1,F.kp,F.binds hb⟩
end
section
variable {n q:Str} {st:Stmt} {ps:List Str}
theorem b1 (hp:ps.length=1) (h:∀ kV doc pm an cdv ct a,bindArgs (W.fnOf n q (qA1 st) (qAj st) (qO st) .none kV doc pm an cdv ct) ⟨[a],[]⟩=pure (ps.zip [a])):Bnd n q st ps:=fun _ _ _ _ _ _ us hl=>by
  rw [hp] at hl
  match us,hl with
  | [a],_=>exact h _ _ _ _ _ _ _
theorem b2 (hp:ps.length=2) (h:∀ kV doc pm an cdv ct a b,bindArgs (W.fnOf n q (qA1 st) (qAj st) (qO st) .none kV doc pm an cdv ct) ⟨[a,b],[]⟩=pure (ps.zip [a,b])):Bnd n q st ps:=fun _ _ _ _ _ _ us hl=>by
  rw [hp] at hl
  match us,hl with
  | [a,b],_=>exact h _ _ _ _ _ _ _ _
theorem b3 (hp:ps.length=3) (h:∀ kV doc pm an cdv ct a b c,bindArgs (W.fnOf n q (qA1 st) (qAj st) (qO st) .none kV doc pm an cdv ct) ⟨[a,b,c],[]⟩=pure (ps.zip [a,b,c])):Bnd n q st ps:=fun _ _ _ _ _ _ us hl=>by
  rw [hp] at hl
  match us,hl with
  | [a,b,c],_=>exact h _ _ _ _ _ _ _ _ _
theorem b4 (hp:ps.length=4) (h:∀ kV doc pm an cdv ct a b c d,bindArgs (W.fnOf n q (qA1 st) (qAj st) (qO st) .none kV doc pm an cdv ct) ⟨[a,b,c,d],[]⟩=pure (ps.zip [a,b,c,d])):Bnd n q st ps:=fun _ _ _ _ _ _ us hl=>by
  rw [hp] at hl
  match us,hl with
  | [a,b,c,d],_=>exact h _ _ _ _ _ _ _ _ _ _
end
end L3
namespace L3
open PySem PySem.Spec PyProof.Rows L2
end L3
namespace L3
open PySem PySem.Spec PyProof.Rows L2
end L3
namespace L3
open PySem PySem.Spec PyProof.Rows L2
end L3
namespace L3
open PySem PySem.Spec PyProof.Rows L2
end L3
namespace L3
open PySem PySem.Spec PyProof.Rows L2
theorem qFP {P:Program} {w:World} {H:Hp} {h:Heap} {a:Addr} {o:HO} (x:qAw P w H h a o):∃ ob,h.get? a=some ob:=by
  cases o with
  | lst xs=>obtain⟨_,_,_,_,e⟩:=x;exact⟨_,e⟩
  | tup xs=>obtain⟨_,_,_,ob,e,_⟩:=x;exact⟨_,e⟩
  | dK kvs=>obtain⟨_,_,_,_,ob,_,_,e,_⟩:=x;exact⟨_,e⟩
  | dT kvs=>obtain⟨_,_,_,_,ob,_,_,e,_⟩:=x;exact⟨_,e⟩
  | set S n=>obtain⟨ob,_,_,_,e,_⟩:=x;exact⟨_,e⟩
  | ins C dx fs=>obtain⟨_,_,_,e,_⟩:=x;exact⟨_,e⟩
  | own y=>obtain⟨ob,e⟩:=x;exact⟨_,e⟩
  | xd fs=>obtain⟨_,⟨_,_,_,e,_⟩,_⟩:=x;exact⟨_,e⟩
  | rng lo hi=>obtain⟨_,_,_,e⟩:=x;exact⟨_,e⟩
  | frz ob u=>obtain⟨e,_⟩:=x;exact⟨_,e⟩
  | tbl ps=>exact⟨_,show h.get? a=some _ from x⟩
  | met f y=>exact⟨_,show h.get? a=some _ from x⟩
  | ext φ=>obtain⟨_,⟨ob,e⟩,_⟩:=x;exact⟨_,e⟩
structure Out (P:Program) (w:World) (outer:List Env) (H H':Hp) (s:Shared) (ea C:Addr) (B:Heap) (a0:Value) (s':Shared):Prop where
  os:s'.os=s.os
  bare:AllBare s'.gens
  un:Un (frs outer) [] H H' s.heap s'.heap
  hok:HOk P w H' s'.heap
  fly:Heap.FlyingW B outer ea (.ref C) a0 s'.heap
  inB:∀ b o,s'.heap.get? b=some o→(H' b≠none∨∃ u,s.heap.get? b=some u)→b ∉ frs outer→B.get? b=some o
  fr:∀ b∈frs outer,H' b=none
noncomputable def CXE (P:Program) (w:World):CXT:=fun outer H s E e s'=>∃ ea C H' B a0,e = .ref ea∧Out P w outer H H' s ea C B a0 s'∧E (.ref C) none H'
section
variable {P:Program} {w:World} {outer:List Env} {H H':Hp} {s s':Shared} {ea C:Addr} {B h2:Heap} {a0:Value} {fs:List Addr} {h h1:Heap}
theorem qMu (un:Un fs [] H H' h h1) (k:∀ b o,h1.get? b=some o→(H' b≠none∨∃ u,h.get? b=some u)→b ∉ fs→h2.get? b=some o) (sm:h1.UpToSlots h2)
    (fr:∀ b∈fs,∃ o,h1.get? b=some o∧∀ vs,o.data≠.fields vs):Un fs [] H H' h h2 where
  keep b o e n hb hx:=k b o (un.keep b o e n hb hx) (.inr ⟨o,e⟩) hb
  slot b o e n hb hx:=by
    obtain⟨sl,e1⟩:=un.slot b o e n hb hx
    obtain⟨o1,e2,hd⟩:=fr b hb
    rw [e1] at e2
    cases e2
    obtain⟨sl2,e3⟩:=sm b _ e1 hd
    exact⟨sl2,e3⟩
  free:=un.free
  there b o e hx:=by
    obtain⟨o1,e1⟩:=un.there b o e hx
    by_cases hb:b∈fs
    · obtain⟨o2,e2,hd⟩:=fr b hb
      obtain⟨sl2,e3⟩:=sm b _ e2 hd
      exact⟨_,e3⟩
    · exact⟨o1,k b o1 e1 (.inr ⟨o,e⟩) hb⟩
  tups:=un.tups
  frzs:=un.frzs
  tbls:=un.tbls
theorem qKB (x:HOk P w H' h1) (fr:∀ b∈fs,H' b=none) (k:∀ b o,h1.get? b=some o→H' b≠none→b ∉ fs→h2.get? b=some o):HOk P w H' h2:=fun a o e =>
  (x a o e).stay (fun b u hb q=>by
    have hn:H' b≠none:=by
      rcases hb with z | z
      · rw [z,e];exact fun y=>nomatch y
      · rw [z];exact fun y=>nomatch y
    exact k b u q hn fun z=>hn (fr b z)) (fun _ q=>q) fun _ _ q=>q
theorem Out.on (O:Out P w outer H H' s ea C B a0 s') (f2:Heap.FlyingW B outer ea (.ref C) a0 h2) (sm:s'.heap.UpToSlots h2):Out P w outer H H' s ea C B a0 { s' with heap:=h2 }:=by
  have k:∀ b o,s'.heap.get? b=some o→(H' b≠none∨∃ u,s.heap.get? b=some u)→b ∉ frs outer→h2.get? b=some o:=fun b o e c nb=>f2.1 b o (O.inB b o e c nb)
  have fr:∀ b∈frs outer,∃ o,s'.heap.get? b=some o∧∀ vs,o.data≠.fields vs:=fun b hb=>(O.fly.2.2.1.mem hb).2
  refine⟨O.os,O.bare,qMu O.un k sm fr,qKB O.hok O.fr fun b o e c nb=>k b o e (.inl c) nb,f2,fun b o e c nb=>?_,O.fr⟩
  have ex:∃ o1,s'.heap.get? b=some o1:=by
    rcases c with c | ⟨u,eu⟩
    · cases q:H' b with
      | none=>exact absurd q c
      | some ho=>exact qFP (O.hok b ho q)
    · exact O.un.there b u eu fun z=>nomatch z
  obtain⟨o1,e1⟩:=ex
  have hB:=O.inB b o1 e1 c nb
  have:=f2.1 b o1 hB
  have e':h2.get? b=some o:=e
  rw [e'] at this
  cases this
  exact hB
end
section
variable {X:Cx} {pins:List (Addr×Obj)} {σ:L2.St} {H H':Hp} {s s':Shared} {ea C:Addr} {B:Heap} {a0:Value}
theorem Out.inv (O:Out X.prog X.w X.stack H H' s ea C B a0 s') (I:Inv X pins σ H s):Inv X pins σ H' s':=I.qM0 (ch:=[]) O.os O.un O.hok O.bare fun b z=>nomatch z
def Raises (X:Cx) (E:XK):Prop:=∀ (pins:List (Addr×Obj)) (σ:L2.St) (H:Hp) (s:Shared) (C:Addr) (vs:List Value) (h':Heap) (e:Addr),Inv X pins σ H s→Heap.MadeExcOf s.heap h' e (.ref C) vs→E (.ref C) none H→X.xe (.ref e) { s with heap:=h' }
end
theorem qJE {P:Program} {w:World} {K:W.Frag} {mg:Str→Option Value} {base:Heap} {N:List Str} {qual:Str} {scope:Scope} {f:Addr} {cd:Value} {A:Around} {outer:List Env} {s:Shared} {H:Hp} {E:XK} :
    Raises (qGA (CXE P w) P w K mg base N qual scope f cd A outer s H E) E:=by
  intro pins σ H1 s1 C vs h' e I hx hE
  have hin:∀ env∈(envOfC qual scope s.heap.objs.size f cd::outer),∀ b,env.frame=some b→b∈frs (envOfC qual scope s.heap.objs.size f cd::outer):=fun env he b hb=>List.mem_filterMap.mpr ⟨env,he,hb⟩
  have I2:Un (frs outer) [] H H1 s.heap s1.heap:=I.base
  have st:s1.heap.FunFrames base (envOfC qual scope s.heap.objs.size f cd::outer):=I.stack
  have sf:∀ b∈frs (envOfC qual scope s.heap.objs.size f cd::outer),H1 b=none:=I.qGL
  have sub:∀ b∈frs outer,b∈frs (envOfC qual scope s.heap.objs.size f cd::outer):=fun b hb=>by
    obtain⟨env,he,hf⟩:=List.mem_filterMap.mp hb
    exact List.mem_filterMap.mpr ⟨env,List.mem_cons_of_mem _ he,hf⟩
  have inv:∀ b,b∈frs (envOfC qual scope s.heap.objs.size f cd::outer)→b ∉ frs outer→b=s.heap.objs.size:=fun b hb nb=>by
    obtain⟨env,he,hf⟩:=List.mem_filterMap.mp hb
    rcases List.mem_cons.mp he with z | z
    · subst z;exact (Option.some.inj hf).symm
    · exact absurd (List.mem_filterMap.mpr ⟨env,z,hf⟩) nb
  refine wpAny_leaves_madeW (base:=W.hideAll s1.heap (frs (envOfC qual scope s.heap.objs.size f cd::outer))) (h:=s1.heap) I.ok.frames rfl (fun b o q=>W.of_hideAll _ q) (W.funFrames_hide st hin) hx fun h2 t fl _ _ sm=>?_
  have nf:∀ b,(H1 b≠none∨∃ u,s.heap.get? b=some u)→b ∉ frs outer→b ∉ frs (envOfC qual scope s.heap.objs.size f cd::outer):=fun b c nb hb=>by
    have z:=inv b hb nb
    rcases c with c | ⟨u,eu⟩
    · exact c (sf b hb)
    · rw [z] at eu
      exact absurd (Heap.lt_size eu) (Nat.lt_irrefl _)
  have k:∀ b o,s1.heap.get? b=some o→(H1 b≠none∨∃ u,s.heap.get? b=some u)→b ∉ frs outer→(W.hideAll s1.heap (frs (envOfC qual scope s.heap.objs.size f cd::outer))).get? b=some o:=fun b o e c nb=>W.hideAll_get _ e (nf b c nb)
  have fr:∀ b∈frs outer,∃ o,s1.heap.get? b=some o∧∀ vs,o.data≠.fields vs:=fun b hb=>(st.mem (sub b hb)).2
  have sm1:s1.heap.UpToSlots h2:=(Heap.UpToSlots.of_keeps hx.keeps).trans sm
  refine⟨e,C,H1,_,_,rfl,⟨I.os,I.bare,qMu I2 (fun b o e c nb=>fl.1 b o (k b o e c nb)) sm1 fr,qKB I.hok (fun b hb=>sf b (sub b hb)) fun b o e c nb=>fl.1 b o (k b o e (.inl c) nb),fl,fun b o e c nb=>?_,fun b hb=>sf b (sub b hb)⟩,hE⟩
  have ex:∃ o1,s1.heap.get? b=some o1:=by
    rcases c with c | ⟨u,eu⟩
    · cases q:H1 b with
      | none=>exact absurd q c
      | some ho=>exact qFP (I.hok b ho q)
    · exact I2.there b u eu fun z=>nomatch z
  obtain⟨o1,e1⟩:=ex
  have hB:=k b o1 e1 c nb
  have:=fl.1 b o1 hB
  have e':h2.get? b=some o:=e
  rw [e'] at this
  cases this
  exact hB
end L3
namespace L3
open PySem PySem.Spec PyProof.Rows L2
noncomputable abbrev bmV:List Value:=[.type "ValueError",.type "Exception",.type "BaseException",.type "object"]
structure qFq (K:W.Frag) (x:Str) (C:Addr):Prop where
  ns:W.nsIn K mainGlobals x=some (some (.ref C))
  ok:W.excIn K C bmV "ValueError.__new__" = true
theorem qDU {K:W.Frag} {h:Heap} {C:Addr} {bmB:List Value} {newId:String} (X:K.In h) (q:W.excIn K C bmB newId=true) :
    ∃ nm qn N bs bm hdct sn sub ab col dd k0 k1 k2 k3 k5 mN,K.lookup C=some (excClassObj nm qn C N bs bm hdct sn sub ab col dd k0 k1 k2 k3 k5 newId)∧h.Ns N mN∧mN "__init__" = none∧OwnTail h bmB bm:=by
  unfold W.excIn at q
  split at q
  case h_2=>exact absurd q Bool.false_ne_true
  rename_i dd cd sl ho
  split at q
  case h_2=>exact absurd q Bool.false_ne_true
  rename_i C' bm k0 k1 k2 k3 n k5 hm hs
  rw [Bool.and_eq_true,Bool.and_eq_true,Bool.and_eq_true,Bool.and_eq_true,Bool.and_eq_true] at q
  obtain⟨⟨⟨⟨⟨q1,q2⟩,q3⟩,q4⟩,q5⟩,q6⟩:=q
  have e1:C'=C:=beq_iff_eq.mp q1
  have e2:n=newId:=beq_iff_eq.mp q2
  subst e1 e2
  have e3:cd.hasDel=false:=by simpa using q3
  have es:sl=#[k0,k1,k2,k3,some (.builtin n),k5]:=by
    cases sl with
    | mk l=>exact congrArg Array.mk hs
  subst es
  cases cd with
  | mk nm bs mro ns qn hd sn sub ab col del =>
    have hm':mro = .ref C'::bm:=hm
    have e3':del=false:=e3
    subst hm' e3'
    exact⟨nm,qn,ns,bs,bm,hd,sn,sub,ab,col,dd,k0,k1,k2,k3,k5,_,ho,.of_isNs (W.isNs_of_in X q5),W.nsMap_none_of_in X q5 (beq_iff_eq.mp q6),W.tail_of_in X q4⟩
noncomputable def qNo (C:Addr) (E:XK) (t:TA):TS:=fun _ σ H=>t σ H fun vs H1=>vs.length≤sizeLine∧E (.ref C) none H1
section
variable {X:Cx} {E:XK} {x:Str} {C:Addr} {t:TA} {e:Expr} {es:List Expr} {np cpos pos:Pos}
theorem qKk (hx:qFq X.K x C) (hm:X.mg x=some (.ref C)) (hc:X.calm=true) (hE:Raises X E) (ha:PA X (e::es) t) (hg:Gl X x) (hd:(x==("__debug__" : Str))=false) (he:starEach (e::es) X.env=(false,eval e X.env)::starEach es X.env)
    (hpl:(backTo cpos (starEach es X.env)).any (·.1)=false):PS X (.Raise (some (.Call (.Name x np) (e::es) [] cpos)) none pos) (qNo C E t):=by
  k_dat 0"r9"
  obtain⟨nm,qn,N,bs,bm,hdct,sn,sub,ab,col,dd,k0,k1,k2,k3,k5,mN,hC,hN,hni,T⟩:=qDU I.ok.mod.kin hx.ok
  refine wpAny_Raise_call_subT (nm:=nm) (q:=qn) (N:=N) (bs:=bs) (hdct:=hdct) (sn:=sn) (sub:=sub) (ab:=ab) (col:=col) (dd:=dd) (k0:=k0) (k1:=k1) (k2:=k2) (k3:=k3) (k5:=k5) PySem.F.excBase_ValueError (T.hasType PySem.F.excBase_ValueError.hasBase) (I.ok.hd hc) (by rw [he];show (false || (backTo cpos (starEach es X.env)).any (·.1))=false;rw [hpl];rfl) hni (qBR I hg hm ⟨rfl,?_⟩ hd)
  have h2:=ha cpos pins s σ H _ I h
  rw [he] at h2 ⊢
  refine Calls.evalArgs_plain (wpAny_mono h2 (fun us s2 ⟨vs,H2,I2,r,q1,q2⟩=>?_) fun _ _ y=>y)
  exact⟨rfl,by rw [← r.length];exact q1,I2.bk _ _ (I.ok.mod.kin _ _ hC),hN.keeps I2.bk,T.keeps I2.bk,fun h' e' hm'=>hE pins σ H2 s2 C us h' e' I2 hm' q2⟩
end
noncomputable abbrev _root_.L2.Cx.qCn (X:Cx) (e:Addr):Cx:={ X with A:=X.A.mark (some (.ref e)),calm:=false,xe:=fun _ _=>False }
section
variable {X:Cx} {pins:List (Addr×Obj)} {σ:L2.St} {H:Hp} {s:Shared} {e:Addr}
theorem Inv.inE (I:Inv X pins σ H s):Inv (X.qCn e) pins σ H s :=
  ⟨⟨I.ok.mod,I.ok.kind,I.ok.glob,I.ok.blt,I.ok.above,I.ok.inj,I.ok.has,I.ok.cab,fun z=>absurd z Bool.false_ne_true,I.ok.frames,I.ok.stk,I.ok.exf,I.ok.bs,I.ok.bsz,I.ok.noex,I.ok.exfs,I.ok.qDj,I.ok.frf⟩,I.os,I.bare,I.base,I.loc,I.cell,I.free,I.freeC,I.pin,I.hok,I.len⟩
theorem Inv.qHP (ok:X.Ok) (I:Inv (X.qCn e) pins σ H s):Inv X pins σ H s:=⟨ok,I.os,I.bare,I.base,I.loc,I.cell,I.free,I.freeC,I.pin,I.hok,I.len⟩
theorem qOo {D:Ends} {f:Flow} (ok:X.Ok) (h:SP (X.qCn e) pins D f s):SP X pins D f s:=by
  cases f with
  | next=>obtain⟨σ',H',I,q⟩:=h;exact⟨σ',H',Inv.qHP ok I,q⟩
  | brk=>obtain⟨σ',H',I,q⟩:=h;exact⟨σ',H',Inv.qHP ok I,q⟩
  | cont=>obtain⟨σ',H',I,q⟩:=h;exact⟨σ',H',Inv.qHP ok I,q⟩
  | ret u=>obtain⟨v,σ',H',I,q⟩:=h;exact⟨v,σ',H',Inv.qHP ok I,q⟩
end
noncomputable def subIn (K:W.Frag) (C D:Addr):Bool:=match K.lookup C with
  | some ⟨_,_,.cls cd,_⟩=>cd.mro.contains (.ref D)
  | _=>false
section
variable {M:Model} {A:Around} {E:Value→Shared→Prop} {h:Heap} {g:Array GenState} {d:Drawn} {t:Nat} {os:OsState}
variable {nm q nm' q':Str} {C N C' N':Addr} {bs bm bs' bm':List Value} {hdct hdct':Bool} {sn sn':List Str} {sub sub':List Value} {ab ab':Bool} {col col':Option Bool} {dd dd':Option Addr} {k0 k1 k2 k3 k5 k0' k1' k2' k3' k5':Option Value} {newId newId':String}
theorem qFc {e:Addr} {oe:Obj} {Q:Bool→Shared→Prop} (hC:h.get? C=some (excClassObj nm q C N bs bm hdct sn sub ab col dd k0 k1 k2 k3 k5 newId)) (hD:h.get? C'=some (excClassObj nm' q' C' N' bs' bm' hdct' sn' sub' ab' col' dd' k0' k1' k2' k3' k5' newId'))
    (he:h.get? e=some oe) (hcls:oe.cls = .ref C) (hbase:bm'.contains (.type "BaseException")=true) (hs:(Value.ref C::bm).contains (.ref C')=true) (hq:Q true ⟨h,g,d,t,os⟩):wpAny M A (excMatches (.ref e) (.ref C')) Q E ⟨h,g,d,t,os⟩:=by
  have b1:(Value.ref C'::bm').contains (.type "BaseException")=true:=by rw [List.contains_cons,hbase];exact Bool.or_true _
  have f:=tc_notTuple
  unfold excMatches
  repeat (first
    | (with_reducible refine wpAny_loadPart_at he ?_;rw [hcls])
    | with_reducible refine wpAny_loadPart_at hD ?_
    | (with_reducible refine wpAny_isSubtype_exc hC ?_;rw [hs])
    | (with_reducible refine wpAny_isSubtype_exc hD ?_;rw [b1])
    | wp_step)
  exact hq
end
end L3
namespace L3
open PySem PySem.Spec PyProof.Rows L2
structure Catch (K:W.Frag) (C Z:Addr):Prop where
  ok:W.excIn K C bmV "ValueError.__new__" = true
  sub:subIn K C Z=true
section
variable {X:Cx} {pins:List (Addr×Obj)} {σ:L2.St} {H H':Hp} {s s1:Shared} {ea C Z:Addr} {B:Heap} {a0:Value} {D:Ends} {ts:TS} {z:Str} {p5 p6:Pos} {b0:Stmt} {suite:List Stmt} {E:Value→Shared→Prop}
theorem caught (I:L2.Inv X pins σ H s) (O:Out X.prog X.w X.stack H H' s ea C B a0 s1) (hst:X.stack=X.env::X.outer) (hfr:X.env.frame=some X.env.locals) (hz:qFq X.K z Z) (hmz:X.mg z=some (.ref Z)) (hgz:Gl X z) (hdz:(z==("__debug__" : Str))=false)
    (hC:Catch X.K C Z) (hs:PSs (X.qCn ea) (b0::suite) ts) (h:ts D σ H') :
    wpAny (model X.prog X.w) X.A (noteFrame (.ref ea) X.env) (fun _ s₂=>wpAny (model X.prog X.w) X.A (setFlight (.ref ea) none) (fun _ s₃=>wpAny (model X.prog X.w) X.A (handleBy (.ref ea) X.env [.ExceptHandler (some (.Name z p5)) none (b0::suite) p6]) (SP X pins D) E s₃) E s₂) E s1:=by
  have hfr':X.A.frames=some (X.env::X.outer):=by rw [← hst];exact I.ok.frames
  k_dat 0"r50"
  refine wpAny_looks_onW hfr' hfr fl1 fun h4 hheld sm4=>?_
  refine wpAny_landsW hheld fun h5 hfl sm5=>?_
  have O5:=O.on (by rw [hst];exact hfl) (sm4.trans sm5)
  have I5:=O5.inv I
  k_dat 0"r51"
  k_dat 0"r52"
  k_dat 0"r53"
  obtain⟨oe,he,hcls⟩:=hfl.there
  have hsub:(Value.ref C::bm).contains (.ref Z)=true:=by
    have:=hC.sub
    unfold subIn at this
    rw [eC] at this
    exact this
  k_dat 0"r54"
  refine codeAny_handlers_suite ?_
  refine lands_againW hfl fun h6 hfl6 sm6=>?_
  have O6:=O5.on (by rw [hst];exact hfl6) sm6
  exact wpAny_mono (hs pins _ σ H' D (Inv.inE (O6.inv I)) h) (fun f s' q=>qOo I.ok q) fun _ _ z=>False.elim z
end
end L3
namespace L3
open PySem PySem.Spec PyProof.Rows L2
noncomputable def qQ8:List String:=["BadRow", "NoTurning", "NoPaper", "NoAsk", "NoStep"]
noncomputable def isX:Dt→Option String
  | .ty s=>if qQ8.contains s then some s else none
  | _=>none
def QX (K:W.Frag) (E:XK) (n:String) (H:Hp):Prop:=∀ C,W.nsIn K mainGlobals (Str.ofString n)=some (some (.ref C))→E (.ref C) none H
noncomputable def qEL (K:W.Frag) (sp:RDL):Sp:=fun vs H Q E=>∃ φ st ds P,Rep K φ st H∧DL K φ st.length H ds vs∧sp ds st P ∧
  ∀ d st',P d st'→∀ φ' H' u,Bhd K φ st H φ' st' H'→D K φ' st'.length H' d u→(isX d=none→Q u H')∧∀ n,isX d=some n→QX K E n H'
noncomputable def qID (K:W.Frag) (E:XK) (t:TSD):TS:=fun D σ H=>∃ φ st ρ P,Pre K φ st H ρ σ∧t P ρ st ∧
  (∀ ρ' st',P.nx ρ' st'→∀ φ' H' σ',Bhd K φ st H φ' st' H'→DR K φ' st'.length H' ρ' σ'→D.nx σ' H') ∧
  (∀ ρ' st',P.bk ρ' st'→∀ φ' H' σ',Bhd K φ st H φ' st' H'→DR K φ' st'.length H' ρ' σ'→D.bk σ' H') ∧
  (∀ ρ' st',P.ct ρ' st'→∀ φ' H' σ',Bhd K φ st H φ' st' H'→DR K φ' st'.length H' ρ' σ'→D.ct σ' H') ∧
  ∀ d st',P.rt d st'→∀ φ' H' v,Bhd K φ st H φ' st' H'→L3.D K φ' st'.length H' d v→(isX d=none→D.rt v H')∧∀ n,isX d=some n→QX K E n H'
def DQ (X:Cx) (E:XK) (s:Stmt) (t:TSD):Prop:=PS X s (qID X.K E t)
def DQs (X:Cx) (E:XK) (s:List Stmt) (t:TSD):Prop:=PSs X s (qID X.K E t)
def qEi (n:String) (t:TAD):TSD:=fun E ρ st=>t ρ st fun ds st1=>ds.length≤sizeLine∧E.rt (.ty n) st1
def qKH (te:TD):TSD:=fun E ρ st=>te ρ st fun d st1=>isX d=none∧E.rt d st1
section
variable {X:Cx} {E:XK} {s:Stmt} {rest:List Stmt} {t u:TSD} {pos:Pos} {e:Expr} {te:TD}
theorem qL5:DQs X E [] qI:=(qIU).imp fun D σ H h=>by
  k_dat 0"r6"
  exact n ρ st ht φ H σ (.refl pre.1) pre.2
theorem qGq (h1:DQ X E s t) (h2:DQs X E rest u):DQs X E (s::rest) (tseq t u):=(qHG h1 h2).imp fun D σ H h=>by
  k_dat 0"r6"
  k_dat 0"r48"
  exact⟨φ',st',ρ',P,⟨bh.1,dr⟩,hu,fun ρ2 st2 h2 φ2 H2 σ2 b2 d2=>n ρ2 st2 h2 φ2 H2 σ2 (bh.trans b2) d2,fun ρ2 st2 h2 φ2 H2 σ2 b2 d2=>b ρ2 st2 h2 φ2 H2 σ2 (bh.trans b2) d2,
    fun ρ2 st2 h2 φ2 H2 σ2 b2 d2=>c ρ2 st2 h2 φ2 H2 σ2 (bh.trans b2) d2,fun d st2 h2 φ2 H2 v b2 d2=>r d st2 h2 φ2 H2 v (bh.trans b2) d2⟩
theorem qP2 {c:Expr} {a b:List Stmt} {tc:TBD} (hc:DT X c tc) (ha:DQs X E a t) (hb:DQs X E b u):DQ X E (.If c a b pos) (qi tc t u):=(qMw hc ha hb).imp fun D σ H h=>by
  k_dat 0"r6"
  k_dat 0"r23"
  have on:∀ {v:TSD},v P ρ st1→qID X.K E v D σ H1:=fun {v} hv=>⟨φ1,st1,ρ,P,pre.on b1,hv,fun ρ2 st2 h2 φ2 H2 σ2 b2 d2=>n ρ2 st2 h2 φ2 H2 σ2 (b1.trans b2) d2,fun ρ2 st2 h2 φ2 H2 σ2 b2 d2=>b ρ2 st2 h2 φ2 H2 σ2 (b1.trans b2) d2,
    fun ρ2 st2 h2 φ2 H2 σ2 b2 d2=>c ρ2 st2 h2 φ2 H2 σ2 (b1.trans b2) d2,fun d st2 h2 φ2 H2 v b2 d2=>r d st2 h2 φ2 H2 v (b1.trans b2) d2⟩
  cases k with
  | true=>exact qBA (on (by rw [if_pos rfl] at h1;exact h1))
  | false=>exact qBB (on (by rw [if_neg Bool.false_ne_true] at h1;exact h1))
theorem qPI (he:DE X e te):DQ X E (.Return (some e) pos) (qKH te):=(qLE he).imp fun D σ H h=>by
  k_dat 0"r6"
  exact⟨φ,st,ρ,_,pre,ht,fun d st1 h1 φ1 H1 v b1 dv=>(r d st1 h1.2 φ1 H1 v b1 dv).1 h1.1⟩
theorem qPm (h:DS X s t) (hn:∀ P ρ st,t P ρ st→t { P with rt:=fun _ _=>False } ρ st):DQ X E s t:=fun pins s' σ H D I hw=>by
  obtain⟨φ,st,ρ,P,pre,ht,n,b,c,r⟩:=hw
  refine thn (h pins s' σ H { D with rt:=fun _ _=>False } I ⟨φ,st,ρ,{ P with rt:=fun _ _=>False },pre,hn P ρ st ht,n,b,c,fun _ _ z=>z.elim⟩) fun f s2 q=>?_
  cases f with
  | next=>exact q
  | brk=>exact q
  | cont=>exact q
  | ret v=>obtain⟨_,_,_,_,_,z⟩:=q;exact False.elim z
end
structure qIK (K:W.Frag) (mg:Str→Option Value) (n:String):Prop where
  ex:∃ C,qFq K (Str.ofString n) C∧mg (Str.ofString n)=some (.ref C)
section
variable {X:Cx} {E:XK} {n:String} {t:TAD} {e:Expr} {es:List Expr} {np cpos pos:Pos}
theorem qJt (hx:qIK X.K X.mg n) (hi:isX (.ty n)=some n) (hc:X.calm=true) (hE:Raises X E) (ha:DA X (e::es) t) (hg:Gl X (Str.ofString n)) (hd:(Str.ofString n==("__debug__" : Str))=false) (he:starEach (e::es) X.env=(false,eval e X.env)::starEach es X.env)
    (hpl:(backTo cpos (starEach es X.env)).any (·.1)=false):DQ X E (.Raise (some (.Call (.Name (Str.ofString n) np) (e::es) [] cpos)) none pos) (qEi n t):=by
  obtain⟨C,hx,hm⟩:=hx.ex
  refine (qKk hx hm hc hE ha hg hd he hpl).imp fun D σ H h=>?_
  obtain⟨φ,st,ρ,P,pre,ht,n',b,c,r⟩:=h
  refine⟨φ,st,ρ,_,pre,ht,fun ds st1 h1 φ1 H1 vs b1 dl=>⟨by rw [← dl.length];exact h1.1,?_⟩⟩
  exact (r (.ty n) st1 h1.2 φ1 H1 (.ty n) b1 L3.D.qQE).2 n hi C hx.ns
end
structure qH1 (P:Program) (w:World) (K:W.Frag) (mg:Str→Option Value) (base:Heap) (x:Str) (k:Nat) (sp:RDL):Prop where
  ex:∃ f fd ps,qAM P w K mg base (CXE P w) k f fd ps (qEL K sp)∧mg x=some (.ref f)∧W.keepIn K (.ref f)=true∧Binds K fd ps []
theorem qLa {P:Program} {w:World} {K:W.Frag} {mg:Str→Option Value} {base:Heap} {x qual:Str} {stt:Stmt} {f:Addr} {fd:FuncData} {N ps:List Str} {k:Nat} {sp:RDL} (F:Fun K x qual stt f fd) (S:qZ N ps (qO stt))
    (len:∀ ds st Pd,sp ds st Pd→ds.length=ps.length)
    (hbody:∀ (cdv:Value) (A:Around) (outer:List Env) (s:Shared) (H:Hp) (E:XK),qA4 k (A.deeper (envOfC qual (qO stt) s.heap.objs.size f cdv)) →
      ∃ t,DQs (qGA (CXE P w) P w K mg base N qual (qO stt) f cdv A outer s H E) E (qAj stt) t∧∀ ds st Pd,sp ds st Pd→t { nx:=fun _ st'=>Pd .non st',rt:=Pd } (qd N ds) st):qAM P w K mg base (CXE P w) (k+1) f fd ps (qEL K sp):=by
  k_dat 0"r35"
  refine qMz lk hcd S (fun vs H Q E h=>?_) fun A outer s H vs Q E hr h=>?_
  · k_dat 0"r31"
    rw [← dl.length]
    exact len ds st Pd hs
  · obtain⟨t,ht,hb⟩:=hbody cdv A outer s H E hr
    k_dat 0"r31"
    exact⟨_,ht,φ,st,qd N ds,_,⟨R,qHU dl N⟩,hb ds st Pd hs,fun ρ' st' h' φ' H' σ' b' d'=>(hq _ st' h' φ' H' _ b' D.qIf).1 rfl,fun ρ' st' h'=>h'.elim,fun ρ' st' h'=>h'.elim,fun d st' h' φ' H' v b' d'=>hq d st' h' φ' H' v b' d'⟩
structure qIW (K:W.Frag) (mg:Str→Option Value) (z:Str) (ns:List String):Prop where
  ex:∃ Z,qFq K z Z∧mg z=some (.ref Z)∧∀ n∈ns,∀ C,W.nsIn K mainGlobals (Str.ofString n)=some (some (.ref C))→Catch K C Z
end L3
namespace L3
open PySem PySem.Spec PyProof.Rows L2
def qND (a:Str) (te:TD) (b:Str):TD:=fun ρ st P=>te ρ st fun x st1=>∃ y:Str,(x = .str y∨∃ i:Int,x = .int i∧i.natAbs.log2<1920∧y=toString i)∧a.length+y.length+b.length≤sizeLine∧∀ z,P (.str z) st1
section
variable {X:Cx} {e:Expr} {te:TD} {a b:Str} {pos p1 p2 p3:Pos} {k1 k3:Nat}
theorem qMG (he:DE X e te) (ha:a.length≤sizeLine):DE X (.JoinedStr [.Constant (.str a) k1 p1,.FormattedValue e (-1) none p2,.Constant (.str b) k3 p3] pos) (qND a te b):=by
  k_dat 0"r1"
  k_dat 0"r0"
  have l0:∀ x:Str,(Str.empty++x).length=x.length:=fun x=>by rw [strLen_append];show 0+x.length=x.length;omega
  refine wpAny_JoinedStr ?_
  refine thn ((qGW (X:=X) (x:=a)) pins s σ H (fun v H'=>v = .str a∧H'=H) I ⟨rfl,rfl⟩) fun u s1 ⟨v,H1,I1,r1,ev,eH⟩=>?_
  subst ev eH
  obtain⟨t1,rfl⟩:=r1
  have mid:wpAny (model X.prog X.w) X.A (eval (.FormattedValue e (-1) none p2) X.env) (fun v s2=>∃ y t,v = .str y t∧a.length+y.length+b.length≤sizeLine∧∃ H2,L2.Inv X pins σ H2 s2∧∀ z,Q (.str z) H2) X.xe s1:=by
    refine wpAny_FormattedValue_plain (thn (he pins s1 σ H1 (fun v H'=>∃ y:Str,(v = .str y∨∃ i:Int,v = .int i∧i.natAbs.log2<1920∧y=toString i)∧a.length+y.length+b.length≤sizeLine∧∀ z,Q (.str z) H') I1 ⟨φ,st,ρ,_,pre,ht,fun x st1 h1 φ1 H1' v b1 dx=>?_⟩) fun u s2 ⟨v,H2,I2,r2,y,q1,q2,q3⟩=>?_)
    · obtain⟨y,c,h2,h3⟩:=h1
      refine⟨y,?_,h2,fun z=>hq _ st1 (h3 z) φ1 H1' _ b1 D.mkStr⟩
      rcases c with c | ⟨i,c,c2,c3⟩
      · subst c;exact .inl dx.str
      · subst c;exact .inr ⟨i,dx.int,c2,c3⟩
    · rcases q1 with e1 | ⟨i,e1,e2,e3⟩
      · subst e1
        obtain⟨t2,rfl⟩:=r2
        exact wpAny_formatField_str ⟨y,_,rfl,q2,H2,I2,q3⟩ ⟨y,_,rfl,q2,H2,I2.tok _,q3⟩ (by omega)
      · subst e1 e3
        obtain⟨t2,rfl⟩:=r2
        exact wpAny_formatField_int e2 ⟨_,_,rfl,q2,H2,I2.tok _,q3⟩
  refine⟨a,t1,rfl,by rw [l0];exact ha,?_⟩
  refine thn mid fun u s2 ⟨y,t2,e2,q2,H2,I2,q3⟩=>⟨y,t2,e2,by rw [strLen_append,l0];omega,?_⟩
  refine thn ((qGW (X:=X) (x:=b)) pins s2 σ H2 (fun v H'=>v = .str b∧∀ z,Q (.str z) H') I2 ⟨rfl,q3⟩) fun u s3 ⟨v,H3,I3,r3,ev,q4⟩=>?_
  subst ev
  obtain⟨t3,rfl⟩:=r3
  refine⟨b,t3,rfl,by rw [strLen_append,strLen_append,l0];exact q2,by rw [strLen_append,strLen_append,l0];exact q2,?_⟩
  exact⟨.str _,H3,I3.tok _,⟨_,rfl⟩,q4 _⟩
end
end L3
namespace L3
open PySem PySem.Spec PyProof.Rows L2
noncomputable def qA9 {γ:Type} (R:γ→Value→Prop) (P:Params):List DictEntry→List (Str×γ)→Prop
  | [],[]=>True
  | e::r,kv::q=>(∃ t,e.key = .str kv.1 t∧R kv.2 e.val∧e.hash=PyData.keyHash P kv.1)∧qA9 R P r q
  | _,_=>False
section
variable {γ:Type} {R:γ→Value→Prop} {P:Params}
theorem qA9.lit:∀ {l:List DictEntry} {kvs:List (Str×γ)},qA9 R P l kvs→W.KeysLit P l
  | [],[],_=>trivial
  | _::_,_::_,⟨⟨t,h1,_,h3⟩,r⟩=>⟨⟨_,t,h1,h3⟩,r.lit⟩
  | [],_::_,h=>h.elim
  | _::_,[],h=>h.elim
theorem qA9.find (y:Str):∀ {l:List DictEntry} {kvs:List (Str×γ)},qA9 R P l kvs→(kvs.lookup y=none∧(l.find? fun e=>Value.isStrOf y e.key).map (·.val)=none)∨∃ z u,kvs.lookup y=some z∧(l.find? fun e=>Value.isStrOf y e.key).map (·.val)=some u∧R z u
  | [],[],_=>.inl ⟨rfl,rfl⟩
  | e :: r,(k,v)::q,⟨⟨t,h1,h2,h3⟩,hr⟩=>by
    have ih:=qA9.find y hr
    have hk:Value.isStrOf y e.key=(k==y):=by rw [h1];rfl
    rw [List.find?_cons,hk,List.lookup_cons]
    have hs:(y==k)=(k==y):=by
      by_cases q:y=k
      · subst q;rfl
      · k_dat 0"r37"
    rw [hs]
    cases k==y with
    | true=>exact .inr ⟨v,e.val,rfl,rfl,h2⟩
    | false=>exact ih
  | [],_::_,h=>h.elim
  | _::_,[],h=>h.elim
theorem qA9.imp {R':γ→Value→Prop} (i:∀ z u,R z u→R' z u):∀ {l:List DictEntry} {kvs:List (Str×γ)},qA9 R P l kvs→qA9 R' P l kvs
  | [],[],_=>trivial
  | _::_,_::_,⟨⟨t,h1,h2,h3⟩,r⟩=>⟨⟨t,h1,i _ _ h2,h3⟩,r.imp i⟩
  | [],_::_,h=>h.elim
  | _::_,[],h=>h.elim
end
structure qC3 (w:World) (K:W.Frag) (mg:Str→Option Value) (x:Str) {γ:Type} (R:γ→Value→Prop) (kvs:List (Str×γ)):Prop where
  ex:∃ a es n,mg x=some (.ref a)∧K.lookup a=some ⟨.type "dict",none,.dict es n,#[]⟩∧(a==sysModules)=false∧qA9 R w.params es.toList kvs
section
variable {X:Cx} {i:Expr} {ti:TD} {pos p:Pos} {x:Str} {γ:Type} {R:γ→Value→Prop} {kvs:List (Str×γ)}
noncomputable def qH0 {γ:Type} (neg:Bool) (kvs:List (Str×γ)) (ti:TE):TE:=fun σ H Q=>ti σ H fun y H1=>∃ z,y = .str z∧Q (.bl ((kvs.lookup z).isSome != neg)) H1
theorem find_some {es:Array DictEntry} {P:Params} (he:qA9 R P es.toList kvs) (z:Str):(findBy Value.isStrOf es z).isSome=(kvs.lookup z).isSome:=by
  obtain⟨l⟩:=es
  unfold findBy
  rw [List.find?_toArray]
  rcases he.find z with ⟨e1,e2⟩ | ⟨z',u',e1,e2,_⟩<;>rw [e1,e2]<;>rfl
theorem qJd {ty:TE} (T:qC3 X.w X.K X.mg x R kvs) (hi:PE X i ty) (hg:Gl X x) (hd:(x==("__debug__" : Str))=false):PC X .In i (.Name x p) (qH0 false kvs ty):=by
  obtain⟨a,es,n,hm,hl,hy,he⟩:=T.ex
  k_dat 0"r1"
  refine thn (hi pins s σ H _ I h) fun iv s1 ⟨y,H1,I1,ry,z,ey,q1⟩=>?_
  refine qBR I1 hg hm ?_ hd
  subst ey
  obtain⟨t,rfl⟩:=ry
  have hmap:=W.mapOf_K (prog:=X.prog) I1.kIn hl he.lit
  refine wpAny_in_of (strKind_is X.prog X.w z t) hy hmap ?_
  rw [find_some he z]
  exact⟨.bl _,H1,I1.tok _,rfl,by rw [Bool.bne_false] at q1;exact q1⟩
theorem qGP {ty:TE} (T:qC3 X.w X.K X.mg x R kvs) (hi:PE X i ty) (hg:Gl X x) (hd:(x==("__debug__" : Str))=false):PC X .NotIn i (.Name x p) (qH0 true kvs ty):=by
  obtain⟨a,es,n,hm,hl,hy,he⟩:=T.ex
  k_dat 0"r1"
  refine thn (hi pins s σ H _ I h) fun iv s1 ⟨y,H1,I1,ry,z,ey,q1⟩=>?_
  refine qBR I1 hg hm ?_ hd
  subst ey
  obtain⟨t,rfl⟩:=ry
  have hmap:=W.mapOf_K (prog:=X.prog) I1.kIn hl he.lit
  refine wpAny_notIn_of (strKind_is X.prog X.w z t) hy hmap ?_
  rw [find_some he z]
  exact⟨.bl _,H1,I1.tok _,rfl,by rw [Bool.bne_true] at q1;exact q1⟩
theorem qIc (T:qC3 X.w X.K X.mg x R kvs) (hi:DE X i ti) (hg:Gl X x) (hd:(x==("__debug__" : Str))=false) (hs:qJF i) {pins:List (Addr×Obj)} {s:Shared} {σ:L2.St} {H:Hp} {Qv:Value→Shared→Prop} (I:L2.Inv X pins σ H s)
    {φ:Nat→Addr} {st:Sto} {ρ:Rho} {P:VD} (pre:Pre X.K φ st H ρ σ) (ht:ti ρ st P) (hQ:∀ y st1,P y st1→∀ φ1 H1,Bhd X.K φ st H φ1 st1 H1→∃ z c,y = .str z∧kvs.lookup z=some c∧∀ u s2,R c u→L2.Inv X pins σ H1 s2→Qv u s2) :
    wpAny (model X.prog X.w) X.A (eval (.Subscript (.Name x p) i pos) X.env) Qv X.xe s:=by
  obtain⟨a,es,n,hm,hl,hy,he⟩:=T.ex
  refine qIj PySem.F.slot_dict_getitem.lookup hs (qBR I hg hm ?_ hd)
  refine thn (hi pins s σ H (fun v H'=>∃ z c,v = .str z∧kvs.lookup z=some c∧∀ u s2,R c u→L2.Inv X pins σ H' s2→Qv u s2) I ⟨φ,st,ρ,P,pre,ht,fun y st1 h1 φ1 H1 v b1 dy=>?_⟩) fun iv s2 ⟨y,H2,I2,ry,z,c,ey,hc,q2⟩=>?_
  · obtain⟨z,c,ey,hc,q⟩:=hQ y st1 h1 φ1 H1 b1
    subst ey
    exact⟨z,c,dy.str,hc,q⟩
  · subst ey
    obtain⟨t,rfl⟩:=ry
    have hmap:=W.mapOf_K (prog:=X.prog) I2.kIn hl he.lit
    refine⟨hmap.typeIs,?_⟩
    rcases he.find z with ⟨e1,_⟩ | ⟨z',u,e1,e2,hR⟩
    · rw [hc] at e1;cases e1
    · rw [hc] at e1
      cases e1
      refine wpAny_getItem_of (strKind_is X.prog X.w z t) hmap (v:=u) ?_ (q2 u _ hR (I2.tok _))
      obtain⟨l⟩:=es
      unfold findBy
      rw [List.find?_toArray]
      exact e2
end
def RDt (K:W.Frag) (d:Dt) (u:Value):Prop:=∃ v,RelV v u∧∀ φ N H,D K φ N H d v
def qDK (kvs:List (Str×Dt)) (ti:TD):TD:=fun ρ st P=>ti ρ st fun y st1=>∃ z d,y = .str z∧kvs.lookup z=some d∧P d st1
def RFn (P:Program) (w:World) (K:W.Frag) (mg:Str→Option Value) (base:Heap) (k:Nat) (sp:RDL) (u:Value):Prop:=∃ f fd ps,u = .ref f∧qAM P w K mg base CX0 k f fd ps (qc K sp)∧W.keepIn K (.ref f)=true∧Binds K fd ps []
section
variable {X:Cx} {i e:Expr} {es:List Expr} {ti:TD} {t:TAD} {pos p p2:Pos} {x:Str}
theorem qHi {kvs:List (Str×Dt)} (T:qC3 X.w X.K X.mg x (RDt X.K) kvs) (hi:DE X i ti) (hg:Gl X x) (hd:(x==("__debug__" : Str))=false) (hs:qJF i):DE X (.Subscript (.Name x p) i pos) (qDK kvs ti):=by
  k_dat 0"r1"
  k_dat 0"r0"
  refine qIc T hi hg hd hs I pre ht fun y st1 ⟨z,d,ey,hz,hp⟩ φ1 H1 b1=>⟨z,d,ey,hz,fun u s2 ⟨v,rv,hD⟩ I2=>?_⟩
  exact⟨v,H1,I2,rv,hq d st1 hp φ1 H1 v b1 (hD _ _ _)⟩
end
end L3
namespace L3
open PySem PySem.Spec PyProof.Rows L2
theorem qJn {v w:V} {u:Value} (h:RelV v u) (h':RelV w u):v=w:=by
  cases v<;>cases w<;>simp only [L2.RelV] at h h'<;>first
    | rfl
    | (subst h;first | (cases h';rfl) | (cases h';done) | (obtain⟨_,z⟩:=h';cases z;done))
    | (obtain⟨t,rfl⟩:=h;first | (cases h';done) | (obtain⟨t',z⟩:=h';cases z;first | rfl | done))
section
variable {X:Cx} {pins:List (Addr×Obj)} {σ:L2.St} {H:Hp} {s:Shared} {φ:Nat→Addr} {N:Nat}
open Classical in
noncomputable def isIn (xs:List Dt) (its:List Value) (x:Dt) (u:Value):Bool:=decide (∃ (j:Nat) (d:Dt),its[j]? = some u∧xs[j]? = some d∧eqD 8 d x=true)
open Classical in
theorem qGV (I:L2.Inv X pins σ H s) {xs:List Dt} {vs:List V} {its:List Value} {x:Dt} (hd:DL X.K φ N H xs vs) (rv:Vals vs its) (ho:xs.all (okD 8)=true) {j:Nat} {u:Value} {d:Dt} (e1:its[j]? = some u) (e2:xs[j]? = some d):isIn xs its x u=eqD 8 d x:=by
  have key:∀ (i:Nat) (d':Dt),its[i]? = some u→xs[i]? = some d'→d'=d:=fun i d' a1 a2=>by
    obtain⟨v,ev,dv⟩:=hd.get e2
    obtain⟨v',ev',dv'⟩:=hd.get a2
    obtain⟨u1,eu1,r1⟩:=rv.get ev
    obtain⟨u2,eu2,r2⟩:=rv.get ev'
    rw [e1] at eu1
    rw [a1] at eu2
    cases eu1
    cases eu2
    have:=qJn r1 r2
    subst this
    exact qM9 I 8 (List.all_eq_true.mp ho _ (List.mem_of_getElem? a2)) (List.all_eq_true.mp ho _ (List.mem_of_getElem? e2)) dv' dv
  unfold isIn
  cases h:eqD 8 d x with
  | true=>exact decide_eq_true ⟨j,d,e1,e2,h⟩
  | false =>
    refine decide_eq_false fun ⟨i,d',a1,a2,a3⟩=>?_
    rw [key i d' a1 a2,h] at a3
    cases a3
theorem qIg (I:L2.Inv X pins σ H s) {xs:List Dt} {vs:List V} {its:List Value} {x:Dt} {v:V} {ux:Value} {A:Around} (hu:A.units+8<cLine) (hd:DL X.K φ N H xs vs) (rv:Vals vs its) (ho:xs.all (okD 8)=true) (dx:D X.K φ N H x v) (rx:RelV v ux) (ox:okD 8 x=true) :
    ∀ u∈its,SeqAt.EqAt A s u ux (isIn xs its x u):=fun u hm=>by
  obtain⟨j,hj,e⟩:=List.mem_iff_getElem.mp hm
  have e1:its[j]? = some u:=by rw [List.getElem?_eq_getElem hj,e]
  have hl:j<vs.length:=by rw [rv.length];exact hj
  have hx:j<xs.length:=by rw [hd.length];exact hl
  have e2:xs[j]? = some xs[j]:=List.getElem?_eq_getElem hx
  obtain⟨v',ev',dv'⟩:=hd.get e2
  obtain⟨u1,eu1,r1⟩:=rv.get ev'
  rw [e1] at eu1
  cases eu1
  rw [qGV I hd rv ho e1 e2]
  exact qHr I 8 hu (List.all_eq_true.mp ho _ (List.getElem_mem hx)) ox dv' dx r1 rx
theorem qHY (I:L2.Inv X pins σ H s) {xs:List Dt} {vs:List V} {its:List Value} {x:Dt} (hd:DL X.K φ N H xs vs) (rv:Vals vs its) (ho:xs.all (okD 8)=true):its.any (isIn xs its x)=xs.any fun z=>eqD 8 z x:=by
  have hl:its.length=xs.length:=by rw [← rv.length,← hd.length]
  rw [Bool.eq_iff_iff,List.any_eq_true,List.any_eq_true]
  constructor
  · rintro⟨u,hm,h⟩
    obtain⟨j,hj,e⟩:=List.mem_iff_getElem.mp hm
    have hx:j<xs.length:=by omega
    rw [qGV I hd rv ho (by rw [List.getElem?_eq_getElem hj,e]) (List.getElem?_eq_getElem hx)] at h
    exact⟨xs[j],List.getElem_mem hx,h⟩
  · rintro⟨d,hm,h⟩
    obtain⟨j,hj,e⟩:=List.mem_iff_getElem.mp hm
    have hi:j<its.length:=by omega
    refine⟨its[j],List.getElem_mem hi,?_⟩
    rw [qGV I hd rv ho (List.getElem?_eq_getElem hi) (List.getElem?_eq_getElem hj),e]
    exact h
end
def qLJ (neg:Bool):RD2:=fun x y st P=>match qo st y with
  | some xs=>okD 8 x=true∧xs.all (okD 8)=true∧P (.bl (xs.any (fun z=>eqD 8 z x) != neg)) st
  | none=>False
section
variable {X:Cx} {a b:Expr} {ta tb:TD} {pos:Pos}
theorem qN0 (hu:X.A.units+16<cLine):OpD X (compareOp .In) (qLJ false):=by
  k_dat 0"r5"
  k_dat 0"r3"
  unfold qLJ at hr
  split at hr
  · rename_i xs e
    obtain⟨o1,o2,hp⟩:=hr
    rw [qAr] at hp
    obtain⟨p,vs,e1,hs,hd⟩:=qBp R dy e
    subst e1
    cases r2
    have hu1:X.A.in1.units+8<cLine:=by show X.A.units+1+8<cLine;omega
    have hp2:=Go.here hq R hp D.qBX
    rcases hs with ⟨hs,_⟩ | ⟨hs,_⟩
    · obtain⟨its,rv,pl,_⟩:=I.list hs
      refine SeqAt.in_listAt (isIn xs its x) pl.isList (fun z hz=>qIg I hu1 hd rv o2 dx r1 o1 z (by simpa using hz)) ⟨.bl _,H,I,rfl,?_⟩
      k_dat 0"r55"
      exact hp2
    · obtain⟨its,rv,pl,_⟩:=I.tuple hs
      refine SeqAt.in_tupleAt (isIn xs its x) pl (fun z hz=>qIg I hu1 hd rv o2 dx r1 o1 z (by simpa using hz)) ⟨.bl _,H,I,rfl,?_⟩
      k_dat 0"r55"
      exact hp2
  · exact hr.elim
theorem qLU (hu:X.A.units+16<cLine) (ha:DE X a ta) (hb:DE X b tb) (hm:behindInMarks .In b=false):DT X (.Compare a [.In] [b] pos) (qK (qG (qLJ false) ta tb)):=qBs (qN0 hu) ha hb hm
end
end L3
namespace L3
open PySem PySem.Spec PyProof.Rows L2
structure qDB (w:World) (K:W.Frag) (mg:Str→Option Value) (x:Str) (keys:List Str):Prop where
  ex:∃ kvs:List (Str×Str),qC3 w K mg x (fun _ _=>True) kvs∧∀ z,(kvs.lookup z).isSome=keys.contains z
theorem qFo {γ:Type}:∀ (kvs:List (Str×γ)) (z:Str),(kvs.lookup z).isSome=(kvs.map (·.1)).contains z
  | [],z=>rfl
  | (k,v)::r,z=>by
    rw [List.lookup_cons,List.map_cons,List.contains_cons]
    cases h:z==k with
    | true=>rfl
    | false=>exact qFo r z
theorem qA9.keys {γ:Type} {R:γ→Value→Prop} {P:Params}:∀ {l:List DictEntry} {kvs:List (Str×γ)},qA9 R P l kvs→qA9 (fun (_:Str) _=>True) P l (kvs.map fun p=>(p.1,p.1))
  | [],[],_=>trivial
  | _::_,_::_,⟨⟨t,h1,h2,h3⟩,r⟩=>⟨⟨t,h1,trivial,h3⟩,r.keys⟩
  | [],_::_,h=>h.elim
  | _::_,[],h=>h.elim
theorem qC3.keyOk {w:World} {K:W.Frag} {mg:Str→Option Value} {x:Str} {γ:Type} {R:γ→Value→Prop} {kvs:List (Str×γ)} (T:qC3 w K mg x R kvs):qDB w K mg x (kvs.map (·.1)):=by
  obtain⟨a,es,n,h1,h2,h3,h4⟩:=T.ex
  refine⟨kvs.map fun p=>(p.1,p.1),⟨a,es,n,h1,h2,h3,h4.keys⟩,fun z=>?_⟩
  rw [qFo,List.map_map]
  rfl
def qBj (neg:Bool) (keys:List Str) (ti:TD):TD:=fun ρ st P=>ti ρ st fun y st1=>∃ z,y = .str z∧P (.bl (keys.contains z != neg)) st1
section
variable {X:Cx} {i:Expr} {ti:TD} {pos p:Pos} {x:Str} {keys:List Str}
theorem qOL {neg:Bool} {kvs:List (Str×Str)} (hk:∀ z,(kvs.lookup z).isSome=keys.contains z) {ρ:Rho} {st:Sto} {P:VD} (h:qBj neg keys ti ρ st P):∃ P',ti ρ st P'∧∀ y st1,P' y st1→∃ z,y = .str z∧P (.bl ((kvs.lookup z).isSome != neg)) st1 :=
  ⟨_,h,fun y st1 ⟨z,e,q⟩=>⟨z,e,by rw [hk];exact q⟩⟩
theorem qFV {K:W.Frag} {neg:Bool} {kvs:List (Str×Str)} (hk:∀ z,(kvs.lookup z).isSome=keys.contains z) {σ:L2.St} {H:Hp} {Q:VK} (h:qAz K (qBj neg keys ti) σ H Q):qH0 neg kvs (qAz K ti) σ H Q:=by
  k_dat 0"r0"
  obtain⟨P',h1,h2⟩:=qOL hk ht
  refine⟨φ,st,ρ,P',pre,h1,fun y st1 hy φ1 H1 v b1 dy=>?_⟩
  obtain⟨z,ez,hp⟩:=h2 y st1 hy
  subst ez
  exact⟨z,dy.str,hq _ _ hp _ _ _ b1 D.qBX⟩
theorem qIy (T:qDB X.w X.K X.mg x keys) (hi:DE X i ti) (hg:Gl X x) (hd:(x==("__debug__" : Str))=false) (hm:behindInMarks .In (.Name x p)=false):DE X (.Compare i [.In] [.Name x p] pos) (qBj false keys ti):=by
  obtain⟨kvs,T,hk⟩:=T.ex
  exact (qPZ (qJd T hi hg hd) hm).imp fun _ _ _ h=>qFV hk h
theorem qFI (T:qDB X.w X.K X.mg x keys) (hi:DE X i ti) (hg:Gl X x) (hd:(x==("__debug__" : Str))=false) (hm:behindInMarks .NotIn (.Name x p)=false):DT X (.Compare i [.NotIn] [.Name x p] pos) (qK (qBj true keys ti)):=by
  obtain⟨kvs,T,hk⟩:=T.ex
  exact (qPM (qGP T hi hg hd) hm).imp fun _ _ _ h=>qFV hk (qDa h)
end
structure qMV (P:Program) (w:World) (K:W.Frag) (mg:Str→Option Value) (base:Heap) (x:Str) (keys:List Str) (k:Nat) (f:Str→RDL):Prop where
  ex:∃ kvs:List (Str×RDL),qC3 w K mg x (RFn P w K mg base k) kvs∧∀ z,z∈keys→kvs.lookup z=some (f z)
def qIe (f:Str→RDL) (keys:List Str) (ti:TD) (t:TAD):TD:=fun ρ st P=>ti ρ st fun y st1=>∃ z,y = .str z∧z∈keys∧t ρ st1 fun ds st2=>f z ds st2 P
theorem qHV {γ δ:Type} (f:Str→δ):∀ (kvs:List (Str×γ)) (z:Str),z∈kvs.map (·.1)→(kvs.map fun p=>(p.1,f p.1)).lookup z=some (f z)
  | [],z,h=>by cases h
  | (k,v)::r,z,h=>by
    rw [List.map_cons,List.lookup_cons]
    cases e:z==k with
    | true =>
      have:z=k:=eq_of_beq e
      subst this
      rfl
    | false =>
      rw [List.map_cons] at h
      rcases List.mem_cons.mp h with q | q
      · rw [q] at e;simp at e
      · exact qHV f r z q
theorem qA9.toF {P:Program} {w:World} {K:W.Frag} {mg:Str→Option Value} {base:Heap} {k:Nat} {f:Str→RDL} {Pa:Params}:∀ {l:List DictEntry} {kvs:List (Str×Str)},qA9 (fun (n:Str) u=>mg n=some u) Pa l kvs→(∀ q∈kvs,qAB P w K mg base q.2 k (f q.1))→qA9 (RFn P w K mg base k) Pa l (kvs.map fun p=>(p.1,f p.1))
  | [],[],_,_=>trivial
  | _ :: _,_::_,⟨⟨t,h1,h2,h3⟩,r⟩,h=>⟨⟨t,h1,by
      obtain⟨g,fd,ps,F,hm,hk,hb⟩:=(h _ List.mem_cons_self).ex
      exact⟨g,fd,ps,(Option.some.inj (hm.symm.trans h2)).symm,F,hk,hb⟩,h3⟩,r.toF fun q hq=>h q (List.mem_cons_of_mem _ hq)⟩
  | [],_::_,h,_=>h.elim
  | _::_,[],h,_=>h.elim
theorem qC3.toF {P:Program} {w:World} {K:W.Frag} {mg:Str→Option Value} {base:Heap} {x:Str} {k:Nat} {f:Str→RDL} {kvs:List (Str×Str)} (T:qC3 w K mg x (fun (n:Str) u=>mg n=some u) kvs) (h:∀ q∈kvs,qAB P w K mg base q.2 k (f q.1)):qMV P w K mg base x (kvs.map (·.1)) k f:=by
  obtain⟨a,es,n,h1,h2,h3,h4⟩:=T.ex
  exact⟨_,⟨a,es,n,h1,h2,h3,h4.toF h⟩,fun z hz=>qHV f kvs z hz⟩
section
variable {X:Cx} {i e:Expr} {es:List Expr} {ti te to:TD} {t:TAD} {pos p p2:Pos} {x:Str}
theorem qIw {k:Nat} {keys:List Str} {f:Str→RDL} (T:qMV X.prog X.w X.K X.mg X.base x keys k f) (hr:qA4 k X.A) (hi:DE X i ti) (ha:DA X (e::es) t) (hg:Gl X x) (hd:(x==("__debug__" : Str))=false) (hs:qJF i)
    (he:starEach (e::es) X.env=(false,eval e X.env)::starEach es X.env) (hpl:(backTo pos (starEach es X.env)).any (·.1)=false)
    (hev:eval (.Call (.Subscript (.Name x p) i p2) (e::es) [] pos) X.env=(do let f ← eval (.Subscript (.Name x p) i p2) X.env;callWith pos f [] (backTo pos (starEach (e::es) X.env)) (backToKw pos (keywordEach [] X.env)))) :
    DE X (.Call (.Subscript (.Name x p) i p2) (e::es) [] pos) (qIe f keys ti t):=by
  obtain⟨kvs,T,hk⟩:=T.ex
  k_dat 0"r1"
  k_dat 0"r0"
  rw [hev]
  refine wpAny_bind (qIc T hi hg hd hs I pre ht fun y st1 ⟨z,ey,hz,hp⟩ φ1 H1 b1=>⟨z,f z,ey,hk z hz,fun u s2 ⟨g,fd,ps,eu,F,hk',hb⟩ I2=>?_⟩)
  subst eu
  refine W.callWith_K (h₀:=X.base) I.ok.mod.kin hk' (thn (ha pos pins s2 σ H1 _ I2 ⟨φ1,st1,ρ,_,pre.on b1,hp,fun ds st2 h2 φ2 H2 vs b2 dl=>(show qc X.K (f z) (vs++[]) H2 Q E0 from ?_)⟩) fun us s3 ⟨vs,H3,I3,r,q⟩=>⟨I3.kIn,?_⟩) he hpl
  · rw [List.append_nil]
    exact⟨φ2,st2,ds,P,b2.1,dl,h2,fun d st' hp φ' H' u b d'=>hq d st' hp φ' H' u ((b1.trans b2).trans b) d'⟩
  · exact qK8 F hr hb .nil qMo I3 r q
end
end L3
namespace L3
open PySem PySem.Spec PyProof.Rows L2
noncomputable def g3:TGD:=qBU 3 (qAc (qU 0) (qAc (qU 1) (qAc (qU 2) qD4)))
end L3
namespace L3
open PySem PySem.Spec PyProof.Rows L2
theorem qAk {K:W.Frag} {i:Int} {t:Tok}:RDt K (.int i) (.int i t):=⟨.int i,⟨t,rfl⟩,fun _ _ _=>D.mkInt⟩
noncomputable def qB5:List Value→List Int→Bool
  | [],[]=>true
  | .int x _::us,s::ss=>x==s&&qB5 us ss
  | _,_=>false
theorem qE7:∀ {us:List Value} {ss:List Int},qB5 us ss=true→Vals (ss.map V.int) us
  | [],[],_=>.nil
  | [],_::_,h=>by simp [qB5] at h
  | u::us,[],h=>by cases u<;>simp [qB5] at h
  | u :: us,s::ss,h=>by
    cases u with
    | int x t =>
      rw [qB5,Bool.and_eq_true] at h
      have e:x=s:=eq_of_beq h.1
      subst e
      exact .cons ⟨t,rfl⟩ (qE7 h.2)
    | _=>simp [qB5] at h
theorem qHK {K:W.Frag} {φ:Nat→Addr} {N:Nat} {H:Hp}:∀ ss:List Int,DL K φ N H (ss.map .int) (ss.map V.int)
  | []=>.nil
  | n::ns=>.cons D.mkInt (qHK ns)
theorem qDI {K:W.Frag} {a:Addr} {its:Array Value} {n:Nat} {sl:Array (Option Value)} (ss:List Int) (l:K.lookup a=some ⟨.type "tuple",none,.seq its n,sl⟩) (v:qB5 its.toList ss=true) (sz:its.size≤sizeLine):RDt K (.tup (ss.map .int)) (.ref a):=⟨.ref a,rfl,fun φ N H=>.qCs (.inr ⟨_,its,n,l,⟨rfl,rfl⟩,rfl,sz,qE7 v⟩) (qHK ss)⟩
section
variable {P:Program} {w:World} {K:W.Frag} {mg:Str→Option Value} {base h:Heap} {n:Str} {st:Stmt} {k:Nat} {sp:RDL} {ps:List Str} {C:Addr}
theorem q9.okR (X:K.In h) (G:h.Ns mainGlobals mg) (a:q9 K n st) (ok:∀ {f fd},Fun K n n st f fd→qAM P w K mg base (CXE P w) k f fd ps (qEL K sp)) (hb:Bnd n n st ps):qH1 P w K mg base n k sp:=by
  obtain⟨f,fd,h1,F⟩:=a.ex
  exact⟨f,fd,ps,ok F,W.mg_of X G h1,F.kp,F.binds hb⟩
theorem qOb (X:K.In h) (G:h.Ns mainGlobals mg) {n:String} (a:W.nsIn K mainGlobals (Str.ofString n)=some (some (.ref C))) (e:W.excIn K C bmV "ValueError.__new__" = true):qIK K mg n:=⟨C,⟨a,e⟩,W.mg_of X G a⟩
theorem qOS {Z:Addr} {oc:Value} {od:Option Addr} {cd:ClassData} {sl:Array (Option Value)} (l:K.lookup C=some ⟨oc,od,.cls cd,sl⟩) (m:cd.mro.contains (.ref Z)=true):subIn K C Z=true:=by
  unfold subIn
  rw [l];exact m
end
end L3
namespace L3
open PySem PySem.Spec PyProof.Rows L2
section
variable {X:Cx} {pins:List (Addr×Obj)} {σ:L2.St} {H H':Hp} {s s1:Shared} {ea:Addr} {oe:Obj} {vs:Array Value}
theorem qLj (I:L2.Inv X pins σ H s) (he:s.heap.get? ea=some oe) (hd:oe.data = .fields vs) (hn:H ea=none) (h0:X.s₀.heap.get? ea=none) (hp:∀ p∈X.pn++pins,p.1≠ea):L2.Inv X pins σ (upd H ea (.frz oe (.own 0))) s:=by
  have ne:∀ {b:Addr} {u:HO},H b=some u→upd H ea (.frz oe (.own 0)) b=some u:=fun {b u} q=>by rw [qb (qp q hn)];exact q
  have nn:∀ {b:Addr},b≠ea→H b=none→upd H ea (.frz oe (.own 0)) b=none:=fun {b} q z=>by rw [qb q];exact z
  refine⟨I.ok,I.os,I.bare,⟨I.base.keep,I.base.slot,fun b o e n hx=>nn (fun z=>by rw [z,h0] at e;cases e) (I.base.free b o e n hx),I.base.there,fun b xs q=>ne (I.base.tups b xs q),fun b o u q=>ne (I.base.frzs b o u q),fun b ps q=>?_⟩,I.loc,I.cell,nn ?_ I.free,fun x c e=>nn ?_ (I.freeC x c e),fun p hq=>?_,fun b o q=>?_,I.len⟩
  · obtain⟨more,z⟩:=I.base.tbls b ps q
    exact⟨more,ne z⟩
  · rintro rfl
    obtain⟨m,⟨o,es,ep,ho,hdd,_⟩,_⟩:=I.loc
    rw [ho] at he;cases he
    rw [hdd] at hd;cases hd
  · rintro rfl
    obtain⟨v,o,ho,hdd⟩:=I.cell x c e
    rw [ho] at he;cases he
    rw [hdd] at hd;cases hd
  · obtain⟨q1,q2,q3⟩:=I.pin p hq
    exact⟨q1,nn (hp p hq) q2,q3⟩
  · by_cases hb:b=ea
    · subst hb
      rw [qAF] at q
      cases q
      exact⟨he,oe,he⟩
    · rw [qb hb] at q
      exact (I.hok b o q).stay (fun _ _ _ z=>z) (fun _ z=>ne z) fun _ _ z=>ne z
theorem qEP {M:Model} {A:Around} {E:Value→Shared→Prop} {i:Nat} {n:Str} {pos:Pos} {Q:Unit→Shared→Prop} (I:L2.Inv X pins σ H s) (hN:X.N.Nodup) (hi:X.N[i]? = some n) (hk:X.env.scope.names.lookup n=some .local)
    (h:∀ s',L2.Inv X pins (σ.set i none) H s'→Q () s'):wpAny M A (do bindName X.env n .none;unbindBehindTheSuite X.env n pos) Q E s:=by
  obtain⟨m,hn,hl⟩:=id I.loc
  have hiσ:i<σ.length:=by rw [I.len];exact (List.getElem?_eq_some_iff.mp hi).1
  obtain⟨oL,_,_,hoL,_⟩:=id hn
  have far:∀ {b:Addr} {o:Obj},X.s₀.heap.get? b=some o→b≠X.env.locals:=fun e=>Nat.ne_of_lt (Nat.lt_of_lt_of_le (Heap.lt_size e) I.ok.above)
  refine PySem.wpAny_nameGoes_keeps hk hn (by rw [I.ok.kind];rfl) fun h' v hn' hs=>?_
  refine h _ ⟨I.ok,I.os,I.bare,⟨fun b o e n hb hx=>(hs.2 b (far e)).trans (I.base.keep b o e n hb hx),fun b o e n hb hx=>?_,I.base.free,fun b o e hx=>?_,I.base.tups,I.base.frzs,I.base.tbls⟩,⟨_,hn',fun j y v' e1 e2 e3=>?_⟩,fun y c e=>?_,I.free,I.freeC,fun p hp=>?_,fun b ob e=>?_,by simpa using I.len⟩
  · k_dat 0"r26"
    exact⟨sl,(hs.2 b (far e)).trans e1⟩
  · k_dat 0"r22"
    exact⟨o',(hs.2 b (far e)).trans e1⟩
  · by_cases hj:j=i
    · subst hj
      rw [List.getElem?_set_self hiσ] at e2
      cases e2
    · rw [List.getElem?_set_ne (Ne.symm hj)] at e2
      obtain⟨u',r',q⟩:=hl j y v' e1 e2 e3
      refine⟨u',r',?_⟩
      rcases q with ⟨k,e⟩ | ⟨k,c,e,z⟩
      · have:y≠n:=fun e=>hj (qEv hN e1 (e ▸ hi))
        exact .inl ⟨k,by simp [this,e]⟩
      · exact .inr ⟨k,c,e,z.sameBut hs (I.cne y c e)⟩
  · obtain⟨w',z⟩:=I.cell y c e
    exact⟨w',z.sameBut hs (I.cne y c e)⟩
  · obtain⟨e,n,ne,nf,d⟩:=I.pin p hp
    exact⟨(hs.2 p.1 ne).trans e,n,ne,nf,d⟩
  · k_dat 0"r41"
    rintro rfl
    rcases hc with rfl | hc
    · rw [I.free] at e;cases e
    · rw [I.free] at hc;cases hc
end
section
variable {X:Cx} {pins:List (Addr×Obj)} {σ:L2.St} {H H':Hp} {s s1:Shared} {ea C Z:Addr} {B:Heap} {a0:Value} {D:Ends} {ts:TS} {z n:Str} {i:Nat} {p5 p6:Pos} {b0:Stmt} {suite:List Stmt} {E:Value→Shared→Prop}
noncomputable def qK1 (i:Nat) (D:Ends):Ends:={ nx:=fun σ H=>D.nx (σ.set i none) H,bk:=fun σ H=>D.bk (σ.set i none) H,ct:=fun σ H=>D.ct (σ.set i none) H,rt:=D.rt }
theorem qKc (I:L2.Inv X pins σ H s) (O:Out X.prog X.w X.stack H H' s ea C B a0 s1) (hst:X.stack=X.env::X.outer) (hfr:X.env.frame=some X.env.locals) (hex:X.ex=[]) (hz:qFq X.K z Z) (hmz:X.mg z=some (.ref Z)) (hgz:Gl X z) (hdz:(z==("__debug__" : Str))=false)
    (hC:Catch X.K C Z) (nd:X.N.Nodup) (hi:X.N[i]? = some n) (hk:X.env.scope.names.lookup n=some .local) (hs:PSs (X.qCn ea) (b0::suite) ts) (h:∀ oe:Obj,oe.cls = .ref C→H' ea=none→ts (qK1 i D) (σ.set i (some (.ref ea))) (upd H' ea (.frz oe (.own 0)))) :
    wpAny (model X.prog X.w) X.A (noteFrame (.ref ea) X.env) (fun _ s₂=>wpAny (model X.prog X.w) X.A (setFlight (.ref ea) none) (fun _ s₃=>wpAny (model X.prog X.w) X.A (handleBy (.ref ea) X.env [.ExceptHandler (some (.Name z p5)) (some n) (b0::suite) p6]) (SP X pins D) E s₃) E s₂) E s1:=by
  have hfr':X.A.frames=some (X.env::X.outer):=by rw [← hst];exact I.ok.frames
  k_dat 0"r50"
  obtain⟨o1,he1,hnB,hd1⟩:∃ o1,s1.heap.get? ea=some o1∧B.get? ea=none∧∃ vs,o1.data = .fields vs:=by
    obtain⟨_,hB,_,oe,vs,_,_,_,he,_,hd,_⟩:=O.fly
    exact⟨oe,he,hB,vs,hd⟩
  have nst:ea ∉ frs X.stack:=fun hb=>by
    obtain⟨o,ho,hd⟩:=(O.fly.2.2.1.mem hb).2
    rw [he1] at ho;cases ho
    obtain⟨vs,q⟩:=hd1
    exact hd vs q
  have hH:H' ea=none:=by
    cases q:H' ea with
    | none=>rfl
    | some u=>have:=O.inB ea o1 he1 (.inl (by rw [q];exact fun z=>nomatch z)) nst;rw [hnB] at this;cases this
  have hs0:s.heap.get? ea=none:=by
    cases q:s.heap.get? ea with
    | none=>rfl
    | some u=>have:=O.inB ea o1 he1 (.inr ⟨u,q⟩) nst;rw [hnB] at this;cases this
  have hX0:X.s₀.heap.get? ea=none:=by
    cases q:X.s₀.heap.get? ea with
    | none=>rfl
    | some u=>obtain⟨o',e'⟩:=I.base.there ea u q (by rw [hex];exact fun z=>nomatch z);rw [hs0] at e';cases e'
  have hpin:∀ p∈X.pn++pins,p.1≠ea:=fun p hp z=>by
    have:=(I.pin p hp).1
    rw [z,hs0] at this;cases this
  refine wpAny_looks_onW hfr' hfr fl1 fun h4 hheld sm4=>?_
  refine wpAny_landsW hheld fun h5 hfl sm5=>?_
  have O5:=O.on (by rw [hst];exact hfl) (sm4.trans sm5)
  have I5:=O5.inv I
  k_dat 0"r51"
  k_dat 0"r52"
  k_dat 0"r53"
  obtain⟨oe,he,hcls⟩:=hfl.there
  have hsub:(Value.ref C::bm).contains (.ref Z)=true:=by
    have:=hC.sub
    unfold subIn at this
    rw [eC] at this
    exact this
  k_dat 0"r54"
  refine codeAny_handlers_suite_as ?_
  refine lands_againW hfl fun h6 hfl6 sm6=>?_
  have O6:=O5.on (by rw [hst];exact hfl6) sm6
  have I6:=O6.inv I
  obtain⟨oe6,vs6,he6,hc6,hd6⟩:∃ oe6 vs6,h6.get? ea=some oe6∧oe6.cls = .ref C∧oe6.data = .fields vs6:=by
    obtain⟨_,_,_,oe,vs,_,_,_,he,hc,hd,_⟩:=hfl6
    exact⟨oe,vs,he,hc.1,hd⟩
  have I7:=qLj I6 he6 hd6 hH hX0 hpin
  refine qDt (X:=X.qCn ea) (v:=.ref ea) (Inv.inE I7) nd hi (.inl hk) rfl (fun s7 I8 _=>?_) (.inr hk)
  refine wpAny_mono (hs pins s7 _ _ (qK1 i D) I8 (h oe6 hc6 hH)) (fun f s8 q=>?_) fun _ _ z=>False.elim z
  cases f with
  | next=>obtain⟨σ',H2,I9,q⟩:=q;exact qEP (Inv.qHP I.ok I9) nd hi hk fun s' I'=>⟨_,H2,I',q⟩
  | brk=>obtain⟨σ',H2,I9,q⟩:=q;exact qEP (Inv.qHP I.ok I9) nd hi hk fun s' I'=>⟨_,H2,I',q⟩
  | cont=>obtain⟨σ',H2,I9,q⟩:=q;exact qEP (Inv.qHP I.ok I9) nd hi hk fun s' I'=>⟨_,H2,I',q⟩
  | ret u=>obtain⟨v,σ',H2,I9,q⟩:=q;exact qEP (Inv.qHP I.ok I9) nd hi hk fun s' I'=>⟨v,_,H2,I',q⟩
end
noncomputable def qNs (K:W.Frag) (Z:Addr) (i j:Nat) (sp:Sp) (t:TA) (ts:TS):TS:=fun D σ H=>t σ H fun vs H1=>sp vs H1 (fun v H2=>D.nx (σ.set i (some v)) H2) fun c _ H2=>∃ C,c = .ref C∧Catch K C Z∧∀ (ea:Addr) (oe:Obj),oe.cls = .ref C→H2 ea=none→ts (qK1 j D) (σ.set j (some (.ref ea))) (upd H2 ea (.frz oe (.own 0)))
section
variable {X:Cx} {k i j:Nat} {f Z:Addr} {fd:FuncData} {ps:List Str} {sp:Sp} {x y z n:Str} {t:TA} {ts:TS} {e:Expr} {es:List Expr} {b0:Stmt} {suite:List Stmt} {p1 p2 p3 p4 p5 p6 p7:Pos}
theorem qJ7 (F:qAM X.prog X.w X.K X.mg X.base (CXE X.prog X.w) k f fd ps sp) (hr:qA4 k X.A) (hg:Gl X y) (hm:X.mg y=some (.ref f)) (hk:W.keepIn X.K (.ref f)=true) (hb:Binds X.K fd ps []) (ha:PA X.nox (e::es) t) (hdb:(y==("__debug__" : Str))=false)
    (he:starEach (e::es) X.env=(false,eval e X.env)::starEach es X.env) (hpl:(backTo p3 (starEach es X.env)).any (·.1)=false)
    (nd:X.N.Nodup) (hi:X.N[i]? = some x) (hx:Loc X.env.scope x) (hsw:swapsWith (.Call (.Name y p2) (e::es) [] p3) (some (.Name x p1)) p4.line X.env=pure false) (hf:X.fn x=true∨X.env.scope.names.lookup x=some .local)
    (hst:X.stack=X.env::X.outer) (hfr:X.env.frame=some X.env.locals) (hex:X.ex=[]) (hz:qFq X.K z Z) (hmz:X.mg z=some (.ref Z)) (hgz:Gl X z) (hdz:(z==("__debug__" : Str))=false) (hj:X.N[j]? = some n) (hn:X.env.scope.names.lookup n=some .local) (hs:∀ ea,PSs (X.qCn ea) (b0::suite) ts) :
    PS X (.Try [.Assign [.Name x p1] (.Call (.Name y p2) (e::es) [] p3) p4] [.ExceptHandler (some (.Name z p5)) (some n) (b0::suite) p6] [] [] p7) (qNs X.K Z i j sp t ts):=by
  k_dat 0"r9"
  refine wpAny_Try_except ?_
  refine wpAny_execs_cons (wpAny_Assign_Name ?_ hsw)
  refine wpAny_Call_Name_kw (qBR I hg hm ?_ hdb)
  refine W.callWith_K (h₀:=X.base) I.ok.mod.kin hk (wpAny_mono (ha p3 pins s σ H _ (I.qEf _) h) (fun us s1 ⟨vs,H1,I1,r,q⟩=>⟨I1.kIn,?_⟩) fun _ _ z=>False.elim z) he hpl
  have I1':L2.Inv X pins σ H1 s1:=I1.qB6
  have hl:us.length=ps.length:=by rw [← r.length];exact F.len _ _ _ _ q
  have hb':=hb s1 us I1'.kIn (by rw [List.append_nil];exact hl)
  rw [List.append_nil] at hb'
  refine wpAny_call (codeAny_mono (F.run X.A X.stack s1 H1 ⟨us,[]⟩ us vs _ _ hr I1'.qPo hb' r q) fun r s' hq=>?_)
  cases r with
  | error e1 =>
    obtain⟨ea,C,H2,B,a0,rfl,O,C',ec,hC,q2⟩:=hq
    cases ec
    exact qKc I1' O hst hfr hex hz hmz hgz hdz hC nd hj hn (hs ea) (q2 ea)
  | ok fl =>
    cases fl with
    | ret u =>
      obtain⟨v,H2,I2,r2,q2⟩:=I1'.after hq
      exact qEt I2 nd hi hx r2 (fun s2 I3=>wpAny_execs_nil (wpAny_execs_nil ⟨_,H2,I3,q2⟩)) hf
    | next=>exact False.elim hq
    | brk=>exact False.elim hq
    | cont=>exact False.elim hq
end
theorem DR.unset {K:W.Frag} {φ:Nat→Addr} {N:Nat} {H:Hp} {ρ:Rho} {σ:L2.St} (h:DR K φ N H ρ σ) (i:Nat):DR K φ N H (ρ.set i none) (σ.set i none):=by
  refine⟨by rw [List.length_set,List.length_set];exact h.1,fun j e q=>?_⟩
  by_cases hj:j=i
  · subst hj
    by_cases hl:j<ρ.length
    · rw [List.getElem?_set_self hl] at q;cases q
    · rw [List.getElem?_eq_none (by rw [List.length_set];omega)] at q;cases q
  · rw [List.getElem?_set_ne (Ne.symm hj)] at q
    rw [List.getElem?_set_ne (Ne.symm hj)]
    exact h.2 j e q
noncomputable def qMm (j:Nat) (E:qBH):qBH:={ nx:=fun ρ st=>E.nx (ρ.set j none) st,bk:=fun ρ st=>E.bk (ρ.set j none) st,ct:=fun ρ st=>E.ct (ρ.set j none) st,rt:=E.rt }
def qKZ (ns:List String) (i j:Nat) (sp:RDL) (t:TAD) (ts:TSD):TSD:=fun E ρ st=>t ρ st fun ds st1=>sp ds st1 fun d st2=>match isX d with
  | some n=>n∈ns∧ts (qMm j E) (ρ.set j (some (.exc n))) st2
  | none=>E.nx (ρ.set i (some d)) st2
section
variable {X:Cx} {k:Nat} {sp:RDL} {x y z nm:Str} {ns:List String} {t:TAD} {ts:TSD} {e:Expr} {es:List Expr} {b0:Stmt} {suite:List Stmt} {p1 p2 p3 p4 p5 p6 p7:Pos}
theorem qKq (i j:Nat) (F:qH1 X.prog X.w X.K X.mg X.base y k sp) (hr:qA4 k X.A) (hz:qIW X.K X.mg z ns) (nd:X.N.Nodup) (ha:DA X.nox (e::es) t) (hs:∀ ea,DSs (X.qCn ea) (b0::suite) ts) (hg:Gl X y) (hdb:(y==("__debug__" : Str))=false)
    (he:starEach (e::es) X.env=(false,eval e X.env)::starEach es X.env) (hpl:(backTo p3 (starEach es X.env)).any (·.1)=false)
    (hi:X.N[i]? = some x) (hx:Loc X.env.scope x) (hsw:swapsWith (.Call (.Name y p2) (e::es) [] p3) (some (.Name x p1)) p4.line X.env=pure false) (hf:X.fn x=true∨X.env.scope.names.lookup x=some .local)
    (hst:X.stack=X.env::X.outer) (hfr:X.env.frame=some X.env.locals) (hex:X.ex=[]) (hgz:Gl X z) (hdz:(z==("__debug__" : Str))=false) (hj:X.N[j]? = some nm) (hnl:X.env.scope.names.lookup nm=some .local) :
    DS X (.Try [.Assign [.Name x p1] (.Call (.Name y p2) (e::es) [] p3) p4] [.ExceptHandler (some (.Name z p5)) (some nm) (b0::suite) p6] [] [] p7) (qKZ ns i j sp t ts):=by
  obtain⟨f,fd,ps,h1,h2,h3,h4⟩:=F.ex
  obtain⟨Z,hz1,hz2,hz3⟩:=hz.ex
  refine (qJ7 h1 hr hg h2 h3 h4 ha hdb he hpl nd hi hx hsw hf hst hfr hex hz1 hz2 hgz hdz hj hnl (ts:=qFR X.K ts) (t:=qKn X.K t) (fun ea=>hs ea)).imp fun D σ H h=>?_
  k_dat 0"r6"
  refine⟨φ,st,ρ,_,pre,ht,fun ds st1 h1 φ1 H1 vs b1 dl=>⟨φ1,st1,ds,_,b1.1,dl,h1,fun d st2 h2 φ2 H2 u b2 du=>⟨fun hx=>?_,fun m hx C hC=>?_⟩⟩⟩
  · rw [hx] at h2
    exact n _ st2 h2 φ2 H2 _ (b1.trans b2) ((pre.on (b1.trans b2)).2.set du i)
  · rw [hx] at h2
    refine⟨C,rfl,hz3 m h2.1 C hC,fun ea oe hcl hn=>?_⟩
    have b12:=b1.trans b2
    have b3:Bhd X.K φ2 st2 H2 φ2 st2 (upd H2 ea (.frz oe (.own 0))):=⟨b2.1.laid hn,qBS hn⟩
    have dx:L3.D X.K φ2 st2.length (upd H2 ea (.frz oe (.own 0))) (.exc m) (.ref ea):=L3.D.qQe qAF hC hcl
    have b123:=b12.trans b3
    refine⟨φ2,st2,ρ.set j (some (.exc m)),qMm j P,⟨b3.1,(pre.on b123).2.set dx j⟩,h2.2,fun ρ3 st3 h3 φ3 H3 σ3 b4 d3=>n _ st3 h3 φ3 H3 _ (b123.trans b4) (d3.unset j),fun ρ3 st3 h3 φ3 H3 σ3 b4 d3=>b _ st3 h3 φ3 H3 _ (b123.trans b4) (d3.unset j),
      fun ρ3 st3 h3 φ3 H3 σ3 b4 d3=>c _ st3 h3 φ3 H3 _ (b123.trans b4) (d3.unset j),fun d3 st3 h3 φ3 H3 v b4 d3'=>r d3 st3 h3 φ3 H3 v (b123.trans b4) d3'⟩
end
end L3
namespace L3
open PySem PySem.Spec PySem.Calls PyProof.Rows L2 PySem.W Builtin Builtin.ObjectAttr Builtin.Getset_descriptor
structure qBq (K:Frag) (D:Addr):Prop where
  cls:(clsIn K D).isSome=true
  ga:findIn K (.ref D) "__getattribute__" = some (some (.builtin "BaseException.__getattribute__"))
  hook:findIn K (.ref D) "__getattr__" = some none
  at_:findIn K (.ref D) "__class__" = some (some (.builtin "object.__class__"))
  get:specialIn K (.builtin "object.__class__") "__get__" = some (some (.builtin "getset_descriptor.__get__"))
  tks:takesIn K (.builtin "object.__class__")=some true
  obj:mroIn K D (.type "object")=some true
  exc:W.subIn K (.ref D) (.type "BaseException")=some true
section
variable {prog:Program} {w:World} {A:Around} {E:Value→Shared→Prop} {s:Shared} {K:Frag} {x D:Addr}
theorem qJk {M:Model} {h:Heap} (X:K.In h) (a:qBq K D):Looks M h (find (.ref x) (.ref D) "__class__") (.bind (.builtin "getset_descriptor.__get__") (.builtin "object.__class__")) :=
  (looks_findIn X a.at_).andThen ((show Looks M h (getOf (some (.builtin "object.__class__"))) (some (.builtin "getset_descriptor.__get__")) from looks_specialIn X a.get).andThen
    ((show Looks M h (dataDescriptor? (some (.builtin "object.__class__")) (some (.builtin "getset_descriptor.__get__"))) (some (.builtin "getset_descriptor.__get__",.builtin "object.__class__")) from (looks_takesIn X a.tks).andThen .now).andThen (Looks.tag .now)))
theorem get_cls {R:Result→Shared→Prop} {tp:Value} (X:K.In s.heap) (T:Looks (model prog w) s.heap (typeOf (.ref x)) (.ref D)) (a:qBq K D) (h:R (.ok (.ret (.ref D))) s) :
    codeAny (model prog w) A (.call (.builtin "getset_descriptor.__get__") ⟨[.builtin "object.__class__",.ref x,tp],[]⟩) R s:=by
  obtain⟨hh,g,dr,t,os⟩:=s
  have L1:=looks_mroIn (M:=model prog w) X a.obj
  refine codeAny_call_builtin KF.slot_gs.plain KF.entry_gs (KF.slot_gs.check _ _ _ _ _ _ _ _ KF.type_class (KF.args_gs _ _ _) ?_)
  unfold Builtin.«getset_descriptor.__get__» descrGet
  rw [dga_obj]
  refine wpAny_bind (wpAny_pure ?_)
  unfold descrGetter descrCheckInstance descrNameAndClass isInstance
  simp only [KF.owner_class]
  repeat lk
  refine⟨Code.quiet_builtin _ (by decide +kernel),codeAny_builtin KF.entry_class ?_⟩
  unfold Builtin.«object.__class__» shownTypeOf
  repeat lk
  exact h
theorem qI2 {tk:Tok} {Q:Fin→Shared→Prop} (X:K.In s.heap) (T:Looks (model prog w) s.heap (typeOf (.ref x)) (.ref D)) (a:qBq K D) (h:Q (.done (.ret (.ref D))) s) :
    wpAny (model prog w) A (Builtin.«object.__getattribute__» ⟨[.ref x,.str "__class__" tk],[]⟩) Q E s:=by
  obtain⟨hh,g,dr,t,os⟩:=s
  have F:=qJk (M:=model prog w) (x:=x) X a
  refine wpAny_bind (wpAny_pure ?_)
  refine wpAny_bind (wpAny_pure ?_)
  refine wpAny_bind (T.at ?_)
  refine wpAny_bind (F.at ?_)
  show wpAny _ _ (holding [_] (call _ [_,_,_]) >>= ret) _ _ _
  exact wpAny_bind (wpAny_holding (wpAny_call (get_cls X T a (wpAny_pure h))))
theorem qIt {nameV:Value} {Q:Unit→Shared→Prop} (X:K.In s.heap) (T:Looks (model prog w) s.heap (typeOf (.ref x)) (.ref D)) (a:qBq K D) (h:Q () s):wpAny (model prog w) A (checkBuiltinCall "BaseException.__getattribute__" ⟨[.ref x,nameV],[]⟩) Q E s:=by
  obtain⟨hh,g,dr,t,os⟩:=s
  have hk:builtinKind "BaseException.__getattribute__" = some .slot:=by decide +kernel
  have hsplit:splitId "BaseException.__getattribute__" = some ("BaseException", "__getattribute__"):=by decide +kernel
  have ha:=PySem.F.args_bexc_ga (.ref x) nameV
  have S:=looks_subIn (M:=model prog w) X a.exc
  simp only [checkBuiltinCall,hk,hsplit]
  refine wpAny_bind ?_
  unfold isInstance
  repeat (first | lk | wp_step)
  exact h
theorem qMK {Q:Option Value→Shared→Prop} (X:K.In s.heap) (T:∀ M,Looks M s.heap (typeOf (.ref x)) (.ref D)) (a:qBq K D) (h:Q (some (.ref D)) { s with toks:=s.toks+1 }):wpAny (model prog w) A (getAttr? (.ref x) "__class__") Q E s:=by
  obtain⟨hh,g,dr,t,os⟩:=s
  have L0:=T (model prog w)
  have L1:=looks_findIn (M:=model prog w) X a.ga
  have L2:=looks_findIn (M:=model prog w) X a.hook
  have f3:=PySem.F.attrBase_ValueError.ga.bind (.ref x)
  unfold getAttr? getAttrBy? getAttrBy
  refine wpAny_bind (wpAny_mkText (wpAny_bind (wpAny_attempt (wpAny_holding (wpAny_bind (L0.at (wpAny_bind (L1.at ?_))))))))
  have hne:(onTheHeap (Value.ref D)&&Value.builtin "BaseException.__getattribute__" == Value.builtin "object.__getattribute__")=false:=by
    rw [show (Value.builtin "BaseException.__getattribute__" == Value.builtin "object.__getattribute__")=false from by decide +kernel,Bool.and_false]
  dsimp only
  rw [if_neg (by rw [hne];exact Bool.false_ne_true)]
  unfold getAttrByItsOwn hookBefore
  rw [if_pos (show onTheHeap (Value.ref D)=true from rfl)]
  refine wpAny_bind (L2.at (wpAny_bind (wpAny_attempt (wpAny_holding ?_))))
  unfold callGetattribute
  rw [if_neg (by decide)]
  unfold boundAndCalled
  rw [f3]
  refine wpAny_bind (wpAny_pure (wpAny_call ?_))
  refine codeAny_call_builtin PySem.F.attrBase_ValueError.ga.plain PySem.F.entry_bexc_ga (qIt (K:=K) (D:=D) (s:=⟨hh,g,dr,t+1,os⟩) X (T _) a (qI2 (s:=⟨hh,g,dr,t+1,os⟩) X (T _) a ?_))
  exact handed_on rfl (wpAny_pure h)
end
theorem qHN {K:Frag} {x D:Addr} (a:qBq K D):KitX K (.ref x) (.ref D) (fun h=>∃ ox,h.get? x=some ox∧ox.cls = .ref D) where
  ty:=fun _ _ _ ⟨_,h1,h2⟩=>h2 ▸ (Looks.ld h1).andThen .now
  it:=fun _ _ X _=>by
    have hc:=a.cls
    unfold clsIn at hc
    split at hc
    · rename_i c' d' cd' sl' ho
      intro A' Q' E' s' k q
      unfold isType loadHead
      exact wpAny_bind (wpAny_loadPart (k _ _ (X _ _ ho)) (wpAny_pure q))
    · cases hc
  ne:=fun h tp dd its n sl X htp=>by
    have hc:=a.cls
    refine Bool.eq_false_iff.mpr fun q=>?_
    have e:D=tp:=Value.ref.inj (beq_iff_eq.mp q)
    subst e
    unfold clsIn at hc
    split at hc
    · rename_i c' d' cd' sl' ho
      have z:=(X _ _ ho).symm.trans htp
      cases z
    · cases hc
  ca:=fun X ⟨_,h1,h2⟩ k=>qMK X (fun _=>h2 ▸ (Looks.ld h1).andThen .now) a k
structure qCH (K:Frag) (us:List Value) (ns:List String) (f:String→Bool):Prop where
  non:kitAny K (.type "NoneType") us=some false
  exc:∀ n∈ns,∀ D,nsIn K mainGlobals (Str.ofString n)=some (some (.ref D))→qBq K D∧kitAny K (.ref D) us=some (f n)
def qJN (ns:List String) (f:String→Bool) (te:TD):TD:=fun ρ st P=>te ρ st fun d st1=>match d with
  | .exc n=>n∈ns∧P (.bl (f n)) st1
  | .non=>P (.bl false) st1
  | _=>False
theorem qIV {K:Frag} {t u:Value} {b:Bool} (h:kitAny K t [u]=some b):kitOne K t u=some b:=by
  unfold kitAny at h
  cases q:kitOne K t u with
  | none=>rw [q] at h;cases h
  | some c =>
    rw [q] at h
    cases c with
    | true=>exact h
    | false=>exact h
section
variable {X:Cx} {e ce:Expr} {te:TD} {p pos:Pos} {ns:List String} {f:String→Bool}
structure qHy (X:Cx) (ce:Expr) (ns:List String) (f:String→Bool):Prop where
  ex:∃ v u,PE X ce (tC v)∧(∀ u',RelV v u'→u'=u)∧qCH X.K [u] ns f
theorem qNI (hm:X.mg "isinstance" = none) (ha:DE X e te) (hc:qHy X ce ns f) (hg:Gl X "isinstance") (he:starEach [e,ce] X.env=(false,eval e X.env)::starEach [ce] X.env) (he2:starEach [ce] X.env=(false,eval ce X.env)::starEach [] X.env) (hpl:(backTo pos (starEach [ce] X.env)).any (·.1)=false):DE X (.Call (.Name "isinstance" p) [e,ce] [] pos) (qJN ns f te):=by
  obtain⟨v,u,pc,hu,kn⟩:=hc.ex
  k_dat 0"r1"
  k_dat 0"r0"
  refine wpAny_Call_Name_kw (qDu I hg hm rfl ?_ (by decide) (by decide))
  refine PyProof.Rows.callWith_builtin1 (thn (qCg ha (qCg pc qGI he2) he pos pins s σ H (fun vs H1=>∃ x φ1 st1 d,vs=[x,v]∧Bhd X.K φ st H φ1 st1 H1∧L3.D X.K φ1 st1.length H1 d x∧(match d with | .exc n=>n∈ns∧P (.bl (f n)) st1 | .non=>P (.bl false) st1 | _=>False)) I ⟨φ,st,ρ,_,pre,ht,fun d st1 h1 φ1 H1 x b1 dx=>⟨x,φ1,st1,d,rfl,b1,dx,h1⟩⟩) fun us s1 ⟨vs,H1,I1,r1,x,φ1,st1,d,ev,b1,dx,h1⟩=>?_) he hpl
  subst ev
  obtain⟨u1,u2,rfl,r2,r3⟩:=vals2 r1
  cases hu u2 r3
  cases d with
  | non =>
    cases dx.non;cases r2
    exact kia_one kitx_none I1.kIn True.intro (qIV kn.non) (fun z=>nomatch z) fun tk=>⟨.bl false,H1,I1.tok tk,rfl,hq _ st1 h1 φ1 H1 _ b1 D.qBX⟩
  | exc n =>
    obtain⟨a,o,C,rfl,ho,hn,hcl⟩:=dx.exc
    cases r2
    obtain⟨ask,kk⟩:=kn.exc n h1.1 C hn
    exact kia_one (qHN ask) I1.kIn ⟨o,(I1.hok a _ ho).1,hcl⟩ (qIV kk) (fun z=>nomatch z) fun tk=>⟨.bl _,H1,I1.tok tk,rfl,hq _ st1 h1.2 φ1 H1 _ b1 D.qBX⟩
  | _=>exact h1.elim
inductive qGv (X:Cx):List Expr→List V→List Value→Prop
  | nil:qGv X [] [] []
  | cons {ce:Expr} {ces:List Expr} {v:V} {vs:List V} {u:Value} {us:List Value} (h:PE X ce (tC v)) (r:∀ u',RelV v u'→u'=u) (hs:starEach (ce::ces) X.env=(false,eval ce X.env)::starEach ces X.env):qGv X ces vs us→qGv X (ce::ces) (v::vs) (u::us)
theorem qGv.pa {ces:List Expr} {vs:List V} {us:List Value} (h:qGv X ces vs us):PA X ces fun _ H Q=>Q vs H:=by
  induction h with
  | nil=>exact qGI
  | cons h r hs _ ih=>exact qCg h ih hs
theorem qGv.vals {ces:List Expr} {vs:List V} {us us':List Value} (h:qGv X ces vs us) (q:Vals vs us'):us'=us:=by
  induction h generalizing us' with
  | nil=>cases q;rfl
  | cons h r hs _ ih=>cases q with | cons a b=>rw [r _ a,ih b]
structure qLY (X:Cx) (ces:List Expr) (ns:List String) (f:String→Bool):Prop where
  ex:∃ vs us,qGv X ces vs us∧vs.length≤sizeLine∧qCH X.K us ns f
theorem qOB {ces:List Expr} {kt:Nat} {tp:Pos} (hm:X.mg "isinstance" = none) (ha:DE X e te) (hc:qLY X ces ns f) (hg:Gl X "isinstance") (he:starEach [e,.Tuple ces kt tp] X.env=(false,eval e X.env)::starEach [.Tuple ces kt tp] X.env) (he2:starEach [.Tuple ces kt tp] X.env=(false,eval (.Tuple ces kt tp) X.env)::starEach [] X.env) (hpl:(backTo pos (starEach [.Tuple ces kt tp] X.env)).any (·.1)=false):DE X (.Call (.Name "isinstance" p) [e,.Tuple ces kt tp] [] pos) (qJN ns f te):=by
  obtain⟨cvs,cus,cl,hl,kn⟩:=hc.ex
  k_dat 0"r1"
  k_dat 0"r0"
  refine wpAny_Call_Name_kw (qDu I hg hm rfl ?_ (by decide) (by decide))
  refine PyProof.Rows.callWith_builtin1 (thn (qCg ha (qCg (qK7 cl.pa) qGI he2) he pos pins s σ H (fun vs H1=>∃ x q φ1 st1 d,vs=[x,.ref q]∧H1 q=some (.tup cvs)∧Bhd X.K φ st H φ1 st1 H1∧L3.D X.K φ1 st1.length H1 d x∧(match d with | .exc n=>n∈ns∧P (.bl (f n)) st1 | .non=>P (.bl false) st1 | _=>False)) I ⟨φ,st,ρ,_,pre,ht,fun d st1 h1 φ1 H1 x b1 dx=>⟨hl,fun q hq=>⟨x,q,φ1,st1,d,rfl,qAF,b1.trans (qCf b1.1 hq),dx.evo (qBS hq),h1⟩⟩⟩) fun us s1 ⟨vs,H1,I1,r1,x,q,φ1,st1,d,ev,hH,b1,dx,h1⟩=>?_) he hpl
  subst ev
  obtain⟨u1,u2,rfl,r2,r3⟩:=vals2 r1
  cases r3
  obtain⟨its,rv,⟨o2,h21,h22,n2,h23⟩,_⟩:=I1.tuple (SqT.of hH)
  have hits:=cl.vals rv
  subst hits
  have htp:s1.heap.get? q=some ⟨.type "tuple",o2.dict,.seq its.toArray n2,o2.slots⟩:=by
    rw [h21]
    cases o2
    cases h22;cases h23
    rfl
  cases d with
  | non =>
    cases dx.non;cases r2
    exact kia_tup kitx_none I1.kIn True.intro htp kn.non (fun z=>nomatch z) fun tk=>⟨.bl false,H1,I1.tok tk,rfl,hq _ st1 h1 φ1 H1 _ b1 D.qBX⟩
  | exc n =>
    obtain⟨a,o,C,rfl,ho,hn,hcl⟩:=dx.exc
    cases r2
    obtain⟨ask,kk⟩:=kn.exc n h1.1 C hn
    exact kia_tup (qHN ask) I1.kIn ⟨o,(I1.hok a _ ho).1,hcl⟩ htp kk (fun z=>nomatch z) fun tk=>⟨.bl _,H1,I1.tok tk,rfl,hq _ st1 h1.2 φ1 H1 _ b1 D.qBX⟩
  | _=>exact h1.elim
end
end L3
namespace L3
open PySem PySem.Spec PyProof.Rows L2
structure qMe (K:W.Frag) (mg:Str→Option Value) (c:Str) (ns:List String) (f:String→Bool):Prop where
  ex:∃ C,mg c=some (.ref C)∧qCH K [.ref C] ns f
structure qOc (K:W.Frag) (mg:Str→Option Value) (c:Str) (T:String) (ns:List String) (f:String→Bool):Prop where
  non:mg c=none
  kn:qCH K [.type T] ns f
structure qIF (K:W.Frag) (mg:Str→Option Value) (a b c d:Str) (ns:List String) (f:String→Bool):Prop where
  ex:∃ A B C D,mg a=some (.ref A)∧mg b=some (.ref B)∧mg c=some (.ref C)∧mg d=some (.ref D)∧qCH K [.ref A,.ref B,.ref C,.ref D] ns f
section
variable {X:Cx} {c:Str} {T:String} {ns:List String} {f:String→Bool} {p:Pos}
theorem qHy.own (h:qMe X.K X.mg c ns f) (hg:Gl X c) (hd:(c==("__debug__" : Str))=false):qHy X (.Name c p) ns f:=by
  obtain⟨C,hm,kn⟩:=h.ex
  exact⟨.ref C,.ref C,qCc hg hm rfl hd,fun _ r=>r,kn⟩
theorem qHy.blt (h:qOc X.K X.mg c T ns f) (hv:bootBuiltins c=some (.type T)) (hg:Gl X c) (hn:c ≠ "__name__") (hd:(c==("__debug__" : Str))=false):qHy X (.Name c p) ns f :=
  ⟨.ty T,.type T,qIY hg h.non hv rfl hn hd,fun _ r=>r,h.kn⟩
theorem qLY.qQo {a b c d:Str} {p1 p2 p3 p4:Pos} (h:qIF X.K X.mg a b c d ns f) (g1:Gl X a) (g2:Gl X b) (g3:Gl X c) (g4:Gl X d) (d1:(a==("__debug__" : Str))=false) (d2:(b==("__debug__" : Str))=false) (d3:(c==("__debug__" : Str))=false) (d4:(d==("__debug__" : Str))=false)
    (s1:starEach [.Name a p1,.Name b p2,.Name c p3,.Name d p4] X.env=(false,eval (.Name a p1) X.env)::starEach [.Name b p2,.Name c p3,.Name d p4] X.env) (s2:starEach [.Name b p2,.Name c p3,.Name d p4] X.env=(false,eval (.Name b p2) X.env)::starEach [.Name c p3,.Name d p4] X.env)
    (s3:starEach [.Name c p3,.Name d p4] X.env=(false,eval (.Name c p3) X.env)::starEach [.Name d p4] X.env) (s4:starEach [.Name d p4] X.env=(false,eval (.Name d p4) X.env)::starEach [] X.env):qLY X [.Name a p1,.Name b p2,.Name c p3,.Name d p4] ns f:=by
  obtain⟨A,B,C,D,h1,h2,h3,h4,kn⟩:=h.ex
  exact⟨[.ref A,.ref B,.ref C,.ref D],_,.cons (qCc g1 h1 rfl d1) (fun _ r=>r) s1 (.cons (qCc g2 h2 rfl d2) (fun _ r=>r) s2 (.cons (qCc g3 h3 rfl d3) (fun _ r=>r) s3 (.cons (qCc g4 h4 rfl d4) (fun _ r=>r) s4 .nil))),by show 4≤sizeLine;decide,kn⟩
end
theorem qCH.one {K:W.Frag} {us:List Value} {n:String} {C:Addr} {b:Bool} (a:W.nsIn K mainGlobals (Str.ofString n)=some (some (.ref C))) (k:qBq K C) (h1:W.kitAny K (.type "NoneType") us=some false) (h2:W.kitAny K (.ref C) us=some b):qCH K us [n] (fun _=>b):=⟨h1,fun m hm D hD=>by
  rw [List.mem_singleton.mp hm,a] at hD
  cases hD
  exact⟨k,h2⟩⟩
end L3
namespace L3
open PySem PySem.Spec PyProof.Rows L2
section
variable {K:W.Frag} {mg:Str→Option Value} {h:Heap} {C Z:Addr}
theorem qMA (X:K.In h) (G:h.Ns mainGlobals mg) {n z:String} (a:W.nsIn K mainGlobals (Str.ofString n)=some (some (.ref C))) (e:W.excIn K C bmV "ValueError.__new__" = true) (az:W.nsIn K mainGlobals (Str.ofString z)=some (some (.ref Z))) (ez:W.excIn K Z bmV "ValueError.__new__" = true) (s:subIn K C Z=true):qIW K mg (Str.ofString z) [n]:=⟨Z,⟨az,ez⟩,W.mg_of X G az,fun m hm D hD=>by
  rw [List.mem_singleton.mp hm,a] at hD
  cases hD
  exact⟨e,s⟩⟩
theorem qN9 {cd:ClassData} (h1:W.clsIn K C=some cd) (h2:W.findIn K (.ref C) "__getattribute__" = some (some (.builtin "BaseException.__getattribute__"))) (h3:W.findIn K (.ref C) "__getattr__" = some none) (h4:W.findIn K (.ref C) "__class__" = some (some (.builtin "object.__class__"))) (h5:W.specialIn K (.builtin "object.__class__") "__get__" = some (some (.builtin "getset_descriptor.__get__"))) (h6:W.takesIn K (.builtin "object.__class__")=some true) (h7:W.mroIn K C (.type "object")=some true) (h8:W.subIn K (.ref C) (.type "BaseException")=some true):qBq K C:=⟨by rw [h1];rfl,h2,h3,h4,h5,h6,h7,h8⟩
theorem qPT (X:K.In h) (G:h.Ns mainGlobals mg) {c:Str} {D:Addr} {ns:List String} {f:String→Bool} (a:W.nsIn K mainGlobals c=some (some (.ref D))) (k:qCH K [.ref D] ns f):qMe K mg c ns f:=⟨D,W.mg_of X G a,k⟩
theorem qLz (X:K.In h) (G:h.Ns mainGlobals mg) {a b c d:Str} {A B C D:Addr} {ns:List String} {f:String→Bool} (ha:W.nsIn K mainGlobals a=some (some (.ref A))) (hb:W.nsIn K mainGlobals b=some (some (.ref B))) (hc:W.nsIn K mainGlobals c=some (some (.ref C))) (hd:W.nsIn K mainGlobals d=some (some (.ref D))) (k:qCH K [.ref A,.ref B,.ref C,.ref D] ns f):qIF K mg a b c d ns f:=⟨A,B,C,D,W.mg_of X G ha,W.mg_of X G hb,W.mg_of X G hc,W.mg_of X G hd,k⟩
end
end L3
namespace KH
open PySem L2 L3
end KH
namespace K19
open PySem L2 L3 KH
noncomputable def qCM:List Str:=["add", "sub", "mul", "nought", "high", "over", "under", "wide", "rest"]
noncomputable def qJs:List Dt:=qCM.map .str
noncomputable def qBn (w:Str) (ns:List Dt):List Dt:=if qCM.contains w=true then ns else []
def qCi:RDL:=fun ds st P=>∃ (w:Str) (ns:List Dt),ds=[.tup (.str w::ns)]∧P (.tup (qBn w ns)) st
end K19
namespace KH
open PySem PySem.Spec PyProof.Rows L2 L3
theorem qFF {b:Bool} {A B:Prop} (h:b=true) (a:A):if b=true then A else B:=by rw [if_pos h];exact a
theorem qAi {b:Bool} {A B:Prop} (h:b=false) (a:B):if b=true then A else B:=by rw [if_neg (by rw [h];exact Bool.false_ne_true)];exact a
end KH
namespace K01
open PySem L2 L3
end K01
namespace K01
open PySem PySem.Spec PyProof.Rows L2 L3
end K01
namespace KS
end KS
namespace KS
open PySem L2 L3 KH
end KS
namespace K15
open PySem L2 L3 KH KS
end K15
namespace KS
open PySem PySem.Spec PyProof.Rows L2 L3 KH
theorem qLA {st:Sto} {m:Nat} {xs:List Dt} {v:Int} {d:Dt} {P:VD} (e:st[m]? = some (.rw xs)) (a:atI xs v=some d) (h:P d st):qM (.lst m) (.int v) st P:=by
  simp only [qM,qo,e,Option.map_some,SO.items,a]
  exact h
theorem qIl {st:Sto} {m:Nat} {xs:List Dt} {v:Int} {d:Dt} {P:VD} (e:qo st (.lst m)=some xs) (a:atI xs v=some d) (h:P d st):qM (.lst m) (.int v) st P:=by
  simp only [qM,e,a]
  exact h
theorem qME {st:Sto} {x y:SO}:(st++[x]).set st.length y=st++[y]:=by simp
end KS
namespace KW
inductive Op2 | add | sub | mul | over | under | wide | rest
inductive Nd where
  | num (n:Int) | box (k:Nat) | mark (k:Nat) | item (i:Nat) | two (w:Op2) (x y:Nat) | nought (x:Nat) | high (x:Nat) | yes | no
inductive Vl where
  | n (i:Int) | b (k:Bool) | non
noncomputable def two (w:Op2) (x y:Int):Vl:=match w with
  | .add=>.n ((x+y)%65536)
  | .sub=>.n ((x - y)%65536)
  | .mul=>.n (x * y%65536)
  | .over=>.b (decide (65536≤x+y))
  | .under=>.b (decide (x<y))
  | .wide=>.b (decide (65536≤x * y))
  | .rest=>.b (decide (y≠0)&&decide (x%y≠0))
def OkN (ss:List Nat) (m:Nat) (nd:Nd) (s:Nat):Prop:=match nd with
  | .num n=>0≤n∧n<65536∧s=0
  | .box k=>k<8∧s=0
  | .mark k=>k<3∧s=1
  | .item i=>i<m∧s=0
  | .two w x y=>ss[x]? = some 0∧ss[y]? = some 0∧s=(match w with | .add=>0 | .sub=>0 | .mul=>0 | _=>1)
  | .nought x=>ss[x]? = some 0∧s=1
  | .high x=>ss[x]? = some 0∧s=1
  | .yes=>s=1
  | .no=>s=1
inductive OkT (m:Nat):List Nd→List Nat→Prop
  | nil:OkT m [] []
  | snoc {a:List Nd} {ss:List Nat} {x:Nd} {s:Nat}:OkT m a ss→OkN ss m x s→OkT m (a++[x]) (ss++[s])
theorem OkT.len {m:Nat} {a:List Nd} {ss:List Nat} (h:OkT m a ss):a.length=ss.length:=by
  induction h with
  | nil=>rfl
  | snoc _ _ ih=>simp [ih]
theorem qJS {α:Type} {l:List α} {x y:α} {i:Nat} (e:(l++[x])[i]? = some y):(i<l.length∧l[i]? = some y)∨(i=l.length∧y=x):=by
  by_cases h:i<l.length
  · rw [List.getElem?_append_left h] at e;exact .inl ⟨h,e⟩
  · rw [List.getElem?_append_right (by omega)] at e
    by_cases h2:i=l.length
    · subst h2;simp at e;exact .inr ⟨rfl,e.symm⟩
    · rw [List.getElem?_eq_none (by simp;omega)] at e;cases e
end KW
namespace K20
open PySem L2 L3 KH KW
noncomputable def nm:Op2→Str
  | .add => "add" | .sub => "sub" | .mul => "mul" | .over => "over" | .under => "under" | .wide => "wide" | .rest => "rest"
noncomputable def nD:Nd→Dt
  | .num n=>.tup [.str "num",.int n]
  | .box k=>.tup [.str "box",.int k]
  | .mark k=>.tup [.str "mark",.int k]
  | .item i=>.tup [.str "item",.int i]
  | .two w x y=>.tup [.str (nm w),.int x,.int y]
  | .nought x=>.tup [.str "nought",.int x]
  | .high x=>.tup [.str "high",.int x]
  | .yes=>.tup [.str "yes"]
  | .no=>.tup [.str "no"]
noncomputable def vD:Vl→Dt
  | .n i=>.int i
  | .b k=>.bl k
  | .non=>.non
noncomputable def oD:Option Int→Dt
  | some i=>.int i
  | none=>.non
noncomputable def tab (a:List Nd):Dt:=.tup (a.map nD)
def Has (st:Sto) (n:Nat) (xs:List Dt):Prop:=∃ o,st[n]? = some o∧o.items=xs
def qET:RDL:=fun ds st P=>∃ (w:Op2) (x y:Int),ds=[.str (nm w),.int x,.int y]∧(w = .add∨w = .sub∨w = .mul)∧0≤x∧x<65536∧P (.int (match w with | .add=>x+y | .sub=>x - y | _=>x * y)) st
def qDx:RDL:=fun ds st P=>∃ (w:Str) (n:Nat),ds=[.str w,.lst n] ∧
  ((w = "yes" ∧ P (.bl true) st)∨(w = "no" ∧ P (.bl false) st)∨(∃ x:Int,Has st n [.int x]∧((w = "nought" ∧ P (.bl (decide (x=0))) st)∨(w = "high" ∧ P (.bl (decide (32768≤x))) st))) ∨
   ∃ (o:Op2) (x y:Int),w=nm o∧Has st n [.int x,.int y]∧0≤x∧x<65536∧0≤y∧y<65536∧P (vD (two o x y)) st)
end K20
namespace K20
open PySem PySem.Spec PyProof.Rows L2 L3 KH KS KW
abbrev qCI:TSD:=(tseq (qi (qK (qG (qW false) (qD 0) (qE (Dt.str "add")))) (tseq (qY (qG L3.qB0 (qD 1) (qD 2))) qI) qI) (tseq (qi (qK (qG (qW false) (qD 0) (qE (Dt.str "sub")))) (tseq (qY (qG L3.qGp (qD 1) (qD 2))) qI) qI) (tseq (qY (qG qDy (qD 1) (qD 2))) qI)))
abbrev qE5:TSD:=(tseq (qAE (qG qM (qD 1) (qE (Dt.int 0))) (qU 2)) (tseq (qi (qK (qG (qW false) (qD 0) (qE (Dt.str "nought")))) (tseq (qY (qG (qW false) (qD 2) (qE (Dt.int 0)))) qI) qI) (tseq (qi (qK (qG (qW false) (qD 0) (qE (Dt.str "high")))) (tseq (qY (qG (qAN fun i j=>decide (j≤i)) (qD 2) (qE (Dt.int 32768)))) qI) qI) (tseq (qAE (qG qM (qD 1) (qE (Dt.int 1))) (qU 3)) (tseq (qi (qK (qG (qW false) (qD 0) (qE (Dt.str "over")))) (tseq (qY (qG (qAN fun i j=>decide (j≤i)) (qG L3.qB0 (qD 2) (qD 3)) (qE (Dt.int 65536)))) qI) qI) (tseq (qi (qK (qG (qW false) (qD 0) (qE (Dt.str "under")))) (tseq (qY (qG (qAN fun i j=>decide (i<j)) (qD 2) (qD 3))) qI) qI) (tseq (qi (qK (qG (qW false) (qD 0) (qE (Dt.str "wide")))) (tseq (qY (qG (qAN fun i j=>decide (j≤i)) (qG qDy (qD 2) (qD 3)) (qE (Dt.int 65536)))) qI) qI) (tseq (qi (qK (qG (qW false) (qD 0) (qE (Dt.str "rest")))) (tseq (qY (qB2 (qG (qW true) (qD 3) (qE (Dt.int 0))) (qG (qW true) (qG qAP (qD 2) (qD 3)) (qE (Dt.int 0))))) qI) qI) (tseq (qY (qG qAP (qN qET (qB (qD 0) (qB (qD 2) (qB (qD 3) qH)))) (qE (Dt.int 65536)))) qI)))))))))
abbrev qFX:TSD:=(tseq (qi (qK (qG (qAd false) (qD 0) (qv (qB (qE (Dt.str "yes")) (qB (qE (Dt.str "no")) qH))))) (tseq (qY (qG (qW false) (qD 0) (qE (Dt.str "yes")))) qI) qI) qE5)
theorem qAC {st:Sto} {n:Nat} {xs:List Dt} (h:Has st n xs):qo st (.lst n)=some xs:=by
  obtain⟨o,a,b⟩:=h
  show (st[n]?).map SO.items=_
  rw [a,← b];rfl
theorem qDq {ds:List Dt} {st:Sto} {Pd:VD} (h:qET ds st Pd):qCI (Ed Pd) (qd ["word", "x", "y"] ds) st:=by
  obtain⟨w,x,y,rfl,hw,x0,x1,hP⟩:=h
  rcases hw with rfl | rfl | rfl
  · refine⟨rfl,rfl,qFF (by decide +kernel) hP⟩
  · k_dat 0"r2"
    exact⟨rfl,rfl,qFF (by decide +kernel) hP⟩
  · k_dat 0"r2"
    k_dat 0"r2"
    exact⟨qGQ x0 (by omega),hP⟩
theorem qNj {E:qBH} {st:Sto} {w:Str} {n:Nat} {a3:Option Dt} {x:Int} {r:List Dt} (hx:Has st n (.int x::r)) (h:(w = "nought" ∧ E.rt (.bl (decide (x=0))) st)∨(w = "high" ∧ E.rt (.bl (decide (32768≤x))) st)) :
    qE5 E [some (.str w),some (.lst n),none,a3] st:=by
  k_dat 0"r56"
  refine qIl (qAC hx) (d:=.int x) (by simp [atI,ixN]) ?_
  rcases h with ⟨rfl,h⟩ | ⟨rfl,h⟩
  · refine⟨rfl,rfl,qFF (by decide +kernel) ?_⟩
    refine⟨rfl,rfl,?_⟩
    have e:(eqD 8 (Dt.int x) (Dt.int 0) != false)=decide (x=0):=by
      rw [qAr]
      rfl
    show E.rt (.bl (eqD 8 (Dt.int x) (Dt.int 0) != false)) st
    rw [e];exact h
  · k_dat 0"r2"
    refine⟨rfl,rfl,qFF (by decide +kernel) ?_⟩
    exact h
theorem qNV {E:qBH} {st:Sto} {o:Op2} {n:Nat} {a3:Option Dt} {x y:Int} (hx:Has st n [.int x,.int y]) (x0:0≤x) (x1:x<65536) (y0:0≤y) (y1:y<65536) (h:E.rt (vD (two o x y)) st) :
    qE5 E [some (.str (nm o)),some (.lst n),none,a3] st:=by
  k_dat 0"r56"
  refine qIl (qAC hx) (d:=.int x) rfl ?_
  have n1:(eqD 8 (Dt.str (nm o)) (Dt.str "nought") != false)=false:=by cases o<;>decide +kernel
  have n2:(eqD 8 (Dt.str (nm o)) (Dt.str "high") != false)=false:=by cases o<;>decide +kernel
  refine⟨rfl,rfl,qAi n1 ?_⟩
  refine⟨rfl,rfl,qAi n2 ?_⟩
  refine qIl (qAC hx) (d:=.int y) rfl ?_
  cases o with
  | add =>
    k_dat 0"r2"
    k_dat 0"r2"
    k_dat 0"r2"
    k_dat 0"r2"
    exact⟨.add,x,y,rfl,.inl rfl,x0,x1,by decide,h⟩
  | sub =>
    k_dat 0"r2"
    k_dat 0"r2"
    k_dat 0"r2"
    k_dat 0"r2"
    exact⟨.sub,x,y,rfl,.inr (.inl rfl),x0,x1,by decide,h⟩
  | mul =>
    k_dat 0"r2"
    k_dat 0"r2"
    k_dat 0"r2"
    k_dat 0"r2"
    exact⟨.mul,x,y,rfl,.inr (.inr rfl),x0,x1,by decide,h⟩
  | over=>exact⟨rfl,rfl,qFF (by decide +kernel) h⟩
  | under =>
    k_dat 0"r2"
    exact⟨rfl,rfl,qFF (by decide +kernel) h⟩
  | wide =>
    k_dat 0"r2"
    k_dat 0"r2"
    exact⟨rfl,rfl,qFF (by decide +kernel) ⟨qGQ x0 (by omega),h⟩⟩
  | rest =>
    k_dat 0"r2"
    k_dat 0"r2"
    k_dat 0"r2"
    refine⟨rfl,rfl,qFF (by decide +kernel) ?_⟩
    refine⟨rfl,rfl,?_⟩
    by_cases hy:y=0
    · subst hy
      exact h
    · have e:(eqD 8 (Dt.int y) (Dt.int 0) != true)=true:=by
        show ((y==0) != true)=true
        rw [beq_eq_false_iff_ne.mpr hy];rfl
      rw [e]
      refine⟨by omega,rfl,rfl,?_⟩
      have e2:(eqD 8 (Dt.int (x%y)) (Dt.int 0) != true)=(decide (y≠0)&&decide (x%y≠0)):=by
        rw [decide_eq_true hy,Bool.true_and]
        show ((x%y==0) != true)=_
        by_cases hr:x%y=0
        · rw [hr];rfl
        · rw [beq_eq_false_iff_ne.mpr hr,decide_eq_true hr];rfl
      rw [e2]
      exact h
theorem qHf {ds:List Dt} {st:Sto} {Pd:VD} (h:qDx ds st Pd):qFX (Ed Pd) (qd ["word", "named", "x", "y"] ds) st:=by
  obtain⟨w,n,rfl,h⟩:=h
  refine⟨by show 2≤sizeLine;decide,rfl,by decide,?_⟩
  rcases h with ⟨rfl,h⟩ | ⟨rfl,h⟩ | ⟨x,hx,h⟩ | ⟨o,x,y,rfl,hx,x0,x1,y0,y1,h⟩
  · exact qFF (by decide +kernel) ⟨rfl,rfl,h⟩
  · exact qFF (by decide +kernel) ⟨rfl,rfl,h⟩
  · refine qAi (by rcases h with ⟨rfl,_⟩ | ⟨rfl,_⟩<;>decide +kernel) ?_
    exact qNj (E:=Ed Pd) hx h
  · refine qAi (by cases o<;>decide +kernel) ?_
    exact qNV (E:=Ed Pd) hx x0 x1 y0 y1 h
end K20
namespace K20
open PySem PySem.Spec PyProof.Rows L2 L3 KH KS KW
end K20
namespace KW
end KW
namespace K19
open PySem PySem.Spec PyProof.Rows L2 L3 KH
abbrev qIZ:TSD:=(tseq (qY (qC1 (qK (qG (qAd false) (qG qM (qD 0) (qE (Dt.int 0))) (qE (Dt.tup qJs)))) (qCB (qD 0) (qC4 (qE (Dt.int 1))) qCy) (qv qH))) qI)
theorem qO4:qJs.all (okD 0)=true:=by decide +kernel
theorem qNQ (w:Str):(qJs.any (fun z=>eqD 0 z (.str w)) != false)=qCM.contains w:=by
  unfold qJs
  rw [List.any_map]
  have e:(qCM.any ((fun z=>eqD 0 z (.str w)) ∘ Dt.str))=qCM.any (fun s=>s==w):=rfl
  rw [e,qAr]
  rw [List.contains_eq_any_beq]
  congr 1
  funext s
  exact Bool.eq_iff_iff.mpr ⟨fun h=>by rw [eq_of_beq h];exact beq_self_eq_true _,fun h=>by rw [eq_of_beq h];exact beq_self_eq_true _⟩
theorem qQ7 (d:Dt) (ns:List Dt):L3.cutD (d::ns) (some 1) none=ns:=by
  unfold L3.cutD
  have e:HT.sIx (d::ns).length 0 (some 1)=1:=by simp [HT.sIx]
  rw [e,HT.qHF]
  simp
theorem qKC {ds:List Dt} {st:Sto} {Pd:VD} (h:qCi ds st Pd):qIZ (Ed Pd) (qd ["node"] ds) st:=by
  obtain⟨w,ns,rfl,h⟩:=h
  have a0:atI (Dt.str w::ns) 0=some (.str w):=by simp [atI,ixN]
  show (match atI (Dt.str w::ns) 0 with | some d=>_ | none=>_)
  rw [a0]
  refine⟨rfl,qO4,?_⟩
  unfold qBn at h
  rw [qNQ w]
  cases hc:qCM.contains w with
  | true =>
    rw [hc,if_pos rfl] at h
    refine qBA ?_
    show Pd (.tup (L3.cutD (.str w::ns) (some 1) none)) st
    rw [qQ7]
    exact h
  | false =>
    rw [hc,if_neg Bool.false_ne_true] at h
    refine qBB ⟨Nat.zero_le _,h⟩
end K19
namespace K20
open PySem PySem.Spec PyProof.Rows L2 L3 KH KS KW
end K20
namespace K20
open PySem PySem.Spec PyProof.Rows L2 L3 KH KS KW
end K20
namespace K18
open PySem L2 L3 KH KW K20
end K18
namespace KR
open PySem L2 L3 KH KW K20
inductive Rl | swap | group | ungroup | subnum | zero | one | nil | self | count | sure | never
noncomputable def rn:Rl→Str
  | .swap => "swap" | .group => "group" | .ungroup => "ungroup" | .subnum => "subnum" | .zero => "zero" | .one => "one" | .nil => "nil" | .self => "self" | .count => "count" | .sure => "sure" | .never => "never"
noncomputable def keys:List Str:=["swap", "group", "ungroup", "subnum", "zero", "one", "nil", "self", "count", "sure", "never"]
theorem qDC {z:Str} (h:z∈keys):∃ r,z=rn r:=by
  simp only [keys,List.mem_cons,List.not_mem_nil,or_false] at h
  rcases h with h | h | h | h | h | h | h | h | h | h | h
  · exact⟨.swap,h⟩
  · exact⟨.group,h⟩
  · exact⟨.ungroup,h⟩
  · exact⟨.subnum,h⟩
  · exact⟨.zero,h⟩
  · exact⟨.one,h⟩
  · exact⟨.nil,h⟩
  · exact⟨.self,h⟩
  · exact⟨.count,h⟩
  · exact⟨.sure,h⟩
  · exact⟨.never,h⟩
theorem qGS (r:Rl):rn r∈keys:=by cases r<;>decide
theorem qOM (r:Rl):(rn r).length≤10:=by cases r<;>decide
noncomputable def qBC:Nd→Option Int
  | .num k=>some k
  | _=>none
noncomputable def numAt (ns:List Nd) (i:Nat):Option Int:=match ns[i]? with
  | some x=>qBC x
  | none=>none
noncomputable def InT (m:Nat):Nd→Prop
  | .two _ x y=>x<m∧y<m
  | .nought x=>x<m
  | .high x=>x<m
  | _=>True
inductive Res | nd (x:Nd) | at_ (i:Nat)
noncomputable def qAn:Res→Dt
  | .nd x=>nD x
  | .at_ i=>.int (i:Nat)
noncomputable def orD:Option Res→Dt
  | none=>.non
  | some r=>qAn r
noncomputable def qBl:Op2→Bool
  | .add=>true | .mul=>true | _=>false
noncomputable def qEr:Op2→Bool
  | .add=>true | .mul=>true | .over=>true | .wide=>true | _=>false
noncomputable def qAt:Op2→Bool
  | .add=>true | .sub=>true | .mul=>true | _=>false
noncomputable def qBf:Op2→List Int
  | .over=>[0] | .under=>[0] | .wide=>[0,1] | .rest=>[0,1] | _=>[]
noncomputable def yn (b:Bool):Nd:=if b then .yes else .no
open Classical in
noncomputable def qP (ns:List Nd) (n:Nat):Rl→Nd→Option Res
  | .swap,.two w x y=>if qEr w then some (.nd (.two w y x)) else none
  | .group,.two w x y=>(match ns[x]? with
    | some (.two v s t)=>if qBl w=true∧v=w∧ns[n]? = some (.two w t y) then some (.nd (.two w s n)) else none
    | _=>none)
  | .ungroup,.two w x y=>(match ns[y]? with
    | some (.two v s t)=>if qBl w=true∧v=w∧ns[n]? = some (.two w x s) then some (.nd (.two w n t)) else none
    | _=>none)
  | .subnum,.two .sub x y=>(match numAt ns y with
    | some k=>if numAt ns n=some ((0 - k)%65536) then some (.nd (.two .add x n)) else none
    | none=>none)
  | .zero,.two .add x y=>if numAt ns y=some 0 then some (.at_ x) else none
  | .one,.two .mul x y=>if numAt ns y=some 1 then some (.at_ x) else none
  | .nil,.two .mul x y=>if numAt ns y=some 0 then some (.at_ y) else none
  | .self,.two .sub x y=>if x=y then some (.nd (.num 0)) else none
  | .count,.two w x y=>if qAt w then (match numAt ns x,numAt ns y with
    | some a,some b=>(match two w a b with | .n v=>some (.nd (.num v)) | _=>none)
    | _,_=>none) else none
  | .sure,.two w x y=>if qAt w then none else (match numAt ns x,numAt ns y with
    | some a,some b=>(match two w a b with | .b v=>some (.nd (yn v)) | _=>none)
    | _,_=>none)
  | .sure,.nought x=>(match numAt ns x with
    | some a=>some (.nd (yn (decide (a=0))))
    | none=>none)
  | .sure,.high x=>(match numAt ns x with
    | some a=>some (.nd (yn (decide (32768≤a))))
    | none=>none)
  | .never,.two w x y=>if qAt w then none else if (∃ k∈qBf w,numAt ns y=some k)∨(w = .under∧x=y) then some (.nd .no) else none
  | _,_=>none
def Nums (ns:List Nd):Prop:=∀ k,Nd.num k∈ns→0≤k∧k<65536
theorem qGK {ns:List Nd} (h:Nums ns) {i:Nat} {k:Int} (e:numAt ns i=some k):0≤k∧k<65536:=by
  unfold numAt at e
  split at e
  · rename_i x ex
    cases x with
    | num a =>
      have:a=k:=Option.some.inj e
      subst this
      exact h a (List.mem_of_getElem? ex)
    | _=>cases e
  · cases e
def qa (st:Sto) (d:Dt) (ns:List Nd):Prop:=qo st d=some (ns.map nD)
def qEO:RDL:=fun ds st P=>∃ x:Dt,ds=[x]∧((∃ i,x = .int i∧P (.bl true) st)∨((∃ b,x = .bl b)∨x = .non∨(∃ s,x = .str s)∨∃ l,x = .tup l)∧P (.bl false) st)
def qB9:RDL:=fun ds st P=>∃ (i b:Int),ds=[.int i,.int b]∧P (.bl (decide (0≤i)&&decide (i<b))) st
def qDG:RDL:=fun ds st P=>∃ (l:List Dt) (b:Int),ds=[.tup l,.int b]∧P (.bl (decide ((l.length:Int)=b))) st
noncomputable def qDP:Str→Nat:=fun w=>if w = "yes" ∨ w = "no" then 0 else if w = "num" ∨ w = "box" ∨ w = "mark" ∨ w = "item" ∨ w = "nought" ∨ w = "high" then 1 else 2
noncomputable def cntK:List Str:=["num", "box", "mark", "item", "add", "sub", "mul", "nought", "high", "over", "under", "wide", "rest", "yes", "no"]
noncomputable def qKD:List (Str×Dt):=[("num",.int 1),("box",.int 1),("mark",.int 1),("item",.int 1),("add",.int 2),("sub",.int 2),("mul",.int 2),("nought",.int 1),("high",.int 1),("over",.int 2),("under",.int 2),("wide",.int 2),("rest",.int 2),("yes",.int 0),("no",.int 0)]
noncomputable def qIx:List Str:=["over", "under", "wide", "rest"]
noncomputable def qJI:List (Str×Dt):=[("over",.tup [.int 0]),("under",.tup [.int 0]),("wide",.tup [.int 0,.int 1]),("rest",.tup [.int 0,.int 1])]
def Frm (w:Str) (xs:List Int):Prop:=w∈cntK∧xs.length=qDP w
def qDD:RDL:=fun ds st P=>∃ (w:Str) (xs:List Int),ds=[.tup (.str w::xs.map .int)]∧Frm w xs∧P (.bl true) st
def qAS:RDL:=fun ds st P=>∃ (d:Dt) (ns:List Nd) (i:Nat) (x:Nd),ds=[d,.int (i:Nat)]∧qa st d ns∧ns[i]? = some x∧P (oD (qBC x)) st
def qDz:RDL:=fun ds st P=>∃ (d:Dt) (ns:List Nd) (sd:Nd),ds=[d,nD sd]∧qa st d ns∧Nums ns∧InT ns.length sd∧((∃ w x y,sd = .two w x y∧∀ st',qj st st'→P (match numAt ns x,numAt ns y with | some a,some b=>vD (two w a b) | _,_=>.non) st') ∨
  (∃ x,sd = .nought x∧∀ st',qj st st'→P (match numAt ns x with | some a=>.bl (decide (a=0)) | _=>.non) st')∨∃ x,sd = .high x∧∀ st',qj st st'→P (match numAt ns x with | some a=>.bl (decide (32768≤a)) | _=>.non) st')
def spR (r:Rl):RDL:=fun ds st P=>∃ (d:Dt) (ns:List Nd) (sd:Nd) (n:Nat),ds=[d,nD sd,.int (n:Nat)]∧qa st d ns∧Nums ns∧InT ns.length sd∧n<ns.length∧∀ st',qj st st'→P (orD (qP ns n r sd)) st'
def qGb (z:Str):RDL:=fun ds st P=>∃ r,z=rn r∧spR r ds st P
noncomputable def inR (m:Nat) (w:Str) (xs:List Int):Bool:=(if K19.qCM.contains w=true then xs else []).all fun x=>decide (0≤x)&&decide (x<(m:Int))
def qDL:RDL:=fun ds st P=>∃ (d:Dt) (ns:List Dt) (w:Str) (xs:List Int),ds=[d,.tup (.str w::xs.map .int)]∧qo st d=some ns∧Frm w xs∧∀ st',qj st st'→P (.bl (inR ns.length w xs)) st'
def qCZ:RDL:=fun ds st P=>∃ (d:Dt) (ns:List Nd) (w:Str) (xs:List Int) (rule:Str) (n:Int),ds=[d,.tup (.str w::xs.map .int),.tup [.str rule,.int n]]∧qa st d ns∧Nums ns∧Frm w xs ∧
  ((inR ns.length w xs=false∨rule ∉ keys∨n<0∨(ns.length:Int)≤n)→∀ st',qj st st'→P (.ty "NoTurning") st') ∧
  (inR ns.length w xs=true→∀ (r:Rl) (m:Nat),rule=rn r→n=(m:Int)→m<ns.length→∃ sd,Dt.tup (.str w::xs.map .int)=nD sd∧InT ns.length sd∧∀ st',qj st st'→P (match qP ns m r sd with | none=>.ty "NoTurning" | some x=>qAn x) st')
end KR
namespace KR
open PySem PySem.Spec PyProof.Rows L2 L3 KH KS KW K20
abbrev qEd:TSD:=(tseq (qY (qB2 (qN qBD (qB (qD 0) (qB (qE (Dt.ty "int")) qH))) (qM7 (qN qBD (qB (qD 0) (qB (qE (Dt.ty "bool")) qH)))))) qI)
abbrev qEj:TSD:=(tseq (qY (qB2 (qN KR.qEO (qB (qD 0) qH)) (qGf (fun i j=>decide (i≤j)) (fun i j=>decide (i<j)) (qE (Dt.int 0)) (qD 0) (qD 1)))) qI)
abbrev qCr:TSD:=(tseq (qY (qB2 (qN qBD (qB (qD 0) (qB (qE (Dt.ty "tuple")) qH))) (qG (qW false) (qN qAW (qB (qD 0) qH)) (qD 1)))) qI)
abbrev qFp:TSD:=(tseq (qY (qB2 (qN qBD (qB (qD 0) (qB (qE (Dt.ty "tuple")) qH))) (qB2 (qG (qAN fun i j=>decide (j<i)) (qN qAW (qB (qD 0) qH)) (qE (Dt.int 0))) (qB2 (qBj false KR.cntK (qG qM (qD 0) (qE (Dt.int 0)))) (qG (qW false) (qN qAW (qB (qD 0) qH)) (qG L3.qB0 (qE (Dt.int 1)) (qDK KR.qKD (qG qM (qD 0) (qE (Dt.int 0)))))))))) qI)
abbrev qHW:TSD:=(tseq (qAE (qG qM (qD 0) (qD 1)) (qU 2)) (tseq (qY (qC1 (qK (qG (qW false) (qG qM (qD 2) (qE (Dt.int 0))) (qE (Dt.str "num")))) (qG qM (qD 2) (qE (Dt.int 1))) (qE Dt.non))) qI))
abbrev qA2:TSD:=(tseq (qAE (qCm (qCl (qN K19.qCi (qB (qD 1) qH))) (fun x st P=>P true st) (qN KR.qAS (qB (qD 1) (qB (qD 0) qH))) [(0, "nodes")]) (qU 2)) (tseq (qY (qC1 (qK (qG (qAd false) (qE Dt.non) (qD 2))) (qE Dt.non) (qN K20.qDx (qB (qG qM (qD 1) (qE (Dt.int 0))) (qB (qD 2) qH))))) qI))
abbrev qHh:TSD:=(tseq (qY (qC1 (qK (qG (qAd false) (qG qM (qD 1) (qE (Dt.int 0))) (qv (qB (qE (Dt.str "add")) (qB (qE (Dt.str "mul")) (qB (qE (Dt.str "over")) (qB (qE (Dt.str "wide")) qH))))))) (qv (qB (qG qM (qD 1) (qE (Dt.int 0))) (qB (qG qM (qD 1) (qE (Dt.int 2))) (qB (qG qM (qD 1) (qE (Dt.int 1))) qH)))) (qE Dt.non))) qI)
abbrev g1:TSD:=(tseq (qi (qK (qG (qAd true) (qD 3) (qv (qB (qE (Dt.str "add")) (qB (qE (Dt.str "mul")) qH))))) (tseq (qY (qE Dt.non)) qI) qI) (tseq (qAE (qG qM (qD 0) (qG qM (qD 1) (qE (Dt.int 1)))) (qU 4)) (tseq (qi (qBN (qK (qG (qW true) (qG qM (qD 4) (qE (Dt.int 0))) (qD 3))) (qK (qG (qW true) (qG qM (qD 0) (qD 2)) (qv (qB (qD 3) (qB (qG qM (qD 4) (qE (Dt.int 2))) (qB (qG qM (qD 1) (qE (Dt.int 2))) qH))))))) (tseq (qY (qE Dt.non)) qI) qI) (tseq (qY (qv (qB (qD 3) (qB (qG qM (qD 4) (qE (Dt.int 1))) (qB (qD 2) qH))))) qI))))
abbrev qIM:TSD:=(tseq (qAE (qG qM (qD 1) (qE (Dt.int 0))) (qU 3)) g1)
abbrev u1:TSD:=(tseq (qi (qK (qG (qAd true) (qD 3) (qv (qB (qE (Dt.str "add")) (qB (qE (Dt.str "mul")) qH))))) (tseq (qY (qE Dt.non)) qI) qI) (tseq (qAE (qG qM (qD 0) (qG qM (qD 1) (qE (Dt.int 2)))) (qU 4)) (tseq (qi (qBN (qK (qG (qW true) (qG qM (qD 4) (qE (Dt.int 0))) (qD 3))) (qK (qG (qW true) (qG qM (qD 0) (qD 2)) (qv (qB (qD 3) (qB (qG qM (qD 1) (qE (Dt.int 1))) (qB (qG qM (qD 4) (qE (Dt.int 1))) qH))))))) (tseq (qY (qE Dt.non)) qI) qI) (tseq (qY (qv (qB (qD 3) (qB (qD 2) (qB (qG qM (qD 4) (qE (Dt.int 2))) qH))))) qI))))
abbrev qFg:TSD:=(tseq (qAE (qG qM (qD 1) (qE (Dt.int 0))) (qU 3)) u1)
abbrev qG2:TSD:=(tseq (qi (qK (qG (qW true) (qG qM (qD 1) (qE (Dt.int 0))) (qE (Dt.str "sub")))) (tseq (qY (qE Dt.non)) qI) qI) (tseq (qAE (qN KR.qAS (qB (qD 0) (qB (qG qM (qD 1) (qE (Dt.int 2))) qH))) (qU 3)) (tseq (qi (qBN (qK (qG (qCA false) (qD 3) (qE Dt.non))) (qK (qG (qW true) (qN KR.qAS (qB (qD 0) (qB (qD 2) qH))) (qG qAP (qG L3.qGp (qE (Dt.int 0)) (qD 3)) (qE (Dt.int 65536)))))) (tseq (qY (qE Dt.non)) qI) qI) (tseq (qY (qv (qB (qE (Dt.str "add")) (qB (qG qM (qD 1) (qE (Dt.int 1))) (qB (qD 2) qH))))) qI))))
abbrev qKg:TSD:=(tseq (qY (qC1 (qAD (qK (qG (qW false) (qG qM (qD 1) (qE (Dt.int 0))) (qE (Dt.str "add")))) (qK (qG (qW false) (qN KR.qAS (qB (qD 0) (qB (qG qM (qD 1) (qE (Dt.int 2))) qH))) (qE (Dt.int 0))))) (qG qM (qD 1) (qE (Dt.int 1))) (qE Dt.non))) qI)
abbrev qMn:TSD:=(tseq (qY (qC1 (qAD (qK (qG (qW false) (qG qM (qD 1) (qE (Dt.int 0))) (qE (Dt.str "mul")))) (qK (qG (qW false) (qN KR.qAS (qB (qD 0) (qB (qG qM (qD 1) (qE (Dt.int 2))) qH))) (qE (Dt.int 1))))) (qG qM (qD 1) (qE (Dt.int 1))) (qE Dt.non))) qI)
abbrev qMx:TSD:=(tseq (qY (qC1 (qAD (qK (qG (qW false) (qG qM (qD 1) (qE (Dt.int 0))) (qE (Dt.str "mul")))) (qK (qG (qW false) (qN KR.qAS (qB (qD 0) (qB (qG qM (qD 1) (qE (Dt.int 2))) qH))) (qE (Dt.int 0))))) (qG qM (qD 1) (qE (Dt.int 2))) (qE Dt.non))) qI)
abbrev qCo:TSD:=(tseq (qY (qC1 (qAD (qK (qG (qW false) (qG qM (qD 1) (qE (Dt.int 0))) (qE (Dt.str "sub")))) (qK (qG (qW false) (qG qM (qD 1) (qE (Dt.int 1))) (qG qM (qD 1) (qE (Dt.int 2)))))) (qv (qB (qE (Dt.str "num")) (qB (qE (Dt.int 0)) qH))) (qE Dt.non))) qI)
abbrev c1:TSD:=(tseq (qAE (qN KR.qDz (qB (qD 0) (qB (qD 1) qH))) (qU 3)) (tseq (qY (qC1 (qK (qG (qCA false) (qD 3) (qE Dt.non))) (qE Dt.non) (qv (qB (qE (Dt.str "num")) (qB (qD 3) qH))))) qI))
abbrev qIP:TSD:=(tseq (qi (qK (qG (qAd true) (qG qM (qD 1) (qE (Dt.int 0))) (qv (qB (qE (Dt.str "add")) (qB (qE (Dt.str "sub")) (qB (qE (Dt.str "mul")) qH)))))) (tseq (qY (qE Dt.non)) qI) qI) c1)
abbrev qGt:TSD:=(tseq (qi (qK (qG (qCA false) (qD 3) (qE Dt.non))) (tseq (qY (qE Dt.non)) qI) qI) (tseq (qY (qC1 (qK (qD 3)) (qv (qB (qE (Dt.str "yes")) qH)) (qv (qB (qE (Dt.str "no")) qH)))) qI))
abbrev s1:TSD:=(tseq (qAE (qN KR.qDz (qB (qD 0) (qB (qD 1) qH))) (qU 3)) qGt)
abbrev qKN:TSD:=(tseq (qi (qK (qG (qAd true) (qG qM (qD 1) (qE (Dt.int 0))) (qv (qB (qE (Dt.str "nought")) (qB (qE (Dt.str "high")) (qB (qE (Dt.str "over")) (qB (qE (Dt.str "under")) (qB (qE (Dt.str "wide")) (qB (qE (Dt.str "rest")) qH))))))))) (tseq (qY (qE Dt.non)) qI) qI) s1)
abbrev v1:TSD:=(tseq (qi (qK (qBj true KR.qIx (qD 3))) (tseq (qY (qE Dt.non)) qI) qI) (tseq (qi (qBN (qK (qG (qAd false) (qN KR.qAS (qB (qD 0) (qB (qG qM (qD 1) (qE (Dt.int 2))) qH))) (qDK KR.qJI (qD 3)))) (qAD (qK (qG (qW false) (qD 3) (qE (Dt.str "under")))) (qK (qG (qW false) (qG qM (qD 1) (qE (Dt.int 1))) (qG qM (qD 1) (qE (Dt.int 2))))))) (tseq (qY (qv (qB (qE (Dt.str "no")) qH))) qI) qI) (tseq (qY (qE Dt.non)) qI)))
abbrev qIQ:TSD:=(tseq (qAE (qG qM (qD 1) (qE (Dt.int 0))) (qU 3)) v1)
abbrev qFY:TSD:=(tseq (qY (qB2 (qN KR.qDD (qB (qD 1) qH)) (qN qKx (qB (qCm (qCl (qN K19.qCi (qB (qD 1) qH))) (fun x st P=>P true st) (qN KR.qB9 (qB (qD 0) (qB (qN qAW (qB (qD 1) qH)) qH))) [(0, "nodes")]) qH)))) qI)
abbrev tC:TSD:=(tseq (qi (qK (qG (qCA false) (qD 4) (qE Dt.non))) (tseq (qEi "NoTurning" (qB (qND (Str.ofString "the rule ") (qD 3) (Str.ofString " does not turn this node")) qH)) qI) qI) (tseq (qKH (qD 4)) qI))
abbrev tB:TSD:=(tseq (qAE (qG qM (qD 2) (qE (Dt.int 0))) (qU 3)) (tseq (qAE (qIe KR.qGb KR.keys (qD 3) (qB (qD 0) (qB (qD 1) (qB (qG qM (qD 2) (qE (Dt.int 1))) qH)))) (qU 4)) tC))
abbrev tA:TSD:=(tseq (qi (qBN (qCJ (qK (qN KR.qDG (qB (qD 2) (qB (qE (Dt.int 2)) qH))))) (qBN (qK (qBj true KR.keys (qG qM (qD 2) (qE (Dt.int 0))))) (qCJ (qK (qN KR.qB9 (qB (qG qM (qD 2) (qE (Dt.int 1))) (qB (qN qAW (qB (qD 0) qH)) qH))))))) (tseq (qEi "NoTurning" (qB (qE (Dt.str "no step of a known rule and a node of the table")) qH)) qI) qI) tB)
abbrev qHE:TSD:=(tseq (qi (qCJ (qK (qN KR.qDL (qB (qD 0) (qB (qD 1) qH))))) (tseq (qEi "NoTurning" (qB (qE (Dt.str "no node of the table is seen")) qH)) qI) qI) tA)
abbrev Ev (te:TD) (ρ:Rho) (st:Sto) (d:Dt):Prop:=∀ P:VD,P d st→te ρ st P
abbrev EvB (c:TBD) (ρ:Rho) (st:Sto) (b:Bool):Prop:=∀ P:Bool→Sto→Prop,P b st→c ρ st P
section
variable {E:qBH} {ρ:Rho} {st st':Sto} {A C N:TSD} {te ta tb:TD} {c c1 c2:TBD} {b b1 b2:Bool} {i j:Nat} {d:Dt}
theorem qC (h:ρ[i]? = some (some d)):Ev (qD i) ρ st d:=fun P hp=>by unfold qD;rw [h];exact hp
theorem qJ:Ev (qE d) ρ st d:=fun P hp=>hp
theorem qQ {xs:List Dt} (h:Ev te ρ st (.tup xs)) (e:xs[j]? = some d):Ev (qG qM te (qE (.int (j:Int)))) ρ st d:=fun P hp=>h _ (by
  show (match atI xs (j:Int) with | some d=>P d st | none=>False)
  rw [qEU e];exact hp)
theorem seq1 (h:A { E with nx:=N E } ρ st):tseq A N E ρ st:=h
theorem qz {te:TD} {i:Nat} (h:te ρ st fun d s1=>N E (ρ.set i (some d)) s1):tseq (qAE te (qU i)) N E ρ st:=h
theorem ifS (h1:EvB c ρ st b) (qt:b=true→A E ρ st) (qf:b=false→C E ρ st):qi c A C E ρ st:=by
  refine h1 _ ?_
  cases b with
  | true=>exact qBA (qt rfl)
  | false=>exact qBB (qf rfl)
theorem qT (h1:EvB c ρ st b) (qt:b=true→A { E with nx:=N E } ρ st) (qf:b=false→N E ρ st):tseq (qi c A qI) N E ρ st:=seq1 (ifS h1 qt qf)
theorem evb (h:Ev te ρ st (.bl b)):EvB (qK te) ρ st b:=fun P hp=>h _ hp
theorem qAe (h:EvB c ρ st b):EvB (qCJ c) ρ st (!b):=fun P hp=>h _ hp
theorem qe (h1:EvB c1 ρ st b1) (h2:b1=false→EvB c2 ρ st b2):EvB (qBN c1 c2) ρ st (b1 || b2):=fun P hp=>h1 _ (by
  cases b1 with
  | true=>exact qBA hp
  | false=>exact qBB (h2 rfl P hp))
theorem qS (h1:EvB c1 ρ st b1) (h2:b1=true→EvB c2 ρ st b2):EvB (qAD c1 c2) ρ st (b1&&b2):=fun P hp=>h1 _ (by
  cases b1 with
  | true=>exact qBA (h2 rfl P hp)
  | false=>exact qBB hp)
theorem qAK (h1:Ev ta ρ st (.bl b1)) (h2:b1=true→Ev tb ρ st (.bl b2)):Ev (qB2 ta tb) ρ st (.bl (b1&&b2)):=fun P hp=>h1 _ (by
  cases b1 with
  | true=>exact qBA (h2 rfl P hp)
  | false=>exact qBB hp)
theorem qCq {d1 d2:Dt} (h:EvB c ρ st b) (q1:b=true→Ev ta ρ st d1) (q2:b=false→Ev tb ρ st d2):Ev (qC1 c ta tb) ρ st (if b=true then d1 else d2):=fun P hp=>h _ (by
  cases b with
  | true=>exact qBA (q1 rfl P hp)
  | false=>exact qBB (q2 rfl P hp))
theorem qX {a s:Str} (h:Ev te ρ st (.str a)):Ev (qG (qW false) te (qE (.str s))) ρ st (.bl (a==s)):=fun P hp=>h _ ⟨rfl,rfl,by
  k_dat 0"r57"
  rw [e];exact hp⟩
theorem qKt {a s:Str} (h:Ev te ρ st (.str a)):Ev (qG (qW true) te (qE (.str s))) ρ st (.bl (!(a==s))):=fun P hp=>h _ ⟨rfl,rfl,by
  k_dat 0"r58"
  rw [e];exact hp⟩
theorem qER {a s:Str} (h:Ev ta ρ st (.str a)) (h2:Ev tb ρ st (.str s)):Ev (qG (qW true) ta tb) ρ st (.bl (!(a==s))):=fun P hp=>h _ (h2 _ ⟨rfl,rfl,by
  k_dat 0"r58"
  rw [e];exact hp⟩)
theorem qg {x y:Int} (h:Ev ta ρ st (.int x)) (h2:Ev tb ρ st (.int y)):Ev (qG (qW false) ta tb) ρ st (.bl (decide (x=y))):=fun P hp=>h _ (h2 _ ⟨rfl,rfl,by
  have e:(eqD 8 (.int x) (.int y) != false)=decide (x=y):=by show ((x==y) != false)=_;rw [Bool.bne_false];rfl
  rw [e];exact hp⟩)
theorem qk {w:Str}:∀ ss:List Str,(ss.map Dt.str).any (fun z=>eqD 0 z (.str w))=ss.contains w
  | []=>rfl
  | s :: r=>by
    rw [List.map_cons,List.any_cons,qk r,List.contains_cons]
    show (s==w || _)=_
    have:(s==w)=(w==s):=by
      by_cases q:s=w
      · subst q;rfl
      · k_dat 0"r37"
    rw [this]
theorem qAG (ss:List Str):(ss.map Dt.str).all (okD 0)=true:=by
  rw [List.all_eq_true]
  intro d hd
  obtain⟨s,_,rfl⟩:=List.mem_map.mp hd
  rfl
theorem qAR {neg:Bool} {w:Str} {ss:List Str} (h:Ev ta ρ st (.str w)) (h2:Ev tb ρ st (.tup (ss.map .str))):Ev (qG (qAd neg) ta tb) ρ st (.bl (ss.contains w != neg)):=fun P hp=>h _ (h2 _ (by
  refine⟨rfl,qAG ss,?_⟩
  rw [qk];exact hp))
theorem ql {sp:RDL} {t:TAD} {ds:List Dt} (h:∀ P:List Dt→Sto→Prop,P ds st→t ρ st P) (hs:∀ P:VD,P d st→sp ds st P):Ev (qN sp t) ρ st d:=fun P hp=>h _ (hs P hp)
theorem qL:∀ P:List Dt→Sto→Prop,P [] st→qH ρ st P:=fun P hp=>hp
theorem qF {t:TAD} {ds:List Dt} (h:Ev te ρ st d) (h2:∀ P:List Dt→Sto→Prop,P ds st→t ρ st P):∀ P:List Dt→Sto→Prop,P (d::ds) st→qB te t ρ st P:=fun P hp=>h _ (h2 _ hp)
theorem qR {t:TAD} {ds:List Dt} (h:∀ P:List Dt→Sto→Prop,P ds st→t ρ st P) (hl:ds.length≤sizeLine):Ev (qv t) ρ st (.tup ds):=fun P hp=>h _ ⟨hl,hp⟩
theorem qKS {l:List Dt} (h:Ev te ρ st (.tup l)):Ev (qN qBD (qB te (qB (qE (Dt.ty "tuple")) qH))) ρ st (.bl true):=fun P hp=>h _ ⟨by decide,hp⟩
theorem qu {l:List Dt} (h:Ev te ρ st (.tup l)):Ev (qN qAW (qB te qH)) ρ st (.int (l.length:Int)):=fun P hp=>h _ hp
theorem rdR (h:Ev te ρ st d) (hp:E.rt d st):tseq (qY te) N E ρ st:=h _ hp
theorem rdX (h:Ev te ρ st d) (hx:isX d=none) (hp:E.rt d st):tseq (qKH te) N E ρ st:=h _ ⟨hx,hp⟩
theorem qAH {x y:Int} (h:Ev ta ρ st (.int x)) (h2:Ev tb ρ st (.int y)):Ev (qG (qAN fun i j=>decide (j<i)) ta tb) ρ st (.bl (decide (y<x))):=fun P hp=>h _ (h2 _ hp)
theorem qAA {x y:Int} (h:Ev ta ρ st (.int x)) (h2:Ev tb ρ st (.int y)):Ev (qG L3.qB0 ta tb) ρ st (.int (x+y)):=fun P hp=>h _ (h2 _ hp)
theorem qAq {x y:Int} (h:Ev ta ρ st (.int x)) (h2:Ev tb ρ st (.int y)):Ev (qG L3.qGp ta tb) ρ st (.int (x - y)):=fun P hp=>h _ (h2 _ hp)
theorem qEN {neg:Bool} {keys:List Str} {w:Str} (h:Ev te ρ st (.str w)):Ev (qBj neg keys te) ρ st (.bl (keys.contains w != neg)):=fun P hp=>h _ ⟨w,rfl,hp⟩
theorem qIT {kvs:List (Str×Dt)} {w:Str} (h:Ev te ρ st (.str w)) (e:kvs.lookup w=some d):Ev (qDK kvs te) ρ st d:=fun P hp=>h _ ⟨w,d,rfl,e,hp⟩
theorem qq {l:List Dt} (h:Ev te ρ st d) (hs:qo st d=some l):Ev (qN qAW (qB te qH)) ρ st (.int (l.length:Int)):=fun P hp=>h _ (by
  cases d with
  | tup xs=>have:xs=l:=Option.some.inj hs;subst this;exact hp
  | lst n=>show (match qo st (.lst n) with | some xs=>_ | none=>_);rw [hs];exact hp
  | _=>cases hs)
theorem qh {l:List Dt} {d2:Dt} (h:Ev ta ρ st d) (hs:qo st d=some l) (h2:Ev tb ρ st (.int (i:Int))) (e:l[i]? = some d2):Ev (qG qM ta tb) ρ st d2:=fun P hp=>h _ (h2 _ (by
  cases d with
  | tup xs =>
    have:xs=l:=Option.some.inj hs
    subst this
    show (match atI xs (i:Int) with | some d=>P d st | none=>False)
    rw [qEU e];exact hp
  | lst n=>exact qIl hs (qEU e) hp
  | _=>cases hs))
end
theorem qa.at_ {st:Sto} {d:Dt} {ns:List Nd} {i:Nat} {x:Nd} (h:qa st d ns) (e:ns[i]? = some x):(ns.map nD)[i]? = some (nD x):=by rw [List.getElem?_map,e];rfl
theorem qa.ext {st st':Sto} {d:Dt} {ns:List Nd} (h:qa st d ns) (x:qj st st'):qa st' d ns:=by
  unfold qa at h ⊢
  cases d with
  | lst n =>
    have h':(st[n]?).map SO.items=some (ns.map nD):=h
    cases q:st[n]? with
    | none=>rw [q] at h';cases h'
    | some o =>
      rw [q] at h'
      show (st'[n]?).map SO.items=_
      rw [x n o q];exact h'
  | _=>exact h
theorem qGs {ds:List Dt} {st:Sto} {Pd:VD} (h:qEO ds st Pd):qEd (Ed Pd) (qd ["value"] ds) st:=by
  obtain⟨x,rfl,h⟩:=h
  rcases h with ⟨i,rfl,h⟩ | ⟨h1,h⟩
  · exact⟨by decide,qBA ⟨by decide,h⟩⟩
  · rcases h1 with ⟨b,rfl⟩ | rfl | ⟨s,rfl⟩ | ⟨l,rfl⟩
    · exact⟨by decide,qBA ⟨by decide,h⟩⟩
    · exact⟨by decide,qBB h⟩
    · exact⟨by decide,qBB h⟩
    · exact⟨by decide,qBB h⟩
theorem qG1 {ds:List Dt} {st:Sto} {Pd:VD} (h:qB9 ds st Pd):qEj (Ed Pd) (qd ["value", "bound"] ds) st:=by
  obtain⟨i,b,rfl,h⟩:=h
  refine⟨_,rfl,.inl ⟨i,rfl,qBA ?_⟩⟩
  show if decide (0≤i)=true then Pd (.bl (decide (i<b))) st else Pd (.bl false) st
  cases e:decide (0≤i) with
  | true=>rw [e] at h;exact qBA h
  | false=>rw [e] at h;exact qBB h
theorem qE8 {ds:List Dt} {st:Sto} {Pd:VD} (h:qDG ds st Pd):qCr (Ed Pd) (qd ["value", "many"] ds) st:=by
  obtain⟨l,b,rfl,h⟩:=h
  refine rdR (d:=.bl (true&&decide ((l.length:Int)=b))) ?_ (by rw [Bool.true_and];exact h)
  refine qAK (qKS (qC (i:=0) rfl)) fun _=>?_
  exact qg (qu (qC (i:=0) rfl)) (qC (i:=1) rfl)
theorem qH4 {ds:List Dt} {st:Sto} {Pd:VD} (h:qDD ds st Pd):qFp (Ed Pd) (qd ["node"] ds) st:=by
  obtain⟨w,xs,rfl,⟨hw,hl⟩,h⟩:=h
  have hv:qKD.lookup w=some (.int (qDP w:Int)):=by
    simp only [cntK,List.mem_cons,List.not_mem_nil,or_false] at hw
    rcases hw with rfl | rfl | rfl | rfl | rfl | rfl | rfl | rfl | rfl | rfl | rfl | rfl | rfl | rfl | rfl<;>rfl
  refine rdR (d:=.bl (true&&(decide ((0:Int)<((Dt.str w::xs.map Dt.int).length:Nat))&&((cntK.contains w != false)&&decide ((((Dt.str w::xs.map Dt.int).length:Nat):Int)=1+(qDP w:Int)))))) ?_ ?_
  · refine qAK (qKS (qC (i:=0) rfl)) fun _=>?_
    refine qAK (qAH (qu (qC (i:=0) rfl)) qJ) fun _=>?_
    refine qAK (qEN (qQ (j:=0) (qC (i:=0) rfl) rfl)) fun _=>?_
    exact qg (qu (qC (i:=0) rfl)) (qAA qJ (qIT (qQ (j:=0) (qC (i:=0) rfl) rfl) hv))
  · have e1:decide ((0:Int)<((Dt.str w::xs.map Dt.int).length:Nat))=true:=decide_eq_true (by rw [List.length_cons];omega)
    have e2:decide ((((Dt.str w::xs.map Dt.int).length:Nat):Int)=1+(qDP w:Int))=true:=decide_eq_true (by rw [List.length_cons,List.length_map,hl];omega)
    rw [e1,e2,show cntK.contains w=true from List.contains_iff_mem.mpr hw]
    exact h
end KR
namespace KR
open PySem PySem.Spec PyProof.Rows L2 L3 KH KS KW K20
noncomputable def wd:Nd→Str
  | .num _ => "num" | .box _ => "box" | .mark _ => "mark" | .item _ => "item" | .two w _ _=>nm w | .nought _ => "nought" | .high _ => "high" | .yes => "yes" | .no => "no"
noncomputable def ag:Nd→List Dt
  | .num n=>[.int n] | .box k=>[.int k] | .mark k=>[.int k] | .item i=>[.int i] | .two _ x y=>[.int x,.int y] | .nought x=>[.int x] | .high x=>[.int x] | .yes=>[] | .no=>[]
theorem qw (x:Nd):nD x = .tup (.str (wd x)::ag x):=by cases x<;>rfl
theorem qKd (x:Nd):(wd x == "num")=(qBC x).isSome:=by
  cases x with
  | two w _ _=>cases w<;>rfl
  | _=>rfl
theorem qJR {ds:List Dt} {st:Sto} {Pd:VD} (h:qAS ds st Pd):qHW (Ed Pd) (qd ["nodes", "number", "node"] ds) st:=by
  obtain⟨d,ns,i,x,rfl,hs,hx,hP⟩:=h
  refine qz (qh (qC (i:=0) rfl) hs (qC (i:=1) rfl) (hs.at_ hx) _ ?_)
  show tseq (qY _) qI (Ed Pd) [some d,some (.int (i:Nat)),some (nD x)] st
  have h0:Ev (qG qM (qD 2) (qE (Dt.int 0))) [some d,some (.int (i:Nat)),some (nD x)] st (.str (wd x)):=qQ (j:=0) (qC (i:=2) (by rw [qw];rfl)) rfl
  refine rdR (d:=oD (qBC x)) ?_ hP
  intro P hp
  refine qCq (b:=wd x == "num") (d1:=oD (qBC x)) (d2:=.non) (evb (qX h0)) (fun e=>?_) (fun _=>qJ) P ?_
  · rw [qKd] at e
    cases x with
    | num k=>exact qQ (j:=1) (qC (i:=2) rfl) rfl
    | _=>cases e
  · rw [qKd]
    cases x<;>exact hp
theorem qKe {ns:List Nd} {i:Nat} (h:i<ns.length):∃ x,ns[i]? = some x∧numAt ns i=qBC x:=⟨ns[i],List.getElem?_eq_getElem h,by unfold numAt;rw [List.getElem?_eq_getElem h]⟩
theorem qC5 {ρ:Rho} {st:Sto} {d:Dt} {ns:List Nd} {i:Nat} {ta tb:TD} (hs:qa st d ns) (hi:i<ns.length) (ha:Ev ta ρ st d) (hb:Ev tb ρ st (.int (i:Int))):Ev (qN KR.qAS (qB ta (qB tb qH))) ρ st (oD (numAt ns i)):=by
  obtain⟨x,e1,e2⟩:=qKe hi
  refine ql (qF ha (qF hb qL)) fun P hp=>⟨d,ns,i,x,rfl,hs,e1,?_⟩
  rw [e2] at hp;exact hp
theorem qAI {ρ:Rho} {st:Sto} {te:TD} {o:Option Int} (h:Ev te ρ st (oD o)):Ev (qG (qCA false) te (qE Dt.non)) ρ st (.bl o.isNone):=fun P hp=>h _ (by cases o<;>exact hp)
theorem qA7 {ρ:Rho} {st:Sto} {te:TD} {o:Option Int} {k:Int} (h:Ev te ρ st (oD o)):Ev (qG (qW false) te (qE (Dt.int k))) ρ st (.bl (decide (o=some k))):=fun P hp=>h _ (by
  cases o with
  | none=>exact⟨rfl,rfl,hp⟩
  | some a =>
    refine⟨rfl,rfl,?_⟩
    have e:(eqD 8 (.int a) (.int k) != false)=decide (some a=some k):=by
      rw [Bool.bne_false]
      show (a==k)=_
      by_cases q:a=k
      · subst q;simp
      · rw [beq_eq_false_iff_ne.mpr q,decide_eq_false (fun z=>q (Option.some.inj z))]
    show P (.bl (eqD 8 (.int a) (.int k) != false)) st
    rw [e];exact hp)
theorem qOg {ρ:Rho} {st:Sto} {ta tb:TD} {o:Option Int} {k:Int} (h:Ev ta ρ st (oD o)) (h2:Ev tb ρ st (.int k)):Ev (qG (qW true) ta tb) ρ st (.bl (!decide (o=some k))):=fun P hp=>h _ (h2 _ (by
  cases o with
  | none=>exact⟨rfl,rfl,hp⟩
  | some a =>
    refine⟨rfl,rfl,?_⟩
    have e:(eqD 8 (.int a) (.int k) != true) = !decide (some a=some k):=by
      rw [Bool.bne_true]
      show (!(a==k))=_
      by_cases q:a=k
      · subst q;simp
      · rw [beq_eq_false_iff_ne.mpr q,decide_eq_false (fun z=>q (Option.some.inj z))]
    show P (.bl (eqD 8 (.int a) (.int k) != true)) st
    rw [e];exact hp))
section
variable {st:Sto} {Pd:VD} {d:Dt} {ns:List Nd} {sd:Nd} {n:Nat}
theorem qL6 {w:Str} {l:List Dt} {o:Option Dt} (hc:(["add", "mul", "over", "wide"]:List Str).contains w=false) (hp:Pd .non st):qHh (Ed Pd) [some d,some (.tup (.str w::l)),o] st:=by
  refine rdR (d:=if ((["add", "mul", "over", "wide"]:List Str).contains w != false)=true then .non else .non) ?_ (by rw [hc];exact hp)
  k_dat 0"r59"
  rw [hc] at e;cases e
theorem qL2 {ds:List Dt} (h:spR .swap ds st Pd):qHh (Ed Pd) (qd ["nodes", "seen", "n"] ds) st:=by
  k_dat 0"r8"
  k_dat 0"r11"
  cases sd with
  | two w x y =>
    refine rdR (d:=if ((["add", "mul", "over", "wide"]:List Str).contains (nm w) != false)=true then .tup [.str (nm w),.int y,.int x] else .non) ?_ ?_
    · k_dat 0"r59"
      exact qR (qF (qQ (j:=0) (qC (i:=1) rfl) rfl) (qF (qQ (j:=2) (qC (i:=1) rfl) rfl) (qF (qQ (j:=1) (qC (i:=1) rfl) rfl) qL))) (by show 3≤sizeLine;decide)
    · cases w<;>exact hP
  | _=>exact qL6 (by decide +kernel) hP
theorem qCQ {w s:Str} {l:List Dt} {o:Option Dt} {c2:TBD} {ta:TD} (hc:(w==s)=false) (hp:Pd .non st):tseq (qY (qC1 (qAD (qK (qG (qW false) (qG qM (qD 1) (qE (Dt.int 0))) (qE (Dt.str s)))) c2) ta (qE Dt.non))) qI (Ed Pd) [some d,some (.tup (.str w::l)),o] st:=by
  refine rdR (d:=.non) ?_ hp
  intro P hp
  refine qCq (b:=(w==s)&&false) (d1:=.non) (d2:=.non) (qS (evb (qX (qQ (j:=0) (qC (i:=1) rfl) rfl))) (fun e=>?_)) (fun e=>?_) (fun _=>qJ) P ?_
  · rw [hc] at e;cases e
  · rw [hc] at e;cases e
  · rw [hc];exact hp
theorem qCL {w:Op2} {x y:Nat} {o:Option Dt} {j:Nat} {e:Dt} (h:[Dt.str (nm w),.int x,.int y][j]? = some e):Ev (qG qM (qD 1) (qE (Dt.int (j:Int)))) [some d,some (nD (.two w x y)),o] st e:=qQ (qC (i:=1) rfl) h
theorem qMM {ds:List Dt} (h:spR .zero ds st Pd):qKg (Ed Pd) (qd ["nodes", "seen", "n"] ds) st:=by
  k_dat 0"r8"
  k_dat 0"r11"
  cases sd with
  | two w x y =>
    cases w with
    | add =>
      refine rdR (d:=if (true&&decide (numAt ns y=some 0))=true then .int x else .non) ?_ ?_
      · exact qCq (qS (evb (qX (s:= "add") (a:= "add") (qCL (w:=.add) (j:=0) rfl))) fun _=>evb (qA7 (qC5 hs hi.2 (qC (i:=0) rfl) (qCL (w:=.add) (j:=2) rfl)))) (fun _=>qCL (w:=.add) (j:=1) rfl) (fun _=>qJ)
      · rw [Bool.true_and]
        have:orD (qP ns n .zero (.two .add x y))=if decide (numAt ns y=some 0)=true then .int x else .non:=by
          show orD (if numAt ns y=some 0 then some (.at_ x) else none)=_
          by_cases q:numAt ns y=some 0
          · rw [if_pos q,if_pos (decide_eq_true q)];rfl
          · k_dat 0"r38"
        rw [this] at hP;exact hP
    | _=>exact qCQ (by decide +kernel) hP
  | _=>exact qCQ (by decide +kernel) hP
theorem qNL {ds:List Dt} (h:spR .one ds st Pd):qMn (Ed Pd) (qd ["nodes", "seen", "n"] ds) st:=by
  k_dat 0"r8"
  k_dat 0"r11"
  cases sd with
  | two w x y =>
    cases w with
    | mul =>
      refine rdR (d:=if (true&&decide (numAt ns y=some 1))=true then .int x else .non) ?_ ?_
      · exact qCq (qS (evb (qX (s:= "mul") (a:= "mul") (qCL (w:=.mul) (j:=0) rfl))) fun _=>evb (qA7 (qC5 hs hi.2 (qC (i:=0) rfl) (qCL (w:=.mul) (j:=2) rfl)))) (fun _=>qCL (w:=.mul) (j:=1) rfl) (fun _=>qJ)
      · rw [Bool.true_and]
        have:orD (qP ns n .one (.two .mul x y))=if decide (numAt ns y=some 1)=true then .int x else .non:=by
          show orD (if numAt ns y=some 1 then some (.at_ x) else none)=_
          by_cases q:numAt ns y=some 1
          · rw [if_pos q,if_pos (decide_eq_true q)];rfl
          · k_dat 0"r38"
        rw [this] at hP;exact hP
    | _=>exact qCQ (by decide +kernel) hP
  | _=>exact qCQ (by decide +kernel) hP
theorem qN2 {ds:List Dt} (h:spR .nil ds st Pd):qMx (Ed Pd) (qd ["nodes", "seen", "n"] ds) st:=by
  k_dat 0"r8"
  k_dat 0"r11"
  cases sd with
  | two w x y =>
    cases w with
    | mul =>
      refine rdR (d:=if (true&&decide (numAt ns y=some 0))=true then .int y else .non) ?_ ?_
      · exact qCq (qS (evb (qX (s:= "mul") (a:= "mul") (qCL (w:=.mul) (j:=0) rfl))) fun _=>evb (qA7 (qC5 hs hi.2 (qC (i:=0) rfl) (qCL (w:=.mul) (j:=2) rfl)))) (fun _=>qCL (w:=.mul) (j:=2) rfl) (fun _=>qJ)
      · rw [Bool.true_and]
        have:orD (qP ns n .nil (.two .mul x y))=if decide (numAt ns y=some 0)=true then .int y else .non:=by
          show orD (if numAt ns y=some 0 then some (.at_ y) else none)=_
          by_cases q:numAt ns y=some 0
          · rw [if_pos q,if_pos (decide_eq_true q)];rfl
          · k_dat 0"r38"
        rw [this] at hP;exact hP
    | _=>exact qCQ (by decide +kernel) hP
  | _=>exact qCQ (by decide +kernel) hP
theorem qEa {ds:List Dt} (h:spR .self ds st Pd):qCo (Ed Pd) (qd ["nodes", "seen", "n"] ds) st:=by
  k_dat 0"r8"
  k_dat 0"r11"
  cases sd with
  | two w x y =>
    cases w with
    | sub =>
      refine rdR (d:=if (true&&decide ((x:Int)=(y:Int)))=true then .tup [.str "num",.int 0] else .non) ?_ ?_
      · exact qCq (qS (evb (qX (s:= "sub") (a:= "sub") (qCL (w:=.sub) (j:=0) rfl))) fun _=>evb (qg (qCL (w:=.sub) (j:=1) rfl) (qCL (w:=.sub) (j:=2) rfl))) (fun _=>qR (fun _ h=>h) (by show 2≤sizeLine;decide)) (fun _=>qJ)
      · rw [Bool.true_and]
        have:orD (qP ns n .self (.two .sub x y))=if decide ((x:Int)=(y:Int))=true then .tup [.str "num",.int 0] else .non:=by
          show orD (if x=y then some (.nd (.num 0)) else none)=_
          by_cases q:x=y
          · rw [if_pos q,if_pos (decide_eq_true (by rw [q]))];rfl
          · rw [if_neg q,if_neg (by rw [decide_eq_true_eq];omega)];rfl
        rw [this] at hP;exact hP
    | _=>exact qCQ (by decide +kernel) hP
  | _=>exact qCQ (by decide +kernel) hP
end
end KR
namespace KR
open PySem PySem.Spec PyProof.Rows L2 L3 KH KS KW K20
theorem qQR {items ys:List Dt} {ok:Sto→Prop} {te:TD} {cρ:Rho} {st:Sto} {Fin:List Dt→Sto→Prop} (hok:ok st) (hl:items.length≤1000) (hlen:ys.length=items.length)
    (h:∀ (i:Nat) d,items[i]? = some d→∃ y,ys[i]? = some y∧Ev te (some d::cρ) st y) (hF:Fin ys st):qG0 items ok (fun x st P=>P true st) te cρ st Fin:=by
  refine⟨fun i zs s=>zs=ys.take i∧s=st,⟨rfl,rfl⟩,fun _ _ _ _ q=>by rw [q.2];exact hok,?_,?_⟩
  · rintro i d zs s hd ⟨rfl,rfl⟩
    obtain⟨y,hy,ev⟩:=h i d hd
    have:=List.length_take_le' i ys
    refine⟨qAh (by omega),qBA (ev _ ⟨?_,rfl⟩)⟩
    rw [List.take_add_one,hy];rfl
  · rintro zs s ⟨rfl,rfl⟩
    rw [← hlen,List.take_length];exact hF
theorem qM4 {ρ:Rho} {st:Sto} {ti te:TD} {caps:List (Nat×Str)} {x:Dt} {items ys:List Dt} {P:VD} (hx:Ev ti ρ st x) (hs:qo st x=some items) (hl:items.length≤1000) (hlen:ys.length=items.length)
    (h:∀ (i:Nat) d,items[i]? = some d→∃ y,ys[i]? = some y∧Ev te (some d::qIB caps ρ) st y) (hP:P (.lst st.length) (st++[.rw ys])):qCm (qCl ti) (fun x st P=>P true st) te caps ρ st P:=by
  refine hx _ ?_
  show (match qo st x with | some xs=>_ | none=>_)
  rw [hs]
  exact qQR hs hl hlen h hP
theorem qQT {ρ:Rho} {st:Sto} {te:TD} {r:RDL} {P:VD} (h:te ρ st fun x st1=>r [x] st1 P):qN r (qB te qH) ρ st P:=h
theorem qHu {w:Op2} {x y:Nat}:K19.qBn (nm w) [.int x,.int y]=[.int x,.int y]:=by cases w<;>rfl
theorem qIo {st:Sto} {n:Nat} {os:List (Option Int)} {P:VD} (h:Has st n (os.map oD)) (hp:P (.bl (os.any (·.isNone))) st):qAd false .non (.lst n) st P:=by
  show (match qo st (.lst n) with | some xs=>_ | none=>_)
  rw [qAC h]
  have e:(os.map oD).any (fun z=>eqD 0 z .non)=os.any (·.isNone):=by
    rw [List.any_map]
    congr 1
    funext o
    cases o<;>rfl
  refine⟨rfl,?_,?_⟩
  · rw [List.all_eq_true]
    intro d hd
    obtain⟨o,_,rfl⟩:=List.mem_map.mp hd
    cases o<;>rfl
  · rw [e,Bool.bne_false];exact hp
theorem qDm {ds:List Dt} {st:Sto} {Pd:VD} (h:qDz ds st Pd):qA2 (Ed Pd) (qd ["nodes", "seen", "nums"] ds) st:=by
  obtain⟨d,ns,sd,rfl,hs,hn,hi,h⟩:=h
  have gen:∀ (w:Str) (is:List Nat),nD sd = .tup (.str w::is.map fun i=>Dt.int ((i:Nat):Int))→K19.qBn w (is.map fun i=>Dt.int ((i:Nat):Int))=is.map (fun i=>Dt.int ((i:Nat):Int))→(∀ i∈is,i<ns.length)→is.length≤2 →
      (∀ st1 n,qj st st1→Has st1 n ((is.map (numAt ns)).map oD)→qC1 (qK (qG (qAd false) (qE Dt.non) (qD 2))) (qE Dt.non) (qN K20.qDx (qB (qG qM (qD 1) (qE (Dt.int 0))) (qB (qD 2) qH))) [some d,some (nD sd),some (.lst n)] st1 Pd) →
      qA2 (Ed Pd) (qd ["nodes", "seen", "nums"] [d,nD sd]) st:=by
    intro w is e1 e2 hb hl hk
    refine qz ?_
    refine qM4 (x:=.tup (is.map fun i=>Dt.int ((i:Nat):Int))) (items:=is.map fun i=>Dt.int ((i:Nat):Int)) (ys:=(is.map (numAt ns)).map oD) ?_ rfl (by rw [List.length_map];omega) (by simp) ?_ ?_
    · refine ql (ds:=[nD sd]) (qF (qC (i:=1) rfl) qL) fun P hp=>?_
      rw [e1]
      exact⟨w,_,rfl,by rw [e2];exact hp⟩
    · intro i y hy
      rw [List.getElem?_map] at hy
      cases q:is[i]? with
      | none=>rw [q] at hy;cases hy
      | some j =>
        rw [q] at hy
        have:y = .int ((j:Nat):Int):=(Option.some.inj hy).symm
        subst this
        refine⟨oD (numAt ns j),by rw [List.getElem?_map,List.getElem?_map,q];rfl,?_⟩
        exact qC5 hs (hb j (List.mem_of_getElem? q)) (qC (i:=1) rfl) (qC (i:=0) rfl)
    · exact hk _ _ (.app _ _) ⟨_,qAZ,rfl⟩
  have e0:∀ (w:Str) (l:List Dt) (n:Nat) (st1:Sto),nD sd = .tup (.str w::l)→Ev (qG qM (qD 1) (qE (Dt.int 0))) [some d,some (nD sd),some (.lst n)] st1 (.str w):=fun w l n st1 e=>qQ (j:=0) (qC (i:=1) (by rw [e];rfl)) rfl
  have one:∀ (w:Str) (x:Nat),nD sd = .tup [.str w,.int ((x:Nat):Int)]→K19.qBn w [.int ((x:Nat):Int)]=[.int ((x:Nat):Int)]→x<ns.length →
      (∀ st',qj st st'→numAt ns x=none→Pd .non st')→(∀ st' n a,qj st st'→numAt ns x=some a→Has st' n [.int a]→K20.qDx [.str w,.lst n] st' Pd)→qA2 (Ed Pd) (qd ["nodes", "seen", "nums"] [d,nD sd]) st:=by
    intro w x e1 e2 hx q1 q2
    refine gen w [x] e1 e2 (by simpa using hx) (Nat.le_succ 1) fun st1 n x1 hh=>?_
    have hb:EvB (qK (qG (qAd false) (qE Dt.non) (qD 2))) [some d,some (nD sd),some (.lst n)] st1 _:=fun P hp=>qIo (P:=fun x st=>match x with | .bl k=>P k st | _=>False) hh hp
    refine hb _ ?_
    cases q:numAt ns x with
    | none=>rw [List.map_cons,List.map_nil,q];exact qBA (q1 st1 x1 q)
    | some a =>
      rw [List.map_cons,List.map_nil,q] at hh ⊢
      exact qBB (qF (e0 w _ n st1 e1) (qF (qC (i:=2) rfl) qL) _ (q2 st1 n a x1 q hh))
  rcases h with ⟨w,x,y,rfl,hP⟩ | ⟨x,rfl,hP⟩ | ⟨x,rfl,hP⟩
  · refine gen (nm w) [x,y] rfl qHu (by intro i h;simp only [List.mem_cons,List.not_mem_nil,or_false] at h;rcases h with rfl | rfl;exact hi.1;exact hi.2) (Nat.le_refl 2) fun st1 n x1 hh=>?_
    have hb:EvB (qK (qG (qAd false) (qE Dt.non) (qD 2))) [some d,some (nD (.two w x y)),some (.lst n)] st1 _:=fun P hp=>qIo (P:=fun x st=>match x with | .bl k=>P k st | _=>False) hh hp
    refine hb _ ?_
    have hP:=hP st1 x1
    simp only [List.map_cons,List.map_nil] at hh ⊢
    cases qx:numAt ns x with
    | none=>rw [qx] at hP;exact qBA hP
    | some a =>
      cases qy:numAt ns y with
      | none=>rw [qx,qy] at hP;exact qBA hP
      | some b =>
        rw [qx,qy] at hP hh
        refine qBB (qF (e0 (nm w) _ n st1 rfl) (qF (qC (i:=2) rfl) qL) _ ?_)
        obtain⟨a0,a1⟩:=qGK hn qx
        obtain⟨b0,b1⟩:=qGK hn qy
        exact⟨nm w,n,rfl,.inr (.inr (.inr ⟨w,a,b,rfl,hh,a0,a1,b0,b1,hP⟩))⟩
  · refine one "nought" x rfl rfl hi (fun st' x' q=>by have:=hP st' x';rw [q] at this;exact this) fun st' n a x' q hh=>?_
    have hP:=hP st' x'
    rw [q] at hP
    exact⟨"nought",n,rfl,.inr (.inr (.inl ⟨a,hh,.inl ⟨rfl,hP⟩⟩))⟩
  · refine one "high" x rfl rfl hi (fun st' x' q=>by have:=hP st' x';rw [q] at this;exact this) fun st' n a x' q hh=>?_
    have hP:=hP st' x'
    rw [q] at hP
    exact⟨"high",n,rfl,.inr (.inr (.inl ⟨a,hh,.inr ⟨rfl,hP⟩⟩))⟩
theorem qHq {ds:List Dt} {st:Sto} {Pd:VD} (h:qDL ds st Pd):qFY (Ed Pd) (qd ["nodes", "seen"] ds) st:=by
  obtain⟨d,ns,w,xs,rfl,hs,hf,hP⟩:=h
  show qB2 _ _ [some d,some (.tup (.str w::xs.map .int))] st Pd
  refine⟨w,xs,rfl,hf,qBA ?_⟩
  refine qQT ?_
  refine qM4 (x:=.tup (K19.qBn w (xs.map .int))) (items:=K19.qBn w (xs.map .int)) (ys:=((if K19.qCM.contains w=true then xs else []).map fun x=>decide (0≤x)&&decide (x<(ns.length:Int))).map .bl) ?_ rfl ?_ ?_ ?_ ?_
  · refine ql (ds:=[.tup (.str w::xs.map .int)]) (qF (qC (i:=1) rfl) qL) fun P hp=>⟨w,_,rfl,hp⟩
  · have:=hf.2
    unfold K19.qBn
    split
    · rw [List.length_map,this];have:qDP w≤2:=by unfold qDP;split;decide;split<;>decide
      omega
    · decide
  · unfold K19.qBn
    split<;>simp
  · intro i y hy
    unfold K19.qBn at hy
    split at hy
    · rename_i hc
      rw [List.getElem?_map] at hy
      cases q:xs[i]? with
      | none=>rw [q] at hy;cases hy
      | some x =>
        rw [q] at hy
        have:y = .int x:=(Option.some.inj hy).symm
        subst this
        refine⟨.bl (decide (0≤x)&&decide (x<(ns.length:Int))),by rw [if_pos hc,List.getElem?_map,List.getElem?_map,q];rfl,?_⟩
        refine ql (ds:=[.int x,.int (ns.length:Int)]) (qF (qC (i:=0) rfl) (qF (qq (qC (i:=1) rfl) hs) qL)) fun P hp=>⟨x,_,rfl,hp⟩
    · cases hy
  · show (match (st++[SO.rw _])[st.length]? with | some o=>_ | none=>_)
    rw [qAZ]
    refine⟨_,rfl,?_⟩
    have:=hP (st++[SO.rw (((if K19.qCM.contains w=true then xs else []).map fun x=>decide (0≤x)&&decide (x<(ns.length:Int))).map .bl)]) (.app _ _)
    unfold inR at this
    rw [List.all_map]
    exact this
end KR
namespace KR
open PySem PySem.Spec PyProof.Rows L2 L3 KH KS KW K20
theorem qAb {x:Nd} {w:Op2} (h:(wd x==nm w)=true):∃ s t,x = .two w s t:=by
  cases x with
  | two v s t =>
    have:v=w:=by
      revert h
      cases v<;>cases w<;>first | (intro _;rfl) | (intro h;exact Bool.noConfusion (show false=true from h))
    subst this
    exact⟨s,t,rfl⟩
  | _=>revert h;cases w<;>(intro h;exact Bool.noConfusion (show false=true from h))
theorem eq1 (s:Str) (p q:Int):eqD 8 (.tup [.str s,.int p]) (.tup [.str s,.int q])=decide (p=q):=by
  show (s==s&&((p==q)&&true))=_
  rw [beq_self_eq_true,Bool.true_and,Bool.and_true];rfl
open Classical in
theorem qJ1 (a b:Nd):eqD 8 (nD a) (nD b)=decide (a=b):=by
  cases a with
  | two v x y =>
    cases b with
    | two w x' y' =>
      show (nm v==nm w&&((((x:Nat):Int)==((x':Nat):Int))&&((((y:Nat):Int)==((y':Nat):Int))&&true)))=_
      by_cases q:Nd.two v x y=Nd.two w x' y'
      · cases q
        rw [decide_eq_true rfl]
        simp
      · rw [decide_eq_false q]
        by_cases q1:v=w
        · subst q1
          by_cases q2:x=x'
          · subst q2
            have q3:y≠y':=fun e=>q (by rw [e])
            have:(((y:Nat):Int)==((y':Nat):Int))=false:=beq_eq_false_iff_ne.mpr (by omega)
            rw [this];simp
          · have:(((x:Nat):Int)==((x':Nat):Int))=false:=beq_eq_false_iff_ne.mpr (by omega)
            rw [this];simp
        · have:(nm v==nm w)=false:=by
            revert q1
            cases v<;>cases w<;>first | (intro h;exact absurd rfl h) | (intro _;rfl)
          rw [this];rfl
    | _=>rw [decide_eq_false (fun z=>nomatch z)];cases v<;>rfl
  | _ =>
    cases b with
    | two w x' y'=>rw [decide_eq_false (fun z=>nomatch z)];cases w<;>rfl
    | _ =>
      first
        | (rw [decide_eq_false (fun z=>nomatch z)];rfl)
        | (rw [decide_eq_true rfl];rfl)
        | exact (eq1 _ _ _).trans (decide_eq_decide.mpr ⟨fun e=>by rw [e],fun e=>by cases e;rfl⟩)
        | (rename_i p q;exact (eq1 _ _ _).trans (decide_eq_decide.mpr ⟨fun e=>by have:p=q:=Int.ofNat.inj e;rw [this],fun e=>by cases e;rfl⟩))
open Classical in
theorem qJx {ρ:Rho} {st:Sto} {ta tb:TD} {a b:Nd} (h:Ev ta ρ st (nD a)) (h2:Ev tb ρ st (nD b)):Ev (qG (qW true) ta tb) ρ st (.bl (!decide (a=b))):=fun P hp=>h _ (h2 _ (by
  have ok:∀ x:Nd,okD 8 (nD x)=true:=fun x=>by cases x<;>rfl
  have e:∀ x:Nd,∃ l,nD x = .tup l:=fun x=>⟨_,qw x⟩
  obtain⟨l1,e1⟩:=e a
  obtain⟨l2,e2⟩:=e b
  have q:qW true (nD a) (nD b) st P=(okD 8 (nD a)=true∧okD 8 (nD b)=true∧P (.bl (eqD 8 (nD a) (nD b) != true)) st):=by rw [e1,e2];rfl
  rw [q]
  refine⟨ok a,ok b,?_⟩
  rw [qJ1,Bool.bne_true];exact hp))
section
variable {st:Sto} {Pd:VD} {d:Dt} {ns:List Nd} {sd:Nd} {n:Nat}
theorem qIq {w:Str} {l:List Dt} {o:Option Dt} {N:TSD} (hc:(["add", "mul"]:List Str).contains w=false) (hp:Pd .non st):tseq (qAE (qG qM (qD 1) (qE (Dt.int 0))) (qU 3)) (tseq (qi (qK (qG (qAd true) (qD 3) (qv (qB (qE (Dt.str "add")) (qB (qE (Dt.str "mul")) qH))))) (tseq (qY (qE Dt.non)) qI) qI) N) (Ed Pd) [some d,some (.tup (.str w::l)),o,none,none] st:=by
  k_dat 0"r25"
  refine qT (evb (qAR (ss:=["add", "mul"]) (qC (i:=3) rfl) (qR (fun _ h=>h) (by show 2≤sizeLine;decide)))) (fun _=>hp) (fun e=>?_)
  rw [show (["add", "mul"]:List Str).contains w=false from hc] at e;cases e
theorem qD5 {w:Op2}:(["add", "mul"]:List Str).contains (nm w)=qBl w:=by cases w<;>rfl
theorem qId {w:Op2}:(nm w==nm w)=true:=beq_self_eq_true _
theorem qHx {x y:Nat} {xn:Nd} {w:Op2} (hx:ns[x]? = some xn) (h:(wd xn==nm w)=false):qP ns n .group (.two w x y)=none:=by
  simp only [qP,hx]
  cases xn with
  | two v s t=>exact if_neg fun ⟨_,e,_⟩=>by subst e;rw [show (wd (Nd.two v s t)==nm v)=true from qId] at h;cases h
  | _=>rfl
theorem qF4 {x y:Nat} {yn:Nd} {w:Op2} (hx:ns[y]? = some yn) (h:(wd yn==nm w)=false):qP ns n .ungroup (.two w x y)=none:=by
  simp only [qP,hx]
  cases yn with
  | two v s t=>exact if_neg fun ⟨_,e,_⟩=>by subst e;rw [show (wd (Nd.two v s t)==nm v)=true from qId] at h;cases h
  | _=>rfl
open Classical in
theorem qKf {ds:List Dt} (h:spR .group ds st Pd):qIM (Ed Pd) (qd ["nodes", "seen", "n", "v", "x"] ds) st:=by
  k_dat 0"r8"
  k_dat 0"r11"
  cases sd with
  | two w x y =>
    cases hw:qBl w with
    | false =>
      refine qIq (by rw [qD5];exact hw) ?_
      have:qP ns n .group (.two w x y)=none:=by
        simp only [qP]
        split
        · exact if_neg fun h=>by rw [hw] at h;exact Bool.false_ne_true h.1
        · rfl
      rw [this] at hP;exact hP
    | true =>
      obtain⟨hx,hy⟩:=hi
      have ex:ns[x]? = some ns[x]:=List.getElem?_eq_getElem hx
      have en:ns[n]? = some ns[n]:=List.getElem?_eq_getElem hl
      k_dat 0"r25"
      k_dat 0"r60"
      · rw [qD5,hw] at e;cases e
      refine qz (qh (qC (i:=0) rfl) hs (qQ (j:=1) (qC (i:=1) rfl) rfl) (hs.at_ ex) _ ?_)
      generalize hxn:ns[x]=xn at ex
      have h4:Ev (qG qM (qD 4) (qE (Dt.int 0))) [some d,some (nD (.two w x y)),some (.int (n:Nat)),some (.str (nm w)),some (nD xn)] st (.str (wd xn)):=qQ (j:=0) (qC (i:=4) (by rw [qw xn];rfl)) rfl
      show tseq _ _ (Ed Pd) [some d,some (nD (.two w x y)),some (.int (n:Nat)),some (.str (nm w)),some (nD xn)] st
      cases c:(wd xn==nm w) with
      | false =>
        rw [qHx ex c] at hP
        k_dat 0"r61"
      | true =>
        obtain⟨s,u,rfl⟩:=qAb c
        have hr:qP ns n .group (.two w x y)=if ns[n] = .two w u y then some (.nd (.two w s n)) else none:=by
          simp only [qP,ex,en]
          by_cases q:ns[n] = .two w u y
          · rw [if_pos ⟨hw,trivial,by rw [q]⟩,if_pos q]
          · rw [if_neg (fun z=>q (Option.some.inj z.2.2)),if_neg q]
        rw [hr] at hP
        refine qT (b:=!decide (ns[n] = .two w u y)) (fun P hp=>qe (b2:=!decide (ns[n] = .two w u y)) (evb (qER h4 (qC (i:=3) rfl))) (fun _=>evb (qJx (qh (qC (i:=0) rfl) hs (qC (i:=2) rfl) (hs.at_ en)) ?_)) P (by rw [c];exact hp)) (fun e=>?_) (fun e=>?_)
        · exact qR (qF (qC (i:=3) rfl) (qF (qQ (j:=2) (qC (i:=4) rfl) rfl) (qF (qQ (j:=2) (qC (i:=1) rfl) rfl) qL))) (by show 3≤sizeLine;decide)
        · rw [if_neg (by simpa using e)] at hP;exact hP
        · rw [if_pos (by simpa using e)] at hP
          exact rdR (qR (qF (qC (i:=3) rfl) (qF (qQ (j:=1) (qC (i:=4) rfl) rfl) (qF (qC (i:=2) rfl) qL))) (by show 3≤sizeLine;decide)) hP
  | _=>exact qIq (by decide +kernel) hP
open Classical in
theorem qHk {ds:List Dt} (h:spR .ungroup ds st Pd):qFg (Ed Pd) (qd ["nodes", "seen", "n", "v", "y"] ds) st:=by
  k_dat 0"r8"
  k_dat 0"r11"
  cases sd with
  | two w x y =>
    cases hw:qBl w with
    | false =>
      refine qIq (by rw [qD5];exact hw) ?_
      have:qP ns n .ungroup (.two w x y)=none:=by
        simp only [qP]
        split
        · exact if_neg fun h=>by rw [hw] at h;exact Bool.false_ne_true h.1
        · rfl
      rw [this] at hP;exact hP
    | true =>
      obtain⟨hx,hy⟩:=hi
      have ey:ns[y]? = some ns[y]:=List.getElem?_eq_getElem hy
      have en:ns[n]? = some ns[n]:=List.getElem?_eq_getElem hl
      k_dat 0"r25"
      k_dat 0"r60"
      · rw [qD5,hw] at e;cases e
      refine qz (qh (qC (i:=0) rfl) hs (qQ (j:=2) (qC (i:=1) rfl) rfl) (hs.at_ ey) _ ?_)
      generalize hyn:ns[y]=yn at ey
      have h4:Ev (qG qM (qD 4) (qE (Dt.int 0))) [some d,some (nD (.two w x y)),some (.int (n:Nat)),some (.str (nm w)),some (nD yn)] st (.str (wd yn)):=qQ (j:=0) (qC (i:=4) (by rw [qw yn];rfl)) rfl
      show tseq _ _ (Ed Pd) [some d,some (nD (.two w x y)),some (.int (n:Nat)),some (.str (nm w)),some (nD yn)] st
      cases c:(wd yn==nm w) with
      | false =>
        rw [qF4 ey c] at hP
        k_dat 0"r61"
      | true =>
        obtain⟨s,u,rfl⟩:=qAb c
        have hr:qP ns n .ungroup (.two w x y)=if ns[n] = .two w x s then some (.nd (.two w n u)) else none:=by
          simp only [qP,ey,en]
          by_cases q:ns[n] = .two w x s
          · rw [if_pos ⟨hw,trivial,by rw [q]⟩,if_pos q]
          · rw [if_neg (fun z=>q (Option.some.inj z.2.2)),if_neg q]
        rw [hr] at hP
        refine qT (b:=!decide (ns[n] = .two w x s)) (fun P hp=>qe (b2:=!decide (ns[n] = .two w x s)) (evb (qER h4 (qC (i:=3) rfl))) (fun _=>evb (qJx (qh (qC (i:=0) rfl) hs (qC (i:=2) rfl) (hs.at_ en)) ?_)) P (by rw [c];exact hp)) (fun e=>?_) (fun e=>?_)
        · exact qR (qF (qC (i:=3) rfl) (qF (qQ (j:=1) (qC (i:=1) rfl) rfl) (qF (qQ (j:=1) (qC (i:=4) rfl) rfl) qL))) (by show 3≤sizeLine;decide)
        · rw [if_neg (by simpa using e)] at hP;exact hP
        · rw [if_pos (by simpa using e)] at hP
          exact rdR (qR (qF (qC (i:=3) rfl) (qF (qC (i:=2) rfl) (qF (qQ (j:=2) (qC (i:=4) rfl) rfl) qL))) (by show 3≤sizeLine;decide)) hP
  | _=>exact qIq (by decide +kernel) hP
end
end KR
namespace KR
open PySem PySem.Spec PyProof.Rows L2 L3 KH KS KW K20
section
variable {st:Sto} {Pd:VD} {d:Dt} {ns:List Nd} {sd:Nd} {n:Nat} {ρ:Rho}
theorem qV {ta tb:TD} {x y:Int} (h:Ev ta ρ st (.int x)) (h2:Ev tb ρ st (.int y)) (h0:0<y):Ev (qG qAP ta tb) ρ st (.int (x%y)):=fun P hp=>h _ (h2 _ ⟨h0,hp⟩)
theorem qNr {ta tb:TD} {o:Option Int} {is:List Int} (h:Ev ta ρ st (oD o)) (h2:Ev tb ρ st (.tup (is.map .int))):Ev (qG (qAd false) ta tb) ρ st (.bl (decide (∃ k∈is,o=some k))):=fun P hp=>h _ (h2 _ (by
  have e:(is.map Dt.int).any (fun z=>eqD 0 z (oD o))=decide (∃ k∈is,o=some k):=by
    rw [Bool.eq_iff_iff,List.any_eq_true,decide_eq_true_eq]
    constructor
    · rintro⟨z,hz,e⟩
      obtain⟨k,hk,rfl⟩:=List.mem_map.mp hz
      cases o with
      | none=>cases e
      | some a=>exact⟨k,hk,congrArg some (eq_of_beq (show (k==a)=true from e)).symm⟩
    · rintro⟨k,hk,rfl⟩
      exact⟨.int k,List.mem_map_of_mem hk,beq_self_eq_true k⟩
  have ok:(is.map Dt.int).all (okD 0)=true:=by
    rw [List.all_eq_true]
    intro z hz
    obtain⟨k,_,rfl⟩:=List.mem_map.mp hz
    rfl
  cases o with
  | none=>exact⟨rfl,ok,by rw [e,Bool.bne_false];exact hp⟩
  | some a=>exact⟨rfl,ok,by rw [e,Bool.bne_false];exact hp⟩))
theorem qJ5 {w:Str} {l:List Dt} {o:Option Dt} {N:TSD} (hc:(w == "sub")=false) (hp:Pd .non st):tseq (qi (qK (qG (qW true) (qG qM (qD 1) (qE (Dt.int 0))) (qE (Dt.str "sub")))) (tseq (qY (qE Dt.non)) qI) qI) N (Ed Pd) [some d,some (.tup (.str w::l)),o,none] st :=
  qT (evb (qKt (qQ (j:=0) (qC (i:=1) rfl) rfl))) (fun _=>hp) (fun e=>by rw [show (w==Str.ofString "sub")=false from hc] at e;cases e)
theorem qJV {ds:List Dt} (h:spR .subnum ds st Pd):qG2 (Ed Pd) (qd ["nodes", "seen", "n", "k"] ds) st:=by
  k_dat 0"r8"
  k_dat 0"r11"
  cases sd with
  | two w x y =>
    cases w with
    | sub =>
      refine qT (b:=false) (evb (qKt (a:= "sub") (qQ (j:=0) (qC (i:=1) rfl) rfl))) (fun e=>nomatch e) (fun _=>?_)
      refine qz (qC5 hs hi.2 (qC (i:=0) rfl) (qQ (j:=2) (qC (i:=1) rfl) rfl) _ ?_)
      show tseq _ _ (Ed Pd) [some d,some (nD (.two .sub x y)),some (.int (n:Nat)),some (oD (numAt ns y))] st
      cases q:numAt ns y with
      | none =>
        have:qP ns n .subnum (.two .sub x y)=none:=by simp only [qP,q]
        rw [this] at hP
        exact qT (b:=true) (fun P hp=>qe (b2:=true) (evb (qAI (o:=none) (qC (i:=3) rfl))) (fun e=>nomatch e) P hp) (fun _=>hP) (fun e=>nomatch e)
      | some k =>
        have hr:qP ns n .subnum (.two .sub x y)=if numAt ns n=some ((0 - k)%65536) then some (.nd (.two .add x n)) else none:=by
          simp only [qP,q]
        rw [hr] at hP
        refine qT (b:=!decide (numAt ns n=some ((0 - k)%65536))) (fun P hp=>qe (b1:=false) (evb (qAI (o:=some k) (qC (i:=3) rfl))) (fun _=>evb (qOg (qC5 hs hl (qC (i:=0) rfl) (qC (i:=2) rfl)) (qV (qAq qJ (qC (i:=3) rfl)) qJ (by decide)))) P hp) (fun e=>?_) (fun e=>?_)
        · rw [if_neg (by simpa using e)] at hP;exact hP
        · rw [if_pos (by simpa using e)] at hP
          exact rdR (qR (qF qJ (qF (qQ (j:=1) (qC (i:=1) rfl) rfl) (qF (qC (i:=2) rfl) qL))) (by show 3≤sizeLine;decide)) hP
    | _=>exact qJ5 (by decide +kernel) hP
  | _=>exact qJ5 (by decide +kernel) hP
theorem qEA {w:Op2}:(["add", "sub", "mul"]:List Str).contains (nm w)=qAt w:=by cases w<;>rfl
theorem qM1 {w:Str} {l:List Dt} {o:Option Dt} {N:TSD} (hc:(["add", "sub", "mul"]:List Str).contains w=false) (hp:Pd .non st):tseq (qi (qK (qG (qAd true) (qG qM (qD 1) (qE (Dt.int 0))) (qv (qB (qE (Dt.str "add")) (qB (qE (Dt.str "sub")) (qB (qE (Dt.str "mul")) qH)))))) (tseq (qY (qE Dt.non)) qI) qI) N (Ed Pd) [some d,some (.tup (.str w::l)),o,none] st :=
  qT (evb (qAR (ss:=["add", "sub", "mul"]) (qQ (j:=0) (qC (i:=1) rfl) rfl) (qR (fun _ h=>h) (by show 3≤sizeLine;decide)))) (fun _=>hp) (fun e=>by rw [hc] at e;cases e)
theorem qRB {w:Op2} (h:qAt w=true) (a b:Int):∃ v,two w a b = .n v:=by cases w<;>first | exact⟨_,rfl⟩ | cases h
theorem qQq {w:Op2} (h:qAt w=false) (a b:Int):∃ v,two w a b = .b v:=by cases w<;>first | exact⟨_,rfl⟩ | cases h
theorem qJ2 {ds:List Dt} (h:spR .count ds st Pd):qIP (Ed Pd) (qd ["nodes", "seen", "n", "found"] ds) st:=by
  k_dat 0"r8"
  cases sd with
  | two w x y =>
    cases hw:qAt w with
    | false =>
      have:qP ns n .count (.two w x y)=none:=by simp only [qP,hw];rfl
      rw [this] at hP
      exact qM1 (by rw [qEA];exact hw) (hP st (.refl _))
    | true =>
      refine qT (evb (qAR (ss:=["add", "sub", "mul"]) (qQ (j:=0) (qC (i:=1) rfl) rfl) (qR (fun _ h=>h) (by show 3≤sizeLine;decide)))) (fun e=>by rw [qEA,hw] at e;cases e) (fun _=>?_)
      k_dat 0"r62"
      have hP:=hP st1 x1
      have none':(qP ns n .count (.two w x y)=none)→tseq (qY (qC1 (qK (qG (qCA false) (qD 3) (qE Dt.non))) (qE Dt.non) (qv (qB (qE (Dt.str "num")) (qB (qD 3) qH))))) qI (Ed Pd) [some d,some (nD (.two w x y)),some (.int (n:Nat)),some .non] st1:=fun e=>by rw [e] at hP;exact hP
      cases qx:numAt ns x with
      | none=>exact none' (by simp only [qP,hw,qx];rfl)
      | some a =>
        cases qy:numAt ns y with
        | none=>exact none' (by simp only [qP,hw,qx,qy];rfl)
        | some b =>
          obtain⟨v,ev⟩:=qRB hw a b
          have:qP ns n .count (.two w x y)=some (.nd (.num v)):=by simp only [qP,hw,qx,qy,ev];rfl
          rw [this] at hP
          show tseq _ _ (Ed Pd) [some d,some (nD (.two w x y)),some (.int (n:Nat)),some (vD (two w a b))] st1
          rw [ev]
          exact rdR (d:=.tup [.str "num",.int v]) (fun P hp=>qCq (b:=false) (d1:=.non) (d2:=.tup [.str "num",.int v]) (evb (qAI (o:=some v) (qC (i:=3) rfl))) (fun e=>nomatch e) (fun _=>qR (qF qJ (qF (qC (i:=3) rfl) qL)) (by show 2≤sizeLine;decide)) P hp) hP
  | _=>exact qM1 (by decide +kernel) (hP st (.refl _))
theorem qNF {w:Op2}:(["nought", "high", "over", "under", "wide", "rest"]:List Str).contains (nm w) = !qAt w:=by cases w<;>rfl
theorem qMp {w:Str} {l:List Dt} {o:Option Dt} {N:TSD} (hc:(["nought", "high", "over", "under", "wide", "rest"]:List Str).contains w=false) (hp:Pd .non st):tseq (qi (qK (qG (qAd true) (qG qM (qD 1) (qE (Dt.int 0))) (qv (qB (qE (Dt.str "nought")) (qB (qE (Dt.str "high")) (qB (qE (Dt.str "over")) (qB (qE (Dt.str "under")) (qB (qE (Dt.str "wide")) (qB (qE (Dt.str "rest")) qH))))))))) (tseq (qY (qE Dt.non)) qI) qI) N (Ed Pd) [some d,some (.tup (.str w::l)),o,none] st :=
  qT (evb (qAR (ss:=["nought", "high", "over", "under", "wide", "rest"]) (qQ (j:=0) (qC (i:=1) rfl) rfl) (qR (fun _ h=>h) (by show 6≤sizeLine;decide)))) (fun _=>hp) (fun e=>by rw [hc] at e;cases e)
theorem qLF {w:Str} {l:List Dt} {o:Option Dt} {N:TSD} (hc:(["nought", "high", "over", "under", "wide", "rest"]:List Str).contains w=true) (hp:N (Ed Pd) [some d,some (.tup (.str w::l)),o,none] st):tseq (qi (qK (qG (qAd true) (qG qM (qD 1) (qE (Dt.int 0))) (qv (qB (qE (Dt.str "nought")) (qB (qE (Dt.str "high")) (qB (qE (Dt.str "over")) (qB (qE (Dt.str "under")) (qB (qE (Dt.str "wide")) (qB (qE (Dt.str "rest")) qH))))))))) (tseq (qY (qE Dt.non)) qI) qI) N (Ed Pd) [some d,some (.tup (.str w::l)),o,none] st :=
  qT (evb (qAR (ss:=["nought", "high", "over", "under", "wide", "rest"]) (qQ (j:=0) (qC (i:=1) rfl) rfl) (qR (fun _ h=>h) (by show 6≤sizeLine;decide)))) (fun e=>by rw [hc] at e;cases e) (fun _=>hp)
noncomputable def obD:Option Bool→Dt
  | some b=>.bl b
  | none=>.non
noncomputable def obN:Option Bool→Dt
  | some b=>nD (yn b)
  | none=>.non
theorem qBZ {ρ1:Rho} {o:Option Bool} {P:VD} (h3:ρ1[3]? = some (some (obD o))) (hp:P (obN o) st):qGt (Ed P) ρ1 st:=by
  have hv:Ev (qD 3) ρ1 st (obD o):=qC h3
  cases o with
  | none=>exact qT (b:=true) (evb fun Q hq=>hv _ hq) (fun _=>hp) (fun e=>nomatch e)
  | some b =>
    refine qT (b:=false) (evb fun Q hq=>hv _ hq) (fun e=>nomatch e) (fun _=>?_)
    refine rdR (d:=if b=true then .tup [.str "yes"] else .tup [.str "no"]) (qCq (evb hv) (fun _=>qR (fun _ h=>h) (by show 1≤sizeLine;decide)) (fun _=>qR (fun _ h=>h) (by show 1≤sizeLine;decide))) ?_
    cases b<;>exact hp
theorem qL7 {ds:List Dt} (h:spR .sure ds st Pd):qKN (Ed Pd) (qd ["nodes", "seen", "n", "found"] ds) st:=by
  k_dat 0"r8"
  cases sd with
  | two w x y =>
    cases hw:qAt w with
    | true =>
      have:qP ns n .sure (.two w x y)=none:=by simp only [qP,hw];rfl
      rw [this] at hP
      exact qMp (by rw [qNF,hw];rfl) (hP st (.refl _))
    | false =>
      refine qLF (by rw [qNF,hw];rfl) ?_
      k_dat 0"r62"
      have hP:=hP st1 x1
      show qGt (Ed Pd) [some d,some (nD (.two w x y)),some (.int (n:Nat)),some (match numAt ns x,numAt ns y with | some a,some b=>vD (two w a b) | _,_=>.non)] st1
      cases qx:numAt ns x with
      | none =>
        have:qP ns n .sure (.two w x y)=none:=by simp only [qP,hw,qx];rfl
        rw [this] at hP
        exact qBZ (o:=none) rfl hP
      | some a =>
        cases qy:numAt ns y with
        | none =>
          have:qP ns n .sure (.two w x y)=none:=by simp only [qP,hw,qx,qy];rfl
          rw [this] at hP
          exact qBZ (o:=none) rfl hP
        | some b =>
          obtain⟨v,ev⟩:=qQq hw a b
          have:qP ns n .sure (.two w x y)=some (.nd (yn v)):=by simp only [qP,hw,qx,qy,ev];rfl
          rw [this] at hP
          simp only [ev]
          exact qBZ (o:=some v) rfl hP
  | nought x =>
    refine qLF (by decide +kernel) ?_
    refine qz (qF (qC (i:=0) rfl) (qF (qC (i:=1) rfl) qL) _ ⟨d,ns,.nought x,rfl,hs,hn,hi,.inr (.inl ⟨x,rfl,fun st1 x1=>?_⟩)⟩)
    have hP:=hP st1 x1
    show qGt (Ed Pd) [some d,some (nD (.nought x)),some (.int (n:Nat)),some (match numAt ns x with | some a=>.bl (decide (a=0)) | _=>.non)] st1
    cases qx:numAt ns x with
    | none =>
      have:qP ns n .sure (.nought x)=none:=by simp only [qP,qx]
      rw [this] at hP
      exact qBZ (o:=none) rfl hP
    | some a =>
      have:qP ns n .sure (.nought x)=some (.nd (yn (decide (a=0)))):=by simp only [qP,qx]
      rw [this] at hP
      exact qBZ (o:=some (decide (a=0))) rfl hP
  | high x =>
    refine qLF (by decide +kernel) ?_
    refine qz (qF (qC (i:=0) rfl) (qF (qC (i:=1) rfl) qL) _ ⟨d,ns,.high x,rfl,hs,hn,hi,.inr (.inr ⟨x,rfl,fun st1 x1=>?_⟩)⟩)
    have hP:=hP st1 x1
    show qGt (Ed Pd) [some d,some (nD (.high x)),some (.int (n:Nat)),some (match numAt ns x with | some a=>.bl (decide (32768≤a)) | _=>.non)] st1
    cases qx:numAt ns x with
    | none =>
      have:qP ns n .sure (.high x)=none:=by simp only [qP,qx]
      rw [this] at hP
      exact qBZ (o:=none) rfl hP
    | some a =>
      have:qP ns n .sure (.high x)=some (.nd (yn (decide (32768≤a)))):=by simp only [qP,qx]
      rw [this] at hP
      exact qBZ (o:=some (decide (32768≤a))) rfl hP
  | _=>exact qMp (by decide +kernel) (hP st (.refl _))
end
end KR
namespace KR
open PySem PySem.Spec PyProof.Rows L2 L3 KH KS KW K20
section
variable {st:Sto} {Pd:VD} {d:Dt} {ns:List Nd} {sd:Nd} {n:Nat} {ρ:Rho}
theorem ne_in {w:Op2}:qIx.contains (nm w) = !qAt w:=by cases w<;>rfl
theorem qRC {w:Op2} (h:qAt w=false):qJI.lookup (nm w)=some (.tup ((qBf w).map .int)):=by cases w<;>first | rfl | cases h
theorem qQ2 {w:Op2}:(nm w == "under")=true↔w = .under:=by
  constructor
  · cases w<;>first | (intro _;rfl) | (intro h;exact Bool.noConfusion (show false=true from h))
  · rintro rfl;rfl
theorem qKb {w:Str} {l:List Dt} {o:Option Dt} {N:TSD} (hc:qIx.contains w=false) (hp:Pd .non st):tseq (qAE (qG qM (qD 1) (qE (Dt.int 0))) (qU 3)) (tseq (qi (qK (qBj true KR.qIx (qD 3))) (tseq (qY (qE Dt.non)) qI) qI) N) (Ed Pd) [some d,some (.tup (.str w::l)),o,none] st:=by
  k_dat 0"r25"
  exact qT (evb (qEN (qC (i:=3) rfl))) (fun _=>hp) (fun e=>by rw [hc] at e;cases e)
theorem qJ0 {ds:List Dt} (h:spR .never ds st Pd):qIQ (Ed Pd) (qd ["nodes", "seen", "n", "word"] ds) st:=by
  k_dat 0"r8"
  k_dat 0"r11"
  cases sd with
  | two w x y =>
    cases hw:qAt w with
    | true =>
      have:qP ns n .never (.two w x y)=none:=by simp only [qP,hw];rfl
      rw [this] at hP
      exact qKb (by rw [ne_in,hw];rfl) hP
    | false =>
      k_dat 0"r25"
      refine qT (evb (qEN (qC (i:=3) rfl))) (fun e=>by rw [ne_in,hw] at e;cases e) (fun _=>?_)
      have hb:EvB (qBN (qK (qG (qAd false) (qN KR.qAS (qB (qD 0) (qB (qG qM (qD 1) (qE (Dt.int 2))) qH))) (qDK KR.qJI (qD 3)))) (qAD (qK (qG (qW false) (qD 3) (qE (Dt.str "under")))) (qK (qG (qW false) (qG qM (qD 1) (qE (Dt.int 1))) (qG qM (qD 1) (qE (Dt.int 2))))))) [some d,some (nD (.two w x y)),some (.int (n:Nat)),some (.str (nm w))] st
          (decide (∃ k∈qBf w,numAt ns y=some k) || ((nm w == "under")&&decide ((x:Int)=(y:Int)))) :=
        qe (evb (qNr (qC5 hs hi.2 (qC (i:=0) rfl) (qQ (j:=2) (qC (i:=1) rfl) rfl)) (qIT (qC (i:=3) rfl) (qRC hw)))) fun _=>qS (evb (qX (qC (i:=3) rfl))) fun _=>evb (qg (qQ (j:=1) (qC (i:=1) rfl) rfl) (qQ (j:=2) (qC (i:=1) rfl) rfl))
      have hr:orD (qP ns n .never (.two w x y))=if (decide (∃ k∈qBf w,numAt ns y=some k) || ((nm w == "under")&&decide ((x:Int)=(y:Int))))=true then .tup [.str "no"] else .non:=by
        simp only [qP,hw]
        have key:((∃ k∈qBf w,numAt ns y=some k)∨(w = .under∧x=y))↔(decide (∃ k∈qBf w,numAt ns y=some k) || ((nm w == "under")&&decide ((x:Int)=(y:Int))))=true:=by
          rw [Bool.or_eq_true,Bool.and_eq_true,qQ2,decide_eq_true_eq,decide_eq_true_eq]
          constructor
          · rintro (h | ⟨h1,h2⟩)
            · exact .inl h
            · exact .inr ⟨h1,by omega⟩
          · rintro (h | ⟨h1,h2⟩)
            · exact .inl h
            · exact .inr ⟨h1,by omega⟩
        rw [if_neg Bool.false_ne_true]
        by_cases q:(∃ k∈qBf w,numAt ns y=some k)∨(w = .under∧x=y)
        · rw [if_pos q,if_pos (key.mp q)];rfl
        · rw [if_neg q,if_neg (fun z=>q (key.mpr z))];rfl
      rw [hr] at hP
      refine qT hb (fun e=>?_) (fun e=>?_)
      · rw [if_pos e] at hP
        exact rdR (qR (fun _ h=>h) (by show 1≤sizeLine;decide)) hP
      · rw [if_neg (by rw [e];exact Bool.false_ne_true)] at hP
        exact hP
  | _=>exact qKb (by decide +kernel) hP
end
theorem qKJ {E:qBH} {ρ:Rho} {st:Sto} {N:TSD} {s:Str} (h:E.rt (.ty "NoTurning") st):tseq (qEi "NoTurning" (qB (qE (Dt.str s)) qH)) N E ρ st:=⟨by show 1≤sizeLine;decide,h⟩
theorem qJG {ds:List Dt} {st:Sto} {Pd:VD} (h:qCZ ds st Pd):qHE (Ed Pd) (qd ["nodes", "seen", "step", "rule", "found"] ds) st:=by
  obtain⟨d,ns,w,xs,rule,n,rfl,hs,hn,hf,h1,h2⟩:=h
  show tseq _ tA (Ed Pd) [some d,some (.tup (.str w::xs.map .int)),some (.tup [.str rule,.int n]),none,none] st
  refine seq1 ?_
  refine⟨d,ns.map nD,w,xs,rfl,hs,hf,fun st1 x1=>?_⟩
  show if (!inR (ns.map nD).length w xs)=true then _ else _
  rw [List.length_map]
  cases hr:inR ns.length w xs with
  | false=>exact qBA (qKJ (h1 (.inl hr) st1 x1))
  | true =>
    refine qBB ?_
    have hs1:=hs.ext x1
    show tA (Ed Pd) [some d,some (.tup (.str w::xs.map .int)),some (.tup [.str rule,.int n]),none,none] st1
    have hb:EvB (qBN (qCJ (qK (qN KR.qDG (qB (qD 2) (qB (qE (Dt.int 2)) qH))))) (qBN (qK (qBj true KR.keys (qG qM (qD 2) (qE (Dt.int 0))))) (qCJ (qK (qN KR.qB9 (qB (qG qM (qD 2) (qE (Dt.int 1))) (qB (qN qAW (qB (qD 0) qH)) qH))))))) [some d,some (.tup (.str w::xs.map .int)),some (.tup [.str rule,.int n]),none,none] st1
        (!decide ((([Dt.str rule,.int n]:List Dt).length:Int)=2) || ((keys.contains rule != true) || !(decide (0≤n)&&decide (n<((ns.map nD).length:Int))))) :=
      qe (qAe (evb (ql (qF (qC (i:=2) rfl) (qF qJ qL)) fun P hp=>⟨_,2,rfl,hp⟩))) fun _=>qe (evb (qEN (qQ (j:=0) (qC (i:=2) rfl) rfl))) fun _=>qAe (evb (ql (qF (qQ (j:=1) (qC (i:=2) rfl) rfl) (qF (qq (qC (i:=0) rfl) hs1) qL)) fun P hp=>⟨n,_,rfl,hp⟩))
    refine qT hb (fun e=>?_) (fun e=>?_)
    · refine qKJ (h1 ?_ st1 x1)
      right
      by_cases k:rule∈keys
      · right
        rw [List.length_map] at e
        simp only [show keys.contains rule=true from List.contains_iff_mem.mpr k] at e
        by_cases n0:n<0
        · exact .inl n0
        · right
          by_cases n1:n<(ns.length:Int)
          · rw [decide_eq_true (show 0≤n by omega),decide_eq_true n1] at e;cases e
          · omega
      · exact .inl k
    · have k:rule∈keys:=by
        by_cases k:rule∈keys
        · exact k
        · rw [show keys.contains rule=false by rw [← Bool.not_eq_true,List.contains_iff_mem];exact k] at e;cases e
      obtain⟨r,rfl⟩:=qDC k
      have hn0:0≤n∧n<(ns.length:Int):=by
        rw [List.length_map,show keys.contains (rn r)=true from List.contains_iff_mem.mpr k] at e
        have e':(!(decide (0≤n)&&decide (n<(ns.length:Int))))=false:=e
        rw [Bool.not_eq_false',Bool.and_eq_true,decide_eq_true_eq,decide_eq_true_eq] at e'
        exact e'
      k_dat 0"r39"
      have hm:m<ns.length:=by omega
      obtain⟨sd,esd,hin,hP⟩:=h2 hr r m rfl rfl hm
      show tB (Ed Pd) [some d,some (.tup (.str w::xs.map .int)),some (.tup [.str (rn r),.int (m:Nat)]),none,none] st1
      refine qz (qQ (j:=0) (qC (i:=2) rfl) rfl _ ?_)
      refine qz ?_
      refine qC (i:=3) rfl _ ⟨rn r,rfl,k,?_⟩
      refine qF (qC (i:=0) rfl) (qF (qC (i:=1) rfl) (qF (qQ (j:=1) (qC (i:=2) rfl) rfl) qL)) _ ?_
      rw [esd]
      refine⟨r,rfl,d,ns,sd,m,rfl,hs1,hn,hin,hm,fun st2 x2=>?_⟩
      have hP:=hP st2 (x1.trans x2)
      show tC (Ed Pd) [some d,some _,some (.tup [.str (rn r),.int (m:Nat)]),some (.str (rn r)),some (orD (qP ns m r sd))] st2
      cases q:qP ns m r sd with
      | none =>
        rw [q] at hP
        refine qT (b:=true) (evb (qAI (o:=none) (qC (i:=4) rfl))) (fun _=>?_) (fun e=>nomatch e)
        refine seq1 ?_
        refine⟨rn r,.inl rfl,?_,fun z=>⟨by show 1≤sizeLine;decide,hP⟩⟩
        have:=qOM r
        exact Nat.le_trans (show _ ≤ 43 by show (Str.ofString "the rule ").length+(rn r).length+(Str.ofString " does not turn this node").length≤43;have h1:(Str.ofString "the rule ").length=9:=by decide
                                           have h2:(Str.ofString " does not turn this node").length=24:=by decide
                                           omega) (by decide)
      | some z =>
        rw [q] at hP
        refine qT (b:=false) (evb fun Q hq=>qC (i:=4) rfl _ ?_) (fun e=>nomatch e) (fun _=>?_)
        · cases z with
          | nd x=>show qCA false (qAn (.nd x)) .non st2 _;rw [show qAn (.nd x) = .tup (.str (wd x)::ag x) from qw x];exact hq
          | at_ i=>exact hq
        · refine rdX (qC (i:=4) rfl) ?_ hP
          cases z with
          | nd x=>show isX (nD x)=none;rw [qw];rfl
          | at_ i=>rfl
end KR
namespace K31
open PySem L2 L3 KH KW K20 KR
theorem at2 {m:Nat} {a:List Nd} {ss:List Nat} (h:OkT m a ss):∀ {i:Nat} {nd:Nd},a[i]? = some nd→∃ s,ss[i]? = some s∧OkN (ss.take i) m nd s:=by
  induction h with
  | nil=>intro i nd hi;simp at hi
  | @snoc a ss x s h o ih =>
    intro i nd hi
    have hl:=h.len
    rcases qJS hi with ⟨h1,h2⟩ | ⟨rfl,rfl⟩
    · obtain⟨s',e1,e2⟩:=ih h2
      refine⟨s',?_,?_⟩
      · rw [List.getElem?_append_left (by omega)];exact e1
      · rw [List.take_append_of_le_length (by omega)];exact e2
    · refine⟨s,?_,?_⟩
      · rw [hl];simp
      · rw [hl];simpa using o
theorem qCb {ss:List Nat} {i x s:Nat} (h:(ss.take i)[x]? = some s):ss[x]? = some s∧x<i:=by
  have hx:=(List.getElem?_eq_some_iff.mp h).1
  have:=List.length_take_le i ss
  have hi:x<i:=by omega
  rw [List.getElem?_take_of_lt hi] at h
  exact⟨h,hi⟩
theorem qAL {ss:List Nat} {m i:Nat} {nd:Nd} {s:Nat} (o:OkN (ss.take i) m nd s):OkN ss m nd s:=by
  cases nd with
  | two w x y=>exact⟨(qCb o.1).1,(qCb o.2.1).1,o.2.2⟩
  | nought x=>exact⟨(qCb o.1).1,o.2⟩
  | high x=>exact⟨(qCb o.1).1,o.2⟩
  | _=>exact o
end K31
namespace K31
open PySem PySem.Spec PyProof.Rows L2 L3 KH KS KW K20
open KR (Ev EvB qC qJ qQ seq1 qz qT ifS evb qAR qR qF qL rdR qX qg qk qAG qa rn Rl InT Res qAn orD qP Nums wd ag qw qh ql qq qAA qAH qV)
def qAm (st:Sto) (k e c:Nat):Prop:=∃ (a:Nat) (o:SO) (xs:List Int),st[k]? = some (.rw [.lst e,.int (a:Nat)])∧e≠k∧st[e]? = some o∧o.items=xs.map .int∧xs.length≤63∧a≤c
def KD (k:Nat) (st st':Sto):Prop:=∀ i o,i≠k→st[i]? = some o→st'[i]? = some o
theorem KD.trans {k:Nat} {a b c:Sto} (h:KD k a b) (h':KD k b c):KD k a c:=fun i o n q=>h' i o n (h i o n q)
theorem KD.of {k:Nat} {a b:Sto} (h:qj a b):KD k a b:=fun i o _ q=>h i o q
theorem KD.ext {k:Nat} {a b c:Sto} (h:KD k a b) (h':qj b c):KD k a c:=h.trans (.of h')
theorem qAm.ext {st st':Sto} {k e c:Nat} (h:qAm st k e c) (x:qj st st'):qAm st' k e c:=by
  obtain⟨a,o,xs,h1,h2,h3,r⟩:=h
  exact⟨a,o,xs,x _ _ h1,h2,x _ _ h3,r⟩
theorem qAm.mono {st:Sto} {k e c c':Nat} (h:qAm st k e c) (l:c≤c'):qAm st k e c':=by
  obtain⟨a,o,xs,h1,h2,h3,h4,h5,h6⟩:=h
  exact⟨a,o,xs,h1,h2,h3,h4,h5,Nat.le_trans h6 l⟩
def qA5:RDL:=fun ds st P=>∃ k e c:Nat,ds=[.lst k]∧qAm st k e c∧c<1000000∧∀ (v:Int) st',KD k st st'→qAm st' k e (c+1)→P (.int v) st'
def qQp (p:Op2→Prop):RDL:=fun ds st P=>∃ (w:Str) (x y:Int),ds=[.str w,.int x,.int y]∧0≤x∧x<65536∧0≤y∧y<65536∧((w = "nought" ∧ ∀ st',qj st st'→P (.bl (decide (x=0))) st')∨(w = "high" ∧ ∀ st',qj st st'→P (.bl (decide (32768≤x))) st')∨∃ o,p o∧w=nm o∧∀ st',qj st st'→P (vD (two o x y)) st')
def qCd:RDL:=qQp fun o=>KR.qAt o=false
abbrev EvX (te:TD) (ρ:Rho) (st:Sto) (d:Dt):Prop:=∀ P:VD,(∀ st',qj st st'→P d st')→te ρ st P
abbrev qBL (c:TBD) (ρ:Rho) (st:Sto) (b:Bool):Prop:=∀ P:Bool→Sto→Prop,(∀ st',qj st st'→P b st')→c ρ st P
section
variable {E:qBH} {ρ:Rho} {st st':Sto} {A C N:TSD} {te ta tb:TD} {c c1 c2:TBD} {b b1 b2:Bool} {i j:Nat} {d:Dt}
theorem qAy (h:Ev te ρ st d):EvX te ρ st d:=fun P hp=>h P (hp st (.refl _))
theorem qAU (h:EvB c ρ st b):qBL c ρ st b:=fun P hp=>h P (hp st (.refl _))
theorem xb (h:EvX te ρ st (.bl b)):qBL (qK te) ρ st b:=fun P hp=>h _ hp
theorem qBO (h1:qBL c1 ρ st b1) (h2:b1=false→∀ st',qj st st'→qBL c2 ρ st' b2):qBL (qBN c1 c2) ρ st (b1 || b2):=fun P hp=>h1 _ fun st1 x1=>by
  cases b1 with
  | true=>exact qBA (hp st1 x1)
  | false=>exact qBB (h2 rfl st1 x1 P fun st2 x2=>hp st2 (x1.trans x2))
theorem qAJ (h1:qBL c1 ρ st b1) (h2:b1=true→∀ st',qj st st'→qBL c2 ρ st' b2):qBL (qAD c1 c2) ρ st (b1&&b2):=fun P hp=>h1 _ fun st1 x1=>by
  cases b1 with
  | true=>exact qBA (h2 rfl st1 x1 P fun st2 x2=>hp st2 (x1.trans x2))
  | false=>exact qBB (hp st1 x1)
theorem xIf (h1:qBL c ρ st b) (qt:b=true→∀ st',qj st st'→A { E with nx:=N E } ρ st') (qf:b=false→∀ st',qj st st'→N E ρ st'):tseq (qi c A qI) N E ρ st:=by
  refine seq1 (h1 _ fun st1 x1=>?_)
  cases b with
  | true=>exact qBA (qt rfl st1 x1)
  | false=>exact qBB (qf rfl st1 x1)
theorem qA6 {x y:Int} (h:Ev ta ρ st (.int x)) (h2:Ev tb ρ st (.int y)):Ev (qG (qAN fun i j=>decide (i<j)) ta tb) ρ st (.bl (decide (x<y))):=fun P hp=>h _ (h2 _ hp)
theorem qAO {neg:Bool} {w:Str} {ss:List Str} {t:TAD} (h:Ev ta ρ st (.str w)) (h2:∀ P:List Dt→Sto→Prop,P (ss.map .str) st→t ρ st P) (hl:ss.length≤1000):EvX (qG (qAd neg) ta (qAQ t)) ρ st (.bl (ss.contains w != neg)):=fun P hp=>h _ (h2 _ ⟨by rw [List.length_map];exact Nat.le_of_lt (qAh hl),by
  k_dat 0"r63"
  k_dat 0"r64"
  refine⟨rfl,qAG ss,?_⟩
  rw [qk];exact hp _ (.app _ _)⟩)
theorem qAs {t:TAD} {ds:List Dt} {v:Int} (h:∀ P:List Dt→Sto→Prop,P ds st→t ρ st P) (hl:ds.length≤1000) (h2:∀ st',qj st st'→EvX tb ρ st' (.int v)) (e:atI ds v=some d):EvX (qG qM (qAQ t) tb) ρ st d:=fun P hp=>h _ ⟨Nat.le_of_lt (qAh hl),h2 _ (.app _ _) _ fun st1 x1=>qLA (x1 _ _ qAZ) e (hp st1 ((qj.app _ _).trans x1))⟩
end
abbrev n3:TSD:=(tseq (qi (qK (qG (qAN fun i j=>decide (i<j)) (qD 2) (qN qAW (qB (qD 1) qH)))) (tseq (qY (qG qM (qD 1) (qD 2))) qI) qI) (tseq (qi (qK (qG (qW false) (qN qAW (qB (qD 1) qH)) (qE (Dt.int 0)))) (tseq (qY (qG L3.qB0 (qG qDy (qG qDy (qD 2) (qD 2)) (qE (Dt.int 3))) (qD 2))) qI) qI) (tseq (qAE (qG qAP (qG qDy (qG L3.qB0 (qG L3.qB0 (qG qAP (qG qM (qD 1) (qG qAP (qD 2) (qN qAW (qB (qD 1) qH)))) (qE (Dt.int 2147483629))) (qG qDy (qD 2) (qE (Dt.int 7919)))) (qE (Dt.int 5))) (qE (Dt.int 50021))) (qE (Dt.int 2147483587))) (qU 3)) (tseq (qY (qG qAP (qG qDy (qD 3) (qD 3)) (qE (Dt.int 2147483563)))) qI))))
abbrev qD9:TSD:=(tseq (qAE (qG qM (qD 0) (qE (Dt.int 0))) (qU 1)) (tseq (qAE (qG qM (qD 0) (qE (Dt.int 1))) (qU 2)) (tseq (qAE (qG L3.qB0 (qD 2) (qE (Dt.int 1))) (qPt (qD 0) (qE (Dt.int 1)))) n3)))
abbrev tr1:TSD:=(tseq (qi (qBN (qK (qG (qW false) (qD 0) (qE (Dt.str "over")))) (qK (qG (qW false) (qD 0) (qE (Dt.str "wide"))))) (tseq (qY (qG qM (qAQ (qB (qG (qAN fun i j=>decide (j<i)) (qG L3.qB0 (qD 1) (qD 2)) (qE (Dt.int 65535))) (qB (qG (qAN fun i j=>decide (j<i)) (qG qDy (qD 1) (qD 2)) (qE (Dt.int 65535))) qH))) (qN qD1 (qB (qG (qW false) (qD 0) (qE (Dt.str "wide"))) qH)))) qI) qI) (tseq (qi (qK (qG (qW false) (qD 0) (qE (Dt.str "under")))) (tseq (qY (qG (qAN fun i j=>decide (i<j)) (qD 1) (qD 2))) qI) qI) (tseq (qY (qB2 (qG (qAN fun i j=>decide (j<i)) (qD 2) (qE (Dt.int 0))) (qG (qAN fun i j=>decide (j<i)) (qG qAP (qD 1) (qD 2)) (qE (Dt.int 0))))) qI)))
abbrev qCF:TSD:=(tseq (qi (qBN (qK (qG (qW false) (qD 0) (qE (Dt.str "nought")))) (qK (qG (qW false) (qD 0) (qE (Dt.str "high"))))) (tseq (qY (qG qM (qAQ (qB (qG (qW false) (qD 1) (qE (Dt.int 0))) (qB (qG (qAN fun i j=>decide (j<i)) (qD 1) (qE (Dt.int 32767))) qH))) (qN qD1 (qB (qG (qW false) (qD 0) (qE (Dt.str "high"))) qH)))) qI) qI) tr1)
theorem qF6 {ds:List Dt} {st:Sto} {Pd:VD} (h:qA5 ds st Pd):qD9 (Ed Pd) (qd ["deck", "cells", "at", "mixed"] ds) st:=by
  obtain⟨k,e,c,rfl,⟨a,o,xs,h1,h2,h3,h4,h5,h6⟩,hc,hP⟩:=h
  refine qz (qh (i:=0) (qC (i:=0) rfl) (show qo st (.lst k)=some [.lst e,.int (a:Nat)] from qAC ⟨_,h1,rfl⟩) qJ rfl _ ?_)
  refine qz (qh (i:=1) (qC (i:=0) rfl) (show qo st (.lst k)=some [.lst e,.int (a:Nat)] from qAC ⟨_,h1,rfl⟩) qJ rfl _ ?_)
  show (match st[k]? with | some (.rw xs)=>(match ixN xs.length 1 with | some j=>_ | none=>_) | _=>_)
  rw [h1]
  show n3 (Ed Pd) [some (.lst k),some (.lst e),some (.int (a:Nat)),none] (st.set k (.rw [.lst e,.int ((a:Nat)+1)]))
  generalize hs:st.set k (.rw [.lst e,.int ((a:Nat)+1)])=s1
  have g1:s1[k]? = some (.rw [.lst e,.int ((a+1:Nat):Int)]):=by
    rw [← hs,List.getElem?_set_self (List.getElem?_eq_some_iff.mp h1).1];rfl
  have g2:KD k st s1:=fun i o' n q=>by rw [← hs,List.getElem?_set_ne (Ne.symm n)];exact q
  have g3:=g2 e o h2 h3
  have dk:qAm s1 k e (c+1):=⟨a+1,o,xs,g1,h2,g3,h4,h5,by omega⟩
  have hq:∀ v:Int,Pd (.int v) s1:=fun v=>hP v s1 g2 dk
  have hseq:qo s1 (.lst e)=some (xs.map .int):=qAC ⟨o,g3,h4⟩
  have hl:Ev (qN qAW (qB (qD 1) qH)) [some (.lst k),some (.lst e),some (.int (a:Nat)),none] s1 (.int (xs.length:Int)):=by
    have:=qq (te:=qD 1) (ρ:=[some (.lst k),some (.lst e),some (.int (a:Nat)),none]) (qC (i:=1) rfl) hseq
    k_dat 0"r12"
    exact this
  have at_:∀ j:Nat,j<xs.length→∃ v:Int,(xs.map Dt.int)[j]? = some (.int v):=fun j hj=>⟨xs[j],by rw [List.getElem?_map,List.getElem?_eq_getElem hj];rfl⟩
  refine qT (b:=decide ((a:Int)<(xs.length:Int))) (evb (qA6 (qC (i:=2) rfl) hl)) (fun z=>?_) (fun z=>?_)
  · obtain⟨v,ev⟩:=at_ a (by have:=of_decide_eq_true z;omega)
    exact rdR (qh (qC (i:=1) rfl) hseq (qC (i:=2) rfl) ev) (hq v)
  refine qT (b:=decide ((xs.length:Int)=0)) (evb (qg hl qJ)) (fun z=>?_) (fun z=>?_)
  · refine⟨.inl ⟨by omega,by omega⟩,.inr ⟨by decide,by decide⟩,hq _⟩
  · have x0:0<xs.length:=by have:=of_decide_eq_false z;omega
    obtain⟨v,ev⟩:=at_ (a%xs.length) (Nat.mod_lt _ x0)
    refine qz ?_
    have hm:Ev (qG qAP (qD 2) (qN qAW (qB (qD 1) qH))) [some (.lst k),some (.lst e),some (.int (a:Nat)),none] s1 (.int ((a%xs.length:Nat):Int)):=fun P hp=>by
      exact qV (qC (i:=2) rfl) hl (by omega) P hp
    refine qh (qC (i:=1) rfl) hseq hm ev _ ⟨by decide,.inr ⟨by decide,by decide⟩,.inr ⟨by decide,by decide⟩,by decide,?_⟩
    generalize ((v%2147483629+(a:Int) * 7919+5) * 50021)=z1
    have m0:0≤z1%2147483587:=Int.emod_nonneg _ (by decide)
    have m1:z1%2147483587<2147483587:=Int.emod_lt_of_pos _ (by decide)
    exact⟨.inl ⟨by omega,by omega⟩,by decide,hq _⟩
end K31
namespace K18
open PySem PySem.Spec PyProof.Rows L2 L3 KH KS KW K20
end K18
namespace K31
open PySem PySem.Spec PyProof.Rows L2 L3 KH KS KW K20
open KR (Ev EvB qC qJ qQ seq1 qz qT ifS evb qAR qR qF qL rdR qX qg qk qAG qa rn Rl InT Res qAn orD qP Nums wd ag qw qh ql qq qAA qAH qV qe qAK)
section
variable {E:qBH} {ρ:Rho} {st st':Sto} {A C N:TSD} {te ta tb:TD} {c c1 c2:TBD} {b b1 b2:Bool} {i j:Nat} {d:Dt}
theorem qGM (h:Ev te ρ st (.bl b)):Ev (qN qD1 (qB te qH)) ρ st (.int (if b=true then 1 else 0)):=fun P hp=>h _ (by cases b<;>exact hp)
theorem qAv {x y:Int} (h:Ev ta ρ st (.int x)) (h2:Ev tb ρ st (.int y)) (hc:qHJ x y):Ev (qG qDy ta tb) ρ st (.int (x * y)):=fun P hp=>h _ (h2 _ ⟨hc,hp⟩)
theorem qBu (h:EvX te ρ st d) (hp:∀ st',qj st st'→E.rt d st'):tseq (qY te) N E ρ st:=h _ hp
end
theorem qE9 {ds:List Dt} {st:Sto} {Pd:VD} (h:qCd ds st Pd):qCF (Ed Pd) (qd ["word", "x", "y"] ds) st:=by
  obtain⟨w,x,y,rfl,x0,x1,y0,y1,h⟩:=h
  have cm:qHJ x y:=qGQ x0 (by omega)
  have eqW:∀ (s:Str) (st:Sto),Ev (qG (qW false) (qD 0) (qE (.str s))) [some (.str w),some (.int x),some (.int y)] st (.bl (w==s)):=fun s st=>qX (qC (i:=0) rfl)
  show tseq _ _ (Ed Pd) [some (.str w),some (.int x),some (.int y)] st
  have one:(w == "nought" || w == "high")=true→(∀ st',qj st st'→Pd (if (w == "high")=true then .bl (decide (32767<x)) else .bl (decide (x=0))) st')→qCF (Ed Pd) [some (.str w),some (.int x),some (.int y)] st:=fun e q=>by
    refine qT (b:=w == "nought" || w == "high") (qe (evb (eqW _ _)) fun _=>evb (eqW _ _)) (fun _=>?_) (fun z=>by rw [e] at z;cases z)
    refine qBu (d:=if (w == "high")=true then .bl (decide (32767<x)) else .bl (decide (x=0))) ?_ q
    refine qAs (ds:=[.bl (decide (x=0)),.bl (decide (32767<x))]) (v:=if (w == "high")=true then 1 else 0) (qF (qg (qC (i:=1) rfl) qJ) (qF (qAH (qC (i:=1) rfl) qJ) qL)) (by show 2≤1000;decide) (fun st1 _=>qAy (qGM (eqW _ _))) ?_
    cases (w == "high")<;>rfl
  rcases h with ⟨rfl,h⟩ | ⟨rfl,h⟩ | ⟨o,ho,rfl,h⟩
  · exact one rfl h
  · refine one rfl fun st' x'=>?_
    have:=h st' x'
    rw [show decide (32768≤x)=decide (32767<x) from decide_eq_decide.mpr (by omega)] at this
    exact this
  · have n1:(nm o == "nought" || nm o == "high")=false:=by cases o<;>rfl
    refine qT (b:=nm o == "nought" || nm o == "high") (qe (evb (eqW _ _)) fun _=>evb (eqW _ _)) (fun z=>by rw [n1] at z;cases z) (fun _=>?_)
    show tr1 (Ed Pd) [some (.str (nm o)),some (.int x),some (.int y)] st
    have two':(nm o == "over" || nm o == "wide")=true→(∀ st',qj st st'→Pd (if (nm o == "wide")=true then .bl (decide (65535<x * y)) else .bl (decide (65535<x+y))) st')→tr1 (Ed Pd) [some (.str (nm o)),some (.int x),some (.int y)] st:=fun e q=>by
      refine qT (b:=nm o == "over" || nm o == "wide") (qe (evb (eqW _ _)) fun _=>evb (eqW _ _)) (fun _=>?_) (fun z=>by rw [e] at z;cases z)
      refine qBu (d:=if (nm o == "wide")=true then .bl (decide (65535<x * y)) else .bl (decide (65535<x+y))) ?_ q
      refine qAs (ds:=[.bl (decide (65535<x+y)),.bl (decide (65535<x * y))]) (v:=if (nm o == "wide")=true then 1 else 0) (qF (qAH (qAA (qC (i:=1) rfl) (qC (i:=2) rfl)) qJ) (qF (qAH (qAv (qC (i:=1) rfl) (qC (i:=2) rfl) cm) qJ) qL)) (by show 2≤1000;decide) (fun st1 _=>qAy (qGM (eqW _ _))) ?_
      cases (nm o == "wide")<;>rfl
    cases o with
    | over =>
      refine two' rfl fun st' x'=>?_
      have:=h st' x'
      rw [show two .over x y = .b (decide (65535<x+y)) from congrArg Vl.b (decide_eq_decide.mpr (by omega))] at this
      exact this
    | wide =>
      refine two' rfl fun st' x'=>?_
      have:=h st' x'
      rw [show two .wide x y = .b (decide (65535<x * y)) from congrArg Vl.b (decide_eq_decide.mpr (by omega))] at this
      exact this
    | under =>
      k_dat 0"r65"
      refine qT (b:=true) (evb (eqW _ _)) (fun _=>?_) (fun z=>nomatch z)
      exact rdR (qA6 (qC (i:=1) rfl) (qC (i:=2) rfl)) (h st (.refl _))
    | rest =>
      k_dat 0"r65"
      refine qT (b:=false) (evb (eqW _ _)) (fun z=>nomatch z) (fun _=>?_)
      refine rdR (d:=.bl (decide (0<y)&&decide (0<x%y))) (qAK (qAH (qC (i:=2) rfl) qJ) fun z=>qAH (qV (qC (i:=1) rfl) (qC (i:=2) rfl) (of_decide_eq_true z)) qJ) ?_
      have:=h st (.refl _)
      have e:two .rest x y = .b (decide (0<y)&&decide (0<x%y)):=by
        show Vl.b (decide (y≠0)&&decide (x%y≠0))=_
        rw [show decide (y≠0)=decide (0<y) from decide_eq_decide.mpr (by omega)]
        by_cases hy:0<y
        · rw [show decide (x%y≠0)=decide (0<x%y) from decide_eq_decide.mpr (by have:=Int.emod_nonneg x (show y≠0 by omega);omega)]
        · rw [decide_eq_false hy];rfl
      rw [e] at this
      exact this
    | _=>cases ho
end K31
namespace K31
open PySem PySem.Spec PyProof.Rows L2 L3 KH KS KW K20
open KR (Ev EvB qC qJ qQ seq1 qz qT ifS evb qAR qR qF qL rdR qX qg qk qAG qa rn Rl InT Res qAn orD qP Nums wd ag qw qh ql qq qAA qAH qV qe qAK)
end K31
namespace K31
open PySem PySem.Spec PyProof.Rows L2 L3 KH KS KW K20
open KR (Ev EvB qC qJ qQ seq1 qz qT ifS evb qAR qR qF qL rdR qX qg qk qAG qa rn Rl InT Res qAn orD qP Nums wd ag qw qh ql qq qAA qAH qV qe qAK)
def qEm:RDL:=fun ds st P=>∃ (k e c:Nat) (d:Dt) (ns:List Nd) (ss:List Nat),ds=[.lst k,d,.int 3]∧d≠.lst k∧qa st d ns∧OkT 3 ns ss∧ns.length≤300∧qAm st k e c∧c<900000∧∀ nd s st',OkN ss 3 nd s→KD k st st'→qAm st' k e (c+1)→P (nD nd) st'
theorem qa.kd {k:Nat} {st st':Sto} {d:Dt} {ns:List Nd} (h:qa st d ns) (hk:d≠.lst k) (x:KD k st st'):qa st' d ns:=by
  unfold KR.qa at h ⊢
  cases d with
  | lst n =>
    have h':(st[n]?).map SO.items=some (ns.map nD):=h
    cases q:st[n]? with
    | none=>rw [q] at h';cases h'
    | some o =>
      rw [q] at h'
      show (st'[n]?).map SO.items=_
      rw [x n o (fun e=>hk (by rw [e])) q];exact h'
  | _=>exact h
abbrev mb:TSD:=(tseq (qi (qK (qG (qAd false) (qD 6) (qAQ (qB (qE (Dt.str "nought")) (qB (qE (Dt.str "high")) qH))))) (tseq (qY (qv (qB (qD 6) (qB (qD 7) qH)))) qI) qI) (tseq (qY (qv (qB (qD 6) (qB (qD 7) (qB (qD 8) qH))))) qI))
abbrev m9:TSD:=(tseq (qAE (qG qM (qD 5) (qG qAP (qD 4) (qN qAW (qB (qD 5) qH)))) (qU 7)) (tseq (qAE (qG qM (qD 5) (qG qAP (qG qB7 (qD 4) (qN qAW (qB (qD 5) qH))) (qN qAW (qB (qD 5) qH)))) (qU 8)) mb))
abbrev m5:TSD:=(tseq (qi (qAD (qK (qG (qW false) (qD 6) (qE (Dt.str "item")))) (qK (qG (qAN fun i j=>decide (j<i)) (qD 2) (qE (Dt.int 0))))) (tseq (qY (qv (qB (qE (Dt.str "item")) (qB (qG qAP (qD 4) (qD 2)) qH)))) qI) qI) (tseq (qi (qK (qG (qAd false) (qD 6) (qAQ (qB (qE (Dt.str "yes")) (qB (qE (Dt.str "no")) qH))))) (tseq (qY (qv (qB (qD 6) qH))) qI) qI) (tseq (qi (qBN (qK (qG (qW false) (qD 6) (qE (Dt.str "box")))) (qK (qG (qW false) (qD 6) (qE (Dt.str "mark"))))) (tseq (qY (qv (qB (qD 6) (qB (qG qAP (qD 4) (qG qM (qAQ (qB (qE (Dt.int 8)) (qB (qE (Dt.int 3)) qH))) (qN qD1 (qB (qG (qW false) (qD 6) (qE (Dt.str "mark"))) qH)))) qH)))) qI) qI) (tseq (qi (qBN (qK (qG (qW false) (qD 6) (qE (Dt.str "num")))) (qBN (qK (qG (qW false) (qD 6) (qE (Dt.str "item")))) (qK (qG (qW false) (qN qAW (qB (qD 5) qH)) (qE (Dt.int 0)))))) (tseq (qY (qv (qB (qE (Dt.str "num")) (qB (qG qM (qAQ (qB (qE (Dt.int 0)) (qB (qE (Dt.int 1)) (qB (qE (Dt.int 2)) (qB (qG qAP (qG qB7 (qD 4) (qE (Dt.int 9))) (qE (Dt.int 65536))) (qB (qE (Dt.int 65535)) (qB (qE (Dt.int 32768)) (qB (qE (Dt.int 65534)) (qB (qE (Dt.int 256)) (qB (qE (Dt.int 0)) qH)))))))))) (qG qAP (qD 4) (qE (Dt.int 9)))) qH)))) qI) qI) m9))))
abbrev m3:TSD:=(tseq (qAE (qG qM (qAQ (qB (qE (Dt.str "num")) (qB (qE (Dt.str "num")) (qB (qE (Dt.str "box")) (qB (qE (Dt.str "add")) (qB (qE (Dt.str "sub")) (qB (qE (Dt.str "mul")) (qB (qE (Dt.str "add")) (qB (qE (Dt.str "mul")) (qB (qE (Dt.str "over")) (qB (qE (Dt.str "under")) (qB (qE (Dt.str "wide")) (qB (qE (Dt.str "rest")) qH))))))))))))) (qG qAP (qD 3) (qE (Dt.int 12)))) (qU 6)) (tseq (qi (qK (qG (qW false) (qG qAP (qD 3) (qE (Dt.int 12))) (qE (Dt.int 2)))) (tseq (qAE (qG qM (qAQ (qB (qE (Dt.str "box")) (qB (qE (Dt.str "box")) (qB (qE (Dt.str "mark")) (qB (qE (Dt.str "nought")) (qB (qE (Dt.str "high")) (qB (qE (Dt.str "yes")) (qB (qE (Dt.str "no")) (qB (qE (Dt.str "item")) qH))))))))) (qG qAP (qG qB7 (qD 3) (qE (Dt.int 12))) (qE (Dt.int 8)))) (qU 6)) qI) qI) m5))
abbrev m2:TSD:=(tseq (qAE (qCm (qCK (qN qAW (qB (qD 1) qH))) (qK (qG (qAd false) (qG qM (qG qM (qD 1) (qD 0)) (qE (Dt.int 0))) (qAQ (qB (qE (Dt.str "num")) (qB (qE (Dt.str "box")) (qB (qE (Dt.str "item")) (qB (qE (Dt.str "add")) (qB (qE (Dt.str "sub")) (qB (qE (Dt.str "mul")) qH))))))))) (qD 0) [(1, "nodes")]) (qU 5)) m3)
abbrev qB1:TSD:=(tseq (qAE (qN K31.qA5 (qB (qD 0) qH)) (qU 3)) (tseq (qAE (qG qB7 (qD 3) (qE (Dt.int 16))) (qU 4)) m2))
noncomputable def qQY:List Str:=["num", "box", "item", "add", "sub", "mul"]
theorem qJ4 {ss:List Nat} {nd:Nd} {s:Nat} (o:OkN ss 3 nd s):qQY.contains (wd nd)=decide (s=0):=by
  cases nd with
  | num k=>rw [o.2.2];rfl
  | box k=>rw [o.2];rfl
  | mark k=>rw [o.2];rfl
  | item k=>rw [o.2];rfl
  | two w x y =>
    have:=o.2.2
    cases w<;>(simp only at this;rw [this];rfl)
  | nought x=>rw [o.2];rfl
  | high x=>rw [o.2];rfl
  | yes=>rw [show s=1 from o];rfl
  | no=>rw [show s=1 from o];rfl
theorem qJh {st:Sto} {d:Dt} {ns:List Nd} {ss:List Nat} {cρ:Rho} {Fin:List Dt→Sto→Prop} (hs:qa st d ns) (hT:OkT 3 ns ss) (hl:ns.length≤300) (hv:cρ[0]? = some (some d))
    (hF:∀ (is:List Nat) st',qj st st'→(∀ i∈is,ss[i]? = some 0)→is.length≤300→Fin (is.map fun i=>Dt.int ((i:Nat):Int)) st') :
    qG0 (qBW 0 ns.length) (fun _=>True) (qK (qG (qAd false) (qG qM (qG qM (qD 1) (qD 0)) (qE (Dt.int 0))) (qAQ (qB (qE (Dt.str "num")) (qB (qE (Dt.str "box")) (qB (qE (Dt.str "item")) (qB (qE (Dt.str "add")) (qB (qE (Dt.str "sub")) (qB (qE (Dt.str "mul")) qH))))))))) (qD 0) cρ st Fin:=by
  refine⟨fun i ys s'=>qj st s'∧∃ is:List Nat,ys=is.map (fun i=>Dt.int ((i:Nat):Int))∧(∀ j∈is,ss[j]? = some 0)∧is.length≤i,⟨.refl _,[],rfl,(fun j h=>by cases h),Nat.le_refl _⟩,fun _ _ _ _ _=>trivial,?_,?_⟩
  · rintro i v ys s' hd ⟨x1,is,rfl,hi,hle⟩
    have hil:=qm hd
    rw [qBJ] at hil
    have hv':v = .int ((i:Nat):Int):=by
      have:=(qBz hd).2
      rw [this];congr 1;omega
    subst hv'
    obtain⟨s,es,os⟩:=at2 hT (List.getElem?_eq_getElem hil)
    refine⟨by rw [List.length_map];exact qAh (by omega),?_⟩
    have e1:Ev (qG qM (qG qM (qD 1) (qD 0)) (qE (Dt.int 0))) (some (.int ((i:Nat):Int))::cρ) s' (.str (wd ns[i])):=by
      refine qQ (j:=0) (xs:=.str (wd ns[i])::ag ns[i]) ?_ rfl
      rw [← qw]
      exact qh (qC (i:=1) hv) (qa.ext hs x1) (qC (i:=0) rfl) (KR.qa.at_ hs (List.getElem?_eq_getElem hil))
    refine xb (qAO (ss:=qQY) e1 (fun _ h=>h) (by decide)) _ fun s2 x2=>?_
    rw [qJ4 (qAL os),Bool.bne_false]
    by_cases h0:s=0
    · rw [decide_eq_true h0]
      refine qBA ⟨x1.trans x2,is++[i],by rw [List.map_append];rfl,fun j hj=>?_,by rw [List.length_append];show is.length+1≤i+1;omega⟩
      rcases List.mem_append.mp hj with hj | hj
      · exact hi j hj
      · have:j=i:=by simpa using hj
        rw [this,es,h0]
    · rw [decide_eq_false h0]
      exact qBB ⟨x1.trans x2,is,rfl,hi,by omega⟩
  · rintro ys s' ⟨x1,is,rfl,hi,hle⟩
    rw [qBJ] at hle
    exact hF is s' x1 hi (by omega)
end K31
namespace K31
open PySem PySem.Spec PyProof.Rows L2 L3 KH KS KW K20
open KR (Ev EvB qC qJ qQ seq1 qz qT ifS evb qAR qR qF qL rdR qX qg qk qAG qa rn Rl InT Res qAn orD qP Nums wd ag qw qh ql qq qAA qAH qV qe qS qAK)
theorem qBK {v:Int} {n:Nat} (h:0<n):∃ m:Nat,v%(n:Int)=(m:Int)∧m<n:=by
  have h1:=Int.emod_nonneg v (show (n:Int)≠0 by omega)
  have h2:=Int.emod_lt_of_pos v (show (0:Int)<n by omega)
  exact⟨(v%n).toNat,by omega,by omega⟩
theorem qBG {xs:List Dt} (v:Int) (h:0<xs.length):∃ d,atI xs (v%(xs.length:Int))=some d∧d∈xs:=by
  obtain⟨m,e,hm⟩:=qBK (v:=v) h
  exact⟨xs[m],by rw [e];exact qEU (List.getElem?_eq_getElem hm),List.getElem_mem hm⟩
theorem qAu {ρ:Rho} {st:Sto} {ta tb:TD} {x y:Int} (h:Ev ta ρ st (.int x)) (h2:Ev tb ρ st (.int y)) (h0:0<y) (h1:y<1073741824):Ev (qG qB7 ta tb) ρ st (.int (x / y)):=fun P hp=>h _ (h2 _ ⟨⟨h0,h1⟩,hp⟩)
theorem qA8 {ρ:Rho} {st:Sto} {ta tb:TD} {x y:Dt} (h:Ev ta ρ st x) (h2:EvX tb ρ st y):EvX (qv (qB ta (qB tb qH))) ρ st (.tup [x,y]):=fun P hp=>h _ (h2 _ fun st' x'=>⟨by show 2≤sizeLine;decide,hp st' x'⟩)
theorem qBw {ρ:Rho} {st:Sto} {ta tb:TD} {x y:Int} (h:Ev ta ρ st (.int x)) (h2:EvX tb ρ st (.int y)) (h0:0<y):EvX (qG qAP ta tb) ρ st (.int (x%y)):=fun P hp=>h _ (h2 _ fun st' x'=>⟨h0,hp st' x'⟩)
theorem qAX {ρ:Rho} {st:Sto} {sp:RDL} {t:TAD} {ds:List Dt} {P:VD} (h:∀ P:List Dt→Sto→Prop,P ds st→t ρ st P) (hs:sp ds st P):qN sp t ρ st P:=h _ hs
theorem qEq {ρ:Rho} {st:Sto} {ta te:TD} {tc:TBD} {caps:List (Nat×Str)} {n:Nat} {P:VD} (h:Ev ta ρ st (.int (n:Nat))) (hn:n≤1000) (q:qG0 (qBW 0 n) (fun _=>True) tc te (qIB caps ρ) st fun ys s2=>P (.lst s2.length) (s2++[.rw ys])):qCm (qCK ta) tc te caps ρ st P:=h _ (by
  refine⟨by omega,by omega,?_⟩
  rw [Int.toNat_natCast];exact q)
theorem qAx {ss:List Str} {d:Dt} (h:d∈ss.map Dt.str):∃ w∈ss,d = .str w:=by
  obtain⟨w,h1,rfl⟩:=List.mem_map.mp h
  exact⟨w,h1,rfl⟩
section
variable {ss:List Nat} {is:List Nat} {L:Nat} {w:Str} {st:Sto} {Pd:VD} {a0 a1 a3:Option Dt} {more:Int}
theorem qQF (hw:w∈KR.cntK) (h1:(w == "item")=false) (h2:(["yes", "no"]:List Str).contains w=false) (h3:(w == "box" || w == "mark")=false) (h4:(w == "num")=false) {x y:Nat} (hx:ss[x]? = some 0) (hy:ss[y]? = some 0) (hP:∀ nd s st',OkN ss 3 nd s→qj st st'→Pd (nD nd) st') {a4 a5:Option Dt}:mb (Ed Pd) [a0,a1,some (.int 3),a3,a4,a5,some (.str w),some (.int (x:Nat)),some (.int (y:Nat))] st:=by
  refine xIf (xb (qAO (ss:=["nought", "high"]) (qC (i:=6) rfl) (fun _ h=>h) (by decide))) (fun z st1 x1=>?_) (fun z st1 x1=>?_)
  · refine rdR (qR (ds:=[.str w,.int (x:Nat)]) (qF (qC (i:=6) rfl) (qF (qC (i:=7) rfl) qL)) (by show 2≤sizeLine;decide)) ?_
    rw [Bool.bne_false,List.contains_iff_mem] at z
    simp only [List.mem_cons,List.not_mem_nil,or_false] at z
    rcases z with rfl | rfl
    · exact hP (.nought x) 1 st1 ⟨hx,rfl⟩ x1
    · exact hP (.high x) 1 st1 ⟨hx,rfl⟩ x1
  · refine rdR (qR (ds:=[.str w,.int (x:Nat),.int (y:Nat)]) (qF (qC (i:=6) rfl) (qF (qC (i:=7) rfl) (qF (qC (i:=8) rfl) qL))) (by show 3≤sizeLine;decide)) ?_
    simp only [KR.cntK,List.mem_cons,List.not_mem_nil,or_false] at hw
    rcases hw with rfl | rfl | rfl | rfl | rfl | rfl | rfl | rfl | rfl | rfl | rfl | rfl | rfl | rfl | rfl
    · cases h4
    · cases h3
    · cases h3
    · cases h1
    · exact hP (.two .add x y) 0 st1 ⟨hx,hy,rfl⟩ x1
    · exact hP (.two .sub x y) 0 st1 ⟨hx,hy,rfl⟩ x1
    · exact hP (.two .mul x y) 0 st1 ⟨hx,hy,rfl⟩ x1
    · cases z
    · cases z
    · exact hP (.two .over x y) 1 st1 ⟨hx,hy,rfl⟩ x1
    · exact hP (.two .under x y) 1 st1 ⟨hx,hy,rfl⟩ x1
    · exact hP (.two .wide x y) 1 st1 ⟨hx,hy,rfl⟩ x1
    · exact hP (.two .rest x y) 1 st1 ⟨hx,hy,rfl⟩ x1
    · cases h2
    · cases h2
theorem qQa (hw:w∈KR.cntK) (hL:st[L]? = some (.rw (is.map fun i=>Dt.int ((i:Nat):Int)))) (hi:∀ i∈is,ss[i]? = some 0) (hl:is.length≤300) (hP:∀ nd s st',OkN ss 3 nd s→qj st st'→Pd (nD nd) st'):m5 (Ed Pd) [a0,a1,some (.int 3),a3,some (.int more),some (.lst L),some (.str w),none,none] st:=by
  have eqW:∀ (s:Str) (st:Sto),Ev (qG (qW false) (qD 6) (qE (.str s))) [a0,a1,some (.int 3),a3,some (.int more),some (.lst L),some (.str w),none,none] st (.bl (w==s)):=fun s st=>qX (qC (i:=6) rfl)
  refine qT (b:=(w == "item")&&decide ((0:Int)<3)) (qS (evb (eqW _ _)) fun _=>evb (qAH (qC (i:=2) rfl) qJ)) (fun z=>?_) (fun z1=>?_)
  · obtain⟨m,e,hm⟩:=qBK (v:=more) (n:=3) (by decide)
    refine rdR (qR (ds:=[.str "item",.int (m:Nat)]) (qF qJ (qF (by rw [← e];exact qV (qC (i:=4) rfl) (qC (i:=2) rfl) (by decide)) qL)) (by show 2≤sizeLine;decide)) ?_
    exact hP (.item m) 0 st ⟨hm,rfl⟩ (.refl _)
  have z1:(w == "item")=false:=by rw [← z1];cases (w == "item")<;>rfl
  refine xIf (xb (qAO (ss:=["yes", "no"]) (qC (i:=6) rfl) (fun _ h=>h) (by decide))) (fun z st1 x1=>?_) (fun z2 st1 x1=>?_)
  · refine rdR (qR (ds:=[.str w]) (qF (qC (i:=6) rfl) qL) (by show 1≤sizeLine;decide)) ?_
    rw [Bool.bne_false,List.contains_iff_mem] at z
    simp only [List.mem_cons,List.not_mem_nil,or_false] at z
    rcases z with rfl | rfl
    · exact hP .yes 1 st1 rfl x1
    · exact hP .no 1 st1 rfl x1
  rw [Bool.bne_false] at z2
  refine qT (b:=(w == "box") || (w == "mark")) (qe (evb (eqW _ _)) fun _=>evb (eqW _ _)) (fun z=>?_) (fun z3=>?_)
  · refine qBu (qA8 (qC (i:=6) rfl) (qBw (qC (i:=4) rfl) (qAs (d:=.int (if (w == "mark")=true then 3 else 8)) (ds:=[.int 8,.int 3]) (v:=if (w == "mark")=true then 1 else 0) (qF qJ (qF qJ qL)) (by show 2≤1000;decide) (fun st1 _=>qAy (qGM (eqW _ _))) (by cases (w == "mark")<;>rfl)) (by cases (w == "mark")<;>decide))) fun st2 x2=>?_
    rw [Bool.or_eq_true,beq_iff_eq,beq_iff_eq] at z
    rcases z with rfl | rfl
    · obtain⟨m,e,hm⟩:=qBK (v:=more) (n:=8) (by decide)
      show Pd (.tup [.str "box",.int (more%((8:Nat):Int))]) st2
      rw [e]
      exact hP (.box m) 0 st2 ⟨hm,rfl⟩ (x1.trans x2)
    · obtain⟨m,e,hm⟩:=qBK (v:=more) (n:=3) (by decide)
      show Pd (.tup [.str "mark",.int (more%((3:Nat):Int))]) st2
      rw [e]
      exact hP (.mark m) 1 st2 ⟨hm,rfl⟩ (x1.trans x2)
  have hL1:=x1 _ _ hL
  have hseq:qo st1 (.lst L)=some (is.map fun i=>Dt.int ((i:Nat):Int)):=qAC ⟨_,hL1,rfl⟩
  have hlen:∀ ρ:Rho,ρ[5]? = some (some (.lst L))→Ev (qN qAW (qB (qD 5) qH)) ρ st1 (.int (is.length:Int)):=fun ρ hρ=>by
    have:=qq (te:=qD 5) (ρ:=ρ) (qC (i:=5) hρ) hseq
    k_dat 0"r12"
    exact this
  refine qT (b:=(w == "num") || ((w == "item") || decide ((is.length:Int)=0))) (qe (evb (eqW _ _)) fun _=>qe (evb (eqW _ _)) fun _=>evb (qg (hlen _ rfl) qJ)) (fun z=>?_) (fun z4=>?_)
  · have hv:=Int.emod_nonneg (more / 9) (show (65536:Int)≠0 by decide)
    have hv2:=Int.emod_lt_of_pos (more / 9) (show (0:Int)<65536 by decide)
    obtain⟨d,ed,md⟩:=qBG (xs:=[Dt.int 0,.int 1,.int 2,.int (more / 9%65536),.int 65535,.int 32768,.int 65534,.int 256,.int 0]) more (by show 0<9;decide)
    refine qBu (qA8 qJ (qAs (d:=d) (ds:=[.int 0,.int 1,.int 2,.int (more / 9%65536),.int 65535,.int 32768,.int 65534,.int 256,.int 0]) (v:=more%9) (qF qJ (qF qJ (qF qJ (qF (qV (qAu (qC (i:=4) rfl) qJ (by decide) (by decide)) qJ (by decide)) (qF qJ (qF qJ (qF qJ (qF qJ (qF qJ qL))))))))) (by show 9≤1000;decide) (fun st1 _=>qAy (qV (qC (i:=4) rfl) qJ (by decide))) ed)) fun st2 x2=>?_
    have hk:∃ k:Int,d = .int k∧0≤k∧k<65536:=by
      simp only [List.mem_cons,List.not_mem_nil,or_false] at md
      rcases md with rfl | rfl | rfl | rfl | rfl | rfl | rfl | rfl | rfl
      · k_dat 0"r13"
      · k_dat 0"r13"
      · k_dat 0"r13"
      · exact⟨_,rfl,hv,hv2⟩
      · k_dat 0"r13"
      · k_dat 0"r13"
      · k_dat 0"r13"
      · k_dat 0"r13"
      · k_dat 0"r13"
    obtain⟨k,rfl,k0,k1⟩:=hk
    exact hP (.num k) 0 st2 ⟨k0,k1,rfl⟩ (x1.trans x2)
  rw [Bool.or_eq_false_iff,Bool.or_eq_false_iff,decide_eq_false_iff_not] at z4
  obtain⟨z4,_,z5⟩:=z4
  have il:0<is.length:=by omega
  have at_:∀ m:Nat,m<is.length→∃ x:Nat,(is.map fun i=>Dt.int ((i:Nat):Int))[m]? = some (.int (x:Nat))∧ss[x]? = some 0:=fun m hm=>⟨is[m],by rw [List.getElem?_map,List.getElem?_eq_getElem hm];rfl,hi _ (List.getElem_mem hm)⟩
  obtain⟨mx,ex,hmx⟩:=qBK (v:=more) il
  obtain⟨x,gx,sx⟩:=at_ mx hmx
  obtain⟨my,ey,hmy⟩:=qBK (v:=more / (is.length:Int)) il
  obtain⟨y,gy,sy⟩:=at_ my hmy
  show m9 (Ed Pd) [a0,a1,some (.int 3),a3,some (.int more),some (.lst L),some (.str w),none,none] st1
  refine qz (qh (qC (i:=5) rfl) hseq (by rw [← ex];exact qV (qC (i:=4) rfl) (hlen _ rfl) (by omega)) gx _ ?_)
  refine qz (qh (qC (i:=5) rfl) hseq (by rw [← ey];exact qV (qAu (qC (i:=4) rfl) (hlen _ rfl) (by omega) (by omega)) (hlen _ rfl) (by omega)) gy _ ?_)
  exact qQF hw z1 z2 z3 z4 sx sy fun nd s st' o x'=>hP nd s st' o (x1.trans x')
end
theorem qDT {ds:List Dt} {st:Sto} {Pd:VD} (h:qEm ds st Pd):qB1 (Ed Pd) (qd ["deck", "nodes", "items", "cell", "more", "numbers", "word", "x", "y"] ds) st:=by
  obtain⟨k,e,c,d,ns,ss,rfl,hk,hs,hT,hl,hd,hc,hP⟩:=h
  refine qz ?_
  refine qAX (qF (qC (i:=0) rfl) qL) ⟨k,e,c,rfl,hd,by omega,fun v s1 kd dk=>?_⟩
  refine qz (qAu (qC (i:=3) rfl) qJ (by decide) (by decide) _ ?_)
  show m2 (Ed Pd) [some (.lst k),some d,some (.int 3),some (.int v),some (.int (v / 16)),none,none,none,none] s1
  have hs1:=qa.kd hs hk kd
  refine qz ?_
  have hlen:=qq (te:=qD 1) (ρ:=[some (.lst k),some d,some (.int 3),some (.int v),some (.int (v / 16)),none,none,none,none]) (qC (i:=1) rfl) hs1
  rw [List.length_map] at hlen
  refine qEq hlen (by omega) ?_
  refine qJh hs1 hT hl rfl fun is s2 x2 hi hil=>?_
  generalize eL:s2.length=L
  have hL:(s2++[SO.rw (is.map fun i=>Dt.int ((i:Nat):Int))])[L]? = some (.rw (is.map fun i=>Dt.int ((i:Nat):Int))):=by rw [← eL];exact qAZ
  have x3:=x2.trans (qj.app s2 (SO.rw (is.map fun i=>Dt.int ((i:Nat):Int))))
  generalize s2++[SO.rw (is.map fun i=>Dt.int ((i:Nat):Int))]=s3 at hL x3
  show m3 (Ed Pd) [some (.lst k),some d,some (.int 3),some (.int v),some (.int (v / 16)),some (.lst L),none,none,none] s3
  have fin:∀ (w:Str) s4,w∈KR.cntK→qj s3 s4→m5 (Ed Pd) [some (.lst k),some d,some (.int 3),some (.int v),some (.int (v / 16)),some (.lst L),some (.str w),none,none] s4:=fun w s4 hw x4=>qQa hw (x4 _ _ hL) hi hil fun nd s st' o x5=>hP nd s st' o (kd.ext (x3.trans (x4.trans x5))) (dk.ext (x3.trans (x4.trans x5)))
  obtain⟨d1,e1,m1⟩:=qBG (xs:=(["num", "num", "box", "add", "sub", "mul", "add", "mul", "over", "under", "wide", "rest"]:List Str).map Dt.str) v (by decide)
  obtain⟨w1,hw1,rfl⟩:=qAx m1
  refine qz ?_
  refine qAs (d:=.str w1) (ds:=(["num", "num", "box", "add", "sub", "mul", "add", "mul", "over", "under", "wide", "rest"]:List Str).map Dt.str) (v:=v%12) (fun _ h=>h) (by decide) (fun st1 _=>qAy (qV (qC (i:=3) rfl) qJ (by decide))) e1 _ fun s4 x4=>?_
  have c1:w1∈KR.cntK:=List.all_eq_true.mp (show (["num", "num", "box", "add", "sub", "mul", "add", "mul", "over", "under", "wide", "rest"]:List Str).all (fun w=>KR.cntK.contains w)=true by decide) w1 hw1 |> List.contains_iff_mem.mp
  refine qT (b:=decide (v%12=2)) (evb (qg (qV (qC (i:=3) rfl) qJ (by decide)) qJ)) (fun _=>?_) (fun _=>fin w1 s4 c1 x4)
  obtain⟨d2,e2,m2⟩:=qBG (xs:=(["box", "box", "mark", "nought", "high", "yes", "no", "item"]:List Str).map Dt.str) (v / 12) (by decide)
  obtain⟨w2,hw2,rfl⟩:=qAx m2
  have c2:w2∈KR.cntK:=List.all_eq_true.mp (show (["box", "box", "mark", "nought", "high", "yes", "no", "item"]:List Str).all (fun w=>KR.cntK.contains w)=true by decide) w2 hw2 |> List.contains_iff_mem.mp
  refine qz ?_
  refine qAs (d:=.str w2) (ds:=(["box", "box", "mark", "nought", "high", "yes", "no", "item"]:List Str).map Dt.str) (v:=v / 12%8) (fun _ h=>h) (by decide) (fun st1 _=>qAy (qV (qAu (qC (i:=3) rfl) qJ (by decide) (by decide)) qJ (by decide))) e2 _ fun s5 x5=>?_
  exact fin w2 s5 c2 (x4.trans x5)
end K31
namespace K31
open PySem PySem.Spec PyProof.Rows L2 L3 KH KS KW K20
open KR (Ev EvB qC qJ qQ seq1 qz qT ifS evb qAR qR qF qL rdR qX qg qk qAG qa rn Rl InT Res qAn orD qP Nums wd ag qw qh ql qq qAA qAH qV qe qS qAK)
theorem qAm.set {st:Sto} {k e c f:Nat} {x:SO} (h:qAm st k e c) (h1:f≠k) (h2:f≠e):qAm (st.set f x) k e c:=by
  obtain⟨a,o,xs,q1,q2,q3,r⟩:=h
  exact⟨a,o,xs,qB8 q1 h1,q2,qB8 q3 h2,r⟩
theorem qAm.ek {st:Sto} {k e c:Nat} (h:qAm st k e c):e<st.length∧k<st.length:=by
  obtain⟨a,o,xs,q1,q2,q3,r⟩:=h
  exact⟨qm q3,qm q1⟩
section
variable {E:qBH} {ρ:Rho} {st st':Sto} {N:TSD} {te:TD} {v f:Nat} {xs:List Dt} {d:Dt}
theorem qQt (hl:Ev (qD v) ρ st (.lst f)) (he:EvX te ρ st d) (h:st[f]? = some (.rw xs)) (hn:xs.length<sizeLine) (q:∀ st1,qj st st1→N E ρ (st1.set f (.rw (xs++[d])))):tseq (qD8 (qA0 (qD v) te)) N E ρ st:=by
  show qA0 (qD v) te ρ st fun _ st1=>N E ρ st1
  unfold qA0
  refine hl _ ?_
  refine he _ fun st1 x1=>?_
  show (match st1[f]? with | some (.rw xs)=>_ | _=>_)
  rw [x1 _ _ h]
  exact⟨hn,q st1 x1⟩
theorem qC6 {a b c:Dt} {i j l:Nat} (h:Ev te ρ st (.tup [a,b,c])) (q:N E (((ρ.set i (some a)).set j (some b)).set l (some c)) st):tseq (qAE te (qBU 3 (qAc (qU i) (qAc (qU j) (qAc (qU l) qD4))))) N E ρ st:=h _ ⟨rfl,q⟩
theorem qEF {g:TGD} {tb:TSD} {l:List Dt} (h:Ev te ρ st d) (hs:qo st d=some l) (q:qFJ l (fun st'=>qo st' d=some l) g tb { E with nx:=N E } ρ st):tseq (qDo (qCl te) g tb) N E ρ st:=by
  show qCl te ρ st fun items ok st1=>qFJ items ok g tb { E with nx:=N E } ρ st1
  unfold qCl
  refine h _ ?_
  rw [hs];exact q
theorem forR {g:TGD} {tb:TSD} {n:Nat} (h:Ev te ρ st (.int (n:Nat))) (hn:n≤1000) (q:qFJ (qBW 0 n) (fun _=>True) g tb { E with nx:=N E } ρ st):tseq (qDo (qCK te) g tb) N E ρ st:=by
  show qCK te ρ st fun items ok st1=>qFJ items ok g tb { E with nx:=N E } ρ st1
  unfold qCK
  refine h _ ⟨by omega,by omega,?_⟩
  rw [Int.toNat_natCast];exact q
theorem qCN {sp:RDL} {t:TAD} {ds:List Dt} (h:∀ P:List Dt→Sto→Prop,P ds st→t ρ st P) (q:sp ds st E.rt):tseq (qY (qN sp t)) N E ρ st:=h _ q
theorem qAa {x:Int} (h:Ev te ρ st (.int x)):Ev (qHI te) ρ st (.int (-x)):=fun P hp=>h _ hp
end
structure FI (st:Sto) (k e f:Nat) (ns xs:List Nd) (ss ts:List Nat) (c:Nat) (st':Sto):Prop where
  f:st'[f]? = some (.rw ((ns++xs).map nD))
  t:OkT 3 (ns++xs) (ss++ts)
  kd:KD k st st'
  dk:qAm st' k e c
theorem FI.ext {st:Sto} {k e f c:Nat} {ns xs:List Nd} {ss ts:List Nat} {s1 s2:Sto} (h:FI st k e f ns xs ss ts c s1) (x:qj s1 s2):FI st k e f ns xs ss ts c s2:=⟨x _ _ h.f,h.t,h.kd.ext x,h.dk.ext x⟩
theorem FI.app {st:Sto} {k e f c:Nat} {ns xs:List Nd} {ss ts:List Nat} {s1:Sto} {nd:Nd} {s:Nat} (h:FI st k e f ns xs ss ts c s1) (hf:st.length≤f) (hk:f≠k) (he:f≠e) (o:OkN (ss++ts) 3 nd s):FI st k e f ns (xs++[nd]) ss (ts++[s]) c (s1.set f (.rw ((ns++xs).map nD++[nD nd]))):=by
  refine⟨?_,?_,fun i o' n q=>?_,h.dk.set hk he⟩
  · rw [qDS h.f,← List.append_assoc,List.map_append (l₂:=[nd])];rfl
  · rw [← List.append_assoc,← List.append_assoc];exact h.t.snoc o
  · exact qB8 (h.kd i o' n q) (by have:=qm q;omega)
theorem qAb {nd:Nd} {w:Op2} (h:(wd nd==nm w)=true):∃ x y,nd = .two w x y:=by
  cases nd with
  | two v x y=>exact⟨x,y,by cases v<;>cases w<;>first | rfl | cases h⟩
  | _=>cases w<;>cases h
theorem qA3 {nd:Nd} (h:(wd nd == "num")=true):∃ k,nd = .num k:=by
  cases nd with
  | two v x y=>cases v<;>cases h
  | num k=>exact⟨k,rfl⟩
  | _=>cases h
section
variable {st:Sto} {k e n f c:Nat} {ns:List Nd} {ss:List Nat} {E:qBH} {w:Op2} {x y:Nat} {a0 a3:Option Dt}
theorem qAT {ρ:Rho} {st1:Sto} {d:Dt} {te:TD} {x:Nat} {nx:Nd} (h:Ev te ρ st1 (.int (x:Nat))) (hv:ρ[1]? = some (some d)) (hs:qa st1 d ns) (hx:ns[x]? = some nx):Ev (qG qM (qD 1) te) ρ st1 (.tup (.str (wd nx)::ag nx)):=by
  rw [← qw]
  exact qh (qC (i:=1) hv) hs h (KR.qa.at_ hs hx)
end
theorem qMa {nd:Nd} (h:(["add", "mul", "sub"]:List Str).contains (wd nd)=true):∃ w x y,nd = .two w x y∧KR.qAt w=true:=by
  cases nd with
  | two w x y=>exact⟨w,x,y,rfl,by cases w<;>first | rfl | cases h⟩
  | _=>cases h
end K31
namespace K31
open PySem PySem.Spec PyProof.Rows L2 L3 KH KS KW K20
open KR (Ev EvB qC qJ qQ seq1 qz qT ifS evb qAR qR qF qL rdR qX qg qk qAG qa rn Rl InT Res qAn orD qP Nums wd ag qw qh ql qq qu qAA qAH qV qe qS qAK)
section
variable {ρ:Rho} {st:Sto} {ta tb:TD} {a b:List Dt}
theorem qBh {i:Int} (h:Ev ta ρ st (.tup a)):Ev (qCB ta (qC4 (qE (.int i))) qCy) ρ st (.tup (cutD a (some i) none)):=fun P hp=>h _ hp
end
theorem qAf {ρ:Rho} {st:Sto} {c:TBD} {b b':Bool} (e:b=b') (h:EvB c ρ st b):EvB c ρ st b':=e ▸ h
theorem qLg (nd:Nd):(∀ x∈Dt.str (wd nd)::ag nd,okD 7 x=true)∧(Dt.str (wd nd)::ag nd).length≤3:=by
  cases nd with
  | two w x y=>exact⟨by intro d h;simp only [ag,List.mem_cons,List.not_mem_nil,or_false] at h;rcases h with rfl | rfl | rfl<;>rfl,Nat.le_refl _⟩
  | yes=>exact⟨by intro d h;simp only [ag,List.mem_cons,List.not_mem_nil,or_false] at h;subst h;rfl,by decide⟩
  | no=>exact⟨by intro d h;simp only [ag,List.mem_cons,List.not_mem_nil,or_false] at h;subst h;rfl,by decide⟩
  | _=>exact⟨by intro d h;simp only [ag,List.mem_cons,List.not_mem_nil,or_false] at h;rcases h with rfl | rfl<;>rfl,Nat.le_succ _⟩
theorem qIG (nd:Nd):okD 8 (nD nd)=true:=by
  rw [qw]
  show (Dt.str (wd nd)::ag nd).all (okD 7)=true
  exact List.all_eq_true.mpr (qLg nd).1
end K31
namespace K31
open PySem PySem.Spec PyProof.Rows L2 L3 KH KS KW K20
open KR (Ev EvB qC qJ qQ seq1 qz qT ifS evb qAR qR qF qL rdR qX qg qk qAG qa rn Rl InT Res qAn orD qP Nums wd ag qw qh ql qq qu qAA qAH qV qe qS qAK Frm inR keys)
noncomputable def agI:Nd→List Int
  | .num n=>[n]
  | .box k=>[(k:Int)]
  | .mark k=>[(k:Int)]
  | .item k=>[(k:Int)]
  | .two _ x y=>[(x:Int),(y:Int)]
  | .nought x=>[(x:Int)]
  | .high x=>[(x:Int)]
  | .yes=>[]
  | .no=>[]
theorem qCw (nd:Nd):ag nd=(agI nd).map .int:=by cases nd<;>rfl
theorem qDd (nd:Nd):Frm (wd nd) (agI nd):=by
  cases nd with
  | two w x y=>cases w<;>exact⟨List.contains_iff_mem.mp rfl,rfl⟩
  | _=>exact⟨List.contains_iff_mem.mp rfl,rfl⟩
theorem qE4 {ss:List Nat} {nd:Nd} {s:Nat} (o:OkN ss 3 nd s):InT ss.length nd:=by
  have t:∀ {x:Nat},ss[x]? = some 0→x<ss.length:=fun h=>(List.getElem?_eq_some_iff.mp h).1
  cases nd with
  | two w x y=>exact⟨t o.1,t o.2.1⟩
  | nought x=>exact t o.1
  | high x=>exact t o.1
  | _=>trivial
theorem qAp {ns:List Nd} {ss:List Nat} (h:OkT 3 ns ss):Nums ns:=fun k hk=>by
  obtain⟨i,hi,e⟩:=List.getElem_of_mem hk
  obtain⟨s,_,o⟩:=at2 h (show ns[i]? = some (.num k) by rw [List.getElem?_eq_getElem hi,e])
  exact⟨o.1,o.2.1⟩
theorem qH9 {r r':Rl} (h:rn r=rn r'):r=r':=by
  cases r<;>cases r'<;>first | rfl | (exact absurd h (by decide))
def qQL (te:TD) (ρ:Rho) (st:Sto) (k e c j:Nat) (M:Int):Prop:=∀ Q:VD,(∀ v st',0≤v→v<M→KD k st st'→qAm st' k e (c+j)→Q (.int v) st')→te ρ st Q
section
variable {ρ:Rho} {st:Sto} {k e c:Nat} {v:Nat} {ta tb ti:TD}
theorem qKY {M:Int} (hv:ρ[v]? = some (some (.lst k))) (hd:qAm st k e c) (hc:c<900000) (hM:0<M):qQL (qG qAP (qN qA5 (qB (qD v) qH)) (qE (.int M))) ρ st k e c 1 M:=fun Q hq=>qAX (qF (qC hv) qL) ⟨k,e,c,rfl,hd,by omega,fun v s1 kd dk=>⟨hM,hq _ s1 (Int.emod_nonneg _ (by omega)) (Int.emod_lt_of_pos _ hM) kd dk⟩⟩
end
end K31
namespace K31
open PySem PySem.Spec PyProof.Rows L2 L3 KH KS KW K20
open KR (Ev EvB qC qJ qQ seq1 qz qT ifS evb qAe qAR qR qF qL rdR qX qg qk qAG qa rn Rl InT Res qAn orD qP Nums wd ag qw qh ql qq qu qAA qAH qV qe qS qAK Frm inR keys)
theorem qQZ (v:Vl):eqD 8 (vD v) (vD v)=true∧okD 8 (vD v)=true:=by
  cases v with
  | n i=>exact⟨beq_self_eq_true i,rfl⟩
  | b k=>exact⟨beq_self_eq_true k,rfl⟩
  | non=>exact⟨rfl,rfl⟩
section
variable {ρ:Rho} {st:Sto} {ta tb:TD} {v:Vl}
theorem qOf (h:Ev ta ρ st (vD v)) (h2:Ev tb ρ st (vD v)):Ev (qG (qW true) ta tb) ρ st (.bl false):=fun P hp=>h _ (h2 _ (by
  have e:=qQZ v
  cases v with
  | n i=>exact⟨rfl,rfl,by rw [e.1];exact hp⟩
  | b k=>exact⟨rfl,rfl,by rw [e.1];exact hp⟩
  | non=>exact⟨rfl,rfl,hp⟩))
theorem qDA {d:Dt} {c u:String} (h:Ev ta ρ st d) (hc:c = "bool" ∨ c = "int" ∨ c = "str" ∨ c = "tuple" ∨ c = "list") (hu:tyN d=some u):Ev (qN qBD (qB ta (qB (qE (Dt.ty c)) qH))) ρ st (.bl (isT u c)):=fun P hp=>h _ ⟨hc,by
  show (match tyN d with | some t=>_ | none=>_)
  rw [hu];exact hp⟩
theorem qC2 {a b:Bool} (h:Ev ta ρ st (.bl a)) (h2:Ev tb ρ st (.bl b)) (e:a=b):Ev (qG (qW true) ta tb) ρ st (.bl false):=qOf (v:=.b a) h (by rw [e];exact h2)
end
end K31
namespace K31
open PySem PySem.Spec PyProof.Rows L2 L3 KH KS KW K20
open KR (Ev EvB qC qJ qQ seq1 qz qT ifS evb qAe qAR qR qF qL rdR qX qg qk qAG qa rn Rl InT Res qAn orD qP Nums wd ag qw qh ql qq qu qAA qAH qV qe qS qAK Frm inR keys)
theorem qHO (ns:List Int) (lo hi:Option Int):∃ ys:List Int,L3.cutD (ns.map Dt.int) lo hi=ys.map .int∧ys.length≤ns.length:=by
  unfold L3.cutD
  refine⟨(ns.drop (HT.sIx (ns.map Dt.int).length 0 lo)).take (HT.sIx (ns.map Dt.int).length (ns.map Dt.int).length hi - HT.sIx (ns.map Dt.int).length 0 lo),by rw [List.map_take,List.map_drop],?_⟩
  rw [List.length_take,List.length_drop];omega
theorem qAm.get {st:Sto} {k e c:Nat} (h:qAm st k e c):∃ o,st[k]? = some o:=by
  obtain⟨a,o,xs,q1,_⟩:=h
  exact⟨_,q1⟩
theorem qO1 {E:qBH} {N:TSD} {ρ:Rho} {st:Sto} {te:TD} {g:TGD} {tb:TSD} {k e c lo hi:Nat} (h:∀ Q:VD,(∀ (n:Nat) s1,lo≤n→n≤hi→KD k st s1→qAm s1 k e c→Q (.int (n:Nat)) s1)→te ρ st Q) (hh:hi≤1000) (q:∀ (n:Nat) s1,lo≤n→n≤hi→KD k st s1→qAm s1 k e c→qFJ (qBW 0 n) (fun _=>True) g tb { E with nx:=N E } ρ s1):tseq (qDo (qCK te) g tb) N E ρ st:=by
  show qCK te ρ st fun items ok st1=>qFJ items ok g tb { E with nx:=N E } ρ st1
  unfold qCK
  refine h _ fun n s1 h1 h2 kd dk=>⟨by omega,by omega,?_⟩
  rw [Int.toNat_natCast];exact q n s1 h1 h2 kd dk
theorem qOe {E:qBH} {N:TSD} {ρ:Rho} {st:Sto} {sp:RDL} {t:TAD} {v f:Nat} {ds:List Dt} (hl:Ev (qD v) ρ st (.lst f)) (h:∀ P:List Dt→Sto→Prop,P ds st→t ρ st P) (q:sp ds st fun d st2=>match st2[f]? with | some (.rw xs)=>xs.length<sizeLine∧N E ρ (st2.set f (.rw (xs++[d]))) | _=>False):tseq (qD8 (qA0 (qD v) (qN sp t))) N E ρ st:=by
  show qA0 (qD v) (qN sp t) ρ st fun _ st1=>N E ρ st1
  unfold qA0
  exact hl _ (h _ q)
end K31
namespace K30
open PySem PySem.Spec PyProof.Rows L2 L3 KH KS KW K20
open KR (Ev EvB qC qJ qQ seq1 qz qT ifS evb qAe qAR qR qF qL rdR qX qg qk qAG qa rn Rl InT Res qAn orD qP Nums wd ag qw qh ql qq qu qAA qAH qV qe qS qAK Frm inR keys numAt qBC qBl qAt)
open K31 (EvX qBL qAy qAU xb qBO qAJ xIf qAO qAs qBu qC6 qAT qAX qCN qAb qA3 at2 qAL qAf qA8 qBw qAa qAp)
abbrev qEp:TSD:=(tseq (qi (qK (qG (qW false) (qG qM (qG qM (qD 0) (qD 1)) (qE (Dt.int 0))) (qE (Dt.str "num")))) (tseq (qY (qG qM (qG qM (qD 0) (qD 1)) (qE (Dt.int 1)))) qI) qI) (tseq (qY (qE Dt.non)) qI))
abbrev gr2:TSD:=(tseq (qi (qAD (qK (qG (qW false) (qD 2) (qE (Dt.str "ungroup")))) (qAD (qK (qG (qW false) (qG qM (qG qM (qD 0) (qD 6)) (qE (Dt.int 0))) (qD 4))) (qK (qG (qW false) (qG qM (qD 0) (qD 3)) (qv (qB (qD 4) (qB (qD 5) (qB (qG qM (qG qM (qD 0) (qD 6)) (qE (Dt.int 1))) qH)))))))) (tseq (qY (qv (qB (qD 4) (qB (qD 3) (qB (qG qM (qG qM (qD 0) (qD 6)) (qE (Dt.int 2))) qH))))) qI) qI) (tseq (qY (qE Dt.non)) qI))
abbrev gr1:TSD:=(tseq (qi (qAD (qK (qG (qW false) (qD 2) (qE (Dt.str "group")))) (qAD (qK (qG (qW false) (qG qM (qG qM (qD 0) (qD 5)) (qE (Dt.int 0))) (qD 4))) (qK (qG (qW false) (qG qM (qD 0) (qD 3)) (qv (qB (qD 4) (qB (qG qM (qG qM (qD 0) (qD 5)) (qE (Dt.int 2))) (qB (qD 6) qH)))))))) (tseq (qY (qv (qB (qD 4) (qB (qG qM (qG qM (qD 0) (qD 5)) (qE (Dt.int 1))) (qB (qD 3) qH))))) qI) qI) gr2)
abbrev qCS:TSD:=(tseq (qAE (qD 1) (qBU 3 (qAc (qU 4) (qAc (qU 5) (qAc (qU 6) qD4))))) gr1)
abbrev qCP:RDL:=KR.qAS
theorem qHR {ds:List Dt} {st:Sto} {Pd:VD} (h:qCP ds st Pd):qEp (Ed Pd) (qd ["nodes", "number"] ds) st:=by
  obtain⟨d,ns,i,x,rfl,hs,hx,hP⟩:=h
  have nx:Ev (qG qM (qD 0) (qD 1)) [some d,some (.int (i:Nat))] st (.tup (.str (wd x)::ag x)):=by
    rw [← qw]
    exact qh (qC (i:=0) rfl) hs (qC (i:=1) rfl) (KR.qa.at_ hs hx)
  refine qT (b:=wd x == "num") (evb (qX (qQ (j:=0) nx rfl))) (fun z=>?_) (fun z=>?_)
  · obtain⟨k,rfl⟩:=qA3 z
    exact rdR (qQ (j:=1) nx rfl) hP
  · refine rdR qJ ?_
    cases x with
    | num k=>cases z
    | _=>exact hP
open Classical in
theorem qF9 {ρ:Rho} {st:Sto} {ta tb:TD} {a b:Nd} (h:Ev ta ρ st (nD a)) (h2:Ev tb ρ st (nD b)):Ev (qG (qW false) ta tb) ρ st (.bl (decide (a=b))):=fun P hp=>h _ (h2 _ (by
  obtain⟨l1,e1⟩:∃ l,nD a = .tup l:=⟨_,qw a⟩
  obtain⟨l2,e2⟩:∃ l,nD b = .tup l:=⟨_,qw b⟩
  have q:qW false (nD a) (nD b) st P=(okD 8 (nD a)=true∧okD 8 (nD b)=true∧P (.bl (eqD 8 (nD a) (nD b) != false)) st):=by rw [e1,e2];rfl
  rw [q]
  refine⟨K31.qIG a,K31.qIG b,?_⟩
  rw [KR.qJ1,Bool.bne_false];exact hp))
theorem qBg {ρ:Rho} {st:Sto} {ta tb:TD} {a s:Str} (h:Ev ta ρ st (.str a)) (h2:Ev tb ρ st (.str s)):Ev (qG (qW false) ta tb) ρ st (.bl (a==s)):=fun P hp=>h _ (h2 _ ⟨rfl,rfl,by
  k_dat 0"r57"
  rw [e];exact hp⟩)
def qCe:RDL:=fun ds st P=>∃ (d:Dt) (ns:List Nd) (w:Op2) (x y n:Nat) (r:Rl),ds=[d,nD (.two w x y),.str (rn r),.int (n:Nat)]∧qa st d ns∧x<ns.length∧y<ns.length∧n<ns.length∧qBl w=true∧(r = .group∨r = .ungroup)∧P (orD (qP ns n r (.two w x y))) st
open Classical in
theorem qEH {ds:List Dt} {st:Sto} {Pd:VD} (h:qCe ds st Pd):qCS (Ed Pd) (qd ["nodes", "seen", "rule", "n", "word", "x", "y"] ds) st:=by
  obtain⟨d,ns,w,x,y,n,r,rfl,hs,hx,hy,hn,hw,hr,hP⟩:=h
  k_dat 0"r40"
  show gr1 (Ed Pd) [some d,some (nD (.two w x y)),some (.str (rn r)),some (.int (n:Nat)),some (.str (nm w)),some (.int (x:Nat)),some (.int (y:Nat))] st
  generalize hρ:([some d,some (nD (.two w x y)),some (.str (rn r)),some (.int (n:Nat)),some (.str (nm w)),some (.int (x:Nat)),some (.int (y:Nat))]:Rho)=ρ
  have v0:ρ[0]? = some (some d):=by rw [← hρ];rfl
  have v2:Ev (qD 2) ρ st (.str (rn r)):=qC (by rw [← hρ];rfl)
  have v3:Ev (qD 3) ρ st (.int (n:Nat)):=qC (by rw [← hρ];rfl)
  have v4:Ev (qD 4) ρ st (.str (nm w)):=qC (by rw [← hρ];rfl)
  have v5:Ev (qD 5) ρ st (.int (x:Nat)):=qC (by rw [← hρ];rfl)
  have v6:Ev (qD 6) ρ st (.int (y:Nat)):=qC (by rw [← hρ];rfl)
  have gx:=List.getElem?_eq_getElem hx
  have gy:=List.getElem?_eq_getElem hy
  have gn:=List.getElem?_eq_getElem hn
  generalize ns[x]=nx at gx
  generalize ns[y]=ny at gy
  generalize ns[n]=nn at gn
  have nd:∀ {i:Nat} {m:Nd} {te:TD},Ev te ρ st (.int (i:Nat))→ns[i]? = some m→Ev (qG qM (qD 0) te) ρ st (nD m):=fun h1 h2=>qh (qC v0) hs h1 (KR.qa.at_ hs h2)
  have nt:∀ {i:Nat} {m:Nd} {te:TD},Ev te ρ st (.int (i:Nat))→ns[i]? = some m→Ev (qG qM (qD 0) te) ρ st (.tup (.str (wd m)::ag m)):=fun h1 h2=>by rw [← qw];exact nd h1 h2
  have no2:r = .group→gr2 (Ed Pd) ρ st∨True:=fun _=>.inr trivial
  rcases hr with rfl | rfl
  · have fall:qP ns n .group (.two w x y)=none→gr2 (Ed Pd) ρ st:=fun e=>by
      refine qT (b:=false) (qS (b1:=false) (b2:=false) (evb (qX v2)) (fun z=>nomatch z)) (fun z=>nomatch z) (fun _=>rdR qJ ?_)
      rw [e] at hP;exact hP
    by_cases hwx:(wd nx==nm w)=true
    · obtain⟨s,t,rfl⟩:=qAb hwx
      have e:qP ns n .group (.two w x y)=if qBl w=true∧w=w∧ns[n]? = some (.two w t y) then some (.nd (.two w s n)) else none:=by simp only [qP,gx]
      refine qT (b:=true&&(true&&decide (nn = .two w t y))) (qS (evb (qX v2)) fun _=>qS (b1:=true) (qAf hwx (evb (qBg (qQ (j:=0) (nt v5 gx) rfl) v4))) fun _=>evb (qF9 (nd v3 gn) (qR (ds:=[.str (nm w),.int (t:Nat),.int (y:Nat)]) (qF v4 (qF (qQ (j:=2) (nt v5 gx) rfl) (qF v6 qL))) (by show 3≤sizeLine;decide)))) (fun z=>?_) (fun z=>?_)
      · have z:nn = .two w t y:=of_decide_eq_true z
        rw [e,if_pos ⟨hw,rfl,by rw [gn,z]⟩] at hP
        exact rdR (qR (ds:=[.str (nm w),.int (s:Nat),.int (n:Nat)]) (qF v4 (qF (qQ (j:=1) (nt v5 gx) rfl) (qF v3 qL))) (by show 3≤sizeLine;decide)) hP
      · have z:¬ nn = .two w t y:=of_decide_eq_false z
        refine fall ?_
        rw [e,if_neg fun q=>z (by have:=q.2.2;rw [gn] at this;exact Option.some.inj this)]
    · refine qT (b:=true&&(false&&false)) (qS (evb (qX v2)) fun _=>qS (b1:=false) (b2:=false) (qAf (Bool.eq_false_iff.mpr hwx) (evb (qBg (qQ (j:=0) (nt v5 gx) rfl) v4))) (fun z=>nomatch z)) (fun z=>nomatch z) (fun _=>fall ?_)
      simp only [qP,gx]
      cases nx with
      | two v s t =>
        refine if_neg fun q=>hwx ?_
        rw [q.2.1];exact beq_self_eq_true (nm w)
      | _=>rfl
  · refine qT (b:=false) (qS (b1:=false) (b2:=false) (evb (qX v2)) (fun z=>nomatch z)) (fun z=>nomatch z) (fun _=>?_)
    have fall:qP ns n .ungroup (.two w x y)=none→tseq (qY (qE Dt.non)) qI (Ed Pd) ρ st:=fun e=>rdR qJ (by rw [e] at hP;exact hP)
    by_cases hwy:(wd ny==nm w)=true
    · obtain⟨s,t,rfl⟩:=qAb hwy
      have e:qP ns n .ungroup (.two w x y)=if qBl w=true∧w=w∧ns[n]? = some (.two w x s) then some (.nd (.two w n t)) else none:=by simp only [qP,gy]
      refine qT (b:=true&&(true&&decide (nn = .two w x s))) (qS (evb (qX v2)) fun _=>qS (b1:=true) (qAf hwy (evb (qBg (qQ (j:=0) (nt v6 gy) rfl) v4))) fun _=>evb (qF9 (nd v3 gn) (qR (ds:=[.str (nm w),.int (x:Nat),.int (s:Nat)]) (qF v4 (qF v5 (qF (qQ (j:=1) (nt v6 gy) rfl) qL))) (by show 3≤sizeLine;decide)))) (fun z=>?_) (fun z=>?_)
      · have z:nn = .two w x s:=of_decide_eq_true z
        rw [e,if_pos ⟨hw,rfl,by rw [gn,z]⟩] at hP
        exact rdR (qR (ds:=[.str (nm w),.int (n:Nat),.int (t:Nat)]) (qF v4 (qF v3 (qF (qQ (j:=2) (nt v6 gy) rfl) qL))) (by show 3≤sizeLine;decide)) hP
      · have z:¬ nn = .two w x s:=of_decide_eq_false z
        refine fall ?_
        rw [e,if_neg fun q=>z (by have:=q.2.2;rw [gn] at this;exact Option.some.inj this)]
    · refine qT (b:=true&&(false&&false)) (qS (evb (qX v2)) fun _=>qS (b1:=false) (b2:=false) (qAf (Bool.eq_false_iff.mpr hwy) (evb (qBg (qQ (j:=0) (nt v6 gy) rfl) v4))) (fun z=>nomatch z)) (fun z=>nomatch z) (fun _=>fall ?_)
      simp only [qP,gy]
      cases ny with
      | two v s t =>
        refine if_neg fun q=>hwy ?_
        rw [q.2.1];exact beq_self_eq_true (nm w)
      | _=>rfl
end K30
namespace K30
open PySem PySem.Spec PyProof.Rows L2 L3 KH KS KW K20
open KR (Ev EvB qC qJ qQ seq1 qz qT ifS evb qAe qAR qR qF qL rdR qX qg qk qAG qa rn Rl InT Res qAn orD qP Nums wd ag qw qh ql qq qu qAA qAq qAH qV qe qS qAK Frm inR keys numAt qBC qBl qAt qAI yn)
open K31 (EvX qBL qAy qAU xb qBO qAJ xIf qAO qAs qBu qC6 qAT qAX qCN qAb qA3 at2 qAL qAf qA8 qBw qAa qAp qAv)
abbrev nm3:TSD:=(tseq (qi (qK (qG (qAd false) (qG qM (qD 1) (qE (Dt.int 0))) (qAQ (qB (qE (Dt.str "add")) (qB (qE (Dt.str "sub")) (qB (qE (Dt.str "mul")) qH)))))) (tseq (qY (qv (qB (qE (Dt.str "num")) (qB (qG qAP (qG qIN (qHQ [(Sum.inr (Str.ofString "add"),(qG L3.qB0 (qD 2) (qD 3))),(Sum.inr (Str.ofString "sub"),(qG L3.qGp (qD 2) (qD 3))),(Sum.inr (Str.ofString "mul"),(qG qDy (qD 2) (qD 3)))]) (qG qM (qD 1) (qE (Dt.int 0)))) (qE (Dt.int 65536))) qH)))) qI) qI) (tseq (qY (qG qM (qAQ (qB (qv (qB (qE (Dt.str "no")) qH)) (qB (qv (qB (qE (Dt.str "yes")) qH)) qH))) (qN qD1 (qB (qN K31.qCd (qB (qG qM (qD 1) (qE (Dt.int 0))) (qB (qD 2) (qB (qD 3) qH)))) qH)))) qI))
abbrev nm2:TSD:=(tseq (qi (qBN (qK (qG (qCA false) (qD 2) (qE Dt.non))) (qK (qG (qCA false) (qD 3) (qE Dt.non)))) (tseq (qY (qE Dt.non)) qI) qI) nm3)
abbrev qCa:TSD:=(tseq (qAE (qN K30.qCP (qB (qD 0) (qB (qG qM (qD 1) (qE (Dt.int 1))) qH))) (qU 2)) (tseq (qAE (qN K30.qCP (qB (qD 0) (qB (qG qM (qD 1) (qHI (qE (Dt.int 1)))) qH))) (qU 3)) nm2))
theorem qL1 {ρ:Rho} {st:Sto} {ta tb tc tk:TD} {a b c v:Int} {k:Str} (ha:∀ st,Ev ta ρ st (.int a)) (hb:∀ st,Ev tb ρ st (.int b)) (hc:∀ st,Ev tc ρ st (.int c)) (hk:∀ st,Ev tk ρ st (.str k)) (e:qE3 [(Sum.inr (Str.ofString "add"),Dt.int a),(Sum.inr (Str.ofString "sub"),.int b),(Sum.inr (Str.ofString "mul"),.int c)] (Sum.inr k)=some (.int v)) :
    EvX (qG qIN (qHQ [(Sum.inr (Str.ofString "add"),ta),(Sum.inr (Str.ofString "sub"),tb),(Sum.inr (Str.ofString "mul"),tc)]) tk) ρ st (.int v):=fun P hp=>by
  simp only [qG,qHQ,tvK]
  refine ha _ _ ?_
  refine hb _ _ ?_
  refine hc _ _ ?_
  refine⟨qAZ,?_⟩
  refine hk _ _ ?_
  rw [qME]
  show (match (st++[SO.dc [(Sum.inr (Str.ofString "add"),Dt.int a),(Sum.inr (Str.ofString "sub"),.int b),(Sum.inr (Str.ofString "mul"),.int c)]])[st.length]?,qMR (.str k) with | some (.dc kvs),some k=>_ | _,_=>_)
  rw [qAZ]
  show (match qE3 _ (Sum.inr k) with | some d=>_ | none=>_)
  rw [e]
  exact hp _ (.app _ _)
def qDH:RDL:=fun ds st P=>∃ (d:Dt) (ns:List Nd) (sd:Nd) (n:Nat) (r:Rl),ds=[d,nD sd]∧qa st d ns∧Nums ns∧InT ns.length sd∧((∃ w x y,sd = .two w x y∧((qAt w=true∧r = .count)∨(qAt w=false∧r = .sure)))∨∃ x,(sd = .nought x∨sd = .high x)∧r = .sure)∧∀ st',qj st st'→P (orD (qP ns n r sd)) st'
section
variable {ns:List Nd} {st:Sto} {Pd:VD} {d s:Dt} {w:Str} {l:List Dt} {a b:Int}
theorem qOA {o:Op2} (ho:qAt o=true) (hc:qHJ a b) (hl:l[0]? = some (.str (nm o))) (hP:∀ st',qj st st'→Pd (match two o a b with | .n v=>nD (.num v) | _=>.non) st'):nm3 (Ed Pd) [some d,some (.tup l),some (.int a),some (.int b)] st:=by
  have k0:∀ st,Ev (qG qM (qD 1) (qE (Dt.int 0))) [some d,some (.tup l),some (.int a),some (.int b)] st (.str (nm o)):=fun st=>qQ (j:=0) (qC (i:=1) rfl) hl
  refine xIf (xb (qAO (ss:=["add", "sub", "mul"]) (k0 st) (fun _ h=>h) (by decide))) (fun _ st1 x1=>?_) (fun z=>by rw [KR.qEA,ho] at z;cases z)
  have va:∀ st,Ev (qD 2) [some d,some (.tup l),some (.int a),some (.int b)] st (.int a):=fun st=>qC (i:=2) rfl
  have vb:∀ st,Ev (qD 3) [some d,some (.tup l),some (.int a),some (.int b)] st (.int b):=fun st=>qC (i:=3) rfl
  have ex:∀ v:Int,qE3 [(Sum.inr (Str.ofString "add"),Dt.int (a+b)),(Sum.inr (Str.ofString "sub"),.int (a - b)),(Sum.inr (Str.ofString "mul"),.int (a * b))] (Sum.inr (nm o))=some (.int v)→EvX (qv (qB (qE (Dt.str "num")) (qB (qG qAP (qG qIN (qHQ [(Sum.inr (Str.ofString "add"),(qG L3.qB0 (qD 2) (qD 3))),(Sum.inr (Str.ofString "sub"),(qG L3.qGp (qD 2) (qD 3))),(Sum.inr (Str.ofString "mul"),(qG qDy (qD 2) (qD 3)))]) (qG qM (qD 1) (qE (Dt.int 0)))) (qE (Dt.int 65536))) qH))) [some d,some (.tup l),some (.int a),some (.int b)] st1 (.tup [.str "num",.int (v%65536)]):=fun v e1 =>
    qA8 qJ (fun P hp=>qL1 (fun st=>qAA (va st) (vb st)) (fun st=>qAq (va st) (vb st)) (fun st=>qAv (va st) (vb st) hc) k0 e1 _ fun st2 x2=>⟨by decide,hp st2 x2⟩)
  cases o with
  | add=>exact qBu (ex (a+b) rfl) fun st2 x2=>hP st2 (x1.trans x2)
  | sub=>exact qBu (ex (a - b) rfl) fun st2 x2=>hP st2 (x1.trans x2)
  | mul=>exact qBu (ex (a * b) rfl) fun st2 x2=>hP st2 (x1.trans x2)
  | _=>cases ho
theorem qHt {v:Bool} (hw:(["add", "sub", "mul"]:List Str).contains w=false) (hl:l[0]? = some (.str w)) (ht:∀ st1 (P:VD),(∀ st',qj st1 st'→P (.bl v) st')→K31.qCd [.str w,.int a,.int b] st1 P) (hP:∀ st',qj st st'→Pd (nD (yn v)) st'):nm3 (Ed Pd) [some d,some (.tup l),some (.int a),some (.int b)] st:=by
  have k0:∀ st,Ev (qG qM (qD 1) (qE (Dt.int 0))) [some d,some (.tup l),some (.int a),some (.int b)] st (.str w):=fun st=>qQ (j:=0) (qC (i:=1) rfl) hl
  refine xIf (xb (qAO (ss:=["add", "sub", "mul"]) (k0 st) (fun _ h=>h) (by decide))) (fun z=>by rw [hw] at z;cases z) (fun _ st1 x1=>?_)
  refine qBu (d:=nD (yn v)) (qAs (ds:=[.tup [.str "no"],.tup [.str "yes"]]) (v:=if v=true then 1 else 0) (qF (qR (qF qJ qL) (by show 1≤sizeLine;decide)) (qF (qR (qF qJ qL) (by show 1≤sizeLine;decide)) qL)) (by show 2≤1000;decide) (fun st2 x2 P hp=>?_) (by cases v<;>rfl)) fun st2 x2=>hP st2 (x1.trans x2)
  refine qAX (sp:=K31.qCd) (P:=fun d st3=>qD1 [d] st3 P) (qF (k0 st2) (qF (qC (i:=2) rfl) (qF (qC (i:=3) rfl) qL))) (ht st2 _ fun st3 x3=>?_)
  exact hp st3 x3
end
theorem numAt_eq {ns:List Nd} {x:Nat} {nx:Nd} (h:ns[x]? = some nx):numAt ns x=qBC nx:=by unfold KR.numAt;rw [h]
theorem qFz {ds:List Dt} {st:Sto} {Pd:VD} (h:qDH ds st Pd):qCa (Ed Pd) (qd ["nodes", "seen", "x", "y"] ds) st:=by
  obtain⟨d,ns,sd,n,r,rfl,hs,hN,hin,hk,hP⟩:=h
  /- the two numbers that are named -/
  have go:∀ (l:List Dt) (x y:Nat),nD sd = .tup l→l[1]? = some (.int (x:Nat))→atI l (-1)=some (.int (y:Nat))→x<ns.length→y<ns.length→(numAt ns x=none∨numAt ns y=none→qP ns n r sd=none) →
      (∀ a b,numAt ns x=some a→numAt ns y=some b→nm3 (Ed Pd) [some d,some (.tup l),some (.int a),some (.int b)] st)→qCa (Ed Pd) [some d,some (nD sd),none,none] st:=fun l x y el e1 e2 hx hy hno hyes=>by
    rw [el]
    have gx:=List.getElem?_eq_getElem hx
    have gy:=List.getElem?_eq_getElem hy
    generalize ns[x]=nx at gx
    generalize ns[y]=ny at gy
    rw [numAt_eq gx,numAt_eq gy] at hno hyes
    refine qz (qAX (qF (qC (i:=0) rfl) (qF (qQ (j:=1) (qC (i:=1) rfl) e1) qL)) ⟨d,ns,x,nx,rfl,hs,gx,?_⟩)
    refine qz (qAX (ds:=[d,.int (y:Nat)]) (qF (qC (i:=0) rfl) (qF (fun P hp=>?_) qL)) ⟨d,ns,y,ny,rfl,hs,gy,?_⟩)
    · refine qC (i:=1) (d:=.tup l) rfl _ ?_
      show (match atI l (-1) with | some d=>P d st | none=>False)
      rw [e2];exact hp
    refine qT (b:=(qBC nx).isNone || (qBC ny).isNone) (qe (evb (qAI (qC (i:=2) rfl))) fun _=>evb (qAI (qC (i:=3) rfl))) (fun z=>?_) (fun z=>?_)
    · refine rdR qJ ?_
      have:qBC nx=none∨qBC ny=none:=by
        rw [Bool.or_eq_true,Option.isNone_iff_eq_none,Option.isNone_iff_eq_none] at z
        exact z
      have:=hP st (.refl _)
      rw [hno ‹_›] at this
      exact this
    · rw [Bool.or_eq_false_iff] at z
      cases qx:qBC nx with
      | none=>rw [qx] at z;cases z.1
      | some a =>
        cases qy:qBC ny with
        | none=>rw [qy] at z;cases z.2
        | some b=>exact hyes a b qx qy
  have bnd:∀ {i:Nat} {k:Int},numAt ns i=some k→0≤k∧k<65536:=fun e=>KR.qGK hN e
  rcases hk with ⟨w,x,y,rfl,hw⟩ | ⟨x,hx,rfl⟩
  · refine go _ x y rfl rfl rfl hin.1 hin.2 (fun hno=>?_) fun a b ea eb=>?_
    · rcases hw with ⟨ho,rfl⟩ | ⟨ho,rfl⟩
      · simp only [qP];rw [if_pos ho]
        rcases hno with q | q
        · rw [q]
        · rw [q];cases numAt ns x<;>rfl
      · simp only [qP];rw [if_neg (by rw [ho];exact Bool.false_ne_true)]
        rcases hno with q | q
        · rw [q]
        · rw [q];cases numAt ns x<;>rfl
    · obtain⟨a0,a1⟩:=bnd ea
      obtain⟨b0,b1⟩:=bnd eb
      rcases hw with ⟨ho,rfl⟩ | ⟨ho,rfl⟩
      · refine qOA (o:=w) ho (qGQ a0 (by omega)) rfl fun st' x'=>?_
        have:=hP st' x'
        simp only [qP] at this
        rw [if_pos ho,ea,eb] at this
        cases w with
        | add=>exact this
        | sub=>exact this
        | mul=>exact this
        | _=>cases ho
      · obtain⟨v,hv⟩:∃ v,two w a b = .b v:=by cases w<;>first | exact⟨_,rfl⟩ | cases ho
        refine qHt (v:=v) (w:=nm w) (by rw [KR.qEA];exact ho) rfl (fun st1 P hp=>⟨nm w,a,b,rfl,a0,a1,b0,b1,.inr (.inr ⟨w,ho,rfl,fun st' x'=>by rw [hv];exact hp st' x'⟩)⟩) fun st' x'=>?_
        have:=hP st' x'
        simp only [qP] at this
        rw [if_neg (by rw [ho];exact Bool.false_ne_true),ea,eb] at this
        simp only [hv] at this
        exact this
  · rcases hx with rfl | rfl
    · refine go _ x x rfl rfl rfl hin hin (fun hno=>?_) fun a b ea eb=>?_
      · simp only [qP]
        rcases hno with q | q<;>rw [q]
      · obtain⟨a0,a1⟩:=bnd ea
        rw [ea] at eb;cases eb
        refine qHt (v:=decide (a=0)) (w:= "nought") rfl rfl (fun st1 P hp=>⟨_,a,a,rfl,a0,a1,a0,a1,.inl ⟨rfl,hp⟩⟩) fun st' x'=>?_
        have:=hP st' x'
        simp only [qP,ea] at this
        exact this
    · refine go _ x x rfl rfl rfl hin hin (fun hno=>?_) fun a b ea eb=>?_
      · simp only [qP]
        rcases hno with q | q<;>rw [q]
      · obtain⟨a0,a1⟩:=bnd ea
        rw [ea] at eb;cases eb
        refine qHt (v:=decide (32768≤a)) (w:= "high") rfl rfl (fun st1 P hp=>⟨_,a,a,rfl,a0,a1,a0,a1,.inr (.inl ⟨rfl,hp⟩)⟩) fun st' x'=>?_
        have:=hP st' x'
        simp only [qP,ea] at this
        exact this
end K30
namespace K30
open PySem PySem.Spec PyProof.Rows L2 L3 KH KS KW K20
open KR (Ev EvB qC qJ qQ seq1 qz qT ifS evb qAe qAR qR qF qL rdR qX qg qk qAG qa rn Rl InT Res qAn orD qP Nums wd ag qw qh ql qq qu qAA qAq qAH qV qe qS qAK Frm inR keys numAt qBC qBl qAt qAI qA7 yn)
open K31 (EvX qBL qAy qAU xb qBO qAJ xIf qAO qAs qBu qC6 qAT qAX qCN qAb qA3 at2 qAL qAf qA8 qBw qAa qAp qAv)
abbrev pl5:TSD:=(tseq (qi (qAD (qK (qG (qW false) (qD 2) (qE (Dt.str "never")))) (qK (qG (qAd false) (qD 3) (qAQ (qB (qE (Dt.str "over")) (qB (qE (Dt.str "under")) (qB (qE (Dt.str "wide")) (qB (qE (Dt.str "rest")) qH)))))))) (tseq (qi (qBN (qK (qG (qW false) (qD 6) (qE (Dt.int 0)))) (qBN (qAD (qK (qG (qW false) (qD 6) (qE (Dt.int 1)))) (qK (qG (qAd false) (qD 3) (qAQ (qB (qE (Dt.str "wide")) (qB (qE (Dt.str "rest")) qH)))))) (qAD (qK (qG (qW false) (qD 3) (qE (Dt.str "under")))) (qK (qG (qW false) (qD 4) (qD 5)))))) (tseq (qY (qv (qB (qE (Dt.str "no")) qH))) qI) qI) qI) qI) (tseq (qY (qE Dt.non)) qI))
abbrev pl4:TSD:=(tseq (qi (qAD (qK (qG (qW false) (qv (qB (qD 2) (qB (qD 3) qH))) (qv (qB (qE (Dt.str "self")) (qB (qE (Dt.str "sub")) qH))))) (qK (qG (qW false) (qD 4) (qD 5)))) (tseq (qY (qv (qB (qE (Dt.str "num")) (qB (qE (Dt.int 0)) qH)))) qI) qI) pl5)
abbrev pl3:TSD:=(tseq (qi (qK (qG (qW false) (qv (qB (qD 2) (qB (qD 3) (qB (qD 6) qH)))) (qv (qB (qE (Dt.str "nil")) (qB (qE (Dt.str "mul")) (qB (qE (Dt.int 0)) qH)))))) (tseq (qY (qD 5)) qI) qI) pl4)
abbrev pl2:TSD:=(tseq (qi (qK (qG (qLJ false) (qv (qB (qD 2) (qB (qD 3) (qB (qD 6) qH)))) (qAQ (qB (qv (qB (qE (Dt.str "zero")) (qB (qE (Dt.str "add")) (qB (qE (Dt.int 0)) qH)))) (qB (qv (qB (qE (Dt.str "one")) (qB (qE (Dt.str "mul")) (qB (qE (Dt.int 1)) qH)))) qH))))) (tseq (qY (qD 4)) qI) qI) pl3)
abbrev qCW:TSD:=(tseq (qAE (qD 1) (qBU 3 (qAc (qU 3) (qAc (qU 4) (qAc (qU 5) qD4))))) (tseq (qAE (qN K30.qCP (qB (qD 0) (qB (qD 5) qH))) (qU 6)) pl2))
noncomputable def qDi (o:Option Int) (w:Op2) (x y:Nat):Bool:=decide (o=some 0) || ((decide (o=some 1)&&(["wide", "rest"]:List Str).contains (nm w)) || (nm w == "under" && decide ((x:Int)=(y:Int))))
noncomputable def qC7 (o:Option Int) (w:Op2) (x y:Nat) (rule:Str):Option Res :=
  if ((rule == "zero" && (nm w == "add" && decide (o=some 0))) || (rule == "one" && (nm w == "mul" && decide (o=some 1))))=true then some (.at_ x)
  else if (rule == "nil" && (nm w == "mul" && decide (o=some 0)))=true then some (.at_ y)
  else if ((rule == "self" && nm w == "sub")&&decide ((x:Int)=(y:Int)))=true then some (.nd (.num 0))
  else if (rule == "never" && (["over", "under", "wide", "rest"]:List Str).contains (nm w))=true then (if qDi o w x y=true then some (.nd .no) else none)
  else none
def qCh:RDL:=fun ds st P=>∃ (d:Dt) (ns:List Nd) (w:Op2) (x y:Nat) (rule:Str),ds=[d,nD (.two w x y),.str rule]∧qa st d ns∧x<ns.length∧y<ns.length∧∀ st',qj st st'→P (orD (qC7 (numAt ns y) w x y rule)) st'
theorem xbq {ρ:Rho} {st:Sto} {c:TBD} {b b':Bool} (e:b=b') (h:qBL c ρ st b):qBL c ρ st b':=e ▸ h
theorem qFU (a b:Str):(a==b)=(b==a):=by
  by_cases q:a=b
  · subst q;rfl
  · k_dat 0"r37"
theorem qM5 (n:Nat) (o:Option Int) (k:Int):eqD n (oD o) (.int k)=decide (o=some k)∧eqD n (.int k) (oD o)=decide (o=some k):=by
  cases o with
  | none=>exact⟨by cases n<;>rfl,by cases n<;>rfl⟩
  | some a =>
    have e1:eqD n (oD (some a)) (.int k)=(a==k):=by cases n<;>rfl
    have e2:eqD n (.int k) (oD (some a))=(k==a):=by cases n<;>rfl
    rw [e1,e2]
    by_cases q:a=k
    · subst q;exact⟨by rw [beq_self_eq_true,decide_eq_true rfl],by rw [beq_self_eq_true,decide_eq_true rfl]⟩
    · exact⟨by rw [beq_eq_false_iff_ne.mpr q,decide_eq_false fun z=>q (Option.some.inj z)],by rw [beq_eq_false_iff_ne.mpr (Ne.symm q),decide_eq_false fun z=>q (Option.some.inj z)]⟩
theorem qPc (n:Nat) (o:Option Int):okD n (oD o)=true:=by cases o<;>cases n<;>rfl
theorem eq3 (s t rule w:Str) (o:Option Int) (k:Int):eqD 8 (.tup [.str rule,.str w,oD o]) (.tup [.str s,.str t,.int k])=(rule==s&&(w==t&&decide (o=some k)))∧eqD 8 (.tup [.str s,.str t,.int k]) (.tup [.str rule,.str w,oD o])=(rule==s&&(w==t&&decide (o=some k))):=by
  constructor
  · show (rule==s&&(w==t&&(eqD 7 (oD o) (.int k)&&true)))=_
    rw [(qM5 7 o k).1,Bool.and_true]
  · show (s==rule&&(t==w&&(eqD 7 (.int k) (oD o)&&true)))=_
    rw [(qM5 7 o k).2,Bool.and_true,qFU s,qFU t]
theorem ok3 (rule w:Str) (o:Option Int):okD 8 (.tup [.str rule,.str w,oD o])=true:=by
  show (okD 7 (.str rule)&&(okD 7 (.str w)&&(okD 7 (oD o)&&true)))=true
  rw [qPc];rfl
theorem qEC {ds:List Dt} {st:Sto} {Pd:VD} (h:qCh ds st Pd):qCW (Ed Pd) (qd ["nodes", "seen", "rule", "word", "x", "y", "second"] ds) st:=by
  obtain⟨d,ns,w,x,y,rule,rfl,hs,hx,hy,hP⟩:=h
  have gy:=List.getElem?_eq_getElem hy
  generalize ns[y]=ny at gy
  rw [numAt_eq gy] at hP
  k_dat 0"r40"
  refine qz (qAX (qF (qC (i:=0) rfl) (qF (qC (i:=5) rfl) qL)) ⟨d,ns,y,ny,rfl,hs,gy,?_⟩)
  generalize qBC ny=o at hP
  show pl2 (Ed Pd) [some d,some (nD (.two w x y)),some (.str rule),some (.str (nm w)),some (.int (x:Nat)),some (.int (y:Nat)),some (oD o)] st
  generalize hρ:([some d,some (nD (.two w x y)),some (.str rule),some (.str (nm w)),some (.int (x:Nat)),some (.int (y:Nat)),some (oD o)]:Rho)=ρ
  have v2:∀ st,Ev (qD 2) ρ st (.str rule):=fun st=>qC (by rw [← hρ];rfl)
  have v3:∀ st,Ev (qD 3) ρ st (.str (nm w)):=fun st=>qC (by rw [← hρ];rfl)
  have v4:∀ st,Ev (qD 4) ρ st (.int (x:Nat)):=fun st=>qC (by rw [← hρ];rfl)
  have v5:∀ st,Ev (qD 5) ρ st (.int (y:Nat)):=fun st=>qC (by rw [← hρ];rfl)
  have v6:∀ st,Ev (qD 6) ρ st (oD o):=fun st=>qC (by rw [← hρ];rfl)
  have t3:∀ st,Ev (qv (qB (qD 2) (qB (qD 3) (qB (qD 6) qH)))) ρ st (.tup [.str rule,.str (nm w),oD o]):=fun st=>qR (qF (v2 st) (qF (v3 st) (qF (v6 st) qL))) (by show 3≤sizeLine;decide)
  unfold qC7 at hP
  have c1:qBL (qK (qG (qLJ false) (qv (qB (qD 2) (qB (qD 3) (qB (qD 6) qH)))) (qAQ (qB (qv (qB (qE (Dt.str "zero")) (qB (qE (Dt.str "add")) (qB (qE (Dt.int 0)) qH)))) (qB (qv (qB (qE (Dt.str "one")) (qB (qE (Dt.str "mul")) (qB (qE (Dt.int 1)) qH)))) qH))))) ρ st
      ((rule == "zero" && (nm w == "add" && decide (o=some 0))) || (rule == "one" && (nm w == "mul" && decide (o=some 1)))):=xb fun P hp=>by
    refine t3 st _ ?_
    refine⟨by show 3≤sizeLine;decide,by show 3≤sizeLine;decide,by show 2≤sizeLine;decide,?_⟩
    show (match qo (st++[SO.rw [.tup [.str "zero",.str "add",.int 0],.tup [.str "one",.str "mul",.int 1]]]) (.lst st.length) with | some xs=>_ | none=>_)
    rw [show qo (st++[SO.rw [Dt.tup [.str "zero",.str "add",.int 0],.tup [.str "one",.str "mul",.int 1]]]) (.lst st.length)=some [Dt.tup [.str "zero",.str "add",.int 0],.tup [.str "one",.str "mul",.int 1]] from qAC ⟨_,qAZ,rfl⟩]
    refine⟨ok3 _ _ _,rfl,?_⟩
    rw [List.any_cons,List.any_cons,List.any_nil,(eq3 _ _ _ _ _ _).2,(eq3 _ _ _ _ _ _).2,Bool.or_false,Bool.bne_false]
    exact hp _ (.app _ _)
  refine xIf c1 (fun z st1 x1=>?_) (fun z1 st1 x1=>?_)
  · have:=hP st1 x1
    rw [if_pos z] at this
    exact rdR (v4 _) this
  rw [if_neg (by rw [z1];exact Bool.false_ne_true)] at hP
  refine qT (b:=rule == "nil" && (nm w == "mul" && decide (o=some 0))) (evb fun P hp=>t3 st1 _ ?_) (fun z=>?_) (fun z2=>?_)
  · refine⟨by show 3≤sizeLine;decide,ok3 _ _ _,rfl,?_⟩
    rw [(eq3 _ _ _ _ _ _).1,Bool.bne_false];exact hp
  · have:=hP st1 x1
    rw [if_pos z] at this
    exact rdR (v5 _) this
  rw [if_neg (by rw [z2];exact Bool.false_ne_true)] at hP
  refine qT (b:=(rule == "self" && nm w == "sub")&&decide ((x:Int)=(y:Int))) (qS (evb fun P hp=>?_) fun _=>evb (qg (v4 _) (v5 _))) (fun z=>?_) (fun z3=>?_)
  · refine qR (qF (v2 st1) (qF (v3 st1) qL)) (by show 2≤sizeLine;decide) _ ?_
    refine⟨by show 2≤sizeLine;decide,rfl,rfl,?_⟩
    show P (.bl (((rule == "self")&&((nm w == "sub")&&true)) != false)) st1
    rw [Bool.and_true,Bool.bne_false];exact hp
  · have:=hP st1 x1
    rw [if_pos z] at this
    exact rdR (qR (ds:=[.str "num",.int 0]) (qF qJ (qF qJ qL)) (by show 2≤sizeLine;decide)) this
  rw [if_neg (by rw [z3];exact Bool.false_ne_true)] at hP
  refine xIf (qAJ (qAU (evb (qX (v2 _)))) fun _ st2 x2=>xb (qAO (neg:=false) (ss:=["over", "under", "wide", "rest"]) (v3 _) (fun _ h=>h) (by decide))) (fun z st2 x2=>?_) (fun z4 st2 x2=>?_)
  · rw [Bool.bne_false] at z
    rw [if_pos z] at hP
    refine xIf (b:=qDi o w x y) ?_ (fun zz st3 x3=>?_) (fun zz st3 x3=>?_)
    · refine qBO (qAU (evb (qA7 (v6 _)))) fun _ st3 x3=>qBO (qAJ (qAU (evb (qA7 (v6 _)))) fun _ st4 x4=>?_) fun _ st4 x4=>qAU (qS (evb (qX (v3 _))) fun _=>evb (qg (v4 _) (v5 _)))
      exact xbq (Bool.bne_false _) (xb (qAO (neg:=false) (ss:=["wide", "rest"]) (v3 st4) (fun _ h=>h) (by decide)))
    · have:=hP st3 (x1.trans (x2.trans x3))
      rw [if_pos zz] at this
      exact rdR (qR (ds:=[.str "no"]) (qF qJ qL) (by show 1≤sizeLine;decide)) this
    · have:=hP st3 (x1.trans (x2.trans x3))
      rw [if_neg (by rw [zz];exact Bool.false_ne_true)] at this
      exact this
  · rw [Bool.bne_false] at z4
    have:=hP st2 (x1.trans x2)
    rw [if_neg (by rw [z4];exact Bool.false_ne_true)] at this
    exact rdR qJ this
end K30
namespace K30
open PySem PySem.Spec PyProof.Rows L2 L3 KH KS KW K20
open KR (Ev EvB qC qJ qQ seq1 qz qT ifS evb qAe qAR qR qF qL rdR qX qg qk qAG qa rn Rl InT Res qAn orD qP Nums wd ag qw qh ql qq qu qAA qAq qAH qV qe qS qAK Frm inR keys numAt qBC qBl qAt qEr qAI qA7 yn qBf)
open K31 (EvX qBL qAy qAU xb qBO qAJ xIf qAO qAs qBu qC6 qAT qAX qCN qAb qA3 at2 qAL qAf qA8 qBw qAa qAp qAv)
theorem qBd {o:Option Int} {w:Op2} {x y:Nat} {rule:Str} (h:rule ≠ "zero" ∧ rule ≠ "one" ∧ rule ≠ "nil" ∧ rule ≠ "self" ∧ rule ≠ "never"):qC7 o w x y rule=none:=by
  unfold qC7
  rw [beq_eq_false_iff_ne.mpr h.1,beq_eq_false_iff_ne.mpr h.2.1,beq_eq_false_iff_ne.mpr h.2.2.1,beq_eq_false_iff_ne.mpr h.2.2.2.1,beq_eq_false_iff_ne.mpr h.2.2.2.2]
  rfl
theorem qIX (x y:Nat):decide ((x:Int)=(y:Int))=decide (x=y):=decide_eq_decide.mpr (by omega)
open Classical in
theorem qBa {ns:List Nd} {n:Nat} {w:Op2} {x y:Nat} {r:Rl} (h:r = .zero∨r = .one∨r = .nil∨r = .self∨r = .never):qC7 (numAt ns y) w x y (rn r)=qP ns n r (.two w x y):=by
  rcases h with rfl | rfl | rfl | rfl | rfl
  · cases w with
    | add =>
      show (if ((true&&(true&&decide (numAt ns y=some 0))) || (false&&_))=true then _ else _)=(if numAt ns y=some 0 then _ else _)
      by_cases q:numAt ns y=some 0
      · rw [if_pos q,decide_eq_true q];rfl
      · rw [if_neg q,decide_eq_false q];rfl
    | _=>rfl
  · cases w with
    | mul =>
      show (if ((false&&_) || (true&&(true&&decide (numAt ns y=some 1))))=true then _ else _)=(if numAt ns y=some 1 then _ else _)
      by_cases q:numAt ns y=some 1
      · rw [if_pos q,decide_eq_true q];rfl
      · rw [if_neg q,decide_eq_false q];rfl
    | _=>rfl
  · cases w with
    | mul =>
      show (if (true&&(true&&decide (numAt ns y=some 0)))=true then _ else _)=(if numAt ns y=some 0 then _ else _)
      by_cases q:numAt ns y=some 0
      · rw [if_pos q,decide_eq_true q];rfl
      · rw [if_neg q,decide_eq_false q];rfl
    | _=>rfl
  · cases w with
    | sub =>
      show (if ((true&&true)&&decide ((x:Int)=(y:Int)))=true then _ else _)=(if x=y then _ else _)
      rw [qIX]
      by_cases q:x=y
      · rw [if_pos q,decide_eq_true q];rfl
      · rw [if_neg q,decide_eq_false q];rfl
    | _=>rfl
  · have key:qAt w=false→qC7 (numAt ns y) w x y (rn .never)=if qDi (numAt ns y) w x y=true then some (.nd .no) else none:=fun hc=>by
      cases w<;>first | rfl | cases hc
    cases hc:qAt w with
    | true =>
      simp only [qP];rw [if_pos hc]
      cases w<;>first | rfl | cases hc
    | false =>
      have key2:qP ns n .never (.two w x y)=if (∃ k∈qBf w,numAt ns y=some k)∨(w = .under∧x=y) then some (.nd .no) else none:=by
        simp only [qP];rw [if_neg (show ¬ qAt w=true by rw [hc];exact Bool.false_ne_true)]
      rw [key hc,key2]
      have e:qDi (numAt ns y) w x y=true↔((∃ k∈qBf w,numAt ns y=some k)∨(w = .under∧x=y)):=by
        unfold qDi
        rw [qIX]
        cases w with
        | over=>show (decide (numAt ns y=some 0) || ((decide (numAt ns y=some 1)&&false) || (false&&decide (x=y))))=true↔_;simp [qBf]
        | under=>show (decide (numAt ns y=some 0) || ((decide (numAt ns y=some 1)&&false) || (true&&decide (x=y))))=true↔_;simp [qBf]
        | wide=>show (decide (numAt ns y=some 0) || ((decide (numAt ns y=some 1)&&true) || (false&&decide (x=y))))=true↔_;simp [qBf]
        | rest=>show (decide (numAt ns y=some 0) || ((decide (numAt ns y=some 1)&&true) || (false&&decide (x=y))))=true↔_;simp [qBf]
        | _=>cases hc
      by_cases q:qDi (numAt ns y) w x y=true
      · rw [if_pos q,if_pos (e.mp q)]
      · rw [if_neg q,if_neg fun z=>q (e.mpr z)]
abbrev tn9:TSD:=(tseq (qY (qN K30.qCh (qB (qD 0) (qB (qD 1) (qB (qD 2) qH))))) qI)
abbrev tn8:TSD:=(tseq (qi (qAD (qK (qG (qW false) (qD 2) (qE (Dt.str "subnum")))) (qAD (qK (qG (qW false) (qD 5) (qE (Dt.str "sub")))) (qK (qG (qCA true) (qN K30.qCP (qB (qD 0) (qB (qD 7) qH))) (qE Dt.non))))) (tseq (qi (qK (qG (qW false) (qG qM (qD 0) (qD 3)) (qv (qB (qE (Dt.str "num")) (qB (qG qAP (qHI (qN K30.qCP (qB (qD 0) (qB (qD 7) qH)))) (qE (Dt.int 65536))) qH))))) (tseq (qY (qv (qB (qE (Dt.str "add")) (qB (qD 6) (qB (qD 3) qH))))) qI) qI) (tseq (qY (qE Dt.non)) qI)) qI) tn9)
abbrev tn6:TSD:=(tseq (qi (qAD (qK (qG (qW false) (qD 2) (qE (Dt.str "swap")))) (qK (qG (qAd false) (qD 5) (qAQ (qB (qE (Dt.str "add")) (qB (qE (Dt.str "mul")) (qB (qE (Dt.str "over")) (qB (qE (Dt.str "wide")) qH)))))))) (tseq (qY (qv (qB (qD 5) (qB (qD 7) (qB (qD 6) qH))))) qI) qI) (tseq (qi (qAD (qK (qG (qAd false) (qD 2) (qAQ (qB (qE (Dt.str "group")) (qB (qE (Dt.str "ungroup")) qH))))) (qK (qG (qAd false) (qD 5) (qAQ (qB (qE (Dt.str "add")) (qB (qE (Dt.str "mul")) qH)))))) (tseq (qY (qN K30.qCe (qB (qD 0) (qB (qD 1) (qB (qD 2) (qB (qD 3) qH)))))) qI) qI) tn8))
abbrev tn4:TSD:=(tseq (qi (qK (qG (qAN fun i j=>decide (i<j)) (qN qAW (qB (qD 1) qH)) (qE (Dt.int 3)))) (tseq (qY (qE Dt.non)) qI) qI) (tseq (qAE (qD 1) (qBU 3 (qAc (qU 5) (qAc (qU 6) (qAc (qU 7) qD4))))) tn6))
abbrev tn2:TSD:=(tseq (qi (qAD (qK (qG (qW false) (qD 2) (qE (Dt.str "count")))) (qK (qG (qAd false) (qG qM (qD 1) (qE (Dt.int 0))) (qAQ (qB (qE (Dt.str "add")) (qB (qE (Dt.str "sub")) (qB (qE (Dt.str "mul")) qH))))))) (tseq (qY (qN K30.qDH (qB (qD 0) (qB (qD 1) qH)))) qI) qI) (tseq (qi (qAD (qK (qG (qW false) (qD 2) (qE (Dt.str "sure")))) (qK (qG (qAd true) (qG qM (qD 1) (qE (Dt.int 0))) (qAQ (qB (qE (Dt.str "add")) (qB (qE (Dt.str "sub")) (qB (qE (Dt.str "mul")) qH))))))) (tseq (qY (qN K30.qDH (qB (qD 0) (qB (qD 1) qH)))) qI) qI) tn4))
abbrev tn1:TSD:=(tseq (qDo (qCl (qCB (qD 1) (qC4 (qE (Dt.int 1))) qCy)) (qU 4) (tseq (qi (qBN (qK (qG (qAN fun i j=>decide (i<j)) (qD 4) (qE (Dt.int 0)))) (qK (qG (qAN fun i j=>decide (j≤i)) (qD 4) (qN qAW (qB (qD 0) qH))))) (tseq (qY (qE Dt.non)) qI) qI) qI)) tn2)
abbrev qD7:TSD:=(tseq (qi (qBN (qK (qG (qAN fun i j=>decide (i<j)) (qD 3) (qE (Dt.int 0)))) (qBN (qK (qG (qAN fun i j=>decide (j≤i)) (qD 3) (qN qIH (qB (qE (Dt.int 1)) (qB (qN qAW (qB (qD 0) qH)) qH))))) (qK (qG (qAd false) (qG qM (qD 1) (qE (Dt.int 0))) (qAQ (qB (qE (Dt.str "num")) (qB (qE (Dt.str "box")) (qB (qE (Dt.str "mark")) (qB (qE (Dt.str "item")) (qB (qE (Dt.str "yes")) (qB (qE (Dt.str "no")) qH))))))))))) (tseq (qY (qE Dt.non)) qI) qI) tn1)
section
variable {ns:List Nd} {st:Sto} {Pd:VD} {d:Dt} {rule:Str} {m:Nat} {T:Option Res} {a4 a5 a6 a7:Option Dt}
structure Due (ns:List Nd) (rule:Str) (m:Nat) (sd:Nd) (T:Option Res):Prop where
  yes:∀ r,rule=rn r→T=qP ns m r sd
  no:rule ∉ keys→T=none
theorem qJX {ρ:Rho} {st:Sto} {te:TD} {o:Option Int} (h:Ev te ρ st (oD o)):Ev (qG (qCA true) te (qE Dt.non)) ρ st (.bl o.isSome):=fun P hp=>h _ (by cases o<;>exact hp)
theorem qJz {nn:Nd} {k:Int}:qBC nn=some k↔nn = .num k:=by
  cases nn with
  | num a=>exact⟨fun e=>by rw [Option.some.inj e],fun e=>by cases e;rfl⟩
  | _=>exact⟨fun e=>(by cases e),fun e=>(by cases e)⟩
theorem qM3 (w:Op2):(["add", "mul", "over", "wide"]:List Str).contains (nm w)=qEr w:=by cases w<;>rfl
theorem qD5 (w:Op2):(["add", "mul"]:List Str).contains (nm w)=qBl w:=by cases w<;>rfl
open Classical in
theorem qLm {w:Op2} {x y:Nat} (hs:qa st d ns) (hN:Nums ns) (hx:x<ns.length) (hy:y<ns.length) (hm:m<ns.length) (D:Due ns rule m (.two w x y) T) (hP:∀ st',qj st st'→Pd (orD T) st'):tn2 (Ed Pd) [some d,some (.tup [.str (nm w),.int (x:Nat),.int (y:Nat)]),some (.str rule),some (.int (m:Nat)),a4,a5,a6,a7] st:=by
  have k0:∀ (st:Sto) (a4 a5 a6 a7:Option Dt),Ev (qG qM (qD 1) (qE (Dt.int 0))) [some d,some (.tup [.str (nm w),.int (x:Nat),.int (y:Nat)]),some (.str rule),some (.int (m:Nat)),a4,a5,a6,a7] st (.str (nm w)):=fun st _ _ _ _=>qQ (j:=0) (qC (i:=1) rfl) rfl
  refine xIf (qAJ (qAU (evb (qX (qC (i:=2) rfl)))) fun _ st2 _=>xb (qAO (neg:=false) (ss:=["add", "sub", "mul"]) (k0 _ _ _ _ _) (fun _ h=>h) (by decide))) (fun z st1 x1=>?_) (fun z1 st1 x1=>?_)
  · rw [Bool.and_eq_true,Bool.bne_false,KR.qEA,beq_iff_eq] at z
    refine qCN (qF (qC (i:=0) rfl) (qF (qC (i:=1) rfl) qL)) ⟨d,ns,.two w x y,m,.count,rfl,KR.qa.ext hs x1,hN,⟨hx,hy⟩,.inl ⟨w,x,y,rfl,.inl ⟨z.2,rfl⟩⟩,fun st2 x2=>?_⟩
    have:=hP st2 (x1.trans x2)
    rw [D.yes .count z.1] at this
    exact this
  refine xIf (qAJ (qAU (evb (qX (qC (i:=2) rfl)))) fun _ st2 _=>xb (qAO (neg:=true) (ss:=["add", "sub", "mul"]) (k0 _ _ _ _ _) (fun _ h=>h) (by decide))) (fun z st2 x2=>?_) (fun z2 st2 x2=>?_)
  · rw [Bool.and_eq_true,Bool.bne_true,KR.qEA,beq_iff_eq,Bool.not_eq_true'] at z
    refine qCN (qF (qC (i:=0) rfl) (qF (qC (i:=1) rfl) qL)) ⟨d,ns,.two w x y,m,.sure,rfl,KR.qa.ext hs (x1.trans x2),hN,⟨hx,hy⟩,.inl ⟨w,x,y,rfl,.inr ⟨z.2,rfl⟩⟩,fun st3 x3=>?_⟩
    have:=hP st3 ((x1.trans x2).trans x3)
    rw [D.yes .sure z.1] at this
    exact this
  have hP:=fun st' (x':qj st2 st')=>hP st' ((x1.trans x2).trans x')
  have hs:=KR.qa.ext hs (x1.trans x2)
  refine qT (b:=false) (evb (K31.qA6 (qu (l:=[.str (nm w),.int (x:Nat),.int (y:Nat)]) (qC (i:=1) rfl)) qJ)) (fun z=>nomatch z) (fun _=>?_)
  k_dat 0"r40"
  show tn6 (Ed Pd) [some d,some (.tup [.str (nm w),.int (x:Nat),.int (y:Nat)]),some (.str rule),some (.int (m:Nat)),a4,some (.str (nm w)),some (.int (x:Nat)),some (.int (y:Nat))] st2
  generalize hρ:([some d,some (.tup [.str (nm w),.int (x:Nat),.int (y:Nat)]),some (.str rule),some (.int (m:Nat)),a4,some (.str (nm w)),some (.int (x:Nat)),some (.int (y:Nat))]:Rho)=ρ
  have v0:∀ st,Ev (qD 0) ρ st d:=fun st=>qC (by rw [← hρ];rfl)
  have v1:∀ st,Ev (qD 1) ρ st (.tup [.str (nm w),.int (x:Nat),.int (y:Nat)]):=fun st=>qC (by rw [← hρ];rfl)
  have v2:∀ st,Ev (qD 2) ρ st (.str rule):=fun st=>qC (by rw [← hρ];rfl)
  have v3:∀ st,Ev (qD 3) ρ st (.int (m:Nat)):=fun st=>qC (by rw [← hρ];rfl)
  have v5:∀ st,Ev (qD 5) ρ st (.str (nm w)):=fun st=>qC (by rw [← hρ];rfl)
  have v6:∀ st,Ev (qD 6) ρ st (.int (x:Nat)):=fun st=>qC (by rw [← hρ];rfl)
  have v7:∀ st,Ev (qD 7) ρ st (.int (y:Nat)):=fun st=>qC (by rw [← hρ];rfl)
  refine xIf (qAJ (qAU (evb (qX (v2 _)))) fun _ st3 _=>xb (qAO (neg:=false) (ss:=["add", "mul", "over", "wide"]) (v5 _) (fun _ h=>h) (by decide))) (fun z st3 x3=>?_) (fun z3 st3 x3=>?_)
  · rw [Bool.and_eq_true,Bool.bne_false,qM3,beq_iff_eq] at z
    have:=hP st3 x3
    rw [D.yes .swap z.1] at this
    simp only [qP] at this
    rw [if_pos z.2] at this
    exact rdR (qR (ds:=[.str (nm w),.int (y:Nat),.int (x:Nat)]) (qF (v5 _) (qF (v7 _) (qF (v6 _) qL))) (by show 3≤sizeLine;decide)) this
  refine xIf (qAJ (xb (qAO (neg:=false) (ss:=["group", "ungroup"]) (v2 _) (fun _ h=>h) (by decide))) fun _ st4 _=>xb (qAO (neg:=false) (ss:=["add", "mul"]) (v5 _) (fun _ h=>h) (by decide))) (fun z st4 x4=>?_) (fun z4 st4 x4=>?_)
  · rw [Bool.and_eq_true,Bool.bne_false,Bool.bne_false,qD5,List.contains_iff_mem] at z
    obtain⟨zr,za⟩:=z
    have hr:∃ r:Rl,(r = .group∨r = .ungroup)∧rule=rn r:=by
      simp only [List.mem_cons,List.not_mem_nil,or_false] at zr
      rcases zr with e | e
      · exact⟨.group,.inl rfl,e⟩
      · exact⟨.ungroup,.inr rfl,e⟩
    obtain⟨r,hr,er⟩:=hr
    have:=hP st4 (x3.trans x4)
    rw [D.yes r er] at this
    subst er
    exact qCN (qF (v0 _) (qF (v1 _) (qF (v2 _) (qF (v3 _) qL)))) ⟨d,ns,w,x,y,m,r,rfl,KR.qa.ext hs (x3.trans x4),hx,hy,hm,za,hr,this⟩
  have hP:=fun st' (x':qj st4 st')=>hP st' ((x3.trans x4).trans x')
  have hs:=KR.qa.ext hs (x3.trans x4)
  have gy:=List.getElem?_eq_getElem hy
  have gm:=List.getElem?_eq_getElem hm
  generalize ns[y]=ny at gy
  generalize ns[m]=nn at gm
  have nmy:Ev (qN qCP (qB (qD 0) (qB (qD 7) qH))) ρ st4 (oD (qBC ny)):=ql (qF (v0 _) (qF (v7 _) qL)) fun P hp=>⟨d,ns,y,ny,rfl,hs,gy,hp⟩
  have nmm:Ev (qG qM (qD 0) (qD 3)) ρ st4 (nD nn):=qh (v0 _) hs (v3 _) (KR.qa.at_ hs gm)
  refine qT (b:=rule == "subnum" && (nm w == "sub" && (qBC ny).isSome)) (qS (evb (qX (v2 _))) fun _=>qS (evb (qX (v5 _))) fun _=>evb (qJX nmy)) (fun z=>?_) (fun z5=>?_)
  · rw [Bool.and_eq_true,Bool.and_eq_true,beq_iff_eq,Option.isSome_iff_exists] at z
    obtain⟨er,ew,k,ek⟩:=z
    have hw:w = .sub:=by cases w<;>first | rfl | cases ew
    subst hw
    have hT:T=if numAt ns m=some ((0 - k)%65536) then some (.nd (.two .add x m)) else none:=by
      rw [D.yes .subnum er]
      simp only [qP,numAt_eq gy,ek]
    rw [ek] at nmy
    refine qT (b:=decide (nn = .num (-k%65536))) (evb (qF9 nmm (qR (ds:=[.str "num",.int (-k%65536)]) (qF qJ (qF (qV (qAa nmy) qJ (by decide)) qL)) (by show 2≤sizeLine;decide)))) (fun zz=>?_) (fun zz=>?_)
    · have e:nn = .num (-k%65536):=of_decide_eq_true zz
      have:=hP st4 (.refl _)
      rw [hT,if_pos (by rw [numAt_eq gm,e,Int.zero_sub];rfl)] at this
      exact rdR (qR (ds:=[.str "add",.int (x:Nat),.int (m:Nat)]) (qF qJ (qF (v6 _) (qF (v3 _) qL))) (by show 3≤sizeLine;decide)) this
    · have e:¬ nn = .num (-k%65536):=of_decide_eq_false zz
      have:=hP st4 (.refl _)
      rw [hT,if_neg (by rw [numAt_eq gm,Int.zero_sub];exact fun q=>e (qJz.mp q))] at this
      exact rdR qJ this
  have pl : qC7 (numAt ns y) w x y rule=T:=by
    by_cases hk:rule∈keys
    · obtain⟨r,rfl⟩:=KR.qDC hk
      rw [D.yes r rfl]
      cases r with
      | zero=>exact qBa (.inl rfl)
      | one=>exact qBa (.inr (.inl rfl))
      | nil=>exact qBa (.inr (.inr (.inl rfl)))
      | self=>exact qBa (.inr (.inr (.inr (.inl rfl))))
      | never=>exact qBa (.inr (.inr (.inr (.inr rfl))))
      | swap =>
        k_dat 0"r21"
        rw [Bool.bne_false,qM3] at z3
        simp only [qP]
        rw [if_neg fun q=>by rw [q] at z3;cases z3]
      | group =>
        k_dat 0"r21"
        rw [Bool.bne_false,Bool.bne_false,qD5] at z4
        simp only [qP]
        split
        · rw [if_neg fun q=>by rw [q.1] at z4;cases z4]
        · rfl
      | ungroup =>
        k_dat 0"r21"
        rw [Bool.bne_false,Bool.bne_false,qD5] at z4
        simp only [qP]
        split
        · rw [if_neg fun q=>by rw [q.1] at z4;cases z4]
        · rfl
      | subnum =>
        k_dat 0"r21"
        cases w with
        | sub =>
          cases q:qBC ny with
          | none=>simp only [qP,numAt_eq gy,q]
          | some k=>rw [q] at z5;cases z5
        | _=>rfl
      | count =>
        k_dat 0"r21"
        rw [Bool.bne_false,KR.qEA] at z1
        simp only [qP]
        rw [if_neg fun q=>by rw [q] at z1;cases z1]
      | sure =>
        k_dat 0"r21"
        rw [Bool.bne_true,KR.qEA] at z2
        simp only [qP]
        cases q:qAt w with
        | true=>rfl
        | false=>rw [q] at z2;cases z2
    · rw [D.no hk]
      refine qBd ⟨?_,?_,?_,?_,?_⟩<;>(rintro rfl;exact hk (by decide))
  exact qCN (qF (v0 _) (qF (v1 _) (qF (v2 _) qL))) ⟨d,ns,w,x,y,rule,rfl,hs,hx,hy,fun st' x'=>by rw [pl];exact hP st' x'⟩
end
end K30
namespace K30
open PySem PySem.Spec PyProof.Rows L2 L3 KH KS KW K20
open KR (Ev EvB qC qJ qQ seq1 qz qT ifS evb qAe qAR qR qF qL rdR qX qg qk qAG qa rn Rl InT Res qAn orD qP Nums wd ag qw qh ql qq qu qAA qAq qAH qV qe qS qAK Frm inR keys numAt qBC qBl qAt qEr qAI qA7 yn qBf cntK qDP)
open K31 (EvX qBL qAy qAU xb qBO qAJ xIf qAO qAs qBu qC6 qAT qAX qCN qAb qA3 at2 qAL qAf qA8 qBw qAa qAp qAv qA6)
noncomputable def qFn:List Str:=["num", "box", "mark", "item", "yes", "no"]
theorem qJY {ns:List Nd} {m:Nat} {r:Rl} {sd:Nd} (h:qFn.contains (wd sd)=true):qP ns m r sd=none:=by
  cases sd with
  | two w x y=>cases w<;>cases h
  | nought x=>cases h
  | high x=>cases h
  | _=>cases r<;>rfl
theorem qKa {w:Str} (h:w∈cntK):qFn.contains w = !K19.qCM.contains w:=by
  simp only [cntK,List.mem_cons,List.not_mem_nil,or_false] at h
  rcases h with rfl | rfl | rfl | rfl | rfl | rfl | rfl | rfl | rfl | rfl | rfl | rfl | rfl | rfl | rfl<;>rfl
theorem qQg {w:Str} {xs:List Int} {len:Nat} (hf:Frm w xs) (hw:K19.qCM.contains w=true) (hr:∀ x∈xs,0≤x∧x<(len:Int)):(∃ o x y,w=nm o∧xs=[((x:Nat):Int),((y:Nat):Int)]∧x<len∧y<len)∨∃ x:Nat,(w = "nought" ∨ w = "high")∧xs=[(x:Int)]∧x<len:=by
  obtain⟨h1,h2⟩:=hf
  have two:∀ o:Op2,w=nm o→xs.length=2→(∃ o x y,w=nm o∧xs=[((x:Nat):Int),((y:Nat):Int)]∧x<len∧y<len)∨∃ x:Nat,(w = "nought" ∨ w = "high")∧xs=[(x:Int)]∧x<len:=fun o e hl=>by
    match xs,hl with
    | [a,b],_ =>
      obtain⟨a0,a1⟩:=hr a List.mem_cons_self
      obtain⟨b0,b1⟩:=hr b (List.mem_cons_of_mem _ List.mem_cons_self)
      exact .inl ⟨o,a.toNat,b.toNat,e,by rw [Int.toNat_of_nonneg a0,Int.toNat_of_nonneg b0],by omega,by omega⟩
  have one:(w = "nought" ∨ w = "high")→xs.length=1→(∃ o x y,w=nm o∧xs=[((x:Nat):Int),((y:Nat):Int)]∧x<len∧y<len)∨∃ x:Nat,(w = "nought" ∨ w = "high")∧xs=[(x:Int)]∧x<len:=fun e hl=>by
    match xs,hl with
    | [a],_ =>
      obtain⟨a0,a1⟩:=hr a List.mem_cons_self
      exact .inr ⟨a.toNat,e,by rw [Int.toNat_of_nonneg a0],by omega⟩
  simp only [cntK,List.mem_cons,List.not_mem_nil,or_false] at h1
  rcases h1 with rfl | rfl | rfl | rfl | rfl | rfl | rfl | rfl | rfl | rfl | rfl | rfl | rfl | rfl | rfl
  · cases hw
  · cases hw
  · cases hw
  · cases hw
  · exact two .add rfl h2
  · exact two .sub rfl h2
  · exact two .mul rfl h2
  · exact one (.inl rfl) h2
  · exact one (.inr rfl) h2
  · exact two .over rfl h2
  · exact two .under rfl h2
  · exact two .wide rfl h2
  · exact two .rest rfl h2
  · cases hw
  · cases hw
section
variable {ns:List Nd} {st:Sto} {Pd:VD} {d:Dt} {rule:Str} {m:Nat} {T:Option Res} {a4 a5 a6 a7:Option Dt}
theorem qIR {sd:Nd} {w:Str} {x:Nat} (hsd:sd = .nought x∨sd = .high x) (ew:nD sd = .tup [.str w,.int (x:Nat)]) (hw:(["add", "sub", "mul"]:List Str).contains w=false) (hs:qa st d ns) (hN:Nums ns) (hx:x<ns.length) (D:Due ns rule m sd T) (hP:∀ st',qj st st'→Pd (orD T) st'):tn2 (Ed Pd) [some d,some (.tup [.str w,.int (x:Nat)]),some (.str rule),some (.int (m:Nat)),a4,a5,a6,a7] st:=by
  have k0:∀ (st:Sto),Ev (qG qM (qD 1) (qE (Dt.int 0))) [some d,some (.tup [.str w,.int (x:Nat)]),some (.str rule),some (.int (m:Nat)),a4,a5,a6,a7] st (.str w):=fun st=>qQ (j:=0) (qC (i:=1) rfl) rfl
  refine xIf (qAJ (qAU (evb (qX (qC (i:=2) rfl)))) fun _ st2 _=>xb (qAO (neg:=false) (ss:=["add", "sub", "mul"]) (k0 _) (fun _ h=>h) (by decide))) (fun z st1 x1=>?_) (fun z1 st1 x1=>?_)
  · rw [hw,Bool.bne_false,Bool.and_false] at z;cases z
  refine xIf (qAJ (qAU (evb (qX (qC (i:=2) rfl)))) fun _ st2 _=>xb (qAO (neg:=true) (ss:=["add", "sub", "mul"]) (k0 _) (fun _ h=>h) (by decide))) (fun z st2 x2=>?_) (fun z2 st2 x2=>?_)
  · rw [Bool.and_eq_true,beq_iff_eq] at z
    refine qCN (qF (qC (i:=0) rfl) (qF (qC (i:=1) rfl) qL)) ⟨d,ns,sd,m,.sure,by rw [ew],KR.qa.ext hs (x1.trans x2),hN,by rcases hsd with rfl | rfl<;>exact hx,.inr ⟨x,hsd,rfl⟩,fun st3 x3=>?_⟩
    have:=hP st3 ((x1.trans x2).trans x3)
    rw [D.yes .sure z.1] at this
    exact this
  rw [hw,Bool.bne_true,Bool.not_false,Bool.and_true] at z2
  refine qT (b:=true) (evb (qA6 (qu (l:=[.str w,.int (x:Nat)]) (qC (i:=1) rfl)) qJ)) (fun _=>?_) (fun z=>nomatch z)
  have hT:T=none:=by
    by_cases hk:rule∈keys
    · obtain⟨r,rfl⟩:=KR.qDC hk
      rw [D.yes r rfl]
      cases r with
      | sure=>cases z2
      | _=>rcases hsd with rfl | rfl<;>rfl
    · exact D.no hk
  have:=hP st2 (x1.trans x2)
  rw [hT] at this
  exact rdR qJ this
end
def qGO:RDL:=fun ds st P=>∃ (d:Dt) (ns:List Nd) (w:Str) (xs:List Int) (rule:Str) (n:Int),ds=[d,.tup (.str w::xs.map .int),.str rule,.int n]∧qa st d ns∧Nums ns∧Frm w xs ∧
  ((inR ns.length w xs=false∨rule ∉ keys∨n<0∨(ns.length:Int)≤n)→∀ st',qj st st'→P .non st') ∧
  (inR ns.length w xs=true→∀ (r:Rl) (m:Nat),rule=rn r→n=(m:Int)→m<ns.length→(∃ sd,Dt.tup (.str w::xs.map .int)=nD sd)∧∀ sd,Dt.tup (.str w::xs.map .int)=nD sd→InT ns.length sd→∀ st',qj st st'→P (orD (qP ns m r sd)) st')
end K30
namespace K30
open PySem PySem.Spec PyProof.Rows L2 L3 KH KS KW K20
open KR (Ev EvB qC qJ qQ seq1 qz qT ifS evb qAe qAR qR qF qL rdR qX qg qk qAG qa rn Rl InT Res qAn orD qP Nums wd ag qw qh ql qq qu qAA qAq qAH qV qe qS qAK Frm inR keys numAt qBC qBl qAt qEr qAI qA7 yn qBf cntK qDP)
open K31 (EvX qBL qAy qAU xb qBO qAJ xIf qAO qAs qBu qC6 qAT qAX qCN qAb qA3 at2 qAL qAf qA8 qBw qAa qAp qAv qA6 qEF qBh)
theorem qJq {ρ:Rho} {st:Sto} {ta tb:TD} {x y:Int} (h:Ev ta ρ st (.int x)) (h2:Ev tb ρ st (.int y)):Ev (qG (qAN fun i j=>decide (j≤i)) ta tb) ρ st (.bl (decide (y≤x))):=fun P hp=>h _ (h2 _ hp)
theorem qIJ (a:Dt) (t:List Dt):L3.cutD (a::t) (some 1) none=t:=by
  have e1:HT.sIx (a::t).length 0 (some 1)=1:=by
    have:=HT.qMB (a::t).length 0 1
    rw [show ((1:Nat):Int)=1 from rfl] at this
    rw [this,List.length_cons];omega
  unfold L3.cutD
  rw [e1,HT.qHF]
  show t.take ((a::t).length - 1)=t
  rw [List.length_cons,Nat.add_sub_cancel,List.take_length]
theorem qLN {w:Str} {xs:List Int} {sd:Nd} (h:Dt.tup (.str w::xs.map .int)=nD sd):wd sd=w:=by
  rw [qw] at h
  injection h with h
  injection h with h1 _
  injection h1 with h2
  exact h2.symm
theorem qGh {ds:List Dt} {st:Sto} {Pd:VD} (h:qGO ds st Pd):qD7 (Ed Pd) (qd ["nodes", "seen", "rule", "n", "number", "word", "x", "y"] ds) st:=by
  obtain⟨d,ns,w,xs,rule,n,rfl,hs,hN,hf,hA,hB⟩:=h
  have ww:(qFn.contains w) = !K19.qCM.contains w:=qKa hf.1
  have len:∀ (st':Sto) (a4:Option Dt),qj st st'→Ev (qN qAW (qB (qD 0) qH)) [some d,some (.tup (.str w::xs.map .int)),some (.str rule),some (.int n),a4,none,none,none] st' (.int (ns.length:Nat)):=fun st' a4 x'=>by
    have:=qq (te:=qD 0) (ρ:=[some d,some (.tup (.str w::xs.map .int)),some (.str rule),some (.int n),a4,none,none,none]) (qC (i:=0) rfl) (KR.qa.ext hs x')
    k_dat 0"r12"
    exact this
  refine xIf (b:=decide (n<0) || (decide ((if ((ns.length:Nat):Int) > 1 then ((ns.length:Nat):Int) else 1)≤n) || qFn.contains w)) (qBO (qAU (evb (qA6 (qC (i:=3) rfl) qJ))) fun _ st1 x1=>qBO (qAU (evb (qJq (qC (i:=3) rfl) (ql (ds:=[.int 1,.int (ns.length:Nat)]) (qF qJ (qF (len st1 none x1) qL)) fun P hp=>hp)))) fun _ st2 x2=>xbq (Bool.bne_false _) (xb (qAO (neg:=false) (ss:=qFn) (qQ (j:=0) (qC (i:=1) rfl) rfl) (fun _ h=>h) (by decide)))) (fun z st1 x1=>?_) (fun z st1 x1=>?_)
  · refine rdR qJ ?_
    by_cases c:rule ∉ keys∨n<0∨(ns.length:Int)≤n
    · exact hA (.inr c) st1 x1
    · have c1:rule∈keys:=Classical.not_not.mp fun q=>c (.inl q)
      have c2:0≤n∧n<(ns.length:Int):=⟨by have:=fun q=>c (.inr (.inl q));omega,by have:=fun q=>c (.inr (.inr q));omega⟩
      obtain⟨r,rfl⟩:=KR.qDC c1
      k_dat 0"r39"
      have hleaf:qFn.contains w=true:=by
        rw [decide_eq_false (by omega),Bool.false_or] at z
        rw [decide_eq_false (by split<;>omega),Bool.false_or] at z
        exact z
      have hin:inR ns.length w xs=true:=by
        unfold KR.inR
        rw [hleaf] at ww
        have:K19.qCM.contains w=false:=by cases q:K19.qCM.contains w with | true=>rw [q] at ww;cases ww | false=>rfl
        rw [this];rfl
      obtain⟨⟨sd,esd⟩,hB⟩:=hB hin r m rfl rfl (by omega)
      have hn:qP ns m r sd=none:=qJY (by rw [qLN esd];exact hleaf)
      have hi:InT ns.length sd:=by
        have:=qLN esd
        cases sd with
        | two o x y=>rw [← this] at hleaf;cases o<;>cases hleaf
        | nought x=>rw [← this] at hleaf;cases hleaf
        | high x=>rw [← this] at hleaf;cases hleaf
        | _=>trivial
      have:=hB sd esd hi st1 x1
      rw [hn] at this
      exact this
  rw [Bool.or_eq_false_iff,Bool.or_eq_false_iff,decide_eq_false_iff_not,decide_eq_false_iff_not] at z
  obtain⟨n0,nmx,hlf⟩:=z
  have hnam:K19.qCM.contains w=true:=by
    rw [hlf] at ww
    cases q:K19.qCM.contains w with
    | true=>rfl
    | false=>rw [q] at ww;cases ww
  show tn1 (Ed Pd) [some d,some (.tup (.str w::xs.map .int)),some (.str rule),some (.int n),none,none,none,none] st1
  refine qEF (qBh (a:=.str w::xs.map .int) (i:=1) (qC (i:=1) rfl)) (l:=xs.map .int) (by rw [qIJ];rfl) ?_
  refine⟨fun i ρ s'=>(∃ a4,ρ=[some d,some (.tup (.str w::xs.map .int)),some (.str rule),some (.int n),a4,none,none,none])∧qj st s'∧∀ (j:Nat) x,j<i→xs[j]? = some x→0≤x∧x<(ns.length:Int),⟨⟨_,rfl⟩,x1,fun j x hj=>absurd hj (Nat.not_lt_zero _)⟩,fun _ _ _ _ _=>by rw [qIJ];rfl,?_,?_⟩
  · rintro i dd ρ s' hi ⟨⟨a4,rfl⟩,ext,hall⟩
    have hil:=qm hi
    rw [List.length_map] at hil
    have gi:=List.getElem?_eq_getElem hil
    rw [List.getElem?_map,gi] at hi
    have hi:dd = .int xs[i]:=(Option.some.inj hi).symm
    subst hi
    have mem:=List.getElem_mem hil
    generalize xs[i]=x at gi mem
    refine qT (b:=decide (x<0) || decide (((ns.length:Nat):Int)≤x)) (qe (evb (qA6 (qC (i:=4) rfl) qJ)) fun _=>evb (qJq (qC (i:=4) rfl) (len s' _ ext))) (fun z=>rdR qJ ?_) (fun z=>?_)
    · refine hA (.inl ?_) s' ext
      unfold KR.inR
      rw [if_pos hnam]
      cases q:xs.all fun x=>decide (0≤x)&&decide (x<((ns.length:Nat):Int)) with
      | false=>rfl
      | true =>
        have:=List.all_eq_true.mp q x mem
        rw [Bool.and_eq_true,decide_eq_true_eq,decide_eq_true_eq] at this
        rw [decide_eq_false (by omega),decide_eq_false (by omega)] at z
        cases z
    · rw [Bool.or_eq_false_iff,decide_eq_false_iff_not,decide_eq_false_iff_not] at z
      refine⟨⟨_,rfl⟩,ext,fun j x' hj gj=>?_⟩
      by_cases hji:j=i
      · subst hji
        rw [gi] at gj;cases gj
        omega
      · exact hall j x' (by omega) gj
  · rintro ρ s' ⟨⟨a4,rfl⟩,ext,hall⟩
    rw [List.length_map] at hall
    have hr:∀ x∈xs,0≤x∧x<(ns.length:Int):=fun x hx=>by
      obtain⟨j,hj,e⟩:=List.getElem_of_mem hx
      exact hall j x hj (by rw [List.getElem?_eq_getElem hj,e])
    have hin:inR ns.length w xs=true:=by
      unfold KR.inR
      rw [if_pos hnam]
      exact List.all_eq_true.mpr fun x hx=>by
        obtain⟨q1,q2⟩:=hr x hx
        rw [decide_eq_true q1,decide_eq_true q2];rfl
    have hs':=KR.qa.ext hs ext
    have lay:∀ (sd:Nd),Dt.tup (.str w::xs.map .int)=nD sd→InT ns.length sd→0<ns.length→∃ (m:Nat) (T:Option Res),n=(m:Int)∧m<ns.length∧Due ns rule m sd T∧∀ st',qj s' st'→Pd (orD T) st':=fun sd esd hi h0=>by
      have hn:n<(ns.length:Int):=by split at nmx<;>omega
      k_dat 0"r39"
      by_cases hk:rule∈keys
      · obtain⟨r,rfl⟩:=KR.qDC hk
        exact⟨m,qP ns m r sd,rfl,by omega,⟨fun r' e=>by rw [K31.qH9 e],fun q=>absurd hk q⟩,fun st' x'=>(hB hin r m rfl rfl (by omega)).2 sd esd hi st' (ext.trans x')⟩
      · exact⟨m,none,rfl,by omega,⟨fun r e=>absurd (by rw [e];exact KR.qGS r) hk,fun _=>rfl⟩,fun st' x'=>hA (.inr (.inl hk)) st' (ext.trans x')⟩
    rcases qQg hf hnam hr with ⟨o,x,y,rfl,rfl,hx,hy⟩ | ⟨x,hw,rfl,hx⟩
    · obtain⟨m,T,rfl,hm,D,hP⟩:=lay (.two o x y) rfl ⟨hx,hy⟩ (by omega)
      exact qLm hs' hN hx hy hm D hP
    · rcases hw with rfl | rfl
      · obtain⟨m,T,rfl,hm,D,hP⟩:=lay (.nought x) rfl hx (by omega)
        exact qIR (.inl rfl) rfl rfl hs' hN hx D hP
      · obtain⟨m,T,rfl,hm,D,hP⟩:=lay (.high x) rfl hx (by omega)
        exact qIR (.inr rfl) rfl rfl hs' hN hx D hP
end K30
namespace K30
open PySem PySem.Spec PyProof.Rows L2 L3 KH KS KW K20
open KR (Ev EvB qC qJ qQ seq1 qz qT ifS evb qAe qAR qR qF qL rdR qX qg qk qAG qa rn Rl InT Res qAn orD qP Nums wd ag qw qh ql qq qu qAA qAq qAH qV qe qS qAK Frm inR keys numAt qBC qBl qAt qEr qAI qA7 yn qBf cntK qDP)
open K31 (EvX qBL qAy qAU xb qBO qAJ xIf qAO qAs qBu qC6 qAT qAX qCN qAb qA3 at2 qAL qAf qA8 qBw qAa qAp qAv qA6 qEF qBh qDA qC2)
abbrev as4:TSD:=(tseq (qi (qK (qG (qCA false) (qD 4) (qE Dt.non))) (tseq (qi (qK (qJN ["NoTurning"] (fun _=>false) (qD 6))) (tseq (qY (qE (Dt.bl false))) qI) qI) (tseq (qY (qB2 (qJN ["NoTurning"] (fun _=>true) (qD 6)) (qJN ["NoTurning"] (fun _=>true) (qD 6)))) qI)) qI) (tseq (qi (qBN (qK (qG (qCA true) (qD 6) (qE Dt.non))) (qBN (qK (qG (qW true) (qN qBD (qB (qD 5) (qB (qE (Dt.ty "tuple")) qH))) (qN qBD (qB (qD 4) (qB (qE (Dt.ty "tuple")) qH))))) (qK (qN qBD (qB (qD 5) (qB (qE (Dt.ty "bool")) qH)))))) (tseq (qY (qE (Dt.bl false))) qI) qI) (tseq (qY (qG (qW false) (qD 5) (qD 4))) qI)))
abbrev as1:TSD:=(tseq (qAE (qE Dt.non) (qU 5)) (tseq (qAE (qE Dt.non) (qU 6)) (tseq (qKZ ["NoTurning"] 5 7 KR.qCZ (qB (qD 0) (qB (qD 1) (qB (qv (qB (qD 2) (qB (qD 3) qH))) qH))) (tseq (qAE (qD 7) (qU 6)) qI)) as4)))
abbrev qDE:TSD:=(tseq (qAE (qN K30.qGO (qB (qD 0) (qB (qD 1) (qB (qD 2) (qB (qD 3) qH))))) (qU 4)) as1)
open Classical in
theorem qMO {a b:Nd} (h:nD a=nD b):a=b:=by
  have:=KR.qJ1 a b
  rw [h,qEg (K31.qIG b)] at this
  exact of_decide_eq_true this.symm
def qBT:RDL:=fun ds st P=>∃ (d:Dt) (ns:List Nd) (w:Str) (xs:List Int) (rule:Str) (n:Int),ds=[d,.tup (.str w::xs.map .int),.str rule,.int n]∧qa st d ns∧Nums ns∧Frm w xs∧(inR ns.length w xs=true→∃ sd,Dt.tup (.str w::xs.map .int)=nD sd∧InT ns.length sd)∧∀ st',qj st st'→P (.bl true) st'
theorem qHn {ρ:Rho} {st:Sto} {te:TD} {ns:List String} {f:String→Bool} {n:String} (h:Ev te ρ st (.exc n)) (hn:n∈ns):Ev (qJN ns f te) ρ st (.bl (f n)):=fun P hp=>h _ ⟨hn,hp⟩
theorem qOj (z:Res):∃ u,tyN (qAn z)=some u∧isT u "bool" = false:=by
  cases z with
  | nd x=>exact⟨"tuple",by show tyN (nD x)=_;rw [qw];rfl,rfl⟩
  | at_ i=>exact⟨"int",rfl,rfl⟩
open Classical in
theorem qPH {ρ:Rho} {st:Sto} {ta tb:TD} {z:Res} (h:Ev ta ρ st (qAn z)) (h2:Ev tb ρ st (qAn z)):Ev (qG (qW false) ta tb) ρ st (.bl true):=by
  cases z with
  | nd x =>
    have:=qF9 (a:=x) (b:=x) h h2
    rw [decide_eq_true rfl] at this
    exact this
  | at_ i =>
    have:=qg (x:=(i:Nat)) (y:=(i:Nat)) h h2
    rw [decide_eq_true rfl] at this
    exact this
theorem qMk {ρ:Rho} {st:Sto} {ta:TD} {z:Res} (h:Ev ta ρ st (qAn z)):Ev (qG (qCA false) ta (qE Dt.non)) ρ st (.bl false):=fun P hp=>h _ (by
  cases z with
  | nd x=>show qCA false (nD x) .non st _;rw [qw];exact hp
  | at_ i=>exact hp)
theorem qKm {d s:Dt} {rule:Str} {n:Int} {T:Option Res} {st:Sto} {Pd:VD} (ht:∀ P:VD,(∀ st',qj st st'→P (match T with | none=>.ty "NoTurning" | some x=>qAn x) st')→KR.qCZ [d,s,.tup [.str rule,.int n]] st P) (hP:∀ st',qj st st'→Pd (.bl true) st'):as1 (Ed Pd) [some d,some s,some (.str rule),some (.int n),some (orD T),none,none,none] st:=by
  refine qz (qJ _ ?_)
  refine qz (qJ _ ?_)
  refine seq1 ?_
  refine qF (qC (i:=0) rfl) (qF (qC (i:=1) rfl) (qF (qR (ds:=[.str rule,.int n]) (qF (qC (i:=2) rfl) (qF (qC (i:=3) rfl) qL)) (by show 2≤sizeLine;decide)) qL)) _ ?_
  refine ht _ fun st1 x1=>?_
  cases T with
  | none =>
    refine⟨List.mem_singleton.mpr rfl,?_⟩
    refine qz (qC (i:=7) rfl _ ?_)
    show as4 (Ed Pd) [some d,some s,some (.str rule),some (.int n),some .non,some .non,some (.exc "NoTurning"),none] st1
    refine qT (b:=true) (evb (qAI (o:=none) (qC (i:=4) rfl))) (fun _=>?_) (fun z=>nomatch z)
    refine qT (b:=false) (evb (qHn (f:=fun _=>false) (qC (i:=6) rfl) (List.mem_singleton.mpr rfl))) (fun z=>nomatch z) (fun _=>?_)
    exact rdR (qAK (b1:=true) (b2:=true) (qHn (f:=fun _=>true) (qC (i:=6) rfl) (List.mem_singleton.mpr rfl)) fun _=>qHn (f:=fun _=>true) (qC (i:=6) rfl) (List.mem_singleton.mpr rfl)) (hP st1 x1)
  | some z =>
    have hx:isX (qAn z)=none:=by
      cases z with
      | nd x=>show isX (nD x)=none;rw [qw];rfl
      | at_ i=>rfl
    show (match isX (qAn z) with | some n=>_ | none=>_)
    rw [hx]
    show as4 (Ed Pd) [some d,some s,some (.str rule),some (.int n),some (qAn z),some (qAn z),some .non,none] st1
    obtain⟨u,hu,hb⟩:=qOj z
    refine qT (b:=false) (evb (qMk (qC (i:=4) rfl))) (fun q=>nomatch q) (fun _=>?_)
    refine qT (b:=false) (qe (b1:=false) (b2:=false) (evb fun P hp=>?_) fun _=>qe (b1:=false) (b2:=false) (evb (qC2 (qDA (qC (i:=5) rfl) (.inr (.inr (.inr (.inl rfl)))) hu) (qDA (qC (i:=4) rfl) (.inr (.inr (.inr (.inl rfl)))) hu) rfl)) fun _=>qAf hb (evb (qDA (qC (i:=5) rfl) (.inl rfl) hu))) (fun q=>nomatch q) (fun _=>?_)
    · have:Ev (qD 6) [some d,some s,some (.str rule),some (.int n),some (qAn z),some (qAn z),some .non,none] st1 .non:=qC (i:=6) rfl
      exact this _ hp
    · exact rdR (qPH (qC (i:=5) rfl) (qC (i:=4) rfl)) (hP st1 x1)
theorem qFG {ds:List Dt} {st:Sto} {Pd:VD} (h:qBT ds st Pd):qDE (Ed Pd) (qd ["nodes", "seen", "rule", "n", "due", "found", "caught", "e"] ds) st:=by
  obtain⟨d,ns,w,xs,rule,n,rfl,hs,hN,hf,hS,hP⟩:=h
  refine qz (qAX (qF (qC (i:=0) rfl) (qF (qC (i:=1) rfl) (qF (qC (i:=2) rfl) (qF (qC (i:=3) rfl) qL)))) ?_)
  refine⟨d,ns,w,xs,rule,n,rfl,hs,hN,hf,fun hA st1 x1=>?_,fun hin r m er en hm=>?_⟩
  · refine qKm (T:=none) (fun P hp=>⟨d,ns,w,xs,rule,n,rfl,KR.qa.ext hs x1,hN,hf,fun _ st' x'=>hp st' x',fun hin r m er en hm=>?_⟩) fun st' x'=>hP st' (x1.trans x')
    rcases hA with h | h | h | h
    · rw [hin] at h;cases h
    · exact absurd (by rw [er];exact KR.qGS r) h
    · omega
    · omega
  · obtain⟨sd,esd,hi⟩:=hS hin
    refine⟨⟨sd,esd⟩,fun sd' esd' hi' st1 x1=>?_⟩
    have e:sd'=sd:=qMO (esd'.symm.trans esd)
    subst e
    refine qKm (T:=qP ns m r sd') (fun P hp=>⟨d,ns,w,xs,rule,n,rfl,KR.qa.ext hs x1,hN,hf,fun hA st' x'=>?_,fun _ r' m' er' en' hm'=>?_⟩) fun st' x'=>hP st' (x1.trans x')
    · rcases hA with h | h | h | h
      · rw [hin] at h;cases h
      · exact absurd (by rw [er];exact KR.qGS r) h
      · omega
      · omega
    · have:r=r':=K31.qH9 (er.symm.trans er')
      subst this
      have:m=m':=by omega
      subst this
      exact⟨sd',esd',hi',hp⟩
end K30
namespace K30
open PySem PySem.Spec PyProof.Rows L2 L3 KH KS KW K20
open KR (Ev EvB qC qJ qQ seq1 qz qT ifS evb qAe qAR qR qF qL rdR qX qg qk qAG qa rn Rl InT Res qAn orD qP Nums wd ag qw qh ql qq qu qAA qAq qAH qV qe qS qAK Frm inR keys numAt qBC qBl qAt qEr qAI qA7 yn qBf cntK qDP)
open K31 (EvX qBL qAy qAU xb qBO qAJ xIf qAO qAs qBu qC6 qAT qAX qCN qAb qA3 at2 qAL qAf qA8 qBw qAa qAp qAv qA6 qEF qBh qDA qC2 qEq)
abbrev wa4:TSD:=(tseq (qY (qCm (qCK (qN qAW (qB (qD 0) qH))) (qK (qG (qW false) (qG qM (qD 2) (qD 0)) (qD 1))) (qD 0) [(3, "found"),(0, "nodes")])) qI)
abbrev wa3:TSD:=(tseq (qi (qAD (qK (qG (qW false) (qD 2) (qE (Dt.str "subnum")))) (qAD (qK (qG (qW false) (qG qM (qD 1) (qE (Dt.int 0))) (qE (Dt.str "sub")))) (qK (qG (qW false) (qG qM (qG qM (qD 0) (qG qM (qD 1) (qE (Dt.int 2)))) (qE (Dt.int 0))) (qE (Dt.str "num")))))) (tseq (qAE (qv (qB (qE (Dt.str "num")) (qB (qG qAP (qHI (qG qM (qG qM (qD 0) (qG qM (qD 1) (qE (Dt.int 2)))) (qE (Dt.int 1)))) (qE (Dt.int 65536))) qH))) (qU 3)) qI) qI) wa4)
abbrev wa2:TSD:=(tseq (qi (qAD (qK (qG (qW false) (qD 2) (qE (Dt.str "ungroup")))) (qAD (qK (qG (qW false) (qN qAW (qB (qD 1) qH)) (qE (Dt.int 3)))) (qAD (qK (qG (qW false) (qG qM (qG qM (qD 0) (qG qM (qD 1) (qE (Dt.int 2)))) (qE (Dt.int 0))) (qG qM (qD 1) (qE (Dt.int 0))))) (qK (qG (qAd false) (qG qM (qD 1) (qE (Dt.int 0))) (qAQ (qB (qE (Dt.str "add")) (qB (qE (Dt.str "mul")) qH)))))))) (tseq (qAE (qv (qB (qG qM (qD 1) (qE (Dt.int 0))) (qB (qG qM (qD 1) (qE (Dt.int 1))) (qB (qG qM (qG qM (qD 0) (qG qM (qD 1) (qE (Dt.int 2)))) (qE (Dt.int 1))) qH)))) (qU 3)) qI) qI) wa3)
abbrev qCp:TSD:=(tseq (qAE (qE Dt.non) (qU 3)) (tseq (qi (qAD (qK (qG (qW false) (qD 2) (qE (Dt.str "group")))) (qAD (qK (qG (qW false) (qN qAW (qB (qD 1) qH)) (qE (Dt.int 3)))) (qAD (qK (qG (qW false) (qG qM (qG qM (qD 0) (qG qM (qD 1) (qE (Dt.int 1)))) (qE (Dt.int 0))) (qG qM (qD 1) (qE (Dt.int 0))))) (qK (qG (qAd false) (qG qM (qD 1) (qE (Dt.int 0))) (qAQ (qB (qE (Dt.str "add")) (qB (qE (Dt.str "mul")) qH)))))))) (tseq (qAE (qv (qB (qG qM (qD 1) (qE (Dt.int 0))) (qB (qG qM (qG qM (qD 0) (qG qM (qD 1) (qE (Dt.int 1)))) (qE (Dt.int 2))) (qB (qG qM (qD 1) (qE (Dt.int 2))) qH)))) (qU 3)) qI) qI) wa2))
def qBv:RDL:=fun ds st P=>∃ (ns:List Nd) (ss:List Nat) (sd:Nd) (s:Nat) (rule:Str),ds=[tab ns,nD sd,.str rule]∧OkT 3 ns ss∧ns.length≤300∧OkN ss 3 sd s∧∀ (is:List Nat) (k:Nat) st',qj st st'→st'[k]? = some (.rw (is.map fun i=>Dt.int ((i:Nat):Int)))→st.length≤k→(∀ i∈is,i<ns.length)→is.length≤300→P (.lst k) st'
theorem qPX {ρ:Rho} {st:Sto} {ta tb:TD} {a:Nd} {f:Dt} (hf:okD 8 f=true) (h:Ev ta ρ st (nD a)) (h2:Ev tb ρ st f):Ev (qG (qW false) ta tb) ρ st (.bl (eqD 8 (nD a) f)):=fun P hp=>h _ (h2 _ (by
  obtain⟨l1,e1⟩:∃ l,nD a = .tup l:=⟨_,qw a⟩
  have q:qW false (nD a) f st P=(okD 8 (nD a)=true∧okD 8 f=true∧P (.bl (eqD 8 (nD a) f != false)) st):=by rw [e1];cases f<;>rfl
  rw [q]
  refine⟨K31.qIG a,hf,?_⟩
  rw [Bool.bne_false];exact hp))
section
variable {ns:List Nd} {ss:List Nat} {sd:Nd} {rule:Str} {st:Sto} {Pd:VD} {f:Dt}
noncomputable abbrev qρ (ns:List Nd) (sd:Nd) (rule:Str) (f:Dt):Rho:=[some (tab ns),some (.tup (.str (wd sd)::ag sd)),some (.str rule),some f]
theorem qON (hf:okD 8 f=true) (hl:ns.length≤300) (hP:∀ (is:List Nat) (k:Nat) st',qj st st'→st'[k]? = some (.rw (is.map fun i=>Dt.int ((i:Nat):Int)))→st.length≤k→(∀ i∈is,i<ns.length)→is.length≤300→Pd (.lst k) st'):wa4 (Ed Pd) (qρ ns sd rule f) st:=by
  have hlen:Ev (qN qAW (qB (qD 0) qH)) (qρ ns sd rule f) st (.int (ns.length:Nat)):=by
    have:=qu (st:=st) (te:=qD 0) (ρ:=qρ ns sd rule f) (l:=ns.map nD) (qC (i:=0) rfl)
    k_dat 0"r12"
    exact this
  refine (show qCm _ _ _ _ (qρ ns sd rule f) st Pd from qEq hlen (by omega) ?_)
  refine⟨fun i ys s'=>qj st s'∧∃ is:List Nat,ys=is.map (fun i=>Dt.int ((i:Nat):Int))∧(∀ j∈is,j<ns.length)∧is.length≤i,⟨.refl _,[],rfl,(fun j h=>by cases h),Nat.le_refl _⟩,fun _ _ _ _ _=>trivial,?_,?_⟩
  · rintro i v ys s' hd ⟨x1,is,rfl,hi,hle⟩
    have hil:=qm hd
    rw [qBJ] at hil
    have hv':v = .int ((i:Nat):Int):=by
      have:=(qBz hd).2
      rw [this];congr 1;omega
    subst hv'
    have gi:=List.getElem?_eq_getElem hil
    generalize ns[i]=nd at gi
    refine⟨by rw [List.length_map];exact qAh (by omega),?_⟩
    have e1:Ev (qG qM (qD 2) (qD 0)) (some (.int ((i:Nat):Int))::qIB [(3, "found"),(0, "nodes")] (qρ ns sd rule f)) s' (nD nd):=qh (l:=ns.map nD) (qC (i:=2) (d:=tab ns) rfl) rfl (qC (i:=0) rfl) (by rw [List.getElem?_map,gi];rfl)
    refine evb (qPX hf e1 (qC (i:=1) rfl)) _ ?_
    cases eqD 8 (nD nd) f with
    | true =>
      refine qBA ⟨x1,is++[i],by rw [List.map_append];rfl,fun j hj=>?_,by rw [List.length_append];show is.length+1≤i+1;omega⟩
      rcases List.mem_append.mp hj with hj | hj
      · exact hi j hj
      · have:j=i:=by simpa using hj
        rw [this];exact hil
    | false=>exact qBB ⟨x1,is,rfl,hi,by omega⟩
  · rintro ys s' ⟨x1,is,rfl,hi,hle⟩
    rw [qBJ] at hle
    have sl:st.length≤s'.length:=by
      cases hh:st.length with
      | zero=>exact Nat.zero_le _
      | succ k =>
        have:k<st.length:=by omega
        exact qm (x1 k _ (List.getElem?_eq_getElem this))
    exact hP is s'.length _ (x1.trans (.app _ _)) qAZ sl hi (by omega)
end
theorem qEz {ds:List Dt} {st:Sto} {Pd:VD} (h:qBv ds st Pd):qCp (Ed Pd) (qd ["nodes", "seen", "rule", "found"] ds) st:=by
  obtain⟨ns,ss,sd,s,rule,rfl,hT,hl,o,hP⟩:=h
  rw [qw]
  refine qz (qJ _ ?_)
  have k4:∀ (f:Dt) (st':Sto),okD 8 f=true→qj st st'→wa4 (Ed Pd) (qρ ns sd rule f) st':=fun f st' hf x'=>qON hf hl fun is k st2 x2 g lk hi hil=>hP is k st2 (x'.trans x2) g (by
    have:st.length≤st'.length:=by
      cases hh:st.length with
      | zero=>exact Nat.zero_le _
      | succ j =>
        have:j<st.length:=by omega
        exact qm (x' j _ (List.getElem?_eq_getElem this))
    omega) hi hil
  have vl:∀ (f:Dt) (st:Sto),Ev (qN qAW (qB (qD 1) qH)) (qρ ns sd rule f) st (.int ((Dt.str (wd sd)::ag sd).length:Nat)):=fun f st=>qu (qC (i:=1) rfl)
  have vr:∀ (s:Str) (f:Dt) (st:Sto),Ev (qG (qW false) (qD 2) (qE (.str s))) (qρ ns sd rule f) st (.bl (rule==s)):=fun s f st=>qX (qC (i:=2) rfl)
  have v0:∀ (f:Dt) (st:Sto),Ev (qG qM (qD 1) (qE (Dt.int 0))) (qρ ns sd rule f) st (.str (wd sd)):=fun f st=>qQ (j:=0) (qC (i:=1) rfl) rfl
  by_cases h2:∃ w x y,sd = .two w x y
  · obtain⟨w,x,y,rfl⟩:=h2
    obtain⟨ox,oy,_⟩:=o
    have lx:x<ns.length:=by rw [hT.len];exact (List.getElem?_eq_some_iff.mp ox).1
    have ly:y<ns.length:=by rw [hT.len];exact (List.getElem?_eq_some_iff.mp oy).1
    have gx:=List.getElem?_eq_getElem lx
    have gy:=List.getElem?_eq_getElem ly
    generalize ns[x]=nx at gx
    generalize ns[y]=ny at gy
    have nt:∀ {i:Nat} {m:Nd} {te:TD} {f:Dt} {st:Sto},Ev te (qρ ns (.two w x y) rule f) st (.int (i:Nat))→ns[i]? = some m→Ev (qG qM (qD 0) te) (qρ ns (.two w x y) rule f) st (.tup (.str (wd m)::ag m)):=fun h1 h2=>by
      rw [← qw];exact qh (l:=ns.map nD) (qC (i:=0) (d:=tab ns) rfl) rfl h1 (by rw [List.getElem?_map,h2];rfl)
    have i1:∀ (f:Dt) (st:Sto),Ev (qG qM (qD 1) (qE (Dt.int 1))) (qρ ns (.two w x y) rule f) st (.int (x:Nat)):=fun f st=>qQ (j:=1) (qC (i:=1) rfl) rfl
    have i2:∀ (f:Dt) (st:Sto),Ev (qG qM (qD 1) (qE (Dt.int 2))) (qρ ns (.two w x y) rule f) st (.int (y:Nat)):=fun f st=>qQ (j:=2) (qC (i:=1) rfl) rfl
    have k3:∀ (f:Dt) (st':Sto),okD 8 f=true→qj st st'→wa3 (Ed Pd) (qρ ns (.two w x y) rule f) st':=fun f st' hf x'=>by
      refine qT (qS (evb (vr _ f _)) fun _=>qS (evb (qX (v0 f _))) fun _=>evb (qX (qQ (j:=0) (nt (i2 f _) gy) rfl))) (fun z=>?_) (fun _=>k4 f st' hf x')
      rw [Bool.and_eq_true,Bool.and_eq_true] at z
      obtain⟨a,rfl⟩:=qA3 z.2.2
      refine qz (qR (ds:=[.str "num",.int (-a%65536)]) (qF qJ (qF (qV (qAa (qQ (j:=1) (nt (i2 f _) gy) rfl)) qJ (by decide)) qL)) (by show 2≤sizeLine;decide) _ ?_)
      exact k4 _ st' rfl x'
    have k2:∀ (f:Dt) (st':Sto),okD 8 f=true→qj st st'→wa2 (Ed Pd) (qρ ns (.two w x y) rule f) st':=fun f st' hf x'=>by
      refine xIf (qAJ (qAU (evb (vr _ f _))) fun _ st2 _=>qAJ (qAU (evb (qg (vl f _) qJ))) fun _ st3 _=>qAJ (qAU (evb (qBg (qQ (j:=0) (nt (i2 f _) gy) rfl) (v0 f _)))) fun _ st4 _=>xb (qAO (neg:=false) (ss:=["add", "mul"]) (v0 f _) (fun _ h=>h) (by decide))) (fun z st2 x2=>?_) (fun _ st2 x2=>k3 f st2 hf (x'.trans x2))
      rw [Bool.and_eq_true,Bool.and_eq_true,Bool.and_eq_true] at z
      obtain⟨p,q,rfl⟩:=qAb z.2.2.1
      refine qz (qR (ds:=[.str (nm w),.int (x:Nat),.int (p:Nat)]) (qF (v0 f _) (qF (i1 f _) (qF (qQ (j:=1) (nt (i2 f _) gy) rfl) qL))) (by show 3≤sizeLine;decide) _ ?_)
      exact k3 _ st2 rfl (x'.trans x2)
    refine xIf (qAJ (qAU (evb (vr _ .non _))) fun _ st2 _=>qAJ (qAU (evb (qg (vl .non _) qJ))) fun _ st3 _=>qAJ (qAU (evb (qBg (qQ (j:=0) (nt (i1 .non _) gx) rfl) (v0 .non _)))) fun _ st4 _=>xb (qAO (neg:=false) (ss:=["add", "mul"]) (v0 .non _) (fun _ h=>h) (by decide))) (fun z st2 x2=>?_) (fun _ st2 x2=>k2 .non st2 rfl x2)
    rw [Bool.and_eq_true,Bool.and_eq_true,Bool.and_eq_true] at z
    obtain⟨p,q,rfl⟩:=qAb z.2.2.1
    refine qz (qR (ds:=[.str (nm w),.int (q:Nat),.int (y:Nat)]) (qF (v0 .non _) (qF (qQ (j:=2) (nt (i1 .non _) gx) rfl) (qF (i2 .non _) qL))) (by show 3≤sizeLine;decide) _ ?_)
    exact k2 _ st2 rfl x2
  · have e3:decide ((((Dt.str (wd sd)::ag sd).length:Nat):Int)=3)=false:=by
      cases sd with
      | two w x y=>exact absurd ⟨w,x,y,rfl⟩ h2
      | _=>rfl
    have es:(wd sd == "sub")=false:=by
      cases sd with
      | two w x y=>exact absurd ⟨w,x,y,rfl⟩ h2
      | _=>rfl
    refine qT (b:=(rule == "group")&&false) (qS (evb (vr _ .non _)) fun _=>qS (b1:=false) (b2:=false) (qAf e3 (evb (qg (vl .non _) qJ))) (fun z=>nomatch z)) (fun z=>by rw [Bool.and_false] at z;cases z) (fun _=>?_)
    refine qT (b:=(rule == "ungroup")&&false) (qS (evb (vr _ .non _)) fun _=>qS (b1:=false) (b2:=false) (qAf e3 (evb (qg (vl .non _) qJ))) (fun z=>nomatch z)) (fun z=>by rw [Bool.and_false] at z;cases z) (fun _=>?_)
    refine qT (b:=(rule == "subnum")&&false) (qS (evb (vr _ .non _)) fun _=>qS (b1:=false) (b2:=false) (qAf es (evb (qX (v0 .non _)))) (fun z=>nomatch z)) (fun z=>by rw [Bool.and_false] at z;cases z) (fun _=>?_)
    exact k4 .non st rfl (.refl _)
end K30
namespace K30
open PySem PySem.Spec PyProof.Rows L2 L3 KH KS KW K20
open KR (Ev EvB qC qJ qQ seq1 qz qT ifS evb qAe qAR qR qF qL rdR qX qg qk qAG qa rn Rl InT Res qAn orD qP Nums wd ag qw qh ql qq qu qAA qAq qAH qV qe qS qAK Frm inR keys numAt qBC qBl qAt qEr qAI qA7 yn qBf cntK qDP)
open K31 (EvX qBL qAy qAU xb qBO qAJ xIf qAO qAs qBu qC6 qAT qAX qCN qAb qA3 at2 qAL qAf qA8 qBw qAa qAp qAv qA6 qEF qBh qDA qC2 qEq qAm KD FI)
abbrev fuB:TSD:=(tseq (qi (qAD (qK (qG (qW false) (qD 4) (qE (Dt.str "group")))) (qK (qG (qW false) (qG qM (qG qM (qD 1) (qG qM (qD 5) (qE (Dt.int 1)))) (qE (Dt.int 0))) (qG qM (qD 5) (qE (Dt.int 0)))))) (tseq (qD8 (qA0 (qD 2) (qv (qB (qG qM (qD 5) (qE (Dt.int 0))) (qB (qG qM (qG qM (qD 1) (qG qM (qD 5) (qE (Dt.int 1)))) (qE (Dt.int 2))) (qB (qG qM (qD 5) (qE (Dt.int 2))) qH)))))) qI) qI) (tseq (qi (qAD (qK (qG (qW false) (qD 4) (qE (Dt.str "ungroup")))) (qK (qG (qW false) (qG qM (qG qM (qD 1) (qG qM (qD 5) (qE (Dt.int 2)))) (qE (Dt.int 0))) (qG qM (qD 5) (qE (Dt.int 0)))))) (tseq (qD8 (qA0 (qD 2) (qv (qB (qG qM (qD 5) (qE (Dt.int 0))) (qB (qG qM (qD 5) (qE (Dt.int 1))) (qB (qG qM (qG qM (qD 1) (qG qM (qD 5) (qE (Dt.int 2)))) (qE (Dt.int 1))) qH)))))) qI) qI) (tseq (qi (qAD (qK (qG (qW false) (qD 4) (qE (Dt.str "subnum")))) (qK (qG (qW false) (qG qM (qG qM (qD 1) (qG qM (qD 5) (qE (Dt.int 2)))) (qE (Dt.int 0))) (qE (Dt.str "num"))))) (tseq (qD8 (qA0 (qD 2) (qv (qB (qE (Dt.str "num")) (qB (qG qAP (qHI (qG qM (qG qM (qD 1) (qG qM (qD 5) (qE (Dt.int 2)))) (qE (Dt.int 1)))) (qE (Dt.int 65536))) qH))))) qI) qI) qI)))
abbrev fuA:TSD:=(tseq (qi (qAD (qK (qG (qAN fun i j=>decide (i<j)) (qN qAW (qB (qD 2) qH)) (qE (Dt.int 60)))) (qAD (qK (qG (qW false) (qG qAP (qN K31.qA5 (qB (qD 0) qH)) (qE (Dt.int 3))) (qE (Dt.int 1)))) (qAD (qK (qG (qAN fun i j=>decide (j<i)) (qN qAW (qB (qD 3) qH)) (qE (Dt.int 1)))) (qK (qG (qAd false) (qG qM (qD 3) (qE (Dt.int 0))) (qAQ (qB (qE (Dt.str "add")) (qB (qE (Dt.str "mul")) (qB (qE (Dt.str "sub")) qH))))))))) (tseq (qAE (qD 3) (qU 5)) fuB) qI) qI)
abbrev fuI:TSD:=(tseq (qDo (qCl (qAQ (qB (qE (Dt.str "group")) (qB (qE (Dt.str "ungroup")) (qB (qE (Dt.str "subnum")) qH))))) (qU 4) fuA) qI)
abbrev fu1:TSD:=(tseq (qDo (qCl (qD 1)) (qU 3) fuI) (tseq (qY (qN qGG (qB (qD 2) qH))) qI))
abbrev qD6:TSD:=(tseq (qAE (qN qKy (qB (qD 1) qH)) (qU 2)) fu1)
def qGc:RDL:=fun ds st P=>∃ (k e n c:Nat) (ns:List Nd) (ss:List Nat),ds=[.lst k,.lst n]∧n≠k∧st[n]? = some (.rw (ns.map nD))∧OkT 3 ns ss∧0<ns.length∧ns.length≤60∧qAm st k e c∧c<800000∧∀ ns' ss' st',OkT 3 ns' ss'→0<ns'.length→ns'.length≤300→KD k st st'→qAm st' k e (c+200)→P (tab ns') st'
section
variable {st:Sto} {k e n f c:Nat} {ns:List Nd} {ss:List Nat} {E:qBH} {w:Op2} {x y:Nat} {rule:Str} {a0:Option Dt}
noncomputable abbrev gρ (a0:Option Dt) (n f:Nat) (w:Op2) (x y:Nat) (rule:Str):Rho:=[a0,some (.lst n),some (.lst f),some (.tup [.str (nm w),.int (x:Nat),.int (y:Nat)]),some (.str rule),some (.tup [.str (nm w),.int (x:Nat),.int (y:Nat)])]
theorem qF3 {Kp:Sto→Prop} {C:TBD} {N:TSD} {b:Bool} {ρ:Rho} {xs:List Nd} {ts:List Nat} {s1:Sto} {te:TD} (hxt:∀ s s',Kp s→qj s s'→Kp s') (hset:∀ s v,Kp s→Kp (s.set f v)) (kp:Kp s1) (g:FI st k e f ns xs ss ts c s1) (hf:st.length≤f) (hk:f≠k) (he:f≠e) (hl:(ns++xs).length<400) (hv:ρ[2]? = some (some (.lst f))) (hb:EvB C ρ s1 b) (ht:b=true→∃ nd s,OkN (ss++ts) 3 nd s∧Ev te ρ s1 (nD nd))
    (q:∀ xs' ts' s2,FI st k e f ns xs' ss ts' c s2→Kp s2→xs'.length≤xs.length+1→N E ρ s2):tseq (qi C (tseq (qD8 (qA0 (qD 2) te)) qI) qI) N E ρ s1:=by
  refine qT hb (fun z=>?_) (fun _=>q xs ts s1 g kp (by omega))
  obtain⟨nd,s,o,ev⟩:=ht z
  refine K31.qQt (qC (i:=2) hv) (qAy ev) g.f (by rw [List.length_map];exact qAh (by omega)) fun s2 x2=>?_
  exact q _ _ _ ((g.ext x2).app hf hk he o) (hset _ _ (hxt _ _ kp x2)) (by rw [List.length_append];exact Nat.le_refl _)
theorem qNu {Kp:Sto→Prop} (hxt:∀ s s',Kp s→qj s s'→Kp s') (hset:∀ s v,Kp s→Kp (s.set f v)) {xs:List Nd} {ts:List Nat} {s1:Sto} (kp:Kp s1) (g:FI st k e f ns xs ss ts c s1) (hT:OkT 3 ns ss) (hn:st[n]? = some (.rw (ns.map nD))) (hnk:n≠k) (hf:st.length≤f) (hk:f≠k) (he:f≠e) (hl:(ns++xs).length<60) (hw:qAt w=true) (ox:ss[x]? = some 0) (oy:ss[y]? = some 0)
    (q:∀ xs' ts' s2,FI st k e f ns xs' ss ts' c s2→Kp s2→xs'.length≤xs.length+3→E.nx (gρ a0 n f w x y rule) s2):fuB E (gρ a0 n f w x y rule) s1:=by
  have lx:x<ns.length:=by rw [hT.len];exact (List.getElem?_eq_some_iff.mp ox).1
  have ly:y<ns.length:=by rw [hT.len];exact (List.getElem?_eq_some_iff.mp oy).1
  have gx:=List.getElem?_eq_getElem lx
  have gy:=List.getElem?_eq_getElem ly
  obtain⟨sx,_,okx⟩:=at2 hT gx
  obtain⟨sy,_,oky⟩:=at2 hT gy
  have okx:=qAL okx
  have oky:=qAL oky
  generalize ns[x]=nx at gx okx
  generalize ns[y]=ny at gy oky
  have app:∀ {ts:List Nat} {i:Nat},ss[i]? = some 0→(ss++ts)[i]? = some 0:=fun h=>by rw [List.getElem?_append_left (List.getElem?_eq_some_iff.mp h).1];exact h
  have hs:∀ {s2:Sto} {xs':List Nd} {ts':List Nat},FI st k e f ns xs' ss ts' c s2→qa s2 (.lst n) ns:=fun g=>qAC ⟨_,g.kd n _ hnk hn,rfl⟩
  have srt:∀ i j:Nat,ss[i]? = some 0→ss[j]? = some 0→∀ ts,OkN (ss++ts) 3 (.two w i j) 0:=fun i j hi hj ts=>⟨app hi,app hj,by cases w<;>first | rfl | cases hw⟩
  have j0:∀ s2,Ev (qG qM (qD 5) (qE (Dt.int 0))) (gρ a0 n f w x y rule) s2 (.str (nm w)):=fun s2=>qQ (j:=0) (qC (i:=5) rfl) rfl
  have j1:∀ s2,Ev (qG qM (qD 5) (qE (Dt.int 1))) (gρ a0 n f w x y rule) s2 (.int (x:Nat)):=fun s2=>qQ (j:=1) (qC (i:=5) rfl) rfl
  have j2:∀ s2,Ev (qG qM (qD 5) (qE (Dt.int 2))) (gρ a0 n f w x y rule) s2 (.int (y:Nat)):=fun s2=>qQ (j:=2) (qC (i:=5) rfl) rfl
  have v4:∀ (s:Str) s2,Ev (qG (qW false) (qD 4) (qE (.str s))) (gρ a0 n f w x y rule) s2 (.bl (rule==s)):=fun s s2=>qX (qC (i:=4) rfl)
  rw [List.length_append] at hl
  refine qF3 hxt hset kp g hf hk he (by rw [List.length_append];omega) rfl (qS (evb (v4 _ _)) fun _=>evb (qBg (qQ (j:=0) (qAT (j1 _) rfl (hs g) gx) rfl) (j0 _))) (fun z=>?_) fun xs1 ts1 s2 g1 kp1 l1=>?_
  · rw [Bool.and_eq_true] at z
    obtain⟨s,t,rfl⟩:=qAb z.2
    refine⟨.two w t y,0,srt t y okx.2.1 oy _,?_⟩
    exact qR (ds:=[.str (nm w),.int (t:Nat),.int (y:Nat)]) (qF (j0 _) (qF (qQ (j:=2) (qAT (j1 _) rfl (hs g) gx) rfl) (qF (j2 _) qL))) (by show 3≤sizeLine;decide)
  refine qF3 hxt hset kp1 g1 hf hk he (by rw [List.length_append];omega) rfl (qS (evb (v4 _ _)) fun _=>evb (qBg (qQ (j:=0) (qAT (j2 _) rfl (hs g1) gy) rfl) (j0 _))) (fun z=>?_) fun xs2 ts2 s3 g2 kp2 l2=>?_
  · rw [Bool.and_eq_true] at z
    obtain⟨s,t,rfl⟩:=qAb z.2
    refine⟨.two w x s,0,srt x s ox oky.1 _,?_⟩
    exact qR (ds:=[.str (nm w),.int (x:Nat),.int (s:Nat)]) (qF (j0 _) (qF (j1 _) (qF (qQ (j:=1) (qAT (j2 _) rfl (hs g1) gy) rfl) qL))) (by show 3≤sizeLine;decide)
  refine qF3 hxt hset kp2 g2 hf hk he (by rw [List.length_append];omega) rfl (qS (evb (v4 _ _)) fun _=>evb (qX (qQ (j:=0) (qAT (j2 _) rfl (hs g2) gy) rfl))) (fun z=>?_) fun xs3 ts3 s4 g3 kp3 l3=>?_
  · rw [Bool.and_eq_true] at z
    obtain⟨a,rfl⟩:=qA3 z.2
    refine⟨.num (-a%65536),0,⟨Int.emod_nonneg _ (by decide),Int.emod_lt_of_pos _ (by decide),rfl⟩,?_⟩
    exact qR (ds:=[.str "num",.int (-a%65536)]) (qF qJ (qF (qV (qAa (qQ (j:=1) (qAT (j2 _) rfl (hs g2) gy) rfl)) qJ (by decide)) qL)) (by show 2≤sizeLine;decide)
  exact q xs3 ts3 s4 g3 kp3 (by omega)
end
theorem forL {E:qBH} {N:TSD} {ρ:Rho} {st:Sto} {g:TGD} {tb:TSD} {ss:List Str} {t:TAD} (h:∀ P:List Dt→Sto→Prop,P (ss.map .str) st→t ρ st P) (hl:ss.length≤1000) (q:qFJ (ss.map .str) (fun st'=>qo st' (.lst st.length)=some (ss.map .str)) g tb { E with nx:=N E } ρ (st++[.rw (ss.map .str)])):tseq (qDo (qCl (qAQ t)) g tb) N E ρ st:=by
  show qCl (qAQ t) ρ st fun items ok st1=>qFJ items ok g tb { E with nx:=N E } ρ st1
  unfold qCl qAQ
  refine h _ ⟨by rw [List.length_map];exact Nat.le_of_lt (qAh hl),?_⟩
  k_dat 0"r63"
  k_dat 0"r64"
  exact q
noncomputable def frS:List Str:=["group", "ungroup", "subnum"]
theorem qGe {ds:List Dt} {st:Sto} {Pd:VD} (h:qGc ds st Pd):qD6 (Ed Pd) (qd ["deck", "nodes", "found", "node", "rule", "one_v"] ds) st:=by
  obtain⟨k,e,n,c,ns,ss,rfl,hnk,hn,hT,h0,h60,hd,hc,hP⟩:=h
  have hfe:st.length≠e:=by have:=hd.ek.1;omega
  have hfk:st.length≠k:=by have:=hd.ek.2;omega
  refine qz (qAX (qF (qC (i:=1) rfl) qL) ?_)
  show (match qo st (.lst n) with | some xs=>_ | none=>_)
  rw [show qo st (.lst n)=some (ns.map nD) from qAC ⟨_,hn,rfl⟩]
  have sq:∀ s',KD k st s'→qo s' (.lst n)=some (ns.map nD):=fun s' kd=>qAC ⟨_,kd n _ hnk hn,rfl⟩
  have g0:FI st k e st.length ns [] ss [] c (st++[.rw (ns.map nD)]):=⟨by rw [List.append_nil];exact qAZ,by rw [List.append_nil,List.append_nil];exact hT,.of (.app _ _),hd.ext (.app _ _)⟩
  show fu1 (Ed Pd) [some (.lst k),some (.lst n),some (.lst st.length),none,none,none] (st++[SO.rw (ns.map nD)])
  generalize st++[SO.rw (ns.map nD)]=s0 at g0
  generalize ef:st.length=f at g0 hfe hfk
  refine qEF (qC (i:=1) rfl) (sq _ g0.kd) ?_
  refine⟨fun i ρ s'=>(∃ a3 a4 a5,ρ=[some (.lst k),some (.lst n),some (.lst f),a3,a4,a5])∧∃ xs ts,FI st k e f ns xs ss ts (c+3 * i) s'∧(ns++xs).length≤63,⟨⟨_,_,_,rfl⟩,[],[],g0,by rw [List.append_nil];omega⟩,?_,?_,?_⟩
  · rintro i ρ s' _ ⟨_,xs,ts,g,_⟩
    exact sq _ g.kd
  · rintro i d ρ s' hi ⟨⟨a3,a4,a5,rfl⟩,xs,ts,g,hx⟩
    have hil:=qm hi
    rw [List.length_map] at hil
    rw [List.getElem?_map,List.getElem?_eq_getElem hil] at hi
    have hi:d=nD ns[i]:=(Option.some.inj hi).symm
    obtain⟨s,es,os⟩:=at2 hT (List.getElem?_eq_getElem hil)
    have os:=qAL os
    generalize ns[i]=nd at hi os
    rw [qw] at hi
    subst hi
    show fuI _ [some (.lst k),some (.lst n),some (.lst f),some (.tup (.str (wd nd)::ag nd)),a4,a5] s'
    have fL:f<s'.length:=qm g.f
    have kL:k<s'.length:=g.dk.ek.2
    refine forL (ss:=frS) (fun _ h=>h) (by decide) ?_
    have g1:=g.ext (.app s' (SO.rw (frS.map .str)))
    have gL:(s'++[SO.rw (frS.map .str)])[s'.length]? = some (.rw (frS.map .str)):=qAZ
    generalize s'++[SO.rw (frS.map .str)]=s1 at g1 gL
    generalize s'.length=L at fL kL gL
    refine⟨fun j ρ s2=>(∃ a4 a5,ρ=[some (.lst k),some (.lst n),some (.lst f),some (.tup (.str (wd nd)::ag nd)),a4,a5])∧s2[L]? = some (.rw (frS.map .str))∧∃ xs ts,FI st k e f ns xs ss ts (c+3 * i+j) s2∧(ns++xs).length≤63,⟨⟨_,_,rfl⟩,gL,xs,ts,g1,hx⟩,fun j ρ s2 _ h=>qAC ⟨_,h.2.1,rfl⟩,?_,?_⟩
    · rintro j dr ρ s2 hj ⟨⟨a4,a5,rfl⟩,hL2,xs,ts,g2,hx2⟩
      have hj3:j<3:=qm hj
      obtain⟨r,_,rfl⟩:=K31.qAx (List.mem_of_getElem? hj)
      show fuA _ [some (.lst k),some (.lst n),some (.lst f),some (.tup (.str (wd nd)::ag nd)),some (.str r),a5] s2
      have nxt:∀ s3 a4 a5,s3[L]? = some (.rw (frS.map .str))→FI st k e f ns xs ss ts (c+3 * i+(j+1)) s3→(∃ a4' a5',[some (Dt.lst k),some (.lst n),some (.lst f),some (.tup (.str (wd nd)::ag nd)),a4,a5]=[some (.lst k),some (.lst n),some (.lst f),some (.tup (.str (wd nd)::ag nd)),a4',a5'])∧s3[L]? = some (.rw (frS.map .str))∧∃ xs ts,FI st k e f ns xs ss ts (c+3 * i+(j+1)) s3∧(ns++xs).length≤63:=fun s3 a4 a5 h1 h2=>⟨⟨_,_,rfl⟩,h1,xs,ts,h2,hx2⟩
      have hlen:Ev (qN qAW (qB (qD 2) qH)) [some (.lst k),some (.lst n),some (.lst f),some (.tup (.str (wd nd)::ag nd)),some (.str r),a5] s2 (.int ((ns++xs).length:Nat)):=by
        have:=qq (te:=qD 2) (ρ:=[some (.lst k),some (.lst n),some (.lst f),some (.tup (.str (wd nd)::ag nd)),some (.str r),a5]) (qC (i:=2) rfl) (show qo s2 (.lst f)=some ((ns++xs).map nD) from qAC ⟨_,g2.f,rfl⟩)
        k_dat 0"r12"
        exact this
      refine seq1 ?_
      refine qA6 hlen qJ _ ?_
      by_cases b1:(((ns++xs).length:Nat):Int)<60
      rotate_left
      · rw [decide_eq_false b1]
        exact qBB (qBB (nxt s2 _ _ hL2 ⟨g2.f,g2.t,g2.kd,g2.dk.mono (by omega)⟩))
      rw [decide_eq_true b1]
      refine qBA ?_
      refine qAX (qF (qC (i:=0) rfl) qL) ⟨k,e,c+3 * i+j,rfl,g2.dk,by omega,fun v s3 kd dk=>?_⟩
      have g3:FI st k e f ns xs ss ts (c+3 * i+(j+1)) s3:=⟨kd f _ hfk g2.f,g2.t,g2.kd.trans kd,dk⟩
      have hL3:=kd L _ (by omega) hL2
      refine⟨by decide,rfl,rfl,?_⟩
      cases b2:(eqD 8 (Dt.int (v%3)) (Dt.int 1) != false) with
      | false=>exact qBB (qBB (nxt s3 _ _ hL3 g3))
      | true =>
      refine qBA ?_
      refine evb (qAH (qu (l:=.str (wd nd)::ag nd) (qC (i:=3) rfl)) qJ) _ ?_
      cases b3:decide ((1:Int)<((Dt.str (wd nd)::ag nd).length:Nat)) with
      | false=>exact qBB (qBB (nxt s3 _ _ hL3 g3))
      | true =>
      refine qBA ?_
      refine xb (qAO (ss:=["add", "mul", "sub"]) (qQ (j:=0) (qC (i:=3) rfl) rfl) (fun _ h=>h) (by decide)) _ fun s4 x4=>?_
      rw [Bool.bne_false]
      have g4:=g3.ext x4
      have hL4:=x4 _ _ hL3
      cases b4:(["add", "mul", "sub"]:List Str).contains (wd nd) with
      | false=>exact qBB (nxt s4 _ _ hL4 g4)
      | true =>
      refine qBA ?_
      obtain⟨w,x,y,rfl,hw⟩:=K31.qMa b4
      obtain⟨ox,oy,_⟩:=os
      refine qz (qC (i:=3) (d:=.tup [.str (nm w),.int (x:Nat),.int (y:Nat)]) rfl _ ?_)
      refine qNu (w:=w) (x:=x) (y:=y) (rule:=r) (Kp:=fun s=>s[L]? = some (.rw (frS.map .str))) (fun _ _ h x=>x _ _ h) (fun _ _ h=>qB8 h (by omega)) hL4 g4 hT hn hnk (by omega) hfk hfe (by omega) hw ox oy fun xs' ts' s5 g5 kp l5=>?_
      exact⟨⟨_,_,rfl⟩,kp,xs',ts',g5,by rw [List.length_append] at b1 ⊢;omega⟩
    · rintro ρ s2 ⟨⟨a4,a5,rfl⟩,hL2,xs,ts,g2,hx2⟩
      exact⟨⟨_,_,_,rfl⟩,xs,ts,⟨g2.f,g2.t,g2.kd,g2.dk.mono (by rw [List.length_map];show c+3 * i+3≤_;omega)⟩,hx2⟩
  · rintro ρ s' ⟨⟨a3,a4,a5,rfl⟩,xs,ts,g,hx⟩
    rw [List.length_map] at g
    show tseq (qY (qN qGG (qB (qD 2) qH))) qI (Ed Pd) [some (.lst k),some (.lst n),some (.lst f),a3,a4,a5] s'
    refine qCN (qF (qC (i:=2) rfl) qL) ?_
    show (match qo s' (.lst f) with | some xs=>_ | none=>_)
    rw [show qo s' (.lst f)=some ((ns++xs).map nD) from qAC ⟨_,g.f,rfl⟩]
    exact hP (ns++xs) (ss++ts) s' g.t (by rw [List.length_append];omega) (by omega) g.kd (g.dk.mono (by omega))
end K30
namespace K30
open PySem PySem.Spec PyProof.Rows L2 L3 KH KS KW K20
open KR (Ev EvB qC qJ qQ seq1 qz qT ifS evb qAe qAR qR qF qL rdR qX qg qk qAG qa rn Rl InT Res qAn orD qP Nums wd ag qw qh ql qq qu qAA qAq qAH qV qe qS qAK Frm inR keys numAt qBC qBl qAt qEr qAI qA7 yn qBf cntK qDP)
open K31 (EvX qBL qAy qAU xb qBO qAJ xIf qAO qAs qBu qC6 qAT qAX qCN qAb qA3 at2 qAL qAf qA8 qBw qAa qAp qAv qA6 qEF qBh qDA qC2 qEq qAm KD FI qAu qBK qBG qAx agI qCw qDd qE4)
abbrev st5:TSD:=(tseq (qY (qAQ (qB (qD 2) (qB (qG qM (qAQ (qB (qE (Dt.str "")) (qB (qE (Dt.str "Swap")) (qB (qE (Dt.str "put")) (qB (qE (Dt.str "add")) (qB (qE (Dt.str "num")) qH)))))) (qG qAP (qG qB7 (qD 4) (qE (Dt.int 3))) (qE (Dt.int 5)))) (qB (qG qAP (qG qB7 (qD 4) (qE (Dt.int 15))) (qN qAW (qB (qD 1) qH))) qH))))) qI)
abbrev st4:TSD:=(tseq (qi (qAD (qK (qG (qW false) (qG qAP (qD 4) (qE (Dt.int 3))) (qE (Dt.int 1)))) (qK (qG (qW false) (qN qAW (qB (qD 2) qH)) (qE (Dt.int 3))))) (tseq (qY (qAQ (qB (qG L3.qB0 (qv (qB (qG qM (qD 2) (qE (Dt.int 0))) qH)) (qG qM (qAQ (qB (qv (qB (qD 5) (qB (qG qM (qD 2) (qE (Dt.int 2))) qH))) (qB (qv (qB (qG qM (qD 2) (qE (Dt.int 1))) (qB (qD 5) qH))) qH))) (qG qAP (qG qB7 (qD 4) (qE (Dt.int 8))) (qE (Dt.int 2))))) (qB (qD 3) (qB (qE (Dt.int 0)) qH))))) qI) qI) st5)
abbrev st3:TSD:=(tseq (qi (qAD (qK (qG (qW false) (qG qAP (qD 4) (qE (Dt.int 3))) (qE (Dt.int 1)))) (qK (qG (qAd false) (qG qM (qD 2) (qE (Dt.int 0))) (qAQ (qB (qE (Dt.str "nought")) (qB (qE (Dt.str "high")) qH)))))) (tseq (qY (qAQ (qB (qv (qB (qG qM (qD 2) (qE (Dt.int 0))) (qB (qD 5) qH))) (qB (qG qM (qAQ (qB (qE (Dt.str "sure")) (qB (qD 3) qH))) (qG qAP (qG qB7 (qD 4) (qE (Dt.int 8))) (qE (Dt.int 2)))) (qB (qE (Dt.int 0)) qH))))) qI) qI) st4)
abbrev st2:TSD:=(tseq (qi (qK (qG (qW false) (qG qAP (qD 4) (qE (Dt.int 3))) (qE (Dt.int 0)))) (tseq (qY (qAQ (qB (qD 2) (qB (qD 3) (qB (qD 5) qH))))) qI) qI) st3)
abbrev qCV:TSD:=(tseq (qAE (qN K31.qA5 (qB (qD 0) qH)) (qU 4)) (tseq (qAE (qG qM (qAQ (qB (qHI (qE (Dt.int 1))) (qB (qN qAW (qB (qD 1) qH)) (qB (qG L3.qB0 (qN qAW (qB (qD 1) qH)) (qG qAP (qG qB7 (qD 4) (qE (Dt.int 9))) (qG qLb (qE (Dt.int 10)) (qE (Dt.int 20))))) (qB (qG L3.qGp (qG qAP (qG qB7 (qHI (qD 4)) (qE (Dt.int 9))) (qE (Dt.int 7))) (qE (Dt.int 9))) qH))))) (qG qAP (qG qB7 (qD 4) (qE (Dt.int 2))) (qE (Dt.int 4)))) (qU 5)) st2))
def qBt:RDL:=fun ds st P=>∃ (k e c:Nat) (ns:List Nd) (ss:List Nat) (sd:Nd) (s:Nat) (rl:Str),ds=[.lst k,tab ns,nD sd,.str rl]∧OkT 3 ns ss∧0<ns.length∧ns.length≤300∧OkN ss 3 sd s∧qAm st k e c∧c<900000∧∀ (w:Str) (xs:List Int) (rule:Str) (n:Int) (L:Nat) st',st'[L]? = some (.rw [.tup (.str w::xs.map .int),.str rule,.int n])→Frm w xs→(inR ns.length w xs=true→∃ sd,Dt.tup (.str w::xs.map .int)=nD sd∧InT ns.length sd)→KD k st st'→qAm st' k e (c+1)→P (.lst L) st'
abbrev EAX (t:TAD) (ρ:Rho) (st:Sto) (ds:List Dt):Prop:=∀ P:List Dt→Sto→Prop,(∀ st',qj st st'→P ds st')→t ρ st P
theorem qES {ρ:Rho} {st:Sto}:EAX qH ρ st []:=fun P hp=>hp st (.refl _)
theorem qAl {ρ:Rho} {st:Sto} {te:TD} {t:TAD} {d:Dt} {ds:List Dt} (h:EvX te ρ st d) (h2:∀ st',qj st st'→EAX t ρ st' ds):EAX (qB te t) ρ st (d::ds):=fun P hp=>h _ fun s1 x1=>h2 s1 x1 _ fun s2 x2=>hp s2 (x1.trans x2)
theorem rdL {E:qBH} {N:TSD} {ρ:Rho} {st:Sto} {t:TAD} {ds:List Dt} (h:EAX t ρ st ds) (hl:ds.length≤1000) (q:∀ st',qj st st'→E.rt (.lst st'.length) (st'++[.rw ds])):tseq (qY (qAQ t)) N E ρ st:=h _ fun st' x'=>⟨Nat.le_of_lt (qAh hl),q st' x'⟩
theorem qOq {ρ:Rho} {st:Sto} {ta tb:TD} {a b:List Dt} (h:Ev ta ρ st (.tup a)) (h2:EvX tb ρ st (.tup b)) (hl:a.length+b.length≤1000):EvX (qG L3.qB0 ta tb) ρ st (.tup (a++b)):=fun P hp=>h _ (h2 _ fun s1 x1=>⟨Nat.le_of_lt (qAh hl),hp s1 x1⟩)
theorem qO6 {ρ:Rho} {st:Sto}:Ev (qG qLb (qE (Dt.int 10)) (qE (Dt.int 20))) ρ st (.int 100000000000000000000):=fun P hp=>⟨⟨by decide,by decide,by decide⟩,hp⟩
theorem qEJ {ds:List Dt} {st:Sto} {Pd:VD} (h:qBt ds st Pd):qCV (Ed Pd) (qd ["deck", "nodes", "seen", "rule", "cell", "far"] ds) st:=by
  obtain⟨k,e,c,ns,ss,sd,s,rl,rfl,hT,h0,hl,o,hd,hc,hP⟩:=h
  rw [qw]
  refine qz (qAX (qF (qC (i:=0) rfl) qL) ⟨k,e,c,rfl,hd,by omega,fun v s1 kd dk=>?_⟩)
  have hlen:∀ (a5:Option Dt) (st:Sto),Ev (qN qAW (qB (qD 1) qH)) [some (.lst k),some (tab ns),some (.tup (.str (wd sd)::ag sd)),some (.str rl),some (.int v),a5] st (.int (ns.length:Nat)):=fun a5 st=>by
    have:=qu (st:=st) (te:=qD 1) (ρ:=[some (.lst k),some (tab ns),some (.tup (.str (wd sd)::ag sd)),some (.str rl),some (.int v),a5]) (l:=ns.map nD) (qC (i:=1) rfl)
    k_dat 0"r12"
    exact this
  obtain⟨fd,ed,md⟩:=qBG (xs:=[Dt.int (-1),.int (ns.length:Nat),.int ((ns.length:Nat)+v / 9%100000000000000000000),.int (-v / 9%7 - 9)]) (v / 2) (by show 0<4;decide)
  refine qz (qAs (d:=fd) (ds:=[Dt.int (-1),.int (ns.length:Nat),.int ((ns.length:Nat)+v / 9%100000000000000000000),.int (-v / 9%7 - 9)]) (v:=v / 2%4) (qF (qAa qJ) (qF (hlen none s1) (qF (qAA (hlen none s1) (qV (qAu (qC (i:=4) rfl) qJ (by decide) (by decide)) qO6 (by decide))) (qF (qAq (qV (qAu (qAa (qC (i:=4) rfl)) qJ (by decide) (by decide)) qJ (by decide)) qJ) qL)))) (by show 4≤1000;decide) (fun st1 _=>qAy (qV (qAu (qC (i:=4) rfl) qJ (by decide) (by decide)) qJ (by decide))) ed _ fun s2 x2=>?_)
  have hfar:∃ fv:Int,fd = .int fv∧(fv<0∨(ns.length:Int)≤fv):=by
    have m1:=Int.emod_nonneg (v / 9) (show (100000000000000000000:Int)≠0 by decide)
    have m2:=Int.emod_lt_of_pos (-v / 9) (show (0:Int)<7 by decide)
    simp only [List.mem_cons,List.not_mem_nil,or_false] at md
    rcases md with rfl | rfl | rfl | rfl
    · exact⟨_,rfl,.inl (by decide)⟩
    · exact⟨_,rfl,.inr (Int.le_refl _)⟩
    · exact⟨_,rfl,.inr (by omega)⟩
    · exact⟨_,rfl,.inl (by omega)⟩
  obtain⟨fv,rfl,hfv⟩:=hfar
  show st2 (Ed Pd) [some (.lst k),some (tab ns),some (.tup (.str (wd sd)::ag sd)),some (.str rl),some (.int v),some (.int fv)] s2
  have fin:∀ (w:Str) (xs:List Int) (rule:Str) (n:Int) (st':Sto),qj s2 st'→Frm w xs→(inR ns.length w xs=true→∃ sd,Dt.tup (.str w::xs.map .int)=nD sd∧InT ns.length sd)→Pd (.lst st'.length) (st'++[.rw [.tup (.str w::xs.map .int),.str rule,.int n]]):=fun w xs rule n st' x' hf hi=>hP w xs rule n _ _ qAZ hf hi (kd.ext (x2.trans (x'.trans (.app _ _)))) (dk.ext (x2.trans (x'.trans (.app _ _))))
  have own:∀ (rule:Str) (n:Int) (st':Sto),qj s2 st'→Pd (.lst st'.length) (st'++[.rw [.tup (.str (wd sd)::ag sd),.str rule,.int n]]):=fun rule n st' x'=>by
    rw [qCw]
    exact fin (wd sd) (agI sd) rule n st' x' (qDd sd) fun _=>⟨sd,by rw [qw,qCw],by rw [hT.len];exact qE4 o⟩
  have out:∀ (w:Str) (xs:List Int),fv∈xs→K19.qCM.contains w=true→inR ns.length w xs=true→∃ sd,Dt.tup (.str w::xs.map .int)=nD sd∧InT ns.length sd:=fun w xs hm hw hi=>by
    unfold KR.inR at hi
    rw [if_pos hw] at hi
    have:=List.all_eq_true.mp hi fv hm
    rw [Bool.and_eq_true,decide_eq_true_eq,decide_eq_true_eq] at this
    omega
  generalize hρ:([some (.lst k),some (tab ns),some (.tup (.str (wd sd)::ag sd)),some (.str rl),some (.int v),some (.int fv)]:Rho)=ρ
  have v2:∀ st,Ev (qD 2) ρ st (.tup (.str (wd sd)::ag sd)):=fun st=>qC (by rw [← hρ];rfl)
  have v3:∀ st,Ev (qD 3) ρ st (.str rl):=fun st=>qC (by rw [← hρ];rfl)
  have v4:∀ st,Ev (qD 4) ρ st (.int v):=fun st=>qC (by rw [← hρ];rfl)
  have v5:∀ st,Ev (qD 5) ρ st (.int fv):=fun st=>qC (by rw [← hρ];rfl)
  have vn:∀ st,Ev (qN qAW (qB (qD 1) qH)) ρ st (.int (ns.length:Nat)):=fun st=>by rw [← hρ];exact hlen (some (.int fv)) st
  have j0:∀ st,Ev (qG qM (qD 2) (qE (Dt.int 0))) ρ st (.str (wd sd)):=fun st=>qQ (j:=0) (v2 st) rfl
  have dv:∀ (a:Int) st,0<a→a<1073741824→Ev (qG qB7 (qD 4) (qE (Dt.int a))) ρ st (.int (v / a)):=fun a st h1 h2=>qAu (v4 st) qJ h1 h2
  refine qT (b:=decide (v%3=0)) (evb (qg (qV (v4 _) qJ (by decide)) qJ)) (fun _=>?_) (fun _=>?_)
  · exact rdL (qAl (qAy (v2 _)) fun a _=>qAl (qAy (v3 _)) fun b _=>qAl (qAy (v5 _)) fun c _=>qES) (by show 3≤1000;decide) fun st' x'=>own rl fv st' x'
  refine xIf (qAJ (qAU (evb (qg (qV (v4 _) qJ (by decide)) qJ))) fun _ st3 _=>xb (qAO (neg:=false) (ss:=["nought", "high"]) (j0 _) (fun _ h=>h) (by decide))) (fun z s3 x3=>?_) (fun _ s3 x3=>?_)
  · rw [Bool.and_eq_true,Bool.bne_false,List.contains_iff_mem] at z
    obtain⟨d',ed',md'⟩:=qBG (xs:=[Dt.str "sure",.str rl]) (v / 8) (by show 0<2;decide)
    have hd':∃ r',d' = .str r':=by
      simp only [List.mem_cons,List.not_mem_nil,or_false] at md'
      rcases md' with rfl | rfl
      · exact⟨_,rfl⟩
      · exact⟨_,rfl⟩
    obtain⟨r',rfl⟩:=hd'
    have hw:wd sd = "nought" ∨ wd sd = "high":=by simpa using z.2
    refine rdL (ds:=[.tup [.str (wd sd),.int fv],.str r',.int 0]) (qAl (qAy (qR (qF (j0 _) (qF (v5 _) qL)) (by show 2≤sizeLine;decide))) fun a _=>qAl (qAs (ds:=[.str "sure",.str rl]) (v:=v / 8%2) (qF qJ (qF (v3 _) qL)) (by show 2≤1000;decide) (fun b _=>qAy (qV (dv 8 _ (by decide) (by decide)) qJ (by decide))) ed') fun b _=>qAl (qAy qJ) fun c _=>qES) (by show 3≤1000;decide) fun st' x'=>?_
    rcases hw with hw | hw
    · rw [hw]
      exact fin "nought" [fv] r' 0 st' (x3.trans x') ⟨by decide,rfl⟩ (out _ _ (List.mem_singleton.mpr rfl) rfl)
    · rw [hw]
      exact fin "high" [fv] r' 0 st' (x3.trans x') ⟨by decide,rfl⟩ (out _ _ (List.mem_singleton.mpr rfl) rfl)
  refine qT (qS (evb (qg (qV (v4 _) qJ (by decide)) qJ)) fun _=>evb (qg (qu (v2 _)) qJ)) (fun z=>?_) (fun _=>?_)
  · rw [Bool.and_eq_true,decide_eq_true_eq,decide_eq_true_eq] at z
    obtain⟨w,x,y,rfl⟩:∃ w x y,sd = .two w x y:=by
      cases sd with
      | two w x y=>exact⟨w,x,y,rfl⟩
      | yes=>exact absurd z.2 (by decide)
      | no=>exact absurd z.2 (by decide)
      | _=>exact absurd z.2 (by simp [ag])
    obtain⟨d',ed',md'⟩:=qBG (xs:=[Dt.tup [.int fv,.int (y:Nat)],.tup [.int (x:Nat),.int fv]]) (v / 8) (by show 0<2;decide)
    have hd':∃ xs:List Int,d' = .tup (xs.map .int)∧xs.length=2∧fv∈xs:=by
      simp only [List.mem_cons,List.not_mem_nil,or_false] at md'
      rcases md' with rfl | rfl
      · exact⟨[fv,(y:Int)],rfl,rfl,List.mem_cons_self⟩
      · exact⟨[(x:Int),fv],rfl,rfl,List.mem_cons_of_mem _ List.mem_cons_self⟩
    obtain⟨xs,rfl,hx2,hxm⟩:=hd'
    have i1:∀ st,Ev (qG qM (qD 2) (qE (Dt.int 1))) ρ st (.int (x:Nat)):=fun st=>qQ (j:=1) (v2 st) rfl
    have i2:∀ st,Ev (qG qM (qD 2) (qE (Dt.int 2))) ρ st (.int (y:Nat)):=fun st=>qQ (j:=2) (v2 st) rfl
    refine rdL (ds:=[.tup ([.str (nm w)]++xs.map .int),.str rl,.int 0]) (qAl (qOq (qR (qF (j0 _) qL) (by show 1≤sizeLine;decide)) (qAs (ds:=[.tup [.int fv,.int (y:Nat)],.tup [.int (x:Nat),.int fv]]) (v:=v / 8%2) (qF (qR (qF (v5 _) (qF (i2 _) qL)) (by show 2≤sizeLine;decide)) (qF (qR (qF (i1 _) (qF (v5 _) qL)) (by show 2≤sizeLine;decide)) qL)) (by show 2≤1000;decide) (fun b _=>qAy (qV (dv 8 _ (by decide) (by decide)) qJ (by decide))) ed') (by rw [List.length_map,hx2];show 1+2≤1000;decide)) fun a _=>qAl (qAy (v3 _)) fun b _=>qAl (qAy qJ) fun c _=>qES) (by show 3≤1000;decide) fun st' x'=>?_
    have hw:Frm (nm w) xs:=⟨(qDd (.two w x y)).1,by rw [hx2];cases w<;>rfl⟩
    exact fin (nm w) xs rl 0 st' (x3.trans x') hw (out _ _ hxm (by cases w<;>rfl))
  · obtain⟨d',ed',md'⟩:=qBG (xs:=(["", "Swap", "put", "add", "num"]:List Str).map Dt.str) (v / 3) (by decide)
    obtain⟨r',_,rfl⟩:=qAx md'
    refine rdL (ds:=[.tup (.str (wd sd)::ag sd),.str r',.int (v / 15%(ns.length:Nat))]) (qAl (qAy (v2 _)) fun a _=>qAl (qAs (ds:=(["", "Swap", "put", "add", "num"]:List Str).map Dt.str) (v:=v / 3%5) (fun _ h=>h) (by decide) (fun b _=>qAy (qV (dv 3 _ (by decide) (by decide)) qJ (by decide))) ed') fun b _=>qAl (qAy (qV (dv 15 _ (by decide) (by decide)) (vn _) (by omega))) fun c _=>qES) (by show 3≤1000;decide) fun st' x'=>own r' _ st' (x3.trans x')
end K30
namespace K30
open PySem PySem.Spec PyProof.Rows L2 L3 KH KS KW K20
open KR (Ev EvB qC qJ qQ seq1 qz qT ifS evb qAe qAR qR qF qL rdR qX qg qk qAG qa rn Rl InT Res qAn orD qP Nums wd ag qw qh ql qq qu qAA qAq qAH qV qe qS qAK Frm inR keys numAt qBC qBl qAt qEr qAI qA7 yn qBf cntK qDP)
open K31 (EvX qBL qAy qAU xb qBO qAJ xIf qAO qAs qBu qC6 qAT qAX qCN qAb qA3 at2 qAL qAf qA8 qBw qAa qAp qAv qA6 qEF qBh qDA qC2 qEq qAm KD qAu qBK qBG qAx agI qCw qDd qE4 forR qO1 qOe)
abbrev laM:TSD:=(tseq (qi (qCJ (qK (qN K30.qBT (qB (qD 2) (qB (qD 7) (qB (qD 5) (qB (qD 9) qH))))))) (tseq (qY (qE (Dt.bl false))) qI) qI) qI)
abbrev laK:TSD:=(tseq (qAE (qN K30.qBt (qB (qD 1) (qB (qD 2) (qB (qD 7) (qB (qG qM (qD 4) (qG qAP (qG qB7 (qD 6) (qE (Dt.int 7))) (qE (Dt.int 11)))) qH))))) (qBU 3 (qAc (qU 7) (qAc (qU 5) (qAc (qU 9) qD4))))) laM)
abbrev laI:TSD:=(tseq (qAE (qG L3.qB0 (qAQ (qB (qE (Dt.int 0)) (qB (qG qAP (qN K31.qA5 (qB (qD 1) qH)) (qN qAW (qB (qD 2) qH))) qH))) (qCB (qN K30.qBv (qB (qD 2) (qB (qD 7) (qB (qD 5) qH)))) qCy (qC4 (qE (Dt.int 1))))) (qU 8)) (tseq (qDo (qCl (qD 8)) (qU 9) laM) qI))
abbrev laJ:TSD:=(tseq (qDo (qCl (qD 4)) (qU 5) laI) laK)
abbrev laL:TSD:=(tseq (qAE (qG qM (qD 2) (qG qAP (qG qB7 (qD 6) (qE (Dt.int 2))) (qN qAW (qB (qD 2) qH)))) (qU 7)) (tseq (qi (qK (qG (qW false) (qG qAP (qD 6) (qE (Dt.int 2))) (qE (Dt.int 1)))) (tseq (qAE (qN K31.qEm (qB (qD 1) (qB (qD 2) (qB (qE (Dt.int 3)) qH)))) (qU 7)) qI) qI) laJ))
abbrev la6:TSD:=(tseq (qDo (qCK (qE (Dt.int 24))) (qU 3) (tseq (qAE (qN K31.qA5 (qB (qD 1) qH)) (qU 6)) laL)) (tseq (qY (qE (Dt.bl true))) qI))
abbrev la5:TSD:=(tseq (qDo (qCl (qD 4)) (qU 5) (tseq (qi (qBN (qCJ (qK (qN K30.qBT (qB (qv qH) (qB (qv (qB (qE (Dt.str "add")) (qB (qE (Dt.int 0)) (qB (qE (Dt.int 0)) qH)))) (qB (qD 5) (qB (qE (Dt.int 0)) qH))))))) (qCJ (qK (qN K30.qBT (qB (qv qH) (qB (qv (qB (qE (Dt.str "num")) (qB (qE (Dt.int 0)) qH))) (qB (qD 5) (qB (qE (Dt.int 0)) qH)))))))) (tseq (qY (qE (Dt.bl false))) qI) qI) qI)) la6)
abbrev Lw3:TSD:=(tseq (qAE (qN K30.qGc (qB (qD 1) (qB (qD 2) qH))) (qU 2)) (tseq (qAE (qAQ (qB (qE (Dt.str "swap")) (qB (qE (Dt.str "group")) (qB (qE (Dt.str "ungroup")) (qB (qE (Dt.str "subnum")) (qB (qE (Dt.str "zero")) (qB (qE (Dt.str "one")) (qB (qE (Dt.str "nil")) (qB (qE (Dt.str "self")) (qB (qE (Dt.str "count")) (qB (qE (Dt.str "sure")) (qB (qE (Dt.str "never")) qH)))))))))))) (qU 4)) la5))
abbrev Lw2:TSD:=(tseq (qDo (qCK (qG L3.qB0 (qE (Dt.int 4)) (qG qAP (qN K31.qA5 (qB (qD 1) qH)) (qE (Dt.int 37))))) (qU 3) (tseq (qD8 (qA0 (qD 2) (qN K31.qEm (qB (qD 1) (qB (qD 2) (qB (qE (Dt.int 3)) qH)))))) qI)) Lw3)
abbrev Lw1:TSD:=(tseq (qAE (qAQ qH) (qU 2)) Lw2)
abbrev qMs:TSD:=(tseq (qAE (qAQ (qB (qCB (qD 0) qCy (qC4 (qE (Dt.int 63)))) (qB (qE (Dt.int 0)) qH))) (qU 1)) Lw1)
theorem qDV {ρ:Rho} {st:Sto} {ta tb tc td:TD} {d:Dt} {ns:List Nd} {w:Str} {xs:List Int} {rule:Str} {n:Int} (h1:Ev ta ρ st d) (h2:Ev tb ρ st (.tup (.str w::xs.map .int))) (h3:Ev tc ρ st (.str rule)) (h4:Ev td ρ st (.int n)) (hs:qa st d ns) (hN:Nums ns) (hf:Frm w xs) (hi:inR ns.length w xs=true→∃ sd,Dt.tup (.str w::xs.map .int)=nD sd∧InT ns.length sd):qBL (qCJ (qK (qN qBT (qB ta (qB tb (qB tc (qB td qH))))))) ρ st false:=fun P hp =>
  qAX (sp:=qBT) (P:=fun d st1=>match d with | .bl k=>P (!k) st1 | _=>False) (qF h1 (qF h2 (qF h3 (qF h4 qL)))) ⟨d,ns,w,xs,rule,n,rfl,hs,hN,hf,hi,fun st' x'=>hp st' x'⟩
theorem qKh {ρ:Rho} {st:Sto} {ta tb tc td:TD} {ns:List Nd} {ss:List Nat} {sd:Nd} {s:Nat} {rule:Str} {n:Int} (h1:Ev ta ρ st (tab ns)) (h2:Ev tb ρ st (nD sd)) (h3:Ev tc ρ st (.str rule)) (h4:Ev td ρ st (.int n)) (hT:OkT 3 ns ss) (o:OkN ss 3 sd s):qBL (qCJ (qK (qN qBT (qB ta (qB tb (qB tc (qB td qH))))))) ρ st false:=by
  rw [qw,qCw] at h2
  exact qDV h1 h2 h3 h4 rfl (qAp hT) (qDd sd) fun _=>⟨sd,by rw [qw,qCw],by rw [hT.len];exact qE4 o⟩
theorem qPW {R c:Nat} {ns:List Nd} {s:Sto} {Pd:VD} {a3 a5 a6 a7 a8 a9:Option Dt} (hd:qAm s 2 1 c) (hR:s[R]? = some (.rw (keys.map .str))) (q:∀ s' a5,qj s s'→la6 (Ed Pd) [some (.lst 0),some (.lst 2),some (tab ns),a3,some (.lst R),a5,a6,a7,a8,a9] s'):la5 (Ed Pd) [some (.lst 0),some (.lst 2),some (tab ns),a3,some (.lst R),a5,a6,a7,a8,a9] s:=by
  refine qEF (qC (i:=4) rfl) (l:=keys.map .str) (qAC ⟨_,hR,rfl⟩) ?_
  refine⟨fun i ρ s'=>(∃ a5,ρ=[some (.lst 0),some (.lst 2),some (tab ns),a3,some (.lst R),a5,a6,a7,a8,a9])∧qj s s',⟨⟨_,rfl⟩,.refl _⟩,fun _ _ s' _ h=>qAC ⟨_,h.2 _ _ hR,rfl⟩,?_,?_⟩
  · rintro i d ρ s' hi ⟨⟨a5,rfl⟩,x⟩
    obtain⟨r,_,rfl⟩:=qAx (List.mem_of_getElem? hi)
    refine xIf (b:=false) (qBO (b1:=false) (b2:=false) (qDV (ns:=[]) (w:= "add") (xs:=[0,0]) (qR (ds:=[]) qL (by show 0≤sizeLine;decide)) (qR (ds:=[.str "add",.int 0,.int 0]) (qF qJ (qF qJ (qF qJ qL))) (by show 3≤sizeLine;decide)) (qC (i:=5) rfl) qJ rfl (fun k hk=>by cases hk) ⟨by decide,rfl⟩ (fun h=>by cases h)) fun _ s2 x2=>qDV (ns:=[]) (w:= "num") (xs:=[0]) (qR (ds:=[]) qL (by show 0≤sizeLine;decide)) (qR (ds:=[.str "num",.int 0]) (qF qJ (qF qJ qL)) (by show 2≤sizeLine;decide)) (qC (i:=5) rfl) qJ rfl (fun k hk=>by cases hk) ⟨by decide,rfl⟩ (fun _=>⟨.num 0,rfl,trivial⟩)) (fun z=>nomatch z) (fun _ s2 x2=>?_)
    exact⟨⟨_,rfl⟩,x.trans x2⟩
  · rintro ρ s' ⟨⟨a5,rfl⟩,x⟩
    exact q s' a5 x
theorem qMI {ρ:Rho} {s:Sto} {c:Nat} {ns:List Nd} {ss:List Nat} {sd:Nd} {sv:Nat} {rule:Str} (v1:∀ st,Ev (qD 1) ρ st (.lst 2)) (v2:∀ st,Ev (qD 2) ρ st (tab ns)) (v7:∀ st,Ev (qD 7) ρ st (nD sd)) (v5:∀ st,Ev (qD 5) ρ st (.str rule)) (hd:qAm s 2 1 c) (hc:c<800000) (hT:OkT 3 ns ss) (h0:0<ns.length) (hl:ns.length≤300) (o:OkN ss 3 sd sv) (Q:VD)
    (q:∀ (zs:List Int) (m:Nat) s',KD 2 s s'→qAm s' 2 1 (c+1)→s'[m]? = some (.rw (zs.map .int))→2<m→Q (.lst m) s') :
    (qG L3.qB0 (qAQ (qB (qE (Dt.int 0)) (qB (qG qAP (qN K31.qA5 (qB (qD 1) qH)) (qN qAW (qB (qD 2) qH))) qH))) (qCB (qN K30.qBv (qB (qD 2) (qB (qD 7) (qB (qD 5) qH)))) qCy (qC4 (qE (Dt.int 1))))) ρ s Q:=by
  have vn:∀ st,Ev (qN qAW (qB (qD 2) qH)) ρ st (.int (ns.length:Nat)):=fun st=>by
    have:=qu (te:=qD 2) (ρ:=ρ) (st:=st) (l:=ns.map nD) (v2 st)
    k_dat 0"r12"
    exact this
  refine qAX (sp:=K31.qA5) (t:=qB (qD 1) qH) (ds:=[.lst 2]) (qF (v1 _) qL) ⟨2,1,c,rfl,hd,by omega,fun v s1 kd dk=>?_⟩
  refine vn s1 _ ⟨by omega,by show 2≤sizeLine;decide,?_⟩
  have x1:qj s1 (s1++[SO.rw [.int 0,.int (v%(ns.length:Nat))]]):=.app _ _
  have g1:(s1++[SO.rw [Dt.int 0,.int (v%(ns.length:Nat))]])[s1.length]? = some (.rw [.int 0,.int (v%(ns.length:Nat))]):=qAZ
  generalize s1++[SO.rw [Dt.int 0,.int (v%(ns.length:Nat))]]=s2 at x1 g1
  refine qAX (sp:=qBv) (ds:=[tab ns,nD sd,.str rule]) (qF (v2 _) (qF (v7 _) (qF (v5 _) qL))) ⟨ns,ss,sd,sv,rule,rfl,hT,hl,o,fun is m s3 x3 hm lm hi hil=>?_⟩
  show (match s3[m]? with | some o=>_ | none=>_)
  rw [hm]
  obtain⟨ys,ey,hy⟩:=K31.qHO (is.map fun i=>((i:Nat):Int)) none (some 1)
  have e1:(SO.rw (is.map fun i=>Dt.int ((i:Nat):Int))).items=(is.map fun i=>((i:Nat):Int)).map Dt.int:=by
    show is.map _=_
    rw [List.map_map];rfl
  show L3.qB0 (.lst s1.length) (.lst s3.length) (s3++[.rw (L3.cutD (SO.rw (is.map fun i=>Dt.int ((i:Nat):Int))).items none (some 1))]) Q
  rw [e1,ey]
  have x4:qj s3 (s3++[SO.rw (ys.map .int)]):=.app _ _
  have g4:(s3++[SO.rw (ys.map .int)])[s3.length]? = some (.rw (ys.map .int)):=qAZ
  show (match (s3++[SO.rw (ys.map .int)])[s1.length]?,(s3++[SO.rw (ys.map .int)])[s3.length]? with | some (SO.rw xs),some (SO.rw ys)=>_ | _,_=>_)
  rw [x4 _ _ (x3 _ _ g1),g4]
  rw [List.length_map] at hy
  have x5:qj s1 ((s3++[SO.rw (ys.map .int)])++[SO.rw ([.int 0,.int (v%(ns.length:Nat))]++ys.map .int)]):=x1.trans (x3.trans (x4.trans (.app _ _)))
  refine⟨Nat.le_of_lt (qAh (by rw [List.length_map];show 2+ys.length≤1000;omega)),q (0::v%(ns.length:Nat)::ys) _ _ (kd.ext x5) (dk.ext x5) qAZ ?_⟩
  obtain⟨od,hod⟩:=dk.get
  exact qm ((x1.trans (x3.trans x4)) _ _ hod)
end K30
namespace K30
open PySem PySem.Spec PyProof.Rows L2 L3 KH KS KW K20
open KR (Ev EvB qC qJ qQ seq1 qz qT ifS evb qAe qAR qR qF qL rdR qX qg qk qAG qa rn Rl InT Res qAn orD qP Nums wd ag qw qh ql qq qu qAA qAq qAH qV qe qS qAK Frm inR keys numAt qBC qBl qAt qEr qAI qA7 yn qBf cntK qDP)
open K31 (EvX qBL qAy qAU xb qBO qAJ xIf qAO qAs qBu qC6 qAT qAX qCN qAb qA3 at2 qAL qAf qA8 qBw qAa qAp qAv qA6 qEF qBh qDA qC2 qEq qAm KD qAu qBK qBG qAx agI qCw qDd qE4 forR qO1 qOe)
noncomputable abbrev mρ (ns:List Nd) (R:Nat) (a3 a5 a6 a7 a8 a9:Option Dt):Rho:=[some (.lst 0),some (.lst 2),some (tab ns),a3,some (.lst R),a5,a6,a7,a8,a9]
structure MI (R c:Nat) (s:Sto):Prop where
  dk:qAm s 2 1 c
  ru:s[R]? = some (.rw (keys.map .str))
theorem MI.kd {R c c':Nat} {s s':Sto} (h:MI R c s) (x:KD 2 s s') (d:qAm s' 2 1 c') (hR:2<R):MI R c' s':=⟨d,x _ _ (by omega) h.ru⟩
section
variable {ns:List Nd} {ss:List Nat} {R c:Nat} {s:Sto} {E:qBH} {a3 a5 a6 a7 a8 a9:Option Dt} {sd:Nd} {sv:Nat} {v:Int}
theorem qOs {rule:Str} (hR:2<R) (g:MI R c s) (hc:c<700000) (hT:OkT 3 ns ss) (h0:0<ns.length) (hl:ns.length≤300) (o:OkN ss 3 sd sv) (hn:∀ s' a8 a9,MI R (c+1) s'→E.nx (mρ ns R a3 (some (.str rule)) a6 (some (nD sd)) a8 a9) s'):laI E (mρ ns R a3 (some (.str rule)) a6 (some (nD sd)) a8 a9) s:=by
  refine qz ?_
  refine qMI (fun st=>qC (i:=1) rfl) (fun st=>qC (i:=2) rfl) (fun st=>qC (i:=7) rfl) (fun st=>qC (i:=5) rfl) g.dk (by omega) hT h0 hl o _ fun zs m s1 kd dk hm lm=>?_
  have g1:=g.kd kd dk hR
  refine qEF (d:=.lst m) (l:=zs.map .int) (qC (i:=8) rfl) (qAC ⟨_,hm,rfl⟩) ?_
  refine⟨fun i ρ s'=>(∃ a9,ρ=mρ ns R a3 (some (.str rule)) a6 (some (nD sd)) (some (.lst m)) a9)∧qj s1 s',⟨⟨_,rfl⟩,.refl _⟩,fun _ _ s' _ h=>qAC ⟨_,h.2 _ _ hm,rfl⟩,?_,?_⟩
  · rintro i d ρ s' hi ⟨⟨a9,rfl⟩,x⟩
    obtain⟨z,_,rfl⟩:=List.mem_map.mp (List.mem_of_getElem? hi)
    refine xIf (b:=false) (qKh (sd:=sd) (rule:=rule) (n:=z) (qC (i:=2) rfl) (qC (i:=7) rfl) (qC (i:=5) rfl) (qC (i:=9) rfl) hT o) (fun z=>nomatch z) (fun _ s2 x2=>?_)
    exact⟨⟨_,rfl⟩,x.trans x2⟩
  · rintro ρ s' ⟨⟨a9,rfl⟩,x⟩
    exact hn s' _ _ ⟨g1.dk.ext x,x _ _ g1.ru⟩
theorem qPL (hR:2<R) (g:MI R c s) (hc:c<700000) (hT:OkT 3 ns ss) (h0:0<ns.length) (hl:ns.length≤300) (o:OkN ss 3 sd sv) (hn:∀ s' a5 a7 a8 a9,MI R (c+1) s'→E.nx (mρ ns R a3 a5 (some (.int v)) a7 a8 a9) s'):laK E (mρ ns R a3 a5 (some (.int v)) (some (nD sd)) a8 a9) s:=by
  obtain⟨d',ed,md⟩:=qBG (xs:=keys.map Dt.str) (v / 7) (by decide)
  obtain⟨rl,_,rfl⟩:=qAx md
  have er:Ev (qG qM (qD 4) (qG qAP (qG qB7 (qD 6) (qE (Dt.int 7))) (qE (Dt.int 11)))) (mρ ns R a3 a5 (some (.int v)) (some (nD sd)) a8 a9) s (.str rl):=fun P hp=>qC (i:=4) rfl _ (qV (qAu (qC (i:=6) rfl) qJ (by decide) (by decide)) qJ (by decide) _ (qLA g.ru ed hp))
  refine seq1 ?_
  refine qAX (sp:=qBt) (ds:=[.lst 2,tab ns,nD sd,.str rl]) (qF (qC (i:=1) rfl) (qF (qC (i:=2) rfl) (qF (qC (i:=7) rfl) (qF er qL)))) ⟨2,1,c,ns,ss,sd,sv,rl,rfl,hT,h0,hl,o,g.dk,by omega,fun w xs rule n L s1 hL hf hi kd dk=>?_⟩
  have g1:=g.kd kd dk hR
  show (match qo s1 (.lst L) with | some xs=>_ | none=>_)
  rw [show qo s1 (.lst L)=some [.tup (.str w::xs.map .int),.str rule,.int n] from qAC ⟨_,hL,rfl⟩]
  refine⟨rfl,?_⟩
  show laM E (mρ ns R a3 (some (.str rule)) (some (.int v)) (some (.tup (.str w::xs.map .int))) a8 (some (.int n))) s1
  refine xIf (b:=false) (qDV (d:=tab ns) (ns:=ns) (w:=w) (xs:=xs) (rule:=rule) (n:=n) (qC (i:=2) rfl) (qC (i:=7) rfl) (qC (i:=5) rfl) (qC (i:=9) rfl) rfl (qAp hT) hf hi) (fun z=>nomatch z) (fun _ s2 x2=>?_)
  exact hn s2 _ _ _ _ ⟨g1.dk.ext x2,x2 _ _ g1.ru⟩
theorem qNm (hR:2<R) (g:MI R c s) (hc:c<600000) (hT:OkT 3 ns ss) (h0:0<ns.length) (hl:ns.length≤300) (o:OkN ss 3 sd sv) (hn:∀ s' a5 a7 a8 a9,MI R (c+12) s'→E.nx (mρ ns R a3 a5 (some (.int v)) a7 a8 a9) s'):laJ E (mρ ns R a3 a5 (some (.int v)) (some (nD sd)) a8 a9) s:=by
  refine qEF (d:=.lst R) (l:=keys.map .str) (qC (i:=4) rfl) (qAC ⟨_,g.ru,rfl⟩) ?_
  refine⟨fun i ρ s'=>(∃ a5 a8 a9,ρ=mρ ns R a3 a5 (some (.int v)) (some (nD sd)) a8 a9)∧MI R (c+i) s',⟨⟨_,_,_,rfl⟩,g⟩,fun _ _ s' _ h=>qAC ⟨_,h.2.ru,rfl⟩,?_,?_⟩
  · rintro i d ρ s' hi ⟨⟨a5,a8,a9,rfl⟩,g'⟩
    have hi11:i<11:=qm hi
    obtain⟨r,_,rfl⟩:=qAx (List.mem_of_getElem? hi)
    exact qOs (rule:=r) (a3:=a3) (a6:=some (.int v)) hR g' (by omega) hT h0 hl o fun s2 a8 a9 g2=>⟨⟨_,_,_,rfl⟩,g2⟩
  · rintro ρ s' ⟨⟨a5,a8,a9,rfl⟩,g'⟩
    have g':MI R (c+11) s':=g'
    exact qPL hR g' (by omega) hT h0 hl o hn
theorem qOd (hR:2<R) (g:MI R c s) (hc:c<500000) (hT:OkT 3 ns ss) (h0:0<ns.length) (hl:ns.length≤300) (hn:∀ s' a5 a7 a8 a9,MI R (c+13) s'→E.nx (mρ ns R a3 a5 (some (.int v)) a7 a8 a9) s'):laL E (mρ ns R a3 a5 (some (.int v)) a7 a8 a9) s:=by
  obtain⟨m,em,hm⟩:=qBK (v:=v / 2) h0
  have gm:=List.getElem?_eq_getElem hm
  obtain⟨sv,_,o⟩:=at2 hT gm
  have o:=qAL o
  generalize ns[m]=nd at gm o
  have hlen:Ev (qN qAW (qB (qD 2) qH)) (mρ ns R a3 a5 (some (.int v)) a7 a8 a9) s (.int (ns.length:Nat)):=by
    have:=qu (st:=s) (te:=qD 2) (ρ:=mρ ns R a3 a5 (some (.int v)) a7 a8 a9) (l:=ns.map nD) (qC (i:=2) rfl)
    k_dat 0"r12"
    exact this
  have em':Ev (qG qAP (qG qB7 (qD 6) (qE (Dt.int 2))) (qN qAW (qB (qD 2) qH))) (mρ ns R a3 a5 (some (.int v)) a7 a8 a9) s (.int (m:Nat)):=by
    rw [← em]
    exact qV (qAu (qC (i:=6) rfl) qJ (by decide) (by decide)) hlen (by omega)
  refine qz (qh (l:=ns.map nD) (qC (i:=2) rfl) rfl em' (by rw [List.getElem?_map,gm];rfl) _ ?_)
  have rest:∀ (nd:Nd) (sv c':Nat) (s':Sto),OkN ss 3 nd sv→MI R c' s'→c'≤c+1→laJ E (mρ ns R a3 a5 (some (.int v)) (some (nD nd)) a8 a9) s':=fun nd sv c' s' o' g' hc'=>qNm hR g' (by omega) hT h0 hl o' fun s2 a5 a7 a8 a9 g2=>hn s2 _ _ _ _ ⟨g2.dk.mono (by omega),g2.ru⟩
  refine qT (b:=decide (v%2=1)) (evb (qg (qV (qC (i:=6) rfl) qJ (by decide)) qJ)) (fun _=>?_) (fun _=>rest nd sv c s o g (by omega))
  refine qz (qAX (qF (qC (i:=1) rfl) (qF (qC (i:=2) rfl) (qF qJ qL))) ?_)
  refine⟨2,1,c,tab ns,ns,ss,rfl,(fun h=>by cases h),rfl,hT,hl,g.dk,by omega,fun nd' s' st' o' kd dk=>?_⟩
  exact rest nd' s' (c+1) st' o' (g.kd kd dk hR) (Nat.le_refl _)
theorem qPK {Pd:VD} (hR:2<R) (g:MI R c s) (hc:c<10000) (hT:OkT 3 ns ss) (h0:0<ns.length) (hl:ns.length≤300) (hP:∀ s',Pd (.bl true) s'):la6 (Ed Pd) (mρ ns R a3 a5 a6 a7 a8 a9) s:=by
  refine forR (n:=24) qJ (by decide) ?_
  refine⟨fun i ρ s'=>(∃ a3 a5 a6 a7 a8 a9,ρ=mρ ns R a3 a5 a6 a7 a8 a9)∧MI R (c+20 * i) s',⟨⟨_,_,_,_,_,_,rfl⟩,g⟩,fun _ _ _ _ _=>trivial,?_,?_⟩
  · rintro i d ρ s' hi ⟨⟨a3,a5,a6,a7,a8,a9,rfl⟩,g'⟩
    have hil:=(qBz hi).1
    refine qz (qAX (qF (qC (i:=1) rfl) qL) ⟨2,1,c+20 * i,rfl,g'.dk,by omega,fun v s2 kd dk=>?_⟩)
    exact qOd (a3:=some d) (v:=v) hR (g'.kd kd dk hR) (by omega) hT h0 hl fun s3 a5 a7 a8 a9 g3=>⟨⟨_,_,_,_,_,_,rfl⟩,g3.dk.mono (by omega),g3.ru⟩
  · rintro ρ s' ⟨⟨a3,a5,a6,a7,a8,a9,rfl⟩,g'⟩
    exact hP s'
end
theorem qOT {ds:List Dt} {st:Sto} {Pd:VD} (h:qHC ds st Pd):qMs (Ed Pd) (qd ["script", "deck", "nodes", "k", "rules", "rule", "cell", "seen", "some", "n"] ds) st:=by
  obtain⟨ns,rfl,rfl,hl,hP⟩:=h
  obtain⟨ys,ey,hy⟩:=K31.qHO ns none (some 63)
  refine qz ⟨by show 2≤sizeLine;decide,?_⟩
  show Lw1 (Ed Pd) [some (.lst 0),some (.lst 2),none,none,none,none,none,none,none,none] [SO.ro (ns.map .int),.rw (L3.cutD (ns.map .int) none (some 63)),.rw [.lst 1,.int 0]]
  rw [ey]
  refine qz ⟨Nat.zero_le _,?_⟩
  have hd:qAm [SO.ro (ns.map .int),.rw (ys.map .int),.rw [.lst 1,.int 0],.rw []] 2 1 0:=⟨0,.rw (ys.map .int),ys,rfl,by decide,rfl,rfl,by omega,Nat.le_refl _⟩
  have h3:([SO.ro (ns.map .int),.rw (ys.map .int),.rw [.lst 1,.int 0],.rw []]:Sto)[3]? = some (.rw []):=rfl
  show Lw2 (Ed Pd) [some (.lst 0),some (.lst 2),some (.lst 3),none,none,none,none,none,none,none] [SO.ro (ns.map .int),.rw (ys.map .int),.rw [.lst 1,.int 0],.rw []]
  generalize ([SO.ro (ns.map .int),.rw (ys.map .int),.rw [.lst 1,.int 0],.rw []]:Sto)=s0 at hd h3
  refine qO1 (k:=2) (e:=1) (c:=1) (lo:=4) (hi:=40) (fun Q hq=>?_) (by decide) fun n s1 n4 n40 kd dk=>?_
  · have:=K31.qKY (M:=37) (v:=1) (ρ:=[some (.lst 0),some (.lst 2),some (.lst 3),none,none,none,none,none,none,none]) rfl hd (by decide) (by decide)
    refine qJ _ (this _ fun v s1 v0 v1 kd dk=>?_)
    obtain⟨m,rfl⟩:∃ m:Nat,v=(m:Int):=⟨v.toNat,by omega⟩
    exact hq (4+m) s1 (by omega) (by omega) kd dk
  have h3:=kd 3 _ (by decide) h3
  refine⟨fun i ρ s'=>(∃ a3,ρ=[some (.lst 0),some (.lst 2),some (.lst 3),a3,none,none,none,none,none,none])∧∃ nds ss,nds.length=i∧OkT 3 nds ss∧s'[3]? = some (.rw (nds.map nD))∧qAm s' 2 1 (1+i),⟨⟨_,rfl⟩,[],[],rfl,.nil,h3,dk⟩,fun _ _ _ _ _=>trivial,?_,?_⟩
  · rintro i d ρ s' hi ⟨⟨a3,rfl⟩,nds,ss,hl,hT,g3,dk⟩
    have hil:=(qBz hi).1
    refine qOe (f:=3) (ds:=[.lst 2,.lst 3,.int 3]) (qC (i:=2) rfl) (qF (qC (i:=1) rfl) (qF (qC (i:=2) rfl) (qF qJ qL))) ?_
    refine⟨2,1,1+i,.lst 3,nds,ss,rfl,(fun h=>by cases h),qAC ⟨_,g3,rfl⟩,hT,by omega,dk,by omega,fun nd s st' o kd dk=>?_⟩
    show (match (st':List SO)[3]? with | some (SO.rw xs)=>_ | _=>_)
    rw [kd 3 _ (by decide) g3]
    refine⟨by rw [List.length_map];exact qAh (by omega),⟨_,rfl⟩,nds++[nd],ss++[s],by rw [List.length_append,hl];rfl,hT.snoc o,?_,dk.set (by decide) (by decide)⟩
    rw [qDS (kd 3 _ (by decide) g3),List.map_append];rfl
  · rintro ρ s' ⟨⟨a3,rfl⟩,nds,ss,hl,hT,g3,dk⟩
    rw [qBJ] at hl dk
    show Lw3 (Ed Pd) [some (.lst 0),some (.lst 2),some (.lst 3),a3,none,none,none,none,none,none] s'
    refine qz (qAX (qF (qC (i:=1) rfl) (qF (qC (i:=2) rfl) qL)) ?_)
    refine⟨2,1,3,1+n,nds,ss,rfl,by decide,g3,hT,by omega,by omega,dk,by omega,fun ns' ss' s2 hT' h0 h300 kd dk=>?_⟩
    refine qz ⟨by show 11≤sizeLine;decide,?_⟩
    have x3:qj s2 (s2++[SO.rw (keys.map .str)]):=.app _ _
    have g3:(s2++[SO.rw (keys.map .str)])[s2.length]? = some (.rw (keys.map .str)):=qAZ
    have hR:2<s2.length:=by obtain⟨o,ho⟩:=dk.get;exact qm ho
    exact qPW (dk.ext x3) g3 fun s' a5 x'=>qPK hR ⟨dk.ext (x3.trans x'),x' _ _ g3⟩ (by omega) hT' h0 h300 hP
end K30
namespace KR
open L3
theorem qBE {r:Rl} {ds:List Dt} {st:Sto} {P:VD} (h:qGb (rn r) ds st P):spR r ds st P:=by
  obtain⟨r',e,h⟩:=h
  have:=K31.qH9 e
  subst this
  exact h
end KR
namespace K30
open PySem PySem.Spec PyProof.Rows L2 L3
local macro_rules | `(tactic| k_dat $x:ident "e")=>`(tactic| (case $x:ident=>walk_at "d_e"))
local macro_rules | `(tactic| k_dat $x:ident "r")=>`(tactic| (case $x:ident=>rfl))
local macro_rules | `(tactic| k_dat $x:ident "m")=>`(tactic| (case $x:ident=>assumption))
local macro_rules | `(tactic| k_dat $x:ident "d")=>`(tactic| (case $x:ident=>decide))
local macro_rules | `(tactic| k_dat $x:ident "a")=>`(tactic| (case $x:ident=>walk_at "d_a"))
local macro_rules | `(tactic| k_dat $x:ident "t")=>`(tactic| (case $x:ident=>walk_at "d_t"))
local macro_rules | `(tactic| k_dat $x:ident "s")=>`(tactic| (case $x:ident=>walk_at "d_ss"))
local macro_rules | `(tactic| k_dat $x:ident "i")=>`(tactic| (case $x:ident=>walk_at "d_i"))
local macro_rules | `(tactic| k_dat $x:ident "n")=>`(tactic| (case $x:ident=>first | exact qIC _ | with_unfolding_all rfl))
local macro_rules | `(tactic| k_dat $n:num "zv0")=>`(tactic| ((with_reducible refine' qNk $n ?n ?v ?d ?c);k_dat n "r";(case v=>first | exact Or.inl rfl | exact Or.inr (Or.inl rfl));k_dat d "d";k_dat c "d"))
local macro_rules | `(tactic| k_dat $n:num "zc0")=>`(tactic| ((with_reducible refine' qGR $n _ ?hc ?N ?S ?hx ?nd ?i ?f ?e ?y ?yl ?sw ?hs);k_dat y "r";k_dat hc "r";k_dat N "m";(case S=>exact qIh (by assumption) (by rfl));k_dat hx "r";(case nd=>decide +kernel);k_dat sw "r";k_dat yl "r";k_dat i "i";(case f=>(intro _ _ _ _;walk_at "d_if"));(case e=>(intro _ _ _ _;walk_at "d_e"));(case hs=>(intro _;rfl))))
local macro_rules | `(tactic| k_dat $n:num "zc1")=>`(tactic| ((with_reducible refine' qGR $n _ ?hc ?N ?S ?hx ?nd ?i ?f ?e ?y ?yl ?sw ?hs);k_dat y "r";k_dat hc "r";k_dat N "m";(case S=>exact qGu (by assumption) (by rfl));k_dat hx "r";(case nd=>decide +kernel);k_dat sw "r";k_dat yl "r";k_dat i "i";(case f=>(intro _ _ _ _;walk_at "d_if"));(case e=>(intro _ _ _ _;walk_at "d_e"));(case hs=>(intro _;rfl))))
local macro_rules | `(tactic| k_dat $n:num "zc2")=>`(tactic| ((with_reducible refine' qGR $n [] ?hc ?N ?S ?hx ?nd ?i ?f ?e ?y ?yl ?sw ?hs);k_dat y "r";k_dat hc "r";k_dat N "m";(case S=>exact qIm (by rfl));k_dat hx "r";(case nd=>decide +kernel);k_dat sw "r";k_dat yl "r";k_dat i "i";(case f=>(intro _ _ _ _;walk_at "d_if"));(case e=>(intro _ _ _ _;walk_at "d_e"));(case hs=>(intro _;rfl))))
local macro_rules | `(tactic| k_dat $n:num "zs0")=>`(tactic| ((with_reducible refine' qPU $n ?N ?e ?i ?x ?s ?f);k_dat i "r";k_dat s "r";k_dat N "m";(case x=>first | exact Or.inl rfl | exact Or.inr rfl);(case f=>first | exact .inl rfl | exact .inr rfl);k_dat e "e"))
local macro_rules | `(tactic| k_dat $n:num "zg0")=>`(tactic| ((with_reducible refine' qLQ $n ?nd ?n ?x ?f);k_dat n "r";k_dat nd "m";(case x=>first | exact Or.inl rfl | exact Or.inr rfl);(case f=>first | exact .inl rfl | exact .inr rfl)))
local macro_rules | `(tactic| k_dat $n:num "zu0")=>`(tactic| ((with_reducible refine' qJA $n ?c ?g ?n ?s);k_dat n "r";k_dat c "r";(case g=>walk_at "d_gs");k_dat s "r"))
local macro_rules | `(tactic| k_dat $l:ident "s0")=>`(tactic| ((with_reducible refine' $l ?v ?r);k_dat v "e";(case r=>walk_at "d_pk")))
local macro_rules | `(tactic| k_dat $l:ident "s1")=>`(tactic| ((with_reducible refine' $l ?a ?b);k_dat a "e";k_dat b "e"))
local macro_rules | `(tactic| k_dat $l:ident "s2")=>`(tactic| ((with_reducible refine' $l ?a);k_dat a "e"))
local macro_rules | `(tactic| k_dat $l:ident "s3")=>`(tactic| ((with_reducible refine' $l ?a ?b ?h1 ?h2 ?h3 ?h4 ?h5);k_dat a "e";k_dat b "e";k_dat h1 "r";k_dat h2 "r";k_dat h3 "r";k_dat h4 "r";k_dat h5 "r"))
local macro_rules | `(tactic| k_dat $l:ident "s4")=>`(tactic| ((with_reducible refine' $l ?f ?n ?r ?a ?g ?db ?he ?hpl);k_dat f "m";k_dat n "r";(case r=>walk_at "d_room");k_dat a "a";k_dat g "r";k_dat db "d";k_dat he "r";k_dat hpl "r"))
local macro_rules | `(tactic| k_dat $l:ident "s5")=>`(tactic| ((with_reducible refine' $l ?hu ?a ?b ?m);(case hu=>walk_at "d_hu");k_dat a "e";k_dat b "e";k_dat m "n"))
local macro_rules | `(tactic| k_dat $l:ident "s6")=>`(tactic| ((with_reducible refine' $l ?a ?b ?m);k_dat a "e";k_dat b "e";k_dat m "n"))
local macro_rules | `(tactic| k_dat $l:ident "s7")=>`(tactic| ((with_reducible refine' $l ?c ?m ?a ?g ?he ?hpl);k_dat c "r";k_dat m "m";k_dat a "a";k_dat g "r";k_dat he "r";k_dat hpl "r"))
local macro_rules | `(tactic| k_dat $l:ident "s8")=>`(tactic| ((with_reducible refine' $l ?a);k_dat a "a"))
local macro_rules | `(tactic| k_dat $l:ident "s9")=>`(tactic| ((with_reducible refine' $l ?a ?l ?h);k_dat a "e";(case l=>walk_at "d_o");(case h=>walk_at "d_o")))
local macro_rules | `(tactic| k_dat $l:ident "s10")=>`(tactic| ((with_reducible refine' $l ?m ?a ?g ?he ?hpl);k_dat m "m";k_dat a "a";k_dat g "r";k_dat he "r";k_dat hpl "r"))
local macro_rules | `(tactic| k_dat $l:ident "s11")=>`(tactic| ((with_reducible refine' $l ?m ?g);k_dat m "m";k_dat g "r"))
local macro_rules | `(tactic| k_dat $l:ident "s12")=>`(tactic| ((with_reducible refine' $l ?a ?b ?c ?m);k_dat a "e";k_dat b "e";k_dat c "e";(case m=>with_unfolding_all rfl)))
local macro_rules | `(tactic| k_dat $l:ident "s13")=>`(tactic| ((with_reducible refine' $l ?hu ?a ?b ?m);(case hu=>exact hu1 (by assumption));k_dat a "e";k_dat b "e";k_dat m "n"))
local macro_rules | `(tactic| k_dat $l:ident "s14")=>`(tactic| ((with_reducible refine' $l ?T ?i ?g ?d ?m);k_dat T "m";k_dat g "r";k_dat d "d";k_dat i "e";k_dat m "n"))
local macro_rules | `(tactic| k_dat $l:ident "s15")=>`(tactic| ((with_reducible refine' $l ?a);k_dat a "t"))
local macro_rules | `(tactic| k_dat $l:ident "s16")=>`(tactic| ((with_reducible refine' $l ?a ?b);k_dat a "t";(case b=>walk_at "d_w")))
local macro_rules | `(tactic| k_dat $l:ident "s17")=>`(tactic| ((with_reducible refine' $l ?m ?a ?g ?s);k_dat m "m";k_dat a "e";k_dat g "r";k_dat s "r"))
local macro_rules | `(tactic| walk_at "d_room")=>`(tactic| first
  | exact qA4.mono (by assumption) (by decide))
local macro_rules | `(tactic| walk_at "d_hu")=>`(tactic| first
  | exact qQn (by assumption))
local macro_rules | `(tactic| walk_at "d_ps")=>`(tactic| first
  | (with_reducible exact dps_nil)
  | ((with_reducible refine' dps_cons ?v ?r);k_dat v "e";(case r=>walk_at "d_ps")))
local macro_rules | `(tactic| walk_at "d_pk")=>`(tactic| first
  | (with_reducible exact qLi)
  | (k_dat qMi "s0"))
local macro_rules | `(tactic| walk_at "d_e")=>`(tactic| first
  | (with_reducible exact qNT)
  | (with_reducible exact qO3)
  | (with_reducible exact qP5)
  | (with_reducible exact qPB)
  | ((with_reducible show DE _ (.Name _ _) _);first
      | (k_dat 0 "zv0")
      | (k_dat 1 "zv0")
      | (k_dat 2 "zv0")
      | (k_dat 3 "zv0")
      | (k_dat 4 "zv0")
      | (k_dat 5 "zv0")
      | (k_dat 6 "zv0")
      | (k_dat 7 "zv0")
      | (k_dat 8 "zv0")
      | (k_dat 9 "zv0")
      | (k_dat 10 "zv0")
      | (k_dat 11 "zv0")
      | (k_dat 12 "zv0")
      | (k_dat 13 "zv0")
      | (k_dat 14 "zv0")
      | (k_dat 15 "zv0"))
  | (k_dat qPO "s1")
  | (k_dat qNY "s2")
  | (k_dat qPY "s1")
  | (k_dat qOv "s1")
  | (k_dat qPG "s1")
  | (k_dat qOZ "s1")
  | (k_dat qOt "s1")
  | (k_dat qPn "s5")
  | (k_dat qQi "s5")
  | (k_dat qPk "s6")
  | (k_dat qQM "s6")
  | (k_dat qQI "s6")
  | (k_dat qOy "s7")
  | (k_dat qOw "s7")
  | (k_dat qN1 "s8")
  | (k_dat qN8 "s8")
  | (k_dat qJB "s9")
  | ((with_reducible refine' qQQ ?a ?b ?s);k_dat a "e";k_dat b "e";(case s=>exact fun _ _=>rfl))
  | ((with_reducible refine' qJ6 ?f ?r ?a ?g ?db ?he ?hpl);k_dat f "m";(case r=>walk_at "d_room");k_dat a "a";k_dat g "r";k_dat db "d";k_dat he "r";k_dat hpl "r")
  | (k_dat qOY "s10")
  | (k_dat qJJ "s10")
  | (k_dat qJ8 "s10")
  | (k_dat qLe "s10")
  | (k_dat qNM "s10")
  | (k_dat qJo "s11")
  | (k_dat qJe "s11")
  | (k_dat qH5 "s11")
  | ((with_reducible refine' qNp ?f ?g ?db);(case f=>first | assumption | exact qKw.con (by assumption));k_dat g "r";k_dat db "d")
  | (k_dat qI4 "s3")
  | (k_dat qNf "s2")
  | (k_dat qPV "s1")
  | (k_dat qNw "s2")
  | ((with_reducible refine' qPp ?c ?a ?b);k_dat c "t";k_dat a "e";k_dat b "e")
  | (k_dat qLB "s12")
  | ((with_reducible refine' qFv _ ?hc ?S ?hx ?nd ?i ?f ?e ?hs);k_dat hc "r";(case S=>exact qIh (by assumption) (by rfl));k_dat hx "r";(case nd=>decide +kernel);k_dat i "i";(case f=>(intro _ _ _ _;walk_at "d_if"));(case e=>(intro _ _ _ _;walk_at "d_e"));(case hs=>(intro _;rfl)))
  | ((with_reducible refine' qFv _ ?hc ?S ?hx ?nd ?i ?f ?e ?hs);k_dat hc "r";(case S=>exact qGu (by assumption) (by rfl));k_dat hx "r";(case nd=>decide +kernel);k_dat i "i";(case f=>(intro _ _ _ _;walk_at "d_if"));(case e=>(intro _ _ _ _;walk_at "d_e"));(case hs=>(intro _;rfl)))
  | ((with_reducible refine' qFv [] ?hc ?S ?hx ?nd ?i ?f ?e ?hs);k_dat hc "r";(case S=>exact qIm (by rfl));k_dat hx "r";(case nd=>decide +kernel);k_dat i "i";(case f=>(intro _ _ _ _;walk_at "d_if"));(case e=>(intro _ _ _ _;walk_at "d_e"));(case hs=>(intro _;rfl)))
  | ((with_reducible refine' qLV ?h ?hall ?hl ?h0 ?h15 ?hk ?nd);(case h=>walk_at "d_pk");k_dat hall "r";k_dat hl "r";(case h0=>exact List.cons_ne_nil _ _);k_dat h15 "d";k_dat hk "d";k_dat nd "d")
  | ((with_reducible refine' qMb ?hu ?a ?b ?s);(case hu=>exact hu1 (by assumption));k_dat a "e";k_dat b "e";(case s=>exact fun _ _=>rfl))
  | (k_dat qIy "s14")
  | ((with_reducible refine' qHi ?T ?i ?g ?d ?s);k_dat T "m";k_dat g "r";k_dat d "d";(case s=>exact fun _ _=>rfl);k_dat i "e")
  | ((with_reducible refine' qIw ?T ?r ?i ?a ?g ?d ?s ?he ?hpl ?hev);k_dat T "m";(case r=>walk_at "d_room");k_dat g "r";k_dat d "d";(case s=>exact fun _ _=>rfl);k_dat he "r";k_dat hpl "r";k_dat hev "r";k_dat i "e";k_dat a "a")
  | ((with_reducible refine' qNI ?m ?a ?c ?g ?he ?he2 ?hpl);k_dat m "m";(case c=>first | (refine' qHy.own ?o1 ?g1 ?d1;k_dat o1 "m";k_dat g1 "r";k_dat d1 "d") | (refine' qHy.blt ?o2 ?v2 ?g2 ?n2 ?d2;k_dat o2 "m";k_dat v2 "r";k_dat g2 "r";k_dat n2 "d";k_dat d2 "d"));k_dat g "r";k_dat he "r";k_dat he2 "r";k_dat hpl "r";k_dat a "e")
  | ((with_reducible refine' qOB ?m ?a ?c ?g ?he ?he2 ?hpl);k_dat m "m";(case c=>(refine' qLY.qQo ?o ?g1 ?g2 ?g3 ?g4 ?d1 ?d2 ?d3 ?d4 ?s1 ?s2 ?s3 ?s4;k_dat o "m";k_dat g1 "r";k_dat g2 "r";k_dat g3 "r";k_dat g4 "r";k_dat d1 "d";k_dat d2 "d";k_dat d3 "d";k_dat d4 "d";k_dat s1 "r";k_dat s2 "r";k_dat s3 "r";k_dat s4 "r"));k_dat g "r";k_dat he "r";k_dat he2 "r";k_dat hpl "r";k_dat a "e")
  | ((with_reducible refine' qMG ?a ?h);k_dat a "e";k_dat h "d"))
local macro_rules | `(tactic| walk_at "d_a")=>`(tactic| first
  | (with_reducible exact qHp)
  | ((with_reducible refine' qF0 ?a ?b ?h);k_dat a "e";k_dat b "a";k_dat h "r"))
local macro_rules | `(tactic| walk_at "d_o")=>`(tactic| first
  | (with_reducible exact qMT)
  | (k_dat qMc "s2"))
local macro_rules | `(tactic| walk_at "d_t")=>`(tactic| first
  | (k_dat qNX "s15")
  | ((with_reducible refine' qNA (qKO ?a ?b));k_dat a "t";(case b=>walk_at "d_w"))
  | ((with_reducible refine' qNA (qNC ?a ?b));k_dat a "t";(case b=>walk_at "d_w"))
  | (k_dat qNz "s5")
  | (k_dat qNc "s5")
  | (k_dat qOF "s6")
  | (k_dat qNn "s6")
  | (k_dat qOi "s6")
  | (k_dat qNW "s6")
  | (k_dat qIv "s6")
  | (k_dat qNb "s6")
  | (k_dat qJU "s6")
  | (k_dat qFI "s14")
  | (k_dat qLU "s5")
  | ((with_reducible refine' qNK ?a ?h);k_dat a "e";(case h=>(intro _;rfl))))
local macro_rules | `(tactic| walk_at "d_w")=>`(tactic| first
  | (k_dat qKO "s16")
  | (k_dat qNC "s16")
  | (k_dat qLh "s15")
  | (k_dat qOI "s15"))
local macro_rules | `(tactic| walk_at "d_if")=>`(tactic| first
  | (with_reducible exact qLZ)
  | (k_dat qMW "s15"))
local macro_rules | `(tactic| walk_at "d_i")=>`(tactic| first
  | (k_dat qJc "s17")
  | (k_dat qPD "s2"))
local macro_rules | `(tactic| walk_at "d_g")=>`(tactic| first
  | (k_dat 0 "zg0")
  | (k_dat 1 "zg0")
  | (k_dat 2 "zg0")
  | (k_dat 3 "zg0")
  | (k_dat 4 "zg0")
  | (k_dat 5 "zg0")
  | (k_dat 6 "zg0")
  | (k_dat 7 "zg0")
  | (k_dat 8 "zg0")
  | (k_dat 9 "zg0")
  | (k_dat 10 "zg0")
  | (k_dat 11 "zg0")
  | (k_dat 12 "zg0")
  | (k_dat 13 "zg0")
  | (k_dat 14 "zg0")
  | (k_dat 15 "zg0")
  | (k_dat 1 "zu0")
  | (k_dat 2 "zu0")
  | (k_dat 3 "zu0")
  | (k_dat 4 "zu0")
  | (k_dat 5 "zu0")
  | (k_dat 6 "zu0")
  | (k_dat 7 "zu0")
  | (k_dat 8 "zu0")
  | ((with_reducible refine' qNa ?a ?b ?h);k_dat a "e";k_dat b "e";(case h=>(intro _;rfl))))
local macro_rules | `(tactic| walk_at "d_gs")=>`(tactic| first
  | (with_reducible exact qLs)
  | ((with_reducible refine' qJi ?a ?b ?h);(case a=>walk_at "d_g");(case b=>walk_at "d_gs");k_dat h "r"))
local macro_rules | `(tactic| walk_at "d_s")=>`(tactic| first
  | (k_dat qNt "s2")
  | ((with_reducible refine' qP3 ?c ?a ?b);k_dat c "t";k_dat a "s";k_dat b "s")
  | ((with_reducible refine' qLx ?a ?h);k_dat h "r";k_dat a "e")
  | ((with_reducible refine' qN7 ?p ?c ?i ?g ?b ?h);(case p=>exact PassesOwn.never);k_dat c "r";k_dat i "i";(case g=>walk_at "d_g");k_dat b "s";(case h=>(intro _;rfl)))
  | ((with_reducible show DS _ (.Assign [.Name _ _] (.ListComp _ _ _ _) _) _);first
      | (k_dat 0 "zc0")
      | (k_dat 0 "zc1")
      | (k_dat 0 "zc2")
      | (k_dat 1 "zc0")
      | (k_dat 1 "zc1")
      | (k_dat 1 "zc2")
      | (k_dat 2 "zc0")
      | (k_dat 2 "zc1")
      | (k_dat 2 "zc2")
      | (k_dat 3 "zc0")
      | (k_dat 3 "zc1")
      | (k_dat 3 "zc2")
      | (k_dat 4 "zc0")
      | (k_dat 4 "zc1")
      | (k_dat 4 "zc2")
      | (k_dat 5 "zc0")
      | (k_dat 5 "zc1")
      | (k_dat 5 "zc2")
      | (k_dat 6 "zc0")
      | (k_dat 6 "zc1")
      | (k_dat 6 "zc2")
      | (k_dat 7 "zc0")
      | (k_dat 7 "zc1")
      | (k_dat 7 "zc2")
      | (k_dat 8 "zc0")
      | (k_dat 8 "zc1")
      | (k_dat 8 "zc2")
      | (k_dat 9 "zc0")
      | (k_dat 9 "zc1")
      | (k_dat 9 "zc2")
      | (k_dat 10 "zc0")
      | (k_dat 10 "zc1")
      | (k_dat 10 "zc2")
      | (k_dat 11 "zc0")
      | (k_dat 11 "zc1")
      | (k_dat 11 "zc2")
      | (k_dat 12 "zc0")
      | (k_dat 12 "zc1")
      | (k_dat 12 "zc2")
      | (k_dat 13 "zc0")
      | (k_dat 13 "zc1")
      | (k_dat 13 "zc2")
      | (k_dat 14 "zc0")
      | (k_dat 14 "zc1")
      | (k_dat 14 "zc2")
      | (k_dat 15 "zc0")
      | (k_dat 15 "zc1")
      | (k_dat 15 "zc2"))
  | ((with_reducible show DS _ (.Assign [.Name _ _] _ _) _);first
      | (k_dat 0 "zs0")
      | (k_dat 1 "zs0")
      | (k_dat 2 "zs0")
      | (k_dat 3 "zs0")
      | (k_dat 4 "zs0")
      | (k_dat 5 "zs0")
      | (k_dat 6 "zs0")
      | (k_dat 7 "zs0")
      | (k_dat 8 "zs0")
      | (k_dat 9 "zs0")
      | (k_dat 10 "zs0")
      | (k_dat 11 "zs0")
      | (k_dat 12 "zs0")
      | (k_dat 13 "zs0")
      | (k_dat 14 "zs0")
      | (k_dat 15 "zs0"))
  | ((with_reducible refine' qOR ?e ?g ?s ?w ?h);k_dat s "r";k_dat w "r";k_dat h "r";k_dat e "e";(case g=>walk_at "d_g"))
  | ((with_reducible show DS _ (.AugAssign (.Name _ _) _ _ _) _);first
      | (k_dat 15 "za0"))
  | ((with_reducible refine' qKq 5 7 ?F ?r ?z ?nd ?a ?s ?g ?db ?he ?hpl ?i ?x ?sw ?f ?st ?fr ?ex ?gz ?dz ?j ?nl);k_dat F "m";(case r=>walk_at "d_room");k_dat z "m";k_dat nd "m";k_dat g "r";k_dat db "d";k_dat he "r";k_dat hpl "r";k_dat i "r";(case x=>first | exact Or.inl rfl | exact Or.inr rfl);k_dat sw "r";(case f=>first | exact .inl rfl | exact .inr rfl);k_dat st "r";k_dat fr "r";k_dat ex "r";k_dat gz "r";k_dat dz "d";k_dat j "r";k_dat nl "r";k_dat a "a";(case s=>(intro _;walk_at "d_ss"))))
local macro_rules | `(tactic| walk_at "dq_s")=>`(tactic| first
  | ((with_reducible refine' qJt ?h ?i ?c ?E ?a ?g ?d ?he ?hpl);k_dat h "m";k_dat i "r";k_dat c "r";(case E=>exact qJE);k_dat a "a";k_dat g "r";k_dat d "d";k_dat he "r";k_dat hpl "r")
  | (k_dat qPI "s2")
  | ((with_reducible refine' qP2 ?c ?a ?b);k_dat c "t";(case a=>walk_at "dq_ss");(case b=>walk_at "dq_ss"))
  | ((with_reducible refine' qPm ?a ?h);(case h=>exact fun _ _ _ h=>h);(case a=>walk_at "d_s")))
local macro_rules | `(tactic| walk_at "dq_ss")=>`(tactic| first
  | (with_reducible exact qL5)
  | ((with_reducible refine' qGq ?a ?b);(case a=>walk_at "dq_s");(case b=>walk_at "dq_ss")))
local macro_rules | `(tactic| walk_at "d_ss")=>`(tactic| first
  | (with_reducible exact qMh)
  | ((with_reducible refine' qG4 ?a ?b);(case a=>walk_at "d_s");k_dat b "s"))
set_option hygiene false in
local macro_rules | `(tactic| k_dat ($a,$t,$r) "k")=>`(tactic| (have nd:=($a).nd;refine qOz F $a (fun ds st Pd h=>by first | (obtain⟨_,rfl,_⟩:=h;rfl) | (obtain⟨_,_,rfl,_⟩:=h;rfl) | (obtain⟨_,_,_,rfl,_⟩:=h;rfl) | (obtain⟨_,_,_,_,rfl,_⟩:=h;rfl) | (obtain⟨_,_,_,_,_,rfl,_⟩:=h;rfl) | (obtain⟨_,_,_,_,_,_,rfl,_⟩:=h;rfl) | (obtain⟨_,_,_,_,_,_,_,rfl,_⟩:=h;rfl) | (obtain⟨_,_,_,_,_,_,_,_,rfl,_⟩:=h;rfl) | (obtain⟨_,_,_,_,_,_,_,_,_,rfl,_⟩:=h;rfl) | (obtain⟨_,_,_,_,_,_,_,_,_,_,rfl,_⟩:=h;rfl) | (obtain⟨_,_,_,_,_,_,_,_,_,_,_,rfl,_⟩:=h;rfl) | (obtain⟨_,_,_,_,_,_,_,_,_,_,_,_,rfl,_⟩:=h;rfl) | (obtain⟨_,_,_,_,_,_,_,_,_,_,_,_,_,rfl,_⟩:=h;rfl) | (obtain⟨_,_,_,_,_,_,_,_,_,_,_,_,_,_,rfl,_⟩:=h;rfl) | (obtain⟨_,_,_,_,_,_,_,_,_,_,_,_,_,_,_,rfl,_⟩:=h;rfl) | (obtain⟨_,_,_,_,_,_,_,_,_,_,_,_,_,_,_,_,rfl,_⟩:=h;rfl) | (obtain⟨_,_,_,_,_,_,_,_,_,_,_,_,_,_,_,_,_,rfl,_⟩:=h;rfl) | (obtain⟨_,_,_,_,_,_,_,_,_,_,_,_,_,_,_,_,_,_,rfl,_⟩:=h;rfl) | (obtain⟨_,_,_,_,_,_,_,_,_,_,_,_,_,_,_,_,_,_,_,rfl,_⟩:=h;rfl) | (obtain⟨_,_,_,_,_,_,_,_,_,_,_,_,_,_,_,_,_,_,_,_,rfl,_⟩:=h;rfl) | (obtain⟨_,_,_,_,_,_,_,_,_,_,_,_,_,_,_,_,_,_,_,_,_,rfl,_⟩:=h;rfl)) fun cdv A outer s H E hr=>?_;refine⟨$t,?t,fun ds st Pd h=>$r h⟩;(case t=>(refine' qG4 ?a ?b;(case a=>walk_at "d_s");(case b=>walk_at "d_ss")))))
local macro_rules | `(tactic| k_dat 0 "c")=>`(tactic| exact⟨rfl,rfl,rfl,by decide +kernel,rfl,by decide +kernel,by decide +kernel⟩)
set_option hygiene false in
local macro_rules | `(tactic| k_dat ($a,$t,$r) "kr")=>`(tactic| (have nd:=($a).nd;refine qLa F $a (fun ds st Pd h=>by first | (obtain⟨_,rfl,_⟩:=h;rfl) | (obtain⟨_,_,rfl,_⟩:=h;rfl) | (obtain⟨_,_,_,rfl,_⟩:=h;rfl) | (obtain⟨_,_,_,_,rfl,_⟩:=h;rfl) | (obtain⟨_,_,_,_,_,rfl,_⟩:=h;rfl) | (obtain⟨_,_,_,_,_,_,rfl,_⟩:=h;rfl) | (obtain⟨_,_,_,_,_,_,_,rfl,_⟩:=h;rfl) | (obtain⟨_,_,_,_,_,_,_,_,rfl,_⟩:=h;rfl) | (obtain⟨_,_,_,_,_,_,_,_,_,rfl,_⟩:=h;rfl) | (obtain⟨_,_,_,_,_,_,_,_,_,_,rfl,_⟩:=h;rfl) | (obtain⟨_,_,_,_,_,_,_,_,_,_,_,rfl,_⟩:=h;rfl) | (obtain⟨_,_,_,_,_,_,_,_,_,_,_,_,rfl,_⟩:=h;rfl) | (obtain⟨_,_,_,_,_,_,_,_,_,_,_,_,_,rfl,_⟩:=h;rfl) | (obtain⟨_,_,_,_,_,_,_,_,_,_,_,_,_,_,rfl,_⟩:=h;rfl) | (obtain⟨_,_,_,_,_,_,_,_,_,_,_,_,_,_,_,rfl,_⟩:=h;rfl) | (obtain⟨_,_,_,_,_,_,_,_,_,_,_,_,_,_,_,_,rfl,_⟩:=h;rfl) | (obtain⟨_,_,_,_,_,_,_,_,_,_,_,_,_,_,_,_,_,rfl,_⟩:=h;rfl) | (obtain⟨_,_,_,_,_,_,_,_,_,_,_,_,_,_,_,_,_,_,rfl,_⟩:=h;rfl) | (obtain⟨_,_,_,_,_,_,_,_,_,_,_,_,_,_,_,_,_,_,_,rfl,_⟩:=h;rfl) | (obtain⟨_,_,_,_,_,_,_,_,_,_,_,_,_,_,_,_,_,_,_,_,rfl,_⟩:=h;rfl) | (obtain⟨_,_,_,_,_,_,_,_,_,_,_,_,_,_,_,_,_,_,_,_,_,rfl,_⟩:=h;rfl)) fun cdv A outer s H E hr=>?_;refine⟨$t,?t,fun ds st Pd h=>$r h⟩;(case t=>(refine' qGq ?a ?b;(case a=>walk_at "dq_s");(case b=>walk_at "dq_ss")))))
noncomputable def top (i:Nat):Stmt:=PySem.Challenge.pw_asitruns_k30_turned.main.body.getD i (.Pass ⟨0,0,0,0⟩)
noncomputable abbrev qBP:Stmt:=top 8
noncomputable abbrev qFu:Stmt:=top 11
noncomputable abbrev qDw:Stmt:=top 12
noncomputable abbrev qCz:Stmt:=top 15
noncomputable abbrev qC0:Stmt:=top 16
noncomputable abbrev qBm:Stmt:=top 17
noncomputable abbrev qD0:Stmt:=top 18
noncomputable abbrev qEx:Stmt:=top 21
noncomputable abbrev qBQ:Stmt:=top 22
noncomputable abbrev qHo:Stmt:=top 23
noncomputable abbrev qGU:Stmt:=top 24
noncomputable abbrev qDs:Stmt:=top 25
noncomputable abbrev qEV:Stmt:=top 26
noncomputable abbrev qH2:Stmt:=top 27
noncomputable abbrev qJj:Stmt:=top 28
noncomputable abbrev qLL:Stmt:=top 29
noncomputable abbrev qBk:Stmt:=top 30
noncomputable abbrev qFx:Stmt:=top 31
noncomputable abbrev qHc:Stmt:=top 32
noncomputable abbrev qGE:Stmt:=top 33
noncomputable abbrev qDf:Stmt:=top 35
noncomputable abbrev qEo:Stmt:=top 36
noncomputable abbrev qCR:Stmt:=top 38
noncomputable abbrev qCv:Stmt:=top 39
noncomputable abbrev qCE:Stmt:=top 40
noncomputable abbrev qBe:Stmt:=top 41
noncomputable abbrev qCX:Stmt:=top 42
noncomputable abbrev qBb:Stmt:=top 43
noncomputable abbrev qCY:Stmt:=top 44
noncomputable abbrev qBI:Stmt:=top 45
noncomputable abbrev qBo:Stmt:=top 46
noncomputable abbrev qCO:Stmt:=top 47
noncomputable abbrev qCG:Stmt:=top 48
noncomputable abbrev qBY:Stmt:=top 49
noncomputable abbrev qFh:Stmt:=top 50
section
variable {P:Program} {w:World} {K:W.Frag} {mg:Str→Option Value} {base:Heap} {f:Addr} {fd:FuncData}
theorem qEB:qZ ["word", "x", "y"] ["word", "x", "y"] (qO qBP):=by k_dat 0 "c"
theorem qEI (F:Fun K "plain_outcome" "plain_outcome" qBP f fd)  : qAM P w K mg base CX0 1 f fd ["word", "x", "y"] (qc K K20.qET):=by
  k_dat (qEB,K20.qCI,K20.qDq) "k"
theorem qLo:qZ ["node"] ["node"] (qO qFu):=by k_dat 0 "c"
theorem qLd (F:Fun K "under" "under" qFu f fd) (gT0:qKw K mg "NAMING" K19.qJs):qAM P w K mg base CX0 1 f fd ["node"] (qc K K19.qCi):=by
  k_dat (qLo,K19.qIZ,K19.qKC) "k"
theorem qI7:qZ ["word", "named", "x", "y"] ["word", "named"] (qO qDw):=by k_dat 0 "c"
theorem qIu (F:Fun K "made_of" "made_of" qDw f fd) (dplain_outcome:qAB P w K mg base "plain_outcome" 1 K20.qET):qAM P w K mg base CX0 2 f fd ["word", "named"] (qc K K20.qDx):=by
  k_dat (qI7,K20.qFX,K20.qHf) "k"
theorem qIE:qZ ["value"] ["value"] (qO qCz):=by k_dat 0 "c"
theorem qHa (F:Fun K "is_whole" "is_whole" qCz f fd) (m2:mg "isinstance" = none) (m4:mg "int" = none) (m5:mg "bool" = none):qAM P w K mg base CX0 1 f fd ["value"] (qc K KR.qEO):=by
  k_dat (qIE,KR.qEd,KR.qGs) "k"
theorem qHb:qZ ["value", "bound"] ["value", "bound"] (qO qC0):=by k_dat 0 "c"
theorem qHj (F:Fun K "is_below" "is_below" qC0 f fd) (dis_whole:qAB P w K mg base "is_whole" 1 KR.qEO):qAM P w K mg base CX0 2 f fd ["value", "bound"] (qc K KR.qB9):=by
  k_dat (qHb,KR.qEj,KR.qG1) "k"
theorem qFL:qZ ["value", "many"] ["value", "many"] (qO qBm):=by k_dat 0 "c"
theorem qFH (F:Fun K "is_tuple_of" "is_tuple_of" qBm f fd) (m1:mg "tuple" = none) (m2:mg "isinstance" = none) (m3:mg "len" = none):qAM P w K mg base CX0 1 f fd ["value", "many"] (qc K KR.qDG):=by
  k_dat (qFL,KR.qCr,KR.qE8) "k"
theorem qI6:qZ ["node"] ["node"] (qO qD0):=by k_dat 0 "c"
theorem qJb (F:Fun K "is_node" "is_node" qD0 f fd) (m1:mg "tuple" = none) (m2:mg "isinstance" = none) (m3:mg "len" = none) (kKCOUNTS:qDB w K mg "COUNTS" KR.cntK) (kVCOUNTS:qC3 w K mg "COUNTS" (RDt K) KR.qKD):qAM P w K mg base CX0 1 f fd ["node"] (qc K KR.qDD):=by
  k_dat (qI6,KR.qFp,KR.qH4) "k"
theorem qKQ:qZ ["nodes", "number", "node"] ["nodes", "number"] (qO qEx):=by k_dat 0 "c"
theorem qKu (F:Fun K "num_of" "num_of" qEx f fd)  : qAM P w K mg base CX0 1 f fd ["nodes", "number"] (qc K KR.qAS):=by
  k_dat (qKQ,KR.qHW,KR.qJR) "k"
theorem qEE:qZ ["nodes", "seen", "nums"] ["nodes", "seen"] (qO qBQ):=by k_dat 0 "c"
theorem qED (F:Fun K "worth_of_nums" "worth_of_nums" qBQ f fd) (dunder:qAB P w K mg base "under" 1 K19.qCi) (dmade_of:qAB P w K mg base "made_of" 2 K20.qDx) (dnum_of:qAB P w K mg base "num_of" 1 KR.qAS):qAM P w K mg base CX0 3 f fd ["nodes", "seen"] (qc K KR.qDz):=by
  have hint0:Hint [(0, "nodes")]:=⟨trivial⟩
  k_dat (qEE,KR.qA2,KR.qDm) "k"
theorem qNZ:qZ ["nodes", "seen", "n"] ["nodes", "seen", "n"] (qO qHo):=by k_dat 0 "c"
theorem qOW (F:Fun K "swap" "swap" qHo f fd)  : qAM P w K mg base CX0 4 f fd ["nodes", "seen", "n"] (qc K (KR.spR .swap)):=by
  k_dat (qNZ,KR.qHh,KR.qL2) "k"
theorem qMP:qZ ["nodes", "seen", "n", "v", "x"] ["nodes", "seen", "n"] (qO qGU):=by k_dat 0 "c"
theorem qLu (F:Fun K "group" "group" qGU f fd)  : qAM P w K mg base CX0 4 f fd ["nodes", "seen", "n"] (qc K (KR.spR .group)):=by
  k_dat (qMP,KR.qIM,KR.qKf) "k"
theorem qJM:qZ ["nodes", "seen", "n", "v", "y"] ["nodes", "seen", "n"] (qO qDs):=by k_dat 0 "c"
theorem qI9 (F:Fun K "ungroup" "ungroup" qDs f fd)  : qAM P w K mg base CX0 4 f fd ["nodes", "seen", "n"] (qc K (KR.spR .ungroup)):=by
  k_dat (qJM,KR.qFg,KR.qHk) "k"
theorem qKl:qZ ["nodes", "seen", "n", "k"] ["nodes", "seen", "n"] (qO qEV):=by k_dat 0 "c"
theorem qLI (F:Fun K "subnum" "subnum" qEV f fd) (dnum_of:qAB P w K mg base "num_of" 1 KR.qAS):qAM P w K mg base CX0 4 f fd ["nodes", "seen", "n"] (qc K (KR.spR .subnum)):=by
  k_dat (qKl,KR.qG2,KR.qJV) "k"
theorem qPC:qZ ["nodes", "seen", "n"] ["nodes", "seen", "n"] (qO qH2):=by k_dat 0 "c"
theorem qNx (F:Fun K "zero" "zero" qH2 f fd) (dnum_of:qAB P w K mg base "num_of" 1 KR.qAS):qAM P w K mg base CX0 4 f fd ["nodes", "seen", "n"] (qc K (KR.spR .zero)):=by
  k_dat (qPC,KR.qKg,KR.qMM) "k"
theorem qPa:qZ ["nodes", "seen", "n"] ["nodes", "seen", "n"] (qO qJj):=by k_dat 0 "c"
theorem qPi (F:Fun K "one" "one" qJj f fd) (dnum_of:qAB P w K mg base "num_of" 1 KR.qAS):qAM P w K mg base CX0 4 f fd ["nodes", "seen", "n"] (qc K (KR.spR .one)):=by
  k_dat (qPa,KR.qMn,KR.qNL) "k"
theorem qP0:qZ ["nodes", "seen", "n"] ["nodes", "seen", "n"] (qO qLL):=by k_dat 0 "c"
theorem qPx (F:Fun K "nil" "nil" qLL f fd) (dnum_of:qAB P w K mg base "num_of" 1 KR.qAS):qAM P w K mg base CX0 4 f fd ["nodes", "seen", "n"] (qc K (KR.spR .nil)):=by
  k_dat (qP0,KR.qMx,KR.qN2) "k"
theorem qFN:qZ ["nodes", "seen", "n"] ["nodes", "seen", "n"] (qO qBk):=by k_dat 0 "c"
theorem qFM (F:Fun K "less_itself" "less_itself" qBk f fd)  : qAM P w K mg base CX0 4 f fd ["nodes", "seen", "n"] (qc K (KR.spR .self)):=by
  k_dat (qFN,KR.qCo,KR.qEa) "k"
theorem qML:qZ ["nodes", "seen", "n", "found"] ["nodes", "seen", "n"] (qO qFx):=by k_dat 0 "c"
theorem qMD (F:Fun K "count" "count" qFx f fd) (dworth_of_nums:qAB P w K mg base "worth_of_nums" 3 KR.qDz):qAM P w K mg base CX0 4 f fd ["nodes", "seen", "n"] (qc K (KR.spR .count)):=by
  k_dat (qML,KR.qIP,KR.qJ2) "k"
theorem qOX:qZ ["nodes", "seen", "n", "found"] ["nodes", "seen", "n"] (qO qHc):=by k_dat 0 "c"
theorem qPF (F:Fun K "sure" "sure" qHc f fd) (dworth_of_nums:qAB P w K mg base "worth_of_nums" 3 KR.qDz):qAM P w K mg base CX0 4 f fd ["nodes", "seen", "n"] (qc K (KR.spR .sure)):=by
  k_dat (qOX,KR.qKN,KR.qL7) "k"
theorem qLc:qZ ["nodes", "seen", "n", "word"] ["nodes", "seen", "n"] (qO qGE):=by k_dat 0 "c"
theorem qLS (F:Fun K "never" "never" qGE f fd) (kKNEVER:qDB w K mg "NEVER" KR.qIx) (kVNEVER:qC3 w K mg "NEVER" (RDt K) KR.qJI) (dnum_of:qAB P w K mg base "num_of" 1 KR.qAS):qAM P w K mg base CX0 4 f fd ["nodes", "seen", "n"] (qc K (KR.spR .never)):=by
  k_dat (qLc,KR.qIQ,KR.qJ0) "k"
theorem qIs:qZ ["nodes", "seen"] ["nodes", "seen"] (qO qDf):=by k_dat 0 "c"
theorem qJW (F:Fun K "is_seen" "is_seen" qDf f fd) (m0:mg "all" = none) (m3:mg "len" = none) (dunder:qAB P w K mg base "under" 1 K19.qCi) (dis_below:qAB P w K mg base "is_below" 2 KR.qB9) (dis_node:qAB P w K mg base "is_node" 1 KR.qDD):qAM P w K mg base CX0 3 f fd ["nodes", "seen"] (qc K KR.qDL):=by
  have hint0:Hint [(0, "nodes")]:=⟨trivial⟩
  k_dat (qIs,KR.qFY,KR.qHq) "k"
theorem qKz:qZ ["nodes", "seen", "step", "rule", "found"] ["nodes", "seen", "step"] (qO qEo):=by k_dat 0 "c"
theorem qLK (F:Fun K "turned" "turned" qEo f fd) (m3:mg "len" = none) (kKRULES:qDB w K mg "RULES" KR.keys) (kFRULES:qMV P w K mg base "RULES" KR.keys 4 KR.qGb) (rN:qIK K mg "NoTurning") (dis_below:qAB P w K mg base "is_below" 2 KR.qB9) (dis_tuple_of:qAB P w K mg base "is_tuple_of" 1 KR.qDG) (dis_seen:qAB P w K mg base "is_seen" 3 KR.qDL):qAM P w K mg base (CXE P w) 5 f fd ["nodes", "seen", "step"] (qEL K KR.qCZ):=by
  k_dat (qKz,KR.qHE,KR.qJG) "kr"
theorem qG3:qZ ["deck", "cells", "at", "mixed"] ["deck"] (qO qCR):=by k_dat 0 "c"
theorem qGn (F:Fun K "_law_next" "_law_next" qCR f fd) (m3:mg "len" = none):qAM P w K mg base CX0 1 f fd ["deck"] (qc K K31.qA5):=by
  k_dat (qG3,K31.qD9,K31.qF6) "k"
theorem qH3:qZ ["nodes", "number"] ["nodes", "number"] (qO qCv):=by k_dat 0 "c"
theorem qH8 (F:Fun K "_law_num" "_law_num" qCv f fd)  : qAM P w K mg base CX0 1 f fd ["nodes", "number"] (qc K K30.qCP):=by
  k_dat (qH3,K30.qEp,K30.qHR) "k"
theorem qFw:qZ ["word", "x", "y"] ["word", "x", "y"] (qO qCE):=by k_dat 0 "c"
theorem qGT (F:Fun K "_law_truth" "_law_truth" qCE f fd) (m4:mg "int" = none):qAM P w K mg base CX0 1 f fd ["word", "x", "y"] (qc K K31.qCd):=by
  k_dat (qFw,K31.qCF,K31.qE9) "k"
theorem qEh:qZ ["nodes", "seen", "rule", "n", "word", "x", "y"] ["nodes", "seen", "rule", "n"] (qO qBe):=by k_dat 0 "c"
theorem qEk (F:Fun K "_law_grouped" "_law_grouped" qBe f fd)  : qAM P w K mg base CX0 1 f fd ["nodes", "seen", "rule", "n"] (qc K K30.qCe):=by
  k_dat (qEh,K30.qCS,K30.qEH) "k"
theorem qG5:qZ ["nodes", "seen", "x", "y"] ["nodes", "seen"] (qO qCX):=by k_dat 0 "c"
theorem qGw (F:Fun K "_law_nums" "_law_nums" qCX f fd) (m4:mg "int" = none) (d_law_num:qAB P w K mg base "_law_num" 1 K30.qCP) (d_law_truth:qAB P w K mg base "_law_truth" 1 K31.qCd):qAM P w K mg base CX0 2 f fd ["nodes", "seen"] (qc K K30.qDH):=by
  k_dat (qG5,K30.qCa,K30.qFz) "k"
theorem qEs:qZ ["nodes", "seen", "rule", "word", "x", "y", "second"] ["nodes", "seen", "rule"] (qO qBb):=by k_dat 0 "c"
theorem qE6 (F:Fun K "_law_plainly" "_law_plainly" qBb f fd) (d_law_num:qAB P w K mg base "_law_num" 1 K30.qCP):qAM P w K mg base CX0 2 f fd ["nodes", "seen", "rule"] (qc K K30.qCh):=by
  k_dat (qEs,K30.qCW,K30.qEC) "k"
theorem qG6:qZ ["nodes", "seen", "rule", "n", "number", "word", "x", "y"] ["nodes", "seen", "rule", "n"] (qO qCY):=by k_dat 0 "c"
theorem qHS (F:Fun K "_law_turn" "_law_turn" qCY f fd) (m3:mg "len" = none) (m8:mg "max" = none) (d_law_num:qAB P w K mg base "_law_num" 1 K30.qCP) (d_law_grouped:qAB P w K mg base "_law_grouped" 1 K30.qCe) (d_law_nums:qAB P w K mg base "_law_nums" 2 K30.qDH) (d_law_plainly:qAB P w K mg base "_law_plainly" 2 K30.qCh):qAM P w K mg base CX0 3 f fd ["nodes", "seen", "rule", "n"] (qc K K30.qGO):=by
  k_dat (qG6,K30.qD7,K30.qGh) "k"
theorem qDn:qZ ["deck", "nodes", "items", "cell", "more", "numbers", "word", "x", "y"] ["deck", "nodes", "items"] (qO qBI):=by k_dat 0 "c"
theorem qDh (F:Fun K "_law_some_node" "_law_some_node" qBI f fd) (m3:mg "len" = none) (m4:mg "int" = none) (m6:mg "range" = none) (d_law_next:qAB P w K mg base "_law_next" 1 K31.qA5):qAM P w K mg base CX0 2 f fd ["deck", "nodes", "items"] (qc K K31.qEm):=by
  have hint0:Hint [(1, "nodes")]:=⟨trivial⟩
  k_dat (qDn,K31.qB1,K31.qDT) "k"
theorem qFE:qZ ["nodes", "seen", "rule", "found"] ["nodes", "seen", "rule"] (qO qBo):=by k_dat 0 "c"
theorem qFB (F:Fun K "_law_wanted" "_law_wanted" qBo f fd) (m3:mg "len" = none) (m6:mg "range" = none):qAM P w K mg base CX0 1 f fd ["nodes", "seen", "rule"] (qc K K30.qBv):=by
  have hint0:Hint [(3, "found"),(0, "nodes")]:=⟨trivial⟩
  have hint1:Hint [(0, "nodes"),(3, "found")]:=⟨trivial⟩
  k_dat (qFE,K30.qCp,K30.qEz) "k"
theorem qHD:qZ ["deck", "nodes", "found", "node", "rule", "one_v"] ["deck", "nodes"] (qO qCO):=by k_dat 0 "c"
theorem qHM (F:Fun K "_law_full" "_law_full" qCO f fd) (m1:mg "tuple" = none) (m3:mg "len" = none) (m7:mg "list" = none) (d_law_next:qAB P w K mg base "_law_next" 1 K31.qA5):qAM P w K mg base CX0 2 f fd ["deck", "nodes"] (qc K K30.qGc):=by
  k_dat (qHD,K30.qD6,K30.qGe) "k"
theorem qGY:qZ ["nodes", "seen", "rule", "n", "due", "found", "caught", "e"] ["nodes", "seen", "rule", "n"] (qO qCG):=by k_dat 0 "c"
theorem qGk (F:Fun K "_law_asked" "_law_asked" qCG f fd) (m1:mg "tuple" = none) (m2:mg "isinstance" = none) (m5:mg "bool" = none) (m9:mg "ValueError" = none) (cN:qIW K mg "GuestError" ["NoTurning"]) (oONoTurning:qMe K mg "NoTurning" ["NoTurning"] (fun _=>true)) (oBValueError:qOc K mg "ValueError" "ValueError" ["NoTurning"] (fun _=>true)) (oF0:qIF K mg "BadRow" "NoAsk" "NoPaper" "NoStep" ["NoTurning"] (fun _=>false)) (dturned:qH1 P w K mg base "turned" 5 KR.qCZ) (d_law_turn:qAB P w K mg base "_law_turn" 3 K30.qGO):qAM P w K mg base CX0 6 f fd ["nodes", "seen", "rule", "n"] (qc K K30.qBT):=by
  k_dat (qGY,K30.qDE,K30.qFG) "k"
theorem qEY:qZ ["deck", "nodes", "seen", "rule", "cell", "far"] ["deck", "nodes", "seen", "rule"] (qO qBY):=by k_dat 0 "c"
theorem qEn (F:Fun K "_law_strange" "_law_strange" qBY f fd) (m3:mg "len" = none) (d_law_next:qAB P w K mg base "_law_next" 1 K31.qA5):qAM P w K mg base CX0 2 f fd ["deck", "nodes", "seen", "rule"] (qc K K30.qBt):=by
  k_dat (qEY,K30.qCV,K30.qEJ) "k"
theorem qQc:qZ ["script", "deck", "nodes", "k", "rules", "rule", "cell", "seen", "some", "n"] ["script"] (qO qFh):=by k_dat 0 "c"
theorem qQO (F:Fun K "law" "law" qFh f fd) (m3:mg "len" = none) (m6:mg "range" = none) (d_law_next:qAB P w K mg base "_law_next" 1 K31.qA5) (d_law_some_node:qAB P w K mg base "_law_some_node" 2 K31.qEm) (d_law_wanted:qAB P w K mg base "_law_wanted" 1 K30.qBv) (d_law_full:qAB P w K mg base "_law_full" 2 K30.qGc) (d_law_asked:qAB P w K mg base "_law_asked" 6 K30.qBT) (d_law_strange:qAB P w K mg base "_law_strange" 2 K30.qBt):qAM P w K mg base CX0 20 f fd ["script"] (qc K qHC):=by
  k_dat (qQc,qMs,qOT) "k"
end
@[elab_as_elim] theorem len1 {C:List Value→Prop} (us:List Value) (hl:us.length=1) (h:∀ a0,C [a0]):C us:=by
  match us,hl with
  | [a0],_=>exact h _
@[elab_as_elim] theorem len2 {C:List Value→Prop} (us:List Value) (hl:us.length=2) (h:∀ a0 a1,C [a0,a1]):C us:=by
  match us,hl with
  | [a0,a1],_=>exact h _ _
@[elab_as_elim] theorem len3 {C:List Value→Prop} (us:List Value) (hl:us.length=3) (h:∀ a0 a1 a2,C [a0,a1,a2]):C us:=by
  match us,hl with
  | [a0,a1,a2],_=>exact h _ _ _
@[elab_as_elim] theorem len4 {C:List Value→Prop} (us:List Value) (hl:us.length=4) (h:∀ a0 a1 a2 a3,C [a0,a1,a2,a3]):C us:=by
  match us,hl with
  | [a0,a1,a2,a3],_=>exact h _ _ _ _
@[elab_as_elim] theorem len5 {C:List Value→Prop} (us:List Value) (hl:us.length=5) (h:∀ a0 a1 a2 a3 a4,C [a0,a1,a2,a3,a4]):C us:=by
  match us,hl with
  | [a0,a1,a2,a3,a4],_=>exact h _ _ _ _ _
@[elab_as_elim] theorem len6 {C:List Value→Prop} (us:List Value) (hl:us.length=6) (h:∀ a0 a1 a2 a3 a4 a5,C [a0,a1,a2,a3,a4,a5]):C us:=by
  match us,hl with
  | [a0,a1,a2,a3,a4,a5],_=>exact h _ _ _ _ _ _
@[elab_as_elim] theorem len7 {C:List Value→Prop} (us:List Value) (hl:us.length=7) (h:∀ a0 a1 a2 a3 a4 a5 a6,C [a0,a1,a2,a3,a4,a5,a6]):C us:=by
  match us,hl with
  | [a0,a1,a2,a3,a4,a5,a6],_=>exact h _ _ _ _ _ _ _
@[elab_as_elim] theorem len8 {C:List Value→Prop} (us:List Value) (hl:us.length=8) (h:∀ a0 a1 a2 a3 a4 a5 a6 a7,C [a0,a1,a2,a3,a4,a5,a6,a7]):C us:=by
  match us,hl with
  | [a0,a1,a2,a3,a4,a5,a6,a7],_=>exact h _ _ _ _ _ _ _ _
@[elab_as_elim] theorem len9 {C:List Value→Prop} (us:List Value) (hl:us.length=9) (h:∀ a0 a1 a2 a3 a4 a5 a6 a7 a8,C [a0,a1,a2,a3,a4,a5,a6,a7,a8]):C us:=by
  match us,hl with
  | [a0,a1,a2,a3,a4,a5,a6,a7,a8],_=>exact h _ _ _ _ _ _ _ _ _
theorem all_mk {l:W.OpenLaw} {w:World} {K:W.Frag} {h:Heap} {mg:Str→Option Value} {fa:Addr} (X:K.In h) (G:h.Ns mainGlobals mg) (hfa:mg "law" = some (.ref fa))
    (h0:q9 K "plain_outcome" qBP)
    (h1:q9 K "under" qFu)
    (h2:q9 K "made_of" qDw)
    (h3:q9 K "is_whole" qCz)
    (h4:q9 K "is_below" qC0)
    (h5:q9 K "is_tuple_of" qBm)
    (h6:q9 K "is_node" qD0)
    (h7:q9 K "num_of" qEx)
    (h8:q9 K "worth_of_nums" qBQ)
    (h9:q9 K "swap" qHo)
    (h10:q9 K "group" qGU)
    (h11:q9 K "ungroup" qDs)
    (h12:q9 K "subnum" qEV)
    (h13:q9 K "zero" qH2)
    (h14:q9 K "one" qJj)
    (h15:q9 K "nil" qLL)
    (h16:q9 K "less_itself" qBk)
    (h17:q9 K "count" qFx)
    (h18:q9 K "sure" qHc)
    (h19:q9 K "never" qGE)
    (h20:q9 K "is_seen" qDf)
    (h21:q9 K "turned" qEo)
    (h22:q9 K "_law_next" qCR)
    (h23:q9 K "_law_num" qCv)
    (h24:q9 K "_law_truth" qCE)
    (h25:q9 K "_law_grouped" qBe)
    (h26:q9 K "_law_nums" qCX)
    (h27:q9 K "_law_plainly" qBb)
    (h28:q9 K "_law_turn" qCY)
    (h29:q9 K "_law_some_node" qBI)
    (h30:q9 K "_law_wanted" qBo)
    (h31:q9 K "_law_full" qCO)
    (h32:q9 K "_law_asked" qCG)
    (h33:q9 K "_law_strange" qBY)
    (h34:q9 K "law" qFh)
    {aT0:Addr} {iT0:Array Value} {nT0:Nat} {sT0:Array (Option Value)} (b0:W.nsIn K mainGlobals "NAMING" = some (some (.ref aT0))) (e0:K.lookup aT0=some ⟨.type "tuple",none,.seq iT0 nT0,sT0⟩) (v0:qBi iT0.toList K19.qCM=true) (w0:iT0.size≤sizeLine)
    {aVCOUNTS:Addr} {esVCOUNTS:Array DictEntry} {nVCOUNTS:Nat} (bVCOUNTS:W.nsIn K mainGlobals "COUNTS" = some (some (.ref aVCOUNTS))) (eVCOUNTS:K.lookup aVCOUNTS=some ⟨.type "dict",none,.dict esVCOUNTS nVCOUNTS,#[]⟩) (yVCOUNTS:(aVCOUNTS==sysModules)=false) (uVCOUNTS:qA9 (RDt K) w.params esVCOUNTS.toList KR.qKD)
    {aVNEVER:Addr} {esVNEVER:Array DictEntry} {nVNEVER:Nat} (bVNEVER:W.nsIn K mainGlobals "NEVER" = some (some (.ref aVNEVER))) (eVNEVER:K.lookup aVNEVER=some ⟨.type "dict",none,.dict esVNEVER nVNEVER,#[]⟩) (yVNEVER:(aVNEVER==sysModules)=false) (uVNEVER:qA9 (RDt K) w.params esVNEVER.toList KR.qJI)
    {aFRULES:Addr} {esFRULES:Array DictEntry} {nFRULES:Nat} (bFRULES:W.nsIn K mainGlobals "RULES" = some (some (.ref aFRULES))) (eFRULES:K.lookup aFRULES=some ⟨.type "dict",none,.dict esFRULES nFRULES,#[]⟩) (yFRULES:(aFRULES==sysModules)=false) (uFRULES:qA9 (fun (n:Str) u=>W.nsIn K mainGlobals n=some (some u)) w.params esFRULES.toList [("swap", "swap"),("group", "group"),("ungroup", "ungroup"),("subnum", "subnum"),("zero", "zero"),("one", "one"),("nil", "nil"),("self", "less_itself"),("count", "count"),("sure", "sure"),("never", "never")])
    {CE:Addr} (xa:W.nsIn K mainGlobals "NoTurning" = some (some (.ref CE))) (xe:W.excIn K CE [.type "ValueError",.type "Exception",.type "BaseException",.type "object"] "ValueError.__new__" = true) {ocE:Value} {odE:Option Addr} {cdE:ClassData} {slE:Array (Option Value)} (xl:K.lookup CE=some ⟨ocE,odE,.cls cdE,slE⟩) (xm:cdE.mro.contains (.ref CE)=true)
    {CZ:Addr} (za:W.nsIn K mainGlobals "GuestError" = some (some (.ref CZ))) (ze:W.excIn K CZ [.type "ValueError",.type "Exception",.type "BaseException",.type "object"] "ValueError.__new__" = true) (zm:cdE.mro.contains (.ref CZ)=true)
    {cqE:ClassData} (q1:W.clsIn K CE=some cqE) (q2:W.findIn K (.ref CE) "__getattribute__" = some (some (.builtin "BaseException.__getattribute__"))) (q3:W.findIn K (.ref CE) "__getattr__" = some none) (q4:W.findIn K (.ref CE) "__class__" = some (some (.builtin "object.__class__"))) (q5:W.specialIn K (.builtin "object.__class__") "__get__" = some (some (.builtin "getset_descriptor.__get__"))) (q6:W.takesIn K (.builtin "object.__class__")=some true) (q7:W.mroIn K CE (.type "object")=some true) (q8:W.subIn K (.ref CE) (.type "BaseException")=some true)
    {ABadRow:Addr} (aBadRow:W.nsIn K mainGlobals "BadRow" = some (some (.ref ABadRow)))
    {ANoAsk:Addr} (aNoAsk:W.nsIn K mainGlobals "NoAsk" = some (some (.ref ANoAsk)))
    {ANoPaper:Addr} (aNoPaper:W.nsIn K mainGlobals "NoPaper" = some (some (.ref ANoPaper)))
    {ANoStep:Addr} (aNoStep:W.nsIn K mainGlobals "NoStep" = some (some (.ref ANoStep)))
    (n1oNoTurning:W.kitAny K (.type "NoneType") [.ref CE]=some false) (n2oNoTurning:W.kitAny K (.ref CE) [.ref CE]=some true)
    (n1bValueError:W.kitAny K (.type "NoneType") [.type "ValueError"]=some false) (n2bValueError:W.kitAny K (.ref CE) [.type "ValueError"]=some true)
    (n1f0:W.kitAny K (.type "NoneType") [.ref ABadRow,.ref ANoAsk,.ref ANoPaper,.ref ANoStep]=some false) (n2f0:W.kitAny K (.ref CE) [.ref ABadRow,.ref ANoAsk,.ref ANoPaper,.ref ANoStep]=some false)
    (z0:W.nsIn K mainGlobals "all" = some none)
    (z1:W.nsIn K mainGlobals "tuple" = some none)
    (z2:W.nsIn K mainGlobals "isinstance" = some none)
    (z3:W.nsIn K mainGlobals "len" = some none)
    (z4:W.nsIn K mainGlobals "int" = some none)
    (z5:W.nsIn K mainGlobals "bool" = some none)
    (z6:W.nsIn K mainGlobals "range" = some none)
    (z7:W.nsIn K mainGlobals "list" = some none)
    (z8:W.nsIn K mainGlobals "max" = some none)
    (z9:W.nsIn K mainGlobals "ValueError" = some none)
    : ∃ fd:FuncData,(∀ (s:Shared) (v:Value),BindsTo s fd ⟨[v],[]⟩ [("script",v)])∧∀ base:Heap,K.In base→base.Ns mainGlobals mg→qAM l.prog w K mg base CX0 20 fa fd ["script"] (qc K qHC):=by
  obtain⟨f9,fd9,a9,F9⟩:=h34.ex
  have e:=hfa.symm.trans (W.mg_of X G a9)
  cases e
  have gT0:=qJQ (mg:=mg) (x:= "NAMING") (W.mg_of X G b0) e0 v0 w0
  have m0:=W.mg_none_of X G z0
  have m1:=W.mg_none_of X G z1
  have m2:=W.mg_none_of X G z2
  have m3:=W.mg_none_of X G z3
  have m4:=W.mg_none_of X G z4
  have m5:=W.mg_none_of X G z5
  have m6:=W.mg_none_of X G z6
  have m7:=W.mg_none_of X G z7
  have m8:=W.mg_none_of X G z8
  have m9:=W.mg_none_of X G z9
  have kVCOUNTS:qC3 w K mg "COUNTS" (RDt K) KR.qKD:=⟨_,_,_,W.mg_of X G bVCOUNTS,eVCOUNTS,yVCOUNTS,uVCOUNTS⟩
  have kKCOUNTS:qDB w K mg "COUNTS" KR.cntK:=kVCOUNTS.keyOk
  have kVNEVER:qC3 w K mg "NEVER" (RDt K) KR.qJI:=⟨_,_,_,W.mg_of X G bVNEVER,eVNEVER,yVNEVER,uVNEVER⟩
  have kKNEVER:qDB w K mg "NEVER" KR.qIx:=kVNEVER.keyOk
  have kRRULES:qC3 w K mg "RULES" (fun (n:Str) u=>mg n=some u) [("swap", "swap"),("group", "group"),("ungroup", "ungroup"),("subnum", "subnum"),("zero", "zero"),("one", "one"),("nil", "nil"),("self", "less_itself"),("count", "count"),("sure", "sure"),("never", "never")]:=⟨_,_,_,W.mg_of X G bFRULES,eFRULES,yFRULES,uFRULES.imp fun _ _ h=>W.mg_of X G h⟩
  have kKRULES:qDB w K mg "RULES" KR.keys:=kRRULES.keyOk
  have rN:qIK K mg "NoTurning":=qOb X G xa xe
  have cN:qIW K mg "GuestError" ["NoTurning"]:=qMA X G xa xe za ze (qOS xl zm)
  have qA:qBq K CE:=qN9 q1 q2 q3 q4 q5 q6 q7 q8
  have oONoTurning:qMe K mg "NoTurning" ["NoTurning"] (fun _=>true):=qPT X G xa (qCH.one xa qA n1oNoTurning n2oNoTurning)
  have oBValueError:qOc K mg "ValueError" "ValueError" ["NoTurning"] (fun _=>true):=⟨m9,qCH.one xa qA n1bValueError n2bValueError⟩
  have oF0:qIF K mg "BadRow" "NoAsk" "NoPaper" "NoStep" ["NoTurning"] (fun _=>false):=qLz X G aBadRow aNoAsk aNoPaper aNoStep (qCH.one xa qA n1f0 n2f0)
  have F9':=F9
  obtain⟨oc,od,kV,dc,pm,an,cd,ct,sl,rfl,-,-⟩:=F9'.ex
  refine⟨W.fnOf "law" "law" (qA1 qFh) (qAj qFh) (qO qFh) .none kV dc pm an cd ct,fun s v=>.of_eq rfl,fun base _ _=>?_⟩
  have Dplain_outcome:=h0.ok (P:=l.prog) (w:=w) (base:=base) X G (fun F=>qEI F ) (L3.b3 rfl fun _ _ _ _ _ _ _ _ _=>rfl)
  have Dunder:=h1.ok (P:=l.prog) (w:=w) (base:=base) X G (fun F=>qLd F gT0) (L3.b1 rfl fun _ _ _ _ _ _ _=>rfl)
  have Dmade_of:=h2.ok (P:=l.prog) (w:=w) (base:=base) X G (fun F=>qIu F Dplain_outcome) (L3.b2 rfl fun _ _ _ _ _ _ _ _=>rfl)
  have Dis_whole:=h3.ok (P:=l.prog) (w:=w) (base:=base) X G (fun F=>qHa F m2 m4 m5) (L3.b1 rfl fun _ _ _ _ _ _ _=>rfl)
  have Dis_below:=h4.ok (P:=l.prog) (w:=w) (base:=base) X G (fun F=>qHj F Dis_whole) (L3.b2 rfl fun _ _ _ _ _ _ _ _=>rfl)
  have Dis_tuple_of:=h5.ok (P:=l.prog) (w:=w) (base:=base) X G (fun F=>qFH F m1 m2 m3) (L3.b2 rfl fun _ _ _ _ _ _ _ _=>rfl)
  have Dis_node:=h6.ok (P:=l.prog) (w:=w) (base:=base) X G (fun F=>qJb F m1 m2 m3 kKCOUNTS kVCOUNTS) (L3.b1 rfl fun _ _ _ _ _ _ _=>rfl)
  have Dnum_of:=h7.ok (P:=l.prog) (w:=w) (base:=base) X G (fun F=>qKu F ) (L3.b2 rfl fun _ _ _ _ _ _ _ _=>rfl)
  have Dworth_of_nums:=h8.ok (P:=l.prog) (w:=w) (base:=base) X G (fun F=>qED F Dunder Dmade_of Dnum_of) (L3.b2 rfl fun _ _ _ _ _ _ _ _=>rfl)
  have Dswap:=h9.ok (P:=l.prog) (w:=w) (base:=base) X G (fun F=>qOW F ) (L3.b3 rfl fun _ _ _ _ _ _ _ _ _=>rfl)
  have Dgroup:=h10.ok (P:=l.prog) (w:=w) (base:=base) X G (fun F=>qLu F ) (L3.b3 rfl fun _ _ _ _ _ _ _ _ _=>rfl)
  have Dungroup:=h11.ok (P:=l.prog) (w:=w) (base:=base) X G (fun F=>qI9 F ) (L3.b3 rfl fun _ _ _ _ _ _ _ _ _=>rfl)
  have Dsubnum:=h12.ok (P:=l.prog) (w:=w) (base:=base) X G (fun F=>qLI F Dnum_of) (L3.b3 rfl fun _ _ _ _ _ _ _ _ _=>rfl)
  have Dzero:=h13.ok (P:=l.prog) (w:=w) (base:=base) X G (fun F=>qNx F Dnum_of) (L3.b3 rfl fun _ _ _ _ _ _ _ _ _=>rfl)
  have Done:=h14.ok (P:=l.prog) (w:=w) (base:=base) X G (fun F=>qPi F Dnum_of) (L3.b3 rfl fun _ _ _ _ _ _ _ _ _=>rfl)
  have Dnil:=h15.ok (P:=l.prog) (w:=w) (base:=base) X G (fun F=>qPx F Dnum_of) (L3.b3 rfl fun _ _ _ _ _ _ _ _ _=>rfl)
  have Dless_itself:=h16.ok (P:=l.prog) (w:=w) (base:=base) X G (fun F=>qFM F ) (L3.b3 rfl fun _ _ _ _ _ _ _ _ _=>rfl)
  have Dcount:=h17.ok (P:=l.prog) (w:=w) (base:=base) X G (fun F=>qMD F Dworth_of_nums) (L3.b3 rfl fun _ _ _ _ _ _ _ _ _=>rfl)
  have Dsure:=h18.ok (P:=l.prog) (w:=w) (base:=base) X G (fun F=>qPF F Dworth_of_nums) (L3.b3 rfl fun _ _ _ _ _ _ _ _ _=>rfl)
  have Dnever:=h19.ok (P:=l.prog) (w:=w) (base:=base) X G (fun F=>qLS F kKNEVER kVNEVER Dnum_of) (L3.b3 rfl fun _ _ _ _ _ _ _ _ _=>rfl)
  have Dis_seen:=h20.ok (P:=l.prog) (w:=w) (base:=base) X G (fun F=>qJW F m0 m3 Dunder Dis_below Dis_node) (L3.b2 rfl fun _ _ _ _ _ _ _ _=>rfl)
  have kFRULES:qMV l.prog w K mg base "RULES" KR.keys 4 KR.qGb:=kRRULES.toF fun p hp=>by
    simp only [List.mem_cons,List.not_mem_nil,or_false] at hp
    rcases hp with rfl | rfl | rfl | rfl | rfl | rfl | rfl | rfl | rfl | rfl | rfl
    · exact (Dswap.imp fun ds st Q h=>KR.qBE (r:=.swap) h)
    · exact (Dgroup.imp fun ds st Q h=>KR.qBE (r:=.group) h)
    · exact (Dungroup.imp fun ds st Q h=>KR.qBE (r:=.ungroup) h)
    · exact (Dsubnum.imp fun ds st Q h=>KR.qBE (r:=.subnum) h)
    · exact (Dzero.imp fun ds st Q h=>KR.qBE (r:=.zero) h)
    · exact (Done.imp fun ds st Q h=>KR.qBE (r:=.one) h)
    · exact (Dnil.imp fun ds st Q h=>KR.qBE (r:=.nil) h)
    · exact (Dless_itself.imp fun ds st Q h=>KR.qBE (r:=.self) h)
    · exact (Dcount.imp fun ds st Q h=>KR.qBE (r:=.count) h)
    · exact (Dsure.imp fun ds st Q h=>KR.qBE (r:=.sure) h)
    · exact (Dnever.imp fun ds st Q h=>KR.qBE (r:=.never) h)
  have Dturned:=h21.okR (P:=l.prog) (w:=w) (base:=base) X G (fun F=>qLK F m3 kKRULES kFRULES rN Dis_below Dis_tuple_of Dis_seen) (L3.b3 rfl fun _ _ _ _ _ _ _ _ _=>rfl)
  have D_law_next:=h22.ok (P:=l.prog) (w:=w) (base:=base) X G (fun F=>qGn F m3) (L3.b1 rfl fun _ _ _ _ _ _ _=>rfl)
  have D_law_num:=h23.ok (P:=l.prog) (w:=w) (base:=base) X G (fun F=>qH8 F ) (L3.b2 rfl fun _ _ _ _ _ _ _ _=>rfl)
  have D_law_truth:=h24.ok (P:=l.prog) (w:=w) (base:=base) X G (fun F=>qGT F m4) (L3.b3 rfl fun _ _ _ _ _ _ _ _ _=>rfl)
  have D_law_grouped:=h25.ok (P:=l.prog) (w:=w) (base:=base) X G (fun F=>qEk F ) (L3.b4 rfl fun _ _ _ _ _ _ _ _ _ _=>rfl)
  have D_law_nums:=h26.ok (P:=l.prog) (w:=w) (base:=base) X G (fun F=>qGw F m4 D_law_num D_law_truth) (L3.b2 rfl fun _ _ _ _ _ _ _ _=>rfl)
  have D_law_plainly:=h27.ok (P:=l.prog) (w:=w) (base:=base) X G (fun F=>qE6 F D_law_num) (L3.b3 rfl fun _ _ _ _ _ _ _ _ _=>rfl)
  have D_law_turn:=h28.ok (P:=l.prog) (w:=w) (base:=base) X G (fun F=>qHS F m3 m8 D_law_num D_law_grouped D_law_nums D_law_plainly) (L3.b4 rfl fun _ _ _ _ _ _ _ _ _ _=>rfl)
  have D_law_some_node:=h29.ok (P:=l.prog) (w:=w) (base:=base) X G (fun F=>qDh F m3 m4 m6 D_law_next) (L3.b3 rfl fun _ _ _ _ _ _ _ _ _=>rfl)
  have D_law_wanted:=h30.ok (P:=l.prog) (w:=w) (base:=base) X G (fun F=>qFB F m3 m6) (L3.b3 rfl fun _ _ _ _ _ _ _ _ _=>rfl)
  have D_law_full:=h31.ok (P:=l.prog) (w:=w) (base:=base) X G (fun F=>qHM F m1 m3 m7 D_law_next) (L3.b2 rfl fun _ _ _ _ _ _ _ _=>rfl)
  have D_law_asked:=h32.ok (P:=l.prog) (w:=w) (base:=base) X G (fun F=>qGk F m1 m2 m5 m9 cN oONoTurning oBValueError oF0 Dturned D_law_turn) (L3.b4 rfl fun _ _ _ _ _ _ _ _ _ _=>rfl)
  have D_law_strange:=h33.ok (P:=l.prog) (w:=w) (base:=base) X G (fun F=>qEn F m3 D_law_next) (L3.b4 rfl fun _ _ _ _ _ _ _ _ _ _=>rfl)
  exact qQO F9 m3 m6 D_law_next D_law_some_node D_law_wanted D_law_full D_law_asked D_law_strange
end K30
local macro_rules | `(tactic| k_dat 0 "h")=>`(tactic| (refine' L3.q9.of ?a ?l ?c ?k;(case a=>k_is);(case l=>k_is);(case c=>k_is);(case k=>k_is)))
local macro_rules | `(tactic| k_dat 0 "i")=>`(tactic| (refine' L3.qJm.of ?a ?i ?l ?c ?k;(case a=>k_is);(case i=>k_is);(case l=>k_is);(case c=>k_is);(case k=>k_is)))
def PySem.W.Fast.tw15494142408201676474 : Nat := 0
def PySem.W.Fast.tw17709015573302822345 : Nat := 0
def PySem.W.Fast.tw1833294310254796675 : Nat := 0
def PySem.W.Fast.tw11695165942231700270 : Nat := 0
def PySem.W.Fast.tw17499451903954219864 : Nat := 0
def PySem.W.Fast.tw12473289810368236238 : Nat := 0
def PySem.W.Fast.tw4654387096297053892 : Nat := 0
def PySem.W.Fast.tw5074893280108669687 : Nat := 0
def PySem.W.Fast.tw6657462600093539607 : Nat := 0
def PySem.W.Fast.tw12938456978938504792 : Nat := 0
def PySem.W.Fast.tw14821736745234689144 : Nat := 0
def PySem.W.Fast.tw5342041057737515343 : Nat := 0
def PySem.W.Fast.tw6765368312550581172 : Nat := 0
def PySem.W.Fast.tw2526895670879793205 : Nat := 0
def PySem.W.Fast.tw10730865620871183606 : Nat := 0
def PySem.W.Fast.tw7392960327156143664 : Nat := 0
def PySem.W.Fast.tw12374572675629979093 : Nat := 0
def PySem.W.Fast.tw15688874283075790219 : Nat := 0
def PySem.W.Fast.tw3002214820652285840 : Nat := 0
def PySem.W.Fast.tw3798102501450930844 : Nat := 0
def PySem.W.Fast.tw9730271593563117178 : Nat := 0
def PySem.W.Fast.tw17904481491150569174 : Nat := 0
def PySem.W.Fast.tw11492642248124137111 : Nat := 0
def PySem.W.Fast.tw9226683641131796425 : Nat := 0
def PySem.W.Fast.tw7385265013491108787 : Nat := 0
def PySem.W.Fast.tw5669343479879905991 : Nat := 0
def PySem.W.Fast.tw14856971151687876328 : Nat := 0
def PySem.W.Fast.tw9655843480997176875 : Nat := 0
def PySem.W.Fast.tw4123713523617925174 : Nat := 0
def PySem.W.Fast.tw6417368827132792765 : Nat := 0
def PySem.W.Fast.tw4130244257908651672 : Nat := 0
def PySem.W.Fast.tw18324362619025688417 : Nat := 0
def PySem.W.Fast.tw8096526913263522100 : Nat := 0
def PySem.W.Fast.tw4850707339937106450 : Nat := 0
def PySem.W.Fast.tw16148929023613634208 : Nat := 0
def PySem.W.Fast.tw11216565173287639884 : Nat := 0
def PySem.W.Fast.tw16100615182380164652 : Nat := 0
def PySem.W.Fast.tw5727496865361342759 : Nat := 0
def PySem.W.Fast.tw15719408190149363371 : Nat := 0
def PySem.W.Fast.tw10356114401406783146 : Nat := 0
def PySem.W.Fast.tw17864015931992955340 : Nat := 0
def PySem.W.Fast.tw5193181414468903376 : Nat := 0
def PySem.W.Fast.tw3604667708787799305 : Nat := 0
def PySem.W.Fast.tw9857759536076010076 : Nat := 0
def PySem.W.Fast.tw5849122707318832178 : Nat := 0
def PySem.W.Fast.tw18427238665086668993 : Nat := 0
def PySem.W.Fast.tw9591822804727477111 : Nat := 0
def PySem.W.Fast.tw15890605560500040051 : Nat := 0
def PySem.W.Fast.tw9533790184453011931 : Nat := 0
def PySem.W.Fast.tw6842469482228403063 : Nat := 0
def PySem.W.Fast.tw8596137307768836143 : Nat := 0
def PySem.W.Fast.tw10435185058605584904 : Nat := 0
def PySem.W.Fast.tw16718957945041321898 : Nat := 0
def PySem.W.Fast.tw9499172404889538369 : Nat := 0
def PySem.W.Fast.tw4116248336548284110 : Nat := 0
def PySem.W.Fast.tw6029593600576440060 : Nat := 0
def PySem.W.Fast.tw12125748982338345604 : Nat := 0
def PySem.W.Fast.tw16280531726049087388 : Nat := 0
def PySem.W.Fast.tw7535272153217058452 : Nat := 0
def PySem.W.Fast.tw15546237407181085581 : Nat := 0
def PySem.W.Fast.tw17919894467573171936 : Nat := 0
def PySem.W.Fast.tw7940416562634889471 : Nat := 0
def PySem.W.Fast.tw14170171556764017091 : Nat := 0
def PySem.W.Fast.tw12538626454876121421 : Nat := 0
def PySem.W.Fast.tw11366830537915330229 : Nat := 0
def PySem.W.Fast.tw17814605567078989938 : Nat := 0
def PySem.W.Fast.tw11985218743382871774 : Nat := 0
def PySem.W.Fast.tw6590441557301590171 : Nat := 0
def PySem.W.Fast.tw2450560654604449676 : Nat := 0
def PySem.W.Fast.tw5791705675149867020 : Nat := 0
def PySem.W.Fast.tw3629628707641236385 : Nat := 0
def PySem.W.Fast.tw4914503254940114002 : Nat := 0
def PySem.W.Fast.tw9660899202099623723 : Nat := 0
def PySem.W.Fast.tw17099123974202049018 : Nat := 0
def PySem.W.Fast.tw14527307024498267242 : Nat := 0
def PySem.W.Fast.tw7423247968023519172 : Nat := 0
def PySem.W.Fast.tw17321260266354049231 : Nat := 0
def PySem.W.Fast.tw7777716069706667931 : Nat := 0
def PySem.W.Fast.tw4810367805147375384 : Nat := 0
def PySem.W.Fast.tw11761085109408207048 : Nat := 0
def PySem.W.Fast.tw7271806236376197677 : Nat := 0
def PySem.W.Fast.tw13382680002599616071 : Nat := 0
def PySem.W.Fast.tw9692083506460945794 : Nat := 0
def PySem.W.Fast.tw6768902700783419101 : Nat := 0
def PySem.W.Fast.tw10374259121555706758 : Nat := 0
def PySem.W.Fast.tw1462651065112316914 : Nat := 0
def PySem.W.Fast.tw9560225942792716012 : Nat := 0
def PySem.W.Fast.tw5917425167832467507 : Nat := 0
def PySem.W.Fast.tw4991446430614691588 : Nat := 0
def PySem.W.Fast.tw5699616058534027073 : Nat := 0
open PySem PySem.W PyProof.Rows
set_option maxRecDepth 100000 in
set_option maxHeartbeats 0 in
theorem PySem.Challenge.cw_asitruns_k30_turned_holds : PySem.Challenge.rw_asitruns_k30_turned.Holds := by
  w_on;o_law;k_head;(case hw=>w_witness2)
  k_fill
  refine L3.qJy (l:=PySem.Challenge.rw_asitruns_k30_turned) 20 rfl rfl ⟨rfl,by decide,by decide⟩ (fun w h Y=>W.kIn_of Y) ?F
  case F =>
    intro w mg fa h KX G hmg
    refine' K30.all_mk KX G hmg ?h0 ?h1 ?h2 ?h3 ?h4 ?h5 ?h6 ?h7 ?h8 ?h9 ?h10 ?h11 ?h12 ?h13 ?h14 ?h15 ?h16 ?h17 ?h18 ?h19 ?h20 ?h21 ?h22 ?h23 ?h24 ?h25 ?h26 ?h27 ?h28 ?h29 ?h30 ?h31 ?h32 ?h33 ?h34 ?b0 ?e0 ?v0 ?w0 ?bVCOUNTS ?eVCOUNTS ?yVCOUNTS ?uVCOUNTS ?bVNEVER ?eVNEVER ?yVNEVER ?uVNEVER ?bFRULES ?eFRULES ?yFRULES ?uFRULES ?xa ?xe ?xl ?xm ?za ?ze ?zm ?q1 ?q2 ?q3 ?q4 ?q5 ?q6 ?q7 ?q8 ?aBadRow ?aNoAsk ?aNoPaper ?aNoStep ?n1oNoTurning ?n2oNoTurning ?n1bValueError ?n2bValueError ?n1f0 ?n2f0 ?z0 ?z1 ?z2 ?z3 ?z4 ?z5 ?z6 ?z7 ?z8 ?z9
    (case h0=>k_dat 0 "h")
    (case h1=>k_dat 0 "h")
    (case h2=>k_dat 0 "h")
    (case h3=>k_dat 0 "h")
    (case h4=>k_dat 0 "h")
    (case h5=>k_dat 0 "h")
    (case h6=>k_dat 0 "h")
    (case h7=>k_dat 0 "h")
    (case h8=>k_dat 0 "h")
    (case h9=>k_dat 0 "h")
    (case h10=>k_dat 0 "h")
    (case h11=>k_dat 0 "h")
    (case h12=>k_dat 0 "h")
    (case h13=>k_dat 0 "h")
    (case h14=>k_dat 0 "h")
    (case h15=>k_dat 0 "h")
    (case h16=>k_dat 0 "h")
    (case h17=>k_dat 0 "h")
    (case h18=>k_dat 0 "h")
    (case h19=>k_dat 0 "h")
    (case h20=>k_dat 0 "h")
    (case h21=>k_dat 0 "h")
    (case h22=>k_dat 0 "h")
    (case h23=>k_dat 0 "h")
    (case h24=>k_dat 0 "h")
    (case h25=>k_dat 0 "h")
    (case h26=>k_dat 0 "h")
    (case h27=>k_dat 0 "h")
    (case h28=>k_dat 0 "h")
    (case h29=>k_dat 0 "h")
    (case h30=>k_dat 0 "h")
    (case h31=>k_dat 0 "h")
    (case h32=>k_dat 0 "h")
    (case h33=>k_dat 0 "h")
    (case h34=>k_dat 0 "h")
    (case b0=>k_is)
    (case e0=>k_is)
    (case v0=>rfl)
    (case w0=>decide)
    (case bVCOUNTS=>k_is)
    (case eVCOUNTS=>k_is)
    (case yVCOUNTS=>decide)
    (case uVCOUNTS=>exact⟨⟨_,rfl,L3.qAk,rfl⟩,⟨_,rfl,L3.qAk,rfl⟩,⟨_,rfl,L3.qAk,rfl⟩,⟨_,rfl,L3.qAk,rfl⟩,⟨_,rfl,L3.qAk,rfl⟩,⟨_,rfl,L3.qAk,rfl⟩,⟨_,rfl,L3.qAk,rfl⟩,⟨_,rfl,L3.qAk,rfl⟩,⟨_,rfl,L3.qAk,rfl⟩,⟨_,rfl,L3.qAk,rfl⟩,⟨_,rfl,L3.qAk,rfl⟩,⟨_,rfl,L3.qAk,rfl⟩,⟨_,rfl,L3.qAk,rfl⟩,⟨_,rfl,L3.qAk,rfl⟩,⟨_,rfl,L3.qAk,rfl⟩,trivial⟩)
    (case bVNEVER=>k_is)
    (case eVNEVER=>k_is)
    (case yVNEVER=>decide)
    (case uVNEVER=>(refine' ⟨⟨_,rfl,L3.qDI [0] ?n1 ?v1 ?s1,rfl⟩,⟨_,rfl,L3.qDI [0] ?n2 ?v2 ?s2,rfl⟩,⟨_,rfl,L3.qDI [0,1] ?n3 ?v3 ?s3,rfl⟩,⟨_,rfl,L3.qDI [0,1] ?n4 ?v4 ?s4,rfl⟩,trivial⟩;(case n1=>k_is);(case v1=>rfl);(case s1=>decide);(case n2=>k_is);(case v2=>rfl);(case s2=>decide);(case n3=>k_is);(case v3=>rfl);(case s3=>decide);(case n4=>k_is);(case v4=>rfl);(case s4=>decide)))
    (case bFRULES=>k_is)
    (case eFRULES=>k_is)
    (case yFRULES=>decide)
    (case uFRULES=>refine⟨⟨_,rfl,?_,rfl⟩,⟨_,rfl,?_,rfl⟩,⟨_,rfl,?_,rfl⟩,⟨_,rfl,?_,rfl⟩,⟨_,rfl,?_,rfl⟩,⟨_,rfl,?_,rfl⟩,⟨_,rfl,?_,rfl⟩,⟨_,rfl,?_,rfl⟩,⟨_,rfl,?_,rfl⟩,⟨_,rfl,?_,rfl⟩,⟨_,rfl,?_,rfl⟩,trivial⟩<;>(dsimp only;k_is))
    (case xa=>k_is)
    (case xe=>k_exc)
    (case xl=>k_is)
    (case xm=>rfl)
    (case za=>k_is)
    (case ze=>k_exc)
    (case zm=>rfl)
    (case q1=>k_is)
    (case q2=>k_is)
    (case q3=>k_is)
    (case q4=>k_is)
    (case q5=>k_is)
    (case q6=>k_is)
    (case q7=>k_is)
    (case q8=>k_is)
    (case aBadRow=>k_is)
    (case aNoAsk=>k_is)
    (case aNoPaper=>k_is)
    (case aNoStep=>k_is)
    (case n1oNoTurning=>kit_is)
    (case n2oNoTurning=>kit_is)
    (case n1bValueError=>kit_is)
    (case n2bValueError=>kit_is)
    (case n1f0=>kit_is)
    (case n2f0=>kit_is)
    (case z0=>k_is)
    (case z1=>k_is)
    (case z2=>k_is)
    (case z3=>k_is)
    (case z4=>k_is)
    (case z5=>k_is)
    (case z6=>k_is)
    (case z7=>k_is)
    (case z8=>k_is)
    (case z9=>k_is)

